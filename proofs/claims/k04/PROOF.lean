import PyProof.Rows.All
import Wide.All
import OpenK.AllK
import Wide.FinOn
import HandS.Base
import HandS.Call
import HandS.List
import HandS.Ends
import HandS.Words
import HandS.WordsList
import HandS.Wide
import HandS.WideBits
import HandS.IsInst
import HandS.Comp
import HandS.Strs
import HandS.Codes
import HandS.More
import HandS.Dict
import HandS.WordsDict
import HandS.Text
import HandS.Iter
import HandS.Walk
import HandS.Exc
import HandS.ExcOwn
import HandS.ExcInit
import HandS.ExcSuper
import KE.KExcSuper
import HandS.ExcField
import HandS.WordsExc
import HandS.Lambda
import HandS.EndTab
import HandS.EndOwn
import PyProof.DictUpdate
import PySem.Challenge.RW_nearloops_k04_groups_told
set_option Elab.async false
set_option maxRecDepth 100000
set_option maxHeartbeats 4000000

namespace PySem
namespace SupX
open PySem.W PySem.Calls PyProof.Rows PySem.HandSPX
/-! ### an own error over an own error over ValueError: def __init__(self, f): super().__init__('..'); self.f = f -/
def iA (f : Str) (p1 p2 : Pos) : Arguments :=
  { posonlyargs := [], args := [{ arg := "self", annotation := none, pos := p1 }, { arg := f, annotation := none, pos := p2 }], vararg := none, kwonlyargs := [], kw_defaults := [], kwarg := none, defaults := [] }
def iB (f tx : Str) (k0 : Nat) (q1 q2 q3 q4 q5 q6 q7 q8 q9 q10 : Pos) : List Stmt :=
  [.Expr (.Call (.Attribute (.Call (.Name "super" q1) [] [] q2) "__init__" q3) [.Constant (.str tx) k0 q4] [] q5) q6, .Assign [.Attribute (.Name "self" q7) f q8] (.Name f q9) q10]
def iS (f : Str) : Scope := { kind := .function, names := [("self", .local), (f, .local), ("__class__", .free), ("super", .globalImplicit)], isGenerator := false, isCoroutine := false, more := [] }
abbrev veTl : List Value := [.type "ValueError", .type "Exception", .type "BaseException", .type "object"]
/-- what is the same for every such class -/
structure ClsTxt (P : Program) (K : Frag) (mg : Str → Option Value) (C fI : Addr) (x : Str) : Prop where
  gC : mg x = some (.ref C)
  cls : ∃ nm q N bs bm sn sub ab col dd k0 k1 k2 k3 k5, K.lookup C = some (excClassObj nm q C N bs bm true sn sub ab col dd k0 k1 k2 k3 k5 "ValueError.__new__") ∧ refsVE bm = true
  sa : findIn K (.ref C) "__setattr__" = some (some (.builtin "object.__setattr__"))
  ga : findIn K (.ref C) "__getattribute__" = some (some (.builtin "BaseException.__getattribute__"))
  gg : findIn K (.ref C) "__getattr__" = some none
  iC : findIn K (.ref C) "__init__" = some (some (.ref fI))
  tC : typeIn K (.ref fI) = some (.type "function")
  kC : keepIn K (.ref C) = true
  exC : subIn K (.ref C) (.type "BaseException") = some true
  tyC : typeIn K (.ref C) = some (.type "type")
  hdC : hasDictIn K C = true
  msup : mg "super" = none
  sup : ks_superIn K C C "__init__" = some (some (.builtin "ValueError.__init__"))
  sve : subIn K (.ref C) (.type "ValueError") = some true
  mro : mroIn K C (.ref C) = some true
  st : nsIn K cStatics "thirdparty.any" = some none
  htop : (P.main.scope.names.lookup ("super" : Str)).isSome = false
structure FnTxt (P : Program) (K : Frag) (C fI : Addr) (f : Str) : Prop where
  noN : findIn K (.ref C) f = some none
  nd : (f == ("__debug__" : Str)) = false
  sf : (("self" : Str) == f) = false
  lf : (iS f).names.lookup f = some .local
  lc : (iS f).names.lookup ("__class__" : Str) = some .free
  ls : (iS f).names.lookup ("super" : Str) = some .globalImplicit
  fn : ∃ (oc doc pm kV ct : Value) (od an : Option Addr) (osl : Array (Option Value)) (tx qual : Str) (k0 : Nat) (p1 p2 q1 q2 q3 q4 q5 q6 q7 q8 q9 q10 : Pos) (cda cc : Addr) (vs : Array Value) (file : Str) (tf : Tok)
      (ccl cl : Value) (cdd cld : Option Addr) (ccs csl : Array (Option Value)) (fd : FuncData),
    fd = ksFn "__init__" qual (iA f p1 p2) (iB f tx k0 q1 q2 q3 q4 q5 q6 q7 q8 q9 q10) (iS f) .none kV doc pm an (.ref cda) ct cc ∧
    K.lookup fI = some ⟨oc, od, .func fd, osl⟩ ∧ codeIn K (.ref cda) qual = true ∧ (∀ a v : Value, bindArgs fd ⟨[a, v], []⟩ = pure [(("self" : Str), a), (f, v)]) ∧
    K.lookup cda = some ⟨ccl, cdd, .fields vs, ccs⟩ ∧ vs[2]? = some (.str file tf) ∧ ((P.main.file : Str) == file) = true ∧ K.lookup cc = some ⟨cl, cld, .cell (some (.ref C)), csl⟩ ∧
    (∃ pl : Sem Bool, ∀ L : Addr, eval (.Call (.Attribute (.Call (.Name "super" q1) [] [] q2) "__init__" q3) [.Constant (.str tx) k0 q4] [] q5) (ksEnv qual (iS f) L fI (.ref cda) cc) = (do
      let ov ← attributeBase (.Call (.Name "super" q1) [] [] q2) "__init__" (ksEnv qual (iS f) L fI (.ref cda) cc) (eval (.Call (.Name "super" q1) [] [] q2) (ksEnv qual (iS f) L fI (.ref cda) cc))
      standAt q3.atName
      let (fv, first) ← holding [ov] (getMethod ov "__init__" pl)
      callWith q5 fv first (backTo q5 (starEach [.Constant (.str tx) k0 q4] (ksEnv qual (iS f) L fI (.ref cda) cc))) [])) ∧
    (∀ L : Addr, swapsWith (.Name f q9) (some (.Attribute (.Name "self" q7) f q8)) q10.line (ksEnv qual (iS f) L fI (.ref cda) cc) = pure false) ∧
    (∀ L : Addr, swapsWith (.Call (.Attribute (.Call (.Name "super" q1) [] [] q2) "__init__" q3) [.Constant (.str tx) k0 q4] [] q5) none q6.line (ksEnv qual (iS f) L fI (.ref cda) cc) = pure false)
theorem one_size (v : Value) : [v].length ≤ sizeLine := by
  rw [sizeLine_eq]
  exact (by decide : 1 ≤ 16777216)
/-- what __init__ leaves of a fresh exception at x: a new args tuple, the argument in its own dict -/
structure InitEnd (h h' : Heap) (x C dx t1 : Addr) (f : Str) (v : Value) : Prop where
  keep : ∀ b o, b ≠ x → h.get? b = some o → h'.get? b = some o
  obj : h'.get? x = some { cls := .ref C, dict := some dx, data := .fields #[.ref t1, .none, .none, .none, .bool false, .none] }
  dbig : h.objs.size ≤ dx
  dne : dx ≠ x
  ns : h'.Ns1 dx (fun y => if y = f then some v else none)
section
variable {prog : Program} {w : World} {A : Around} {E : Value → Shared → Prop} {R : Result → Shared → Prop} {s : Shared} {K : Frag} {mg : Str → Option Value} {C fI : Addr} {x f : Str}
/-- the bound ValueError.__init__ called -/
theorem ve_init {h : Heap} {g : Array GenState} {d : Drawn} {t : Nat} {os : OsState} {nm q : Str} {N : Addr} {bs bm : List Value} {sn : List Str} {sub : List Value} {ab : Bool} {col : Option Bool} {dd : Option Addr} {k0 k1 k2 k3 k5 : Option Value}
    {u e t0 : Addr} {us : List Value} {Q : Value → Shared → Prop}
    (hC : h.get? C = some (excClassObj nm q C N bs bm true sn sub ab col dd k0 k1 k2 k3 k5 "ValueError.__new__")) (he : h.get? e = some (excO C t0)) (hu : h.get? u = some (kxs_mw "ValueError.__init__" e)) (hus : us.length ≤ sizeLine)
    (hq : ∀ h' t1, (∀ b o, b ≠ e → h.get? b = some o → h'.get? b = some o) → h'.get? e = some (excO C t1) → Q .none ⟨h', g, d, t, os⟩) :
    wpAny (model prog w) A (call (.ref u) us) Q E ⟨h, g, d, t, os⟩ := by
  refine wpAny_call (codeAny_of_tree ?_)
  show wpAny _ A.in1 (callAny (.ref u) ⟨us, []⟩) _ _ _
  simp only [callAny]
  refine wpAny_bind (wpAny_load hu ?_)
  have z : (Value.type "method-wrapper" == Value.type "method" || Value.type "method-wrapper" == Value.type "builtin_function_or_method" || Value.type "method-wrapper" == Value.type "method-wrapper") = true := by decide
  simp only [kxs_mw, z, if_true]
  refine KFB.if_so (by decide) (wpAny_bind (check_bound_init F.excBase_ValueError.toExcCallFacts hC he rfl ?_))
  refine wpAny_bind (wpAny_pure (wpAny_pure ⟨plainId_quiet F.excBase_ValueError.init.plain _, codeAny_builtin F.excBase_ValueError.initEntry ?_⟩))
  rw [Around.under_plainId F.excBase_ValueError.init.plain _]
  exact exc_init_tree (cls := .ref C) (t0 := t0) (dv := none) (c2 := .none) (c3 := .none) (b4 := .bool false) he hus fun h' k e' _ => hq h' _ k e'
theorem cls_of {h : Heap} (T : ClsTxt prog K mg C fI x) (X : K.In h) : ∃ cd oD, clsIn K C = some cd ∧ h.get? C = some oD ∧ oD.data = .cls cd := by
  obtain ⟨nm, q, N, bs, bm, sn, sub, ab, col, dd, k0, k1, k2, k3, k5, hC, _⟩ := T.cls
  exact ⟨_, _, by unfold clsIn; rw [hC] <;> rfl, X _ _ hC, rfl⟩
theorem sup_init (T : ClsTxt prog K mg C fI x) (Tf : FnTxt prog K C fI f) {e t0 : Addr} {v : Value} (X : K.In s.heap) (G : s.heap.Ns mainGlobals mg) {mb : Str → Option Value} (B : s.heap.Ns builtinsNs mb) (hb : mb "super" = some (.type "super"))
    (hlim : s.heap.NoLimit) (hx : s.heap.get? e = some (excO C t0)) (hnx : K.lookup e = none) (hroom : A.depth < recursionLimit)
    (hq : ∀ h' tk dx t1, InitEnd s.heap h' e C dx t1 f v → R (.ok (.ret .none)) { s with heap := h', toks := tk }) :
    codeAny (model prog w) A (.call (.ref fI) ⟨[.ref e, v], []⟩) R s := by
  obtain ⟨oc, doc, pm, kV, ct, od, an, osl, tx, qual, k0, p1, p2, q1, q2, q3, q4, q5, q6, q7, q8, q9, q10, cda, cc, vs, file, tf, ccl, cl, cdd, cld, ccs, csl, fd, rfl, ho, hcd, hbind, hcode, hvs, hfile, hcell, ⟨pl, he⟩, hsw, hsw0⟩ := Tf.fn
  obtain ⟨nm, q, N, bs, bm, sn, sub, ab, col, dd, j0, j1, j2, j3, j5, hC, hbm⟩ := T.cls
  obtain ⟨cd, oD, hcl, hD1, hD2⟩ := cls_of T X
  refine ks_codeAny_call_defAt (body := iB f tx k0 q1 q2 q3 q4 q5 q6 q7 q8 q9 q10) hroom (X _ _ ho) rfl hlim (codeRec_of X hcd) rfl (BindsTo.of_eq (hbind (.ref e) v)) ?_ ?_ (fun h₁ hn hk => ?_) rfl rfl rfl
  · show ∀ y ∈ (iS f).names, y.2 ≠ .cell
    intro y hy
    unfold iS at hy
    simp only [List.mem_cons, List.not_mem_nil, or_false] at hy
    rcases hy with rfl | rfl | rfl | rfl <;> (intro z; cases z)
  · show ∀ y ∈ ([(("self" : Str), Value.ref e), (f, v)] : List (Str × Value)), (iS f).names.lookup y.1 = some .local
    intro y hy
    simp only [List.mem_cons, List.not_mem_nil, or_false] at hy
    rcases hy with rfl | rfl
    · rfl
    · exact Tf.lf
  have X1 : K.In h₁ := X.keeps hk
  have hx1 := hk _ _ hx
  have hD1' := hk _ _ hD1
  have vS : ([(("self" : Str), Value.ref e), (f, v)] : List (Str × Value)).reverse.lookup ("self" : Str) = some (.ref e) := by
    show List.lookup ("self" : Str) [(f, v), (("self" : Str), Value.ref e)] = some (.ref e)
    rw [List.lookup_cons, Tf.sf]
    rfl
  have vF : ([(("self" : Str), Value.ref e), (f, v)] : List (Str × Value)).reverse.lookup f = some v := by
    show List.lookup f [(f, v), (("self" : Str), Value.ref e)] = some v
    rw [List.lookup_cons, beq_self_eq_true]
  have hI1 : InstAt h₁ e (excO C t0) C none := ⟨hx1, rfl, rfl, trivial⟩
  refine ks_wpAt_execs_cons (ks_wpAt_Expr_any (ks_wpAt_MethodCall (pl := pl) (ks_wpAt_super_base Tf.ls Tf.lc rfl rfl (X1 _ _ ho) rfl rfl rfl (X1 _ _ hcode) rfl hvs hfile T.htop ?_) (he _)) rfl (hsw0 _))
  refine ks_loadName_global rfl Tf.ls (loadGlobal_builtin (G.keeps hk) T.msup (B.keeps hk) hb ⟨rfl, ?_⟩)
  refine wpAny_loadName_free rfl Tf.lc rfl ⟨_, X1 _ _ hcell, rfl⟩ ?_
  refine wpAny_loadName_local rfl rfl hn vS ?_
  refine ks_wpAny_isType_cls hD1' hD2 ⟨rfl, ?_⟩
  refine ks_wpAny_call_super hD1' hD2 hx1 rfl (fun c z => by cases z) (looks_mroIn X1 T.mro) (fun h₂ e2 k2 => ?_)
  have hk2 : ∀ b o, s.heap.get? b = some o → h₂.get? b = some o := fun b o z => k2 b o (hk b o z)
  have X2 : K.In h₂ := X.keeps hk2
  have hx2 := k2 _ _ hx1
  have hI2 : InstAt h₂ e (excO C t0) C none := ⟨hx2, rfl, rfl, trivial⟩
  have hsup := T.sup
  unfold ks_superIn at hsup
  rw [hcl] at hsup
  refine kxs_getMethod kxs_ValueError e2 (looks_opaque X2 T.st) (l₀ := cd.mro) (fun A Q E s k q => wpAny_bind ((looks_clsIn X2 hcl) A _ E s k (wpAny_pure q))) rfl X2 hsup (hI2.type.andThen (looks_subIn X2 T.sve)) (ks_ne X2 hI2 hcl) rfl ?_
  refine kxs_callWith (i := "ValueError.__init__") (x := e) rfl (evalArgs_plain ?_)
  refine spliced_cons (wpAny_Constant_str (k := k0) (pos := q4) (spliced_nil ?_))
  have hx3 : (h₂.push (kxs_mw "ValueError.__init__" e)).get? e = some (excO C t0) := Heap.get?_push_of_some _ hx2
  refine ⟨Heap.get?_push_size _ rfl, ?_⟩
  refine ve_init (t0 := t0) (Heap.get?_push_of_some _ (X2 _ _ hC)) hx3 (Heap.get?_push_size _ rfl) (one_size _) fun h₃ t1 k3 hx4 => ?_
  have hk3 : ∀ b o, b ≠ e → s.heap.get? b = some o → h₃.get? b = some o := fun b o hb z => k3 b o hb (Heap.get?_push_of_some _ (hk2 b o z))
  have X3 : K.In h₃ := fun a o z => hk3 a o (fun q => by rw [q, hnx] at z; cases z) (X a o z)
  have hL : e ≠ s.heap.objs.size := Nat.ne_of_lt (Heap.lt_size hx)
  have hn3 : h₃.Ns s.heap.objs.size fun y => ([(("self" : Str), Value.ref e), (f, v)] : List (Str × Value)).reverse.lookup y := by
    obtain ⟨oL, es, ep, q, r⟩ := hn
    exact ⟨oL, es, ep, k3 _ _ (Ne.symm hL) (Heap.get?_push_of_some _ (k2 _ _ q)), r⟩
  refine wpAt_of_wpAny ?_
  refine wpAny_execs_cons (plainObj_wpAny_Assign_Attribute ?_ (hsw _))
  refine ESX.ldL hn3 vF (ESX.ldL hn3 vS ?_ rfl rfl (by decide)) rfl Tf.lf Tf.nd
  refine set_plain X3 (ox := excO C t1) (od := none) ⟨hx4, rfl, rfl, trivial⟩ T.sa ?_
  have hcd2 : clsIn K C = some { name := nm, bases := bs, mro := .ref C :: bm, ns := N, qualname := q, hasDict := true, slotNames := sn, subclasses := sub, abstract := ab, collection := col, hasDel := false } := by unfold clsIn; rw [hC] <;> rfl
  refine exc_osa X3 hx4 hcd2 (show refsVE (.ref C :: bm) = true from hbm) rfl Tf.noN (fun h₄ tk₄ dx k₄ dn dne hx₄ hn₄ => ?_)
  refine wpAny_execs_nil (hq h₄ tk₄ dx t1 ⟨fun b o hb z => k₄ b o hb (hk3 b o hb z), hx₄, ?_, dne, hn₄⟩)
  have z1 : h₂.objs.size < h₃.objs.size := by
    have z := k3 h₂.objs.size _ (fun q => ?_) (Heap.get?_push_size (o := kxs_mw "ValueError.__init__" e) h₂ rfl)
    · exact Heap.lt_size z
    · exact Nat.lt_irrefl _ (Nat.lt_of_lt_of_eq (Heap.lt_size hx2) q)
  have z2 : s.heap.objs.size < h₂.objs.size := by
    obtain ⟨oL, es, ep, q, r⟩ := hn
    exact Heap.lt_size (k2 _ _ q)
  exact Nat.le_of_lt (Nat.lt_trans z2 (Nat.lt_of_lt_of_le z1 dn))
/-- a made error: e, its own dict d holds f = v -/
structure Made (h h' : Heap) (e C d : Addr) (f : Str) (v : Value) : Prop where
  keep : ∀ b o, h.get? b = some o → h'.get? b = some o
  new : h.objs.size ≤ e
  obj : ∃ oe vs, h'.get? e = some oe ∧ oe.cls = .ref C ∧ oe.dict = some d ∧ oe.data = .fields vs ∧ vs[1]? = some .none
  dbig : h.objs.size ≤ d
  dne : d ≠ e
  ns : h'.Ns1 d (fun y => if y = f then some v else none)
theorem sup_made (T : ClsTxt prog K mg C fI x) (Tf : FnTxt prog K C fI f) {v : Value} (X : K.In s.heap) (G : s.heap.Ns mainGlobals mg) {mb : Str → Option Value} (B : s.heap.Ns builtinsNs mb) (hb : mb "super" = some (.type "super"))
    (hlim : s.heap.NoLimit) (hroom : A.depth + 1 < recursionLimit)
    (hq : ∀ h' tk e d, Made s.heap h' e C d f v → R (.ok (.ret (.ref e))) { s with heap := h', toks := tk }) :
    codeAny (model prog w) A (.call (.ref C) ⟨[v], []⟩) R s := by
  obtain ⟨nm, q, N, bs, bm, sn, sub, ab, col, dd, k0, k1, k2, k3, k5, hC, hbm⟩ := T.cls
  obtain ⟨hp, g, dr, tk, os⟩ := s
  have k : ∀ b o, hp.get? b = some o → ((hp.push (kdv_tup [v])).push (excO C hp.objs.size)).get? b = some o := fun b o e => Heap.get?_push_of_some _ (Heap.get?_push_of_some _ e)
  have hget : ((hp.push (kdv_tup [v])).push (excO C hp.objs.size)).get? (hp.objs.size + 1) = some (excO C hp.objs.size) := by heap_get
  have hnx : K.lookup (hp.objs.size + 1) = none := by
    cases e : K.lookup (hp.objs.size + 1) with
    | none => rfl
    | some o => exact absurd (Nat.lt_of_succ_lt (Heap.lt_size (X _ _ e))) (Nat.lt_irrefl _)
  refine call_own F.excBase_ValueError (fun Y => refsVE_contains Y bm hbm) (X _ _ hC) (looks_findIn X T.iC) (fun self => bind_fn X self T.tC) (one_size v) ?_
  refine sup_init (s := ⟨(hp.push (kdv_tup [v])).push (excO C hp.objs.size), g, dr, tk, os⟩) T Tf (X.keeps k) (G.keeps k) (B.keeps k) hb (hlim.keeps k) hget hnx ?_ fun h' tk' dx t1 ⟨k', hx, dn, dne, hns⟩ => ?_
  · show A.depth + 1 < recursionLimit
    exact hroom
  have old : ∀ b o, hp.get? b = some o → h'.get? b = some o := fun b o e => k' b o (Nat.ne_of_lt (Nat.lt_succ_of_lt (Heap.lt_size e))) (k b o e)
  have z : hp.objs.size + 1 + 1 ≤ dx := by
    have q := dn
    rw [Heap.size_push, Heap.size_push] at q
    exact q
  exact ⟨rfl, hq h' tk' (hp.objs.size + 1) dx ⟨old, Nat.le_succ _, ⟨_, _, hx, rfl, rfl, rfl, rfl⟩, Nat.le_trans (Nat.le_trans (Nat.le_succ _) (Nat.le_succ _)) z, dne, hns⟩⟩
end
end SupX
end PySem
namespace L2
open PySem PySem.Spec PyProof.Rows
theorem relO_one {v : V} {v' : Value} {f : Str} (r : RelV v v') (g : Str) : RelO (List.lookup g [(f, v)]) (if g = f then some v' else none) := by
  by_cases hw : g = f
  · subst hw
    rw [if_pos rfl]
    have q : List.lookup g [(g, v)] = some v := by simp [List.lookup]
    rw [q]
    exact r
  · rw [if_neg hw]
    have qw : (g == f) = false := by simpa using hw
    have q2 : List.lookup g [(f, v)] = none := by simp [List.lookup, qw]
    rw [q2]
    trivial
section
variable {X : Cx} {C fI : Addr} {x f : Str}
/-- C(e) -/
def tMkSup (C : Addr) (f : Str) (ta : TA) : St → Hp → XK → Prop := fun σ H Q => ta σ H fun vs H1 => ∃ v, vs = [v] ∧ ∀ d, H1 d = none → Q (.ref C) (some d) (upd H1 d (.xd [(f, v)]))
theorem pmk_sup {a : Expr} {ta : TA} {p pos : Pos} {k : Nat} (T : PySem.SupX.ClsTxt X.prog X.K X.mg C fI x) (Tf : PySem.SupX.FnTxt X.prog X.K C fI f) (hr : Room k X.A) (ha : PA X [a] ta) (hg : Gl X x) (hd : (x == ("__debug__" : Str)) = false := by decide)
    (he : starEach (a :: []) X.env = (false, eval a X.env) :: starEach [] X.env := by rfl) (hpl : (backTo pos (starEach [] X.env)).any (·.1) = false := by rfl) :
    PMk X (.Call (.Name x p) [a] [] pos) (tMkSup C f ta) := by
  intro pins s σ H Q I h
  refine wpAny_Call_Name_kw (ld_glob I hg T.gC ?_ hd)
  refine PySem.W.callWith_K (h₀ := X.base) I.ok.mod.kin T.kC (thn (ha.run pos pins s σ H _ I h) fun us s1 hh => ?_) he hpl
  obtain ⟨vs, H1, I1, r1, v, ev, q1⟩ := hh
  subst ev
  refine ⟨I1.kIn, ?_⟩
  cases r1 with
  | cons rv rn =>
    rename_i v' us'
    cases rn
    show wpAny _ _ (call (.ref C) [v']) _ _ _
    have hlim := I1.nolimit
    obtain ⟨mb, hB1, hB2⟩ := I1.mod.blt
    have hB := hB1.keeps I1.bk
    have hG := I1.mod.glob.keeps I1.bk
    have hb : mb "super" = some (.type "super") := (hB2 _ (by decide)).trans (by decide +kernel)
    obtain ⟨hp, g, dr, tk, os⟩ := s1
    refine wpAny_call (PySem.SupX.sup_made T Tf I1.kIn hG hB hb hlim (by have := hr.dp; omega) fun h' tk' e d M => ?_)
    show MkP X pins σ Q (.ref e) ⟨h', g, dr, tk', os⟩
    obtain ⟨oe, fv, hoe, hc, hd, hdat, h1⟩ := M.obj
    have hns := M.ns
    obtain ⟨G', g1, g2⟩ := restrict h' fun b => decide (b ≠ e)
    have gk : ∀ b, b ≠ e → G'.get? b = h'.get? b := fun b hb => g1 b (decide_eq_true hb)
    have ge : G'.get? e = none := g2 e (by simp)
    have old : ∀ b o, hp.get? b = some o → G'.get? b = some o := fun b o q => (gk b (Nat.ne_of_lt (Nat.lt_of_lt_of_le (Heap.lt_size q) M.new))).trans (M.keep b o q)
    have ob : ObjOk X.prog X.w (upd H1 d (.xd [(f, v)])) G' d (.xd [(f, v)]) := ⟨_, hns.at (fun o q => (gk d M.dne).trans q), fun g => relO_one rv g⟩
    have J : Inv X pins σ (upd H1 d (.xd [(f, v)])) ⟨G', g, dr, tk', os⟩ := I1.laid (t' := tk') old M.dbig ob
    refine ⟨e, oe, fv, ⟨G', g, dr, tk', os⟩, _, .ref C, some d, rfl, J, fun b o q => ?_, ge, hoe, ⟨hc, hd⟩, hdat, h1, ?_, rfl, I1.bare, raises_own T.exC T.tyC, q1 d (I1.hok.fresh M.dbig)⟩
    · by_cases hb : b = e
      · have q' : G'.get? b = some o := q
        rw [hb, ge] at q'; cases q'
      · exact (gk b hb).symm.trans q
    · rw [upd_ne (Ne.symm M.dne)]
      exact I1.hok.fresh M.new
/-- raise C(e) -/
def tRaiseSup (C : Addr) (f : Str) (W : WX) (ta : TA) : TS := fun _ σ H => tMkSup C f ta σ H fun cls d H' => W cls d σ H'
theorem ps_raiseSup {a : Expr} {ta : TA} {W : WX} {p pos pos2 : Pos} {k : Nat} (hc : X.calm = true) (T : PySem.SupX.ClsTxt X.prog X.K X.mg C fI x) (Tf : PySem.SupX.FnTxt X.prog X.K C fI f) (hr : Room k X.A) (tk : Takes X W) (ha : PA X [a] ta) (hg : Gl X x)
    (hd : (x == ("__debug__" : Str)) = false := by decide)
    (he : starEach (a :: []) X.env = (false, eval a X.env) :: starEach [] X.env := by rfl) (hpl : (backTo pos (starEach [] X.env)).any (·.1) = false := by rfl) :
    PS X (.Raise (some (.Call (.Name x p) [a] [] pos)) none pos2) (tRaiseSup C f W ta) := ps_raise hc tk (pmk_sup T Tf hr ha hg hd he hpl)
end
end L2
namespace L2
open PySem PySem.Spec PyProof.Rows
section
variable {X : Cx} {pins : List (Addr × Obj)} {σ : St} {H : Hp} {s : Shared} {a b : Addr} {kvs more : List (Key × V)} {A : Around} {E : Value → Shared → Prop}
/-- d.update(d2), two dicts with keys ints and texts -/
theorem d_update {Q : Value → Shared → Prop} (I : Inv X pins σ H s) (e : H a = some (.dK kvs)) (e2 : H b = some (.dK more)) (hne : a ≠ b) (hz : kvs.length + more.length ≤ sizeLine)
    (h : ∀ s', Inv X pins σ (upd H a (.dK (mergeK kvs more))) s' → Q .none s') : wpAny (model X.prog X.w) A (call (.builtin "dict.update") [.ref a, .ref b]) Q E s := by
  obtain ⟨z, hd, vs, rel, dd⟩ := dk_of I.hok e
  obtain ⟨z2, hd2, vs2, rel2, dd2⟩ := dk_of I.hok e2
  refine call_meetsIn PySem.F.slot_dict_update dd.typeIs PySem.F.entry_dict_update (PySem.F.args_dict_update_2 _ _) (meets_dict_update (mixKind X.prog X.w) a b hne hd2)
    ⟨vs, vs2, dd, dd2, by rw [← rel.length, ← rel2.length]; exact hz, fun h' dd' _ hs => h _ ?_⟩
  have he : ∃ q, h'.get? a = some q := let ⟨q, _, _, hq, _⟩ := dd'; ⟨q, hq⟩
  exact d_write I (by rw [e]; exact True.intro) hs he (dk_new (Nat.le_trans (length_mergeK more kvs) hz) hd (rel2.merge rel) dd')
end
def tDUpd (td ty : TE) : TE := fun σ H Q => td σ H fun x H1 => ∃ a, x = .ref a ∧ IsD H1 a ∧ ty σ H1 fun y H2 => ∃ b kvs more, y = .ref b ∧ H2 a = some (.dK kvs) ∧ H2 b = some (.dK more) ∧ a ≠ b ∧ kvs.length + more.length ≤ sizeLine ∧ Q .non (upd H2 a (.dK (mergeK kvs more)))
section
variable {X : Cx} {o e : Expr} {apos cpos : Pos} {td ty : TE}
theorem pe_dupd (ho : PE X o td) (he : PE X e ty) (m : M1 X o "update" apos e cpos) : PE X (.Call (.Attribute o "update" apos) [e] [] cpos) (tDUpd td ty) := by
  refine ⟨fun pins s σ H Q I h => ?_⟩
  refine wpAny_Call_method m.base m.few m.line PySem.F.plainAttrs_dict PySem.F.slot_dict_update PySem.F.type_dict_update (thn (ho.run pins s σ H _ I h) fun u s1 ⟨x, H1, I1, rx, a, ex, d, q1⟩ => ?_)
  subst ex
  obtain rfl : u = Value.ref a := rx
  obtain ⟨t1, t2, _⟩ := isD_at I1 d
  refine ⟨t1, t2, ?_⟩
  rw [m.trees]
  refine Calls.callWith_builtin rfl (Calls.evalArgs_plain (Calls.spliced_cons (thn (he.run pins s1 σ H1 _ I1 q1) fun iv s2 ⟨y, H2, I2, ry, b, kvs, more, ey, ea, eb, hne, hz, q2⟩ => Calls.spliced_nil ?_)))
  subst ey
  obtain rfl : iv = Value.ref b := ry
  exact d_update I2 ea eb hne hz fun s3 I3 => ⟨.non, _, I3, rfl, q2⟩
end
end L2
namespace Toy
open PySem L2
def top (i : Nat) : Stmt := PySem.Challenge.pw_nearloops_k04_groups_told.main.body.getD i (.Pass ⟨0, 0, 0, 0⟩)
def l_GROUPS : List (Str × List Str) := [("any", ["below", "-<", "-=", "->", "<", "=", ">", "+<", "+=", "+>", "above"]), ("near", ["-=", "->", "<", "=", ">", "+<", "+="]), ("far", ["below", "-<", "+>", "above"]), ("less", ["below", "-<", "-=", "->", "<"]), ("more", [">", "+<", "+=", "+>", "above"]), ("under", ["below", "-<"]), ("over", ["+>", "above"]), ("cell", ["<", "=", ">"]), ("none", [])]
def c_PLACES : List V := [.str "below", .str "-<", .str "-=", .str "->", .str "<", .str "=", .str ">", .str "+<", .str "+=", .str "+>", .str "above"]
abbrev s_is_place : Stmt := top 6
abbrev s_is_group : Stmt := top 7
abbrev s_group : Stmt := top 8
abbrev s_turned : Stmt := top 9
abbrev s_law_source : Stmt := top 11
abbrev s_law_draw : Stmt := top 12
abbrev s_law_pick : Stmt := top 13
abbrev s_law_name : Stmt := top 14
abbrev s_law_places : Stmt := top 15
abbrev s_law_group : Stmt := top 16
abbrev s_law_group_names : Stmt := top 17
abbrev s_law_refused : Stmt := top 18
abbrev s_law : Stmt := top 19
theorem sc_is_place : FnScope ["thing"] ["thing"] (defScope s_is_place) := ⟨rfl, rfl, rfl, by decide +kernel, rfl, by decide +kernel, by decide +kernel⟩
theorem sc_is_group : FnScope ["thing"] ["thing"] (defScope s_is_group) := ⟨rfl, rfl, rfl, by decide +kernel, rfl, by decide +kernel, by decide +kernel⟩
theorem sc_group : FnScope ["name"] ["name"] (defScope s_group) := ⟨rfl, rfl, rfl, by decide +kernel, rfl, by decide +kernel, by decide +kernel⟩
theorem sc_turned : FnScope ["place"] ["place"] (defScope s_turned) := ⟨rfl, rfl, rfl, by decide +kernel, rfl, by decide +kernel, by decide +kernel⟩
theorem sc_law_source : FnScope ["_law_script", "_law_great", "_law_seed", "_law_cell"] ["_law_script"] (defScope s_law_source) := ⟨rfl, rfl, rfl, by decide +kernel, rfl, by decide +kernel, by decide +kernel⟩
theorem sc_law_draw : FnScope ["_law_source_here", "_law_many", "_law_digit", "_law_mixed"] ["_law_source_here", "_law_many"] (defScope s_law_draw) := ⟨rfl, rfl, rfl, by decide +kernel, rfl, by decide +kernel, by decide +kernel⟩
theorem sc_law_pick : FnScope ["_law_source_here", "_law_things"] ["_law_source_here", "_law_things"] (defScope s_law_pick) := ⟨rfl, rfl, rfl, by decide +kernel, rfl, by decide +kernel, by decide +kernel⟩
theorem sc_law_name : FnScope ["_law_source_here", "_law_taken", "_law_size", "_law_name_here", "_law_k", "_law_one", "_law_letter"] ["_law_source_here", "_law_taken"] (defScope s_law_name) := ⟨rfl, rfl, rfl, by decide +kernel, rfl, by decide +kernel, by decide +kernel⟩
theorem sc_law_places : FnScope [] [] (defScope s_law_places) := ⟨rfl, rfl, rfl, by decide +kernel, rfl, by decide +kernel, by decide +kernel⟩
theorem sc_law_group : FnScope ["_law_name_here", "_law_row", "_law_parts"] ["_law_name_here"] (defScope s_law_group) := ⟨rfl, rfl, rfl, by decide +kernel, rfl, by decide +kernel, by decide +kernel⟩
theorem sc_law_group_names : FnScope [] [] (defScope s_law_group_names) := ⟨rfl, rfl, rfl, by decide +kernel, rfl, by decide +kernel, by decide +kernel⟩
theorem sc_law_refused : FnScope ["_law_work", "_law_found", "e"] ["_law_work"] (defScope s_law_refused) := ⟨rfl, rfl, rfl, by decide +kernel, rfl, by decide +kernel, by decide +kernel⟩
theorem sc_law : FnScope ["_law_script", "_law_source_here", "_law_found", "_law_odd", "_law_turn", "_law_name_here", "_law_value"] ["_law_script"] (defScope s_law) := ⟨rfl, rfl, rfl, by decide +kernel, rfl, by decide +kernel, by decide +kernel⟩

/-! ### the data -/
/-- H' tells all that H tells, but for what stands at p -/
def But (p : Addr) (H H' : Hp) : Prop := ∀ b o, b ≠ p → H b = some o → H' b = some o
theorem But.refl (p : Addr) (H : Hp) : But p H H := fun _ _ _ h => h
theorem But.trans {p : Addr} {H H1 H2 : Hp} (a : But p H H1) (b : But p H1 H2) : But p H H2 := fun c o n h => b c o n (a c o n h)
theorem But.upd {p : Addr} {H H' : Hp} {o : HO} (a : But p H H') : But p H (upd H' p o) := fun c o n h => by rw [upd_ne n]; exact a c o n h
theorem Same.but {p : Addr} {H H' : Hp} (a : Same H H') : But p H H' := fun c o _ h => a c o h
theorem Same.new {H : Hp} {p : Addr} {o : HO} (h : H p = none) : Same H (upd H p o) := fun b o e => by rw [upd_ne (ne_of_none e h)]; exact e
/-- a source of draws at p, at most n drawn so far -/
def Src (H : Hp) (p : Addr) (n : Int) : Prop := ∃ g s c : Int, H p = some (.lst [.int g, .int s, .int c]) ∧ 0 ≤ s ∧ s < 2147483647 ∧ 0 ≤ c ∧ c ≤ n
theorem Src.same {H H' : Hp} {p : Addr} {n : Int} (h : Src H p n) (e : Same H H') : Src H' p n := by
  obtain ⟨g, s, c, h, q⟩ := h
  exact ⟨g, s, c, e _ _ h, q⟩
theorem Src.le {H : Hp} {p : Addr} {n m : Int} (h : Src H p n) (e : n ≤ m) : Src H p m := by
  obtain ⟨g, s, c, h, q1, q2, q3, q4⟩ := h
  exact ⟨g, s, c, h, q1, q2, q3, by omega⟩

theorem draw_pow {x c : Int} (x0 : 0 ≤ x) (x1 : x < 2147483629) (c0 : 0 ≤ c) (c1 : c ≤ 1000000) : CPow (x * 48271 + 16807 * c * c + 11) 3 := by
  refine ⟨by decide, by decide, ?_⟩
  have h1 : 0 ≤ c * c := Int.mul_nonneg c0 c0
  have h2 : c * c ≤ 1000000 * 1000000 := Int.mul_le_mul c1 c1 c0 (by decide)
  have e : 16807 * c * c = 16807 * (c * c) := Int.mul_assoc _ _ _
  rw [e]
  generalize c * c = y at h1 h2
  show _ < 18446744073709551616
  omega
theorem ix_of {K : PySem.W.Frag} {H : Hp} {p : Addr} {xs : List V} {i : Int} {v : V} {Q : VK} (h : SqL K H p xs) (h2 : atI xs i = some v) (h3 : Q v H) : rIxL K (.ref p) (.int i) H Q := ⟨p, xs, i, v, rfl, rfl, h, h2, h3⟩
theorem set_of {H : Hp} {p : Addr} {xs : List V} {k : Int} {j : Nat} {v : V} {Q : Hp → Prop} (h : H p = some (.lst xs)) (h2 : ixN xs.length k = some j) (h3 : Q (upd H p (.lst (xs.set j v)))) : rSetL (.ref p) (.int k) v H Q := ⟨p, xs, k, j, rfl, rfl, h, h2, h3⟩
theorem ifne {x y : V} {A B : Prop} (h : x = y) (k : B) : if (!decide (x = y)) = true then A else B := by
  rw [decide_eq_true h]
  exact iteF k
theorem ifd {c A B : Prop} {inst : Decidable c} (h1 : c → A) (h2 : ¬ c → B) : if (@decide c inst) = true then A else B := by
  by_cases h : c
  · rw [if_pos (decide_eq_true h)]
    exact h1 h
  · rw [if_neg (by rw [decide_eq_false h]; exact Bool.false_ne_true)]
    exact h2 h
local macro_rules | `(tactic| walk_at "rd") => `(tactic| repeat (first
  | refine ⟨_, rfl, ?_⟩
  | refine ⟨_, _, rfl, rfl, ?_⟩
  | refine ⟨_, _, rfl, ?_⟩
  | refine ⟨rfl, ?_⟩
  | refine ⟨_, _, _, _, rfl, rfl, SqL.of upd_same, rfl, ?_⟩
  | refine ⟨_, _, _, _, rfl, rfl, upd_same, rfl, ?_⟩
  | refine iteT ?_
  | refine iteF ?_))
theorem take_more {α : Type} : ∀ {l : List α} {i : Nat} {x : α}, l[i]? = some x → l.take (i + 1) = l.take i ++ [x]
  | [], i, x, h => by simp at h
  | a :: l, 0, x, h => by
    have e : a = x := Option.some.inj h
    subst e
    rfl
  | a :: l, i + 1, x, h => by
    have ih := take_more (l := l) (i := i) (x := x) h
    show a :: l.take (i + 1) = a :: l.take i ++ [x]
    rw [ih]
    rfl
/-- a new object, the heap behind it a letter: generalize hH : upd H l _ = H' ahead of it -/
theorem new_of {H H' : Hp} {l : Addr} {o o' : HO} (hH : upd H l o = H') (h : H l = none) (e : o = o') : Same H H' ∧ H' l = some o' := by
  subst e hH
  exact ⟨Same.new h, upd_same⟩
/-- a changed object -/
theorem chg_of {H H' : Hp} {l : Addr} {o o' : HO} (hH : upd H l o = H') (e : o = o') : But l H H' ∧ H' l = some o' := by
  subst e hH
  exact ⟨(But.refl l H).upd, upd_same⟩
theorem Src.but {H H' : Hp} {p q : Addr} {n : Int} (h : Src H p n) (e : But q H H') (hne : p ≠ q) : Src H' p n := by
  obtain ⟨g, s, c, h, r⟩ := h
  exact ⟨g, s, c, e _ _ hne h, r⟩
theorem Src.ne {H : Hp} {p q : Addr} {n : Int} (h : Src H p n) (hq : H q = none) : q ≠ p := fun z => by
  obtain ⟨_, _, _, e, _⟩ := h
  rw [z, e] at hq
  cases hq
theorem int_at {l : List Int} {i : Nat} {x : V} (h : (l.map V.int)[i]? = some x) : ∃ z, x = V.int z ∧ l[i]? = some z := by
  rw [List.getElem?_map] at h
  cases e : l[i]? with
  | none => rw [e] at h; cases h
  | some z => rw [e] at h; exact ⟨z, (Option.some.inj h).symm, rfl⟩
/-! ### the promises -/
def spSource (K : PySem.W.Frag) : Sp := fun vs H Q _ => ∃ (a : Addr) (ns : List Int), vs = [.ref a] ∧ SqL K H a (ns.map V.int) ∧ ∀ (p : Addr) (H' : Hp), H p = none → Same H H' → Src H' p 0 → Q (.ref p) H'
def spDraw : Sp := fun vs H Q _ => ∃ (p : Addr) (m n : Int), vs = [.ref p, .int m] ∧ Src H p n ∧ n < 1000000 ∧ 0 < m ∧ m < 2 ^ 64 ∧
  ∀ (d : Int) (H' : Hp), 0 ≤ d → d < m → But p H H' → Src H' p (n + 1) → Q (.int d) H'
def spLaw (K : PySem.W.Frag) : Sp := fun vs H Q _ => ∃ (a : Addr) (ns : List Int), vs = [.ref a] ∧ SqL K H a (ns.map V.int) ∧ ns.length ≤ 63 ∧ ∀ H', Q (.bl true) H'
/-! ### the places by their numbers -/
def placesL : List Str := ["below", "-<", "-=", "->", "<", "=", ">", "+<", "+=", "+>", "above"]
theorem c_places : c_PLACES = placesL.map V.str := rfl
theorem inV_strs (z : Str) : ∀ l : List Str, inV (V.str z) (l.map V.str) = decide (z ∈ l)
  | [] => rfl
  | a :: r => by
    have ih := inV_strs z r
    unfold inV at ih ⊢
    rw [List.map_cons, List.any_cons, ih]
    by_cases e : a = z
    · subst e
      simp [eqV]
    · have e1 : eqV (V.str a) (V.str z) = false := by
        show (a == z) = false
        simpa using e
      have e2 : ¬ z = a := fun q => e q.symm
      simp [e1, e2]
theorem flat_strs : ∀ l : List Str, (l.map V.str).all flatV = true
  | [] => rfl
  | a :: r => by
    rw [List.map_cons, List.all_cons, flat_strs r]
    rfl
theorem dp_strs {K : PySem.W.Frag} {H : Hp} : ∀ l : List Str, DpAll K H (l.map V.str) (l.map PyData.str)
  | [] => .nil
  | a :: r => .cons (.str a) (dp_strs r)
theorem str_at {l : List Str} {i : Nat} {x : V} (h : (l.map V.str)[i]? = some x) : ∃ z, x = V.str z ∧ l[i]? = some z := by
  rw [List.getElem?_map] at h
  cases e : l[i]? with
  | none => rw [e] at h; cases h
  | some z => rw [e] at h; exact ⟨z, (Option.some.inj h).symm, rfl⟩
theorem places_nd : placesL.Nodup := by decide +kernel
theorem places_lt {j : Nat} {z : Str} (h : placesL[j]? = some z) : j < 11 := (List.getElem?_eq_some_iff.mp h).1
theorem places_first {j m : Nat} {z : Str} (h : placesL[j]? = some z) (hm : m < j) : placesL[m]? ≠ some z := fun e => by
  have q := nd_ix places_nd e h
  omega
theorem shaped_of {d : PyData} (h1 : d.canLay0 = true) (h2 : d.depth ≤ 64) : SeqAt.shaped d = true := by
  unfold SeqAt.shaped
  rw [h1, decide_eq_true h2]
  rfl
theorem lay_strs : ∀ l : List Str, (∀ z ∈ l, PyData.strOk z = true) → PyData.canLayAll0 (l.map PyData.str) = true
  | [], _ => rfl
  | a :: r, h => by
    rw [List.map_cons, PyData.canLayAll0, lay_strs r fun z hz => h z (List.mem_cons_of_mem _ hz), PyData.canLay0, h a List.mem_cons_self]
    rfl
theorem depth_strs : ∀ l : List Str, PyData.depthAll (l.map PyData.str) ≤ 1
  | [] => by simp [PyData.depthAll]
  | a :: r => by
    have ih := depth_strs r
    rw [List.map_cons, PyData.depthAll]
    have e : (PyData.str a).depth ≤ 1 := by simp [PyData.depth]
    omega
theorem shaped_strs {l : List Str} (h : ∀ z ∈ l, PyData.strOk z = true) : SeqAt.shaped (.list (l.map PyData.str)) = true :=
  shaped_of (by rw [PyData.canLay0]; exact lay_strs l h) (by rw [PyData.depth]; have := depth_strs l; omega)
theorem eqv_strs {l : List Str} (h : ∀ z ∈ l, PyData.strOk z = true) : PyData.eqv (.list (l.map PyData.str)) (.list (l.map PyData.str)) = true :=
  SeqAt.eqv_refl _ (by rw [PyData.canLay0]; exact lay_strs l h)
theorem places_ok : ∀ z ∈ placesL, PyData.strOk z = true := by decide +kernel
/-! ### the groups -/
theorem isStr_ne {x z : Str} {t : Tok} (h : x ≠ z) : (Value.str x t).isStr z = false := by
  show (x == z) = false
  simpa using h
theorem groups_at : ∀ {l : List (Str × List Str)} {z : Str}, z ∈ l.map (·.1) → ∃ (j : Nat) (ps : List Str), l[j]? = some (z, ps)
  | (a, q) :: r, z, h => by
    rw [List.map_cons] at h
    rcases List.mem_cons.mp h with e | e
    · exact ⟨0, q, by rw [e]; rfl⟩
    · obtain ⟨j, ps, h'⟩ := groups_at e
      exact ⟨j + 1, ps, h'⟩
theorem names_in {j : Nat} {z : Str} {ps : List Str} (h : l_GROUPS[j]? = some (z, ps)) : z ∈ l_GROUPS.map (·.1) := List.mem_map.mpr ⟨_, List.mem_of_getElem? h, rfl⟩
theorem names_no : ∀ z ∈ l_GROUPS.map (·.1), z ∉ placesL := by decide +kernel
/-- group: of a name of the table, that is no place; of a place -/
def spIsGroup : Sp := fun vs H Q _ => ∃ z : Str, vs = [.str z] ∧ Q (.bl (decide (z ∈ placesL ∨ z ∈ l_GROUPS.map (·.1)))) H
def spGroup (K : PySem.W.Frag) : Sp := fun vs H Q _ => ∃ z : Str, vs = [.str z] ∧
  ((∃ (j : Nat) (ps : List Str), l_GROUPS[j]? = some (z, ps) ∧ ∀ u : Addr, (∀ H' : Hp, SqT K H' u (ps.map V.str)) → Q (.ref u) H) ∨
   (z ∈ placesL ∧ ∀ p : Addr, H p = none → Q (.ref p) (upd H p (.tup [.str z]))))
/-! ### _law_pick, _law_name -/
theorem sql_but {K : PySem.W.Frag} {H H' : Hp} {p l : Addr} {xs : List V} (h : SqL K H l xs) (e : But p H H') (n : l ≠ p) : SqL K H' l xs := by
  rcases h with (h | ⟨o, h⟩) | h
  · exact .inl (.inl (e _ _ n h))
  · exact .inl (.inr ⟨o, e _ _ n h⟩)
  · exact .inr h
theorem but_new {p q : Addr} {H H' : Hp} {o : HO} (a : But p H H') (h : H q = none) : But p H (upd H' q o) := fun c u n z => by
  rw [upd_ne (fun e => by rw [e, h] at z; cases z)]
  exact a c u n z
theorem but_free {p q : Addr} {H H' : Hp} (a : But p H H') (n : q ≠ p) (h : H' q = none) : H q = none := by
  cases e : H q with
  | none => rfl
  | some o =>
    rw [a q o n e] at h
    cases h
theorem at_any {α : Type} {xs : List α} {j : Nat} {x : α} (h : xs[j]? = some x) : atI xs (j : Int) = some x := by
  have hj : j < xs.length := (List.getElem?_eq_some_iff.mp h).1
  unfold atI ixN
  rw [if_pos (by omega : (0 : Int) ≤ j), if_pos (by omega : (j : Int) < xs.length)]
  exact h
def spPick (K : PySem.W.Frag) : Sp := fun vs H Q _ => ∃ (p l : Addr) (xs : List V) (n : Int), vs = [.ref p, .ref l] ∧ Src H p n ∧ n < 1000000 ∧ l ≠ p ∧ SqL K H l xs ∧ 0 < xs.length ∧ xs.length ≤ 1000 ∧
  ∀ (j : Nat) (v : V) (H' : Hp), xs[j]? = some v → But p H H' → Src H' p (n + 1) → Q v H'
/-- a name of at most eight small letters -/
def one (c : Nat) : Str := ⟨#[c]⟩
def small (c : Nat) : Prop := 97 ≤ c ∧ c ≤ 122
structure IsName (z : Str) : Prop where
  pos : 1 ≤ z.cps.size
  len : z.cps.size ≤ 8
  low : ∀ c ∈ z.cps.toList, small c
theorem IsName.ok {z : Str} (h : IsName z) : PyData.strOk z = true := by
  show z.cps.all (· < 0x110000) = true
  rw [← Array.all_toList, List.all_eq_true]
  intro c hc
  have := (h.low c hc).2
  exact decide_eq_true (by omega)
theorem join_ones : ∀ cs : List Nat, Txt.join (Str.ofString "") (cs.map one) = ⟨cs.toArray⟩ := fun cs => by
  rw [TL.join_eq]
  have e : ∀ l : List Nat, TL.tl (Str.join (Str.ofString "") (l.map one)) = l := fun l => by
    rw [TL.tl_join, show TL.tl (Str.ofString "") = [] by decide +kernel]
    induction l with
    | nil => rfl
    | cons a r ih =>
      cases r with
      | nil => rfl
      | cons b r =>
        rw [List.map_cons, List.map_cons, List.map_cons, List.map_cons, TL.joinL]
        rw [List.map_cons, List.map_cons] at ih
        rw [List.nil_append, ih]
        rfl
  have q := e cs
  show (Str.join (Str.ofString "") (cs.map one)) = ⟨cs.toArray⟩
  have h : (Str.join (Str.ofString "") (cs.map one)).cps.toList = cs := q
  generalize Str.join (Str.ofString "") (cs.map one) = z at h
  obtain ⟨a⟩ := z
  obtain ⟨l⟩ := a
  have h' : l = cs := h
  rw [h']
theorem name_of {cs : List Nat} (h1 : 1 ≤ cs.length) (h8 : cs.length ≤ 8) (hl : ∀ c ∈ cs, small c) : IsName ⟨cs.toArray⟩ := ⟨by simpa using h1, by simpa using h8, by simpa using hl⟩
theorem name_q {z : Str} (h : IsName z) : IsName (Str.ofString "q" ++ cutS z (some 1) none) := by
  have hl := cutS_length z (some 1) none
  have e : (Str.ofString "q" ++ cutS z (some 1) none).cps = #[113] ++ (cutS z (some 1) none).cps := by
    show (Str.ofString "q").cps ++ _ = _
    rw [show (Str.ofString "q").cps = #[113] by decide +kernel]
  have hz : (cutS z (some 1) none).cps.size ≤ z.cps.size - 1 := by
    show (((z.cps.toList.drop (HT.sIx z.length 0 (some 1))).take (HT.sIx z.length z.length none - HT.sIx z.length 0 (some 1))).toArray).size ≤ _
    have p := h.pos
    have e1 : HT.sIx z.length 0 (some 1) = 1 := by
      show HT.sIx z.cps.size 0 (some 1) = 1
      unfold HT.sIx
      simp
      omega
    rw [e1, List.size_toArray, List.length_take, List.length_drop, Array.length_toList]
    omega
  have p := h.pos
  have p8 := h.len
  refine ⟨?_, ?_, ?_⟩
  · rw [e, Array.size_append]
    show 1 ≤ 1 + _
    omega
  · rw [e, Array.size_append]
    show 1 + _ ≤ 8
    omega
  · intro c hc
    rw [e, Array.toList_append] at hc
    rcases List.mem_append.mp hc with q | q
    · have : c = 113 := by simpa using q
      subst this
      exact ⟨by decide, by decide⟩
    · refine h.low c ?_
      have q' : c ∈ (((z.cps.toList.drop (HT.sIx z.length 0 (some 1))).take (HT.sIx z.length z.length none - HT.sIx z.length 0 (some 1))).toArray).toList := q
      rw [List.toList_toArray] at q'
      exact List.mem_of_mem_drop (List.mem_of_mem_take q')
/-- the names that are taken where all else is: z and one of seventeen letters -/
def zName (c : Nat) : Str := Str.ofString "z" ++ one c
theorem zName_is {c : Nat} (h : small c) : IsName (zName c) := by
  have e : (zName c).cps = #[122] ++ #[c] := by
    show (Str.ofString "z").cps ++ _ = _
    rw [show (Str.ofString "z").cps = #[122] by decide +kernel]
    rfl
  refine ⟨by rw [e]; exact (by omega : 1 ≤ 2), by rw [e]; exact (by omega : 2 ≤ 8), ?_⟩
  intro d hd
  rw [e] at hd
  have hd' : d = 122 ∨ d = c := by simpa using hd
  rcases hd' with rfl | rfl
  · exact ⟨by decide, by decide⟩
  · exact h
def zNames (i : Nat) : List Str := (List.range i).map fun k => zName (97 + k)
theorem zNames_more (i : Nat) : zNames (i + 1) = zNames i ++ [zName (97 + i)] := by
  unfold zNames
  rw [List.range_succ, List.map_append]
  rfl
theorem zNames_is {z : Str} (h : z ∈ zNames 17) : IsName z := by
  obtain ⟨k, hk, rfl⟩ := List.mem_map.mp h
  have := List.mem_range.mp hk
  exact zName_is ⟨by omega, by omega⟩
theorem zNames_has {c : Nat} (h1 : 97 ≤ c) (h2 : c ≤ 113) : zName c ∈ zNames 17 := List.mem_map.mpr ⟨c - 97, List.mem_range.mpr (by omega), by rw [show 97 + (c - 97) = c by omega]⟩
def spName (K : PySem.W.Frag) : Sp := fun vs H Q _ => ∃ (p l : Addr) (tk : List Str) (n : Int), vs = [.ref p, .ref l] ∧ Src H p n ∧ n < 900000 ∧ l ≠ p ∧ SqL K H l (tk.map V.str) ∧ (∃ c : Nat, 97 ≤ c ∧ c ≤ 113 ∧ zName c ∉ tk) ∧
  ∀ (z : Str) (H' : Hp), IsName z → z ∉ tk → But p H H' → Src H' p (n + 10) → Q (.str z) H'
/-! ### _law_places, _law_group_names, _law_group -/
def namesL : List Str := ["any", "near", "far", "less", "more", "under", "over", "cell", "none"]
def spPlaces : Sp := fun vs H Q _ => vs = [] ∧ ∀ p : Addr, H p = none → Q (.ref p) (upd H p (.lst (placesL.map V.str)))
def spGroupNames : Sp := fun vs H Q _ => vs = [] ∧ ∀ p : Addr, H p = none → Q (.ref p) (upd H p (.lst (namesL.map V.str)))
def grpL (z : Str) : List Str := (l_GROUPS.lookup z).getD [z]
def spLawGroup : Sp := fun vs H Q _ => ∃ z : Str, vs = [.str z] ∧ ∀ (a : Addr) (H' : Hp), Same H H' → H' a = some (.lst ((grpL z).map V.str)) → Q (.ref a) H'
theorem same_but {D : Addr} {H H1 H2 : Hp} (s : Same H H1) (u : But D H1 H2) (hD : H D = none) : Same H H2 := fun b o e => u b o (ne_of_none e hD) (s b o e)
def underL : List Str := ["below", "-<"]
def overL : List Str := ["+>", "above"]
def nearL : List Str := ["-=", "->", "<", "=", ">", "+<", "+="]
def lessL : List Str := ["below", "-<", "-=", "->", "<"]
def moreL : List Str := [">", "+<", "+=", "+>", "above"]
def cellL : List Str := ["<", "=", ">"]
theorem valV_out : ∀ {kvs : List (Key × V)} {k : Key}, (∀ q ∈ kvs, q.1 ≠ k) → valV kvs k = none
  | [], _, _ => rfl
  | (j, v) :: r, k, h => by
    have ih := valV_out (kvs := r) (k := k) fun q hq => h q (List.mem_cons_of_mem _ hq)
    have hj : j ≠ k := h _ List.mem_cons_self
    unfold valV at ih ⊢
    simp [List.find?, hj]
    simpa using ih
theorem grp_out {z : Str} (h : z ∉ namesL) : grpL z = [z] := by
  have key : ∀ l : List (Str × List Str), z ∉ l.map (·.1) → l.lookup z = none := fun l => by
    induction l with
    | nil => exact fun _ => rfl
    | cons a r ih =>
      intro hn
      rw [List.map_cons, List.mem_cons, not_or] at hn
      rw [List.lookup_cons, show (z == a.1) = false by simpa using hn.1]
      exact ih hn.2
  unfold grpL
  rw [key l_GROUPS (show z ∉ l_GROUPS.map (·.1) from h)]
  rfl
def gdK (r a3 a6 a7 a8 b1 b2 b3 b4 : Addr) : List (Key × V) := [(.inr "any", .ref r), (.inr "near", .ref a3), (.inr "far", .ref a6), (.inr "less", .ref a7), (.inr "more", .ref a8), (.inr "under", .ref b1), (.inr "over", .ref b2), (.inr "cell", .ref b3), (.inr "none", .ref b4)]
/-! ### is_place, is_group, group, turned of any value that a law hands in -/
inductive OddV (H : Hp) : V → PyData → Prop
  | non : OddV H .non .none
  | int (i : Int) : OddV H (.int i) (.int i)
  | lst {a : Addr} {z : Str} (h : H a = some (.lst [.str z])) (ok : PyData.strOk z = true) : OddV H (.ref a) (.list [.str z])
  | tup {a : Addr} {z : Str} (h : H a = some (.tup [.str z])) (ok : PyData.strOk z = true) : OddV H (.ref a) (.tuple [.str z])
theorem OddV.mv {H H' : Hp} {v : V} {d : PyData} (o : OddV H v d) (e : ∀ b u, (∀ ps, u ≠ .tbl ps) → H b = some u → H' b = some u) : OddV H' v d := by
  cases o with
  | non => exact .non
  | int i => exact .int i
  | lst h ok => exact .lst (e _ _ (fun ps z => by cases z) h) ok
  | tup h ok => exact .tup (e _ _ (fun ps z => by cases z) h) ok
theorem OddV.ty {K : PySem.W.Frag} {H : Hp} {v : V} {d : PyData} (o : OddV H v d) : ∃ t : String, TyX K H v (.type t) ∧ kitB t "str" = some false := by
  cases o with
  | non => exact ⟨_, .base .non, by decide +kernel⟩
  | int i => exact ⟨_, .base (.int i), by decide +kernel⟩
  | lst h ok => exact ⟨_, .base (.lst h), by decide +kernel⟩
  | tup h ok => exact ⟨_, .base (.tup h), by decide +kernel⟩
def spIsPlaceA : Sp := fun vs H Q _ => ∃ v : V, vs = [v] ∧ ((∃ z : Str, v = .str z ∧ Q (.bl (decide (z ∈ placesL))) H) ∨ (∃ d, OddV H v d) ∧ Q (.bl false) H)
def spIsGroupA : Sp := fun vs H Q _ => ∃ v : V, vs = [v] ∧ ((∃ z : Str, v = .str z ∧ Q (.bl (decide (z ∈ placesL ∨ z ∈ l_GROUPS.map (·.1)))) H) ∨ (∃ d, OddV H v d) ∧ Q (.bl false) H)
/-- the error is raised: of the class at C, its own new dict holds the value -/
def Refu (C : Addr) (f : Str) (v : V) (H : Hp) (E : XK) : Prop := ∀ d : Addr, H d = none → E (.ref C) (some d) (upd H d (.xd [(f, v)]))
def GrpA (K : PySem.W.Frag) (C : Addr) (v : V) (H : Hp) (Q : VK) (E : XK) : Prop :=
  (∃ z : Str, v = .str z ∧ ((∃ (j : Nat) (ps : List Str), l_GROUPS[j]? = some (z, ps) ∧ ∀ u : Addr, (∀ H' : Hp, SqT K H' u (ps.map V.str)) → Q (.ref u) H) ∨
   (z ∈ placesL ∧ ∀ p : Addr, H p = none → Q (.ref p) (upd H p (.tup [.str z])))))
  ∨ ((∃ z : Str, v = .str z ∧ z ∉ placesL ∧ z ∉ l_GROUPS.map (·.1)) ∨ ∃ d, OddV H v d) ∧ Refu C "group" v H E
def spGroupA (K : PySem.W.Frag) (C : Addr) : Sp := fun vs H Q E => ∃ v : V, vs = [v] ∧ GrpA K C v H Q E
def TurA (C : Addr) (v : V) (H : Hp) (E : XK) : Prop := ((∃ z : Str, v = .str z ∧ z ∉ placesL) ∨ ∃ d, OddV H v d) ∧ Refu C "group" v H E
def spTurnedA (C : Addr) : Sp := fun vs H Q E => ∃ v : V, vs = [v] ∧ TurA C v H E
/-! ### a def that makes lambdas: its code object is known -/
structure FunC (K : PySem.W.Frag) (x qual : Str) (st : Stmt) (f : Addr) (fd : FuncData) (c : Addr) : Prop where
  ex : ∃ (oc : Value) (od : Option Addr) (kV doc pm : Value) (an : Option Addr) (ct : Value) (osl : Array (Option Value)),
    fd = PySem.W.fnOf x qual (defArgs st) (defBody st) (defScope st) .none kV doc pm an (.ref c) ct ∧ K.lookup f = some ⟨oc, od, .func fd, osl⟩ ∧ PySem.W.codeIn K (.ref c) qual = true
theorem FunC.ok {P : Program} {w : World} {K : PySem.W.Frag} {mg : Str → Option Value} {base : Heap} {x qual : Str} {st : Stmt} {f c : Addr} {fd : FuncData} {N ps : List Str} {k : Nat} {sp : Sp} (F : FunC K x qual st f fd c) (S : FnScope N ps (defScope st)) (len : ∀ vs H Q E, sp vs H Q E → vs.length = ps.length)
    (hbody : ∀ (A : Around) (outer : List Env) (s : Shared) (H : Hp) (vs : List V) (Q : VK) (E : XK), Room k (A.deeper (PyProof.Rows.envOfC qual (defScope st) s.heap.objs.size f (.ref c))) → sp vs H Q E →
      ∃ t, PSs (cxOf CX0 P w K mg base N qual (defScope st) f (.ref c) A outer s H E).nox (defBody st) t ∧ t { nx := fun _ H' => Q .non H', rt := Q } (L2.start N vs) H) : FnOk P w K mg base CX0 (k + 1) f fd ps sp := by
  obtain ⟨oc, od, kV, doc, pm, an, ct, osl, rfl, lk, hcd⟩ := F.ex
  refine fn_of lk hcd S len fun A outer s H vs Q E hr hsp => ?_
  obtain ⟨t, h, q⟩ := hbody A outer s H vs Q E hr hsp
  exact ⟨t, h.nox, q⟩
/-- x(lambda: body), x a def of the text -/
theorem pe_lamF {X : Cx} {T : List (Addr × Str)} {TT : (XK → Hp → VK → Prop) → Hp → VK → Prop} {x a : Str} {g c P : Addr} {k : Nat} {st : Stmt} {fd : FuncData} {Ng : List Str} {params : Arguments} {body : Expr} {scope : Scope} {t : XK → TE} {p lpos pos : Pos}
    (F : Fun X.K x x st g fd) (b : Binds X.K fd [a] []) (hg : Gl X x) (hm : X.mg x = some (.ref g)) (Sg : FnScope Ng [a] (defScope st)) (hNg : Ng[0]? = some a) (hva : Vis (defScope st) a)
    (hG : ∀ cdg : Value, LamX.GivesTo X Ng x (defScope st) g cdg (defBody st) a (X.env.qual ++ "<lambda>") TT)
    (TB : LamX.TabB X.base X.mg c P) (hcode : X.env.code = .ref c) (hmT : (P, X.env.qual ++ "<lambda>") ∈ T) (hu : ∀ p ∈ T, p.1 = P → p.2 = X.env.qual ++ "<lambda>") (hr : Room (k + 2) X.A) (L : LamX.LamS X.env.scope scope) (hdef : defaultsOf params X.env = ([], []))
    (hbind : ∀ (q : Str) (cl : List (Str × Addr)) (pm cv ctv : Value), bindArgs (PySem.W.kla_fn "<lambda>" q params body scope cl pm cv ctv) ⟨[], []⟩ = pure [])
    (hbody : ∀ (A : Around) (outer : List Env) (s : Shared) (H : Hp) (E : XK) (f c' : Addr), Room k (A.deeper (LamX.lamEnv X scope s.heap.objs.size f c')) → PE (LamX.lamCx X A outer s H E scope f c') body (t E))
    (hdb : (x == ("__debug__" : Str)) = false := by decide) (hd : (a == ("__debug__" : Str)) = false := by decide) (hcd : (a == ("__classdict__" : Str)) = false := by decide) :
    PE X (.Call (.Name x p) [.Lambda params body scope lpos] [] pos) (LamX.tLam T TT t) := by
  obtain ⟨oc, od, kV, doc, pm, an, cdv, ct, osl, rfl, lk, hcg⟩ := F.ex
  exact LamX.pe_lamcall hg hm F.kp lk hcg b Sg hNg hva (hG cdv) TB hcode hmT hu hr L hdef hbind hbody hdb hd hcd
theorem takes_len {X : Cx} {W : WX} (t : Takes X W) : Takes X (fun cls d σ H => σ.length = X.N.length → W cls d σ H) := fun u s' ⟨a, B, sI, pins, σ, H, cls, d, e, I, nb, up, sky, na, os, ag, w⟩ =>
  t u s' ⟨a, B, sI, pins, σ, H, cls, d, e, I, nb, up, sky, na, os, ag, w I.len⟩
/-- tables stay where all but a list at p stays -/
theorem tabs_but {T : List (Addr × Str)} {p : Addr} {xs : List V} {H H' : Hp} (t : LamX.Tabs T H) (e : But p H H') (hp : H p = some (.lst xs)) : LamX.Tabs T H' := fun q hq => by
  obtain ⟨ps, h1, h2, h3⟩ := t q hq
  refine ⟨ps, e _ _ (fun z => by rw [z, hp] at h1; cases h1) h1, h2, fun pos cv hc => ?_⟩
  obtain ⟨c, e1, e2⟩ := h3 pos cv hc
  exact ⟨c, e1, e _ _ (fun z => by rw [z, hp] at e2; unfold LamX.CodeO at e2; cases e2) e2⟩
theorem tabs_same {T : List (Addr × Str)} {H H' : Hp} (t : LamX.Tabs T H) (e : Same H H') : LamX.Tabs T H' := t.ext e
theorem Src.ext {H H' : Hp} {p : Addr} {n : Int} (h : Src H p n) (e : LamX.ExtN H H') : Src H' p n := by
  obtain ⟨g, s, c, h, q⟩ := h
  exact ⟨g, s, c, e _ _ h (fun ps z => by cases z), q⟩
theorem Src.at {H : Hp} {p : Addr} {n : Int} (h : Src H p n) : ∃ xs, H p = some (.lst xs) := by
  obtain ⟨g, s, c, h, q⟩ := h
  exact ⟨_, h⟩
/-- _law_refused of a work that is read by tl: it is refused with v, and a new list of v is told; else it is told -/
def TRef (C : Addr) (f : Str) : (XK → Hp → VK → Prop) → Hp → VK → Prop := fun tl H Q => ∀ p, H p = none → ∀ R : VK, (∀ v H', Q (.ref p) H' → R v H') →
  tl (fun cls d H' => cls = .ref C ∧ ∃ (dd : Addr) (v : V), d = some dd ∧ H' dd = some (.xd [(f, v)]) ∧ ∀ l, H' l = none → Q (.ref l) (upd H' l (.lst [v]))) (upd H p (.lst [.str "none", .str "told"])) R
/-- what the top has written: each def at its address, the built-ins not hidden -/
structure Txt (P : Program) (w : World) (K : PySem.W.Frag) (mg : Str → Option Value) where
  f_is_place : Addr
  d_is_place : FuncData
  F_is_place : Fun K "is_place" "is_place" s_is_place f_is_place d_is_place
  b_is_place : Binds K d_is_place ["thing"] []
  m_is_place : mg "is_place" = some (.ref f_is_place)
  f_is_group : Addr
  d_is_group : FuncData
  F_is_group : Fun K "is_group" "is_group" s_is_group f_is_group d_is_group
  b_is_group : Binds K d_is_group ["thing"] []
  m_is_group : mg "is_group" = some (.ref f_is_group)
  f_group : Addr
  d_group : FuncData
  F_group : Fun K "group" "group" s_group f_group d_group
  b_group : Binds K d_group ["name"] []
  m_group : mg "group" = some (.ref f_group)
  f_turned : Addr
  d_turned : FuncData
  F_turned : Fun K "turned" "turned" s_turned f_turned d_turned
  b_turned : Binds K d_turned ["place"] []
  m_turned : mg "turned" = some (.ref f_turned)
  f_law_source : Addr
  d_law_source : FuncData
  F_law_source : Fun K "_law_source" "_law_source" s_law_source f_law_source d_law_source
  b_law_source : Binds K d_law_source ["_law_script"] []
  m_law_source : mg "_law_source" = some (.ref f_law_source)
  f_law_draw : Addr
  d_law_draw : FuncData
  F_law_draw : Fun K "_law_draw" "_law_draw" s_law_draw f_law_draw d_law_draw
  b_law_draw : Binds K d_law_draw ["_law_source_here", "_law_many"] []
  m_law_draw : mg "_law_draw" = some (.ref f_law_draw)
  f_law_pick : Addr
  d_law_pick : FuncData
  F_law_pick : Fun K "_law_pick" "_law_pick" s_law_pick f_law_pick d_law_pick
  b_law_pick : Binds K d_law_pick ["_law_source_here", "_law_things"] []
  m_law_pick : mg "_law_pick" = some (.ref f_law_pick)
  f_law_name : Addr
  d_law_name : FuncData
  F_law_name : Fun K "_law_name" "_law_name" s_law_name f_law_name d_law_name
  b_law_name : Binds K d_law_name ["_law_source_here", "_law_taken"] []
  m_law_name : mg "_law_name" = some (.ref f_law_name)
  f_law_places : Addr
  d_law_places : FuncData
  F_law_places : Fun K "_law_places" "_law_places" s_law_places f_law_places d_law_places
  b_law_places : Binds K d_law_places [] []
  m_law_places : mg "_law_places" = some (.ref f_law_places)
  f_law_group : Addr
  d_law_group : FuncData
  F_law_group : Fun K "_law_group" "_law_group" s_law_group f_law_group d_law_group
  b_law_group : Binds K d_law_group ["_law_name_here"] []
  m_law_group : mg "_law_group" = some (.ref f_law_group)
  f_law_group_names : Addr
  d_law_group_names : FuncData
  F_law_group_names : Fun K "_law_group_names" "_law_group_names" s_law_group_names f_law_group_names d_law_group_names
  b_law_group_names : Binds K d_law_group_names [] []
  m_law_group_names : mg "_law_group_names" = some (.ref f_law_group_names)
  f_law_refused : Addr
  d_law_refused : FuncData
  F_law_refused : Fun K "_law_refused" "_law_refused" s_law_refused f_law_refused d_law_refused
  b_law_refused : Binds K d_law_refused ["_law_work"] []
  m_law_refused : mg "_law_refused" = some (.ref f_law_refused)
  f_law : Addr
  d_law : FuncData
  F_law : Fun K "law" "law" s_law f_law d_law
  b_law : Binds K d_law ["_law_script"] []
  m_law : mg "law" = some (.ref f_law)
  m_int : mg "int" = none
  m_str : mg "str" = none
  m_isinstance : mg "isinstance" = none
  m_range : mg "range" = none
  m_len : mg "len" = none
  m_tuple : mg "tuple" = none
  a_GROUPS : Addr
  m_GROUPS : mg "GROUPS" = some (.ref a_GROUPS)
  e_GROUPS : Array DictEntry
  n_GROUPS : Nat
  kd_GROUPS : KDict K w a_GROUPS e_GROUPS n_GROUPS
  y_GROUPS : ∀ (j : Nat) (nm : Str) (ps : List Str), l_GROUPS[j]? = some (nm, ps) → ∃ u : Addr, PySem.W.nsIn K a_GROUPS nm = some (some (.ref u)) ∧ ∀ H : Hp, SqT K H u (ps.map V.str)
  z_GROUPS : ∀ z : Str, z ∉ l_GROUPS.map (·.1) → PySem.W.nsIn K a_GROUPS z = some none
  a_PLACES : Addr
  q_PLACES : ∀ H : Hp, SqT K H a_PLACES c_PLACES
  o_PLACES : ∃ o, K.lookup a_PLACES = some o ∧ o.cls = .type "tuple" ∧ o.dict = none
  m_PLACES : mg "PLACES" = some (.ref a_PLACES)
  c_law : Addr
  P_law : Addr
  G_law : FunC K "law" "law" s_law f_law d_law c_law
  C_BadGroup : Addr
  i_BadGroup : Addr
  er_BadGroup : PySem.SupX.ClsTxt P K mg C_BadGroup i_BadGroup "BadGroup"
  fn_BadGroup : PySem.SupX.FnTxt P K C_BadGroup i_BadGroup "group"
  xf_BadGroup : XfC K C_BadGroup
  te_BadGroup : PySem.W.exmOne K (.ref C_BadGroup) (.ref C_BadGroup) = some true

def lamQ : Str := (PyProof.Rows.envOfC "law" (defScope s_law) 0 0 .none).qual ++ "<lambda>"
def lamT {P : Program} {w : World} {K : PySem.W.Frag} {mg : Str → Option Value} (T : Txt P w K mg) : List (Addr × Str) := [(T.P_law, lamQ)]
def spLawT (K : PySem.W.Frag) (P : Addr) : Sp := fun vs H Q _ => ∃ (a : Addr) (ns : List Int), vs = [.ref a] ∧ SqL K H a (ns.map V.int) ∧ ns.length ≤ 63 ∧ H P = some (.tbl #[]) ∧ ∀ H', Q (.bl true) H'
theorem same_seqT {K : PySem.W.Frag} {H H' : Hp} {a : Addr} {xs : List V} (e : Same H H') (h : SqT K H a xs) : SqT K H' a xs := by
  rcases h with (h | ⟨o, h⟩) | h
  · exact .inl (.inl (e _ _ h))
  · exact .inl (.inr ⟨o, e _ _ h⟩)
  · exact .inr h
/-! ### the law's own data -/
def allL : List Str := namesL ++ placesL
theorem grp_in : ∀ q ∈ l_GROUPS, grpL q.1 = q.2 := by decide +kernel
theorem all_names {z : Str} (h : z ∉ allL) : z ∉ placesL ∧ z ∉ l_GROUPS.map (·.1) := ⟨fun q => h (List.mem_append_right _ q), fun q => h (List.mem_append_left _ q)⟩
theorem group_told {K : PySem.W.Frag} {w : World} {P : Program} {mg : Str → Option Value} (T : Txt P w K mg) {z : Str} (hz : z ∈ allL) {H : Hp} {Q : VK} {E : XK} (k : ∀ (u : Addr) (H' : Hp), Same H H' → SqT K H' u ((grpL z).map V.str) → Q (.ref u) H') : GrpA K T.C_BadGroup (.str z) H Q E := by
  refine .inl ⟨z, rfl, ?_⟩
  rcases List.mem_append.mp hz with q | q
  · obtain ⟨j, ps, hj⟩ := groups_at (l := l_GROUPS) (z := z) q
    refine .inl ⟨j, ps, hj, fun u hu => k u H (Same.refl H) ?_⟩
    have e := grp_in (z, ps) (List.mem_of_getElem? hj)
    rw [show grpL z = ps from e]
    exact hu H
  · refine .inr ⟨q, fun u hu => k u _ (Same.new hu) ?_⟩
    have hn : z ∉ namesL := fun q2 => names_no z q2 q
    rw [grp_out hn]
    exact SqT.of upd_same
theorem shaped_tup {l : List Str} (h : ∀ z ∈ l, PyData.strOk z = true) : SeqAt.shaped (.tuple (l.map PyData.str)) = true :=
  shaped_of (by rw [PyData.canLay0]; exact lay_strs l h) (by rw [PyData.depth]; have := depth_strs l; omega)
theorem eqv_tup {l : List Str} (h : ∀ z ∈ l, PyData.strOk z = true) : PyData.eqv (.tuple (l.map PyData.str)) (.tuple (l.map PyData.str)) = true :=
  SeqAt.eqv_refl _ (by rw [PyData.canLay0]; exact lay_strs l h)
theorem grp_ok : ∀ z ∈ allL, ∀ y ∈ grpL z, PyData.strOk y = true := by decide +kernel
/-- a value that is no group -/
def Bad (H : Hp) (v : V) : Prop := (∃ z : Str, v = .str z ∧ z ∉ allL ∧ PyData.strOk z = true) ∨ ∃ d, OddV H v d
theorem Bad.mv {H H' : Hp} {v : V} (o : Bad H v) (e : ∀ b u, (∀ ps, u ≠ .tbl ps) → H b = some u → H' b = some u) : Bad H' v := by
  rcases o with o | ⟨d, o⟩
  · exact .inl o
  · exact .inr ⟨d, o.mv e⟩
theorem Bad.same {H H' : Hp} {v : V} (o : Bad H v) (e : Same H H') : Bad H' v := o.mv fun b u _ q => e b u q
theorem Bad.dp {K : PySem.W.Frag} {H : Hp} {v : V} (o : Bad H v) : ∃ d, (∀ H', Bad H' v → (∀ b u, (∀ ps, u ≠ .tbl ps) → H b = some u → H' b = some u) → Dp K H' v d) ∧ d.canLay0 = true ∧ d.depth ≤ 2 := by
  rcases o with ⟨z, rfl, _, hz⟩ | ⟨d, o⟩
  · exact ⟨.str z, fun _ _ _ => .str z, by rw [PyData.canLay0]; exact hz, by simp [PyData.depth]⟩
  · refine ⟨d, fun H' _ e => ?_, ?_, ?_⟩
    · cases o with
      | non => exact .non
      | int i => exact .int i
      | lst h ok => exact .lst (SqL.of (e _ _ (fun ps z => by cases z) h)) (.cons (.str _) .nil)
      | tup h ok => exact .tup (SqT.of (e _ _ (fun ps z => by cases z) h)) (.cons (.str _) .nil)
    · cases o with
      | non => rfl
      | int i => rfl
      | @lst a z h ok => exact (by rw [PyData.canLay0]; exact lay_strs [z] (fun y hy => by rw [List.mem_singleton.mp hy]; exact ok))
      | @tup a z h ok => exact (by rw [PyData.canLay0]; exact lay_strs [z] (fun y hy => by rw [List.mem_singleton.mp hy]; exact ok))
    · cases o with
      | non => simp [PyData.depth]
      | int i => simp [PyData.depth]
      | @lst a z h ok => exact (by have := depth_strs [z]; rw [PyData.depth]; have e : PyData.depthAll [PyData.str z] ≤ 1 := this; omega)
      | @tup a z h ok => exact (by have := depth_strs [z]; rw [PyData.depth]; have e : PyData.depthAll [PyData.str z] ≤ 1 := this; omega)
def oddV (t1 t2 : Addr) : List V := [.str "", .str "Near", .str "near ", .str "<=", .str "-", .str "+", .str "same", .non, .int 5, .ref t1, .ref t2, .str "none none"]
theorem Bad.ext {H H' : Hp} {v : V} (o : Bad H v) (e : LamX.ExtN H H') : Bad H' v := o.mv fun b u n q => e b u q n
theorem Bad.grp {H : Hp} {v : V} (o : Bad H v) : (∃ z : Str, v = .str z ∧ z ∉ placesL ∧ z ∉ l_GROUPS.map (·.1)) ∨ ∃ d, OddV H v d := o.imp (fun ⟨z, e, h, _⟩ => ⟨z, e, all_names h⟩) id
theorem Bad.tur {H : Hp} {v : V} (o : Bad H v) : (∃ z : Str, v = .str z ∧ z ∉ placesL) ∨ ∃ d, OddV H v d := o.imp (fun ⟨z, e, h, _⟩ => ⟨z, e, (all_names h).1⟩) id
theorem shaped_one {d : PyData} (h1 : d.canLay0 = true) (h2 : d.depth ≤ 2) : SeqAt.shaped (.list [d]) = true :=
  shaped_of (by rw [PyData.canLay0, PyData.canLayAll0, h1]; rfl) (by simp [PyData.depth, PyData.depthAll]; omega)
theorem eqv_one {d : PyData} (h1 : d.canLay0 = true) : PyData.eqv (.list [d]) (.list [d]) = true := SeqAt.eqv_refl _ (by rw [PyData.canLay0, PyData.canLayAll0, h1]; rfl)
theorem odd_at {H : Hp} {t1 t2 : Addr} {z : Str} {j : Nat} {v : V} (h1 : H t1 = some (.tup [.str "near"])) (h2 : H t2 = some (.lst [.str "<"])) (hz : z ∉ allL) (ok : PyData.strOk z = true) (h : (oddV t1 t2 ++ [.str z])[j]? = some v) : Bad H v := by
  have m := List.mem_of_getElem? h
  simp only [oddV, List.cons_append, List.nil_append, List.mem_cons, List.not_mem_nil, or_false] at m
  rcases m with rfl | rfl | rfl | rfl | rfl | rfl | rfl | rfl | rfl | rfl | rfl | rfl | rfl
  · exact .inl ⟨_, rfl, by decide +kernel, by decide +kernel⟩
  · exact .inl ⟨_, rfl, by decide +kernel, by decide +kernel⟩
  · exact .inl ⟨_, rfl, by decide +kernel, by decide +kernel⟩
  · exact .inl ⟨_, rfl, by decide +kernel, by decide +kernel⟩
  · exact .inl ⟨_, rfl, by decide +kernel, by decide +kernel⟩
  · exact .inl ⟨_, rfl, by decide +kernel, by decide +kernel⟩
  · exact .inl ⟨_, rfl, by decide +kernel, by decide +kernel⟩
  · exact .inr ⟨_, .non⟩
  · exact .inr ⟨_, .int 5⟩
  · exact .inr ⟨_, .tup h1 (by decide +kernel)⟩
  · exact .inr ⟨_, .lst h2 (by decide +kernel)⟩
  · exact .inl ⟨_, rfl, by decide +kernel, by decide +kernel⟩
  · exact .inl ⟨_, rfl, hz, ok⟩
theorem z_free : zName 97 ∉ allL := by decide +kernel
theorem names_ok : ∀ z ∈ namesL, PyData.strOk z = true := by decide +kernel
section
variable {P : Program} {w : World} {K : PySem.W.Frag} {mg : Str → Option Value} {base : Heap}
theorem ok_law_source (T : Txt P w K mg) : FnOk P w K mg base CX0 1 T.f_law_source T.d_law_source ["_law_script"] (spSource K) := by
  refine T.F_law_source.ok sc_law_source (fun vs H Q E h => ?_) (fun cdv A outer s H vs Q E hr h => ?_)
  · obtain ⟨a, ns, rfl, _⟩ := h
    rfl
  · obtain ⟨a, ns, rfl, hS, k⟩ := h
    refine ⟨_, (pss_cons (ps_asg (pe_tup (pa_cons pe_int (pa_cons pe_int pa_nil))) (pg_tup (by rfl) (pgs_cons (pg_name (i := 1) sc_law_source.nd rfl (Or.inl rfl)) (pgs_cons (pg_name (i := 2) sc_law_source.nd rfl (Or.inl rfl)) pgs_nil))))
      (pss_cons (ps_for PassesOwn.never rfl (pi_list (pv 0)) (pg_name (i := 3) sc_law_source.nd rfl (Or.inl rfl))
      (pss_cons (ps_if (PW.pt (pw_and (pt_cmpR op_eq (pv 1) pe_int (nomark _)) (pw_and1 (pt_cmpR op_ge (pv 3) (pe_op op_pow pe_int pe_int) (nomark _)))))
      (pss_one (ps_set (i := 1) sc_law_source.nd rfl (Or.inl rfl) (pv 3)))
      pss_nil)
      (pss_one (ps_set (i := 2) sc_law_source.nd rfl (Or.inl rfl) (pe_op op_mod (pe_callTy call_int1 (by rfl) T.m_int (by decide +kernel) (pa_cons (pe_op op_add (pe_op op_add (pe_op op_mul (pv 2) pe_int) (pv 3)) pe_int) pa_nil)) pe_int)))))
      (pss_one (ps_ret (pe_lst (pa_cons (pv 1) (pa_cons (pv 2) (pa_cons pe_int pa_nil)))))))), ?_⟩
    refine ⟨by decide, fun p hp => ?_⟩
    have s1 : Same H (upd H p (.tup [.int 0, .int 17])) := Same.new hp
    refine ⟨_, _, rfl, SqT.of upd_same, rfl, ?_⟩
    walk_at "rd"
    refine ⟨⟨_, s1.seq hS⟩, for_list (K := K) (a := a) (xs := ns.map V.int) (fun i σ H' => ∃ (g s : Int) (v : Option V), σ = [some (.ref a), some (.int g), some (.int s), v] ∧ 0 ≤ s ∧ s < 2147483647 ∧ Same H H')
      ⟨0, 17, none, rfl, by decide, by decide, s1⟩ (fun i σ H' _ ⟨_, _, _, _, _, _, z⟩ => z.seq hS) ?_ ?_⟩
    · rintro i y σ H' hi ⟨g, s, v, rfl, s0, s2, z⟩
      obtain ⟨u, rfl⟩ : ∃ u, y = V.int u := by
        rw [List.getElem?_map] at hi
        cases e : ns[i]? with
        | none => rw [e] at hi; cases hi
        | some u => rw [e] at hi; exact ⟨u, (Option.some.inj hi).symm⟩
      have fin : ∀ g' : Int, ∃ (g'' s'' : Int) (v'' : Option V), ([some (V.ref a), some (V.int g'), some (V.int ((s * 31 + u + 7) % 2147483647)), some (V.int u)] : St) = [some (.ref a), some (.int g''), some (.int s''), v''] ∧ 0 ≤ s'' ∧ s'' < 2147483647 ∧ Same H H' :=
        fun g' => ⟨g', _, _, rfl, Int.emod_nonneg _ (by decide), Int.emod_lt_of_pos _ (by decide), z⟩
      walk_at "rd"
      refine ifd (fun cg => ?_) (fun cg => ?_)
      · walk_at "rd"
        refine ⟨⟨by decide, by decide, by decide⟩, ?_⟩
        walk_at "rd"
        refine ifd (fun ch => ?_) (fun ch => ?_)
        · walk_at "rd"
          refine ⟨Or.inr ⟨by decide, by decide⟩, ?_⟩
          walk_at "rd"
          refine Or.inl ?_
          walk_at "rd"
          refine ⟨(by decide : (0 : Int) < 2147483647), ?_⟩
          exact fin u
        · walk_at "rd"
          refine ⟨Or.inr ⟨by decide, by decide⟩, ?_⟩
          walk_at "rd"
          refine Or.inl ?_
          walk_at "rd"
          refine ⟨(by decide : (0 : Int) < 2147483647), ?_⟩
          exact fin g
      · walk_at "rd"
        refine ⟨Or.inr ⟨by decide, by decide⟩, ?_⟩
        walk_at "rd"
        refine Or.inl ?_
        walk_at "rd"
        refine ⟨(by decide : (0 : Int) < 2147483647), ?_⟩
        exact fin g
    · rintro σ H' ⟨g, s, v, rfl, s0, s2, z⟩
      walk_at "rd"
      refine ⟨by show 3 ≤ sizeLine; decide, fun p2 hp2 => ?_⟩
      exact k p2 _ (z.free hp2) (z.trans (Same.new hp2)) ⟨g, s, 0, upd_same, s0, s2, by decide, by decide⟩
theorem ok_law_draw (T : Txt P w K mg) : FnOk P w K mg base CX0 1 T.f_law_draw T.d_law_draw ["_law_source_here", "_law_many"] spDraw := by
  refine T.F_law_draw.ok sc_law_draw (fun vs H Q E h => ?_) (fun cdv A outer s H vs Q E hr h => ?_)
  · obtain ⟨p, m, n, rfl, _⟩ := h
    rfl
  · obtain ⟨p, m, n, rfl, S, hn, m0, m1, k⟩ := h
    refine ⟨_, (pss_cons (ps_asg (pe_op op_add (pe_ix ix_list (pv 0) pe_int (fun _ _ => rfl)) pe_int) (pg_sub (pv 0) pe_int set_list))
      (pss_cons (ps_if (pt_cmpR op_gt (pe_ix ix_list (pv 0) pe_int (fun _ _ => rfl)) pe_int (nomark _))
      (pss_cons (ps_set (i := 2) sc_law_draw.nd rfl (Or.inl rfl) (pe_op op_mod (pe_callTy call_int1 (by rfl) T.m_int (by decide +kernel) (pa_cons (pe_ix ix_list (pv 0) pe_int (fun _ _ => rfl)) pa_nil)) (pv 1)))
      (pss_cons (ps_asg (pe_op op_fdivW (pe_ix ix_list (pv 0) pe_int (fun _ _ => rfl)) (pv 1)) (pg_sub (pv 0) pe_int set_list))
      (pss_one (ps_ret (pv 2)))))
      pss_nil)
      (pss_cons (ps_set (i := 3) sc_law_draw.nd rfl (Or.inl rfl) (pe_op op_mod (pe_op op_pow (pe_op op_add (pe_ix ix_list (pv 0) pe_int (fun _ _ => rfl)) (pe_op op_mul pe_int (pe_ix ix_list (pv 0) pe_int (fun _ _ => rfl)))) pe_int) pe_int))
      (pss_one (ps_ret (pe_op op_mod (pe_op op_mod (pe_op op_pow (pe_op op_add (pe_op op_add (pe_op op_mul (pv 3) pe_int) (pe_op op_mul (pe_op op_mul pe_int (pe_ix ix_list (pv 0) pe_int (fun _ _ => rfl))) (pe_ix ix_list (pv 0) pe_int (fun _ _ => rfl)))) pe_int) pe_int) pe_int) (pv 1))))))), ?_⟩
    obtain ⟨g, s, c, hp, s0, s1, c0, c1⟩ := S
    walk_at "rd"
    refine ⟨_, _, _, _, rfl, rfl, SqL.of hp, rfl, ?_⟩
    walk_at "rd"
    refine ⟨_, _, _, _, rfl, rfl, hp, rfl, ?_⟩
    walk_at "rd"
    refine ifd (fun cg => ?_) (fun cg => ?_)
    · walk_at "rd"
      refine Or.inl ?_
      walk_at "rd"
      refine ⟨m0, ?_⟩
      walk_at "rd"
      refine ⟨wide_div (b := 64) m0 (by omega) (by decide) (by decide), ?_⟩
      walk_at "rd"
      exact k _ _ (Int.emod_nonneg g (by omega)) (Int.emod_lt_of_pos g m0) (((But.refl p H).upd).upd) ⟨g / m, s, c + 1, upd_same, s0, s1, by omega, by omega⟩
    · walk_at "rd"
      refine ⟨Or.inl ⟨by decide, by decide⟩, ?_⟩
      walk_at "rd"
      refine ⟨⟨by decide, by decide, by omega⟩, ?_⟩
      walk_at "rd"
      refine ⟨(by decide : (0 : Int) < 2147483629), ?_⟩
      have x0 := Int.emod_nonneg ((s + 7919 * (c + 1)) ^ Int.toNat 5) (by decide : (2147483629 : Int) ≠ 0)
      have x1 := Int.emod_lt_of_pos ((s + 7919 * (c + 1)) ^ Int.toNat 5) (by decide : (0 : Int) < 2147483629)
      walk_at "rd"
      refine ⟨Or.inr ⟨by decide, by decide⟩, ?_⟩
      walk_at "rd"
      refine ⟨Or.inl ⟨by decide, by decide⟩, ?_⟩
      walk_at "rd"
      refine ⟨Or.inr ⟨by omega, by omega⟩, ?_⟩
      walk_at "rd"
      refine ⟨draw_pow x0 x1 (by omega) (by omega), ?_⟩
      walk_at "rd"
      refine ⟨(by decide : (0 : Int) < 1000000007), ?_⟩
      walk_at "rd"
      refine ⟨m0, ?_⟩
      exact k _ _ (Int.emod_nonneg _ (by omega)) (Int.emod_lt_of_pos _ m0) ((But.refl p H).upd) ⟨g, s, c + 1, upd_same, s0, s1, by omega, by omega⟩
theorem ok_law_pick (T : Txt P w K mg) : FnOk P w K mg base CX0 2 T.f_law_pick T.d_law_pick ["_law_source_here", "_law_things"] (spPick K) := by
  refine T.F_law_pick.ok sc_law_pick (fun vs H Q E h => ?_) (fun cdv A outer s H vs Q E hr h => ?_)
  · obtain ⟨p, l, xs, n, rfl, _⟩ := h
    rfl
  · obtain ⟨p, l, xs, n, rfl, S, hn, hne, hS, h0, h1, k⟩ := h
    refine ⟨_, (pss_one (ps_ret (pe_ix ix_list (pv 1) (pe_call (ok_law_draw T) (hr.mono (by decide)) (by rfl) T.m_law_draw T.F_law_draw.kp T.b_law_draw .nil pass0 (pa_cons (pv 0) (pa_cons (pe_callB call_len_seq (by rfl) T.m_len (by decide +kernel) (pa_cons (pv 1) pa_nil)) pa_nil))) (fun _ _ => rfl)))), ?_⟩
    walk_at "rd"
    refine ⟨_, _, rfl, .inl hS, ?_⟩
    refine ⟨_, _, _, rfl, S, hn, by omega, by omega, fun d H' a b u S' => ?_⟩
    obtain ⟨j, rfl⟩ : ∃ j : Nat, d = j := ⟨d.toNat, by omega⟩
    have hj : xs[j]? = some (xs[j]'(by omega)) := List.getElem?_eq_getElem _
    exact ⟨_, _, _, _, rfl, rfl, sql_but hS u hne, at_of (by omega) hj, k j _ _ hj u S'⟩
def sizesL : List Int := [8, 4, 5, 6, 7, 1, 2, 3, 1, 2, 3, 1, 2]
theorem sizes_ok : ∀ j : _root_.Fin 13, 1 ≤ sizesL.getD j.val 0 ∧ sizesL.getD j.val 0 ≤ 8 := by decide +kernel
theorem letter_ok : ∀ j : _root_.Fin 26, (Str.ofString "abcdefghijklmnopqrstuvwxyz").cps.toList[j.val]? = some (97 + j.val) := by decide +kernel
theorem zletter_ok : ∀ j : _root_.Fin 17, (Str.ofString "abcdefghijklmnopq").cps[j.val]? = some (97 + j.val) := by decide +kernel
theorem zletter_size : (Str.ofString "abcdefghijklmnopq").cps.size = 17 := by decide +kernel
theorem five_ok : ∀ z ∈ ([Str.ofString "keep", "pass", "none", "near", "answer"] : List Str), (decide (1 ≤ z.cps.size) && decide (z.cps.size ≤ 8) && z.cps.toList.all fun c => decide (97 ≤ c) && decide (c ≤ 122)) = true := by decide +kernel
theorem five_name {z : Str} (h : z ∈ ([Str.ofString "keep", "pass", "none", "near", "answer"] : List Str)) : IsName z := by
  have q := five_ok z h
  rw [Bool.and_eq_true, Bool.and_eq_true, List.all_eq_true] at q
  obtain ⟨⟨q1, q2⟩, q3⟩ := q
  refine ⟨of_decide_eq_true q1, of_decide_eq_true q2, fun c hc => ?_⟩
  have q := q3 c hc
  rw [Bool.and_eq_true] at q
  exact ⟨of_decide_eq_true q.1, of_decide_eq_true q.2⟩
theorem ok_law_name (T : Txt P w K mg) : FnOk P w K mg base CX0 2 T.f_law_name T.d_law_name ["_law_source_here", "_law_taken"] (spName K) := by
  refine T.F_law_name.ok sc_law_name (fun vs H Q E h => ?_) (fun cdv A outer s H vs Q E hr h => ?_)
  · obtain ⟨p, l, xs, n, rfl, _⟩ := h
    rfl
  · obtain ⟨p, l, tk, n, rfl, S, hn, hne, hS, hc, k⟩ := h
    refine ⟨_, (pss_cons (ps_set (i := 2) sc_law_name.nd rfl (Or.inl rfl) (pe_ix ix_list (pe_lst (pa_cons pe_int (pa_cons pe_int (pa_cons pe_int (pa_cons pe_int (pa_cons pe_int (pa_cons pe_int (pa_cons pe_int (pa_cons pe_int (pa_cons pe_int (pa_cons pe_int (pa_cons pe_int (pa_cons pe_int (pa_cons pe_int pa_nil)))))))))))))) (pe_call (ok_law_draw T) (hr.mono (by decide)) (by rfl) T.m_law_draw T.F_law_draw.kp T.b_law_draw .nil pass0 (pa_cons (pv 0) (pa_cons pe_int pa_nil))) (fun _ _ => rfl)))
      (pss_cons (ps_set (i := 3) sc_law_name.nd rfl (Or.inl rfl) (pe_join pe_str (pe_lc (own := [("_law_k", 4)]) (by rfl) sc_law_name.nd (pi_range1 (by rfl) T.m_range (pa_cons (pv 2) pa_nil)) (blkOk_by (own := [("_law_k", 4)]) (N := ["_law_source_here", "_law_taken", "_law_size", "_law_name_here", "_law_k", "_law_one", "_law_letter"]) (sc := defScope s_law_name) (by decide +kernel)) (fun _ _ _ _ _ => (pg_name (i := 4) sc_law_name.nd rfl (Or.inl rfl))) (fun _ _ _ _ _ => pts_nil) (fun _ _ _ _ _ => (pe_ix ix_str pe_str (pe_call (ok_law_draw T) (hr.mono (by decide)) (by rfl) T.m_law_draw T.F_law_draw.kp T.b_law_draw .nil pass0 (pa_cons (pv 0) (pa_cons pe_int pa_nil))) (fun _ _ => rfl))))))
      (C8.pss_cut (ps_if (pt_chain op_lt op_lt pe_int (pv 2) pe_int)
      (pss_one (ps_set (i := 3) sc_law_name.nd rfl (Or.inl rfl) (pe_ix ix_list (pe_lst (pa_cons pe_str (pa_cons pe_str (pa_cons pe_str (pa_cons pe_str (pa_cons pe_str (pa_cons (pe_op op_add_str pe_str (pe_slice sl_str (pv 3) (po_some pe_int) po_none)) pa_nil))))))) (pe_call (ok_law_draw T) (hr.mono (by decide)) (by rfl) T.m_law_draw T.F_law_draw.kp T.b_law_draw .nil pass0 (pa_cons (pv 0) (pa_cons pe_int pa_nil))) (fun _ _ => rfl))))
      pss_nil)
      (pss_cons (ps_if (pt_cmpR op_notIn_seq (pv 3) (pv 1) (by rfl))
      (pss_one (ps_ret (pv 3)))
      pss_nil)
      (pss_one (ps_ret (pe_ix ix_list (pe_lc (own := [("_law_one", 5)]) (by rfl) sc_law_name.nd (pi_list (pe_lc (own := [("_law_letter", 6)]) (by rfl) sc_law_name.nd (pi_str pe_str) (blkOk_by (own := [("_law_letter", 6)]) (N := ["_law_source_here", "_law_taken", "_law_size", "_law_name_here", "_law_k", "_law_one", "_law_letter"]) (sc := defScope s_law_name) (by decide +kernel)) (fun _ _ _ _ _ => (pg_name (i := 6) sc_law_name.nd rfl (Or.inl rfl))) (fun _ _ _ _ _ => pts_nil) (fun _ _ _ _ _ => (pe_op op_add_str pe_str (pv 6))))) (blkOk_by (own := [("_law_one", 5)]) (N := ["_law_source_here", "_law_taken", "_law_size", "_law_name_here", "_law_k", "_law_one", "_law_letter"]) (sc := defScope s_law_name) (by decide +kernel)) (fun _ _ _ _ _ => (pg_name (i := 5) sc_law_name.nd rfl (Or.inl rfl))) (fun _ _ _ _ _ => (pts_one (pt_cmpR (show OpR _ _ (rIn K true) from op_notIn_seq) (pv 5) (pv 1) (by rfl)))) (fun _ _ _ _ _ => (pv 5))) pe_int (fun _ _ => rfl)))))))), ?_⟩
    refine ⟨by show 13 ≤ sizeLine; decide, fun l0 hl0 => ?_⟩
    generalize hH : upd _ l0 _ = H1
    obtain ⟨s1, d1⟩ := new_of (o' := .lst (sizesL.map V.int)) hH hl0 rfl
    clear hH
    have pl : l0 ≠ p := S.ne hl0
    walk_at "rd"
    refine ⟨_, _, _, rfl, S.same s1, by omega, by omega, by omega, fun d H2 a b u2 S2 => ?_⟩
    obtain ⟨j, rfl⟩ : ∃ j : Nat, d = j := ⟨d.toNat, by omega⟩
    have hj : (sizesL.map V.int)[j]? = some (V.int (sizesL.getD j 0)) := by
      rw [List.getElem?_map, List.getElem?_eq_getElem (show j < sizesL.length by show j < 13; omega)]
      rw [List.getD_eq_getElem?_getD, List.getElem?_eq_getElem (show j < sizesL.length by show j < 13; omega)]
      rfl
    have sz := sizes_ok ⟨j, by omega⟩
    have sz1 : 1 ≤ sizesL.getD j 0 := sz.1
    have sz8 : sizesL.getD j 0 ≤ 8 := sz.2
    generalize sizesL.getD j 0 = sz at hj sz1 sz8
    refine ⟨_, _, _, _, rfl, rfl, SqL.of (u2 _ _ pl d1), at_of rfl hj, ?_⟩
    walk_at "rd"
    refine ⟨⟨_, rfl⟩, ?_⟩
    walk_at "rd"
    refine ⟨by omega, by omega, fun D hD => ?_⟩
    have pD : D ≠ p := S2.ne hD
    have u02 : But p H H2 := (Same.but s1).trans u2
    have hD0 : H D = none := but_free u02 pD hD
    refine lc_range (lo := 0) (n := sz.toNat) (fun i H' => ∃ cs : List Nat, cs.length = i ∧ (∀ c ∈ cs, small c) ∧ But p H H' ∧ H' D = some (.lst ((cs.map one).map V.str)) ∧ Src H' p (n + 1 + (i : Int)))
      ⟨[], rfl, (fun c hc => nomatch hc), but_new u02 hD0, upd_same, (S2.same (Same.new hD)).le (by omega)⟩ ?_ ?_
    · rintro i H' hi ⟨cs, rfl, hl, u', hD', S'⟩
      refine ⟨rfl, ?_⟩
      walk_at "rd"
      refine ⟨_, _, _, rfl, S', by omega, by omega, by omega, fun d' H4 a' b' u4 S4 => ?_⟩
      obtain ⟨j', rfl⟩ : ∃ j : Nat, d' = j := ⟨d'.toNat, by omega⟩
      have hl' := letter_ok ⟨j', by omega⟩
      refine ⟨_, _, _, rfl, rfl, by decide +kernel, at_any hl', ?_⟩
      refine ⟨_, u4 _ _ pD hD', ?_, ⟨cs ++ [97 + j'], by simp, ?_, ?_, ?_, ?_⟩⟩
      · rw [List.length_map, List.length_map]
        exact Nat.lt_of_lt_of_le (by omega : cs.length < 8) (by decide)
      · intro c hc
        rcases List.mem_append.mp hc with q | q
        · exact hl c q
        · have : c = 97 + j' := by simpa using q
          subst this
          exact ⟨by omega, by omega⟩
      · exact but_new (u'.trans u4) hD0
      · rw [upd_same, List.map_append, List.map_append]
        rfl
      · refine (S4.but (q := D) ?_ pD.symm).le ?_
        · exact (But.refl D _).upd
        · show _ ≤ n + 1 + ((cs.length + 1 : Nat) : Int)
          omega
    rintro H3 ⟨cs, hlen, hl, u3, hD3, S3⟩
    refine ⟨_, _, cs.map one, rfl, rfl, .inl (SqL.of hD3), ?_, ?_⟩
    · have e : ((cs.map one).map (·.length)).sum = cs.length := by
        clear hl hlen hD3
        induction cs with
        | nil => rfl
        | cons c r ih =>
          rw [List.map_cons, List.map_cons, List.sum_cons, ih, List.length_cons]
          show 1 + r.length = _
          omega
      rw [e]
      show cs.length + (cs.map one).length * 0 ≤ _
      omega
    rw [join_ones]
    have nm := name_of (cs := cs) (by omega) (by omega) hl
    generalize (⟨cs.toArray⟩ : Str) = z at nm
    have S3' := S3.le (show _ ≤ n + 9 by omega)
    clear S3 hD3 hl hlen
    walk_at "rd"
    have v456 : ∃ v4 v5 v6 : Option V, ([some (.ref p), some (.ref l), some (.int sz), some (.str z), none, none, none] : St) = [some (.ref p), some (.ref l), some (.int sz), some (.str z), v4, v5, v6] := ⟨_, _, _, rfl⟩
    refine ⟨fun σ H' => ∃ (y : Str) (v4 v5 v6 : Option V), σ = [some (.ref p), some (.ref l), some (.int sz), some (.str y), v4, v5, v6] ∧ IsName y ∧ But p H H' ∧ Src H' p (n + 10), ?_, ?_⟩
    · have stay : ∃ (y : Str) (v4 v5 v6 : Option V), ([some (.ref p), some (.ref l), some (.int sz), some (.str z), none, none, none] : St) = [some (.ref p), some (.ref l), some (.int sz), some (.str y), v4, v5, v6] ∧ IsName y ∧ But p H H3 ∧ Src H3 p (n + 10) :=
        ⟨z, none, none, none, rfl, nm, u3, S3'.le (by omega)⟩
      walk_at "rd"
      refine ifd (fun _ => ?_) (fun _ => ?_)
      · walk_at "rd"
        refine ifd (fun _ => ?_) (fun _ => ?_)
        · walk_at "rd"
          refine ⟨Nat.le_trans nm.len (by decide), _, _, rfl, rfl, ?_, ?_⟩
          · have q := cutS_length z (some 1) none
            have q8 : z.length ≤ 8 := nm.len
            show 1 + _ ≤ _
            exact Nat.le_trans (by omega : 1 + (cutS z (some 1) none).length ≤ 9) (by decide)
          have nq := name_q nm
          generalize (Str.ofString "q" ++ cutS z (some 1) none) = zq at nq
          refine ⟨by show 6 ≤ sizeLine; decide, fun l1 hl1 => ?_⟩
          generalize hH : upd _ l1 _ = H4
          obtain ⟨s4, d4⟩ := new_of (o' := .lst (([Str.ofString "keep", "pass", "none", "near", "answer", zq] : List Str).map V.str)) hH hl1 rfl
          clear hH
          have p1 : l1 ≠ p := S3'.ne hl1
          walk_at "rd"
          refine ⟨_, _, _, rfl, S3'.same s4, by omega, by omega, by omega, fun d' H5 a' b' u5 S5 => ?_⟩
          obtain ⟨j', rfl⟩ : ∃ j : Nat, d' = j := ⟨d'.toNat, by omega⟩
          have hj' : j' < ([Str.ofString "keep", "pass", "none", "near", "answer", zq] : List Str).length := by show j' < 6; omega
          have hy := List.getElem?_eq_getElem hj'
          have ny : IsName ([Str.ofString "keep", "pass", "none", "near", "answer", zq] : List Str)[j'] := by
            have q : ([Str.ofString "keep", "pass", "none", "near", "answer", zq] : List Str)[j'] ∈ ([Str.ofString "keep", "pass", "none", "near", "answer"] : List Str) ++ [zq] := List.getElem_mem hj'
            rcases List.mem_append.mp q with q | q
            · exact five_name q
            · rw [List.mem_singleton.mp q]
              exact nq
          generalize ([Str.ofString "keep", "pass", "none", "near", "answer", zq] : List Str)[j'] = y at hy ny
          refine ⟨_, _, _, _, rfl, rfl, SqL.of (u5 _ _ p1 d4), at_any (by rw [List.getElem?_map, hy]; rfl), ?_⟩
          exact ⟨y, none, none, none, rfl, ny, (u3.trans (Same.but s4)).trans u5, S5.le (by omega)⟩
        · exact stay
      · walk_at "rd"
        exact stay
    rintro σ H5 ⟨y, v4, v5, v6, rfl, nm', u5, S5⟩
    walk_at "rd"
    refine ⟨_, _, rfl, .inl (sql_but hS u5 hne), rfl, flat_strs tk, ?_⟩
    refine ⟨!decide (y ∈ tk), congrArg (fun b => V.bl (!b)) (inV_strs y tk), ?_⟩
    by_cases hin : y ∈ tk
    · rw [decide_eq_true hin]
      refine iteF ?_
      clear u2 S2 d1 s1 hD pD hD0 u02 S3' u3 nm v456
      walk_at "rd"
      refine fun D1 hD1 => ?_
      refine lc_it (walk_str (z := Str.ofString "abcdefghijklmnopq")) (fun i H' => Same H5 H' ∧ H' D1 = some (.lst ((zNames i).map V.str))) ⟨Same.new hD1, upd_same⟩ (fun _ _ _ _ => trivial) ?_ ?_
      · rintro i x H6 H7 hi ⟨s6, d6⟩ ⟨rfl, c, hc', rfl⟩
        rw [zletter_size] at hi
        have q := zletter_ok ⟨i, hi⟩
        have q' : c = 97 + i := Option.some.inj (hc'.symm.trans q)
        subst q'
        refine ⟨rfl, ?_⟩
        walk_at "rd"
        refine ⟨by show 1 + 1 ≤ sizeLine; decide, ?_⟩
        refine ⟨_, d6, ?_, ?_, ?_⟩
        · rw [List.length_map, zNames, List.length_map, List.length_range]
          exact Nat.lt_of_lt_of_le hi (by decide)
        · exact fun b o e => by
            rw [upd_ne (fun q => by rw [q, hD1] at e; cases e)]
            exact s6 b o e
        · rw [upd_same, zNames_more, List.map_append]
          rfl
      rintro H6 ⟨s6, d6⟩
      rw [zletter_size] at d6
      refine ⟨D1, rfl, ⟨_, SqL.of d6⟩, fun D2 hD2 => ?_⟩
      have hS6 : SqL K H6 l (tk.map V.str) := s6.seq (sql_but hS u5 hne)
      refine lc_list (K := K) (a := D1) (xs := (zNames 17).map V.str) (fun i H' => Same H6 H' ∧ H' D2 = some (.lst ((((zNames 17).take i).filter fun z => !decide (z ∈ tk)).map V.str))) ⟨Same.new hD2, upd_same⟩ (fun i H' _ h => h.1.seq (SqL.of d6)) ?_ ?_
      · rintro i x H7 hx ⟨s7, d7⟩
        obtain ⟨z', rfl, hz⟩ := str_at hx
        have hi : i < 17 := by
          have := (List.getElem?_eq_some_iff.mp hz).1
          simpa [zNames] using this
        refine ⟨rfl, ?_⟩
        walk_at "rd"
        refine ⟨_, _, rfl, s7.seq hS6 |> .inl, rfl, flat_strs tk, ?_⟩
        refine ⟨!decide (z' ∈ tk), congrArg (fun b => V.bl (!b)) (inV_strs z' tk), ?_⟩
        rw [take_more hz, List.filter_append]
        by_cases hin' : z' ∈ tk
        · rw [decide_eq_true hin']
          refine iteF ⟨s7, ?_⟩
          rw [List.filter_cons, decide_eq_true hin', if_neg (by decide), List.filter_nil, List.append_nil]
          exact d7
        · rw [decide_eq_false hin']
          refine iteT ?_
          walk_at "rd"
          refine ⟨_, d7, ?_, ?_, ?_⟩
          · rw [List.length_map]
            refine Nat.lt_of_le_of_lt (List.length_filter_le _ _) ?_
            rw [List.length_take]
            exact Nat.lt_of_le_of_lt (Nat.min_le_left _ _) (Nat.lt_of_lt_of_le hi (by decide))
          · exact fun b o e => by
              rw [upd_ne (fun q => by rw [q, hD2] at e; cases e)]
              exact s7 b o e
          · rw [upd_same, List.filter_cons, decide_eq_false hin', if_pos (by decide), List.filter_nil, List.map_append]
            rfl
      rintro H7 ⟨s7, d7⟩
      rw [List.length_map, List.take_length] at d7
      obtain ⟨c, c1, c2, c3⟩ := hc
      have hne' : zName c ∈ (zNames 17).filter fun z => !decide (z ∈ tk) := List.mem_filter.mpr ⟨zNames_has c1 c2, by rw [decide_eq_false c3]; rfl⟩
      generalize hF : ((zNames 17).filter fun z => !decide (z ∈ tk)) = F at d7 hne'
      cases F with
      | nil => cases hne'
      | cons z0 r =>
        have hz0 : z0 ∈ (zNames 17).filter fun z => !decide (z ∈ tk) := by rw [hF]; exact List.mem_cons_self
        obtain ⟨h1, h2⟩ := List.mem_filter.mp hz0
        have h3 : z0 ∉ tk := fun q => by rw [decide_eq_true q] at h2; cases h2
        walk_at "rd"
        refine ⟨_, _, _, _, rfl, rfl, SqL.of d7, at_any (j := 0) rfl, ?_⟩
        exact k z0 H7 (zNames_is h1) h3 ((u5.trans (Same.but s6)).trans (Same.but s7)) ((S5.same s6).same s7)
    · rw [decide_eq_false hin]
      refine iteT ?_
      walk_at "rd"
      exact k y H5 nm' hin u5 S5
theorem ok_law_places (T : Txt P w K mg) : FnOk P w K mg base CX0 1 T.f_law_places T.d_law_places [] spPlaces := by
  refine T.F_law_places.ok sc_law_places (fun vs H Q E h => ?_) (fun cdv A outer s H vs Q E hr h => ?_)
  · obtain ⟨rfl, _⟩ := h
    rfl
  · obtain ⟨rfl, k⟩ := h
    refine ⟨_, (pss_one (ps_ret (pe_lst (pa_cons pe_str (pa_cons pe_str (pa_cons pe_str (pa_cons pe_str (pa_cons pe_str (pa_cons pe_str (pa_cons pe_str (pa_cons pe_str (pa_cons pe_str (pa_cons pe_str (pa_cons pe_str pa_nil)))))))))))))), ?_⟩
    exact ⟨by show 11 ≤ sizeLine; decide, k⟩
theorem ok_law_group_names (T : Txt P w K mg) : FnOk P w K mg base CX0 1 T.f_law_group_names T.d_law_group_names [] spGroupNames := by
  refine T.F_law_group_names.ok sc_law_group_names (fun vs H Q E h => ?_) (fun cdv A outer s H vs Q E hr h => ?_)
  · obtain ⟨rfl, _⟩ := h
    rfl
  · obtain ⟨rfl, k⟩ := h
    refine ⟨_, (pss_one (ps_ret (pe_lst (pa_cons pe_str (pa_cons pe_str (pa_cons pe_str (pa_cons pe_str (pa_cons pe_str (pa_cons pe_str (pa_cons pe_str (pa_cons pe_str (pa_cons pe_str pa_nil)))))))))))), ?_⟩
    exact ⟨by show 9 ≤ sizeLine; decide, k⟩
theorem ok_law_group (T : Txt P w K mg) : FnOk P w K mg base CX0 2 T.f_law_group T.d_law_group ["_law_name_here"] spLawGroup := by
  refine T.F_law_group.ok sc_law_group (fun vs H Q E h => ?_) (fun cdv A outer s H vs Q E hr h => ?_)
  · obtain ⟨z, rfl, _⟩ := h
    rfl
  · obtain ⟨z, rfl, k⟩ := h
    refine ⟨_, (pss_cons (ps_set (i := 1) sc_law_group.nd rfl (Or.inl rfl) (pe_call0 (ok_law_places T) (hr.mono (by decide)) (by rfl) T.m_law_places T.F_law_places.kp T.b_law_places .nil pass0))
      (pss_cons (ps_set (i := 2) sc_law_group.nd rfl (Or.inl rfl) (pe_disp (pps_cons pe_str (pv 1) (pps_cons pe_str (pe_slice sl_list (pv 1) (po_some pe_int) (po_some pe_int)) (pps_cons pe_str (pe_op op_cat (pe_slice sl_list (pv 1) po_none (po_some pe_int)) (pe_slice sl_list (pv 1) (po_some pe_int) po_none)) (pps_cons pe_str (pe_slice sl_list (pv 1) po_none (po_some pe_int)) (pps_cons pe_str (pe_slice sl_list (pv 1) (po_some pe_int) po_none) pps_nil))))) (by rfl) (by rfl) (fun z => by cases z) (by decide)))
      (pss_cons (ps_expr (pe_dupd (pv 2) (pe_disp (pps_cons pe_str (pe_slice sl_list (pv 1) po_none (po_some pe_int)) (pps_cons pe_str (pe_slice sl_list (pv 1) (po_some pe_int) po_none) (pps_cons pe_str (pe_slice sl_list (pv 1) (po_some pe_int) (po_some pe_int)) (pps_cons pe_str (pe_lst pa_nil) pps_nil)))) (by rfl) (by rfl) (fun z => by cases z) (by decide)) ⟨rfl, rfl, rfl, rfl⟩))
      (pss_one (ps_ret (pe_dget2 (hu_of hr) (pv 2) (pv 0) (pe_lst (pa_cons (pv 0) pa_nil)) ⟨rfl, rfl, rfl, rfl⟩)))))), ?_⟩
    refine ⟨rfl, fun r hr' => ?_⟩
    generalize hH : upd _ r _ = H1
    obtain ⟨s1, dr⟩ := new_of (o' := .lst (placesL.map V.str)) hH hr' rfl
    clear hH
    walk_at "rd"
    refine fun D hD => ?_
    generalize hH : upd _ D _ = H2
    obtain ⟨s2, dD⟩ := new_of (o' := .dK []) hH hD rfl
    clear hH
    walk_at "rd"
    have dr2 := s2 _ _ dr
    refine ⟨_, _, rfl, SqL.of dr2, fun a3 h3 => ?_⟩
    generalize hH : upd _ a3 _ = H3
    obtain ⟨s3, d3⟩ := new_of (o' := .lst (nearL.map V.str)) hH h3 (by kernel_rfl)
    clear hH
    have r3 := s3 _ _ dr2
    walk_at "rd"
    refine ⟨_, _, rfl, SqL.of r3, fun a4 h4 => ?_⟩
    generalize hH : upd _ a4 _ = H4
    obtain ⟨s4, d4⟩ := new_of (o' := .lst (underL.map V.str)) hH h4 (by kernel_rfl)
    clear hH
    have r4 := s4 _ _ r3
    walk_at "rd"
    refine ⟨_, _, rfl, SqL.of r4, fun a5 h5 => ?_⟩
    generalize hH : upd _ a5 _ = H5
    obtain ⟨s5, d5⟩ := new_of (o' := .lst (overL.map V.str)) hH h5 (by kernel_rfl)
    clear hH
    have r5 := s5 _ _ r4
    refine ⟨_, _, _, _, rfl, rfl, s5 _ _ d4, d5, by show 4 ≤ sizeLine; decide, fun a6 h6 => ?_⟩
    generalize hH : upd _ a6 _ = H6
    obtain ⟨s6, d6⟩ := new_of (o' := .lst ((underL ++ overL).map V.str)) hH h6 (by kernel_rfl)
    clear hH
    have r6 := s6 _ _ r5
    walk_at "rd"
    refine ⟨_, _, rfl, SqL.of r6, fun a7 h7 => ?_⟩
    generalize hH : upd _ a7 _ = H7
    obtain ⟨s7, d7⟩ := new_of (o' := .lst (lessL.map V.str)) hH h7 (by kernel_rfl)
    clear hH
    have r7 := s7 _ _ r6
    walk_at "rd"
    refine ⟨_, _, rfl, SqL.of r7, fun a8 h8 => ?_⟩
    generalize hH : upd _ a8 _ = H8
    obtain ⟨s8, d8⟩ := new_of (o' := .lst (moreL.map V.str)) hH h8 (by kernel_rfl)
    clear hH
    have r8 := s8 _ _ r7
    have e28 : Same H2 H8 := ((((s3.trans s4).trans s5).trans s6).trans s7).trans s8
    refine ⟨e28 _ _ dD, [(.inr "any", .ref r), (.inr "near", .ref a3), (.inr "far", .ref a6), (.inr "less", .ref a7), (.inr "more", .ref a8)], rfl, by show 5 ≤ 15; decide, ?_⟩
    generalize hH : upd _ D _ = H9
    obtain ⟨u9, d9⟩ := chg_of (o' := .dK [(.inr "any", .ref r), (.inr "near", .ref a3), (.inr "far", .ref a6), (.inr "less", .ref a7), (.inr "more", .ref a8)]) hH (by kernel_rfl)
    clear hH
    have rD : r ≠ D := fun q => by rw [q, hD] at dr; cases dr
    have r9 := u9 _ _ rD r8
    walk_at "rd"
    refine ⟨.inl ⟨_, .inl d9⟩, fun D2 hD2 => ?_⟩
    generalize hH : upd _ D2 _ = H10
    obtain ⟨s10, d10⟩ := new_of (o' := .dK []) hH hD2 rfl
    clear hH
    have r10 := s10 _ _ r9
    walk_at "rd"
    refine ⟨_, _, rfl, SqL.of r10, fun b1 g1 => ?_⟩
    generalize hH : upd _ b1 _ = H11
    obtain ⟨s11, d11⟩ := new_of (o' := .lst (underL.map V.str)) hH g1 (by kernel_rfl)
    clear hH
    have r11 := s11 _ _ r10
    walk_at "rd"
    refine ⟨_, _, rfl, SqL.of r11, fun b2 g2 => ?_⟩
    generalize hH : upd _ b2 _ = H12
    obtain ⟨s12, d12⟩ := new_of (o' := .lst (overL.map V.str)) hH g2 (by kernel_rfl)
    clear hH
    have r12 := s12 _ _ r11
    walk_at "rd"
    refine ⟨_, _, rfl, SqL.of r12, fun b3 g3 => ?_⟩
    generalize hH : upd _ b3 _ = H13
    obtain ⟨s13, d13⟩ := new_of (o' := .lst (cellL.map V.str)) hH g3 (by kernel_rfl)
    clear hH
    have r13 := s13 _ _ r12
    walk_at "rd"
    refine ⟨by show 0 ≤ sizeLine; decide, fun b4 g4 => ?_⟩
    generalize hH : upd _ b4 _ = H14
    obtain ⟨s14, d14⟩ := new_of (o' := .lst []) hH g4 (by kernel_rfl)
    clear hH
    have e : Same H10 H14 := ((s11.trans s12).trans s13).trans s14
    walk_at "rd"
    refine ⟨e _ _ d10, [(.inr "under", .ref b1), (.inr "over", .ref b2), (.inr "cell", .ref b3), (.inr "none", .ref b4)], rfl, by show 4 ≤ 15; decide, ?_⟩
    generalize hH : upd _ D2 _ = H15
    obtain ⟨u15, d15⟩ := chg_of (o' := .dK [(.inr "under", .ref b1), (.inr "over", .ref b2), (.inr "cell", .ref b3), (.inr "none", .ref b4)]) hH (by kernel_rfl)
    clear hH
    have DD : D ≠ D2 := fun q => by rw [← q, d9] at hD2; cases hD2
    have s9e : Same H9 H14 := s10.trans e
    refine ⟨_, _, _, rfl, u15 _ _ DD (s9e _ _ d9), d15, DD, by show 5 + 4 ≤ sizeLine; decide, ?_⟩
    generalize hH : upd _ D _ = H16
    obtain ⟨u16, d16⟩ := chg_of (o' := .dK (gdK r a3 a6 a7 a8 b1 b2 b3 b4)) hH (by kernel_rfl)
    clear hH
    walk_at "rd"
    refine ⟨.inl ⟨_, .inl d16⟩, ?_⟩
    walk_at "rd"
    refine ⟨by show 1 ≤ sizeLine; decide, fun c hc => ?_⟩
    have S9 : Same H H9 := same_but ((s1.trans s2).trans e28) u9 (s1.free hD)
    have S16 : Same H H16 := same_but (same_but (S9.trans s9e) u15 (S9.free hD2)) u16 (s1.free hD)
    have D8 : H8 D = some (.dK []) := e28 _ _ dD
    have D14 := s9e _ _ d9
    have D214 : H14 D2 = some (.dK []) := e _ _ d10
    generalize hH : upd _ c _ = H17
    obtain ⟨s17, d17⟩ := new_of (o' := .lst [.str z]) hH hc rfl
    clear hH
    have S17 : Same H H17 := S16.trans s17
    have m2 : ∀ b xs, H14 b = some (.lst xs) → H17 b = some (.lst xs) := fun b xs q =>
      s17 _ _ (u16 _ _ (fun z => by rw [z, D14] at q; cases q) (u15 _ _ (fun z => by rw [z, D214] at q; cases q) q))
    have m1 : ∀ b xs, H8 b = some (.lst xs) → H17 b = some (.lst xs) := fun b xs q => m2 b xs (s9e _ _ (u9 _ _ (fun z => by rw [z, D8] at q; cases q) q))
    refine ⟨_, DGet.k (k := .inr z) (s17 _ _ d16), ?_⟩
    clear hc dD dr
    by_cases h : z ∈ namesL
    · have pick : ∀ (y : Str) (b : Addr) (xs : List Str), z = y → valV (gdK r a3 a6 a7 a8 b1 b2 b3 b4) (Sum.inr y) = some (.ref b) →
          grpL y = xs → H17 b = some (.lst (xs.map V.str)) → Q ((valV (gdK r a3 a6 a7 a8 b1 b2 b3 b4) (Sum.inr z)).getD (.ref c)) H17 := fun y b xs e1 e2 e3 e4 => by
        subst e1
        rw [e2]
        exact k b H17 S17 (by rw [e3]; exact e4)
      simp only [namesL, List.mem_cons, List.not_mem_nil, or_false] at h
      rcases h with h | h | h | h | h | h | h | h | h
      · exact pick _ r placesL h (by kernel_rfl) (by decide +kernel) (m1 _ _ r8)
      · exact pick _ a3 nearL h (by kernel_rfl) (by decide +kernel) (m1 _ _ ((((s4.trans s5).trans s6).trans s7).trans s8 _ _ d3))
      · exact pick _ a6 (underL ++ overL) h (by kernel_rfl) (by decide +kernel) (m1 _ _ ((s7.trans s8) _ _ d6))
      · exact pick _ a7 lessL h (by kernel_rfl) (by decide +kernel) (m1 _ _ (s8 _ _ d7))
      · exact pick _ a8 moreL h (by kernel_rfl) (by decide +kernel) (m1 _ _ d8)
      · exact pick _ b1 underL h (by kernel_rfl) (by decide +kernel) (m2 _ _ (((s12.trans s13).trans s14) _ _ d11))
      · exact pick _ b2 overL h (by kernel_rfl) (by decide +kernel) (m2 _ _ ((s13.trans s14) _ _ d12))
      · exact pick _ b3 cellL h (by kernel_rfl) (by decide +kernel) (m2 _ _ (s14 _ _ d13))
      · exact pick _ b4 [] h (by kernel_rfl) (by decide +kernel) (m2 _ _ d14)
    · rw [valV_out]
      · exact k c H17 S17 (by rw [grp_out h]; exact d17)
      · intro q hq e
        have hq' : q.1 ∈ namesL.map (Sum.inr : Str → Key) := by
          exact (List.mem_map.mpr ⟨q, hq, rfl⟩ : q.1 ∈ (gdK r a3 a6 a7 a8 b1 b2 b3 b4).map (·.1))
        obtain ⟨y, hy, e2⟩ := List.mem_map.mp hq'
        rw [e] at e2
        cases e2
        exact h hy
theorem ok_is_place (T : Txt P w K mg) : FnOk P w K mg base CX0 1 T.f_is_place T.d_is_place ["thing"] spIsPlaceA := by
  refine T.F_is_place.ok sc_is_place (fun vs H Q E h => ?_) (fun cdv A outer s H vs Q E hr h => ?_)
  · obtain ⟨z, rfl, _⟩ := h
    rfl
  · obtain ⟨v, rfl, h⟩ := h
    refine ⟨_, (pss_one (ps_ret (pe_and (pe_callB call_isi (by rfl) T.m_isinstance (by decide +kernel) (pa_cons (pv 0) (pa_cons (pe_bltn (v := .ty "str") (by rfl) T.m_str (by decide +kernel) rfl) pa_nil))) (pe_one (pe_cmpR op_in_seq (pv 0) (pe_glob (v := .ref T.a_PLACES) rfl T.m_PLACES rfl) (by rfl)))))), ?_⟩
    walk_at "rd"
    rcases h with ⟨z, rfl, k⟩ | ⟨⟨d, o⟩, k⟩
    · refine ⟨_, _, _, _, true, rfl, .ty _, .base (.str _), kit_ty (by decide +kernel), ?_⟩
      walk_at "rd"
      refine ⟨_, _, rfl, .inr (T.q_PLACES _), rfl, flat_strs placesL, ?_⟩
      show Q (.bl (inV (.str z) (placesL.map V.str))) H
      rw [inV_strs]
      exact k
    · obtain ⟨t, ty, kb⟩ := o.ty (K := K)
      refine ⟨_, _, _, _, false, rfl, .ty _, ty, kit_ty kb, ?_⟩
      walk_at "rd"
      exact k
theorem ok_is_group (T : Txt P w K mg) : FnOk P w K mg base CX0 1 T.f_is_group T.d_is_group ["thing"] spIsGroupA := by
  refine T.F_is_group.ok sc_is_group (fun vs H Q E h => ?_) (fun cdv A outer s H vs Q E hr h => ?_)
  · obtain ⟨z, rfl, _⟩ := h
    rfl
  · obtain ⟨v, rfl, h⟩ := h
    refine ⟨_, (pss_one (ps_ret (pe_and (pe_callB call_isi (by rfl) T.m_isinstance (by decide +kernel) (pa_cons (pv 0) (pa_cons (pe_bltn (v := .ty "str") (by rfl) T.m_str (by decide +kernel) rfl) pa_nil))) (pe_one (pe_or (pe_cmpR op_in_seq (pv 0) (pe_glob (v := .ref T.a_PLACES) rfl T.m_PLACES rfl) (by rfl)) (pe_one (pe_cmpR (op_in_kd T.kd_GROUPS) (pv 0) (pe_glob (v := .ref T.a_GROUPS) rfl T.m_GROUPS rfl) (by rfl)))))))), ?_⟩
    walk_at "rd"
    rcases h with ⟨z, rfl, k⟩ | ⟨⟨d, o⟩, k⟩
    · refine ⟨_, _, _, _, true, rfl, .ty _, .base (.str _), kit_ty (by decide +kernel), ?_⟩
      walk_at "rd"
      refine ⟨_, _, rfl, .inr (T.q_PLACES _), rfl, flat_strs placesL, ?_⟩
      refine ⟨decide (z ∈ placesL), congrArg V.bl (inV_strs z placesL), ?_⟩
      by_cases h1 : z ∈ placesL
      · rw [decide_eq_true h1]
        rw [decide_eq_true (Or.inl h1)] at k
        refine iteT ?_
        exact k
      rw [decide_eq_false h1]
      refine iteF ?_
      walk_at "rd"
      by_cases h2 : z ∈ l_GROUPS.map (·.1)
      · obtain ⟨j, ps, hj⟩ := groups_at h2
        obtain ⟨u, hu, _⟩ := T.y_GROUPS j z ps hj
        refine ⟨_, _, rfl, rfl, hu, ?_⟩
        rw [decide_eq_true (Or.inr h2)] at k
        exact k
      · refine ⟨_, _, rfl, rfl, T.z_GROUPS z h2, ?_⟩
        rw [decide_eq_false (fun q => q.elim h1 h2)] at k
        exact k
    · obtain ⟨t, ty, kb⟩ := o.ty (K := K)
      refine ⟨_, _, _, _, false, rfl, .ty _, ty, kit_ty kb, ?_⟩
      walk_at "rd"
      exact k
theorem ok_group (T : Txt P w K mg) : FnOk P w K mg base (L2.CX P w) 3 T.f_group T.d_group ["name"] (spGroupA K T.C_BadGroup) := by
  refine T.F_group.okX sc_group (fun vs H Q E h => ?_) (fun cdv A outer s H vs Q E hr h => ?_)
  · obtain ⟨z, rfl, _⟩ := h
    rfl
  · obtain ⟨v, rfl, h⟩ := h
    refine ⟨_, (pss_cons (ps_if (pt_not (pt_val (pe_call (ok_is_group T) (hr.mono (by decide)) (by rfl) T.m_is_group T.F_is_group.kp T.b_is_group .nil pass0 (pa_cons (pv 0) pa_nil))))
      (pss_one (ps_raiseSup rfl T.er_BadGroup T.fn_BadGroup hr (takes_of rfl rfl rfl rfl) (by exact (pa_cons (pv 0) pa_nil)) rfl))
      pss_nil)
      (pss_cons (ps_if (pt_val (pe_call (ok_is_place T) (hr.mono (by decide)) (by rfl) T.m_is_place T.F_is_place.kp T.b_is_place .nil pass0 (pa_cons (pv 0) pa_nil)))
      (pss_one (ps_ret (pe_tup (pa_cons (pv 0) pa_nil))))
      pss_nil)
      (pss_one (ps_ret (pe_ix ix_kdict (pe_glob (v := .ref T.a_GROUPS) rfl T.m_GROUPS rfl) (pv 0) (fun _ _ => rfl)))))), ?_⟩
    walk_at "rd"
    rcases h with ⟨z, rfl, k⟩ | ⟨k, hE⟩
    · have hin : decide (z ∈ placesL ∨ z ∈ l_GROUPS.map (·.1)) = true := decide_eq_true (by
        rcases k with ⟨j, ps, hj, _⟩ | ⟨h, _⟩
        · exact .inr (names_in hj)
        · exact .inl h)
      refine Or.inl ⟨z, rfl, ?_⟩
      rw [hin]
      walk_at "rd"
      refine Or.inl ⟨z, rfl, ?_⟩
      by_cases h1 : z ∈ placesL
      · rw [decide_eq_true h1]
        walk_at "rd"
        rcases k with ⟨j, ps, hj, _⟩ | ⟨_, k⟩
        · exact absurd h1 (names_no z (names_in hj))
        exact ⟨by show 1 ≤ sizeLine; decide, k⟩
      · rw [decide_eq_false h1]
        walk_at "rd"
        rcases k with ⟨j, ps, hj, k⟩ | ⟨h, _⟩
        · obtain ⟨u, hu, hq⟩ := T.y_GROUPS j z ps hj
          exact ⟨_, _, .ref u, rfl, rfl, ⟨_, _, _, T.kd_GROUPS.at_, T.kd_GROUPS.lit, hu, rfl⟩, k u hq⟩
        · exact absurd h h1
    · rcases k with ⟨z, rfl, h1, h2⟩ | hd
      · refine Or.inl ⟨z, rfl, ?_⟩
        rw [decide_eq_false (fun q => q.elim h1 h2)]
        walk_at "rd"
        exact hE
      · refine Or.inr ⟨hd, ?_⟩
        walk_at "rd"
        exact hE
theorem ok_turned (T : Txt P w K mg) : FnOk P w K mg base (L2.CX P w) 3 T.f_turned T.d_turned ["place"] (spTurnedA T.C_BadGroup) := by
  refine T.F_turned.okX sc_turned (fun vs H Q E h => ?_) (fun cdv A outer s H vs Q E hr h => ?_)
  · obtain ⟨z, rfl, _⟩ := h
    rfl
  · obtain ⟨v, rfl, k, hE⟩ := h
    refine ⟨_, (pss_cons (ps_if (pt_not (pt_val (pe_call (ok_is_place T) (hr.mono (by decide)) (by rfl) T.m_is_place T.F_is_place.kp T.b_is_place .nil pass0 (pa_cons (pv 0) pa_nil))))
      (pss_one (ps_raiseSup rfl T.er_BadGroup T.fn_BadGroup hr (takes_of rfl rfl rfl rfl) (by exact (pa_cons (pv 0) pa_nil)) rfl))
      pss_nil)
      (pss_one (ps_ret (pe_ix ix_tup (pe_glob (v := .ref T.a_PLACES) rfl T.m_PLACES rfl) (pe_op op_sub pe_int (pe_bm PySem.F.plainAttrs_tuple PySem.F.slot_tuple_index PySem.F.type_tuple_index mt_tup_index (pe_glob (v := .ref T.a_PLACES) rfl T.m_PLACES rfl) (pa_cons (pv 0) pa_nil))) (fun _ _ => rfl))))), ?_⟩
    walk_at "rd"
    rcases k with ⟨z, rfl, h1⟩ | hd
    · refine Or.inl ⟨z, rfl, ?_⟩
      rw [decide_eq_false h1]
      walk_at "rd"
      exact hE
    · refine Or.inr ⟨hd, ?_⟩
      walk_at "rd"
      exact hE
theorem refused_gives {X : Cx} (T : Txt X.prog X.w X.K X.mg) {g : Addr} {cdg : Value} {q : Str} : LamX.GivesTo X ["_law_work", "_law_found", "e"] "_law_refused" (defScope s_law_refused) g cdg (defBody s_law_refused) "_law_work" q (TRef T.C_BadGroup "group") := by
  intro f c' s H Q tl act hc h
  refine ⟨_, pss_cons (ps_set (i := 1) sc_law_refused.nd rfl (Or.inl rfl) (pe_lst (pa_cons pe_str (pa_cons pe_str pa_nil))))
    (pss_cons (ps_try_as (i := 2) (c := .ref T.C_BadGroup) (Wout := fun _ _ _ _ => False)
      (tb := fun W D σ H => ∃ Ech : XK, (∀ cls d σ' H', σ'.length = 3 → Ech cls d H' → W cls d σ' H') ∧ σ[0]? = some (some (.ref f)) ∧ H c' = some (LamX.CodeO c' q) ∧ tl Ech H fun _ H' => D.nx σ H')
      (ts := fun a cls d => tAsg (tLst (tCons (tXf a cls d T.C_BadGroup "group" (tVar 2)) tNil)) (gName 1)) rfl rfl sc_law_refused.nd rfl rfl ⟨rfl, by decide, Or.inl T.er_BadGroup.gC⟩ L2.takes0
      (fun W pn xe tk _ => ?_)
      (fun a oe cls d pn hz hf => pss_one (ps_set (i := 1) sc_law_refused.nd rfl (Or.inl rfl) (by exact (pe_lst (pa_cons (pe_xf T.xf_BadGroup T.fn_BadGroup.noN hz hf (pv 2)) pa_nil))))))
    (pss_one (ps_ret (pv 1)))), ?_⟩
  · refine ⟨fun pins s' σ H' D I h' => ?_⟩
    obtain ⟨Ech, hW, h1, h2, h3⟩ := h'
    exact (pss_one (ps_expr (act _ pn xe Ech _ _ (takes_len tk) (fun cls d σ' H' e hl => hW cls d σ' H' hl e)))).run pins s' σ H' D I ⟨h1, h2, h3⟩
  · refine ⟨by show 2 ≤ sizeLine; decide, fun p hp => ?_⟩
    refine ⟨_, fun cls d σ' H' hl e => ?_, rfl, ?_, h p hp _ (fun v H' z => ⟨_, rfl, z⟩)⟩
    · obtain ⟨rfl, dd, v, rfl, e2, k⟩ := e
      match σ', hl with
      | [x0, x1, x2], _ =>
        refine ⟨true, T.te_BadGroup, fun _ a ha => ?_, fun z => by cases z⟩
        refine ⟨_, rfl, rfl, rfl, dd, _, v, rfl, e2, by simp [List.lookup], by show 1 ≤ sizeLine; decide, fun l hl => ?_⟩
        exact ⟨_, rfl, k l hl⟩
    · rw [upd_ne (fun z => by rw [z, hp] at hc; cases hc)]
      exact hc
theorem refused_of (T : Txt P w K mg) {X : Cx} {g : Addr} {cdg : Value} {q : Str} (h1 : X.prog = P) (h2 : X.w = w) (h3 : X.K = K) (h4 : X.mg = mg) : LamX.GivesTo X ["_law_work", "_law_found", "e"] "_law_refused" (defScope s_law_refused) g cdg (defBody s_law_refused) "_law_work" q (TRef T.C_BadGroup "group") := by
  subst h1 h2 h3 h4
  exact refused_gives T
theorem ok_law (T : Txt P w K mg) (TB : LamX.TabB base mg T.c_law T.P_law) : FnOk P w K mg base CX0 8 T.f_law T.d_law ["_law_script"] (spLawT K T.P_law) := by
  refine T.G_law.ok sc_law (fun vs H Q E h => ?_) (fun A outer s H vs Q E hr h => ?_)
  · obtain ⟨a, ns, rfl, _⟩ := h
    rfl
  · obtain ⟨a, ns, rfl, hS, hlen, hP, k⟩ := h
    refine ⟨_, (pss_cons (ps_set (i := 1) sc_law.nd rfl (Or.inl rfl) (pe_call (ok_law_source T) (hr.mono (by decide)) (by rfl) T.m_law_source T.F_law_source.kp T.b_law_source .nil pass0 (pa_cons (pv 0) pa_nil)))
      (pss_cons (ps_for PassesOwn.never rfl (pi_list (pe_op op_cat (pe_call0 (ok_law_group_names T) (hr.mono (by decide)) (by rfl) T.m_law_group_names T.F_law_group_names.kp T.b_law_group_names .nil pass0) (pe_call0 (ok_law_places T) (hr.mono (by decide)) (by rfl) T.m_law_places T.F_law_places.kp T.b_law_places .nil pass0))) (pg_name (i := 5) sc_law.nd rfl (Or.inr rfl))
      (pss_cons (ps_set (i := 2) sc_law.nd rfl (Or.inl rfl) (pe_call (ok_group T) (hr.mono (by decide)) (by rfl) T.m_group T.F_group.kp T.b_group .nil passL (pa_cons (pv 5) pa_nil)))
      (pss_one (ps_if (PW.pt (pw_or (pt_cmpR (op_neD hr.units) (pv 2) (pe_callTy call_tuple_of (by rfl) T.m_tuple (by decide +kernel) (pa_cons (pe_call (ok_law_group T) (hr.mono (by decide)) (by rfl) T.m_law_group T.F_law_group.kp T.b_law_group .nil pass0 (pa_cons (pv 5) pa_nil)) pa_nil)) (nomark _)) (pw_or1 (pt_cmpR (op_neD hr.units) (pe_call (ok_group T) (hr.mono (by decide)) (by rfl) T.m_group T.F_group.kp T.b_group .nil passL (pa_cons (pv 5) pa_nil)) (pv 2) (nomark _)))))
      (pss_one (ps_ret pe_bl))
      pss_nil))))
      (pss_cons (ps_set (i := 3) sc_law.nd rfl (Or.inl rfl) (pe_lst (pa_cons pe_str (pa_cons pe_str (pa_cons pe_str (pa_cons pe_str (pa_cons pe_str (pa_cons pe_str (pa_cons pe_str (pa_cons pe_non (pa_cons pe_int (pa_cons (pe_tup (pa_cons pe_str pa_nil)) (pa_cons (pe_lst (pa_cons pe_str pa_nil)) (pa_cons pe_str pa_nil))))))))))))))
      (pss_cons (ps_for PassesOwn.never rfl (pi_range1 (by rfl) T.m_range (pa_cons pe_int pa_nil)) (pg_name (i := 4) sc_law.nd rfl (Or.inl rfl))
      (pss_cons (ps_set (i := 6) sc_law.nd rfl (Or.inr rfl) (pe_call (ok_law_pick T) (hr.mono (by decide)) (by rfl) T.m_law_pick T.F_law_pick.kp T.b_law_pick .nil pass0 (pa_cons (pv 1) (pa_cons (pe_op op_cat (pv 3) (pe_lst (pa_cons (pe_call (ok_law_name T) (hr.mono (by decide)) (by rfl) T.m_law_name T.F_law_name.kp T.b_law_name .nil pass0 (pa_cons (pv 1) (pa_cons (pe_op op_cat (pe_call0 (ok_law_group_names T) (hr.mono (by decide)) (by rfl) T.m_law_group_names T.F_law_group_names.kp T.b_law_group_names .nil pass0) (pe_call0 (ok_law_places T) (hr.mono (by decide)) (by rfl) T.m_law_places T.F_law_places.kp T.b_law_places .nil pass0)) pa_nil))) pa_nil))) pa_nil))))
      (pss_cons (ps_if (pt_cmpR (op_neD hr.units) (pe_lamF (T := lamT T) (TT := TRef T.C_BadGroup "group") (k := 3) (t := fun E => tCallS (spGroupA K T.C_BadGroup) (WE fun cls d _ H => E cls d H) (tCons (tVar 6) tNil)) T.F_law_refused T.b_law_refused rfl T.m_law_refused sc_law_refused rfl (Or.inl rfl) (fun cdg => refused_of T rfl rfl rfl rfl) TB rfl (List.mem_singleton.mpr rfl) (fun p hp _ => by rw [List.mem_singleton.mp hp]; rfl) (hr.mono (by decide)) (LamX.lamS_by (show LamX.lamSB (defScope s_law) _ = true by decide +kernel)) rfl (fun _ _ _ _ _ => rfl) (fun A outer s H E f c' hr2 => by exact (pe_callS (ok_group T) hr2 rfl T.m_group T.F_group.kp T.b_group (fun σ => passAt (takes_of rfl rfl rfl rfl) σ) (by exact (pa_cons (pv 6) pa_nil))))) (pe_lst (pa_cons (pv 6) pa_nil)) (nomark _))
      (pss_one (ps_ret pe_bl))
      pss_nil)
      (pss_one (ps_if (pt_cmpR (op_neD hr.units) (pe_lamF (T := lamT T) (TT := TRef T.C_BadGroup "group") (k := 3) (t := fun E => tCallS (spTurnedA T.C_BadGroup) (WE fun cls d _ H => E cls d H) (tCons (tVar 6) tNil)) T.F_law_refused T.b_law_refused rfl T.m_law_refused sc_law_refused rfl (Or.inl rfl) (fun cdg => refused_of T rfl rfl rfl rfl) TB rfl (List.mem_singleton.mpr rfl) (fun p hp _ => by rw [List.mem_singleton.mp hp]; rfl) (hr.mono (by decide)) (LamX.lamS_by (show LamX.lamSB (defScope s_law) _ = true by decide +kernel)) rfl (fun _ _ _ _ _ => rfl) (fun A outer s H E f c' hr2 => by exact (pe_callS (ok_turned T) hr2 rfl T.m_turned T.F_turned.kp T.b_turned (fun σ => passAt (takes_of rfl rfl rfl rfl) σ) (by exact (pa_cons (pv 6) pa_nil))))) (pe_lst (pa_cons (pv 6) pa_nil)) (nomark _))
      (pss_one (ps_ret pe_bl))
      pss_nil)))))
      (pss_cons (ps_set (i := 5) sc_law.nd rfl (Or.inr rfl) (pe_call (ok_law_pick T) (hr.mono (by decide)) (by rfl) T.m_law_pick T.F_law_pick.kp T.b_law_pick .nil pass0 (pa_cons (pv 1) (pa_cons (pe_call0 (ok_law_group_names T) (hr.mono (by decide)) (by rfl) T.m_law_group_names T.F_law_group_names.kp T.b_law_group_names .nil pass0) pa_nil))))
      (pss_one (ps_ret (pe_cmpR (op_eqD hr.units) (pe_lamF (T := lamT T) (TT := TRef T.C_BadGroup "group") (k := 3) (t := fun E => tCallS (spTurnedA T.C_BadGroup) (WE fun cls d _ H => E cls d H) (tCons (tVar 5) tNil)) T.F_law_refused T.b_law_refused rfl T.m_law_refused sc_law_refused rfl (Or.inl rfl) (fun cdg => refused_of T rfl rfl rfl rfl) TB rfl (List.mem_singleton.mpr rfl) (fun p hp _ => by rw [List.mem_singleton.mp hp]; rfl) (hr.mono (by decide)) (LamX.lamS_by (show LamX.lamSB (defScope s_law) _ = true by decide +kernel)) rfl (fun _ _ _ _ _ => rfl) (fun A outer s H E f c' hr2 => by exact (pe_callS (ok_turned T) hr2 rfl T.m_turned T.F_turned.kp T.b_turned (fun σ => passAt (takes_of rfl rfl rfl rfl) σ) (by exact (pa_cons (pv 5) pa_nil))))) (pe_lst (pa_cons (pv 5) pa_nil)) (nomark _))))))))), ?_⟩
    walk_at "rd"
    refine ⟨a, ns, rfl, hS, fun p H1 hp s1 S1 => ?_⟩
    walk_at "rd"
    refine fun g1 h1 => ?_
    generalize hH : upd _ g1 _ = H2
    obtain ⟨s2, d1⟩ := new_of (o' := .lst (namesL.map V.str)) hH h1 rfl
    clear hH
    refine ⟨rfl, fun g2 h2 => ?_⟩
    generalize hH : upd _ g2 _ = H3
    obtain ⟨s3, d2⟩ := new_of (o' := .lst (placesL.map V.str)) hH h2 rfl
    clear hH
    refine ⟨_, _, _, _, rfl, rfl, s3 _ _ d1, d2, by show 9 + 11 ≤ sizeLine; decide, fun L hL => ?_⟩
    generalize hH : upd _ L _ = H4
    obtain ⟨s4, dL⟩ := new_of (o' := .lst (allL.map V.str)) hH hL (by kernel_rfl)
    clear hH
    have S4 := ((S1.same s2).same s3).same s4
    have hP4 : H4 T.P_law = some (.tbl #[]) := s4 _ _ (s3 _ _ (s2 _ _ (s1 _ _ hP)))
    clear s1 s2 s3 s4 d1 d2 h1 h2 hL hp
    refine ⟨L, rfl, ⟨_, SqL.of dL⟩, for_list (K := K) (a := L) (xs := allL.map V.str) (fun i σ H' => ∃ v2 v5 : Option V, σ = [some (.ref a), some (.ref p), v2, none, none, v5, none] ∧ Same H4 H')
      ⟨none, none, rfl, Same.refl _⟩ (fun i σ H' _ ⟨_, _, _, z⟩ => z.seq (SqL.of dL)) ?_ ?_⟩
    · rintro i x σ H5 hx ⟨v2, v5, rfl, s5⟩
      obtain ⟨z, rfl, hz⟩ := str_at hx
      have hz' : z ∈ allL := List.mem_of_getElem? hz
      have ok := grp_ok z hz'
      walk_at "rd"
      refine group_told T hz' fun u H6 s6 hu => ?_
      walk_at "rd"
      refine fun a7 H7 s7 d7 => ?_
      walk_at "rd"
      refine ⟨_, _, rfl, .inl ⟨SqL.of d7, fun t8 h8 => ?_⟩⟩
      generalize hH : upd _ t8 _ = H8
      obtain ⟨s8, d8⟩ := new_of (o' := .tup ((grpL z).map V.str)) hH h8 rfl
      clear hH
      refine ⟨_, _, .tup (same_seqT s8 (same_seqT s7 hu)) (dp_strs _), .tup (SqT.of d8) (dp_strs _), shaped_tup ok, shaped_tup ok, ?_⟩
      rw [eqv_tup ok]
      walk_at "rd"
      refine group_told T hz' fun u2 H9 s9 hu2 => ?_
      walk_at "rd"
      refine ⟨_, _, .tup hu2 (dp_strs _), .tup (same_seqT s9 (same_seqT s8 (same_seqT s7 hu))) (dp_strs _), shaped_tup ok, shaped_tup ok, ?_⟩
      rw [eqv_tup ok]
      walk_at "rd"
      exact (((s5.trans s6).trans s7).trans s8).trans s9
    rintro σ H5 ⟨v2, v5, rfl, s5⟩
    have S5 := S4.same s5
    have T5 : LamX.Tabs (lamT T) H5 := fun q hq => by
      rw [List.mem_singleton.mp hq]
      exact LamX.TabS.nil (s5 _ _ hP4)
    refine ⟨by show 1 ≤ sizeLine; decide, fun t1 h1 => ?_⟩
    generalize hH : upd _ t1 _ = H6
    obtain ⟨s6, d1⟩ := new_of (o' := .tup [.str "near"]) hH h1 rfl
    clear hH
    refine ⟨by show 1 ≤ sizeLine; decide, fun t2 h2 => ?_⟩
    generalize hH : upd _ t2 _ = H7
    obtain ⟨s7, d2⟩ := new_of (o' := .lst [.str "<"]) hH h2 rfl
    clear hH
    refine ⟨by show 12 ≤ sizeLine; decide, fun o ho => ?_⟩
    generalize hH : upd _ o _ = H8
    obtain ⟨s8, do_⟩ := new_of (o' := .lst (oddV t1 t2)) hH ho rfl
    clear hH
    walk_at "rd"
    refine ⟨by decide, by decide, ?_⟩
    refine for_range (lo := 0) (n := 4) (fun i σ H' => ∃ v2 v4 v5 v6 : Option V, σ = [some (.ref a), some (.ref p), v2, some (.ref o), v4, v5, v6] ∧ Src H' p (20 * (i : Int)) ∧ H' o = some (.lst (oddV t1 t2)) ∧ H' t1 = some (.tup [.str "near"]) ∧ H' t2 = some (.lst [.str "<"]) ∧ LamX.Tabs (lamT T) H')
      ⟨v2, none, v5, none, rfl, (((S5.same s6).same s7).same s8).le (by decide), do_, s8 _ _ (s7 _ _ d1), s8 _ _ d2, tabs_same (tabs_same (tabs_same T5 s6) s7) s8⟩ ?_ ?_
    · have op : o ≠ p := ((S5.same s6).same s7).ne ho
      have t1p : t1 ≠ p := S5.ne h1
      have t2p : t2 ≠ p := (S5.same s6).ne h2
      clear s5 s6 s7 s8 do_ d1 d2 S5 T5 S4 hP4
      rintro i σ H9 hi ⟨v2', v4, v5', v6, rfl, S9, do9, d19, d29, T9⟩
      walk_at "rd"
      refine fun g1 h1 => ?_
      generalize hH : upd _ g1 _ = H10
      obtain ⟨s10, d10⟩ := new_of (o' := .lst (namesL.map V.str)) hH h1 rfl
      clear hH
      refine ⟨rfl, fun g2 h2 => ?_⟩
      generalize hH : upd _ g2 _ = H11
      obtain ⟨s11, d11⟩ := new_of (o' := .lst (placesL.map V.str)) hH h2 rfl
      clear hH
      refine ⟨_, _, _, _, rfl, rfl, s11 _ _ d10, d11, by show 9 + 11 ≤ sizeLine; decide, fun L2 hL2 => ?_⟩
      have S11 := (S9.same s10).same s11
      have Lp := S11.ne hL2
      generalize hH : upd _ L2 _ = H12
      obtain ⟨s12, d12⟩ := new_of (o' := .lst (allL.map V.str)) hH hL2 (by kernel_rfl)
      clear hH
      have e12 := (s10.trans s11).trans s12
      walk_at "rd"
      refine ⟨p, L2, allL, _, rfl, S9.same e12, by omega, Lp, SqL.of d12, ⟨97, by decide, by decide, z_free⟩, fun z H13 nz hz u13 S13 => ?_⟩
      walk_at "rd"
      refine ⟨by show 1 ≤ sizeLine; decide, fun l1 hl1 => ?_⟩
      generalize hH : upd _ l1 _ = H14
      obtain ⟨s14, d14⟩ := new_of (o' := .lst [.str z]) hH hl1 rfl
      clear hH
      refine ⟨_, _, _, _, rfl, rfl, s14 _ _ (u13 _ _ op (e12 _ _ do9)), d14, by show 12 + 1 ≤ sizeLine; decide, fun M hM => ?_⟩
      have Mp := (S13.same s14).ne hM
      generalize hH : upd _ M _ = H15
      obtain ⟨s15, d15⟩ := new_of (o' := .lst (oddV t1 t2 ++ [.str z])) hH hM rfl
      clear hH
      have e15 := s14.trans s15
      walk_at "rd"
      refine ⟨p, M, _, _, rfl, S13.same e15, by omega, Mp, SqL.of d15, by show 0 < 13; decide, by show 13 ≤ 1000; decide, fun j v H16 hj u16 S16 => ?_⟩
      have but16 : But p H9 H16 := ((Same.but e12).trans u13).trans ((Same.but e15).trans u16)
      have o16 := but16 _ _ op do9
      have t16 := but16 _ _ t1p d19
      have t26 := but16 _ _ t2p d29
      obtain ⟨ys, hys⟩ := S9.at
      have T16 := tabs_but T9 but16 hys
      have B16 : Bad H16 v := odd_at t16 t26 hz nz.ok hj
      obtain ⟨dv, hdp, lay, dep⟩ := B16.dp (K := K)
      clear e12 e15 u13 u16 s10 s11 s12 s14 s15 d10 d11 d12 d14 d15 h1 h2 hL2 hl1 hM S11 S13
      walk_at "rd"
      refine ⟨T16, fun H17 e17 T17 q17 hq17 R hR => ?_⟩
      generalize hH : upd _ q17 _ = H18
      obtain ⟨s18, _⟩ := new_of (o' := .lst [.str "none", .str "told"]) hH hq17 rfl
      clear hH
      have B18 := (B16.ext e17).same s18
      walk_at "rd"
      refine .inr ⟨B18.grp, fun d hd => ?_⟩
      refine ⟨rfl, d, v, rfl, upd_same, fun l hl => ?_⟩
      generalize hH : upd _ d _ = H19 at hl ⊢
      obtain ⟨s19, _⟩ := new_of (o' := .xd [("group", v)]) hH hd rfl
      clear hH
      generalize hH : upd _ l _ = H20
      obtain ⟨s20, l20⟩ := new_of (o' := .lst [v]) hH hl rfl
      clear hH
      have es20 : Same H17 H20 := (s18.trans s19).trans s20
      walk_at "rd"
      refine ⟨by show 1 ≤ sizeLine; decide, fun m hm => ?_⟩
      generalize hH : upd _ m _ = H21
      obtain ⟨s21, m21⟩ := new_of (o' := .lst [v]) hH hm rfl
      clear hH
      have es21 : Same H17 H21 := es20.trans s21
      have ex21 : LamX.ExtN H16 H21 := e17.trans (LamX.ExtN.of es21)
      have B21 := B16.ext ex21
      have D21 := hdp H21 B21 fun b u nn q => ex21 b u q nn
      refine ⟨_, _, .lst (SqL.of (s21 _ _ l20)) (.cons D21 .nil), .lst (SqL.of m21) (.cons D21 .nil), shaped_one lay dep, shaped_one lay dep, ?_⟩
      rw [eqv_one lay]
      have T21 := tabs_same T17 es21
      walk_at "rd"
      refine ⟨T21, fun H22 e22 T22 q22 hq22 R hR => ?_⟩
      generalize hH : upd _ q22 _ = H23
      obtain ⟨s23, _⟩ := new_of (o' := .lst [.str "none", .str "told"]) hH hq22 rfl
      clear hH
      have B23 := (B21.ext e22).same s23
      walk_at "rd"
      refine ⟨B23.tur, fun d hd => ?_⟩
      refine ⟨rfl, d, v, rfl, upd_same, fun l hl => ?_⟩
      generalize hH : upd _ d _ = H24 at hl ⊢
      obtain ⟨s24, _⟩ := new_of (o' := .xd [("group", v)]) hH hd rfl
      clear hH
      generalize hH : upd _ l _ = H25
      obtain ⟨s25, l25⟩ := new_of (o' := .lst [v]) hH hl rfl
      clear hH
      have es25 : Same H22 H25 := (s23.trans s24).trans s25
      walk_at "rd"
      refine ⟨by show 1 ≤ sizeLine; decide, fun m hm => ?_⟩
      generalize hH : upd _ m _ = H26
      obtain ⟨s26, m26⟩ := new_of (o' := .lst [v]) hH hm rfl
      clear hH
      have es26 : Same H22 H26 := es25.trans s26
      have ex26 : LamX.ExtN H16 H26 := ex21.trans (e22.trans (LamX.ExtN.of es26))
      have B26 := B16.ext ex26
      have D26 := hdp H26 B26 fun b u nn q => ex26 b u q nn
      refine ⟨_, _, .lst (SqL.of (s26 _ _ l25)) (.cons D26 .nil), .lst (SqL.of m26) (.cons D26 .nil), shaped_one lay dep, shaped_one lay dep, ?_⟩
      rw [eqv_one lay]
      have T26 := tabs_same T22 es26
      walk_at "rd"
      exact ⟨_, _, _, _, rfl, (S16.ext ex26).le (by omega), ex26 _ _ o16 (fun ps z => by cases z), ex26 _ _ t16 (fun ps z => by cases z), ex26 _ _ t26 (fun ps z => by cases z), T26⟩
    rintro σ H9 ⟨v2', v4, v5', v6, rfl, S9, do9, d19, d29, T9⟩
    walk_at "rd"
    refine fun g1 h1 => ?_
    have gp := S9.ne h1
    generalize hH : upd _ g1 _ = H10
    obtain ⟨s10, d10⟩ := new_of (o' := .lst (namesL.map V.str)) hH h1 rfl
    clear hH
    walk_at "rd"
    refine ⟨p, g1, _, _, rfl, S9.same s10, by decide, gp, SqL.of d10, by show 0 < 9; decide, by show 9 ≤ 1000; decide, fun j v H16 hj u16 S16 => ?_⟩
    obtain ⟨z, rfl, hz⟩ := str_at hj
    have hz' : z ∈ namesL := List.mem_of_getElem? hz
    have ok := names_ok z hz'
    have hnp : z ∉ placesL := names_no z hz'
    obtain ⟨ys, hys⟩ := (S9.same s10).at
    have T16 := tabs_but (tabs_same T9 s10) u16 hys
    walk_at "rd"
    refine ⟨T16, fun H17 e17 T17 q17 hq17 R hR => ?_⟩
    walk_at "rd"
    refine ⟨.inl ⟨z, rfl, hnp⟩, fun d hd => ?_⟩
    refine ⟨rfl, d, .str z, rfl, upd_same, fun l hl => ?_⟩
    generalize hH : upd _ l _ = H20
    obtain ⟨s20, l20⟩ := new_of (o' := .lst [.str z]) hH hl rfl
    clear hH
    walk_at "rd"
    refine ⟨by show 1 ≤ sizeLine; decide, fun m hm => ?_⟩
    generalize hH : upd _ m _ = H21
    obtain ⟨s21, m21⟩ := new_of (o' := .lst [.str z]) hH hm rfl
    clear hH
    have okz : ∀ y ∈ [z], PyData.strOk y = true := fun y hy => by rw [List.mem_singleton.mp hy]; exact ok
    refine ⟨_, _, .lst (SqL.of (s21 _ _ l20)) (dp_strs [z]), .lst (SqL.of m21) (dp_strs [z]), shaped_strs okz, shaped_strs okz, ?_⟩
    rw [eqv_strs okz]
    exact k _
end
theorem all_mk {l : PySem.W.OpenLaw} {w : World} {K : PySem.W.Frag} {h : Heap} {mg : Str → Option Value} {fa : Addr} (X : K.In h) (G : h.Ns mainGlobals mg) (hfa : mg "law" = some (.ref fa))
    {f_is_place f_is_group f_group f_turned f_law_source f_law_draw f_law_pick f_law_name f_law_places f_law_group f_law_group_names f_law_refused f_law : Addr}
    {od_is_place an_is_place od_is_group an_is_group od_group an_group od_turned an_turned od_law_source an_law_source od_law_draw an_law_draw od_law_pick an_law_pick od_law_name an_law_name od_law_places an_law_places od_law_group an_law_group od_law_group_names an_law_group_names od_law_refused an_law_refused od_law an_law : Option Addr} {sl_is_place sl_is_group sl_group sl_turned sl_law_source sl_law_draw sl_law_pick sl_law_name sl_law_places sl_law_group sl_law_group_names sl_law_refused sl_law : Array (Option Value)}
    {oc_is_place kV_is_place dc_is_place pm_is_place cd_is_place ct_is_place oc_is_group kV_is_group dc_is_group pm_is_group cd_is_group ct_is_group oc_group kV_group dc_group pm_group cd_group ct_group oc_turned kV_turned dc_turned pm_turned cd_turned ct_turned oc_law_source kV_law_source dc_law_source pm_law_source cd_law_source ct_law_source oc_law_draw kV_law_draw dc_law_draw pm_law_draw cd_law_draw ct_law_draw oc_law_pick kV_law_pick dc_law_pick pm_law_pick cd_law_pick ct_law_pick oc_law_name kV_law_name dc_law_name pm_law_name cd_law_name ct_law_name oc_law_places kV_law_places dc_law_places pm_law_places cd_law_places ct_law_places oc_law_group kV_law_group dc_law_group pm_law_group cd_law_group ct_law_group oc_law_group_names kV_law_group_names dc_law_group_names pm_law_group_names cd_law_group_names ct_law_group_names oc_law_refused kV_law_refused dc_law_refused pm_law_refused cd_law_refused ct_law_refused oc_law kV_law dc_law pm_law ct_law : Value}
    {a_PLACES : Addr} {n_PLACES : Nat} {sl_PLACES : Array (Option Value)} {t_PLACES_0 t_PLACES_1 t_PLACES_2 t_PLACES_3 t_PLACES_4 t_PLACES_5 t_PLACES_6 t_PLACES_7 t_PLACES_8 t_PLACES_9 t_PLACES_10 : Tok}
    {a_GROUPS : Addr} {n_GROUPS : Nat} {g_GROUPS_0 g_GROUPS_1 g_GROUPS_2 g_GROUPS_3 g_GROUPS_4 g_GROUPS_5 g_GROUPS_6 g_GROUPS_7 g_GROUPS_8 : Addr} {t_GROUPS_0 t_GROUPS_1 t_GROUPS_2 t_GROUPS_3 t_GROUPS_4 t_GROUPS_5 t_GROUPS_6 t_GROUPS_7 t_GROUPS_8 : Tok} {h_GROUPS_0 h_GROUPS_1 h_GROUPS_2 h_GROUPS_3 h_GROUPS_4 h_GROUPS_5 h_GROUPS_6 h_GROUPS_7 h_GROUPS_8 : Int}
    {m_GROUPS_0 : Nat} {sl_GROUPS_0 : Array (Option Value)} {t_GROUPS_0_0 t_GROUPS_0_1 t_GROUPS_0_2 t_GROUPS_0_3 t_GROUPS_0_4 t_GROUPS_0_5 t_GROUPS_0_6 t_GROUPS_0_7 t_GROUPS_0_8 t_GROUPS_0_9 t_GROUPS_0_10 : Tok}
    {m_GROUPS_1 : Nat} {sl_GROUPS_1 : Array (Option Value)} {t_GROUPS_1_0 t_GROUPS_1_1 t_GROUPS_1_2 t_GROUPS_1_3 t_GROUPS_1_4 t_GROUPS_1_5 t_GROUPS_1_6 : Tok}
    {m_GROUPS_2 : Nat} {sl_GROUPS_2 : Array (Option Value)} {t_GROUPS_2_0 t_GROUPS_2_1 t_GROUPS_2_2 t_GROUPS_2_3 : Tok}
    {m_GROUPS_3 : Nat} {sl_GROUPS_3 : Array (Option Value)} {t_GROUPS_3_0 t_GROUPS_3_1 t_GROUPS_3_2 t_GROUPS_3_3 t_GROUPS_3_4 : Tok}
    {m_GROUPS_4 : Nat} {sl_GROUPS_4 : Array (Option Value)} {t_GROUPS_4_0 t_GROUPS_4_1 t_GROUPS_4_2 t_GROUPS_4_3 t_GROUPS_4_4 : Tok}
    {m_GROUPS_5 : Nat} {sl_GROUPS_5 : Array (Option Value)} {t_GROUPS_5_0 t_GROUPS_5_1 : Tok}
    {m_GROUPS_6 : Nat} {sl_GROUPS_6 : Array (Option Value)} {t_GROUPS_6_0 t_GROUPS_6_1 : Tok}
    {m_GROUPS_7 : Nat} {sl_GROUPS_7 : Array (Option Value)} {t_GROUPS_7_0 t_GROUPS_7_1 t_GROUPS_7_2 : Tok}
    {m_GROUPS_8 : Nat} {sl_GROUPS_8 : Array (Option Value)}
    {C_BadGroup i_BadGroup N_BadGroup B_BadGroup cda_BadGroup cc_BadGroup : Addr} {nm_BadGroup q_BadGroup : Str} {bs_BadGroup : List Value} {sn_BadGroup : List Str} {sub_BadGroup : List Value} {ab_BadGroup : Bool} {col_BadGroup : Option Bool} {dd_BadGroup od_BadGroup an_BadGroup cdd_BadGroup cld_BadGroup : Option Addr} {k0_BadGroup k1_BadGroup k2_BadGroup k3_BadGroup k5_BadGroup : Option Value} {oc_BadGroup doc_BadGroup pm_BadGroup kV_BadGroup ct_BadGroup ccl_BadGroup cl_BadGroup : Value} {osl_BadGroup ccs_BadGroup csl_BadGroup : Array (Option Value)} {vs_BadGroup : Array Value} {file_BadGroup : Str} {tf_BadGroup : Tok}
    {cod_law tab_law : Addr} {ec_law : Value} {dc_law2 : Option Addr} {vc_law : Array Value} {sc_law2 : Array (Option Value)}
    (x_PLACES : PySem.W.nsIn K mainGlobals "PLACES" = some (some (.ref a_PLACES)))
    (lk_PLACES : K.lookup a_PLACES = some ⟨.type "tuple", none, .seq #[.str "below" t_PLACES_0, .str "-<" t_PLACES_1, .str "-=" t_PLACES_2, .str "->" t_PLACES_3, .str "<" t_PLACES_4, .str "=" t_PLACES_5, .str ">" t_PLACES_6, .str "+<" t_PLACES_7, .str "+=" t_PLACES_8, .str "+>" t_PLACES_9, .str "above" t_PLACES_10] n_PLACES, sl_PLACES⟩)
    (x_GROUPS : PySem.W.nsIn K mainGlobals "GROUPS" = some (some (.ref a_GROUPS)))
    (lk_GROUPS : K.lookup a_GROUPS = some ⟨.type "dict", none, .dict #[⟨h_GROUPS_0, .str "any" t_GROUPS_0, .ref g_GROUPS_0⟩, ⟨h_GROUPS_1, .str "near" t_GROUPS_1, .ref g_GROUPS_1⟩, ⟨h_GROUPS_2, .str "far" t_GROUPS_2, .ref g_GROUPS_2⟩, ⟨h_GROUPS_3, .str "less" t_GROUPS_3, .ref g_GROUPS_3⟩, ⟨h_GROUPS_4, .str "more" t_GROUPS_4, .ref g_GROUPS_4⟩, ⟨h_GROUPS_5, .str "under" t_GROUPS_5, .ref g_GROUPS_5⟩, ⟨h_GROUPS_6, .str "over" t_GROUPS_6, .ref g_GROUPS_6⟩, ⟨h_GROUPS_7, .str "cell" t_GROUPS_7, .ref g_GROUPS_7⟩, ⟨h_GROUPS_8, .str "none" t_GROUPS_8, .ref g_GROUPS_8⟩] n_GROUPS, #[]⟩)
    (ky_GROUPS : PySem.W.KeysLit w.params (#[⟨h_GROUPS_0, .str "any" t_GROUPS_0, .ref g_GROUPS_0⟩, ⟨h_GROUPS_1, .str "near" t_GROUPS_1, .ref g_GROUPS_1⟩, ⟨h_GROUPS_2, .str "far" t_GROUPS_2, .ref g_GROUPS_2⟩, ⟨h_GROUPS_3, .str "less" t_GROUPS_3, .ref g_GROUPS_3⟩, ⟨h_GROUPS_4, .str "more" t_GROUPS_4, .ref g_GROUPS_4⟩, ⟨h_GROUPS_5, .str "under" t_GROUPS_5, .ref g_GROUPS_5⟩, ⟨h_GROUPS_6, .str "over" t_GROUPS_6, .ref g_GROUPS_6⟩, ⟨h_GROUPS_7, .str "cell" t_GROUPS_7, .ref g_GROUPS_7⟩, ⟨h_GROUPS_8, .str "none" t_GROUPS_8, .ref g_GROUPS_8⟩] : Array DictEntry).toList)
    (lo_GROUPS : (a_GROUPS == sysModules) = false)
    (lg_GROUPS_0 : K.lookup g_GROUPS_0 = some ⟨.type "tuple", none, .seq #[.str "below" t_GROUPS_0_0, .str "-<" t_GROUPS_0_1, .str "-=" t_GROUPS_0_2, .str "->" t_GROUPS_0_3, .str "<" t_GROUPS_0_4, .str "=" t_GROUPS_0_5, .str ">" t_GROUPS_0_6, .str "+<" t_GROUPS_0_7, .str "+=" t_GROUPS_0_8, .str "+>" t_GROUPS_0_9, .str "above" t_GROUPS_0_10] m_GROUPS_0, sl_GROUPS_0⟩)
    (lg_GROUPS_1 : K.lookup g_GROUPS_1 = some ⟨.type "tuple", none, .seq #[.str "-=" t_GROUPS_1_0, .str "->" t_GROUPS_1_1, .str "<" t_GROUPS_1_2, .str "=" t_GROUPS_1_3, .str ">" t_GROUPS_1_4, .str "+<" t_GROUPS_1_5, .str "+=" t_GROUPS_1_6] m_GROUPS_1, sl_GROUPS_1⟩)
    (lg_GROUPS_2 : K.lookup g_GROUPS_2 = some ⟨.type "tuple", none, .seq #[.str "below" t_GROUPS_2_0, .str "-<" t_GROUPS_2_1, .str "+>" t_GROUPS_2_2, .str "above" t_GROUPS_2_3] m_GROUPS_2, sl_GROUPS_2⟩)
    (lg_GROUPS_3 : K.lookup g_GROUPS_3 = some ⟨.type "tuple", none, .seq #[.str "below" t_GROUPS_3_0, .str "-<" t_GROUPS_3_1, .str "-=" t_GROUPS_3_2, .str "->" t_GROUPS_3_3, .str "<" t_GROUPS_3_4] m_GROUPS_3, sl_GROUPS_3⟩)
    (lg_GROUPS_4 : K.lookup g_GROUPS_4 = some ⟨.type "tuple", none, .seq #[.str ">" t_GROUPS_4_0, .str "+<" t_GROUPS_4_1, .str "+=" t_GROUPS_4_2, .str "+>" t_GROUPS_4_3, .str "above" t_GROUPS_4_4] m_GROUPS_4, sl_GROUPS_4⟩)
    (lg_GROUPS_5 : K.lookup g_GROUPS_5 = some ⟨.type "tuple", none, .seq #[.str "below" t_GROUPS_5_0, .str "-<" t_GROUPS_5_1] m_GROUPS_5, sl_GROUPS_5⟩)
    (lg_GROUPS_6 : K.lookup g_GROUPS_6 = some ⟨.type "tuple", none, .seq #[.str "+>" t_GROUPS_6_0, .str "above" t_GROUPS_6_1] m_GROUPS_6, sl_GROUPS_6⟩)
    (lg_GROUPS_7 : K.lookup g_GROUPS_7 = some ⟨.type "tuple", none, .seq #[.str "<" t_GROUPS_7_0, .str "=" t_GROUPS_7_1, .str ">" t_GROUPS_7_2] m_GROUPS_7, sl_GROUPS_7⟩)
    (lg_GROUPS_8 : K.lookup g_GROUPS_8 = some ⟨.type "tuple", none, .seq #[] m_GROUPS_8, sl_GROUPS_8⟩)
    (a_is_place : PySem.W.nsIn K mainGlobals "is_place" = some (some (.ref f_is_place)))
    (l_is_place : K.lookup f_is_place = some ⟨oc_is_place, od_is_place, .func (PySem.W.fnOf "is_place" "is_place" (defArgs s_is_place) (defBody s_is_place) (defScope s_is_place) .none kV_is_place dc_is_place pm_is_place an_is_place cd_is_place ct_is_place), sl_is_place⟩)
    (c_is_place : PySem.W.codeIn K cd_is_place "is_place" = true)
    (k_is_place : PySem.W.keepIn K (.ref f_is_place) = true)
    (a_is_group : PySem.W.nsIn K mainGlobals "is_group" = some (some (.ref f_is_group)))
    (l_is_group : K.lookup f_is_group = some ⟨oc_is_group, od_is_group, .func (PySem.W.fnOf "is_group" "is_group" (defArgs s_is_group) (defBody s_is_group) (defScope s_is_group) .none kV_is_group dc_is_group pm_is_group an_is_group cd_is_group ct_is_group), sl_is_group⟩)
    (c_is_group : PySem.W.codeIn K cd_is_group "is_group" = true)
    (k_is_group : PySem.W.keepIn K (.ref f_is_group) = true)
    (a_group : PySem.W.nsIn K mainGlobals "group" = some (some (.ref f_group)))
    (l_group : K.lookup f_group = some ⟨oc_group, od_group, .func (PySem.W.fnOf "group" "group" (defArgs s_group) (defBody s_group) (defScope s_group) .none kV_group dc_group pm_group an_group cd_group ct_group), sl_group⟩)
    (c_group : PySem.W.codeIn K cd_group "group" = true)
    (k_group : PySem.W.keepIn K (.ref f_group) = true)
    (a_turned : PySem.W.nsIn K mainGlobals "turned" = some (some (.ref f_turned)))
    (l_turned : K.lookup f_turned = some ⟨oc_turned, od_turned, .func (PySem.W.fnOf "turned" "turned" (defArgs s_turned) (defBody s_turned) (defScope s_turned) .none kV_turned dc_turned pm_turned an_turned cd_turned ct_turned), sl_turned⟩)
    (c_turned : PySem.W.codeIn K cd_turned "turned" = true)
    (k_turned : PySem.W.keepIn K (.ref f_turned) = true)
    (a_law_source : PySem.W.nsIn K mainGlobals "_law_source" = some (some (.ref f_law_source)))
    (l_law_source : K.lookup f_law_source = some ⟨oc_law_source, od_law_source, .func (PySem.W.fnOf "_law_source" "_law_source" (defArgs s_law_source) (defBody s_law_source) (defScope s_law_source) .none kV_law_source dc_law_source pm_law_source an_law_source cd_law_source ct_law_source), sl_law_source⟩)
    (c_law_source : PySem.W.codeIn K cd_law_source "_law_source" = true)
    (k_law_source : PySem.W.keepIn K (.ref f_law_source) = true)
    (a_law_draw : PySem.W.nsIn K mainGlobals "_law_draw" = some (some (.ref f_law_draw)))
    (l_law_draw : K.lookup f_law_draw = some ⟨oc_law_draw, od_law_draw, .func (PySem.W.fnOf "_law_draw" "_law_draw" (defArgs s_law_draw) (defBody s_law_draw) (defScope s_law_draw) .none kV_law_draw dc_law_draw pm_law_draw an_law_draw cd_law_draw ct_law_draw), sl_law_draw⟩)
    (c_law_draw : PySem.W.codeIn K cd_law_draw "_law_draw" = true)
    (k_law_draw : PySem.W.keepIn K (.ref f_law_draw) = true)
    (a_law_pick : PySem.W.nsIn K mainGlobals "_law_pick" = some (some (.ref f_law_pick)))
    (l_law_pick : K.lookup f_law_pick = some ⟨oc_law_pick, od_law_pick, .func (PySem.W.fnOf "_law_pick" "_law_pick" (defArgs s_law_pick) (defBody s_law_pick) (defScope s_law_pick) .none kV_law_pick dc_law_pick pm_law_pick an_law_pick cd_law_pick ct_law_pick), sl_law_pick⟩)
    (c_law_pick : PySem.W.codeIn K cd_law_pick "_law_pick" = true)
    (k_law_pick : PySem.W.keepIn K (.ref f_law_pick) = true)
    (a_law_name : PySem.W.nsIn K mainGlobals "_law_name" = some (some (.ref f_law_name)))
    (l_law_name : K.lookup f_law_name = some ⟨oc_law_name, od_law_name, .func (PySem.W.fnOf "_law_name" "_law_name" (defArgs s_law_name) (defBody s_law_name) (defScope s_law_name) .none kV_law_name dc_law_name pm_law_name an_law_name cd_law_name ct_law_name), sl_law_name⟩)
    (c_law_name : PySem.W.codeIn K cd_law_name "_law_name" = true)
    (k_law_name : PySem.W.keepIn K (.ref f_law_name) = true)
    (a_law_places : PySem.W.nsIn K mainGlobals "_law_places" = some (some (.ref f_law_places)))
    (l_law_places : K.lookup f_law_places = some ⟨oc_law_places, od_law_places, .func (PySem.W.fnOf "_law_places" "_law_places" (defArgs s_law_places) (defBody s_law_places) (defScope s_law_places) .none kV_law_places dc_law_places pm_law_places an_law_places cd_law_places ct_law_places), sl_law_places⟩)
    (c_law_places : PySem.W.codeIn K cd_law_places "_law_places" = true)
    (k_law_places : PySem.W.keepIn K (.ref f_law_places) = true)
    (a_law_group : PySem.W.nsIn K mainGlobals "_law_group" = some (some (.ref f_law_group)))
    (l_law_group : K.lookup f_law_group = some ⟨oc_law_group, od_law_group, .func (PySem.W.fnOf "_law_group" "_law_group" (defArgs s_law_group) (defBody s_law_group) (defScope s_law_group) .none kV_law_group dc_law_group pm_law_group an_law_group cd_law_group ct_law_group), sl_law_group⟩)
    (c_law_group : PySem.W.codeIn K cd_law_group "_law_group" = true)
    (k_law_group : PySem.W.keepIn K (.ref f_law_group) = true)
    (a_law_group_names : PySem.W.nsIn K mainGlobals "_law_group_names" = some (some (.ref f_law_group_names)))
    (l_law_group_names : K.lookup f_law_group_names = some ⟨oc_law_group_names, od_law_group_names, .func (PySem.W.fnOf "_law_group_names" "_law_group_names" (defArgs s_law_group_names) (defBody s_law_group_names) (defScope s_law_group_names) .none kV_law_group_names dc_law_group_names pm_law_group_names an_law_group_names cd_law_group_names ct_law_group_names), sl_law_group_names⟩)
    (c_law_group_names : PySem.W.codeIn K cd_law_group_names "_law_group_names" = true)
    (k_law_group_names : PySem.W.keepIn K (.ref f_law_group_names) = true)
    (a_law_refused : PySem.W.nsIn K mainGlobals "_law_refused" = some (some (.ref f_law_refused)))
    (l_law_refused : K.lookup f_law_refused = some ⟨oc_law_refused, od_law_refused, .func (PySem.W.fnOf "_law_refused" "_law_refused" (defArgs s_law_refused) (defBody s_law_refused) (defScope s_law_refused) .none kV_law_refused dc_law_refused pm_law_refused an_law_refused cd_law_refused ct_law_refused), sl_law_refused⟩)
    (c_law_refused : PySem.W.codeIn K cd_law_refused "_law_refused" = true)
    (k_law_refused : PySem.W.keepIn K (.ref f_law_refused) = true)
    (a_law : PySem.W.nsIn K mainGlobals "law" = some (some (.ref f_law)))
    (l_law : K.lookup f_law = some ⟨oc_law, od_law, .func (PySem.W.fnOf "law" "law" (defArgs s_law) (defBody s_law) (defScope s_law) .none kV_law dc_law pm_law an_law (.ref cod_law) ct_law), sl_law⟩)
    (c_law : PySem.W.codeIn K (.ref cod_law) "law" = true)
    (k_law : PySem.W.keepIn K (.ref f_law) = true)
    (z_int : PySem.W.nsIn K mainGlobals "int" = some none)
    (z_str : PySem.W.nsIn K mainGlobals "str" = some none)
    (z_isinstance : PySem.W.nsIn K mainGlobals "isinstance" = some none)
    (z_range : PySem.W.nsIn K mainGlobals "range" = some none)
    (z_len : PySem.W.nsIn K mainGlobals "len" = some none)
    (z_tuple : PySem.W.nsIn K mainGlobals "tuple" = some none)
    (xg_BadGroup : PySem.W.nsIn K mainGlobals "BadGroup" = some (some (.ref C_BadGroup)))
    (xc_BadGroup : K.lookup C_BadGroup = some (excClassObj nm_BadGroup q_BadGroup C_BadGroup N_BadGroup bs_BadGroup (.ref B_BadGroup :: PySem.SupX.veTl) true sn_BadGroup sub_BadGroup ab_BadGroup col_BadGroup dd_BadGroup k0_BadGroup k1_BadGroup k2_BadGroup k3_BadGroup k5_BadGroup "ValueError.__new__"))
    (xsa_BadGroup : PySem.W.findIn K (.ref C_BadGroup) "__setattr__" = some (some (.builtin "object.__setattr__")))
    (xga_BadGroup : PySem.W.findIn K (.ref C_BadGroup) "__getattribute__" = some (some (.builtin "BaseException.__getattribute__")))
    (xgg_BadGroup : PySem.W.findIn K (.ref C_BadGroup) "__getattr__" = some none)
    (xic_BadGroup : PySem.W.findIn K (.ref C_BadGroup) "__init__" = some (some (.ref i_BadGroup)))
    (xtc_BadGroup : PySem.W.typeIn K (.ref i_BadGroup) = some (.type "function"))
    (xkc_BadGroup : PySem.W.keepIn K (.ref C_BadGroup) = true)
    (xex_BadGroup : PySem.W.subIn K (.ref C_BadGroup) (.type "BaseException") = some true)
    (xty_BadGroup : PySem.W.typeIn K (.ref C_BadGroup) = some (.type "type"))
    (xhd_BadGroup : PySem.W.hasDictIn K C_BadGroup = true)
    (xsu_BadGroup : PySem.W.ks_superIn K C_BadGroup C_BadGroup "__init__" = some (some (.builtin "ValueError.__init__")))
    (xsv_BadGroup : PySem.W.subIn K (.ref C_BadGroup) (.type "ValueError") = some true)
    (xmr_BadGroup : PySem.W.mroIn K C_BadGroup (.ref C_BadGroup) = some true)
    (xst_BadGroup : PySem.W.nsIn K PySem.cStatics "thirdparty.any" = some none)
    (xms_BadGroup : PySem.W.nsIn K mainGlobals "super" = some none)
    (xht_BadGroup : (l.prog.main.scope.names.lookup ("super" : Str)).isSome = false)
    (xno_BadGroup : PySem.W.findIn K (.ref C_BadGroup) "group" = some none)
    (xli_BadGroup : K.lookup i_BadGroup = some ⟨oc_BadGroup, od_BadGroup, .func (PySem.W.ksFn "__init__" "BadGroup.__init__" (defArgs (inClass (top 2) 0)) (defBody (inClass (top 2) 0)) (defScope (inClass (top 2) 0)) .none kV_BadGroup doc_BadGroup pm_BadGroup an_BadGroup (.ref cda_BadGroup) ct_BadGroup cc_BadGroup), osl_BadGroup⟩)
    (xci_BadGroup : PySem.W.codeIn K (.ref cda_BadGroup) "BadGroup.__init__" = true)
    (xcd_BadGroup : K.lookup cda_BadGroup = some ⟨ccl_BadGroup, cdd_BadGroup, .fields vs_BadGroup, ccs_BadGroup⟩)
    (xv2_BadGroup : vs_BadGroup[2]? = some (.str file_BadGroup tf_BadGroup))
    (xfi_BadGroup : ((l.prog.main.file : Str) == file_BadGroup) = true)
    (xcc_BadGroup : K.lookup cc_BadGroup = some ⟨cl_BadGroup, cld_BadGroup, .cell (some (.ref C_BadGroup)), csl_BadGroup⟩)
    (xte_BadGroup : PySem.W.exmOne K (.ref C_BadGroup) (.ref C_BadGroup) = some true)
    (lc_law : K.lookup cod_law = some ⟨ec_law, dc_law2, .fields vc_law, sc_law2⟩)
    (v11_law : vc_law[11]? = some (.ref tab_law))
    (nP_law : K.lookup tab_law = none)
    (ch_law : PySem.W.codeHdIn K cod_law tab_law = true)
    (own : LamX.OwnTab K fa h) : LamX.LawAtS l w K CX0 8 63 "_law_script" mg fa h := by
  have e := hfa.symm.trans (PySem.W.mg_of X G a_law)
  cases e
  have F_is_place := fun_mk (st := s_is_place) l_is_place c_is_place k_is_place
  have F_is_group := fun_mk (st := s_is_group) l_is_group c_is_group k_is_group
  have F_group := fun_mk (st := s_group) l_group c_group k_group
  have F_turned := fun_mk (st := s_turned) l_turned c_turned k_turned
  have F_law_source := fun_mk (st := s_law_source) l_law_source c_law_source k_law_source
  have F_law_draw := fun_mk (st := s_law_draw) l_law_draw c_law_draw k_law_draw
  have F_law_pick := fun_mk (st := s_law_pick) l_law_pick c_law_pick k_law_pick
  have F_law_name := fun_mk (st := s_law_name) l_law_name c_law_name k_law_name
  have F_law_places := fun_mk (st := s_law_places) l_law_places c_law_places k_law_places
  have F_law_group := fun_mk (st := s_law_group) l_law_group c_law_group k_law_group
  have F_law_group_names := fun_mk (st := s_law_group_names) l_law_group_names c_law_group_names k_law_group_names
  have F_law_refused := fun_mk (st := s_law_refused) l_law_refused c_law_refused k_law_refused
  have F_law := fun_mk (st := s_law) l_law c_law k_law
  have b_is_place := F_is_place.binds (ps := ["thing"]) fun _ _ _ _ _ _ us hl => match us, hl with | [_], _ => rfl
  have b_is_group := F_is_group.binds (ps := ["thing"]) fun _ _ _ _ _ _ us hl => match us, hl with | [_], _ => rfl
  have b_group := F_group.binds (ps := ["name"]) fun _ _ _ _ _ _ us hl => match us, hl with | [_], _ => rfl
  have b_turned := F_turned.binds (ps := ["place"]) fun _ _ _ _ _ _ us hl => match us, hl with | [_], _ => rfl
  have b_law_source := F_law_source.binds (ps := ["_law_script"]) fun _ _ _ _ _ _ us hl => match us, hl with | [_], _ => rfl
  have b_law_draw := F_law_draw.binds (ps := ["_law_source_here", "_law_many"]) fun _ _ _ _ _ _ us hl => match us, hl with | [_, _], _ => rfl
  have b_law_pick := F_law_pick.binds (ps := ["_law_source_here", "_law_things"]) fun _ _ _ _ _ _ us hl => match us, hl with | [_, _], _ => rfl
  have b_law_name := F_law_name.binds (ps := ["_law_source_here", "_law_taken"]) fun _ _ _ _ _ _ us hl => match us, hl with | [_, _], _ => rfl
  have b_law_places := F_law_places.binds (ps := []) fun _ _ _ _ _ _ us hl => match us, hl with | [], _ => rfl
  have b_law_group := F_law_group.binds (ps := ["_law_name_here"]) fun _ _ _ _ _ _ us hl => match us, hl with | [_], _ => rfl
  have b_law_group_names := F_law_group_names.binds (ps := []) fun _ _ _ _ _ _ us hl => match us, hl with | [], _ => rfl
  have b_law_refused := F_law_refused.binds (ps := ["_law_work"]) fun _ _ _ _ _ _ us hl => match us, hl with | [_], _ => rfl
  have b_law := F_law.binds (ps := ["_law_script"]) fun _ _ _ _ _ _ us hl => match us, hl with | [_], _ => rfl
  have y_GROUPS : ∀ (j : Nat) (nm : Str) (ps : List Str), l_GROUPS[j]? = some (nm, ps) → ∃ u : Addr, PySem.W.nsIn K a_GROUPS nm = some (some (.ref u)) ∧ ∀ H : Hp, SqT K H u (ps.map V.str) := fun j nm ps h => match j, h with
    | 0, h => by
      cases Option.some.inj h
      exact ⟨g_GROUPS_0, by rw [PySem.W.nsIn, lk_GROUPS] <;> rfl, fun H => .inr ⟨_, _, _, lg_GROUPS_0, rfl, rfl, (by show 11 ≤ sizeLine; decide), (.cons ⟨_, rfl⟩ (.cons ⟨_, rfl⟩ (.cons ⟨_, rfl⟩ (.cons ⟨_, rfl⟩ (.cons ⟨_, rfl⟩ (.cons ⟨_, rfl⟩ (.cons ⟨_, rfl⟩ (.cons ⟨_, rfl⟩ (.cons ⟨_, rfl⟩ (.cons ⟨_, rfl⟩ (.cons ⟨_, rfl⟩ .nil)))))))))))⟩⟩
    | 1, h => by
      cases Option.some.inj h
      exact ⟨g_GROUPS_1, by rw [PySem.W.nsIn, lk_GROUPS] <;> rfl, fun H => .inr ⟨_, _, _, lg_GROUPS_1, rfl, rfl, (by show 7 ≤ sizeLine; decide), (.cons ⟨_, rfl⟩ (.cons ⟨_, rfl⟩ (.cons ⟨_, rfl⟩ (.cons ⟨_, rfl⟩ (.cons ⟨_, rfl⟩ (.cons ⟨_, rfl⟩ (.cons ⟨_, rfl⟩ .nil)))))))⟩⟩
    | 2, h => by
      cases Option.some.inj h
      exact ⟨g_GROUPS_2, by rw [PySem.W.nsIn, lk_GROUPS] <;> rfl, fun H => .inr ⟨_, _, _, lg_GROUPS_2, rfl, rfl, (by show 4 ≤ sizeLine; decide), (.cons ⟨_, rfl⟩ (.cons ⟨_, rfl⟩ (.cons ⟨_, rfl⟩ (.cons ⟨_, rfl⟩ .nil))))⟩⟩
    | 3, h => by
      cases Option.some.inj h
      exact ⟨g_GROUPS_3, by rw [PySem.W.nsIn, lk_GROUPS] <;> rfl, fun H => .inr ⟨_, _, _, lg_GROUPS_3, rfl, rfl, (by show 5 ≤ sizeLine; decide), (.cons ⟨_, rfl⟩ (.cons ⟨_, rfl⟩ (.cons ⟨_, rfl⟩ (.cons ⟨_, rfl⟩ (.cons ⟨_, rfl⟩ .nil)))))⟩⟩
    | 4, h => by
      cases Option.some.inj h
      exact ⟨g_GROUPS_4, by rw [PySem.W.nsIn, lk_GROUPS] <;> rfl, fun H => .inr ⟨_, _, _, lg_GROUPS_4, rfl, rfl, (by show 5 ≤ sizeLine; decide), (.cons ⟨_, rfl⟩ (.cons ⟨_, rfl⟩ (.cons ⟨_, rfl⟩ (.cons ⟨_, rfl⟩ (.cons ⟨_, rfl⟩ .nil)))))⟩⟩
    | 5, h => by
      cases Option.some.inj h
      exact ⟨g_GROUPS_5, by rw [PySem.W.nsIn, lk_GROUPS] <;> rfl, fun H => .inr ⟨_, _, _, lg_GROUPS_5, rfl, rfl, (by show 2 ≤ sizeLine; decide), (.cons ⟨_, rfl⟩ (.cons ⟨_, rfl⟩ .nil))⟩⟩
    | 6, h => by
      cases Option.some.inj h
      exact ⟨g_GROUPS_6, by rw [PySem.W.nsIn, lk_GROUPS] <;> rfl, fun H => .inr ⟨_, _, _, lg_GROUPS_6, rfl, rfl, (by show 2 ≤ sizeLine; decide), (.cons ⟨_, rfl⟩ (.cons ⟨_, rfl⟩ .nil))⟩⟩
    | 7, h => by
      cases Option.some.inj h
      exact ⟨g_GROUPS_7, by rw [PySem.W.nsIn, lk_GROUPS] <;> rfl, fun H => .inr ⟨_, _, _, lg_GROUPS_7, rfl, rfl, (by show 3 ≤ sizeLine; decide), (.cons ⟨_, rfl⟩ (.cons ⟨_, rfl⟩ (.cons ⟨_, rfl⟩ .nil)))⟩⟩
    | 8, h => by
      cases Option.some.inj h
      exact ⟨g_GROUPS_8, by rw [PySem.W.nsIn, lk_GROUPS] <;> rfl, fun H => .inr ⟨_, _, _, lg_GROUPS_8, rfl, rfl, (by show 0 ≤ sizeLine; decide), .nil⟩⟩
    | _ + 9, h => by cases h
  have z_GROUPS : ∀ z : Str, z ∉ l_GROUPS.map (·.1) → PySem.W.nsIn K a_GROUPS z = some none := fun z hz => by
    have n0 : (Value.str "any" t_GROUPS_0).isStr z = false := isStr_ne (fun q => hz (by rw [← q]; decide +kernel))
    have n1 : (Value.str "near" t_GROUPS_1).isStr z = false := isStr_ne (fun q => hz (by rw [← q]; decide +kernel))
    have n2 : (Value.str "far" t_GROUPS_2).isStr z = false := isStr_ne (fun q => hz (by rw [← q]; decide +kernel))
    have n3 : (Value.str "less" t_GROUPS_3).isStr z = false := isStr_ne (fun q => hz (by rw [← q]; decide +kernel))
    have n4 : (Value.str "more" t_GROUPS_4).isStr z = false := isStr_ne (fun q => hz (by rw [← q]; decide +kernel))
    have n5 : (Value.str "under" t_GROUPS_5).isStr z = false := isStr_ne (fun q => hz (by rw [← q]; decide +kernel))
    have n6 : (Value.str "over" t_GROUPS_6).isStr z = false := isStr_ne (fun q => hz (by rw [← q]; decide +kernel))
    have n7 : (Value.str "cell" t_GROUPS_7).isStr z = false := isStr_ne (fun q => hz (by rw [← q]; decide +kernel))
    have n8 : (Value.str "none" t_GROUPS_8).isStr z = false := isStr_ne (fun q => hz (by rw [← q]; decide +kernel))
    rw [PySem.W.nsIn, lk_GROUPS]
    simp only [List.find?, List.any, n0, n1, n2, n3, n4, n5, n6, n7, n8]
    rfl
  have er_BadGroup : PySem.SupX.ClsTxt l.prog K mg C_BadGroup i_BadGroup "BadGroup" := { gC := PySem.W.mg_of X G xg_BadGroup, cls := ⟨nm_BadGroup, q_BadGroup, N_BadGroup, bs_BadGroup, _, sn_BadGroup, sub_BadGroup, ab_BadGroup, col_BadGroup, dd_BadGroup, k0_BadGroup, k1_BadGroup, k2_BadGroup, k3_BadGroup, k5_BadGroup, xc_BadGroup, rfl⟩, sa := xsa_BadGroup, ga := xga_BadGroup, gg := xgg_BadGroup, iC := xic_BadGroup, tC := xtc_BadGroup, kC := xkc_BadGroup, exC := xex_BadGroup, tyC := xty_BadGroup, hdC := xhd_BadGroup, msup := PySem.W.mg_none_of X G xms_BadGroup, sup := xsu_BadGroup, sve := xsv_BadGroup, mro := xmr_BadGroup, st := xst_BadGroup, htop := xht_BadGroup }
  have fn_BadGroup : PySem.SupX.FnTxt l.prog K C_BadGroup i_BadGroup "group" := { noN := xno_BadGroup, nd := by decide, sf := by decide, lf := by decide, lc := by decide, ls := by decide, fn := ⟨oc_BadGroup, doc_BadGroup, pm_BadGroup, kV_BadGroup, ct_BadGroup, od_BadGroup, an_BadGroup, osl_BadGroup, _, _, _, _, _, _, _, _, _, _, _, _, _, _, _, cda_BadGroup, cc_BadGroup, vs_BadGroup, file_BadGroup, tf_BadGroup, ccl_BadGroup, cl_BadGroup, cdd_BadGroup, cld_BadGroup, ccs_BadGroup, csl_BadGroup, _, rfl, xli_BadGroup, xci_BadGroup, fun _ _ => rfl, xcd_BadGroup, xv2_BadGroup, xfi_BadGroup, xcc_BadGroup, ⟨_, fun _ => rfl⟩, fun _ => rfl, fun _ => rfl⟩ }
  let T : Txt l.prog w K mg := {
f_is_place := f_is_place, d_is_place := _, F_is_place := F_is_place, b_is_place := b_is_place, m_is_place := PySem.W.mg_of X G a_is_place,
    f_is_group := f_is_group, d_is_group := _, F_is_group := F_is_group, b_is_group := b_is_group, m_is_group := PySem.W.mg_of X G a_is_group,
    f_group := f_group, d_group := _, F_group := F_group, b_group := b_group, m_group := PySem.W.mg_of X G a_group,
    f_turned := f_turned, d_turned := _, F_turned := F_turned, b_turned := b_turned, m_turned := PySem.W.mg_of X G a_turned,
    f_law_source := f_law_source, d_law_source := _, F_law_source := F_law_source, b_law_source := b_law_source, m_law_source := PySem.W.mg_of X G a_law_source,
    f_law_draw := f_law_draw, d_law_draw := _, F_law_draw := F_law_draw, b_law_draw := b_law_draw, m_law_draw := PySem.W.mg_of X G a_law_draw,
    f_law_pick := f_law_pick, d_law_pick := _, F_law_pick := F_law_pick, b_law_pick := b_law_pick, m_law_pick := PySem.W.mg_of X G a_law_pick,
    f_law_name := f_law_name, d_law_name := _, F_law_name := F_law_name, b_law_name := b_law_name, m_law_name := PySem.W.mg_of X G a_law_name,
    f_law_places := f_law_places, d_law_places := _, F_law_places := F_law_places, b_law_places := b_law_places, m_law_places := PySem.W.mg_of X G a_law_places,
    f_law_group := f_law_group, d_law_group := _, F_law_group := F_law_group, b_law_group := b_law_group, m_law_group := PySem.W.mg_of X G a_law_group,
    f_law_group_names := f_law_group_names, d_law_group_names := _, F_law_group_names := F_law_group_names, b_law_group_names := b_law_group_names, m_law_group_names := PySem.W.mg_of X G a_law_group_names,
    f_law_refused := f_law_refused, d_law_refused := _, F_law_refused := F_law_refused, b_law_refused := b_law_refused, m_law_refused := PySem.W.mg_of X G a_law_refused,
    f_law := fa, d_law := _, F_law := F_law, b_law := b_law, m_law := hfa,
    m_int := PySem.W.mg_none_of X G z_int,
    m_str := PySem.W.mg_none_of X G z_str,
    m_isinstance := PySem.W.mg_none_of X G z_isinstance,
    m_range := PySem.W.mg_none_of X G z_range,
    m_len := PySem.W.mg_none_of X G z_len,
    m_tuple := PySem.W.mg_none_of X G z_tuple,
    a_GROUPS := a_GROUPS, m_GROUPS := PySem.W.mg_of X G x_GROUPS, e_GROUPS := _, n_GROUPS := _, kd_GROUPS := ⟨lk_GROUPS, ky_GROUPS, lo_GROUPS⟩, y_GROUPS := y_GROUPS, z_GROUPS := z_GROUPS,
    a_PLACES := a_PLACES, q_PLACES := fun H => .inr ⟨_, _, _, lk_PLACES, rfl, rfl, (by show 11 ≤ sizeLine; decide), (.cons ⟨_, rfl⟩ (.cons ⟨_, rfl⟩ (.cons ⟨_, rfl⟩ (.cons ⟨_, rfl⟩ (.cons ⟨_, rfl⟩ (.cons ⟨_, rfl⟩ (.cons ⟨_, rfl⟩ (.cons ⟨_, rfl⟩ (.cons ⟨_, rfl⟩ (.cons ⟨_, rfl⟩ (.cons ⟨_, rfl⟩ .nil)))))))))))⟩, o_PLACES := ⟨_, lk_PLACES, rfl, rfl⟩, m_PLACES := PySem.W.mg_of X G x_PLACES,
    C_BadGroup := C_BadGroup, i_BadGroup := i_BadGroup, er_BadGroup := er_BadGroup, fn_BadGroup := fn_BadGroup, xf_BadGroup := ⟨xga_BadGroup, xgg_BadGroup, xex_BadGroup, xhd_BadGroup⟩, te_BadGroup := xte_BadGroup,
    c_law := cod_law, P_law := tab_law, G_law := ⟨⟨_, _, _, _, _, _, _, _, rfl, l_law, c_law⟩⟩ }
  have one : ∀ {p : Addr × Addr}, p ∈ [(cod_law, tab_law)] → p = (cod_law, tab_law) := fun h => List.mem_singleton.mp h
  refine ⟨PySem.W.fnOf "law" "law" (defArgs s_law) (defBody s_law) (defScope s_law) .none kV_law dc_law pm_law an_law (.ref cod_law) ct_law, [(cod_law, tab_law)], spLawT K tab_law, fun p hp => ?_, fun p hp => ?_, fun p hp => ?_, fun s v => .of_eq rfl, fun H a ns hl _ hT hS => ⟨a, ns, rfl, hS, hl, hT _ List.mem_cons_self, fun _ => rfl⟩, fun base _ _ hTB => ok_law T (hTB _ List.mem_cons_self)⟩
  · rw [one hp]
    exact own _ _ _ _ _ _ _ _ l_law rfl rfl lc_law v11_law
  · rw [one hp]
    exact nP_law
  · rw [one hp]
    exact PySem.W.codeHd_of_K X ch_law
theorem walk {l : PySem.W.OpenLaw} {q : Program} {loose : List Str} {XP : (Str → Option Value) → Heap → Prop} {YP : World → Heap → Prop} {d : DefRec} {K : Params → PySem.W.Frag} (hn : l.most = some 63) (hdf : d.params.defaults = []) (hrec : ((PyProof.Rows.recsOf q).any fun e => e.name == d.name) = true)
    (hY : ∀ (w : World) (h : Heap), YP w h → (K w.params).In h)
    (F : ∀ (w : World) (mg : Str → Option Value) (fa : Addr) (h : Heap), (K w.params).In h → h.Ns mainGlobals mg → mg d.name = some (.ref fa) → LamX.OwnTab (K w.params) fa h → LamX.LawAtS l w (K w.params) CX0 8 63 "_law_script" mg fa h) :
    PySem.W.WalkO q loose XP YP l.row.toRowW d [] (fun f vs => PySem.call f vs) :=
  LamX.walk_ofOwn (n := 63) (k := 8) (x := "_law_script") (CX := fun _ => CX0) hn (by decide) hdf ⟨rfl, by decide, by decide⟩ hrec hY (fun w mg fa h Y KX G e own => F w mg fa h KX G e own) fun _ _ _ _ _ z => z
end Toy
open PySem PySem.W PyProof.Rows
set_option maxRecDepth 100000 in
set_option maxHeartbeats 0 in
theorem PySem.Challenge.cw_nearloops_k04_groups_told_holds : PySem.Challenge.rw_nearloops_k04_groups_told.Holds := by
  w_on; o_law; k_head; (case hw => w_witness2)
  k_fill
  refine Toy.walk (l := PySem.Challenge.rw_nearloops_k04_groups_told) rfl rfl ?hrec (fun w h Y => PySem.W.km_in_of Y) ?F
  case hrec => first | rfl | kernel_rfl | decide +kernel
  case F =>
    intro w mg fa h KX G hmg own
    refine' Toy.all_mk KX G hmg ?x_PLACES ?lk_PLACES ?x_GROUPS ?lk_GROUPS ?ky_GROUPS ?lo_GROUPS ?lg_GROUPS_0 ?lg_GROUPS_1 ?lg_GROUPS_2 ?lg_GROUPS_3 ?lg_GROUPS_4 ?lg_GROUPS_5 ?lg_GROUPS_6 ?lg_GROUPS_7 ?lg_GROUPS_8 ?a_is_place ?l_is_place ?c_is_place ?k_is_place ?a_is_group ?l_is_group ?c_is_group ?k_is_group ?a_group ?l_group ?c_group ?k_group ?a_turned ?l_turned ?c_turned ?k_turned ?a_law_source ?l_law_source ?c_law_source ?k_law_source ?a_law_draw ?l_law_draw ?c_law_draw ?k_law_draw ?a_law_pick ?l_law_pick ?c_law_pick ?k_law_pick ?a_law_name ?l_law_name ?c_law_name ?k_law_name ?a_law_places ?l_law_places ?c_law_places ?k_law_places ?a_law_group ?l_law_group ?c_law_group ?k_law_group ?a_law_group_names ?l_law_group_names ?c_law_group_names ?k_law_group_names ?a_law_refused ?l_law_refused ?c_law_refused ?k_law_refused ?a_law ?l_law ?c_law ?k_law ?z_int ?z_str ?z_isinstance ?z_range ?z_len ?z_tuple ?xg_BadGroup ?xc_BadGroup ?xsa_BadGroup ?xga_BadGroup ?xgg_BadGroup ?xic_BadGroup ?xtc_BadGroup ?xkc_BadGroup ?xex_BadGroup ?xty_BadGroup ?xhd_BadGroup ?xsu_BadGroup ?xsv_BadGroup ?xmr_BadGroup ?xst_BadGroup ?xms_BadGroup ?xht_BadGroup ?xno_BadGroup ?xli_BadGroup ?xci_BadGroup ?xcd_BadGroup ?xv2_BadGroup ?xfi_BadGroup ?xcc_BadGroup ?xte_BadGroup ?lc_law ?v11_law ?nP_law ?ch_law own
    (case x_PLACES => k_is)
    (case lk_PLACES => k_is)
    (case x_GROUPS => k_is)
    (case lk_GROUPS => k_is)
    (case ky_GROUPS => k_keys)
    (case lo_GROUPS => rfl)
    (case lg_GROUPS_0 => k_is)
    (case lg_GROUPS_1 => k_is)
    (case lg_GROUPS_2 => k_is)
    (case lg_GROUPS_3 => k_is)
    (case lg_GROUPS_4 => k_is)
    (case lg_GROUPS_5 => k_is)
    (case lg_GROUPS_6 => k_is)
    (case lg_GROUPS_7 => k_is)
    (case lg_GROUPS_8 => k_is)
    (case a_is_place => k_is)
    (case l_is_place => k_is)
    (case c_is_place => k_is)
    (case k_is_place => k_is)
    (case a_is_group => k_is)
    (case l_is_group => k_is)
    (case c_is_group => k_is)
    (case k_is_group => k_is)
    (case a_group => k_is)
    (case l_group => k_is)
    (case c_group => k_is)
    (case k_group => k_is)
    (case a_turned => k_is)
    (case l_turned => k_is)
    (case c_turned => k_is)
    (case k_turned => k_is)
    (case a_law_source => k_is)
    (case l_law_source => k_is)
    (case c_law_source => k_is)
    (case k_law_source => k_is)
    (case a_law_draw => k_is)
    (case l_law_draw => k_is)
    (case c_law_draw => k_is)
    (case k_law_draw => k_is)
    (case a_law_pick => k_is)
    (case l_law_pick => k_is)
    (case c_law_pick => k_is)
    (case k_law_pick => k_is)
    (case a_law_name => k_is)
    (case l_law_name => k_is)
    (case c_law_name => k_is)
    (case k_law_name => k_is)
    (case a_law_places => k_is)
    (case l_law_places => k_is)
    (case c_law_places => k_is)
    (case k_law_places => k_is)
    (case a_law_group => k_is)
    (case l_law_group => k_is)
    (case c_law_group => k_is)
    (case k_law_group => k_is)
    (case a_law_group_names => k_is)
    (case l_law_group_names => k_is)
    (case c_law_group_names => k_is)
    (case k_law_group_names => k_is)
    (case a_law_refused => k_is)
    (case l_law_refused => k_is)
    (case c_law_refused => k_is)
    (case k_law_refused => k_is)
    (case a_law => k_is)
    (case l_law => k_is)
    (case c_law => k_is)
    (case k_law => k_is)
    (case z_int => k_is)
    (case z_str => k_is)
    (case z_isinstance => k_is)
    (case z_range => k_is)
    (case z_len => k_is)
    (case z_tuple => k_is)
    (case xg_BadGroup => k_is)
    (case xc_BadGroup => k_is)
    (case xsa_BadGroup => k_is)
    (case xga_BadGroup => k_is)
    (case xgg_BadGroup => k_is)
    (case xic_BadGroup => k_is)
    (case xtc_BadGroup => k_is)
    (case xkc_BadGroup => k_is)
    (case xex_BadGroup => k_is)
    (case xty_BadGroup => k_is)
    (case xhd_BadGroup => k_is)
    (case xsu_BadGroup => first | ks_is | first | rfl | kernel_rfl | decide +kernel)
    (case xsv_BadGroup => k_is)
    (case xmr_BadGroup => k_is)
    (case xst_BadGroup => k_is)
    (case xms_BadGroup => k_is)
    (case xht_BadGroup => first | rfl | kernel_rfl | decide +kernel)
    (case xno_BadGroup => k_is)
    (case xli_BadGroup => k_is)
    (case xci_BadGroup => k_is)
    (case xcd_BadGroup => k_is)
    (case xv2_BadGroup => exact rfl)
    (case xfi_BadGroup => first | rfl | kernel_rfl | decide +kernel)
    (case xcc_BadGroup => k_is)
    (case xte_BadGroup => first | rfl | kernel_rfl | decide +kernel)
    (case lc_law => k_is)
    (case v11_law => exact rfl)
    (case nP_law => first | rfl | kernel_rfl | decide +kernel)
    (case ch_law => first | rfl | kernel_rfl | decide +kernel)

