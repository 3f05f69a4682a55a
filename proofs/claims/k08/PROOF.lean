import PyProof.Rows.All
import Wide.All
import OpenK.AllK
import Wide.FinOn
import HandS.Base
import HandS.Call
import HandS.List
import HandS.Ends
import HandS.Words
import HandS.WordsList
import HandS.Wide
import HandS.WideBits
import HandS.IsInst
import HandS.Comp
import HandS.Strs
import HandS.Codes
import HandS.More
import HandS.Dict
import HandS.WordsDict
import HandS.Text
import HandS.Iter
import HandS.Walk
import HandS.Exc
import HandS.ExcOwn
import HandS.ExcInit
import HandS.ExcSuper
import KE.KExcSuper
import HandS.ExcField
import HandS.WordsExc
import HandS.Lambda
import HandS.EndTab
import HandS.EndOwn
import PyProof.DictUpdate
import HandS.SetKeys
import PyProof.DictMoreH
import KE.GoesEnum
import KE.GoesEnumKw
import HandS.Conv
import KE.KDictSum
import HandS.NoneIn
import HandS.Defaults
import HandS.Property
import HandS.Zip
import HandS.TryMany
import PySem.Challenge.RW_nearloops_k08_rules_that_fit
set_option Elab.async false
set_option maxRecDepth 100000
set_option maxHeartbeats 4000000

namespace PySem
namespace SupX
open PySem.W PySem.Calls PyProof.Rows PySem.HandSPX
/-! ### an own error over an own error over ValueError: def __init__(self, f): super().__init__('..'); self.f = f -/
def iA (f : Str) (p1 p2 : Pos) : Arguments :=
  { posonlyargs := [], args := [{ arg := "self", annotation := none, pos := p1 }, { arg := f, annotation := none, pos := p2 }], vararg := none, kwonlyargs := [], kw_defaults := [], kwarg := none, defaults := [] }
def iB (f tx : Str) (k0 : Nat) (q1 q2 q3 q4 q5 q6 q7 q8 q9 q10 : Pos) : List Stmt :=
  [.Expr (.Call (.Attribute (.Call (.Name "super" q1) [] [] q2) "__init__" q3) [.Constant (.str tx) k0 q4] [] q5) q6, .Assign [.Attribute (.Name "self" q7) f q8] (.Name f q9) q10]
def iS (f : Str) : Scope := { kind := .function, names := [("self", .local), (f, .local), ("__class__", .free), ("super", .globalImplicit)], isGenerator := false, isCoroutine := false, more := [] }
abbrev veTl : List Value := [.type "ValueError", .type "Exception", .type "BaseException", .type "object"]
/-- what is the same for every such class -/
structure ClsTxt (P : Program) (K : Frag) (mg : Str → Option Value) (C fI : Addr) (x : Str) : Prop where
  gC : mg x = some (.ref C)
  cls : ∃ nm q N bs bm sn sub ab col dd k0 k1 k2 k3 k5, K.lookup C = some (excClassObj nm q C N bs bm true sn sub ab col dd k0 k1 k2 k3 k5 "ValueError.__new__") ∧ refsVE bm = true
  sa : findIn K (.ref C) "__setattr__" = some (some (.builtin "object.__setattr__"))
  ga : findIn K (.ref C) "__getattribute__" = some (some (.builtin "BaseException.__getattribute__"))
  gg : findIn K (.ref C) "__getattr__" = some none
  iC : findIn K (.ref C) "__init__" = some (some (.ref fI))
  tC : typeIn K (.ref fI) = some (.type "function")
  kC : keepIn K (.ref C) = true
  exC : subIn K (.ref C) (.type "BaseException") = some true
  tyC : typeIn K (.ref C) = some (.type "type")
  hdC : hasDictIn K C = true
  msup : mg "super" = none
  sup : ks_superIn K C C "__init__" = some (some (.builtin "ValueError.__init__"))
  sve : subIn K (.ref C) (.type "ValueError") = some true
  mro : mroIn K C (.ref C) = some true
  st : nsIn K cStatics "thirdparty.any" = some none
  htop : (P.main.scope.names.lookup ("super" : Str)).isSome = false
structure FnTxt (P : Program) (K : Frag) (C fI : Addr) (f : Str) : Prop where
  noN : findIn K (.ref C) f = some none
  nd : (f == ("__debug__" : Str)) = false
  sf : (("self" : Str) == f) = false
  lf : (iS f).names.lookup f = some .local
  lc : (iS f).names.lookup ("__class__" : Str) = some .free
  ls : (iS f).names.lookup ("super" : Str) = some .globalImplicit
  fn : ∃ (oc doc pm kV ct : Value) (od an : Option Addr) (osl : Array (Option Value)) (tx qual : Str) (k0 : Nat) (p1 p2 q1 q2 q3 q4 q5 q6 q7 q8 q9 q10 : Pos) (cda cc : Addr) (vs : Array Value) (file : Str) (tf : Tok)
      (ccl cl : Value) (cdd cld : Option Addr) (ccs csl : Array (Option Value)) (fd : FuncData),
    fd = ksFn "__init__" qual (iA f p1 p2) (iB f tx k0 q1 q2 q3 q4 q5 q6 q7 q8 q9 q10) (iS f) .none kV doc pm an (.ref cda) ct cc ∧
    K.lookup fI = some ⟨oc, od, .func fd, osl⟩ ∧ codeIn K (.ref cda) qual = true ∧ (∀ a v : Value, bindArgs fd ⟨[a, v], []⟩ = pure [(("self" : Str), a), (f, v)]) ∧
    K.lookup cda = some ⟨ccl, cdd, .fields vs, ccs⟩ ∧ vs[2]? = some (.str file tf) ∧ ((P.main.file : Str) == file) = true ∧ K.lookup cc = some ⟨cl, cld, .cell (some (.ref C)), csl⟩ ∧
    (∃ pl : Sem Bool, ∀ L : Addr, eval (.Call (.Attribute (.Call (.Name "super" q1) [] [] q2) "__init__" q3) [.Constant (.str tx) k0 q4] [] q5) (ksEnv qual (iS f) L fI (.ref cda) cc) = (do
      let ov ← attributeBase (.Call (.Name "super" q1) [] [] q2) "__init__" (ksEnv qual (iS f) L fI (.ref cda) cc) (eval (.Call (.Name "super" q1) [] [] q2) (ksEnv qual (iS f) L fI (.ref cda) cc))
      standAt q3.atName
      let (fv, first) ← holding [ov] (getMethod ov "__init__" pl)
      callWith q5 fv first (backTo q5 (starEach [.Constant (.str tx) k0 q4] (ksEnv qual (iS f) L fI (.ref cda) cc))) [])) ∧
    (∀ L : Addr, swapsWith (.Name f q9) (some (.Attribute (.Name "self" q7) f q8)) q10.line (ksEnv qual (iS f) L fI (.ref cda) cc) = pure false) ∧
    (∀ L : Addr, swapsWith (.Call (.Attribute (.Call (.Name "super" q1) [] [] q2) "__init__" q3) [.Constant (.str tx) k0 q4] [] q5) none q6.line (ksEnv qual (iS f) L fI (.ref cda) cc) = pure false)
theorem one_size (v : Value) : [v].length ≤ sizeLine := by
  rw [sizeLine_eq]
  exact (by decide : 1 ≤ 16777216)
/-- what __init__ leaves of a fresh exception at x: a new args tuple, the argument in its own dict -/
structure InitEnd (h h' : Heap) (x C dx t1 : Addr) (f : Str) (v : Value) : Prop where
  keep : ∀ b o, b ≠ x → h.get? b = some o → h'.get? b = some o
  obj : h'.get? x = some { cls := .ref C, dict := some dx, data := .fields #[.ref t1, .none, .none, .none, .bool false, .none] }
  dbig : h.objs.size ≤ dx
  dne : dx ≠ x
  ns : h'.Ns1 dx (fun y => if y = f then some v else none)
section
variable {prog : Program} {w : World} {A : Around} {E : Value → Shared → Prop} {R : Result → Shared → Prop} {s : Shared} {K : Frag} {mg : Str → Option Value} {C fI : Addr} {x f : Str}
/-- the bound ValueError.__init__ called -/
theorem ve_init {h : Heap} {g : Array GenState} {d : Drawn} {t : Nat} {os : OsState} {nm q : Str} {N : Addr} {bs bm : List Value} {sn : List Str} {sub : List Value} {ab : Bool} {col : Option Bool} {dd : Option Addr} {k0 k1 k2 k3 k5 : Option Value}
    {u e t0 : Addr} {us : List Value} {Q : Value → Shared → Prop}
    (hC : h.get? C = some (excClassObj nm q C N bs bm true sn sub ab col dd k0 k1 k2 k3 k5 "ValueError.__new__")) (he : h.get? e = some (excO C t0)) (hu : h.get? u = some (kxs_mw "ValueError.__init__" e)) (hus : us.length ≤ sizeLine)
    (hq : ∀ h' t1, (∀ b o, b ≠ e → h.get? b = some o → h'.get? b = some o) → h'.get? e = some (excO C t1) → Q .none ⟨h', g, d, t, os⟩) :
    wpAny (model prog w) A (call (.ref u) us) Q E ⟨h, g, d, t, os⟩ := by
  refine wpAny_call (codeAny_of_tree ?_)
  show wpAny _ A.in1 (callAny (.ref u) ⟨us, []⟩) _ _ _
  simp only [callAny]
  refine wpAny_bind (wpAny_load hu ?_)
  have z : (Value.type "method-wrapper" == Value.type "method" || Value.type "method-wrapper" == Value.type "builtin_function_or_method" || Value.type "method-wrapper" == Value.type "method-wrapper") = true := by decide
  simp only [kxs_mw, z, if_true]
  refine KFB.if_so (by decide) (wpAny_bind (check_bound_init F.excBase_ValueError.toExcCallFacts hC he rfl ?_))
  refine wpAny_bind (wpAny_pure (wpAny_pure ⟨plainId_quiet F.excBase_ValueError.init.plain _, codeAny_builtin F.excBase_ValueError.initEntry ?_⟩))
  rw [Around.under_plainId F.excBase_ValueError.init.plain _]
  exact exc_init_tree (cls := .ref C) (t0 := t0) (dv := none) (c2 := .none) (c3 := .none) (b4 := .bool false) he hus fun h' k e' _ => hq h' _ k e'
theorem cls_of {h : Heap} (T : ClsTxt prog K mg C fI x) (X : K.In h) : ∃ cd oD, clsIn K C = some cd ∧ h.get? C = some oD ∧ oD.data = .cls cd := by
  obtain ⟨nm, q, N, bs, bm, sn, sub, ab, col, dd, k0, k1, k2, k3, k5, hC, _⟩ := T.cls
  exact ⟨_, _, by unfold clsIn; rw [hC] <;> rfl, X _ _ hC, rfl⟩
theorem sup_init (T : ClsTxt prog K mg C fI x) (Tf : FnTxt prog K C fI f) {e t0 : Addr} {v : Value} (X : K.In s.heap) (G : s.heap.Ns mainGlobals mg) {mb : Str → Option Value} (B : s.heap.Ns builtinsNs mb) (hb : mb "super" = some (.type "super"))
    (hlim : s.heap.NoLimit) (hx : s.heap.get? e = some (excO C t0)) (hnx : K.lookup e = none) (hroom : A.depth < recursionLimit)
    (hq : ∀ h' tk dx t1, InitEnd s.heap h' e C dx t1 f v → R (.ok (.ret .none)) { s with heap := h', toks := tk }) :
    codeAny (model prog w) A (.call (.ref fI) ⟨[.ref e, v], []⟩) R s := by
  obtain ⟨oc, doc, pm, kV, ct, od, an, osl, tx, qual, k0, p1, p2, q1, q2, q3, q4, q5, q6, q7, q8, q9, q10, cda, cc, vs, file, tf, ccl, cl, cdd, cld, ccs, csl, fd, rfl, ho, hcd, hbind, hcode, hvs, hfile, hcell, ⟨pl, he⟩, hsw, hsw0⟩ := Tf.fn
  obtain ⟨nm, q, N, bs, bm, sn, sub, ab, col, dd, j0, j1, j2, j3, j5, hC, hbm⟩ := T.cls
  obtain ⟨cd, oD, hcl, hD1, hD2⟩ := cls_of T X
  refine ks_codeAny_call_defAt (body := iB f tx k0 q1 q2 q3 q4 q5 q6 q7 q8 q9 q10) hroom (X _ _ ho) rfl hlim (codeRec_of X hcd) rfl (BindsTo.of_eq (hbind (.ref e) v)) ?_ ?_ (fun h₁ hn hk => ?_) rfl rfl rfl
  · show ∀ y ∈ (iS f).names, y.2 ≠ .cell
    intro y hy
    unfold iS at hy
    simp only [List.mem_cons, List.not_mem_nil, or_false] at hy
    rcases hy with rfl | rfl | rfl | rfl <;> (intro z; cases z)
  · show ∀ y ∈ ([(("self" : Str), Value.ref e), (f, v)] : List (Str × Value)), (iS f).names.lookup y.1 = some .local
    intro y hy
    simp only [List.mem_cons, List.not_mem_nil, or_false] at hy
    rcases hy with rfl | rfl
    · rfl
    · exact Tf.lf
  have X1 : K.In h₁ := X.keeps hk
  have hx1 := hk _ _ hx
  have hD1' := hk _ _ hD1
  have vS : ([(("self" : Str), Value.ref e), (f, v)] : List (Str × Value)).reverse.lookup ("self" : Str) = some (.ref e) := by
    show List.lookup ("self" : Str) [(f, v), (("self" : Str), Value.ref e)] = some (.ref e)
    rw [List.lookup_cons, Tf.sf]
    rfl
  have vF : ([(("self" : Str), Value.ref e), (f, v)] : List (Str × Value)).reverse.lookup f = some v := by
    show List.lookup f [(f, v), (("self" : Str), Value.ref e)] = some v
    rw [List.lookup_cons, beq_self_eq_true]
  have hI1 : InstAt h₁ e (excO C t0) C none := ⟨hx1, rfl, rfl, trivial⟩
  refine ks_wpAt_execs_cons (ks_wpAt_Expr_any (ks_wpAt_MethodCall (pl := pl) (ks_wpAt_super_base Tf.ls Tf.lc rfl rfl (X1 _ _ ho) rfl rfl rfl (X1 _ _ hcode) rfl hvs hfile T.htop ?_) (he _)) rfl (hsw0 _))
  refine ks_loadName_global rfl Tf.ls (loadGlobal_builtin (G.keeps hk) T.msup (B.keeps hk) hb ⟨rfl, ?_⟩)
  refine wpAny_loadName_free rfl Tf.lc rfl ⟨_, X1 _ _ hcell, rfl⟩ ?_
  refine wpAny_loadName_local rfl rfl hn vS ?_
  refine ks_wpAny_isType_cls hD1' hD2 ⟨rfl, ?_⟩
  refine ks_wpAny_call_super hD1' hD2 hx1 rfl (fun c z => by cases z) (looks_mroIn X1 T.mro) (fun h₂ e2 k2 => ?_)
  have hk2 : ∀ b o, s.heap.get? b = some o → h₂.get? b = some o := fun b o z => k2 b o (hk b o z)
  have X2 : K.In h₂ := X.keeps hk2
  have hx2 := k2 _ _ hx1
  have hI2 : InstAt h₂ e (excO C t0) C none := ⟨hx2, rfl, rfl, trivial⟩
  have hsup := T.sup
  unfold ks_superIn at hsup
  rw [hcl] at hsup
  refine kxs_getMethod kxs_ValueError e2 (looks_opaque X2 T.st) (l₀ := cd.mro) (fun A Q E s k q => wpAny_bind ((looks_clsIn X2 hcl) A _ E s k (wpAny_pure q))) rfl X2 hsup (hI2.type.andThen (looks_subIn X2 T.sve)) (ks_ne X2 hI2 hcl) rfl ?_
  refine kxs_callWith (i := "ValueError.__init__") (x := e) rfl (evalArgs_plain ?_)
  refine spliced_cons (wpAny_Constant_str (k := k0) (pos := q4) (spliced_nil ?_))
  have hx3 : (h₂.push (kxs_mw "ValueError.__init__" e)).get? e = some (excO C t0) := Heap.get?_push_of_some _ hx2
  refine ⟨Heap.get?_push_size _ rfl, ?_⟩
  refine ve_init (t0 := t0) (Heap.get?_push_of_some _ (X2 _ _ hC)) hx3 (Heap.get?_push_size _ rfl) (one_size _) fun h₃ t1 k3 hx4 => ?_
  have hk3 : ∀ b o, b ≠ e → s.heap.get? b = some o → h₃.get? b = some o := fun b o hb z => k3 b o hb (Heap.get?_push_of_some _ (hk2 b o z))
  have X3 : K.In h₃ := fun a o z => hk3 a o (fun q => by rw [q, hnx] at z; cases z) (X a o z)
  have hL : e ≠ s.heap.objs.size := Nat.ne_of_lt (Heap.lt_size hx)
  have hn3 : h₃.Ns s.heap.objs.size fun y => ([(("self" : Str), Value.ref e), (f, v)] : List (Str × Value)).reverse.lookup y := by
    obtain ⟨oL, es, ep, q, r⟩ := hn
    exact ⟨oL, es, ep, k3 _ _ (Ne.symm hL) (Heap.get?_push_of_some _ (k2 _ _ q)), r⟩
  refine wpAt_of_wpAny ?_
  refine wpAny_execs_cons (plainObj_wpAny_Assign_Attribute ?_ (hsw _))
  refine ESX.ldL hn3 vF (ESX.ldL hn3 vS ?_ rfl rfl (by decide)) rfl Tf.lf Tf.nd
  refine set_plain X3 (ox := excO C t1) (od := none) ⟨hx4, rfl, rfl, trivial⟩ T.sa ?_
  have hcd2 : clsIn K C = some { name := nm, bases := bs, mro := .ref C :: bm, ns := N, qualname := q, hasDict := true, slotNames := sn, subclasses := sub, abstract := ab, collection := col, hasDel := false } := by unfold clsIn; rw [hC] <;> rfl
  refine exc_osa X3 hx4 hcd2 (show refsVE (.ref C :: bm) = true from hbm) rfl Tf.noN (fun h₄ tk₄ dx k₄ dn dne hx₄ hn₄ => ?_)
  refine wpAny_execs_nil (hq h₄ tk₄ dx t1 ⟨fun b o hb z => k₄ b o hb (hk3 b o hb z), hx₄, ?_, dne, hn₄⟩)
  have z1 : h₂.objs.size < h₃.objs.size := by
    have z := k3 h₂.objs.size _ (fun q => ?_) (Heap.get?_push_size (o := kxs_mw "ValueError.__init__" e) h₂ rfl)
    · exact Heap.lt_size z
    · exact Nat.lt_irrefl _ (Nat.lt_of_lt_of_eq (Heap.lt_size hx2) q)
  have z2 : s.heap.objs.size < h₂.objs.size := by
    obtain ⟨oL, es, ep, q, r⟩ := hn
    exact Heap.lt_size (k2 _ _ q)
  exact Nat.le_of_lt (Nat.lt_trans z2 (Nat.lt_of_lt_of_le z1 dn))
/-- a made error: e, its own dict d holds f = v -/
structure Made (h h' : Heap) (e C d : Addr) (f : Str) (v : Value) : Prop where
  keep : ∀ b o, h.get? b = some o → h'.get? b = some o
  new : h.objs.size ≤ e
  obj : ∃ oe vs, h'.get? e = some oe ∧ oe.cls = .ref C ∧ oe.dict = some d ∧ oe.data = .fields vs ∧ vs[1]? = some .none
  dbig : h.objs.size ≤ d
  dne : d ≠ e
  ns : h'.Ns1 d (fun y => if y = f then some v else none)
theorem sup_made (T : ClsTxt prog K mg C fI x) (Tf : FnTxt prog K C fI f) {v : Value} (X : K.In s.heap) (G : s.heap.Ns mainGlobals mg) {mb : Str → Option Value} (B : s.heap.Ns builtinsNs mb) (hb : mb "super" = some (.type "super"))
    (hlim : s.heap.NoLimit) (hroom : A.depth + 1 < recursionLimit)
    (hq : ∀ h' tk e d, Made s.heap h' e C d f v → R (.ok (.ret (.ref e))) { s with heap := h', toks := tk }) :
    codeAny (model prog w) A (.call (.ref C) ⟨[v], []⟩) R s := by
  obtain ⟨nm, q, N, bs, bm, sn, sub, ab, col, dd, k0, k1, k2, k3, k5, hC, hbm⟩ := T.cls
  obtain ⟨hp, g, dr, tk, os⟩ := s
  have k : ∀ b o, hp.get? b = some o → ((hp.push (kdv_tup [v])).push (excO C hp.objs.size)).get? b = some o := fun b o e => Heap.get?_push_of_some _ (Heap.get?_push_of_some _ e)
  have hget : ((hp.push (kdv_tup [v])).push (excO C hp.objs.size)).get? (hp.objs.size + 1) = some (excO C hp.objs.size) := by heap_get
  have hnx : K.lookup (hp.objs.size + 1) = none := by
    cases e : K.lookup (hp.objs.size + 1) with
    | none => rfl
    | some o => exact absurd (Nat.lt_of_succ_lt (Heap.lt_size (X _ _ e))) (Nat.lt_irrefl _)
  refine call_own F.excBase_ValueError (fun Y => refsVE_contains Y bm hbm) (X _ _ hC) (looks_findIn X T.iC) (fun self => bind_fn X self T.tC) (one_size v) ?_
  refine sup_init (s := ⟨(hp.push (kdv_tup [v])).push (excO C hp.objs.size), g, dr, tk, os⟩) T Tf (X.keeps k) (G.keeps k) (B.keeps k) hb (hlim.keeps k) hget hnx ?_ fun h' tk' dx t1 ⟨k', hx, dn, dne, hns⟩ => ?_
  · show A.depth + 1 < recursionLimit
    exact hroom
  have old : ∀ b o, hp.get? b = some o → h'.get? b = some o := fun b o e => k' b o (Nat.ne_of_lt (Nat.lt_succ_of_lt (Heap.lt_size e))) (k b o e)
  have z : hp.objs.size + 1 + 1 ≤ dx := by
    have q := dn
    rw [Heap.size_push, Heap.size_push] at q
    exact q
  exact ⟨rfl, hq h' tk' (hp.objs.size + 1) dx ⟨old, Nat.le_succ _, ⟨_, _, hx, rfl, rfl, rfl, rfl⟩, Nat.le_trans (Nat.le_trans (Nat.le_succ _) (Nat.le_succ _)) z, dne, hns⟩⟩
end
end SupX
end PySem
namespace L2
open PySem PySem.Spec PyProof.Rows
theorem relO_one {v : V} {v' : Value} {f : Str} (r : RelV v v') (g : Str) : RelO (List.lookup g [(f, v)]) (if g = f then some v' else none) := by
  by_cases hw : g = f
  · subst hw
    rw [if_pos rfl]
    have q : List.lookup g [(g, v)] = some v := by simp [List.lookup]
    rw [q]
    exact r
  · rw [if_neg hw]
    have qw : (g == f) = false := by simpa using hw
    have q2 : List.lookup g [(f, v)] = none := by simp [List.lookup, qw]
    rw [q2]
    trivial
section
variable {X : Cx} {C fI : Addr} {x f : Str}
/-- C(e) -/
def tMkSup (C : Addr) (f : Str) (ta : TA) : St → Hp → XK → Prop := fun σ H Q => ta σ H fun vs H1 => ∃ v, vs = [v] ∧ ∀ d, H1 d = none → Q (.ref C) (some d) (upd H1 d (.xd [(f, v)]))
theorem pmk_sup {a : Expr} {ta : TA} {p pos : Pos} {k : Nat} (T : PySem.SupX.ClsTxt X.prog X.K X.mg C fI x) (Tf : PySem.SupX.FnTxt X.prog X.K C fI f) (hr : Room k X.A) (ha : PA X [a] ta) (hg : Gl X x) (hd : (x == ("__debug__" : Str)) = false := by decide)
    (he : starEach (a :: []) X.env = (false, eval a X.env) :: starEach [] X.env := by rfl) (hpl : (backTo pos (starEach [] X.env)).any (·.1) = false := by rfl) :
    PMk X (.Call (.Name x p) [a] [] pos) (tMkSup C f ta) := by
  intro pins s σ H Q I h
  refine wpAny_Call_Name_kw (ld_glob I hg T.gC ?_ hd)
  refine PySem.W.callWith_K (h₀ := X.base) I.ok.mod.kin T.kC (thn (ha.run pos pins s σ H _ I h) fun us s1 hh => ?_) he hpl
  obtain ⟨vs, H1, I1, r1, v, ev, q1⟩ := hh
  subst ev
  refine ⟨I1.kIn, ?_⟩
  cases r1 with
  | cons rv rn =>
    rename_i v' us'
    cases rn
    show wpAny _ _ (call (.ref C) [v']) _ _ _
    have hlim := I1.nolimit
    obtain ⟨mb, hB1, hB2⟩ := I1.mod.blt
    have hB := hB1.keeps I1.bk
    have hG := I1.mod.glob.keeps I1.bk
    have hb : mb "super" = some (.type "super") := (hB2 _ (by decide)).trans (by decide +kernel)
    obtain ⟨hp, g, dr, tk, os⟩ := s1
    refine wpAny_call (PySem.SupX.sup_made T Tf I1.kIn hG hB hb hlim (by have := hr.dp; omega) fun h' tk' e d M => ?_)
    show MkP X pins σ Q (.ref e) ⟨h', g, dr, tk', os⟩
    obtain ⟨oe, fv, hoe, hc, hd, hdat, h1⟩ := M.obj
    have hns := M.ns
    obtain ⟨G', g1, g2⟩ := restrict h' fun b => decide (b ≠ e)
    have gk : ∀ b, b ≠ e → G'.get? b = h'.get? b := fun b hb => g1 b (decide_eq_true hb)
    have ge : G'.get? e = none := g2 e (by simp)
    have old : ∀ b o, hp.get? b = some o → G'.get? b = some o := fun b o q => (gk b (Nat.ne_of_lt (Nat.lt_of_lt_of_le (Heap.lt_size q) M.new))).trans (M.keep b o q)
    have ob : ObjOk X.prog X.w (upd H1 d (.xd [(f, v)])) G' d (.xd [(f, v)]) := ⟨_, hns.at (fun o q => (gk d M.dne).trans q), fun g => relO_one rv g⟩
    have J : Inv X pins σ (upd H1 d (.xd [(f, v)])) ⟨G', g, dr, tk', os⟩ := I1.laid (t' := tk') old M.dbig ob
    refine ⟨e, oe, fv, ⟨G', g, dr, tk', os⟩, _, .ref C, some d, rfl, J, fun b o q => ?_, ge, hoe, ⟨hc, hd⟩, hdat, h1, ?_, rfl, I1.bare, raises_own T.exC T.tyC, q1 d (I1.hok.fresh M.dbig)⟩
    · by_cases hb : b = e
      · have q' : G'.get? b = some o := q
        rw [hb, ge] at q'; cases q'
      · exact (gk b hb).symm.trans q
    · rw [upd_ne (Ne.symm M.dne)]
      exact I1.hok.fresh M.new
/-- raise C(e) -/
def tRaiseSup (C : Addr) (f : Str) (W : WX) (ta : TA) : TS := fun _ σ H => tMkSup C f ta σ H fun cls d H' => W cls d σ H'
theorem ps_raiseSup {a : Expr} {ta : TA} {W : WX} {p pos pos2 : Pos} {k : Nat} (hc : X.calm = true) (T : PySem.SupX.ClsTxt X.prog X.K X.mg C fI x) (Tf : PySem.SupX.FnTxt X.prog X.K C fI f) (hr : Room k X.A) (tk : Takes X W) (ha : PA X [a] ta) (hg : Gl X x)
    (hd : (x == ("__debug__" : Str)) = false := by decide)
    (he : starEach (a :: []) X.env = (false, eval a X.env) :: starEach [] X.env := by rfl) (hpl : (backTo pos (starEach [] X.env)).any (·.1) = false := by rfl) :
    PS X (.Raise (some (.Call (.Name x p) [a] [] pos)) none pos2) (tRaiseSup C f W ta) := ps_raise hc tk (pmk_sup T Tf hr ha hg hd he hpl)
end
end L2
namespace L2
open PySem PySem.Spec PyProof.Rows
section
variable {X : Cx} {pins : List (Addr × Obj)} {σ : St} {H : Hp} {s : Shared} {a b : Addr} {kvs more : List (Key × V)} {A : Around} {E : Value → Shared → Prop}
/-- d.update(d2), two dicts with keys ints and texts -/
theorem d_update {Q : Value → Shared → Prop} (I : Inv X pins σ H s) (e : H a = some (.dK kvs)) (e2 : H b = some (.dK more)) (hne : a ≠ b) (hz : kvs.length + more.length ≤ sizeLine)
    (h : ∀ s', Inv X pins σ (upd H a (.dK (mergeK kvs more))) s' → Q .none s') : wpAny (model X.prog X.w) A (call (.builtin "dict.update") [.ref a, .ref b]) Q E s := by
  obtain ⟨z, hd, vs, rel, dd⟩ := dk_of I.hok e
  obtain ⟨z2, hd2, vs2, rel2, dd2⟩ := dk_of I.hok e2
  refine call_meetsIn PySem.F.slot_dict_update dd.typeIs PySem.F.entry_dict_update (PySem.F.args_dict_update_2 _ _) (meets_dict_update (mixKind X.prog X.w) a b hne hd2)
    ⟨vs, vs2, dd, dd2, by rw [← rel.length, ← rel2.length]; exact hz, fun h' dd' _ hs => h _ ?_⟩
  have he : ∃ q, h'.get? a = some q := let ⟨q, _, _, hq, _⟩ := dd'; ⟨q, hq⟩
  exact d_write I (by rw [e]; exact True.intro) hs he (dk_new (Nat.le_trans (length_mergeK more kvs) hz) hd (rel2.merge rel) dd')
end
def tDUpd (td ty : TE) : TE := fun σ H Q => td σ H fun x H1 => ∃ a, x = .ref a ∧ IsD H1 a ∧ ty σ H1 fun y H2 => ∃ b kvs more, y = .ref b ∧ H2 a = some (.dK kvs) ∧ H2 b = some (.dK more) ∧ a ≠ b ∧ kvs.length + more.length ≤ sizeLine ∧ Q .non (upd H2 a (.dK (mergeK kvs more)))
section
variable {X : Cx} {o e : Expr} {apos cpos : Pos} {td ty : TE}
theorem pe_dupd (ho : PE X o td) (he : PE X e ty) (m : M1 X o "update" apos e cpos) : PE X (.Call (.Attribute o "update" apos) [e] [] cpos) (tDUpd td ty) := by
  refine ⟨fun pins s σ H Q I h => ?_⟩
  refine wpAny_Call_method m.base m.few m.line PySem.F.plainAttrs_dict PySem.F.slot_dict_update PySem.F.type_dict_update (thn (ho.run pins s σ H _ I h) fun u s1 ⟨x, H1, I1, rx, a, ex, d, q1⟩ => ?_)
  subst ex
  obtain rfl : u = Value.ref a := rx
  obtain ⟨t1, t2, _⟩ := isD_at I1 d
  refine ⟨t1, t2, ?_⟩
  rw [m.trees]
  refine Calls.callWith_builtin rfl (Calls.evalArgs_plain (Calls.spliced_cons (thn (he.run pins s1 σ H1 _ I1 q1) fun iv s2 ⟨y, H2, I2, ry, b, kvs, more, ey, ea, eb, hne, hz, q2⟩ => Calls.spliced_nil ?_)))
  subst ey
  obtain rfl : iv = Value.ref b := ry
  exact d_update I2 ea eb hne hz fun s3 I3 => ⟨.non, _, I3, rfl, q2⟩
end
end L2
namespace L2
open PySem PySem.Spec PyProof.Rows
section
variable {X : Cx} {pins : List (Addr × Obj)} {σ : St} {H : Hp} {s : Shared} {a b : Addr} {kvs : List (List Key × V)} {k : List Key} {d : V} {r : Value} {A : Around} {E : Value → Shared → Prop}
/-- d.setdefault((x, y), z), a dict with tuple keys -/
theorem d_setdT {Q : Value → Shared → Prop} (hu : A.units + 1 < cLine) (I : Inv X pins σ H s) (e : H a = some (.dT kvs)) (eb : H b = some (.tup (k.map kV))) (rd : RelV d r) (hl : kvs.length < sizeLine)
    (h1 : ∀ v, valV kvs k = some v → ∀ (w' : Value) (s' : Shared), Inv X pins σ H s' → RelV v w' → Q w' s') (h2 : valV kvs k = none → ∀ (w' : Value) (s' : Shared), Inv X pins σ (upd H a (.dT (putK kvs k d))) s' → RelV d w' → Q w' s') :
    wpAny (model X.prog X.w) A (call (.builtin "dict.setdefault") [.ref a, .ref b, r]) Q E s := by
  obtain ⟨z, hd, xs, rel, dd⟩ := dt_of I.hok e
  have hz : xs.length ≤ sizeLine := by rw [← Paired.length rel]; exact z
  refine call_setdefault_heap (hsz := hz) (tupleKind_room_in1 hu) (key_of I.hok eb) hd dd (fun p hp => ?_) fun hn h' dd' hs => ?_
  · have q := rel.val k
    rw [hp] at q
    cases q0 : valV kvs k with
    | none =>
      rw [q0] at q
      exact (show False from q).elim
    | some v0 =>
      rw [q0] at q
      exact h1 v0 q0 _ _ (I.tok _) q
  · have q := rel.val k
    rw [hn] at q
    cases q0 : valV kvs k with
    | some v0 =>
      rw [q0] at q
      exact (show False from q).elim
    | none =>
      have hl2 : (putK kvs k d).length ≤ sizeLine := by have := length_putK kvs k d; omega
      obtain ⟨q, es, ep, hq, g2, g3, g4, _, g5⟩ := dd'
      refine h2 q0 _ _ (d_write I (by rw [e]; exact True.intro) hs ⟨q, hq⟩ ⟨hl2, hd, _, (rel.put k eb rd).keeps fun c ys ec => ?_, q, es, ep, hq, g2, g3, g4, g5⟩) rd
      rw [upd_ne (ne_of ec e (fun z => nomatch z))]
      exact ec
end
def tDSetdT (td ty tx : TE) : TE := fun σ H Q => td σ H fun x H1 => ∃ a, x = .ref a ∧ IsD H1 a ∧ ty σ H1 fun y H2 => tx σ H2 fun z H3 => ∃ (kvs : List (List Key × V)) (k : List Key) (b : Addr), H3 a = some (.dT kvs) ∧ y = .ref b ∧ H3 b = some (.tup (k.map kV)) ∧ kvs.length < sizeLine ∧
  (∀ v, valV kvs k = some v → Q v H3) ∧ (valV kvs k = none → Q z (upd H3 a (.dT (putK kvs k z))))
section
variable {X : Cx} {o e f : Expr} {td ty tx : TE} {apos cpos : Pos}
theorem pe_dsetdT (hu : X.A.units + 1 < cLine) (ho : PE X o td) (he : PE X e ty) (hf : PE X f tx) (m : M2 X o "setdefault" apos e f cpos) : PE X (.Call (.Attribute o "setdefault" apos) [e, f] [] cpos) (tDSetdT td ty tx) := by
  refine ⟨fun pins s σ H Q I h => ?_⟩
  refine wpAny_Call_method m.base m.few m.line PySem.F.plainAttrs_dict PySem.F.slot_dict_setdefault PySem.F.type_dict_setdefault (thn (ho.run pins s σ H _ I h) fun u s1 ⟨x, H1, I1, rx, a, ex, d, q1⟩ => ?_)
  subst ex
  obtain rfl : u = Value.ref a := rx
  obtain ⟨t1, t2, _⟩ := isD_at I1 d
  refine ⟨t1, t2, ?_⟩
  rw [m.trees]
  refine Calls.callWith_builtin rfl (Calls.evalArgs_plain (Calls.spliced_cons (thn (he.run pins s1 σ H1 _ I1 q1) fun iv s2 ⟨y, H2, I2, ry, q2⟩ =>
    Calls.spliced_cons (thn (hf.run pins s2 σ H2 _ I2 q2) fun fv s3 ⟨z, H3, I3, rz, kvs, k, b, ea, ey, eb, hl, q3, q4⟩ => Calls.spliced_nil ?_))))
  subst ey
  obtain rfl : iv = Value.ref b := ry
  exact d_setdT hu I3 ea eb rz hl (fun v hv w' s4 I4 rw' => ⟨v, _, I4, rw', q3 v hv⟩) fun hn w' s4 I4 rw' => ⟨z, _, I4, rw', q4 hn⟩
end
end L2
namespace L2
open PySem PySem.Spec PyProof.Rows
/-! ### enumerate(list or tuple), enumerate(list or tuple, start=k) -/
/-- a list (b = true) or a tuple of xs is to be read at a -/
def SqB (K : PySem.W.Frag) (b : Bool) (H : Hp) (a : Addr) (xs : List V) : Prop := match b with
  | true => SqL K H a xs
  | false => SqT K H a xs
def IsB (b : Bool) (h : Heap) (a : Addr) (its : Array Value) : Prop := match b with
  | true => h.IsList a its
  | false => h.IsTuple a its
def ItB (b : Bool) (h : Heap) (it a : Addr) (i : Nat) : Prop := match b with
  | true => h.IsListIter it a i
  | false => h.IsTupleIter it a i
theorem ItB.ob {b : Bool} {h : Heap} {it a : Addr} {i : Nat} (st : ItB b h it a i) : ∃ o, h.get? it = some o ∧ ∀ v, o.data ≠ .cell v := by
  cases b with
  | true =>
    obtain ⟨o, ho, hc, hd⟩ := st
    exact ⟨o, ho, fun v q => by rw [hd] at q; cases q⟩
  | false =>
    obtain ⟨o, ho, hc, hd⟩ := st
    exact ⟨o, ho, fun v q => by rw [hd] at q; cases q⟩
theorem ItB.at {b : Bool} {h h' : Heap} {it a : Addr} {i : Nat} (st : ItB b h it a i) (k : ∀ o, h.get? it = some o → h'.get? it = some o) : ItB b h' it a i := by
  cases b with
  | true => exact Heap.IsListIter.at st k
  | false => exact Heap.IsTupleIter.at st k
theorem drawsB {prog : Program} {w : World} {A : Around} (b : Bool) (hh : A.handled = none) (it l : Addr) (hne : l ≠ it) (items : Array Value) :
    Draws prog w A it [it, l] items.size (fun i v => items[i]? = some v) (fun i h => ItB b h it l i ∧ IsB b h l items) := by
  cases b with
  | true => exact Draws.list hh it l hne items
  | false => exact Draws.tuple hh it l hne items
/-- at the end -/
theorem drawsEnd {prog : Program} {w : World} {A : Around} (b : Bool) (hh : A.handled = none) (it l : Addr) (items : Array Value) {i : Nat} (hn : items[i]? = none) :
    Draws prog w A it [it, l] i (fun _ _ => True) (fun j h => j = i ∧ ItB b h it l i ∧ IsB b h l items) where
  live := fun _ _ st => let ⟨o, ho, _⟩ := st.2.1.ob; ⟨o, ho⟩
  frame := fun _ h h' st hk => ⟨st.1, st.2.1.at fun o e => hk it (by simp) o e, by
    obtain ⟨_, _, p⟩ := st
    cases b with
    | true => exact Heap.IsList.at p fun o e => hk l (by simp) o e
    | false => exact Heap.IsTuple.at p fun o e => hk l (by simp) o e⟩
  item := fun j s Q E hj st hQ => absurd st.1 (Nat.ne_of_lt hj)
  done := fun s Q E st hE => by
    obtain ⟨_, hit, p⟩ := st
    cases b with
    | true => exact wpAny_nextOf_list_end hh hit p hn hE
    | false => exact wpAny_nextOf_tuple_end hh hit p hn hE
section
variable {X : Cx} {pins : List (Addr × Obj)} {σ : St} {H : Hp} {s : Shared} {a : Addr} {xs ys : List V} {b : Bool}
theorem Inv.seqB (I : Inv X pins σ H s) (h : SqB X.K b H a xs) : ∃ its : List Value, Vals xs its ∧ IsB b s.heap a its.toArray := by
  cases b with
  | true =>
    obtain ⟨its, r, p, _⟩ := I.list h
    exact ⟨its, r, p.isList⟩
  | false =>
    obtain ⟨its, r, p, _⟩ := I.tuple h
    exact ⟨its, r, p⟩
theorem Inv.seqB_inj (I : Inv X pins σ H s) (h : SqB X.K b H a xs) (h' : SqB X.K b H a ys) : xs = ys := by
  cases b with
  | true => exact I.list_inj h h'
  | false => exact I.tuple_inj h h'
theorem IsB.ne {h : Heap} {its : Array Value} {it l a : Addr} {i : Nat} (st : IsB b h a its) (t : ItB b h it l i) : a ≠ it := fun e => by
  subst e
  cases b with
  | true =>
    obtain ⟨o, ho, hc, n, hd⟩ := st
    obtain ⟨o', ho', hc', hd'⟩ := t
    rw [ho] at ho'
    cases ho'
    rw [hd] at hd'
    cases hd'
  | false =>
    obtain ⟨o, ho, hc, n, hd⟩ := st
    obtain ⟨o', ho', hc', hd'⟩ := t
    rw [ho] at ho'
    cases ho'
    rw [hd] at hd'
    cases hd'
theorem IsB.begins {h : Heap} {its : Array Value} (st : IsB b h a its) : ∃ o, Begins (.ref a) o (fun h => IsB b h a its) ∧ ∀ (h' : Heap) (it : Addr), h'.get? it = some o → ItB b h' it a 0 := by
  cases b with
  | true => exact ⟨_, begins_list a its, fun h' it e => ⟨_, e, rfl, rfl⟩⟩
  | false => exact ⟨_, begins_tuple a its, fun h' it e => ⟨_, e, rfl, rfl⟩⟩
end
def IteB (K : PySem.W.Frag) (b : Bool) (a : Addr) (c : Int) : It :=
  ⟨fun i H => ∃ (xs : List V) (x : V), SqB K b H a xs ∧ xs[i]? = some x, fun i H v H' => ∃ T x, v = .ref T ∧ H T = none ∧ H' = upd H T (.tup [.int (c + (i : Nat)), x]) ∧ ∀ xs, SqB K b H a xs → xs[i]? = some x, fun i H => ∃ xs : List V, SqB K b H a xs ∧ xs.length ≤ i⟩
theorem turn_enumB {P : Program} {w : World} {K : PySem.W.Frag} {elts : List Expr} {kk : Nat} {tpos : Pos} (b : Bool) (a e it : Addr) (c : Int) :
    Turn P w K (.Tuple elts kk tpos) (IteB K b a c) [e, it] e (fun i h => (∃ old, IsEnum h e it (c + (i : Nat)) old) ∧ ItB b h it a i ∧ e ≠ it) where
  mem := by simp
  obj := fun i h st d hd => by
    obtain ⟨⟨old, he⟩, hi, _⟩ := st
    have e' : d = e ∨ d = it := by simpa using hd
    rcases e' with z | z
    · rw [z]; exact ⟨_, he, fun v q => nomatch q⟩
    · rw [z]; exact hi.ob
  keep := fun i h h' st k => let ⟨⟨old, he⟩, hi, hne⟩ := st; ⟨⟨old, k e (by simp) _ he⟩, hi.at fun o q => k it (by simp) o q, hne⟩
  item := by
    intro X hP hw hK hc i pins s σ H E I hf st hg
    subst hP hw hK
    obtain ⟨⟨old, he⟩, hit, hne⟩ := st
    obtain ⟨xs, x, hq, hx⟩ := hg
    obtain ⟨its, rv, p⟩ := I.seqB hq
    obtain ⟨u, hu, ru⟩ := rv.get hx
    have hel : e < s.heap.objs.size := Heap.lt_size he
    have hil : it < s.heap.objs.size := by obtain ⟨_, q, _⟩ := hit.ob; exact Heap.lt_size q
    have hai := p.ne hit
    have hae : e ∉ [it, a] := fun q => by
      rcases List.mem_cons.mp q with z | z
      · exact hne z
      · have z := List.mem_singleton.mp z
        subst z
        cases b with
        | true =>
          obtain ⟨o, ho, hc, n, hd⟩ := p
          have q := ho.symm.trans he
          cases q
          cases hd
        | false =>
          obtain ⟨o, ho, hc, n, hd⟩ := p
          have q := ho.symm.trans he
          cases q
          cases hd
    have hlt : i < its.toArray.size := by
      rw [List.size_toArray]
      exact (List.getElem?_eq_some_iff.mp hu).1
    refine wpAny_pyNext_enum_itemC (drawsB (A := X.A.in1) b (I.ok.hd hc) it a hai its.toArray) he ⟨hit, p⟩ hlt hne hae fun y h' tk hy ho hst' hT hsz hk => ?_
    have ey : y = u := by
      have hy' : its[i]? = some y := by simpa using hy
      rw [hu] at hy'
      exact (Option.some.inj hy').symm
    subst ey
    refine ⟨_, rfl, wpAny_letOwnedTupleGo_enum (s := { s with heap := h', toks := tk + 1 }) ho fun h'' he' sb => ?_⟩
    have hT2 : h''.get? s.heap.objs.size = some { cls := .type "tuple", data := .seq #[.int (c + (i : Nat)) tk, y] } := (sb.2 _ (Nat.ne_of_gt hel)).trans hT
    have new : ObjOk X.prog X.w (upd H s.heap.objs.size (.tup [.int (c + (i : Nat)), x])) h'' s.heap.objs.size (.tup [.int (c + (i : Nat)), x]) :=
      ⟨by show 2 ≤ sizeLine; decide, [.int (c + (i : Nat)) tk, y], .cons ⟨_, rfl⟩ (.cons ru .nil), ⟨_, hT2, rfl, _, rfl⟩⟩
    have I1 : Inv X pins σ (upd H s.heap.objs.size (.tup [.int (c + (i : Nat)), x])) { s with heap := h'', toks := tk + 1 } :=
      I.turnedNew (ch := [e, it]) (fun b ob hb q => (sb.2 b (fun z => hb (by simp [z]))).trans (hk b ob (fun z => hb (by simp [z])) (fun z => hb (by simp [z])) q)) hf (Nat.le_refl _) new
    refine ⟨.ref s.heap.objs.size, _, I1, rfl, ⟨_, x, rfl, I.hok.fresh (Nat.le_refl _), rfl, fun ys hy => by rw [I.seqB_inj hy hq]; exact hx⟩, ⟨⟨y, ?_⟩, hst'.1.at fun o q => (sb.2 it (Ne.symm hne)).trans q, hne⟩, fun b hb => ?_⟩
    · have e1 : c + ((i + 1 : Nat) : Int) = c + (i : Nat) + 1 := by omega
      rw [e1]; exact he'
    · have hb' : b < s.heap.objs.size := by
        have e' : b = e ∨ b = it := by simpa using hb
        rcases e' with z | z
        · rw [z]; exact hel
        · rw [z]; exact hil
      rw [upd_ne (Nat.ne_of_lt hb')]
      exact (hf b hb).1
  done := by
    intro X hP hw hK hc i pins s σ H E I hf st hg
    subst hP hw hK
    obtain ⟨⟨old, he⟩, hit, hne⟩ := st
    obtain ⟨xs, hq, hx⟩ := hg
    obtain ⟨its, rv, p⟩ := I.seqB hq
    obtain ⟨f0, f1, f2, f3, f4, f5⟩ := hf it (by simp)
    have hl := rv.length
    have hn : its.toArray[i]? = none := by simp; omega
    exact wpAny_pyNext_enum_endD (drawsEnd (A := X.A.in1) b (I.ok.hd hc) it a its.toArray hn) he ⟨rfl, hit, p⟩ fun h' eb => ⟨rfl, I.turned (t' := s.toks) (fun b o hb q => eb b o hb q) f0 f1 f3 f4 f5⟩
  self := fun A i s Q E st h => let ⟨⟨_, he⟩, _⟩ := st; wpAny_pyIter_enum he h
section
open PySem.Sem
set_option maxHeartbeats 4000000 in
theorem enum_new1 {v : Value} {o : Obj} {G : Heap → Prop} (B : Begins v o G) :
    Meets (Builtin.«enumerate.__new__» ⟨[.type "enumerate", v], []⟩) (fun _ R s => G s.heap ∧
      R (.ok (.ret (.ref (s.heap.push o).objs.size))) { s with heap := (s.heap.push o).push { cls := .type "enumerate", data := .fields #[.none, .bool false, .ref s.heap.objs.size, rawInt 0, .none, .none] } }) :=
  .of_wp fun prog w A R s h => by
    obtain ⟨hp, g, d, tk, os⟩ := s
    obtain ⟨h1, h⟩ := h
    have hsub := sub_enumerate
    have walkIt : ∀ {A' : Around} {E : Value → Shared → Prop} {Q : Value → Shared → Prop}, Q (.ref hp.objs.size) ⟨hp.push o, g, d, tk, os⟩ → wpAny (model prog w) A' (pyIter v) Q E ⟨hp, g, d, tk, os⟩ :=
      fun q => B.iter prog w _ _ ⟨hp, g, d, tk, os⟩ _ h1 q
    wp_walk using walkIt
    refine wpAny_stack_any fun st => wpAny_pure ?_
    split
    · rename_i c _ _ _ _ _
      cases (c == Value.type "enumerate")
      all_goals
        wp_walk using walkIt
        exact ⟨_, rfl, h⟩
    · wp_walk using walkIt
      exact ⟨_, rfl, h⟩
theorem enum_begins0 {prog : Program} {w : World} {A : Around} {E : Value → Shared → Prop} {s : Shared} {v : Value} {o : Obj} {G : Heap → Prop} {Q : Value → Shared → Prop} (B : Begins v o G) (h1 : G s.heap)
    (h : ∀ h', IsEnum h' (s.heap.objs.size + 1) s.heap.objs.size 0 .none → h'.get? s.heap.objs.size = some o → h'.objs.size = s.heap.objs.size + 2 →
      (∀ b o, s.heap.get? b = some o → h'.get? b = some o) → Q (.ref (s.heap.objs.size + 1)) { s with heap := h' }) :
    wpAny (model prog w) A (call (.type "enumerate") [v]) Q E s := by
  refine callType_new F.called_enumerate (by decide) (F.typeCall_enumerate_1 _) (F.newCall_enumerate_1 _) (fun obj => F.args_object_init_2 obj _) F.entry_enumerate_new (enum_new1 B) ⟨h1, ?_⟩
  have hz : (s.heap.push o).objs.size = s.heap.objs.size + 1 := Heap.size_push ..
  show _ ∧ _
  rw [hz]
  have he : IsEnum ((s.heap.push o).push { cls := .type "enumerate", data := .fields #[.none, .bool false, .ref s.heap.objs.size, rawInt 0, .none, .none] }) (s.heap.objs.size + 1) s.heap.objs.size 0 .none := by
    have q := Heap.get?_push_size (s.heap.push o) (o := { cls := .type "enumerate", data := .fields #[.none, .bool false, .ref s.heap.objs.size, rawInt 0, .none, .none] }) rfl
    rw [hz] at q
    exact q
  exact ⟨⟨_, he, rfl⟩, h _ he (Heap.get?_push_of_some _ (Heap.get?_push_size _ B.free)) (by rw [Heap.size_push, hz]) fun b o x => Heap.get?_push_of_some _ (Heap.get?_push_of_some _ x)⟩
end
/-- enumerate(e) -/
def iEnumB (K : PySem.W.Frag) (ta : TA) : TI := fun σ H R => ta σ H fun vs H1 => ∃ b a xs, vs = [.ref a] ∧ SqB K b H1 a xs ∧ R (IteB K b a 0) H1
/-- enumerate(e, start=k) -/
def iEnumS (K : PySem.W.Frag) (ta tk : TA) : TI := fun σ H R => ta σ H fun vs H1 => tk σ H1 fun zs H2 => ∃ b a xs k, vs = [.ref a] ∧ zs = [.int k] ∧ -(2 ^ 63) ≤ k ∧ k < 2 ^ 63 ∧ SqB K b H2 a xs ∧ R (IteB K b a k) H2
section
variable {X : Cx} {e : Expr} {kws : List Keyword} {ta tk : TA} {p pos tpos : Pos} {elts : List Expr} {kk : Nat}
theorem enum_come {pins : List (Addr × Obj)} {σ : St} {H : Hp} {s : Shared} {R : It → Hp → Prop} {b : Bool} {a : Addr} {k : Int} {h' : Heap} {o : Obj} (I : Inv X pins σ H s) (he : IsEnum h' (s.heap.objs.size + 1) s.heap.objs.size k .none) (hit : ItB b h' s.heap.objs.size a 0)
    (hk : ∀ b o, s.heap.get? b = some o → h'.get? b = some o) (q : R (IteB X.K b a k) H) : PIE X pins σ (.Tuple elts kk tpos) R (.ref (s.heap.objs.size + 1)) { s with heap := h' } := by
  have I2 : Inv X pins σ H { s with heap := h' } := I.kept (t' := s.toks) hk
  refine ⟨s.heap.objs.size + 1, [s.heap.objs.size + 1, s.heap.objs.size], _, _, H, rfl, I2, turn_enumB b a (s.heap.objs.size + 1) s.heap.objs.size k, ⟨⟨.none, by simpa using he⟩, hit, Nat.succ_ne_self _⟩, fun c hc => ?_, q⟩
  have e' : c = s.heap.objs.size + 1 ∨ c = s.heap.objs.size := by simpa using hc
  have hle : s.heap.objs.size ≤ c := by
    rcases e' with z | z
    · rw [z]; exact Nat.le_add_right _ _
    · rw [z]; exact Nat.le_refl _
  exact I.fpOk hle (I.hok.fresh hle)
theorem pi_enumB (hg : Gl X "enumerate") (hm : X.mg "enumerate" = none) (ha : PA X [e] ta) (hs : starEach [e] X.env = [(false, eval e X.env)] := by rfl) :
    PI X (.Tuple elts kk tpos) (.Call (.Name "enumerate" p) [e] [] pos) (iEnumB X.K ta) := by
  refine ⟨fun pins s σ H R I h => ?_⟩
  refine Call_ (ld_blt I hg hm boot_enumerate (PyProof.Rows.callWith_type1 (thn (ha.run pos pins s σ H _ I h) fun us s1 ⟨vs, H1, I1, r1, q1⟩ => ?_) hs rfl))
  obtain ⟨b, a, xs, ex, hq, q⟩ := q1
  rw [ex] at r1
  rw [Vals.ref1 r1]
  obtain ⟨its, rv, p'⟩ := I1.seqB hq
  obtain ⟨o, B, hB⟩ := p'.begins
  refine enum_begins0 B p' fun h' he ho hsz hk => wpAny_pyIter_enum he ?_
  exact enum_come (o := o) I1 he (hB h' _ ho) hk q
theorem callWith_typeKw {M : Model} {env : Env} {A : Around} {E : Value → Shared → Prop} {s : Shared} {pos : Pos} {T : String} {e : Expr} {rest : List Expr} {kws : List Keyword} {Q : Value → Shared → Prop}
    (h : wpAny M A (spliced (backTo pos (starEach (e :: rest) env))) (fun vs s₁ => wpAny M A (evalAll ((backToKw pos (keywordEach kws env)).map (·.2)))
      (fun kvs s₂ => wpAny M A (call (.type T) vs (((backToKw pos (keywordEach kws env)).filterMap (·.1)).zip kvs)) Q E s₂) E s₁) E s)
    (he : backTo pos (starEach (e :: rest) env) = (false, eval e env) :: backTo pos (starEach rest env)) (hplain : (backTo pos (starEach (e :: rest) env)).any (·.1) = false)
    (hall : (backToKw pos (keywordEach kws env)).all (·.1.isSome) = true) (hkw : (backToKw pos (keywordEach kws env)).any (·.1.isNone) = false) :
    wpAny M A (callWith pos (.type T) [] (backTo pos (starEach (e :: rest) env)) (backToKw pos (keywordEach kws env))) Q E s := by
  have h2 : wpAny M A (evalArgs (.type T) true (backTo pos (starEach (e :: rest) env)) (backToKw pos (keywordEach kws env))) (fun a s₁ => wpAny M A (call (.type T) ([] ++ a.pos) a.kw) Q E s₁) E s := by
    rw [he] at h ⊢
    exact evalArgs_kwB hall h
  unfold callWith
  refine wpAny_bind (wpAny_holding (wpAny_mono h2 (fun a s₁ h₁ => wpAny_bind (wpAny_standAt ?_)) fun _ _ x => x))
  simp only [hplain, hkw, Bool.or_false]
  refine wpAny_bind (wpAny_pure ?_)
  exact wpAny_bind (wpAny_mono h₁ (fun r s₂ hr => wpAny_bind (wpAny_holding (wpAny_point (wpAny_pure hr)))) fun _ _ x => x)
theorem pi_enumS (hg : Gl X "enumerate") (hm : X.mg "enumerate" = none) (ha : PA X [e] ta) (hk : PK X kws tk) (he : backTo pos (starEach [e] X.env) = (false, eval e X.env) :: backTo pos (starEach [] X.env) := by rfl) (hpl : (backTo pos (starEach [e] X.env)).any (·.1) = false := by rfl)
    (hall : (backToKw pos (keywordEach kws X.env)).all (·.1.isSome) = true := by rfl) (hnone : (backToKw pos (keywordEach kws X.env)).any (·.1.isNone) = false := by rfl) (hks : (backToKw pos (keywordEach kws X.env)).filterMap (·.1) = [Str.ofString "start"] := by rfl) :
    PI X (.Tuple elts kk tpos) (.Call (.Name "enumerate" p) [e] kws pos) (iEnumS X.K ta tk) := by
  refine ⟨fun pins s σ H R I h => ?_⟩
  refine wpAny_Call_Name_kw (ld_blt I hg hm boot_enumerate ?_)
  refine callWith_typeKw (thn (ha.run pos pins s σ H _ I h) fun us s1 ⟨vs, H1, I1, r1, q1⟩ => thn (hk.run pos pins s1 σ H1 _ I1 q1) fun ws s2 ⟨zs, H2, I2, r2, q2⟩ => ?_) he hpl hall hnone
  obtain ⟨b, a, xs, k, ex, ez, k0, k1, hq, q⟩ := q2
  subst ex
  subst ez
  rw [Vals.ref1 r1, hks]
  cases r2 with
  | cons r rr =>
    cases rr
    obtain ⟨t, rfl⟩ := r
    obtain ⟨its, rv, p'⟩ := I2.seqB hq
    obtain ⟨o, B, hB⟩ := p'.begins
    refine enum_begins_start B p' k0 k1 fun h' he ho hsz hk => wpAny_pyIter_enum he ?_
    exact enum_come (o := o) I2 he (hB h' _ ho) hk q
end
/-- a for over it -/
theorem walk_enumB {K : PySem.W.Frag} {a : Addr} {xs : List V} {b : Bool} {c : Int} : Walk (IteB K b a c) xs.length (fun H => SqB K b H a xs) (YPair (fun i => some (.int (c + (i : Nat)))) (fun i => xs[i]?)) where
  goes := fun i H hi h => ⟨xs, xs[i], h, List.getElem?_eq_getElem hi⟩
  stops := fun H h => ⟨xs, h, Nat.le_refl _⟩
  yields := fun i H x H' hi h y => by
    obtain ⟨T, z, e, hT, e2, hx⟩ := y
    exact ⟨T, _, z, e, hT, e2, rfl, hx xs h⟩
end L2
namespace L2
open PySem PySem.Spec PyProof.Rows PySem.Calls
section
variable {prog : Program} {w : World} {A : Around} {E : Value → Shared → Prop} {s : Shared} {r d : Addr} {n : Nat} {P : Nat → Value → Prop} {OK : Heap → Prop}
/-- tuple(x), x a dict or a view of one -/
theorem codeTupD {Q₁ : Value → Shared → Prop} (Kd : PySem.W.KdlSrc prog w "dict" r d n P OK) (hT : s.TypeIs (.ref r) "dict") (hh : A.handled = none) (hok : OK s.heap) (hn : n ≤ sizeLine)
    (h : ∀ (h' : Heap) (tk : Nat) (acc : Array Value), (∀ b o, s.heap.get? b = some o → h'.get? b = some o) → ItemsOf P acc n →
      Q₁ (.ref h'.objs.size) { s with heap := h'.push { cls := .type "tuple", data := .seq acc }, toks := tk }) :
    codeAny (model prog w) A (.call (.builtin "tuple.__new__") ⟨[.type "tuple", .ref r], []⟩) (wants Q₁ E) s := by
  refine codeAny_of_tree ?_
  show wpAny _ A.in1 (do checkBuiltinCall "tuple.__new__" ⟨[.type "tuple", .ref r], []⟩; again (.builtin "tuple.__new__" ⟨[.type "tuple", .ref r], []⟩)) _ _ s
  refine wpAny_bind (wpAny_of_eq (F.newCall_tuple_1 _) (wpAny_pure ⟨plainId_quiet F.plain_tuple_new _, codeAny_builtin F.entry_tuple_new ?_⟩))
  rw [Around.under_plainId F.plain_tuple_new _]
  have hsub := sub_tuple_self
  have hinit := init_tuple_lookup
  have hmh := madeHere_tuple
  have hh1 : A.in1.handled = none := hh
  wp_walk using wpAny_typeOf hT, PySem.W.kdu_collect (A := A.in1) Kd hh1 hok hn
  intro h' tk acc hk hacc
  show wpAny _ _ (Builtin.Tuple.tupleExact acc.toList.toArray >>= fun v => ret v) _ _ _
  unfold Builtin.Tuple.tupleExact
  refine wpAny_bind (wpAny_newObj_type ?_ (by show acc.toList.toArray.size ≤ sizeLine; simp only [Array.toArray_toList]; rw [hacc.1]; exact hn))
  refine wpAny_pure ?_
  have e : acc.toList.toArray = acc := by simp
  rw [e]
  exact h h' tk acc hk hacc
end
section
variable {X : Cx}
/-- tuple(d): its keys -/
theorem call_tupleD (hcalm : X.calm = true) : CallR X (.type "tuple") (fun xs H Q => ∃ (a : Addr) (kvs : List (Key × V)), xs = [.ref a] ∧ Rd H a (.dK kvs) ∧ ∀ p, H p = none → Q (.ref p) (upd H p (.tup (kvs.map fun kv => kV kv.1)))) := by
  intro pins s σ H xs us Q I r q
  obtain ⟨a, kvs, ex, hd, q⟩ := q
  subst ex
  rw [Vals.ref1 r]
  obtain ⟨z, lo, vs, rel, dd⟩ := dk_rd I.hok hd
  obtain ⟨ep, hat⟩ := dd.dictAt
  have ek : (kvs.map fun kv => kV kv.1) = vs.map fun p => kV p.1 := by
    have e := congrArg (List.map kV) rel.keys
    rw [List.map_map, List.map_map] at e
    exact e
  have hz : vs.length ≤ sizeLine := by
    rw [← rel.length]
    exact z
  refine callType_codes (Q₁ := fun obj s₁ => s₁.TypeIs obj "tuple" ∧ EP X pins σ Q obj s₁) F.called_tuple (F.typeCall_tuple_1 _) F.entry_object_init
    (codeTupD (A := X.A.in1) (PySem.W.kdl_dict (knd := mixKind X.prog X.w) (kvs := vs) (ep := ep) lo) dd.typeIs (I.ok.hd hcalm) hat hz fun h' tk acc hk hacc => ⟨⟨_, Heap.get?_push_size _ rfl, rfl⟩, ?_⟩) fun obj s₁ h₁ => ?_
  · have hv : Vals (vs.map fun p => kV p.1) acc.toList := keys_at (by rw [Array.length_toList]; exact hacc.1) fun j v e => hacc.2 j v (by rw [← Array.getElem?_toList]; exact e)
    have I1 : Inv X pins σ H { s with heap := h', toks := tk } := I.kept hk
    have I2 : Inv X pins σ (upd H h'.objs.size (.tup (kvs.map fun kv => kV kv.1))) { s with heap := h'.push { cls := .type "tuple", data := .seq acc }, toks := tk } :=
      I1.laid (t' := tk) (fun b o e => Heap.get?_push_of_some _ e) (Nat.le_refl _) (show ObjOk X.prog X.w _ _ _ (.tup (kvs.map fun kv => kV kv.1)) from ⟨by rw [List.length_map]; exact z, acc.toList, by rw [ek]; exact hv, by
        have e : acc.toList.toArray = acc := by simp
        rw [e]
        exact IsTup.new _ _⟩)
    exact ⟨.ref h'.objs.size, _, I2, rfl, q _ (I1.hok.fresh (Nat.le_refl _))⟩
  · exact ⟨h₁.1, F.args_object_init_2 obj _, object_init_meets F.called_tuple.init.lookup F.called_tuple.made (by decide) X.prog X.w X.A.in1 _ s₁ ⟨h₁.1, rfl, h₁.2⟩⟩
end
end L2
namespace L2
open PySem PySem.Spec PyProof.Rows
/-! ### try with any number of clauses, each with a name or without -/
/-- a clause: the class, the slot of its name, what its suite is read as -/
structure Clause where
  cls : Value
  slot : Option Nat
  run : Addr → Value → Option Addr → TS
/-- behind the suite the name is gone -/
def Clause.ends (c : Clause) (D : Ends) : Ends :=
  let off : St → St := fun σ => match c.slot with | none => σ | some i => σ.set i none
  ⟨fun σ H => D.nx (off σ) H, D.rt, fun σ H => D.bk (off σ) H, fun σ H => D.ct (off σ) H⟩
def Clause.slots (c : Clause) (σ : St) (a : Addr) : St := match c.slot with | none => σ | some i => σ.set i (some (.ref a))
/-- the first clause whose class fits, else the wish of those without -/
def firstOf (K : PySem.W.Frag) (out : WX) (D : Ends) : List Clause → WX
  | [] => out
  | c :: r => fun cls d σ H => (PySem.W.exmOne K cls c.cls = some true ∧ ∀ a, H a = none → c.run a cls d (c.ends D) (c.slots σ a) H) ∨ (PySem.W.exmOne K cls c.cls = some false ∧ firstOf K out D r cls d σ H)
/-- a clause of the text -/
structure ClauseOf (X : Cx) (h : ExceptHandler) (c : Clause) : Prop where
  is : ∃ (x : Str) (np pos : Pos) (b : Stmt) (bs : List Stmt) (n : Option Str), h = .ExceptHandler (some (.Name x np)) n (b :: bs) pos ∧ Names X x c.cls ∧
    (∀ (a : Addr) (o : Obj) (cls : Value) (d : Option Addr) (pn : List (Addr × Obj)), Zc cls d o → (∃ vs, o.data = .fields vs) → PSs (X.suite a ((a, o) :: pn)) (b :: bs) (c.run a cls d)) ∧
    ((n = none ∧ c.slot = none) ∨ ∃ (y : Str) (i : Nat), n = some y ∧ c.slot = some i ∧ X.N[i]? = some y ∧ X.env.kindOf y = some .local)
/-- an exception at a has come down in the frame, the heap being h -/
structure Fallen (X : Cx) (pins : List (Addr × Obj)) (σ : St) (H : Hp) (cls : Value) (d : Option Addr) (a : Addr) (s : Shared) : Prop where
  ex : ∃ (B : Heap) (sI : Shared), Inv X pins σ H sI ∧ (∀ b o, sI.heap.get? b = some o → b ∉ frs X.stack → B.get? b = some o) ∧ sI.heap.UpToSlots s.heap ∧ HandSPX.FlyingZ B X.stack a (Zc cls d) s.heap ∧ H a = none ∧ s.os = sI.os ∧ AllBare s.gens
section
variable {X : Cx} {pins : List (Addr × Obj)} {σ : St} {H : Hp} {cls : Value} {d : Option Addr} {a : Addr} {s : Shared}
theorem Fallen.inv (f : Fallen X pins σ H cls d a s) : Inv X pins σ H s := by
  obtain ⟨B, sI, J, nb, up, fl, _, os, ag⟩ := f.ex
  exact J.landed nb fl.1 up os ag
theorem Fallen.obj (f : Fallen X pins σ H cls d a s) : ∃ o vs, s.heap.get? a = some o ∧ Zc cls d o ∧ o.data = .fields vs := by
  obtain ⟨B, sI, _, _, _, fl, _⟩ := f.ex
  exact fl.there
/-- its suite begins -/
theorem Fallen.within (f : Fallen X pins σ H cls d a s) (hs : X.stack = X.env :: X.outer) (hf : X.env.frame = some X.env.locals) :
    ∃ o, Zc cls d o ∧ (∃ vs, o.data = .fields vs) ∧ Inv (X.suite a ((a, o) :: (X.pn ++ pins))) [] σ H s := by
  obtain ⟨o, vs, ho, hz, hd⟩ := f.obj
  have J := f.inv
  obtain ⟨B, sI, _, _, _, fl, na, _⟩ := f.ex
  have out : a ∉ frs X.stack := fun hm => by
    obtain ⟨_, o', e', hnf⟩ := fl.2.2.1.mem hm
    cases ho.symm.trans e'
    exact hnf _ hd
  rw [hs] at out
  exact ⟨o, hz, ⟨vs, hd⟩, J.suite ho hd na (fun z => out (List.mem_filterMap.mpr ⟨X.env, .head _, by rw [hf, z]⟩)) fun hm => out (by
    obtain ⟨e, he, q⟩ := List.mem_filterMap.mp hm
    exact List.mem_filterMap.mpr ⟨e, .tail _ he, q⟩)⟩
/-- its flight is set to none again -/
theorem Fallen.again {Q : Unit → Shared → Prop} {E : Value → Shared → Prop} {A : Around} (f : Fallen X pins σ H cls d a s) (h : ∀ s', Fallen X pins σ H cls d a s' → Q () s') : wpAny (model X.prog X.w) A (setFlight (.ref a) none) Q E s := by
  obtain ⟨B, sI, J, nb, up, fl, na, os, ag⟩ := f.ex
  exact HandSPX.lands_againZ fl fun h4 fl4 up4 => h _ ⟨B, sI, J, nb, up.trans up4, fl4, na, os, ag⟩
/-- no clause fits -/
theorem Fallen.leaves {D : Ends} {out : WX} (f : Fallen X pins σ H cls d a s) (hs : X.stack = X.env :: X.outer) (hf : X.env.frame = some X.env.locals) (tk : Takes X out) (w : out cls d σ H) :
    wpAny (model X.prog X.w) X.A (handleBy (.ref a) X.env []) (SP X pins D) X.xe s := by
  obtain ⟨B, sI, J, nb, up, fl, na, os, ag⟩ := f.ex
  refine wpAny_handleBy_nil ?_
  obtain ⟨_, _, _, o, vs, T, oT, _, ho, _, hd, h1, _⟩ := id fl
  have go : wpAny (model X.prog X.w) X.A (setFlight (.ref a) X.env.frame) (fun _ t => wpAny (model X.prog X.w) X.A (throw (.ref a) : Sem Flow) (SP X pins D) X.xe t) X.xe s := by
    rw [hf]
    exact HandSPX.setFlight_upZ fl fun h4 hh up4 => wpAny_throw (tk _ _ ⟨a, B, sI, pins, σ, H, cls, d, rfl, J, nb, up.trans up4, .inr (.inr hh), na, os, ag, w⟩)
  unfold PySem.passOn
  refine wpAny_bind (wpAny_field ho hd h1 ?_)
  rw [if_neg (by simp)]
  first
    | exact wpAny_bind go
    | exact wpAny_bind (wpAny_pure (wpAny_bind go))
/-- the test of a clause -/
theorem Fallen.test {x : Str} {np : Pos} {c : Value} {b : Bool} {Q : Bool → Shared → Prop} {E E' : Value → Shared → Prop} (f : Fallen X pins σ H cls d a s) (hs : X.stack = X.env :: X.outer) (hf : X.env.frame = some X.env.locals) (hc : Names X x c) (hb : PySem.W.exmOne X.K cls c = some b) (h : Q b s) :
    wpAny (model X.prog X.w) (X.A.mark (some (.ref a))) (eval (.Name x np) X.env) (fun c s₁ => wpAny (model X.prog X.w) (X.A.mark (some (.ref a))) (excMatches (.ref a) c) Q E s₁) E' s := by
  obtain ⟨o, vs, ho, hz, hd⟩ := f.obj
  obtain ⟨o2, _, _, S⟩ := f.within hs hf
  have cl : PySem.W.Looks (model X.prog X.w) s.heap (typeOf (.ref a)) cls := fun _ _ _ _ k q => wpAny_typeOf_ref (k _ _ ho) (by rw [hz.1]; exact q)
  have q := (PySem.W.exm_one (M := model X.prog X.w) f.inv.kIn cl hb).here (A := X.A.mark (some (.ref a))) (Q := Q) (E := E) h
  obtain ⟨hg, hdb, hm | ⟨hm, hv, hn⟩⟩ := hc
  · exact ld_glob (X := X.suite a ((a, o2) :: (X.pn ++ pins))) S hg hm q hdb
  · exact ld_blt (X := X.suite a ((a, o2) :: (X.pn ++ pins))) S hg hm hv q hn hdb
/-- what a suite ends with, told outside -/
theorem suiteEnds {o : Obj} {fw : Flow} {D D' : Ends} {off : St → St} {Q : Shared → Prop} (ok : X.Ok) (e : D' = ⟨fun σ H => D.nx (off σ) H, D.rt, fun σ H => D.bk (off σ) H, fun σ H => D.ct (off σ) H⟩)
    (h : SP (X.suite a ((a, o) :: (X.pn ++ pins))) [] D' fw s) (k : ∀ σ' H', Inv X pins σ' H' s → (∀ s', Inv X pins (off σ') H' s' → SP X pins D fw s') → Q s) : Q s := by
  subst e
  cases fw with
  | next => obtain ⟨σ', H', S, q⟩ := h; exact k _ _ (S.unsuite ok) fun s' J => ⟨_, _, J, q⟩
  | brk => obtain ⟨σ', H', S, q⟩ := h; exact k _ _ (S.unsuite ok) fun s' J => ⟨_, _, J, q⟩
  | cont => obtain ⟨σ', H', S, q⟩ := h; exact k _ _ (S.unsuite ok) fun s' J => ⟨_, _, J, q⟩
  | ret u => obtain ⟨v, σ', H', S, r, q⟩ := h; exact k _ _ (S.unsuite ok) fun s' J => ⟨_, _, _, J, r, q⟩
inductive ClausesOf (X : Cx) : List ExceptHandler → List Clause → Prop
  | nil : ClausesOf X [] []
  | cons {h : ExceptHandler} {hs : List ExceptHandler} {c : Clause} {cs : List Clause} : ClauseOf X h c → ClausesOf X hs cs → ClausesOf X (h :: hs) (c :: cs)
theorem Fallen.caught {D : Ends} {out : WX} (hs : X.stack = X.env :: X.outer) (hf : X.env.frame = some X.env.locals) (hN : X.N.Nodup) (tk : Takes X out) {hds : List ExceptHandler} {cs : List Clause} (C : ClausesOf X hds cs) (f : Fallen X pins σ H cls d a s) (w : firstOf X.K out D cs cls d σ H) :
    wpAny (model X.prog X.w) X.A (handleBy (.ref a) X.env hds) (SP X pins D) X.xe s := by
  induction C with
  | nil => exact f.leaves hs hf tk w
  | @cons h hs' c cs' hc _ ih =>
    obtain ⟨x, np, pos, b, bs, n, rfl, hn, hsu, hname⟩ := hc.is
    refine wpAny_handleBy_cons (codeAny_handlers_test ?_) (by intro q; cases q)
    rcases w with ⟨hb, w⟩ | ⟨hb, w⟩
    · refine f.test hs hf hn hb ?_
      rcases hname with ⟨rfl, hsl⟩ | ⟨y, i, rfl, hsl, hi, hl⟩
      · refine codeAny_handlers_suite (f.again fun s4 f4 => ?_)
        obtain ⟨o, hz, hd, S⟩ := f4.within hs hf
        have na : H a = none := let ⟨_, _, _, _, _, _, na, _⟩ := f4.ex; na
        have w' := w a na
        unfold Clause.slots at w'
        rw [hsl] at w'
        refine wpAny_mono ((hsu a o cls d (X.pn ++ pins) hz hd).run [] s4 _ H _ S w') (fun fw s6 q => ?_) (fun _ _ z => z.elim)
        exact suiteEnds (off := id) f.inv.ok (by unfold Clause.ends; rw [hsl]; rfl) q fun σ' H' J k => k s6 J
      · refine codeAny_handlers_suite_as (f.again fun s4 f4 => ?_)
        obtain ⟨o, hz, hd, S⟩ := f4.within hs hf
        have na : H a = none := let ⟨_, _, _, _, _, _, na, _⟩ := f4.ex; na
        have w' := w a na
        unfold Clause.slots at w'
        rw [hsl] at w'
        refine store_ok (X := X.suite a ((a, o) :: (X.pn ++ pins))) (v := .ref a) S hN hi (.inl hl) rfl (fun s5 S5 => ?_) (.inr hl)
        refine wpAny_mono ((hsu a o cls d (X.pn ++ pins) hz hd).run [] s5 _ H _ S5 w') (fun fw s6 q => ?_) (fun _ _ z => z.elim)
        exact suiteEnds (off := fun σ => σ.set i none) f.inv.ok (by unfold Clause.ends; rw [hsl]) q fun σ' H' J k => gone_ok J hN hi hl k
    · exact f.test hs hf hn hb (ih w)
end
section
variable {X : Cx} {body : List Stmt} {h₀ : ExceptHandler} {hds : List ExceptHandler} {cs : List Clause} {pos : Pos} {tb : WX → TS} {out : WX}
theorem ps_clauses (hs : X.stack = X.env :: X.outer) (hf : X.env.frame = some X.env.locals) (hN : X.N.Nodup) (tk : Takes X out)
    (hb : ∀ (W : WX) (pn : List (Addr × Obj)) (xe : Value → Shared → Prop), Takes (X.tr pn xe) W → PassesOwn (model X.prog X.w) X.A X.env xe → PSs (X.tr pn xe) body (tb W)) (C : ClausesOf X (h₀ :: hds) cs) :
    PS X (.Try body (h₀ :: hds) [] [] pos) (fun D σ H => tb (firstOf X.K out D cs) D σ H) := by
  refine ⟨fun pins s σ H D I h => wpAny_Try_except ?_⟩
  have ok := I.ok
  have main := (hb (firstOf X.K out D cs) (X.pn ++ pins) (fun e s₁ => wpAny (model X.prog X.w) X.A (noteFrame e X.env) (fun _ s₂ => wpAny (model X.prog X.w) X.A (setFlight e none) (fun _ s₃ => wpAny (model X.prog X.w) X.A (handleBy e X.env (h₀ :: hds)) (SP X pins D) X.xe s₃) X.xe s₂) X.xe s₁)
    (fun u s' x => by
      obtain ⟨a, B, sI, pn', σ', H', cls, d, rfl, J, nb, up, sky, na, os, ag, w⟩ := x
      have fr : X.A.frames = some (X.env :: X.outer) := by rw [ok.frames, hs]
      have sky2 : Sky B (X.env :: X.outer) a (Zc cls d) X.env.locals s'.heap := by rw [← hs]; exact sky
      exact Sky.land Zc.steady fr hf sky2 fun h3 fl up3 => Fallen.caught hs hf hN tk C ⟨B, sI, J.ofTry ok, nb, up.trans up3, by rw [hs]; exact fl, na, os, ag⟩ w) PassesOwn.looking).run [] s σ H D (I.toTry _) h
  refine wpAny_mono main (fun fw s1 q => ?_) (fun _ _ z => z)
  cases fw with
  | next => obtain ⟨σ', H', J, q⟩ := q; exact wpAny_execs_nil ⟨σ', H', J.ofTry ok, q⟩
  | brk => obtain ⟨σ', H', J, q⟩ := q; exact ⟨σ', H', J.ofTry ok, q⟩
  | cont => obtain ⟨σ', H', J, q⟩ := q; exact ⟨σ', H', J.ofTry ok, q⟩
  | ret u => obtain ⟨v, σ', H', J, r, q⟩ := q; exact ⟨v, σ', H', J.ofTry ok, r, q⟩
end
end L2
namespace Toy
open PySem L2
def top (i : Nat) : Stmt := PySem.Challenge.pw_nearloops_k08_rules_that_fit.main.body.getD i (.Pass ⟨0, 0, 0, 0⟩)
def l_GROUPS : List (Str × List Str) := [("any", ["below", "-<", "-=", "->", "<", "=", ">", "+<", "+=", "+>", "above"]), ("near", ["-=", "->", "<", "=", ">", "+<", "+="]), ("far", ["below", "-<", "+>", "above"]), ("less", ["below", "-<", "-=", "->", "<"]), ("more", [">", "+<", "+=", "+>", "above"]), ("under", ["below", "-<"]), ("over", ["+>", "above"]), ("cell", ["<", "=", ">"]), ("none", [])]
def c_PLACES : List V := [.str "below", .str "-<", .str "-=", .str "->", .str "<", .str "=", .str ">", .str "+<", .str "+=", .str "+>", .str "above"]
abbrev s_is_name : Stmt := top 9
abbrev s_is_place : Stmt := top 13
abbrev s_is_group : Stmt := top 14
abbrev s_are_groups : Stmt := top 15
abbrev s_group : Stmt := top 16
abbrev s_is_rule : Stmt := top 20
abbrev s_checked_rules : Stmt := top 21
abbrev s_is_answer : Stmt := top 22
abbrev s_checked_answers : Stmt := top 23
abbrev s_used_rules : Stmt := top 24
abbrev s_Loop__init : Stmt := inClass (top 25) 0
abbrev s_Loop_states : Stmt := inClass (top 25) 3
abbrev s_Loop_fitting : Stmt := inClass (top 25) 6
abbrev s_law_source : Stmt := top 27
abbrev s_law_draw : Stmt := top 28
abbrev s_law_pick : Stmt := top 29
abbrev s_law_name : Stmt := top 30
abbrev s_law_names : Stmt := top 31
abbrev s_law_places : Stmt := top 32
abbrev s_law_group : Stmt := top 33
abbrev s_law_group_names : Stmt := top 34
abbrev s_law_groups : Stmt := top 36
abbrev s_law_rules : Stmt := top 37
abbrev s_law_states : Stmt := top 35
abbrev s_law_first : Stmt := top 38
abbrev s_law_tried : Stmt := top 39
abbrev s_law : Stmt := top 40
theorem sc_is_name : FnScope ["thing", "letter"] ["thing"] (defScope s_is_name) := ⟨rfl, rfl, rfl, by decide +kernel, rfl, by decide +kernel, by decide +kernel⟩
theorem sc_is_place : FnScope ["thing"] ["thing"] (defScope s_is_place) := ⟨rfl, rfl, rfl, by decide +kernel, rfl, by decide +kernel, by decide +kernel⟩
theorem sc_is_group : FnScope ["thing"] ["thing"] (defScope s_is_group) := ⟨rfl, rfl, rfl, by decide +kernel, rfl, by decide +kernel, by decide +kernel⟩
theorem sc_are_groups : FnScope ["things", "thing"] ["things"] (defScope s_are_groups) := ⟨rfl, rfl, rfl, by decide +kernel, rfl, by decide +kernel, by decide +kernel⟩
theorem sc_group : FnScope ["name"] ["name"] (defScope s_group) := ⟨rfl, rfl, rfl, by decide +kernel, rfl, by decide +kernel, by decide +kernel⟩
theorem sc_is_rule : FnScope ["thing", "state", "groups", "word", "keeps", "later"] ["thing"] (defScope s_is_rule) := ⟨rfl, rfl, rfl, by decide +kernel, rfl, by decide +kernel, by decide +kernel⟩
theorem sc_checked_rules : FnScope ["rules", "checked", "states", "line", "rule", "state", "groups", "word", "keeps", "later"] ["rules"] (defScope s_checked_rules) := ⟨rfl, rfl, rfl, by decide +kernel, rfl, by decide +kernel, by decide +kernel⟩
theorem sc_is_answer : FnScope ["thing"] ["thing"] (defScope s_is_answer) := ⟨rfl, rfl, rfl, by decide +kernel, rfl, by decide +kernel, by decide +kernel⟩
theorem sc_checked_answers : FnScope ["states", "answers", "given", "state", "checked", "answer"] ["states", "answers"] (defScope s_checked_answers) := ⟨rfl, rfl, rfl, by decide +kernel, rfl, by decide +kernel, by decide +kernel⟩
theorem sc_used_rules : FnScope ["rules", "used", "index", "rule", "name", "places", "place"] ["rules"] (defScope s_used_rules) := ⟨rfl, rfl, rfl, by decide +kernel, rfl, by decide +kernel, by decide +kernel⟩
theorem sc_Loop__init : FnScope ["self", "rules", "answers", "checked", "states", "told"] ["self", "rules", "answers"] (defScope s_Loop__init) := ⟨rfl, rfl, rfl, by decide +kernel, rfl, by decide +kernel, by decide +kernel⟩
theorem sc_Loop_states : FnScope ["self"] ["self"] (defScope s_Loop_states) := ⟨rfl, rfl, rfl, by decide +kernel, rfl, by decide +kernel, by decide +kernel⟩
theorem sc_Loop_fitting : FnScope ["self", "state", "place"] ["self", "state", "place"] (defScope s_Loop_fitting) := ⟨rfl, rfl, rfl, by decide +kernel, rfl, by decide +kernel, by decide +kernel⟩
theorem sc_law_source : FnScope ["_law_script", "_law_great", "_law_seed", "_law_cell"] ["_law_script"] (defScope s_law_source) := ⟨rfl, rfl, rfl, by decide +kernel, rfl, by decide +kernel, by decide +kernel⟩
theorem sc_law_draw : FnScope ["_law_source_here", "_law_many", "_law_digit", "_law_mixed"] ["_law_source_here", "_law_many"] (defScope s_law_draw) := ⟨rfl, rfl, rfl, by decide +kernel, rfl, by decide +kernel, by decide +kernel⟩
theorem sc_law_pick : FnScope ["_law_source_here", "_law_things"] ["_law_source_here", "_law_things"] (defScope s_law_pick) := ⟨rfl, rfl, rfl, by decide +kernel, rfl, by decide +kernel, by decide +kernel⟩
theorem sc_law_name : FnScope ["_law_source_here", "_law_taken", "_law_size", "_law_name_here", "_law_k", "_law_one", "_law_letter"] ["_law_source_here", "_law_taken"] (defScope s_law_name) := ⟨rfl, rfl, rfl, by decide +kernel, rfl, by decide +kernel, by decide +kernel⟩
theorem sc_law_names : FnScope ["_law_source_here", "_law_many", "_law_names_here", "_law_k"] ["_law_source_here", "_law_many"] (defScope s_law_names) := ⟨rfl, rfl, rfl, by decide +kernel, rfl, by decide +kernel, by decide +kernel⟩
theorem sc_law_places : FnScope [] [] (defScope s_law_places) := ⟨rfl, rfl, rfl, by decide +kernel, rfl, by decide +kernel, by decide +kernel⟩
theorem sc_law_group : FnScope ["_law_name_here", "_law_row", "_law_parts"] ["_law_name_here"] (defScope s_law_group) := ⟨rfl, rfl, rfl, by decide +kernel, rfl, by decide +kernel, by decide +kernel⟩
theorem sc_law_group_names : FnScope [] [] (defScope s_law_group_names) := ⟨rfl, rfl, rfl, by decide +kernel, rfl, by decide +kernel, by decide +kernel⟩
theorem sc_law_groups : FnScope ["_law_source_here", "_law_first_here", "_law_names_here", "_law_groups_here", "_law_k"] ["_law_source_here", "_law_first_here"] (defScope s_law_groups) := ⟨rfl, rfl, rfl, by decide +kernel, rfl, by decide +kernel, by decide +kernel⟩
theorem sc_law_rules : FnScope ["_law_source_here", "_law_many", "_law_most", "_law_states_here", "_law_words", "_law_rules_here", "_law_k", "_law_state", "_law_groups_here"] ["_law_source_here", "_law_many", "_law_most"] (defScope s_law_rules) := ⟨rfl, rfl, rfl, by decide +kernel, rfl, by decide +kernel, by decide +kernel⟩
theorem sc_law_states : FnScope ["_law_rules_here", "_law_found", "_law_rule", "_law_state"] ["_law_rules_here"] (defScope s_law_states) := ⟨rfl, rfl, rfl, by decide +kernel, rfl, by decide +kernel, by decide +kernel⟩
theorem sc_law_first : FnScope ["_law_rules_here", "_law_state", "_law_where", "_law_k", "_law_rule", "_law_fits", "_law_name_here"] ["_law_rules_here", "_law_state", "_law_where"] (defScope s_law_first) := ⟨rfl, rfl, rfl, by decide +kernel, rfl, by decide +kernel, by decide +kernel⟩
theorem sc_law_tried : FnScope ["_law_work", "_law_found", "e"] ["_law_work"] (defScope s_law_tried) := ⟨rfl, rfl, rfl, by decide +kernel, rfl, by decide +kernel, by decide +kernel⟩
theorem sc_law : FnScope ["_law_script", "_law_source_here", "_law_rules_here", "_law_due", "_law_loop", "_law_state", "_law_strange", "_law_where", "_law_name_here"] ["_law_script"] (defScope s_law) := ⟨rfl, rfl, rfl, by decide +kernel, rfl, by decide +kernel, by decide +kernel⟩

/-! ### the data -/
/-- H' tells all that H tells, but for what stands at p -/
def But (p : Addr) (H H' : Hp) : Prop := ∀ b o, b ≠ p → H b = some o → H' b = some o
theorem But.refl (p : Addr) (H : Hp) : But p H H := fun _ _ _ h => h
theorem But.trans {p : Addr} {H H1 H2 : Hp} (a : But p H H1) (b : But p H1 H2) : But p H H2 := fun c o n h => b c o n (a c o n h)
theorem But.upd {p : Addr} {H H' : Hp} {o : HO} (a : But p H H') : But p H (upd H' p o) := fun c o n h => by rw [upd_ne n]; exact a c o n h
theorem Same.but {p : Addr} {H H' : Hp} (a : Same H H') : But p H H' := fun c o _ h => a c o h
theorem Same.new {H : Hp} {p : Addr} {o : HO} (h : H p = none) : Same H (upd H p o) := fun b o e => by rw [upd_ne (ne_of_none e h)]; exact e
/-- a source of draws at p, at most n drawn so far -/
def Src (H : Hp) (p : Addr) (n : Int) : Prop := ∃ g s c : Int, H p = some (.lst [.int g, .int s, .int c]) ∧ 0 ≤ s ∧ s < 2147483647 ∧ 0 ≤ c ∧ c ≤ n
theorem Src.same {H H' : Hp} {p : Addr} {n : Int} (h : Src H p n) (e : Same H H') : Src H' p n := by
  obtain ⟨g, s, c, h, q⟩ := h
  exact ⟨g, s, c, e _ _ h, q⟩
theorem Src.le {H : Hp} {p : Addr} {n m : Int} (h : Src H p n) (e : n ≤ m) : Src H p m := by
  obtain ⟨g, s, c, h, q1, q2, q3, q4⟩ := h
  exact ⟨g, s, c, h, q1, q2, q3, by omega⟩

theorem draw_pow {x c : Int} (x0 : 0 ≤ x) (x1 : x < 2147483629) (c0 : 0 ≤ c) (c1 : c ≤ 1000000) : CPow (x * 48271 + 16807 * c * c + 11) 3 := by
  refine ⟨by decide, by decide, ?_⟩
  have h1 : 0 ≤ c * c := Int.mul_nonneg c0 c0
  have h2 : c * c ≤ 1000000 * 1000000 := Int.mul_le_mul c1 c1 c0 (by decide)
  have e : 16807 * c * c = 16807 * (c * c) := Int.mul_assoc _ _ _
  rw [e]
  generalize c * c = y at h1 h2
  show _ < 18446744073709551616
  omega
theorem ix_of {K : PySem.W.Frag} {H : Hp} {p : Addr} {xs : List V} {i : Int} {v : V} {Q : VK} (h : SqL K H p xs) (h2 : atI xs i = some v) (h3 : Q v H) : rIxL K (.ref p) (.int i) H Q := ⟨p, xs, i, v, rfl, rfl, h, h2, h3⟩
theorem set_of {H : Hp} {p : Addr} {xs : List V} {k : Int} {j : Nat} {v : V} {Q : Hp → Prop} (h : H p = some (.lst xs)) (h2 : ixN xs.length k = some j) (h3 : Q (upd H p (.lst (xs.set j v)))) : rSetL (.ref p) (.int k) v H Q := ⟨p, xs, k, j, rfl, rfl, h, h2, h3⟩
theorem ifne {x y : V} {A B : Prop} (h : x = y) (k : B) : if (!decide (x = y)) = true then A else B := by
  rw [decide_eq_true h]
  exact iteF k
theorem ifd {c A B : Prop} {inst : Decidable c} (h1 : c → A) (h2 : ¬ c → B) : if (@decide c inst) = true then A else B := by
  by_cases h : c
  · rw [if_pos (decide_eq_true h)]
    exact h1 h
  · rw [if_neg (by rw [decide_eq_false h]; exact Bool.false_ne_true)]
    exact h2 h
local macro_rules | `(tactic| walk_at "rd") => `(tactic| repeat (first
  | refine ⟨_, rfl, ?_⟩
  | refine ⟨_, _, rfl, rfl, ?_⟩
  | refine ⟨_, _, rfl, ?_⟩
  | refine ⟨rfl, ?_⟩
  | refine ⟨_, _, _, _, rfl, rfl, SqL.of upd_same, rfl, ?_⟩
  | refine ⟨_, _, _, _, rfl, rfl, upd_same, rfl, ?_⟩
  | refine iteT ?_
  | refine iteF ?_))
theorem take_more {α : Type} : ∀ {l : List α} {i : Nat} {x : α}, l[i]? = some x → l.take (i + 1) = l.take i ++ [x]
  | [], i, x, h => by simp at h
  | a :: l, 0, x, h => by
    have e : a = x := Option.some.inj h
    subst e
    rfl
  | a :: l, i + 1, x, h => by
    have ih := take_more (l := l) (i := i) (x := x) h
    show a :: l.take (i + 1) = a :: l.take i ++ [x]
    rw [ih]
    rfl
/-- a new object, the heap behind it a letter: generalize hH : upd H l _ = H' ahead of it -/
theorem new_of {H H' : Hp} {l : Addr} {o o' : HO} (hH : upd H l o = H') (h : H l = none) (e : o = o') : Same H H' ∧ H' l = some o' := by
  subst e hH
  exact ⟨Same.new h, upd_same⟩
/-- a changed object -/
theorem chg_of {H H' : Hp} {l : Addr} {o o' : HO} (hH : upd H l o = H') (e : o = o') : But l H H' ∧ H' l = some o' := by
  subst e hH
  exact ⟨(But.refl l H).upd, upd_same⟩
theorem Src.but {H H' : Hp} {p q : Addr} {n : Int} (h : Src H p n) (e : But q H H') (hne : p ≠ q) : Src H' p n := by
  obtain ⟨g, s, c, h, r⟩ := h
  exact ⟨g, s, c, e _ _ hne h, r⟩
theorem Src.ne {H : Hp} {p q : Addr} {n : Int} (h : Src H p n) (hq : H q = none) : q ≠ p := fun z => by
  obtain ⟨_, _, _, e, _⟩ := h
  rw [z, e] at hq
  cases hq
theorem int_at {l : List Int} {i : Nat} {x : V} (h : (l.map V.int)[i]? = some x) : ∃ z, x = V.int z ∧ l[i]? = some z := by
  rw [List.getElem?_map] at h
  cases e : l[i]? with
  | none => rw [e] at h; cases h
  | some z => rw [e] at h; exact ⟨z, (Option.some.inj h).symm, rfl⟩
/-! ### the promises -/
def spSource (K : PySem.W.Frag) : Sp := fun vs H Q _ => ∃ (a : Addr) (ns : List Int), vs = [.ref a] ∧ SqL K H a (ns.map V.int) ∧ ∀ (p : Addr) (H' : Hp), H p = none → Same H H' → Src H' p 0 → Q (.ref p) H'
def spDraw : Sp := fun vs H Q _ => ∃ (p : Addr) (m n : Int), vs = [.ref p, .int m] ∧ Src H p n ∧ n < 1000000 ∧ 0 < m ∧ m < 2 ^ 64 ∧
  ∀ (d : Int) (H' : Hp), 0 ≤ d → d < m → But p H H' → Src H' p (n + 1) → Q (.int d) H'
def spLaw (K : PySem.W.Frag) : Sp := fun vs H Q _ => ∃ (a : Addr) (ns : List Int), vs = [.ref a] ∧ SqL K H a (ns.map V.int) ∧ ns.length ≤ 63 ∧ ∀ H', Q (.bl true) H'
/-! ### the places by their numbers -/
def placesL : List Str := ["below", "-<", "-=", "->", "<", "=", ">", "+<", "+=", "+>", "above"]
theorem c_places : c_PLACES = placesL.map V.str := rfl
theorem inV_strs (z : Str) : ∀ l : List Str, inV (V.str z) (l.map V.str) = decide (z ∈ l)
  | [] => rfl
  | a :: r => by
    have ih := inV_strs z r
    unfold inV at ih ⊢
    rw [List.map_cons, List.any_cons, ih]
    by_cases e : a = z
    · subst e
      simp [eqV]
    · have e1 : eqV (V.str a) (V.str z) = false := by
        show (a == z) = false
        simpa using e
      have e2 : ¬ z = a := fun q => e q.symm
      simp [e1, e2]
theorem flat_strs : ∀ l : List Str, (l.map V.str).all flatV = true
  | [] => rfl
  | a :: r => by
    rw [List.map_cons, List.all_cons, flat_strs r]
    rfl
theorem dp_strs {K : PySem.W.Frag} {H : Hp} : ∀ l : List Str, DpAll K H (l.map V.str) (l.map PyData.str)
  | [] => .nil
  | a :: r => .cons (.str a) (dp_strs r)
theorem str_at {l : List Str} {i : Nat} {x : V} (h : (l.map V.str)[i]? = some x) : ∃ z, x = V.str z ∧ l[i]? = some z := by
  rw [List.getElem?_map] at h
  cases e : l[i]? with
  | none => rw [e] at h; cases h
  | some z => rw [e] at h; exact ⟨z, (Option.some.inj h).symm, rfl⟩
theorem places_nd : placesL.Nodup := by decide +kernel
theorem places_lt {j : Nat} {z : Str} (h : placesL[j]? = some z) : j < 11 := (List.getElem?_eq_some_iff.mp h).1
theorem places_first {j m : Nat} {z : Str} (h : placesL[j]? = some z) (hm : m < j) : placesL[m]? ≠ some z := fun e => by
  have q := nd_ix places_nd e h
  omega
theorem shaped_of {d : PyData} (h1 : d.canLay0 = true) (h2 : d.depth ≤ 64) : SeqAt.shaped d = true := by
  unfold SeqAt.shaped
  rw [h1, decide_eq_true h2]
  rfl
theorem lay_strs : ∀ l : List Str, (∀ z ∈ l, PyData.strOk z = true) → PyData.canLayAll0 (l.map PyData.str) = true
  | [], _ => rfl
  | a :: r, h => by
    rw [List.map_cons, PyData.canLayAll0, lay_strs r fun z hz => h z (List.mem_cons_of_mem _ hz), PyData.canLay0, h a List.mem_cons_self]
    rfl
theorem depth_strs : ∀ l : List Str, PyData.depthAll (l.map PyData.str) ≤ 1
  | [] => by simp [PyData.depthAll]
  | a :: r => by
    have ih := depth_strs r
    rw [List.map_cons, PyData.depthAll]
    have e : (PyData.str a).depth ≤ 1 := by simp [PyData.depth]
    omega
theorem shaped_strs {l : List Str} (h : ∀ z ∈ l, PyData.strOk z = true) : SeqAt.shaped (.list (l.map PyData.str)) = true :=
  shaped_of (by rw [PyData.canLay0]; exact lay_strs l h) (by rw [PyData.depth]; have := depth_strs l; omega)
theorem eqv_strs {l : List Str} (h : ∀ z ∈ l, PyData.strOk z = true) : PyData.eqv (.list (l.map PyData.str)) (.list (l.map PyData.str)) = true :=
  SeqAt.eqv_refl _ (by rw [PyData.canLay0]; exact lay_strs l h)
theorem places_ok : ∀ z ∈ placesL, PyData.strOk z = true := by decide +kernel
/-! ### is_place, turned -/
def spIsPlace : Sp := fun vs H Q _ => ∃ z : Str, vs = [.str z] ∧ Q (.bl (decide (z ∈ placesL))) H
/-! ### the groups -/
theorem isStr_ne {x z : Str} {t : Tok} (h : x ≠ z) : (Value.str x t).isStr z = false := by
  show (x == z) = false
  simpa using h
theorem groups_at : ∀ {l : List (Str × List Str)} {z : Str}, z ∈ l.map (·.1) → ∃ (j : Nat) (ps : List Str), l[j]? = some (z, ps)
  | (a, q) :: r, z, h => by
    rw [List.map_cons] at h
    rcases List.mem_cons.mp h with e | e
    · exact ⟨0, q, by rw [e]; rfl⟩
    · obtain ⟨j, ps, h'⟩ := groups_at e
      exact ⟨j + 1, ps, h'⟩
theorem names_in {j : Nat} {z : Str} {ps : List Str} (h : l_GROUPS[j]? = some (z, ps)) : z ∈ l_GROUPS.map (·.1) := List.mem_map.mpr ⟨_, List.mem_of_getElem? h, rfl⟩
theorem names_no : ∀ z ∈ l_GROUPS.map (·.1), z ∉ placesL := by decide +kernel
/-- group: of a name of the table, that is no place; of a place -/
def spIsGroup : Sp := fun vs H Q _ => ∃ z : Str, vs = [.str z] ∧ Q (.bl (decide (z ∈ placesL ∨ z ∈ l_GROUPS.map (·.1)))) H
def spGroup (K : PySem.W.Frag) : Sp := fun vs H Q _ => ∃ z : Str, vs = [.str z] ∧
  ((∃ (j : Nat) (ps : List Str), l_GROUPS[j]? = some (z, ps) ∧ ∀ u : Addr, (∀ H' : Hp, SqT K H' u (ps.map V.str)) → Q (.ref u) H) ∨
   (z ∈ placesL ∧ ∀ p : Addr, H p = none → Q (.ref p) (upd H p (.tup [.str z]))))
/-! ### _law_pick, _law_name -/
theorem sql_but {K : PySem.W.Frag} {H H' : Hp} {p l : Addr} {xs : List V} (h : SqL K H l xs) (e : But p H H') (n : l ≠ p) : SqL K H' l xs := by
  rcases h with (h | ⟨o, h⟩) | h
  · exact .inl (.inl (e _ _ n h))
  · exact .inl (.inr ⟨o, e _ _ n h⟩)
  · exact .inr h
theorem but_new {p q : Addr} {H H' : Hp} {o : HO} (a : But p H H') (h : H q = none) : But p H (upd H' q o) := fun c u n z => by
  rw [upd_ne (fun e => by rw [e, h] at z; cases z)]
  exact a c u n z
theorem but_free {p q : Addr} {H H' : Hp} (a : But p H H') (n : q ≠ p) (h : H' q = none) : H q = none := by
  cases e : H q with
  | none => rfl
  | some o =>
    rw [a q o n e] at h
    cases h
theorem at_any {α : Type} {xs : List α} {j : Nat} {x : α} (h : xs[j]? = some x) : atI xs (j : Int) = some x := by
  have hj : j < xs.length := (List.getElem?_eq_some_iff.mp h).1
  unfold atI ixN
  rw [if_pos (by omega : (0 : Int) ≤ j), if_pos (by omega : (j : Int) < xs.length)]
  exact h
def spPick (K : PySem.W.Frag) : Sp := fun vs H Q _ => ∃ (p l : Addr) (xs : List V) (n : Int), vs = [.ref p, .ref l] ∧ Src H p n ∧ n < 1000000 ∧ l ≠ p ∧ SqL K H l xs ∧ 0 < xs.length ∧ xs.length ≤ 1000 ∧
  ∀ (j : Nat) (v : V) (H' : Hp), xs[j]? = some v → But p H H' → Src H' p (n + 1) → Q v H'
/-- a name of at most eight small letters -/
def one (c : Nat) : Str := ⟨#[c]⟩
def small (c : Nat) : Prop := 97 ≤ c ∧ c ≤ 122
structure IsName (z : Str) : Prop where
  pos : 1 ≤ z.cps.size
  len : z.cps.size ≤ 8
  low : ∀ c ∈ z.cps.toList, small c
theorem IsName.ok {z : Str} (h : IsName z) : PyData.strOk z = true := by
  show z.cps.all (· < 0x110000) = true
  rw [← Array.all_toList, List.all_eq_true]
  intro c hc
  have := (h.low c hc).2
  exact decide_eq_true (by omega)
theorem join_ones : ∀ cs : List Nat, Txt.join (Str.ofString "") (cs.map one) = ⟨cs.toArray⟩ := fun cs => by
  rw [TL.join_eq]
  have e : ∀ l : List Nat, TL.tl (Str.join (Str.ofString "") (l.map one)) = l := fun l => by
    rw [TL.tl_join, show TL.tl (Str.ofString "") = [] by decide +kernel]
    induction l with
    | nil => rfl
    | cons a r ih =>
      cases r with
      | nil => rfl
      | cons b r =>
        rw [List.map_cons, List.map_cons, List.map_cons, List.map_cons, TL.joinL]
        rw [List.map_cons, List.map_cons] at ih
        rw [List.nil_append, ih]
        rfl
  have q := e cs
  show (Str.join (Str.ofString "") (cs.map one)) = ⟨cs.toArray⟩
  have h : (Str.join (Str.ofString "") (cs.map one)).cps.toList = cs := q
  generalize Str.join (Str.ofString "") (cs.map one) = z at h
  obtain ⟨a⟩ := z
  obtain ⟨l⟩ := a
  have h' : l = cs := h
  rw [h']
theorem name_of {cs : List Nat} (h1 : 1 ≤ cs.length) (h8 : cs.length ≤ 8) (hl : ∀ c ∈ cs, small c) : IsName ⟨cs.toArray⟩ := ⟨by simpa using h1, by simpa using h8, by simpa using hl⟩
theorem name_q {z : Str} (h : IsName z) : IsName (Str.ofString "q" ++ cutS z (some 1) none) := by
  have hl := cutS_length z (some 1) none
  have e : (Str.ofString "q" ++ cutS z (some 1) none).cps = #[113] ++ (cutS z (some 1) none).cps := by
    show (Str.ofString "q").cps ++ _ = _
    rw [show (Str.ofString "q").cps = #[113] by decide +kernel]
  have hz : (cutS z (some 1) none).cps.size ≤ z.cps.size - 1 := by
    show (((z.cps.toList.drop (HT.sIx z.length 0 (some 1))).take (HT.sIx z.length z.length none - HT.sIx z.length 0 (some 1))).toArray).size ≤ _
    have p := h.pos
    have e1 : HT.sIx z.length 0 (some 1) = 1 := by
      show HT.sIx z.cps.size 0 (some 1) = 1
      unfold HT.sIx
      simp
      omega
    rw [e1, List.size_toArray, List.length_take, List.length_drop, Array.length_toList]
    omega
  have p := h.pos
  have p8 := h.len
  refine ⟨?_, ?_, ?_⟩
  · rw [e, Array.size_append]
    show 1 ≤ 1 + _
    omega
  · rw [e, Array.size_append]
    show 1 + _ ≤ 8
    omega
  · intro c hc
    rw [e, Array.toList_append] at hc
    rcases List.mem_append.mp hc with q | q
    · have : c = 113 := by simpa using q
      subst this
      exact ⟨by decide, by decide⟩
    · refine h.low c ?_
      have q' : c ∈ (((z.cps.toList.drop (HT.sIx z.length 0 (some 1))).take (HT.sIx z.length z.length none - HT.sIx z.length 0 (some 1))).toArray).toList := q
      rw [List.toList_toArray] at q'
      exact List.mem_of_mem_drop (List.mem_of_mem_take q')
/-- the names that are taken where all else is: z and one of seventeen letters -/
def zName (c : Nat) : Str := Str.ofString "z" ++ one c
theorem zName_is {c : Nat} (h : small c) : IsName (zName c) := by
  have e : (zName c).cps = #[122] ++ #[c] := by
    show (Str.ofString "z").cps ++ _ = _
    rw [show (Str.ofString "z").cps = #[122] by decide +kernel]
    rfl
  refine ⟨by rw [e]; exact (by omega : 1 ≤ 2), by rw [e]; exact (by omega : 2 ≤ 8), ?_⟩
  intro d hd
  rw [e] at hd
  have hd' : d = 122 ∨ d = c := by simpa using hd
  rcases hd' with rfl | rfl
  · exact ⟨by decide, by decide⟩
  · exact h
def zNames (i : Nat) : List Str := (List.range i).map fun k => zName (97 + k)
theorem zNames_more (i : Nat) : zNames (i + 1) = zNames i ++ [zName (97 + i)] := by
  unfold zNames
  rw [List.range_succ, List.map_append]
  rfl
theorem zNames_is {z : Str} (h : z ∈ zNames 17) : IsName z := by
  obtain ⟨k, hk, rfl⟩ := List.mem_map.mp h
  have := List.mem_range.mp hk
  exact zName_is ⟨by omega, by omega⟩
theorem zNames_has {c : Nat} (h1 : 97 ≤ c) (h2 : c ≤ 113) : zName c ∈ zNames 17 := List.mem_map.mpr ⟨c - 97, List.mem_range.mpr (by omega), by rw [show 97 + (c - 97) = c by omega]⟩
def spName (K : PySem.W.Frag) : Sp := fun vs H Q _ => ∃ (p l : Addr) (tk : List Str) (n : Int), vs = [.ref p, .ref l] ∧ Src H p n ∧ n < 900000 ∧ l ≠ p ∧ SqL K H l (tk.map V.str) ∧ (∃ c : Nat, 97 ≤ c ∧ c ≤ 113 ∧ zName c ∉ tk) ∧
  ∀ (z : Str) (H' : Hp), IsName z → z ∉ tk → But p H H' → Src H' p (n + 10) → Q (.str z) H'
/-! ### _law_names -/
theorem sub_length : ∀ {xs ys : List Str}, xs.Nodup → (∀ z ∈ xs, z ∈ ys) → xs.length ≤ ys.length
  | [], _, _, _ => Nat.zero_le _
  | x :: r, ys, h, s => by
    have hx := s x List.mem_cons_self
    obtain ⟨h1, h2⟩ := List.nodup_cons.mp h
    have q := sub_length (xs := r) (ys := ys.erase x) h2 fun z hz => (List.mem_erase_of_ne (fun e => h1 (by rw [← e]; exact hz))).mpr (s z (List.mem_cons_of_mem _ hz))
    rw [List.length_erase_of_mem hx] at q
    have : 0 < ys.length := List.length_pos_of_mem hx
    rw [List.length_cons]
    omega
theorem zNames_nd : (zNames 17).Nodup := by decide +kernel
theorem z_left {zs : List Str} (h : zs.length < 17) : ∃ c : Nat, 97 ≤ c ∧ c ≤ 113 ∧ zName c ∉ zs := by
  apply Classical.byContradiction
  intro hn
  have q := sub_length zNames_nd (ys := zs) fun z hz => by
    obtain ⟨k, hk, rfl⟩ := List.mem_map.mp hz
    have := List.mem_range.mp hk
    exact Classical.byContradiction fun h2 => hn ⟨97 + k, by omega, by omega, h2⟩
  have e : (zNames 17).length = 17 := by simp [zNames]
  omega
theorem nd_snoc : ∀ {zs : List Str} {z : Str}, zs.Nodup → z ∉ zs → (zs ++ [z]).Nodup
  | [], z, _, _ => List.nodup_cons.mpr ⟨(fun h => nomatch h), List.nodup_nil⟩
  | a :: r, z, h, hz => by
    obtain ⟨h1, h2⟩ := List.nodup_cons.mp h
    refine List.nodup_cons.mpr ⟨fun q => ?_, nd_snoc h2 fun q => hz (List.mem_cons_of_mem _ q)⟩
    rcases List.mem_append.mp q with q | q
    · exact h1 q
    · exact hz (by rw [← List.mem_singleton.mp q]; exact List.mem_cons_self)
def spNames : Sp := fun vs H Q _ => ∃ (p : Addr) (m : Nat) (n : Int), vs = [.ref p, .int m] ∧ Src H p n ∧ m ≤ 17 ∧ n < 800000 ∧
  ∀ (l : Addr) (zs : List Str) (H' : Hp), zs.length = m → (∀ z ∈ zs, IsName z) → zs.Nodup → H l = none → H' l = some (.lst (zs.map V.str)) → But p H H' → Src H' p (n + 10 * (m : Int)) → Q (.ref l) H'
/-! ### _law_places, _law_group_names, _law_group -/
def namesL : List Str := ["any", "near", "far", "less", "more", "under", "over", "cell", "none"]
def spPlaces : Sp := fun vs H Q _ => vs = [] ∧ ∀ p : Addr, H p = none → Q (.ref p) (upd H p (.lst (placesL.map V.str)))
def spGroupNames : Sp := fun vs H Q _ => vs = [] ∧ ∀ p : Addr, H p = none → Q (.ref p) (upd H p (.lst (namesL.map V.str)))
def grpL (z : Str) : List Str := (l_GROUPS.lookup z).getD [z]
def spLawGroup : Sp := fun vs H Q _ => ∃ z : Str, vs = [.str z] ∧ ∀ (a : Addr) (H' : Hp), Same H H' → H' a = some (.lst ((grpL z).map V.str)) → Q (.ref a) H'
theorem same_but {D : Addr} {H H1 H2 : Hp} (s : Same H H1) (u : But D H1 H2) (hD : H D = none) : Same H H2 := fun b o e => u b o (ne_of_none e hD) (s b o e)
def underL : List Str := ["below", "-<"]
def overL : List Str := ["+>", "above"]
def nearL : List Str := ["-=", "->", "<", "=", ">", "+<", "+="]
def lessL : List Str := ["below", "-<", "-=", "->", "<"]
def moreL : List Str := [">", "+<", "+=", "+>", "above"]
def cellL : List Str := ["<", "=", ">"]
theorem valV_out : ∀ {kvs : List (Key × V)} {k : Key}, (∀ q ∈ kvs, q.1 ≠ k) → valV kvs k = none
  | [], _, _ => rfl
  | (j, v) :: r, k, h => by
    have ih := valV_out (kvs := r) (k := k) fun q hq => h q (List.mem_cons_of_mem _ hq)
    have hj : j ≠ k := h _ List.mem_cons_self
    unfold valV at ih ⊢
    simp [List.find?, hj]
    simpa using ih
theorem grp_out {z : Str} (h : z ∉ namesL) : grpL z = [z] := by
  have key : ∀ l : List (Str × List Str), z ∉ l.map (·.1) → l.lookup z = none := fun l => by
    induction l with
    | nil => exact fun _ => rfl
    | cons a r ih =>
      intro hn
      rw [List.map_cons, List.mem_cons, not_or] at hn
      rw [List.lookup_cons, show (z == a.1) = false by simpa using hn.1]
      exact ih hn.2
  unfold grpL
  rw [key l_GROUPS (show z ∉ l_GROUPS.map (·.1) from h)]
  rfl
def gdK (r a3 a6 a7 a8 b1 b2 b3 b4 : Addr) : List (Key × V) := [(.inr "any", .ref r), (.inr "near", .ref a3), (.inr "far", .ref a6), (.inr "less", .ref a7), (.inr "more", .ref a8), (.inr "under", .ref b1), (.inr "over", .ref b2), (.inr "cell", .ref b3), (.inr "none", .ref b4)]
/-! ### is_place, is_group, group, turned of any value that a law hands in -/
inductive OddV (H : Hp) : V → PyData → Prop
  | non : OddV H .non .none
  | int (i : Int) : OddV H (.int i) (.int i)
  | lst {a : Addr} {z : Str} (h : H a = some (.lst [.str z])) (ok : PyData.strOk z = true) : OddV H (.ref a) (.list [.str z])
  | tup {a : Addr} {z : Str} (h : H a = some (.tup [.str z])) (ok : PyData.strOk z = true) : OddV H (.ref a) (.tuple [.str z])
theorem OddV.mv {H H' : Hp} {v : V} {d : PyData} (o : OddV H v d) (e : ∀ b u, (∀ ps, u ≠ .tbl ps) → H b = some u → H' b = some u) : OddV H' v d := by
  cases o with
  | non => exact .non
  | int i => exact .int i
  | lst h ok => exact .lst (e _ _ (fun ps z => by cases z) h) ok
  | tup h ok => exact .tup (e _ _ (fun ps z => by cases z) h) ok
theorem OddV.ty {K : PySem.W.Frag} {H : Hp} {v : V} {d : PyData} (o : OddV H v d) : ∃ t : String, TyX K H v (.type t) ∧ kitB t "str" = some false := by
  cases o with
  | non => exact ⟨_, .base .non, by decide +kernel⟩
  | int i => exact ⟨_, .base (.int i), by decide +kernel⟩
  | lst h ok => exact ⟨_, .base (.lst h), by decide +kernel⟩
  | tup h ok => exact ⟨_, .base (.tup h), by decide +kernel⟩
def spIsPlaceA : Sp := fun vs H Q _ => ∃ v : V, vs = [v] ∧ ((∃ z : Str, v = .str z ∧ Q (.bl (decide (z ∈ placesL))) H) ∨ (∃ d, OddV H v d) ∧ Q (.bl false) H)
def spIsGroupA : Sp := fun vs H Q _ => ∃ v : V, vs = [v] ∧ ((∃ z : Str, v = .str z ∧ Q (.bl (decide (z ∈ placesL ∨ z ∈ l_GROUPS.map (·.1)))) H) ∨ (∃ d, OddV H v d) ∧ Q (.bl false) H)
/-! ### are_groups, of a list or a tuple of texts -/
def iLT (K : PySem.W.Frag) (tl : TE) : TI := fun σ H R => iList K tl σ H R ∨ iTup K tl σ H R
theorem pi_lt {X : Cx} {tg l : Expr} {tl : TE} (hl : PE X l tl) : PI X tg l (iLT X.K tl) := ⟨fun pins s σ H R I h => h.elim (fun h => (pi_list hl).run pins s σ H R I h) (fun h => (pi_tup hl).run pins s σ H R I h)⟩
def grpB (z : Str) : Bool := decide (z ∈ placesL ∨ z ∈ l_GROUPS.map (·.1))
def LT (H : Hp) (a : Addr) (xs : List V) : Prop := H a = some (.lst xs) ∨ H a = some (.tup xs)
theorem LT.same {H H' : Hp} {a : Addr} {xs : List V} (h : LT H a xs) (e : Same H H') : LT H' a xs := h.imp (e _ _) (e _ _)
theorem LT.sq {K : PySem.W.Frag} {H : Hp} {a : Addr} {xs : List V} (h : LT H a xs) : SqL K H a xs ∨ SqT K H a xs := h.imp SqL.of SqT.of
theorem LT.ty {K : PySem.W.Frag} {H : Hp} {a : Addr} {xs : List V} (h : LT H a xs) : ∃ t : String, TyX K H (.ref a) (.type t) ∧ PySem.W.kitAny K (.type t) [.type "list", .type "tuple"] = some true := by
  rcases h with h | h
  · exact ⟨_, .base (.lst h), by rw [PySem.W.kitAny]; rfl⟩
  · exact ⟨_, .base (.tup h), by rw [PySem.W.kitAny]; rfl⟩
def spAreGroups : Sp := fun vs H Q _ => ∃ (a : Addr) (gs : List Str), vs = [.ref a] ∧ LT H a (gs.map V.str) ∧ gs.length ≤ 1000 ∧ ∀ H', Same H H' → Q (.bl (!gs.isEmpty && gs.all grpB)) H'
/-! ### _law_groups: one to four names of groups; with "none" among them if so asked -/
def grpNames : List Str := (namesL.take 8) ++ placesL
structure IsGroups (first : Bool) (gs : List Str) : Prop where
  pos : 1 ≤ gs.length
  len : gs.length ≤ 4
  mem : ∀ g ∈ gs, g ∈ namesL ++ placesL
  non : first = true → (Str.ofString "none") ∈ gs
theorem groups_plain {gs : List Str} (h1 : 1 ≤ gs.length) (h3 : gs.length ≤ 3) (hm : ∀ g ∈ gs, g ∈ namesL ++ placesL) : IsGroups false gs := ⟨h1, by omega, hm, fun h => nomatch h⟩
theorem groups_ins {gs : List Str} {first : Bool} (i : Nat) (h3 : gs.length ≤ 3) (hm : ∀ g ∈ gs, g ∈ namesL ++ placesL) : IsGroups first (gs.take i ++ [Str.ofString "none"] ++ gs.drop i) := by
  have hl : (gs.take i ++ [Str.ofString "none"] ++ gs.drop i).length = gs.length + 1 := by
    rw [List.length_append, List.length_append, List.length_take, List.length_drop, List.length_singleton]
    omega
  refine ⟨by omega, by omega, fun g hg => ?_, fun _ => List.mem_append_left _ (List.mem_append_right _ (List.mem_singleton.mpr rfl))⟩
  rcases List.mem_append.mp hg with q | q
  · rcases List.mem_append.mp q with q | q
    · exact hm g (List.mem_of_mem_take q)
    · rw [List.mem_singleton.mp q]
      exact List.mem_append_left _ (by decide +kernel)
  · exact hm g (List.mem_of_mem_drop q)
def spGroups (K : PySem.W.Frag) : Sp := fun vs H Q _ => ∃ (p : Addr) (first : Bool) (n : Int), vs = [.ref p, .bl first] ∧ Src H p n ∧ n < 900000 ∧
  ∀ (l : Addr) (gs : List Str) (H' : Hp), IsGroups first gs → H l = none → H' l = some (.lst (gs.map V.str)) → But p H H' → Src H' p (n + 10) → Q (.ref l) H'
/-! ### the rules that _law_rules makes -/
structure Rul where
  st : Str
  gs : List Str
  wd : Str
  kp : Bool
  nx : Str
def wordsL : List Str := ["new", "old", "pass"]
structure RuleOk (zs : List Str) (first : Bool) (r : Rul) : Prop where
  st : r.st ∈ zs
  nx : r.nx ∈ zs
  gs : IsGroups first r.gs
  wd : r.wd ∈ wordsL
theorem IsGroups.ne {b : Bool} {gs : List Str} (h : IsGroups b gs) : gs ≠ [] := fun q => by
  have := h.pos
  rw [q] at this
  cases this
theorem IsGroups.any {b : Bool} {gs : List Str} (h : IsGroups b gs) : IsGroups false gs := ⟨h.pos, h.len, h.mem, fun q => nomatch q⟩
theorem RuleOk.any {zs : List Str} {b : Bool} {r : Rul} (h : RuleOk zs b r) : RuleOk zs false r := ⟨h.st, h.nx, h.gs.any, h.wd⟩
/-- the value is a tuple, new since H0, that tells the rule; its groups are a list, new too -/
def RuleAt (H0 H : Hp) (v : V) (r : Rul) : Prop := ∃ t g : Addr, v = .ref t ∧ H t = some (.tup [.str r.st, .ref g, .str r.wd, .bl r.kp, .str r.nx]) ∧ H g = some (.lst (r.gs.map V.str)) ∧ r.gs ≠ [] ∧ H0 t = none ∧ H0 g = none
theorem Src.strs {H : Hp} {p g : Addr} {n : Int} {l : List Str} (S : Src H p n) (h : H g = some (.lst (l.map V.str))) : g ≠ p := fun q => by
  obtain ⟨a, b, c, e, _⟩ := S
  rw [q, e] at h
  cases l with
  | nil => cases h
  | cons x r => cases h
theorem Src.tups {H : Hp} {p g : Addr} {n : Int} {l : List V} (S : Src H p n) (h : H g = some (.tup l)) : g ≠ p := fun q => by
  obtain ⟨a, b, c, e, _⟩ := S
  rw [q, e] at h
  cases h
theorem RuleAt.same {H0 H H' : Hp} {v : V} {r : Rul} (h : RuleAt H0 H v r) (e : Same H H') : RuleAt H0 H' v r := by
  obtain ⟨t, g, h1, h2, h3, h4⟩ := h
  exact ⟨t, g, h1, e _ _ h2, e _ _ h3, h4⟩
theorem RuleAt.src {H0 H H' : Hp} {p : Addr} {n : Int} {v : V} {r : Rul} (h : RuleAt H0 H v r) (S : Src H p n) (e : But p H H') : RuleAt H0 H' v r := by
  obtain ⟨t, g, h1, h2, h3, h4⟩ := h
  exact ⟨t, g, h1, e _ _ (S.tups h2) h2, e _ _ (S.strs h3) h3, h4⟩
/-- a list of no texts is changed -/
theorem RuleAt.lst {H0 H H' : Hp} {l : Addr} {xs : List V} {v : V} {r : Rul} (h : RuleAt H0 H v r) (hl : H l = some (.lst xs)) (hx : ∀ x ∈ xs, ∃ a, x = .ref a) (e : But l H H') : RuleAt H0 H' v r := by
  obtain ⟨t, g, h1, h2, h3, h4, h5⟩ := h
  refine ⟨t, g, h1, e _ _ (fun q => by rw [q, hl] at h2; cases h2) h2, e _ _ (fun q => ?_) h3, h4, h5⟩
  rw [q, hl] at h3
  have e3 : xs = r.gs.map V.str := by
    have z := Option.some.inj h3
    cases z
    rfl
  cases hg : r.gs with
  | nil => exact h4 hg
  | cons a b =>
    obtain ⟨c, hc⟩ := hx (.str a) (by rw [e3, hg]; exact List.mem_cons_self)
    cases hc
def RulesAt (H0 H : Hp) (xs : List V) (rs : List Rul) : Prop := Paired (RuleAt H0 H) xs rs
theorem paired_map {α β : Type} {R S : α → β → Prop} (f : ∀ a b, R a b → S a b) : ∀ {xs : List α} {ys : List β}, Paired R xs ys → Paired S xs ys
  | _, _, .nil => .nil
  | _, _, .cons h t => .cons (f _ _ h) (paired_map f t)
theorem paired_snoc {α β : Type} {R : α → β → Prop} {a : α} {b : β} (h : R a b) : ∀ {xs : List α} {ys : List β}, Paired R xs ys → Paired R (xs ++ [a]) (ys ++ [b])
  | _, _, .nil => .cons h .nil
  | _, _, .cons h' t => .cons h' (paired_snoc h t)
theorem rules_refs {H0 H : Hp} : ∀ {xs : List V} {rs : List Rul}, RulesAt H0 H xs rs → ∀ x ∈ xs, ∃ a, x = .ref a
  | _, _, .nil, _, h => nomatch h
  | _, _, .cons h t, x, hx => by
    rcases List.mem_cons.mp hx with q | q
    · obtain ⟨a, g, e, _⟩ := h
      exact ⟨a, q.trans e⟩
    · exact rules_refs t x q
/-- what _law_rules makes: the first rule is of the first state and has none; the states are names, each once -/
structure RulesOk (zs : List Str) (r0 : Rul) (rs : List Rul) : Prop where
  name : ∀ z ∈ zs, IsName z
  nd : zs.Nodup
  head : RuleOk zs true r0
  at0 : zs[0]? = some r0.st
  all : ∀ r ∈ rs, RuleOk zs false r
def spRules : Sp := fun vs H Q _ => ∃ (p : Addr) (m most : Nat) (n : Int), vs = [.ref p, .int m, .int most] ∧ Src H p n ∧ 1 ≤ m ∧ m ≤ 16 ∧ 1 ≤ most ∧ most ≤ 100 ∧ n < 100000 ∧
  ∀ (l : Addr) (xs : List V) (zs : List Str) (r0 : Rul) (rs : List Rul) (H' : Hp), RulesOk zs r0 rs → zs.length ≤ m → rs.length < most → RulesAt H H' xs (r0 :: rs) → H l = none → H' l = some (.lst xs) → But p H H' → Src H' p (n + 10000) → Q (.ref l) H'
theorem rules_same {H0 H H' : Hp} {xs : List V} {rs : List Rul} (h : RulesAt H0 H xs rs) (e : Same H H') : RulesAt H0 H' xs rs := paired_map (fun _ _ h => h.same e) h
theorem rules_src {H0 H H' : Hp} {p : Addr} {n : Int} {xs : List V} {rs : List Rul} (h : RulesAt H0 H xs rs) (S : Src H p n) (e : But p H H') : RulesAt H0 H' xs rs := paired_map (fun _ _ h => h.src S e) h
theorem rules_lst {H0 H H' : Hp} {l : Addr} {ys xs : List V} {rs : List Rul} (h : RulesAt H0 H xs rs) (hl : H l = some (.lst ys)) (hx : ∀ x ∈ ys, ∃ a, x = .ref a) (e : But l H H') : RulesAt H0 H' xs rs := paired_map (fun _ _ h => h.lst hl hx e) h
/-! ### _law_states -/
def addS (acc : List Str) (z : Str) : List Str := if z ∈ acc then acc else acc ++ [z]
def statesOf (rs : List Rul) : List Str := rs.foldl (fun acc r => addS (addS acc r.st) r.nx) []
theorem states_more {rs : List Rul} {i : Nat} {r : Rul} (h : rs[i]? = some r) : statesOf (rs.take (i + 1)) = addS (addS (statesOf (rs.take i)) r.st) r.nx := by
  unfold statesOf
  rw [take_more h, List.foldl_append]
  rfl
theorem addS_len (acc : List Str) (z : Str) : (addS acc z).length ≤ acc.length + 1 := by
  unfold addS
  split
  · omega
  · rw [List.length_append]
    exact Nat.le_refl _
theorem states_len : ∀ (rs : List Rul), (statesOf rs).length ≤ 2 * rs.length := by
  have key : ∀ (rs : List Rul) (acc : List Str), (rs.foldl (fun acc r => addS (addS acc r.st) r.nx) acc).length ≤ acc.length + 2 * rs.length := by
    intro rs
    induction rs with
    | nil => intro acc; exact Nat.le_refl _
    | cons r rs ih =>
      intro acc
      rw [List.foldl_cons, List.length_cons]
      have h1 := ih (addS (addS acc r.st) r.nx)
      have h2 := addS_len acc r.st
      have h3 := addS_len (addS acc r.st) r.nx
      omega
  intro rs
  have := key rs []
  rw [List.length_nil] at this
  unfold statesOf
  omega
theorem paired_at {α β : Type} {R : α → β → Prop} : ∀ {xs : List α} {ys : List β}, Paired R xs ys → ∀ {i : Nat} {x : α}, xs[i]? = some x → ∃ y, ys[i]? = some y ∧ R x y
  | _, _, .nil, i, x, h => nomatch h
  | _, _, .cons (b := b) h t, 0, x, hx => ⟨b, rfl, by rw [← Option.some.inj hx]; exact h⟩
  | _, _, .cons h t, i + 1, x, hx => paired_at t (i := i) hx
def spStates (K : PySem.W.Frag) : Sp := fun vs H Q _ => ∃ (l : Addr) (xs : List V) (rs : List Rul) (H0 : Hp), vs = [.ref l] ∧ SqL K H l xs ∧ RulesAt H0 H xs rs ∧ rs.length ≤ 1000 ∧
  ∀ (p : Addr) (H' : Hp), H p = none → Same H H' → H' p = some (.lst ((statesOf rs).map V.str)) → Q (.ref p) H'
/-! ### is_name -/
def nameB (z : Str) : Bool := decide (1 ≤ z.cps.size) && decide (z.cps.size ≤ 8) && z.cps.toList.all fun c => decide (c ∈ (Str.ofString "abcdefghijklmnopqrstuvwxyz").cps.toList)
theorem lettersC : (Str.ofString "abcdefghijklmnopqrstuvwxyz").cps.toList = (List.range 26).map (97 + ·) := by decide +kernel
theorem letter_small {c : Nat} : c ∈ (Str.ofString "abcdefghijklmnopqrstuvwxyz").cps.toList ↔ small c := by
  rw [lettersC, List.mem_map]
  constructor
  · rintro ⟨k, hk, rfl⟩
    have := List.mem_range.mp hk
    exact ⟨by omega, by omega⟩
  · intro h
    exact ⟨c - 97, List.mem_range.mpr (by have := h.2; have := h.1; omega), by have := h.1; omega⟩
theorem nameB_iff {z : Str} : nameB z = true ↔ IsName z := by
  unfold nameB
  rw [Bool.and_eq_true, Bool.and_eq_true, decide_eq_true_eq, decide_eq_true_eq, List.all_eq_true]
  constructor
  · rintro ⟨⟨h1, h2⟩, h3⟩
    exact ⟨h1, h2, fun c hc => letter_small.mp (of_decide_eq_true (h3 c hc))⟩
  · intro h
    exact ⟨⟨h.pos, h.len⟩, fun c hc => decide_eq_true (letter_small.mpr (h.low c hc))⟩
def spIsName (K : PySem.W.Frag) : Sp := fun vs H Q _ => ∃ v : V, vs = [v] ∧ ((∃ z : Str, v = .str z ∧ z.length ≤ sizeLine ∧ ∀ H', Same H H' → Q (.bl (nameB z)) H') ∨ (∃ t : String, TyX K H v (.type t) ∧ kitB t "str" = some false) ∧ Q (.bl false) H)
/-! ### a def that makes lambdas: its code object is known -/
structure FunC (K : PySem.W.Frag) (x qual : Str) (st : Stmt) (f : Addr) (fd : FuncData) (c : Addr) : Prop where
  ex : ∃ (oc : Value) (od : Option Addr) (kV doc pm : Value) (an : Option Addr) (ct : Value) (osl : Array (Option Value)),
    fd = PySem.W.fnOf x qual (defArgs st) (defBody st) (defScope st) .none kV doc pm an (.ref c) ct ∧ K.lookup f = some ⟨oc, od, .func fd, osl⟩ ∧ PySem.W.codeIn K (.ref c) qual = true
theorem FunC.ok {P : Program} {w : World} {K : PySem.W.Frag} {mg : Str → Option Value} {base : Heap} {x qual : Str} {st : Stmt} {f c : Addr} {fd : FuncData} {N ps : List Str} {k : Nat} {sp : Sp} (F : FunC K x qual st f fd c) (S : FnScope N ps (defScope st)) (len : ∀ vs H Q E, sp vs H Q E → vs.length = ps.length)
    (hbody : ∀ (A : Around) (outer : List Env) (s : Shared) (H : Hp) (vs : List V) (Q : VK) (E : XK), Room k (A.deeper (PyProof.Rows.envOfC qual (defScope st) s.heap.objs.size f (.ref c))) → sp vs H Q E →
      ∃ t, PSs (cxOf CX0 P w K mg base N qual (defScope st) f (.ref c) A outer s H E).nox (defBody st) t ∧ t { nx := fun _ H' => Q .non H', rt := Q } (L2.start N vs) H) : FnOk P w K mg base CX0 (k + 1) f fd ps sp := by
  obtain ⟨oc, od, kV, doc, pm, an, ct, osl, rfl, lk, hcd⟩ := F.ex
  refine fn_of lk hcd S len fun A outer s H vs Q E hr hsp => ?_
  obtain ⟨t, h, q⟩ := hbody A outer s H vs Q E hr hsp
  exact ⟨t, h.nox, q⟩
/-- x(lambda: body), x a def of the text -/
theorem pe_lamF {X : Cx} {T : List (Addr × Str)} {TT : (XK → Hp → VK → Prop) → Hp → VK → Prop} {x a : Str} {g c P : Addr} {k : Nat} {st : Stmt} {fd : FuncData} {Ng : List Str} {params : Arguments} {body : Expr} {scope : Scope} {t : XK → TE} {p lpos pos : Pos}
    (F : Fun X.K x x st g fd) (b : Binds X.K fd [a] []) (hg : Gl X x) (hm : X.mg x = some (.ref g)) (Sg : FnScope Ng [a] (defScope st)) (hNg : Ng[0]? = some a) (hva : Vis (defScope st) a)
    (hG : ∀ cdg : Value, LamX.GivesTo X Ng x (defScope st) g cdg (defBody st) a (X.env.qual ++ "<lambda>") TT)
    (TB : LamX.TabB X.base X.mg c P) (hcode : X.env.code = .ref c) (hmT : (P, X.env.qual ++ "<lambda>") ∈ T) (hu : ∀ p ∈ T, p.1 = P → p.2 = X.env.qual ++ "<lambda>") (hr : Room (k + 2) X.A) (L : LamX.LamS X.env.scope scope) (hdef : defaultsOf params X.env = ([], []))
    (hbind : ∀ (q : Str) (cl : List (Str × Addr)) (pm cv ctv : Value), bindArgs (PySem.W.kla_fn "<lambda>" q params body scope cl pm cv ctv) ⟨[], []⟩ = pure [])
    (hbody : ∀ (A : Around) (outer : List Env) (s : Shared) (H : Hp) (E : XK) (f c' : Addr), Room k (A.deeper (LamX.lamEnv X scope s.heap.objs.size f c')) → PE (LamX.lamCx X A outer s H E scope f c') body (t E))
    (hdb : (x == ("__debug__" : Str)) = false := by decide) (hd : (a == ("__debug__" : Str)) = false := by decide) (hcd : (a == ("__classdict__" : Str)) = false := by decide) :
    PE X (.Call (.Name x p) [.Lambda params body scope lpos] [] pos) (LamX.tLam T TT t) := by
  obtain ⟨oc, od, kV, doc, pm, an, cdv, ct, osl, rfl, lk, hcg⟩ := F.ex
  exact LamX.pe_lamcall hg hm F.kp lk hcg b Sg hNg hva (hG cdv) TB hcode hmT hu hr L hdef hbind hbody hdb hd hcd
theorem takes_len {X : Cx} {W : WX} (t : Takes X W) : Takes X (fun cls d σ H => σ.length = X.N.length → W cls d σ H) := fun u s' ⟨a, B, sI, pins, σ, H, cls, d, e, I, nb, up, sky, na, os, ag, w⟩ =>
  t u s' ⟨a, B, sI, pins, σ, H, cls, d, e, I, nb, up, sky, na, os, ag, w I.len⟩
/-- tables stay where all but a list at p stays -/
theorem tabs_but {T : List (Addr × Str)} {p : Addr} {xs : List V} {H H' : Hp} (t : LamX.Tabs T H) (e : But p H H') (hp : H p = some (.lst xs)) : LamX.Tabs T H' := fun q hq => by
  obtain ⟨ps, h1, h2, h3⟩ := t q hq
  refine ⟨ps, e _ _ (fun z => by rw [z, hp] at h1; cases h1) h1, h2, fun pos cv hc => ?_⟩
  obtain ⟨c, e1, e2⟩ := h3 pos cv hc
  exact ⟨c, e1, e _ _ (fun z => by rw [z, hp] at e2; unfold LamX.CodeO at e2; cases e2) e2⟩
theorem tabs_same {T : List (Addr × Str)} {H H' : Hp} (t : LamX.Tabs T H) (e : Same H H') : LamX.Tabs T H' := t.ext e
theorem Src.ext {H H' : Hp} {p : Addr} {n : Int} (h : Src H p n) (e : LamX.ExtN H H') : Src H' p n := by
  obtain ⟨g, s, c, h, q⟩ := h
  exact ⟨g, s, c, e _ _ h (fun ps z => by cases z), q⟩
theorem Src.at {H : Hp} {p : Addr} {n : Int} (h : Src H p n) : ∃ xs, H p = some (.lst xs) := by
  obtain ⟨g, s, c, h, q⟩ := h
  exact ⟨_, h⟩
/-! ### loops: _is_rule, _checked_rules, _checked_answers, _used_rules, Loop -/
theorem sameT {K : PySem.W.Frag} {H H' : Hp} {a : Addr} {xs : List V} (e : Same H H') (h : SqT K H a xs) : SqT K H' a xs := by
  rcases h with (h | ⟨o, h⟩) | h
  · exact .inl (.inl (e _ _ h))
  · exact .inl (.inr ⟨o, e _ _ h⟩)
  · exact .inr h
def gSeqU (K : PySem.W.Frag) (n : Nat) (t : TGs) : TG := fun v σ H Q => gTup K n t v σ H Q ∨ gUnl K n t v σ H Q
theorem pg_seqU {X : Cx} {es : List Expr} {k : Nat} {pos : Pos} {t : TGs} {n : Nat} (hc : X.calm = true) (h : PGs X es t)
    (hn : (assignEach es X.env).length = n := by rfl) (hst : (assignEach es X.env).findIdx? (·.1) = none := by rfl) : PG X (.Tuple es k pos) (gSeqU X.K n t) :=
  ⟨fun pins s σ H v u Q I r hw => hw.elim (fun hw => (pg_tup hc h hn hst).run pins s σ H v u Q I r hw) (fun hw => (pg_unl hc h hn hst).run pins s σ H v u Q I r hw)⟩
theorem IsName.line {z : Str} (h : IsName z) : z.length ≤ sizeLine := Nat.le_trans h.len (by decide)
/-- a rule that has the form of one -/
structure RulV (r : Rul) : Prop where
  st : IsName r.st
  wd : IsName r.wd
  nx : IsName r.nx
  ne : r.gs ≠ []
  len : r.gs.length ≤ 1000
  gs : ∀ g ∈ r.gs, grpB g = true
theorem RulV.grp {r : Rul} (h : RulV r) : (!r.gs.isEmpty && r.gs.all grpB) = true := by
  rw [List.all_eq_true.mpr h.gs]
  cases e : r.gs with
  | nil => exact absurd e h.ne
  | cons a b => rfl
/-- a tuple or list that tells a rule, its groups a tuple or list -/
def RuleIn (H : Hp) (v : V) (r : Rul) : Prop := ∃ t g : Addr, v = .ref t ∧ LT H t [.str r.st, .ref g, .str r.wd, .bl r.kp, .str r.nx] ∧ LT H g (r.gs.map V.str)
theorem RuleIn.same {H H' : Hp} {v : V} {r : Rul} (h : RuleIn H v r) (e : Same H H') : RuleIn H' v r := by
  obtain ⟨t, g, h1, h2, h3⟩ := h
  exact ⟨t, g, h1, h2.same e, h3.same e⟩
theorem RuleAt.ruleIn {H0 H : Hp} {v : V} {r : Rul} (h : RuleAt H0 H v r) : RuleIn H v r := by
  obtain ⟨t, g, h1, h2, h3, _⟩ := h
  exact ⟨t, g, h1, .inr h2, .inl h3⟩
/-- a tuple that tells a rule, its groups a tuple -/
def RuleT (H : Hp) (v : V) (r : Rul) : Prop := ∃ t g : Addr, v = .ref t ∧ H t = some (.tup [.str r.st, .ref g, .str r.wd, .bl r.kp, .str r.nx]) ∧ H g = some (.tup (r.gs.map V.str))
theorem RuleT.same {H H' : Hp} {v : V} {r : Rul} (h : RuleT H v r) (e : Same H H') : RuleT H' v r := by
  obtain ⟨t, g, h1, h2, h3⟩ := h
  exact ⟨t, g, h1, e _ _ h2, e _ _ h3⟩
theorem RuleT.but {l : Addr} {H H' : Hp} {v : V} {r : Rul} (h : RuleT H v r) (hl : ∀ ys, H l ≠ some (.tup ys)) (e : But l H H') : RuleT H' v r := by
  obtain ⟨t, g, h1, h2, h3⟩ := h
  exact ⟨t, g, h1, e _ _ (fun q => hl _ (q ▸ h2)) h2, e _ _ (fun q => hl _ (q ▸ h3)) h3⟩
theorem RuleT.ruleIn {H : Hp} {v : V} {r : Rul} (h : RuleT H v r) : RuleIn H v r := by
  obtain ⟨t, g, h1, h2, h3⟩ := h
  exact ⟨t, g, h1, .inr h2, .inr h3⟩
def RulesIn (H : Hp) (xs : List V) (rs : List Rul) : Prop := Paired (RuleIn H) xs rs
def RulesT (H : Hp) (xs : List V) (rs : List Rul) : Prop := Paired (RuleT H) xs rs
def spIsRule : Sp := fun vs H Q _ => ∃ (v : V) (r : Rul), vs = [v] ∧ RuleIn H v r ∧ RulV r ∧ ∀ H', Same H H' → Q (.bl true) H'
structure RulsV (rs : List Rul) : Prop where
  all : ∀ r ∈ rs, RulV r
  pos : 1 ≤ rs.length
  len : rs.length ≤ 40
  sts : (statesOf rs).length ≤ 6
theorem addS_ge (acc : List Str) (z : Str) : acc.length ≤ (addS acc z).length := by
  unfold addS
  split
  · exact Nat.le_refl _
  · rw [List.length_append]
    exact Nat.le_add_right _ _
theorem states_fold_ge : ∀ (rs : List Rul) (acc : List Str), acc.length ≤ (rs.foldl (fun acc r => addS (addS acc r.st) r.nx) acc).length
  | [], _ => Nat.le_refl _
  | r :: rs, acc => by
    rw [List.foldl_cons]
    exact Nat.le_trans (Nat.le_trans (addS_ge acc r.st) (addS_ge _ r.nx)) (states_fold_ge rs _)
theorem states_mono (rs : List Rul) (i : Nat) : (statesOf (rs.take i)).length ≤ (statesOf rs).length := by
  have h := states_fold_ge (rs.drop i) (statesOf (rs.take i))
  have e : statesOf rs = (rs.drop i).foldl (fun acc r => addS (addS acc r.st) r.nx) (statesOf (rs.take i)) := by
    unfold statesOf
    rw [← List.foldl_append, List.take_append_drop]
  rw [e]
  exact h
/-- a dict of these keys, all True -/
def trues (l : List Str) : List (Key × V) := l.map fun z => (Sum.inr z, V.bl true)
theorem trues_put (l : List Str) (z : Str) : putK (trues l) (Sum.inr z : Key) (V.bl true) = trues (addS l z) := by
  have hany : ((trues l).any fun kv => decide (kv.1 = (Sum.inr z : Key))) = decide (z ∈ l) := by
    unfold trues
    rw [List.any_map, Bool.eq_iff_iff, List.any_eq_true, decide_eq_true_eq]
    constructor
    · rintro ⟨x, hx, h⟩
      have h : (Sum.inr x : Key) = Sum.inr z := of_decide_eq_true h
      cases h
      exact hx
    · intro h
      exact ⟨z, h, decide_eq_true rfl⟩
  unfold putK addS
  rw [hany]
  by_cases h : z ∈ l
  · rw [if_pos (decide_eq_true h), if_pos h]
    unfold trues
    rw [List.map_map]
    refine List.map_congr_left fun x hx => ?_
    show (if (Sum.inr x : Key) = Sum.inr z then ((Sum.inr x : Key), V.bl true) else (Sum.inr x, V.bl true)) = (Sum.inr x, V.bl true)
    split <;> rfl
  · rw [if_neg (by rw [decide_eq_false h]; exact Bool.false_ne_true), if_neg h]
    unfold trues
    rw [List.map_append]
    rfl
theorem trues_keys (l : List Str) : ((trues l).map fun kv => kV kv.1) = l.map V.str := by
  unfold trues
  rw [List.map_map]
  rfl
def spCheckedRules (K : PySem.W.Frag) : Sp := fun vs H Q _ => ∃ (b : Bool) (l : Addr) (xs : List V) (rs : List Rul), vs = [.ref l] ∧ SqB K b H l xs ∧ RulesIn H xs rs ∧ RulsV rs ∧
  ∀ (p c s : Addr) (ys : List V) (H' : Hp), Same H H' → H' p = some (.tup [.ref c, .ref s]) → H' c = some (.tup ys) → RulesT H' ys rs → H' s = some (.tup ((statesOf rs).map V.str)) → Q (.ref p) H'
theorem SqB.same {K : PySem.W.Frag} {b : Bool} {H H' : Hp} {a : Addr} {xs : List V} (h : SqB K b H a xs) (e : Same H H') : SqB K b H' a xs := by
  cases b with
  | true => exact e.seq h
  | false => exact sameT e h
/-- what the top has written: each def at its address, the built-ins not hidden -/
structure Txt (P : Program) (w : World) (K : PySem.W.Frag) (mg : Str → Option Value) where
  C_Loop : Addr
  m_Loop : mg "Loop" = some (.ref C_Loop)
  cl_Loop : Cls K C_Loop
  na_Loop_rules : NoAttr K C_Loop "_rules"
  na_Loop_states : NoAttr K C_Loop "_states"
  na_Loop_answers : NoAttr K C_Loop "_answers"
  na_Loop_used : NoAttr K C_Loop "_used"
  f_Loop__init : Addr
  d_Loop__init : FuncData
  F_Loop__init : FunD K "__init__" "Loop.__init__" (defArgs s_Loop__init) (defBody s_Loop__init) (defScope s_Loop__init) [.non] [] f_Loop__init d_Loop__init
  b_Loop__init : Binds K d_Loop__init ["self", "rules", "answers"] []
  bd1_Loop__init : ∃ ds, Vals [.non] ds ∧ Binds K d_Loop__init ["self", "rules", "answers"] ds
  mk_Loop : Mk K C_Loop f_Loop__init
  f_Loop_states : Addr
  d_Loop_states : FuncData
  F_Loop_states : Fun K "states" "Loop.states" s_Loop_states f_Loop_states d_Loop_states
  b_Loop_states : Binds K d_Loop_states ["self"] []
  p_Loop_states : Addr
  pr_Loop_states : PropOf K C_Loop "states" p_Loop_states f_Loop_states
  f_Loop_fitting : Addr
  d_Loop_fitting : FuncData
  F_Loop_fitting : Fun K "fitting" "Loop.fitting" s_Loop_fitting f_Loop_fitting d_Loop_fitting
  b_Loop_fitting : Binds K d_Loop_fitting ["self", "state", "place"] []
  mt_Loop_fitting : Meth K C_Loop "fitting" f_Loop_fitting
  t_LETTERS : Tok
  m_LETTERS : mg "LETTERS" = some (.str "abcdefghijklmnopqrstuvwxyz" t_LETTERS)
  t_MOST_RULES : Tok
  m_MOST_RULES : mg "MOST_RULES" = some (.int 40 t_MOST_RULES)
  t_MOST_STATES : Tok
  m_MOST_STATES : mg "MOST_STATES" = some (.int 6 t_MOST_STATES)
  f_is_name : Addr
  d_is_name : FuncData
  F_is_name : Fun K "is_name" "is_name" s_is_name f_is_name d_is_name
  b_is_name : Binds K d_is_name ["thing"] []
  m_is_name : mg "is_name" = some (.ref f_is_name)
  f_is_place : Addr
  d_is_place : FuncData
  F_is_place : Fun K "is_place" "is_place" s_is_place f_is_place d_is_place
  b_is_place : Binds K d_is_place ["thing"] []
  m_is_place : mg "is_place" = some (.ref f_is_place)
  f_is_group : Addr
  d_is_group : FuncData
  F_is_group : Fun K "is_group" "is_group" s_is_group f_is_group d_is_group
  b_is_group : Binds K d_is_group ["thing"] []
  m_is_group : mg "is_group" = some (.ref f_is_group)
  f_are_groups : Addr
  d_are_groups : FuncData
  F_are_groups : Fun K "are_groups" "are_groups" s_are_groups f_are_groups d_are_groups
  b_are_groups : Binds K d_are_groups ["things"] []
  m_are_groups : mg "are_groups" = some (.ref f_are_groups)
  f_group : Addr
  d_group : FuncData
  F_group : Fun K "group" "group" s_group f_group d_group
  b_group : Binds K d_group ["name"] []
  m_group : mg "group" = some (.ref f_group)
  f_is_rule : Addr
  d_is_rule : FuncData
  F_is_rule : Fun K "_is_rule" "_is_rule" s_is_rule f_is_rule d_is_rule
  b_is_rule : Binds K d_is_rule ["thing"] []
  m_is_rule : mg "_is_rule" = some (.ref f_is_rule)
  f_checked_rules : Addr
  d_checked_rules : FuncData
  F_checked_rules : Fun K "_checked_rules" "_checked_rules" s_checked_rules f_checked_rules d_checked_rules
  b_checked_rules : Binds K d_checked_rules ["rules"] []
  m_checked_rules : mg "_checked_rules" = some (.ref f_checked_rules)
  f_is_answer : Addr
  d_is_answer : FuncData
  F_is_answer : Fun K "_is_answer" "_is_answer" s_is_answer f_is_answer d_is_answer
  b_is_answer : Binds K d_is_answer ["thing"] []
  m_is_answer : mg "_is_answer" = some (.ref f_is_answer)
  f_checked_answers : Addr
  d_checked_answers : FuncData
  F_checked_answers : Fun K "_checked_answers" "_checked_answers" s_checked_answers f_checked_answers d_checked_answers
  b_checked_answers : Binds K d_checked_answers ["states", "answers"] []
  m_checked_answers : mg "_checked_answers" = some (.ref f_checked_answers)
  f_used_rules : Addr
  d_used_rules : FuncData
  F_used_rules : Fun K "_used_rules" "_used_rules" s_used_rules f_used_rules d_used_rules
  b_used_rules : Binds K d_used_rules ["rules"] []
  m_used_rules : mg "_used_rules" = some (.ref f_used_rules)
  f_law_source : Addr
  d_law_source : FuncData
  F_law_source : Fun K "_law_source" "_law_source" s_law_source f_law_source d_law_source
  b_law_source : Binds K d_law_source ["_law_script"] []
  m_law_source : mg "_law_source" = some (.ref f_law_source)
  f_law_draw : Addr
  d_law_draw : FuncData
  F_law_draw : Fun K "_law_draw" "_law_draw" s_law_draw f_law_draw d_law_draw
  b_law_draw : Binds K d_law_draw ["_law_source_here", "_law_many"] []
  m_law_draw : mg "_law_draw" = some (.ref f_law_draw)
  f_law_pick : Addr
  d_law_pick : FuncData
  F_law_pick : Fun K "_law_pick" "_law_pick" s_law_pick f_law_pick d_law_pick
  b_law_pick : Binds K d_law_pick ["_law_source_here", "_law_things"] []
  m_law_pick : mg "_law_pick" = some (.ref f_law_pick)
  f_law_name : Addr
  d_law_name : FuncData
  F_law_name : Fun K "_law_name" "_law_name" s_law_name f_law_name d_law_name
  b_law_name : Binds K d_law_name ["_law_source_here", "_law_taken"] []
  m_law_name : mg "_law_name" = some (.ref f_law_name)
  f_law_names : Addr
  d_law_names : FuncData
  F_law_names : Fun K "_law_names" "_law_names" s_law_names f_law_names d_law_names
  b_law_names : Binds K d_law_names ["_law_source_here", "_law_many"] []
  m_law_names : mg "_law_names" = some (.ref f_law_names)
  f_law_places : Addr
  d_law_places : FuncData
  F_law_places : Fun K "_law_places" "_law_places" s_law_places f_law_places d_law_places
  b_law_places : Binds K d_law_places [] []
  m_law_places : mg "_law_places" = some (.ref f_law_places)
  f_law_group : Addr
  d_law_group : FuncData
  F_law_group : Fun K "_law_group" "_law_group" s_law_group f_law_group d_law_group
  b_law_group : Binds K d_law_group ["_law_name_here"] []
  m_law_group : mg "_law_group" = some (.ref f_law_group)
  f_law_group_names : Addr
  d_law_group_names : FuncData
  F_law_group_names : Fun K "_law_group_names" "_law_group_names" s_law_group_names f_law_group_names d_law_group_names
  b_law_group_names : Binds K d_law_group_names [] []
  m_law_group_names : mg "_law_group_names" = some (.ref f_law_group_names)
  f_law_groups : Addr
  d_law_groups : FuncData
  F_law_groups : Fun K "_law_groups" "_law_groups" s_law_groups f_law_groups d_law_groups
  b_law_groups : Binds K d_law_groups ["_law_source_here", "_law_first_here"] []
  m_law_groups : mg "_law_groups" = some (.ref f_law_groups)
  f_law_rules : Addr
  d_law_rules : FuncData
  F_law_rules : Fun K "_law_rules" "_law_rules" s_law_rules f_law_rules d_law_rules
  b_law_rules : Binds K d_law_rules ["_law_source_here", "_law_many", "_law_most"] []
  m_law_rules : mg "_law_rules" = some (.ref f_law_rules)
  f_law_states : Addr
  d_law_states : FuncData
  F_law_states : Fun K "_law_states" "_law_states" s_law_states f_law_states d_law_states
  b_law_states : Binds K d_law_states ["_law_rules_here"] []
  m_law_states : mg "_law_states" = some (.ref f_law_states)
  f_law_first : Addr
  d_law_first : FuncData
  F_law_first : Fun K "_law_first" "_law_first" s_law_first f_law_first d_law_first
  b_law_first : Binds K d_law_first ["_law_rules_here", "_law_state", "_law_where"] []
  m_law_first : mg "_law_first" = some (.ref f_law_first)
  f_law_tried : Addr
  d_law_tried : FuncData
  F_law_tried : Fun K "_law_tried" "_law_tried" s_law_tried f_law_tried d_law_tried
  b_law_tried : Binds K d_law_tried ["_law_work"] []
  m_law_tried : mg "_law_tried" = some (.ref f_law_tried)
  f_law : Addr
  d_law : FuncData
  F_law : Fun K "law" "law" s_law f_law d_law
  b_law : Binds K d_law ["_law_script"] []
  m_law : mg "law" = some (.ref f_law)
  m_int : mg "int" = none
  m_str : mg "str" = none
  m_bool : mg "bool" = none
  m_range : mg "range" = none
  m_len : mg "len" = none
  m_isinstance : mg "isinstance" = none
  m_all : mg "all" = none
  m_any : mg "any" = none
  m_list : mg "list" = none
  m_tuple : mg "tuple" = none
  m_enumerate : mg "enumerate" = none
  m_sorted : mg "sorted" = none
  a_GROUPS : Addr
  m_GROUPS : mg "GROUPS" = some (.ref a_GROUPS)
  e_GROUPS : Array DictEntry
  n_GROUPS : Nat
  kd_GROUPS : KDict K w a_GROUPS e_GROUPS n_GROUPS
  y_GROUPS : ∀ (j : Nat) (nm : Str) (ps : List Str), l_GROUPS[j]? = some (nm, ps) → ∃ u : Addr, PySem.W.nsIn K a_GROUPS nm = some (some (.ref u)) ∧ ∀ H : Hp, SqT K H u (ps.map V.str)
  z_GROUPS : ∀ z : Str, z ∉ l_GROUPS.map (·.1) → PySem.W.nsIn K a_GROUPS z = some none
  a_PLACES : Addr
  q_PLACES : ∀ H : Hp, SqT K H a_PLACES c_PLACES
  o_PLACES : ∃ o, K.lookup a_PLACES = some o ∧ o.cls = .type "tuple" ∧ o.dict = none
  m_PLACES : mg "PLACES" = some (.ref a_PLACES)
  c_law : Addr
  P_law : Addr
  G_law : FunC K "law" "law" s_law f_law d_law c_law
  C_BadGroup : Addr
  i_BadGroup : Addr
  er_BadGroup : PySem.SupX.ClsTxt P K mg C_BadGroup i_BadGroup "BadGroup"
  fn_BadGroup : PySem.SupX.FnTxt P K C_BadGroup i_BadGroup "group"
  xf_BadGroup : XfC K C_BadGroup
  te_BadGroup : PySem.W.exmOne K (.ref C_BadGroup) (.ref C_BadGroup) = some true
  C_UnknownState : Addr
  i_UnknownState : Addr
  er_UnknownState : PySem.SupX.ClsTxt P K mg C_UnknownState i_UnknownState "UnknownState"
  fn_UnknownState : PySem.SupX.FnTxt P K C_UnknownState i_UnknownState "state"
  xf_UnknownState : XfC K C_UnknownState
  te_UnknownState : PySem.W.exmOne K (.ref C_UnknownState) (.ref C_UnknownState) = some true
  ne_BU : PySem.W.exmOne K (.ref C_BadGroup) (.ref C_UnknownState) = some false

section
variable {P : Program} {w : World} {K : PySem.W.Frag} {mg : Str → Option Value} {base : Heap}
theorem ok_law_source (T : Txt P w K mg) : FnOk P w K mg base CX0 1 T.f_law_source T.d_law_source ["_law_script"] (spSource K) := by
  refine T.F_law_source.ok sc_law_source (fun vs H Q E h => ?_) (fun cdv A outer s H vs Q E hr h => ?_)
  · obtain ⟨a, ns, rfl, _⟩ := h
    rfl
  · obtain ⟨a, ns, rfl, hS, k⟩ := h
    refine ⟨_, (pss_cons (ps_asg (pe_tup (pa_cons pe_int (pa_cons pe_int pa_nil))) (pg_tup (by rfl) (pgs_cons (pg_name (i := 1) sc_law_source.nd rfl (Or.inl rfl)) (pgs_cons (pg_name (i := 2) sc_law_source.nd rfl (Or.inl rfl)) pgs_nil))))
      (pss_cons (ps_for PassesOwn.never rfl (pi_list (pv 0)) (pg_name (i := 3) sc_law_source.nd rfl (Or.inl rfl))
      (pss_cons (ps_if (PW.pt (pw_and (pt_cmpR op_eq (pv 1) pe_int (nomark _)) (pw_and1 (pt_cmpR op_ge (pv 3) (pe_op op_pow pe_int pe_int) (nomark _)))))
      (pss_one (ps_set (i := 1) sc_law_source.nd rfl (Or.inl rfl) (pv 3)))
      pss_nil)
      (pss_one (ps_set (i := 2) sc_law_source.nd rfl (Or.inl rfl) (pe_op op_mod (pe_callTy call_int1 (by rfl) T.m_int (by decide +kernel) (pa_cons (pe_op op_add (pe_op op_add (pe_op op_mul (pv 2) pe_int) (pv 3)) pe_int) pa_nil)) pe_int)))))
      (pss_one (ps_ret (pe_lst (pa_cons (pv 1) (pa_cons (pv 2) (pa_cons pe_int pa_nil)))))))), ?_⟩
    refine ⟨by decide, fun p hp => ?_⟩
    have s1 : Same H (upd H p (.tup [.int 0, .int 17])) := Same.new hp
    refine ⟨_, _, rfl, SqT.of upd_same, rfl, ?_⟩
    walk_at "rd"
    refine ⟨⟨_, s1.seq hS⟩, for_list (K := K) (a := a) (xs := ns.map V.int) (fun i σ H' => ∃ (g s : Int) (v : Option V), σ = [some (.ref a), some (.int g), some (.int s), v] ∧ 0 ≤ s ∧ s < 2147483647 ∧ Same H H')
      ⟨0, 17, none, rfl, by decide, by decide, s1⟩ (fun i σ H' _ ⟨_, _, _, _, _, _, z⟩ => z.seq hS) ?_ ?_⟩
    · rintro i y σ H' hi ⟨g, s, v, rfl, s0, s2, z⟩
      obtain ⟨u, rfl⟩ : ∃ u, y = V.int u := by
        rw [List.getElem?_map] at hi
        cases e : ns[i]? with
        | none => rw [e] at hi; cases hi
        | some u => rw [e] at hi; exact ⟨u, (Option.some.inj hi).symm⟩
      have fin : ∀ g' : Int, ∃ (g'' s'' : Int) (v'' : Option V), ([some (V.ref a), some (V.int g'), some (V.int ((s * 31 + u + 7) % 2147483647)), some (V.int u)] : St) = [some (.ref a), some (.int g''), some (.int s''), v''] ∧ 0 ≤ s'' ∧ s'' < 2147483647 ∧ Same H H' :=
        fun g' => ⟨g', _, _, rfl, Int.emod_nonneg _ (by decide), Int.emod_lt_of_pos _ (by decide), z⟩
      walk_at "rd"
      refine ifd (fun cg => ?_) (fun cg => ?_)
      · walk_at "rd"
        refine ⟨⟨by decide, by decide, by decide⟩, ?_⟩
        walk_at "rd"
        refine ifd (fun ch => ?_) (fun ch => ?_)
        · walk_at "rd"
          refine ⟨Or.inr ⟨by decide, by decide⟩, ?_⟩
          walk_at "rd"
          refine Or.inl ?_
          walk_at "rd"
          refine ⟨(by decide : (0 : Int) < 2147483647), ?_⟩
          exact fin u
        · walk_at "rd"
          refine ⟨Or.inr ⟨by decide, by decide⟩, ?_⟩
          walk_at "rd"
          refine Or.inl ?_
          walk_at "rd"
          refine ⟨(by decide : (0 : Int) < 2147483647), ?_⟩
          exact fin g
      · walk_at "rd"
        refine ⟨Or.inr ⟨by decide, by decide⟩, ?_⟩
        walk_at "rd"
        refine Or.inl ?_
        walk_at "rd"
        refine ⟨(by decide : (0 : Int) < 2147483647), ?_⟩
        exact fin g
    · rintro σ H' ⟨g, s, v, rfl, s0, s2, z⟩
      walk_at "rd"
      refine ⟨by show 3 ≤ sizeLine; decide, fun p2 hp2 => ?_⟩
      exact k p2 _ (z.free hp2) (z.trans (Same.new hp2)) ⟨g, s, 0, upd_same, s0, s2, by decide, by decide⟩
theorem ok_law_draw (T : Txt P w K mg) : FnOk P w K mg base CX0 1 T.f_law_draw T.d_law_draw ["_law_source_here", "_law_many"] spDraw := by
  refine T.F_law_draw.ok sc_law_draw (fun vs H Q E h => ?_) (fun cdv A outer s H vs Q E hr h => ?_)
  · obtain ⟨p, m, n, rfl, _⟩ := h
    rfl
  · obtain ⟨p, m, n, rfl, S, hn, m0, m1, k⟩ := h
    refine ⟨_, (pss_cons (ps_asg (pe_op op_add (pe_ix ix_list (pv 0) pe_int (fun _ _ => rfl)) pe_int) (pg_sub (pv 0) pe_int set_list))
      (pss_cons (ps_if (pt_cmpR op_gt (pe_ix ix_list (pv 0) pe_int (fun _ _ => rfl)) pe_int (nomark _))
      (pss_cons (ps_set (i := 2) sc_law_draw.nd rfl (Or.inl rfl) (pe_op op_mod (pe_callTy call_int1 (by rfl) T.m_int (by decide +kernel) (pa_cons (pe_ix ix_list (pv 0) pe_int (fun _ _ => rfl)) pa_nil)) (pv 1)))
      (pss_cons (ps_asg (pe_op op_fdivW (pe_ix ix_list (pv 0) pe_int (fun _ _ => rfl)) (pv 1)) (pg_sub (pv 0) pe_int set_list))
      (pss_one (ps_ret (pv 2)))))
      pss_nil)
      (pss_cons (ps_set (i := 3) sc_law_draw.nd rfl (Or.inl rfl) (pe_op op_mod (pe_op op_pow (pe_op op_add (pe_ix ix_list (pv 0) pe_int (fun _ _ => rfl)) (pe_op op_mul pe_int (pe_ix ix_list (pv 0) pe_int (fun _ _ => rfl)))) pe_int) pe_int))
      (pss_one (ps_ret (pe_op op_mod (pe_op op_mod (pe_op op_pow (pe_op op_add (pe_op op_add (pe_op op_mul (pv 3) pe_int) (pe_op op_mul (pe_op op_mul pe_int (pe_ix ix_list (pv 0) pe_int (fun _ _ => rfl))) (pe_ix ix_list (pv 0) pe_int (fun _ _ => rfl)))) pe_int) pe_int) pe_int) (pv 1))))))), ?_⟩
    obtain ⟨g, s, c, hp, s0, s1, c0, c1⟩ := S
    walk_at "rd"
    refine ⟨_, _, _, _, rfl, rfl, SqL.of hp, rfl, ?_⟩
    walk_at "rd"
    refine ⟨_, _, _, _, rfl, rfl, hp, rfl, ?_⟩
    walk_at "rd"
    refine ifd (fun cg => ?_) (fun cg => ?_)
    · walk_at "rd"
      refine Or.inl ?_
      walk_at "rd"
      refine ⟨m0, ?_⟩
      walk_at "rd"
      refine ⟨wide_div (b := 64) m0 (by omega) (by decide) (by decide), ?_⟩
      walk_at "rd"
      exact k _ _ (Int.emod_nonneg g (by omega)) (Int.emod_lt_of_pos g m0) (((But.refl p H).upd).upd) ⟨g / m, s, c + 1, upd_same, s0, s1, by omega, by omega⟩
    · walk_at "rd"
      refine ⟨Or.inl ⟨by decide, by decide⟩, ?_⟩
      walk_at "rd"
      refine ⟨⟨by decide, by decide, by omega⟩, ?_⟩
      walk_at "rd"
      refine ⟨(by decide : (0 : Int) < 2147483629), ?_⟩
      have x0 := Int.emod_nonneg ((s + 7919 * (c + 1)) ^ Int.toNat 5) (by decide : (2147483629 : Int) ≠ 0)
      have x1 := Int.emod_lt_of_pos ((s + 7919 * (c + 1)) ^ Int.toNat 5) (by decide : (0 : Int) < 2147483629)
      walk_at "rd"
      refine ⟨Or.inr ⟨by decide, by decide⟩, ?_⟩
      walk_at "rd"
      refine ⟨Or.inl ⟨by decide, by decide⟩, ?_⟩
      walk_at "rd"
      refine ⟨Or.inr ⟨by omega, by omega⟩, ?_⟩
      walk_at "rd"
      refine ⟨draw_pow x0 x1 (by omega) (by omega), ?_⟩
      walk_at "rd"
      refine ⟨(by decide : (0 : Int) < 1000000007), ?_⟩
      walk_at "rd"
      refine ⟨m0, ?_⟩
      exact k _ _ (Int.emod_nonneg _ (by omega)) (Int.emod_lt_of_pos _ m0) ((But.refl p H).upd) ⟨g, s, c + 1, upd_same, s0, s1, by omega, by omega⟩
theorem ok_law_pick (T : Txt P w K mg) : FnOk P w K mg base CX0 2 T.f_law_pick T.d_law_pick ["_law_source_here", "_law_things"] (spPick K) := by
  refine T.F_law_pick.ok sc_law_pick (fun vs H Q E h => ?_) (fun cdv A outer s H vs Q E hr h => ?_)
  · obtain ⟨p, l, xs, n, rfl, _⟩ := h
    rfl
  · obtain ⟨p, l, xs, n, rfl, S, hn, hne, hS, h0, h1, k⟩ := h
    refine ⟨_, (pss_one (ps_ret (pe_ix ix_list (pv 1) (pe_call (ok_law_draw T) (hr.mono (by decide)) (by rfl) T.m_law_draw T.F_law_draw.kp T.b_law_draw .nil pass0 (pa_cons (pv 0) (pa_cons (pe_callB call_len_seq (by rfl) T.m_len (by decide +kernel) (pa_cons (pv 1) pa_nil)) pa_nil))) (fun _ _ => rfl)))), ?_⟩
    walk_at "rd"
    refine ⟨_, _, rfl, .inl hS, ?_⟩
    refine ⟨_, _, _, rfl, S, hn, by omega, by omega, fun d H' a b u S' => ?_⟩
    obtain ⟨j, rfl⟩ : ∃ j : Nat, d = j := ⟨d.toNat, by omega⟩
    have hj : xs[j]? = some (xs[j]'(by omega)) := List.getElem?_eq_getElem _
    exact ⟨_, _, _, _, rfl, rfl, sql_but hS u hne, at_of (by omega) hj, k j _ _ hj u S'⟩
def sizesL : List Int := [8, 4, 5, 6, 7, 1, 2, 3, 1, 2, 3, 1, 2]
theorem sizes_ok : ∀ j : _root_.Fin 13, 1 ≤ sizesL.getD j.val 0 ∧ sizesL.getD j.val 0 ≤ 8 := by decide +kernel
theorem letter_ok : ∀ j : _root_.Fin 26, (Str.ofString "abcdefghijklmnopqrstuvwxyz").cps.toList[j.val]? = some (97 + j.val) := by decide +kernel
theorem zletter_ok : ∀ j : _root_.Fin 17, (Str.ofString "abcdefghijklmnopq").cps[j.val]? = some (97 + j.val) := by decide +kernel
theorem zletter_size : (Str.ofString "abcdefghijklmnopq").cps.size = 17 := by decide +kernel
theorem five_ok : ∀ z ∈ ([Str.ofString "keep", "pass", "none", "near", "answer"] : List Str), (decide (1 ≤ z.cps.size) && decide (z.cps.size ≤ 8) && z.cps.toList.all fun c => decide (97 ≤ c) && decide (c ≤ 122)) = true := by decide +kernel
theorem five_name {z : Str} (h : z ∈ ([Str.ofString "keep", "pass", "none", "near", "answer"] : List Str)) : IsName z := by
  have q := five_ok z h
  rw [Bool.and_eq_true, Bool.and_eq_true, List.all_eq_true] at q
  obtain ⟨⟨q1, q2⟩, q3⟩ := q
  refine ⟨of_decide_eq_true q1, of_decide_eq_true q2, fun c hc => ?_⟩
  have q := q3 c hc
  rw [Bool.and_eq_true] at q
  exact ⟨of_decide_eq_true q.1, of_decide_eq_true q.2⟩
theorem ok_law_name (T : Txt P w K mg) : FnOk P w K mg base CX0 2 T.f_law_name T.d_law_name ["_law_source_here", "_law_taken"] (spName K) := by
  refine T.F_law_name.ok sc_law_name (fun vs H Q E h => ?_) (fun cdv A outer s H vs Q E hr h => ?_)
  · obtain ⟨p, l, xs, n, rfl, _⟩ := h
    rfl
  · obtain ⟨p, l, tk, n, rfl, S, hn, hne, hS, hc, k⟩ := h
    refine ⟨_, (pss_cons (ps_set (i := 2) sc_law_name.nd rfl (Or.inl rfl) (pe_ix ix_list (pe_lst (pa_cons pe_int (pa_cons pe_int (pa_cons pe_int (pa_cons pe_int (pa_cons pe_int (pa_cons pe_int (pa_cons pe_int (pa_cons pe_int (pa_cons pe_int (pa_cons pe_int (pa_cons pe_int (pa_cons pe_int (pa_cons pe_int pa_nil)))))))))))))) (pe_call (ok_law_draw T) (hr.mono (by decide)) (by rfl) T.m_law_draw T.F_law_draw.kp T.b_law_draw .nil pass0 (pa_cons (pv 0) (pa_cons pe_int pa_nil))) (fun _ _ => rfl)))
      (pss_cons (ps_set (i := 3) sc_law_name.nd rfl (Or.inl rfl) (pe_join pe_str (pe_lc (own := [("_law_k", 4)]) (by rfl) sc_law_name.nd (pi_range1 (by rfl) T.m_range (pa_cons (pv 2) pa_nil)) (blkOk_by (own := [("_law_k", 4)]) (N := ["_law_source_here", "_law_taken", "_law_size", "_law_name_here", "_law_k", "_law_one", "_law_letter"]) (sc := defScope s_law_name) (by decide +kernel)) (fun _ _ _ _ _ => (pg_name (i := 4) sc_law_name.nd rfl (Or.inl rfl))) (fun _ _ _ _ _ => pts_nil) (fun _ _ _ _ _ => (pe_ix ix_str pe_str (pe_call (ok_law_draw T) (hr.mono (by decide)) (by rfl) T.m_law_draw T.F_law_draw.kp T.b_law_draw .nil pass0 (pa_cons (pv 0) (pa_cons pe_int pa_nil))) (fun _ _ => rfl))))))
      (C8.pss_cut (ps_if (pt_chain op_lt op_lt pe_int (pv 2) pe_int)
      (pss_one (ps_set (i := 3) sc_law_name.nd rfl (Or.inl rfl) (pe_ix ix_list (pe_lst (pa_cons pe_str (pa_cons pe_str (pa_cons pe_str (pa_cons pe_str (pa_cons pe_str (pa_cons (pe_op op_add_str pe_str (pe_slice sl_str (pv 3) (po_some pe_int) po_none)) pa_nil))))))) (pe_call (ok_law_draw T) (hr.mono (by decide)) (by rfl) T.m_law_draw T.F_law_draw.kp T.b_law_draw .nil pass0 (pa_cons (pv 0) (pa_cons pe_int pa_nil))) (fun _ _ => rfl))))
      pss_nil)
      (pss_cons (ps_if (pt_cmpR op_notIn_seq (pv 3) (pv 1) (by rfl))
      (pss_one (ps_ret (pv 3)))
      pss_nil)
      (pss_one (ps_ret (pe_ix ix_list (pe_lc (own := [("_law_one", 5)]) (by rfl) sc_law_name.nd (pi_list (pe_lc (own := [("_law_letter", 6)]) (by rfl) sc_law_name.nd (pi_str pe_str) (blkOk_by (own := [("_law_letter", 6)]) (N := ["_law_source_here", "_law_taken", "_law_size", "_law_name_here", "_law_k", "_law_one", "_law_letter"]) (sc := defScope s_law_name) (by decide +kernel)) (fun _ _ _ _ _ => (pg_name (i := 6) sc_law_name.nd rfl (Or.inl rfl))) (fun _ _ _ _ _ => pts_nil) (fun _ _ _ _ _ => (pe_op op_add_str pe_str (pv 6))))) (blkOk_by (own := [("_law_one", 5)]) (N := ["_law_source_here", "_law_taken", "_law_size", "_law_name_here", "_law_k", "_law_one", "_law_letter"]) (sc := defScope s_law_name) (by decide +kernel)) (fun _ _ _ _ _ => (pg_name (i := 5) sc_law_name.nd rfl (Or.inl rfl))) (fun _ _ _ _ _ => (pts_one (pt_cmpR (show OpR _ _ (rIn K true) from op_notIn_seq) (pv 5) (pv 1) (by rfl)))) (fun _ _ _ _ _ => (pv 5))) pe_int (fun _ _ => rfl)))))))), ?_⟩
    refine ⟨by show 13 ≤ sizeLine; decide, fun l0 hl0 => ?_⟩
    generalize hH : upd _ l0 _ = H1
    obtain ⟨s1, d1⟩ := new_of (o' := .lst (sizesL.map V.int)) hH hl0 rfl
    clear hH
    have pl : l0 ≠ p := S.ne hl0
    walk_at "rd"
    refine ⟨_, _, _, rfl, S.same s1, by omega, by omega, by omega, fun d H2 a b u2 S2 => ?_⟩
    obtain ⟨j, rfl⟩ : ∃ j : Nat, d = j := ⟨d.toNat, by omega⟩
    have hj : (sizesL.map V.int)[j]? = some (V.int (sizesL.getD j 0)) := by
      rw [List.getElem?_map, List.getElem?_eq_getElem (show j < sizesL.length by show j < 13; omega)]
      rw [List.getD_eq_getElem?_getD, List.getElem?_eq_getElem (show j < sizesL.length by show j < 13; omega)]
      rfl
    have sz := sizes_ok ⟨j, by omega⟩
    have sz1 : 1 ≤ sizesL.getD j 0 := sz.1
    have sz8 : sizesL.getD j 0 ≤ 8 := sz.2
    generalize sizesL.getD j 0 = sz at hj sz1 sz8
    refine ⟨_, _, _, _, rfl, rfl, SqL.of (u2 _ _ pl d1), at_of rfl hj, ?_⟩
    walk_at "rd"
    refine ⟨⟨_, rfl⟩, ?_⟩
    walk_at "rd"
    refine ⟨by omega, by omega, fun D hD => ?_⟩
    have pD : D ≠ p := S2.ne hD
    have u02 : But p H H2 := (Same.but s1).trans u2
    have hD0 : H D = none := but_free u02 pD hD
    refine lc_range (lo := 0) (n := sz.toNat) (fun i H' => ∃ cs : List Nat, cs.length = i ∧ (∀ c ∈ cs, small c) ∧ But p H H' ∧ H' D = some (.lst ((cs.map one).map V.str)) ∧ Src H' p (n + 1 + (i : Int)))
      ⟨[], rfl, (fun c hc => nomatch hc), but_new u02 hD0, upd_same, (S2.same (Same.new hD)).le (by omega)⟩ ?_ ?_
    · rintro i H' hi ⟨cs, rfl, hl, u', hD', S'⟩
      refine ⟨rfl, ?_⟩
      walk_at "rd"
      refine ⟨_, _, _, rfl, S', by omega, by omega, by omega, fun d' H4 a' b' u4 S4 => ?_⟩
      obtain ⟨j', rfl⟩ : ∃ j : Nat, d' = j := ⟨d'.toNat, by omega⟩
      have hl' := letter_ok ⟨j', by omega⟩
      refine ⟨_, _, _, rfl, rfl, by decide +kernel, at_any hl', ?_⟩
      refine ⟨_, u4 _ _ pD hD', ?_, ⟨cs ++ [97 + j'], by simp, ?_, ?_, ?_, ?_⟩⟩
      · rw [List.length_map, List.length_map]
        exact Nat.lt_of_lt_of_le (by omega : cs.length < 8) (by decide)
      · intro c hc
        rcases List.mem_append.mp hc with q | q
        · exact hl c q
        · have : c = 97 + j' := by simpa using q
          subst this
          exact ⟨by omega, by omega⟩
      · exact but_new (u'.trans u4) hD0
      · rw [upd_same, List.map_append, List.map_append]
        rfl
      · refine (S4.but (q := D) ?_ pD.symm).le ?_
        · exact (But.refl D _).upd
        · show _ ≤ n + 1 + ((cs.length + 1 : Nat) : Int)
          omega
    rintro H3 ⟨cs, hlen, hl, u3, hD3, S3⟩
    refine ⟨_, _, cs.map one, rfl, rfl, .inl (SqL.of hD3), ?_, ?_⟩
    · have e : ((cs.map one).map (·.length)).sum = cs.length := by
        clear hl hlen hD3
        induction cs with
        | nil => rfl
        | cons c r ih =>
          rw [List.map_cons, List.map_cons, List.sum_cons, ih, List.length_cons]
          show 1 + r.length = _
          omega
      rw [e]
      show cs.length + (cs.map one).length * 0 ≤ _
      omega
    rw [join_ones]
    have nm := name_of (cs := cs) (by omega) (by omega) hl
    generalize (⟨cs.toArray⟩ : Str) = z at nm
    have S3' := S3.le (show _ ≤ n + 9 by omega)
    clear S3 hD3 hl hlen
    walk_at "rd"
    have v456 : ∃ v4 v5 v6 : Option V, ([some (.ref p), some (.ref l), some (.int sz), some (.str z), none, none, none] : St) = [some (.ref p), some (.ref l), some (.int sz), some (.str z), v4, v5, v6] := ⟨_, _, _, rfl⟩
    refine ⟨fun σ H' => ∃ (y : Str) (v4 v5 v6 : Option V), σ = [some (.ref p), some (.ref l), some (.int sz), some (.str y), v4, v5, v6] ∧ IsName y ∧ But p H H' ∧ Src H' p (n + 10), ?_, ?_⟩
    · have stay : ∃ (y : Str) (v4 v5 v6 : Option V), ([some (.ref p), some (.ref l), some (.int sz), some (.str z), none, none, none] : St) = [some (.ref p), some (.ref l), some (.int sz), some (.str y), v4, v5, v6] ∧ IsName y ∧ But p H H3 ∧ Src H3 p (n + 10) :=
        ⟨z, none, none, none, rfl, nm, u3, S3'.le (by omega)⟩
      walk_at "rd"
      refine ifd (fun _ => ?_) (fun _ => ?_)
      · walk_at "rd"
        refine ifd (fun _ => ?_) (fun _ => ?_)
        · walk_at "rd"
          refine ⟨Nat.le_trans nm.len (by decide), _, _, rfl, rfl, ?_, ?_⟩
          · have q := cutS_length z (some 1) none
            have q8 : z.length ≤ 8 := nm.len
            show 1 + _ ≤ _
            exact Nat.le_trans (by omega : 1 + (cutS z (some 1) none).length ≤ 9) (by decide)
          have nq := name_q nm
          generalize (Str.ofString "q" ++ cutS z (some 1) none) = zq at nq
          refine ⟨by show 6 ≤ sizeLine; decide, fun l1 hl1 => ?_⟩
          generalize hH : upd _ l1 _ = H4
          obtain ⟨s4, d4⟩ := new_of (o' := .lst (([Str.ofString "keep", "pass", "none", "near", "answer", zq] : List Str).map V.str)) hH hl1 rfl
          clear hH
          have p1 : l1 ≠ p := S3'.ne hl1
          walk_at "rd"
          refine ⟨_, _, _, rfl, S3'.same s4, by omega, by omega, by omega, fun d' H5 a' b' u5 S5 => ?_⟩
          obtain ⟨j', rfl⟩ : ∃ j : Nat, d' = j := ⟨d'.toNat, by omega⟩
          have hj' : j' < ([Str.ofString "keep", "pass", "none", "near", "answer", zq] : List Str).length := by show j' < 6; omega
          have hy := List.getElem?_eq_getElem hj'
          have ny : IsName ([Str.ofString "keep", "pass", "none", "near", "answer", zq] : List Str)[j'] := by
            have q : ([Str.ofString "keep", "pass", "none", "near", "answer", zq] : List Str)[j'] ∈ ([Str.ofString "keep", "pass", "none", "near", "answer"] : List Str) ++ [zq] := List.getElem_mem hj'
            rcases List.mem_append.mp q with q | q
            · exact five_name q
            · rw [List.mem_singleton.mp q]
              exact nq
          generalize ([Str.ofString "keep", "pass", "none", "near", "answer", zq] : List Str)[j'] = y at hy ny
          refine ⟨_, _, _, _, rfl, rfl, SqL.of (u5 _ _ p1 d4), at_any (by rw [List.getElem?_map, hy]; rfl), ?_⟩
          exact ⟨y, none, none, none, rfl, ny, (u3.trans (Same.but s4)).trans u5, S5.le (by omega)⟩
        · exact stay
      · walk_at "rd"
        exact stay
    rintro σ H5 ⟨y, v4, v5, v6, rfl, nm', u5, S5⟩
    walk_at "rd"
    refine ⟨_, _, rfl, .inl (sql_but hS u5 hne), rfl, flat_strs tk, ?_⟩
    refine ⟨!decide (y ∈ tk), congrArg (fun b => V.bl (!b)) (inV_strs y tk), ?_⟩
    by_cases hin : y ∈ tk
    · rw [decide_eq_true hin]
      refine iteF ?_
      clear u2 S2 d1 s1 hD pD hD0 u02 S3' u3 nm v456
      walk_at "rd"
      refine fun D1 hD1 => ?_
      refine lc_it (walk_str (z := Str.ofString "abcdefghijklmnopq")) (fun i H' => Same H5 H' ∧ H' D1 = some (.lst ((zNames i).map V.str))) ⟨Same.new hD1, upd_same⟩ (fun _ _ _ _ => trivial) ?_ ?_
      · rintro i x H6 H7 hi ⟨s6, d6⟩ ⟨rfl, c, hc', rfl⟩
        rw [zletter_size] at hi
        have q := zletter_ok ⟨i, hi⟩
        have q' : c = 97 + i := Option.some.inj (hc'.symm.trans q)
        subst q'
        refine ⟨rfl, ?_⟩
        walk_at "rd"
        refine ⟨by show 1 + 1 ≤ sizeLine; decide, ?_⟩
        refine ⟨_, d6, ?_, ?_, ?_⟩
        · rw [List.length_map, zNames, List.length_map, List.length_range]
          exact Nat.lt_of_lt_of_le hi (by decide)
        · exact fun b o e => by
            rw [upd_ne (fun q => by rw [q, hD1] at e; cases e)]
            exact s6 b o e
        · rw [upd_same, zNames_more, List.map_append]
          rfl
      rintro H6 ⟨s6, d6⟩
      rw [zletter_size] at d6
      refine ⟨D1, rfl, ⟨_, SqL.of d6⟩, fun D2 hD2 => ?_⟩
      have hS6 : SqL K H6 l (tk.map V.str) := s6.seq (sql_but hS u5 hne)
      refine lc_list (K := K) (a := D1) (xs := (zNames 17).map V.str) (fun i H' => Same H6 H' ∧ H' D2 = some (.lst ((((zNames 17).take i).filter fun z => !decide (z ∈ tk)).map V.str))) ⟨Same.new hD2, upd_same⟩ (fun i H' _ h => h.1.seq (SqL.of d6)) ?_ ?_
      · rintro i x H7 hx ⟨s7, d7⟩
        obtain ⟨z', rfl, hz⟩ := str_at hx
        have hi : i < 17 := by
          have := (List.getElem?_eq_some_iff.mp hz).1
          simpa [zNames] using this
        refine ⟨rfl, ?_⟩
        walk_at "rd"
        refine ⟨_, _, rfl, s7.seq hS6 |> .inl, rfl, flat_strs tk, ?_⟩
        refine ⟨!decide (z' ∈ tk), congrArg (fun b => V.bl (!b)) (inV_strs z' tk), ?_⟩
        rw [take_more hz, List.filter_append]
        by_cases hin' : z' ∈ tk
        · rw [decide_eq_true hin']
          refine iteF ⟨s7, ?_⟩
          rw [List.filter_cons, decide_eq_true hin', if_neg (by decide), List.filter_nil, List.append_nil]
          exact d7
        · rw [decide_eq_false hin']
          refine iteT ?_
          walk_at "rd"
          refine ⟨_, d7, ?_, ?_, ?_⟩
          · rw [List.length_map]
            refine Nat.lt_of_le_of_lt (List.length_filter_le _ _) ?_
            rw [List.length_take]
            exact Nat.lt_of_le_of_lt (Nat.min_le_left _ _) (Nat.lt_of_lt_of_le hi (by decide))
          · exact fun b o e => by
              rw [upd_ne (fun q => by rw [q, hD2] at e; cases e)]
              exact s7 b o e
          · rw [upd_same, List.filter_cons, decide_eq_false hin', if_pos (by decide), List.filter_nil, List.map_append]
            rfl
      rintro H7 ⟨s7, d7⟩
      rw [List.length_map, List.take_length] at d7
      obtain ⟨c, c1, c2, c3⟩ := hc
      have hne' : zName c ∈ (zNames 17).filter fun z => !decide (z ∈ tk) := List.mem_filter.mpr ⟨zNames_has c1 c2, by rw [decide_eq_false c3]; rfl⟩
      generalize hF : ((zNames 17).filter fun z => !decide (z ∈ tk)) = F at d7 hne'
      cases F with
      | nil => cases hne'
      | cons z0 r =>
        have hz0 : z0 ∈ (zNames 17).filter fun z => !decide (z ∈ tk) := by rw [hF]; exact List.mem_cons_self
        obtain ⟨h1, h2⟩ := List.mem_filter.mp hz0
        have h3 : z0 ∉ tk := fun q => by rw [decide_eq_true q] at h2; cases h2
        walk_at "rd"
        refine ⟨_, _, _, _, rfl, rfl, SqL.of d7, at_any (j := 0) rfl, ?_⟩
        exact k z0 H7 (zNames_is h1) h3 ((u5.trans (Same.but s6)).trans (Same.but s7)) ((S5.same s6).same s7)
    · rw [decide_eq_false hin]
      refine iteT ?_
      walk_at "rd"
      exact k y H5 nm' hin u5 S5
theorem ok_law_names (T : Txt P w K mg) : FnOk P w K mg base CX0 3 T.f_law_names T.d_law_names ["_law_source_here", "_law_many"] spNames := by
  refine T.F_law_names.ok sc_law_names (fun vs H Q E h => ?_) (fun cdv A outer s H vs Q E hr h => ?_)
  · obtain ⟨p, m, n, rfl, _⟩ := h
    rfl
  · obtain ⟨p, m, n, rfl, S, hm, hn, k⟩ := h
    refine ⟨_, (pss_cons (ps_set (i := 2) sc_law_names.nd rfl (Or.inl rfl) (pe_lst pa_nil))
      (pss_cons (ps_for PassesOwn.never rfl (pi_range1 (by rfl) T.m_range (pa_cons (pv 1) pa_nil)) (pg_name (i := 3) sc_law_names.nd rfl (Or.inl rfl))
      (pss_one (ps_expr (pe_bm PySem.F.plainAttrs_list PySem.F.slot_list_append PySem.F.type_list_append mt_append (pv 2) (pa_cons (pe_call (ok_law_name T) (hr.mono (by decide)) (by rfl) T.m_law_name T.F_law_name.kp T.b_law_name .nil pass0 (pa_cons (pv 0) (pa_cons (pv 2) pa_nil))) pa_nil)))))
      (pss_one (ps_ret (pv 2))))), ?_⟩
    refine ⟨by show 0 ≤ sizeLine; decide, fun l hl => ?_⟩
    have lp := S.ne hl
    generalize hH : upd _ l _ = H1
    obtain ⟨s1, d1⟩ := new_of (o' := .lst (([] : List Str).map V.str)) hH hl rfl
    clear hH
    walk_at "rd"
    refine ⟨by omega, by omega, ?_⟩
    refine for_range (lo := 0) (n := m) (fun i σ H' => ∃ (zs : List Str) (v : Option V), σ = [some (.ref p), some (.int m), some (.ref l), v] ∧ zs.length = i ∧ (∀ z ∈ zs, IsName z) ∧ zs.Nodup ∧ H' l = some (.lst (zs.map V.str)) ∧ But p H H' ∧ Src H' p (n + 10 * (i : Int)))
      ⟨[], none, rfl, rfl, (fun z hz => nomatch hz), List.nodup_nil, d1, Same.but s1, (S.same s1).le (by omega)⟩ ?_ ?_
    · rintro i σ H2 hi ⟨zs, v, rfl, rfl, nz, nd, dl, u2, S2⟩
      walk_at "rd"
      refine ⟨.inl ⟨rfl, _, SqL.of dl⟩, ?_⟩
      walk_at "rd"
      refine ⟨p, l, zs, _, rfl, S2, by omega, lp, SqL.of dl, z_left (by omega), fun z H3 nz' hz u3 S3 => ?_⟩
      refine ⟨_, _, _, rfl, rfl, u3 _ _ lp dl, ?_, ?_⟩
      · rw [List.length_map]
        exact Nat.lt_of_lt_of_le (by omega : zs.length < 17) (by decide)
      refine ⟨zs ++ [z], _, rfl, by simp, ?_, nd_snoc nd hz, ?_, but_new (u2.trans u3) hl, ?_⟩
      · intro y hy
        rcases List.mem_append.mp hy with q | q
        · exact nz y q
        · rw [List.mem_singleton.mp q]
          exact nz'
      · rw [upd_same, List.map_append]
        rfl
      · exact (S3.but (q := l) ((But.refl l H3).upd) lp.symm).le (by omega)
    · rintro σ H2 ⟨zs, v, rfl, e, nz, nd, dl, u2, S2⟩
      walk_at "rd"
      exact k l zs H2 e nz nd hl dl u2 S2
theorem ok_law_places (T : Txt P w K mg) : FnOk P w K mg base CX0 1 T.f_law_places T.d_law_places [] spPlaces := by
  refine T.F_law_places.ok sc_law_places (fun vs H Q E h => ?_) (fun cdv A outer s H vs Q E hr h => ?_)
  · obtain ⟨rfl, _⟩ := h
    rfl
  · obtain ⟨rfl, k⟩ := h
    refine ⟨_, (pss_one (ps_ret (pe_lst (pa_cons pe_str (pa_cons pe_str (pa_cons pe_str (pa_cons pe_str (pa_cons pe_str (pa_cons pe_str (pa_cons pe_str (pa_cons pe_str (pa_cons pe_str (pa_cons pe_str (pa_cons pe_str pa_nil)))))))))))))), ?_⟩
    exact ⟨by show 11 ≤ sizeLine; decide, k⟩
theorem ok_law_group_names (T : Txt P w K mg) : FnOk P w K mg base CX0 1 T.f_law_group_names T.d_law_group_names [] spGroupNames := by
  refine T.F_law_group_names.ok sc_law_group_names (fun vs H Q E h => ?_) (fun cdv A outer s H vs Q E hr h => ?_)
  · obtain ⟨rfl, _⟩ := h
    rfl
  · obtain ⟨rfl, k⟩ := h
    refine ⟨_, (pss_one (ps_ret (pe_lst (pa_cons pe_str (pa_cons pe_str (pa_cons pe_str (pa_cons pe_str (pa_cons pe_str (pa_cons pe_str (pa_cons pe_str (pa_cons pe_str (pa_cons pe_str pa_nil)))))))))))), ?_⟩
    exact ⟨by show 9 ≤ sizeLine; decide, k⟩
theorem ok_law_groups (T : Txt P w K mg) : FnOk P w K mg base CX0 3 T.f_law_groups T.d_law_groups ["_law_source_here", "_law_first_here"] (spGroups K) := by
  refine T.F_law_groups.ok sc_law_groups (fun vs H Q E h => ?_) (fun cdv A outer s H vs Q E hr h => ?_)
  · obtain ⟨p, m, n, rfl, _⟩ := h
    rfl
  · obtain ⟨p, first, n, rfl, S, hn, k⟩ := h
    refine ⟨_, (pss_cons (ps_set (i := 2) sc_law_groups.nd rfl (Or.inr rfl) (pe_op op_cat (pe_slice sl_list (pe_call0 (ok_law_group_names T) (hr.mono (by decide)) (by rfl) T.m_law_group_names T.F_law_group_names.kp T.b_law_group_names .nil pass0) po_none (po_some pe_int)) (pe_call0 (ok_law_places T) (hr.mono (by decide)) (by rfl) T.m_law_places T.F_law_places.kp T.b_law_places .nil pass0)))
      (pss_cons (ps_setLc (i := 3) (own := [("_law_k", 4)]) (by rfl) sc_law_groups.nd rfl rfl (sw_true rfl rfl rfl (by decide +kernel)) (pi_range1 (by rfl) T.m_range (pa_cons (pe_op op_add pe_int (pe_call (ok_law_draw T) (hr.mono (by decide)) (by rfl) T.m_law_draw T.F_law_draw.kp T.b_law_draw .nil pass0 (pa_cons (pv 0) (pa_cons pe_int pa_nil)))) pa_nil)) (blkOk_by (own := [("_law_k", 4)]) (N := ["_law_source_here", "_law_first_here", "_law_names_here", "_law_groups_here", "_law_k"]) (sc := defScope s_law_groups) (by decide +kernel)) (fun _ _ _ _ _ => (pg_name (i := 4) sc_law_groups.nd rfl (Or.inl rfl))) (fun _ _ _ _ _ => pts_nil) (fun _ _ _ _ _ => (pe_call (ok_law_pick T) (hr.mono (by decide)) (by rfl) T.m_law_pick T.F_law_pick.kp T.b_law_pick .nil pass0 (pa_cons (pv 0) (pa_cons (pv 2) pa_nil)))))
      (C8.pss_cut (ps_if (PW.pt (pw_or (pt_val (pv 1)) (pw_or1 (pt_cmpR op_eq (pe_call (ok_law_draw T) (hr.mono (by decide)) (by rfl) T.m_law_draw T.F_law_draw.kp T.b_law_draw .nil pass0 (pa_cons (pv 0) (pa_cons pe_int pa_nil))) pe_int (nomark _)))))
      (pss_one (ps_expr (pe_bm PySem.F.plainAttrs_list PySem.F.slot_list_insert PySem.F.type_list_insert mt_insert (pv 3) (pa_cons (pe_call (ok_law_draw T) (hr.mono (by decide)) (by rfl) T.m_law_draw T.F_law_draw.kp T.b_law_draw .nil pass0 (pa_cons (pv 0) (pa_cons (pe_op op_add (pe_callB call_len_seq (by rfl) T.m_len (by decide +kernel) (pa_cons (pv 3) pa_nil)) pe_int) pa_nil))) (pa_cons pe_str pa_nil)))))
      pss_nil)
      (pss_one (ps_ret (pv 3)))))), ?_⟩
    walk_at "rd"
    refine fun g1 h1 => ?_
    generalize hH : upd _ g1 _ = H1
    obtain ⟨s1, d1⟩ := new_of (o' := .lst (namesL.map V.str)) hH h1 rfl
    clear hH
    walk_at "rd"
    refine ⟨_, _, rfl, SqL.of d1, fun g2 h2 => ?_⟩
    generalize hH : upd _ g2 _ = H2
    obtain ⟨s2, d2⟩ := new_of (o' := .lst ((namesL.take 8).map V.str)) hH h2 (by kernel_rfl)
    clear hH
    refine ⟨rfl, fun g3 h3 => ?_⟩
    generalize hH : upd _ g3 _ = H3
    obtain ⟨s3, d3⟩ := new_of (o' := .lst (placesL.map V.str)) hH h3 rfl
    clear hH
    refine ⟨_, _, _, _, rfl, rfl, s3 _ _ d2, d3, by show 8 + 11 ≤ sizeLine; decide, fun L hL => ?_⟩
    generalize hH : upd _ L _ = H4
    obtain ⟨s4, dL⟩ := new_of (o' := .lst (grpNames.map V.str)) hH hL (by kernel_rfl)
    clear hH
    have S4 := (((S.same s1).same s2).same s3).same s4
    have Lp : L ≠ p := (((S.same s1).same s2).same s3).ne hL
    have e4 : Same H H4 := ((s1.trans s2).trans s3).trans s4
    clear s1 s2 s3 s4 d1 d2 d3 h1 h2 h3 hL S
    walk_at "rd"
    refine ⟨_, _, _, rfl, S4, by omega, by decide, by decide, fun d H5 a b u5 S5 => ?_⟩
    have dL5 := u5 _ _ Lp dL
    walk_at "rd"
    refine ⟨by omega, by omega, fun D hD => ?_⟩
    have Dp : D ≠ p := S5.ne hD
    have LD : L ≠ D := ne_of_none dL5 hD
    have u05 : But p H H5 := (Same.but e4).trans u5
    have hD0 : H D = none := but_free u05 Dp hD
    refine lc_range (lo := 0) (n := (1 + d).toNat) (fun i H' => ∃ gs : List Str, gs.length = i ∧ (∀ g ∈ gs, g ∈ grpNames) ∧ But p H H' ∧ H' D = some (.lst (gs.map V.str)) ∧ H' L = some (.lst (grpNames.map V.str)) ∧ Src H' p (n + 1 + (i : Int)))
      ⟨[], rfl, (fun g hg => nomatch hg), but_new u05 hD0, upd_same, by rw [upd_ne LD]; exact dL5, (S5.same (Same.new hD)).le (by omega)⟩ ?_ ?_
    · rintro i H6 hi ⟨gs, rfl, hg, u6, dD, dL6, S6⟩
      refine ⟨rfl, ?_⟩
      walk_at "rd"
      refine ⟨p, L, _, _, rfl, S6, by omega, Lp, SqL.of dL6, by show 0 < 19; decide, by show 19 ≤ 1000; decide, fun j v H7 hj u7 S7 => ?_⟩
      obtain ⟨g, rfl, hgj⟩ := str_at hj
      refine ⟨_, u7 _ _ Dp dD, ?_, gs ++ [g], by simp, ?_, but_new (u6.trans u7) hD0, ?_, ?_, ?_⟩
      · rw [List.length_map]
        exact Nat.lt_of_lt_of_le (by omega : gs.length < 17) (by decide)
      · intro y hy
        rcases List.mem_append.mp hy with q | q
        · exact hg y q
        · rw [List.mem_singleton.mp q]
          exact List.mem_of_getElem? hgj
      · rw [upd_same, List.map_append]
        rfl
      · rw [upd_ne LD]
        exact u7 _ _ Lp dL6
      · exact (S7.but (q := D) ((But.refl D H7).upd) Dp.symm).le (by omega)
    rintro H6 ⟨gs, hlen, hg, u6, dD, dL6, S6⟩
    have h1 : 1 ≤ gs.length := by omega
    have h3 : gs.length ≤ 3 := by omega
    have S6' := S6.le (show _ ≤ n + 4 by omega)
    have hmem : ∀ g ∈ gs, g ∈ namesL ++ placesL := fun g q => by
      rcases List.mem_append.mp (hg g q) with q | q
      · exact List.mem_append_left _ (List.mem_of_mem_take q)
      · exact List.mem_append_right _ q
    clear S6 hlen
    walk_at "rd"
    refine ⟨fun σ H' => ∃ (gs' : List Str) (v : Option V), σ = [some (.ref p), some (.bl first), some (.ref L), some (.ref D), v] ∧ IsGroups first gs' ∧ H' D = some (.lst (gs'.map V.str)) ∧ But p H H' ∧ Src H' p (n + 10), ?_, ?_⟩
    · cases first with
      | true =>
        walk_at "rd"
        refine ⟨.inl ⟨rfl, _, SqL.of dD⟩, ?_⟩
        walk_at "rd"
        refine ⟨_, _, rfl, .inl (SqL.of dD), ?_⟩
        walk_at "rd"
        refine ⟨_, _, _, rfl, S6', by omega, by omega, by rw [List.length_map]; omega, fun d2 H9 a2 b2 u9 S9 => ?_⟩
        walk_at "rd"
        refine ⟨_, _, _, _, rfl, rfl, u9 _ _ Dp dD, ?_, a2, by rw [List.length_map] at b2; omega, ?_⟩
        · rw [List.length_map]
          exact Nat.lt_of_lt_of_le (by omega : gs.length < 17) (by decide)
        generalize hH : upd _ D _ = H10
        obtain ⟨u10, d10⟩ := chg_of (o' := .lst ((gs.take d2.toNat ++ [Str.ofString "none"] ++ gs.drop d2.toNat).map V.str)) hH (by rw [List.map_append, List.map_append, List.map_take, List.map_drop]; rfl)
        clear hH
        have hD9 : But p H H9 := u6.trans u9
        refine ⟨_, _, rfl, groups_ins d2.toNat h3 hmem, d10, fun b o hb e => u10 _ _ (ne_of_none e hD0) (hD9 _ _ hb e), (S9.but u10 Dp.symm).le (by omega)⟩
      | false =>
        walk_at "rd"
        refine ⟨_, _, _, rfl, S6', by omega, by decide, by decide, fun d1 H8 a1 b1 u8 S8 => ?_⟩
        have dD8 := u8 _ _ Dp dD
        walk_at "rd"
        refine ifd (fun _ => ?_) (fun _ => ?_)
        · skip
          walk_at "rd"
          refine ⟨.inl ⟨rfl, _, SqL.of dD8⟩, ?_⟩
          walk_at "rd"
          refine ⟨_, _, rfl, .inl (SqL.of dD8), ?_⟩
          walk_at "rd"
          refine ⟨_, _, _, rfl, S8, by omega, by omega, by rw [List.length_map]; omega, fun d2 H9 a2 b2 u9 S9 => ?_⟩
          walk_at "rd"
          refine ⟨_, _, _, _, rfl, rfl, u9 _ _ Dp dD8, ?_, a2, by rw [List.length_map] at b2; omega, ?_⟩
          · rw [List.length_map]
            exact Nat.lt_of_lt_of_le (by omega : gs.length < 17) (by decide)
          generalize hH : upd _ D _ = H10
          obtain ⟨u10, d10⟩ := chg_of (o' := .lst ((gs.take d2.toNat ++ [Str.ofString "none"] ++ gs.drop d2.toNat).map V.str)) hH (by rw [List.map_append, List.map_append, List.map_take, List.map_drop]; rfl)
          clear hH
          have hD9 : But p H H9 := (u6.trans u8).trans u9
          refine ⟨_, _, rfl, groups_ins d2.toNat h3 hmem, d10, fun b o hb e => u10 _ _ (ne_of_none e hD0) (hD9 _ _ hb e), (S9.but u10 Dp.symm).le (by omega)⟩
        · walk_at "rd"
          exact ⟨gs, _, rfl, groups_plain h1 h3 hmem, dD8, u6.trans u8, S8.le (by omega)⟩
    rintro σ H9 ⟨gs', v, rfl, hgs, d9, u9, S9⟩
    walk_at "rd"
    exact k D gs' H9 hgs hD0 d9 u9 S9
theorem ok_law_rules (T : Txt P w K mg) : FnOk P w K mg base CX0 4 T.f_law_rules T.d_law_rules ["_law_source_here", "_law_many", "_law_most"] spRules := by
  refine T.F_law_rules.ok sc_law_rules (fun vs H Q E h => ?_) (fun cdv A outer s H vs Q E hr h => ?_)
  · obtain ⟨p, m, most, n, rfl, _⟩ := h
    rfl
  · obtain ⟨p, m, most, n, rfl, S, m1, m2, o1, o2, hn, k⟩ := h
    refine ⟨_, (pss_cons (ps_set (i := 3) sc_law_rules.nd rfl (Or.inl rfl) (pe_call (ok_law_names T) (hr.mono (by decide)) (by rfl) T.m_law_names T.F_law_names.kp T.b_law_names .nil pass0 (pa_cons (pv 0) (pa_cons (pe_op op_add pe_int (pe_call (ok_law_draw T) (hr.mono (by decide)) (by rfl) T.m_law_draw T.F_law_draw.kp T.b_law_draw .nil pass0 (pa_cons (pv 0) (pa_cons (pv 1) pa_nil)))) pa_nil))))
      (pss_cons (ps_set (i := 4) sc_law_rules.nd rfl (Or.inl rfl) (pe_lst (pa_cons pe_str (pa_cons pe_str (pa_cons pe_str pa_nil)))))
      (pss_cons (ps_set (i := 5) sc_law_rules.nd rfl (Or.inl rfl) (pe_lst (pa_cons (pe_tup (pa_cons (pe_ix ix_list (pv 3) pe_int (fun _ _ => rfl)) (pa_cons (pe_call (ok_law_groups T) (hr.mono (by decide)) (by rfl) T.m_law_groups T.F_law_groups.kp T.b_law_groups .nil pass0 (pa_cons (pv 0) (pa_cons pe_bl pa_nil))) (pa_cons (pe_call (ok_law_pick T) (hr.mono (by decide)) (by rfl) T.m_law_pick T.F_law_pick.kp T.b_law_pick .nil pass0 (pa_cons (pv 0) (pa_cons (pv 4) pa_nil))) pa_nil)))) pa_nil)))
      (pss_cons (ps_set (i := 5) sc_law_rules.nd rfl (Or.inl rfl) (pe_lst (pa_cons (pe_op op_catT (pe_ix ix_list (pv 5) pe_int (fun _ _ => rfl)) (pe_tup (pa_cons (pe_cmpR op_gt (pe_call (ok_law_draw T) (hr.mono (by decide)) (by rfl) T.m_law_draw T.F_law_draw.kp T.b_law_draw .nil pass0 (pa_cons (pv 0) (pa_cons pe_int pa_nil))) pe_int (nomark _)) (pa_cons (pe_call (ok_law_pick T) (hr.mono (by decide)) (by rfl) T.m_law_pick T.F_law_pick.kp T.b_law_pick .nil pass0 (pa_cons (pv 0) (pa_cons (pv 3) pa_nil))) pa_nil)))) pa_nil)))
      (pss_cons (ps_for PassesOwn.never rfl (pi_range1 (by rfl) T.m_range (pa_cons (pe_call (ok_law_draw T) (hr.mono (by decide)) (by rfl) T.m_law_draw T.F_law_draw.kp T.b_law_draw .nil pass0 (pa_cons (pv 0) (pa_cons (pv 2) pa_nil))) pa_nil)) (pg_name (i := 6) sc_law_rules.nd rfl (Or.inl rfl))
      (pss_cons (ps_par (i := 7) (j := 8) (by rfl) sc_law_rules.nd rfl rfl (by decide) rfl rfl (pa_cons (pe_call (ok_law_pick T) (hr.mono (by decide)) (by rfl) T.m_law_pick T.F_law_pick.kp T.b_law_pick .nil pass0 (pa_cons (pv 0) (pa_cons (pv 3) pa_nil))) (pa_cons (pe_call (ok_law_groups T) (hr.mono (by decide)) (by rfl) T.m_law_groups T.F_law_groups.kp T.b_law_groups .nil pass0 (pa_cons (pv 0) (pa_cons pe_bl pa_nil))) pa_nil)) (by rfl))
      (pss_one (ps_expr (pe_bm PySem.F.plainAttrs_list PySem.F.slot_list_append PySem.F.type_list_append mt_append (pv 5) (pa_cons (pe_tup (pa_cons (pv 7) (pa_cons (pv 8) (pa_cons (pe_call (ok_law_pick T) (hr.mono (by decide)) (by rfl) T.m_law_pick T.F_law_pick.kp T.b_law_pick .nil pass0 (pa_cons (pv 0) (pa_cons (pv 4) pa_nil))) (pa_cons (pe_cmpR op_eq (pe_call (ok_law_draw T) (hr.mono (by decide)) (by rfl) T.m_law_draw T.F_law_draw.kp T.b_law_draw .nil pass0 (pa_cons (pv 0) (pa_cons pe_int pa_nil))) pe_int (nomark _)) (pa_cons (pe_call (ok_law_pick T) (hr.mono (by decide)) (by rfl) T.m_law_pick T.F_law_pick.kp T.b_law_pick .nil pass0 (pa_cons (pv 0) (pa_cons (pv 3) pa_nil))) pa_nil)))))) pa_nil))))))
      (pss_one (ps_ret (pv 5)))))))), ?_⟩
    walk_at "rd"
    refine ⟨_, _, _, rfl, S, by omega, by omega, by omega, fun d H1 a b u1 S1 => ?_⟩
    obtain ⟨j, rfl⟩ : ∃ j : Nat, d = j := ⟨d.toNat, by omega⟩
    walk_at "rd"
    refine ⟨p, 1 + j, _, rfl, S1, by omega, by omega, fun sl zs H2 zl zn znd hsl dsl u2 S2 => ?_⟩
    have S2' := S2.le (show _ ≤ n + 200 by omega)
    have u02 : But p H H2 := u1.trans u2
    clear S2
    refine ⟨by show 3 ≤ sizeLine; decide, fun w hw => ?_⟩
    generalize hH : upd _ w _ = H3
    obtain ⟨s3, dw⟩ := new_of (o' := .lst (wordsL.map V.str)) hH hw rfl
    clear hH
    have S3 := S2'.same s3
    have wp : w ≠ p := S2'.ne hw
    have slp : sl ≠ p := S2'.strs dsl
    have dsl3 := s3 _ _ dsl
    have u03 : But p H H3 := u02.trans (Same.but s3)
    obtain ⟨z0, hz0⟩ : ∃ z0, zs[0]? = some z0 := ⟨zs[0]'(by omega), List.getElem?_eq_getElem _⟩
    walk_at "rd"
    refine ⟨_, _, _, _, rfl, rfl, SqL.of dsl3, at_any (j := 0) (by rw [List.getElem?_map, hz0]; rfl), ?_⟩
    walk_at "rd"
    refine ⟨p, true, _, rfl, S3, by omega, fun gl gs H4 hgs hgl dgl u4 S4 => ?_⟩
    walk_at "rd"
    refine ⟨p, w, _, _, rfl, S4, by omega, wp, SqL.of (u4 _ _ wp dw), by show 0 < 3; decide, by show 3 ≤ 1000; decide, fun jw vw H5 hjw u5 S5 => ?_⟩
    obtain ⟨wd, rfl, hwd⟩ := str_at hjw
    have S5' := S5.le (show _ ≤ n + 300 by omega)
    have dgl5 := u5 _ _ (S4.strs dgl) dgl
    have u05 : But p H H5 := (u03.trans u4).trans u5
    have glp := S4.strs dgl
    have hgl0 : H gl = none := but_free u03 glp hgl
    refine ⟨by show 3 ≤ sizeLine; decide, fun t0 ht0 => ?_⟩
    generalize hH : upd _ t0 _ = H6
    obtain ⟨s6, dt0⟩ := new_of (o' := .tup [.str z0, .ref gl, .str wd]) hH ht0 rfl
    clear hH
    refine ⟨by show 1 ≤ sizeLine; decide, fun R0 hR0 => ?_⟩
    generalize hH : upd _ R0 _ = H7
    obtain ⟨s7, dR0⟩ := new_of (o' := .lst [.ref t0]) hH hR0 rfl
    clear hH
    have S7 := (S5'.same s6).same s7
    walk_at "rd"
    refine ⟨_, _, _, _, rfl, rfl, SqL.of dR0, rfl, ?_⟩
    walk_at "rd"
    refine ⟨_, _, _, rfl, S7, by omega, by decide, by decide, fun kd H8 a8 b8 u8 S8 => ?_⟩
    walk_at "rd"
    have e57 := s6.trans s7
    have sl8 := u8 _ _ slp (e57 _ _ (u5 _ _ slp (u4 _ _ slp dsl3)))
    refine ⟨p, sl, _, _, rfl, S8, by omega, slp, SqL.of sl8, by rw [List.length_map]; omega, by rw [List.length_map]; omega, fun jn vn H9 hjn u9 S9 => ?_⟩
    obtain ⟨nx, rfl, hnx⟩ := str_at hjn
    have S9' := S9.le (show _ ≤ n + 400 by omega)
    refine ⟨by show 2 ≤ sizeLine; decide, fun t1 ht1 => ?_⟩
    generalize hH : upd _ t1 _ = H10
    obtain ⟨s10, dt1⟩ := new_of (o' := .tup [.bl (decide (0 < kd)), .str nx]) hH ht1 rfl
    clear hH
    have t0p := S5'.ne ht0
    have dt010 := s10 _ _ (u9 _ _ t0p (u8 _ _ t0p (s7 _ _ dt0)))
    refine ⟨_, _, _, _, rfl, rfl, SqT.of dt010, SqT.of dt1, (fun q => by cases q), by show 3 + 2 ≤ sizeLine; decide, (fun q => by cases q), fun _ t2 ht2 => ?_⟩
    generalize hH : upd _ t2 _ = H11
    obtain ⟨s11, dt2⟩ := new_of (o' := .tup [.str z0, .ref gl, .str wd, .bl (decide (0 < kd)), .str nx]) hH ht2 rfl
    clear hH
    refine ⟨by show 1 ≤ sizeLine; decide, fun R hR => ?_⟩
    have S11 := (S9'.same s10).same s11
    have Rp := S11.ne hR
    have t2p := (S9'.same s10).ne ht2
    have u010 : But p H H10 := (((u05.trans (Same.but e57)).trans u8).trans u9).trans (Same.but s10)
    have u011 : But p H H11 := u010.trans (Same.but s11)
    have ht20 : H t2 = none := but_free u010 t2p ht2
    have hR0' : H R = none := but_free u011 Rp hR
    have mv : ∀ b o, b ≠ p → H5 b = some o → H11 b = some o := fun b o hb e => s11 _ _ (s10 _ _ (u9 _ _ hb (u8 _ _ hb (e57 _ _ e))))
    have sl11 := mv _ _ slp (u5 _ _ slp (u4 _ _ slp dsl3))
    have w11 := mv _ _ wp (u5 _ _ wp (u4 _ _ wp dw))
    have gl11 := mv _ _ glp dgl5
    generalize hH : upd _ R _ = H12
    obtain ⟨s12, dR⟩ := new_of (o' := .lst [.ref t2]) hH hR rfl
    clear hH
    have ok0 : RuleOk zs true ⟨z0, gs, wd, decide (0 < kd), nx⟩ := ⟨List.mem_of_getElem? hz0, List.mem_of_getElem? hnx, hgs, List.mem_of_getElem? hwd⟩
    have at0 : RuleAt H H12 (.ref t2) ⟨z0, gs, wd, decide (0 < kd), nx⟩ := ⟨t2, gl, rfl, s12 _ _ dt2, s12 _ _ gl11, hgs.ne, ht20, hgl0⟩
    have S12 := S11.same s12
    have slR : sl ≠ R := ne_of_none sl11 hR
    have wR : w ≠ R := ne_of_none w11 hR
    have sl12 := s12 _ _ sl11
    have w12 := s12 _ _ w11
    have u012 : But p H H12 := u011.trans (Same.but s12)
    clear u02 u2 S1 u1 hsl dsl hw dw s3 S3 dsl3 u03 u4 S4 u5 S5 S5' dgl5 u05 ht0 s6 dt0 hR0 s7 dR0 S7 a8 b8 u8 S8 e57 sl8 hjn u9 S9 S9' ht1 s10 dt1 dt010 ht2 s11 S11 hR u010 u011 mv sl11 w11 gl11 dt2 s12 dgl
    walk_at "rd"
    refine ⟨_, _, _, rfl, S12, by omega, by omega, by omega, fun d H13 a13 b13 u13 S13 => ?_⟩
    walk_at "rd"
    refine ⟨by omega, by omega, ?_⟩
    refine for_range (lo := 0) (n := d.toNat) (fun i σ H' => ∃ (xs : List V) (rs : List Rul) (v6 v7 v8 : Option V), σ = [some (.ref p), some (.int m), some (.int most), some (.ref sl), some (.ref w), some (.ref R), v6, v7, v8] ∧ rs.length = i ∧ (∀ r ∈ rs, RuleOk zs false r) ∧
        RulesAt H H' xs (⟨z0, gs, wd, decide (0 < kd), nx⟩ :: rs) ∧ H' R = some (.lst xs) ∧ H' sl = some (.lst (zs.map V.str)) ∧ H' w = some (.lst (wordsL.map V.str)) ∧ But p H H' ∧ Src H' p (n + 500 + 20 * (i : Int)))
      ⟨[.ref t2], [], none, none, none, rfl, rfl, (fun r hr => nomatch hr), rules_src (.cons at0 .nil) S12 u13, u13 _ _ Rp dR, u13 _ _ slp sl12, u13 _ _ wp w12, u012.trans u13, S13.le (by omega)⟩ ?_ ?_
    · rintro i σ H14 hi ⟨xs, rs, v6, v7, v8, rfl, rfl, hrs, hat, dR14, sl14, w14, u14, S14⟩
      walk_at "rd"
      refine ⟨p, sl, _, _, rfl, S14, by omega, slp, SqL.of sl14, by rw [List.length_map]; omega, by rw [List.length_map]; omega, fun js vs H15 hjs u15 S15 => ?_⟩
      obtain ⟨st, rfl, hst⟩ := str_at hjs
      walk_at "rd"
      refine ⟨p, false, _, rfl, S15, by omega, fun g2 gs2 H16 hgs2 hgl2 dgl2 u16 S16 => ?_⟩
      walk_at "rd"
      have g2p := S16.strs dgl2
      have u016 : But p H H16 := (u14.trans u15).trans u16
      have hg20 : H g2 = none := but_free (u14.trans u15) g2p hgl2
      have m16 : ∀ b o, b ≠ p → H14 b = some o → H16 b = some o := fun b o hb e => u16 _ _ hb (u15 _ _ hb e)
      refine ⟨.inl ⟨rfl, _, SqL.of (m16 _ _ Rp dR14)⟩, ?_⟩
      walk_at "rd"
      refine ⟨p, w, _, _, rfl, S16, by omega, wp, SqL.of (m16 _ _ wp w14), by show 0 < 3; decide, by show 3 ≤ 1000; decide, fun j3 v3 H17 hj3 u17 S17 => ?_⟩
      obtain ⟨wd2, rfl, hwd2⟩ := str_at hj3
      walk_at "rd"
      refine ⟨_, _, _, rfl, S17, by omega, by decide, by decide, fun k2 H18 a18 b18 u18 S18 => ?_⟩
      walk_at "rd"
      have m18 : ∀ b o, b ≠ p → H14 b = some o → H18 b = some o := fun b o hb e => u18 _ _ hb (u17 _ _ hb (m16 _ _ hb e))
      refine ⟨p, sl, _, _, rfl, S18, by omega, slp, SqL.of (m18 _ _ slp sl14), by rw [List.length_map]; omega, by rw [List.length_map]; omega, fun j5 v5 H19 hj5 u19 S19 => ?_⟩
      obtain ⟨nx2, rfl, hnx2⟩ := str_at hj5
      have m19 : ∀ b o, b ≠ p → H14 b = some o → H19 b = some o := fun b o hb e => u19 _ _ hb (m18 _ _ hb e)
      have u1419 : But p H14 H19 := m19
      have u019 : But p H H19 := u14.trans u1419
      have dg19 := u19 _ _ g2p (u18 _ _ g2p (u17 _ _ g2p dgl2))
      refine ⟨by show 5 ≤ sizeLine; decide, fun t ht => ?_⟩
      generalize hH : upd _ t _ = H20
      obtain ⟨s20, dt⟩ := new_of (o' := .tup [.str st, .ref g2, .str wd2, .bl (decide (V.int k2 = V.int 1)), .str nx2]) hH ht rfl
      clear hH
      have tp := S19.ne ht
      have ht0 : H t = none := but_free u019 tp ht
      have R20 := s20 _ _ (m19 _ _ Rp dR14)
      have at20 : RulesAt H H20 xs (⟨z0, gs, wd, decide (0 < kd), nx⟩ :: rs) := rules_same (rules_src hat S14 u1419) s20
      have len := Paired.length at20
      rw [List.length_cons] at len
      refine ⟨_, _, _, rfl, rfl, R20, Nat.lt_of_lt_of_le (by omega : xs.length < 200) (by decide), ?_⟩
      generalize hH : upd _ R _ = H21
      obtain ⟨u21, d21⟩ := chg_of (o' := .lst (xs ++ [.ref t])) hH rfl
      clear hH
      have refs := rules_refs at20
      have new21 : RuleAt H H21 (.ref t) ⟨st, gs2, wd2, decide (V.int k2 = V.int 1), nx2⟩ :=
        RuleAt.lst ⟨t, g2, rfl, dt, s20 _ _ dg19, hgs2.ne, ht0, hg20⟩ R20 refs u21
      have pr : RulesAt H H21 (xs ++ [V.ref t]) ((⟨z0, gs, wd, decide (0 < kd), nx⟩ : Rul) :: (rs ++ [(⟨st, gs2, wd2, decide (V.int k2 = V.int 1), nx2⟩ : Rul)])) := paired_snoc new21 (rules_lst at20 R20 refs u21)
      refine ⟨xs ++ [.ref t], rs ++ [⟨st, gs2, wd2, decide (V.int k2 = V.int 1), nx2⟩], _, _, _, rfl, by simp, ?_, pr, d21, u21 _ _ slR (s20 _ _ (m19 _ _ slp sl14)), u21 _ _ wR (s20 _ _ (m19 _ _ wp w14)), fun b o hb e => u21 _ _ (ne_of_none e hR0') (s20 _ _ (u019 _ _ hb e)), ((S19.same s20).but u21 Rp.symm).le (by omega)⟩
      intro r hr
      rcases List.mem_append.mp hr with q | q
      · exact hrs r q
      · rw [List.mem_singleton.mp q]
        exact ⟨List.mem_of_getElem? hst, List.mem_of_getElem? hnx2, hgs2, List.mem_of_getElem? hwd2⟩
    · rintro σ H14 ⟨xs, rs, v6, v7, v8, rfl, hlen, hrs, hat, dR14, sl14, w14, u14, S14⟩
      walk_at "rd"
      exact k R xs zs _ rs H14 ⟨zn, znd, ok0, hz0, hrs⟩ (by omega) (by omega) hat hR0' dR14 u14 (S14.le (by omega))
theorem ok_law_states (T : Txt P w K mg) : FnOk P w K mg base CX0 1 T.f_law_states T.d_law_states ["_law_rules_here"] (spStates K) := by
  refine T.F_law_states.ok sc_law_states (fun vs H Q E h => ?_) (fun cdv A outer s H vs Q E hr h => ?_)
  · obtain ⟨l, xs, rs, H0, rfl, _⟩ := h
    rfl
  · obtain ⟨l, xs, rs, H0, rfl, hS, hat, hn, k⟩ := h
    refine ⟨_, (pss_cons (ps_set (i := 1) sc_law_states.nd rfl (Or.inl rfl) (pe_lst pa_nil))
      (pss_cons (ps_for PassesOwn.never rfl (pi_list (pv 0)) (pg_name (i := 2) sc_law_states.nd rfl (Or.inl rfl))
      (pss_one (ps_for PassesOwn.never rfl (pi_tup (pe_tup (pa_cons (pe_ix ix_tup (pv 2) pe_int (fun _ _ => rfl)) (pa_cons (pe_ix ix_tup (pv 2) pe_int (fun _ _ => rfl)) pa_nil)))) (pg_name (i := 3) sc_law_states.nd rfl (Or.inl rfl))
      (pss_one (ps_if (pt_cmpR op_notIn_seq (pv 3) (pv 1) (by rfl))
      (pss_one (ps_expr (pe_bm PySem.F.plainAttrs_list PySem.F.slot_list_append PySem.F.type_list_append mt_append (pv 1) (pa_cons (pv 3) pa_nil))))
      pss_nil)))))
      (pss_one (ps_ret (pv 1))))), ?_⟩
    refine ⟨by show 0 ≤ sizeLine; decide, fun f hf => ?_⟩
    generalize hH : upd _ f _ = H1
    obtain ⟨s1, d1⟩ := new_of (o' := .lst (([] : List Str).map V.str)) hH hf rfl
    clear hH
    walk_at "rd"
    refine ⟨⟨_, s1.seq hS⟩, for_list (K := K) (a := l) (xs := xs) (fun i σ H' => ∃ v2 v3 : Option V, σ = [some (.ref l), some (.ref f), v2, v3] ∧ Same H H' ∧ H' f = some (.lst ((statesOf (rs.take i)).map V.str)))
      ⟨none, none, rfl, s1, d1⟩ (fun i σ H' _ ⟨_, _, _, z, _⟩ => z.seq hS) ?_ ?_⟩
    · rintro i x σ H2 hx ⟨v2, v3, rfl, s2, d2⟩
      obtain ⟨r, hr', t, g, rfl, ht, hg, _⟩ := paired_at (rules_same hat s2) hx
      walk_at "rd"
      refine ⟨_, _, _, _, rfl, rfl, SqT.of ht, at_any (j := 0) rfl, ?_⟩
      walk_at "rd"
      refine ⟨_, _, _, _, rfl, rfl, SqT.of ht, at_any (j := 4) rfl, ?_⟩
      refine ⟨by show 2 ≤ sizeLine; decide, fun u hu => ?_⟩
      generalize hH : upd _ u _ = H3
      obtain ⟨s3, du⟩ := new_of (o' := .tup (([r.st, r.nx] : List Str).map V.str)) hH hu rfl
      clear hH
      have uf : u ≠ f := (ne_of_none d2 hu).symm
      have len0 := states_len (rs.take i)
      have ri : i < rs.length := (List.getElem?_eq_some_iff.mp hr').1
      rw [List.length_take] at len0
      have mst := states_more hr'
      generalize statesOf (rs.take i) = acc at d2 len0 mst
      refine ⟨u, rfl, ⟨_, SqT.of du⟩, for_tup (K := K) (a := u) (xs := ([r.st, r.nx] : List Str).map V.str) (fun j σ H' => ∃ v3 : Option V, σ = [some (.ref l), some (.ref f), some (.ref t), v3] ∧ Same H H' ∧ H' u = some (.tup (([r.st, r.nx] : List Str).map V.str)) ∧ H' f = some (.lst (((([r.st, r.nx] : List Str).take j).foldl addS acc).map V.str)))
        ⟨_, rfl, s2.trans s3, du, s3 _ _ d2⟩ (fun j σ H' _ ⟨_, _, _, z, _⟩ => SqT.of z) ?_ ?_⟩
      · rintro j y σ H4 hy ⟨v3', rfl, s4, du4, d4⟩
        obtain ⟨z, rfl, hz⟩ := str_at hy
        have hj : j < 2 := (List.getElem?_eq_some_iff.mp hz).1
        have more : (([r.st, r.nx] : List Str).take (j + 1)).foldl addS acc = addS ((([r.st, r.nx] : List Str).take j).foldl addS acc) z := by
          rw [take_more hz, List.foldl_append]
          rfl
        have la : ((([r.st, r.nx] : List Str).take j).foldl addS acc).length ≤ acc.length + 2 := by
          have q1 := addS_len acc r.st
          have q2 := addS_len (addS acc r.st) r.nx
          match j, hj with
          | 0, _ => show acc.length ≤ _; omega
          | 1, _ => show (addS acc r.st).length ≤ _; omega
        rw [more]
        generalize (([r.st, r.nx] : List Str).take j).foldl addS acc = ac at d4 la
        walk_at "rd"
        refine ⟨_, _, rfl, .inl (SqL.of d4), rfl, flat_strs ac, ?_⟩
        refine ⟨!decide (z ∈ ac), congrArg (fun b => V.bl (!b)) (inV_strs z ac), ?_⟩
        by_cases hin : z ∈ ac
        · rw [decide_eq_true hin]
          refine iteF ?_
          walk_at "rd"
          refine ⟨s4, du4, ?_⟩
          unfold addS
          rw [if_pos hin]
          exact d4
        · rw [decide_eq_false hin]
          refine iteT ?_
          walk_at "rd"
          refine ⟨.inl ⟨rfl, _, SqL.of d4⟩, ?_⟩
          walk_at "rd"
          refine ⟨_, _, _, rfl, rfl, d4, ?_, ?_⟩
          · rw [List.length_map]
            exact Nat.lt_of_lt_of_le (by omega : ac.length < 2100) (by decide)
          refine ⟨_, rfl, fun b o e => ?_, by rw [upd_ne uf]; exact du4, ?_⟩
          · rw [upd_ne (ne_of_none e hf)]
            exact s4 b o e
          · rw [upd_same]
            unfold addS
            rw [if_neg hin, List.map_append]
            rfl
      · rintro σ H4 ⟨v3', rfl, s4, du4, d4⟩
        refine ⟨_, _, rfl, s4, ?_⟩
        rw [mst]
        exact d4
    · rintro σ H2 ⟨v2, v3, rfl, s2, d2⟩
      have e := Paired.length hat
      rw [e, List.take_length] at d2
      walk_at "rd"
      exact k f H2 hf s2 d2
theorem ok_is_name (T : Txt P w K mg) : FnOk P w K mg base CX0 1 T.f_is_name T.d_is_name ["thing"] (spIsName K) := by
  refine T.F_is_name.ok sc_is_name (fun vs H Q E h => ?_) (fun cdv A outer s H vs Q E hr h => ?_)
  · obtain ⟨v, rfl, _⟩ := h
    rfl
  · obtain ⟨v, rfl, h⟩ := h
    refine ⟨_, (pss_cons (ps_if (PW.pt (pw_or (pt_not (pt_val (pe_callB call_isi (by rfl) T.m_isinstance (by decide +kernel) (pa_cons (pv 0) (pa_cons (pe_bltn (v := .ty "str") (by rfl) T.m_str (by decide +kernel) rfl) pa_nil))))) (pw_or1 (pt_not (pt_chain op_le op_le pe_int (pe_callB call_len_str (by rfl) T.m_len (by decide +kernel) (pa_cons (pv 0) pa_nil)) pe_int)))))
      (pss_one (ps_ret pe_bl))
      pss_nil)
      (pss_one (ps_ret (pe_callB (cr_all rfl) (by rfl) T.m_all (by decide +kernel) (pa_cons (pe_lc (own := [("letter", 1)]) (by rfl) sc_is_name.nd (pi_str (pv 0)) (blkOk_by (own := [("letter", 1)]) (N := ["thing", "letter"]) (sc := defScope s_is_name) (by decide +kernel)) (fun _ _ _ _ _ => (pg_name (i := 1) sc_is_name.nd rfl (Or.inl rfl))) (fun _ _ _ _ _ => pts_nil) (fun _ _ _ _ _ => (pe_cmpR op_in_sign (pv 1) (pe_glob (v := .str "abcdefghijklmnopqrstuvwxyz") rfl T.m_LETTERS ⟨_, rfl⟩) (by rfl)))) pa_nil))))), ?_⟩
    walk_at "rd"
    rcases h with ⟨z, rfl, hz, k⟩ | ⟨⟨t, ty, kb⟩, k⟩
    · refine ⟨_, _, _, _, true, rfl, .ty _, .base (.str _), kit_ty (by decide +kernel), ?_⟩
      walk_at "rd"
      refine ⟨hz, ?_⟩
      walk_at "rd"
      refine ifd (fun h1 => ?_) (fun h1 => ?_)
      · walk_at "rd"
        by_cases h2 : (z.length : Int) ≤ 8
        · rw [decide_eq_true h2]
          refine iteF ?_
          walk_at "rd"
          refine fun D hD => ?_
          refine lc_it (walk_str (z := z)) (fun i H' => Same H H' ∧ H' D = some (.lst (((z.cps.toList.take i).map fun c => decide (c ∈ (Str.ofString "abcdefghijklmnopqrstuvwxyz").cps.toList)).map V.bl))) ⟨Same.new hD, upd_same⟩ (fun _ _ _ _ => trivial) ?_ ?_
          · rintro i x H6 H7 hi ⟨s6, d6⟩ ⟨rfl, c, hc', rfl⟩
            refine ⟨rfl, ?_⟩
            walk_at "rd"
            have hc2 : z.cps.toList[i]? = some c := by rw [Array.getElem?_toList]; exact hc'
            refine ⟨_, d6, ?_, ?_, ?_⟩
            · rw [List.length_map, List.length_map, List.length_take]
              have h8 : z.cps.size ≤ 8 := by have : (z.length : Int) ≤ 8 := h2; exact (by omega : z.length ≤ 8)
              exact Nat.lt_of_le_of_lt (Nat.min_le_left _ _) (Nat.lt_of_lt_of_le hi (Nat.le_trans h8 (by decide)))
            · exact fun b o e => by
                rw [upd_ne (fun q => by rw [q, hD] at e; cases e)]
                exact s6 b o e
            · rw [upd_same, take_more hc2, List.map_append, List.map_append]
              rfl
          rintro H6 ⟨s6, d6⟩
          rw [← Array.length_toList, List.take_length] at d6
          refine ⟨_, _, rfl, SqL.of d6, ?_⟩
          have e : ((z.cps.toList.map fun c => decide (c ∈ (Str.ofString "abcdefghijklmnopqrstuvwxyz").cps.toList)).all id) = nameB z := by
            unfold nameB
            rw [decide_eq_true (show 1 ≤ z.cps.size by have : (1 : Int) ≤ (z.length : Int) := h1; exact (by omega : 1 ≤ z.length)), decide_eq_true (show z.cps.size ≤ 8 by have : (z.length : Int) ≤ 8 := h2; exact (by omega : z.length ≤ 8)), List.all_map]
            rfl
          rw [e]
          exact k H6 s6
        · rw [decide_eq_false h2]
          refine iteT ?_
          walk_at "rd"
          have e : nameB z = false := by
            unfold nameB
            rw [decide_eq_false (show ¬ z.cps.size ≤ 8 from fun q => h2 (by have : z.length ≤ 8 := q; omega)), Bool.and_false, Bool.false_and]
          rw [← e]
          exact k H (Same.refl H)
      · walk_at "rd"
        have e : nameB z = false := by
          unfold nameB
          rw [decide_eq_false (show ¬ 1 ≤ z.cps.size from fun q => h1 (by have : 1 ≤ z.length := q; omega)), Bool.false_and, Bool.false_and]
        rw [← e]
        exact k H (Same.refl H)
    · refine ⟨_, _, _, _, false, rfl, .ty _, ty, kit_ty kb, ?_⟩
      walk_at "rd"
      exact k
theorem ok_is_place (T : Txt P w K mg) : FnOk P w K mg base CX0 1 T.f_is_place T.d_is_place ["thing"] spIsPlaceA := by
  refine T.F_is_place.ok sc_is_place (fun vs H Q E h => ?_) (fun cdv A outer s H vs Q E hr h => ?_)
  · obtain ⟨z, rfl, _⟩ := h
    rfl
  · obtain ⟨v, rfl, h⟩ := h
    refine ⟨_, (pss_one (ps_ret (pe_and (pe_callB call_isi (by rfl) T.m_isinstance (by decide +kernel) (pa_cons (pv 0) (pa_cons (pe_bltn (v := .ty "str") (by rfl) T.m_str (by decide +kernel) rfl) pa_nil))) (pe_one (pe_cmpR op_in_seq (pv 0) (pe_glob (v := .ref T.a_PLACES) rfl T.m_PLACES rfl) (by rfl)))))), ?_⟩
    walk_at "rd"
    rcases h with ⟨z, rfl, k⟩ | ⟨⟨d, o⟩, k⟩
    · refine ⟨_, _, _, _, true, rfl, .ty _, .base (.str _), kit_ty (by decide +kernel), ?_⟩
      walk_at "rd"
      refine ⟨_, _, rfl, .inr (T.q_PLACES _), rfl, flat_strs placesL, ?_⟩
      show Q (.bl (inV (.str z) (placesL.map V.str))) H
      rw [inV_strs]
      exact k
    · obtain ⟨t, ty, kb⟩ := o.ty (K := K)
      refine ⟨_, _, _, _, false, rfl, .ty _, ty, kit_ty kb, ?_⟩
      walk_at "rd"
      exact k
theorem ok_is_group (T : Txt P w K mg) : FnOk P w K mg base CX0 1 T.f_is_group T.d_is_group ["thing"] spIsGroupA := by
  refine T.F_is_group.ok sc_is_group (fun vs H Q E h => ?_) (fun cdv A outer s H vs Q E hr h => ?_)
  · obtain ⟨z, rfl, _⟩ := h
    rfl
  · obtain ⟨v, rfl, h⟩ := h
    refine ⟨_, (pss_one (ps_ret (pe_and (pe_callB call_isi (by rfl) T.m_isinstance (by decide +kernel) (pa_cons (pv 0) (pa_cons (pe_bltn (v := .ty "str") (by rfl) T.m_str (by decide +kernel) rfl) pa_nil))) (pe_one (pe_or (pe_cmpR op_in_seq (pv 0) (pe_glob (v := .ref T.a_PLACES) rfl T.m_PLACES rfl) (by rfl)) (pe_one (pe_cmpR (op_in_kd T.kd_GROUPS) (pv 0) (pe_glob (v := .ref T.a_GROUPS) rfl T.m_GROUPS rfl) (by rfl)))))))), ?_⟩
    walk_at "rd"
    rcases h with ⟨z, rfl, k⟩ | ⟨⟨d, o⟩, k⟩
    · refine ⟨_, _, _, _, true, rfl, .ty _, .base (.str _), kit_ty (by decide +kernel), ?_⟩
      walk_at "rd"
      refine ⟨_, _, rfl, .inr (T.q_PLACES _), rfl, flat_strs placesL, ?_⟩
      refine ⟨decide (z ∈ placesL), congrArg V.bl (inV_strs z placesL), ?_⟩
      by_cases h1 : z ∈ placesL
      · rw [decide_eq_true h1]
        rw [decide_eq_true (Or.inl h1)] at k
        refine iteT ?_
        exact k
      rw [decide_eq_false h1]
      refine iteF ?_
      walk_at "rd"
      by_cases h2 : z ∈ l_GROUPS.map (·.1)
      · obtain ⟨j, ps, hj⟩ := groups_at h2
        obtain ⟨u, hu, _⟩ := T.y_GROUPS j z ps hj
        refine ⟨_, _, rfl, rfl, hu, ?_⟩
        rw [decide_eq_true (Or.inr h2)] at k
        exact k
      · refine ⟨_, _, rfl, rfl, T.z_GROUPS z h2, ?_⟩
        rw [decide_eq_false (fun q => q.elim h1 h2)] at k
        exact k
    · obtain ⟨t, ty, kb⟩ := o.ty (K := K)
      refine ⟨_, _, _, _, false, rfl, .ty _, ty, kit_ty kb, ?_⟩
      walk_at "rd"
      exact k
theorem ok_are_groups (T : Txt P w K mg) : FnOk P w K mg base CX0 2 T.f_are_groups T.d_are_groups ["things"] spAreGroups := by
  refine T.F_are_groups.ok sc_are_groups (fun vs H Q E h => ?_) (fun cdv A outer s H vs Q E hr h => ?_)
  · obtain ⟨v, gs, rfl, _⟩ := h
    rfl
  · obtain ⟨a, gs, rfl, hA, hlen, k⟩ := h
    refine ⟨_, (pss_cons (ps_if (PW.pt (pw_or (pt_not (pt_val (pe_callB call_isiT (by rfl) T.m_isinstance (by decide +kernel) (pa_cons (pv 0) (pa_cons (pe_tup (pa_cons (pe_bltn (v := .ty "list") (by rfl) T.m_list (by decide +kernel) rfl) (pa_cons (pe_bltn (v := .ty "tuple") (by rfl) T.m_tuple (by decide +kernel) rfl) pa_nil))) pa_nil))))) (pw_or1 (pt_cmpR op_eq (pe_callB call_len_seq (by rfl) T.m_len (by decide +kernel) (pa_cons (pv 0) pa_nil)) pe_int (nomark _)))))
      (pss_one (ps_ret pe_bl))
      pss_nil)
      (pss_one (ps_ret (pe_callB (cr_all rfl) (by rfl) T.m_all (by decide +kernel) (pa_cons (pe_lc (own := [("thing", 1)]) (by rfl) sc_are_groups.nd (pi_lt (pv 0)) (blkOk_by (own := [("thing", 1)]) (N := ["things", "thing"]) (sc := defScope s_are_groups) (by decide +kernel)) (fun _ _ _ _ _ => (pg_name (i := 1) sc_are_groups.nd rfl (Or.inl rfl))) (fun _ _ _ _ _ => pts_nil) (fun _ _ _ _ _ => (pe_call (ok_is_group T) (hr.mono (by decide)) (by rfl) T.m_is_group T.F_is_group.kp T.b_is_group .nil pass0 (pa_cons (pv 1) pa_nil)))) pa_nil))))), ?_⟩
    walk_at "rd"
    refine ⟨by show 2 ≤ sizeLine; decide, fun t0 ht0 => ?_⟩
    generalize hH : upd _ t0 _ = H1
    obtain ⟨s1, dt0⟩ := new_of (o' := .tup [.ty "list", .ty "tuple"]) hH ht0 rfl
    clear hH
    have hA1 := hA.same s1
    obtain ⟨t, ty, kb⟩ := hA1.ty (K := K)
    refine ⟨_, t0, _, _, _, true, rfl, dt0, .cons (.ty _) (.cons (.ty _) .nil), ty, kb, ?_⟩
    walk_at "rd"
    refine ⟨_, _, rfl, hA1.sq, ?_⟩
    walk_at "rd"
    by_cases h0 : gs = []
    · subst h0
      walk_at "rd"
      exact k H1 s1
    · rw [decide_eq_false (show ¬ V.int ((gs.map V.str).length : Nat) = V.int 0 from fun q => by
        rw [List.length_map] at q
        have q' : (gs.length : Int) = 0 := by injection q
        exact h0 (List.length_eq_zero_iff.mp (by omega)))]
      refine iteF ?_
      walk_at "rd"
      rcases hA1 with h | h
      · refine Or.inl ⟨_, rfl, a, rfl, ⟨_, SqL.of h⟩, fun D hD => ?_⟩
        refine lc_list (K := K) (a := a) (xs := gs.map V.str) (fun i H' => Same H1 H' ∧ H' D = some (.lst (((gs.take i).map grpB).map V.bl))) ⟨Same.new hD, upd_same⟩ (fun i H' _ z => z.1.seq (SqL.of h)) ?_ ?_
        · rintro i x H6 hx ⟨s6, d6⟩
          obtain ⟨z, rfl, hz⟩ := str_at hx
          refine ⟨rfl, ?_⟩
          walk_at "rd"
          refine Or.inl ⟨z, rfl, ?_⟩
          refine ⟨_, d6, ?_, ?_, ?_⟩
          · rw [List.length_map, List.length_map, List.length_take]
            exact Nat.lt_of_le_of_lt (Nat.min_le_right _ _) (Nat.lt_of_le_of_lt hlen (by decide))
          · exact fun b o e => by
              rw [upd_ne (fun q => by rw [q, hD] at e; cases e)]
              exact s6 b o e
          · rw [upd_same, take_more hz, List.map_append, List.map_append]
            rfl
        rintro H6 ⟨s6, d6⟩
        rw [List.length_map, List.take_length] at d6
        refine ⟨_, _, rfl, SqL.of d6, ?_⟩
        have e : ((gs.map grpB).all id) = (!gs.isEmpty && gs.all grpB) := by
          rw [List.all_map]
          cases gs with
          | nil => exact absurd rfl h0
          | cons a r => rfl
        rw [e]
        exact k H6 (s1.trans s6)
      · refine Or.inr ⟨_, rfl, a, rfl, ⟨_, SqT.of h⟩, fun D hD => ?_⟩
        refine lc_tup (K := K) (a := a) (xs := gs.map V.str) (fun i H' => Same H1 H' ∧ H' D = some (.lst (((gs.take i).map grpB).map V.bl))) ⟨Same.new hD, upd_same⟩ (fun i H' _ z => SqT.of (z.1 _ _ h)) ?_ ?_
        · rintro i x H6 hx ⟨s6, d6⟩
          obtain ⟨z, rfl, hz⟩ := str_at hx
          refine ⟨rfl, ?_⟩
          walk_at "rd"
          refine Or.inl ⟨z, rfl, ?_⟩
          refine ⟨_, d6, ?_, ?_, ?_⟩
          · rw [List.length_map, List.length_map, List.length_take]
            exact Nat.lt_of_le_of_lt (Nat.min_le_right _ _) (Nat.lt_of_le_of_lt hlen (by decide))
          · exact fun b o e => by
              rw [upd_ne (fun q => by rw [q, hD] at e; cases e)]
              exact s6 b o e
          · rw [upd_same, take_more hz, List.map_append, List.map_append]
            rfl
        rintro H6 ⟨s6, d6⟩
        rw [List.length_map, List.take_length] at d6
        refine ⟨_, _, rfl, SqL.of d6, ?_⟩
        have e : ((gs.map grpB).all id) = (!gs.isEmpty && gs.all grpB) := by
          rw [List.all_map]
          cases gs with
          | nil => exact absurd rfl h0
          | cons a r => rfl
        rw [e]
        exact k H6 (s1.trans s6)
theorem ok_is_rule (T : Txt P w K mg) : FnOk P w K mg base CX0 3 T.f_is_rule T.d_is_rule ["thing"] spIsRule := by
  refine T.F_is_rule.ok sc_is_rule (fun vs H Q E h => ?_) (fun cdv A outer s H vs Q E hr h => ?_)
  · obtain ⟨v, r, rfl, _⟩ := h
    rfl
  · obtain ⟨v, r, rfl, ⟨t, g, rfl, ht, hg⟩, hv, k⟩ := h
    refine ⟨_, (pss_cons (ps_if (PW.pt (pw_or (pt_not (pt_val (pe_callB call_isiT (by rfl) T.m_isinstance (by decide +kernel) (pa_cons (pv 0) (pa_cons (pe_tup (pa_cons (pe_bltn (v := .ty "list") (by rfl) T.m_list (by decide +kernel) rfl) (pa_cons (pe_bltn (v := .ty "tuple") (by rfl) T.m_tuple (by decide +kernel) rfl) pa_nil))) pa_nil))))) (pw_or1 (pt_cmpR op_ne (pe_callB call_len_seq (by rfl) T.m_len (by decide +kernel) (pa_cons (pv 0) pa_nil)) pe_int (nomark _)))))
      (pss_one (ps_ret pe_bl))
      pss_nil)
      (pss_cons (ps_asg (pv 0) (pg_seqU (by rfl) (pgs_cons (pg_name (i := 1) sc_is_rule.nd rfl (Or.inl rfl)) (pgs_cons (pg_name (i := 2) sc_is_rule.nd rfl (Or.inl rfl)) (pgs_cons (pg_name (i := 3) sc_is_rule.nd rfl (Or.inl rfl)) (pgs_cons (pg_name (i := 4) sc_is_rule.nd rfl (Or.inl rfl)) (pgs_cons (pg_name (i := 5) sc_is_rule.nd rfl (Or.inl rfl)) pgs_nil)))))))
      (pss_cons (ps_if (PW.pt (pw_or (pt_not (pt_val (pe_callB call_isi (by rfl) T.m_isinstance (by decide +kernel) (pa_cons (pv 4) (pa_cons (pe_bltn (v := .ty "bool") (by rfl) T.m_bool (by decide +kernel) rfl) pa_nil))))) (pw_or1 (pt_not (pt_val (pe_call (ok_are_groups T) (hr.mono (by decide)) (by rfl) T.m_are_groups T.F_are_groups.kp T.b_are_groups .nil pass0 (pa_cons (pv 2) pa_nil)))))))
      (pss_one (ps_ret pe_bl))
      pss_nil)
      (pss_one (ps_ret (pe_and (pe_call (ok_is_name T) (hr.mono (by decide)) (by rfl) T.m_is_name T.F_is_name.kp T.b_is_name .nil pass0 (pa_cons (pv 1) pa_nil)) (pe_and (pe_call (ok_is_name T) (hr.mono (by decide)) (by rfl) T.m_is_name T.F_is_name.kp T.b_is_name .nil pass0 (pa_cons (pv 3) pa_nil)) (pe_one (pe_call (ok_is_name T) (hr.mono (by decide)) (by rfl) T.m_is_name T.F_is_name.kp T.b_is_name .nil pass0 (pa_cons (pv 5) pa_nil)))))))))), ?_⟩
    walk_at "rd"
    refine ⟨by show 2 ≤ sizeLine; decide, fun t0 ht0 => ?_⟩
    generalize hH : upd _ t0 _ = H1
    obtain ⟨s1, dt0⟩ := new_of (o' := .tup [.ty "list", .ty "tuple"]) hH ht0 rfl
    clear hH
    obtain ⟨ty, h1, kb⟩ := (ht.same s1).ty (K := K)
    refine ⟨_, t0, _, _, _, true, rfl, dt0, .cons (.ty _) (.cons (.ty _) .nil), h1, kb, ?_⟩
    walk_at "rd"
    refine ⟨_, _, rfl, (ht.same s1).sq, ?_⟩
    walk_at "rd"
    refine (ht.same s1).elim (fun h => Or.inr ⟨_, _, rfl, SqL.of h, rfl, ?_⟩) (fun h => Or.inl ⟨_, _, rfl, SqT.of h, rfl, ?_⟩)
    all_goals
      walk_at "rd"
      refine ⟨_, _, _, _, true, rfl, .ty _, .base (.bl _), kit_ty (by decide +kernel), ?_⟩
      walk_at "rd"
      refine ⟨_, _, rfl, hg.same s1, hv.len, fun H2 s2 => ?_⟩
      rw [hv.grp]
      walk_at "rd"
      refine Or.inl ⟨r.st, rfl, hv.st.line, fun H3 s3 => ?_⟩
      rw [nameB_iff.mpr hv.st]
      walk_at "rd"
      refine Or.inl ⟨r.wd, rfl, hv.wd.line, fun H4 s4 => ?_⟩
      rw [nameB_iff.mpr hv.wd]
      walk_at "rd"
      refine Or.inl ⟨r.nx, rfl, hv.nx.line, fun H5 s5 => ?_⟩
      rw [nameB_iff.mpr hv.nx]
      exact k H5 ((((s1.trans s2).trans s3).trans s4).trans s5)
--SPLIT
theorem ok_checked_rules (T : Txt P w K mg) : FnOk P w K mg base CX0 4 T.f_checked_rules T.d_checked_rules ["rules"] (spCheckedRules K) := by
  refine T.F_checked_rules.ok sc_checked_rules (fun vs H Q E h => ?_) (fun cdv A outer s H vs Q E hr h => ?_)
  · obtain ⟨b, l, xs, rs, rfl, _⟩ := h
    rfl
  · obtain ⟨b, l, xs, rs, rfl, hS, hin, hv, k⟩ := h
    refine ⟨_, (pss_cons (ps_set (i := 1) sc_checked_rules.nd rfl (Or.inl rfl) (pe_lst pa_nil))
      (pss_cons (ps_set (i := 2) sc_checked_rules.nd rfl (Or.inl rfl) pe_dnewK)
      (pss_cons (ps_for PassesOwn.never rfl (pi_enumS (by rfl) T.m_enumerate (pa_cons (pv 0) pa_nil) (pk_cons pe_int pk_nil)) (pg_seqU (by rfl) (pgs_cons (pg_name (i := 3) sc_checked_rules.nd rfl (Or.inl rfl)) (pgs_cons (pg_name (i := 4) sc_checked_rules.nd rfl (Or.inl rfl)) pgs_nil)))
      (pss_cons (ps_if (PW.pt (pw_or (pt_cmpR op_gt (pv 3) (pe_glob (v := .int 40) rfl T.m_MOST_RULES ⟨_, rfl⟩) (nomark _)) (pw_or1 (pt_not (pt_val (pe_call (ok_is_rule T) (hr.mono (by decide)) (by rfl) T.m_is_rule T.F_is_rule.kp T.b_is_rule .nil pass0 (pa_cons (pv 4) pa_nil)))))))
      (pss_one ps_never)
      pss_nil)
      (pss_cons (ps_asg (pv 4) (pg_seqU (by rfl) (pgs_cons (pg_name (i := 5) sc_checked_rules.nd rfl (Or.inl rfl)) (pgs_cons (pg_name (i := 6) sc_checked_rules.nd rfl (Or.inl rfl)) (pgs_cons (pg_name (i := 7) sc_checked_rules.nd rfl (Or.inl rfl)) (pgs_cons (pg_name (i := 8) sc_checked_rules.nd rfl (Or.inl rfl)) (pgs_cons (pg_name (i := 9) sc_checked_rules.nd rfl (Or.inl rfl)) pgs_nil)))))))
      (pss_cons (ps_dput (hu_of hr) (pv 2) (pv 5) pe_bl rfl)
      (pss_cons (ps_dput (hu_of hr) (pv 2) (pv 9) pe_bl rfl)
      (pss_cons (ps_if (pt_cmpR op_gt (pe_callB call_lenD (by rfl) T.m_len (by decide +kernel) (pa_cons (pv 2) pa_nil)) (pe_glob (v := .int 6) rfl T.m_MOST_STATES ⟨_, rfl⟩) (nomark _))
      (pss_one ps_never)
      pss_nil)
      (pss_one (ps_expr (pe_bm PySem.F.plainAttrs_list PySem.F.slot_list_append PySem.F.type_list_append mt_append (pv 1) (pa_cons (pe_tup (pa_cons (pv 5) (pa_cons (pe_callTy call_tuple_of (by rfl) T.m_tuple (by decide +kernel) (pa_cons (pv 6) pa_nil)) (pa_cons (pv 7) (pa_cons (pv 8) (pa_cons (pv 9) pa_nil)))))) pa_nil))))))))))
      (pss_cons (ps_if (pt_cmpR op_eq (pe_callB call_len_seq (by rfl) T.m_len (by decide +kernel) (pa_cons (pv 1) pa_nil)) pe_int (nomark _))
      (pss_one ps_never)
      pss_nil)
      (pss_one (ps_ret (pe_tup (pa_cons (pe_callTy call_tuple_of (by rfl) T.m_tuple (by decide +kernel) (pa_cons (pv 1) pa_nil)) (pa_cons (pe_callTy (call_tupleD rfl) (by rfl) T.m_tuple (by decide +kernel) (pa_cons (pv 2) pa_nil)) pa_nil))))))))), ?_⟩
    refine ⟨by show 0 ≤ sizeLine; decide, fun c hc => ?_⟩
    generalize hH : upd _ c _ = H1
    obtain ⟨s1, dc⟩ := new_of (o' := .lst []) hH hc rfl
    clear hH
    refine fun d hd => ?_
    generalize hH : upd _ d _ = H2
    obtain ⟨s2, dd⟩ := new_of (o' := .dK (trues [])) hH hd rfl
    clear hH
    have cd : c ≠ d := ne_of_none dc hd
    have hd0 : H d = none := s1.free hd
    have e := Paired.length hin
    refine ⟨_, rfl, b, l, xs, 1, rfl, rfl, by decide, by decide, SqB.same hS (s1.trans s2), ?_⟩
    refine for_it (walk_enumB (K := K) (a := l) (xs := xs) (b := b) (c := 1)) (fun i σ H' => ∃ (ys : List V) (v3 v4 v5 v6 v7 v8 v9 : Option V), σ = [some (.ref l), some (.ref c), some (.ref d), v3, v4, v5, v6, v7, v8, v9] ∧ Same H H' ∧ H' c = some (.lst ys) ∧ RulesT H' ys (rs.take i) ∧ H' d = some (.dK (trues (statesOf (rs.take i)))))
      ⟨[], none, none, none, none, none, none, none, rfl, s1.trans s2, s2 _ _ dc, .nil, dd⟩ (fun i σ H' _ ⟨_, _, _, _, _, _, _, _, _, z, _⟩ => SqB.same hS z) ?_ ?_
    · rintro i x σ H3 H4 hi ⟨ys, v3, v4, v5, v6, v7, v8, v9, rfl, s3, c3, t3, d3⟩ ⟨t, x, y, rfl, ht, rfl, hx, hy⟩
      cases hx
      obtain ⟨r, hr', hin'⟩ := paired_at hin hy
      have hil : i < rs.length := (List.getElem?_eq_some_iff.mp hr').1
      have rv := hv.all r (List.mem_of_getElem? hr')
      generalize hH : upd _ t _ = H5
      obtain ⟨s5, dt⟩ := new_of (o' := .tup [.int (1 + (i : Nat)), y]) hH ht rfl
      clear hH
      refine Or.inl ⟨_, _, rfl, SqT.of dt, rfl, ?_⟩
      walk_at "rd"
      have rin5 := (hin'.same s3).same s5
      have hlen := hv.len
      rw [decide_eq_false (show ¬ (40 : Int) < 1 + (i : Nat) by omega)]
      walk_at "rd"
      refine ⟨y, r, rfl, rin5, rv, fun H6 s6 => ?_⟩
      walk_at "rd"
      obtain ⟨tr, gr, rfl, h1, h2⟩ := rin5.same s6
      have s36 : Same H3 H6 := s5.trans s6
      have d6 := s36 _ _ d3
      have c6 := s36 _ _ c3
      have mst := states_more hr'
      have hst := states_mono rs (i + 1)
      have hst2 := hv.sts
      rw [mst] at hst ⊢
      have la := addS_ge (addS (statesOf (rs.take i)) r.st) r.nx
      have lb := addS_ge (statesOf (rs.take i)) r.st
      generalize statesOf (rs.take i) = acc at d6 hst la lb ⊢
      have lt : ∀ n : Nat, n ≤ 6 → n < sizeLine := fun n h => Nat.lt_of_le_of_lt h (by decide)
      have lt2 : ∀ n : Nat, n ≤ 40 → n < sizeLine := fun n h => Nat.lt_of_le_of_lt h (by decide)
      refine h1.elim (fun h => Or.inr ⟨_, _, rfl, SqL.of h, rfl, ?_⟩) (fun h => Or.inl ⟨_, _, rfl, SqT.of h, rfl, ?_⟩)
      all_goals
        walk_at "rd"
        refine ⟨_, _, rfl, DPut.k (k := Sum.inr r.st) d6 (lt _ (by unfold trues; rw [List.length_map]; omega)), ?_⟩
        rw [trues_put]
        generalize hH : upd _ d _ = H7
        obtain ⟨u7, d7⟩ := chg_of (o' := .dK (trues (addS acc r.st))) hH rfl
        clear hH
        walk_at "rd"
        refine ⟨_, _, rfl, DPut.k (k := Sum.inr r.nx) d7 (lt _ (by unfold trues; rw [List.length_map]; omega)), ?_⟩
        rw [trues_put]
        generalize hH : upd _ d _ = H8
        obtain ⟨u8, d8⟩ := chg_of (o' := .dK (trues (addS (addS acc r.st) r.nx))) hH rfl
        clear hH
        walk_at "rd"
        refine ⟨_, _, rfl, d8, ?_⟩
        walk_at "rd"
        rw [decide_eq_false (show ¬ (6 : Int) < ((trues (addS (addS acc r.st) r.nx)).length : Nat) by unfold trues; rw [List.length_map]; omega)]
        walk_at "rd"
        have u68 : But d H6 H8 := u7.trans u8
        have c8 := u68 _ _ cd c6
        have S08 : Same H H8 := fun b o q => u68 _ _ (ne_of_none q hd0) (s36 _ _ (s3 _ _ q))
        have gd : gr ≠ d := fun q => by
          subst q
          rcases h2 with q | q
          · rw [d6] at q; cases q
          · rw [d6] at q; cases q
        refine ⟨.inl ⟨rfl, _, SqL.of c8⟩, ?_⟩
        walk_at "rd"
        rcases h2 with h2 | h2
        · have h8 := u68 _ _ gd h2
          refine ⟨_, _, rfl, .inl ⟨SqL.of h8, fun g2 hg2 => ?_⟩⟩
          generalize hH : upd _ g2 _ = H9
          obtain ⟨s9, dg9⟩ := new_of (o' := .tup (r.gs.map V.str)) hH hg2 rfl
          clear hH
          walk_at "rd"
          refine ⟨by show 5 ≤ sizeLine; decide, fun t2 ht2 => ?_⟩
          generalize hH : upd _ t2 _ = H10
          obtain ⟨s10, dt2⟩ := new_of (o' := .tup [.str r.st, .ref g2, .str r.wd, .bl r.kp, .str r.nx]) hH ht2 rfl
          clear hH
          have s810 := s9.trans s10
          have tr' : RulesT H10 ys (rs.take i) := paired_map (fun _ _ z => (((z.same s36).but (fun ys q => by rw [d6] at q; cases q) u68).same s810)) t3
          have hlen2 := Paired.length tr'
          rw [List.length_take] at hlen2
          refine ⟨_, _, _, rfl, rfl, s810 _ _ c8, lt2 _ (by omega), ?_⟩
          generalize hH : upd _ c _ = H11
          obtain ⟨u11, d11⟩ := chg_of (o' := .lst (ys ++ [.ref t2])) hH rfl
          clear hH
          have nt : ∀ ys, H10 c ≠ some (.tup ys) := fun ys q => by rw [s810 _ _ c8] at q; cases q
          refine ⟨ys ++ [.ref t2], _, _, _, _, _, _, _, rfl, fun b o q => u11 _ _ (ne_of_none q hc) (s810 _ _ (S08 _ _ q)), d11, ?_, u11 _ _ cd.symm (s810 _ _ d8)⟩
          rw [take_more hr']
          exact paired_snoc (RuleT.but ⟨t2, g2, rfl, dt2, s10 _ _ dg9⟩ nt u11) (paired_map (fun _ _ z => z.but nt u11) tr')
        · have dg9 := u68 _ _ gd h2
          have s9 : Same H8 H8 := Same.refl _
          refine ⟨_, _, rfl, .inr ⟨SqT.of dg9, ?_⟩⟩
          walk_at "rd"
          refine ⟨by show 5 ≤ sizeLine; decide, fun t2 ht2 => ?_⟩
          generalize hH : upd _ t2 _ = H10
          obtain ⟨s10, dt2⟩ := new_of (o' := .tup [.str r.st, .ref gr, .str r.wd, .bl r.kp, .str r.nx]) hH ht2 rfl
          clear hH
          have s810 := s9.trans s10
          have tr' : RulesT H10 ys (rs.take i) := paired_map (fun _ _ z => (((z.same s36).but (fun ys q => by rw [d6] at q; cases q) u68).same s810)) t3
          have hlen2 := Paired.length tr'
          rw [List.length_take] at hlen2
          refine ⟨_, _, _, rfl, rfl, s810 _ _ c8, lt2 _ (by omega), ?_⟩
          generalize hH : upd _ c _ = H11
          obtain ⟨u11, d11⟩ := chg_of (o' := .lst (ys ++ [.ref t2])) hH rfl
          clear hH
          have nt : ∀ ys, H10 c ≠ some (.tup ys) := fun ys q => by rw [s810 _ _ c8] at q; cases q
          refine ⟨ys ++ [.ref t2], _, _, _, _, _, _, _, rfl, fun b o q => u11 _ _ (ne_of_none q hc) (s810 _ _ (S08 _ _ q)), d11, ?_, u11 _ _ cd.symm (s810 _ _ d8)⟩
          rw [take_more hr']
          exact paired_snoc (RuleT.but ⟨t2, gr, rfl, dt2, s10 _ _ dg9⟩ nt u11) (paired_map (fun _ _ z => z.but nt u11) tr')
    · rintro σ H3 ⟨ys, v3, v4, v5, v6, v7, v8, v9, rfl, s3, c3, t3, d3⟩
      rw [e, List.take_length] at t3 d3
      have hlen := Paired.length t3
      walk_at "rd"
      refine ⟨_, _, rfl, .inl (SqL.of c3), ?_⟩
      walk_at "rd"
      rw [decide_eq_false (show ¬ V.int (ys.length : Nat) = V.int 0 from fun q => by
        have q' : (ys.length : Int) = 0 := by injection q
        have := hv.pos
        omega)]
      walk_at "rd"
      refine ⟨_, _, rfl, .inl ⟨SqL.of c3, fun c2 hc2 => ?_⟩⟩
      generalize hH : upd _ c2 _ = H4
      obtain ⟨s4, d4⟩ := new_of (o' := .tup ys) hH hc2 rfl
      clear hH
      walk_at "rd"
      refine ⟨_, _, rfl, .inl (s4 _ _ d3), fun st hst => ?_⟩
      rw [trues_keys]
      generalize hH : upd _ st _ = H5
      obtain ⟨s5, d5⟩ := new_of (o' := .tup ((statesOf rs).map V.str)) hH hst rfl
      clear hH
      refine ⟨by show 2 ≤ sizeLine; decide, fun p hp => ?_⟩
      generalize hH : upd _ p _ = H6
      obtain ⟨s6, d6⟩ := new_of (o' := .tup [.ref c2, .ref st]) hH hp rfl
      clear hH
      exact k p c2 st ys H6 (((s3.trans s4).trans s5).trans s6) d6 (s6 _ _ (s5 _ _ d4)) (paired_map (fun _ _ z => z.same ((s4.trans s5).trans s6)) t3) (s6 _ _ d5)
theorem ok_group (T : Txt P w K mg) : FnOk P w K mg base CX0 2 T.f_group T.d_group ["name"] (spGroup K) := by
  refine T.F_group.ok sc_group (fun vs H Q E h => ?_) (fun cdv A outer s H vs Q E hr h => ?_)
  · obtain ⟨z, rfl, _⟩ := h
    rfl
  · obtain ⟨z, rfl, k⟩ := h
    refine ⟨_, (pss_cons (ps_if (pt_not (pt_val (pe_call (ok_is_group T) (hr.mono (by decide)) (by rfl) T.m_is_group T.F_is_group.kp T.b_is_group .nil pass0 (pa_cons (pv 0) pa_nil))))
      (pss_one ps_never)
      pss_nil)
      (pss_cons (ps_if (pt_val (pe_call (ok_is_place T) (hr.mono (by decide)) (by rfl) T.m_is_place T.F_is_place.kp T.b_is_place .nil pass0 (pa_cons (pv 0) pa_nil)))
      (pss_one (ps_ret (pe_tup (pa_cons (pv 0) pa_nil))))
      pss_nil)
      (pss_one (ps_ret (pe_ix ix_kdict (pe_glob (v := .ref T.a_GROUPS) rfl T.m_GROUPS rfl) (pv 0) (fun _ _ => rfl)))))), ?_⟩
    have hin : decide (z ∈ placesL ∨ z ∈ l_GROUPS.map (·.1)) = true := decide_eq_true (by
      rcases k with ⟨j, ps, hj, _⟩ | ⟨h, _⟩
      · exact .inr (names_in hj)
      · exact .inl h)
    walk_at "rd"
    refine Or.inl ⟨z, rfl, ?_⟩
    rw [hin]
    walk_at "rd"
    refine Or.inl ⟨z, rfl, ?_⟩
    by_cases h1 : z ∈ placesL
    · rw [decide_eq_true h1]
      walk_at "rd"
      rcases k with ⟨j, ps, hj, _⟩ | ⟨_, k⟩
      · exact absurd h1 (names_no z (names_in hj))
      exact ⟨by show 1 ≤ sizeLine; decide, k⟩
    · rw [decide_eq_false h1]
      walk_at "rd"
      rcases k with ⟨j, ps, hj, k⟩ | ⟨h, _⟩
      · obtain ⟨u, hu, hq⟩ := T.y_GROUPS j z ps hj
        exact ⟨_, _, .ref u, rfl, rfl, ⟨_, _, _, T.kd_GROUPS.at_, T.kd_GROUPS.lit, hu, rfl⟩, k u hq⟩
      · exact absurd h h1
--SPLIT
/-! ### answers -/
def AnsOk (z : Str) : Prop := IsName z ∨ z = ""
theorem AnsOk.line {z : Str} (h : AnsOk z) : z.length ≤ sizeLine := by
  rcases h with h | h
  · exact h.line
  · rw [h]
    decide
def spIsAnswer : Sp := fun vs H Q _ => ∃ z : Str, vs = [.str z] ∧ AnsOk z ∧ ∀ H', Same H H' → Q (.bl true) H'
def ansKv (as : List (Str × Str)) : List (Key × V) := as.map fun p => (Sum.inr p.1, V.str p.2)
def ansOf (as : List (Str × Str)) (z : Str) : Str := (as.lookup z).getD ""
theorem ansKv_val (z : Str) : ∀ as : List (Str × Str), valV (ansKv as) (Sum.inr z : Key) = (as.lookup z).map V.str
  | [] => rfl
  | (a, b) :: r => by
    have ih := ansKv_val z r
    rw [List.lookup_cons]
    by_cases h : z = a
    · subst h
      rw [show (z == z) = true from beq_self_eq_true z]
      exact valV_pos (p := ((Sum.inr z : Key), V.str b)) rfl
    · rw [show (z == a) = false by simpa using h]
      refine Eq.trans (valV_neg (p := ((Sum.inr a : Key), V.str b)) fun q => ?_) ih
      cases q
      exact h rfl
theorem ansKv_get (as : List (Str × Str)) (z : Str) : (valV (ansKv as) (Sum.inr z : Key)).getD (V.str "") = V.str (ansOf as z) := by
  rw [ansKv_val]
  unfold ansOf
  cases as.lookup z <;> rfl
/-- what is passed as answers: None, or a dict -/
def AnsAt (H : Hp) (v : V) (as : List (Str × Str)) : Prop := (v = .non ∧ as = []) ∨ ∃ a, v = .ref a ∧ H a = some (.dK (ansKv as))
structure AnsV (zs : List Str) (as : List (Str × Str)) : Prop where
  inn : ∀ p ∈ as, p.1 ∈ zs
  few : as.length < 64
  all : ∀ z ∈ zs, AnsOk (ansOf as z)
def spCheckedAnswers (K : PySem.W.Frag) : Sp := fun vs H Q _ => ∃ (s : Addr) (v : V) (zs : List Str) (as : List (Str × Str)), vs = [.ref s, v] ∧ H s = some (.tup (zs.map V.str)) ∧ AnsAt H v as ∧ AnsV zs as ∧ zs.length ≤ 6 ∧
  ∀ (p : Addr) (H' : Hp), Same H H' → H' p = some (.tup ((zs.map (ansOf as)).map V.str)) → Q (.ref p) H'
/-! ### the rule that is used -/
theorem ifc {a b : Prop} {α : Type} {x y : α} {ia : Decidable a} {ib : Decidable b} (h : a ↔ b) : @ite _ a ia x y = @ite _ b ib x y := by
  by_cases p : a
  · rw [if_pos p, if_pos (h.mp p)]
  · rw [if_neg p, if_neg fun q => p (h.mpr q)]
def noneS : Str := "none"
def plsOf (g : Str) : List Str := if g = noneS then [noneS] else grpL g
def rulePls (r : Rul) : List Str := r.gs.flatMap plsOf
def fitR (z pl : Str) (r : Rul) : Bool := decide (r.st = z) && decide (pl ∈ rulePls r)
def fitIx (rs : List Rul) (z pl : Str) : Option Nat := rs.findIdx? (fitR z pl)
theorem fitIx_more {rs : List Rul} {i : Nat} {r : Rul} (h : rs[i]? = some r) (z pl : Str) : fitIx (rs.take (i + 1)) z pl = (fitIx (rs.take i) z pl).or (if fitR z pl r = true then some i else none) := by
  have hi : i < rs.length := (List.getElem?_eq_some_iff.mp h).1
  unfold fitIx
  rw [take_more h, List.findIdx?_append, List.length_take, Nat.min_eq_left (Nat.le_of_lt hi)]
  congr 1
  by_cases e : fitR z pl r = true
  · rw [if_pos e, List.findIdx?_cons, if_pos e]
    simp
  · rw [if_neg e, List.findIdx?_cons, if_neg e]
    rfl
/-- what the dict tells: of the rules taken whole, then of those places of the rule r (the i-th) that were done -/
def UsedIs (kvs : List (List Key × V)) (rs : List Rul) (st : Str) (i : Nat) (done : List Str) : Prop :=
  ∀ z pl : Str, valV kvs [Sum.inr z, Sum.inr pl] = ((fitIx rs z pl).or (if st = z ∧ pl ∈ done then some i else none)).map fun n => V.int (n : Nat)
theorem UsedIs.there {kvs : List (List Key × V)} {rs : List Rul} {st : Str} {i : Nat} {done : List Str} {p : Str} (h : UsedIs kvs rs st i done) {v : V} (e : valV kvs [Sum.inr st, Sum.inr p] = some v) : UsedIs kvs rs st i (done ++ [p]) := fun z pl => by
  rw [h z pl]
  by_cases q : st = z ∧ pl = p
  · obtain ⟨rfl, rfl⟩ := q
    rw [h st pl] at e
    cases e2 : fitIx rs st pl with
    | some n => rfl
    | none =>
      rw [e2] at e
      by_cases m : pl ∈ done
      · rw [if_pos ⟨rfl, m⟩, if_pos ⟨rfl, List.mem_append_left _ m⟩]
      · rw [if_neg (fun z => m z.2)] at e
        cases e
  · congr 2
    refine ifc ⟨fun z => ⟨z.1, List.mem_append_left _ z.2⟩, fun y => ⟨y.1, ?_⟩⟩
    rcases List.mem_append.mp y.2 with m | m
    · exact m
    · exact absurd ⟨y.1, List.mem_singleton.mp m⟩ q
theorem UsedIs.put {kvs : List (List Key × V)} {rs : List Rul} {st : Str} {i : Nat} {done : List Str} {p : Str} (h : UsedIs kvs rs st i done) (e : valV kvs [Sum.inr st, Sum.inr p] = none) : UsedIs (putK kvs [Sum.inr st, Sum.inr p] (.int (i : Nat))) rs st i (done ++ [p]) := fun z pl => by
  rw [valV_put]
  by_cases q : st = z ∧ pl = p
  · obtain ⟨rfl, rfl⟩ := q
    rw [h st pl] at e
    rw [if_pos rfl, if_pos ⟨rfl, List.mem_append_right _ (List.mem_singleton.mpr rfl)⟩]
    cases e2 : fitIx rs st pl with
    | some n =>
      rw [e2] at e
      cases e
    | none => rfl
  · rw [if_neg (fun y => by
      have y1 : (Sum.inr z : Key) = Sum.inr st := by injection y
      have y2 : ([Sum.inr pl] : List Key) = [Sum.inr p] := by injection y
      have y3 : (Sum.inr pl : Key) = Sum.inr p := by injection y2
      cases y1
      cases y3
      exact q ⟨rfl, rfl⟩), h z pl]
    congr 2
    refine ifc ⟨fun z => ⟨z.1, List.mem_append_left _ z.2⟩, fun y => ⟨y.1, ?_⟩⟩
    rcases List.mem_append.mp y.2 with m | m
    · exact m
    · exact absurd ⟨y.1, List.mem_singleton.mp m⟩ q
theorem UsedIs.start {kvs : List (List Key × V)} {rs : List Rul} (h : ∀ z pl : Str, valV kvs [Sum.inr z, Sum.inr pl] = (fitIx rs z pl).map fun n => V.int (n : Nat)) (st : Str) (i : Nat) : UsedIs kvs rs st i [] := fun z pl => by
  rw [h z pl, if_neg (fun q => nomatch q.2), Option.or_none]
theorem UsedIs.next {kvs : List (List Key × V)} {rs : List Rul} {i : Nat} {r : Rul} (hr : rs[i]? = some r) (h : UsedIs kvs (rs.take i) r.st i (rulePls r)) (z pl : Str) : valV kvs [Sum.inr z, Sum.inr pl] = (fitIx (rs.take (i + 1)) z pl).map fun n => V.int (n : Nat) := by
  rw [h z pl, fitIx_more hr]
  congr 2
  refine ifc ?_
  unfold fitR
  rw [Bool.and_eq_true, decide_eq_true_eq, decide_eq_true_eq]
theorem grpL_len : ∀ z : Str, (grpL z).length ≤ 11 := fun z => by
  unfold grpL
  cases h : l_GROUPS.lookup z with
  | none => exact Nat.le_of_ble_eq_true rfl
  | some l =>
    have key : ∀ l : List (Str × List Str), (∀ p ∈ l, p.2.length ≤ 11) → ∀ y, l.lookup z = some y → y.length ≤ 11 := fun l => by
      induction l with
      | nil => intro _ y h; cases h
      | cons a r ih =>
        intro hl y hy
        rw [List.lookup_cons] at hy
        cases e : z == a.1 with
        | true =>
          rw [e] at hy
          cases hy
          exact hl a List.mem_cons_self
        | false =>
          rw [e] at hy
          exact ih (fun p hp => hl p (List.mem_cons_of_mem _ hp)) y hy
    exact key l_GROUPS (by decide +kernel) l h
theorem plsOf_len (g : Str) : (plsOf g).length ≤ 11 := by
  unfold plsOf
  split
  · exact Nat.le_of_ble_eq_true rfl
  · exact grpL_len g
theorem flat_more {α β : Type} {l : List α} {i : Nat} {x : α} (f : α → List β) (h : l[i]? = some x) : (l.take (i + 1)).flatMap f = (l.take i).flatMap f ++ f x := by
  rw [take_more h, List.flatMap_append]
  simp
def spUsedRules : Sp := fun vs H Q _ => ∃ (c : Addr) (ys : List V) (rs : List Rul), vs = [.ref c] ∧ H c = some (.tup ys) ∧ RulesT H ys rs ∧ RulsV rs ∧
  ∀ (d : Addr) (kvs : List (List Key × V)) (H' : Hp), Same H H' → H d = none → H' d = some (.dT kvs) → (∀ z pl : Str, valV kvs [Sum.inr z, Sum.inr pl] = (fitIx rs z pl).map fun n => V.int (n : Nat)) → Q (.ref d) H'
theorem grp_names {g : Str} (h : grpB g = true) : (∃ (j : Nat) (ps : List Str), l_GROUPS[j]? = some (g, ps) ∧ grpL g = ps) ∨ (g ∈ placesL ∧ grpL g = [g]) := by
  unfold grpB at h
  rcases of_decide_eq_true h with h | h
  · exact .inr ⟨h, grp_out fun q => names_no g q h⟩
  · obtain ⟨j, ps, hj⟩ := groups_at h
    refine .inl ⟨j, ps, hj, ?_⟩
    have key : ∀ p ∈ l_GROUPS, grpL p.1 = p.2 := by decide +kernel
    exact key (g, ps) (List.mem_of_getElem? hj)
--SPLIT
theorem ok_is_answer (T : Txt P w K mg) : FnOk P w K mg base CX0 2 T.f_is_answer T.d_is_answer ["thing"] spIsAnswer := by
  refine T.F_is_answer.ok sc_is_answer (fun vs H Q E h => ?_) (fun cdv A outer s H vs Q E hr h => ?_)
  · obtain ⟨z, rfl, _⟩ := h
    rfl
  · obtain ⟨z, rfl, hz, k⟩ := h
    refine ⟨_, (pss_one (ps_ret (pe_or (pe_call (ok_is_name T) (hr.mono (by decide)) (by rfl) T.m_is_name T.F_is_name.kp T.b_is_name .nil pass0 (pa_cons (pv 0) pa_nil)) (pe_one (pe_and (pe_callB call_isi (by rfl) T.m_isinstance (by decide +kernel) (pa_cons (pv 0) (pa_cons (pe_bltn (v := .ty "str") (by rfl) T.m_str (by decide +kernel) rfl) pa_nil))) (pe_one (pe_cmpR op_eq (pv 0) pe_str (nomark _)))))))), ?_⟩
    walk_at "rd"
    refine Or.inl ⟨z, rfl, hz.line, fun H1 s1 => ?_⟩
    rcases hz with hz | hz
    · rw [nameB_iff.mpr hz]
      walk_at "rd"
      exact k H1 s1
    · subst hz
      rw [show nameB "" = false by decide +kernel]
      walk_at "rd"
      refine ⟨_, _, _, _, true, rfl, .ty _, .base (.str _), kit_ty (by decide +kernel), ?_⟩
      walk_at "rd"
      exact k H1 s1
theorem ok_checked_answers (T : Txt P w K mg) : FnOk P w K mg base CX0 3 T.f_checked_answers T.d_checked_answers ["states", "answers"] (spCheckedAnswers K) := by
  refine T.F_checked_answers.ok sc_checked_answers (fun vs H Q E h => ?_) (fun cdv A outer s H vs Q E hr h => ?_)
  · obtain ⟨st, v, zs, as, rfl, _⟩ := h
    rfl
  · obtain ⟨st, v, zs, as, rfl, hst, ha, hv, hz, k⟩ := h
    refine ⟨_, (C8.pss_cut (ps_set (i := 2) sc_checked_answers.nd rfl (Or.inr rfl) (pe_ifExp (pt_cmpR op_isN (pv 1) pe_non (nomark _)) pe_dnewK (pv 1)))
      (C8.pss_cut (ps_for PassesOwn.never rfl (pi_list (pe_callB (call_sortedD rfl) (by rfl) T.m_sorted (by decide +kernel) (pa_cons (pv 2) pa_nil))) (pg_name (i := 3) sc_checked_answers.nd rfl (Or.inl rfl))
      (pss_one (ps_if (pt_cmpR op_notIn_seq (pv 3) (pv 0) (by rfl))
      (pss_one ps_never)
      pss_nil)))
      (pss_cons (ps_setLc (i := 4) (own := [("state", 3)]) (by rfl) sc_checked_answers.nd rfl rfl (sw_true rfl rfl rfl (by decide +kernel)) (pi_tup (pv 0)) (blkOk_by (own := [("state", 3)]) (N := ["states", "answers", "given", "state", "checked", "answer"]) (sc := defScope s_checked_answers) (by decide +kernel)) (fun _ _ _ _ _ => (pg_name (i := 3) sc_checked_answers.nd rfl (Or.inl rfl))) (fun _ _ _ _ _ => pts_nil) (fun _ _ _ _ _ => (pe_dget2 (hu_of hr) (pv 2) (pv 3) pe_str ⟨rfl, rfl, rfl, rfl⟩)))
      (pss_cons (ps_for PassesOwn.never rfl (pi_list (pv 4)) (pg_name (i := 5) sc_checked_answers.nd rfl (Or.inl rfl))
      (pss_one (ps_if (pt_not (pt_val (pe_call (ok_is_answer T) (hr.mono (by decide)) (by rfl) T.m_is_answer T.F_is_answer.kp T.b_is_answer .nil pass0 (pa_cons (pv 5) pa_nil))))
      (pss_one ps_never)
      pss_nil)))
      (pss_one (ps_ret (pe_callTy call_tuple_of (by rfl) T.m_tuple (by decide +kernel) (pa_cons (pv 4) pa_nil)))))))), ?_⟩
    refine ⟨fun σ H' => ∃ (g : Addr), σ = [some (.ref st), some v, some (.ref g), none, none, none] ∧ Same H H' ∧ H' g = some (.dK (ansKv as)), ?_, ?_⟩
    · walk_at "rd"
      rcases ha with ⟨rfl, rfl⟩ | ⟨a, rfl, ha⟩
      · walk_at "rd"
        refine fun g hg => ?_
        generalize hH : upd _ g _ = H1
        obtain ⟨s1, d1⟩ := new_of (o' := .dK (ansKv [])) hH hg rfl
        clear hH
        exact ⟨g, rfl, s1, d1⟩
      · rw [decide_eq_false (show ¬ V.ref a = V.non from fun q => by cases q)]
        walk_at "rd"
        exact ⟨Same.refl H, ha⟩
    rintro σ H1 ⟨g, rfl, s1, d1⟩
    refine ⟨fun σ H' => ∃ v3 : Option V, σ = [some (.ref st), some v, some (.ref g), v3, none, none] ∧ Same H1 H', ?_, ?_⟩
    · walk_at "rd"
      refine ⟨g, _, as.map (·.1), rfl, .inl d1, by unfold ansKv; rw [List.map_map, List.map_map]; rfl, by rw [List.length_map]; exact hv.few, fun ys p hp _ hn => ?_⟩
      generalize hH : upd _ p _ = H2
      obtain ⟨s2, d2⟩ := new_of (o' := .lst (ys.map V.str)) hH hn rfl
      clear hH
      refine ⟨p, rfl, ⟨_, SqL.of d2⟩, for_list (K := K) (a := p) (xs := ys.map V.str) (fun i σ H' => ∃ v3 : Option V, σ = [some (.ref st), some v, some (.ref g), v3, none, none] ∧ Same H2 H')
        ⟨_, rfl, Same.refl _⟩ (fun i σ H' _ ⟨_, _, z⟩ => z.seq (SqL.of d2)) ?_ ?_⟩
      · rintro i x σ H3 hx ⟨v3, rfl, s3⟩
        obtain ⟨z, rfl, hz⟩ := str_at hx
        have hin : z ∈ zs := by
          have m := hp.mem_iff.mp (List.mem_of_getElem? hz)
          obtain ⟨q, hq, e⟩ := List.mem_map.mp m
          rw [← e]
          exact hv.inn q hq
        walk_at "rd"
        refine ⟨_, _, rfl, .inr (SqT.of ((s1.trans s2).trans s3 _ _ hst)), rfl, flat_strs zs, ?_⟩
        refine ⟨!decide (z ∈ zs), congrArg (fun b => V.bl (!b)) (inV_strs z zs), ?_⟩
        rw [decide_eq_true hin]
        walk_at "rd"
        exact s3
      · rintro σ H3 ⟨v3, rfl, s3⟩
        exact ⟨_, rfl, s2.trans s3⟩
    rintro σ H2 ⟨v3, rfl, s2⟩
    have d2 := s2 _ _ d1
    have st2 := (s1.trans s2) _ _ hst
    refine ⟨_, rfl, st, rfl, ⟨_, SqT.of st2⟩, fun D hD => ?_⟩
    have gD : g ≠ D := ne_of_none d2 hD
    have stD : st ≠ D := ne_of_none st2 hD
    refine lc_tup (K := K) (a := st) (xs := zs.map V.str) (fun i H' => Same H2 H' ∧ H' D = some (.lst (((zs.take i).map (ansOf as)).map V.str))) ⟨Same.new hD, upd_same⟩ (fun i H' _ z => SqT.of (z.1 _ _ st2)) ?_ ?_
    · rintro i x H6 hx ⟨s6, d6⟩
      obtain ⟨z, rfl, hz⟩ := str_at hx
      refine ⟨rfl, ?_⟩
      walk_at "rd"
      refine ⟨.inl ⟨_, .inl (s6 _ _ d2)⟩, ?_⟩
      walk_at "rd"
      refine ⟨_, DGet.k (k := .inr z) (s6 _ _ d2), ?_⟩
      rw [ansKv_get]
      have hi : i < zs.length := (List.getElem?_eq_some_iff.mp hz).1
      refine ⟨_, d6, ?_, ?_, ?_⟩
      · rw [List.length_map, List.length_map, List.length_take]
        exact Nat.lt_of_le_of_lt (by omega : _ ≤ 6) (by decide)
      · exact fun b o e => by
          rw [upd_ne (fun q => by rw [q, hD] at e; cases e)]
          exact s6 b o e
      · rw [upd_same, take_more hz, List.map_append, List.map_append]
        rfl
    rintro H6 ⟨s6, d6⟩
    rw [List.length_map, List.take_length] at d6
    walk_at "rd"
    refine ⟨⟨_, SqL.of d6⟩, for_list (K := K) (a := D) (xs := (zs.map (ansOf as)).map V.str) (fun i σ H' => ∃ v5 : Option V, σ = [some (.ref st), some v, some (.ref g), v3, some (.ref D), v5] ∧ Same H6 H')
      ⟨_, rfl, Same.refl _⟩ (fun i σ H' _ ⟨_, _, z⟩ => z.seq (SqL.of d6)) ?_ ?_⟩
    · rintro i x σ H7 hx ⟨v5, rfl, s7⟩
      obtain ⟨z, rfl, hz⟩ := str_at hx
      walk_at "rd"
      have hok : AnsOk z := by
        obtain ⟨y, hy, e⟩ := List.mem_map.mp (List.mem_of_getElem? hz)
        rw [← e]
        exact hv.all y hy
      refine ⟨hok, fun H8 s8 => ?_⟩
      walk_at "rd"
      exact s7.trans s8
    · rintro σ H7 ⟨v5, rfl, s7⟩
      walk_at "rd"
      refine ⟨_, _, rfl, .inl ⟨SqL.of (s7 _ _ d6), fun p hp => ?_⟩⟩
      generalize hH : upd _ p _ = H8
      obtain ⟨s8, d8⟩ := new_of (o' := .tup ((zs.map (ansOf as)).map V.str)) hH hp rfl
      clear hH
      exact k p H8 ((((s1.trans s2).trans s6).trans s7).trans s8) d8
theorem ok_used_rules (T : Txt P w K mg) : FnOk P w K mg base CX0 3 T.f_used_rules T.d_used_rules ["rules"] spUsedRules := by
  refine T.F_used_rules.ok sc_used_rules (fun vs H Q E h => ?_) (fun cdv A outer s H vs Q E hr h => ?_)
  · obtain ⟨c, ys, rs, rfl, _⟩ := h
    rfl
  · obtain ⟨c, ys, rs, rfl, hc, hT, hv, k⟩ := h
    refine ⟨_, (pss_cons (ps_set (i := 1) sc_used_rules.nd rfl (Or.inl rfl) pe_dnewT)
      (pss_cons (ps_for PassesOwn.never rfl (pi_enumB (by rfl) T.m_enumerate (pa_cons (pv 0) pa_nil)) (pg_tup (by rfl) (pgs_cons (pg_name (i := 2) sc_used_rules.nd rfl (Or.inl rfl)) (pgs_cons (pg_name (i := 3) sc_used_rules.nd rfl (Or.inl rfl)) pgs_nil)))
      (pss_one (ps_for PassesOwn.never rfl (pi_tup (pe_ix ix_tup (pv 3) pe_int (fun _ _ => rfl))) (pg_name (i := 4) sc_used_rules.nd rfl (Or.inl rfl))
      (C8.pss_cut (ps_set (i := 5) sc_used_rules.nd rfl (Or.inl rfl) (pe_ifExp (pt_cmpR op_eq (pv 4) pe_str (nomark _)) (pe_tup (pa_cons pe_str pa_nil)) (pe_call (ok_group T) (hr.mono (by decide)) (by rfl) T.m_group T.F_group.kp T.b_group .nil pass0 (pa_cons (pv 4) pa_nil))))
      (pss_one (ps_for PassesOwn.never rfl (pi_tup (pv 5)) (pg_name (i := 6) sc_used_rules.nd rfl (Or.inl rfl))
      (pss_one (ps_expr (pe_dsetdT (hu_of hr) (pv 1) (pe_tup (pa_cons (pe_ix ix_tup (pv 3) pe_int (fun _ _ => rfl)) (pa_cons (pv 6) pa_nil))) (pv 2) ⟨rfl, rfl, rfl, rfl⟩)))))))))
      (pss_one (ps_ret (pv 1))))), ?_⟩
    refine fun d hd => ?_
    generalize hH : upd _ d _ = H1
    obtain ⟨s1, d1⟩ := new_of (o' := .dT []) hH hd rfl
    clear hH
    have e := Paired.length hT
    refine ⟨_, rfl, false, c, ys, rfl, SqT.of (s1 _ _ hc), ?_⟩
    refine for_it (walk_enumB (K := K) (a := c) (xs := ys) (b := false) (c := 0)) (fun i σ H' => ∃ (kvs : List (List Key × V)) (v2 v3 v4 v5 v6 : Option V), σ = [some (.ref c), some (.ref d), v2, v3, v4, v5, v6] ∧ Same H H' ∧ H' d = some (.dT kvs) ∧ kvs.length ≤ 11000 * i ∧ (∀ z pl : Str, valV kvs [Sum.inr z, Sum.inr pl] = (fitIx (rs.take i) z pl).map fun n => V.int (n : Nat)))
      ⟨[], none, none, none, none, none, rfl, s1, d1, Nat.zero_le _, fun z pl => rfl⟩ (fun i σ H' _ ⟨_, _, _, _, _, _, _, z, _⟩ => SqT.of (z _ _ hc)) ?_ ?_
    · rintro i x σ H3 H4 hi ⟨kvs, v2, v3, v4, v5, v6, rfl, s3, d3, hl, hk⟩ ⟨t, x, y, rfl, ht, rfl, hx, hy⟩
      cases hx
      obtain ⟨r, hr', t0, g0, rfl, h1, h2⟩ := paired_at hT hy
      have hil : i < rs.length := (List.getElem?_eq_some_iff.mp hr').1
      have rv := hv.all r (List.mem_of_getElem? hr')
      have hlen := hv.len
      generalize hH : upd _ t _ = H5
      obtain ⟨s5, dt⟩ := new_of (o' := .tup [.int (0 + (i : Nat)), .ref t0]) hH ht rfl
      clear hH
      refine ⟨_, _, rfl, SqT.of dt, rfl, ?_⟩
      walk_at "rd"
      have s35 := s3.trans s5
      refine ⟨_, _, _, _, rfl, rfl, SqT.of (s35 _ _ h1), at_any (j := 1) rfl, ?_⟩
      walk_at "rd"
      refine ⟨⟨_, SqT.of (s35 _ _ h2)⟩, for_tup (K := K) (a := g0) (xs := r.gs.map V.str) (fun j σ H' => ∃ (kvs : List (List Key × V)) (v4 v5 v6 : Option V), σ = [some (.ref c), some (.ref d), some (.int (0 + (i : Nat))), some (.ref t0), v4, v5, v6] ∧ Same H H' ∧ H' d = some (.dT kvs) ∧ kvs.length ≤ 11000 * i + 11 * j ∧ UsedIs kvs (rs.take i) r.st i ((r.gs.take j).flatMap plsOf))
        ⟨kvs, v4, v5, v6, rfl, s35, s5 _ _ d3, by omega, UsedIs.start hk r.st i⟩ (fun j σ H' _ ⟨_, _, _, _, _, z, _⟩ => SqT.of (z _ _ h2)) ?_ ?_⟩
      · rintro j x σ H6 hx ⟨kvs6, v4, v5, v6, rfl, s6, d6, hl6, hk6⟩
        obtain ⟨g, rfl, hg⟩ := str_at hx
        have hgb := rv.gs g (List.mem_of_getElem? hg)
        have hjl : j < r.gs.length := (List.getElem?_eq_some_iff.mp hg).1
        have rl := rv.len
        refine ⟨fun σ H' => ∃ a : Addr, σ = [some (.ref c), some (.ref d), some (.int (0 + (i : Nat))), some (.ref t0), some (.str g), some (.ref a), v6] ∧ Same H6 H' ∧ (∀ H'', But d H' H'' → SqT K H'' a ((plsOf g).map V.str)) ∧ H' d = some (.dT kvs6), ?_, ?_⟩
        · walk_at "rd"
          by_cases hn : g = noneS
          · subst hn
            rw [decide_eq_true (show V.str noneS = V.str "none" from rfl)]
            walk_at "rd"
            refine ⟨by show 1 ≤ sizeLine; decide, fun a ha => ?_⟩
            generalize hH : upd _ a _ = H7
            obtain ⟨s7, da⟩ := new_of (o' := .tup [.str noneS]) hH ha rfl
            clear hH
            have ad : a ≠ d := (ne_of_none d6 ha).symm
            refine ⟨_, rfl, s7, fun H'' u => ?_, s7 _ _ d6⟩
            rw [show plsOf noneS = [noneS] from if_pos rfl]
            exact SqT.of (u _ _ ad da)
          · rw [decide_eq_false (show ¬ V.str g = V.str "none" from fun q => by
              have q' : g = "none" := by injection q
              exact hn q')]
            walk_at "rd"
            have hp : plsOf g = grpL g := if_neg hn
            rw [hp]
            rcases grp_names hgb with ⟨j', ps, hj, e2⟩ | ⟨hin, e2⟩
            · refine Or.inl ⟨j', ps, hj, fun u hu => ?_⟩
              rw [e2]
              exact ⟨_, rfl, Same.refl _, fun H'' _ => hu H'', d6⟩
            · refine Or.inr ⟨hin, fun a ha => ?_⟩
              generalize hH : upd _ a _ = H7
              obtain ⟨s7, da⟩ := new_of (o' := .tup [.str g]) hH ha rfl
              clear hH
              have ad : a ≠ d := (ne_of_none d6 ha).symm
              rw [e2]
              exact ⟨_, rfl, s7, fun H'' u => SqT.of (u _ _ ad da), s7 _ _ d6⟩
        rintro σ H7 ⟨a, rfl, s7, ha, d7⟩
        have fm := flat_more plsOf hg
        have pl11 := plsOf_len g
        generalize hdone : (r.gs.take j).flatMap plsOf = done at hk6 fm
        rw [fm]
        have s17 := s6.trans s7
        refine ⟨_, rfl, a, rfl, ⟨_, ha H7 (But.refl _ _)⟩, for_tup (K := K) (a := a) (xs := (plsOf g).map V.str) (fun m σ H' => ∃ (kvs : List (List Key × V)) (v6 : Option V), σ = [some (.ref c), some (.ref d), some (.int (0 + (i : Nat))), some (.ref t0), some (.str g), some (.ref a), v6] ∧ But d H7 H' ∧ Same H H' ∧ H' d = some (.dT kvs) ∧ kvs.length ≤ 11000 * i + 11 * j + m ∧ UsedIs kvs (rs.take i) r.st i (done ++ (plsOf g).take m))
          ⟨kvs6, v6, rfl, But.refl _ _, s17, d7, by omega, by rw [List.take_zero, List.append_nil]; exact hk6⟩ (fun m σ H' _ ⟨_, _, _, z, _⟩ => ha _ z) ?_ ?_⟩
        · rintro m x σ H8 hx ⟨kvs8, v6', rfl, u8, s8, d8, hl8, hk8⟩
          obtain ⟨pl, rfl, hpl⟩ := str_at hx
          have hml : m < (plsOf g).length := (List.getElem?_eq_some_iff.mp hpl).1
          walk_at "rd"
          refine ⟨.inr ⟨_, .inl d8⟩, ?_⟩
          walk_at "rd"
          refine ⟨_, _, _, _, rfl, rfl, SqT.of (s8 _ _ h1), at_any (j := 0) rfl, ?_⟩
          walk_at "rd"
          refine ⟨by show 2 ≤ sizeLine; decide, fun u hu => ?_⟩
          generalize hH : upd _ u _ = H9
          obtain ⟨s9, du⟩ := new_of (o' := .tup (([Sum.inr r.st, Sum.inr pl] : List Key).map kV)) hH hu rfl
          clear hH
          walk_at "rd"
          have d9 := s9 _ _ d8
          refine ⟨kvs8, [Sum.inr r.st, Sum.inr pl], u, d9, rfl, du, Nat.lt_of_le_of_lt (by omega : kvs8.length ≤ 2000000) (by decide), fun v hv8 => ?_, fun hv8 => ?_⟩
          · refine ⟨kvs8, _, rfl, u8.trans (Same.but s9), s8.trans s9, d9, by omega, ?_⟩
            rw [take_more hpl, ← List.append_assoc]
            exact hk8.there hv8
          · generalize hH : upd _ d _ = H10
            obtain ⟨u10, d10⟩ := chg_of (o' := .dT (putK kvs8 [Sum.inr r.st, Sum.inr pl] (.int (i : Nat)))) hH (by rw [Int.zero_add])
            clear hH
            have lp := length_putK kvs8 [Sum.inr r.st, Sum.inr pl] (V.int (i : Nat))
            refine ⟨_, _, rfl, (u8.trans (Same.but s9)).trans u10, fun b o q => u10 _ _ (ne_of_none q hd) (s9 _ _ (s8 _ _ q)), d10, by omega, ?_⟩
            rw [take_more hpl, ← List.append_assoc]
            exact hk8.put hv8
        · rintro σ H8 ⟨kvs8, v6', rfl, u8, s8, d8, hl8, hk8⟩
          rw [List.length_map, List.take_length] at hk8
          rw [List.length_map] at hl8
          exact ⟨kvs8, _, _, _, rfl, s8, d8, by omega, hk8⟩
      · rintro σ H6 ⟨kvs6, v4, v5, v6, rfl, s6, d6, hl6, hk6⟩
        rw [List.length_map, List.take_length] at hk6
        rw [List.length_map] at hl6
        have rl := rv.len
        exact ⟨kvs6, _, _, _, _, _, rfl, s6, d6, by omega, UsedIs.next hr' hk6⟩
    · rintro σ H3 ⟨kvs, v2, v3, v4, v5, v6, rfl, s3, d3, hl, hk⟩
      rw [e, List.take_length] at hk
      walk_at "rd"
      exact k d kvs H3 s3 hd d3 hk
--SPLIT
/-! ### a loop -/
def lf (c s a d : Addr) : List (Str × V) := [("_rules", .ref c), ("_states", .ref s), ("_answers", .ref a), ("_used", .ref d)]
theorem putF_end {f : Str} {v : V} : ∀ {fs : List (Str × V)}, f ∉ fs.map (·.1) → putF f v fs = fs ++ [(f, v)]
  | [], _ => rfl
  | (g, w) :: r, h => by
    rw [List.map_cons, List.mem_cons, not_or] at h
    have ih := putF_end (f := f) (v := v) h.2
    show (if g = f then (g, v) :: r else (g, w) :: putF f v r) = _
    rw [if_neg fun q => h.1 q.symm, ih]
    rfl
theorem lf_rules (c s a d : Addr) : (lf c s a d).lookup ("_rules" : Str) = some (.ref c) := by
  unfold lf
  rw [List.lookup_cons, show (("_rules" : Str) == "_rules") = true by decide +kernel]
theorem lf_states (c s a d : Addr) : (lf c s a d).lookup ("_states" : Str) = some (.ref s) := by
  unfold lf
  rw [List.lookup_cons, show (("_states" : Str) == "_rules") = false by decide +kernel]
  show List.lookup _ _ = _
  rw [List.lookup_cons, show (("_states" : Str) == "_states") = true by decide +kernel]
theorem lf_answers (c s a d : Addr) : (lf c s a d).lookup ("_answers" : Str) = some (.ref a) := by
  unfold lf
  rw [List.lookup_cons, show (("_answers" : Str) == "_rules") = false by decide +kernel]
  show List.lookup _ _ = _
  rw [List.lookup_cons, show (("_answers" : Str) == "_states") = false by decide +kernel]
  show List.lookup _ _ = _
  rw [List.lookup_cons, show (("_answers" : Str) == "_answers") = true by decide +kernel]
theorem lf_used (c s a d : Addr) : (lf c s a d).lookup ("_used" : Str) = some (.ref d) := by
  unfold lf
  rw [List.lookup_cons, show (("_used" : Str) == "_rules") = false by decide +kernel]
  show List.lookup _ _ = _
  rw [List.lookup_cons, show (("_used" : Str) == "_states") = false by decide +kernel]
  show List.lookup _ _ = _
  rw [List.lookup_cons, show (("_used" : Str) == "_answers") = false by decide +kernel]
  show List.lookup _ _ = _
  rw [List.lookup_cons, show (("_used" : Str) == "_used") = true by decide +kernel]
theorem lf_no {f : Str} (c s a d : Addr) (h : ∀ g ∈ (["_rules", "_states", "_answers", "_used"] : List Str), f ≠ g) : (lf c s a d).lookup f = none := by
  have q : ∀ g ∈ (["_rules", "_states", "_answers", "_used"] : List Str), (f == g) = false := fun g hg => by simpa using h g hg
  unfold lf
  rw [List.lookup_cons, q "_rules" (by decide +kernel)]
  show List.lookup _ _ = _
  rw [List.lookup_cons, q "_states" (by decide +kernel)]
  show List.lookup _ _ = _
  rw [List.lookup_cons, q "_answers" (by decide +kernel)]
  show List.lookup _ _ = _
  rw [List.lookup_cons, q "_used" (by decide +kernel)]
  rfl
def UsedAll (kvs : List (List Key × V)) (rs : List Rul) : Prop := ∀ z pl : Str, valV kvs [Sum.inr z, Sum.inr pl] = (fitIx rs z pl).map fun n => V.int (n : Nat)
/-- a Loop of the class at C stands at p -/
structure LoopIs (C : Addr) (H : Hp) (p : Addr) (rs : List Rul) (as : List (Str × Str)) (dx c s a d : Addr) (ys : List V) (kvs : List (List Key × V)) : Prop where
  ob : H p = some (.ins C dx (lf c s a d))
  ru : H c = some (.tup ys)
  rt : RulesT H ys rs
  st : H s = some (.tup ((statesOf rs).map V.str))
  an : H a = some (.tup (((statesOf rs).map (ansOf as)).map V.str))
  us : H d = some (.dT kvs)
  ua : UsedAll kvs rs
def LoopAt (C : Addr) (H : Hp) (p : Addr) (rs : List Rul) (as : List (Str × Str)) : Prop := ∃ dx c s a d ys kvs, LoopIs C H p rs as dx c s a d ys kvs
theorem LoopIs.same {C : Addr} {H H' : Hp} {p : Addr} {rs : List Rul} {as : List (Str × Str)} {dx c s a d : Addr} {ys : List V} {kvs : List (List Key × V)} (h : LoopIs C H p rs as dx c s a d ys kvs) (e : Same H H') : LoopIs C H' p rs as dx c s a d ys kvs :=
  ⟨e _ _ h.ob, e _ _ h.ru, paired_map (fun _ _ z => z.same e) h.rt, e _ _ h.st, e _ _ h.an, e _ _ h.us, h.ua⟩
theorem LoopAt.same {C : Addr} {H H' : Hp} {p : Addr} {rs : List Rul} {as : List (Str × Str)} (h : LoopAt C H p rs as) (e : Same H H') : LoopAt C H' p rs as := by
  obtain ⟨dx, c, s, a, d, ys, kvs, h⟩ := h
  exact ⟨dx, c, s, a, d, ys, kvs, h.same e⟩
/-- what stands at q is a list -/
theorem LoopAt.but {C : Addr} {H H' : Hp} {p q : Addr} {xs : List V} {rs : List Rul} {as : List (Str × Str)} (h : LoopAt C H p rs as) (hq : H q = some (.lst xs)) (e : But q H H') : LoopAt C H' p rs as := by
  obtain ⟨dx, c, s, a, d, ys, kvs, h⟩ := h
  have ne : ∀ {b : Addr} {o : HO}, H b = some o → (∀ l, o ≠ .lst l) → b ≠ q := fun hb ho z => by
    rw [z, hq] at hb
    exact ho xs (Option.some.inj hb).symm
  exact ⟨dx, c, s, a, d, ys, kvs, e _ _ (ne h.ob fun l z => by cases z) h.ob, e _ _ (ne h.ru fun l z => by cases z) h.ru, paired_map (fun _ _ z => z.but (fun ys y => by rw [hq] at y; cases y) e) h.rt, e _ _ (ne h.st fun l z => by cases z) h.st, e _ _ (ne h.an fun l z => by cases z) h.an, e _ _ (ne h.us fun l z => by cases z) h.us, h.ua⟩
def spLoopInit (K : PySem.W.Frag) (C : Addr) : Sp := fun vs H Q _ => ∃ (p dx : Addr) (b : Bool) (l : Addr) (v : V) (xs : List V) (rs : List Rul) (as : List (Str × Str)), vs = [.ref p, .ref l, v] ∧ H p = some (.ins C dx []) ∧ SqB K b H l xs ∧ RulesIn H xs rs ∧ RulsV rs ∧ AnsAt H v as ∧ AnsV (statesOf rs) as ∧
  ∀ H', But p H H' → LoopAt C H' p rs as → Q .non H'
/-- the error is raised: of the class at C, its own new dict holds the value -/
def Refus (C : Addr) (f : Str) (v : V) (H : Hp) (E : XK) : Prop := ∀ d : Addr, H d = none → E (.ref C) (some d) (upd H d (.xd [(f, v)]))
def optV : Option Nat → V
  | none => .non
  | some n => .int (n : Nat)
def spFitting (C CU CB : Addr) : Sp := fun vs H Q E => ∃ (p : Addr) (sv wv : V) (rs : List Rul) (as : List (Str × Str)), vs = [.ref p, sv, wv] ∧ LoopAt C H p rs as ∧
  ((((∃ z : Str, sv = .str z ∧ z ∉ statesOf rs) ∨ ∃ d, OddV H sv d) ∧ Refus CU "state" sv H E) ∨
   ∃ z : Str, sv = .str z ∧ z ∈ statesOf rs ∧ ((((∃ y : Str, wv = .str y ∧ y ∉ placesL ∧ y ≠ noneS) ∨ ∃ d, OddV H wv d) ∧ Refus CB "group" wv H E) ∨
     ∃ y : Str, wv = .str y ∧ (y ∈ placesL ∨ y = noneS) ∧ ∀ H', Same H H' → Q (optV (fitIx rs z y)) H'))
theorem ok_Loop__init (T : Txt P w K mg) : FnOk P w K mg base CX0 5 T.f_Loop__init T.d_Loop__init ["self", "rules", "answers"] (spLoopInit K T.C_Loop) := by
  refine T.F_Loop__init.ok sc_Loop__init (fun vs H Q E h => ?_) (fun cdv A outer s H vs Q E hr h => ?_)
  · obtain ⟨p, dx, b, l, v, xs, rs, as, rfl, _⟩ := h
    rfl
  · obtain ⟨p, dx, b, l, v, xs, rs, as, rfl, hp, hS, hin, hv, ha, hav, k⟩ := h
    refine ⟨_, (pss_cons (ps_asg (pe_call (ok_checked_rules T) (hr.mono (by decide)) (by rfl) T.m_checked_rules T.F_checked_rules.kp T.b_checked_rules .nil pass0 (pa_cons (pv 1) pa_nil)) (pg_tup (by rfl) (pgs_cons (pg_name (i := 3) sc_Loop__init.nd rfl (Or.inl rfl)) (pgs_cons (pg_name (i := 4) sc_Loop__init.nd rfl (Or.inl rfl)) pgs_nil))))
      (pss_cons (ps_set (i := 5) sc_Loop__init.nd rfl (Or.inl rfl) (pe_call (ok_checked_answers T) (hr.mono (by decide)) (by rfl) T.m_checked_answers T.F_checked_answers.kp T.b_checked_answers .nil pass0 (pa_cons (pv 4) (pa_cons (pv 2) pa_nil))))
      (pss_cons (ps_fld (pv 0) (pv 3) rfl)
      (pss_cons (ps_fld (pv 0) (pv 4) rfl)
      (pss_cons (ps_fld (pv 0) (pv 5) rfl)
      (pss_one (ps_fld (pv 0) (pe_call (ok_used_rules T) (hr.mono (by decide)) (by rfl) T.m_used_rules T.F_used_rules.kp T.b_used_rules .nil pass0 (pa_cons (pv 3) pa_nil)) rfl))))))), ?_⟩
    walk_at "rd"
    refine ⟨b, l, xs, rs, rfl, hS, hin, hv, fun q c s ys H1 s1 hq hc hT hs => ?_⟩
    refine ⟨_, _, rfl, SqT.of hq, rfl, ?_⟩
    walk_at "rd"
    have ha1 : AnsAt H1 v as := ha.elim (fun h => .inl h) fun ⟨a, e, h⟩ => .inr ⟨a, e, s1 _ _ h⟩
    refine ⟨s, v, statesOf rs, as, rfl, hs, ha1, hav, hv.sts, fun a H2 s2 h2 => ?_⟩
    have p2 := s2 _ _ (s1 _ _ hp)
    walk_at "rd"
    refine ⟨p, _, dx, _, rfl, p2, T.cl_Loop, T.na_Loop_rules, by show 0 < 1000; decide, ?_⟩
    generalize hH : upd _ p _ = H3
    obtain ⟨u3, p3⟩ := chg_of (o' := .ins T.C_Loop dx [("_rules", .ref c)]) hH rfl
    clear hH
    walk_at "rd"
    refine ⟨p, _, dx, _, rfl, p3, T.cl_Loop, T.na_Loop_states, by show 1 < 1000; decide, ?_⟩
    generalize hH : upd _ p _ = H4
    obtain ⟨u4, p4⟩ := chg_of (o' := .ins T.C_Loop dx [("_rules", .ref c), ("_states", .ref s)]) hH (congrArg (HO.ins T.C_Loop dx) (putF_end (show ("_states" : Str) ∉ (["_rules"] : List Str) by decide +kernel)))
    clear hH
    walk_at "rd"
    refine ⟨p, _, dx, _, rfl, p4, T.cl_Loop, T.na_Loop_answers, by show 2 < 1000; decide, ?_⟩
    generalize hH : upd _ p _ = H5
    obtain ⟨u5, p5⟩ := chg_of (o' := .ins T.C_Loop dx [("_rules", .ref c), ("_states", .ref s), ("_answers", .ref a)]) hH (congrArg (HO.ins T.C_Loop dx) (putF_end (show ("_answers" : Str) ∉ (["_rules", "_states"] : List Str) by decide +kernel)))
    clear hH
    walk_at "rd"
    have u25 : But p H2 H5 := (u3.trans u4).trans u5
    have nt : ∀ ys, H2 p ≠ some (.tup ys) := fun ys q => by rw [p2] at q; cases q
    have hc2 := s2 _ _ hc
    have hT2 : RulesT H2 ys rs := paired_map (fun _ _ z => z.same s2) hT
    have hs2 := s2 _ _ hs
    have cp : c ≠ p := fun q => nt _ (q ▸ hc2)
    have sp : s ≠ p := fun q => nt _ (q ▸ hs2)
    have ap : a ≠ p := fun q => nt _ (q ▸ h2)
    have hT5 : RulesT H5 ys rs := paired_map (fun _ _ z => z.but nt u25) hT2
    refine ⟨c, ys, rs, rfl, u25 _ _ cp hc2, hT5, hv, fun d kvs H6 s6 hd h6 hk => ?_⟩
    walk_at "rd"
    have p6 := s6 _ _ p5
    refine ⟨p, _, dx, _, rfl, p6, T.cl_Loop, T.na_Loop_used, by show 3 < 1000; decide, ?_⟩
    generalize hH : upd _ p _ = H7
    obtain ⟨u7, p7⟩ := chg_of (o' := .ins T.C_Loop dx (lf c s a d)) hH (congrArg (HO.ins T.C_Loop dx) (putF_end (show ("_used" : Str) ∉ (["_rules", "_states", "_answers"] : List Str) by decide +kernel)))
    clear hH
    have nt6 : ∀ ys, H6 p ≠ some (.tup ys) := fun ys q => by rw [p6] at q; cases q
    have dp : d ≠ p := (ne_of_none p5 hd).symm
    have u27 : But p H2 H7 := (u25.trans (Same.but s6)).trans u7
    exact k H7 (((Same.but s1).trans (Same.but s2)).trans u27) ⟨dx, c, s, a, d, ys, kvs, p7, u27 _ _ cp hc2, paired_map (fun _ _ z => z.but nt u27) hT2, u27 _ _ sp hs2, u27 _ _ ap h2, u7 _ _ dp h6, hk⟩
theorem ok_Loop_states (T : Txt P w K mg) : FnOk P w K mg base CX0 1 T.f_Loop_states T.d_Loop_states ["self"] (getSp T.C_Loop "_states") := by
  refine T.F_Loop_states.ok sc_Loop_states (fun vs H Q E h => ?_) (fun cdv A outer s H vs Q E hr h => ?_)
  · obtain ⟨a, dx, fs, v, rfl, _⟩ := h
    rfl
  · obtain ⟨a, dx, fs, v, rfl, ha, hl, k⟩ := h
    refine ⟨_, (pss_one (ps_ret (pe_fld (pv 0) rfl))), ?_⟩
    exact ⟨_, rfl, a, _, dx, fs, v, rfl, ha, T.cl_Loop, T.na_Loop_states, hl, k⟩
theorem ok_Loop_fitting (T : Txt P w K mg) : FnOk P w K mg base (L2.CX P w) 3 T.f_Loop_fitting T.d_Loop_fitting ["self", "state", "place"] (spFitting T.C_Loop T.C_UnknownState T.C_BadGroup) := by
  refine T.F_Loop_fitting.okX sc_Loop_fitting (fun vs H Q E h => ?_) (fun cdv A outer s H vs Q E hr h => ?_)
  · obtain ⟨p, sv, wv, rs, as, rfl, _⟩ := h
    rfl
  · obtain ⟨p, sv, wv, rs, as, rfl, ⟨dx, c, st, a, d, ys, kvs, L⟩, h⟩ := h
    refine ⟨_, (pss_cons (ps_if (PW.pt (pw_or (pt_not (pt_val (pe_callB call_isi (by rfl) T.m_isinstance (by decide +kernel) (pa_cons (pv 1) (pa_cons (pe_bltn (v := .ty "str") (by rfl) T.m_str (by decide +kernel) rfl) pa_nil))))) (pw_or1 (pt_cmpR op_notIn_seq (pv 1) (pe_fld (pv 0) rfl) (by rfl)))))
      (pss_one (ps_raiseSup rfl T.er_UnknownState T.fn_UnknownState hr (takes_of rfl rfl rfl rfl) (by exact (pa_cons (pv 1) pa_nil)) rfl))
      pss_nil)
      (pss_cons (ps_if (PW.pt (pw_and (pt_not (pt_val (pe_call (ok_is_place T) (hr.mono (by decide)) (by rfl) T.m_is_place T.F_is_place.kp T.b_is_place .nil pass0 (pa_cons (pv 2) pa_nil)))) (pw_and1 (pt_not (PW.pt (pw_and (pt_val (pe_callB call_isi (by rfl) T.m_isinstance (by decide +kernel) (pa_cons (pv 2) (pa_cons (pe_bltn (v := .ty "str") (by rfl) T.m_str (by decide +kernel) rfl) pa_nil)))) (pw_and1 (pt_cmpR op_eq (pv 2) pe_str (nomark _)))))))))
      (pss_one (ps_raiseSup rfl T.er_BadGroup T.fn_BadGroup hr (takes_of rfl rfl rfl rfl) (by exact (pa_cons (pv 2) pa_nil)) rfl))
      pss_nil)
      (pss_one (ps_ret (pe_dget1 (hu_of hr) (pe_fld (pv 0) rfl) (pe_tup (pa_cons (pv 1) (pa_cons (pv 2) pa_nil))) ⟨rfl, rfl, rfl, rfl⟩))))), ?_⟩
    have lst := lf_states c st a d
    have lus := lf_used c st a d
    walk_at "rd"
    rcases h with ⟨hs, hE⟩ | ⟨z, rfl, hz, h⟩
    · rcases hs with ⟨z, rfl, hz⟩ | ⟨dd, o⟩
      · refine ⟨_, _, _, _, true, rfl, .ty _, .base (.str _), kit_ty (by decide +kernel), ?_⟩
        walk_at "rd"
        refine ⟨p, _, dx, _, _, rfl, L.ob, T.cl_Loop, T.na_Loop_states, lst, ?_⟩
        refine ⟨_, _, rfl, .inr (SqT.of L.st), rfl, flat_strs (statesOf rs), ?_⟩
        refine ⟨!decide (z ∈ statesOf rs), congrArg (fun b => V.bl (!b)) (inV_strs z _), ?_⟩
        rw [decide_eq_false hz]
        walk_at "rd"
        exact hE
      · obtain ⟨t, ty, kb⟩ := o.ty (K := K)
        refine ⟨_, _, _, _, false, rfl, .ty _, ty, kit_ty kb, ?_⟩
        walk_at "rd"
        exact hE
    refine ⟨_, _, _, _, true, rfl, .ty _, .base (.str _), kit_ty (by decide +kernel), ?_⟩
    walk_at "rd"
    refine ⟨p, _, dx, _, _, rfl, L.ob, T.cl_Loop, T.na_Loop_states, lst, ?_⟩
    refine ⟨_, _, rfl, .inr (SqT.of L.st), rfl, flat_strs (statesOf rs), ?_⟩
    refine ⟨!decide (z ∈ statesOf rs), congrArg (fun b => V.bl (!b)) (inV_strs z _), ?_⟩
    rw [decide_eq_true hz]
    walk_at "rd"
    rcases h with ⟨hw, hE⟩ | ⟨y, rfl, hy, k⟩
    · rcases hw with ⟨y, rfl, hy, hn⟩ | ⟨dd, o⟩
      · refine Or.inl ⟨y, rfl, ?_⟩
        rw [decide_eq_false hy]
        walk_at "rd"
        refine ⟨_, _, _, _, true, rfl, .ty _, .base (.str _), kit_ty (by decide +kernel), ?_⟩
        walk_at "rd"
        rw [decide_eq_false (show ¬ V.str y = V.str "none" from fun q => by
          have q' : y = "none" := by injection q
          exact hn q')]
        walk_at "rd"
        exact hE
      · refine Or.inr ⟨⟨dd, o⟩, ?_⟩
        walk_at "rd"
        obtain ⟨t, ty, kb⟩ := o.ty (K := K)
        refine ⟨_, _, _, _, false, rfl, .ty _, ty, kit_ty kb, ?_⟩
        walk_at "rd"
        exact hE
    · refine Or.inl ⟨y, rfl, ?_⟩
      have hnone : noneS ∉ placesL := by decide +kernel
      by_cases hp : y ∈ placesL
      · rw [decide_eq_true hp]
        walk_at "rd"
        refine ⟨p, _, dx, _, _, rfl, L.ob, T.cl_Loop, T.na_Loop_used, lus, ?_⟩
        refine ⟨_, rfl, .inr ⟨_, .inl L.us⟩, ?_⟩
        walk_at "rd"
        refine ⟨by show 2 ≤ sizeLine; decide, fun u hu => ?_⟩
        generalize hH : upd _ u _ = H1
        obtain ⟨s1, du⟩ := new_of (o' := .tup (([Sum.inr z, Sum.inr y] : List Key).map kV)) hH hu rfl
        clear hH
        refine ⟨_, DGet.t (s1 _ _ L.us) du, ?_⟩
        rw [L.ua z y]
        have e : ((fitIx rs z y).map fun n => V.int (n : Nat)).getD .non = optV (fitIx rs z y) := by cases fitIx rs z y <;> rfl
        rw [e]
        exact k H1 s1
      · have hn : y = noneS := hy.resolve_left hp
        subst hn
        rw [decide_eq_false hp]
        walk_at "rd"
        refine ⟨_, _, _, _, true, rfl, .ty _, .base (.str _), kit_ty (by decide +kernel), ?_⟩
        walk_at "rd"
        refine ⟨p, _, dx, _, _, rfl, L.ob, T.cl_Loop, T.na_Loop_used, lus, ?_⟩
        refine ⟨_, rfl, .inr ⟨_, .inl L.us⟩, ?_⟩
        walk_at "rd"
        refine ⟨by show 2 ≤ sizeLine; decide, fun u hu => ?_⟩
        generalize hH : upd _ u _ = H1
        obtain ⟨s1, du⟩ := new_of (o' := .tup (([Sum.inr z, Sum.inr noneS] : List Key).map kV)) hH hu rfl
        clear hH
        refine ⟨_, DGet.t (s1 _ _ L.us) du, ?_⟩
        rw [L.ua z noneS]
        have e : ((fitIx rs z noneS).map fun n => V.int (n : Nat)).getD .non = optV (fitIx rs z noneS) := by cases fitIx rs z noneS <;> rfl
        rw [e]
        exact k H1 s1
--SPLIT
/-- o.m(e, ..), what is raised being wished for with the slots of the frame -/
def tMethW (C : Addr) (m : Str) (sp : Sp) (E : St → XK) (ta : TE) (t : TA) : TE := fun σ H Q => ta σ H fun x H1 => ∃ a dx fs, x = V.ref a ∧ H1 a = some (.ins C dx fs) ∧ fs.lookup m = none ∧ t σ H1 fun vs H2 => sp (x :: vs) H2 Q (E σ)
theorem pe_methW {X : Cx} {CX : CXT} {k : Nat} {C f : Addr} {m : Str} {fd : FuncData} {ps : List Str} {sp : Sp} {E : St → XK} {o e : Expr} {es : List Expr} {ta : TE} {t : TA} {apos pos : Pos} {pl : Sem Bool} (he : PE X o ta) (c : Cls X.K C) (hm : Meth X.K C m f)
    (F : FnOk X.prog X.w X.K X.mg X.base CX k f fd ps sp) (hr : Room k X.A) (hb : Binds X.K fd ps []) (hx : ∀ σ, PassesAt CX X σ (E σ)) (ha : PA X (e :: es) t)
    (hst : starEach (e :: es) X.env = (false, eval e X.env) :: starEach es X.env := by rfl) (hpl : (backTo pos (starEach es X.env)).any (·.1) = false := by rfl)
    (ht : eval (.Call (.Attribute o m apos) (e :: es) [] pos) X.env = (do
      let ov ← eval o X.env
      standAt apos.atName
      let (f, first) ← holding [ov] (getMethod ov m pl)
      callWith pos f first (backTo pos (starEach (e :: es) X.env)) (backToKw pos (keywordEach [] X.env))) := by rfl) :
    PE X (.Call (.Attribute o m apos) (e :: es) [] pos) (tMethW C m sp E ta t) := by
  refine ⟨fun pins s σ H Q I h => PySem.W.methodCall_KW (pl := pl) (thn (he.run pins s σ H _ I h) fun u s1 ⟨x, H1, I1, rx, a, dx, fs, ex, ea, l, q⟩ => ?_) ht⟩
  subst ex
  cases rx
  exact getmeth_ok I1 ea c hm l (PySem.W.callWith_K (first := [.ref a]) (h₀ := X.base) I.ok.mod.kin hm.kp (thn (ha.run pos pins s1 σ H1 _ I1 q) fun us s2 ⟨vs, H2, I2, r, q2⟩ =>
    ⟨I2.kIn, run_fnS (us := .ref a :: us) (vs := .ref a :: vs) F hr hb (hx σ) I2 (.cons rfl r) q2⟩) hst hpl)
/-- _law_tried of a work that is read by tl -/
def TTried (CU CB : Addr) : (XK → Hp → VK → Prop) → Hp → VK → Prop := fun tl H Q => ∀ p, H p = none → ∀ R : VK, (∀ v H', (∀ u, H' u = none → Q (.ref u) (upd H' u (.tup [.str "told", v]))) → R v H') →
  tl (fun cls d H' => ∃ (dd : Addr) (v : V), d = some dd ∧ ((cls = .ref CU ∧ H' dd = some (.xd [("state", v)]) ∧ ∀ u, H' u = none → Q (.ref u) (upd H' u (.tup [.str "state", v]))) ∨
      (cls = .ref CB ∧ H' dd = some (.xd [("group", v)]) ∧ ∀ u, H' u = none → Q (.ref u) (upd H' u (.tup [.str "group", v])))))
    (upd H p (.tup [.str "none"])) R
theorem tried_gives {X : Cx} (T : Txt X.prog X.w X.K X.mg) {g : Addr} {cdg : Value} {q : Str} : LamX.GivesTo X ["_law_work", "_law_found", "e"] "_law_tried" (defScope s_law_tried) g cdg (defBody s_law_tried) "_law_work" q (TTried T.C_UnknownState T.C_BadGroup) := by
  intro f c' s H Q tl act hc h
  refine ⟨_, pss_cons (ps_set (i := 1) sc_law_tried.nd rfl (Or.inl rfl) (pe_tup (pa_cons pe_str pa_nil)))
    (pss_cons (ps_clauses (out := fun _ _ _ _ => False) (cs := [⟨.ref T.C_UnknownState, some 2, fun a cls d => tAsg (tTup (tCons (tC (V.str "state")) (tCons (tXf a cls d T.C_UnknownState "state" (tVar 2)) tNil))) (gName 1)⟩, ⟨.ref T.C_BadGroup, some 2, fun a cls d => tAsg (tTup (tCons (tC (V.str "group")) (tCons (tXf a cls d T.C_BadGroup "group" (tVar 2)) tNil))) (gName 1)⟩])
      (tb := fun W D σ H => ∃ Ech : XK, (∀ cls d σ' H', σ'.length = 3 → Ech cls d H' → W cls d σ' H') ∧ σ[0]? = some (some (.ref f)) ∧ H c' = some (LamX.CodeO c' q) ∧ tl Ech H fun v H' => 2 ≤ sizeLine ∧ ∀ u, H' u = none → D.nx (σ.set 1 (some (.ref u))) (upd H' u (.tup [.str "told", v])))
      rfl rfl sc_law_tried.nd L2.takes0
      (fun W pn xe tk _ => ?_)
      (.cons ⟨_, _, _, _, _, _, rfl, ⟨rfl, by decide, Or.inl T.er_UnknownState.gC⟩, (fun a oe cls d pn hz hf => by
        show PSs _ _ (tAsg (tTup (tCons (tC (V.str "state")) (tCons (tXf a cls d T.C_UnknownState "state" (tVar 2)) tNil))) (gName 1))
        exact pss_one (ps_set (i := 1) sc_law_tried.nd rfl (Or.inl rfl) (by exact (pe_tup (pa_cons pe_str (pa_cons (pe_xf T.xf_UnknownState T.fn_UnknownState.noN hz hf (pv 2)) pa_nil)))))), .inr ⟨_, _, rfl, rfl, rfl, rfl⟩⟩
      (.cons ⟨_, _, _, _, _, _, rfl, ⟨rfl, by decide, Or.inl T.er_BadGroup.gC⟩, (fun a oe cls d pn hz hf => by
        show PSs _ _ (tAsg (tTup (tCons (tC (V.str "group")) (tCons (tXf a cls d T.C_BadGroup "group" (tVar 2)) tNil))) (gName 1))
        exact pss_one (ps_set (i := 1) sc_law_tried.nd rfl (Or.inl rfl) (by exact (pe_tup (pa_cons pe_str (pa_cons (pe_xf T.xf_BadGroup T.fn_BadGroup.noN hz hf (pv 2)) pa_nil)))))), .inr ⟨_, _, rfl, rfl, rfl, rfl⟩⟩ .nil)))
    (pss_one (ps_ret (pv 1)))), ?_⟩
  · refine ⟨fun pins s' σ H' D I h' => ?_⟩
    obtain ⟨Ech, hW, h1, h2, h3⟩ := h'
    exact (pss_one (ps_set (i := 1) sc_law_tried.nd rfl (Or.inl rfl) (pe_tup (pa_cons pe_str (pa_cons (act _ pn xe Ech _ _ (takes_len tk) (fun cls d σ' H' e hl => hW cls d σ' H' hl e)) pa_nil))))).run pins s' σ H' D I ⟨h1, h2, h3⟩
  · refine ⟨by show 1 ≤ sizeLine; decide, fun p hp => ?_⟩
    refine ⟨_, fun cls d σ' H' hl e => ?_, rfl, ?_, h p hp _ (fun v H' z => ⟨by decide, fun u hu => ⟨_, rfl, z u hu⟩⟩)⟩
    · match σ', hl with
      | [x0, x1, x2], _ =>
        obtain ⟨dd, v, rfl, ⟨rfl, e2, k⟩ | ⟨rfl, e2, k⟩⟩ := e
        · refine .inl ⟨T.te_UnknownState, fun a ha => ?_⟩
          refine ⟨_, rfl, rfl, rfl, dd, _, v, rfl, e2, by simp [List.lookup], by show 2 ≤ sizeLine; decide, fun l hl => ?_⟩
          exact ⟨_, rfl, k l hl⟩
        · refine .inr ⟨T.ne_BU, .inl ⟨T.te_BadGroup, fun a ha => ?_⟩⟩
          refine ⟨_, rfl, rfl, rfl, dd, _, v, rfl, e2, by simp [List.lookup], by show 2 ≤ sizeLine; decide, fun l hl => ?_⟩
          exact ⟨_, rfl, k l hl⟩
    · rw [upd_ne (fun z => by rw [z, hp] at hc; cases hc)]
      exact hc
theorem tried_of (T : Txt P w K mg) {X : Cx} {g : Addr} {cdg : Value} {q : Str} (h1 : X.prog = P) (h2 : X.w = w) (h3 : X.K = K) (h4 : X.mg = mg) : LamX.GivesTo X ["_law_work", "_law_found", "e"] "_law_tried" (defScope s_law_tried) g cdg (defBody s_law_tried) "_law_work" q (TTried T.C_UnknownState T.C_BadGroup) := by
  subst h1 h2 h3 h4
  exact tried_gives T
--SPLIT
theorem ok_law_group (T : Txt P w K mg) : FnOk P w K mg base CX0 2 T.f_law_group T.d_law_group ["_law_name_here"] spLawGroup := by
  refine T.F_law_group.ok sc_law_group (fun vs H Q E h => ?_) (fun cdv A outer s H vs Q E hr h => ?_)
  · obtain ⟨z, rfl, _⟩ := h
    rfl
  · obtain ⟨z, rfl, k⟩ := h
    refine ⟨_, (pss_cons (ps_set (i := 1) sc_law_group.nd rfl (Or.inl rfl) (pe_call0 (ok_law_places T) (hr.mono (by decide)) (by rfl) T.m_law_places T.F_law_places.kp T.b_law_places .nil pass0))
      (pss_cons (ps_set (i := 2) sc_law_group.nd rfl (Or.inl rfl) (pe_disp (pps_cons pe_str (pv 1) (pps_cons pe_str (pe_slice sl_list (pv 1) (po_some pe_int) (po_some pe_int)) (pps_cons pe_str (pe_op op_cat (pe_slice sl_list (pv 1) po_none (po_some pe_int)) (pe_slice sl_list (pv 1) (po_some pe_int) po_none)) (pps_cons pe_str (pe_slice sl_list (pv 1) po_none (po_some pe_int)) (pps_cons pe_str (pe_slice sl_list (pv 1) (po_some pe_int) po_none) pps_nil))))) (by rfl) (by rfl) (fun z => by cases z) (by decide)))
      (pss_cons (ps_expr (pe_dupd (pv 2) (pe_disp (pps_cons pe_str (pe_slice sl_list (pv 1) po_none (po_some pe_int)) (pps_cons pe_str (pe_slice sl_list (pv 1) (po_some pe_int) po_none) (pps_cons pe_str (pe_slice sl_list (pv 1) (po_some pe_int) (po_some pe_int)) (pps_cons pe_str (pe_lst pa_nil) pps_nil)))) (by rfl) (by rfl) (fun z => by cases z) (by decide)) ⟨rfl, rfl, rfl, rfl⟩))
      (pss_one (ps_ret (pe_dget2 (hu_of hr) (pv 2) (pv 0) (pe_lst (pa_cons (pv 0) pa_nil)) ⟨rfl, rfl, rfl, rfl⟩)))))), ?_⟩
    refine ⟨rfl, fun r hr' => ?_⟩
    generalize hH : upd _ r _ = H1
    obtain ⟨s1, dr⟩ := new_of (o' := .lst (placesL.map V.str)) hH hr' rfl
    clear hH
    walk_at "rd"
    refine fun D hD => ?_
    generalize hH : upd _ D _ = H2
    obtain ⟨s2, dD⟩ := new_of (o' := .dK []) hH hD rfl
    clear hH
    walk_at "rd"
    have dr2 := s2 _ _ dr
    refine ⟨_, _, rfl, SqL.of dr2, fun a3 h3 => ?_⟩
    generalize hH : upd _ a3 _ = H3
    obtain ⟨s3, d3⟩ := new_of (o' := .lst (nearL.map V.str)) hH h3 (by kernel_rfl)
    clear hH
    have r3 := s3 _ _ dr2
    walk_at "rd"
    refine ⟨_, _, rfl, SqL.of r3, fun a4 h4 => ?_⟩
    generalize hH : upd _ a4 _ = H4
    obtain ⟨s4, d4⟩ := new_of (o' := .lst (underL.map V.str)) hH h4 (by kernel_rfl)
    clear hH
    have r4 := s4 _ _ r3
    walk_at "rd"
    refine ⟨_, _, rfl, SqL.of r4, fun a5 h5 => ?_⟩
    generalize hH : upd _ a5 _ = H5
    obtain ⟨s5, d5⟩ := new_of (o' := .lst (overL.map V.str)) hH h5 (by kernel_rfl)
    clear hH
    have r5 := s5 _ _ r4
    refine ⟨_, _, _, _, rfl, rfl, s5 _ _ d4, d5, by show 4 ≤ sizeLine; decide, fun a6 h6 => ?_⟩
    generalize hH : upd _ a6 _ = H6
    obtain ⟨s6, d6⟩ := new_of (o' := .lst ((underL ++ overL).map V.str)) hH h6 (by kernel_rfl)
    clear hH
    have r6 := s6 _ _ r5
    walk_at "rd"
    refine ⟨_, _, rfl, SqL.of r6, fun a7 h7 => ?_⟩
    generalize hH : upd _ a7 _ = H7
    obtain ⟨s7, d7⟩ := new_of (o' := .lst (lessL.map V.str)) hH h7 (by kernel_rfl)
    clear hH
    have r7 := s7 _ _ r6
    walk_at "rd"
    refine ⟨_, _, rfl, SqL.of r7, fun a8 h8 => ?_⟩
    generalize hH : upd _ a8 _ = H8
    obtain ⟨s8, d8⟩ := new_of (o' := .lst (moreL.map V.str)) hH h8 (by kernel_rfl)
    clear hH
    have r8 := s8 _ _ r7
    have e28 : Same H2 H8 := ((((s3.trans s4).trans s5).trans s6).trans s7).trans s8
    refine ⟨e28 _ _ dD, [(.inr "any", .ref r), (.inr "near", .ref a3), (.inr "far", .ref a6), (.inr "less", .ref a7), (.inr "more", .ref a8)], rfl, by show 5 ≤ 15; decide, ?_⟩
    generalize hH : upd _ D _ = H9
    obtain ⟨u9, d9⟩ := chg_of (o' := .dK [(.inr "any", .ref r), (.inr "near", .ref a3), (.inr "far", .ref a6), (.inr "less", .ref a7), (.inr "more", .ref a8)]) hH (by kernel_rfl)
    clear hH
    have rD : r ≠ D := fun q => by rw [q, hD] at dr; cases dr
    have r9 := u9 _ _ rD r8
    walk_at "rd"
    refine ⟨.inl ⟨_, .inl d9⟩, fun D2 hD2 => ?_⟩
    generalize hH : upd _ D2 _ = H10
    obtain ⟨s10, d10⟩ := new_of (o' := .dK []) hH hD2 rfl
    clear hH
    have r10 := s10 _ _ r9
    walk_at "rd"
    refine ⟨_, _, rfl, SqL.of r10, fun b1 g1 => ?_⟩
    generalize hH : upd _ b1 _ = H11
    obtain ⟨s11, d11⟩ := new_of (o' := .lst (underL.map V.str)) hH g1 (by kernel_rfl)
    clear hH
    have r11 := s11 _ _ r10
    walk_at "rd"
    refine ⟨_, _, rfl, SqL.of r11, fun b2 g2 => ?_⟩
    generalize hH : upd _ b2 _ = H12
    obtain ⟨s12, d12⟩ := new_of (o' := .lst (overL.map V.str)) hH g2 (by kernel_rfl)
    clear hH
    have r12 := s12 _ _ r11
    walk_at "rd"
    refine ⟨_, _, rfl, SqL.of r12, fun b3 g3 => ?_⟩
    generalize hH : upd _ b3 _ = H13
    obtain ⟨s13, d13⟩ := new_of (o' := .lst (cellL.map V.str)) hH g3 (by kernel_rfl)
    clear hH
    have r13 := s13 _ _ r12
    walk_at "rd"
    refine ⟨by show 0 ≤ sizeLine; decide, fun b4 g4 => ?_⟩
    generalize hH : upd _ b4 _ = H14
    obtain ⟨s14, d14⟩ := new_of (o' := .lst []) hH g4 (by kernel_rfl)
    clear hH
    have e : Same H10 H14 := ((s11.trans s12).trans s13).trans s14
    walk_at "rd"
    refine ⟨e _ _ d10, [(.inr "under", .ref b1), (.inr "over", .ref b2), (.inr "cell", .ref b3), (.inr "none", .ref b4)], rfl, by show 4 ≤ 15; decide, ?_⟩
    generalize hH : upd _ D2 _ = H15
    obtain ⟨u15, d15⟩ := chg_of (o' := .dK [(.inr "under", .ref b1), (.inr "over", .ref b2), (.inr "cell", .ref b3), (.inr "none", .ref b4)]) hH (by kernel_rfl)
    clear hH
    have DD : D ≠ D2 := fun q => by rw [← q, d9] at hD2; cases hD2
    have s9e : Same H9 H14 := s10.trans e
    refine ⟨_, _, _, rfl, u15 _ _ DD (s9e _ _ d9), d15, DD, by show 5 + 4 ≤ sizeLine; decide, ?_⟩
    generalize hH : upd _ D _ = H16
    obtain ⟨u16, d16⟩ := chg_of (o' := .dK (gdK r a3 a6 a7 a8 b1 b2 b3 b4)) hH (by kernel_rfl)
    clear hH
    walk_at "rd"
    refine ⟨.inl ⟨_, .inl d16⟩, ?_⟩
    walk_at "rd"
    refine ⟨by show 1 ≤ sizeLine; decide, fun c hc => ?_⟩
    have S9 : Same H H9 := same_but ((s1.trans s2).trans e28) u9 (s1.free hD)
    have S16 : Same H H16 := same_but (same_but (S9.trans s9e) u15 (S9.free hD2)) u16 (s1.free hD)
    have D8 : H8 D = some (.dK []) := e28 _ _ dD
    have D14 := s9e _ _ d9
    have D214 : H14 D2 = some (.dK []) := e _ _ d10
    generalize hH : upd _ c _ = H17
    obtain ⟨s17, d17⟩ := new_of (o' := .lst [.str z]) hH hc rfl
    clear hH
    have S17 : Same H H17 := S16.trans s17
    have m2 : ∀ b xs, H14 b = some (.lst xs) → H17 b = some (.lst xs) := fun b xs q =>
      s17 _ _ (u16 _ _ (fun z => by rw [z, D14] at q; cases q) (u15 _ _ (fun z => by rw [z, D214] at q; cases q) q))
    have m1 : ∀ b xs, H8 b = some (.lst xs) → H17 b = some (.lst xs) := fun b xs q => m2 b xs (s9e _ _ (u9 _ _ (fun z => by rw [z, D8] at q; cases q) q))
    refine ⟨_, DGet.k (k := .inr z) (s17 _ _ d16), ?_⟩
    clear hc dD dr
    by_cases h : z ∈ namesL
    · have pick : ∀ (y : Str) (b : Addr) (xs : List Str), z = y → valV (gdK r a3 a6 a7 a8 b1 b2 b3 b4) (Sum.inr y) = some (.ref b) →
          grpL y = xs → H17 b = some (.lst (xs.map V.str)) → Q ((valV (gdK r a3 a6 a7 a8 b1 b2 b3 b4) (Sum.inr z)).getD (.ref c)) H17 := fun y b xs e1 e2 e3 e4 => by
        subst e1
        rw [e2]
        exact k b H17 S17 (by rw [e3]; exact e4)
      simp only [namesL, List.mem_cons, List.not_mem_nil, or_false] at h
      rcases h with h | h | h | h | h | h | h | h | h
      · exact pick _ r placesL h (by kernel_rfl) (by decide +kernel) (m1 _ _ r8)
      · exact pick _ a3 nearL h (by kernel_rfl) (by decide +kernel) (m1 _ _ ((((s4.trans s5).trans s6).trans s7).trans s8 _ _ d3))
      · exact pick _ a6 (underL ++ overL) h (by kernel_rfl) (by decide +kernel) (m1 _ _ ((s7.trans s8) _ _ d6))
      · exact pick _ a7 lessL h (by kernel_rfl) (by decide +kernel) (m1 _ _ (s8 _ _ d7))
      · exact pick _ a8 moreL h (by kernel_rfl) (by decide +kernel) (m1 _ _ d8)
      · exact pick _ b1 underL h (by kernel_rfl) (by decide +kernel) (m2 _ _ (((s12.trans s13).trans s14) _ _ d11))
      · exact pick _ b2 overL h (by kernel_rfl) (by decide +kernel) (m2 _ _ ((s13.trans s14) _ _ d12))
      · exact pick _ b3 cellL h (by kernel_rfl) (by decide +kernel) (m2 _ _ (s14 _ _ d13))
      · exact pick _ b4 [] h (by kernel_rfl) (by decide +kernel) (m2 _ _ d14)
    · rw [valV_out]
      · exact k c H17 S17 (by rw [grp_out h]; exact d17)
      · intro q hq e
        have hq' : q.1 ∈ namesL.map (Sum.inr : Str → Key) := by
          exact (List.mem_map.mpr ⟨q, hq, rfl⟩ : q.1 ∈ (gdK r a3 a6 a7 a8 b1 b2 b3 b4).map (·.1))
        obtain ⟨y, hy, e2⟩ := List.mem_map.mp hq'
        rw [e] at e2
        cases e2
        exact h hy
/-! ### _law_first -/
theorem pls_of {g y : Str} (hy : y ∈ placesL ∨ y = noneS) : (g = y ∨ y ∈ grpL g) ↔ y ∈ plsOf g := by
  unfold plsOf
  by_cases h : g = noneS
  · subst h
    rw [if_pos rfl, show grpL noneS = [] by decide +kernel, List.mem_singleton]
    exact ⟨fun q => q.elim Eq.symm (fun z => nomatch z), fun q => .inl q.symm⟩
  · rw [if_neg h]
    refine ⟨fun q => q.elim (fun e => ?_) id, .inr⟩
    subst e
    have hp := hy.resolve_right h
    rw [grp_out fun q => names_no g q hp]
    exact List.mem_singleton.mpr rfl
def fitsL (y : Str) (r : Rul) : List Bool := r.gs.map fun g => decide (g = y) || decide (y ∈ grpL g)
theorem fits_any {r : Rul} {y : Str} (hy : y ∈ placesL ∨ y = noneS) : (fitsL y r).any id = decide (y ∈ rulePls r) := by
  unfold fitsL rulePls
  rw [Bool.eq_iff_iff, List.any_map, List.any_eq_true, decide_eq_true_eq, List.mem_flatMap]
  have key : ∀ g : Str, (id ∘ fun g => decide (g = y) || decide (y ∈ grpL g)) g = true ↔ y ∈ plsOf g := fun g => by
    show (decide (g = y) || decide (y ∈ grpL g)) = true ↔ _
    rw [Bool.or_eq_true, decide_eq_true_eq, decide_eq_true_eq]
    exact pls_of hy
  exact ⟨fun ⟨g, hg, q⟩ => ⟨g, hg, (key g).mp q⟩, fun ⟨g, hg, q⟩ => ⟨g, hg, (key g).mpr q⟩⟩
theorem fitIx_keep {rs : List Rul} {k n : Nat} {z y : Str} (h : fitIx (rs.take k) z y = some n) : fitIx rs z y = some n := by
  unfold fitIx at h ⊢
  rw [← List.take_append_drop k rs, List.findIdx?_append, h]
  rfl
def spFirst (K : PySem.W.Frag) : Sp := fun vs H Q _ => ∃ (H0 : Hp) (l : Addr) (xs : List V) (rs : List Rul) (z y : Str), vs = [.ref l, .str z, .str y] ∧ SqL K H l xs ∧ RulesAt H0 H xs rs ∧ (∀ r ∈ rs, r.gs.length ≤ 4) ∧ (y ∈ placesL ∨ y = noneS) ∧
  ∀ H', Same H H' → Q (optV (fitIx rs z y)) H'
theorem ok_law_first (T : Txt P w K mg) : FnOk P w K mg base CX0 3 T.f_law_first T.d_law_first ["_law_rules_here", "_law_state", "_law_where"] (spFirst K) := by
  refine T.F_law_first.ok sc_law_first (fun vs H Q E h => ?_) (fun cdv A outer s H vs Q E hr h => ?_)
  · obtain ⟨H0, l, xs, rs, z, y, rfl, _⟩ := h
    rfl
  · obtain ⟨H0, l, xs, rs, z, y, rfl, hS, hat, hlen, hy, k⟩ := h
    refine ⟨_, (pss_cons (ps_for PassesOwn.never rfl (pi_enumB (by rfl) T.m_enumerate (pa_cons (pv 0) pa_nil)) (pg_tup (by rfl) (pgs_cons (pg_name (i := 3) sc_law_first.nd rfl (Or.inl rfl)) (pgs_cons (pg_name (i := 4) sc_law_first.nd rfl (Or.inl rfl)) pgs_nil)))
      (pss_cons (ps_setLc (i := 5) (own := [("_law_name_here", 6)]) (by rfl) sc_law_first.nd rfl rfl (sw_true rfl rfl rfl (by decide +kernel)) (pi_list (pe_ix ix_tup (pv 4) pe_int (fun _ _ => rfl))) (blkOk_by (own := [("_law_name_here", 6)]) (N := ["_law_rules_here", "_law_state", "_law_where", "_law_k", "_law_rule", "_law_fits", "_law_name_here"]) (sc := defScope s_law_first) (by decide +kernel)) (fun _ _ _ _ _ => (pg_name (i := 6) sc_law_first.nd rfl (Or.inl rfl))) (fun _ _ _ _ _ => pts_nil) (fun _ _ _ _ _ => (pe_or (pe_cmpR op_eq (pv 6) (pv 2) (nomark _)) (pe_one (pe_cmpR (show OpR _ _ (rIn K false) from op_in_seq) (pv 2) (pe_call (ok_law_group T) (hr.mono (by decide)) (by rfl) T.m_law_group T.F_law_group.kp T.b_law_group .nil pass0 (pa_cons (pv 6) pa_nil)) (by rfl))))))
      (pss_one (ps_if (PW.pt (pw_and (pt_cmpR op_eq (pe_ix ix_tup (pv 4) pe_int (fun _ _ => rfl)) (pv 1) (nomark _)) (pw_and1 (pt_val (pe_callB (cr_any rfl) (by rfl) T.m_any (by decide +kernel) (pa_cons (pv 5) pa_nil))))))
      (pss_one (ps_ret (pv 3)))
      pss_nil))))
      (pss_one (ps_ret pe_non))), ?_⟩
    have e := Paired.length hat
    refine ⟨_, rfl, true, l, xs, rfl, hS, ?_⟩
    refine for_it (walk_enumB (K := K) (a := l) (xs := xs) (b := true) (c := 0)) (fun i σ H' => ∃ (v3 v4 v5 v6 : Option V), σ = [some (.ref l), some (.str z), some (.str y), v3, v4, v5, v6] ∧ Same H H' ∧ fitIx (rs.take i) z y = none)
      ⟨none, none, none, none, rfl, Same.refl _, rfl⟩ (fun i σ H' _ ⟨_, _, _, _, _, z, _⟩ => z.seq hS) ?_ ?_
    · rintro i x σ H3 H4 hi ⟨v3, v4, v5, v6, rfl, s3, hno⟩ ⟨t, x, w, rfl, ht, rfl, hx, hw⟩
      cases hx
      obtain ⟨r, hr', t0, g0, rfl, h1, h2, _⟩ := paired_at hat hw
      have rl := hlen r (List.mem_of_getElem? hr')
      generalize hH : upd _ t _ = H5
      obtain ⟨s5, dt⟩ := new_of (o' := .tup [.int (0 + (i : Nat)), .ref t0]) hH ht rfl
      clear hH
      refine ⟨_, _, rfl, SqT.of dt, rfl, ?_⟩
      walk_at "rd"
      have s35 := s3.trans s5
      refine ⟨_, _, _, _, rfl, rfl, SqT.of (s35 _ _ h1), at_any (j := 1) rfl, ?_⟩
      walk_at "rd"
      refine ⟨⟨_, SqL.of (s35 _ _ h2)⟩, fun D hD => ?_⟩
      refine lc_list (K := K) (a := g0) (xs := r.gs.map V.str) (fun j H' => Same H5 H' ∧ H' D = some (.lst (((fitsL y r).take j).map V.bl))) ⟨Same.new hD, upd_same⟩ (fun j H' _ q => q.1.seq (SqL.of (s35 _ _ h2))) ?_ ?_
      · rintro j x H6 hx ⟨s6, d6⟩
        obtain ⟨g, rfl, hg⟩ := str_at hx
        refine ⟨rfl, ?_⟩
        have fin : ∀ (H' : Hp), Same H6 H' → ∃ acc, H' D = some (.lst acc) ∧ acc.length < sizeLine ∧ Same H5 (upd H' D (.lst (acc ++ [V.bl (decide (g = y) || decide (y ∈ grpL g))]))) ∧ upd H' D (.lst (acc ++ [V.bl (decide (g = y) || decide (y ∈ grpL g))])) D = some (.lst (((fitsL y r).take (j + 1)).map V.bl)) := fun H' e => by
          refine ⟨_, e _ _ d6, ?_, ?_, ?_⟩
          · unfold fitsL
            rw [List.length_map, List.length_take, List.length_map]
            exact Nat.lt_of_le_of_lt (by omega : _ ≤ 4) (by decide)
          · exact fun b o q => by
              rw [upd_ne (fun z => by rw [z, hD] at q; cases q)]
              exact e _ _ (s6 b o q)
          · rw [upd_same]
            unfold fitsL
            rw [← List.map_take, ← List.map_take, take_more hg, List.map_append, List.map_append]
            rfl
        walk_at "rd"
        by_cases hgy : g = y
        · have q := fin H6 (Same.refl _)
          rw [decide_eq_true hgy] at q
          rw [decide_eq_true (congrArg V.str hgy)]
          refine iteT ?_
          exact q
        · rw [decide_eq_false (show ¬ V.str g = V.str y from fun q => hgy (by injection q))]
          refine iteF ?_
          walk_at "rd"
          refine fun a7 H7 s7 d7 => ?_
          refine ⟨_, _, rfl, .inl (SqL.of d7), rfl, flat_strs _, ?_⟩
          have q := fin H7 s7
          rw [decide_eq_false hgy] at q
          rw [← inV_strs] at q
          exact q
      · rintro H6 ⟨s6, d6⟩
        rw [List.length_map, show (fitsL y r).take r.gs.length = fitsL y r by unfold fitsL; rw [← List.map_take, List.take_length]] at d6
        walk_at "rd"
        refine ⟨_, _, _, _, rfl, rfl, SqT.of (s6 _ _ (s35 _ _ h1)), at_any (j := 0) rfl, ?_⟩
        walk_at "rd"
        have more := fitIx_more hr' z y
        rw [hno, Option.none_or] at more
        have s37 := s35.trans s6
        by_cases hz : r.st = z
        · rw [decide_eq_true (congrArg V.str hz)]
          refine iteT ?_
          walk_at "rd"
          refine ⟨_, _, rfl, SqL.of d6, ?_⟩
          rw [fits_any hy]
          by_cases hp : y ∈ rulePls r
          · rw [decide_eq_true hp]
            walk_at "rd"
            have ff : fitR z y r = true := by
              unfold fitR
              rw [decide_eq_true hz, decide_eq_true hp]
              rfl
            rw [if_pos ff] at more
            have q := k H6 s37
            rw [fitIx_keep more] at q
            rw [Int.zero_add]
            exact q
          · rw [decide_eq_false hp]
            walk_at "rd"
            refine ⟨_, _, _, _, rfl, s37, ?_⟩
            rw [more, if_neg]
            unfold fitR
            rw [decide_eq_false hp, Bool.and_false]
            decide
        · rw [decide_eq_false (show ¬ V.str r.st = V.str z from fun q => hz (by injection q))]
          refine iteF ?_
          walk_at "rd"
          refine ⟨_, _, _, _, rfl, s37, ?_⟩
          rw [more, if_neg]
          unfold fitR
          rw [decide_eq_false hz, Bool.false_and]
          decide
    · rintro σ H3 ⟨v3, v4, v5, v6, rfl, s3, hno⟩
      walk_at "rd"
      rw [e, List.take_length] at hno
      have q := k H3 s3
      rw [hno] at q
      exact q
--SPLIT
/-! ### k08: the law's own -/
theorem RuleT.ext {H H' : Hp} {v : V} {r : Rul} (h : RuleT H v r) (e : LamX.ExtN H H') : RuleT H' v r := by
  obtain ⟨t, g, h1, h2, h3⟩ := h
  exact ⟨t, g, h1, e _ _ h2 (fun ps z => by cases z), e _ _ h3 (fun ps z => by cases z)⟩
theorem RuleAt.ext {H0 H H' : Hp} {v : V} {r : Rul} (h : RuleAt H0 H v r) (e : LamX.ExtN H H') : RuleAt H0 H' v r := by
  obtain ⟨t, g, h1, h2, h3, h4⟩ := h
  exact ⟨t, g, h1, e _ _ h2 (fun ps z => by cases z), e _ _ h3 (fun ps z => by cases z), h4⟩
theorem rules_ext {H0 H H' : Hp} {xs : List V} {rs : List Rul} (h : RulesAt H0 H xs rs) (e : LamX.ExtN H H') : RulesAt H0 H' xs rs := paired_map (fun _ _ h => h.ext e) h
theorem LoopAt.ext {C : Addr} {H H' : Hp} {p : Addr} {rs : List Rul} {as : List (Str × Str)} (h : LoopAt C H p rs as) (e : LamX.ExtN H H') : LoopAt C H' p rs as := by
  obtain ⟨dx, c, s, a, d, ys, kvs, h⟩ := h
  have n1 : ∀ {b : Addr} {o : HO}, H b = some o → (∀ ps, o ≠ .tbl ps) → H' b = some o := fun h n => e _ _ h n
  exact ⟨dx, c, s, a, d, ys, kvs, n1 h.ob (fun ps z => by cases z), n1 h.ru (fun ps z => by cases z), paired_map (fun _ _ z => z.ext e) h.rt, n1 h.st (fun ps z => by cases z), n1 h.an (fun ps z => by cases z), n1 h.us (fun ps z => by cases z), h.ua⟩
theorem addS_mem {acc : List Str} {z y : Str} (h : y ∈ addS acc z) : y ∈ acc ∨ y = z := by
  unfold addS at h
  split at h
  · exact .inl h
  · exact (List.mem_append.mp h).imp id List.mem_singleton.mp
theorem addS_nd {acc : List Str} {z : Str} (h : acc.Nodup) : (addS acc z).Nodup := by
  unfold addS
  split
  · exact h
  · rename_i q
    exact nd_snoc h q
theorem states_in {zs : List Str} : ∀ (rs : List Rul) (acc : List Str), acc.Nodup → (∀ y ∈ acc, y ∈ zs) → (∀ r ∈ rs, r.st ∈ zs ∧ r.nx ∈ zs) →
    (rs.foldl (fun acc r => addS (addS acc r.st) r.nx) acc).Nodup ∧ ∀ y ∈ rs.foldl (fun acc r => addS (addS acc r.st) r.nx) acc, y ∈ zs
  | [], acc, nd, h, _ => ⟨nd, h⟩
  | r :: rs, acc, nd, h, hr => by
    rw [List.foldl_cons]
    have h1 := hr r List.mem_cons_self
    refine states_in rs _ (addS_nd (addS_nd nd)) (fun y hy => ?_) fun q hq => hr q (List.mem_cons_of_mem _ hq)
    rcases addS_mem hy with hy | rfl
    · rcases addS_mem hy with hy | rfl
      · exact h y hy
      · exact h1.1
    · exact h1.2
theorem nd_le : ∀ {l zs : List Str}, l.Nodup → (∀ y ∈ l, y ∈ zs) → l.length ≤ zs.length
  | [], _, _, _ => Nat.zero_le _
  | a :: r, zs, nd, h => by
    obtain ⟨n1, n2⟩ := List.nodup_cons.mp nd
    have ha := h a List.mem_cons_self
    have ih := nd_le (l := r) (zs := zs.erase a) n2 fun y hy => (List.mem_erase_of_ne (fun (e : y = a) => n1 (by rw [← e]; exact hy))).mpr (h y (List.mem_cons_of_mem _ hy))
    rw [List.length_erase_of_mem ha] at ih
    have := List.length_pos_of_mem ha
    rw [List.length_cons]
    omega
theorem states_ok {zs : List Str} {rs : List Rul} (h : ∀ r ∈ rs, r.st ∈ zs ∧ r.nx ∈ zs) : (∀ y ∈ statesOf rs, y ∈ zs) ∧ (statesOf rs).length ≤ zs.length := by
  have q := states_in (zs := zs) rs [] List.nodup_nil (fun y hy => nomatch hy) h
  exact ⟨q.2, nd_le q.1 q.2⟩
theorem addS_has (acc : List Str) (z : Str) : z ∈ addS acc z := by
  unfold addS
  split
  · rename_i q
    exact q
  · exact List.mem_append_right _ (List.mem_singleton.mpr rfl)
theorem addS_keep {acc : List Str} {z y : Str} (h : y ∈ acc) : y ∈ addS acc z := by
  unfold addS
  split
  · exact h
  · exact List.mem_append_left _ h
theorem states_keep {y : Str} : ∀ (rs : List Rul) (acc : List Str), y ∈ acc → y ∈ rs.foldl (fun acc r => addS (addS acc r.st) r.nx) acc
  | [], _, h => h
  | r :: rs, acc, h => by
    rw [List.foldl_cons]
    exact states_keep rs _ (addS_keep (addS_keep h))
theorem states_pos (r : Rul) (rs : List Rul) : 0 < (statesOf (r :: rs)).length := by
  refine List.length_pos_of_mem (a := r.st) ?_
  show r.st ∈ (r :: rs).foldl _ []
  rw [List.foldl_cons]
  exact states_keep rs _ (addS_keep (addS_has _ _))
theorem words_name : ∀ z ∈ wordsL, nameB z = true := by decide +kernel
theorem names_grp : ∀ g ∈ namesL ++ placesL, grpB g = true := by decide +kernel
theorem RuleOk.v {zs : List Str} {b : Bool} {r : Rul} (hz : ∀ z ∈ zs, IsName z) (h : RuleOk zs b r) : RulV r :=
  ⟨hz _ h.st, nameB_iff.mp (words_name _ h.wd), hz _ h.nx, h.gs.ne, Nat.le_trans h.gs.len (by decide), fun g hg => names_grp g (h.gs.mem g hg)⟩
theorem RulesOk.all1 {zs : List Str} {r0 : Rul} {rs : List Rul} (h : RulesOk zs r0 rs) : ∀ r ∈ r0 :: rs, RuleOk zs false r := fun r hr => by
  rcases List.mem_cons.mp hr with rfl | q
  · exact h.head.any
  · exact h.all r q
theorem RulesOk.v {zs : List Str} {r0 : Rul} {rs : List Rul} (h : RulesOk zs r0 rs) (hz : zs.length ≤ 6) (hl : rs.length < 40) : RulsV (r0 :: rs) :=
  ⟨fun r hr => (h.all1 r hr).v h.name, by rw [List.length_cons]; omega, by rw [List.length_cons]; omega, Nat.le_trans (states_ok (zs := zs) fun r hr => ⟨(h.all1 r hr).st, (h.all1 r hr).nx⟩).2 hz⟩
theorem RulesOk.stn {zs : List Str} {r0 : Rul} {rs : List Rul} (h : RulesOk zs r0 rs) : ∀ y ∈ statesOf (r0 :: rs), IsName y := fun y hy =>
  h.name y ((states_ok (zs := zs) fun r hr => ⟨(h.all1 r hr).st, (h.all1 r hr).nx⟩).1 y hy)
theorem ansV_nil (zs : List Str) : AnsV zs [] := ⟨(fun p h => nomatch h), by decide, fun z _ => Or.inr rfl⟩
def optD : Option Nat → PyData
  | none => .none
  | some n => .int (n : Nat)
theorem optD_dp {K : PySem.W.Frag} {H : Hp} (o : Option Nat) : Dp K H (optV o) (optD o) := by
  cases o with
  | none => exact .non
  | some n => exact .int _
theorem optD_lay (o : Option Nat) : (optD o).canLay0 = true := by
  cases o <;> rfl
theorem optD_depth (o : Option Nat) : (optD o).depth ≤ 2 := by
  cases o <;> simp [optD, PyData.depth]
theorem shaped_pair {z : Str} {d : PyData} (hz : PyData.strOk z = true) (h1 : d.canLay0 = true) (h2 : d.depth ≤ 2) : SeqAt.shaped (.tuple [.str z, d]) = true :=
  shaped_of (by rw [PyData.canLay0, PyData.canLayAll0, PyData.canLayAll0, h1, PyData.canLay0, hz]; rfl) (by simp [PyData.depth, PyData.depthAll]; omega)
theorem eqv_pair {z : Str} {d : PyData} (hz : PyData.strOk z = true) (h1 : d.canLay0 = true) : PyData.eqv (.tuple [.str z, d]) (.tuple [.str z, d]) = true :=
  SeqAt.eqv_refl _ (by rw [PyData.canLay0, PyData.canLayAll0, PyData.canLayAll0, h1, PyData.canLay0, hz]; rfl)
/-- a text that is not of zs, or a value that is no text -/
def BadT (zs : List Str) (H : Hp) (v : V) : Prop := (∃ z : Str, v = .str z ∧ z ∉ zs ∧ PyData.strOk z = true) ∨ ∃ d, OddV H v d
theorem BadT.mv {zs : List Str} {H H' : Hp} {v : V} (o : BadT zs H v) (e : ∀ b u, (∀ ps, u ≠ .tbl ps) → H b = some u → H' b = some u) : BadT zs H' v := by
  rcases o with o | ⟨d, o⟩
  · exact .inl o
  · exact .inr ⟨d, o.mv e⟩
theorem BadT.same {zs : List Str} {H H' : Hp} {v : V} (o : BadT zs H v) (e : Same H H') : BadT zs H' v := o.mv fun b u _ q => e b u q
theorem BadT.ext {zs : List Str} {H H' : Hp} {v : V} (o : BadT zs H v) (e : LamX.ExtN H H') : BadT zs H' v := o.mv fun b u n q => e b u q n
theorem BadT.dp {zs : List Str} {K : PySem.W.Frag} {H : Hp} {v : V} (o : BadT zs H v) : ∃ d, (∀ H', LamX.ExtN H H' → Dp K H' v d) ∧ d.canLay0 = true ∧ d.depth ≤ 2 := by
  rcases o with ⟨z, rfl, _, hz⟩ | ⟨d, o⟩
  · exact ⟨.str z, fun _ _ => .str z, by rw [PyData.canLay0]; exact hz, by simp [PyData.depth]⟩
  · refine ⟨d, fun H' e => ?_, ?_, ?_⟩
    · cases o with
      | non => exact .non
      | int i => exact .int i
      | lst h ok => exact .lst (SqL.of (e _ _ h (fun ps z => by cases z))) (.cons (.str _) .nil)
      | tup h ok => exact .tup (SqT.of (e _ _ h (fun ps z => by cases z))) (.cons (.str _) .nil)
    · cases o with
      | non => rfl
      | int i => rfl
      | @lst a z h ok => exact (by rw [PyData.canLay0]; exact lay_strs [z] (fun y hy => by rw [List.mem_singleton.mp hy]; exact ok))
      | @tup a z h ok => exact (by rw [PyData.canLay0]; exact lay_strs [z] (fun y hy => by rw [List.mem_singleton.mp hy]; exact ok))
    · cases o with
      | non => simp [PyData.depth]
      | int i => simp [PyData.depth]
      | @lst a z h ok => exact (by have := depth_strs [z]; rw [PyData.depth]; have e : PyData.depthAll [PyData.str z] ≤ 1 := this; omega)
      | @tup a z h ok => exact (by have := depth_strs [z]; rw [PyData.depth]; have e : PyData.depthAll [PyData.str z] ≤ 1 := this; omega)
theorem BadT.src {zs : List Str} {H H' : Hp} {p : Addr} {n : Int} {v : V} (o : BadT zs H v) (S : Src H p n) (e : But p H H') : BadT zs H' v := by
  obtain ⟨g, s, c, h0, _⟩ := S
  rcases o with o | ⟨d, o⟩
  · exact .inl o
  · cases o with
    | non => exact .inr ⟨_, .non⟩
    | int i => exact .inr ⟨_, .int i⟩
    | lst h ok => exact .inr ⟨_, .lst (e _ _ (fun q => by rw [q, h0] at h; cases h) h) ok⟩
    | tup h ok => exact .inr ⟨_, .tup (e _ _ (fun q => by rw [q, h0] at h; cases h) h) ok⟩
def lamQ : Str := (PyProof.Rows.envOfC "law" (defScope s_law) 0 0 .none).qual ++ "<lambda>"
def lamT (T : Txt P w K mg) : List (Addr × Str) := [(T.P_law, lamQ)]
def spLawT (K : PySem.W.Frag) (P : Addr) : Sp := fun vs H Q _ => ∃ (a : Addr) (ns : List Int), vs = [.ref a] ∧ SqL K H a (ns.map V.int) ∧ ns.length ≤ 63 ∧ H P = some (.tbl #[]) ∧ ∀ H', Q (.bl true) H'
def placesN : List Str := placesL ++ [noneS]
def strangeV (ys : List Str) : List V := [.str "", .str "A", .non, .int 5] ++ ys.map V.str
def whereV (t : Addr) : List V := [.str "any", .str "far", .str "", .non, .int 5, .ref t, .str "<=", .str "near", .str "less"]
theorem strange_at {zs ys : List Str} {H : Hp} {j : Nat} {v : V} (hz : ∀ z ∈ zs, IsName z) (hy : ∀ y ∈ ys, y ∉ zs) (ho : ∀ y ∈ ys, PyData.strOk y = true) (h : (strangeV ys)[j]? = some v) : BadT zs H v := by
  have m := List.mem_of_getElem? h
  unfold strangeV at m
  rcases List.mem_append.mp m with m | m
  · simp only [List.mem_cons, List.not_mem_nil, or_false] at m
    rcases m with rfl | rfl | rfl | rfl
    · exact .inl ⟨_, rfl, fun q => by have := nameB_iff.mpr (hz _ q); revert this; decide +kernel, by decide +kernel⟩
    · exact .inl ⟨_, rfl, fun q => by have := nameB_iff.mpr (hz _ q); revert this; decide +kernel, by decide +kernel⟩
    · exact .inr ⟨_, .non⟩
    · exact .inr ⟨_, .int 5⟩
  · obtain ⟨y, hm, rfl⟩ := List.mem_map.mp m
    exact .inl ⟨y, rfl, hy y hm, ho y hm⟩
theorem where_at {H : Hp} {t : Addr} {j : Nat} {v : V} (ht : H t = some (.tup [.str "="])) (h : (whereV t)[j]? = some v) : BadT placesN H v := by
  have m := List.mem_of_getElem? h
  simp only [whereV, List.mem_cons, List.not_mem_nil, or_false] at m
  rcases m with rfl | rfl | rfl | rfl | rfl | rfl | rfl | rfl | rfl
  · exact .inl ⟨_, rfl, by decide +kernel, by decide +kernel⟩
  · exact .inl ⟨_, rfl, by decide +kernel, by decide +kernel⟩
  · exact .inl ⟨_, rfl, by decide +kernel, by decide +kernel⟩
  · exact .inr ⟨_, .non⟩
  · exact .inr ⟨_, .int 5⟩
  · exact .inr ⟨_, .tup ht (by decide +kernel)⟩
  · exact .inl ⟨_, rfl, by decide +kernel, by decide +kernel⟩
  · exact .inl ⟨_, rfl, by decide +kernel, by decide +kernel⟩
  · exact .inl ⟨_, rfl, by decide +kernel, by decide +kernel⟩
theorem placesN_or {y : Str} (h : y ∈ placesN) : y ∈ placesL ∨ y = noneS := (List.mem_append.mp h).imp id List.mem_singleton.mp
theorem notN {y : Str} (h : y ∉ placesN) : y ∉ placesL ∧ y ≠ noneS := ⟨fun q => h (List.mem_append_left _ q), fun q => h (List.mem_append_right _ (List.mem_singleton.mpr q))⟩
theorem ok_law (T : Txt P w K mg) (TB : LamX.TabB base mg T.c_law T.P_law) : FnOk P w K mg base CX0 8 T.f_law T.d_law ["_law_script"] (spLawT K T.P_law) := by
  refine T.G_law.ok sc_law (fun vs H Q E h => ?_) (fun A outer s H vs Q E hr h => ?_)
  · obtain ⟨a, ns, rfl, _⟩ := h
    rfl
  · obtain ⟨a, ns, rfl, hS, hlen, hP, k⟩ := h
    refine ⟨_, (pss_cons (ps_set (i := 1) sc_law.nd rfl (Or.inl rfl) (pe_call (ok_law_source T) (hr.mono (by decide)) (by rfl) T.m_law_source T.F_law_source.kp T.b_law_source .nil pass0 (pa_cons (pv 0) pa_nil)))
      (pss_cons (ps_set (i := 2) sc_law.nd rfl (Or.inl rfl) (pe_call (ok_law_rules T) (hr.mono (by decide)) (by rfl) T.m_law_rules T.F_law_rules.kp T.b_law_rules .nil pass0 (pa_cons (pv 1) (pa_cons pe_int (pa_cons pe_int pa_nil)))))
      (pss_cons (ps_set (i := 4) sc_law.nd rfl (Or.inr rfl) (pe_make T.mk_Loop (ok_Loop__init T) (hr.mono (by decide)) (by rfl) T.m_Loop T.bd1_Loop__init.choose_spec.2 T.bd1_Loop__init.choose_spec.1 pass0 (pa_cons (pv 2) pa_nil)))
      (pss_cons (ps_for PassesOwn.never rfl (pi_list (pe_call (ok_law_states T) (hr.mono (by decide)) (by rfl) T.m_law_states T.F_law_states.kp T.b_law_states .nil pass0 (pa_cons (pv 2) pa_nil))) (pg_name (i := 5) sc_law.nd rfl (Or.inr rfl))
      (pss_one (ps_for PassesOwn.never rfl (pi_list (pe_op op_cat (pe_call0 (ok_law_places T) (hr.mono (by decide)) (by rfl) T.m_law_places T.F_law_places.kp T.b_law_places .nil pass0) (pe_lst (pa_cons pe_str pa_nil)))) (pg_name (i := 7) sc_law.nd rfl (Or.inr rfl))
      (pss_cons (ps_set (i := 3) sc_law.nd rfl (Or.inl rfl) (pe_call (ok_law_first T) (hr.mono (by decide)) (by rfl) T.m_law_first T.F_law_first.kp T.b_law_first .nil pass0 (pa_cons (pv 2) (pa_cons (pv 5) (pa_cons (pv 7) pa_nil)))))
      (pss_one (ps_if (pt_cmpR (op_neD hr.units) (pe_lamF (T := lamT T) (TT := TTried T.C_UnknownState T.C_BadGroup) (k := 3) (t := fun E => tMethW T.C_Loop "fitting" (spFitting T.C_Loop T.C_UnknownState T.C_BadGroup) (WE fun cls d _ H => E cls d H) (tVar 4) (tCons (tVar 5) (tCons (tVar 7) tNil))) T.F_law_tried T.b_law_tried rfl T.m_law_tried sc_law_tried rfl (Or.inl rfl) (fun cdg => tried_of T rfl rfl rfl rfl) TB rfl (List.mem_singleton.mpr rfl) (fun p hp _ => by rw [List.mem_singleton.mp hp]; rfl) (hr.mono (by decide)) (LamX.lamS_by (show LamX.lamSB (defScope s_law) _ = true by decide +kernel)) rfl (fun _ _ _ _ _ => rfl) (fun A outer s H E f c' hr2 => by exact (pe_methW (pv 4) T.cl_Loop T.mt_Loop_fitting (ok_Loop_fitting T) hr2 T.b_Loop_fitting (fun σ => passAt (takes_of rfl rfl rfl rfl) σ) (by exact (pa_cons (pv 5) (pa_cons (pv 7) pa_nil)))))) (pe_tup (pa_cons pe_str (pa_cons (pv 3) pa_nil))) (nomark _))
      (pss_one (ps_ret pe_bl))
      pss_nil))))))
      (pss_cons (ps_set (i := 5) sc_law.nd rfl (Or.inr rfl) (pe_call (ok_law_pick T) (hr.mono (by decide)) (by rfl) T.m_law_pick T.F_law_pick.kp T.b_law_pick .nil pass0 (pa_cons (pv 1) (pa_cons (pe_call (ok_law_states T) (hr.mono (by decide)) (by rfl) T.m_law_states T.F_law_states.kp T.b_law_states .nil pass0 (pa_cons (pv 2) pa_nil)) pa_nil))))
      (pss_cons (ps_set (i := 6) sc_law.nd rfl (Or.inr rfl) (pe_lc (own := [("_law_name_here", 8)]) (by rfl) sc_law.nd (pi_list (pe_call (ok_law_names T) (hr.mono (by decide)) (by rfl) T.m_law_names T.F_law_names.kp T.b_law_names .nil pass0 (pa_cons (pv 1) (pa_cons pe_int pa_nil)))) (blkOk_by (own := [("_law_name_here", 8)]) (N := ["_law_script", "_law_source_here", "_law_rules_here", "_law_due", "_law_loop", "_law_state", "_law_strange", "_law_where", "_law_name_here"]) (sc := defScope s_law) (by decide +kernel)) (fun _ _ _ _ _ => (pg_name (i := 8) sc_law.nd rfl (Or.inl rfl))) (fun _ _ _ _ _ => (pts_one (pt_cmpR (show OpR _ _ (rIn K true) from op_notIn_seq) (pv 8) (pe_prop (pv 4) T.cl_Loop T.pr_Loop_states (ok_Loop_states T) (hr.mono (by decide)) T.b_Loop_states .nil pass0 (by rfl)) (by rfl)))) (fun _ _ _ _ _ => (pv 8))))
      (pss_cons (ps_set (i := 6) sc_law.nd rfl (Or.inr rfl) (pe_call (ok_law_pick T) (hr.mono (by decide)) (by rfl) T.m_law_pick T.F_law_pick.kp T.b_law_pick .nil pass0 (pa_cons (pv 1) (pa_cons (pe_op op_cat (pe_lst (pa_cons pe_str (pa_cons pe_str (pa_cons pe_non (pa_cons pe_int pa_nil))))) (pv 6)) pa_nil))))
      (pss_cons (ps_set (i := 7) sc_law.nd rfl (Or.inr rfl) (pe_call (ok_law_pick T) (hr.mono (by decide)) (by rfl) T.m_law_pick T.F_law_pick.kp T.b_law_pick .nil pass0 (pa_cons (pv 1) (pa_cons (pe_lst (pa_cons pe_str (pa_cons pe_str (pa_cons pe_str (pa_cons pe_non (pa_cons pe_int (pa_cons (pe_tup (pa_cons pe_str pa_nil)) (pa_cons pe_str (pa_cons pe_str (pa_cons pe_str pa_nil)))))))))) pa_nil))))
      (pss_cons (ps_if (pt_cmpR (op_neD hr.units) (pe_lamF (T := lamT T) (TT := TTried T.C_UnknownState T.C_BadGroup) (k := 3) (t := fun E => tMethW T.C_Loop "fitting" (spFitting T.C_Loop T.C_UnknownState T.C_BadGroup) (WE fun cls d _ H => E cls d H) (tVar 4) (tCons (tVar 5) (tCons (tVar 7) tNil))) T.F_law_tried T.b_law_tried rfl T.m_law_tried sc_law_tried rfl (Or.inl rfl) (fun cdg => tried_of T rfl rfl rfl rfl) TB rfl (List.mem_singleton.mpr rfl) (fun p hp _ => by rw [List.mem_singleton.mp hp]; rfl) (hr.mono (by decide)) (LamX.lamS_by (show LamX.lamSB (defScope s_law) _ = true by decide +kernel)) rfl (fun _ _ _ _ _ => rfl) (fun A outer s H E f c' hr2 => by exact (pe_methW (pv 4) T.cl_Loop T.mt_Loop_fitting (ok_Loop_fitting T) hr2 T.b_Loop_fitting (fun σ => passAt (takes_of rfl rfl rfl rfl) σ) (by exact (pa_cons (pv 5) (pa_cons (pv 7) pa_nil)))))) (pe_tup (pa_cons pe_str (pa_cons (pv 7) pa_nil))) (nomark _))
      (pss_one (ps_ret pe_bl))
      pss_nil)
      (pss_cons (ps_if (pt_cmpR (op_neD hr.units) (pe_lamF (T := lamT T) (TT := TTried T.C_UnknownState T.C_BadGroup) (k := 3) (t := fun E => tMethW T.C_Loop "fitting" (spFitting T.C_Loop T.C_UnknownState T.C_BadGroup) (WE fun cls d _ H => E cls d H) (tVar 4) (tCons (tVar 6) (tCons (tVar 7) tNil))) T.F_law_tried T.b_law_tried rfl T.m_law_tried sc_law_tried rfl (Or.inl rfl) (fun cdg => tried_of T rfl rfl rfl rfl) TB rfl (List.mem_singleton.mpr rfl) (fun p hp _ => by rw [List.mem_singleton.mp hp]; rfl) (hr.mono (by decide)) (LamX.lamS_by (show LamX.lamSB (defScope s_law) _ = true by decide +kernel)) rfl (fun _ _ _ _ _ => rfl) (fun A outer s H E f c' hr2 => by exact (pe_methW (pv 4) T.cl_Loop T.mt_Loop_fitting (ok_Loop_fitting T) hr2 T.b_Loop_fitting (fun σ => passAt (takes_of rfl rfl rfl rfl) σ) (by exact (pa_cons (pv 6) (pa_cons (pv 7) pa_nil)))))) (pe_tup (pa_cons pe_str (pa_cons (pv 6) pa_nil))) (nomark _))
      (pss_one (ps_ret pe_bl))
      pss_nil)
      (pss_one (ps_ret (pe_cmpR (op_eqD hr.units) (pe_lamF (T := lamT T) (TT := TTried T.C_UnknownState T.C_BadGroup) (k := 3) (t := fun E => tMethW T.C_Loop "fitting" (spFitting T.C_Loop T.C_UnknownState T.C_BadGroup) (WE fun cls d _ H => E cls d H) (tVar 4) (tCons (tVar 6) (tCons (tC (V.str "none")) tNil))) T.F_law_tried T.b_law_tried rfl T.m_law_tried sc_law_tried rfl (Or.inl rfl) (fun cdg => tried_of T rfl rfl rfl rfl) TB rfl (List.mem_singleton.mpr rfl) (fun p hp _ => by rw [List.mem_singleton.mp hp]; rfl) (hr.mono (by decide)) (LamX.lamS_by (show LamX.lamSB (defScope s_law) _ = true by decide +kernel)) rfl (fun _ _ _ _ _ => rfl) (fun A outer s H E f c' hr2 => by exact (pe_methW (pv 4) T.cl_Loop T.mt_Loop_fitting (ok_Loop_fitting T) hr2 T.b_Loop_fitting (fun σ => passAt (takes_of rfl rfl rfl rfl) σ) (by exact (pa_cons (pv 6) (pa_cons pe_str pa_nil)))))) (pe_tup (pa_cons pe_str (pa_cons (pv 6) pa_nil))) (nomark _)))))))))))))), ?_⟩
    walk_at "rd"
    refine ⟨a, ns, rfl, hS, fun p H1 hp s1 S1 => ?_⟩
    walk_at "rd"
    refine ⟨p, 5, 9, 0, rfl, S1, by decide, by decide, by decide, by decide, by decide, fun l xs zs r0 rs H2 hok hzs hrs hat hl0 hl u2 S2 => ?_⟩
    walk_at "rd"
    refine fun q dq hq hdq ne => ?_
    generalize hH : upd (upd H2 dq _) q _ = H3
    obtain ⟨s3, dQ⟩ : Same H2 H3 ∧ H3 q = some (.ins T.C_Loop dq []) := by
      subst hH
      exact ⟨(Same.new hdq).trans (Same.new (by rw [upd_ne ne.symm]; exact hq)), upd_same⟩
    clear hH
    have rv := hok.v (by omega) (by omega)
    have stn := hok.stn
    have hg4 : ∀ r ∈ r0 :: rs, r.gs.length ≤ 4 := fun r hr => (hok.all1 r hr).gs.len
    have spos := states_pos r0 rs
    have sle := rv.sts
    have e0 : (r0 :: rs).length ≤ 40 := rv.len
    clear hok hzs hrs hlen
    refine ⟨q, dq, true, l, .non, xs, r0 :: rs, [], rfl, dQ, SqL.of (s3 _ _ hl), paired_map (fun _ _ z => (z.same s3).ruleIn) hat, rv, .inl ⟨rfl, rfl⟩, ansV_nil _, fun H4 u4 L4 => ⟨rfl, ?_⟩⟩
    have s4 : Same H2 H4 := same_but s3 u4 hq
    have S4 := S2.same s4
    have hl4 := s4 _ _ hl
    have hat4 := rules_same hat s4
    have T4 : LamX.Tabs (lamT T) H4 := fun y hy => by
      rw [List.mem_singleton.mp hy]
      obtain ⟨ys, h1⟩ := S1.at
      exact LamX.TabS.nil (s4 _ _ (u2 _ _ (fun z => by
        have z : T.P_law = p := z
        have h2 := s1 _ _ hP
        rw [z, h1] at h2
        cases h2) (s1 _ _ hP)))
    have lp : l ≠ p := S1.ne hl0
    clear s4 s3 u4 dQ S2 hl hat u2 hq hdq ne rv hP S1 s1 hp
    generalize r0 :: rs = rr at *
    walk_at "rd"
    refine ⟨l, xs, rr, H1, rfl, SqL.of hl4, hat4, by omega, fun st H5 hst s5 d5 => ?_⟩
    have T5 := tabs_same T4 s5
    refine ⟨st, rfl, ⟨_, SqL.of d5⟩, for_list (K := K) (a := st) (xs := (statesOf rr).map V.str) (fun i σ H' => ∃ v3 v5 v7 : Option V, σ = [some (.ref a), some (.ref p), some (.ref l), v3, some (.ref q), v5, none, v7, none] ∧ LamX.ExtN H5 H' ∧ LamX.Tabs (lamT T) H')
      ⟨none, none, none, rfl, LamX.ExtN.refl _, T5⟩ (fun i σ H' _ ⟨_, _, _, _, z, _⟩ => SqL.of (z _ _ d5 (fun ps z => by cases z))) ?_ ?_⟩
    · rintro i x σ H6 hx ⟨v3, v5, v7, rfl, e6, T6⟩
      obtain ⟨z, rfl, hz⟩ := str_at hx
      have hzm : z ∈ statesOf rr := List.mem_of_getElem? hz
      walk_at "rd"
      refine fun g2 h2 => ?_
      generalize hH : upd _ g2 _ = H7
      obtain ⟨s7, d7⟩ := new_of (o' := .lst (placesL.map V.str)) hH h2 rfl
      clear hH
      refine ⟨by show 1 ≤ sizeLine; decide, fun g3 h3 => ?_⟩
      generalize hH : upd _ g3 _ = H8
      obtain ⟨s8, d8⟩ := new_of (o' := .lst [.str noneS]) hH h3 rfl
      clear hH
      refine ⟨_, _, _, _, rfl, rfl, s8 _ _ d7, d8, by show 11 + 1 ≤ sizeLine; decide, fun L hL => ?_⟩
      generalize hH : upd _ L _ = H9
      obtain ⟨s9, dL⟩ := new_of (o' := .lst (placesN.map V.str)) hH hL (by kernel_rfl)
      clear hH
      have s69 := (s7.trans s8).trans s9
      have e9 : LamX.ExtN H5 H9 := e6.trans (LamX.ExtN.of s69)
      have T9 := tabs_same T6 s69
      clear s69 s9 s8 s7 d8 d7 hL h3 h2 T6
      refine ⟨L, rfl, ⟨_, SqL.of dL⟩, for_list (K := K) (a := L) (xs := placesN.map V.str) (fun j σ H' => ∃ v3 v7 : Option V, σ = [some (.ref a), some (.ref p), some (.ref l), v3, some (.ref q), some (.str z), none, v7, none] ∧ LamX.ExtN H9 H' ∧ LamX.Tabs (lamT T) H')
        ⟨_, _, rfl, LamX.ExtN.refl _, T9⟩ (fun i σ H' _ ⟨_, _, _, z, _⟩ => SqL.of (z _ _ dL (fun ps z => by cases z))) ?_ ?_⟩
      · rintro j x σ H10 hx ⟨v3, v7, rfl, e10, T10⟩
        obtain ⟨y, rfl, hyj⟩ := str_at hx
        have hy := placesN_or (List.mem_of_getElem? hyj)
        have E10 := e9.trans e10
        have L10 := (L4.same s5).ext E10
        walk_at "rd"
        refine ⟨H1, l, xs, rr, z, y, rfl, SqL.of (E10 _ _ (s5 _ _ hl4) (fun ps z => by cases z)), rules_ext (rules_same hat4 s5) E10, hg4, hy, fun H11 s11 => ?_⟩
        have T11 := tabs_same T10 s11
        have L11 := L10.same s11
        walk_at "rd"
        refine ⟨T11, fun H12 e12 T12 t0 ht0 R hR => ?_⟩
        generalize hH : upd _ t0 _ = H13
        obtain ⟨s13, _⟩ := new_of (o' := .tup [.str "none"]) hH ht0 rfl
        clear hH
        obtain ⟨dx, c, sq, a4, d4, ys, kvs, L13⟩ := (L11.ext e12).same s13
        refine ⟨_, rfl, q, dx, lf c sq a4 d4, rfl, L13.ob, lf_no _ _ _ _ (by decide), ?_⟩
        walk_at "rd"
        refine ⟨q, .str z, .str y, rr, [], rfl, ⟨dx, c, sq, a4, d4, ys, kvs, L13⟩, .inr ⟨z, rfl, hzm, .inr ⟨y, rfl, hy, fun H14 s14 => hR _ _ fun u hu => ?_⟩⟩⟩
        generalize hH : upd _ u _ = H15
        obtain ⟨s15, d15⟩ := new_of (o' := .tup [.str "told", optV (fitIx rr z y)]) hH hu rfl
        clear hH
        walk_at "rd"
        refine ⟨by show 2 ≤ sizeLine; decide, fun u2 hu2 => ?_⟩
        generalize hH : upd _ u2 _ = H16
        obtain ⟨s16, d16⟩ := new_of (o' := .tup [.str "told", optV (fitIx rr z y)]) hH hu2 rfl
        clear hH
        have ok1 : PyData.strOk "told" = true := by decide +kernel
        refine ⟨_, _, .tup (SqT.of (s16 _ _ d15)) (.cons (.str _) (.cons (optD_dp _) .nil)), .tup (SqT.of d16) (.cons (.str _) (.cons (optD_dp _) .nil)), shaped_pair ok1 (optD_lay _) (optD_depth _), shaped_pair ok1 (optD_lay _) (optD_depth _), ?_⟩
        rw [eqv_pair ok1 (optD_lay _)]
        have s1316 := ((s13.trans s14).trans s15).trans s16
        walk_at "rd"
        exact ⟨(e10.trans (LamX.ExtN.of s11)).trans (e12.trans (LamX.ExtN.of s1316)), tabs_same T12 s1316⟩
      · rintro σ H10 ⟨v3, v7, rfl, e10, T10⟩
        exact ⟨_, _, _, rfl, e9.trans e10, T10⟩
    · rintro σ H6 ⟨v3, v5, v7, rfl, e6, T6⟩
      have E6 : LamX.ExtN H4 H6 := (LamX.ExtN.of s5).trans e6
      have L6 := L4.ext E6
      have S6 := S4.ext E6
      walk_at "rd"
      refine ⟨l, xs, rr, H1, rfl, SqL.of (E6 _ _ hl4 (fun ps z => by cases z)), rules_ext hat4 E6, by omega, fun st2 H7 hst2 s7 d7 => ?_⟩
      walk_at "rd"
      have S7 := S6.same s7
      refine ⟨p, st2, _, _, rfl, S7, by omega, S6.ne hst2, SqL.of d7, by rw [List.length_map]; exact spos, by rw [List.length_map]; omega, fun j v H8 hj u8 S8 => ?_⟩
      obtain ⟨z, rfl, hz⟩ := str_at hj
      have hzm : z ∈ statesOf rr := List.mem_of_getElem? hz
      walk_at "rd"
      refine ⟨p, 2, _, rfl, S8, by decide, by omega, fun nl zs H9 hzl hzn _ hnl dnl u9 S9 => ?_⟩
      have u69 : But p H6 H9 := ((Same.but s7).trans u8).trans u9
      obtain ⟨ys6, hys6⟩ := S6.at
      have L9 := L6.but hys6 u69
      have T9 := tabs_but T6 u69 hys6
      clear L6 T6 S6 S7 S8 d7 u8 u9 u69 e6 E6 s7 hj L4 S4 hl4 hat4 T4 s5 d5 T5
      refine ⟨nl, rfl, ⟨_, SqL.of dnl⟩, fun D hD => ?_⟩
      refine lc_list (K := K) (a := nl) (xs := zs.map V.str) (fun i H' => Same H9 H' ∧ H' D = some (.lst (((zs.take i).filter fun z => !decide (z ∈ statesOf rr)).map V.str))) ⟨Same.new hD, upd_same⟩ (fun i H' _ h => h.1.seq (SqL.of dnl)) ?_ ?_
      · rintro i x H10 hx ⟨s10, d10⟩
        obtain ⟨z', rfl, hz'⟩ := str_at hx
        refine ⟨rfl, ?_⟩
        obtain ⟨dx, c, sq, a4, d4, ys, kvs, L10⟩ := L9.same s10
        walk_at "rd"
        refine ⟨q, dx, _, rfl, L10.ob, ?_⟩
        refine ⟨q, dx, _, _, rfl, L10.ob, lf_states _ _ _ _, ?_⟩
        refine ⟨_, _, rfl, .inr (SqT.of L10.st), rfl, flat_strs _, ?_⟩
        refine ⟨!decide (z' ∈ statesOf rr), congrArg (fun b => V.bl (!b)) (inV_strs z' _), ?_⟩
        rw [take_more hz', List.filter_append]
        by_cases hin' : z' ∈ statesOf rr
        · rw [decide_eq_true hin']
          refine iteF ⟨s10, ?_⟩
          rw [List.filter_cons, decide_eq_true hin', if_neg (by decide), List.filter_nil, List.append_nil]
          exact d10
        · rw [decide_eq_false hin']
          refine iteT ?_
          walk_at "rd"
          refine ⟨_, d10, ?_, ?_, ?_⟩
          · rw [List.length_map]
            refine Nat.lt_of_le_of_lt (List.length_filter_le _ _) ?_
            rw [List.length_take]
            exact Nat.lt_of_le_of_lt (by omega : _ ≤ 2) (by decide)
          · exact fun b o e => by
              rw [upd_ne (fun q => by rw [q, hD] at e; cases e)]
              exact s10 b o e
          · rw [upd_same, List.filter_cons, decide_eq_false hin', if_pos (by decide), List.filter_nil, List.map_append]
            rfl
      rintro H10 ⟨s10, d10⟩
      rw [List.length_map, List.take_length] at d10
      have hyn : ∀ y ∈ zs.filter fun z => !decide (z ∈ statesOf rr), y ∉ statesOf rr := fun y hy q => by
        have h2 := (List.mem_filter.mp hy).2
        rw [decide_eq_true q] at h2
        cases h2
      have hyo : ∀ y ∈ zs.filter fun z => !decide (z ∈ statesOf rr), PyData.strOk y = true := fun y hy => (hzn y (List.mem_filter.mp hy).1).ok
      have hyl : (zs.filter fun z => !decide (z ∈ statesOf rr)).length ≤ 2 := Nat.le_trans (List.length_filter_le _ _) (by omega)
      generalize (zs.filter fun z => !decide (z ∈ statesOf rr)) = yl at d10 hyn hyo hyl
      have L10 := L9.same s10
      have T10 := tabs_same T9 s10
      have S10 := S9.same s10
      clear L9 T9 S9 s10 dnl hnl hzl hzn hD
      walk_at "rd"
      refine ⟨by show 4 ≤ sizeLine; decide, fun c1 hc1 => ?_⟩
      generalize hH : upd _ c1 _ = H11
      obtain ⟨s11, d11⟩ := new_of (o' := .lst [.str "", .str "A", .non, .int 5]) hH hc1 rfl
      clear hH
      walk_at "rd"
      refine ⟨_, _, _, _, rfl, rfl, d11, s11 _ _ d10, by rw [List.length_map]; exact Nat.le_trans (by show 4 + yl.length ≤ 6; omega) (by decide), fun L hL => ?_⟩
      generalize hH : upd _ L _ = H12
      obtain ⟨s12, dL⟩ := new_of (o' := .lst (strangeV yl)) hH hL rfl
      clear hH
      have s02 := s11.trans s12
      have S12 := S10.same s02
      have sl : (strangeV yl).length = 4 + yl.length := by
        unfold strangeV
        rw [List.length_append, List.length_map]
        rfl
      walk_at "rd"
      refine ⟨p, L, _, _, rfl, S12, by omega, (S10.same s11).ne hL, SqL.of dL, by rw [sl]; omega, by rw [sl]; omega, fun j v H13 hj u13 S13 => ?_⟩
      have hv : BadT (statesOf rr) H13 v := strange_at stn hyn hyo hj
      obtain ⟨ys12, hys12⟩ := S12.at
      have L13 := (L10.same s02).but hys12 u13
      have T13 := tabs_but (tabs_same T10 s02) u13 hys12
      clear L10 T10 S10 S12 s11 s12 s02 d11 d10 hc1 hL dL u13 hys12 hj
      walk_at "rd"
      refine ⟨by show 1 ≤ sizeLine; decide, fun t1 ht1 => ?_⟩
      generalize hH : upd _ t1 _ = H14
      obtain ⟨s14, d14⟩ := new_of (o' := .tup [.str "="]) hH ht1 rfl
      clear hH
      refine ⟨by show 9 ≤ sizeLine; decide, fun wl hwl => ?_⟩
      generalize hH : upd _ wl _ = H15
      obtain ⟨s15, d15⟩ := new_of (o' := .lst (whereV t1)) hH hwl rfl
      clear hH
      have s35 := s14.trans s15
      have S15 := S13.same s35
      walk_at "rd"
      refine ⟨p, wl, _, _, rfl, S15, by omega, (S13.same s14).ne hwl, SqL.of d15, by show 0 < 9; decide, by show 9 ≤ 1000; decide, fun j wv H16 hj u16 S16 => ?_⟩
      obtain ⟨ys15, hys15⟩ := S15.at
      have t1p : t1 ≠ p := S13.ne ht1
      have hw : BadT placesN H16 wv := where_at (u16 _ _ t1p (s15 _ _ d14)) hj
      have L16 := (L13.same s35).but hys15 u16
      have T16 := tabs_but (tabs_same T13 s35) u16 hys15
      have hv16 : BadT (statesOf rr) H16 v := (hv.same s35).src S15 u16
      clear hv L13 T13 S13 S15 s14 s15 s35 d14 d15 ht1 hwl t1p hys15 u16 hj
      obtain ⟨wd, hwd, wl1, wl2⟩ := hw.dp (K := K)
      obtain ⟨vd, hvd, vl1, vl2⟩ := hv16.dp (K := K)
      have okg : PyData.strOk "group" = true := by decide +kernel
      have oks : PyData.strOk "state" = true := by decide +kernel
      have hbw : ∀ {H' : Hp}, LamX.ExtN H16 H' → ((∃ y : Str, wv = .str y ∧ y ∉ placesL ∧ y ≠ noneS) ∨ ∃ d, OddV H' wv d) := fun e => (hw.ext e).imp (fun ⟨y, h1, h2, _⟩ => ⟨y, h1, notN h2⟩) id
      have hbv : ∀ {H' : Hp}, LamX.ExtN H16 H' → ((∃ y : Str, v = .str y ∧ y ∉ statesOf rr) ∨ ∃ d, OddV H' v d) := fun e => (hv16.ext e).imp (fun ⟨y, h1, h2, _⟩ => ⟨y, h1, h2⟩) id
      walk_at "rd"
      refine ⟨T16, fun H17 e17 T17 t0 ht0 R hR => ?_⟩
      generalize hH : upd _ t0 _ = H18
      obtain ⟨s18, _⟩ := new_of (o' := .tup [.str "none"]) hH ht0 rfl
      clear hH
      obtain ⟨dx, c, sq, a4, d4, ys, kvs, L18⟩ := (L16.ext e17).same s18
      refine ⟨_, rfl, q, dx, lf c sq a4 d4, rfl, L18.ob, lf_no _ _ _ _ (by decide), ?_⟩
      walk_at "rd"
      refine ⟨q, .str z, wv, rr, [], rfl, ⟨dx, c, sq, a4, d4, ys, kvs, L18⟩, .inr ⟨z, rfl, hzm, .inl ⟨hbw (e17.trans (LamX.ExtN.of s18)), fun d hd => ?_⟩⟩⟩
      refine ⟨d, wv, rfl, .inr ⟨rfl, upd_same, fun u hu => ?_⟩⟩
      generalize hH : upd _ d _ = H19 at hu ⊢
      obtain ⟨s19, _⟩ := new_of (o' := .xd [("group", wv)]) hH hd rfl
      clear hH
      generalize hH : upd _ u _ = H20
      obtain ⟨s20, d20⟩ := new_of (o' := .tup [.str "group", wv]) hH hu rfl
      clear hH
      walk_at "rd"
      refine ⟨by show 2 ≤ sizeLine; decide, fun u2 hu2 => ?_⟩
      generalize hH : upd _ u2 _ = H21
      obtain ⟨s21, d21⟩ := new_of (o' := .tup [.str "group", wv]) hH hu2 rfl
      clear hH
      have sx := ((s18.trans s19).trans s20).trans s21
      have e21 : LamX.ExtN H16 H21 := e17.trans (LamX.ExtN.of sx)
      refine ⟨_, _, .tup (SqT.of (s21 _ _ d20)) (.cons (.str _) (.cons (hwd _ e21) .nil)), .tup (SqT.of d21) (.cons (.str _) (.cons (hwd _ e21) .nil)), shaped_pair okg wl1 wl2, shaped_pair okg wl1 wl2, ?_⟩
      rw [eqv_pair okg wl1]
      have T21 := tabs_same T17 sx
      clear sx s18 s19 s20 s21 d20 d21 hu2 hu hd L18 ht0 hR
      walk_at "rd"
      refine ⟨T21, fun H22 e22 T22 t0 ht0 R hR => ?_⟩
      generalize hH : upd _ t0 _ = H23
      obtain ⟨s23, _⟩ := new_of (o' := .tup [.str "none"]) hH ht0 rfl
      clear hH
      have E22 := e21.trans e22
      obtain ⟨dx, c, sq, a4, d4, ys, kvs, L23⟩ := (L16.ext E22).same s23
      refine ⟨_, rfl, q, dx, lf c sq a4 d4, rfl, L23.ob, lf_no _ _ _ _ (by decide), ?_⟩
      walk_at "rd"
      refine ⟨q, v, wv, rr, [], rfl, ⟨dx, c, sq, a4, d4, ys, kvs, L23⟩, .inl ⟨hbv (E22.trans (LamX.ExtN.of s23)), fun d hd => ?_⟩⟩
      refine ⟨d, v, rfl, .inl ⟨rfl, upd_same, fun u hu => ?_⟩⟩
      generalize hH : upd _ d _ = H24 at hu ⊢
      obtain ⟨s24, _⟩ := new_of (o' := .xd [("state", v)]) hH hd rfl
      clear hH
      generalize hH : upd _ u _ = H25
      obtain ⟨s25, d25⟩ := new_of (o' := .tup [.str "state", v]) hH hu rfl
      clear hH
      walk_at "rd"
      refine ⟨by show 2 ≤ sizeLine; decide, fun u2 hu2 => ?_⟩
      generalize hH : upd _ u2 _ = H26
      obtain ⟨s26, d26⟩ := new_of (o' := .tup [.str "state", v]) hH hu2 rfl
      clear hH
      have sx := ((s23.trans s24).trans s25).trans s26
      have e26 : LamX.ExtN H16 H26 := E22.trans (LamX.ExtN.of sx)
      refine ⟨_, _, .tup (SqT.of (s26 _ _ d25)) (.cons (.str _) (.cons (hvd _ e26) .nil)), .tup (SqT.of d26) (.cons (.str _) (.cons (hvd _ e26) .nil)), shaped_pair oks vl1 vl2, shaped_pair oks vl1 vl2, ?_⟩
      rw [eqv_pair oks vl1]
      have T26 := tabs_same T22 sx
      clear sx s23 s24 s25 s26 d25 d26 hu2 hu hd L23 ht0 hR
      walk_at "rd"
      refine ⟨T26, fun H22 e22 T22 t0 ht0 R hR => ?_⟩
      generalize hH : upd _ t0 _ = H23
      obtain ⟨s23, _⟩ := new_of (o' := .tup [.str "none"]) hH ht0 rfl
      clear hH
      have E22 := e26.trans e22
      obtain ⟨dx, c, sq, a4, d4, ys, kvs, L23⟩ := (L16.ext E22).same s23
      refine ⟨_, rfl, q, dx, lf c sq a4 d4, rfl, L23.ob, lf_no _ _ _ _ (by decide), ?_⟩
      walk_at "rd"
      refine ⟨q, v, .str "none", rr, [], rfl, ⟨dx, c, sq, a4, d4, ys, kvs, L23⟩, .inl ⟨hbv (E22.trans (LamX.ExtN.of s23)), fun d hd => ?_⟩⟩
      refine ⟨d, v, rfl, .inl ⟨rfl, upd_same, fun u hu => ?_⟩⟩
      generalize hH : upd _ d _ = H24 at hu ⊢
      obtain ⟨s24, _⟩ := new_of (o' := .xd [("state", v)]) hH hd rfl
      clear hH
      generalize hH : upd _ u _ = H25
      obtain ⟨s25, d25⟩ := new_of (o' := .tup [.str "state", v]) hH hu rfl
      clear hH
      walk_at "rd"
      refine ⟨by show 2 ≤ sizeLine; decide, fun u2 hu2 => ?_⟩
      generalize hH : upd _ u2 _ = H26
      obtain ⟨s26, d26⟩ := new_of (o' := .tup [.str "state", v]) hH hu2 rfl
      clear hH
      have sx := ((s23.trans s24).trans s25).trans s26
      have e26 : LamX.ExtN H16 H26 := E22.trans (LamX.ExtN.of sx)
      refine ⟨_, _, .tup (SqT.of (s26 _ _ d25)) (.cons (.str _) (.cons (hvd _ e26) .nil)), .tup (SqT.of d26) (.cons (.str _) (.cons (hvd _ e26) .nil)), shaped_pair oks vl1 vl2, shaped_pair oks vl1 vl2, ?_⟩
      rw [eqv_pair oks vl1]
      exact k _
--SPLIT
end
theorem binds_nil {K : PySem.W.Frag} {fd : FuncData} {ps : List Str} (h : ∃ ds, Vals [] ds ∧ Binds K fd ps ds) : Binds K fd ps [] := by
  obtain ⟨ds, h1, h2⟩ := h
  cases h1
  exact h2
theorem all_mk {l : PySem.W.OpenLaw} {w : World} {K : PySem.W.Frag} {h : Heap} {mg : Str → Option Value} {fa : Addr} (X : K.In h) (G : h.Ns mainGlobals mg) (hfa : mg "law" = some (.ref fa))
    {f_is_name f_is_place f_is_group f_are_groups f_group f_is_rule f_checked_rules f_is_answer f_checked_answers f_used_rules f_Loop__init f_Loop_states f_Loop_fitting f_law_source f_law_draw f_law_pick f_law_name f_law_names f_law_places f_law_group f_law_group_names f_law_groups f_law_rules f_law_states f_law_first f_law_tried f_law : Addr}
    {od_is_name an_is_name od_is_place an_is_place od_is_group an_is_group od_are_groups an_are_groups od_group an_group od_is_rule an_is_rule od_checked_rules an_checked_rules od_is_answer an_is_answer od_checked_answers an_checked_answers od_used_rules an_used_rules od_Loop__init an_Loop__init od_Loop_states an_Loop_states od_Loop_fitting an_Loop_fitting od_law_source an_law_source od_law_draw an_law_draw od_law_pick an_law_pick od_law_name an_law_name od_law_names an_law_names od_law_places an_law_places od_law_group an_law_group od_law_group_names an_law_group_names od_law_groups an_law_groups od_law_rules an_law_rules od_law_states an_law_states od_law_first an_law_first od_law_tried an_law_tried od_law an_law : Option Addr} {sl_is_name sl_is_place sl_is_group sl_are_groups sl_group sl_is_rule sl_checked_rules sl_is_answer sl_checked_answers sl_used_rules sl_Loop__init sl_Loop_states sl_Loop_fitting sl_law_source sl_law_draw sl_law_pick sl_law_name sl_law_names sl_law_places sl_law_group sl_law_group_names sl_law_groups sl_law_rules sl_law_states sl_law_first sl_law_tried sl_law : Array (Option Value)}
    {oc_is_name kV_is_name dc_is_name pm_is_name cd_is_name ct_is_name oc_is_place kV_is_place dc_is_place pm_is_place cd_is_place ct_is_place oc_is_group kV_is_group dc_is_group pm_is_group cd_is_group ct_is_group oc_are_groups kV_are_groups dc_are_groups pm_are_groups cd_are_groups ct_are_groups oc_group kV_group dc_group pm_group cd_group ct_group oc_is_rule kV_is_rule dc_is_rule pm_is_rule cd_is_rule ct_is_rule oc_checked_rules kV_checked_rules dc_checked_rules pm_checked_rules cd_checked_rules ct_checked_rules oc_is_answer kV_is_answer dc_is_answer pm_is_answer cd_is_answer ct_is_answer oc_checked_answers kV_checked_answers dc_checked_answers pm_checked_answers cd_checked_answers ct_checked_answers oc_used_rules kV_used_rules dc_used_rules pm_used_rules cd_used_rules ct_used_rules oc_Loop__init kV_Loop__init dc_Loop__init pm_Loop__init cd_Loop__init ct_Loop__init oc_Loop_states kV_Loop_states dc_Loop_states pm_Loop_states cd_Loop_states ct_Loop_states oc_Loop_fitting kV_Loop_fitting dc_Loop_fitting pm_Loop_fitting cd_Loop_fitting ct_Loop_fitting oc_law_source kV_law_source dc_law_source pm_law_source cd_law_source ct_law_source oc_law_draw kV_law_draw dc_law_draw pm_law_draw cd_law_draw ct_law_draw oc_law_pick kV_law_pick dc_law_pick pm_law_pick cd_law_pick ct_law_pick oc_law_name kV_law_name dc_law_name pm_law_name cd_law_name ct_law_name oc_law_names kV_law_names dc_law_names pm_law_names cd_law_names ct_law_names oc_law_places kV_law_places dc_law_places pm_law_places cd_law_places ct_law_places oc_law_group kV_law_group dc_law_group pm_law_group cd_law_group ct_law_group oc_law_group_names kV_law_group_names dc_law_group_names pm_law_group_names cd_law_group_names ct_law_group_names oc_law_groups kV_law_groups dc_law_groups pm_law_groups cd_law_groups ct_law_groups oc_law_rules kV_law_rules dc_law_rules pm_law_rules cd_law_rules ct_law_rules oc_law_states kV_law_states dc_law_states pm_law_states cd_law_states ct_law_states oc_law_first kV_law_first dc_law_first pm_law_first cd_law_first ct_law_first oc_law_tried kV_law_tried dc_law_tried pm_law_tried cd_law_tried ct_law_tried oc_law kV_law dc_law pm_law ct_law : Value}
    {a_PLACES : Addr} {n_PLACES : Nat} {sl_PLACES : Array (Option Value)} {t_PLACES_0 t_PLACES_1 t_PLACES_2 t_PLACES_3 t_PLACES_4 t_PLACES_5 t_PLACES_6 t_PLACES_7 t_PLACES_8 t_PLACES_9 t_PLACES_10 : Tok}
    {a_GROUPS : Addr} {n_GROUPS : Nat} {g_GROUPS_0 g_GROUPS_1 g_GROUPS_2 g_GROUPS_3 g_GROUPS_4 g_GROUPS_5 g_GROUPS_6 g_GROUPS_7 g_GROUPS_8 : Addr} {t_GROUPS_0 t_GROUPS_1 t_GROUPS_2 t_GROUPS_3 t_GROUPS_4 t_GROUPS_5 t_GROUPS_6 t_GROUPS_7 t_GROUPS_8 : Tok} {h_GROUPS_0 h_GROUPS_1 h_GROUPS_2 h_GROUPS_3 h_GROUPS_4 h_GROUPS_5 h_GROUPS_6 h_GROUPS_7 h_GROUPS_8 : Int}
    {m_GROUPS_0 : Nat} {sl_GROUPS_0 : Array (Option Value)} {t_GROUPS_0_0 t_GROUPS_0_1 t_GROUPS_0_2 t_GROUPS_0_3 t_GROUPS_0_4 t_GROUPS_0_5 t_GROUPS_0_6 t_GROUPS_0_7 t_GROUPS_0_8 t_GROUPS_0_9 t_GROUPS_0_10 : Tok}
    {m_GROUPS_1 : Nat} {sl_GROUPS_1 : Array (Option Value)} {t_GROUPS_1_0 t_GROUPS_1_1 t_GROUPS_1_2 t_GROUPS_1_3 t_GROUPS_1_4 t_GROUPS_1_5 t_GROUPS_1_6 : Tok}
    {m_GROUPS_2 : Nat} {sl_GROUPS_2 : Array (Option Value)} {t_GROUPS_2_0 t_GROUPS_2_1 t_GROUPS_2_2 t_GROUPS_2_3 : Tok}
    {m_GROUPS_3 : Nat} {sl_GROUPS_3 : Array (Option Value)} {t_GROUPS_3_0 t_GROUPS_3_1 t_GROUPS_3_2 t_GROUPS_3_3 t_GROUPS_3_4 : Tok}
    {m_GROUPS_4 : Nat} {sl_GROUPS_4 : Array (Option Value)} {t_GROUPS_4_0 t_GROUPS_4_1 t_GROUPS_4_2 t_GROUPS_4_3 t_GROUPS_4_4 : Tok}
    {m_GROUPS_5 : Nat} {sl_GROUPS_5 : Array (Option Value)} {t_GROUPS_5_0 t_GROUPS_5_1 : Tok}
    {m_GROUPS_6 : Nat} {sl_GROUPS_6 : Array (Option Value)} {t_GROUPS_6_0 t_GROUPS_6_1 : Tok}
    {m_GROUPS_7 : Nat} {sl_GROUPS_7 : Array (Option Value)} {t_GROUPS_7_0 t_GROUPS_7_1 t_GROUPS_7_2 : Tok}
    {m_GROUPS_8 : Nat} {sl_GROUPS_8 : Array (Option Value)}
    {t_LETTERS : Tok}
    {t_MOST_RULES : Tok}
    {t_MOST_STATES : Tok}
    {C_Loop : Addr}
    {dt_Loop__init : Addr} {do_Loop__init : Option Addr} {dn_Loop__init : Nat} {dsl_Loop__init : Array (Option Value)} {dcl_Loop__init : Value}
    {p_Loop_states : Addr} {pre_Loop_states : List Value}
    {C_BadGroup i_BadGroup N_BadGroup B_BadGroup cda_BadGroup cc_BadGroup : Addr} {nm_BadGroup q_BadGroup : Str} {bs_BadGroup : List Value} {sn_BadGroup : List Str} {sub_BadGroup : List Value} {ab_BadGroup : Bool} {col_BadGroup : Option Bool} {dd_BadGroup od_BadGroup an_BadGroup cdd_BadGroup cld_BadGroup : Option Addr} {k0_BadGroup k1_BadGroup k2_BadGroup k3_BadGroup k5_BadGroup : Option Value} {oc_BadGroup doc_BadGroup pm_BadGroup kV_BadGroup ct_BadGroup ccl_BadGroup cl_BadGroup : Value} {osl_BadGroup ccs_BadGroup csl_BadGroup : Array (Option Value)} {vs_BadGroup : Array Value} {file_BadGroup : Str} {tf_BadGroup : Tok}
    {C_UnknownState i_UnknownState N_UnknownState B_UnknownState cda_UnknownState cc_UnknownState : Addr} {nm_UnknownState q_UnknownState : Str} {bs_UnknownState : List Value} {sn_UnknownState : List Str} {sub_UnknownState : List Value} {ab_UnknownState : Bool} {col_UnknownState : Option Bool} {dd_UnknownState od_UnknownState an_UnknownState cdd_UnknownState cld_UnknownState : Option Addr} {k0_UnknownState k1_UnknownState k2_UnknownState k3_UnknownState k5_UnknownState : Option Value} {oc_UnknownState doc_UnknownState pm_UnknownState kV_UnknownState ct_UnknownState ccl_UnknownState cl_UnknownState : Value} {osl_UnknownState ccs_UnknownState csl_UnknownState : Array (Option Value)} {vs_UnknownState : Array Value} {file_UnknownState : Str} {tf_UnknownState : Tok}
    {cod_law tab_law : Addr} {ec_law : Value} {dc_law2 : Option Addr} {vc_law : Array Value} {sc_law2 : Array (Option Value)}
    (x_PLACES : PySem.W.nsIn K mainGlobals "PLACES" = some (some (.ref a_PLACES)))
    (lk_PLACES : K.lookup a_PLACES = some ⟨.type "tuple", none, .seq #[.str "below" t_PLACES_0, .str "-<" t_PLACES_1, .str "-=" t_PLACES_2, .str "->" t_PLACES_3, .str "<" t_PLACES_4, .str "=" t_PLACES_5, .str ">" t_PLACES_6, .str "+<" t_PLACES_7, .str "+=" t_PLACES_8, .str "+>" t_PLACES_9, .str "above" t_PLACES_10] n_PLACES, sl_PLACES⟩)
    (x_GROUPS : PySem.W.nsIn K mainGlobals "GROUPS" = some (some (.ref a_GROUPS)))
    (lk_GROUPS : K.lookup a_GROUPS = some ⟨.type "dict", none, .dict #[⟨h_GROUPS_0, .str "any" t_GROUPS_0, .ref g_GROUPS_0⟩, ⟨h_GROUPS_1, .str "near" t_GROUPS_1, .ref g_GROUPS_1⟩, ⟨h_GROUPS_2, .str "far" t_GROUPS_2, .ref g_GROUPS_2⟩, ⟨h_GROUPS_3, .str "less" t_GROUPS_3, .ref g_GROUPS_3⟩, ⟨h_GROUPS_4, .str "more" t_GROUPS_4, .ref g_GROUPS_4⟩, ⟨h_GROUPS_5, .str "under" t_GROUPS_5, .ref g_GROUPS_5⟩, ⟨h_GROUPS_6, .str "over" t_GROUPS_6, .ref g_GROUPS_6⟩, ⟨h_GROUPS_7, .str "cell" t_GROUPS_7, .ref g_GROUPS_7⟩, ⟨h_GROUPS_8, .str "none" t_GROUPS_8, .ref g_GROUPS_8⟩] n_GROUPS, #[]⟩)
    (ky_GROUPS : PySem.W.KeysLit w.params (#[⟨h_GROUPS_0, .str "any" t_GROUPS_0, .ref g_GROUPS_0⟩, ⟨h_GROUPS_1, .str "near" t_GROUPS_1, .ref g_GROUPS_1⟩, ⟨h_GROUPS_2, .str "far" t_GROUPS_2, .ref g_GROUPS_2⟩, ⟨h_GROUPS_3, .str "less" t_GROUPS_3, .ref g_GROUPS_3⟩, ⟨h_GROUPS_4, .str "more" t_GROUPS_4, .ref g_GROUPS_4⟩, ⟨h_GROUPS_5, .str "under" t_GROUPS_5, .ref g_GROUPS_5⟩, ⟨h_GROUPS_6, .str "over" t_GROUPS_6, .ref g_GROUPS_6⟩, ⟨h_GROUPS_7, .str "cell" t_GROUPS_7, .ref g_GROUPS_7⟩, ⟨h_GROUPS_8, .str "none" t_GROUPS_8, .ref g_GROUPS_8⟩] : Array DictEntry).toList)
    (lo_GROUPS : (a_GROUPS == sysModules) = false)
    (lg_GROUPS_0 : K.lookup g_GROUPS_0 = some ⟨.type "tuple", none, .seq #[.str "below" t_GROUPS_0_0, .str "-<" t_GROUPS_0_1, .str "-=" t_GROUPS_0_2, .str "->" t_GROUPS_0_3, .str "<" t_GROUPS_0_4, .str "=" t_GROUPS_0_5, .str ">" t_GROUPS_0_6, .str "+<" t_GROUPS_0_7, .str "+=" t_GROUPS_0_8, .str "+>" t_GROUPS_0_9, .str "above" t_GROUPS_0_10] m_GROUPS_0, sl_GROUPS_0⟩)
    (lg_GROUPS_1 : K.lookup g_GROUPS_1 = some ⟨.type "tuple", none, .seq #[.str "-=" t_GROUPS_1_0, .str "->" t_GROUPS_1_1, .str "<" t_GROUPS_1_2, .str "=" t_GROUPS_1_3, .str ">" t_GROUPS_1_4, .str "+<" t_GROUPS_1_5, .str "+=" t_GROUPS_1_6] m_GROUPS_1, sl_GROUPS_1⟩)
    (lg_GROUPS_2 : K.lookup g_GROUPS_2 = some ⟨.type "tuple", none, .seq #[.str "below" t_GROUPS_2_0, .str "-<" t_GROUPS_2_1, .str "+>" t_GROUPS_2_2, .str "above" t_GROUPS_2_3] m_GROUPS_2, sl_GROUPS_2⟩)
    (lg_GROUPS_3 : K.lookup g_GROUPS_3 = some ⟨.type "tuple", none, .seq #[.str "below" t_GROUPS_3_0, .str "-<" t_GROUPS_3_1, .str "-=" t_GROUPS_3_2, .str "->" t_GROUPS_3_3, .str "<" t_GROUPS_3_4] m_GROUPS_3, sl_GROUPS_3⟩)
    (lg_GROUPS_4 : K.lookup g_GROUPS_4 = some ⟨.type "tuple", none, .seq #[.str ">" t_GROUPS_4_0, .str "+<" t_GROUPS_4_1, .str "+=" t_GROUPS_4_2, .str "+>" t_GROUPS_4_3, .str "above" t_GROUPS_4_4] m_GROUPS_4, sl_GROUPS_4⟩)
    (lg_GROUPS_5 : K.lookup g_GROUPS_5 = some ⟨.type "tuple", none, .seq #[.str "below" t_GROUPS_5_0, .str "-<" t_GROUPS_5_1] m_GROUPS_5, sl_GROUPS_5⟩)
    (lg_GROUPS_6 : K.lookup g_GROUPS_6 = some ⟨.type "tuple", none, .seq #[.str "+>" t_GROUPS_6_0, .str "above" t_GROUPS_6_1] m_GROUPS_6, sl_GROUPS_6⟩)
    (lg_GROUPS_7 : K.lookup g_GROUPS_7 = some ⟨.type "tuple", none, .seq #[.str "<" t_GROUPS_7_0, .str "=" t_GROUPS_7_1, .str ">" t_GROUPS_7_2] m_GROUPS_7, sl_GROUPS_7⟩)
    (lg_GROUPS_8 : K.lookup g_GROUPS_8 = some ⟨.type "tuple", none, .seq #[] m_GROUPS_8, sl_GROUPS_8⟩)
    (g_LETTERS : PySem.W.nsIn K mainGlobals "LETTERS" = some (some (.str "abcdefghijklmnopqrstuvwxyz" t_LETTERS)))
    (g_MOST_RULES : PySem.W.nsIn K mainGlobals "MOST_RULES" = some (some (.int 40 t_MOST_RULES)))
    (g_MOST_STATES : PySem.W.nsIn K mainGlobals "MOST_STATES" = some (some (.int 6 t_MOST_STATES)))
    (cg_Loop : PySem.W.nsIn K mainGlobals "Loop" = some (some (.ref C_Loop)))
    (cpg_Loop : PySem.W.plainGet K C_Loop Str.empty = true)
    (chd_Loop : PySem.W.hasDictIn K C_Loop = true)
    (cpo_Loop : PySem.W.plainOver K C_Loop = true)
    (csa_Loop : PySem.W.findIn K (.ref C_Loop) "__setattr__" = some (some (.builtin "object.__setattr__")))
    (cmk_Loop : PySem.W.makesIn K C_Loop = true)
    (ckc_Loop : PySem.W.keepIn K (.ref C_Loop) = true)
    (cn_Loop_rules : PySem.W.findIn K (.ref C_Loop) "_rules" = some none)
    (cn_Loop_states : PySem.W.findIn K (.ref C_Loop) "_states" = some none)
    (cn_Loop_answers : PySem.W.findIn K (.ref C_Loop) "_answers" = some none)
    (cn_Loop_used : PySem.W.findIn K (.ref C_Loop) "_used" = some none)
    (a_Loop__init : PySem.W.findIn K (.ref C_Loop) "__init__" = some (some (.ref f_Loop__init)))
    (i_Loop__init : PySem.W.isFn K (.ref f_Loop__init) = true)
    (l_Loop__init : K.lookup f_Loop__init = some ⟨oc_Loop__init, od_Loop__init, .func (PySem.W.fnOf "__init__" "Loop.__init__" (defArgs s_Loop__init) (defBody s_Loop__init) (defScope s_Loop__init) (.ref dt_Loop__init) kV_Loop__init dc_Loop__init pm_Loop__init an_Loop__init cd_Loop__init ct_Loop__init), sl_Loop__init⟩)
    (dl_Loop__init : K.lookup dt_Loop__init = some ⟨dcl_Loop__init, do_Loop__init, .seq #[.none] dn_Loop__init, dsl_Loop__init⟩)
    (c_Loop__init : PySem.W.codeIn K cd_Loop__init "Loop.__init__" = true)
    (k_Loop__init : PySem.W.keepIn K (.ref f_Loop__init) = true)
    (pa_Loop_states : PySem.W.findIn K (.ref C_Loop) "states" = some (some (.ref p_Loop_states)))
    (pg_Loop_states : PySem.W.specialIn K (.ref p_Loop_states) "__get__" = some (some (.builtin "property.__get__")))
    (pt_Loop_states : PySem.W.takesIn K (.ref p_Loop_states) = some true)
    (pc_Loop_states : PySem.W.recIn K p_Loop_states "property" = some (.ref f_Loop_states :: pre_Loop_states))
    (l_Loop_states : K.lookup f_Loop_states = some ⟨oc_Loop_states, od_Loop_states, .func (PySem.W.fnOf "states" "Loop.states" (defArgs s_Loop_states) (defBody s_Loop_states) (defScope s_Loop_states) .none kV_Loop_states dc_Loop_states pm_Loop_states an_Loop_states cd_Loop_states ct_Loop_states), sl_Loop_states⟩)
    (c_Loop_states : PySem.W.codeIn K cd_Loop_states "Loop.states" = true)
    (k_Loop_states : PySem.W.keepIn K (.ref f_Loop_states) = true)
    (a_Loop_fitting : PySem.W.findIn K (.ref C_Loop) "fitting" = some (some (.ref f_Loop_fitting)))
    (i_Loop_fitting : PySem.W.isFn K (.ref f_Loop_fitting) = true)
    (l_Loop_fitting : K.lookup f_Loop_fitting = some ⟨oc_Loop_fitting, od_Loop_fitting, .func (PySem.W.fnOf "fitting" "Loop.fitting" (defArgs s_Loop_fitting) (defBody s_Loop_fitting) (defScope s_Loop_fitting) .none kV_Loop_fitting dc_Loop_fitting pm_Loop_fitting an_Loop_fitting cd_Loop_fitting ct_Loop_fitting), sl_Loop_fitting⟩)
    (c_Loop_fitting : PySem.W.codeIn K cd_Loop_fitting "Loop.fitting" = true)
    (k_Loop_fitting : PySem.W.keepIn K (.ref f_Loop_fitting) = true)
    (a_is_name : PySem.W.nsIn K mainGlobals "is_name" = some (some (.ref f_is_name)))
    (l_is_name : K.lookup f_is_name = some ⟨oc_is_name, od_is_name, .func (PySem.W.fnOf "is_name" "is_name" (defArgs s_is_name) (defBody s_is_name) (defScope s_is_name) .none kV_is_name dc_is_name pm_is_name an_is_name cd_is_name ct_is_name), sl_is_name⟩)
    (c_is_name : PySem.W.codeIn K cd_is_name "is_name" = true)
    (k_is_name : PySem.W.keepIn K (.ref f_is_name) = true)
    (a_is_place : PySem.W.nsIn K mainGlobals "is_place" = some (some (.ref f_is_place)))
    (l_is_place : K.lookup f_is_place = some ⟨oc_is_place, od_is_place, .func (PySem.W.fnOf "is_place" "is_place" (defArgs s_is_place) (defBody s_is_place) (defScope s_is_place) .none kV_is_place dc_is_place pm_is_place an_is_place cd_is_place ct_is_place), sl_is_place⟩)
    (c_is_place : PySem.W.codeIn K cd_is_place "is_place" = true)
    (k_is_place : PySem.W.keepIn K (.ref f_is_place) = true)
    (a_is_group : PySem.W.nsIn K mainGlobals "is_group" = some (some (.ref f_is_group)))
    (l_is_group : K.lookup f_is_group = some ⟨oc_is_group, od_is_group, .func (PySem.W.fnOf "is_group" "is_group" (defArgs s_is_group) (defBody s_is_group) (defScope s_is_group) .none kV_is_group dc_is_group pm_is_group an_is_group cd_is_group ct_is_group), sl_is_group⟩)
    (c_is_group : PySem.W.codeIn K cd_is_group "is_group" = true)
    (k_is_group : PySem.W.keepIn K (.ref f_is_group) = true)
    (a_are_groups : PySem.W.nsIn K mainGlobals "are_groups" = some (some (.ref f_are_groups)))
    (l_are_groups : K.lookup f_are_groups = some ⟨oc_are_groups, od_are_groups, .func (PySem.W.fnOf "are_groups" "are_groups" (defArgs s_are_groups) (defBody s_are_groups) (defScope s_are_groups) .none kV_are_groups dc_are_groups pm_are_groups an_are_groups cd_are_groups ct_are_groups), sl_are_groups⟩)
    (c_are_groups : PySem.W.codeIn K cd_are_groups "are_groups" = true)
    (k_are_groups : PySem.W.keepIn K (.ref f_are_groups) = true)
    (a_group : PySem.W.nsIn K mainGlobals "group" = some (some (.ref f_group)))
    (l_group : K.lookup f_group = some ⟨oc_group, od_group, .func (PySem.W.fnOf "group" "group" (defArgs s_group) (defBody s_group) (defScope s_group) .none kV_group dc_group pm_group an_group cd_group ct_group), sl_group⟩)
    (c_group : PySem.W.codeIn K cd_group "group" = true)
    (k_group : PySem.W.keepIn K (.ref f_group) = true)
    (a_is_rule : PySem.W.nsIn K mainGlobals "_is_rule" = some (some (.ref f_is_rule)))
    (l_is_rule : K.lookup f_is_rule = some ⟨oc_is_rule, od_is_rule, .func (PySem.W.fnOf "_is_rule" "_is_rule" (defArgs s_is_rule) (defBody s_is_rule) (defScope s_is_rule) .none kV_is_rule dc_is_rule pm_is_rule an_is_rule cd_is_rule ct_is_rule), sl_is_rule⟩)
    (c_is_rule : PySem.W.codeIn K cd_is_rule "_is_rule" = true)
    (k_is_rule : PySem.W.keepIn K (.ref f_is_rule) = true)
    (a_checked_rules : PySem.W.nsIn K mainGlobals "_checked_rules" = some (some (.ref f_checked_rules)))
    (l_checked_rules : K.lookup f_checked_rules = some ⟨oc_checked_rules, od_checked_rules, .func (PySem.W.fnOf "_checked_rules" "_checked_rules" (defArgs s_checked_rules) (defBody s_checked_rules) (defScope s_checked_rules) .none kV_checked_rules dc_checked_rules pm_checked_rules an_checked_rules cd_checked_rules ct_checked_rules), sl_checked_rules⟩)
    (c_checked_rules : PySem.W.codeIn K cd_checked_rules "_checked_rules" = true)
    (k_checked_rules : PySem.W.keepIn K (.ref f_checked_rules) = true)
    (a_is_answer : PySem.W.nsIn K mainGlobals "_is_answer" = some (some (.ref f_is_answer)))
    (l_is_answer : K.lookup f_is_answer = some ⟨oc_is_answer, od_is_answer, .func (PySem.W.fnOf "_is_answer" "_is_answer" (defArgs s_is_answer) (defBody s_is_answer) (defScope s_is_answer) .none kV_is_answer dc_is_answer pm_is_answer an_is_answer cd_is_answer ct_is_answer), sl_is_answer⟩)
    (c_is_answer : PySem.W.codeIn K cd_is_answer "_is_answer" = true)
    (k_is_answer : PySem.W.keepIn K (.ref f_is_answer) = true)
    (a_checked_answers : PySem.W.nsIn K mainGlobals "_checked_answers" = some (some (.ref f_checked_answers)))
    (l_checked_answers : K.lookup f_checked_answers = some ⟨oc_checked_answers, od_checked_answers, .func (PySem.W.fnOf "_checked_answers" "_checked_answers" (defArgs s_checked_answers) (defBody s_checked_answers) (defScope s_checked_answers) .none kV_checked_answers dc_checked_answers pm_checked_answers an_checked_answers cd_checked_answers ct_checked_answers), sl_checked_answers⟩)
    (c_checked_answers : PySem.W.codeIn K cd_checked_answers "_checked_answers" = true)
    (k_checked_answers : PySem.W.keepIn K (.ref f_checked_answers) = true)
    (a_used_rules : PySem.W.nsIn K mainGlobals "_used_rules" = some (some (.ref f_used_rules)))
    (l_used_rules : K.lookup f_used_rules = some ⟨oc_used_rules, od_used_rules, .func (PySem.W.fnOf "_used_rules" "_used_rules" (defArgs s_used_rules) (defBody s_used_rules) (defScope s_used_rules) .none kV_used_rules dc_used_rules pm_used_rules an_used_rules cd_used_rules ct_used_rules), sl_used_rules⟩)
    (c_used_rules : PySem.W.codeIn K cd_used_rules "_used_rules" = true)
    (k_used_rules : PySem.W.keepIn K (.ref f_used_rules) = true)
    (a_law_source : PySem.W.nsIn K mainGlobals "_law_source" = some (some (.ref f_law_source)))
    (l_law_source : K.lookup f_law_source = some ⟨oc_law_source, od_law_source, .func (PySem.W.fnOf "_law_source" "_law_source" (defArgs s_law_source) (defBody s_law_source) (defScope s_law_source) .none kV_law_source dc_law_source pm_law_source an_law_source cd_law_source ct_law_source), sl_law_source⟩)
    (c_law_source : PySem.W.codeIn K cd_law_source "_law_source" = true)
    (k_law_source : PySem.W.keepIn K (.ref f_law_source) = true)
    (a_law_draw : PySem.W.nsIn K mainGlobals "_law_draw" = some (some (.ref f_law_draw)))
    (l_law_draw : K.lookup f_law_draw = some ⟨oc_law_draw, od_law_draw, .func (PySem.W.fnOf "_law_draw" "_law_draw" (defArgs s_law_draw) (defBody s_law_draw) (defScope s_law_draw) .none kV_law_draw dc_law_draw pm_law_draw an_law_draw cd_law_draw ct_law_draw), sl_law_draw⟩)
    (c_law_draw : PySem.W.codeIn K cd_law_draw "_law_draw" = true)
    (k_law_draw : PySem.W.keepIn K (.ref f_law_draw) = true)
    (a_law_pick : PySem.W.nsIn K mainGlobals "_law_pick" = some (some (.ref f_law_pick)))
    (l_law_pick : K.lookup f_law_pick = some ⟨oc_law_pick, od_law_pick, .func (PySem.W.fnOf "_law_pick" "_law_pick" (defArgs s_law_pick) (defBody s_law_pick) (defScope s_law_pick) .none kV_law_pick dc_law_pick pm_law_pick an_law_pick cd_law_pick ct_law_pick), sl_law_pick⟩)
    (c_law_pick : PySem.W.codeIn K cd_law_pick "_law_pick" = true)
    (k_law_pick : PySem.W.keepIn K (.ref f_law_pick) = true)
    (a_law_name : PySem.W.nsIn K mainGlobals "_law_name" = some (some (.ref f_law_name)))
    (l_law_name : K.lookup f_law_name = some ⟨oc_law_name, od_law_name, .func (PySem.W.fnOf "_law_name" "_law_name" (defArgs s_law_name) (defBody s_law_name) (defScope s_law_name) .none kV_law_name dc_law_name pm_law_name an_law_name cd_law_name ct_law_name), sl_law_name⟩)
    (c_law_name : PySem.W.codeIn K cd_law_name "_law_name" = true)
    (k_law_name : PySem.W.keepIn K (.ref f_law_name) = true)
    (a_law_names : PySem.W.nsIn K mainGlobals "_law_names" = some (some (.ref f_law_names)))
    (l_law_names : K.lookup f_law_names = some ⟨oc_law_names, od_law_names, .func (PySem.W.fnOf "_law_names" "_law_names" (defArgs s_law_names) (defBody s_law_names) (defScope s_law_names) .none kV_law_names dc_law_names pm_law_names an_law_names cd_law_names ct_law_names), sl_law_names⟩)
    (c_law_names : PySem.W.codeIn K cd_law_names "_law_names" = true)
    (k_law_names : PySem.W.keepIn K (.ref f_law_names) = true)
    (a_law_places : PySem.W.nsIn K mainGlobals "_law_places" = some (some (.ref f_law_places)))
    (l_law_places : K.lookup f_law_places = some ⟨oc_law_places, od_law_places, .func (PySem.W.fnOf "_law_places" "_law_places" (defArgs s_law_places) (defBody s_law_places) (defScope s_law_places) .none kV_law_places dc_law_places pm_law_places an_law_places cd_law_places ct_law_places), sl_law_places⟩)
    (c_law_places : PySem.W.codeIn K cd_law_places "_law_places" = true)
    (k_law_places : PySem.W.keepIn K (.ref f_law_places) = true)
    (a_law_group : PySem.W.nsIn K mainGlobals "_law_group" = some (some (.ref f_law_group)))
    (l_law_group : K.lookup f_law_group = some ⟨oc_law_group, od_law_group, .func (PySem.W.fnOf "_law_group" "_law_group" (defArgs s_law_group) (defBody s_law_group) (defScope s_law_group) .none kV_law_group dc_law_group pm_law_group an_law_group cd_law_group ct_law_group), sl_law_group⟩)
    (c_law_group : PySem.W.codeIn K cd_law_group "_law_group" = true)
    (k_law_group : PySem.W.keepIn K (.ref f_law_group) = true)
    (a_law_group_names : PySem.W.nsIn K mainGlobals "_law_group_names" = some (some (.ref f_law_group_names)))
    (l_law_group_names : K.lookup f_law_group_names = some ⟨oc_law_group_names, od_law_group_names, .func (PySem.W.fnOf "_law_group_names" "_law_group_names" (defArgs s_law_group_names) (defBody s_law_group_names) (defScope s_law_group_names) .none kV_law_group_names dc_law_group_names pm_law_group_names an_law_group_names cd_law_group_names ct_law_group_names), sl_law_group_names⟩)
    (c_law_group_names : PySem.W.codeIn K cd_law_group_names "_law_group_names" = true)
    (k_law_group_names : PySem.W.keepIn K (.ref f_law_group_names) = true)
    (a_law_groups : PySem.W.nsIn K mainGlobals "_law_groups" = some (some (.ref f_law_groups)))
    (l_law_groups : K.lookup f_law_groups = some ⟨oc_law_groups, od_law_groups, .func (PySem.W.fnOf "_law_groups" "_law_groups" (defArgs s_law_groups) (defBody s_law_groups) (defScope s_law_groups) .none kV_law_groups dc_law_groups pm_law_groups an_law_groups cd_law_groups ct_law_groups), sl_law_groups⟩)
    (c_law_groups : PySem.W.codeIn K cd_law_groups "_law_groups" = true)
    (k_law_groups : PySem.W.keepIn K (.ref f_law_groups) = true)
    (a_law_rules : PySem.W.nsIn K mainGlobals "_law_rules" = some (some (.ref f_law_rules)))
    (l_law_rules : K.lookup f_law_rules = some ⟨oc_law_rules, od_law_rules, .func (PySem.W.fnOf "_law_rules" "_law_rules" (defArgs s_law_rules) (defBody s_law_rules) (defScope s_law_rules) .none kV_law_rules dc_law_rules pm_law_rules an_law_rules cd_law_rules ct_law_rules), sl_law_rules⟩)
    (c_law_rules : PySem.W.codeIn K cd_law_rules "_law_rules" = true)
    (k_law_rules : PySem.W.keepIn K (.ref f_law_rules) = true)
    (a_law_states : PySem.W.nsIn K mainGlobals "_law_states" = some (some (.ref f_law_states)))
    (l_law_states : K.lookup f_law_states = some ⟨oc_law_states, od_law_states, .func (PySem.W.fnOf "_law_states" "_law_states" (defArgs s_law_states) (defBody s_law_states) (defScope s_law_states) .none kV_law_states dc_law_states pm_law_states an_law_states cd_law_states ct_law_states), sl_law_states⟩)
    (c_law_states : PySem.W.codeIn K cd_law_states "_law_states" = true)
    (k_law_states : PySem.W.keepIn K (.ref f_law_states) = true)
    (a_law_first : PySem.W.nsIn K mainGlobals "_law_first" = some (some (.ref f_law_first)))
    (l_law_first : K.lookup f_law_first = some ⟨oc_law_first, od_law_first, .func (PySem.W.fnOf "_law_first" "_law_first" (defArgs s_law_first) (defBody s_law_first) (defScope s_law_first) .none kV_law_first dc_law_first pm_law_first an_law_first cd_law_first ct_law_first), sl_law_first⟩)
    (c_law_first : PySem.W.codeIn K cd_law_first "_law_first" = true)
    (k_law_first : PySem.W.keepIn K (.ref f_law_first) = true)
    (a_law_tried : PySem.W.nsIn K mainGlobals "_law_tried" = some (some (.ref f_law_tried)))
    (l_law_tried : K.lookup f_law_tried = some ⟨oc_law_tried, od_law_tried, .func (PySem.W.fnOf "_law_tried" "_law_tried" (defArgs s_law_tried) (defBody s_law_tried) (defScope s_law_tried) .none kV_law_tried dc_law_tried pm_law_tried an_law_tried cd_law_tried ct_law_tried), sl_law_tried⟩)
    (c_law_tried : PySem.W.codeIn K cd_law_tried "_law_tried" = true)
    (k_law_tried : PySem.W.keepIn K (.ref f_law_tried) = true)
    (a_law : PySem.W.nsIn K mainGlobals "law" = some (some (.ref f_law)))
    (l_law : K.lookup f_law = some ⟨oc_law, od_law, .func (PySem.W.fnOf "law" "law" (defArgs s_law) (defBody s_law) (defScope s_law) .none kV_law dc_law pm_law an_law (.ref cod_law) ct_law), sl_law⟩)
    (c_law : PySem.W.codeIn K (.ref cod_law) "law" = true)
    (k_law : PySem.W.keepIn K (.ref f_law) = true)
    (z_int : PySem.W.nsIn K mainGlobals "int" = some none)
    (z_str : PySem.W.nsIn K mainGlobals "str" = some none)
    (z_bool : PySem.W.nsIn K mainGlobals "bool" = some none)
    (z_range : PySem.W.nsIn K mainGlobals "range" = some none)
    (z_len : PySem.W.nsIn K mainGlobals "len" = some none)
    (z_isinstance : PySem.W.nsIn K mainGlobals "isinstance" = some none)
    (z_all : PySem.W.nsIn K mainGlobals "all" = some none)
    (z_any : PySem.W.nsIn K mainGlobals "any" = some none)
    (z_list : PySem.W.nsIn K mainGlobals "list" = some none)
    (z_tuple : PySem.W.nsIn K mainGlobals "tuple" = some none)
    (z_enumerate : PySem.W.nsIn K mainGlobals "enumerate" = some none)
    (z_sorted : PySem.W.nsIn K mainGlobals "sorted" = some none)
    (xg_BadGroup : PySem.W.nsIn K mainGlobals "BadGroup" = some (some (.ref C_BadGroup)))
    (xc_BadGroup : K.lookup C_BadGroup = some (excClassObj nm_BadGroup q_BadGroup C_BadGroup N_BadGroup bs_BadGroup (.ref B_BadGroup :: PySem.SupX.veTl) true sn_BadGroup sub_BadGroup ab_BadGroup col_BadGroup dd_BadGroup k0_BadGroup k1_BadGroup k2_BadGroup k3_BadGroup k5_BadGroup "ValueError.__new__"))
    (xsa_BadGroup : PySem.W.findIn K (.ref C_BadGroup) "__setattr__" = some (some (.builtin "object.__setattr__")))
    (xga_BadGroup : PySem.W.findIn K (.ref C_BadGroup) "__getattribute__" = some (some (.builtin "BaseException.__getattribute__")))
    (xgg_BadGroup : PySem.W.findIn K (.ref C_BadGroup) "__getattr__" = some none)
    (xic_BadGroup : PySem.W.findIn K (.ref C_BadGroup) "__init__" = some (some (.ref i_BadGroup)))
    (xtc_BadGroup : PySem.W.typeIn K (.ref i_BadGroup) = some (.type "function"))
    (xkc_BadGroup : PySem.W.keepIn K (.ref C_BadGroup) = true)
    (xex_BadGroup : PySem.W.subIn K (.ref C_BadGroup) (.type "BaseException") = some true)
    (xty_BadGroup : PySem.W.typeIn K (.ref C_BadGroup) = some (.type "type"))
    (xhd_BadGroup : PySem.W.hasDictIn K C_BadGroup = true)
    (xsu_BadGroup : PySem.W.ks_superIn K C_BadGroup C_BadGroup "__init__" = some (some (.builtin "ValueError.__init__")))
    (xsv_BadGroup : PySem.W.subIn K (.ref C_BadGroup) (.type "ValueError") = some true)
    (xmr_BadGroup : PySem.W.mroIn K C_BadGroup (.ref C_BadGroup) = some true)
    (xst_BadGroup : PySem.W.nsIn K PySem.cStatics "thirdparty.any" = some none)
    (xms_BadGroup : PySem.W.nsIn K mainGlobals "super" = some none)
    (xht_BadGroup : (l.prog.main.scope.names.lookup ("super" : Str)).isSome = false)
    (xno_BadGroup : PySem.W.findIn K (.ref C_BadGroup) "group" = some none)
    (xli_BadGroup : K.lookup i_BadGroup = some ⟨oc_BadGroup, od_BadGroup, .func (PySem.W.ksFn "__init__" "BadGroup.__init__" (defArgs (inClass (top 3) 0)) (defBody (inClass (top 3) 0)) (defScope (inClass (top 3) 0)) .none kV_BadGroup doc_BadGroup pm_BadGroup an_BadGroup (.ref cda_BadGroup) ct_BadGroup cc_BadGroup), osl_BadGroup⟩)
    (xci_BadGroup : PySem.W.codeIn K (.ref cda_BadGroup) "BadGroup.__init__" = true)
    (xcd_BadGroup : K.lookup cda_BadGroup = some ⟨ccl_BadGroup, cdd_BadGroup, .fields vs_BadGroup, ccs_BadGroup⟩)
    (xv2_BadGroup : vs_BadGroup[2]? = some (.str file_BadGroup tf_BadGroup))
    (xfi_BadGroup : ((l.prog.main.file : Str) == file_BadGroup) = true)
    (xcc_BadGroup : K.lookup cc_BadGroup = some ⟨cl_BadGroup, cld_BadGroup, .cell (some (.ref C_BadGroup)), csl_BadGroup⟩)
    (xte_BadGroup : PySem.W.exmOne K (.ref C_BadGroup) (.ref C_BadGroup) = some true)
    (xg_UnknownState : PySem.W.nsIn K mainGlobals "UnknownState" = some (some (.ref C_UnknownState)))
    (xc_UnknownState : K.lookup C_UnknownState = some (excClassObj nm_UnknownState q_UnknownState C_UnknownState N_UnknownState bs_UnknownState (.ref B_UnknownState :: PySem.SupX.veTl) true sn_UnknownState sub_UnknownState ab_UnknownState col_UnknownState dd_UnknownState k0_UnknownState k1_UnknownState k2_UnknownState k3_UnknownState k5_UnknownState "ValueError.__new__"))
    (xsa_UnknownState : PySem.W.findIn K (.ref C_UnknownState) "__setattr__" = some (some (.builtin "object.__setattr__")))
    (xga_UnknownState : PySem.W.findIn K (.ref C_UnknownState) "__getattribute__" = some (some (.builtin "BaseException.__getattribute__")))
    (xgg_UnknownState : PySem.W.findIn K (.ref C_UnknownState) "__getattr__" = some none)
    (xic_UnknownState : PySem.W.findIn K (.ref C_UnknownState) "__init__" = some (some (.ref i_UnknownState)))
    (xtc_UnknownState : PySem.W.typeIn K (.ref i_UnknownState) = some (.type "function"))
    (xkc_UnknownState : PySem.W.keepIn K (.ref C_UnknownState) = true)
    (xex_UnknownState : PySem.W.subIn K (.ref C_UnknownState) (.type "BaseException") = some true)
    (xty_UnknownState : PySem.W.typeIn K (.ref C_UnknownState) = some (.type "type"))
    (xhd_UnknownState : PySem.W.hasDictIn K C_UnknownState = true)
    (xsu_UnknownState : PySem.W.ks_superIn K C_UnknownState C_UnknownState "__init__" = some (some (.builtin "ValueError.__init__")))
    (xsv_UnknownState : PySem.W.subIn K (.ref C_UnknownState) (.type "ValueError") = some true)
    (xmr_UnknownState : PySem.W.mroIn K C_UnknownState (.ref C_UnknownState) = some true)
    (xst_UnknownState : PySem.W.nsIn K PySem.cStatics "thirdparty.any" = some none)
    (xms_UnknownState : PySem.W.nsIn K mainGlobals "super" = some none)
    (xht_UnknownState : (l.prog.main.scope.names.lookup ("super" : Str)).isSome = false)
    (xno_UnknownState : PySem.W.findIn K (.ref C_UnknownState) "state" = some none)
    (xli_UnknownState : K.lookup i_UnknownState = some ⟨oc_UnknownState, od_UnknownState, .func (PySem.W.ksFn "__init__" "UnknownState.__init__" (defArgs (inClass (top 5) 0)) (defBody (inClass (top 5) 0)) (defScope (inClass (top 5) 0)) .none kV_UnknownState doc_UnknownState pm_UnknownState an_UnknownState (.ref cda_UnknownState) ct_UnknownState cc_UnknownState), osl_UnknownState⟩)
    (xci_UnknownState : PySem.W.codeIn K (.ref cda_UnknownState) "UnknownState.__init__" = true)
    (xcd_UnknownState : K.lookup cda_UnknownState = some ⟨ccl_UnknownState, cdd_UnknownState, .fields vs_UnknownState, ccs_UnknownState⟩)
    (xv2_UnknownState : vs_UnknownState[2]? = some (.str file_UnknownState tf_UnknownState))
    (xfi_UnknownState : ((l.prog.main.file : Str) == file_UnknownState) = true)
    (xcc_UnknownState : K.lookup cc_UnknownState = some ⟨cl_UnknownState, cld_UnknownState, .cell (some (.ref C_UnknownState)), csl_UnknownState⟩)
    (xte_UnknownState : PySem.W.exmOne K (.ref C_UnknownState) (.ref C_UnknownState) = some true)
    (lc_law : K.lookup cod_law = some ⟨ec_law, dc_law2, .fields vc_law, sc_law2⟩)
    (v11_law : vc_law[11]? = some (.ref tab_law))
    (nP_law : K.lookup tab_law = none)
    (ch_law : PySem.W.codeHdIn K cod_law tab_law = true)
    (xbu : PySem.W.exmOne K (.ref C_BadGroup) (.ref C_UnknownState) = some false)
    (own : LamX.OwnTab K fa h) : LamX.LawAtS l w K CX0 8 63 "_law_script" mg fa h := by
  have e := hfa.symm.trans (PySem.W.mg_of X G a_law)
  cases e
  have F_is_name := fun_mk (st := s_is_name) l_is_name c_is_name k_is_name
  have F_is_place := fun_mk (st := s_is_place) l_is_place c_is_place k_is_place
  have F_is_group := fun_mk (st := s_is_group) l_is_group c_is_group k_is_group
  have F_are_groups := fun_mk (st := s_are_groups) l_are_groups c_are_groups k_are_groups
  have F_group := fun_mk (st := s_group) l_group c_group k_group
  have F_is_rule := fun_mk (st := s_is_rule) l_is_rule c_is_rule k_is_rule
  have F_checked_rules := fun_mk (st := s_checked_rules) l_checked_rules c_checked_rules k_checked_rules
  have F_is_answer := fun_mk (st := s_is_answer) l_is_answer c_is_answer k_is_answer
  have F_checked_answers := fun_mk (st := s_checked_answers) l_checked_answers c_checked_answers k_checked_answers
  have F_used_rules := fun_mk (st := s_used_rules) l_used_rules c_used_rules k_used_rules
  have F_Loop__init : FunD K "__init__" "Loop.__init__" (defArgs s_Loop__init) (defBody s_Loop__init) (defScope s_Loop__init) [.non] [] f_Loop__init _ := ⟨⟨_, _, _, _, _, _, _, _, _, _, rfl, l_Loop__init, c_Loop__init, .inr ⟨by decide, _, _, [.none], _, rfl, dl_Loop__init, rfl, (.cons rfl .nil)⟩, .inl rfl⟩, k_Loop__init⟩
  have F_Loop_states := fun_mk (st := s_Loop_states) l_Loop_states c_Loop_states k_Loop_states
  have F_Loop_fitting := fun_mk (st := s_Loop_fitting) l_Loop_fitting c_Loop_fitting k_Loop_fitting
  have F_law_source := fun_mk (st := s_law_source) l_law_source c_law_source k_law_source
  have F_law_draw := fun_mk (st := s_law_draw) l_law_draw c_law_draw k_law_draw
  have F_law_pick := fun_mk (st := s_law_pick) l_law_pick c_law_pick k_law_pick
  have F_law_name := fun_mk (st := s_law_name) l_law_name c_law_name k_law_name
  have F_law_names := fun_mk (st := s_law_names) l_law_names c_law_names k_law_names
  have F_law_places := fun_mk (st := s_law_places) l_law_places c_law_places k_law_places
  have F_law_group := fun_mk (st := s_law_group) l_law_group c_law_group k_law_group
  have F_law_group_names := fun_mk (st := s_law_group_names) l_law_group_names c_law_group_names k_law_group_names
  have F_law_groups := fun_mk (st := s_law_groups) l_law_groups c_law_groups k_law_groups
  have F_law_rules := fun_mk (st := s_law_rules) l_law_rules c_law_rules k_law_rules
  have F_law_states := fun_mk (st := s_law_states) l_law_states c_law_states k_law_states
  have F_law_first := fun_mk (st := s_law_first) l_law_first c_law_first k_law_first
  have F_law_tried := fun_mk (st := s_law_tried) l_law_tried c_law_tried k_law_tried
  have F_law := fun_mk (st := s_law) l_law c_law k_law
  have b_is_name := F_is_name.binds (ps := ["thing"]) fun _ _ _ _ _ _ us hl => match us, hl with | [_], _ => rfl
  have b_is_place := F_is_place.binds (ps := ["thing"]) fun _ _ _ _ _ _ us hl => match us, hl with | [_], _ => rfl
  have b_is_group := F_is_group.binds (ps := ["thing"]) fun _ _ _ _ _ _ us hl => match us, hl with | [_], _ => rfl
  have b_are_groups := F_are_groups.binds (ps := ["things"]) fun _ _ _ _ _ _ us hl => match us, hl with | [_], _ => rfl
  have b_group := F_group.binds (ps := ["name"]) fun _ _ _ _ _ _ us hl => match us, hl with | [_], _ => rfl
  have b_is_rule := F_is_rule.binds (ps := ["thing"]) fun _ _ _ _ _ _ us hl => match us, hl with | [_], _ => rfl
  have b_checked_rules := F_checked_rules.binds (ps := ["rules"]) fun _ _ _ _ _ _ us hl => match us, hl with | [_], _ => rfl
  have b_is_answer := F_is_answer.binds (ps := ["thing"]) fun _ _ _ _ _ _ us hl => match us, hl with | [_], _ => rfl
  have b_checked_answers := F_checked_answers.binds (ps := ["states", "answers"]) fun _ _ _ _ _ _ us hl => match us, hl with | [_, _], _ => rfl
  have b_used_rules := F_used_rules.binds (ps := ["rules"]) fun _ _ _ _ _ _ us hl => match us, hl with | [_], _ => rfl
  have bd_Loop__init := F_Loop__init.binds1 (ps := ["self", "rules", "answers"]) 2 0 (by decide) rfl fun _ _ _ _ _ _ _ us its h1 h2 => match us, h1, its, h2 with | [_, _], _, [_], _ => ⟨_, rfl, rfl⟩
  have b_Loop__init := binds_nil (F_Loop__init.binds1 (ps := ["self", "rules", "answers"]) 3 1 (by decide) rfl fun _ _ _ _ _ _ _ us its h1 h2 => match us, h1, its, h2 with | [_, _, _], _, [_], _ => ⟨_, rfl, rfl⟩)
  have b_Loop_states := F_Loop_states.binds (ps := ["self"]) fun _ _ _ _ _ _ us hl => match us, hl with | [_], _ => rfl
  have b_Loop_fitting := F_Loop_fitting.binds (ps := ["self", "state", "place"]) fun _ _ _ _ _ _ us hl => match us, hl with | [_, _, _], _ => rfl
  have b_law_source := F_law_source.binds (ps := ["_law_script"]) fun _ _ _ _ _ _ us hl => match us, hl with | [_], _ => rfl
  have b_law_draw := F_law_draw.binds (ps := ["_law_source_here", "_law_many"]) fun _ _ _ _ _ _ us hl => match us, hl with | [_, _], _ => rfl
  have b_law_pick := F_law_pick.binds (ps := ["_law_source_here", "_law_things"]) fun _ _ _ _ _ _ us hl => match us, hl with | [_, _], _ => rfl
  have b_law_name := F_law_name.binds (ps := ["_law_source_here", "_law_taken"]) fun _ _ _ _ _ _ us hl => match us, hl with | [_, _], _ => rfl
  have b_law_names := F_law_names.binds (ps := ["_law_source_here", "_law_many"]) fun _ _ _ _ _ _ us hl => match us, hl with | [_, _], _ => rfl
  have b_law_places := F_law_places.binds (ps := []) fun _ _ _ _ _ _ us hl => match us, hl with | [], _ => rfl
  have b_law_group := F_law_group.binds (ps := ["_law_name_here"]) fun _ _ _ _ _ _ us hl => match us, hl with | [_], _ => rfl
  have b_law_group_names := F_law_group_names.binds (ps := []) fun _ _ _ _ _ _ us hl => match us, hl with | [], _ => rfl
  have b_law_groups := F_law_groups.binds (ps := ["_law_source_here", "_law_first_here"]) fun _ _ _ _ _ _ us hl => match us, hl with | [_, _], _ => rfl
  have b_law_rules := F_law_rules.binds (ps := ["_law_source_here", "_law_many", "_law_most"]) fun _ _ _ _ _ _ us hl => match us, hl with | [_, _, _], _ => rfl
  have b_law_states := F_law_states.binds (ps := ["_law_rules_here"]) fun _ _ _ _ _ _ us hl => match us, hl with | [_], _ => rfl
  have b_law_first := F_law_first.binds (ps := ["_law_rules_here", "_law_state", "_law_where"]) fun _ _ _ _ _ _ us hl => match us, hl with | [_, _, _], _ => rfl
  have b_law_tried := F_law_tried.binds (ps := ["_law_work"]) fun _ _ _ _ _ _ us hl => match us, hl with | [_], _ => rfl
  have b_law := F_law.binds (ps := ["_law_script"]) fun _ _ _ _ _ _ us hl => match us, hl with | [_], _ => rfl
  have y_GROUPS : ∀ (j : Nat) (nm : Str) (ps : List Str), l_GROUPS[j]? = some (nm, ps) → ∃ u : Addr, PySem.W.nsIn K a_GROUPS nm = some (some (.ref u)) ∧ ∀ H : Hp, SqT K H u (ps.map V.str) := fun j nm ps h => match j, h with
    | 0, h => by
      cases Option.some.inj h
      exact ⟨g_GROUPS_0, by rw [PySem.W.nsIn, lk_GROUPS] <;> rfl, fun H => .inr ⟨_, _, _, lg_GROUPS_0, rfl, rfl, (by show 11 ≤ sizeLine; decide), (.cons ⟨_, rfl⟩ (.cons ⟨_, rfl⟩ (.cons ⟨_, rfl⟩ (.cons ⟨_, rfl⟩ (.cons ⟨_, rfl⟩ (.cons ⟨_, rfl⟩ (.cons ⟨_, rfl⟩ (.cons ⟨_, rfl⟩ (.cons ⟨_, rfl⟩ (.cons ⟨_, rfl⟩ (.cons ⟨_, rfl⟩ .nil)))))))))))⟩⟩
    | 1, h => by
      cases Option.some.inj h
      exact ⟨g_GROUPS_1, by rw [PySem.W.nsIn, lk_GROUPS] <;> rfl, fun H => .inr ⟨_, _, _, lg_GROUPS_1, rfl, rfl, (by show 7 ≤ sizeLine; decide), (.cons ⟨_, rfl⟩ (.cons ⟨_, rfl⟩ (.cons ⟨_, rfl⟩ (.cons ⟨_, rfl⟩ (.cons ⟨_, rfl⟩ (.cons ⟨_, rfl⟩ (.cons ⟨_, rfl⟩ .nil)))))))⟩⟩
    | 2, h => by
      cases Option.some.inj h
      exact ⟨g_GROUPS_2, by rw [PySem.W.nsIn, lk_GROUPS] <;> rfl, fun H => .inr ⟨_, _, _, lg_GROUPS_2, rfl, rfl, (by show 4 ≤ sizeLine; decide), (.cons ⟨_, rfl⟩ (.cons ⟨_, rfl⟩ (.cons ⟨_, rfl⟩ (.cons ⟨_, rfl⟩ .nil))))⟩⟩
    | 3, h => by
      cases Option.some.inj h
      exact ⟨g_GROUPS_3, by rw [PySem.W.nsIn, lk_GROUPS] <;> rfl, fun H => .inr ⟨_, _, _, lg_GROUPS_3, rfl, rfl, (by show 5 ≤ sizeLine; decide), (.cons ⟨_, rfl⟩ (.cons ⟨_, rfl⟩ (.cons ⟨_, rfl⟩ (.cons ⟨_, rfl⟩ (.cons ⟨_, rfl⟩ .nil)))))⟩⟩
    | 4, h => by
      cases Option.some.inj h
      exact ⟨g_GROUPS_4, by rw [PySem.W.nsIn, lk_GROUPS] <;> rfl, fun H => .inr ⟨_, _, _, lg_GROUPS_4, rfl, rfl, (by show 5 ≤ sizeLine; decide), (.cons ⟨_, rfl⟩ (.cons ⟨_, rfl⟩ (.cons ⟨_, rfl⟩ (.cons ⟨_, rfl⟩ (.cons ⟨_, rfl⟩ .nil)))))⟩⟩
    | 5, h => by
      cases Option.some.inj h
      exact ⟨g_GROUPS_5, by rw [PySem.W.nsIn, lk_GROUPS] <;> rfl, fun H => .inr ⟨_, _, _, lg_GROUPS_5, rfl, rfl, (by show 2 ≤ sizeLine; decide), (.cons ⟨_, rfl⟩ (.cons ⟨_, rfl⟩ .nil))⟩⟩
    | 6, h => by
      cases Option.some.inj h
      exact ⟨g_GROUPS_6, by rw [PySem.W.nsIn, lk_GROUPS] <;> rfl, fun H => .inr ⟨_, _, _, lg_GROUPS_6, rfl, rfl, (by show 2 ≤ sizeLine; decide), (.cons ⟨_, rfl⟩ (.cons ⟨_, rfl⟩ .nil))⟩⟩
    | 7, h => by
      cases Option.some.inj h
      exact ⟨g_GROUPS_7, by rw [PySem.W.nsIn, lk_GROUPS] <;> rfl, fun H => .inr ⟨_, _, _, lg_GROUPS_7, rfl, rfl, (by show 3 ≤ sizeLine; decide), (.cons ⟨_, rfl⟩ (.cons ⟨_, rfl⟩ (.cons ⟨_, rfl⟩ .nil)))⟩⟩
    | 8, h => by
      cases Option.some.inj h
      exact ⟨g_GROUPS_8, by rw [PySem.W.nsIn, lk_GROUPS] <;> rfl, fun H => .inr ⟨_, _, _, lg_GROUPS_8, rfl, rfl, (by show 0 ≤ sizeLine; decide), .nil⟩⟩
    | _ + 9, h => by cases h
  have z_GROUPS : ∀ z : Str, z ∉ l_GROUPS.map (·.1) → PySem.W.nsIn K a_GROUPS z = some none := fun z hz => by
    have n0 : (Value.str "any" t_GROUPS_0).isStr z = false := isStr_ne (fun q => hz (by rw [← q]; decide +kernel))
    have n1 : (Value.str "near" t_GROUPS_1).isStr z = false := isStr_ne (fun q => hz (by rw [← q]; decide +kernel))
    have n2 : (Value.str "far" t_GROUPS_2).isStr z = false := isStr_ne (fun q => hz (by rw [← q]; decide +kernel))
    have n3 : (Value.str "less" t_GROUPS_3).isStr z = false := isStr_ne (fun q => hz (by rw [← q]; decide +kernel))
    have n4 : (Value.str "more" t_GROUPS_4).isStr z = false := isStr_ne (fun q => hz (by rw [← q]; decide +kernel))
    have n5 : (Value.str "under" t_GROUPS_5).isStr z = false := isStr_ne (fun q => hz (by rw [← q]; decide +kernel))
    have n6 : (Value.str "over" t_GROUPS_6).isStr z = false := isStr_ne (fun q => hz (by rw [← q]; decide +kernel))
    have n7 : (Value.str "cell" t_GROUPS_7).isStr z = false := isStr_ne (fun q => hz (by rw [← q]; decide +kernel))
    have n8 : (Value.str "none" t_GROUPS_8).isStr z = false := isStr_ne (fun q => hz (by rw [← q]; decide +kernel))
    rw [PySem.W.nsIn, lk_GROUPS]
    simp only [List.find?, List.any, n0, n1, n2, n3, n4, n5, n6, n7, n8]
    rfl
  have er_BadGroup : PySem.SupX.ClsTxt l.prog K mg C_BadGroup i_BadGroup "BadGroup" := { gC := PySem.W.mg_of X G xg_BadGroup, cls := ⟨nm_BadGroup, q_BadGroup, N_BadGroup, bs_BadGroup, _, sn_BadGroup, sub_BadGroup, ab_BadGroup, col_BadGroup, dd_BadGroup, k0_BadGroup, k1_BadGroup, k2_BadGroup, k3_BadGroup, k5_BadGroup, xc_BadGroup, rfl⟩, sa := xsa_BadGroup, ga := xga_BadGroup, gg := xgg_BadGroup, iC := xic_BadGroup, tC := xtc_BadGroup, kC := xkc_BadGroup, exC := xex_BadGroup, tyC := xty_BadGroup, hdC := xhd_BadGroup, msup := PySem.W.mg_none_of X G xms_BadGroup, sup := xsu_BadGroup, sve := xsv_BadGroup, mro := xmr_BadGroup, st := xst_BadGroup, htop := xht_BadGroup }
  have fn_BadGroup : PySem.SupX.FnTxt l.prog K C_BadGroup i_BadGroup "group" := { noN := xno_BadGroup, nd := by decide, sf := by decide, lf := by decide, lc := by decide, ls := by decide, fn := ⟨oc_BadGroup, doc_BadGroup, pm_BadGroup, kV_BadGroup, ct_BadGroup, od_BadGroup, an_BadGroup, osl_BadGroup, _, _, _, _, _, _, _, _, _, _, _, _, _, _, _, cda_BadGroup, cc_BadGroup, vs_BadGroup, file_BadGroup, tf_BadGroup, ccl_BadGroup, cl_BadGroup, cdd_BadGroup, cld_BadGroup, ccs_BadGroup, csl_BadGroup, _, rfl, xli_BadGroup, xci_BadGroup, fun _ _ => rfl, xcd_BadGroup, xv2_BadGroup, xfi_BadGroup, xcc_BadGroup, ⟨_, fun _ => rfl⟩, fun _ => rfl, fun _ => rfl⟩ }
  have er_UnknownState : PySem.SupX.ClsTxt l.prog K mg C_UnknownState i_UnknownState "UnknownState" := { gC := PySem.W.mg_of X G xg_UnknownState, cls := ⟨nm_UnknownState, q_UnknownState, N_UnknownState, bs_UnknownState, _, sn_UnknownState, sub_UnknownState, ab_UnknownState, col_UnknownState, dd_UnknownState, k0_UnknownState, k1_UnknownState, k2_UnknownState, k3_UnknownState, k5_UnknownState, xc_UnknownState, rfl⟩, sa := xsa_UnknownState, ga := xga_UnknownState, gg := xgg_UnknownState, iC := xic_UnknownState, tC := xtc_UnknownState, kC := xkc_UnknownState, exC := xex_UnknownState, tyC := xty_UnknownState, hdC := xhd_UnknownState, msup := PySem.W.mg_none_of X G xms_UnknownState, sup := xsu_UnknownState, sve := xsv_UnknownState, mro := xmr_UnknownState, st := xst_UnknownState, htop := xht_UnknownState }
  have fn_UnknownState : PySem.SupX.FnTxt l.prog K C_UnknownState i_UnknownState "state" := { noN := xno_UnknownState, nd := by decide, sf := by decide, lf := by decide, lc := by decide, ls := by decide, fn := ⟨oc_UnknownState, doc_UnknownState, pm_UnknownState, kV_UnknownState, ct_UnknownState, od_UnknownState, an_UnknownState, osl_UnknownState, _, _, _, _, _, _, _, _, _, _, _, _, _, _, _, cda_UnknownState, cc_UnknownState, vs_UnknownState, file_UnknownState, tf_UnknownState, ccl_UnknownState, cl_UnknownState, cdd_UnknownState, cld_UnknownState, ccs_UnknownState, csl_UnknownState, _, rfl, xli_UnknownState, xci_UnknownState, fun _ _ => rfl, xcd_UnknownState, xv2_UnknownState, xfi_UnknownState, xcc_UnknownState, ⟨_, fun _ => rfl⟩, fun _ => rfl, fun _ => rfl⟩ }
  let T : Txt l.prog w K mg := {
C_Loop := C_Loop, m_Loop := PySem.W.mg_of X G cg_Loop, cl_Loop := ⟨cpg_Loop, chd_Loop, cpo_Loop, csa_Loop⟩,
    na_Loop_rules := cn_Loop_rules,
    na_Loop_states := cn_Loop_states,
    na_Loop_answers := cn_Loop_answers,
    na_Loop_used := cn_Loop_used,
    t_LETTERS := t_LETTERS, m_LETTERS := PySem.W.mg_of X G g_LETTERS,
    t_MOST_RULES := t_MOST_RULES, m_MOST_RULES := PySem.W.mg_of X G g_MOST_RULES,
    t_MOST_STATES := t_MOST_STATES, m_MOST_STATES := PySem.W.mg_of X G g_MOST_STATES,
    f_Loop__init := f_Loop__init, d_Loop__init := _, F_Loop__init := F_Loop__init, b_Loop__init := b_Loop__init, bd1_Loop__init := bd_Loop__init, mk_Loop := ⟨cmk_Loop, a_Loop__init, i_Loop__init, ckc_Loop⟩,
    f_Loop_states := f_Loop_states, d_Loop_states := _, F_Loop_states := F_Loop_states, b_Loop_states := b_Loop_states, p_Loop_states := p_Loop_states, pr_Loop_states := ⟨pa_Loop_states, pg_Loop_states, pt_Loop_states, ⟨_, pc_Loop_states⟩⟩,
    f_Loop_fitting := f_Loop_fitting, d_Loop_fitting := _, F_Loop_fitting := F_Loop_fitting, b_Loop_fitting := b_Loop_fitting, mt_Loop_fitting := ⟨a_Loop_fitting, i_Loop_fitting, k_Loop_fitting⟩,
    f_is_name := f_is_name, d_is_name := _, F_is_name := F_is_name, b_is_name := b_is_name, m_is_name := PySem.W.mg_of X G a_is_name,
    f_is_place := f_is_place, d_is_place := _, F_is_place := F_is_place, b_is_place := b_is_place, m_is_place := PySem.W.mg_of X G a_is_place,
    f_is_group := f_is_group, d_is_group := _, F_is_group := F_is_group, b_is_group := b_is_group, m_is_group := PySem.W.mg_of X G a_is_group,
    f_are_groups := f_are_groups, d_are_groups := _, F_are_groups := F_are_groups, b_are_groups := b_are_groups, m_are_groups := PySem.W.mg_of X G a_are_groups,
    f_group := f_group, d_group := _, F_group := F_group, b_group := b_group, m_group := PySem.W.mg_of X G a_group,
    f_is_rule := f_is_rule, d_is_rule := _, F_is_rule := F_is_rule, b_is_rule := b_is_rule, m_is_rule := PySem.W.mg_of X G a_is_rule,
    f_checked_rules := f_checked_rules, d_checked_rules := _, F_checked_rules := F_checked_rules, b_checked_rules := b_checked_rules, m_checked_rules := PySem.W.mg_of X G a_checked_rules,
    f_is_answer := f_is_answer, d_is_answer := _, F_is_answer := F_is_answer, b_is_answer := b_is_answer, m_is_answer := PySem.W.mg_of X G a_is_answer,
    f_checked_answers := f_checked_answers, d_checked_answers := _, F_checked_answers := F_checked_answers, b_checked_answers := b_checked_answers, m_checked_answers := PySem.W.mg_of X G a_checked_answers,
    f_used_rules := f_used_rules, d_used_rules := _, F_used_rules := F_used_rules, b_used_rules := b_used_rules, m_used_rules := PySem.W.mg_of X G a_used_rules,
    f_law_source := f_law_source, d_law_source := _, F_law_source := F_law_source, b_law_source := b_law_source, m_law_source := PySem.W.mg_of X G a_law_source,
    f_law_draw := f_law_draw, d_law_draw := _, F_law_draw := F_law_draw, b_law_draw := b_law_draw, m_law_draw := PySem.W.mg_of X G a_law_draw,
    f_law_pick := f_law_pick, d_law_pick := _, F_law_pick := F_law_pick, b_law_pick := b_law_pick, m_law_pick := PySem.W.mg_of X G a_law_pick,
    f_law_name := f_law_name, d_law_name := _, F_law_name := F_law_name, b_law_name := b_law_name, m_law_name := PySem.W.mg_of X G a_law_name,
    f_law_names := f_law_names, d_law_names := _, F_law_names := F_law_names, b_law_names := b_law_names, m_law_names := PySem.W.mg_of X G a_law_names,
    f_law_places := f_law_places, d_law_places := _, F_law_places := F_law_places, b_law_places := b_law_places, m_law_places := PySem.W.mg_of X G a_law_places,
    f_law_group := f_law_group, d_law_group := _, F_law_group := F_law_group, b_law_group := b_law_group, m_law_group := PySem.W.mg_of X G a_law_group,
    f_law_group_names := f_law_group_names, d_law_group_names := _, F_law_group_names := F_law_group_names, b_law_group_names := b_law_group_names, m_law_group_names := PySem.W.mg_of X G a_law_group_names,
    f_law_groups := f_law_groups, d_law_groups := _, F_law_groups := F_law_groups, b_law_groups := b_law_groups, m_law_groups := PySem.W.mg_of X G a_law_groups,
    f_law_rules := f_law_rules, d_law_rules := _, F_law_rules := F_law_rules, b_law_rules := b_law_rules, m_law_rules := PySem.W.mg_of X G a_law_rules,
    f_law_states := f_law_states, d_law_states := _, F_law_states := F_law_states, b_law_states := b_law_states, m_law_states := PySem.W.mg_of X G a_law_states,
    f_law_first := f_law_first, d_law_first := _, F_law_first := F_law_first, b_law_first := b_law_first, m_law_first := PySem.W.mg_of X G a_law_first,
    f_law_tried := f_law_tried, d_law_tried := _, F_law_tried := F_law_tried, b_law_tried := b_law_tried, m_law_tried := PySem.W.mg_of X G a_law_tried,
    f_law := fa, d_law := _, F_law := F_law, b_law := b_law, m_law := hfa,
    m_int := PySem.W.mg_none_of X G z_int,
    m_str := PySem.W.mg_none_of X G z_str,
    m_bool := PySem.W.mg_none_of X G z_bool,
    m_range := PySem.W.mg_none_of X G z_range,
    m_len := PySem.W.mg_none_of X G z_len,
    m_isinstance := PySem.W.mg_none_of X G z_isinstance,
    m_all := PySem.W.mg_none_of X G z_all,
    m_any := PySem.W.mg_none_of X G z_any,
    m_list := PySem.W.mg_none_of X G z_list,
    m_tuple := PySem.W.mg_none_of X G z_tuple,
    m_enumerate := PySem.W.mg_none_of X G z_enumerate,
    m_sorted := PySem.W.mg_none_of X G z_sorted,
    a_GROUPS := a_GROUPS, m_GROUPS := PySem.W.mg_of X G x_GROUPS, e_GROUPS := _, n_GROUPS := _, kd_GROUPS := ⟨lk_GROUPS, ky_GROUPS, lo_GROUPS⟩, y_GROUPS := y_GROUPS, z_GROUPS := z_GROUPS,
    a_PLACES := a_PLACES, q_PLACES := fun H => .inr ⟨_, _, _, lk_PLACES, rfl, rfl, (by show 11 ≤ sizeLine; decide), (.cons ⟨_, rfl⟩ (.cons ⟨_, rfl⟩ (.cons ⟨_, rfl⟩ (.cons ⟨_, rfl⟩ (.cons ⟨_, rfl⟩ (.cons ⟨_, rfl⟩ (.cons ⟨_, rfl⟩ (.cons ⟨_, rfl⟩ (.cons ⟨_, rfl⟩ (.cons ⟨_, rfl⟩ (.cons ⟨_, rfl⟩ .nil)))))))))))⟩, o_PLACES := ⟨_, lk_PLACES, rfl, rfl⟩, m_PLACES := PySem.W.mg_of X G x_PLACES,
    ne_BU := xbu,
    C_BadGroup := C_BadGroup, i_BadGroup := i_BadGroup, er_BadGroup := er_BadGroup, fn_BadGroup := fn_BadGroup, xf_BadGroup := ⟨xga_BadGroup, xgg_BadGroup, xex_BadGroup, xhd_BadGroup⟩, te_BadGroup := xte_BadGroup,
    C_UnknownState := C_UnknownState, i_UnknownState := i_UnknownState, er_UnknownState := er_UnknownState, fn_UnknownState := fn_UnknownState, xf_UnknownState := ⟨xga_UnknownState, xgg_UnknownState, xex_UnknownState, xhd_UnknownState⟩, te_UnknownState := xte_UnknownState,
    c_law := cod_law, P_law := tab_law, G_law := ⟨⟨_, _, _, _, _, _, _, _, rfl, l_law, c_law⟩⟩ }
  have one : ∀ {p : Addr × Addr}, p ∈ [(cod_law, tab_law)] → p = (cod_law, tab_law) := fun h => List.mem_singleton.mp h
  refine ⟨PySem.W.fnOf "law" "law" (defArgs s_law) (defBody s_law) (defScope s_law) .none kV_law dc_law pm_law an_law (.ref cod_law) ct_law, [(cod_law, tab_law)], spLawT K tab_law, fun p hp => ?_, fun p hp => ?_, fun p hp => ?_, fun s v => .of_eq rfl, fun H a ns hl _ hT hS => ⟨a, ns, rfl, hS, hl, hT _ List.mem_cons_self, fun _ => rfl⟩, fun base _ _ hTB => ok_law T (hTB _ List.mem_cons_self)⟩
  · rw [one hp]
    exact own _ _ _ _ _ _ _ _ l_law rfl rfl lc_law v11_law
  · rw [one hp]
    exact nP_law
  · rw [one hp]
    exact PySem.W.codeHd_of_K X ch_law
theorem walk {l : PySem.W.OpenLaw} {q : Program} {loose : List Str} {XP : (Str → Option Value) → Heap → Prop} {YP : World → Heap → Prop} {d : DefRec} {K : Params → PySem.W.Frag} (hn : l.most = some 63) (hdf : d.params.defaults = []) (hrec : ((PyProof.Rows.recsOf q).any fun e => e.name == d.name) = true)
    (hY : ∀ (w : World) (h : Heap), YP w h → (K w.params).In h)
    (F : ∀ (w : World) (mg : Str → Option Value) (fa : Addr) (h : Heap), (K w.params).In h → h.Ns mainGlobals mg → mg d.name = some (.ref fa) → LamX.OwnTab (K w.params) fa h → LamX.LawAtS l w (K w.params) CX0 8 63 "_law_script" mg fa h) :
    PySem.W.WalkO q loose XP YP l.row.toRowW d [] (fun f vs => PySem.call f vs) :=
  LamX.walk_ofOwn (n := 63) (k := 8) (x := "_law_script") (CX := fun _ => CX0) hn (by decide) hdf ⟨rfl, by decide, by decide⟩ hrec hY (fun w mg fa h Y KX G e own => F w mg fa h KX G e own) fun _ _ _ _ _ z => z
end Toy
open PySem PySem.W PyProof.Rows
set_option maxRecDepth 100000 in
set_option maxHeartbeats 0 in
theorem PySem.Challenge.cw_nearloops_k08_rules_that_fit_holds : PySem.Challenge.rw_nearloops_k08_rules_that_fit.Holds := by
  w_on; o_law; k_head; (case hw => w_witness2)
  k_fill
  refine Toy.walk (l := PySem.Challenge.rw_nearloops_k08_rules_that_fit) rfl rfl ?hrec (fun w h Y => PySem.W.km_in_of Y) ?F
  case hrec => first | rfl | kernel_rfl | decide +kernel
  case F =>
    intro w mg fa h KX G hmg own
    refine' Toy.all_mk KX G hmg ?x_PLACES ?lk_PLACES ?x_GROUPS ?lk_GROUPS ?ky_GROUPS ?lo_GROUPS ?lg_GROUPS_0 ?lg_GROUPS_1 ?lg_GROUPS_2 ?lg_GROUPS_3 ?lg_GROUPS_4 ?lg_GROUPS_5 ?lg_GROUPS_6 ?lg_GROUPS_7 ?lg_GROUPS_8 ?g_LETTERS ?g_MOST_RULES ?g_MOST_STATES ?cg_Loop ?cpg_Loop ?chd_Loop ?cpo_Loop ?csa_Loop ?cmk_Loop ?ckc_Loop ?cn_Loop_rules ?cn_Loop_states ?cn_Loop_answers ?cn_Loop_used ?a_Loop__init ?i_Loop__init ?l_Loop__init ?dl_Loop__init ?c_Loop__init ?k_Loop__init ?pa_Loop_states ?pg_Loop_states ?pt_Loop_states ?pc_Loop_states ?l_Loop_states ?c_Loop_states ?k_Loop_states ?a_Loop_fitting ?i_Loop_fitting ?l_Loop_fitting ?c_Loop_fitting ?k_Loop_fitting ?a_is_name ?l_is_name ?c_is_name ?k_is_name ?a_is_place ?l_is_place ?c_is_place ?k_is_place ?a_is_group ?l_is_group ?c_is_group ?k_is_group ?a_are_groups ?l_are_groups ?c_are_groups ?k_are_groups ?a_group ?l_group ?c_group ?k_group ?a_is_rule ?l_is_rule ?c_is_rule ?k_is_rule ?a_checked_rules ?l_checked_rules ?c_checked_rules ?k_checked_rules ?a_is_answer ?l_is_answer ?c_is_answer ?k_is_answer ?a_checked_answers ?l_checked_answers ?c_checked_answers ?k_checked_answers ?a_used_rules ?l_used_rules ?c_used_rules ?k_used_rules ?a_law_source ?l_law_source ?c_law_source ?k_law_source ?a_law_draw ?l_law_draw ?c_law_draw ?k_law_draw ?a_law_pick ?l_law_pick ?c_law_pick ?k_law_pick ?a_law_name ?l_law_name ?c_law_name ?k_law_name ?a_law_names ?l_law_names ?c_law_names ?k_law_names ?a_law_places ?l_law_places ?c_law_places ?k_law_places ?a_law_group ?l_law_group ?c_law_group ?k_law_group ?a_law_group_names ?l_law_group_names ?c_law_group_names ?k_law_group_names ?a_law_groups ?l_law_groups ?c_law_groups ?k_law_groups ?a_law_rules ?l_law_rules ?c_law_rules ?k_law_rules ?a_law_states ?l_law_states ?c_law_states ?k_law_states ?a_law_first ?l_law_first ?c_law_first ?k_law_first ?a_law_tried ?l_law_tried ?c_law_tried ?k_law_tried ?a_law ?l_law ?c_law ?k_law ?z_int ?z_str ?z_bool ?z_range ?z_len ?z_isinstance ?z_all ?z_any ?z_list ?z_tuple ?z_enumerate ?z_sorted ?xg_BadGroup ?xc_BadGroup ?xsa_BadGroup ?xga_BadGroup ?xgg_BadGroup ?xic_BadGroup ?xtc_BadGroup ?xkc_BadGroup ?xex_BadGroup ?xty_BadGroup ?xhd_BadGroup ?xsu_BadGroup ?xsv_BadGroup ?xmr_BadGroup ?xst_BadGroup ?xms_BadGroup ?xht_BadGroup ?xno_BadGroup ?xli_BadGroup ?xci_BadGroup ?xcd_BadGroup ?xv2_BadGroup ?xfi_BadGroup ?xcc_BadGroup ?xte_BadGroup ?xg_UnknownState ?xc_UnknownState ?xsa_UnknownState ?xga_UnknownState ?xgg_UnknownState ?xic_UnknownState ?xtc_UnknownState ?xkc_UnknownState ?xex_UnknownState ?xty_UnknownState ?xhd_UnknownState ?xsu_UnknownState ?xsv_UnknownState ?xmr_UnknownState ?xst_UnknownState ?xms_UnknownState ?xht_UnknownState ?xno_UnknownState ?xli_UnknownState ?xci_UnknownState ?xcd_UnknownState ?xv2_UnknownState ?xfi_UnknownState ?xcc_UnknownState ?xte_UnknownState ?lc_law ?v11_law ?nP_law ?ch_law ?xbu own
    (case x_PLACES => k_is)
    (case lk_PLACES => k_is)
    (case x_GROUPS => k_is)
    (case lk_GROUPS => k_is)
    (case ky_GROUPS => k_keys)
    (case lo_GROUPS => rfl)
    (case lg_GROUPS_0 => k_is)
    (case lg_GROUPS_1 => k_is)
    (case lg_GROUPS_2 => k_is)
    (case lg_GROUPS_3 => k_is)
    (case lg_GROUPS_4 => k_is)
    (case lg_GROUPS_5 => k_is)
    (case lg_GROUPS_6 => k_is)
    (case lg_GROUPS_7 => k_is)
    (case lg_GROUPS_8 => k_is)
    (case g_LETTERS => k_is)
    (case g_MOST_RULES => k_is)
    (case g_MOST_STATES => k_is)
    (case cg_Loop => k_is)
    (case cpg_Loop => k_is)
    (case chd_Loop => k_is)
    (case cpo_Loop => k_is)
    (case csa_Loop => k_is)
    (case cmk_Loop => k_is)
    (case ckc_Loop => k_is)
    (case cn_Loop_rules => k_is)
    (case cn_Loop_states => k_is)
    (case cn_Loop_answers => k_is)
    (case cn_Loop_used => k_is)
    (case a_Loop__init => k_is)
    (case i_Loop__init => k_is)
    (case l_Loop__init => k_is)
    (case dl_Loop__init => k_is)
    (case c_Loop__init => k_is)
    (case k_Loop__init => k_is)
    (case pa_Loop_states => k_is)
    (case pg_Loop_states => k_is)
    (case pt_Loop_states => k_is)
    (case pc_Loop_states => k_is)
    (case l_Loop_states => k_is)
    (case c_Loop_states => k_is)
    (case k_Loop_states => k_is)
    (case a_Loop_fitting => k_is)
    (case i_Loop_fitting => k_is)
    (case l_Loop_fitting => k_is)
    (case c_Loop_fitting => k_is)
    (case k_Loop_fitting => k_is)
    (case a_is_name => k_is)
    (case l_is_name => k_is)
    (case c_is_name => k_is)
    (case k_is_name => k_is)
    (case a_is_place => k_is)
    (case l_is_place => k_is)
    (case c_is_place => k_is)
    (case k_is_place => k_is)
    (case a_is_group => k_is)
    (case l_is_group => k_is)
    (case c_is_group => k_is)
    (case k_is_group => k_is)
    (case a_are_groups => k_is)
    (case l_are_groups => k_is)
    (case c_are_groups => k_is)
    (case k_are_groups => k_is)
    (case a_group => k_is)
    (case l_group => k_is)
    (case c_group => k_is)
    (case k_group => k_is)
    (case a_is_rule => k_is)
    (case l_is_rule => k_is)
    (case c_is_rule => k_is)
    (case k_is_rule => k_is)
    (case a_checked_rules => k_is)
    (case l_checked_rules => k_is)
    (case c_checked_rules => k_is)
    (case k_checked_rules => k_is)
    (case a_is_answer => k_is)
    (case l_is_answer => k_is)
    (case c_is_answer => k_is)
    (case k_is_answer => k_is)
    (case a_checked_answers => k_is)
    (case l_checked_answers => k_is)
    (case c_checked_answers => k_is)
    (case k_checked_answers => k_is)
    (case a_used_rules => k_is)
    (case l_used_rules => k_is)
    (case c_used_rules => k_is)
    (case k_used_rules => k_is)
    (case a_law_source => k_is)
    (case l_law_source => k_is)
    (case c_law_source => k_is)
    (case k_law_source => k_is)
    (case a_law_draw => k_is)
    (case l_law_draw => k_is)
    (case c_law_draw => k_is)
    (case k_law_draw => k_is)
    (case a_law_pick => k_is)
    (case l_law_pick => k_is)
    (case c_law_pick => k_is)
    (case k_law_pick => k_is)
    (case a_law_name => k_is)
    (case l_law_name => k_is)
    (case c_law_name => k_is)
    (case k_law_name => k_is)
    (case a_law_names => k_is)
    (case l_law_names => k_is)
    (case c_law_names => k_is)
    (case k_law_names => k_is)
    (case a_law_places => k_is)
    (case l_law_places => k_is)
    (case c_law_places => k_is)
    (case k_law_places => k_is)
    (case a_law_group => k_is)
    (case l_law_group => k_is)
    (case c_law_group => k_is)
    (case k_law_group => k_is)
    (case a_law_group_names => k_is)
    (case l_law_group_names => k_is)
    (case c_law_group_names => k_is)
    (case k_law_group_names => k_is)
    (case a_law_groups => k_is)
    (case l_law_groups => k_is)
    (case c_law_groups => k_is)
    (case k_law_groups => k_is)
    (case a_law_rules => k_is)
    (case l_law_rules => k_is)
    (case c_law_rules => k_is)
    (case k_law_rules => k_is)
    (case a_law_states => k_is)
    (case l_law_states => k_is)
    (case c_law_states => k_is)
    (case k_law_states => k_is)
    (case a_law_first => k_is)
    (case l_law_first => k_is)
    (case c_law_first => k_is)
    (case k_law_first => k_is)
    (case a_law_tried => k_is)
    (case l_law_tried => k_is)
    (case c_law_tried => k_is)
    (case k_law_tried => k_is)
    (case a_law => k_is)
    (case l_law => k_is)
    (case c_law => k_is)
    (case k_law => k_is)
    (case z_int => k_is)
    (case z_str => k_is)
    (case z_bool => k_is)
    (case z_range => k_is)
    (case z_len => k_is)
    (case z_isinstance => k_is)
    (case z_all => k_is)
    (case z_any => k_is)
    (case z_list => k_is)
    (case z_tuple => k_is)
    (case z_enumerate => k_is)
    (case z_sorted => k_is)
    (case xg_BadGroup => k_is)
    (case xc_BadGroup => k_is)
    (case xsa_BadGroup => k_is)
    (case xga_BadGroup => k_is)
    (case xgg_BadGroup => k_is)
    (case xic_BadGroup => k_is)
    (case xtc_BadGroup => k_is)
    (case xkc_BadGroup => k_is)
    (case xex_BadGroup => k_is)
    (case xty_BadGroup => k_is)
    (case xhd_BadGroup => k_is)
    (case xsu_BadGroup => first | ks_is | first | rfl | kernel_rfl | decide +kernel)
    (case xsv_BadGroup => k_is)
    (case xmr_BadGroup => k_is)
    (case xst_BadGroup => k_is)
    (case xms_BadGroup => k_is)
    (case xht_BadGroup => first | rfl | kernel_rfl | decide +kernel)
    (case xno_BadGroup => k_is)
    (case xli_BadGroup => k_is)
    (case xci_BadGroup => k_is)
    (case xcd_BadGroup => k_is)
    (case xv2_BadGroup => exact rfl)
    (case xfi_BadGroup => first | rfl | kernel_rfl | decide +kernel)
    (case xcc_BadGroup => k_is)
    (case xte_BadGroup => first | rfl | kernel_rfl | decide +kernel)
    (case xg_UnknownState => k_is)
    (case xc_UnknownState => k_is)
    (case xsa_UnknownState => k_is)
    (case xga_UnknownState => k_is)
    (case xgg_UnknownState => k_is)
    (case xic_UnknownState => k_is)
    (case xtc_UnknownState => k_is)
    (case xkc_UnknownState => k_is)
    (case xex_UnknownState => k_is)
    (case xty_UnknownState => k_is)
    (case xhd_UnknownState => k_is)
    (case xsu_UnknownState => first | ks_is | first | rfl | kernel_rfl | decide +kernel)
    (case xsv_UnknownState => k_is)
    (case xmr_UnknownState => k_is)
    (case xst_UnknownState => k_is)
    (case xms_UnknownState => k_is)
    (case xht_UnknownState => first | rfl | kernel_rfl | decide +kernel)
    (case xno_UnknownState => k_is)
    (case xli_UnknownState => k_is)
    (case xci_UnknownState => k_is)
    (case xcd_UnknownState => k_is)
    (case xv2_UnknownState => exact rfl)
    (case xfi_UnknownState => first | rfl | kernel_rfl | decide +kernel)
    (case xcc_UnknownState => k_is)
    (case xte_UnknownState => first | rfl | kernel_rfl | decide +kernel)
    (case lc_law => k_is)
    (case v11_law => exact rfl)
    (case nP_law => first | rfl | kernel_rfl | decide +kernel)
    (case ch_law => first | rfl | kernel_rfl | decide +kernel)
    (case xbu => first | rfl | kernel_rfl | decide +kernel)

