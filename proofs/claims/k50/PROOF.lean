-- %%D%%
import PyProof.Rows.All
import Wide.All
import OpenK.AllK
import Wide.FinOn
import HandS.Base
import HandS.Call
import HandS.List
import HandS.Ends
import HandS.Words
import HandS.WordsList
import HandS.Wide
import HandS.WideBits
import HandS.IsInst
import HandS.Comp
import HandS.Strs
import HandS.Iter
import HandS.Zip
import HandS.Codes
import HandS.More
import HandS.Dict
import HandS.WordsDict
import HandS.Style
import HandS.Text
import HandS.Walk
import HandS.Exc
import HandS.ExcOwn
import HandS.ExcInit
import HandS.ExcSuper
import KE.KExcSuper
import HandS.ExcField
import HandS.WordsExc
import HandS.Lambda
import HandS.EndTab
import HandS.EndOwn
import PyProof.DictUpdate
import HandS.SetKeys
import PyProof.DictMoreH
import KE.GoesEnum
import KE.GoesEnumKw
import HandS.Conv
import KE.KDictSum
import HandS.NoneIn
import HandS.Defaults
import HandS.Property
import HandS.TryMany
import HandS.OwnEq
import HandS.Deep
import PyProof.FactsLen
import KE.KDictZip
import HandS.FStr
import HandS.Star
import KE.KUnpackStar
import PyProof.StrLawsTight
import PyProof.Rows.StrLawsPart
import PyProof.Rows.StrItems
import HandS.TupAny
import HandS.ClsMeth
import PyProof.InstEq
import HandS.DictComp
import HandS.SetFor
import HandS.ClsMeth
import KE.SortData
import HandS.Conv
import HandS.DictTup
import PyProof.Rows.InDataRows
import HandS.Head0
import HandS.Head1
import HandS.Head2
import HandS.HeadHook1
import HandS.HeadHook2
import HandS.HeadHook3
import HandS.HeadEnd
import KE.KStateDown
import PySem.Challenge.RW_nearloops_k50_tables
set_option Elab.async false
set_option maxRecDepth 100000
set_option maxHeartbeats 4000000
namespace L2
open PySem PySem.Spec PyProof.Rows
end L2
namespace L2
open PySem PySem.Spec PyProof.Rows
end L2
namespace L2
open PySem PySem.Spec PyProof.Rows
/-! ### enumerate(list or tuple), enumerate(list or tuple, start=k) -/
/-- a list (b = true) or a tuple of xs is to be read at a -/
def SqB (K : PySem.W.Frag) (b : Bool) (H : Hp) (a : Addr) (xs : List V) : Prop := match b with
  | true => SqL K H a xs
  | false => SqT K H a xs
def IsB (b : Bool) (h : Heap) (a : Addr) (its : Array Value) : Prop := match b with
  | true => h.IsList a its
  | false => h.IsTuple a its
def ItB (b : Bool) (h : Heap) (it a : Addr) (i : Nat) : Prop := match b with
  | true => h.IsListIter it a i
  | false => h.IsTupleIter it a i
theorem ItB.ob {b : Bool} {h : Heap} {it a : Addr} {i : Nat} (st : ItB b h it a i) : ∃ o, h.get? it = some o ∧ ∀ v, o.data ≠ .cell v := by
  cases b with
  | true =>
    obtain ⟨o, ho, hc, hd⟩ := st
    exact ⟨o, ho, fun v q => by rw [hd] at q; cases q⟩
  | false =>
    obtain ⟨o, ho, hc, hd⟩ := st
    exact ⟨o, ho, fun v q => by rw [hd] at q; cases q⟩
theorem ItB.at {b : Bool} {h h' : Heap} {it a : Addr} {i : Nat} (st : ItB b h it a i) (k : ∀ o, h.get? it = some o → h'.get? it = some o) : ItB b h' it a i := by
  cases b with
  | true => exact Heap.IsListIter.at st k
  | false => exact Heap.IsTupleIter.at st k
theorem drawsB {prog : Program} {w : World} {A : Around} (b : Bool) (hh : A.handled = none) (it l : Addr) (hne : l ≠ it) (items : Array Value) :
    Draws prog w A it [it, l] items.size (fun i v => items[i]? = some v) (fun i h => ItB b h it l i ∧ IsB b h l items) := by
  cases b with
  | true => exact Draws.list hh it l hne items
  | false => exact Draws.tuple hh it l hne items
/-- at the end -/
theorem drawsEnd {prog : Program} {w : World} {A : Around} (b : Bool) (hh : A.handled = none) (it l : Addr) (items : Array Value) {i : Nat} (hn : items[i]? = none) :
    Draws prog w A it [it, l] i (fun _ _ => True) (fun j h => j = i ∧ ItB b h it l i ∧ IsB b h l items) where
  live := fun _ _ st => let ⟨o, ho, _⟩ := st.2.1.ob; ⟨o, ho⟩
  frame := fun _ h h' st hk => ⟨st.1, st.2.1.at fun o e => hk it (by simp) o e, by
    obtain ⟨_, _, p⟩ := st
    cases b with
    | true => exact Heap.IsList.at p fun o e => hk l (by simp) o e
    | false => exact Heap.IsTuple.at p fun o e => hk l (by simp) o e⟩
  item := fun j s Q E hj st hQ => absurd st.1 (Nat.ne_of_lt hj)
  done := fun s Q E st hE => by
    obtain ⟨_, hit, p⟩ := st
    cases b with
    | true => exact wpAny_nextOf_list_end hh hit p hn hE
    | false => exact wpAny_nextOf_tuple_end hh hit p hn hE
section
variable {X : Cx} {pins : List (Addr × Obj)} {σ : St} {H : Hp} {s : Shared} {a : Addr} {xs ys : List V} {b : Bool}
theorem Inv.seqB (I : Inv X pins σ H s) (h : SqB X.K b H a xs) : ∃ its : List Value, Vals xs its ∧ IsB b s.heap a its.toArray := by
  cases b with
  | true =>
    obtain ⟨its, r, p, _⟩ := I.list h
    exact ⟨its, r, p.isList⟩
  | false =>
    obtain ⟨its, r, p, _⟩ := I.tuple h
    exact ⟨its, r, p⟩
theorem Inv.seqB_inj (I : Inv X pins σ H s) (h : SqB X.K b H a xs) (h' : SqB X.K b H a ys) : xs = ys := by
  cases b with
  | true => exact I.list_inj h h'
  | false => exact I.tuple_inj h h'
theorem IsB.ne {h : Heap} {its : Array Value} {it l a : Addr} {i : Nat} (st : IsB b h a its) (t : ItB b h it l i) : a ≠ it := fun e => by
  subst e
  cases b with
  | true =>
    obtain ⟨o, ho, hc, n, hd⟩ := st
    obtain ⟨o', ho', hc', hd'⟩ := t
    rw [ho] at ho'
    cases ho'
    rw [hd] at hd'
    cases hd'
  | false =>
    obtain ⟨o, ho, hc, n, hd⟩ := st
    obtain ⟨o', ho', hc', hd'⟩ := t
    rw [ho] at ho'
    cases ho'
    rw [hd] at hd'
    cases hd'
theorem IsB.begins {h : Heap} {its : Array Value} (st : IsB b h a its) : ∃ o, Begins (.ref a) o (fun h => IsB b h a its) ∧ ∀ (h' : Heap) (it : Addr), h'.get? it = some o → ItB b h' it a 0 := by
  cases b with
  | true => exact ⟨_, begins_list a its, fun h' it e => ⟨_, e, rfl, rfl⟩⟩
  | false => exact ⟨_, begins_tuple a its, fun h' it e => ⟨_, e, rfl, rfl⟩⟩
end
def IteB (K : PySem.W.Frag) (b : Bool) (a : Addr) (c : Int) : It :=
  ⟨fun i H => ∃ (xs : List V) (x : V), SqB K b H a xs ∧ xs[i]? = some x, fun i H v H' => ∃ T x, v = .ref T ∧ H T = none ∧ H' = upd H T (.tup [.int (c + (i : Nat)), x]) ∧ ∀ xs, SqB K b H a xs → xs[i]? = some x, fun i H => ∃ xs : List V, SqB K b H a xs ∧ xs.length ≤ i⟩
theorem turn_enumB {P : Program} {w : World} {K : PySem.W.Frag} {elts : List Expr} {kk : Nat} {tpos : Pos} (b : Bool) (a e it : Addr) (c : Int) :
    Turn P w K (.Tuple elts kk tpos) (IteB K b a c) [e, it] e (fun i h => (∃ old, IsEnum h e it (c + (i : Nat)) old) ∧ ItB b h it a i ∧ e ≠ it) where
  mem := by simp
  obj := fun i h st d hd => by
    obtain ⟨⟨old, he⟩, hi, _⟩ := st
    have e' : d = e ∨ d = it := by simpa using hd
    rcases e' with z | z
    · rw [z]; exact ⟨_, he, fun v q => nomatch q⟩
    · rw [z]; exact hi.ob
  keep := fun i h h' st k => let ⟨⟨old, he⟩, hi, hne⟩ := st; ⟨⟨old, k e (by simp) _ he⟩, hi.at fun o q => k it (by simp) o q, hne⟩
  item := by
    intro X hP hw hK hc i pins s σ H E I hf st hg
    subst hP hw hK
    obtain ⟨⟨old, he⟩, hit, hne⟩ := st
    obtain ⟨xs, x, hq, hx⟩ := hg
    obtain ⟨its, rv, p⟩ := I.seqB hq
    obtain ⟨u, hu, ru⟩ := rv.get hx
    have hel : e < s.heap.objs.size := Heap.lt_size he
    have hil : it < s.heap.objs.size := by obtain ⟨_, q, _⟩ := hit.ob; exact Heap.lt_size q
    have hai := p.ne hit
    have hae : e ∉ [it, a] := fun q => by
      rcases List.mem_cons.mp q with z | z
      · exact hne z
      · have z := List.mem_singleton.mp z
        subst z
        cases b with
        | true =>
          obtain ⟨o, ho, hc, n, hd⟩ := p
          have q := ho.symm.trans he
          cases q
          cases hd
        | false =>
          obtain ⟨o, ho, hc, n, hd⟩ := p
          have q := ho.symm.trans he
          cases q
          cases hd
    have hlt : i < its.toArray.size := by
      rw [List.size_toArray]
      exact (List.getElem?_eq_some_iff.mp hu).1
    refine wpAny_pyNext_enum_itemC (drawsB (A := X.A.in1) b (I.ok.hd hc) it a hai its.toArray) he ⟨hit, p⟩ hlt hne hae fun y h' tk hy ho hst' hT hsz hk => ?_
    have ey : y = u := by
      have hy' : its[i]? = some y := by simpa using hy
      rw [hu] at hy'
      exact (Option.some.inj hy').symm
    subst ey
    refine ⟨_, rfl, wpAny_letOwnedTupleGo_enum (s := { s with heap := h', toks := tk + 1 }) ho fun h'' he' sb => ?_⟩
    have hT2 : h''.get? s.heap.objs.size = some { cls := .type "tuple", data := .seq #[.int (c + (i : Nat)) tk, y] } := (sb.2 _ (Nat.ne_of_gt hel)).trans hT
    have new : ObjOk X.prog X.w (upd H s.heap.objs.size (.tup [.int (c + (i : Nat)), x])) h'' s.heap.objs.size (.tup [.int (c + (i : Nat)), x]) :=
      ⟨by show 2 ≤ sizeLine; decide, [.int (c + (i : Nat)) tk, y], .cons ⟨_, rfl⟩ (.cons ru .nil), ⟨_, hT2, rfl, _, rfl⟩⟩
    have I1 : Inv X pins σ (upd H s.heap.objs.size (.tup [.int (c + (i : Nat)), x])) { s with heap := h'', toks := tk + 1 } :=
      I.turnedNew (ch := [e, it]) (fun b ob hb q => (sb.2 b (fun z => hb (by simp [z]))).trans (hk b ob (fun z => hb (by simp [z])) (fun z => hb (by simp [z])) q)) hf (Nat.le_refl _) new
    refine ⟨.ref s.heap.objs.size, _, I1, rfl, ⟨_, x, rfl, I.hok.fresh (Nat.le_refl _), rfl, fun ys hy => by rw [I.seqB_inj hy hq]; exact hx⟩, ⟨⟨y, ?_⟩, hst'.1.at fun o q => (sb.2 it (Ne.symm hne)).trans q, hne⟩, fun b hb => ?_⟩
    · have e1 : c + ((i + 1 : Nat) : Int) = c + (i : Nat) + 1 := by omega
      rw [e1]; exact he'
    · have hb' : b < s.heap.objs.size := by
        have e' : b = e ∨ b = it := by simpa using hb
        rcases e' with z | z
        · rw [z]; exact hel
        · rw [z]; exact hil
      rw [upd_ne (Nat.ne_of_lt hb')]
      exact (hf b hb).1
  done := by
    intro X hP hw hK hc i pins s σ H E I hf st hg
    subst hP hw hK
    obtain ⟨⟨old, he⟩, hit, hne⟩ := st
    obtain ⟨xs, hq, hx⟩ := hg
    obtain ⟨its, rv, p⟩ := I.seqB hq
    obtain ⟨f0, f1, f2, f3, f4, f5⟩ := hf it (by simp)
    have hl := rv.length
    have hn : its.toArray[i]? = none := by simp; omega
    exact wpAny_pyNext_enum_endD (drawsEnd (A := X.A.in1) b (I.ok.hd hc) it a its.toArray hn) he ⟨rfl, hit, p⟩ fun h' eb => ⟨rfl, I.turned (t' := s.toks) (fun b o hb q => eb b o hb q) f0 f1 f3 f4 f5⟩
  self := fun A i s Q E st h => let ⟨⟨_, he⟩, _⟩ := st; wpAny_pyIter_enum he h
section
open PySem.Sem
set_option maxHeartbeats 4000000 in
theorem enum_new1 {v : Value} {o : Obj} {G : Heap → Prop} (B : Begins v o G) :
    Meets (Builtin.«enumerate.__new__» ⟨[.type "enumerate", v], []⟩) (fun _ R s => G s.heap ∧
      R (.ok (.ret (.ref (s.heap.push o).objs.size))) { s with heap := (s.heap.push o).push { cls := .type "enumerate", data := .fields #[.none, .bool false, .ref s.heap.objs.size, rawInt 0, .none, .none] } }) :=
  .of_wp fun prog w A R s h => by
    obtain ⟨hp, g, d, tk, os⟩ := s
    obtain ⟨h1, h⟩ := h
    have hsub := sub_enumerate
    have walkIt : ∀ {A' : Around} {E : Value → Shared → Prop} {Q : Value → Shared → Prop}, Q (.ref hp.objs.size) ⟨hp.push o, g, d, tk, os⟩ → wpAny (model prog w) A' (pyIter v) Q E ⟨hp, g, d, tk, os⟩ :=
      fun q => B.iter prog w _ _ ⟨hp, g, d, tk, os⟩ _ h1 q
    wp_walk using walkIt
    refine wpAny_stack_any fun st => wpAny_pure ?_
    split
    · rename_i c _ _ _ _ _
      cases (c == Value.type "enumerate")
      all_goals
        wp_walk using walkIt
        exact ⟨_, rfl, h⟩
    · wp_walk using walkIt
      exact ⟨_, rfl, h⟩
theorem enum_begins0 {prog : Program} {w : World} {A : Around} {E : Value → Shared → Prop} {s : Shared} {v : Value} {o : Obj} {G : Heap → Prop} {Q : Value → Shared → Prop} (B : Begins v o G) (h1 : G s.heap)
    (h : ∀ h', IsEnum h' (s.heap.objs.size + 1) s.heap.objs.size 0 .none → h'.get? s.heap.objs.size = some o → h'.objs.size = s.heap.objs.size + 2 →
      (∀ b o, s.heap.get? b = some o → h'.get? b = some o) → Q (.ref (s.heap.objs.size + 1)) { s with heap := h' }) :
    wpAny (model prog w) A (call (.type "enumerate") [v]) Q E s := by
  refine callType_new F.called_enumerate (by decide) (F.typeCall_enumerate_1 _) (F.newCall_enumerate_1 _) (fun obj => F.args_object_init_2 obj _) F.entry_enumerate_new (enum_new1 B) ⟨h1, ?_⟩
  have hz : (s.heap.push o).objs.size = s.heap.objs.size + 1 := Heap.size_push ..
  show _ ∧ _
  rw [hz]
  have he : IsEnum ((s.heap.push o).push { cls := .type "enumerate", data := .fields #[.none, .bool false, .ref s.heap.objs.size, rawInt 0, .none, .none] }) (s.heap.objs.size + 1) s.heap.objs.size 0 .none := by
    have q := Heap.get?_push_size (s.heap.push o) (o := { cls := .type "enumerate", data := .fields #[.none, .bool false, .ref s.heap.objs.size, rawInt 0, .none, .none] }) rfl
    rw [hz] at q
    exact q
  exact ⟨⟨_, he, rfl⟩, h _ he (Heap.get?_push_of_some _ (Heap.get?_push_size _ B.free)) (by rw [Heap.size_push, hz]) fun b o x => Heap.get?_push_of_some _ (Heap.get?_push_of_some _ x)⟩
end
/-- enumerate(e) -/
def iEnumB (K : PySem.W.Frag) (ta : TA) : TI := fun σ H R => ta σ H fun vs H1 => ∃ b a xs, vs = [.ref a] ∧ SqB K b H1 a xs ∧ R (IteB K b a 0) H1
section
variable {X : Cx} {e : Expr} {kws : List Keyword} {ta tk : TA} {p pos tpos : Pos} {elts : List Expr} {kk : Nat}
theorem enum_come {pins : List (Addr × Obj)} {σ : St} {H : Hp} {s : Shared} {R : It → Hp → Prop} {b : Bool} {a : Addr} {k : Int} {h' : Heap} {o : Obj} (I : Inv X pins σ H s) (he : IsEnum h' (s.heap.objs.size + 1) s.heap.objs.size k .none) (hit : ItB b h' s.heap.objs.size a 0)
    (hk : ∀ b o, s.heap.get? b = some o → h'.get? b = some o) (q : R (IteB X.K b a k) H) : PIE X pins σ (.Tuple elts kk tpos) R (.ref (s.heap.objs.size + 1)) { s with heap := h' } := by
  have I2 : Inv X pins σ H { s with heap := h' } := I.kept (t' := s.toks) hk
  refine ⟨s.heap.objs.size + 1, [s.heap.objs.size + 1, s.heap.objs.size], _, _, H, rfl, I2, turn_enumB b a (s.heap.objs.size + 1) s.heap.objs.size k, ⟨⟨.none, by simpa using he⟩, hit, Nat.succ_ne_self _⟩, fun c hc => ?_, q⟩
  have e' : c = s.heap.objs.size + 1 ∨ c = s.heap.objs.size := by simpa using hc
  have hle : s.heap.objs.size ≤ c := by
    rcases e' with z | z
    · rw [z]; exact Nat.le_add_right _ _
    · rw [z]; exact Nat.le_refl _
  exact I.fpOk hle (I.hok.fresh hle)
theorem pi_enumB (hg : Gl X "enumerate") (hm : X.mg "enumerate" = none) (ha : PA X [e] ta) (hs : starEach [e] X.env = [(false, eval e X.env)] := by rfl) :
    PI X (.Tuple elts kk tpos) (.Call (.Name "enumerate" p) [e] [] pos) (iEnumB X.K ta) := by
  refine ⟨fun pins s σ H R I h => ?_⟩
  refine Call_ (ld_blt I hg hm boot_enumerate (PyProof.Rows.callWith_type1 (thn (ha.run pos pins s σ H _ I h) fun us s1 ⟨vs, H1, I1, r1, q1⟩ => ?_) hs rfl))
  obtain ⟨b, a, xs, ex, hq, q⟩ := q1
  rw [ex] at r1
  rw [Vals.ref1 r1]
  obtain ⟨its, rv, p'⟩ := I1.seqB hq
  obtain ⟨o, B, hB⟩ := p'.begins
  refine enum_begins0 B p' fun h' he ho hsz hk => wpAny_pyIter_enum he ?_
  exact enum_come (o := o) I1 he (hB h' _ ho) hk q
end
end L2
namespace L2
open PySem PySem.Spec PyProof.Rows PySem.Calls
end L2
namespace PySem
namespace SupX
open PySem.W PySem.Calls PyProof.Rows PySem.HandSPX
/-! ### an own error over an own error over ValueError: def __init__(self, f): super().__init__('..'); self.f = f -/
/-- what is the same for every such class -/
structure ClsTxt (P : Program) (K : Frag) (mg : Str → Option Value) (C fI : Addr) (x : Str) : Prop where
  gC : mg x = some (.ref C)
  cls : ∃ nm q N bs bm sn sub ab col dd k0 k1 k2 k3 k5, K.lookup C = some (excClassObj nm q C N bs bm true sn sub ab col dd k0 k1 k2 k3 k5 "ValueError.__new__") ∧ refsVE bm = true
  sa : findIn K (.ref C) "__setattr__" = some (some (.builtin "object.__setattr__"))
  ga : findIn K (.ref C) "__getattribute__" = some (some (.builtin "BaseException.__getattribute__"))
  gg : findIn K (.ref C) "__getattr__" = some none
  iC : findIn K (.ref C) "__init__" = some (some (.ref fI))
  tC : typeIn K (.ref fI) = some (.type "function")
  kC : keepIn K (.ref C) = true
  exC : subIn K (.ref C) (.type "BaseException") = some true
  tyC : typeIn K (.ref C) = some (.type "type")
  hdC : hasDictIn K C = true
  msup : mg "super" = none
  sup : ks_superIn K C C "__init__" = some (some (.builtin "ValueError.__init__"))
  sve : subIn K (.ref C) (.type "ValueError") = some true
  mro : mroIn K C (.ref C) = some true
  st : nsIn K cStatics "thirdparty.any" = some none
  htop : (P.main.scope.names.lookup ("super" : Str)).isSome = false
section
variable {prog : Program} {w : World} {A : Around} {E : Value → Shared → Prop} {R : Result → Shared → Prop} {s : Shared} {K : Frag} {mg : Str → Option Value} {C fI : Addr} {x f : Str}
/-- the bound ValueError.__init__ called -/
theorem ve_init {h : Heap} {g : Array GenState} {d : Drawn} {t : Nat} {os : OsState} {nm q : Str} {N : Addr} {bs bm : List Value} {sn : List Str} {sub : List Value} {ab : Bool} {col : Option Bool} {dd : Option Addr} {k0 k1 k2 k3 k5 : Option Value}
    {u e t0 : Addr} {us : List Value} {Q : Value → Shared → Prop}
    (hC : h.get? C = some (excClassObj nm q C N bs bm true sn sub ab col dd k0 k1 k2 k3 k5 "ValueError.__new__")) (he : h.get? e = some (excO C t0)) (hu : h.get? u = some (kxs_mw "ValueError.__init__" e)) (hus : us.length ≤ sizeLine)
    (hq : ∀ h' t1, (∀ b o, b ≠ e → h.get? b = some o → h'.get? b = some o) → h'.get? e = some (excO C t1) → Q .none ⟨h', g, d, t, os⟩) :
    wpAny (model prog w) A (call (.ref u) us) Q E ⟨h, g, d, t, os⟩ := by
  refine wpAny_call (codeAny_of_tree ?_)
  show wpAny _ A.in1 (callAny (.ref u) ⟨us, []⟩) _ _ _
  simp only [callAny]
  refine wpAny_bind (wpAny_load hu ?_)
  have z : (Value.type "method-wrapper" == Value.type "method" || Value.type "method-wrapper" == Value.type "builtin_function_or_method" || Value.type "method-wrapper" == Value.type "method-wrapper") = true := by decide
  simp only [kxs_mw, z, if_true]
  refine KFB.if_so (by decide) (wpAny_bind (check_bound_init F.excBase_ValueError.toExcCallFacts hC he rfl ?_))
  refine wpAny_bind (wpAny_pure (wpAny_pure ⟨plainId_quiet F.excBase_ValueError.init.plain _, codeAny_builtin F.excBase_ValueError.initEntry ?_⟩))
  rw [Around.under_plainId F.excBase_ValueError.init.plain _]
  exact exc_init_tree (cls := .ref C) (t0 := t0) (dv := none) (c2 := .none) (c3 := .none) (b4 := .bool false) he hus fun h' k e' _ => hq h' _ k e'
theorem cls_of {h : Heap} (T : ClsTxt prog K mg C fI x) (X : K.In h) : ∃ cd oD, clsIn K C = some cd ∧ h.get? C = some oD ∧ oD.data = .cls cd := by
  obtain ⟨nm, q, N, bs, bm, sn, sub, ab, col, dd, k0, k1, k2, k3, k5, hC, _⟩ := T.cls
  exact ⟨_, _, by unfold clsIn; rw [hC] <;> rfl, X _ _ hC, rfl⟩
end
end SupX
end PySem
namespace L2
open PySem PySem.Spec PyProof.Rows
end L2
namespace PySem
namespace SupX
open PySem.W PySem.Calls PyProof.Rows PySem.HandSPX
/-! ### the same without a field: def __init__(self): super().__init__() -/
def iA0 (p1 : Pos) : Arguments :=
  { posonlyargs := [], args := [{ arg := "self", annotation := none, pos := p1 }], vararg := none, kwonlyargs := [], kw_defaults := [], kwarg := none, defaults := [] }
def iB0 (q1 q2 q3 q5 q6 : Pos) : List Stmt :=
  [.Expr (.Call (.Attribute (.Call (.Name "super" q1) [] [] q2) "__init__" q3) [] [] q5) q6]
def iS0 : Scope := { kind := .function, names := [("self", .local), ("__class__", .free), ("super", .globalImplicit)], isGenerator := false, isCoroutine := false, more := [] }
structure FnTxt0 (P : Program) (K : Frag) (C fI : Addr) : Prop where
  fn : ∃ (oc doc pm kV ct : Value) (od an : Option Addr) (osl : Array (Option Value)) (qual : Str) (p1 q1 q2 q3 q5 q6 : Pos) (cda cc : Addr) (vs : Array Value) (file : Str) (tf : Tok)
      (ccl cl : Value) (cdd cld : Option Addr) (ccs csl : Array (Option Value)) (fd : FuncData),
    fd = ksFn "__init__" qual (iA0 p1) (iB0 q1 q2 q3 q5 q6) iS0 .none kV doc pm an (.ref cda) ct cc ∧
    K.lookup fI = some ⟨oc, od, .func fd, osl⟩ ∧ codeIn K (.ref cda) qual = true ∧ (∀ a : Value, bindArgs fd ⟨[a], []⟩ = pure [(("self" : Str), a)]) ∧
    K.lookup cda = some ⟨ccl, cdd, .fields vs, ccs⟩ ∧ vs[2]? = some (.str file tf) ∧ ((P.main.file : Str) == file) = true ∧ K.lookup cc = some ⟨cl, cld, .cell (some (.ref C)), csl⟩ ∧
    (∃ pl : Sem Bool, ∀ L : Addr, eval (.Call (.Attribute (.Call (.Name "super" q1) [] [] q2) "__init__" q3) [] [] q5) (ksEnv qual iS0 L fI (.ref cda) cc) = (do
      let ov ← attributeBase (.Call (.Name "super" q1) [] [] q2) "__init__" (ksEnv qual iS0 L fI (.ref cda) cc) (eval (.Call (.Name "super" q1) [] [] q2) (ksEnv qual iS0 L fI (.ref cda) cc))
      standAt q3.atName
      let (fv, first) ← holding [ov] (getMethod ov "__init__" pl)
      callWith q5 fv first (backTo q5 (starEach [] (ksEnv qual iS0 L fI (.ref cda) cc))) [])) ∧
    (∀ L : Addr, swapsWith (.Call (.Attribute (.Call (.Name "super" q1) [] [] q2) "__init__" q3) [] [] q5) none q6.line (ksEnv qual iS0 L fI (.ref cda) cc) = pure false)
theorem no_size : ([] : List Value).length ≤ sizeLine := Nat.zero_le _
/-- what __init__ leaves of a fresh exception at x: a new args tuple -/
structure InitEnd0 (h h' : Heap) (x C t1 : Addr) : Prop where
  keep : ∀ b o, b ≠ x → h.get? b = some o → h'.get? b = some o
  obj : h'.get? x = some (excO C t1)
section
variable {prog : Program} {w : World} {A : Around} {E : Value → Shared → Prop} {R : Result → Shared → Prop} {s : Shared} {K : Frag} {mg : Str → Option Value} {C fI : Addr} {x f : Str}
theorem sup_init0 (T : ClsTxt prog K mg C fI x) (Tf : FnTxt0 prog K C fI) {e t0 : Addr} (X : K.In s.heap) (G : s.heap.Ns mainGlobals mg) {mb : Str → Option Value} (B : s.heap.Ns builtinsNs mb) (hb : mb "super" = some (.type "super"))
    (hlim : s.heap.NoLimit) (hx : s.heap.get? e = some (excO C t0)) (hnx : K.lookup e = none) (hroom : A.depth < recursionLimit)
    (hq : ∀ h' tk t1, InitEnd0 s.heap h' e C t1 → R (.ok (.ret .none)) { s with heap := h', toks := tk }) :
    codeAny (model prog w) A (.call (.ref fI) ⟨[.ref e], []⟩) R s := by
  obtain ⟨oc, doc, pm, kV, ct, od, an, osl, qual, p1, q1, q2, q3, q5, q6, cda, cc, vs, file, tf, ccl, cl, cdd, cld, ccs, csl, fd, rfl, ho, hcd, hbind, hcode, hvs, hfile, hcell, ⟨pl, he⟩, hsw0⟩ := Tf.fn
  obtain ⟨nm, q, N, bs, bm, sn, sub, ab, col, dd, j0, j1, j2, j3, j5, hC, hbm⟩ := T.cls
  obtain ⟨cd, oD, hcl, hD1, hD2⟩ := cls_of T X
  have ls : iS0.names.lookup ("super" : Str) = some .globalImplicit := by decide
  have lc : iS0.names.lookup ("__class__" : Str) = some .free := by decide
  refine ks_codeAny_call_defAt (body := iB0 q1 q2 q3 q5 q6) hroom (X _ _ ho) rfl hlim (codeRec_of X hcd) rfl (BindsTo.of_eq (hbind (.ref e))) ?_ ?_ (fun h₁ hn hk => ?_) rfl rfl rfl
  · show ∀ y ∈ iS0.names, y.2 ≠ .cell
    intro y hy
    unfold iS0 at hy
    simp only [List.mem_cons, List.not_mem_nil, or_false] at hy
    rcases hy with rfl | rfl | rfl <;> (intro z; cases z)
  · show ∀ y ∈ ([(("self" : Str), Value.ref e)] : List (Str × Value)), iS0.names.lookup y.1 = some .local
    intro y hy
    simp only [List.mem_cons, List.not_mem_nil, or_false] at hy
    rcases hy with rfl
    rfl
  have X1 : K.In h₁ := X.keeps hk
  have hx1 := hk _ _ hx
  have hD1' := hk _ _ hD1
  have vS : ([(("self" : Str), Value.ref e)] : List (Str × Value)).reverse.lookup ("self" : Str) = some (.ref e) := rfl
  have hI1 : InstAt h₁ e (excO C t0) C none := ⟨hx1, rfl, rfl, trivial⟩
  refine ks_wpAt_execs_cons (ks_wpAt_Expr_any (ks_wpAt_MethodCall (pl := pl) (ks_wpAt_super_base ls lc rfl rfl (X1 _ _ ho) rfl rfl rfl (X1 _ _ hcode) rfl hvs hfile T.htop ?_) (he _)) rfl (hsw0 _))
  refine ks_loadName_global rfl ls (loadGlobal_builtin (G.keeps hk) T.msup (B.keeps hk) hb ⟨rfl, ?_⟩)
  refine wpAny_loadName_free rfl lc rfl ⟨_, X1 _ _ hcell, rfl⟩ ?_
  refine wpAny_loadName_local rfl rfl hn vS ?_
  refine ks_wpAny_isType_cls hD1' hD2 ⟨rfl, ?_⟩
  refine ks_wpAny_call_super hD1' hD2 hx1 rfl (fun c z => by cases z) (looks_mroIn X1 T.mro) (fun h₂ e2 k2 => ?_)
  have hk2 : ∀ b o, s.heap.get? b = some o → h₂.get? b = some o := fun b o z => k2 b o (hk b o z)
  have X2 : K.In h₂ := X.keeps hk2
  have hx2 := k2 _ _ hx1
  have hI2 : InstAt h₂ e (excO C t0) C none := ⟨hx2, rfl, rfl, trivial⟩
  have hsup := T.sup
  unfold ks_superIn at hsup
  rw [hcl] at hsup
  refine kxs_getMethod kxs_ValueError e2 (looks_opaque X2 T.st) (l₀ := cd.mro) (fun A Q E s k q => wpAny_bind ((looks_clsIn X2 hcl) A _ E s k (wpAny_pure q))) rfl X2 hsup (hI2.type.andThen (looks_subIn X2 T.sve)) (ks_ne X2 hI2 hcl) rfl ?_
  refine kxs_callWith (i := "ValueError.__init__") (x := e) rfl ?_
  show wpAny _ _ (evalArgs _ true [] []) _ _ _
  refine PyProof.Rows.evalArgs_empty ?_
  have hx3 : (h₂.push (kxs_mw "ValueError.__init__" e)).get? e = some (excO C t0) := Heap.get?_push_of_some _ hx2
  refine ⟨Heap.get?_push_size _ rfl, ?_⟩
  refine ve_init (t0 := t0) (Heap.get?_push_of_some _ (X2 _ _ hC)) hx3 (Heap.get?_push_size _ rfl) no_size fun h₃ t1 k3 hx4 => ?_
  have hk3 : ∀ b o, b ≠ e → s.heap.get? b = some o → h₃.get? b = some o := fun b o hb z => k3 b o hb (Heap.get?_push_of_some _ (hk2 b o z))
  refine wpAt_of_wpAny ?_
  exact wpAny_execs_nil (hq h₃ _ t1 ⟨hk3, hx4⟩)
/-- a made error without a field -/
structure Made0 (h h' : Heap) (e C : Addr) : Prop where
  keep : ∀ b o, h.get? b = some o → h'.get? b = some o
  new : h.objs.size ≤ e
  obj : ∃ oe vs, h'.get? e = some oe ∧ oe.cls = .ref C ∧ oe.dict = none ∧ oe.data = .fields vs ∧ vs[1]? = some .none
theorem sup_made0 (T : ClsTxt prog K mg C fI x) (Tf : FnTxt0 prog K C fI) (X : K.In s.heap) (G : s.heap.Ns mainGlobals mg) {mb : Str → Option Value} (B : s.heap.Ns builtinsNs mb) (hb : mb "super" = some (.type "super"))
    (hlim : s.heap.NoLimit) (hroom : A.depth + 1 < recursionLimit)
    (hq : ∀ h' tk e, Made0 s.heap h' e C → R (.ok (.ret (.ref e))) { s with heap := h', toks := tk }) :
    codeAny (model prog w) A (.call (.ref C) ⟨[], []⟩) R s := by
  obtain ⟨nm, q, N, bs, bm, sn, sub, ab, col, dd, k0, k1, k2, k3, k5, hC, hbm⟩ := T.cls
  obtain ⟨hp, g, dr, tk, os⟩ := s
  have k : ∀ b o, hp.get? b = some o → ((hp.push (kdv_tup [])).push (excO C hp.objs.size)).get? b = some o := fun b o e => Heap.get?_push_of_some _ (Heap.get?_push_of_some _ e)
  have hget : ((hp.push (kdv_tup [])).push (excO C hp.objs.size)).get? (hp.objs.size + 1) = some (excO C hp.objs.size) := by heap_get
  have hnx : K.lookup (hp.objs.size + 1) = none := by
    cases e : K.lookup (hp.objs.size + 1) with
    | none => rfl
    | some o => exact absurd (Nat.lt_of_succ_lt (Heap.lt_size (X _ _ e))) (Nat.lt_irrefl _)
  refine call_own F.excBase_ValueError (fun Y => refsVE_contains Y bm hbm) (X _ _ hC) (looks_findIn X T.iC) (fun self => bind_fn X self T.tC) no_size ?_
  refine sup_init0 (s := ⟨(hp.push (kdv_tup [])).push (excO C hp.objs.size), g, dr, tk, os⟩) T Tf (X.keeps k) (G.keeps k) (B.keeps k) hb (hlim.keeps k) hget hnx ?_ fun h' tk' t1 ⟨k', hx⟩ => ?_
  · show A.depth + 1 < recursionLimit
    exact hroom
  have old : ∀ b o, hp.get? b = some o → h'.get? b = some o := fun b o e => k' b o (Nat.ne_of_lt (Nat.lt_succ_of_lt (Heap.lt_size e))) (k b o e)
  exact ⟨rfl, hq h' tk' (hp.objs.size + 1) ⟨old, Nat.le_succ _, ⟨_, _, hx, rfl, rfl, rfl, rfl⟩⟩⟩
end
end SupX
end PySem
namespace L2
open PySem PySem.Spec PyProof.Rows
section
variable {X : Cx} {C fI : Addr} {x : Str}
/-- C() -/
def tMkSup0 (C : Addr) : St → Hp → XK → Prop := fun _ H Q => Q (.ref C) none H
theorem pmk_sup0 {p pos : Pos} {k : Nat} (T : PySem.SupX.ClsTxt X.prog X.K X.mg C fI x) (Tf : PySem.SupX.FnTxt0 X.prog X.K C fI) (hr : Room k X.A) (hg : Gl X x) (hd : (x == ("__debug__" : Str)) = false := by decide) :
    PMk X (.Call (.Name x p) [] [] pos) (tMkSup0 C) := by
  intro pins s σ H Q I h
  refine wpAny_Call_Name_kw (ld_glob I hg T.gC ?_ hd)
  refine PySem.W.callWith_K0 I.kIn T.kC ?_
  show wpAny _ _ (call (.ref C) []) _ _ _
  have hlim := I.nolimit
  obtain ⟨mb, hB1, hB2⟩ := I.ok.mod.blt
  have hB := hB1.keeps I.bk
  have hG := I.ok.mod.glob.keeps I.bk
  have hb : mb "super" = some (.type "super") := (hB2 _ (by decide)).trans (by decide +kernel)
  obtain ⟨hp, g, dr, tk, os⟩ := s
  refine wpAny_call (PySem.SupX.sup_made0 T Tf I.kIn hG hB hb hlim (by have := hr.dp; omega) fun h' tk' e M => ?_)
  show MkP X pins σ Q (.ref e) ⟨h', g, dr, tk', os⟩
  obtain ⟨oe, fv, hoe, hc, hd, hdat, h1⟩ := M.obj
  obtain ⟨G', g1, g2⟩ := restrict h' fun b => decide (b ≠ e)
  have gk : ∀ b, b ≠ e → G'.get? b = h'.get? b := fun b hb => g1 b (decide_eq_true hb)
  have ge : G'.get? e = none := g2 e (by simp)
  have old : ∀ b o, hp.get? b = some o → G'.get? b = some o := fun b o q => (gk b (Nat.ne_of_lt (Nat.lt_of_lt_of_le (Heap.lt_size q) M.new))).trans (M.keep b o q)
  have J : Inv X pins σ H ⟨G', g, dr, tk', os⟩ := I.kept (t' := tk') old
  refine ⟨e, oe, fv, ⟨G', g, dr, tk', os⟩, _, .ref C, none, rfl, J, fun b o q => ?_, ge, hoe, ⟨hc, hd⟩, hdat, h1, ?_, rfl, I.bare, raises_own T.exC T.tyC, h⟩
  · by_cases hb : b = e
    · have q' : G'.get? b = some o := q
      rw [hb, ge] at q'; cases q'
    · exact (gk b hb).symm.trans q
  · exact I.hok.fresh M.new
/-- raise C() -/
def tRaiseSup0 (C : Addr) (W : WX) : TS := fun _ σ H => W (.ref C) none σ H
theorem ps_raiseSup0 {W : WX} {p pos pos2 : Pos} {k : Nat} (hc : X.calm = true) (T : PySem.SupX.ClsTxt X.prog X.K X.mg C fI x) (Tf : PySem.SupX.FnTxt0 X.prog X.K C fI) (hr : Room k X.A) (tk : Takes X W) (hg : Gl X x)
    (hd : (x == ("__debug__" : Str)) = false := by decide) :
    PS X (.Raise (some (.Call (.Name x p) [] [] pos)) none pos2) (tRaiseSup0 C W) := ps_raise hc tk (pmk_sup0 T Tf hr hg hd)
end
end L2
namespace L2
open PySem PySem.Spec PyProof.Rows
/-! ### try with any number of clauses, each with a name or without -/
/-- a clause: the class, the slot of its name, what its suite is read as -/
structure Clause where
  cls : Value
  slot : Option Nat
  run : Addr → Value → Option Addr → TS
/-- behind the suite the name is gone -/
def Clause.ends (c : Clause) (D : Ends) : Ends :=
  let off : St → St := fun σ => match c.slot with | none => σ | some i => σ.set i none
  ⟨fun σ H => D.nx (off σ) H, D.rt, fun σ H => D.bk (off σ) H, fun σ H => D.ct (off σ) H⟩
def Clause.slots (c : Clause) (σ : St) (a : Addr) : St := match c.slot with | none => σ | some i => σ.set i (some (.ref a))
/-- a clause of the text -/
structure ClauseOf (X : Cx) (h : ExceptHandler) (c : Clause) : Prop where
  is : ∃ (x : Str) (np pos : Pos) (b : Stmt) (bs : List Stmt) (n : Option Str), h = .ExceptHandler (some (.Name x np)) n (b :: bs) pos ∧ Names X x c.cls ∧
    (∀ (a : Addr) (o : Obj) (cls : Value) (d : Option Addr) (pn : List (Addr × Obj)), Zc cls d o → (∃ vs, o.data = .fields vs) → PSs (X.suite a ((a, o) :: pn)) (b :: bs) (c.run a cls d)) ∧
    ((n = none ∧ c.slot = none) ∨ ∃ (y : Str) (i : Nat), n = some y ∧ c.slot = some i ∧ X.N[i]? = some y ∧ X.env.kindOf y = some .local)
/-- an exception at a has come down in the frame, the heap being h -/
structure Fallen (X : Cx) (pins : List (Addr × Obj)) (σ : St) (H : Hp) (cls : Value) (d : Option Addr) (a : Addr) (s : Shared) : Prop where
  ex : ∃ (B : Heap) (sI : Shared), Inv X pins σ H sI ∧ (∀ b o, sI.heap.get? b = some o → b ∉ frs X.stack → B.get? b = some o) ∧ sI.heap.UpToSlots s.heap ∧ HandSPX.FlyingZ B X.stack a (Zc cls d) s.heap ∧ H a = none ∧ s.os = sI.os ∧ AllBare s.gens
section
variable {X : Cx} {pins : List (Addr × Obj)} {σ : St} {H : Hp} {cls : Value} {d : Option Addr} {a : Addr} {s : Shared}
theorem Fallen.obj (f : Fallen X pins σ H cls d a s) : ∃ o vs, s.heap.get? a = some o ∧ Zc cls d o ∧ o.data = .fields vs := by
  obtain ⟨B, sI, _, _, _, fl, _⟩ := f.ex
  exact fl.there
inductive ClausesOf (X : Cx) : List ExceptHandler → List Clause → Prop
  | nil : ClausesOf X [] []
  | cons {h : ExceptHandler} {hs : List ExceptHandler} {c : Clause} {cs : List Clause} : ClauseOf X h c → ClausesOf X hs cs → ClausesOf X (h :: hs) (c :: cs)
end
end L2
namespace L2
open PySem PySem.Spec PyProof.Rows
/-! ### methods and makings that may fail -/
section
variable {X : Cx} {CX : CXT} {k : Nat} {f C : Addr} {fd : FuncData} {ps : List Str} {sp : Sp} {dvs : List V} {ds : List Value} {m x : Str} {p pos apos : Pos} {e o : Expr} {es : List Expr} {ta : TE} {t : TA} {pl : Sem Bool}
theorem run_makeE {E : XK} {pins : List (Addr × Obj)} {σ : St} {H : Hp} {s : Shared} {Q : VK} {us : List Value} {vs : List V} (M : Mk X.K C f) (F : FnOk X.prog X.w X.K X.mg X.base CX k f fd ps sp) (hr : Room (k + 1) X.A) (hb : Binds X.K fd ps ds) (hd : Vals dvs ds) (hx : PassesAt CX X σ E) (I : Inv X pins σ H s) (r : Vals vs us)
    (h : ∀ (x dx : Addr), H x = none → H dx = none → dx ≠ x → sp (.ref x :: (vs ++ dvs)) (upd (upd H dx (.own x)) x (.ins C dx [])) (fun v H2 => v = .non ∧ Q (.ref x) H2) E) : wpAny (model X.prog X.w) X.A (call (.ref C) us) (EP X pins σ Q) X.xe s := by
  have hq := h (s.heap.objs.size + 1) s.heap.objs.size (I.hok.fresh (Nat.le_succ _)) (I.hok.fresh (Nat.le_refl _)) (Nat.ne_of_lt (Nat.lt_succ_self _))
  have I2 := Inv.made (C := C) I
  have r2 : Vals (V.ref (s.heap.objs.size + 1) :: (vs ++ dvs)) (Value.ref (s.heap.objs.size + 1) :: (us ++ ds)) := .cons rfl (Vals.append r hd)
  have hl : (Value.ref (s.heap.objs.size + 1) :: (us ++ ds)).length = ps.length := (Vals.length r2).symm.trans (F.len _ _ _ _ hq)
  refine wpAny_call (make_map I.kIn M.makes M.init (beq_iff_eq.mp M.fn) (codeAny_mono (F.run _ X.stack _ _ ⟨Value.ref (s.heap.objs.size + 1) :: us, []⟩ _ _ _ E (Room.make hr C us []) (Env0.make I2.env0 C us []) (hb _ (Value.ref (s.heap.objs.size + 1) :: us) I2.kIn hl) r2 hq) fun r s' hq' => ?_))
  match r, hq' with
  | .error e, hq' => exact hx pins _ _ e s' I2 hq'
  | .ok (.ret u), hq' =>
    obtain ⟨v, H', I3, rv, ev, q3⟩ := I2.after hq'
    subst ev
    obtain rfl : u = Value.none := rv
    exact ⟨rfl, .ref (s.heap.objs.size + 1), H', I3, rfl, q3⟩
def tMakeS (C : Addr) (sp : Sp) (dvs : List V) (E : St → XK) (t : TA) : TE := fun σ H Q => tMake C sp dvs (E σ) t σ H Q
theorem pe_makeS {E : St → XK} (M : Mk X.K C f) (F : FnOk X.prog X.w X.K X.mg X.base CX k f fd ps sp) (hr : Room (k + 1) X.A) (hg : Gl X x) (hm : X.mg x = some (.ref C)) (hb : Binds X.K fd ps ds) (hd : Vals dvs ds) (hx : ∀ σ, PassesAt CX X σ (E σ)) (ha : PA X (e :: es) t)
    (hdb : (x == ("__debug__" : Str)) = false := by decide) (he : starEach (e :: es) X.env = (false, eval e X.env) :: starEach es X.env := by rfl) (hpl : (backTo pos (starEach es X.env)).any (·.1) = false := by rfl) : PE X (.Call (.Name x p) (e :: es) [] pos) (tMakeS C sp dvs E t) := by
  refine ⟨fun pins s σ H Q I h => wpAny_Call_Name_kw (ld_glob I hg hm (PySem.W.callWith_K I.ok.mod.kin M.kp (thn (ha.run pos pins s σ H _ I h) fun us s1 ⟨vs, H1, I1, r, q⟩ => ⟨I1.kIn, ?_⟩) he hpl) hdb)⟩
  exact run_makeE M F hr hb hd (hx σ) I1 r q
end
end L2
namespace L2
open PySem PySem.Spec PyProof.Rows
/-! ### len(x), x of a class of the text with an own __len__ -/
end L2
/-! ### dict(zip(a, b)) of two tuples -/
namespace L2
open PySem PySem.Spec PyProof.Rows
end L2
namespace L2
open PySem PySem.Spec PyProof.Rows
/-! ### len(s), s a set of numbers -/
end L2
namespace L2
open PySem PySem.Spec PyProof.Rows
/-! ### x == y, x of a class of the text whose own __eq__ tells True or False -/
/-- the type of what stands on the right -/
inductive TyL (H : Hp) : V → Value → Prop where
  | non : TyL H .non (.type "NoneType")
  | int (i : Int) : TyL H (.int i) (.type "int")
  | str (x : Str) : TyL H (.str x) (.type "str")
  | tup {a : Addr} {xs : List V} (h : H a = some (.tup xs)) : TyL H (.ref a) (.type "tuple")
  | ins {a C dx : Addr} {fs : List (Str × V)} (h : H a = some (.ins C dx fs)) : TyL H (.ref a) (.ref C)
theorem TyL.looks {X : Cx} {pins : List (Addr × Obj)} {σ : St} {H : Hp} {s : Shared} {y : V} {u tb : Value} (ty : TyL H y tb) (I : Inv X pins σ H s) (r : RelV y u) : PySem.W.Looks (model X.prog X.w) s.heap (typeOf u) tb := by
  cases ty with
  | non =>
    cases r
    exact fun _ _ _ _ _ q => wpAny_of_eq rfl q
  | int i =>
    obtain ⟨t, rfl⟩ := r
    exact fun _ _ _ _ _ q => wpAny_of_eq rfl q
  | str x =>
    obtain ⟨t, rfl⟩ := r
    exact fun _ _ _ _ _ q => wpAny_of_eq rfl q
  | tup h =>
    cases r
    obtain ⟨its, _, tp, _⟩ := I.tuple (SqT.of h)
    obtain ⟨o, ho, hc, _⟩ := tp
    exact fun _ _ _ _ k q => wpAny_typeOf_ref (k _ _ ho) (by rw [hc]; exact q)
  | ins h =>
    cases r
    exact (ins_get I.hok h).choose_spec.1.look.choose_spec.1.type
section
variable {X : Cx} {CX : CXT} {C f : Addr} {fd : FuncData} {ps : List Str} {sp : Sp} {E : XK} {k : Nat}
def rEqO (K : PySem.W.Frag) (C : Addr) (sp : Sp) (E : XK) : R2 := fun x y H Q => ∃ (a dx : Addr) (fs : List (Str × V)) (tb : Value), x = .ref a ∧ H a = some (.ins C dx fs) ∧ TyL H y tb ∧ PySem.W.notFirst K C tb = true ∧ sp [.ref a, y] H (fun v H' => ∃ b, v = .bl b ∧ Q (.bl b) H') E
theorem op_eqO (F : FnOk X.prog X.w X.K X.mg X.base CX k f fd ps sp) (hs : PySem.W.findIn X.K (.ref C) "__eq__" = some (some (.ref f))) (hf : PySem.W.isFn X.K (.ref f) = true) (hb : Binds X.K fd ps []) (hx : Passes CX X E) (hr : Room k X.A) : OpR X (compareOp .Eq) (rEqO X.K C sp E) := by
  intro pins s σ H x y v u Q I rx ry h
  obtain ⟨a, dx, fs, tb, rfl, ha, ty, nf, hsp⟩ := h
  cases rx
  have J := (ins_get I.hok ha).choose_spec.1.look.choose_spec.1
  obtain ⟨m, hF⟩ := I.fr
  have sb : Sub X k X.A := ⟨hr, rfl⟩
  have e0 : Env0 X.prog X.w X.K X.mg X.base X.A X.stack s H := I.env0
  have bnd := hb s [.ref a, u] I.kIn (by simpa using F.len _ _ _ _ hsp)
  have run := F.run X.A X.stack s H ⟨[.ref a, u], []⟩ [.ref a, u] [.ref a, y] _ E sb.room e0 (by simpa using bnd) (.cons rfl (.cons ry .nil)) hsp
  refine (show wpAny (model X.prog X.w) X.A (richCompare .Eq (.ref a) u) (EP X pins σ Q) X.xe s from PySem.W.cmp_K (op := .Eq) (tb := tb) sb.room.units0 hF I.ok.mod.kin J (ty.looks I ry) nf hs hf (wpAny_call (codeAny_mono run fun r s' hq => ?_)))
  match r, hq with
  | .error e, hq => exact hx pins σ H s e s' I hq
  | .ok (.ret w), hq =>
    obtain ⟨z, H', I', rz, b, rfl, q⟩ := I.after hq
    cases rz
    exact ⟨.bl b, H', I', rfl, q⟩
  | .ok .next, hq | .ok .brk, hq | .ok .cont, hq => exact hq.elim
end
end L2
namespace L2
open PySem PySem.Spec PyProof.Rows
section
variable {P : Program} {w : World} {A : Around} {B : Value → Shared → Prop} {s : Shared} {K : PySem.W.Frag} {x C f : Addr} {u : Value} {ox : Obj} {od : Option Obj}
/-- object.__ne__ asks the own __eq__ -/
theorem ne_asks {Q : Value → Shared → Prop} (X : K.In s.heap) (J : PySem.W.InstAt s.heap x ox C od) (hu : A.in1.units < cLine) (hs : PySem.W.findIn K (.ref C) "__eq__" = some (some (.ref f))) (hf : PySem.W.isFn K (.ref f) = true) (hm : PySem.W.mroIn K C (.type "object") = some true)
    (h : wpAny (model P w) A.in1 (call (.ref f) [.ref x, u]) (fun v s' => ∃ b, v = .bool b ∧ Q (.bool (!b)) s') B s) : wpAny (model P w) A (call (.builtin "object.__ne__") [.ref x, u]) Q B s := by
  have inst : PySem.W.Looks (model P w) s.heap (isInstance (.ref x) (.type "object")) true := J.type.andThen (PySem.W.looks_mroIn X hm)
  refine wpAny_call (codeAny_call_builtin (F.cmp_object.ne.plain) F.cmpEntry_ne (PySem.W.check_slot F.cmpKind_ne F.cmpSplit_ne inst (F.cmpArgs_ne _ _) ?_))
  show wpAny (model P w) A.in1 (cRoomFor "comparison" [.ref x, u] >>= _) _ _ s
  refine wpAny_bind (wpAny_cRoomFor hu (wpAny_bind (PySem.W.ifBound_K X J hs hf (wpAny_mono h (fun v s' hv => ?_) fun _ _ e => e))))
  obtain ⟨b, rfl, q⟩ := hv
  exact wpAny_bind (wpAny_truthy_bool (wpAny_pure q))
/-- != of an instance whose class has object's __ne__ -/
theorem ne_bound {Q : Option Value → Shared → Prop} (X : K.In s.heap) (J : PySem.W.InstAt s.heap x ox C od) (hn : PySem.W.findIn K (.ref C) "__ne__" = some (some (.builtin "object.__ne__")))
    (h : wpAny (model P w) A (call (.builtin "object.__ne__") [.ref x, u]) (fun v => Q (some v)) B s) : wpAny (model P w) A (callSpecialIfBound? (.ref x) "__ne__" [u]) Q B s := by
  simp only [callSpecialIfBound?, bindSpecialIfBound?]
  have b : bindSpecial (.builtin "object.__ne__") (.ref x) = pure (.builtin "object.__ne__", [.ref x]) := F.cmp_object.ne.bind _
  have fin : wpAny (model P w) A (call (.builtin "object.__ne__") ([.ref x] ++ [u]) >>= fun v => pure (some v)) Q B s := wpAny_bind (wpAny_mono h (fun v s' h' => wpAny_pure h') fun _ _ e => e)
  refine wpAny_holding (wpAny_bind (wpAny_bind (wpAny_bind (J.type.here ((PySem.W.looks_findIn X hn).here ?_)))))
  simp only [b]
  refine wpAny_bind (wpAny_askSetting (wpAny_ite ?_))
  split
  · exact wpAny_bind (wpAny_pure (wpAny_pure fin))
  · exact wpAny_tryCatch (wpAny_bind (wpAny_pure (wpAny_pure fin)))
end
end L2
namespace L2
open PySem PySem.Spec PyProof.Rows
section
variable {X : Cx} {CX : CXT} {C f : Addr} {fd : FuncData} {ps : List Str} {sp : Sp} {E : XK} {k : Nat}
/-- x != y, x of a class of the text with an own __eq__ and object's __ne__ -/
def rNeO (K : PySem.W.Frag) (C : Addr) (sp : Sp) (E : XK) : R2 := fun x y H Q => ∃ (a dx : Addr) (fs : List (Str × V)) (tb : Value), x = .ref a ∧ H a = some (.ins C dx fs) ∧ TyL H y tb ∧ PySem.W.notFirst K C tb = true ∧ sp [.ref a, y] H (fun v H' => ∃ b, v = .bl b ∧ Q (.bl (!b)) H') E
theorem op_neO (F : FnOk X.prog X.w X.K X.mg X.base CX k f fd ps sp) (hs : PySem.W.findIn X.K (.ref C) "__eq__" = some (some (.ref f))) (hf : PySem.W.isFn X.K (.ref f) = true) (hn : PySem.W.findIn X.K (.ref C) "__ne__" = some (some (.builtin "object.__ne__"))) (hm : PySem.W.mroIn X.K C (.type "object") = some true)
    (hb : Binds X.K fd ps []) (hx : Passes CX X E) (hr : Room (k + 1) X.A) : OpR X (compareOp .NotEq) (rNeO X.K C sp E) := by
  intro pins s σ H x y v u Q I rx ry h
  obtain ⟨a, dx, fs, tb, rfl, ha, ty, nf, hsp⟩ := h
  cases rx
  have J := (ins_get I.hok ha).choose_spec.1.look.choose_spec.1
  have sb : Sub X k X.A.in1 := Sub.in1 ⟨hr, rfl⟩
  have s0 : Sub X (k + 1) X.A := ⟨hr, rfl⟩
  have e0 : Env0 X.prog X.w X.K X.mg X.base X.A.in1 X.stack s H := let e := I.env0; ⟨by rw [sb.fr, e.frames], e.mod, e.bs, e.bsz, e.funs, e.frf, e.hok, e.bare⟩
  have bnd := hb s [.ref a, u] I.kIn (by simpa using F.len _ _ _ _ hsp)
  have run := F.run X.A.in1 X.stack s H ⟨[.ref a, u], []⟩ [.ref a, u] [.ref a, y] _ E sb.room e0 (by simpa using bnd) (.cons rfl (.cons ry .nil)) hsp
  have one : wpAny (model X.prog X.w) X.A (tryCompare (.ref a) "__ne__" u) (fun r s' => ∃ v, r = some v ∧ EP X pins σ Q v s') X.xe s := by
    unfold tryCompare
    refine wpAny_bind (ne_bound I.kIn J hn (ne_asks I.kIn J sb.room.units0 hs hf hm (wpAny_call (codeAny_mono run fun r s' hq => ?_))))
    match r, hq with
    | .error e, hq => exact hx pins σ H s e s' I hq
    | .ok (.ret w), hq =>
      obtain ⟨z, H', I', rz, b, rfl, q⟩ := I.after hq
      cases rz
      exact ⟨b, rfl, wpAny_pure ⟨_, rfl, .bl (!b), H', I', rfl, q⟩⟩
    | .ok .next, hq | .ok .brk, hq | .ok .cont, hq => exact hq.elim
  refine (show wpAny (model X.prog X.w) X.A (richCompare .NotEq (.ref a) u) (EP X pins σ Q) X.xe s from ?_)
  unfold richCompare
  simp only [oneThing_ref]
  refine wpAny_holding (wpAny_bind (wpAny_cRoomFor s0.room.units0 (wpAny_bind (J.type.here (wpAny_bind ((ty.looks I ry).here ?_))))))
  have go : wpAny (model X.prog X.w) X.A (tryCompare (.ref a) "__ne__" u) (fun r s' => ∃ v, r = some v ∧ EP X pins σ Q v s') X.xe s := one
  split
  · rename_i q
    have e : PySem.W.subIn X.K tb (.ref C) = some false := (Bool.or_eq_true_iff.mp nf).elim (fun e => by rw [beq_iff_eq.mp e] at q; simp at q) fun e => beq_iff_eq.mp e
    refine wpAny_bind ((PySem.W.looks_subIn I.kIn e).here ?_)
    rw [if_neg Bool.false_ne_true]
    exact wpAny_bind (wpAny_mono go (fun r s' ⟨v, hv, hq⟩ => by subst hv; exact wpAny_pure hq) fun _ _ e => e)
  · refine wpAny_bind (wpAny_pure ?_)
    rw [if_neg Bool.false_ne_true]
    exact wpAny_bind (wpAny_mono go (fun r s' ⟨v, hv, hq⟩ => by subst hv; exact wpAny_pure hq) fun _ _ e => e)
end
end L2
namespace L2
open PySem PySem.Spec PyProof.Rows
/-! ### a, *b = a list of one item or more -/
end L2
namespace L2
open PySem PySem.Spec PyProof.Rows
/-! ### an instance made by a name of the def: cls(..) -/
end L2
namespace L2
open PySem PySem.Spec PyProof.Rows RZ
/-! ### zip of two sequences, each a list (true) or a tuple (false) -/
def JtB (b : Bool) (h : Heap) (i l : Addr) (k : Nat) : Prop := if b = true then h.IsListIter i l k else h.IsTupleIter i l k
def SeqB (b : Bool) (h : Heap) (l : Addr) (xs : Array Value) : Prop := if b = true then h.IsList l xs else h.IsTuple l xs
theorem JtB.ext {b : Bool} {h g : Heap} {i l c : Addr} {k : Nat} (x : JtB b h i l k) (e : Heap.ExtBut c h g) (n : i ≠ c) : JtB b g i l k := by
  cases b
  · exact Heap.IsTupleIter.extBut (show h.IsTupleIter i l k from x) e n
  · exact Heap.IsListIter.extBut (show h.IsListIter i l k from x) e n
theorem JtB.at {b : Bool} {h g : Heap} {i l : Addr} {k : Nat} (x : JtB b h i l k) (e : ∀ o, h.get? i = some o → g.get? i = some o) : JtB b g i l k := by
  cases b
  · exact Heap.IsTupleIter.at (show h.IsTupleIter i l k from x) e
  · exact Heap.IsListIter.at (show h.IsListIter i l k from x) e
theorem JtB.ob {b : Bool} {h : Heap} {i l : Addr} {k : Nat} (x : JtB b h i l k) : ∃ o, h.get? i = some o ∧ ∀ v, o.data ≠ .cell v := by
  cases b
  · obtain ⟨o, e, _, d⟩ := (show h.IsTupleIter i l k from x)
    exact ⟨o, e, fun v q => by rw [d] at q; cases q⟩
  · obtain ⟨o, e, _, d⟩ := (show h.IsListIter i l k from x)
    exact ⟨o, e, fun v q => by rw [d] at q; cases q⟩
theorem SeqB.ext {b : Bool} {h g : Heap} {l c : Addr} {xs : Array Value} (x : SeqB b h l xs) (e : Heap.ExtBut c h g) (n : l ≠ c) : SeqB b g l xs := by
  cases b
  · exact Heap.IsTuple.extBut (show h.IsTuple l xs from x) e n
  · exact Heap.IsList.extBut (show h.IsList l xs from x) e n
/-! ### zip made -/
/-! ### the rule -/
end L2
namespace L2
open PySem PySem.Spec PyProof.Rows
/-! ### sorted(d), d a dict whose keys are triples of texts -/
def k3 (t : Str × Str × Str) : List Key := [.inr t.1, .inr t.2.1, .inr t.2.2]
def enc3 (t : Str × Str × Str) : PyData := .tuple [.str t.1, .str t.2.1, .str t.2.2]
def sort3 (ts : List (Str × Str × Str)) : List (Str × Str × Str) := ts.mergeSort (PySem.W.dataLe false enc3)
def rSortedT3 : List V → Hp → VK → Prop := fun xs H Q => ∃ (a : Addr) (kvs : List (List Key × V)) (ts : List (Str × Str × Str)), xs = [.ref a] ∧ Rd H a (.dT kvs) ∧ kvs.map (·.1) = ts.map k3 ∧
  ∀ (ds : List Addr) (p : Addr), Paired (fun d t => H d = some (.tup ((k3 t).map kV))) ds (sort3 ts) → H p = none → Q (.ref p) (upd H p (.lst (ds.map V.ref)))
theorem alike3 (s t : Str × Str × Str) : PySem.W.alike (enc3 s) (enc3 t) = true := by
  unfold enc3
  simp [PySem.W.alike, PySem.W.alikeAll]
theorem keys_pair {H : Hp} : ∀ {kvs : List (List Key × V)} {zs : List (List Key × Addr × Value)} {ts : List (Str × Str × Str)}, Paired (fun p q => p.1 = q.1 ∧ H q.2.1 = some (.tup (p.1.map kV)) ∧ RelV p.2 q.2.2) kvs zs → kvs.map (·.1) = ts.map k3 →
    Paired (fun d t => H d = some (.tup ((k3 t).map kV))) (zs.map (·.2.1)) ts
  | _, _, ts, .nil, h => by
    cases ts with
    | nil => exact .nil
    | cons t ts => cases h
  | _, _, ts, .cons hp ht, h => by
    cases ts with
    | nil => cases h
    | cons t ts =>
      rw [List.map_cons, List.map_cons] at h
      injection h with h1 h2
      exact .cons (by rw [← h1]; exact hp.2.1) (keys_pair ht h2)
theorem each_of {S : Addr → (Str × Str × Str) → Prop} : ∀ {as : List Addr} {ts : List (Str × Str × Str)}, Paired S as ts → PySem.W.EachIs (fun v t => ∃ d, v = Value.ref d ∧ S d t) (as.map Value.ref) ts
  | _, _, .nil => .nil
  | _, _, .cons h t => .cons ⟨_, rfl, h⟩ (each_of t)
theorem of_each {S : Addr → (Str × Str × Str) → Prop} : ∀ {out : List Value} {ts : List (Str × Str × Str)}, PySem.W.EachIs (fun v t => ∃ d, v = Value.ref d ∧ S d t) out ts → ∃ ds : List Addr, out = ds.map Value.ref ∧ Paired S ds ts
  | _, _, .nil => ⟨[], rfl, .nil⟩
  | _, _, .cons ⟨d, e, h⟩ t => by
    obtain ⟨ds, e2, p⟩ := of_each t
    exact ⟨d :: ds, by rw [e, e2]; rfl, .cons h p⟩
theorem each_imp {α β : Type} {R S : α → β → Prop} (h : ∀ a b, R a b → S a b) : ∀ {as : List α} {bs : List β}, PySem.W.EachIs R as bs → PySem.W.EachIs S as bs
  | _, _, .nil => .nil
  | _, _, .cons x t => .cons (h _ _ x) (each_imp h t)
theorem each_len {α β : Type} {R : α → β → Prop} : ∀ {as : List α} {bs : List β}, PySem.W.EachIs R as bs → as.length = bs.length
  | _, _, .nil => rfl
  | _, _, .cons _ t => by rw [List.length_cons, List.length_cons, each_len t]
theorem call_sortedT3 {X : Cx} (hc : X.calm = true) (hu : X.A.units + 64 < cLine) : CallR X (.builtin "sorted") rSortedT3 := by
  intro pins s σ H xs us Q I r h
  obtain ⟨a, kvs, ts, rfl, rd, hk, k⟩ := h
  obtain ⟨u, rfl, ru⟩ := vals1 r
  cases ru
  obtain ⟨hlen, hsm, zs, kt, o, es, ep, ho, hex, hd, hes, nd⟩ := rd.ok I.hok
  have ez : es.size = zs.length := size_of_entries hes
  have kz : kvs.length = zs.length := Paired.length kt
  refine Calls.call_function_entry (b := Builtin.sorted) kind_sorted plain_sorted entry_sorted (args_sorted1 _) ?_
  show wpAny _ _ (checkCount "sorted" 1 1 1 >>= fun _ => _) _ _ _
  refine wpAny_bind (wpAny_pure ?_)
  refine wpAny_bind (PySem.W.kdu_collect (kdl_raw hsm hex hd) (I.ok.hd hc) ho (by omega) fun h' tk acc keep items => ?_)
  obtain ⟨is, it⟩ := items
  have accL : acc.toList = (zs.map (·.2.1)).map Value.ref := by
    refine List.ext_getElem? fun j => ?_
    rw [List.getElem?_map, List.getElem?_map, Array.getElem?_toList]
    cases e : acc[j]? with
    | none =>
      have := Array.getElem?_eq_none_iff.mp e
      rw [List.getElem?_eq_none (by omega)]
      rfl
    | some v =>
      obtain ⟨en, e1, rfl⟩ := it j v e
      rw [entry_at hes j] at e1
      obtain ⟨q, e2, rfl⟩ := Option.map_eq_some_iff.mp e1
      rw [e2]
      rfl
  have pr := keys_pair kt hk
  have al : acc.toList.length = zs.length := by rw [accL, List.length_map, List.length_map]
  have I1 : Inv X pins σ H ⟨h', s.gens, s.drawn, tk, s.os⟩ := I.kept (t' := tk) keep
  refine wpAny_bind (wpAny_newList ?_ (by omega))
  have I2 : Inv X pins σ H ⟨h'.push { cls := .type "list", data := .seq acc.toList.toArray }, s.gens, s.drawn, tk, s.os⟩ := I1.kept (t' := tk) fun b o e => Heap.get?_push_of_some _ e
  refine wpAny_bind (wpAny_holding ?_)
  have E1 := each_of pr
  rw [← accL] at E1
  have hR : PySem.W.EachIs (fun v b => ∃ as, Reads (h'.push { cls := .type "list", data := .seq acc.toList.toArray }) v (enc3 b) as ∧ ¬h'.objs.size ∈ as) acc.toList ts := each_imp (fun v t q => by
    obtain ⟨d, rfl, hd⟩ := q
    obtain ⟨its, rv, ⟨ot, h1, h2, n, h3⟩, _⟩ := I2.tuple (SqT.of hd)
    cases rv with
    | cons r1 rv =>
    cases rv with
    | cons r2 rv =>
    cases rv with
    | cons r3 rv =>
    cases rv
    obtain ⟨t1, rfl⟩ := r1
    obtain ⟨t2, rfl⟩ := r2
    obtain ⟨t3, rfl⟩ := r3
    exact ⟨_, .tuple h1 h2 h3 (.cons (.str _ _) (.cons (.str _ _) (.cons (.str _ _) .nil))), fun z => nomatch z⟩) E1
  have hA : PySem.W.AllAlike (ts.map enc3) := fun d hd d' hd' => by
    obtain ⟨t, _, rfl⟩ := List.mem_map.mp hd
    obtain ⟨t', _, rfl⟩ := List.mem_map.mp hd'
    exact alike3 t t'
  have hS : PySem.W.Sortable (ts.map enc3) := .inl fun d hd => by
    obtain ⟨t, _, rfl⟩ := List.mem_map.mp hd
    exact ⟨_, _, rfl⟩
  have tl : acc.toList.length = ts.length := each_len E1
  have hD : ∀ b : Str × Str × Str, (enc3 b).depth ≤ 2 := fun b => by
    unfold enc3
    simp [PyData.depth, PyData.depthAll]
  refine PySem.W.list_sort_data (n := 0) (enc := enc3) (R := fun v t => ∃ d, v = Value.ref d ∧ H d = some (.tup ((k3 t).map kV))) (Heap.get?_push_size _ rfl) E1 hR hA hS (by omega) (fun b hb => by have := hD b; have e : X.A.in1.units = X.A.units + 1 := rfl; omega) fun out ol eo => ?_
  · obtain ⟨ds, rfl, pd⟩ := of_each eo
    refine wpAny_pure ⟨_, rfl, ?_⟩
    obtain ⟨e, he⟩ := sortedHeap_at (out := (ds.map Value.ref).toArray) (vs := acc.toList) (n := 0) (Heap.get?_push_size (o := { cls := .type "list", data := .seq acc.toList.toArray }) h' rfl)
    refine ⟨.ref h'.objs.size, upd H h'.objs.size (.lst (ds.map V.ref)), I1.laid (t' := tk) (fun b u eb => ?_) (Nat.le_refl _) ⟨?_, ds.map Value.ref, e, vals_refs ds, he⟩, rfl, k ds _ pd (I1.hok.fresh (Nat.le_refl _))⟩
    · have lt : b < h'.objs.size := Heap.lt_size eb
      have lt2 : b < (h'.push { cls := .type "list", data := .seq acc.toList.toArray }).objs.size := by
        rw [size_push']
        exact Nat.lt_succ_of_lt lt
      rw [sortedHeap_old (Nat.ne_of_lt lt) lt2]
      exact Heap.get?_push_of_some _ eb
    · have l1 : ds.length = ts.length := by rw [← ol, List.length_map]
      rw [List.length_map]
      omega
end L2
namespace L2
open PySem PySem.Spec PyProof.Rows
/-! ### a list comprehension whose step may raise -/
section
variable {M : Model} {A : Around} {E : Value → Shared → Prop} {s : Shared} {env : Env}
def compPostX (M : Model) (A : Around) (E : Value → Shared → Prop) (Q : Value → Shared → Prop) (acc : Value) (cenv : Env) (r : Result) (s' : Shared) : Prop :=
  match r with
  | .ok _ => ∃ m, s'.heap.Ns cenv.locals m ∧ ∀ h', Heap.SameBut cenv.locals s'.heap h' → Q acc { s' with heap := h' }
  | .error x => ∃ m, s'.heap.Ns cenv.locals m ∧ ∀ h', Heap.SameBut cenv.locals s'.heap h' → ∀ c : Env, c.frame = cenv.frame → wpAny M A (passOn "comprehension.variables-let-go" x c : Sem Value) (fun _ _ => False) E { s' with heap := h' }
theorem comprehension_freeX {e : Expr} {scope : Scope} {pos : Pos} {newAcc first : Sem Value} {g : Comprehension} {gs : List Comprehension} {cl : List (Str × Addr)} {Q : Value → Shared → Prop}
    (hcl : clausesOf e = g :: gs) (hs : ∀ x, foldedSetIterable g.iter env x = pure x) (hclos : closureFor scope env = pure cl)
    (hkind : scope.kind = .function) (hnames : ∀ x ∈ scope.names, x.2 = .local → scope.names.lookup x.1 = some .local)
    (h : wpAny M A first (fun x s₁ => wpAny M A (pyIter x) (fun it s₂ => wpAny M A newAcc (fun acc s₃ =>
      wpAny M A (newFunctionEnv scope env.globals cl [] env.qual none .none (some env)) (fun cenv s₄ =>
        codeAny M A (.compStart e 0 it acc { cenv with scope := relabel scope env }) (compPostX M A E Q acc cenv) s₄) E s₃) E s₂) E s₁) E s) :
    wpAny M A (comprehension e scope env pos newAcc false first none) Q E s := by
  unfold comprehension
  rw [hclos, hcl]
  refine wpAny_bind (wpAny_mono h (fun x s₁ h₁ => wpAny_bind (wpAny_standAt (wpAny_bind (wpAny_of_eq (hs x) (wpAny_bind (wpAny_holding (wpAny_mono h₁ (fun it s₂ h₂ =>
    wpAny_standIf (wpAny_bind (wpAny_mono h₂ (fun acc s₃ h₃ => wpAny_bind (wpAny_pure (wpAny_bind (wpAny_mono h₃ (fun cenv s₄ h₄ => ?_) fun _ _ h' => h')))) fun _ _ h' => h')))
      fun _ _ h' => h'))))))) fun _ _ h' => h')
  dsimp only
  have hv : ∀ x ∈ (scope.names.filter fun x => (x.2 == .local || x.2 == .cell) && x.1 != (".0" : Str)).reverse, x.2 = .local →
      Env.kindOf { cenv with scope := relabel scope env } x.1 = some .local := fun x hx hl => lookup_relabel_local (hnames x (List.mem_filter.mp (List.mem_reverse.mp hx)).1 hl)
  refine wpAny_holding (wpAny_bind (wpAny_attempt (wpAny_holding (wpAny_run (codeAny_mono h₄ fun r s' hr => ?_)))))
  cases r with
  | ok f =>
    obtain ⟨m, hn, hr⟩ := hr
    exact wpAny_bind (wpAny_holding (wpAny_comp_letGo (cenv := { cenv with scope := relabel scope env }) hkind _ s' m hv hn fun h' m' _ hs' => wpAny_pure (hr h' hs')))
  | error x =>
    obtain ⟨m, hn, hr⟩ := hr
    exact wpAny_bind (wpAny_holding (wpAny_comp_letGo (cenv := { cenv with scope := relabel scope env }) hkind _ s' m hv hn fun h' m' _ hs' => wpAny_mono (hr h' hs' { cenv with scope := relabel scope env } rfl) (fun _ _ f => f.elim) fun _ _ y => y))
end
/-- an exception that has come out of a call, within a comprehension's block -/
def XEf (X : Cx) (W : WX) (u : Value) (s' : Shared) : Prop :=
  ∃ (a : Addr) (B : Heap) (sI : Shared) (pins : List (Addr × Obj)) (σ : St) (H : Hp) (cls : Value) (d : Option Addr),
    u = .ref a ∧ Inv X pins σ H sI ∧ (∀ b o, sI.heap.get? b = some o → b ∉ frs X.stack → B.get? b = some o) ∧ sI.heap.UpToSlots s'.heap ∧
      HandSPX.FlyingZ B X.stack a (Zc cls d) s'.heap ∧ H a = none ∧ s'.os = sI.os ∧ AllBare s'.gens ∧ W cls d σ H
def TakesF (X : Cx) (W : WX) : Prop := ∀ u s', XEf X W u s' → X.xe u s'
section
variable {X : Cx} {pins : List (Addr × Obj)} {σ : St} {H : Hp} {sI s s' : Shared} {B : Heap} {W : WX} {E : XK}
theorem XEf.of_call (I : Inv X pins σ H s) (hW : ∀ cls d H', E cls d H' → W cls d σ H') {u : Value} (c : CX X.prog X.w X.stack H s E u s') : XEf X W u s' := by
  obtain ⟨a, B, H', cls, d, rfl, fl, hok, ub, na, os, ag, hE⟩ := c
  obtain ⟨G, g1, g2⟩ := restrict s'.heap fun b => (B.get? b).isSome || decide (b ∈ frs X.stack)
  have st : B.StaysIn s'.heap := fl.1
  have gB : ∀ b o, B.get? b = some o → G.get? b = some o := fun b o e => by
    rw [g1 b (by simp [e])]
    exact st b o e
  have gF : ∀ b, b ∈ frs X.stack → G.get? b = s'.heap.get? b := fun b hb => g1 b (by simp [hb])
  have og : ∀ b o, G.get? b = some o → s'.heap.get? b = some o ∧ ((B.get? b).isSome = true ∨ b ∈ frs X.stack) := fun b o e => by
    cases q : ((B.get? b).isSome || decide (b ∈ frs X.stack)) with
    | false => rw [g2 b q] at e; cases e
    | true =>
      rw [g1 b q] at e
      exact ⟨e, by simpa [Bool.or_eq_true] using q⟩
  refine ⟨a, B, { s with heap := G, gens := s'.gens, drawn := s'.drawn, toks := s'.toks }, pins, σ, H', cls, d, rfl, ?_, fun b o e hb => ?_, Heap.UpToSlots.of_keeps fun b o e => (og b o e).1, fl, na, os, ag, hW _ _ _ hE⟩
  · refine I.call (ch := []) ⟨fun b o e n hb _ => gB b o (ub.keep b o e n hb), fun b o e n hb _ => ?_, fun b o e n _ => ub.free b o e n, fun b o e _ => ?_, ub.tups, ub.frzs, ub.tbls⟩ (hok.kept gB) ag (fun _ z => nomatch z)
    · obtain ⟨sl, q⟩ := ub.slot b o e hb
      exact ⟨sl, by rw [gF b hb]; exact q⟩
    · by_cases hb : b ∈ frs X.stack
      · obtain ⟨sl, q⟩ := ub.slot b o e hb
        exact ⟨_, by rw [gF b hb]; exact q⟩
      · obtain ⟨o', q⟩ := ub.there b o e hb
        exact ⟨o', gB b o' q⟩
  · obtain ⟨e', h⟩ := og b o e
    rcases h with h | h
    · obtain ⟨o', q⟩ := Option.isSome_iff_exists.mp h
      have z := st b o' q
      rw [e'] at z; cases z
      exact q
    · exact absurd h hb
theorem passAtF (tk : TakesF X W) (σ : St) : PassesAt (L2.CX X.prog X.w) X σ (WE W σ) := fun _ _ _ e s' I c => tk e s' (XEf.of_call I (fun _ _ _ h => h) c)
theorem noteFrame_congr {e : Value} {env env' : Env} (h : env.frame = env'.frame) : noteFrame e env = noteFrame e env' := by
  unfold noteFrame PySem.frameOf
  rw [h]
theorem funFrames_but {base B2 h h2 : Heap} {C : Addr} (hb : ∀ b, base.get? b = none → B2.get? b = none) (sb : ∀ b, b ≠ C → h2.get? b = h.get? b) : ∀ {l : List Env}, h.FunFrames base l → (∀ L ∈ frs l, L ≠ C) → h2.FunFrames B2 l
  | [], _, _ => trivial
  | env :: l, h, hn => by
    obtain ⟨hk, ⟨L, o, hf, hL, ho, hd⟩, hr⟩ := h
    refine ⟨hk, ⟨L, o, hf, hb L hL, ?_, hd⟩, funFrames_but hb sb hr fun b hb' => ?_⟩
    · rw [sb L (hn L (List.mem_filterMap.mpr ⟨env, List.mem_cons_self, hf⟩))]
      exact ho
    · obtain ⟨e, he, q⟩ := List.mem_filterMap.mp hb'
      exact hn b (List.mem_filterMap.mpr ⟨e, List.mem_cons_of_mem _ he, q⟩)
/-- the block, what it raises -/
abbrev Cx.blkX (X : Cx) (s : Shared) (H : Hp) (scope : Scope) (cenv : Env) (fp : List Addr) (W : WX) : Cx := (X.blk s H scope cenv fp).wish (XEf (X.blk s H scope cenv fp) W)
theorem blkX_takes {scope : Scope} {cenv : Env} {fp : List Addr} : TakesF (X.blkX s H scope cenv fp W) W := fun _ _ ⟨a, B, sI, pins, σ, H, cls, d, e, I, nb, up, fl, na, os, ag, w⟩ => ⟨a, B, sI, pins, σ, H, cls, d, e, I.unwish, nb, up, fl, na, os, ag, w⟩
/-- it leaves the block: the variables let go, then on its way from the def's own frame -/
theorem XEf.leave {s3 : Shared} {H3 : Hp} {scope : Scope} {ce : Env} {fp : List Addr} {Wo : WX} (hst : X.stack = X.env :: X.outer) (hf : X.env.frame = some X.env.locals) (tk : Takes X Wo) (I3 : Inv X pins σ H3 s3) (hC : ce.locals = s3.heap.objs.size) (hfr : ce.frame = X.env.frame)
    (hfp : ∀ b ∈ fp, FpOk X pins H3 b) {u : Value} {Q : Value → Shared → Prop} {acc : Value} {c0 : Env} (hc0 : c0.locals = ce.locals) (hc1 : c0.frame = ce.frame) (x : XEf (X.blk s3 H3 scope ce fp) (fun cls d _ H => Wo cls d σ H) u s') :
    notedBy (model X.prog X.w) X.A ce (fun e s1 => compPostX (model X.prog X.w) X.A X.xe Q acc c0 (.error e) s1) u s' := by
  obtain ⟨a, B, sI, pins', σ', H', cls, d, rfl, I', nb, up, fl, na, os, ag, w⟩ := x
  have fl : HandSPX.FlyingZ B (X.env :: X.outer) a (Zc cls d) s'.heap := by rw [← hst]; exact fl
  have hA : X.A.frames = some (X.env :: X.outer) := by rw [I3.ok.frames, hst]
  unfold notedBy
  rw [noteFrame_congr hfr]
  refine HandSPX.looks_onZ Zc.steady hA hf fl fun h1 held up1 => ?_
  -- the block's variables
  obtain ⟨m, ⟨oC, es, ep, eC, dC, rC⟩, _⟩ := id I'.loc
  have eC : sI.heap.get? ce.locals = some oC := eC
  have ndC : ∀ vs, oC.data ≠ .fields vs := fun vs z => by rw [dC] at z; cases z
  obtain ⟨sl1, eC1⟩ := up _ _ eC ndC
  obtain ⟨sl2, eC2⟩ := up1 _ _ eC1 ndC
  refine ⟨m, ⟨{ oC with slots := sl2 }, es, ep, by rw [hc0]; exact eC2, dC, rC⟩, fun h2 sb c hc => ?_⟩
  rw [hc0] at sb
  have nC : H' ce.locals = none := I'.free
  have sb' : ∀ b, b ≠ ce.locals → h2.get? b = h1.get? b := fun b hb => sb.2 b hb
  obtain ⟨hB, hBn, hFF, oe, vs, T, oT, ts, he, hz, hd, h1', hnT, hTe, hT, hdT, h3⟩ := held
  have aC : a ≠ ce.locals := fun z => by
    rw [z, eC2] at he
    cases he
    exact ndC _ hd
  have TC : T ≠ ce.locals := fun z => by
    rw [z, eC2] at hT
    cases hT
    exact ndC _ hdT
  have frC : ∀ L ∈ frs X.stack, L ≠ ce.locals := fun L hL z => by
    obtain ⟨_, o, ho, _⟩ := I3.stack.mem hL
    have := Heap.lt_size ho
    rw [z, hC] at this
    exact Nat.lt_irrefl _ this
  obtain ⟨B2, b1, b2⟩ := restrict B fun b => decide (b ≠ ce.locals)
  obtain ⟨G, g1, g2⟩ := restrict sI.heap fun b => decide (b ≠ ce.locals)
  have B2s : ∀ b o, B2.get? b = some o → b ≠ ce.locals ∧ B.get? b = some o := fun b o e => by
    by_cases hb : b = ce.locals
    · rw [b2 b (decide_eq_false fun z => z hb)] at e
      cases e
    · exact ⟨hb, by rw [← b1 b (decide_eq_true hb)]; exact e⟩
  have Gs : ∀ b o, G.get? b = some o → b ≠ ce.locals ∧ sI.heap.get? b = some o := fun b o e => by
    by_cases hb : b = ce.locals
    · rw [g2 b (decide_eq_false fun z => z hb)] at e
      cases e
    · exact ⟨hb, by rw [← g1 b (decide_eq_true hb)]; exact e⟩
  have B2n : ∀ b, B.get? b = none → B2.get? b = none := fun b e => by
    cases q : B2.get? b with
    | none => rfl
    | some o => rw [(B2s b o q).2] at e; cases e
  have held2 : HandSPX.HeldZ B2 (X.env :: X.outer) a (Zc cls d) X.env.locals h2 := ⟨fun b o e => by rw [sb' b (B2s b o e).1]; exact hB b o (B2s b o e).2, B2n a hBn, funFrames_but B2n sb' hFF (by rw [← hst]; exact frC),
    oe, vs, T, oT, ts, by rw [sb' a aC]; exact he, hz, hd, h1', B2n T hnT, hTe, by rw [sb' T TC]; exact hT, hdT, h3⟩
  have J0 : Inv X pins σ H' sI := I3.call' (ch := fp) I'.os I'.base I'.hok I'.bare fun b hb => ⟨(hfp b hb).2.2.2.1, (hfp b hb).2.1, (hfp b hb).2.2.2.2.1, (hfp b hb).2.2.2.2.2⟩
  have J : Inv X pins σ H' { sI with heap := G } := by
    obtain ⟨f0, f1, f2, f3, f4, f5⟩ := I3.fpOk (b := ce.locals) (H' := H') (by rw [hC]; exact Nat.le_refl _) nC
    exact J0.turned (t' := sI.toks) (fun b o hb e => by rw [g1 b (decide_eq_true hb)]; exact e) f0 f1 f3 f4 f5
  unfold PySem.passOn
  refine wpAny_bind (wpAny_field (show h2.get? a = some oe by rw [sb' a aC]; exact he) hd h1' ?_)
  rw [if_neg (by simp)]
  have go : wpAny (model X.prog X.w) X.A (setFlight (.ref a) c.frame) (fun _ t => wpAny (model X.prog X.w) X.A (throw (.ref a) : Sem Value) (fun _ _ => False) X.xe t) X.xe { s' with heap := h2 } := by
    rw [hc, hc1, hfr, hf]
    refine HandSPX.setFlight_onZ (s := { s' with heap := h2 }) held2 fun h4 hh up4 => wpAny_throw (tk _ _ ⟨a, B2, { sI with heap := G }, pins, σ, H', cls, d, rfl, J, fun b o e hb => ?_, fun b o e hd => ?_, .inr (.inr ?_), na, os, ag, w⟩)
    · rw [b1 b (decide_eq_true (Gs b o e).1)]
      exact nb b o (Gs b o e).2 hb
    · obtain ⟨n, e⟩ := Gs b o e
      obtain ⟨sl, e⟩ := up b o e hd
      obtain ⟨sl', e⟩ := up1 b _ e hd
      rw [← sb' b n] at e
      obtain ⟨sl2, q⟩ := up4 b { o with slots := sl' } e hd
      exact ⟨sl2, q⟩
    · rw [hst]
      exact hh
  first
    | exact wpAny_bind go
    | exact wpAny_bind (wpAny_pure (wpAny_bind go))
end
section
variable {X : Cx}
/-- [e for x in it], the step may raise: Wo what is wished of what leaves -/
def tLcX (wi : TI) (g : TG) (te : WX → TE) (Wo : WX) (vs : List Nat) : TE := fun σ H Q => wi σ H fun J H1 => ∀ D, H1 D = none → ∃ W : Nat → Nat → Hp → Prop, (∃ m, W 0 m (upd H1 D (.lst []))) ∧ ∀ i m H, W i m H →
  (J.stop i H ∧ Q (.ref D) H) ∨ (J.go i H ∧ ∃ Nx : Hp → Prop, (∀ H', Nx H' → ∃ m', m' < m ∧ W (i + 1) m' H') ∧ ∀ x H', J.yld i H x H' → g x (wipe σ vs) H' fun σ2 H2 => wipe σ2 vs = wipe σ vs ∧
    te (fun cls d _ H => Wo cls d σ H) σ2 H2 fun y H4 => ∃ acc, H4 D = some (.lst acc) ∧ acc.length < sizeLine ∧ Nx (upd H4 D (.lst (acc ++ [y]))))
theorem pe_lcX {elt tg iter : Expr} {scope : Scope} {own : List (Str × Nat)} {pos : Pos} {wi : TI} {g : TG} {te : WX → TE} {Wo : WX} (hc : X.calm = true) (hN : X.N.Nodup) (hst : X.stack = X.env :: X.outer) (hf : X.env.frame = some X.env.locals) (tk : Takes X Wo) (hi : PI X tg iter wi) (ok : BlkOk X.N X.env.scope scope own)
    (hg : ∀ (s : Shared) (H : Hp) (C : Addr) (cl : List (Str × Addr)) (fp : List Addr) (W : WX), PG (X.blkX s H scope (compEnvC scope cl C X.env) fp W) tg g)
    (he : ∀ (s : Shared) (H : Hp) (C : Addr) (cl : List (Str × Addr)) (fp : List Addr) (W : WX), PE (X.blkX s H scope (compEnvC scope cl C X.env) fp W) elt (te W)) (hs : ∀ x, foldedSetIterable iter X.env x = pure x := by intro _; rfl) :
    PE X (.ListComp elt [⟨tg, iter, [], 0⟩] scope pos) (tLcX wi g te Wo (own.map (·.2))) := by
  refine ⟨fun pins s σ H Q I h => ?_⟩
  rw [eval_ListComp]
  have hfree : ∀ y ∈ scope.names, y.2 = .free → ∃ c, X.env.cells.lookup y.1 = some c := fun y hy e => by
    rcases ok.free y hy e with k | k
    · exact I.ok.has _ (.inl k)
    · exact I.ok.has _ (.inr k)
  refine comprehension_freeX rfl hs (closure_ok hfree) ok.kind (fun y hy e => by rw [ok.uniq y hy, e])
    (thn (hi.run pins s σ H _ I h) fun xv s1 hx => thn hx fun itv s2 h2 => ?_)
  obtain ⟨it, fp, tn, J, H2, e, I2, T, st2, f2, q⟩ := h2
  subst e
  refine wpAny_newObj_type (newEnv_comp ?_) (by show 0 ≤ sizeLine; decide)
  generalize hD : s2.heap.objs.size = D
  have hDn : H2 D = none := I2.hok.fresh (Nat.le_of_eq hD)
  obtain ⟨W, ⟨m0, w0⟩, turn⟩ := q D hDn
  generalize hs3 : ({ s2 with heap := s2.heap.push { cls := .type "list", data := .seq ([] : List Value).toArray } } : Shared) = s3
  have I3 : Inv X pins σ (upd H2 D (.lst [])) s3 := by
    rw [← hs3]
    refine I2.laid (t' := s2.toks) (fun b o e => Heap.get?_push_of_some _ e) (Nat.le_of_eq hD) ⟨Nat.zero_le _, [], 0, .nil, ?_⟩
    rw [← hD]
    exact Heap.get?_push_size _ rfl
  have h3 : s3.heap = s2.heap.push { cls := .type "list", data := .seq ([] : List Value).toArray } := by rw [← hs3]
  have sz : ∀ b ∈ fp, b < s2.heap.objs.size := fun b hb => by
    obtain ⟨o, e, _⟩ := T.obj _ _ st2 b hb
    exact Heap.lt_size e
  have f3 : ∀ b ∈ fp, FpOk X pins (upd H2 D (.lst [])) b ∧ b < s3.heap.objs.size := fun b hb => by
    have hlt := sz b hb
    refine ⟨⟨?_, (f2 b hb).2⟩, by rw [h3, Heap.size_push]; exact Nat.lt_succ_of_lt hlt⟩
    rw [upd_ne (by rw [← hD]; exact Nat.ne_of_lt hlt)]
    exact (f2 b hb).1
  have st3 : tn 0 s3.heap := T.keep _ _ _ st2 fun b _ o e => by rw [h3]; exact Heap.get?_push_of_some _ e
  have I4 := block_start I3 ok hN f3
  have pg := hg s3 (upd H2 D (.lst [])) s3.heap.objs.size (cellsFrom (s3.heap.objs.size + 1) scope.names (cloFrom X.env.cells scope.names [])) fp (fun cls d _ H => Wo cls d σ H)
  have pe := he s3 (upd H2 D (.lst [])) s3.heap.objs.size (cellsFrom (s3.heap.objs.size + 1) scope.names (cloFrom X.env.cells scope.names [])) fp (fun cls d _ H => Wo cls d σ H)
  have nfp : ∀ b ∈ fp, (upd H2 D (.lst [])) b = none := fun b hb => (f3 b hb).1.1
  generalize hc0 : newEnv scope s3.heap.objs.size X.env.globals (cellsFrom (s3.heap.objs.size + 1) scope.names (cloFrom X.env.cells scope.names [])) X.env.qual none .none (some X.env) _ = c0
  have c0L : c0.locals = s3.heap.objs.size := by rw [← hc0]; rfl
  have c0F : c0.frame = X.env.frame := by rw [← hc0]; rfl
  have c0E : ({ c0 with scope := relabel scope X.env } : Env) = compEnvC scope (cellsFrom (s3.heap.objs.size + 1) scope.names (cloFrom X.env.cells scope.names [])) s3.heap.objs.size X.env := by rw [← hc0]; rfl
  rw [c0E]
  generalize hce : compEnvC scope (cellsFrom (s3.heap.objs.size + 1) scope.names (cloFrom X.env.cells scope.names [])) s3.heap.objs.size X.env = ce at I4 pg pe ⊢
  have cL : ce.locals = s3.heap.objs.size := by subst hce; rfl
  have cF : ce.frame = X.env.frame := by subst hce; rfl
  generalize hH3 : upd H2 D (.lst []) = H3 at I3 I4 pg pe w0 nfp f3
  generalize hs4 : ({ s3 with heap := pushCells (s3.heap.push { cls := .type "dict", data := .dict #[] }) scope.names } : Shared) = s4 at I4 ⊢
  have st4 : tn 0 s4.heap := T.keep _ _ _ st3 fun b _ o e => by rw [← hs4]; exact pushCells_keeps _ _ _ _ (Heap.get?_push_of_some _ e)
  have stat : ∀ {σ' : St} {H' : Hp} {s' : Shared}, Inv (X.blk s3 H3 scope ce fp) [] σ' H' s' → (∀ b ∈ fp, H' b = none) → ∀ b ∈ fp, FpOk (X.blk s3 H3 scope ce fp) [] H' b := fun {σ' H' s'} I' hn b hb =>
    ⟨hn b hb, (I'.ok.exf b hb).1, I'.ok.exfs b hb, .inl hb, fun x c e => (I'.ok.exf b hb).2 x c e, fun p hp => absurd (show p ∈ ([] : List (Addr × Obj)) ++ [] from hp) (by simp)⟩
  have loop : codeAny (model X.prog X.w) X.A (.compLoop (.ListComp elt [⟨tg, iter, [], 0⟩] scope pos) 0 (.ref it) (.ref D) ce) (compPostX (model X.prog X.w) X.A X.xe (EP X pins σ Q) (.ref D) c0) s4 := by
    have err : ∀ (u : Value) (s' : Shared), XEf (X.blk s3 H3 scope ce fp) (fun cls d _ H => Wo cls d σ H) u s' → notedBy (model X.prog X.w) X.A ce (fun e s1 => compPostX (model X.prog X.w) X.A X.xe (EP X pins σ Q) (.ref D) c0 (.error e) s1) u s' := fun u s' x =>
      x.leave hst hf tk I3 cL cF (fun b hb => (f3 b hb).1) (c0L.trans cL.symm) (c0F.trans cF.symm)
    refine compLoop_any (fun n s' => ∃ i H', Inv (X.blk s3 H3 scope ce fp) [] (wipe σ (own.map (·.2))) H' s' ∧ tn i s'.heap ∧ (∀ b ∈ fp, H' b = none) ∧ W i n H') ?_ m0 ⟨0, H3, I4, st4, nfp, w0⟩
    rintro n s5 ⟨i, H5, I5, st5, n5, w5⟩
    rcases turn i n H5 w5 with ⟨stop, qq⟩ | ⟨go, Nx, hNx, step⟩
    · have td := T.done (X.blk s3 H3 scope ce fp) rfl rfl rfl hc i [] s5 _ H5 (fun _ _ => False) I5 (stat I5 n5) st5 stop
      refine thnF td fun r s6 ⟨hr, I6⟩ => ?_
      subst hr
      have I7 : Inv X pins σ H5 s6 := I3.call' (ch := fp) I6.os I6.base I6.hok I6.bare fun b hb => ⟨(f3 b hb).1.2.2.2.1, (f3 b hb).1.2.1, (f3 b hb).1.2.2.2.2.1, (f3 b hb).1.2.2.2.2.2⟩
      have nC : H5 s3.heap.objs.size = none := by
        have z : H5 ce.locals = none := I6.free
        rw [cL] at z
        exact z
      obtain ⟨m, hn, _⟩ := I6.loc
      have hn : s6.heap.Ns ce.locals m := hn
      obtain ⟨f0, f1, f2, f3, f4, f5⟩ := I3.fpOk (H' := H5) (Nat.le_refl _) nC
      refine ⟨m, by rw [c0L, ← cL]; exact hn, fun h'' sb => ?_⟩
      rw [c0L] at sb
      exact ⟨.ref D, H5, I7.turned (t' := s6.toks) (fun b o hb e => (sb.2 b hb).trans e) f0 f1 f3 f4 f5, rfl, qq⟩
    · have ti := T.item (X.blk s3 H3 scope ce fp) rfl rfl rfl hc i [] s5 _ H5 (fun _ _ => False) I5 (stat I5 n5) st5 go
      refine thnF ti fun r s6 ⟨u, hr, h6⟩ => ?_
      subst hr
      refine thnF h6 fun _ s7 ⟨x, H7, I7, r7, y7, st7, n7⟩ => ?_
      have I7' := I7.pinned (stat I7 n7) (T.obj _ _ st7)
      refine wpAny_mono (pg.run _ s7 _ H7 x u _ (I7'.wish _) r7 (step x H7 y7)) (fun _ s8 ⟨σ8, H8, I8, hw8, q8⟩ => ?_) err
      have fin : ∀ {s' : Shared} {H' : Hp}, Inv (X.blk s3 H3 scope ce fp) ([] ++ pinsAt fp s7.heap) σ8 H' s' → Nx H' → ∃ m, m < n ∧ ∃ i H', Inv (X.blk s3 H3 scope ce fp) [] (wipe σ (own.map (·.2))) H' s' ∧ tn i s'.heap ∧ (∀ b ∈ fp, H' b = none) ∧ W i m H' := fun {s' H'} I' nx => by
        obtain ⟨m', hm, w'⟩ := hNx H' nx
        have pin' : ∀ b ∈ fp, ∀ o, s7.heap.get? b = some o → s'.heap.get? b = some o ∧ H' b = none := fun b hb o e =>
          let z := I'.pin (b, o) (List.mem_append_right _ (List.mem_append_right _ (mem_pinsAt hb e)))
          ⟨z.1, z.2.1⟩
        have hl : (wipe σ (own.map (·.2))).length = σ8.length := by rw [← hw8, wipe_length]
        refine ⟨m', hm, i + 1, H', (I'.unpinned (pins := [])).weak hl (fun j v e => ?_), T.keep _ _ _ st7 fun b hb o e => (pin' b hb o e).1, fun b hb => ?_, w'⟩
        · rw [← hw8] at e
          exact (wipe_some e).1
        · obtain ⟨o, e, _⟩ := T.obj _ _ st7 b hb
          exact (pin' b hb o e).2
      rw [List.forIn_nil]
      refine wpAny_pure ?_
      simp only [if_true]
      refine wpAny_mono (pe.run _ s8 σ8 H8 _ I8 q8) (fun z s10 ⟨yv, H10, I10, r10, acc, hD10, hz10, nx⟩ => ?_) err
      exact app_ok (X := X.blk s3 H3 scope ce fp) I10.unwish hD10 hz10 r10 fun s11 I11 => fin I11 nx
  exact codeAny_compStart_list loop (T.self X.A 0 _ _ _ st4 loop)
end
end L2
namespace Toy
open PySem L2
/-! ### the data -/
/-- H' tells all that H tells, but for what stands at p -/
def But (p : Addr) (H H' : Hp) : Prop := ∀ b o, b ≠ p → H b = some o → H' b = some o
theorem But.refl (p : Addr) (H : Hp) : But p H H := fun _ _ _ h => h
theorem But.trans {p : Addr} {H H1 H2 : Hp} (a : But p H H1) (b : But p H1 H2) : But p H H2 := fun c o n h => b c o n (a c o n h)
theorem But.upd {p : Addr} {H H' : Hp} {o : HO} (a : But p H H') : But p H (upd H' p o) := fun c o n h => by rw [upd_ne n]; exact a c o n h
theorem Same.but {p : Addr} {H H' : Hp} (a : Same H H') : But p H H' := fun c o _ h => a c o h
theorem Same.new {H : Hp} {p : Addr} {o : HO} (h : H p = none) : Same H (upd H p o) := fun b o e => by rw [upd_ne (ne_of_none e h)]; exact e
/-- a source of draws at p, at most n drawn so far -/
def Src (H : Hp) (p : Addr) (n : Int) : Prop := ∃ g s c : Int, H p = some (.lst [.int g, .int s, .int c]) ∧ 0 ≤ s ∧ s < 2147483647 ∧ 0 ≤ c ∧ c ≤ n
theorem Src.same {H H' : Hp} {p : Addr} {n : Int} (h : Src H p n) (e : Same H H') : Src H' p n := by
  obtain ⟨g, s, c, h, q⟩ := h
  exact ⟨g, s, c, e _ _ h, q⟩
theorem Src.le {H : Hp} {p : Addr} {n m : Int} (h : Src H p n) (e : n ≤ m) : Src H p m := by
  obtain ⟨g, s, c, h, q1, q2, q3, q4⟩ := h
  exact ⟨g, s, c, h, q1, q2, q3, by omega⟩
theorem draw_pow {x c : Int} (x0 : 0 ≤ x) (x1 : x < 2147483629) (c0 : 0 ≤ c) (c1 : c ≤ 1000000) : CPow (x * 48271 + 16807 * c * c + 11) 3 := by
  refine ⟨by decide, by decide, ?_⟩
  have h1 : 0 ≤ c * c := Int.mul_nonneg c0 c0
  have h2 : c * c ≤ 1000000 * 1000000 := Int.mul_le_mul c1 c1 c0 (by decide)
  have e : 16807 * c * c = 16807 * (c * c) := Int.mul_assoc _ _ _
  rw [e]
  generalize c * c = y at h1 h2
  show _ < 18446744073709551616
  omega
theorem ifd {c A B : Prop} {inst : Decidable c} (h1 : c → A) (h2 : ¬ c → B) : if (@decide c inst) = true then A else B := by
  by_cases h : c
  · rw [if_pos (decide_eq_true h)]
    exact h1 h
  · rw [if_neg (by rw [decide_eq_false h]; exact Bool.false_ne_true)]
    exact h2 h
local macro_rules | `(tactic| walk_at "rd") => `(tactic| repeat (first
  | refine ⟨_, rfl, ?_⟩
  | refine ⟨_, _, rfl, rfl, ?_⟩
  | refine ⟨_, _, rfl, ?_⟩
  | refine ⟨rfl, ?_⟩
  | refine ⟨_, _, _, _, rfl, rfl, SqL.of upd_same, rfl, ?_⟩
  | refine ⟨_, _, _, _, rfl, rfl, upd_same, rfl, ?_⟩
  | refine iteT ?_
  | refine iteF ?_))
theorem take_more {α : Type} : ∀ {l : List α} {i : Nat} {x : α}, l[i]? = some x → l.take (i + 1) = l.take i ++ [x]
  | [], i, x, h => by simp at h
  | a :: l, 0, x, h => by
    have e : a = x := Option.some.inj h
    subst e
    rfl
  | a :: l, i + 1, x, h => by
    have ih := take_more (l := l) (i := i) (x := x) h
    show a :: l.take (i + 1) = a :: l.take i ++ [x]
    rw [ih]
    rfl
theorem Src.but {H H' : Hp} {p q : Addr} {n : Int} (h : Src H p n) (e : But q H H') (hne : p ≠ q) : Src H' p n := by
  obtain ⟨g, s, c, h, r⟩ := h
  exact ⟨g, s, c, e _ _ hne h, r⟩
theorem Src.at {H : Hp} {p : Addr} {n : Int} (h : Src H p n) : ∃ xs, H p = some (.lst xs) := by
  obtain ⟨g, s, c, h, q⟩ := h
  exact ⟨_, h⟩
theorem Src.ne {H : Hp} {p q : Addr} {n : Int} (h : Src H p n) (hq : H q = none) : q ≠ p := fun z => by
  obtain ⟨_, _, _, e, _⟩ := h
  rw [z, e] at hq
  cases hq
/-! ### the promises -/
def spSource (K : PySem.W.Frag) : Sp := fun vs H Q _ => ∃ (a : Addr) (ns : List Int), vs = [.ref a] ∧ SqL K H a (ns.map V.int) ∧ ∀ (p : Addr) (H' : Hp), H p = none → Same H H' → Src H' p 0 → Q (.ref p) H'
def spDraw : Sp := fun vs H Q _ => ∃ (p : Addr) (m n : Int), vs = [.ref p, .int m] ∧ Src H p n ∧ n < 1000000 ∧ 0 < m ∧ m < 2 ^ 64 ∧
  ∀ (d : Int) (H' : Hp), 0 ≤ d → d < m → But p H H' → Src H' p (n + 1) → Q (.int d) H'
def spLaw (K : PySem.W.Frag) : Sp := fun vs H Q _ => ∃ (a : Addr) (ns : List Int), vs = [.ref a] ∧ SqL K H a (ns.map V.int) ∧ ns.length ≤ 63 ∧ ∀ H', Q (.bl true) H'
/-! ### data: what a value stands for, whatever the addresses -/
/-- a tuple that is known to have no dict: its methods may be asked -/
def FzT (H : Hp) (a : Addr) (vs : List V) : Prop := ∃ o : Obj, H a = some (.frz o (.tup vs)) ∧ o.dict = none
theorem FzT.sq {K : PySem.W.Frag} {H : Hp} {a : Addr} {vs : List V} (h : FzT H a vs) : SqT K H a vs := let ⟨o, e, _⟩ := h; .inl (.inr ⟨o, e⟩)
theorem FzT.mono {H H' : Hp} {a : Addr} {vs : List V} (s : Same H H') (h : FzT H a vs) : FzT H' a vs := let ⟨o, e, d⟩ := h; ⟨o, s _ _ e, d⟩
/-- what never changes wherever it stands -/
def imm : HO → Bool
  | .tup _ => true
  | .own _ => true
  | .frz _ (.tup _) => true
  | _ => false
inductive D where
  | v (x : V)
  | tup (ds : List D)
  | ctup (ds : List D)
  | ftup (ds : List D)
  | lst (ds : List D)
  | dK (kvs : List (Key × D))
  | dT (kvs : List (List Key × D))
  | ins (C : Addr) (fs : List (Str × D))
  | ob (φ : Hp → V → Prop)
  | ow (ψ : Addr → Hp → HO → Prop)
section
variable (K : PySem.W.Frag) (H : Hp)
mutual
def Dat : D → V → Prop
  | .v x, y => y = x
  | .tup ds, y => ∃ a vs, y = .ref a ∧ H a = some (.tup vs) ∧ DatL ds vs
  | .ctup ds, y => ∃ a vs, y = .ref a ∧ SqT K H a vs ∧ DatL ds vs
  | .ftup ds, y => ∃ a vs, y = .ref a ∧ FzT H a vs ∧ DatL ds vs
  | .lst ds, y => ∃ a vs, y = .ref a ∧ H a = some (.lst vs) ∧ DatL ds vs
  | .dK kvs, y => ∃ a vs, y = .ref a ∧ H a = some (.dK vs) ∧ DatK kvs vs
  | .dT kvs, y => ∃ a vs, y = .ref a ∧ H a = some (.dT vs) ∧ DatT kvs vs
  | .ins C fs, y => ∃ a dx vs, y = .ref a ∧ H a = some (.ins C dx vs) ∧ DatS fs vs
  | .ob φ, y => ∃ H0, Same H0 H ∧ φ H0 y
  | .ow ψ, y => ∃ a ho H0, y = .ref a ∧ H a = some ho ∧ imm ho = false ∧ Same H0 H ∧ ψ a H0 ho
def DatL : List D → List V → Prop
  | [], vs => vs = []
  | d :: ds, vs => ∃ v r, vs = v :: r ∧ Dat d v ∧ DatL ds r
def DatK : List (Key × D) → List (Key × V) → Prop
  | [], vs => vs = []
  | (k, d) :: ds, vs => ∃ v r, vs = (k, v) :: r ∧ Dat d v ∧ DatK ds r
def DatT : List (List Key × D) → List (List Key × V) → Prop
  | [], vs => vs = []
  | (k, d) :: ds, vs => ∃ v r, vs = (k, v) :: r ∧ Dat d v ∧ DatT ds r
def DatS : List (Str × D) → List (Str × V) → Prop
  | [], vs => vs = []
  | (k, d) :: ds, vs => ∃ v r, vs = (k, v) :: r ∧ Dat d v ∧ DatS ds r
end
/-- what stands at the address of a list, a dict that is one's own -/
def Rep (p : Addr) : D → HO → Prop
  | .lst ds, ho => ∃ vs, ho = .lst vs ∧ DatL K H ds vs
  | .dK kvs, ho => ∃ vs, ho = .dK vs ∧ DatK K H kvs vs
  | .dT kvs, ho => ∃ vs, ho = .dT vs ∧ DatT K H kvs vs
  | .ins C fs, ho => ∃ dx vs, ho = .ins C dx vs ∧ DatS K H fs vs
  | .ow ψ, ho => imm ho = false ∧ ∃ H0, Same H0 H ∧ ψ p H0 ho
  | _, _ => False
/-- pairs: the keys as they are -/
abbrev PK {κ : Type} (kvs : List (κ × D)) (vs : List (κ × V)) : Prop := Paired (fun p q => p.1 = q.1 ∧ Dat K H p.2 q.2) kvs vs
end
theorem same_seqT {K : PySem.W.Frag} {H H' : Hp} {a : Addr} {xs : List V} (e : Same H H') (h : SqT K H a xs) : SqT K H' a xs := by
  rcases h with (h | ⟨o, h⟩) | h
  · exact .inl (.inl (e _ _ h))
  · exact .inl (.inr ⟨o, e _ _ h⟩)
  · exact .inr h
section
variable {K : PySem.W.Frag} {H H' : Hp}
mutual
theorem Dat.mono (s : Same H H') : ∀ {d : D} {v : V}, Dat K H d v → Dat K H' d v
  | .v _, _, h => h
  | .tup _, _, ⟨a, vs, e, h, l⟩ => ⟨a, vs, e, s _ _ h, DatL.mono s l⟩
  | .ctup _, _, ⟨a, vs, e, h, l⟩ => ⟨a, vs, e, same_seqT s h, DatL.mono s l⟩
  | .ftup _, _, ⟨a, vs, e, h, l⟩ => ⟨a, vs, e, h.mono s, DatL.mono s l⟩
  | .lst _, _, ⟨a, vs, e, h, l⟩ => ⟨a, vs, e, s _ _ h, DatL.mono s l⟩
  | .dK _, _, ⟨a, vs, e, h, l⟩ => ⟨a, vs, e, s _ _ h, DatK.mono s l⟩
  | .dT _, _, ⟨a, vs, e, h, l⟩ => ⟨a, vs, e, s _ _ h, DatT.mono s l⟩
  | .ins _ _, _, ⟨a, dx, vs, e, h, l⟩ => ⟨a, dx, vs, e, s _ _ h, DatS.mono s l⟩
  | .ob _, _, ⟨H0, e, h⟩ => ⟨H0, e.trans s, h⟩
  | .ow _, _, ⟨a, ho, H0, e, h, i, e', q⟩ => ⟨a, ho, H0, e, s _ _ h, i, e'.trans s, q⟩
theorem DatL.mono (s : Same H H') : ∀ {ds : List D} {vs : List V}, DatL K H ds vs → DatL K H' ds vs
  | [], _, h => h
  | _ :: _, _, ⟨v, r, e, h, t⟩ => ⟨v, r, e, Dat.mono s h, DatL.mono s t⟩
theorem DatK.mono (s : Same H H') : ∀ {ds : List (Key × D)} {vs : List (Key × V)}, DatK K H ds vs → DatK K H' ds vs
  | [], _, h => h
  | (_, _) :: _, _, ⟨v, r, e, h, t⟩ => ⟨v, r, e, Dat.mono s h, DatK.mono s t⟩
theorem DatT.mono (s : Same H H') : ∀ {ds : List (List Key × D)} {vs : List (List Key × V)}, DatT K H ds vs → DatT K H' ds vs
  | [], _, h => h
  | (_, _) :: _, _, ⟨v, r, e, h, t⟩ => ⟨v, r, e, Dat.mono s h, DatT.mono s t⟩
theorem DatS.mono (s : Same H H') : ∀ {ds : List (Str × D)} {vs : List (Str × V)}, DatS K H ds vs → DatS K H' ds vs
  | [], _, h => h
  | (_, _) :: _, _, ⟨v, r, e, h, t⟩ => ⟨v, r, e, Dat.mono s h, DatS.mono s t⟩
end
theorem datK_pk : ∀ {ds : List (Key × D)} {vs : List (Key × V)}, DatK K H ds vs ↔ PK K H ds vs
  | [], _ => ⟨fun h => by rw [show _ = [] from h]; exact .nil, fun h => by cases h; rfl⟩
  | (_, _) :: _, _ => ⟨fun ⟨v, r, e, h, t⟩ => by rw [e]; exact .cons ⟨rfl, h⟩ (datK_pk.mp t), fun h => by
    cases h with
    | @cons _ q _ _ h t =>
      obtain ⟨q1, q2⟩ := q
      cases (show _ = q1 from h.1)
      exact ⟨_, _, rfl, h.2, datK_pk.mpr t⟩⟩
theorem datT_pk : ∀ {ds : List (List Key × D)} {vs : List (List Key × V)}, DatT K H ds vs ↔ PK K H ds vs
  | [], _ => ⟨fun h => by rw [show _ = [] from h]; exact .nil, fun h => by cases h; rfl⟩
  | (_, _) :: _, _ => ⟨fun ⟨v, r, e, h, t⟩ => by rw [e]; exact .cons ⟨rfl, h⟩ (datT_pk.mp t), fun h => by
    cases h with
    | @cons _ q _ _ h t =>
      obtain ⟨q1, q2⟩ := q
      cases (show _ = q1 from h.1)
      exact ⟨_, _, rfl, h.2, datT_pk.mpr t⟩⟩
theorem datS_pk : ∀ {ds : List (Str × D)} {vs : List (Str × V)}, DatS K H ds vs ↔ PK K H ds vs
  | [], _ => ⟨fun h => by rw [show _ = [] from h]; exact .nil, fun h => by cases h; rfl⟩
  | (_, _) :: _, _ => ⟨fun ⟨v, r, e, h, t⟩ => by rw [e]; exact .cons ⟨rfl, h⟩ (datS_pk.mp t), fun h => by
    cases h with
    | @cons _ q _ _ h t =>
      obtain ⟨q1, q2⟩ := q
      cases (show _ = q1 from h.1)
      exact ⟨_, _, rfl, h.2, datS_pk.mpr t⟩⟩
theorem Rep.mono {p : Addr} (s : Same H H') : ∀ {d : D} {ho : HO}, Rep K H p d ho → Rep K H' p d ho
  | .ow _, _, ⟨i, H0, e, q⟩ => ⟨i, H0, e.trans s, q⟩
  | .lst _, _, ⟨vs, e, l⟩ => ⟨vs, e, l.mono s⟩
  | .dK _, _, ⟨vs, e, l⟩ => ⟨vs, e, l.mono s⟩
  | .dT _, _, ⟨vs, e, l⟩ => ⟨vs, e, l.mono s⟩
  | .ins _ _, _, ⟨dx, vs, e, l⟩ => ⟨dx, vs, e, l.mono s⟩
theorem Rep.dat {p : Addr} : ∀ {d : D} {ho : HO}, Rep K H p d ho → H p = some ho → Dat K H d (.ref p)
  | .ow _, ho, ⟨i, H0, e, q⟩, h => ⟨p, ho, H0, rfl, h, i, e, q⟩
  | .lst _, _, ⟨vs, e, l⟩, h => ⟨p, vs, rfl, by rw [← e]; exact h, l⟩
  | .dK _, _, ⟨vs, e, l⟩, h => ⟨p, vs, rfl, by rw [← e]; exact h, l⟩
  | .dT _, _, ⟨vs, e, l⟩, h => ⟨p, vs, rfl, by rw [← e]; exact h, l⟩
  | .ins _ _, _, ⟨dx, vs, e, l⟩, h => ⟨p, dx, vs, rfl, by rw [← e]; exact h, l⟩
theorem DatL.len : ∀ {ds : List D} {vs : List V}, DatL K H ds vs → vs.length = ds.length
  | [], _, h => by rw [show _ = [] from h]; rfl
  | _ :: _, _, ⟨v, r, e, _, t⟩ => by rw [e, List.length_cons, List.length_cons, t.len]
theorem DatL.nil : DatL K H [] [] := rfl
theorem DatL.cons {d : D} {ds : List D} {v : V} {vs : List V} (h : Dat K H d v) (t : DatL K H ds vs) : DatL K H (d :: ds) (v :: vs) := ⟨v, vs, rfl, h, t⟩
theorem DatL.app : ∀ {ds es : List D} {vs ws : List V}, DatL K H ds vs → DatL K H es ws → DatL K H (ds ++ es) (vs ++ ws)
  | [], _, _, _, h, t => by rw [show _ = [] from h]; exact t
  | _ :: _, _, _, _, ⟨v, r, e, h, t⟩, u => by rw [e]; exact ⟨v, _, rfl, h, t.app u⟩
theorem DatL.get : ∀ {ds : List D} {vs : List V} {i : Nat} {d : D}, DatL K H ds vs → ds[i]? = some d → ∃ v, vs[i]? = some v ∧ Dat K H d v
  | [], _, _, _, _, h => by simp at h
  | _ :: _, _, 0, _, ⟨v, r, e, h, _⟩, q => by rw [e]; exact ⟨v, rfl, by rw [← Option.some.inj q]; exact h⟩
  | _ :: _, _, i + 1, _, ⟨v, r, e, _, t⟩, q => by rw [e]; exact t.get (i := i) q
theorem DatL.getR : ∀ {ds : List D} {vs : List V} {i : Nat} {v : V}, DatL K H ds vs → vs[i]? = some v → ∃ d, ds[i]? = some d ∧ Dat K H d v
  | [], _, _, _, h, q => by rw [show _ = [] from h] at q; simp at q
  | d :: _, _, 0, _, ⟨v, r, e, h, _⟩, q => by rw [e] at q; exact ⟨d, rfl, by rw [← Option.some.inj q]; exact h⟩
  | _ :: _, _, i + 1, _, ⟨v, r, e, _, t⟩, q => by rw [e] at q; exact t.getR (i := i) q
theorem DatL.set : ∀ {ds : List D} {vs : List V} {i : Nat} {d : D} {v : V}, DatL K H ds vs → Dat K H d v → DatL K H (ds.set i d) (vs.set i v)
  | [], _, _, _, _, h, _ => by rw [show _ = [] from h]; rfl
  | _ :: _, _, 0, _, _, ⟨v, r, e, _, t⟩, q => by rw [e]; exact ⟨_, r, rfl, q, t⟩
  | _ :: _, _, i + 1, _, _, ⟨v, r, e, h, t⟩, q => by rw [e]; exact ⟨v, _, rfl, h, t.set q⟩
theorem DatL.drop : ∀ {ds : List D} {vs : List V} (n : Nat), DatL K H ds vs → DatL K H (ds.drop n) (vs.drop n)
  | _, _, 0, h => h
  | [], _, _ + 1, h => by rw [show _ = [] from h]; rfl
  | _ :: _, _, n + 1, ⟨v, r, e, _, t⟩ => by rw [e]; exact t.drop n
theorem DatL.take : ∀ {ds : List D} {vs : List V} (n : Nat), DatL K H ds vs → DatL K H (ds.take n) (vs.take n)
  | _, _, 0, _ => rfl
  | [], _, _ + 1, h => by rw [show _ = [] from h]; rfl
  | _ :: _, _, n + 1, ⟨v, r, e, h, t⟩ => by rw [e]; exact ⟨v, _, rfl, h, t.take n⟩
theorem DatL.rev {ds : List D} {vs : List V} (h : DatL K H ds vs) : DatL K H ds.reverse vs.reverse := by
  induction ds generalizing vs with
  | nil => rw [show vs = [] from h]; rfl
  | cons d ds ih =>
    obtain ⟨v, r, e, q, t⟩ := h
    rw [e, List.reverse_cons, List.reverse_cons]
    exact (ih t).app (.cons q .nil)
theorem DatL.mem : ∀ {ds : List D} {vs : List V} {v : V}, DatL K H ds vs → v ∈ vs → ∃ d ∈ ds, Dat K H d v := fun {ds vs v} h hv => by
  obtain ⟨i, hi⟩ := List.mem_iff_getElem?.mp hv
  obtain ⟨d, hd, q⟩ := h.getR hi
  exact ⟨d, List.mem_of_getElem? hd, q⟩
end
/-! ### the state as data -/
inductive Sl where
  | emp
  | val (d : D)
  | own (d : D)
structure AS where
  sl : List Sl
  n : Int
  sp : Option Addr
def AS.put (a : AS) (i : Nat) (s : Sl) : AS := ⟨a.sl.set i s, a.n, a.sp⟩
structure Bs (K : PySem.W.Frag) where
  sp : Option Addr
  H0 : Hp
  F0 : Hp
  self : Option Addr
/-- the heap without the source -/
def Hs (sp : Option Addr) (H : Hp) : Hp := fun b => if sp = some b then none else H b
theorem hs_some {sp : Option Addr} {H : Hp} {b : Addr} {o : HO} (h : Hs sp H b = some o) : H b = some o ∧ sp ≠ some b := by
  unfold Hs at h
  split at h
  · cases h
  · rename_i n
    exact ⟨h, n⟩
theorem hs_of {sp : Option Addr} {H : Hp} {b : Addr} {o : HO} (h : H b = some o) (n : sp ≠ some b) : Hs sp H b = some o := by
  unfold Hs
  rw [if_neg n]
  exact h
theorem hs_same {sp : Option Addr} {H : Hp} : Same (Hs sp H) H := fun _ _ h => (hs_some h).1
def ImmA (F : Hp) (b : Addr) : Prop := ∃ o, F b = some o ∧ imm o = true
theorem ImmA.mono {F F' : Hp} {b : Addr} (h : ImmA F b) (s : Same F F') : ImmA F' b := let ⟨o, e, i⟩ := h; ⟨o, s _ _ e, i⟩
theorem Rep.imm {K : PySem.W.Frag} {H : Hp} {p : Addr} : ∀ {d : D} {ho : HO}, Rep K H p d ho → Toy.imm ho = false
  | .ow _, _, ⟨i, _⟩ => i
  | .lst _, _, ⟨_, e, _⟩ => by rw [e]; rfl
  | .dK _, _, ⟨_, e, _⟩ => by rw [e]; rfl
  | .dT _, _, ⟨_, e, _⟩ => by rw [e]; rfl
  | .ins _ _, _, ⟨_, _, e, _⟩ => by rw [e]; rfl
/-- behind all: F what does not change, inside H -/
structure Fi {K : PySem.W.Frag} (B : Bs K) (F : Hp) (n : Int) (H : Hp) : Prop where
  fh : Same F H
  ff : Same B.F0 F
  fr : ∀ b, F b ≠ none → B.F0 b ≠ none ∨ B.H0 b = none ∨ ImmA F b
  fm : ∀ b o, B.H0 b = some o → B.sp ≠ some b → H b = some o
  sr : ∀ p, B.sp = some p → F p = none ∧ B.H0 p ≠ none ∧ Src H p n
structure Ok {K : PySem.W.Frag} (B : Bs K) (F : Hp) (a : AS) (σ : St) (H : Hp) : Prop where
  fi : Fi B F a.n H
  es : a.sp = B.sp
  len : σ.length = a.sl.length
  va : ∀ (i : Nat) (d : D), a.sl[i]? = some (Sl.val d) → ∃ v, σ[i]? = some (some v) ∧ Dat K F d v
  ow : ∀ (i : Nat) (d : D), a.sl[i]? = some (Sl.own d) → ∃ p ho, σ[i]? = some (some (V.ref p)) ∧ H p = some ho ∧ F p = none ∧ B.H0 p = none ∧ Rep K F p d ho
  ds : ∀ (i j : Nat) (p : Addr) (d e : D), a.sl[i]? = some (Sl.own d) → a.sl[j]? = some (Sl.own e) → σ[i]? = some (some (V.ref p)) → σ[j]? = some (some (V.ref p)) → i = j
  fx : ∀ x, B.self = some x → σ[0]? = some (some (V.ref x))
/-- an exception's fields, off its own dict -/
def XRep (K : PySem.W.Frag) (F : Hp) (dd : Option Addr) (fs : List (Str × D)) : Prop := (dd = none ∧ fs = []) ∨ ∃ d vs, dd = some d ∧ F d = some (.xd vs) ∧ PK K F fs vs
/-- what is wanted of what is raised: W as the text has it, dW over data (the class, the fields, the slots, how many numbers are drawn) -/
structure Wp where
  W : Value → Option Addr → St → Hp → Prop
  dW : Addr → List (Str × D) → List Sl → Int → Prop
  bq : Hp → Prop
  sf : Bool
def WOk {K : PySem.W.Frag} (B : Bs K) (ω : Wp) : Prop := ω.bq B.F0 ∧ (ω.sf = false → B.self = none) ∧ ∀ (F : Hp) (a : AS) (σ : St) (H : Hp) (C : Addr) (dd : Option Addr) (fs : List (Str × D)), Ok B F a σ H → XRep K F dd fs → ω.dW C fs a.sl a.n → ω.W (.ref C) dd σ H
def OwnAt (a : AS) (σ : St) (b : Addr) : Prop := ∃ (i : Nat) (d : D), a.sl[i]? = some (Sl.own d) ∧ σ[i]? = some (some (V.ref b))
/-- an expression's way -/
structure Go {K : PySem.W.Frag} (B : Bs K) (σ : St) (F : Hp) (a : AS) (H : Hp) (F' : Hp) (a' : AS) (H' : Hp) : Prop where
  ok : Ok B F' a' σ H'
  ff : Same F F'
  hh : ∀ b o, B.sp ≠ some b → H b = some o → H' b = some o
  fr : ∀ b, F' b ≠ none → F b ≠ none ∨ H b = none ∨ OwnAt a σ b ∨ ImmA F' b
  oo : ∀ b, OwnAt a' σ b → OwnAt a σ b
section
variable {K : PySem.W.Frag} {B : Bs K} {F F' F1 F2 : Hp} {a a' a1 a2 : AS} {σ : St} {H H' H1 H2 : Hp} {n : Int}
theorem Fi.fs (f : Fi B F n H) : Same F (Hs B.sp H) := fun b o h => hs_of (f.fh b o h) fun e => by
  rw [(f.sr b e).1] at h
  cases h
theorem Go.refl (ok : Ok B F a σ H) : Go B σ F a H F a H := ⟨ok, Same.refl F, fun _ _ _ h => h, fun _ h => .inl h, fun _ h => h⟩
theorem Go.trans (ok : Ok B F a σ H) (g : Go B σ F a H F1 a1 H1) (g' : Go B σ F1 a1 H1 F2 a2 H2) : Go B σ F a H F2 a2 H2 where
  ok := g'.ok
  ff := g.ff.trans g'.ff
  hh := fun b o n h => g'.hh b o n (g.hh b o n h)
  fr := fun b h => by
    rcases g'.fr b h with q | q | q
    · exact (g.fr b q).imp id fun q => q.imp id fun q => q.imp id fun q => q.mono g'.ff
    · refine .inr (.inl ?_)
      cases e : H b with
      | none => rfl
      | some o =>
        by_cases z : B.sp = some b
        · exact absurd (g'.ok.fi.sr b z).1 h
        · rw [g.hh b o z e] at q
          cases q
    · exact .inr (.inr (q.imp (g.oo b) id))
  oo := fun b h => g.oo b (g'.oo b h)
theorem Go.bs (g : Go B σ F a H F' a' H') : Same (Hs B.sp H) (Hs B.sp H') := fun b o h => hs_of (g.hh b o (hs_some h).2 (hs_some h).1) (hs_some h).2
theorem Ok.here (ok : Ok B F a σ H) {p : Addr} (h : H p = none) : F p = none ∧ B.H0 p = none ∧ B.sp ≠ some p ∧ ¬ OwnAt a σ p := by
  have hs : B.sp ≠ some p := fun e => by
    obtain ⟨_, _, g, s, c, q, _⟩ := ok.fi.sr p e
    rw [h] at q
    cases q
  refine ⟨?_, ?_, hs, ?_⟩
  · cases e : F p with
    | none => rfl
    | some o => rw [ok.fi.fh p o e] at h; cases h
  · cases e : B.H0 p with
    | none => rfl
    | some o => rw [ok.fi.fm p o e hs] at h; cases h
  · rintro ⟨i, d, h1, h2⟩
    obtain ⟨q, ho, e, hq, _⟩ := ok.ow i d h1
    rw [e] at h2
    cases h2
    rw [h] at hq
    cases hq
/-- a new object that does not change any more -/
theorem Ok.new (ok : Ok B F a σ H) {p : Addr} {o : HO} (h : H p = none) : Go B σ F a H (upd F p o) a (upd H p o) := by
  obtain ⟨hF, h0, hs, ho⟩ := ok.here h
  have s1 : Same F (upd F p o) := Same.new hF
  have s2 : Same H (upd H p o) := Same.new h
  refine ⟨⟨⟨fun b u e => ?_, ok.fi.ff.trans s1, fun b e => ?_, fun b u e n => s2 _ _ (ok.fi.fm b u e n), fun q e => ?_⟩, ok.es, ok.len, fun i d e => ?_, fun i d e => ?_, ok.ds, ok.fx⟩, s1, fun b u _ e => s2 _ _ e, fun b e => ?_, fun _ h => h⟩
  · by_cases z : b = p
    · subst z
      rw [upd_same] at e ⊢
      exact e
    · rw [upd_ne z] at e ⊢
      exact ok.fi.fh _ _ e
  · by_cases z : b = p
    · exact .inr (.inl (z ▸ h0))
    · rw [upd_ne z] at e
      exact (ok.fi.fr b e).imp id fun q => q.imp id fun q => q.mono s1
  · obtain ⟨x1, x2, x3⟩ := ok.fi.sr q e
    have z : q ≠ p := fun z => hs (z ▸ e)
    exact ⟨by rw [upd_ne z]; exact x1, x2, x3.same s2⟩
  · obtain ⟨v, e1, e2⟩ := ok.va i d e
    exact ⟨v, e1, e2.mono s1⟩
  · obtain ⟨q, ho', e1, e2, e3, e4, e5⟩ := ok.ow i d e
    have z : q ≠ p := ne_of_none e2 h
    exact ⟨q, ho', e1, s2 _ _ e2, by rw [upd_ne z]; exact e3, e4, e5.mono s1⟩
  · by_cases z : b = p
    · exact .inr (.inl (z ▸ h))
    · rw [upd_ne z] at e
      exact .inl e
/-- a new object of one's own -/
theorem Ok.newO (ok : Ok B F a σ H) {p : Addr} {o : HO} (h : H p = none) : Go B σ F a H F a (upd H p o) := by
  obtain ⟨hF, h0, hs, ho⟩ := ok.here h
  have s2 : Same H (upd H p o) := Same.new h
  refine ⟨⟨⟨ok.fi.fh.trans s2, ok.fi.ff, ok.fi.fr, fun b u e n => s2 _ _ (ok.fi.fm b u e n), fun q e => ?_⟩, ok.es, ok.len, ok.va, fun i d e => ?_, ok.ds, ok.fx⟩, Same.refl F, fun b u _ e => s2 _ _ e, fun b e => .inl e, fun _ h => h⟩
  · obtain ⟨x1, x2, x3⟩ := ok.fi.sr q e
    exact ⟨x1, x2, x3.same s2⟩
  · obtain ⟨q, ho', e1, e2, e3, e4, e5⟩ := ok.ow i d e
    exact ⟨q, ho', e1, s2 _ _ e2, e3, e4, e5⟩
/-- what is F may grow by what stands there and is nobody's -/
theorem Ok.frz (ok : Ok B F a σ H) {p : Addr} {o : HO} (h : H p = some o) (hF : F p = none) (h0 : B.H0 p = none) (hs : B.sp ≠ some p) (no : ¬ OwnAt a σ p) : Ok B (upd F p o) a σ H := by
  have s1 : Same F (upd F p o) := Same.new hF
  refine ⟨⟨fun b u e => ?_, ok.fi.ff.trans s1, fun b e => ?_, ok.fi.fm, fun q e => ?_⟩, ok.es, ok.len, fun i d e => ?_, fun i d e => ?_, ok.ds, ok.fx⟩
  · by_cases z : b = p
    · subst z
      rw [upd_same] at e
      rw [h]
      exact e
    · rw [upd_ne z] at e
      exact ok.fi.fh _ _ e
  · by_cases z : b = p
    · exact .inr (.inl (z ▸ h0))
    · rw [upd_ne z] at e
      exact (ok.fi.fr b e).imp id fun q => q.imp id fun q => q.mono s1
  · obtain ⟨x1, x2, x3⟩ := ok.fi.sr q e
    have z : q ≠ p := fun z => hs (z ▸ e)
    exact ⟨by rw [upd_ne z]; exact x1, x2, x3⟩
  · obtain ⟨v, e1, e2⟩ := ok.va i d e
    exact ⟨v, e1, e2.mono s1⟩
  · obtain ⟨q, ho', e1, e2, e3, e4, e5⟩ := ok.ow i d e
    have z : q ≠ p := fun z => no ⟨i, d, e, by rw [← z]; exact e1⟩
    exact ⟨q, ho', e1, e2, by rw [upd_ne z]; exact e3, e4, e5.mono s1⟩
/-- a slot is forgotten, or said otherwise -/
theorem set_get {α : Type} {l : List α} {i j : Nat} {x y : α} (h : (l.set i x)[j]? = some y) : (j = i ∧ y = x ∧ i < l.length) ∨ (j ≠ i ∧ l[j]? = some y) := by
  by_cases z : j = i
  · subst z
    have hl : j < l.length := by
      have := (List.getElem?_eq_some_iff.mp h).1
      rw [List.length_set] at this
      exact this
    rw [List.getElem?_set_self hl] at h
    exact .inl ⟨rfl, (Option.some.inj h).symm, hl⟩
  · rw [List.getElem?_set_ne (Ne.symm z)] at h
    exact .inr ⟨z, h⟩
theorem set_fx {i : Nat} {o : Option V} (hi : i = 0 → B.self = none) (h : ∀ x, B.self = some x → σ[0]? = some (some (V.ref x))) : ∀ x, B.self = some x → (σ.set i o)[0]? = some (some (V.ref x)) := fun x e => by
  rw [List.getElem?_set_ne (fun z => by rw [hi z] at e; cases e)]
  exact h x e
theorem Ok.setV (ok : Ok B F a σ H) {i : Nat} {d : D} {v : V} (hi : i = 0 → B.self = none) (h : Dat K F d v) : Ok B F (a.put i (Sl.val d)) (σ.set i (some v)) H := by
  refine ⟨ok.fi, ok.es, by show (σ.set i _).length = (a.sl.set i _).length; rw [List.length_set, List.length_set, ok.len], fun j e q => ?_, fun j e q => ?_, fun j k p e f q1 q2 q3 q4 => ?_, set_fx hi ok.fx⟩
  · rcases set_get q with ⟨rfl, z, hl⟩ | ⟨n, q⟩
    · cases z
      exact ⟨v, List.getElem?_set_self (by rw [ok.len]; exact hl), h⟩
    · obtain ⟨u, e1, e2⟩ := ok.va j e q
      exact ⟨u, by rw [List.getElem?_set_ne (Ne.symm n)]; exact e1, e2⟩
  · rcases set_get q with ⟨rfl, z, hl⟩ | ⟨n, q⟩
    · cases z
    · obtain ⟨u, ho, e1, e2⟩ := ok.ow j e q
      exact ⟨u, ho, by rw [List.getElem?_set_ne (Ne.symm n)]; exact e1, e2⟩
  · rcases set_get q1 with ⟨rfl, z, hl⟩ | ⟨n1, q1⟩
    · cases z
    rcases set_get q2 with ⟨rfl, z, hl⟩ | ⟨n2, q2⟩
    · cases z
    rw [List.getElem?_set_ne (Ne.symm n1)] at q3
    rw [List.getElem?_set_ne (Ne.symm n2)] at q4
    exact ok.ds j k p e f q1 q2 q3 q4
theorem Ok.setO (ok : Ok B F a σ H) {i : Nat} {d : D} {p : Addr} {o : HO} (hi : i = 0 → B.self = none) (h : H p = some o) (hF : F p = none) (h0 : B.H0 p = none) (no : ¬ OwnAt a σ p) (r : Rep K F p d o) : Ok B F (a.put i (Sl.own d)) (σ.set i (some (.ref p))) H := by
  refine ⟨ok.fi, ok.es, by show (σ.set i _).length = (a.sl.set i _).length; rw [List.length_set, List.length_set, ok.len], fun j e q => ?_, fun j e q => ?_, fun j k p' e f q1 q2 q3 q4 => ?_, set_fx hi ok.fx⟩
  · rcases set_get q with ⟨rfl, z, hl⟩ | ⟨n, q⟩
    · cases z
    · obtain ⟨u, e1, e2⟩ := ok.va j e q
      exact ⟨u, by rw [List.getElem?_set_ne (Ne.symm n)]; exact e1, e2⟩
  · rcases set_get q with ⟨rfl, z, hl⟩ | ⟨n, q⟩
    · cases z
      exact ⟨p, o, List.getElem?_set_self (by rw [ok.len]; exact hl), h, hF, h0, r⟩
    · obtain ⟨u, ho, e1, e2⟩ := ok.ow j e q
      exact ⟨u, ho, by rw [List.getElem?_set_ne (Ne.symm n)]; exact e1, e2⟩
  · rcases set_get q1 with ⟨rfl, z, hl⟩ | ⟨n1, q1'⟩
    · rcases set_get q2 with ⟨rfl, z2, hl2⟩ | ⟨n2, q2⟩
      · rfl
      · rw [List.getElem?_set_self (by rw [ok.len]; exact hl)] at q3
        cases q3
        rw [List.getElem?_set_ne (Ne.symm n2)] at q4
        exact absurd ⟨k, f, q2, q4⟩ no
    · rcases set_get q2 with ⟨w, z2, hl2⟩ | ⟨n2, q2'⟩
      · subst w
        rw [List.getElem?_set_self (by rw [ok.len]; exact hl2)] at q4
        cases q4
        rw [List.getElem?_set_ne (Ne.symm n1)] at q3
        exact absurd ⟨j, e, q1', q3⟩ no
      · rw [List.getElem?_set_ne (Ne.symm n1)] at q3
        rw [List.getElem?_set_ne (Ne.symm n2)] at q4
        exact ok.ds j k p' e f q1' q2' q3 q4
/-- what one's own slot holds is changed -/
theorem Ok.chg (ok : Ok B F a σ H) {i : Nat} {d e : D} {p : Addr} {o : HO} (hi : a.sl[i]? = some (Sl.own d)) (hp : σ[i]? = some (some (V.ref p))) (r : Rep K F p e o) : Ok B F (a.put i (Sl.own e)) σ (upd H p o) := by
  obtain ⟨q, ho, e1, e2, e3, e4, e5⟩ := ok.ow i d hi
  rw [hp] at e1
  cases e1
  have hl : i < a.sl.length := (List.getElem?_eq_some_iff.mp hi).1
  have nF : ∀ b u, F b = some u → b ≠ p := fun b u h z => by rw [z, e3] at h; cases h
  refine ⟨⟨fun b u h => by rw [upd_ne (nF b u h)]; exact ok.fi.fh b u h, ok.fi.ff, ok.fi.fr, fun b u h n => ?_, fun b h => ?_⟩, ok.es, by show σ.length = (a.sl.set i _).length; rw [List.length_set, ok.len], fun j f q => ?_, fun j f q => ?_, fun j k p' f g q1 q2 q3 q4 => ?_, ok.fx⟩
  · rw [upd_ne (fun z => by rw [z, e4] at h; cases h)]
    exact ok.fi.fm b u h n
  · obtain ⟨x1, x2, x3⟩ := ok.fi.sr b h
    have z : b ≠ p := fun z => x2 (z ▸ e4)
    exact ⟨x1, x2, x3.but ((But.refl p H).upd) z⟩
  · rcases set_get q with ⟨rfl, z, hl⟩ | ⟨n, q⟩
    · cases z
    · exact ok.va j f q
  · rcases set_get q with ⟨rfl, z, hl⟩ | ⟨n, q⟩
    · cases z
      exact ⟨p, o, hp, upd_same, e3, e4, r⟩
    · obtain ⟨u, ho', f1, f2, f3, f4, f5⟩ := ok.ow j f q
      have z : u ≠ p := fun z => n (ok.ds j i p f d q hi (z ▸ f1) hp)
      exact ⟨u, ho', f1, by rw [upd_ne z]; exact f2, f3, f4, f5⟩
  · have o1 : ∃ f, a.sl[j]? = some (Sl.own f) := by
      rcases set_get q1 with ⟨rfl, z, _⟩ | ⟨_, q⟩
      · exact ⟨_, hi⟩
      · exact ⟨_, q⟩
    have o2 : ∃ f, a.sl[k]? = some (Sl.own f) := by
      rcases set_get q2 with ⟨rfl, z, _⟩ | ⟨_, q⟩
      · exact ⟨_, hi⟩
      · exact ⟨_, q⟩
    obtain ⟨f1, o1⟩ := o1
    obtain ⟨f2, o2⟩ := o2
    exact ok.ds j k p' f1 f2 o1 o2 q3 q4
/-- one's own becomes what does not change any more -/
theorem Ok.own (ok : Ok B F a σ H) {i : Nat} {d : D} (hi : a.sl[i]? = some (Sl.own d)) : ∃ p o, σ[i]? = some (some (V.ref p)) ∧ H p = some o ∧ Rep K F p d o ∧ Go B σ F a H (upd F p o) (a.put i (Sl.val d)) H := by
  obtain ⟨p, o, e1, e2, e3, e4, e5⟩ := ok.ow i d hi
  have hl : i < a.sl.length := (List.getElem?_eq_some_iff.mp hi).1
  have s1 : Same F (upd F p o) := Same.new e3
  have hs : B.sp ≠ some p := fun z => (ok.fi.sr p z).2.1 e4
  have nO : ¬ OwnAt (a.put i (Sl.val d)) σ p := by
    rintro ⟨j, f, q1, q2⟩
    rcases set_get q1 with ⟨rfl, z, _⟩ | ⟨n, q1⟩
    · cases z
    · exact n (ok.ds j i p f d q1 hi q2 e1)
  have w : ∀ b, OwnAt (a.put i (Sl.val d)) σ b → OwnAt a σ b := by
    rintro b ⟨j, f, q1, q2⟩
    rcases set_get q1 with ⟨rfl, z, _⟩ | ⟨n, q1⟩
    · cases z
    · exact ⟨j, f, q1, q2⟩
  refine ⟨p, o, e1, e2, e5, ⟨⟨fun b u e => ?_, ok.fi.ff.trans s1, fun b e => ?_, ok.fi.fm, fun q e => ?_⟩, ok.es, by show σ.length = (a.sl.set i _).length; rw [List.length_set, ok.len], fun j f q => ?_, fun j f q => ?_, fun j k p' f g q1 q2 q3 q4 => ?_, ok.fx⟩, s1, fun b u _ e => e, fun b e => ?_, w⟩
  · by_cases z : b = p
    · subst z
      rw [upd_same] at e
      rw [e2]
      exact e
    · rw [upd_ne z] at e
      exact ok.fi.fh _ _ e
  · by_cases z : b = p
    · exact .inr (.inl (z ▸ e4))
    · rw [upd_ne z] at e
      exact (ok.fi.fr b e).imp id fun q => q.imp id fun q => q.mono s1
  · obtain ⟨x1, x2, x3⟩ := ok.fi.sr q e
    have z : q ≠ p := fun z => hs (z ▸ e)
    exact ⟨by rw [upd_ne z]; exact x1, x2, x3⟩
  · rcases set_get q with ⟨rfl, z, _⟩ | ⟨n, q⟩
    · cases z
      exact ⟨_, e1, (e5.mono s1).dat upd_same⟩
    · obtain ⟨u, f1, f2⟩ := ok.va j f q
      exact ⟨u, f1, f2.mono s1⟩
  · rcases set_get q with ⟨rfl, z, _⟩ | ⟨n, q⟩
    · cases z
    · obtain ⟨u, ho', f1, f2, f3, f4, f5⟩ := ok.ow j f q
      have z : u ≠ p := fun z => n (ok.ds j i p f d q hi (z ▸ f1) e1)
      exact ⟨u, ho', f1, f2, by rw [upd_ne z]; exact f3, f4, f5.mono s1⟩
  · rcases set_get q1 with ⟨rfl, z, _⟩ | ⟨n1, q1⟩
    · cases z
    rcases set_get q2 with ⟨rfl, z, _⟩ | ⟨n2, q2⟩
    · cases z
    exact ok.ds j k p' f g q1 q2 q3 q4
  · by_cases z : b = p
    · exact .inr (.inr (.inl ⟨i, d, hi, by rw [z]; exact e1⟩))
    · rw [upd_ne z] at e
      exact .inl e
end
/-! ### readings over data -/
abbrev DEt := AS → (D → AS → Prop) → Prop
abbrev DTt := AS → (Bool → AS → Prop) → Prop
abbrev DAt := AS → (List D → AS → Prop) → Prop
/-- borrowed: what H tells; LE: what stays; LO: a new object of one's own -/
def LB (K : PySem.W.Frag) (ω : Wp) (te : TE) (de : DEt) : Prop := ∀ (B : Bs K), WOk B ω → ∀ (F : Hp) (a : AS) (σ : St) (H : Hp) (Q : VK) (R : D → AS → Prop), Ok B F a σ H → de a R →
  (∀ v d F' a' H', Go B σ F a H F' a' H' → Dat K (Hs B.sp H') d v → R d a' → Q v H') → te σ H Q
def LE (K : PySem.W.Frag) (ω : Wp) (te : TE) (de : DEt) : Prop := ∀ (B : Bs K), WOk B ω → ∀ (F : Hp) (a : AS) (σ : St) (H : Hp) (Q : VK) (R : D → AS → Prop), Ok B F a σ H → de a R →
  (∀ v d F' a' H', Go B σ F a H F' a' H' → Dat K F' d v → R d a' → Q v H') → te σ H Q
def LO (K : PySem.W.Frag) (ω : Wp) (te : TE) (de : DEt) : Prop := ∀ (B : Bs K), WOk B ω → ∀ (F : Hp) (a : AS) (σ : St) (H : Hp) (Q : VK) (R : D → AS → Prop), Ok B F a σ H → de a R →
  (∀ p o d F' a' H', Go B σ F a H F' a' H' → H p = none → F' p = none → H' p = some o → Rep K F' p d o → R d a' → Q (.ref p) H') → te σ H Q
def LC (K : PySem.W.Frag) (ω : Wp) (t : TT) (dt : DTt) : Prop := ∀ (B : Bs K), WOk B ω → ∀ (F : Hp) (a : AS) (σ : St) (H : Hp) (Q : Bool → Hp → Prop) (R : Bool → AS → Prop), Ok B F a σ H → dt a R →
  (∀ b F' a' H', Go B σ F a H F' a' H' → R b a' → Q b H') → t σ H Q
def LAE (K : PySem.W.Frag) (ω : Wp) (t : TA) (da : DAt) : Prop := ∀ (B : Bs K), WOk B ω → ∀ (F : Hp) (a : AS) (σ : St) (H : Hp) (Q : List V → Hp → Prop) (R : List D → AS → Prop), Ok B F a σ H → da a R →
  (∀ vs ds F' a' H', Go B σ F a H F' a' H' → DatL K F' ds vs → R ds a' → Q vs H') → t σ H Q
def LAB (K : PySem.W.Frag) (ω : Wp) (t : TA) (da : DAt) : Prop := ∀ (B : Bs K), WOk B ω → ∀ (F : Hp) (a : AS) (σ : St) (H : Hp) (Q : List V → Hp → Prop) (R : List D → AS → Prop), Ok B F a σ H → da a R →
  (∀ vs ds F' a' H', Go B σ F a H F' a' H' → DatL K (Hs B.sp H') ds vs → R ds a' → Q vs H') → t σ H Q
def DB {ι : Type} (X : ι → Cx) (K : PySem.W.Frag) (ω : Wp) (e : Expr) (de : DEt) : Prop := ∃ te, (∀ j, PE (X j) e te) ∧ LB K ω te de
def DX {ι : Type} (X : ι → Cx) (K : PySem.W.Frag) (ω : Wp) (e : Expr) (de : DEt) : Prop := ∃ te, (∀ j, PE (X j) e te) ∧ LE K ω te de
def DO {ι : Type} (X : ι → Cx) (K : PySem.W.Frag) (ω : Wp) (e : Expr) (de : DEt) : Prop := ∃ te, (∀ j, PE (X j) e te) ∧ LO K ω te de
def DT {ι : Type} (X : ι → Cx) (K : PySem.W.Frag) (ω : Wp) (e : Expr) (dt : DTt) : Prop := ∃ t, (∀ j, PT (X j) e t) ∧ LC K ω t dt
def DW {ι : Type} (X : ι → Cx) (K : PySem.W.Frag) (ω : Wp) (e : Expr) (dt : DTt) : Prop := ∃ t, (∀ j, PW (X j) e t) ∧ LC K ω t dt
def DAE {ι : Type} (X : ι → Cx) (K : PySem.W.Frag) (ω : Wp) (es : List Expr) (da : DAt) : Prop := ∃ t, (∀ j, PA (X j) es t) ∧ LAE K ω t da
def DAB {ι : Type} (X : ι → Cx) (K : PySem.W.Frag) (ω : Wp) (es : List Expr) (da : DAt) : Prop := ∃ t, (∀ j, PA (X j) es t) ∧ LAB K ω t da
section
variable {K : PySem.W.Frag} {ω : Wp} {B : Bs K} {F F' F1 F2 : Hp} {a a' a1 a2 : AS} {σ : St} {H H' H1 H2 : Hp} {n : Int} {te : TE} {de : DEt}
theorem Go.fs (g : Go B σ F a H F' a' H') : Same F' (Hs B.sp H') := g.ok.fi.fs
theorem LE.b (h : LE K ω te de) : LB K ω te de := fun B hω F a σ H Q R ok hd k => h B hω F a σ H Q R ok hd fun v d F' a' H' g q r => k v d F' a' H' g (q.mono g.fs) r
theorem LO.e (h : LO K ω te de) : LE K ω te de := fun B hω F a σ H Q R ok hd k => h B hω F a σ H Q R ok hd fun p o d F' a' H' g n1 n2 e q r => by
  obtain ⟨hF, h0, hs, no⟩ := ok.here n1
  have s1 : Same F' (upd F' p o) := Same.new n2
  refine k _ d (upd F' p o) a' H' ⟨g.ok.frz e n2 h0 hs fun z => no (g.oo p z), g.ff.trans s1, g.hh, fun b z => ?_, g.oo⟩ ((q.mono s1).dat upd_same) r
  by_cases w : b = p
  · exact .inr (.inl (w ▸ n1))
  · rw [upd_ne w] at z
    exact (g.fr b z).imp id fun q => q.imp id fun q => q.imp id fun q => q.mono s1
def isV : D → Bool
  | .v _ => true
  | _ => false
/-- a flat value is never borrowed -/
def dFlat (de : DEt) : DEt := fun a R => de a fun d a' => isV d = true ∧ R d a'
theorem LB.flat (h : LB K ω te de) : LE K ω te (dFlat de) := fun B hω F a σ H Q R ok hd k => h B hω F a σ H Q _ ok hd fun v d F' a' H' g q r => by
  obtain ⟨hv, r⟩ := r
  refine k v d F' a' H' g ?_ r
  cases d with
  | v x => exact q
  | _ => cases hv
variable {ι : Type} {X : ι → Cx} {e e1 e2 : Expr} {es : List Expr} {da db dc : DEt} {pos : Pos}
theorem DX.b (h : DX X K ω e de) : DB X K ω e de := let ⟨t, p, l⟩ := h; ⟨t, p, l.b⟩
theorem DO.x (h : DO X K ω e de) : DX X K ω e de := let ⟨t, p, l⟩ := h; ⟨t, p, l.e⟩
/-! names -/
def AS.at (a : AS) (i : Nat) : Sl := a.sl.getD i .emp
theorem at_of' {a : AS} {i : Nat} {s : Sl} (h : a.at i = s) (n : s ≠ .emp) : a.sl[i]? = some s := by
  unfold AS.at at h
  rw [List.getD_eq_getElem?_getD] at h
  cases q : a.sl[i]? with
  | none => rw [q] at h; exact absurd h.symm n
  | some z => rw [q] at h; rw [← h]; rfl
def dVarB (i : Nat) : DEt := fun a R => match a.at i with
  | .val d => R d a
  | .own d => R d a
  | .emp => False
/-- a name's value from now on stays -/
def dVar (i : Nat) : DEt := fun a R => match a.at i with
  | .val d => R d a
  | .own d => R d (a.put i (.val d))
  | .emp => False
theorem lb_var {i : Nat} : LB K ω (tVar i) (dVarB i) := fun B hω F a σ H Q R ok hd k => by
  unfold dVarB at hd
  cases e : a.at i with
  | emp => rw [e] at hd; exact hd.elim
  | val d =>
    rw [e] at hd
    obtain ⟨v, h1, h2⟩ := ok.va i d (at_of' e (fun z => nomatch z))
    exact ⟨v, h1, k v d F a H (.refl ok) (h2.mono ok.fi.fs) hd⟩
  | own d =>
    rw [e] at hd
    obtain ⟨p, o, h1, h2, h3, h4, h5⟩ := ok.ow i d (at_of' e (fun z => nomatch z))
    refine ⟨_, h1, k _ d F a H (.refl ok) ((h5.mono ok.fi.fs).dat (hs_of h2 fun z => ?_)) hd⟩
    exact (ok.fi.sr p z).2.1 h4
theorem le_var {i : Nat} : LE K ω (tVar i) (dVar i) := fun B hω F a σ H Q R ok hd k => by
  unfold dVar at hd
  cases e : a.at i with
  | emp => rw [e] at hd; exact hd.elim
  | val d =>
    rw [e] at hd
    obtain ⟨v, h1, h2⟩ := ok.va i d (at_of' e (fun z => nomatch z))
    exact ⟨v, h1, k v d F a H (.refl ok) h2 hd⟩
  | own d =>
    rw [e] at hd
    obtain ⟨p, o, h1, h2, h3, g⟩ := ok.own (at_of' e (fun z => nomatch z))
    exact ⟨_, h1, k _ d _ _ H g ((h3.mono g.ff).dat upd_same) hd⟩
theorem dbv (i : Nat) {x : Str} {pos : Pos} (hN : ∀ j, (X j).N[i]? = some x := by intro _; rfl) (hv : ∀ j, Vis (X j).env.scope x := by first | exact fun _ => Or.inl rfl | exact fun _ => Or.inr (Or.inl rfl) | exact fun _ => Or.inr (Or.inr rfl)) (hd : (x == ("__debug__" : Str)) = false := by decide)
    (hcd : (x == ("__classdict__" : Str)) = false := by decide) : DB X K ω (.Name x pos) (dVarB i) := ⟨_, fun j => pe_var (hN j) (hv j) hd hcd, lb_var⟩
theorem dv (i : Nat) {x : Str} {pos : Pos} (hN : ∀ j, (X j).N[i]? = some x := by intro _; rfl) (hv : ∀ j, Vis (X j).env.scope x := by first | exact fun _ => Or.inl rfl | exact fun _ => Or.inr (Or.inl rfl) | exact fun _ => Or.inr (Or.inr rfl)) (hd : (x == ("__debug__" : Str)) = false := by decide)
    (hcd : (x == ("__classdict__" : Str)) = false := by decide) : DX X K ω (.Name x pos) (dVar i) := ⟨_, fun j => pe_var (hN j) (hv j) hd hcd, le_var⟩
/-! constants -/
def dC (x : V) : DEt := fun a R => R (.v x) a
theorem le_c {x : V} : LE K ω (tC x) (dC x) := fun B hω F a σ H Q R ok hd k => k x (.v x) F a H (.refl ok) rfl hd
theorem de_int {i j pos} : DX X K ω (.Constant (.int i) j pos) (dC (.int i)) := ⟨_, fun _ => pe_int, le_c⟩
theorem de_bl {b j pos} : DX X K ω (.Constant (.bool b) j pos) (dC (.bl b)) := ⟨_, fun _ => pe_bl, le_c⟩
theorem de_non {j pos} : DX X K ω (.Constant .none j pos) (dC .non) := ⟨_, fun _ => pe_non, le_c⟩
theorem de_str {x j pos} : DX X K ω (.Constant (.str x) j pos) (dC (.str x)) := ⟨_, fun _ => pe_str, le_c⟩
theorem de_glob {x : Str} {v : V} {u : Value} {pos : Pos} (hg : ∀ j, Gl (X j) x) (hm : ∀ j, (X j).mg x = some u) (r : RelV v u) (hd : (x == ("__debug__" : Str)) = false := by decide) : DX X K ω (.Name x pos) (dC v) := ⟨_, fun j => pe_glob (hg j) (hm j) r hd, le_c⟩
/-- a module's name that stands for data which never changes -/
theorem de_globT {x : Str} {c : Addr} {d : D} {pos : Pos} (hg : ∀ j, Gl (X j) x) (hm : ∀ j, (X j).mg x = some (.ref c)) (h : ∀ H, Dat K H d (.ref c)) (hd : (x == ("__debug__" : Str)) = false := by decide) : DX X K ω (.Name x pos) (fun a R => R d a) :=
  ⟨_, fun j => pe_glob (v := .ref c) (hg j) (hm j) rfl hd, fun B hω F a σ H Q R ok hd k => k _ d F a H (.refl ok) (h F) hd⟩
/-! operators -/
abbrev DR := D → D → (D → Prop) → Prop
def dOp (dr : DR) (da db : DEt) : DEt := fun a R => da a fun x a1 => db a1 fun y a2 => dr x y fun d => R d a2
/-- what comes out stays (it is flat, or part of what went in) -/
def LR (K : PySem.W.Frag) (ω : Wp) (r : R2) (dr : DR) : Prop := ∀ (B : Bs K), WOk B ω → ∀ (F : Hp) (a : AS) (σ : St) (H : Hp) (x y : V) (d e : D) (Q : VK) (R : D → Prop), Ok B F a σ H → Dat K (Hs B.sp H) d x → Dat K (Hs B.sp H) e y → dr d e R →
  (∀ v f F' H', Go B σ F a H F' a H' → Dat K F' f v → R f → Q v H') → r x y H Q
theorem lr_flat {r : R2} {dr : DR} (h : ∀ d e R, dr d e R → ∃ x y w, d = .v x ∧ e = .v y ∧ R (.v w) ∧ ∀ H Q, Q w H → r x y H Q) : LR K ω r dr := fun B hω F a σ H x y d e Q R ok hx hy hd k => by
  obtain ⟨x', y', w, rfl, rfl, hR, q⟩ := h d e R hd
  rw [show x = x' from hx, show y = y' from hy]
  exact q H Q (k w (.v w) F H (.refl ok) rfl hR)
def dI (C : Int → Int → Prop) (g : Int → Int → V) : DR := fun d e R => match d, e with
  | .v (.int i), .v (.int j) => C i j ∧ R (.v (g i j))
  | _, _ => False
def dI0 (g : Int → Int → V) : DR := fun d e R => match d, e with
  | .v (.int i), .v (.int j) => R (.v (g i j))
  | _, _ => False
theorem lr_I {C : Int → Int → Prop} {g : Int → Int → V} : LR K ω (rI C g) (dI C g) := lr_flat fun d e R h => by
  unfold dI at h
  split at h
  · rename_i i j
    exact ⟨_, _, _, rfl, rfl, h.2, fun H Q q => ⟨i, j, rfl, rfl, h.1, q⟩⟩
  · exact h.elim
theorem lr_I0 {g : Int → Int → V} : LR K ω (rI0 g) (dI0 g) := lr_flat fun d e R h => by
  unfold dI0 at h
  split at h
  · rename_i i j
    exact ⟨_, _, _, rfl, rfl, h, fun H Q q => ⟨i, j, rfl, rfl, q⟩⟩
  · exact h.elim
def DOpR {ι : Type} (X : ι → Cx) (K : PySem.W.Frag) (ω : Wp) (f : Value → Value → Sem Value) (dr : DR) : Prop := ∃ r, (∀ j, OpR (X j) f r) ∧ LR K ω r dr
theorem dop_add : DOpR X K ω (binaryOp .Add) (dI0 fun i j => .int (i + j)) := ⟨_, fun _ => op_add, lr_I0⟩
theorem dop_sub : DOpR X K ω (binaryOp .Sub) (dI0 fun i j => .int (i - j)) := ⟨_, fun _ => op_sub, lr_I0⟩
theorem dop_mul : DOpR X K ω (binaryOp .Mult) (dI CMul fun i j => .int (i * j)) := ⟨_, fun _ => op_mul, lr_I⟩
theorem dop_fdivW : DOpR X K ω (binaryOp .FloorDiv) (dI CDivW fun i j => .int (i / j)) := ⟨_, fun _ => op_fdivW, lr_I⟩
theorem dop_mod : DOpR X K ω (binaryOp .Mod) (dI (fun _ j => 0 < j) fun i j => .int (i % j)) := ⟨_, fun _ => op_mod, lr_I⟩
theorem dop_pow : DOpR X K ω (binaryOp .Pow) (dI CPow fun i j => .int (i ^ j.toNat)) := ⟨_, fun _ => op_pow, lr_I⟩
theorem dop_lt : DOpR X K ω (compareOp .Lt) (dI0 fun i j => .bl (decide (i < j))) := ⟨_, fun _ => op_lt, lr_I0⟩
theorem dop_le : DOpR X K ω (compareOp .LtE) (dI0 fun i j => .bl (decide (i ≤ j))) := ⟨_, fun _ => op_le, lr_I0⟩
theorem dop_gt : DOpR X K ω (compareOp .Gt) (dI0 fun i j => .bl (decide (j < i))) := ⟨_, fun _ => op_gt, lr_I0⟩
theorem de_op {op : Operator} {dr : DR} (ho : DOpR X K ω (binaryOp op) dr) (ha : DB X K ω e1 da) (hb : DB X K ω e2 db) : DX X K ω (.BinOp e1 op e2 pos) (dOp dr da db) := by
  obtain ⟨r, h1, l1⟩ := ho
  obtain ⟨ta, h2, l2⟩ := ha
  obtain ⟨tb, h3, l3⟩ := hb
  refine ⟨_, fun j => pe_op (h1 j) (h2 j) (h3 j), fun B hω F a σ H Q R ok hd k => ?_⟩
  refine l2 B hω F a σ H _ _ ok hd fun x d F1 a1 H1 g1 q1 hd1 => ?_
  refine l3 B hω F1 a1 σ H1 _ _ g1.ok hd1 fun y e F2 a2 H2 g2 q2 hd2 => ?_
  refine l1 B hω F2 a2 σ H2 x y d e Q _ g2.ok (q1.mono g2.bs) q2 hd2 fun v f F3 H3 g3 q3 hR => ?_
  exact k v f F3 a2 H3 (.trans ok g1 (.trans g1.ok g2 g3)) q3 hR
theorem de_cmp {op : CmpOp} {dr : DR} (ho : DOpR X K ω (compareOp op) dr) (ha : DB X K ω e1 da) (hb : DB X K ω e2 db) (hm : behindInMarks op e2 = false) : DX X K ω (.Compare e1 [op] [e2] pos) (dOp dr da db) := by
  obtain ⟨r, h1, l1⟩ := ho
  obtain ⟨ta, h2, l2⟩ := ha
  obtain ⟨tb, h3, l3⟩ := hb
  refine ⟨_, fun j => pe_cmpR (h1 j) (h2 j) (h3 j) hm, fun B hω F a σ H Q R ok hd k => ?_⟩
  refine l2 B hω F a σ H _ _ ok hd fun x d F1 a1 H1 g1 q1 hd1 => ?_
  refine l3 B hω F1 a1 σ H1 _ _ g1.ok hd1 fun y e F2 a2 H2 g2 q2 hd2 => ?_
  refine l1 B hω F2 a2 σ H2 x y d e Q _ g2.ok (q1.mono g2.bs) q2 hd2 fun v f F3 H3 g3 q3 hR => ?_
  exact k v f F3 a2 H3 (.trans ok g1 (.trans g1.ok g2 g3)) q3 hR
/-- a value that is True or False -/
def asB (d : D) (R : Bool → Prop) : Prop := match d with
  | .v (.bl b) => R b
  | _ => False
theorem asB_of {d : D} {R : Bool → Prop} (h : asB d R) : ∃ b, d = .v (.bl b) ∧ R b := by
  unfold asB at h
  split at h
  · rename_i b
    exact ⟨b, rfl, h⟩
  · exact h.elim
def dTest (de : DEt) : DTt := fun a R => de a fun d a' => asB d fun b => R b a'
theorem dt_val {e : Expr} (h : DX X K ω e de) (he : ∀ j whole, isTrue e (X j).env whole = (do let v ← whole; standAt e.pos; holding [v] (truthy v)) := by intro _ _; rfl) : DT X K ω e (dTest de) := by
  obtain ⟨t, p, l⟩ := h
  refine ⟨_, fun j => pt_val (p j) (he j), fun B hω F a σ H Q R ok hd k => l B hω F a σ H _ _ ok hd fun v d F' a' H' g q hR => ?_⟩
  obtain ⟨b, rfl, hR⟩ := asB_of hR
  exact ⟨b, q, k b F' a' H' g hR⟩
theorem dt_cmp {op : CmpOp} {dr : DR} (ho : DOpR X K ω (compareOp op) dr) (ha : DB X K ω e1 da) (hb : DB X K ω e2 db) (hm : behindInMarks op e2 = false) : DT X K ω (.Compare e1 [op] [e2] pos) (dTest (dOp dr da db)) := by
  obtain ⟨r, h1, l1⟩ := ho
  obtain ⟨ta, h2, l2⟩ := ha
  obtain ⟨tb, h3, l3⟩ := hb
  refine ⟨_, fun j => pt_cmpR (h1 j) (h2 j) (h3 j) hm, fun B hω F a σ H Q R ok hd k => ?_⟩
  refine l2 B hω F a σ H _ _ ok hd fun x d F1 a1 H1 g1 q1 hd1 => ?_
  refine l3 B hω F1 a1 σ H1 _ _ g1.ok hd1 fun y e F2 a2 H2 g2 q2 hd2 => ?_
  refine l1 B hω F2 a2 σ H2 x y d e _ _ g2.ok (q1.mono g2.bs) q2 hd2 fun v f F3 H3 g3 q3 hR => ?_
  obtain ⟨b, rfl, hR⟩ := asB_of hR
  exact ⟨b, q3, k b F3 a2 H3 (.trans ok g1 (.trans g1.ok g2 g3)) hR⟩
def dUn (dr : D → (D → Prop) → Prop) (da : DEt) : DEt := fun a R => da a fun x a1 => dr x fun d => R d a1
def dNeg : D → (D → Prop) → Prop := fun d R => match d with
  | .v (.int i) => R (.v (.int (-i)))
  | _ => False
theorem de_neg (ha : DB X K ω e da) : DX X K ω (.UnaryOp .USub e pos) (dUn dNeg da) := by
  obtain ⟨t, p, l⟩ := ha
  refine ⟨_, fun j => pe_un un_neg (p j), fun B hω F a σ H Q R ok hd k => l B hω F a σ H _ _ ok hd fun v d F' a' H' g q hR => ?_⟩
  unfold dNeg at hR
  split at hR
  · rename_i i
    exact ⟨i, q, k _ (.v _) F' a' H' g rfl hR⟩
  · exact hR.elim
def dNotV (da : DEt) : DEt := fun a R => da a fun x a1 => asB x fun b => R (.v (.bl (!b))) a1
theorem de_not (ha : DX X K ω e da) : DX X K ω (.UnaryOp .Not e pos) (dNotV da) := by
  obtain ⟨t, p, l⟩ := ha
  refine ⟨_, fun j => pe_not (p j), fun B hω F a σ H Q R ok hd k => l B hω F a σ H _ _ ok hd fun v d F' a' H' g q hR => ?_⟩
  obtain ⟨b, rfl, hR⟩ := asB_of hR
  exact ⟨b, q, k _ (.v _) F' a' H' g rfl hR⟩
/-! and, or -/
def bIf (b : Bool) (A C : Prop) : Prop := match b with
  | true => A
  | false => C
theorem bIf.imp {b : Bool} {A C A' C' : Prop} (h : bIf b A C) (f : A → A') (g : C → C') : if b = true then A' else C' := by
  cases b with
  | true => exact iteT (f h)
  | false => exact iteF (g h)
def dAnd (t u : DTt) : DTt := fun a R => t a fun b a1 => bIf b (u a1 R) (R false a1)
def dOr (t u : DTt) : DTt := fun a R => t a fun b a1 => bIf b (R true a1) (u a1 R)
def dNot (t : DTt) : DTt := fun a R => t a fun b a1 => R (!b) a1
variable {dt du : DTt} {t u : TT}
theorem lt_or (l1 : LC K ω t dt) (l2 : LC K ω u du) : LC K ω (tOr t u) (dOr dt du) := fun B hω F a σ H Q R ok hd k => l1 B hω F a σ H _ _ ok hd fun b F1 a1 H1 g1 hR => hR.imp
  (fun hR => k true F1 a1 H1 g1 hR) fun hR => l2 B hω F1 a1 σ H1 _ _ g1.ok hR fun c F2 a2 H2 g2 hR => k c F2 a2 H2 (.trans ok g1 g2) hR
theorem lt_not (l1 : LC K ω t dt) : LC K ω (tNot t) (dNot dt) := fun B hω F a σ H Q R ok hd k => l1 B hω F a σ H _ _ ok hd fun b F1 a1 H1 g1 hR => k _ F1 a1 H1 g1 hR
theorem dw_or1 {pos : Pos} (h : DT X K ω e1 dt) : DW X K ω (.BoolOp .Or [e1] pos) dt := let ⟨t, p, l⟩ := h; ⟨t, fun j => pw_or1 (p j), l⟩
theorem dw_or {pos : Pos} (h1 : DT X K ω e1 dt) (h2 : DW X K ω (.BoolOp .Or (e2 :: es) pos) du) : DW X K ω (.BoolOp .Or (e1 :: e2 :: es) pos) (dOr dt du) := let ⟨_, p, l⟩ := h1; let ⟨_, p', l'⟩ := h2; ⟨_, fun j => pw_or (p j) (p' j), lt_or l l'⟩
theorem DW.pt (h : DW X K ω e dt) : DT X K ω e dt := let ⟨t, p, l⟩ := h; ⟨t, fun j => (p j).pt, l⟩
theorem dt_not {pos : Pos} (h : DT X K ω e dt) : DT X K ω (.UnaryOp .Not e pos) (dNot dt) := let ⟨_, p, l⟩ := h; ⟨_, fun j => pt_not (p j), lt_not l⟩
def dAndV (da db : DEt) : DEt := fun a R => da a fun x a1 => asB x fun b => bIf b (db a1 R) (R (.v (.bl false)) a1)
def dOrV (da db : DEt) : DEt := fun a R => da a fun x a1 => asB x fun b => bIf b (R (.v (.bl true)) a1) (db a1 R)
theorem de_one {op} {pos : Pos} (h : DX X K ω e de) : DX X K ω (.BoolOp op [e] pos) de := let ⟨t, p, l⟩ := h; ⟨t, fun j => pe_one (p j), l⟩
theorem de_and {pos : Pos} (h1 : DX X K ω e1 da) (h2 : DX X K ω (.BoolOp .And (e2 :: es) pos) db) : DX X K ω (.BoolOp .And (e1 :: e2 :: es) pos) (dAndV da db) := by
  obtain ⟨_, p, l⟩ := h1
  obtain ⟨_, p', l'⟩ := h2
  refine ⟨_, fun j => pe_and (p j) (p' j), fun B hω F a σ H Q R ok hd k => l B hω F a σ H _ _ ok hd fun v d F' a' H' g q hR => ?_⟩
  obtain ⟨b, rfl, hR⟩ := asB_of hR
  exact ⟨b, q, hR.imp (fun hR => l' B hω F' a' σ H' _ _ g.ok hR fun v d F2 a2 H2 g2 q2 hR => k v d F2 a2 H2 (.trans ok g g2) q2 hR) fun hR => k _ (.v _) F' a' H' g rfl hR⟩
def dIfE (dt : DTt) (da db : DEt) : DEt := fun a R => dt a fun b a1 => bIf b (da a1 R) (db a1 R)
/-! a < b < c -/
def dChain (dr dr' : DR) (da db dc : DEt) : DEt := fun a R => da a fun x a1 => db a1 fun y a2 => dr x y fun z => asB z fun b => bIf b (dc a2 fun w a3 => dr' y w fun d => R d a3) (R (.v (.bl false)) a2)
theorem dt_chain {op op' : CmpOp} {dr dr' : DR} {e3 : Expr} {pos : Pos} (ho : DOpR X K ω (compareOp op) dr) (ho' : DOpR X K ω (compareOp op') dr') (ha : DB X K ω e1 da) (hb : DB X K ω e2 db) (hc : DB X K ω e3 dc) (hm : lastMarks [op, op'] [e2, e3] = false := by with_unfolding_all rfl) : DT X K ω (.Compare e1 [op, op'] [e2, e3] pos) (dTest (dChain dr dr' da db dc)) := by
  obtain ⟨r, h1, l1⟩ := ho
  obtain ⟨r', h1', l1'⟩ := ho'
  obtain ⟨ta, h2, l2⟩ := ha
  obtain ⟨tb, h3, l3⟩ := hb
  obtain ⟨tc, h4, l4⟩ := hc
  refine ⟨_, fun j => pt_chain (h1 j) (h1' j) (h2 j) (h3 j) (h4 j) hm, fun B hω F a σ H Q R ok hd k => ?_⟩
  refine l2 B hω F a σ H _ _ ok hd fun x d F1 a1 H1 g1 q1 hd1 => ?_
  refine l3 B hω F1 a1 σ H1 _ _ g1.ok hd1 fun y e F2 a2 H2 g2 q2 hd2 => ?_
  refine l1 B hω F2 a2 σ H2 x y d e _ _ g2.ok (q1.mono g2.bs) q2 hd2 fun v f F3 H3 g3 q3 hR => ?_
  obtain ⟨b, rfl, hR⟩ := asB_of hR
  have g13 := Go.trans ok g1 (.trans g1.ok g2 g3)
  refine ⟨b, q3, hR.imp (fun hR => ?_) fun hR => ?_⟩
  · refine l4 B hω F3 a2 σ H3 _ _ g3.ok hR fun w f F4 a4 H4 g4 q4 hR => ?_
    refine l1' B hω F4 a4 σ H4 y w e f _ _ g4.ok ((q2.mono g3.bs).mono g4.bs) q4 hR fun v f F5 H5 g5 q5 hR => ?_
    obtain ⟨c, rfl, hR⟩ := asB_of hR
    exact ⟨c, q5, k c F5 a4 H5 (.trans ok g13 (.trans g3.ok g4 g5)) hR⟩
  · obtain ⟨c, e, hR⟩ := asB_of hR
    cases e
    exact ⟨false, rfl, k false F3 a2 H3 g13 hR⟩
end
/-! ### statements -/
structure DEnds where
  nx : AS → Prop
  rt : D → Int → Prop
  bk : AS → Prop := fun _ => False
  ct : AS → Prop := fun _ => False
abbrev DSt := DEnds → AS → Prop
structure EndsOk {K : PySem.W.Frag} (B : Bs K) (F : Hp) (DE : DEnds) (E : Ends) : Prop where
  nx : ∀ F' a' σ' H', Ok B F' a' σ' H' → Same F F' → DE.nx a' → E.nx σ' H'
  rt : ∀ v d n F' H', Fi B F' n H' → Same F F' → Dat K F' d v → DE.rt d n → E.rt v H'
  bk : ∀ F' a' σ' H', Ok B F' a' σ' H' → Same F F' → DE.bk a' → E.bk σ' H'
  ct : ∀ F' a' σ' H', Ok B F' a' σ' H' → Same F F' → DE.ct a' → E.ct σ' H'
def LS (K : PySem.W.Frag) (ω : Wp) (ts : TS) (ds : DSt) : Prop := ∀ (B : Bs K), WOk B ω → ∀ (E : Ends) (DE : DEnds) (F : Hp) (a : AS) (σ : St) (H : Hp), Ok B F a σ H → ds DE a → EndsOk B F DE E → ts E σ H
def DS {ι : Type} (X : ι → Cx) (K : PySem.W.Frag) (ω : Wp) (st : Stmt) (ds : DSt) : Prop := ∃ t, (∀ j, PS (X j) st t) ∧ LS K ω t ds
def DSs {ι : Type} (X : ι → Cx) (K : PySem.W.Frag) (ω : Wp) (st : List Stmt) (ds : DSt) : Prop := ∃ t, (∀ j, PSs (X j) st t) ∧ LS K ω t ds
abbrev DGt := D → AS → (AS → Prop) → Prop
abbrev DGts := List D → AS → (AS → Prop) → Prop
/-- a target: ws the slots that it writes -/
structure Sto {K : PySem.W.Frag} (B : Bs K) (ws : List Nat) (F : Hp) (a : AS) (σ : St) (H : Hp) (a' : AS) (σ' : St) : Prop where
  ok : Ok B F a' σ' H
  ln : σ'.length = σ.length
  kp : ∀ j, j ∉ ws → σ'[j]? = σ[j]?
  oo : ∀ b, OwnAt a' σ' b → OwnAt a σ b
def LG (K : PySem.W.Frag) (ω : Wp) (g : TG) (dg : DGt) (ws : List Nat) : Prop := ∀ (B : Bs K), WOk B ω → ∀ (F : Hp) (a : AS) (σ : St) (H : Hp) (v : V) (d : D) (Q : St → Hp → Prop) (R : AS → Prop), Ok B F a σ H → Dat K F d v → dg d a R →
  (∀ a' σ', Sto B ws F a σ H a' σ' → R a' → Q σ' H) → g v σ H Q
def LGs (K : PySem.W.Frag) (ω : Wp) (g : TGs) (dg : DGts) (ws : List Nat) : Prop := ∀ (B : Bs K), WOk B ω → ∀ (F : Hp) (a : AS) (σ : St) (H : Hp) (vs : List V) (ds : List D) (Q : St → Hp → Prop) (R : AS → Prop), Ok B F a σ H → DatL K F ds vs → dg ds a R →
  (∀ a' σ', Sto B ws F a σ H a' σ' → R a' → Q σ' H) → g vs σ H Q
def DG {ι : Type} (X : ι → Cx) (K : PySem.W.Frag) (ω : Wp) (tg : Expr) (dg : DGt) (ws : List Nat) : Prop := ∃ g, (∀ j, PG (X j) tg g) ∧ LG K ω g dg ws
def DGs {ι : Type} (X : ι → Cx) (K : PySem.W.Frag) (ω : Wp) (tgs : List Expr) (dg : DGts) (ws : List Nat) (m : Nat) : Prop := ∃ g, (∀ j, PGs (X j) tgs g) ∧ LGs K ω g dg ws ∧ ∀ ds a R, dg ds a R → ds.length = m
section
variable {K : PySem.W.Frag} {ω : Wp} {B : Bs K} {F F' F1 F2 : Hp} {a a' a1 a2 : AS} {σ σ' : St} {H H' H1 H2 : Hp} {n : Int} {te : TE} {de da db : DEt} {ι : Type} {X : ι → Cx} {e e1 e2 : Expr} {es : List Expr} {pos : Pos} {ts us : TS} {ds d1 d2 : DSt} {st : Stmt} {rest : List Stmt} {dt : DTt}
theorem EndsOk.mono {DE : DEnds} {E : Ends} (h : EndsOk B F DE E) (s : Same F F') : EndsOk B F' DE E := ⟨fun F1 a1 s1 H1 ok q r => h.nx F1 a1 s1 H1 ok (s.trans q) r, fun v d n F1 H1 f q r z => h.rt v d n F1 H1 f (s.trans q) r z, fun F1 a1 s1 H1 ok q r => h.bk F1 a1 s1 H1 ok (s.trans q) r, fun F1 a1 s1 H1 ok q r => h.ct F1 a1 s1 H1 ok (s.trans q) r⟩
theorem Sto.refl (ok : Ok B F a σ H) : Sto B [] F a σ H a σ := ⟨ok, rfl, fun _ _ => rfl, fun _ h => h⟩
theorem WOk.z {i : Nat} (hω : WOk B ω) (hz : ω.sf = false ∨ i ≠ 0) : i = 0 → B.self = none := fun z => hz.elim hω.2.1 fun n => absurd z n
theorem Ok.putV (ok : Ok B F a σ H) {i : Nat} {d : D} {v : V} (hi : i = 0 → B.self = none) (h : Dat K F d v) : Sto B [i] F a σ H (a.put i (.val d)) (σ.set i (some v)) := by
  refine ⟨ok.setV hi h, by rw [List.length_set], fun j hj => List.getElem?_set_ne (fun z => hj (by rw [← z]; exact List.mem_singleton.mpr rfl)), ?_⟩
  rintro b ⟨j, f, q1, q2⟩
  rcases set_get q1 with ⟨rfl, z, _⟩ | ⟨m, q1⟩
  · cases z
  · rw [List.getElem?_set_ne (Ne.symm m)] at q2
    exact ⟨j, f, q1, q2⟩
def dgName (i : Nat) : DGt := fun d a R => R (a.put i (.val d))
theorem dg_name {i : Nat} {x : Str} {pos : Pos} (hN : ∀ j, (X j).N.Nodup) (hi : ∀ j, (X j).N[i]? = some x) (hx : ∀ j, Loc (X j).env.scope x) (hf : ∀ j, (X j).fn x = true ∨ (X j).env.scope.names.lookup x = some .local := by first | exact fun _ => .inl rfl | exact fun _ => .inr rfl | assumption)  (hz : ω.sf = false ∨ i ≠ 0 := by first | exact Or.inl rfl | exact Or.inr (by decide)) : DG X K ω (.Name x pos) (dgName i) [i] :=
  ⟨_, fun j => pg_name (hN j) (hi j) (hx j) (hf j), fun B hω F a σ H v d Q R ok h hd k => k _ _ (ok.putV (hω.z hz) h) hd⟩
def dgNil : DGts := fun ds a R => ds = [] ∧ R a
def dgCons (g : DGt) (u : DGts) : DGts := fun ds a R => match ds with
  | d :: r => g d a fun a' => u r a' R
  | [] => False
theorem dgs_nil : DGs X K ω [] dgNil [] 0 := ⟨_, fun _ => pgs_nil, fun B hω F a σ H vs ds Q R ok h hd k => by
  obtain ⟨rfl, hR⟩ := hd
  exact ⟨h, k a σ (.refl ok) hR⟩, fun ds a R h => by rw [h.1]; rfl⟩
theorem dgs_cons {dg : DGt} {du : DGts} {w1 w2 : List Nat} {m : Nat} (h1 : DG X K ω e dg w1) (h2 : DGs X K ω es du w2 m) (hs : ∀ j, (assignEach (e :: es) (X j).env).map (·.2) = assign e (X j).env :: (assignEach es (X j).env).map (·.2) := by intro _; rfl)
    (hm : ∀ d a R, dg d a R → ∃ a', R a' := by exact fun _ _ _ h => ⟨_, h⟩) : DGs X K ω (e :: es) (dgCons dg du) (w1 ++ w2) (m + 1) := by
  obtain ⟨g, p, l⟩ := h1
  obtain ⟨u, p', l', hl⟩ := h2
  refine ⟨_, fun j => pgs_cons (p j) (p' j) (hs j), fun B hω F a σ H vs ds Q R ok h hd k => ?_, fun ds a R h => ?_⟩
  · cases ds with
    | nil => exact hd.elim
    | cons d r =>
      obtain ⟨v, w, rfl, h1, h2⟩ := h
      refine ⟨v, w, rfl, l B hω F a σ H v d _ _ ok h1 hd fun a1 σ1 s1 hR => ?_⟩
      refine l' B hω F a1 σ1 H w r Q R s1.ok h2 hR fun a2 σ2 s2 hR => k a2 σ2 ⟨s2.ok, s2.ln.trans s1.ln, fun j hj => ?_, fun b z => s1.oo b (s2.oo b z)⟩ hR
      rw [s2.kp j (fun z => hj (List.mem_append_right _ z)), s1.kp j (fun z => hj (List.mem_append_left _ z))]
  · cases ds with
    | nil => exact h.elim
    | cons d r =>
      obtain ⟨a', z⟩ := hm d a _ h
      rw [List.length_cons, hl r a' R z]
def dgTup (u : DGts) : DGt := fun d a R => match d with
  | .tup ds => u ds a R
  | _ => False
theorem dg_tup {k : Nat} {dg : DGts} {w : List Nat} {pos : Pos} {m : Nat} (hc : ∀ j, (X j).calm = true) (h : DGs X K ω es dg w m) (hn : ∀ j, (assignEach es (X j).env).length = m := by intro _; rfl) (hst : ∀ j, (assignEach es (X j).env).findIdx? (·.1) = none := by intro _; rfl) (hK : ∀ j, (X j).K = K := by intro _; rfl) : DG X K ω (.Tuple es k pos) (dgTup dg) w := by
  obtain ⟨g, p, l, hl⟩ := h
  refine ⟨gTup K m g, fun j => by rw [← hK j]; exact pg_tup (hc j) (p j) (hn j) (hst j), fun B hω F a σ H v d Q R ok h hd k => ?_⟩
  unfold dgTup at hd
  split at hd
  · rename_i ds
    obtain ⟨p, vs, rfl, hS, hL⟩ := h
    exact ⟨p, vs, rfl, SqT.of (ok.fi.fh _ _ hS), by rw [hL.len]; exact hl _ _ _ hd, l B hω F a σ H vs ds Q R ok hL hd k⟩
  · exact hd.elim
/-! blocks -/
def dNext : DSt := fun E a => E.nx a
def dSeq (t u : DSt) : DSt := fun E a => t { E with nx := u E } a
def dCut (t u : DSt) : DSt := fun E a => ∃ Mid : AS → Prop, t { E with nx := Mid } a ∧ ∀ a', Mid a' → u E a'
theorem dss_nil : DSs X K ω [] dNext := ⟨_, fun _ => pss_nil, fun B hω E DE F a σ H ok hd k => k.nx F a σ H ok (Same.refl F) hd⟩
theorem dss_cons (h1 : DS X K ω st d1) (h2 : DSs X K ω rest d2) : DSs X K ω (st :: rest) (dSeq d1 d2) := by
  obtain ⟨t, p, l⟩ := h1
  obtain ⟨u, p', l'⟩ := h2
  exact ⟨_, fun j => pss_cons (p j) (p' j), fun B hω E DE F a σ H ok hd k => l B hω _ _ F a σ H ok hd ⟨fun F' a' σ' H' ok' s hd => l' B hω E DE F' a' σ' H' ok' hd (k.mono s), k.rt, k.bk, k.ct⟩⟩
theorem dss_cut (h1 : DS X K ω st d1) (h2 : DSs X K ω rest d2) : DSs X K ω (st :: rest) (dCut d1 d2) := by
  obtain ⟨t, p, l⟩ := h1
  obtain ⟨u, p', l'⟩ := h2
  refine ⟨_, fun j => pss_cons (p j) (p' j), fun B hω E DE F a σ H ok hd k => ?_⟩
  obtain ⟨Mid, hd, hm⟩ := hd
  exact l B hω _ { DE with nx := Mid } F a σ H ok hd ⟨fun F' a' σ' H' ok' s z => l' B hω E DE F' a' σ' H' ok' (hm a' z) (k.mono s), k.rt, k.bk, k.ct⟩
theorem dss_one (h1 : DS X K ω st d1) : DSs X K ω [st] d1 := let ⟨_, p, l⟩ := h1; ⟨_, fun j => pss_one (p j), l⟩
def dDrop (de : DEt) : DSt := fun E a => de a fun _ a' => E.nx a'
theorem Fi.le {m : Int} (f : Fi B F n H) (h : n ≤ m) : Fi B F m H := ⟨f.fh, f.ff, f.fr, f.fm, fun p e => ⟨(f.sr p e).1, (f.sr p e).2.1, (f.sr p e).2.2.le h⟩⟩
/-- at most so many numbers drawn -/
def dRet (de : DEt) : DSt := fun E a => de a fun d a' => ∃ m, a'.n ≤ m ∧ E.rt d m
theorem ds_ret {pos : Pos} (he : DX X K ω e de) : DS X K ω (.Return (some e) pos) (dRet de) := by
  obtain ⟨t, p, l⟩ := he
  exact ⟨_, fun j => ps_ret (p j), fun B hω E DE F a σ H ok hd k => l B hω F a σ H _ _ ok hd fun v d F' a' H' g q ⟨m, hm, r⟩ => k.rt v d m F' H' (g.ok.fi.le hm) g.ff q r⟩
def dIfS (dt : DTt) (d1 d2 : DSt) : DSt := fun E a => dt a fun b a' => bIf b (d1 E a') (d2 E a')
theorem ds_if {c : Expr} {b1 b2 : List Stmt} {pos : Pos} (hc : DT X K ω c dt) (h1 : DSs X K ω b1 d1) (h2 : DSs X K ω b2 d2) : DS X K ω (.If c b1 b2 pos) (dIfS dt d1 d2) := by
  obtain ⟨t, p, l⟩ := hc
  obtain ⟨t1, p1, l1⟩ := h1
  obtain ⟨t2, p2, l2⟩ := h2
  exact ⟨_, fun j => ps_if (p j) (p1 j) (p2 j), fun B hω E DE F a σ H ok hd k => l B hω F a σ H _ _ ok hd fun b F' a' H' g r => r.imp (fun r => l1 B hω E DE F' a' σ H' g.ok r (k.mono g.ff)) fun r => l2 B hω E DE F' a' σ H' g.ok r (k.mono g.ff)⟩
/-! assignments -/
def dSet (i : Nat) (de : DEt) : DSt := fun E a => de a fun d a' => E.nx (a'.put i (.val d))
theorem ds_set {i : Nat} {x : Str} {pos' : Pos} (hN : ∀ j, (X j).N.Nodup) (hi : ∀ j, (X j).N[i]? = some x) (hx : ∀ j, Loc (X j).env.scope x) (he : DX X K ω e de) (hs : ∀ j, swapsWith e (some (.Name x pos')) pos.line (X j).env = pure false := by intro _; rfl)
    (hf : ∀ j, (X j).fn x = true ∨ (X j).env.scope.names.lookup x = some .local := by first | exact fun _ => .inl rfl | exact fun _ => .inr rfl | assumption) (hz : ω.sf = false ∨ i ≠ 0 := by first | exact Or.inl rfl | exact Or.inr (by decide)) : DS X K ω (.Assign [.Name x pos'] e pos) (dSet i de) := by
  obtain ⟨t, p, l⟩ := he
  exact ⟨_, fun j => ps_set (hN j) (hi j) (hx j) (p j) (hs j) (hf j), fun B hω E DE F a σ H ok hd k => l B hω F a σ H _ _ ok hd fun v d F' a' H' g q r => k.nx F' _ _ H' (g.ok.setV (hω.z hz) q) g.ff r⟩
/-- the name's object is one's own from now on -/
def dSetO (i : Nat) (de : DEt) : DSt := fun E a => de a fun d a' => E.nx (a'.put i (.own d))
theorem ds_setO {i : Nat} {x : Str} {pos' : Pos} (hN : ∀ j, (X j).N.Nodup) (hi : ∀ j, (X j).N[i]? = some x) (hx : ∀ j, Loc (X j).env.scope x) (he : DO X K ω e de) (hs : ∀ j, swapsWith e (some (.Name x pos')) pos.line (X j).env = pure false := by intro _; rfl)
    (hf : ∀ j, (X j).fn x = true ∨ (X j).env.scope.names.lookup x = some .local := by first | exact fun _ => .inl rfl | exact fun _ => .inr rfl | assumption) (hz : ω.sf = false ∨ i ≠ 0 := by first | exact Or.inl rfl | exact Or.inr (by decide)) : DS X K ω (.Assign [.Name x pos'] e pos) (dSetO i de) := by
  obtain ⟨t, p, l⟩ := he
  refine ⟨_, fun j => ps_set (hN j) (hi j) (hx j) (p j) (hs j) (hf j), fun B hω E DE F a σ H ok hd k => l B hω F a σ H _ _ ok hd fun p o d F' a' H' g n1 n2 h3 q r => ?_⟩
  obtain ⟨hF, h0, hs, no⟩ := ok.here n1
  exact k.nx F' _ _ H' (g.ok.setO (hω.z hz) h3 n2 h0 (fun z => no (g.oo p z)) q) g.ff r
def dAsg (de : DEt) (dg : DGt) : DSt := fun E a => de a fun d a' => dg d a' E.nx
theorem ds_asg {tg : Expr} {dg : DGt} {w : List Nat} (he : DX X K ω e de) (hg : DG X K ω tg dg w) (hs : ∀ j, swapsWithSole [tg] e pos.line (X j).env = pure false := by intro _; rfl) (hw : ∀ j, swappedStores [tg] e (X j).env = pure none := by intro _; rfl)
    (h1 : ∀ j, (assignEach [tg] (X j).env).map (·.2) = [assign tg (X j).env] := by intro _; rfl) : DS X K ω (.Assign [tg] e pos) (dAsg de dg) := by
  obtain ⟨t, p, l⟩ := he
  obtain ⟨g, p', l'⟩ := hg
  exact ⟨_, fun j => ps_asg (p j) (p' j) (hs j) (hw j) (h1 j), fun B hω E DE F a σ H ok hd k => l B hω F a σ H _ _ ok hd fun v d F' a' H' g q r => l' B hω F' a' σ H' v d _ _ g.ok q r fun a2 σ2 s r => k.nx F' a2 σ2 H' s.ok g.ff r⟩
/-! loops -/
def ItOk (K : PySem.W.Frag) (J : It) (F : Hp) (items : List D) : Prop := ∀ (i : Nat) (F1 H1 : Hp), Same F F1 → Same F1 H1 →
  (items.length ≤ i → J.stop i H1) ∧ ∀ d, items[i]? = some d → J.go i H1 ∧ ∀ x H', J.yld i H1 x H' → (H' = H1 ∧ Dat K F1 d x) ∨ ∃ p o, H1 p = none ∧ H' = upd H1 p o ∧ Dat K (upd F1 p o) d x
def LI (K : PySem.W.Frag) (ω : Wp) (wi : TI) (di : DAt) : Prop := ∀ (B : Bs K), WOk B ω → ∀ (F : Hp) (a : AS) (σ : St) (H : Hp) (Q : It → Hp → Prop) (R : List D → AS → Prop), Ok B F a σ H → di a R →
  (∀ J items F' a' H', Go B σ F a H F' a' H' → ItOk K J F' items → R items a' → Q J H') → wi σ H Q
def DI {ι : Type} (X : ι → Cx) (K : PySem.W.Frag) (ω : Wp) (tg iter : Expr) (di : DAt) : Prop := ∃ wi, (∀ j, PI (X j) tg iter wi) ∧ LI K ω wi di
theorem ItOk.mono {K : PySem.W.Frag} {J : It} {items : List D} (h : ItOk K J F items) (s : Same F F') : ItOk K J F' items := fun i F1 H1 s1 s2 => h i F1 H1 (s.trans s1) s2
/-- what comes out of an iterator at a turn -/
theorem ItOk.turn {J : It} {items : List D} {i : Nat} {d : D} {x : V} (h : ItOk K J F items) (ok : Ok B F1 a σ H) (s : Same F F1) (e : items[i]? = some d) (y : J.yld i H x H') : ∃ F', Go B σ F1 a H F' a H' ∧ Dat K F' d x := by
  rcases ((h i F1 H s ok.fi.fh).2 d e).2 x H' y with ⟨rfl, q⟩ | ⟨p, o, n, rfl, q⟩
  · exact ⟨F1, .refl ok, q⟩
  · exact ⟨_, ok.new n, q⟩
def dLoop (dg : DGt) (db : DSt) (E : DEnds) : List D → AS → Prop
  | [], a => E.nx a
  | d :: ds, a => dg d a fun a1 => db { E with nx := dLoop dg db E ds, ct := dLoop dg db E ds, bk := E.nx } a1
def dFor (di : DAt) (dg : DGt) (db : DSt) : DSt := fun E a => di a fun items a' => dLoop dg db E items a'
theorem ds_for {iter tg : Expr} {body : List Stmt} {di : DAt} {dg : DGt} {db : DSt} {w : List Nat} {pos : Pos} (hp : ∀ j, PassesOwn (model (X j).prog (X j).w) (X j).A (X j).env (X j).xe) (hc : ∀ j, (X j).calm = true) (hi : DI X K ω tg iter di) (hg : DG X K ω tg dg w) (hb : DSs X K ω body db)
    (hs : ∀ j x, foldedSetIterable iter (X j).env x = pure x := by intro _ _; rfl) : DS X K ω (.For tg iter body [] pos) (dFor di dg db) := by
  obtain ⟨wi, p1, l1⟩ := hi
  obtain ⟨g, p2, l2⟩ := hg
  obtain ⟨tb, p3, l3⟩ := hb
  refine ⟨_, fun j => ps_for (hp j) (hc j) (p1 j) (p2 j) (p3 j) (hs j), fun B hω E DE F a σ H ok hd k => l1 B hω F a σ H _ _ ok hd fun J items F' a' H' g it hR => ?_⟩
  refine ⟨fun i m σ1 H1 => ∃ F1 a1, Ok B F1 a1 σ1 H1 ∧ Same F' F1 ∧ i ≤ items.length ∧ m = items.length - i ∧ dLoop dg db DE (items.drop i) a1, ⟨_, F', a', g.ok, Same.refl F', Nat.zero_le _, rfl, hR⟩, ?_⟩
  rintro i m σ1 H1 ⟨F1, a1, ok1, s1, hi, rfl, hl⟩
  by_cases hlt : i < items.length
  · have e : items[i]? = some items[i] := List.getElem?_eq_getElem hlt
    rw [List.drop_eq_getElem_cons hlt] at hl
    refine .inr ⟨((it i F1 H1 s1 ok1.fi.fh).2 _ e).1, fun σ2 H2 => ∃ m', m' < items.length - i ∧ ∃ F2 a2, Ok B F2 a2 σ2 H2 ∧ Same F' F2 ∧ i + 1 ≤ items.length ∧ m' = items.length - (i + 1) ∧ dLoop dg db DE (items.drop (i + 1)) a2, fun σ2 H2 z => z, fun x H2 y => ?_⟩
    obtain ⟨F2, g2, q2⟩ := it.turn ok1 s1 e y
    refine l2 B hω F2 a1 σ1 H2 x _ _ _ g2.ok q2 hl fun a3 σ3 s3 hR => ?_
    have s03 : Same F' F2 := s1.trans g2.ff
    have nx : ∀ F4 a4 σ4 H4, Ok B F4 a4 σ4 H4 → Same F2 F4 → dLoop dg db DE (items.drop (i + 1)) a4 → ∃ m', m' < items.length - i ∧ ∃ F2 a2, Ok B F2 a2 σ4 H4 ∧ Same F' F2 ∧ i + 1 ≤ items.length ∧ m' = items.length - (i + 1) ∧ dLoop dg db DE (items.drop (i + 1)) a2 := fun F4 a4 σ4 H4 ok4 s4 z => ⟨items.length - (i + 1), by omega, F4, a4, ok4, s03.trans s4, hlt, rfl, z⟩
    exact l3 B hω _ _ F2 a3 σ3 H2 s3.ok hR ⟨nx, fun v d n F4 H4 f q r z => k.rt v d n F4 H4 f (g.ff.trans (s03.trans q)) r z, fun F4 a4 σ4 H4 ok4 s4 z => k.nx F4 a4 σ4 H4 ok4 (g.ff.trans (s03.trans s4)) z, nx⟩
  · have e : i = items.length := by omega
    subst e
    rw [List.drop_length] at hl
    exact .inl ⟨(it _ F1 H1 s1 ok1.fi.fh).1 (Nat.le_refl _), k.nx F1 a1 σ1 H1 ok1 (g.ff.trans s1) hl⟩
def dWhile (dt : DTt) (db : DSt) : DSt := fun E a => ∃ I : Nat → AS → Prop, (∃ m, I m a) ∧ ∀ m a, I m a → dt a fun b a1 => bIf b (db { E with nx := fun a' => ∃ m', m' < m ∧ I m' a', ct := fun a' => ∃ m', m' < m ∧ I m' a', bk := E.nx } a1) (E.nx a1)
theorem ds_while {c : Expr} {body : List Stmt} {db : DSt} {pos : Pos} (hp : ∀ j, PassesOwn (model (X j).prog (X j).w) (X j).A (X j).env (X j).xe) (hc : DT X K ω c dt) (hb : DSs X K ω body db) : DS X K ω (.While c body [] pos) (dWhile dt db) := by
  obtain ⟨t, p1, l1⟩ := hc
  obtain ⟨tb, p2, l2⟩ := hb
  refine ⟨_, fun j => ps_while (hp j) (p1 j) (p2 j), fun B hω E DE F a σ H ok hd k => ?_⟩
  obtain ⟨I, ⟨m0, i0⟩, turn⟩ := hd
  refine ⟨fun m σ1 H1 => ∃ F1 a1, Ok B F1 a1 σ1 H1 ∧ Same F F1 ∧ I m a1, ⟨m0, F, a, ok, Same.refl F, i0⟩, ?_⟩
  rintro m σ1 H1 ⟨F1, a1, ok1, s1, hI⟩
  refine l1 B hω F1 a1 σ1 H1 _ _ ok1 (turn m a1 hI) fun b F2 a2 H2 g hR => hR.imp (fun hR => ?_) fun hR => k.nx F2 a2 σ1 H2 g.ok (s1.trans g.ff) hR
  have s02 := s1.trans g.ff
  have nx : ∀ F4 a4 σ4 H4, Ok B F4 a4 σ4 H4 → Same F2 F4 → (∃ m', m' < m ∧ I m' a4) → ∃ m', m' < m ∧ ∃ F1 a1, Ok B F1 a1 σ4 H4 ∧ Same F F1 ∧ I m' a1 := fun F4 a4 σ4 H4 ok4 s4 ⟨m', h, z⟩ => ⟨m', h, F4, a4, ok4, s02.trans s4, z⟩
  exact ⟨fun σ4 H4 => ∃ m', m' < m ∧ ∃ F1 a1, Ok B F1 a1 σ4 H4 ∧ Same F F1 ∧ I m' a1, fun σ' H' z => z, l2 B hω _ _ F2 a2 σ1 H2 g.ok hR ⟨nx, fun v d n F4 H4 f q r z => k.rt v d n F4 H4 f (s02.trans q) r z, fun F4 a4 σ4 H4 ok4 s4 z => k.nx F4 a4 σ4 H4 ok4 (s02.trans s4) z, nx⟩⟩
end
section
variable {K : PySem.W.Frag} {ω : Wp} {B : Bs K} {F F' F1 F2 G : Hp} {a a' a1 a2 : AS} {σ σ' : St} {H H' H1 H2 : Hp} {n : Int} {te : TE} {de da db : DEt} {ι : Type} {X : ι → Cx} {e e1 e2 : Expr} {es : List Expr} {pos : Pos} {dt : DTt} {dl dm : DAt}
/-! argument lists -/
def dNil : DAt := fun a R => R [] a
def dCons (da : DEt) (dr : DAt) : DAt := fun a R => da a fun d a1 => dr a1 fun ds a2 => R (d :: ds) a2
theorem da_nil : DAE X K ω [] dNil := ⟨_, fun _ => pa_nil, fun B hω F a σ H Q R ok hd k => k [] [] F a H (.refl ok) rfl hd⟩
theorem dab_nil : DAB X K ω [] dNil := ⟨_, fun _ => pa_nil, fun B hω F a σ H Q R ok hd k => k [] [] F a H (.refl ok) rfl hd⟩
theorem da_cons (h : DX X K ω e de) (hr : DAE X K ω es dl) (hs : ∀ j, starEach (e :: es) (X j).env = (false, eval e (X j).env) :: starEach es (X j).env := by intro _; rfl) : DAE X K ω (e :: es) (dCons de dl) := by
  obtain ⟨t, p, l⟩ := h
  obtain ⟨t', p', l'⟩ := hr
  refine ⟨_, fun j => pa_cons (p j) (p' j) (hs j), fun B hω F a σ H Q R ok hd k => l B hω F a σ H _ _ ok hd fun v d F1 a1 H1 g1 q1 r1 => ?_⟩
  exact l' B hω F1 a1 σ H1 _ _ g1.ok r1 fun vs ds F2 a2 H2 g2 q2 r2 => k _ _ F2 a2 H2 (.trans ok g1 g2) (.cons (q1.mono g2.ff) q2) r2
theorem dab_cons (h : DB X K ω e de) (hr : DAB X K ω es dl) (hs : ∀ j, starEach (e :: es) (X j).env = (false, eval e (X j).env) :: starEach es (X j).env := by intro _; rfl) : DAB X K ω (e :: es) (dCons de dl) := by
  obtain ⟨t, p, l⟩ := h
  obtain ⟨t', p', l'⟩ := hr
  refine ⟨_, fun j => pa_cons (p j) (p' j) (hs j), fun B hω F a σ H Q R ok hd k => l B hω F a σ H _ _ ok hd fun v d F1 a1 H1 g1 q1 r1 => ?_⟩
  exact l' B hω F1 a1 σ H1 _ _ g1.ok r1 fun vs ds F2 a2 H2 g2 q2 r2 => k _ _ F2 a2 H2 (.trans ok g1 g2) (.cons (q1.mono g2.bs) q2) r2
/-! displays -/
def dTup (dl : DAt) : DEt := fun a R => dl a fun ds a' => ds.length ≤ sizeLine ∧ R (.tup ds) a'
def dLst (dl : DAt) : DEt := fun a R => dl a fun ds a' => ds.length ≤ sizeLine ∧ R (.lst ds) a'
theorem de_tup {x1} {pos : Pos} (h : DAE X K ω es dl) : DX X K ω (.Tuple es x1 pos) (dTup dl) := by
  obtain ⟨t, p, l⟩ := h
  refine ⟨_, fun j => pe_tup (p j), fun B hω F a σ H Q R ok hd k => l B hω F a σ H _ _ ok hd fun vs ds F1 a1 H1 g1 q1 r1 => ?_⟩
  refine ⟨by rw [q1.len]; exact r1.1, fun p hp => ?_⟩
  have g2 := g1.ok.new (o := .tup vs) hp
  exact k _ (.tup ds) _ _ _ (.trans ok g1 g2) ⟨p, vs, rfl, upd_same, q1.mono g2.ff⟩ r1.2
/-- a new list -/
theorem Go.list (ok : Ok B F a σ H) (g1 : Go B σ F a H F1 a1 H1) {p : Addr} {vs : List V} {ds : List D} (hp : H1 p = none) (q : DatL K F1 ds vs) {Q : VK} {R : D → AS → Prop} (r : R (.lst ds) a1)
    (k : ∀ p o d F' a' H', Go B σ F a H F' a' H' → H p = none → F' p = none → H' p = some o → Rep K F' p d o → R d a' → Q (.ref p) H') : Q (.ref p) (upd H1 p (.lst vs)) := by
  have g2 := g1.ok.newO (o := .lst vs) hp
  have h0 : H p = none := by
    cases e : H p with
    | none => rfl
    | some o =>
      have n := (g1.ok.here hp).2.2.1
      rw [g1.hh p o n e] at hp
      cases hp
  exact k p (.lst vs) (.lst ds) F1 a1 _ (.trans ok g1 g2) h0 (g1.ok.here hp).1 upd_same ⟨vs, rfl, q⟩ r
theorem do_lst {pos : Pos} (h : DAE X K ω es dl) : DO X K ω (.List es pos) (dLst dl) := by
  obtain ⟨t, p, l⟩ := h
  refine ⟨_, fun j => pe_lst (p j), fun B hω F a σ H Q R ok hd k => l B hω F a σ H _ _ ok hd fun vs ds F1 a1 H1 g1 q1 r1 => ?_⟩
  exact ⟨by rw [q1.len]; exact r1.1, fun p hp => g1.list ok hp q1 r1.2 k⟩
def opt (o : Option D) (R : D → Prop) : Prop := match o with
  | some d => R d
  | none => False
theorem opt_of {o : Option D} {R : D → Prop} (h : opt o R) : ∃ d, o = some d ∧ R d := by
  cases o with
  | none => exact h.elim
  | some d => exact ⟨d, rfl, h⟩
/-! an item -/
def dIx : DR := fun d e R => match d, e with
  | .lst ds, .v (.int i) => opt (atI ds i) R
  | .tup ds, .v (.int i) => opt (atI ds i) R
  | .ctup ds, .v (.int i) => opt (atI ds i) R
  | .ftup ds, .v (.int i) => opt (atI ds i) R
  | .v (.str z), .v (.int i) => z.length ≤ sizeLine ∧ match atI z.cps.toList i with
    | some c => R (.v (.str ⟨#[c]⟩))
    | none => False
  | _, _ => False
theorem atI_dat {ds : List D} {vs : List V} {i : Int} {d : D} (q : DatL K H ds vs) (h : atI ds i = some d) : ∃ v, atI vs i = some v ∧ Dat K H d v := by
  unfold atI at h ⊢
  rw [q.len]
  cases e : ixN ds.length i with
  | none => rw [e] at h; cases h
  | some j =>
    rw [e] at h
    exact q.get h
theorem ix_dat {x y : V} {d f : D} {Q : VK} {R : D → Prop} (s : Same G H) (hx : Dat K G d x) (hy : Dat K G f y) (h : dIx d f R) (k : ∀ v g, Dat K G g v → R g → Q v H) : rIx K x y H Q := by
  unfold dIx at h
  split at h
  · rename_i ds i
    obtain ⟨p, vs, rfl, h1, h2⟩ := hx
    obtain ⟨g, e, r⟩ := opt_of h
    obtain ⟨v, e1, e2⟩ := atI_dat h2 e
    exact .inl ⟨p, vs, i, v, rfl, hy, SqL.of (s _ _ h1), e1, k v g e2 r⟩
  · rename_i ds i
    obtain ⟨p, vs, rfl, h1, h2⟩ := hx
    obtain ⟨g, e, r⟩ := opt_of h
    obtain ⟨v, e1, e2⟩ := atI_dat h2 e
    exact .inr (.inl ⟨p, vs, i, v, rfl, hy, SqT.of (s _ _ h1), e1, k v g e2 r⟩)
  · rename_i ds i
    obtain ⟨p, vs, rfl, h1, h2⟩ := hx
    obtain ⟨g, e, r⟩ := opt_of h
    obtain ⟨v, e1, e2⟩ := atI_dat h2 e
    exact .inr (.inl ⟨p, vs, i, v, rfl, hy, same_seqT s h1, e1, k v g e2 r⟩)
  · rename_i ds i
    obtain ⟨p, vs, rfl, h1, h2⟩ := hx
    obtain ⟨g, e, r⟩ := opt_of h
    obtain ⟨v, e1, e2⟩ := atI_dat h2 e
    exact .inr (.inl ⟨p, vs, i, v, rfl, hy, (h1.mono s).sq, e1, k v g e2 r⟩)
  · rename_i z i
    obtain ⟨h1, h2⟩ := h
    split at h2
    · rename_i c e
      exact .inr (.inr ⟨z, i, c, hx, hy, h1, e, k _ (.v _) rfl h2⟩)
    · exact h2.elim
  · exact h.elim
theorem de_ix (ha : DX X K ω e1 da) (hb : DB X K ω e2 db) (hs : PlainIx e2) (hK : ∀ j, (X j).K = K := by intro _; rfl) : DX X K ω (.Subscript e1 e2 pos) (dOp dIx da (dFlat db)) := by
  obtain ⟨ta, p1, l1⟩ := ha
  obtain ⟨tb, p2, l2⟩ := hb
  refine ⟨tOp (rIx K) ta tb, fun j => by rw [← hK j]; exact pe_ix ix_seq (p1 j) (p2 j) hs, fun B hω F a σ H Q R ok hd k => l1 B hω F a σ H _ _ ok hd fun v d F1 a1 H1 g1 q1 r1 => l2.flat B hω F1 a1 σ H1 _ _ g1.ok r1 fun w f F2 a2 H2 g2 q2 r2 => ?_⟩
  exact ix_dat g2.ok.fi.fh (q1.mono g2.ff) q2 r2 fun v g q r => k v g F2 a2 H2 (.trans ok g1 g2) q r
theorem db_ix (ha : DB X K ω e1 da) (hb : DB X K ω e2 db) (hs : PlainIx e2) (hK : ∀ j, (X j).K = K := by intro _; rfl) : DB X K ω (.Subscript e1 e2 pos) (dOp dIx da db) := by
  obtain ⟨ta, p1, l1⟩ := ha
  obtain ⟨tb, p2, l2⟩ := hb
  refine ⟨tOp (rIx K) ta tb, fun j => by rw [← hK j]; exact pe_ix ix_seq (p1 j) (p2 j) hs, fun B hω F a σ H Q R ok hd k => l1 B hω F a σ H _ _ ok hd fun v d F1 a1 H1 g1 q1 r1 => l2 B hω F1 a1 σ H1 _ _ g1.ok r1 fun w f F2 a2 H2 g2 q2 r2 => ?_⟩
  exact ix_dat hs_same (q1.mono g2.bs) q2 r2 fun v g q r => k v g F2 a2 H2 (.trans ok g1 g2) q r
/-! a slice -/
def dPart (db : DEt) : AS → (Option Int → AS → Prop) → Prop := fun a R => db a fun x a1 => match x with
  | .v (.int i) => R (some i) a1
  | _ => False
def dNoPart : AS → (Option Int → AS → Prop) → Prop := fun a R => R none a
def LPO (K : PySem.W.Frag) (ω : Wp) (t : TO) (dp : AS → (Option Int → AS → Prop) → Prop) : Prop := ∀ (B : Bs K), WOk B ω → ∀ (F : Hp) (a : AS) (σ : St) (H : Hp) (Q : Option Int → Hp → Prop) (R : Option Int → AS → Prop), Ok B F a σ H → dp a R → (∀ o F' a' H', Go B σ F a H F' a' H' → R o a' → Q o H') → t σ H Q
def DPO {ι : Type} (X : ι → Cx) (K : PySem.W.Frag) (ω : Wp) (e : Option Expr) (dp : AS → (Option Int → AS → Prop) → Prop) : Prop := ∃ t, (∀ j, PO (X j) e t) ∧ LPO K ω t dp
theorem dpo_none : DPO X K ω none dNoPart := ⟨_, fun _ => po_none, fun B hω F a σ H Q R ok hd k => k none F a H (.refl ok) hd⟩
theorem dpo_some (h : DB X K ω e db) : DPO X K ω (some e) (dPart db) := by
  obtain ⟨t, p, l⟩ := h
  refine ⟨_, fun j => po_some (p j), fun B hω F a σ H Q R ok hd k => l B hω F a σ H _ _ ok hd fun v d F1 a1 H1 g1 q1 r1 => ?_⟩
  split at r1
  · rename_i i
    exact ⟨i, q1, k _ F1 a1 H1 g1 r1⟩
  · exact r1.elim
def cutD (ds : List D) (lo hi : Option Int) : List D := (ds.drop (HT.sIx ds.length 0 lo)).take (HT.sIx ds.length ds.length hi - HT.sIx ds.length 0 lo)
theorem cut_dat {ds : List D} {vs : List V} {lo hi : Option Int} (q : DatL K H ds vs) : DatL K H (cutD ds lo hi) (cutV vs lo hi) := by
  unfold cutD cutV
  rw [q.len]
  exact (q.drop _).take _
variable {lo hi : Option Expr} {dlo dhi : AS → (Option Int → AS → Prop) → Prop} {p2 : Pos}
def dSlL (da : DEt) (dlo dhi : AS → (Option Int → AS → Prop) → Prop) : DEt := fun a R => da a fun x a1 => dlo a1 fun l a2 => dhi a2 fun h a3 => match x with
  | .lst ds => R (.lst (cutD ds l h)) a3
  | _ => False
theorem do_slL (ha : DX X K ω e1 da) (hl : DPO X K ω lo dlo) (hh : DPO X K ω hi dhi) (hK : ∀ j, (X j).K = K := by intro _; rfl) : DO X K ω (.Subscript e1 (.Slice lo hi none p2) pos) (dSlL da dlo dhi) := by
  obtain ⟨ta, p1, l1⟩ := ha
  obtain ⟨tl, p2, l2⟩ := hl
  obtain ⟨th, p3, l3⟩ := hh
  refine ⟨tSl (rSlL K) ta tl th, fun j => by rw [← hK j]; exact pe_slice sl_list (p1 j) (p2 j) (p3 j), fun B hω F a σ H Q R ok hd k => l1 B hω F a σ H _ _ ok hd fun v d F1 a1 H1 g1 q1 r1 => l2 B hω F1 a1 σ H1 _ _ g1.ok r1 fun l F2 a2 H2 g2 r2 => l3 B hω F2 a2 σ H2 _ _ g2.ok r2 fun h F3 a3 H3 g3 r3 => ?_⟩
  split at r3
  · rename_i ds
    obtain ⟨p, vs, rfl, h1, h2⟩ := q1
    have g := Go.trans ok g1 (.trans g1.ok g2 g3)
    have s13 : Same F1 F3 := g2.ff.trans g3.ff
    exact ⟨p, vs, rfl, SqL.of (g3.ok.fi.fh _ _ (s13 _ _ h1)), fun q hq => g.list ok hq (cut_dat (h2.mono s13)) r3 k⟩
  · exact r3.elim
def dSlT (da : DEt) (dlo dhi : AS → (Option Int → AS → Prop) → Prop) : DEt := fun a R => da a fun x a1 => dlo a1 fun l a2 => dhi a2 fun h a3 => match x with
  | .tup ds => ¬ (HT.sIx ds.length 0 l = 0 ∧ HT.sIx ds.length ds.length h = ds.length) ∧ R (.tup (cutD ds l h)) a3
  | _ => False
def dSlS (da : DEt) (dlo dhi : AS → (Option Int → AS → Prop) → Prop) : DEt := fun a R => da a fun x a1 => dlo a1 fun l a2 => dhi a2 fun h a3 => match x with
  | .v (.str z) => z.length ≤ sizeLine ∧ R (.v (.str (cutS z l h))) a3
  | _ => False
/-! == and in -/
mutual
def pD : D → PyData
  | .v .non => .none
  | .v (.bl b) => .bool b
  | .v (.int i) => .int i
  | .v (.str x) => .str x
  | .tup ds => .tuple (pDs ds)
  | .ctup ds => .tuple (pDs ds)
  | .ftup ds => .tuple (pDs ds)
  | .lst ds => .list (pDs ds)
  | _ => .none
def pDs : List D → List PyData
  | [] => []
  | d :: ds => pD d :: pDs ds
end
mutual
/-- data that == compares: texts as they are written, no dicts, no objects -/
def isP : D → Bool
  | .v .non => true
  | .v (.bl _) => true
  | .v (.int _) => true
  | .v (.str x) => PyData.strOk x
  | .tup ds => isPs ds
  | .ctup ds => isPs ds
  | .ftup ds => isPs ds
  | .lst ds => isPs ds
  | _ => false
def isPs : List D → Bool
  | [] => true
  | d :: ds => isP d && isPs ds
end
mutual
theorem isP_lay : ∀ d : D, isP d = true → (pD d).canLay0 = true
  | .v .non, _ => rfl
  | .v (.bl _), _ => rfl
  | .v (.int _), _ => rfl
  | .v (.str _), h => h
  | .tup ds, h => isPs_lay ds h
  | .ctup ds, h => isPs_lay ds h
  | .ftup ds, h => isPs_lay ds h
  | .lst ds, h => isPs_lay ds h
  | .v (.byt _), h => nomatch h
  | .v (.flt _), h => nomatch h
  | .v (.ref _), h => nomatch h
  | .v (.ty _), h => nomatch h
  | .dK _, h => nomatch h
  | .dT _, h => nomatch h
  | .ins _ _, h => nomatch h
  | .ob _, h => nomatch h
  | .ow _, h => nomatch h
theorem isPs_lay : ∀ ds : List D, isPs ds = true → PyData.canLayAll0 (pDs ds) = true
  | [], _ => rfl
  | d :: ds, h => by
    obtain ⟨h1, h2⟩ := Bool.and_eq_true_iff.mp (show (isP d && isPs ds) = true from h)
    exact Bool.and_eq_true_iff.mpr ⟨isP_lay d h1, isPs_lay ds h2⟩
end
mutual
theorem dat_dp (s : Same G H) : ∀ {d : D} {x : V}, isP d = true → Dat K G d x → Dp K H x (pD d)
  | .v .non, _, _, h => by cases (show _ = V.non from h); exact .non
  | .v (.bl _), _, _, h => by cases (show _ = V.bl _ from h); exact .bl _
  | .v (.int _), _, _, h => by cases (show _ = V.int _ from h); exact .int _
  | .v (.str _), _, _, h => by cases (show _ = V.str _ from h); exact .str _
  | .tup ds, _, p, ⟨_, _, e, h, l⟩ => by cases e; exact .tup (SqT.of (s _ _ h)) (datL_dp s p l)
  | .ctup ds, _, p, ⟨_, _, e, h, l⟩ => by cases e; exact .tup (same_seqT s h) (datL_dp s p l)
  | .ftup ds, _, p, ⟨_, _, e, h, l⟩ => by cases e; exact .tup (h.mono s).sq (datL_dp s p l)
  | .lst ds, _, p, ⟨_, _, e, h, l⟩ => by cases e; exact .lst (SqL.of (s _ _ h)) (datL_dp s p l)
  | .v (.byt _), _, h, _ => nomatch h
  | .v (.flt _), _, h, _ => nomatch h
  | .v (.ref _), _, h, _ => nomatch h
  | .v (.ty _), _, h, _ => nomatch h
  | .dK _, _, h, _ => nomatch h
  | .dT _, _, h, _ => nomatch h
  | .ins _ _, _, h, _ => nomatch h
  | .ob _, _, h, _ => nomatch h
  | .ow _, _, h, _ => nomatch h
theorem datL_dp (s : Same G H) : ∀ {ds : List D} {xs : List V}, isPs ds = true → DatL K G ds xs → DpAll K H xs (pDs ds)
  | [], _, _, h => by rw [show _ = [] from h]; exact .nil
  | d :: ds, _, p, ⟨v, r, e, h, l⟩ => by
    obtain ⟨h1, h2⟩ := Bool.and_eq_true_iff.mp (show (isP d && isPs ds) = true from p)
    rw [e]
    exact .cons (dat_dp s h1 h) (datL_dp s h2 l)
end
/-- data whose == is asked -/
def okP (d : D) : Prop := isP d = true ∧ (pD d).depth ≤ 64
theorem okP.shaped {d : D} (h : okP d) : SeqAt.shaped (pD d) = true := Bool.and_eq_true_iff.mpr ⟨isP_lay d h.1, decide_eq_true h.2⟩
def nb : Bool → Bool → Bool
  | false, b => b
  | true, b => !b
def dEqB (neg : Bool) : DR := fun d e R => match d, e with
  | .v x, .v y => scal x y = true ∧ R (.v (.bl (nb neg (decide (x = y)))))
  | d, e => okP d ∧ okP e ∧ R (.v (.bl (nb neg (PyData.eqv (pD d) (pD e)))))
theorem dop_eq (hu : ∀ j, (X j).A.units + 64 < cLine) (hK : ∀ j, (X j).K = K := by intro _; rfl) : DOpR X K ω (compareOp .Eq) (dEqB false) := by
  refine ⟨fun x y H Q => rEq x y H Q ∨ rEqD K x y H Q, fun j pins s σ H x y v u Q I rx ry h => ?_, fun B hω F a σ H x y d e Q R ok hx hy hd k => ?_⟩
  · rcases h with h | h
    · exact op_eq pins s σ H x y v u Q I rx ry h
    · rw [← hK j] at h
      exact op_eqD (hu j) pins s σ H x y v u Q I rx ry h
  · unfold dEqB at hd
    split at hd
    · rw [show x = _ from hx, show y = _ from hy]
      exact .inl ⟨hd.1, k _ (.v _) F H (.refl ok) rfl hd.2⟩
    · obtain ⟨p, q, r⟩ := hd
      exact .inr ⟨_, _, dat_dp hs_same p.1 hx, dat_dp hs_same q.1 hy, p.shaped, q.shaped, k _ (.v _) F H (.refl ok) rfl r⟩
theorem dop_ne (hu : ∀ j, (X j).A.units + 64 < cLine) (hK : ∀ j, (X j).K = K := by intro _; rfl) : DOpR X K ω (compareOp .NotEq) (dEqB true) := by
  refine ⟨fun x y H Q => rNe x y H Q ∨ rNeD K x y H Q, fun j pins s σ H x y v u Q I rx ry h => ?_, fun B hω F a σ H x y d e Q R ok hx hy hd k => ?_⟩
  · rcases h with h | h
    · exact op_ne pins s σ H x y v u Q I rx ry h
    · rw [← hK j] at h
      exact op_neD (hu j) pins s σ H x y v u Q I rx ry h
  · unfold dEqB at hd
    split at hd
    · rw [show x = _ from hx, show y = _ from hy]
      exact .inl ⟨hd.1, k _ (.v _) F H (.refl ok) rfl hd.2⟩
    · obtain ⟨p, q, r⟩ := hd
      exact .inr ⟨_, _, dat_dp hs_same p.1 hx, dat_dp hs_same q.1 hy, p.shaped, q.shaped, k _ (.v _) F H (.refl ok) rfl r⟩
/-- x in a list or tuple of flat things -/
def unV : List D → Option (List V)
  | [] => some []
  | .v x :: ds => (unV ds).map (x :: ·)
  | _ :: _ => none
theorem unV_of : ∀ {ds : List D} {xs : List V}, unV ds = some xs → ds = xs.map D.v
  | [], xs, h => by cases h; rfl
  | .v x :: ds, xs, h => by
    obtain ⟨ys, h1, rfl⟩ := Option.map_eq_some_iff.mp (show (unV ds).map (x :: ·) = some xs from h)
    rw [unV_of h1]
    rfl
theorem datL_flat : ∀ {xs vs : List V}, DatL K H (xs.map D.v) vs → vs = xs
  | [], _, h => h
  | x :: xs, _, ⟨v, r, e, h, l⟩ => by rw [e, show v = x from h, datL_flat l]
def seqD : D → Option (List D)
  | .lst ds => some ds
  | .tup ds => some ds
  | .ctup ds => some ds
  | .ftup ds => some ds
  | _ => none
def dIn (neg : Bool) : DR := fun d e R => match d, (seqD e).bind unV with
  | .v x, some ys => flatV x = true ∧ ys.all flatV = true ∧ R (.v (.bl (nb neg (inV x ys))))
  | d, _ => match e with
    | .lst es => okP d ∧ okP (.lst es) ∧ R (.v (.bl (nb neg ((pDs es).any fun z => PyData.eqv z (pD d)))))
    | _ => False
theorem seqD_dat {d : D} {ds : List D} {x : V} (e : seqD d = some ds) (s : Same G H) (h : Dat K G d x) : ∃ p vs, x = .ref p ∧ (SqL K H p vs ∨ SqT K H p vs) ∧ DatL K G ds vs := by
  cases d with
  | lst es =>
    cases e
    obtain ⟨p, vs, rfl, h1, h2⟩ := h
    exact ⟨p, vs, rfl, .inl (SqL.of (s _ _ h1)), h2⟩
  | tup es =>
    cases e
    obtain ⟨p, vs, rfl, h1, h2⟩ := h
    exact ⟨p, vs, rfl, .inr (SqT.of (s _ _ h1)), h2⟩
  | ctup es =>
    cases e
    obtain ⟨p, vs, rfl, h1, h2⟩ := h
    exact ⟨p, vs, rfl, .inr (same_seqT s h1), h2⟩
  | ftup es =>
    cases e
    obtain ⟨p, vs, rfl, h1, h2⟩ := h
    exact ⟨p, vs, rfl, .inr (h1.mono s).sq, h2⟩
  | _ => cases e
end
section
variable {K : PySem.W.Frag} {ω : Wp} {B : Bs K} {F F' F1 F2 G : Hp} {a a' a1 a2 : AS} {σ σ' : St} {H H' H1 H2 : Hp} {n : Int} {te : TE} {de da db : DEt} {ι : Type} {X : ι → Cx} {e e1 e2 : Expr} {es : List Expr} {pos : Pos} {dt : DTt} {dl dm : DAt}
theorem dop_in (hu : ∀ j, (X j).A.units + 65 < cLine) (hK : ∀ j, (X j).K = K := by intro _; rfl) : DOpR X K ω (compareOp .In) (dIn false) := by
  refine ⟨fun x y H Q => rIn K false x y H Q ∨ rInD K x y H Q, fun j pins s σ H x y v u Q I rx ry h => ?_, fun B hω F a σ H x y d e Q R ok hx hy hd k => ?_⟩
  · rcases h with h | h
    · rw [← hK j] at h
      exact op_in_seq pins s σ H x y v u Q I rx ry h
    · rw [← hK j] at h
      exact op_inD (hu j) pins s σ H x y v u Q I rx ry h
  · unfold dIn at hd
    split at hd
    · rename_i w ys e
      obtain ⟨ds, e1, e2⟩ := Option.bind_eq_some_iff.mp e
      obtain ⟨p, vs, rfl, h1, h2⟩ := seqD_dat e1 hs_same hy
      rw [unV_of e2] at h2
      cases datL_flat h2
      rw [show x = w from hx]
      exact .inl ⟨p, _, rfl, h1, hd.1, hd.2.1, k _ (.v _) F H (.refl ok) rfl hd.2.2⟩
    · split at hd
      · obtain ⟨p, q, r⟩ := hd
        exact .inr ⟨_, _, dat_dp hs_same p.1 hx, dat_dp (d := .lst _) hs_same q.1 hy, p.shaped, q.shaped, k _ (.v _) F H (.refl ok) rfl r⟩
      · exact hd.elim
theorem dop_notin (hu : ∀ j, (X j).A.units + 65 < cLine) (hK : ∀ j, (X j).K = K := by intro _; rfl) : DOpR X K ω (compareOp .NotIn) (dIn true) := by
  refine ⟨fun x y H Q => rIn K true x y H Q ∨ rNotInD K x y H Q, fun j pins s σ H x y v u Q I rx ry h => ?_, fun B hω F a σ H x y d e Q R ok hx hy hd k => ?_⟩
  · rcases h with h | h
    · rw [← hK j] at h
      exact op_notIn_seq pins s σ H x y v u Q I rx ry h
    · rw [← hK j] at h
      exact op_notInD (hu j) pins s σ H x y v u Q I rx ry h
  · unfold dIn at hd
    split at hd
    · rename_i w ys e
      obtain ⟨ds, e1, e2⟩ := Option.bind_eq_some_iff.mp e
      obtain ⟨p, vs, rfl, h1, h2⟩ := seqD_dat e1 hs_same hy
      rw [unV_of e2] at h2
      cases datL_flat h2
      rw [show x = w from hx]
      exact .inl ⟨p, _, rfl, h1, hd.1, hd.2.1, k _ (.v _) F H (.refl ok) rfl hd.2.2⟩
    · split at hd
      · obtain ⟨p, q, r⟩ := hd
        exact .inr ⟨_, _, dat_dp hs_same p.1 hx, dat_dp (d := .lst _) hs_same q.1 hy, p.shaped, q.shaped, k _ (.v _) F H (.refl ok) rfl r⟩
      · exact hd.elim
/-! is None -/
def dIsN (neg : Bool) : DR := fun d e R => match e with
  | .v .non => (match d with
    | .v .non => R (.v (.bl (nb neg true)))
    | .v (.ty _) => False
    | .ob _ => False
    | _ => R (.v (.bl (nb neg false))))
  | _ => False
/-! list operators: what goes in stays -/
def LRO (K : PySem.W.Frag) (ω : Wp) (r : R2) (dr : DR) : Prop := ∀ (B : Bs K), WOk B ω → ∀ (F : Hp) (a : AS) (σ : St) (H : Hp) (x y : V) (d e : D) (Q : VK) (R : D → Prop), Ok B F a σ H → Dat K F d x → Dat K F e y → dr d e R →
  (∀ (p : Addr) (vs : List V) (ds : List D), H p = none → DatL K F ds vs → R (.lst ds) → Q (.ref p) (upd H p (.lst vs))) → r x y H Q
def dCat : DR := fun d e R => match d, e with
  | .lst ds, .lst es => ds.length + es.length ≤ sizeLine ∧ R (.lst (ds ++ es))
  | _, _ => False
theorem lr_cat : LRO K ω rCat dCat := fun B hω F a σ H x y d e Q R ok hx hy hd k => by
  unfold dCat at hd
  split at hd
  · obtain ⟨p, vs, rfl, h1, h2⟩ := hx
    obtain ⟨q, ws, rfl, h3, h4⟩ := hy
    exact ⟨p, q, vs, ws, rfl, rfl, ok.fi.fh _ _ h1, ok.fi.fh _ _ h3, by rw [h2.len, h4.len]; exact hd.1, fun u hu => k u _ _ hu (h2.app h4) hd.2⟩
  · exact hd.elim
theorem do_op {op : Operator} {dr : DR} {r : R2} (ho : ∀ j, OpR (X j) (binaryOp op) r) (l : LRO K ω r dr) (ha : DX X K ω e1 da) (hb : DX X K ω e2 db) : DO X K ω (.BinOp e1 op e2 pos) (dOp dr da db) := by
  obtain ⟨ta, p1, l1⟩ := ha
  obtain ⟨tb, p2, l2⟩ := hb
  refine ⟨_, fun j => pe_op (ho j) (p1 j) (p2 j), fun B hω F a σ H Q R ok hd k => l1 B hω F a σ H _ _ ok hd fun x d F1 a1 H1 g1 q1 r1 => l2 B hω F1 a1 σ H1 _ _ g1.ok r1 fun y e F2 a2 H2 g2 q2 r2 => ?_⟩
  exact l B hω F2 a2 σ H2 x y d e Q _ g2.ok (q1.mono g2.ff) q2 r2 fun p vs ds hp hds hR => Go.list ok (.trans ok g1 g2) hp hds hR k
theorem do_cat (ha : DX X K ω e1 da) (hb : DX X K ω e2 db) : DO X K ω (.BinOp e1 .Add e2 pos) (dOp dCat da db) := do_op (fun _ => op_cat) lr_cat ha hb
/-! built-in functions: what goes in may be borrowed, what comes out stays -/
abbrev DC := List D → (D → Prop) → Prop
def LCl (K : PySem.W.Frag) (ω : Wp) (r : List V → Hp → VK → Prop) (dc : DC) : Prop := ∀ (B : Bs K), WOk B ω → ∀ (F : Hp) (a : AS) (σ : St) (H : Hp) (xs : List V) (ds : List D) (Q : VK) (R : D → Prop), Ok B F a σ H → DatL K (Hs B.sp H) ds xs → dc ds R →
  (∀ v f F' H', Go B σ F a H F' a H' → Dat K F' f v → R f → Q v H') → r xs H Q
def DCl {ι : Type} (X : ι → Cx) (K : PySem.W.Frag) (ω : Wp) (f : Value) (dc : DC) : Prop := ∃ r, (∀ j, CallR (X j) f r) ∧ LCl K ω r dc
def dCB (dc : DC) (dl : DAt) : DEt := fun a R => dl a fun ds a' => dc ds fun d => R d a'
theorem de_callB {id : String} {x : Str} {p : Pos} {dc : DC} (hc : DCl X K ω (.builtin id) dc) (hg : ∀ j, Gl (X j) x) (hm : ∀ j, (X j).mg x = none) (hv : bootBuiltins x = some (.builtin id)) (ha : DAB X K ω (e :: es) dl) (hn : x ≠ "__name__" := by decide) (hdb : (x == ("__debug__" : Str)) = false := by decide)
    (he : ∀ j, starEach (e :: es) (X j).env = (false, eval e (X j).env) :: starEach es (X j).env := by intro _; rfl) (hpl : ∀ j, (backTo pos (starEach es (X j).env)).any (·.1) = false := by intro _; rfl) : DX X K ω (.Call (.Name x p) (e :: es) [] pos) (dCB dc dl) := by
  obtain ⟨r, h1, l1⟩ := hc
  obtain ⟨t, h2, l2⟩ := ha
  refine ⟨_, fun j => pe_callB (h1 j) (hg j) (hm j) hv (h2 j) hn hdb (he j) (hpl j), fun B hω F a σ H Q R ok hd k => l2 B hω F a σ H _ _ ok hd fun vs ds F1 a1 H1 g1 q1 r1 => ?_⟩
  exact l1 B hω F1 a1 σ H1 vs ds Q _ g1.ok q1 r1 fun v f F2 H2 g2 q2 r2 => k v f F2 a1 H2 (.trans ok g1 g2) q2 r2
theorem de_callTy {T : String} {x : Str} {p : Pos} {dc : DC} (hc : DCl X K ω (.type T) dc) (hg : ∀ j, Gl (X j) x) (hm : ∀ j, (X j).mg x = none) (hv : bootBuiltins x = some (.type T)) (ha : DAB X K ω (e :: es) dl) (hn : x ≠ "__name__" := by decide) (hdb : (x == ("__debug__" : Str)) = false := by decide)
    (he : ∀ j, starEach (e :: es) (X j).env = (false, eval e (X j).env) :: starEach es (X j).env := by intro _; rfl) (hpl : ∀ j, (backTo pos (starEach es (X j).env)).any (·.1) = false := by intro _; rfl) : DX X K ω (.Call (.Name x p) (e :: es) [] pos) (dCB dc dl) := by
  obtain ⟨r, h1, l1⟩ := hc
  obtain ⟨t, h2, l2⟩ := ha
  refine ⟨_, fun j => pe_callTy (h1 j) (hg j) (hm j) hv (h2 j) hn hdb (he j) (hpl j), fun B hω F a σ H Q R ok hd k => l2 B hω F a σ H _ _ ok hd fun vs ds F1 a1 H1 g1 q1 r1 => ?_⟩
  exact l1 B hω F1 a1 σ H1 vs ds Q _ g1.ok q1 r1 fun v f F2 H2 g2 q2 r2 => k v f F2 a1 H2 (.trans ok g1 g2) q2 r2
/-! a new list out of what stays -/
def LClO (K : PySem.W.Frag) (ω : Wp) (r : List V → Hp → VK → Prop) (dc : DC) : Prop := ∀ (B : Bs K), WOk B ω → ∀ (F : Hp) (a : AS) (σ : St) (H : Hp) (xs : List V) (ds : List D) (Q : VK) (R : D → Prop), Ok B F a σ H → DatL K F ds xs → dc ds R →
  (∀ (p : Addr) (vs : List V) (ds : List D), H p = none → DatL K F ds vs → R (.lst ds) → Q (.ref p) (upd H p (.lst vs))) → r xs H Q
theorem do_callTy {T : String} {x : Str} {p : Pos} {dc : DC} {r : List V → Hp → VK → Prop} (h1 : ∀ j, CallR (X j) (.type T) r) (l1 : LClO K ω r dc) (hg : ∀ j, Gl (X j) x) (hm : ∀ j, (X j).mg x = none) (hv : bootBuiltins x = some (.type T)) (ha : DAE X K ω (e :: es) dl) (hn : x ≠ "__name__" := by decide) (hdb : (x == ("__debug__" : Str)) = false := by decide)
    (he : ∀ j, starEach (e :: es) (X j).env = (false, eval e (X j).env) :: starEach es (X j).env := by intro _; rfl) (hpl : ∀ j, (backTo pos (starEach es (X j).env)).any (·.1) = false := by intro _; rfl) : DO X K ω (.Call (.Name x p) (e :: es) [] pos) (dCB dc dl) := by
  obtain ⟨t, h2, l2⟩ := ha
  refine ⟨_, fun j => pe_callTy (h1 j) (hg j) (hm j) hv (h2 j) hn hdb (he j) (hpl j), fun B hω F a σ H Q R ok hd k => l2 B hω F a σ H _ _ ok hd fun vs ds F1 a1 H1 g1 q1 r1 => ?_⟩
  exact l1 B hω F1 a1 σ H1 vs ds Q _ g1.ok q1 r1 fun p ws fs hp hds hR => Go.list ok g1 hp hds hR k
def dListOf : DC := fun ds R => match ds with
  | [d] => (match seqD d with
    | some es => R (.lst es)
    | none => False)
  | _ => False
theorem do_list {x : Str} {p : Pos} (hg : ∀ j, Gl (X j) x) (hm : ∀ j, (X j).mg x = none) (hv : bootBuiltins x = some (.type "list")) (ha : DAE X K ω (e :: es) dl) (hn : x ≠ "__name__" := by decide) (hdb : (x == ("__debug__" : Str)) = false := by decide)
    (he : ∀ j, starEach (e :: es) (X j).env = (false, eval e (X j).env) :: starEach es (X j).env := by intro _; rfl) (hpl : ∀ j, (backTo pos (starEach es (X j).env)).any (·.1) = false := by intro _; rfl) (hK : ∀ j, (X j).K = K := by intro _; rfl) : DO X K ω (.Call (.Name x p) (e :: es) [] pos) (dCB dListOf dl) := by
  refine do_callTy (r := fun xs H Q => ∃ p ys, xs = [.ref p] ∧ (SqL K H p ys ∨ SqT K H p ys) ∧ ∀ l, H l = none → Q (.ref l) (upd H l (.lst ys))) (fun j => by rw [← hK j]; exact call_list_of) (fun B hω F a σ H xs ds Q R ok hx hd k => ?_) hg hm hv ha hn hdb he hpl
  unfold dListOf at hd
  split at hd
  · rename_i d
    split at hd
    · rename_i es e
      obtain ⟨v, r, rfl, h1, h2⟩ := hx
      cases (show r = [] from h2)
      obtain ⟨q, vs, rfl, h3, h4⟩ := seqD_dat e ok.fi.fh h1
      exact ⟨q, vs, rfl, h3, fun l hl => k l vs es hl h4 hd⟩
    · exact hd.elim
  · exact hd.elim
/-- tuple(list), tuple(tuple): what goes in stays -/
def dTupOf (dl : DAt) : DEt := fun a R => dl a fun ds a' => match ds with
  | [.lst es] => R (.tup es) a'
  | [.tup es] => R (.tup es) a'
  | [.ctup es] => R (.ctup es) a'
  | [.ftup es] => R (.ftup es) a'
  | _ => False
theorem de_tuple {x : Str} {p : Pos} (hg : ∀ j, Gl (X j) x) (hm : ∀ j, (X j).mg x = none) (hv : bootBuiltins x = some (.type "tuple")) (ha : DAE X K ω (e :: es) dl) (hn : x ≠ "__name__" := by decide) (hdb : (x == ("__debug__" : Str)) = false := by decide)
    (he : ∀ j, starEach (e :: es) (X j).env = (false, eval e (X j).env) :: starEach es (X j).env := by intro _; rfl) (hpl : ∀ j, (backTo pos (starEach es (X j).env)).any (·.1) = false := by intro _; rfl) (hK : ∀ j, (X j).K = K := by intro _; rfl) : DX X K ω (.Call (.Name x p) (e :: es) [] pos) (dTupOf dl) := by
  obtain ⟨t, h2, l2⟩ := ha
  refine ⟨tCB (fun xs H Q => ∃ p ys, xs = [.ref p] ∧ ((SqL K H p ys ∧ ∀ l, H l = none → Q (.ref l) (upd H l (.tup ys))) ∨ (SqT K H p ys ∧ Q (.ref p) H))) t, fun j => by rw [← hK j]; exact pe_callTy call_tuple_of (hg j) (hm j) hv (h2 j) hn hdb (he j) (hpl j), fun B hω F a σ H Q R ok hd k => l2 B hω F a σ H _ _ ok hd fun vs ds F1 a1 H1 g1 q1 r1 => ?_⟩
  split at r1
  · rename_i es
    obtain ⟨v, r, rfl, h1, h2⟩ := q1
    cases (show r = [] from h2)
    obtain ⟨q, ws, rfl, h3, h4⟩ := h1
    refine ⟨q, ws, rfl, .inl ⟨SqL.of (g1.ok.fi.fh _ _ h3), fun l hl => ?_⟩⟩
    have g2 := g1.ok.new (o := .tup ws) hl
    exact k _ (.tup es) _ _ _ (.trans ok g1 g2) ⟨l, ws, rfl, upd_same, h4.mono g2.ff⟩ r1
  · rename_i es
    obtain ⟨v, r, rfl, h1, h2⟩ := q1
    cases (show r = [] from h2)
    obtain ⟨q, ws, rfl, h3, h4⟩ := h1
    exact ⟨q, ws, rfl, .inr ⟨SqT.of (g1.ok.fi.fh _ _ h3), k _ (.tup es) F1 a1 H1 g1 ⟨q, ws, rfl, h3, h4⟩ r1⟩⟩
  · rename_i es
    obtain ⟨v, r, rfl, h1, h2⟩ := q1
    cases (show r = [] from h2)
    obtain ⟨q, ws, rfl, h3, h4⟩ := h1
    exact ⟨q, ws, rfl, .inr ⟨same_seqT g1.ok.fi.fh h3, k _ (.ctup es) F1 a1 H1 g1 ⟨q, ws, rfl, h3, h4⟩ r1⟩⟩
  · rename_i es
    obtain ⟨v, r, rfl, h1, h2⟩ := q1
    cases (show r = [] from h2)
    obtain ⟨q, ws, rfl, h3, h4⟩ := h1
    exact ⟨q, ws, rfl, .inr ⟨(h3.mono g1.ok.fi.fh).sq, k _ (.ftup es) F1 a1 H1 g1 ⟨q, ws, rfl, h3, h4⟩ r1⟩⟩
  · exact r1.elim
def dLen : DC := fun ds R => match ds with
  | [.lst es] => R (.v (.int (es.length : Nat)))
  | [.tup es] => R (.v (.int (es.length : Nat)))
  | [.ctup es] => R (.v (.int (es.length : Nat)))
  | [.ftup es] => R (.v (.int (es.length : Nat)))
  | [.v (.str z)] => z.length ≤ sizeLine ∧ R (.v (.int (z.length : Nat)))
  | [.dK kvs] => R (.v (.int (kvs.length : Nat)))
  | _ => False
theorem dc_len (hK : ∀ j, (X j).K = K := by intro _; rfl) : DCl X K ω (.builtin "len") dLen := by
  refine ⟨fun xs H Q => (∃ x n, xs = [x] ∧ LenV K x H n ∧ Q (.int n) H) ∨ ∃ a kvs, xs = [V.ref a] ∧ H a = some (.dK kvs) ∧ Q (.int kvs.length) H, fun j pins s σ H xs us Q I r h => h.elim (fun h => call_len pins s σ H xs us Q I r (by rw [hK j]; exact h)) fun h => call_lenD pins s σ H xs us Q I r h, fun B hω F a σ H xs ds Q R ok hx hd k => ?_⟩
  unfold dLen at hd
  split at hd
  · obtain ⟨v, r, rfl, h1, h2⟩ := hx
    cases (show r = [] from h2)
    obtain ⟨q, ws, rfl, h3, h4⟩ := h1
    exact .inl ⟨_, ws.length, rfl, .inl ⟨ws, SqL.of (hs_same _ _ h3), rfl⟩, k _ (.v _) F H (.refl ok) rfl (by rw [h4.len]; exact hd)⟩
  · obtain ⟨v, r, rfl, h1, h2⟩ := hx
    cases (show r = [] from h2)
    obtain ⟨q, ws, rfl, h3, h4⟩ := h1
    exact .inl ⟨_, ws.length, rfl, .inr ⟨ws, SqT.of (hs_same _ _ h3), rfl⟩, k _ (.v _) F H (.refl ok) rfl (by rw [h4.len]; exact hd)⟩
  · obtain ⟨v, r, rfl, h1, h2⟩ := hx
    cases (show r = [] from h2)
    obtain ⟨q, ws, rfl, h3, h4⟩ := h1
    exact .inl ⟨_, ws.length, rfl, .inr ⟨ws, same_seqT hs_same h3, rfl⟩, k _ (.v _) F H (.refl ok) rfl (by rw [h4.len]; exact hd)⟩
  · obtain ⟨v, r, rfl, h1, h2⟩ := hx
    cases (show r = [] from h2)
    obtain ⟨q, ws, rfl, h3, h4⟩ := h1
    exact .inl ⟨_, ws.length, rfl, .inr ⟨ws, (h3.mono hs_same).sq, rfl⟩, k _ (.v _) F H (.refl ok) rfl (by rw [h4.len]; exact hd)⟩
  · obtain ⟨v, r, rfl, h1, h2⟩ := hx
    cases (show r = [] from h2)
    exact .inl ⟨_, _, rfl, by rw [show v = _ from h1]; exact ⟨hd.1, rfl⟩, k _ (.v _) F H (.refl ok) rfl hd.2⟩
  · obtain ⟨v, r, rfl, h1, h2⟩ := hx
    cases (show r = [] from h2)
    obtain ⟨q, ws, rfl, h3, h4⟩ := h1
    exact .inr ⟨q, _, rfl, hs_same _ _ h3, k _ (.v _) F H (.refl ok) rfl (by rw [← (datK_pk.mp h4).length]; exact hd)⟩
  · exact hd.elim
/-- a built-in on flat things -/
theorem dc_flat {f : Value} {r : List V → Hp → VK → Prop} {dc : DC} (h : ∀ j, CallR (X j) f r) (q : ∀ ds R, dc ds R → ∃ xs w, ds = xs.map D.v ∧ R (.v w) ∧ ∀ H Q, Q w H → r xs H Q) : DCl X K ω f dc := ⟨r, h, fun B hω F a σ H xs ds Q R ok hx hd k => by
  obtain ⟨ys, w, rfl, hR, z⟩ := q ds R hd
  cases datL_flat hx
  exact z H Q (k w (.v w) F H (.refl ok) rfl hR)⟩
def dI1 (g : Int → V) : DC := fun ds R => match ds with
  | [.v (.int i)] => R (.v (g i))
  | _ => False
def dI2 (g : Int → Int → V) : DC := fun ds R => match ds with
  | [.v (.int i), .v (.int j)] => R (.v (g i j))
  | _ => False
theorem dc_abs : DCl X K ω (.builtin "abs") (dI1 fun i => .int (if i < 0 then -i else i)) := dc_flat (fun _ => call_abs) fun ds R h => by
  unfold dI1 at h
  split at h
  · exact ⟨[.int _], _, rfl, h, fun H Q q => ⟨_, rfl, q⟩⟩
  · exact h.elim
def dInt1 : DC := fun ds R => match ds with
  | [.v (.int i)] => R (.v (.int i))
  | [.v (.bl b)] => R (.v (.int (if b then 1 else 0)))
  | _ => False
theorem dc_int : DCl X K ω (.type "int") dInt1 := dc_flat (fun _ => call_int1) fun ds R h => by
  unfold dInt1 at h
  split at h
  · exact ⟨[.int _], _, rfl, h, fun H Q q => .inl ⟨_, rfl, q⟩⟩
  · exact ⟨[.bl _], _, rfl, h, fun H Q q => .inr ⟨_, rfl, q⟩⟩
  · exact h.elim
/-- any, all: of a list of truths -/
def unB : List D → Option (List Bool)
  | [] => some []
  | .v (.bl b) :: ds => (unB ds).map (b :: ·)
  | _ :: _ => none
theorem unB_of : ∀ {ds : List D} {xs : List Bool}, unB ds = some xs → ds = (xs.map V.bl).map D.v
  | [], xs, h => by cases h; rfl
  | .v (.bl b) :: ds, xs, h => by
    obtain ⟨ys, h1, rfl⟩ := Option.map_eq_some_iff.mp (show (unB ds).map (b :: ·) = some xs from h)
    rw [unB_of h1]
    rfl
def dBs (g : List Bool → Bool) : DC := fun ds R => match ds with
  | [.lst es] => (match unB es with
    | some bs => R (.v (.bl (g bs)))
    | none => False)
  | _ => False
theorem bs_of {r : List V → Hp → VK → Prop} {g : List Bool → Bool} (h : ∀ a bs H Q, SqL K H a (bs.map V.bl) → Q (V.bl (g bs)) H → r [.ref a] H Q) : LCl K ω r (dBs g) := fun B hω F a σ H xs ds Q R ok hx hd k => by
  unfold dBs at hd
  split at hd
  · rename_i es
    split at hd
    · rename_i bs e
      obtain ⟨v, r, rfl, h1, h2⟩ := hx
      cases (show r = [] from h2)
      obtain ⟨q, ws, rfl, h3, h4⟩ := h1
      rw [unB_of e] at h4
      cases datL_flat h4
      exact h q bs H Q (SqL.of (hs_same _ _ h3)) (k _ (.v _) F H (.refl ok) rfl hd)
    · exact hd.elim
  · exact hd.elim
theorem dc_any (hc : ∀ j, (X j).calm = true) (hK : ∀ j, (X j).K = K := by intro _; rfl) : DCl X K ω (.builtin "any") (dBs fun bs => bs.any id) := ⟨rAny K, fun j => by rw [← hK j]; exact cr_any (hc j), bs_of fun a bs H Q h q => ⟨a, bs, rfl, h, q⟩⟩
theorem dc_all (hc : ∀ j, (X j).calm = true) (hK : ∀ j, (X j).K = K := by intro _; rfl) : DCl X K ω (.builtin "all") (dBs fun bs => bs.all id) := ⟨rAll K, fun j => by rw [← hK j]; exact cr_all (hc j), bs_of fun a bs H Q h q => ⟨a, bs, rfl, h, q⟩⟩
/-- a list of ints -/
def unI : List D → Option (List Int)
  | [] => some []
  | .v (.int i) :: ds => (unI ds).map (i :: ·)
  | _ :: _ => none
end
/-! ### a def over data -/
abbrev DSp := Option Addr → List D → Int → (D → Int → Prop) → Prop
/-- behind a call -/
def Post (K : PySem.W.Frag) (sp : Option Addr) (F H : Hp) (Q : VK) (d : D) (n' : Int) : Prop := ∀ (v : V) (F' H' : Hp), Same F F' → Same F' H' → (∀ b o, sp ≠ some b → H b = some o → H' b = some o) → (∀ b, F' b ≠ none → F b ≠ none ∨ H b = none ∨ ImmA F' b) →
  (∀ p, sp = some p → F' p = none ∧ Src H' p n') → Dat K F' d v → Q v H'
def up (K : PySem.W.Frag) (dsp : DSp) : Sp := fun vs H Q _ => ∃ (sp : Option Addr) (F : Hp) (ds : List D) (n : Int), Same F H ∧ (∀ p, sp = some p → F p = none ∧ Src H p n) ∧ DatL K F ds vs ∧ dsp sp ds n (Post K sp F H Q)
def dstart (N : List Str) (ds : List D) (n : Int) (sp : Option Addr) : AS := ⟨ds.map Sl.val ++ List.replicate (N.length - ds.length) .emp, n, sp⟩
theorem ok_start {K : PySem.W.Frag} {sp : Option Addr} {F H : Hp} {ds : List D} {vs : List V} {n : Int} (N : List Str) (s : Same F H) (src : ∀ p, sp = some p → F p = none ∧ Src H p n) (L : DatL K F ds vs) : Ok (K := K) ⟨sp, H, F, none⟩ F (dstart N ds n sp) (L2.start N vs) H := by
  have hl := L.len
  have own : ∀ {i : Nat} {d : D}, ¬ (dstart N ds n sp).sl[i]? = some (Sl.own d) := fun {i d} e => by
    unfold dstart at e
    rcases List.mem_append.mp (List.mem_of_getElem? e) with q | q
    · obtain ⟨x, _, z⟩ := List.mem_map.mp q
      cases z
    · cases (List.mem_replicate.mp q).2
  refine ⟨⟨s, Same.refl F, fun b h => .inl h, fun b o h _ => h, fun p e => ?_⟩, rfl, ?_, fun i d e => ?_, fun i d e => (own e).elim, fun i j p d e h _ _ _ => (own h).elim, fun _ e => nomatch e⟩
  · obtain ⟨h1, h2⟩ := src p e
    obtain ⟨xs, q⟩ := h2.at
    exact ⟨h1, by show H p ≠ none; rw [q]; exact fun z => (nomatch z), h2⟩
  · unfold dstart L2.start
    rw [List.length_append, List.length_append, List.length_map, List.length_map, List.length_replicate, List.length_replicate, hl]
  · unfold dstart at e
    by_cases hi : i < ds.length
    · rw [List.getElem?_append_left (by rw [List.length_map]; exact hi), List.getElem?_map] at e
      obtain ⟨x, h1, h2⟩ := Option.map_eq_some_iff.mp e
      cases h2
      obtain ⟨v, h3, h4⟩ := L.get h1
      refine ⟨v, ?_, h4⟩
      unfold L2.start
      rw [List.getElem?_append_left (by rw [List.length_map, hl]; exact hi), List.getElem?_map, h3]
      rfl
    · rw [List.getElem?_append_right (by rw [List.length_map]; omega)] at e
      cases (List.mem_replicate.mp (List.mem_of_getElem? e)).2
def wp0 : Wp := ⟨fun _ _ _ _ => False, fun _ _ _ _ => False, fun _ => True, false⟩
theorem wok0 {K : PySem.W.Frag} {B : Bs K} (h : B.self = none) : WOk B wp0 := ⟨trivial, fun _ => h, fun _ _ _ _ _ _ _ _ _ z => z.elim⟩
theorem d_run {K : PySem.W.Frag} {sp : Option Addr} {F H : Hp} {ds : List D} {vs : List V} {n : Int} {Q : VK} {X : Cx} {body : List Stmt} {N : List Str} {d : DSt} (h : DSs (fun _ : Unit => X) K wp0 body d) (s : Same F H) (src : ∀ p, sp = some p → F p = none ∧ Src H p n) (L : DatL K F ds vs)
    {sl : List Sl} (hsl : sl = (dstart N ds n sp).sl) (hd : d { nx := fun a => Post K sp F H Q (.v .non) a.n, rt := Post K sp F H Q } ⟨sl, n, sp⟩) : ∃ t, PSs X body t ∧ t { nx := fun _ H' => Q .non H', rt := Q } (L2.start N vs) H := by
  obtain ⟨t, p, l⟩ := h
  subst hsl
  refine ⟨t, p (), l ⟨sp, H, F, none⟩ (wok0 rfl) _ _ F _ _ H (ok_start N s src L) hd ⟨fun F' a' σ' H' ok s h => ?_, fun v d n F' H' f s q h => ?_, fun _ _ _ _ _ _ h => h.elim, fun _ _ _ _ _ _ h => h.elim⟩⟩
  · exact h .non F' H' s ok.fi.fh (fun b o n h => ok.fi.fm b o h n) (fun b h => ok.fi.fr b h) (fun p e => ⟨(ok.fi.sr p e).1, (ok.fi.sr p e).2.2⟩) rfl
  · exact h v F' H' s f.fh (fun b o n h => f.fm b o h n) (fun b h => f.fr b h) (fun p e => ⟨(f.sr p e).1, (f.sr p e).2.2⟩) q
theorem up_len {K : PySem.W.Frag} {dsp : DSp} {m : Nat} (h : ∀ sp ds n R, dsp sp ds n R → ds.length = m) (vs : List V) (H : Hp) (Q : VK) (E : XK) : up K dsp vs H Q E → vs.length = m := fun ⟨sp, F, ds, n, _, _, L, q⟩ => by
  rw [L.len]
  exact h sp ds n _ q
section
variable {K : PySem.W.Frag} {ω : Wp} {B : Bs K} {F F' F1 F2 G : Hp} {a a' a1 a2 : AS} {σ σ' : St} {H H' H1 H2 : Hp} {n : Int} {te : TE} {de da db : DEt} {ι : Type} {X : ι → Cx} {e e1 e2 : Expr} {es : List Expr} {pos : Pos} {dt : DTt} {dl dm : DAt}
/-- what follows a call: with the caller's source -/
theorem Go.call (ok : Ok B F a σ H) {n' : Int} (h1 : Same F F') (h2 : Same F' H') (h3 : ∀ b o, B.sp ≠ some b → H b = some o → H' b = some o) (h4 : ∀ b, F' b ≠ none → F b ≠ none ∨ H b = none ∨ ImmA F' b) (h5 : ∀ p, B.sp = some p → F' p = none ∧ Src H' p n') : Go B σ F a H F' ⟨a.sl, n', a.sp⟩ H' := by
  refine ⟨⟨⟨h2, ok.fi.ff.trans h1, fun b z => ?_, fun b o z w => h3 b o w (ok.fi.fm b o z w), fun p e => ⟨(h5 p e).1, (ok.fi.sr p e).2.1, (h5 p e).2⟩⟩, ok.es, ok.len, fun i d e => ?_, fun i d e => ?_, ok.ds, ok.fx⟩, h1, h3, fun b z => (h4 b z).imp id fun q => q.imp id .inr, fun b z => z⟩
  · rcases h4 b z with q | q | q
    · exact (ok.fi.fr b q).imp id fun q => q.imp id fun q => q.mono h1
    · exact .inr (.inl (ok.here q).2.1)
    · exact .inr (.inr q)
  · obtain ⟨v, e1, e2⟩ := ok.va i d e
    exact ⟨v, e1, e2.mono h1⟩
  · obtain ⟨p, o, e1, e2, e3, e4, e5⟩ := ok.ow i d e
    refine ⟨p, o, e1, h3 p o (fun z => (ok.fi.sr p z).2.1 e4) e2, ?_, e4, e5.mono h1⟩
    cases q : F' p with
    | none => rfl
    | some u =>
      rcases h4 p (by rw [q]; exact fun z => (nomatch z)) with w | w | ⟨o', w1, w2⟩
      · exact absurd e3 w
      · rw [e2] at w
        cases w
      · have z := h3 p o (fun z => (ok.fi.sr p z).2.1 e4) e2
        rw [h2 p o' w1] at z
        cases z
        rw [e5.imm] at w2
        cases w2
def dCall (dsp : DSp) (dl : DAt) : DEt := fun a R => dl a fun ds a' => dsp a'.sp ds a'.n fun d n' => R d ⟨a'.sl, n', a'.sp⟩
/-- a def that has no source -/
def dCall0 (dsp : DSp) (dl : DAt) : DEt := fun a R => dl a fun ds a' => dsp none ds 0 fun d _ => R d a'
/-- what comes out is flat: the arguments may be borrowed -/
def dCallF (dsp : DSp) (dl : DAt) : DEt := fun a R => dl a fun ds a' => dsp a'.sp ds a'.n fun d n' => isV d = true ∧ R d ⟨a'.sl, n', a'.sp⟩
def dCallF0 (dsp : DSp) (dl : DAt) : DEt := fun a R => dl a fun ds a' => dsp none ds 0 fun d _ => isV d = true ∧ R d a'
/-- sp: the promise as it stands; up dsp is at least as much -/
def Ups (K : PySem.W.Frag) (sp : Sp) (dsp : DSp) : Prop := ∀ vs H Q E, up K dsp vs H Q E → sp vs H Q E
theorem Ups.rfl {dsp : DSp} : Ups K (up K dsp) dsp := fun _ _ _ _ h => h
/-- dsp's wish may be weakened -/
def Mon (dsp : DSp) : Prop := ∀ sp ds n (R R' : D → Int → Prop), (∀ d n', R d n' → R' d n') → dsp sp ds n R → dsp sp ds n R'
theorem le_call {dsp : DSp} {s : Sp} {E : XK} {ta : TA} (m : Mon dsp) (u : Ups K s dsp) (l : LAE K ω ta dl) : LE K ω (tCall s [] E ta) (dCall dsp dl) := fun B hω F a σ H Q R ok hd k => l B hω F a σ H _ _ ok hd fun vs ds F1 a1 H1 g1 q1 r1 => by
  rw [List.append_nil]
  rw [g1.ok.es] at r1
  refine u _ _ _ _ ⟨B.sp, F1, ds, a1.n, g1.ok.fi.fh, fun p e => ⟨(g1.ok.fi.sr p e).1, (g1.ok.fi.sr p e).2.2⟩, q1, m _ _ _ _ _ (fun d n' r => ?_) r1⟩
  intro v F' H' x1 x2 x3 x4 x5 x6
  exact k v d F' _ H' (.trans ok g1 (Go.call g1.ok x1 x2 x3 x4 x5)) x6 (by rw [← g1.ok.es] at r; exact r)
theorem le_call0 {dsp : DSp} {s : Sp} {E : XK} {ta : TA} (m : Mon dsp) (u : Ups K s dsp) (l : LAE K ω ta dl) : LE K ω (tCall s [] E ta) (dCall0 dsp dl) := fun B hω F a σ H Q R ok hd k => l B hω F a σ H _ _ ok hd fun vs ds F1 a1 H1 g1 q1 r1 => by
  rw [List.append_nil]
  refine u _ _ _ _ ⟨none, F1, ds, 0, g1.ok.fi.fh, (fun p e => nomatch e), q1, m _ _ _ _ _ (fun d n' r => ?_) r1⟩
  intro v F' H' x1 x2 x3 x4 x5 x6
  have hh : Same H1 H' := fun b o h => x3 b o (fun z => nomatch z) h
  refine k v d F' a1 H' (.trans ok g1 (Go.call g1.ok x1 x2 (fun b o _ h => hh b o h) x4 fun p e => ?_)) x6 r
  obtain ⟨y1, y2, y3⟩ := g1.ok.fi.sr p e
  refine ⟨?_, y3.same hh⟩
  cases q : F' p with
  | none => rfl
  | some u =>
    rcases x4 p (by rw [q]; exact fun z => (nomatch z)) with w | w | ⟨o', w1, w2⟩
    · exact absurd y1 w
    · obtain ⟨xs, z⟩ := y3.at
      rw [z] at w
      cases w
    · obtain ⟨xs, z⟩ := (y3.same hh).at
      rw [x2 p o' w1] at z
      cases z
      cases w2
theorem le_callF {dsp : DSp} {s : Sp} {E : XK} {ta : TA} (m : Mon dsp) (u : Ups K s dsp) (l : LAB K ω ta dl) : LE K ω (tCall s [] E ta) (dCallF dsp dl) := fun B hω F a σ H Q R ok hd k => l B hω F a σ H _ _ ok hd fun vs ds F1 a1 H1 g1 q1 r1 => by
  rw [List.append_nil]
  rw [g1.ok.es] at r1
  refine u _ _ _ _ ⟨B.sp, Hs B.sp H1, ds, a1.n, hs_same, fun p e => ⟨?_, (g1.ok.fi.sr p e).2.2⟩, q1, m _ _ _ _ _ (fun d n' r => ?_) r1⟩
  · unfold Hs
    rw [if_pos e]
  intro v F' H' x1 x2 x3 x4 x5 x6
  refine k v d F1 _ H' (.trans ok g1 (Go.call g1.ok (Same.refl F1) (fun b o h => x2 _ _ (x1 _ _ (g1.ok.fi.fs b o h))) x3 (fun b z => .inl z) fun p e => ⟨(g1.ok.fi.sr p e).1, (x5 p e).2⟩)) ?_ (by rw [← g1.ok.es] at r; exact r.2)
  cases d with
  | v x => exact x6
  | _ => exact absurd r.1 Bool.false_ne_true
section
variable {CX : CXT} {k : Nat} {f : Addr} {fd : FuncData} {ps : List Str} {s : Sp} {dsp : DSp} {E : XK} {x : Str} {p : Pos}
theorem de_call (m : Mon dsp) (u : Ups K s dsp) (G : ∀ j, FnOk (X j).prog (X j).w (X j).K (X j).mg (X j).base CX k f fd ps s) (hr : ∀ j, Room k (X j).A) (hg : ∀ j, Gl (X j) x) (hm : ∀ j, (X j).mg x = some (.ref f)) (hk : ∀ j, PySem.W.keepIn (X j).K (.ref f) = true) (hb : ∀ j, Binds (X j).K fd ps []) (hx : ∀ j, Passes CX (X j) E) (ha : DAE X K ω (e :: es) dl)
    (hdb : (x == ("__debug__" : Str)) = false := by decide) (he : ∀ j, starEach (e :: es) (X j).env = (false, eval e (X j).env) :: starEach es (X j).env := by intro _; rfl) (hpl : ∀ j, (backTo pos (starEach es (X j).env)).any (·.1) = false := by intro _; rfl) : DX X K ω (.Call (.Name x p) (e :: es) [] pos) (dCall dsp dl) := by
  obtain ⟨t, h, l⟩ := ha
  exact ⟨_, fun j => pe_call (G j) (hr j) (hg j) (hm j) (hk j) (hb j) .nil (hx j) (h j) hdb (he j) (hpl j), le_call m u l⟩
theorem de_call0 (m : Mon dsp) (u : Ups K s dsp) (G : ∀ j, FnOk (X j).prog (X j).w (X j).K (X j).mg (X j).base CX k f fd ps s) (hr : ∀ j, Room k (X j).A) (hg : ∀ j, Gl (X j) x) (hm : ∀ j, (X j).mg x = some (.ref f)) (hk : ∀ j, PySem.W.keepIn (X j).K (.ref f) = true) (hb : ∀ j, Binds (X j).K fd ps []) (hx : ∀ j, Passes CX (X j) E) (ha : DAE X K ω (e :: es) dl)
    (hdb : (x == ("__debug__" : Str)) = false := by decide) (he : ∀ j, starEach (e :: es) (X j).env = (false, eval e (X j).env) :: starEach es (X j).env := by intro _; rfl) (hpl : ∀ j, (backTo pos (starEach es (X j).env)).any (·.1) = false := by intro _; rfl) : DX X K ω (.Call (.Name x p) (e :: es) [] pos) (dCall0 dsp dl) := by
  obtain ⟨t, h, l⟩ := ha
  exact ⟨_, fun j => pe_call (G j) (hr j) (hg j) (hm j) (hk j) (hb j) .nil (hx j) (h j) hdb (he j) (hpl j), le_call0 m u l⟩
theorem de_callF (m : Mon dsp) (u : Ups K s dsp) (G : ∀ j, FnOk (X j).prog (X j).w (X j).K (X j).mg (X j).base CX k f fd ps s) (hr : ∀ j, Room k (X j).A) (hg : ∀ j, Gl (X j) x) (hm : ∀ j, (X j).mg x = some (.ref f)) (hk : ∀ j, PySem.W.keepIn (X j).K (.ref f) = true) (hb : ∀ j, Binds (X j).K fd ps []) (hx : ∀ j, Passes CX (X j) E) (ha : DAB X K ω (e :: es) dl)
    (hdb : (x == ("__debug__" : Str)) = false := by decide) (he : ∀ j, starEach (e :: es) (X j).env = (false, eval e (X j).env) :: starEach es (X j).env := by intro _; rfl) (hpl : ∀ j, (backTo pos (starEach es (X j).env)).any (·.1) = false := by intro _; rfl) : DX X K ω (.Call (.Name x p) (e :: es) [] pos) (dCallF dsp dl) := by
  obtain ⟨t, h, l⟩ := ha
  exact ⟨_, fun j => pe_call (G j) (hr j) (hg j) (hm j) (hk j) (hb j) .nil (hx j) (h j) hdb (he j) (hpl j), le_callF m u l⟩
end
/-! what a for walks -/
def dItSeq (da : DEt) : DAt := fun a R => da a fun d a' => match seqD d with
  | some ds => R ds a'
  | none => False
def iSeq (K : PySem.W.Frag) (tl : TE) : TI := fun σ H R => tl σ H fun x H1 => ∃ a, x = .ref a ∧ ((∃ xs, SqL K H1 a xs ∧ R (Itl K a) H1) ∨ ∃ xs, SqT K H1 a xs ∧ R (Itt K a) H1)
theorem pi_seq {X : Cx} {tg l : Expr} {tl : TE} (hl : PE X l tl) : PI X tg l (iSeq X.K tl) := by
  refine ⟨fun pins s σ H R I h => ?_⟩
  refine thn (hl.run pins s σ H _ I h) fun v s1 ⟨x, H1, I1, r1, q1⟩ => ?_
  obtain ⟨a, e, ⟨xs, hq, q⟩ | ⟨xs, hq, q⟩⟩ := q1
  · subst e
    cases r1
    obtain ⟨its, rv, p, hz⟩ := I1.list hq
    refine wpAny_pyIter_list p.isList ?_
    refine ⟨s1.heap.objs.size, [s1.heap.objs.size], _, _, H1, rfl, I1.kept (t' := s1.toks) fun b o e => Heap.get?_push_of_some _ e, turn_list a _, ⟨_, Heap.get?_push_size _ rfl, rfl, rfl⟩, fun b hb => ?_, q⟩
    have e : b = s1.heap.objs.size := by simpa using hb
    subst e
    exact I1.fpOk (Nat.le_refl _) (I1.hok.fresh (Nat.le_refl _))
  · subst e
    cases r1
    obtain ⟨its, rv, p, hz⟩ := I1.tuple hq
    refine wpAny_pyIter_tuple (show s1.heap.IsTuple a its.toArray from p) ?_
    refine ⟨s1.heap.objs.size, [s1.heap.objs.size], _, _, H1, rfl, I1.kept (t' := s1.toks) fun b o e => Heap.get?_push_of_some _ e, turn_tuple a _, ⟨_, Heap.get?_push_size _ rfl, rfl, rfl⟩, fun b hb => ?_, q⟩
    have e : b = s1.heap.objs.size := by simpa using hb
    subst e
    exact I1.fpOk (Nat.le_refl _) (I1.hok.fresh (Nat.le_refl _))
theorem di_seq {tg : Expr} (h : DX X K ω e da) (hK : ∀ j, (X j).K = K := by intro _; rfl) : DI X K ω tg e (dItSeq da) := by
  obtain ⟨t, p, l⟩ := h
  refine ⟨iSeq K t, fun j => by rw [← hK j]; exact pi_seq (p j), fun B hω F a σ H Q R ok hd k => l B hω F a σ H _ _ ok hd fun v d F' a' H' g q r => ?_⟩
  cases d with
  | lst ds =>
    obtain ⟨x, vs, rfl, h1, h2⟩ := q
    refine ⟨x, rfl, .inl ⟨vs, SqL.of (g.ok.fi.fh _ _ h1), k (Itl K x) ds F' a' H' g (fun i F1 H1 s1 s2 => ?_) r⟩⟩
    have S : SqL K H1 x vs := SqL.of (s2 _ _ (s1 _ _ h1))
    refine ⟨fun hi => ⟨vs, S, by rw [h2.len]; exact hi⟩, fun d e => ?_⟩
    obtain ⟨v, e1, e2⟩ := h2.get e
    exact ⟨⟨vs, v, S, e1⟩, fun y H2 z => .inl ⟨z.1, by have := z.2 vs S; rw [e1] at this; rw [← Option.some.inj this]; exact e2.mono s1⟩⟩
  | tup ds =>
    obtain ⟨x, vs, rfl, h1, h2⟩ := q
    refine ⟨x, rfl, .inr ⟨vs, SqT.of (g.ok.fi.fh _ _ h1), k (Itt K x) ds F' a' H' g (fun i F1 H1 s1 s2 => ?_) r⟩⟩
    have S : SqT K H1 x vs := SqT.of (s2 _ _ (s1 _ _ h1))
    refine ⟨fun hi => ⟨vs, S, by rw [h2.len]; exact hi⟩, fun d e => ?_⟩
    obtain ⟨v, e1, e2⟩ := h2.get e
    exact ⟨⟨vs, v, S, e1⟩, fun y H2 z => .inl ⟨z.1, by have := z.2 vs S; rw [e1] at this; rw [← Option.some.inj this]; exact e2.mono s1⟩⟩
  | ctup ds =>
    obtain ⟨x, vs, rfl, h1, h2⟩ := q
    refine ⟨x, rfl, .inr ⟨vs, same_seqT g.ok.fi.fh h1, k (Itt K x) ds F' a' H' g (fun i F1 H1 s1 s2 => ?_) r⟩⟩
    have S : SqT K H1 x vs := same_seqT (s1.trans s2) h1
    refine ⟨fun hi => ⟨vs, S, by rw [h2.len]; exact hi⟩, fun d e => ?_⟩
    obtain ⟨v, e1, e2⟩ := h2.get e
    exact ⟨⟨vs, v, S, e1⟩, fun y H2 z => .inl ⟨z.1, by have := z.2 vs S; rw [e1] at this; rw [← Option.some.inj this]; exact e2.mono s1⟩⟩
  | ftup ds =>
    obtain ⟨x, vs, rfl, h1, h2⟩ := q
    refine ⟨x, rfl, .inr ⟨vs, (h1.mono g.ok.fi.fh).sq, k (Itt K x) ds F' a' H' g (fun i F1 H1 s1 s2 => ?_) r⟩⟩
    have S : SqT K H1 x vs := (h1.mono (s1.trans s2)).sq
    refine ⟨fun hi => ⟨vs, S, by rw [h2.len]; exact hi⟩, fun d e => ?_⟩
    obtain ⟨v, e1, e2⟩ := h2.get e
    exact ⟨⟨vs, v, S, e1⟩, fun y H2 z => .inl ⟨z.1, by have := z.2 vs S; rw [e1] at this; rw [← Option.some.inj this]; exact e2.mono s1⟩⟩
  | _ => exact r.elim
/-- range -/
def rngD (lo : Int) (n : Nat) : List D := (List.range n).map fun i => .v (.int (lo + (i : Nat)))
theorem rng_at {lo : Int} {n i : Nat} {d : D} (h : (rngD lo n)[i]? = some d) : i < n ∧ d = .v (.int (lo + (i : Nat))) := by
  unfold rngD at h
  rw [List.getElem?_map] at h
  obtain ⟨j, h1, h2⟩ := Option.map_eq_some_iff.mp h
  obtain ⟨h3, h4⟩ := List.getElem?_eq_some_iff.mp h1
  rw [List.getElem_range] at h4
  rw [List.length_range] at h3
  rw [← h2, ← h4]
  exact ⟨h3, rfl⟩
theorem it_rng {lo : Int} {n : Nat} : ItOk K (Itr lo n) F (rngD lo n) := fun i F1 H1 s1 s2 => by
  refine ⟨fun hi => ?_, fun d e => ?_⟩
  · unfold rngD at hi
    rw [List.length_map, List.length_range] at hi
    exact hi
  · obtain ⟨h1, rfl⟩ := rng_at e
    exact ⟨h1, fun x H' z => .inl ⟨z.1, z.2⟩⟩
def dRng1 (dl : DAt) : DAt := fun a R => dl a fun ds a' => match ds with
  | [.v (.int j)] => (-(2 ^ 62) ≤ j ∧ j < 2 ^ 62) ∧ R (rngD 0 j.toNat) a'
  | _ => False
def dRng2 (dl : DAt) : DAt := fun a R => dl a fun ds a' => match ds with
  | [.v (.int i), .v (.int j)] => (-(2 ^ 62) ≤ i ∧ i < 2 ^ 62 ∧ -(2 ^ 62) ≤ j ∧ j < 2 ^ 62) ∧ R (rngD i (j - i).toNat) a'
  | _ => False
theorem di_range1 {tg x : Expr} {p pos : Pos} (hg : ∀ j, Gl (X j) "range") (hm : ∀ j, (X j).mg "range" = none) (ha : DAB X K ω [x] dl) (hs : ∀ j, starEach [x] (X j).env = [(false, eval x (X j).env)] := by intro _; rfl) : DI X K ω tg (.Call (.Name "range" p) [x] [] pos) (dRng1 dl) := by
  obtain ⟨t, p, l⟩ := ha
  refine ⟨_, fun j => pi_range1 (hg j) (hm j) (p j) (hs j), fun B hω F a σ H Q R ok hd k => l B hω F a σ H _ _ ok hd fun vs ds F' a' H' g q r => ?_⟩
  split at r
  · rename_i j
    cases datL_flat (xs := [.int j]) q
    exact ⟨j, rfl, r.1.1, r.1.2, k _ _ F' a' H' g it_rng r.2⟩
  · exact r.elim
end
/-! ### comprehensions -/
def dWipe (a : AS) : List Nat → AS
  | [] => a
  | v :: vs => (dWipe a vs).put v .emp
theorem dWipe_n (a : AS) : ∀ vs, (dWipe a vs).n = a.n
  | [] => rfl
  | _ :: vs => dWipe_n a vs
theorem dWipe_sp (a : AS) : ∀ vs, (dWipe a vs).sp = a.sp
  | [] => rfl
  | _ :: vs => dWipe_sp a vs
section
variable {K : PySem.W.Frag} {ω : Wp} {B : Bs K} {F F' F1 F2 G : Hp} {a a' a1 a2 : AS} {σ σ' : St} {H H' H1 H2 : Hp} {n : Int} {te : TE} {de da db : DEt} {ι : Type} {X : ι → Cx} {e e1 e2 : Expr} {es : List Expr} {pos : Pos} {dt : DTt} {dl dm : DAt}
theorem Ok.forget (ok : Ok B F a σ H) (i : Nat) (o : Option V) (hi : i = 0 → B.self = none) : Ok B F (a.put i .emp) (σ.set i o) H := by
  refine ⟨ok.fi, ok.es, by show (σ.set i _).length = (a.sl.set i _).length; rw [List.length_set, List.length_set, ok.len], fun j e q => ?_, fun j e q => ?_, fun j k p e f q1 q2 q3 q4 => ?_, set_fx hi ok.fx⟩
  · rcases set_get q with ⟨rfl, z, hl⟩ | ⟨n, q⟩
    · cases z
    · obtain ⟨u, e1, e2⟩ := ok.va j e q
      exact ⟨u, by rw [List.getElem?_set_ne (Ne.symm n)]; exact e1, e2⟩
  · rcases set_get q with ⟨rfl, z, hl⟩ | ⟨n, q⟩
    · cases z
    · obtain ⟨u, ho, e1, e2⟩ := ok.ow j e q
      exact ⟨u, ho, by rw [List.getElem?_set_ne (Ne.symm n)]; exact e1, e2⟩
  · rcases set_get q1 with ⟨rfl, z, hl⟩ | ⟨n1, q1⟩
    · cases z
    rcases set_get q2 with ⟨rfl, z, hl⟩ | ⟨n2, q2⟩
    · cases z
    rw [List.getElem?_set_ne (Ne.symm n1)] at q3
    rw [List.getElem?_set_ne (Ne.symm n2)] at q4
    exact ok.ds j k p e f q1 q2 q3 q4
theorem own_forget {i : Nat} {o : Option V} {b : Addr} (h : OwnAt (a.put i .emp) (σ.set i o) b) : OwnAt a σ b := by
  obtain ⟨j, f, q1, q2⟩ := h
  rcases set_get q1 with ⟨rfl, z, _⟩ | ⟨m, q1⟩
  · cases z
  · rw [List.getElem?_set_ne (Ne.symm m)] at q2
    exact ⟨j, f, q1, q2⟩
theorem Ok.wipe (ok : Ok B F a σ H) : ∀ vs, (0 ∈ vs → B.self = none) → Ok B F (dWipe a vs) (wipe σ vs) H
  | [], _ => ok
  | v :: vs, h => (Ok.wipe ok vs fun z => h (List.mem_cons_of_mem _ z)).forget v none fun z => h (by rw [z]; exact List.mem_cons_self)
theorem own_wipe {b : Addr} : ∀ {vs : List Nat}, OwnAt (dWipe a vs) (wipe σ vs) b → OwnAt a σ b
  | [], h => h
  | _ :: _, h => own_wipe (own_forget h)
theorem wipe_out : ∀ {vs : List Nat} {j : Nat}, j ∉ vs → (wipe σ vs)[j]? = σ[j]?
  | [], _, _ => rfl
  | v :: vs, j, h => by
    rw [show wipe σ (v :: vs) = (wipe σ vs).set v none from rfl, List.getElem?_set_ne (fun z => h (by rw [z]; exact List.mem_cons_self))]
    exact wipe_out fun z => h (List.mem_cons_of_mem _ z)
theorem wipe_in : ∀ {vs : List Nat} {j : Nat}, j ∈ vs → (wipe σ vs)[j]? = if j < σ.length then some none else none
  | [], _, h => nomatch h
  | v :: vs, j, h => by
    rw [show wipe σ (v :: vs) = (wipe σ vs).set v none from rfl]
    by_cases z : v = j
    · subst z
      rw [List.getElem?_set]
      rw [if_pos rfl, wipe_length]
    · rw [List.getElem?_set_ne z]
      exact wipe_in ((List.mem_cons.mp h).resolve_left fun w => z w.symm)
theorem wipe_ext {vs : List Nat} (hl : σ'.length = σ.length) (h : ∀ j, j ∉ vs → σ'[j]? = σ[j]?) : wipe σ' vs = wipe σ vs := by
  refine List.ext_getElem? fun j => ?_
  by_cases hj : j ∈ vs
  · rw [wipe_in hj, wipe_in hj, hl]
  · rw [wipe_out hj, wipe_out hj, h j hj]
/-- what is nobody's is changed -/
theorem Ok.ext (ok : Ok B F a σ H) {p : Addr} {o : HO} (hF : F p = none) (h0 : B.H0 p = none) (hs : B.sp ≠ some p) (no : ¬ OwnAt a σ p) : Ok B F a σ (upd H p o) := by
  refine ⟨⟨fun b u h => ?_, ok.fi.ff, ok.fi.fr, fun b u h n => ?_, fun b h => ?_⟩, ok.es, ok.len, ok.va, fun j f q => ?_, ok.ds, ok.fx⟩
  · rw [upd_ne (fun z => by rw [z, hF] at h; cases h)]
    exact ok.fi.fh b u h
  · rw [upd_ne (fun z => by rw [z, h0] at h; cases h)]
    exact ok.fi.fm b u h n
  · obtain ⟨x1, x2, x3⟩ := ok.fi.sr b h
    have z : b ≠ p := fun z => hs (z ▸ h)
    exact ⟨x1, x2, x3.but ((But.refl p H).upd) z⟩
  · obtain ⟨u, ho', f1, f2, f3, f4, f5⟩ := ok.ow j f q
    have z : u ≠ p := fun z => no ⟨j, f, q, by rw [← z]; exact f1⟩
    exact ⟨u, ho', f1, by rw [upd_ne z]; exact f2, f3, f4, f5⟩
theorem unwipe {vs : List Nat} {n1 : Int} (ok : Ok B F' a' σ H') (g : Go B (wipe σ vs) F' (dWipe a' vs) H' F1 ⟨(dWipe a' vs).sl, n1, a'.sp⟩ H) : Go B σ F' a' H' F1 ⟨a'.sl, n1, a'.sp⟩ H := by
  refine ⟨⟨g.ok.fi, ok.es, ok.len, fun i d e => ?_, fun i d e => ?_, ok.ds, ok.fx⟩, g.ff, g.hh, fun b z => ?_, fun b z => z⟩
  · obtain ⟨v, e1, e2⟩ := ok.va i d e
    exact ⟨v, e1, e2.mono g.ff⟩
  · obtain ⟨p, o, e1, e2, e3, e4, e5⟩ := ok.ow i d e
    have hs : B.sp ≠ some p := fun z => (ok.fi.sr p z).2.1 e4
    refine ⟨p, o, e1, g.hh p o hs e2, ?_, e4, e5.mono g.ff⟩
    cases q : F1 p with
    | none => rfl
    | some u =>
      rcases g.fr p (by rw [q]; exact fun z => (nomatch z)) with w | w | ⟨j, f, w1, w2⟩ | ⟨o', w1, w2⟩
      · exact absurd e3 w
      · rw [e2] at w
        cases w
      · obtain ⟨p', o', x1, x2, x3, _⟩ := g.ok.ow j f w1
        rw [w2] at x1
        cases x1
        rw [x3] at q
        cases q
      · have z := g.hh p o hs e2
        rw [g.ok.fi.fh p o' w1] at z
        cases z
        rw [e5.imm] at w2
        cases w2
  · rcases g.fr b z with q | q | q
    · exact .inl q
    · exact .inr (.inl q)
    · exact .inr (.inr (q.imp own_wipe id))
/-- a clause's tests -/
def DTs (X : ι → Cx) (K : PySem.W.Frag) (ω : Wp) (ifs : List Expr) (dt : DTt) : Prop := ∃ t, (∀ j, PTs (X j) ifs t) ∧ LC K ω t dt
theorem dts_nil : DTs X K ω [] (fun a R => R true a) := ⟨_, fun _ => pts_nil, fun B hω F a σ H Q R ok hd k => k true F a H (.refl ok) hd⟩
theorem dts_one {c : Expr} (h : DT X K ω c dt) : DTs X K ω [c] dt := let ⟨_, p, l⟩ := h; ⟨_, fun j => pts_one (p j), l⟩
def dLcGo (w : List Sl) (vs : List Nat) (dg : DGt) (dt : DTt) (de : DEt) (sp : Option Addr) (R : List D → Int → Prop) : List D → List D → Int → Prop
  | [], acc, n => R acc n
  | d :: ds, acc, n => dg d ⟨w, n, sp⟩ fun a1 => dt a1 fun b a2 => bIf b (de a2 fun x a3 => (dWipe a3 vs).sl = w ∧ acc.length < sizeLine ∧ dLcGo w vs dg dt de sp R ds (acc ++ [x]) a3.n) ((dWipe a2 vs).sl = w ∧ dLcGo w vs dg dt de sp R ds acc a2.n)
def dLc (vs : List Nat) (di : DAt) (dg : DGt) (dt : DTt) (de : DEt) : DEt := fun a R => di a fun items a' => dLcGo (dWipe a' vs).sl vs dg dt de a'.sp (fun acc n => R (.lst acc) ⟨a'.sl, n, a'.sp⟩) items [] a'.n
theorem lo_lc {wi : TI} {di : DAt} {g : TG} {dg : DGt} {ws vs : List Nat} {tt : TT} {te : TE} (l1 : LI K ω wi di) (l2 : LG K ω g dg ws) (l3 : LC K ω tt dt) (l4 : LE K ω te de) (hw : ∀ i ∈ ws, i ∈ vs) (hz : ω.sf = false ∨ 0 ∉ vs) : LO K ω (tLc wi g tt te vs) (dLc vs di dg dt de) := fun B hω F a σ H Q R ok hd k => by
  refine l1 B hω F a σ H _ _ ok hd fun J items F0 a0 H0 g0 it hR => ?_
  intro D hD
  obtain ⟨nF, n0, ns, nO⟩ := g0.ok.here hD
  have hz' : 0 ∈ vs → B.self = none := fun z => hz.elim hω.2.1 fun n => absurd z n
  have okw := g0.ok.wipe vs hz'
  have ew : dWipe a0 vs = ⟨(dWipe a0 vs).sl, a0.n, a0.sp⟩ := by rw [← dWipe_n a0 vs, ← dWipe_sp a0 vs]
  have nOw : ¬ OwnAt (dWipe a0 vs) (wipe σ vs) D := fun z => nO (own_wipe z)
  have hDne : ∀ {b : Addr} {o : HO}, H0 b = some o → b ≠ D := fun h z => by rw [z, hD] at h; cases h
  generalize ew' : (dWipe a0 vs).sl = w at *
  refine ⟨fun i m H1 => ∃ F1 n1 acc ds, Go B (wipe σ vs) F0 (dWipe a0 vs) H0 F1 ⟨w, n1, a0.sp⟩ H1 ∧ F1 D = none ∧ H1 D = some (.lst acc) ∧ DatL K F1 ds acc ∧ i ≤ items.length ∧ m = items.length - i ∧ dLcGo w vs dg dt de a0.sp (fun acc n => R (.lst acc) ⟨a0.sl, n, a0.sp⟩) (items.drop i) ds n1,
    ⟨_, F0, a0.n, [], [], by rw [← ew]; exact okw.newO hD, nF, upd_same, rfl, Nat.zero_le _, rfl, hR⟩, ?_⟩
  rintro i m H1 ⟨F1, n1, acc, ds, g1, f1, h1, q1, hi, rfl, hl⟩
  by_cases hlt : i < items.length
  · have e : items[i]? = some items[i] := List.getElem?_eq_getElem hlt
    rw [List.drop_eq_getElem_cons hlt] at hl
    refine .inr ⟨((it i F1 H1 g1.ff g1.ok.fi.fh).2 _ e).1, fun H9 => ∃ m', m' < items.length - i ∧ ∃ F1 n1 acc ds, Go B (wipe σ vs) F0 (dWipe a0 vs) H0 F1 ⟨w, n1, a0.sp⟩ H9 ∧ F1 D = none ∧ H9 D = some (.lst acc) ∧ DatL K F1 ds acc ∧ i + 1 ≤ items.length ∧ m' = items.length - (i + 1) ∧ dLcGo w vs dg dt de a0.sp (fun acc n => R (.lst acc) ⟨a0.sl, n, a0.sp⟩) (items.drop (i + 1)) ds n1, fun H9 z => z, fun x H2 y => ?_⟩
    obtain ⟨F2, g2, q2⟩ := it.turn g1.ok g1.ff e y
    refine l2 B hω F2 ⟨w, n1, a0.sp⟩ (wipe σ vs) H2 x _ _ _ g2.ok q2 hl fun a3 σ3 s3 hR => ?_
    have es : wipe σ3 vs = wipe σ vs := wipe_ext (s3.ln.trans (wipe_length σ vs)) fun j hj => by rw [s3.kp j (fun z => hj (hw j z)), wipe_out hj]
    refine ⟨es, l3 B hω F2 a3 σ3 H2 _ _ s3.ok hR fun b F3 a4 H3 g3 hR => ?_⟩
    -- a way within the turn, seen from the wiped state
    have back : ∀ {F5 a5 H5}, Go B σ3 F2 a3 H2 F5 a5 H5 → (dWipe a5 vs).sl = w → Go B (wipe σ vs) F1 ⟨w, n1, a0.sp⟩ H1 F5 ⟨w, a5.n, a0.sp⟩ H5 := fun {F5 a5 H5} g5 ew5 => by
      have o5 := g5.ok.wipe vs hz'
      have e5 : dWipe a5 vs = ⟨w, a5.n, a0.sp⟩ := by rw [← ew5, ← dWipe_n a5 vs, g0.ok.es, ← g5.ok.es, ← dWipe_sp a5 vs]
      rw [es, e5] at o5
      have g2' : Go B (wipe σ vs) F2 ⟨w, n1, a0.sp⟩ H2 F5 ⟨w, a5.n, a0.sp⟩ H5 := ⟨o5, g5.ff, g5.hh, fun b z => (g5.fr b z).imp id fun z => z.imp id fun z => z.imp (s3.oo b) id, fun b z => s3.oo b (g5.oo b (own_wipe (vs := vs) (by rw [es, e5]; exact z)))⟩
      exact .trans g1.ok g2 g2'
    have still : ∀ {F5 n5 H5}, Go B (wipe σ vs) F1 ⟨w, n1, a0.sp⟩ H1 F5 ⟨w, n5, a0.sp⟩ H5 → F5 D = none ∧ H5 D = some (.lst acc) := fun {F5 n5 H5} g5 => by
      refine ⟨?_, g5.hh D _ ns h1⟩
      cases q : F5 D with
      | none => rfl
      | some u =>
        rcases g5.fr D (by rw [q]; exact fun z => (nomatch z)) with z | z | z | ⟨o', w1, w2⟩
        · exact absurd f1 z
        · rw [h1] at z
          cases z
        · exact absurd (g1.oo D z) nOw
        · have z := g5.hh D _ ns h1
          rw [g5.ok.fi.fh D o' w1] at z
          cases z
          cases w2
    refine hR.imp (fun hR => ?_) fun hR => ?_
    · refine l4 B hω F3 a4 σ3 H3 _ _ g3.ok hR fun v d F5 a5 H5 g5 q5 hR => ?_
      obtain ⟨ew5, hz, hR⟩ := hR
      have g15 := back (Go.trans s3.ok g3 g5) ew5
      obtain ⟨f5, h5⟩ := still g15
      refine ⟨acc, h5, by rw [q1.len]; exact hz, items.length - (i + 1), by omega, F5, a5.n, acc ++ [v], ds ++ [d], ?_, f5, upd_same, (q1.mono g15.ff).app (.cons q5 .nil), hlt, rfl, hR⟩
      have g05 := Go.trans okw g1 g15
      have nO5 : ¬ OwnAt ⟨w, a5.n, a0.sp⟩ (wipe σ vs) D := fun z => nOw (g05.oo D z)
      exact ⟨g05.ok.ext f5 n0 ns nO5, g05.ff, fun b o hb h => by rw [upd_ne (hDne h)]; exact g05.hh b o hb h, g05.fr, g05.oo⟩
    · obtain ⟨ew5, hR⟩ := hR
      have g15 := back g3 ew5
      obtain ⟨f5, h5⟩ := still g15
      exact ⟨items.length - (i + 1), by omega, F3, a4.n, acc, ds, .trans okw g1 g15, f5, h5, q1.mono g15.ff, hlt, rfl, hR⟩
  · have e : i = items.length := by omega
    subst e
    rw [List.drop_length] at hl
    refine .inl ⟨(it _ F1 H1 g1.ff g1.ok.fi.fh).1 (Nat.le_refl _), ?_⟩
    subst ew'
    have gu := unwipe g0.ok g1
    have hH : H D = none := by
      cases q : H D with
      | none => rfl
      | some o =>
        rw [g0.hh D o ns q] at hD
        cases hD
    exact k D _ (.lst ds) F1 _ H1 (.trans ok g0 gu) hH f1 h1 ⟨acc, rfl, q1⟩ hl
/-- the family of a comprehension's blocks -/
def blkF (X : ι → Cx) (scope : Scope) : (ι × Shared × Hp × Addr × List (Str × Addr) × List Addr) → Cx := fun q => (X q.1).blk q.2.1 q.2.2.1 scope (compEnvC scope q.2.2.2.2.1 q.2.2.2.1 (X q.1).env) q.2.2.2.2.2
theorem do_lc {elt tg iter : Expr} {ifs : List Expr} {scope : Scope} {own : List (Str × Nat)} {pos : Pos} {di : DAt} {dg : DGt} {ws : List Nat} (hc : ∀ j, (X j).calm = true) (hN : ∀ j, (X j).N.Nodup) (hi : DI X K ω tg iter di) (ok : ∀ j, BlkOk (X j).N (X j).env.scope scope own)
    (hg : DG (blkF X scope) K ω tg dg ws) (ht : DTs (blkF X scope) K ω ifs dt) (he : DX (blkF X scope) K ω elt de) (hw : ∀ i ∈ ws, i ∈ own.map (·.2) := by decide) (hs : ∀ j x, foldedSetIterable iter (X j).env x = pure x := by intro _ _; rfl) (hz : ω.sf = false ∨ 0 ∉ own.map (·.2) := by first | exact Or.inl rfl | exact Or.inr (by decide)) :
    DO X K ω (.ListComp elt [⟨tg, iter, ifs, 0⟩] scope pos) (dLc (own.map (·.2)) di dg dt de) := by
  obtain ⟨wi, p1, l1⟩ := hi
  obtain ⟨g, p2, l2⟩ := hg
  obtain ⟨tt, p3, l3⟩ := ht
  obtain ⟨te, p4, l4⟩ := he
  exact ⟨_, fun j => pe_lc (hc j) (hN j) (p1 j) (ok j) (fun s H C cl fp => p2 (j, s, H, C, cl, fp)) (fun s H C cl fp => p3 (j, s, H, C, cl, fp)) (fun s H C cl fp => p4 (j, s, H, C, cl, fp)) (hs j), lo_lc l1 l2 l3 l4 hw hz⟩
theorem ds_setLc {i : Nat} {y : Str} {py : Pos} {elt tg iter : Expr} {ifs : List Expr} {scope : Scope} {own : List (Str × Nat)} {pos spos : Pos} {di : DAt} {dg : DGt} {ws : List Nat} (hc : ∀ j, (X j).calm = true) (hN : ∀ j, (X j).N.Nodup) (hy : ∀ j, (X j).N[i]? = some y) (hyl : ∀ j, (X j).env.scope.names.lookup y = some .local)
    (hsw : ∀ j, swapsWith (.ListComp elt [⟨tg, iter, ifs, 0⟩] scope pos) (some (.Name y py)) spos.line (X j).env = pure true) (hi : DI X K ω tg iter di) (ok : ∀ j, BlkOk (X j).N (X j).env.scope scope own)
    (hg : DG (blkF X scope) K ω tg dg ws) (ht : DTs (blkF X scope) K ω ifs dt) (he : DX (blkF X scope) K ω elt de) (hw : ∀ i ∈ ws, i ∈ own.map (·.2) := by decide) (hs : ∀ j x, foldedSetIterable iter (X j).env x = pure x := by intro _ _; rfl) (hz : ω.sf = false ∨ 0 ∉ own.map (·.2) := by first | exact Or.inl rfl | exact Or.inr (by decide)) (hz0 : ω.sf = false ∨ i ≠ 0 := by first | exact Or.inl rfl | exact Or.inr (by decide)) :
    DS X K ω (.Assign [.Name y py] (.ListComp elt [⟨tg, iter, ifs, 0⟩] scope pos) spos) (dSet i (dLc (own.map (·.2)) di dg dt de)) := by
  obtain ⟨wi, p1, l1⟩ := hi
  obtain ⟨g, p2, l2⟩ := hg
  obtain ⟨tt, p3, l3⟩ := ht
  obtain ⟨te, p4, l4⟩ := he
  refine ⟨_, fun j => ps_setLc (hc j) (hN j) (hy j) (hyl j) (hsw j) (p1 j) (ok j) (fun s H C cl fp => p2 (j, s, H, C, cl, fp)) (fun s H C cl fp => p3 (j, s, H, C, cl, fp)) (fun s H C cl fp => p4 (j, s, H, C, cl, fp)) (hs j), ?_⟩
  exact fun B hω E DE F a σ H ok hd k => (lo_lc l1 l2 l3 l4 hw hz).e B hω F a σ H _ _ ok hd fun v d F' a' H' g q r => k.nx F' _ _ H' (g.ok.setV (hω.z hz0) q) g.ff r
end
/-! ### one's own lists -/
section
variable {K : PySem.W.Frag} {ω : Wp} {B : Bs K} {F F' F1 F2 G : Hp} {a a' a1 a2 : AS} {σ σ' : St} {H H' H1 H2 : Hp} {n : Int} {te : TE} {de da db : DEt} {ι : Type} {X : ι → Cx} {e e1 e2 o : Expr} {es : List Expr} {pos : Pos} {dt : DTt} {dl dm : DAt}
abbrev DM := List D → List D → (List D → D → Prop) → Prop
def LM (K : PySem.W.Frag) (r : V → List V → Hp → VK → Prop) (f : DM) : Prop := ∀ (F H : Hp) (p : Addr) (vs : List V) (ds : List D) (xs : List V) (es : List D) (Q : VK) (R : List D → D → Prop), Same F H → H p = some (.lst vs) → DatL K F ds vs → DatL K F es xs → f ds es R →
  (∀ vs' ds' w d, DatL K F ds' vs' → Dat K F d w → R ds' d → Q w (upd H p (.lst vs'))) → r (.ref p) xs H Q
def asL (s : Sl) (R : List D → Prop) : Prop := match s with
  | .own (.lst ds) => R ds
  | _ => False
theorem asL_of {s : Sl} {R : List D → Prop} (h : asL s R) : ∃ ds, s = .own (.lst ds) ∧ R ds := by
  unfold asL at h
  split at h
  · exact ⟨_, rfl, h⟩
  · exact h.elim
theorem Ok.lst (ok : Ok B F a σ H) {i : Nat} {ds : List D} (h : a.at i = .own (.lst ds)) : ∃ p vs, σ[i]? = some (some (.ref p)) ∧ H p = some (.lst vs) ∧ DatL K F ds vs ∧ a.sl[i]? = some (.own (.lst ds)) := by
  have h' := at_of' h (fun z => nomatch z)
  obtain ⟨p, ho, e1, e2, e3, e4, vs, rfl, q⟩ := ok.ow i _ h'
  exact ⟨p, vs, e1, e2, q, h'⟩
/-- o.m(..), o one's own list: what the expression gives, what the list is then -/
def dOwnE (i : Nat) (f : DM) (dl : DAt) (k : D → AS → Prop) : AS → Prop := fun a => asL (a.at i) fun _ => dl a fun es a' => asL (a'.at i) fun ds => f ds es fun ds' d => k d (a'.put i (.own (.lst ds')))
theorem own_run {r : V → List V → Hp → VK → Prop} {f : DM} {ta : TA} {i : Nat} (l : LM K r f) (la : LAE K ω ta dl) (hω : WOk B ω) (ok : Ok B F a σ H) {Q : VK} {R : D → AS → Prop} (hd : dOwnE i f dl R a)
    (k : ∀ w d F' a' H', Ok B F' a' σ H' → Same F F' → Dat K F' d w → R d a' → Q w H') : tBM K "list" r (tVar i) ta σ H Q := by
  obtain ⟨ds0, e0, hd⟩ := asL_of hd
  obtain ⟨p, vs0, s0, h0, q0, _⟩ := ok.lst e0
  refine ⟨_, s0, .inl ⟨rfl, vs0, SqL.of h0⟩, la B hω F a σ H _ _ ok hd fun xs es F1 a1 H1 g1 q1 r1 => ?_⟩
  obtain ⟨ds1, e1, hd1⟩ := asL_of r1
  obtain ⟨p', vs1, s1, h1, q2, e2⟩ := g1.ok.lst e1
  rw [s0] at s1
  cases s1
  exact l F1 H1 p vs1 ds1 xs es Q _ g1.ok.fi.fh h1 q2 q1 hd1 fun vs' ds' w d q3 q4 r => k w d F1 _ _ (g1.ok.chg (e := .lst ds') e2 s0 ⟨vs', rfl, q3⟩) g1.ff q4 r
variable {name : Str} {apos cpos : Pos} {T id : String} {r : V → List V → Hp → VK → Prop} {f : DM} {i : Nat}
def dOwn (i : Nat) (f : DM) (dl : DAt) : DSt := fun E => dOwnE i f dl fun _ a => E.nx a
theorem ds_own (pa : PlainAttrs "list") (slot : Slot "list" name id) (hty : typeOf (.builtin id) = pure (.type "method_descriptor")) (hm : ∀ j, MtR (X j) id r) (l : LM K r f) (ho : ∀ j, PE (X j) o (tVar i)) (ha : DAE X K ω (e :: es) dl)
    (hs : ∀ j, swapsWith (.Call (.Attribute o name apos) (e :: es) [] cpos) none pos.line (X j).env = pure false := by intro _; rfl)
    (hbase : ∀ j, attributeBase o name (X j).env (eval o (X j).env) = eval o (X j).env := by intro _; rfl)
    (hfew : ∀ j, ((backTo cpos (starEach (e :: es) (X j).env)).all (fun x => !x.1) && (backToKw cpos (keywordEach [] (X j).env)).all (fun x => x.1.isSome)
      && decide ((e :: es).length + ([] : List Keyword).length + (if ([] : List Keyword).isEmpty then 0 else 1) < 30)) = true := by intro _; rfl)
    (hline : (apos.endLine == cpos.line) = true := by rfl) (hst : ∀ j, starEach (e :: es) (X j).env = (false, eval e (X j).env) :: starEach es (X j).env := by intro _; rfl) (hplain : ∀ j, (backTo cpos (starEach es (X j).env)).any (·.1) = false := by intro _; rfl) (hK : ∀ j, (X j).K = K := by intro _; rfl) :
    DS X K ω (.Expr (.Call (.Attribute o name apos) (e :: es) [] cpos) pos) (dOwn i f dl) := by
  obtain ⟨t, p, la⟩ := ha
  exact ⟨tDrop (tBM K "list" r (tVar i) t), fun j => by rw [← hK j]; exact ps_expr (pe_bm pa slot hty (hm j) (ho j) (p j) (hbase j) (hfew j) hline (hst j) (hplain j)) (hs j), fun B hω E DE F a σ H ok hd k => own_run l la hω ok hd fun w d F' a' H' ok' s _ r => k.nx F' a' σ H' ok' s r⟩
/-- x = o.m(..) -/
def dSetOwn (x i : Nat) (f : DM) (dl : DAt) : DSt := fun E => dOwnE i f dl fun d a => E.nx (a.put x (.val d))
/-! the methods -/
def mAppend : DM := fun ds es R => match es with
  | [d] => ds.length < sizeLine ∧ R (ds ++ [d]) (.v .non)
  | _ => False
theorem lm_append : LM K rAppend mAppend := fun F H p vs ds xs es Q R s h q1 q2 hd k => by
  unfold mAppend at hd
  split at hd
  · obtain ⟨v, r, rfl, h1, h2⟩ := q2
    cases (show r = [] from h2)
    exact ⟨p, vs, v, rfl, rfl, h, by rw [q1.len]; exact hd.1, k _ _ _ (.v _) (q1.app (.cons h1 .nil)) rfl hd.2⟩
  · exact hd.elim
def mExtend : DM := fun ds es R => match es with
  | [.lst fs] => ds.length + fs.length ≤ sizeLine ∧ R (ds ++ fs) (.v .non)
  | _ => False
def mInsert : DM := fun ds es R => match es with
  | [.v (.int i), d] => ds.length < sizeLine ∧ (0 ≤ i ∧ i < 2 ^ 63) ∧ R (ds.take i.toNat ++ [d] ++ ds.drop i.toNat) (.v .non)
  | _ => False
def mPop : DM := fun ds es R => match es, ds[ds.length - 1]? with
  | [], some d => R ds.dropLast d
  | _, _ => False
def mPopAt : DM := fun ds es R => match es with
  | [.v (.int i)] => (-(2 ^ 63) ≤ i ∧ i < 2 ^ 63) ∧ (match seqIndex? i ds.length with
    | some k => opt ds[k]? fun d => R (ds.eraseIdx k) d
    | none => False)
  | _ => False
/-- o[k] = e, o one's own list -/
def dSetIx (i : Nat) (de dk : DEt) : DSt := fun E a => de a fun d a1 => asL (a1.at i) fun _ => dk a1 fun x a2 => asL (a2.at i) fun ds => match x with
  | .v (.int k) => (match ixN ds.length k with
    | some j => E.nx (a2.put i (.own (.lst (ds.set j d))))
    | none => False)
  | _ => False
end
local macro_rules | `(tactic| walk_at "om") => `(tactic| ((try dsimp only [AS.put]); omega))
/-! ### a law's own defs: with a source, with none -/
def fsp0 {α β : Type} (A : α → List D) (P : α → Prop) (Po : α → β → Prop) (O : β → D) : DSp := fun _ ds n R => ∃ x, ds = A x ∧ P x ∧ ∀ y, Po x y → R (O y) n
theorem fsp0.mon {α β : Type} {A : α → List D} {P : α → Prop} {Po : α → β → Prop} {O : β → D} : Mon (fsp0 A P Po O) := fun sp ds n R R' h ⟨x, h2, h3, h5⟩ => ⟨x, h2, h3, fun y hy => h _ _ (h5 y hy)⟩
abbrev sD (p : Addr) : D := .v (.ref p)
abbrev eI (i : Int) : D := .v (.int i)
abbrev eS (x : Str) : D := .v (.str x)
abbrev eB (b : Bool) : D := .v (.bl b)
abbrev eN : D := .v .non
/-! loops by an invariant -/
theorem dLoop_inv {dg : DGt} {db : DSt} {E : DEnds} : ∀ {items : List D} {a : AS} (J : Nat → AS → Prop), J 0 a →
    (∀ i d a (N : AS → Prop), items[i]? = some d → J i a → (∀ a', J (i + 1) a' → N a') → dg d a fun a1 => db { E with nx := N, ct := N, bk := E.nx } a1) → (∀ a, J items.length a → E.nx a) → dLoop dg db E items a
  | [], a, J, h0, _, hd => hd a h0
  | d :: ds, a, J, h0, hs, hd => hs 0 d a _ rfl h0 fun a' h => dLoop_inv (fun i => J (i + 1)) h (fun i d a N e => hs (i + 1) d a N e) hd
theorem rng_len {lo : Int} {n : Nat} : (rngD lo n).length = n := by
  unfold rngD
  rw [List.length_map, List.length_range]
/-- a comprehension by an invariant over its list and the draws -/
theorem dLc_inv {w : List Sl} {vs : List Nat} {dg : DGt} {dt : DTt} {de : DEt} {sp : Option Addr} {R : List D → Int → Prop} : ∀ {items acc : List D} {n : Int} (J : Nat → List D → Int → Prop), J 0 acc n →
    (∀ i d acc n (N : List D → Int → Prop), items[i]? = some d → J i acc n → (∀ acc' n', J (i + 1) acc' n' → N acc' n') → dg d ⟨w, n, sp⟩ fun a1 => dt a1 fun b a2 => bIf b (de a2 fun x a3 => (dWipe a3 vs).sl = w ∧ acc.length < sizeLine ∧ N (acc ++ [x]) a3.n) ((dWipe a2 vs).sl = w ∧ N acc a2.n)) →
    (∀ acc n, J items.length acc n → R acc n) → dLcGo w vs dg dt de sp R items acc n
  | [], acc, n, J, h0, _, hd => hd acc n h0
  | d :: ds, acc, n, J, h0, hs, hd => hs 0 d acc n _ rfl h0 fun acc' n' h => dLc_inv (fun i => J (i + 1)) h (fun i d acc n N e => hs (i + 1) d acc n N e) hd
theorem hr65 {k : Nat} {A : Around} (hr : Room k A) : A.units + 65 < cLine := by
  have := hr.un
  omega
/-- the law: its first statement makes the source -/
theorem law_run {K : PySem.W.Frag} {X : Cx} {st : Stmt} {rest : List Stmt} {N : List Str} {E : XK} {d : DSt} {a : Addr} {ns : List Int} {H : Hp} {Q : VK} (h1 : PS X st (tAsg (tCall (spSource K) [] E (tCons (tVar 0) tNil)) (gName 1))) (h : DSs (fun _ : Unit => X) K wp0 rest d) (hS : SqL K H a (ns.map V.int)) (hN : 2 ≤ N.length)
    (k : ∀ H', Q (.bl true) H') (hd : ∀ p, d { nx := fun _ => False, rt := fun d _ => d = .v (.bl true) } ⟨(List.replicate N.length .emp).set 1 (.val (sD p)), 0, some p⟩) : ∃ t, PSs X (st :: rest) t ∧ t { nx := fun _ H' => Q .non H', rt := Q } (L2.start N [.ref a]) H := by
  obtain ⟨t, p, l⟩ := h
  refine ⟨_, pss_cons h1 (p ()), ?_⟩
  refine ⟨.ref a, rfl, a, ns, rfl, hS, fun q H' hq s S => ?_⟩
  obtain ⟨xs, hx⟩ := S.at
  have own : ∀ {i : Nat} {d : D}, ¬ ((List.replicate N.length Sl.emp).set 1 (.val (sD q)))[i]? = some (Sl.own d) := fun {i d} e => by
    rcases set_get e with ⟨_, z, _⟩ | ⟨_, z⟩
    · cases z
    · cases (List.mem_replicate.mp (List.mem_of_getElem? z)).2
  refine l ⟨some q, H', Hs (some q) H', none⟩ (wok0 rfl) _ _ (Hs (some q) H') _ _ H' ⟨⟨hs_same, Same.refl _, fun b h => .inl h, fun b o h _ => h, fun b e => ?_⟩, rfl, ?_, fun i d e => ?_, fun i d e => (own e).elim, fun i j p d e h _ _ _ => (own h).elim, fun _ e => nomatch e⟩ (hd q) ⟨fun _ _ _ _ _ _ h => h.elim, fun v d n F' H'' _ _ hv e => ?_, fun _ _ _ _ _ _ h => h.elim, fun _ _ _ _ _ _ h => h.elim⟩
  · cases e
    refine ⟨?_, by show H' q ≠ none; rw [hx]; exact fun z => (nomatch z), S⟩
    unfold Hs
    rw [if_pos rfl]
  · unfold L2.start
    rw [List.length_set, List.length_append, List.length_replicate, List.length_set, List.length_replicate]
    show 1 + (N.length - 1) = N.length
    omega
  · rcases set_get e with ⟨rfl, z, hl⟩ | ⟨_, z⟩
    · cases z
      refine ⟨.ref q, List.getElem?_set_self ?_, rfl⟩
      unfold L2.start
      rw [List.length_append, List.length_replicate]
      show 1 < 1 + (N.length - 1)
      omega
    · cases (List.mem_replicate.mp (List.mem_of_getElem? z)).2
  · subst e
    rw [show v = .bl true from hv]
    exact k H''
section
variable {K : PySem.W.Frag} {ω : Wp} {B : Bs K} {F F' F1 F2 G : Hp} {a a' a1 a2 : AS} {σ σ' : St} {H H' H1 H2 : Hp} {n : Int} {te : TE} {de da db dc : DEt} {ι : Type} {X : ι → Cx} {e e1 e2 o : Expr} {es : List Expr} {pos : Pos} {dt : DTt} {dl dm : DAt}
/-! tuples put together, cut -/
def dCatTE (da db : DEt) : DEt := fun a R => da a fun x a1 => db a1 fun y a2 => match x, y with
  | .tup ds, .tup es => ds ≠ [] ∧ es ≠ [] ∧ ds.length + es.length ≤ sizeLine ∧ R (.tup (ds ++ es)) a2
  | _, _ => False
variable {lo hi : Option Expr} {dlo dhi : AS → (Option Int → AS → Prop) → Prop} {p2 : Pos}
/-- a list, many times -/
def dRep : DR := fun d e R => match d, e with
  | .lst ds, .v (.int k) => (-(2 ^ 63) ≤ k ∧ k < 2 ^ 63 ∧ ds.length * k.toNat ≤ sizeLine) ∧ R (.lst (List.replicate k.toNat ds).flatten)
  | _, _ => False
/-! what a for walks: enumerate, zip, the signs of a text -/
def enumD (ds : List D) (i : Nat) : List D := (ds.zipIdx i).map fun p => .tup [.v (.int (p.2 : Nat)), p.1]
def dEnum (dl : DAt) : DAt := fun a R => dl a fun xs a' => match xs with
  | [.lst ds] => R (enumD ds 0) a'
  | _ => False
def zipD : List D → List D → List D
  | x :: xs, y :: ys => .tup [x, y] :: zipD xs ys
  | _, _ => []
def dZip (dl : DAt) : DAt := fun a R => dl a fun xs a' => match xs with
  | [.lst ds, .lst es] => R (zipD ds es) a'
  | _ => False
def signsD (z : Str) : List D := z.cps.toList.map fun c => .v (.str ⟨#[c]⟩)
def dStr (de : DEt) : DAt := fun a R => de a fun d a' => match d with
  | .v (.str z) => R (signsD z) a'
  | _ => False
theorem di_str {tg : Expr} (h : DX X K ω e de) : DI X K ω tg e (dStr de) := by
  obtain ⟨t, p, l⟩ := h
  refine ⟨_, fun j => pi_str (p j), fun B hω F a σ H Q R ok hd k => l B hω F a σ H _ _ ok hd fun v d F' a' H' g q r => ?_⟩
  split at r
  · rename_i z
    refine ⟨z, q, k (Its z) _ F' a' H' g (fun i F1 H1 s1 s2 => ⟨fun hi => ?_, fun d e => ?_⟩) r⟩
    · unfold signsD at hi
      rw [List.length_map, Array.length_toList] at hi
      exact hi
    · unfold signsD at e
      rw [List.getElem?_map] at e
      obtain ⟨c, h1, rfl⟩ := Option.map_eq_some_iff.mp e
      rw [Array.getElem?_toList] at h1
      refine ⟨(Array.getElem?_eq_some_iff.mp h1).1, fun x H2 ⟨h2, c', h3, h4⟩ => .inl ⟨h2, ?_⟩⟩
      rw [h1] at h3
      cases h3
      exact h4
  · exact r.elim
/-! texts -/
def unS : List D → Option (List Str)
  | [] => some []
  | .v (.str x) :: ds => (unS ds).map (x :: ·)
  | _ :: _ => none
def dJoin (da db : DEt) : DEt := fun a R => da a fun x a1 => match x with
  | .v (.str z) => db a1 fun y a2 => (match (seqD y).bind unS with
    | some ys => (ys.map (·.length)).sum + ys.length * z.length ≤ 16777216 ∧ R (.v (.str (Txt.join z ys))) a2
    | none => False)
  | _ => False
def dSplit (da db : DEt) : DEt := fun a R => da a fun x a1 => match x with
  | .v (.str z) => db a1 fun y a2 => (match y with
    | .v (.str s) => ((s.length == 0) = false ∧ z.length + 2 ≤ sizeLine) ∧ R (.lst ((Txt.split z s).map fun w => D.v (V.str w))) a2
    | _ => False)
  | _ => False
/-! isinstance with written classes -/
inductive Ty where
  | non | bl | int | str | lst | tup | dic
deriving DecidableEq
def Ty.nm : Ty → String
  | .non => "NoneType"
  | .bl => "bool"
  | .int => "int"
  | .str => "str"
  | .lst => "list"
  | .tup => "tuple"
  | .dic => "dict"
def Ty.sub : Ty → Ty → Bool
  | .non, .non => true
  | .bl, .bl => true
  | .bl, .int => true
  | .int, .int => true
  | .str, .str => true
  | .lst, .lst => true
  | .tup, .tup => true
  | .dic, .dic => true
  | _, _ => false
theorem kit_tab (t u : Ty) (h : u ≠ .non) : kitB t.nm u.nm = some (t.sub u) := by
  cases u with
  | non => exact absurd rfl h
  | _ => cases t <;> decide +kernel
/-- a thing's built-in class -/
def tyD : D → Option Ty
  | .v .non => some .non
  | .v (.bl _) => some .bl
  | .v (.int _) => some .int
  | .v (.str _) => some .str
  | .lst _ => some .lst
  | .tup _ => some .tup
  | .ctup _ => some .tup
  | .ftup _ => some .tup
  | .dK _ => some .dic
  | .dT _ => some .dic
  | _ => none
theorem tyD_of {d : D} {x : V} {t : Ty} (s : Same G H) (h : Dat K G d x) (e : tyD d = some t) : TyX K H x (.type t.nm) := by
  cases d with
  | v y =>
    rw [show x = y from h]
    cases y with
    | non => cases e; exact .base .non
    | bl b => cases e; exact .base (.bl b)
    | int b => cases e; exact .base (.int b)
    | str b => cases e; exact .base (.str b)
    | _ => cases e
  | tup ds =>
    cases e
    obtain ⟨a, vs, rfl, h1, _⟩ := h
    exact .base (.tup (s _ _ h1))
  | ctup ds =>
    cases e
    obtain ⟨a, vs, rfl, h1, _⟩ := h
    rcases h1 with (h1 | ⟨o, h1⟩) | ⟨o, its, n, h1, h2, _⟩
    · exact .base (.tup (s _ _ h1))
    · exact .fTuple (s _ _ h1)
    · exact .kTuple h1 h2
  | ftup ds =>
    cases e
    obtain ⟨a, vs, rfl, ⟨o, h1, _⟩, _⟩ := h
    exact .fTuple (s _ _ h1)
  | lst ds =>
    cases e
    obtain ⟨a, vs, rfl, h1, _⟩ := h
    exact .base (.lst (s _ _ h1))
  | dK ds =>
    cases e
    obtain ⟨a, vs, rfl, h1, _⟩ := h
    exact .base (.dK (s _ _ h1))
  | dT ds =>
    cases e
    obtain ⟨a, vs, rfl, h1, _⟩ := h
    exact .base (.dT (s _ _ h1))
  | ins _ _ => cases e
  | ob _ => cases e
  | ow _ => cases e
def dIsi (u : Ty) (de : DEt) : DEt := fun a R => de a fun d a' => match tyD d with
  | some t => R (.v (.bl (t.sub u))) a'
  | none => False
theorem de_isi (u : Ty) {x y : Str} {p p' : Pos} (hu : u ≠ .non) (hg : ∀ j, Gl (X j) x) (hm : ∀ j, (X j).mg x = none) (hx : x = "isinstance") (hg' : ∀ j, Gl (X j) y) (hm' : ∀ j, (X j).mg y = none) (hy : bootBuiltins y = some (.type u.nm)) (ha : DB X K ω e de)
    (hn : y ≠ "__name__" := by decide) (hd : (y == ("__debug__" : Str)) = false := by decide) (hs1 : ∀ j, starEach [e, .Name y p'] (X j).env = (false, eval e (X j).env) :: starEach [.Name y p'] (X j).env := by intro _; rfl) (hs2 : ∀ j, starEach [.Name y p'] (X j).env = (false, eval (.Name y p') (X j).env) :: starEach [] (X j).env := by intro _; rfl)
    (hpl : ∀ j, (backTo pos (starEach [.Name y p'] (X j).env)).any (·.1) = false := by intro _; rfl) (hK : ∀ j, (X j).K = K := by intro _; rfl) : DX X K ω (.Call (.Name x p) [e, .Name y p'] [] pos) (dIsi u de) := by
  obtain ⟨t, p1, l⟩ := ha
  subst hx
  refine ⟨tCB (rIsi K) (tCons t (tCons (tC (.ty u.nm)) tNil)), fun j => by rw [← hK j]; exact pe_callB call_isi (hg j) (hm j) (by decide +kernel) (pa_cons (p1 j) (pa_cons (pe_bltn (hg' j) (hm' j) hy rfl hn hd) pa_nil (hs2 j)) (hs1 j)) (by decide) (by decide) (hs1 j) (hpl j), fun B hω F a σ H Q R ok hd k => l B hω F a σ H _ _ ok hd fun v d F1 a1 H1 g1 q1 r1 => ?_⟩
  split at r1
  · rename_i t e
    exact ⟨v, _, _, _, _, rfl, .ty _, tyD_of hs_same q1 e, by rw [kit_ty]; exact kit_tab t u hu, k _ (.v _) F1 a1 H1 g1 rfl r1⟩
  · exact r1.elim
def dIsi2 (u u' : Ty) (de : DEt) : DEt := fun a R => de a fun d a' => match tyD d with
  | some t => R (.v (.bl (t.sub u || t.sub u'))) a'
  | none => False
theorem de_isi2 (u u' : Ty) {x y z : Str} {p p1 p2 p3 : Pos} {k0} (hu : u ≠ .non) (hu' : u' ≠ .non) (hg : ∀ j, Gl (X j) x) (hm : ∀ j, (X j).mg x = none) (hx : x = "isinstance") (hg' : ∀ j, Gl (X j) y) (hm' : ∀ j, (X j).mg y = none) (hy : bootBuiltins y = some (.type u.nm)) (hg'' : ∀ j, Gl (X j) z) (hm'' : ∀ j, (X j).mg z = none) (hz : bootBuiltins z = some (.type u'.nm)) (ha : DB X K ω e de)
    (hn : y ≠ "__name__" := by decide) (hd : (y == ("__debug__" : Str)) = false := by decide) (hn' : z ≠ "__name__" := by decide) (hd' : (z == ("__debug__" : Str)) = false := by decide)
    (hs1 : ∀ j, starEach [e, .Tuple [.Name y p1, .Name z p2] k0 p3] (X j).env = (false, eval e (X j).env) :: starEach [.Tuple [.Name y p1, .Name z p2] k0 p3] (X j).env := by intro _; rfl) (hs2 : ∀ j, starEach [.Tuple [.Name y p1, .Name z p2] k0 p3] (X j).env = (false, eval (.Tuple [.Name y p1, .Name z p2] k0 p3) (X j).env) :: starEach [] (X j).env := by intro _; rfl)
    (hs3 : ∀ j, starEach [.Name y p1, .Name z p2] (X j).env = (false, eval (.Name y p1) (X j).env) :: starEach [.Name z p2] (X j).env := by intro _; rfl) (hs4 : ∀ j, starEach [.Name z p2] (X j).env = (false, eval (.Name z p2) (X j).env) :: starEach [] (X j).env := by intro _; rfl)
    (hpl : ∀ j, (backTo pos (starEach [.Tuple [.Name y p1, .Name z p2] k0 p3] (X j).env)).any (·.1) = false := by intro _; rfl) (hK : ∀ j, (X j).K = K := by intro _; rfl) : DX X K ω (.Call (.Name x p) [e, .Tuple [.Name y p1, .Name z p2] k0 p3] [] pos) (dIsi2 u u' de) := by
  obtain ⟨t, q, l⟩ := ha
  subst hx
  refine ⟨tCB (rIsiT K) (tCons t (tCons (tTup (tCons (tC (.ty u.nm)) (tCons (tC (.ty u'.nm)) tNil))) tNil)), fun j => by rw [← hK j]; exact pe_callB call_isiT (hg j) (hm j) (by decide +kernel) (pa_cons (q j) (pa_cons (pe_tup (pa_cons (pe_bltn (hg' j) (hm' j) hy rfl hn hd) (pa_cons (pe_bltn (hg'' j) (hm'' j) hz rfl hn' hd') pa_nil (hs4 j)) (hs3 j))) pa_nil (hs2 j)) (hs1 j)) (by decide) (by decide) (hs1 j) (hpl j), fun B hω F a σ H Q R ok hd k => l B hω F a σ H _ _ ok hd fun v d F1 a1 H1 g1 q1 r1 => ?_⟩
  split at r1
  · rename_i t e
    refine ⟨by show 2 ≤ sizeLine; decide, fun u0 hu0 => ?_⟩
    have g2 := g1.ok.new (o := .tup [.ty u.nm, .ty u'.nm]) hu0
    refine ⟨v, u0, _, _, _, t.sub u || t.sub u', rfl, upd_same, .cons (.ty _) (.cons (.ty _) .nil), tyD_of hs_same (q1.mono g2.bs) e, ?_, k _ (.v _) _ a1 _ (.trans ok g1 g2) rfl r1⟩
    refine kitAny_cons (by rw [kit_ty]; exact kit_tab t u hu) (fun h => ?_) fun h => by rw [h]; rfl
    rw [h]
    refine kitAny_cons (by rw [kit_ty]; exact kit_tab t u' hu') (fun h => ?_) fun h => by rw [h]; rfl
    rw [h]
    exact kitAny_nil
  · exact r1.elim
end
/-! ### dicts, and what parts of one's own tell -/
section
variable {K : PySem.W.Frag} {ω : Wp} {B : Bs K} {F F' F1 F2 G : Hp} {a a' a1 a2 : AS} {σ σ' : St} {H H' H1 H2 : Hp} {n : Int} {te : TE} {de da db dc : DEt} {ι : Type} {X : ι → Cx} {e e1 e2 e3 o : Expr} {es : List Expr} {pos : Pos} {dt : DTt} {dl dm : DAt}
/-- what stays, or one's own with parts that stay -/
def PrtS (K : PySem.W.Frag) (sp : Option Addr) (F H : Hp) (d : D) (v : V) : Prop := Dat K F d v ∨ ∃ p o, v = .ref p ∧ H p = some o ∧ sp ≠ some p ∧ Rep K F p d o
def LPS (K : PySem.W.Frag) (ω : Wp) (te : TE) (de : DEt) : Prop := ∀ (B : Bs K), WOk B ω → ∀ (F : Hp) (a : AS) (σ : St) (H : Hp) (Q : VK) (R : D → AS → Prop), Ok B F a σ H → de a R →
  (∀ v d F' a' H', Go B σ F a H F' a' H' → PrtS K B.sp F' H' d v → R d a' → Q v H') → te σ H Q
def DPS {ι : Type} (X : ι → Cx) (K : PySem.W.Frag) (ω : Wp) (e : Expr) (de : DEt) : Prop := ∃ te, (∀ j, PE (X j) e te) ∧ LPS K ω te de
theorem PrtS.go {d : D} {v : V} (h : PrtS K B.sp F H d v) (g : Go B σ F a H F' a' H') : PrtS K B.sp F' H' d v := by
  rcases h with h | ⟨p, o, rfl, h1, h2, h3⟩
  · exact .inl (h.mono g.ff)
  · exact .inr ⟨p, o, rfl, g.hh p o h2 h1, h2, h3.mono g.ff⟩
theorem LE.p (h : LE K ω te de) : LPS K ω te de := fun B hω F a σ H Q R ok hd k => h B hω F a σ H Q R ok hd fun v d F' a' H' g q r => k v d F' a' H' g (.inl q) r
theorem DX.p (h : DX X K ω e de) : DPS X K ω e de := let ⟨t, p, l⟩ := h; ⟨t, p, l.p⟩
theorem lp_var {i : Nat} : LPS K ω (tVar i) (dVarB i) := fun B hω F a σ H Q R ok hd k => by
  unfold dVarB at hd
  cases e : a.at i with
  | emp => rw [e] at hd; exact hd.elim
  | val d =>
    rw [e] at hd
    obtain ⟨v, h1, h2⟩ := ok.va i d (at_of' e (fun z => nomatch z))
    exact ⟨v, h1, k v d F a H (.refl ok) (.inl h2) hd⟩
  | own d =>
    rw [e] at hd
    obtain ⟨p, o, h1, h2, h3, h4, h5⟩ := ok.ow i d (at_of' e (fun z => nomatch z))
    exact ⟨_, h1, k _ d F a H (.refl ok) (.inr ⟨p, o, rfl, h2, (fun z => (ok.fi.sr p z).2.1 h4), h5⟩) hd⟩
theorem dpv (i : Nat) {x : Str} {pos : Pos} (hN : ∀ j, (X j).N[i]? = some x := by intro _; rfl) (hv : ∀ j, Vis (X j).env.scope x := by first | exact fun _ => Or.inl rfl | exact fun _ => Or.inr (Or.inl rfl) | exact fun _ => Or.inr (Or.inr rfl)) (hd : (x == ("__debug__" : Str)) = false := by decide)
    (hcd : (x == ("__classdict__" : Str)) = false := by decide) : DPS X K ω (.Name x pos) (dVarB i) := ⟨_, fun j => pe_var (hN j) (hv j) hd hcd, lp_var⟩
/-! an item of a part -/
/-! keys -/
def keyD : D → Option Key
  | .v (.int i) => some (.inl i)
  | .v (.str x) => some (.inr x)
  | _ => none
def keysD : List D → Option (List Key)
  | [] => some []
  | d :: ds => (keyD d).bind fun k => (keysD ds).map (k :: ·)
theorem keyD_of {d : D} {v : V} {k : Key} (h : Dat K H d v) (e : keyD d = some k) : v = kV k := by
  unfold keyD at e
  split at e
  · cases e; exact h
  · cases e; exact h
  · cases e
theorem keysD_of : ∀ {ds : List D} {vs : List V} {ks : List Key}, DatL K H ds vs → keysD ds = some ks → vs = ks.map kV
  | [], _, _, h, e => by cases e; exact h
  | d :: ds, _, _, ⟨v, r, rfl, h, t⟩, e => by
    obtain ⟨k, e1, e2⟩ := Option.bind_eq_some_iff.mp e
    obtain ⟨ks, e3, rfl⟩ := Option.map_eq_some_iff.mp e2
    rw [keyD_of h e1, keysD_of t e3]
    rfl
def getA {κ : Type} [DecidableEq κ] (kvs : List (κ × D)) (k : κ) : Option D := (kvs.find? fun kv => decide (kv.1 = k)).map (·.2)
def putA {κ : Type} [DecidableEq κ] (kvs : List (κ × D)) (k : κ) (d : D) : List (κ × D) := if (kvs.any fun kv => decide (kv.1 = k)) = true then kvs.map (fun kv => if kv.1 = k then (kv.1, d) else kv) else kvs ++ [(k, d)]
def mergeA (kvs more : List (Key × D)) : List (Key × D) := more.foldl (fun acc kv => putA acc kv.1 kv.2) kvs
section
variable {κ : Type} [DecidableEq κ] {kvs : List (κ × D)} {vs : List (κ × V)}
theorem pk_any (h : PK K H kvs vs) (k : κ) : (vs.any fun kv => decide (kv.1 = k)) = (kvs.any fun kv => decide (kv.1 = k)) := by
  induction h with
  | nil => rfl
  | @cons p q l m h t ih => rw [List.any_cons, List.any_cons, ih, show p.1 = q.1 from h.1]
theorem pk_app {kvs' : List (κ × D)} {vs' : List (κ × V)} (h : PK K H kvs vs) (h' : PK K H kvs' vs') : PK K H (kvs ++ kvs') (vs ++ vs') := by
  induction h with
  | nil => exact h'
  | cons h t ih => exact .cons h ih
theorem pk_put {k : κ} {d : D} {v : V} (h : PK K H kvs vs) (hv : Dat K H d v) : PK K H (putA kvs k d) (putK vs k v) := by
  unfold putA putK
  rw [pk_any h k]
  split
  · rename_i z
    clear z
    induction h with
    | nil => exact .nil
    | @cons p q l m h t ih =>
      refine .cons ?_ ih
      obtain ⟨p1, p2⟩ := p
      obtain ⟨q1, q2⟩ := q
      obtain ⟨h1, h2⟩ := h
      cases (show p1 = q1 from h1)
      by_cases z : p1 = k
      · simp only [if_pos z]
        exact ⟨trivial, hv⟩
      · simp only [if_neg z]
        exact ⟨trivial, h2⟩
  · exact pk_app h (.cons ⟨rfl, hv⟩ .nil)
theorem pk_len (h : PK K H kvs vs) : vs.length = kvs.length := by
  induction h with
  | nil => rfl
  | cons h t ih => rw [List.length_cons, List.length_cons, ih]
theorem pk_mono (s : Same H H') (h : PK K H kvs vs) : PK K H' kvs vs := by
  induction h with
  | nil => exact .nil
  | cons h t ih => exact .cons ⟨h.1, h.2.mono s⟩ ih
theorem pk_keys (h : PK K H kvs vs) : vs.map (·.1) = kvs.map (·.1) := by
  induction h with
  | nil => rfl
  | cons h t ih => rw [List.map_cons, List.map_cons, ih, show _ = _ from h.1]
end
/-! a look -/
def dGetR (d e : D) (R : Option D → Prop) : Prop := match d with
  | .dK kvs => (match keyD e with
    | some k => R (getA kvs k)
    | none => False)
  | .dT kvs => (match e with
    | .tup ds => (match keysD ds with
      | some k => R (getA kvs k)
      | none => False)
    | _ => False)
  | _ => False
def isDk : D → Bool
  | .dK _ => true
  | .dT _ => true
  | _ => false
def dDGet (da db : DEt) : DEt := fun a R => da a fun x a1 => db a1 fun y a2 => dGetR x y fun o => opt o fun d => R d a2
def dDGet1 (da db : DEt) : DEt := fun a R => da a fun x a1 => isDk x = true ∧ db a1 fun y a2 => dGetR x y fun o => R (o.getD (.v .non)) a2
def dDGet2 (da db dc : DEt) : DEt := fun a R => da a fun x a1 => isDk x = true ∧ db a1 fun y a2 => dc a2 fun z a3 => dGetR x y fun o => R (o.getD z) a3
def dDIn (neg : Bool) (da db : DEt) : DEt := fun a R => da a fun y a1 => db a1 fun x a2 => dGetR x y fun o => R (.v (.bl (nb neg o.isSome))) a2
/-! a new dict -/
theorem Go.newD (ok : Ok B F a σ H) (g1 : Go B σ F a H F1 a1 H1) {p : Addr} {d : D} {ho : HO} (hp : H1 p = none) (q : Rep K F1 p d ho) {Q : VK} {R : D → AS → Prop} (r : R d a1)
    (k : ∀ p o d F' a' H', Go B σ F a H F' a' H' → H p = none → F' p = none → H' p = some o → Rep K F' p d o → R d a' → Q (.ref p) H') : Q (.ref p) (upd H1 p ho) := by
  have g2 := g1.ok.newO (o := ho) hp
  have h0 : H p = none := by
    cases e : H p with
    | none => rfl
    | some o =>
      have n := (g1.ok.here hp).2.2.1
      rw [g1.hh p o n e] at hp
      cases hp
  exact k p ho d F1 a1 _ (.trans ok g1 g2) h0 (g1.ok.here hp).1 upd_same q r
theorem do_dnewT {pos : Pos} : DO X K ω (.Dict [] [] pos) (fun a R => R (.dT []) a) := ⟨_, fun _ => pe_dnewT, fun B hω F a σ H Q R ok hd k => fun p hp => Go.newD ok (.refl ok) hp (d := .dT []) ⟨[], rfl, rfl⟩ hd k⟩
/-! a display -/
abbrev DPt := AS → (List (Key × D) → AS → Prop) → Prop
def dpNil : DPt := fun a R => R [] a
def dpCons (dk dv : DEt) (dp : DPt) : DPt := fun a R => dk a fun x a1 => dv a1 fun y a2 => dp a2 fun kvs a3 => match keyD x with
  | some k => R ((k, y) :: kvs) a3
  | none => False
def dDisp (dp : DPt) : DEt := fun a R => dp a fun kvs a' => kvs.length ≤ 15 ∧ R (.dK (mergeA [] kvs)) a'
/-! what one's own dict is given -/
def dPutR (s : Sl) (e d : D) (R : D → Prop) : Prop := match s with
  | .own (.dK kvs) => (match keyD e with
    | some k => kvs.length < sizeLine ∧ R (.dK (putA kvs k d))
    | none => False)
  | .own (.dT kvs) => (match e with
    | .tup ds => (match keysD ds with
      | some k => kvs.length < sizeLine ∧ R (.dT (putA kvs k d))
      | none => False)
    | _ => False)
  | _ => False
def dDPut (i : Nat) (dk dv : DEt) : DSt := fun E a => dv a fun d a1 => a1.at i ≠ .emp ∧ dk a1 fun e a2 => dPutR (a2.at i) e d fun f => E.nx (a2.put i (.own f))
theorem Ok.slot (ok : Ok B F a σ H) {i : Nat} (h : a.at i ≠ .emp) : ∃ v, σ[i]? = some (some v) := by
  cases e : a.at i with
  | emp => exact absurd e h
  | val d =>
    obtain ⟨v, h1, _⟩ := ok.va i d (at_of' e (fun z => nomatch z))
    exact ⟨v, h1⟩
  | own d =>
    obtain ⟨p, o, h1, _⟩ := ok.ow i d (at_of' e (fun z => nomatch z))
    exact ⟨_, h1⟩
theorem ds_dput {i : Nat} {x : Str} {px pos' : Pos} {ix value : Expr} {dk dv : DEt} (hu : ∀ j, (X j).A.units + 1 < cLine) (ho : ∀ j, PE (X j) (.Name x px) (tVar i)) (hk : DB X K ω ix dk) (hv : DX X K ω value dv) (hs : ∀ j, swapsWith value (some (.Subscript (.Name x px) ix pos')) pos.line (X j).env = pure false := by intro _; rfl) :
    DS X K ω (.Assign [.Subscript (.Name x px) ix pos'] value pos) (dDPut i dk dv) := by
  obtain ⟨tk, p1, l1⟩ := hk
  obtain ⟨tv, p2, l2⟩ := hv
  refine ⟨_, fun j => ps_dput (hu j) (ho j) (p1 j) (p2 j) (hs j), fun B hω E DE F a σ H ok hd k => l2 B hω F a σ H _ _ ok hd fun v d F1 a1 H1 g1 q1 r1 => ?_⟩
  obtain ⟨u, hu'⟩ := g1.ok.slot r1.1
  refine ⟨u, hu', l1 B hω F1 a1 σ H1 _ _ g1.ok r1.2 fun y e F2 a2 H2 g2 q2 r2 => ?_⟩
  unfold dPutR at r2
  split at r2
  · rename_i kvs es
    split at r2
    · rename_i kk ek
      have es' := at_of' es (fun z => nomatch z)
      obtain ⟨p, o, h1, h2, h3, h4, vs, rfl, h5⟩ := g2.ok.ow i _ es'
      rw [hu'] at h1
      cases h1
      have q1' := q1.mono g2.ff
      refine ⟨p, _, rfl, by rw [keyD_of q2 ek]; exact .k h2 (by rw [pk_len (datK_pk.mp h5)]; exact r2.1), k.nx F2 _ σ _ (g2.ok.chg (e := .dK (putA kvs kk d)) es' hu' ⟨_, rfl, datK_pk.mpr (pk_put (datK_pk.mp h5) q1')⟩) (g1.ff.trans g2.ff) r2.2⟩
    · exact r2.elim
  · rename_i kvs es
    split at r2
    · rename_i ds
      split at r2
      · rename_i kk ek
        have es' := at_of' es (fun z => nomatch z)
        obtain ⟨p, o, h1, h2, h3, h4, vs, rfl, h5⟩ := g2.ok.ow i _ es'
        rw [hu'] at h1
        cases h1
        have q1' := q1.mono g2.ff
        obtain ⟨b, us, rfl, h6, h7⟩ := q2
        rw [keysD_of h7 ek] at h6
        refine ⟨p, _, rfl, .t h2 (hs_same _ _ h6) (by rw [pk_len (datT_pk.mp h5)]; exact r2.1), k.nx F2 _ σ _ (g2.ok.chg (e := .dT (putA kvs kk d)) es' hu' ⟨_, rfl, datT_pk.mpr (pk_put (datT_pk.mp h5) q1')⟩) (g1.ff.trans g2.ff) r2.2⟩
      · exact r2.elim
    · exact r2.elim
  · exact r2.elim
/-- d.update(e), d one's own -/
def dDUpd (i : Nat) (de : DEt) : DSt := fun E a => isOwnK (a.at i) = true ∧ de a fun d a1 => match a1.at i, d with
  | .own (.dK kvs), .dK more => kvs.length + more.length ≤ sizeLine ∧ E.nx (a1.put i (.own (.dK (mergeA kvs more))))
  | _, _ => False
where isOwnK : Sl → Bool
  | .own (.dK _) => true
  | _ => false
end
/-! ### errors -/
theorem XRep.mono {K : PySem.W.Frag} {F F' : Hp} {dd : Option Addr} {fs : List (Str × D)} (s : Same F F') (h : XRep K F dd fs) : XRep K F' dd fs := h.imp id fun ⟨d, vs, e, h1, h2⟩ => ⟨d, vs, e, s _ _ h1, pk_mono s h2⟩
abbrev DSpX := Option Addr → List D → Int → (D → Int → Prop) → (Addr → List (Str × D) → Int → Prop) → Prop
/-- behind a call that fails -/
def PostX (K : PySem.W.Frag) (sp : Option Addr) (F H : Hp) (E : XK) (C : Addr) (fs : List (Str × D)) (n' : Int) : Prop := ∀ (dd : Option Addr) (F' H' : Hp), Same F F' → Same F' H' → (∀ b o, sp ≠ some b → H b = some o → H' b = some o) → (∀ b, F' b ≠ none → F b ≠ none ∨ H b = none ∨ ImmA F' b) →
  (∀ p, sp = some p → F' p = none ∧ Src H' p n') → XRep K F' dd fs → E (.ref C) dd H'
def upX (K : PySem.W.Frag) (dsp : DSpX) : Sp := fun vs H Q E => ∃ (sp : Option Addr) (F : Hp) (ds : List D) (n : Int), Same F H ∧ (∀ p, sp = some p → F p = none ∧ Src H p n) ∧ DatL K F ds vs ∧ dsp sp ds n (Post K sp F H Q) (PostX K sp F H E)
theorem upX_len {K : PySem.W.Frag} {dsp : DSpX} {m : Nat} (h : ∀ sp ds n R RX, dsp sp ds n R RX → ds.length = m) (vs : List V) (H : Hp) (Q : VK) (E : XK) : upX K dsp vs H Q E → vs.length = m := fun ⟨sp, F, ds, n, _, _, L, q⟩ => by
  rw [L.len]
  exact h sp ds n _ _ q
/-- the wish of a def that may fail -/
def wpX (K : PySem.W.Frag) (sp : Option Addr) (F H : Hp) (E : XK) : Wp := ⟨fun cls dd _ H' => E cls dd H', fun C fs _ n => PostX K sp F H E C fs n, fun _ => True, false⟩
theorem d_runX {K : PySem.W.Frag} {sp : Option Addr} {F H : Hp} {ds : List D} {vs : List V} {n : Int} {Q : VK} {E : XK} {X : Cx} {body : List Stmt} {N : List Str} {d : DSt} (h : DSs (fun _ : Unit => X) K (wpX K sp F H E) body d) (s : Same F H) (src : ∀ p, sp = some p → F p = none ∧ Src H p n) (L : DatL K F ds vs)
    {sl : List Sl} (hsl : sl = (dstart N ds n sp).sl) (hd : d { nx := fun a => Post K sp F H Q (.v .non) a.n, rt := Post K sp F H Q } ⟨sl, n, sp⟩) : ∃ t, PSs X body t ∧ t { nx := fun _ H' => Q .non H', rt := Q } (L2.start N vs) H := by
  obtain ⟨t, p, l⟩ := h
  subst hsl
  refine ⟨t, p (), l ⟨sp, H, F, none⟩ ⟨trivial, fun _ => rfl, fun F' a σ' H' C dd fs ok x w => ?_⟩ _ _ F _ _ H (ok_start N s src L) hd ⟨fun F' a' σ' H' ok s h => ?_, fun v d n F' H' f s q h => ?_, fun _ _ _ _ _ _ h => h.elim, fun _ _ _ _ _ _ h => h.elim⟩⟩
  · exact w dd F' H' ok.fi.ff ok.fi.fh (fun b o n h => ok.fi.fm b o h n) (fun b h => ok.fi.fr b h) (fun p e => ⟨(ok.fi.sr p e).1, (ok.fi.sr p e).2.2⟩) x
  · exact h .non F' H' s ok.fi.fh (fun b o n h => ok.fi.fm b o h n) (fun b h => ok.fi.fr b h) (fun p e => ⟨(ok.fi.sr p e).1, (ok.fi.sr p e).2.2⟩) rfl
  · exact h v F' H' s f.fh (fun b o n h => f.fm b o h n) (fun b h => f.fr b h) (fun p e => ⟨(f.sr p e).1, (f.sr p e).2.2⟩) q
def UpsX (K : PySem.W.Frag) (sp : Sp) (dsp : DSpX) : Prop := ∀ vs H Q E, upX K dsp vs H Q E → sp vs H Q E
theorem UpsX.rfl {K : PySem.W.Frag} {dsp : DSpX} : UpsX K (upX K dsp) dsp := fun _ _ _ _ h => h
def MonX (dsp : DSpX) : Prop := ∀ sp ds n (R R' : D → Int → Prop) (S S' : Addr → List (Str × D) → Int → Prop), (∀ d n', R d n' → R' d n') → (∀ C fs n', S C fs n' → S' C fs n') → dsp sp ds n R S → dsp sp ds n R' S'
abbrev DWt := Addr → List (Str × D) → List Sl → Int → Prop
section
variable {K : PySem.W.Frag} {ω : Wp} {B : Bs K} {F F' F1 F2 G : Hp} {a a' a1 a2 : AS} {σ σ' : St} {H H' H1 H2 : Hp} {n : Int} {te : TE} {de da db : DEt} {ι : Type} {X : ι → Cx} {e e1 e2 : Expr} {es : List Expr} {pos : Pos} {dt : DTt} {dl dm : DAt}
def dCallX (W : DWt) (dsp : DSpX) (dl : DAt) : DEt := fun a R => dl a fun ds a' => dsp a'.sp ds a'.n (fun d n' => R d ⟨a'.sl, n', a'.sp⟩) fun C fs n' => W C fs a'.sl n'
def dCallX0 (W : DWt) (dsp : DSpX) (dl : DAt) : DEt := fun a R => dl a fun ds a' => dsp none ds 0 (fun d _ => R d a') fun C fs _ => W C fs a'.sl a'.n
theorem le_callX0 {dsp : DSpX} {s : Sp} {ta : TA} (m : MonX dsp) (u : UpsX K s dsp) (l : LAE K ω ta dl) : LE K ω (tCallS s (fun σ => WE ω.W σ) ta) (dCallX0 ω.dW dsp dl) := fun B hω F a σ H Q R ok hd k => l B hω F a σ H _ _ ok hd fun vs ds F1 a1 H1 g1 q1 r1 => by
  have go : ∀ F' H', Same F1 F' → Same F' H' → (∀ b o, none ≠ some b → H1 b = some o → H' b = some o) → (∀ b, F' b ≠ none → F1 b ≠ none ∨ H1 b = none ∨ ImmA F' b) → Go B σ F1 a1 H1 F' a1 H' := fun F' H' x1 x2 x3 x4 => by
    have hh : Same H1 H' := fun b o h => x3 b o (fun z => nomatch z) h
    refine Go.call g1.ok x1 x2 (fun b o _ h => hh b o h) x4 fun p e => ?_
    obtain ⟨y1, y2, y3⟩ := g1.ok.fi.sr p e
    refine ⟨?_, y3.same hh⟩
    cases q : F' p with
    | none => rfl
    | some u =>
      rcases x4 p (by rw [q]; exact fun z => (nomatch z)) with w | w | ⟨o', w1, w2⟩
      · exact absurd y1 w
      · obtain ⟨xs, z⟩ := y3.at
        rw [z] at w
        cases w
      · obtain ⟨xs, z⟩ := (y3.same hh).at
        rw [x2 p o' w1] at z
        cases z
        cases w2
  refine u _ _ _ _ ⟨none, F1, ds, 0, g1.ok.fi.fh, (fun p e => nomatch e), q1, m _ _ _ _ _ _ _ (fun d n' r => ?_) (fun C fs n' r => ?_) r1⟩
  · intro v F' H' x1 x2 x3 x4 x5 x6
    exact k v d F' a1 H' (.trans ok g1 (go F' H' x1 x2 x3 x4)) x6 r
  · intro dd F' H' x1 x2 x3 x4 x5 x6
    exact hω.2.2 F' a1 σ H' C dd fs (go F' H' x1 x2 x3 x4).ok x6 r
/-- the same with borrowed values, where nothing fails and what comes out is flat -/
def dCallXF0 (dsp : DSpX) (dl : DAt) : DEt := fun a R => dl a fun ds a' => dsp none ds 0 (fun d _ => isV d = true ∧ R d a') fun _ _ _ => False
section
variable {k : Nat} {f : Addr} {fd : FuncData} {ps : List Str} {s : Sp} {dsp : DSpX} {x : Str} {p : Pos}
theorem de_callX0 (m : MonX dsp) (u : UpsX K s dsp) (G : ∀ j, FnOk (X j).prog (X j).w (X j).K (X j).mg (X j).base (L2.CX (X j).prog (X j).w) k f fd ps s) (hr : ∀ j, Room k (X j).A) (hg : ∀ j, Gl (X j) x) (hm : ∀ j, (X j).mg x = some (.ref f)) (hk : ∀ j, PySem.W.keepIn (X j).K (.ref f) = true) (hb : ∀ j, Binds (X j).K fd ps []) (tk : ∀ j, Takes (X j) ω.W) (ha : DAE X K ω (e :: es) dl)
    (hdb : (x == ("__debug__" : Str)) = false := by decide) (he : ∀ j, starEach (e :: es) (X j).env = (false, eval e (X j).env) :: starEach es (X j).env := by intro _; rfl) (hpl : ∀ j, (backTo pos (starEach es (X j).env)).any (·.1) = false := by intro _; rfl) : DX X K ω (.Call (.Name x p) (e :: es) [] pos) (dCallX0 ω.dW dsp dl) := by
  obtain ⟨t, h, l⟩ := ha
  exact ⟨_, fun j => pe_callS (G j) (hr j) (hg j) (hm j) (hk j) (hb j) (passAt (tk j)) (h j) hdb (he j) (hpl j), le_callX0 m u l⟩
end
/-! raise C(e) -/
def dRaise (W : DWt) (C : Addr) (f : Str) (dl : DAt) : DSt := fun _ a => dl a fun ds a' => match ds with
  | [d] => W C [(f, d)] a'.sl a'.n
  | _ => False
/-- raise C() -/
def dRaise0 (W : DWt) (C : Addr) : DSt := fun _ a => W C [] a.sl a.n
theorem ds_raise0 {C fI : Addr} {x : Str} {p pos2 : Pos} {k : Nat} (hc : ∀ j, (X j).calm = true) (T : ∀ j, PySem.SupX.ClsTxt (X j).prog (X j).K (X j).mg C fI x) (Tf : ∀ j, PySem.SupX.FnTxt0 (X j).prog (X j).K C fI) (hr : ∀ j, Room k (X j).A) (tk : ∀ j, Takes (X j) ω.W) (hg : ∀ j, Gl (X j) x)
    (hd : (x == ("__debug__" : Str)) = false := by decide) : DS X K ω (.Raise (some (.Call (.Name x p) [] [] pos)) none pos2) (dRaise0 ω.dW C) :=
  ⟨_, fun j => ps_raiseSup0 (hc j) (T j) (Tf j) (hr j) (tk j) (hg j) hd, fun B hω E DE F a σ H ok hd k => hω.2.2 F a σ H C none [] ok (.inl ⟨rfl, rfl⟩) hd⟩
/-! try with clauses -/
theorem Fi.re (f : Fi B F n H) : Fi (K := K) ⟨B.sp, B.H0, F, B.self⟩ F n H := ⟨f.fh, Same.refl F, fun _ h => .inl h, f.fm, f.sr⟩
theorem Ok.re (ok : Ok B F a σ H) : Ok (K := K) ⟨B.sp, B.H0, F, B.self⟩ F a σ H := ⟨ok.fi.re, ok.es, ok.len, ok.va, ok.ow, ok.ds, ok.fx⟩
theorem Fi.un {n' : Int} (ok : Fi B F n H) (f : Fi (K := K) ⟨B.sp, B.H0, F, B.self⟩ F' n' H') : Fi B F' n' H' := ⟨f.fh, ok.ff.trans f.ff, fun b h => (f.fr b h).elim (fun z => (ok.fr b z).imp id fun z => z.imp id fun z => z.mono f.ff) .inr, f.fm, f.sr⟩
theorem Ok.un (ok : Ok B F a σ H) (f : Ok (K := K) ⟨B.sp, B.H0, F, B.self⟩ F' a' σ' H') : Ok B F' a' σ' H' := ⟨ok.fi.un f.fi, f.es, f.len, f.va, f.ow, f.ds, f.fx⟩
/-- within a suite: what was caught is known -/
def wpS (K : PySem.W.Frag) (dd : Option Addr) (fs : List (Str × D)) : Wp := ⟨fun _ _ _ _ => True, fun _ _ _ _ => True, fun F => XRep K F dd fs, true⟩
def sufI (ι : Type) (cls : Value) (dd : Option Addr) : Type := { q : ι × Obj × List (Addr × Obj) // Zc cls dd q.2.1 ∧ ∃ vs, q.2.1.data = .fields vs }
def sufF {ι : Type} (X : ι → Cx) (xa : Addr) (cls : Value) (dd : Option Addr) : sufI ι cls dd → Cx := fun q => (X q.1.1).suite xa ((xa, q.1.2.1) :: q.1.2.2)
structure XClause where
  cls : Value
  slot : Option Nat
  oks : Addr → Prop
  run : Addr → Addr → List (Str × D) → DSt
def XClause.off (c : XClause) (a : AS) : AS := match c.slot with | none => a | some i => a.put i .emp
def XClause.ends (c : XClause) (E : DEnds) : DEnds := ⟨fun a => E.nx (c.off a), E.rt, fun a => E.bk (c.off a), fun a => E.ct (c.off a)⟩
def XClause.slots (c : XClause) (a : AS) (xa : Addr) : AS := match c.slot with | none => a | some i => a.put i (.val (.v (.ref xa)))
/-- the first clause that fits -/
def dFirst (K : PySem.W.Frag) (out : DWt) (E : DEnds) (sp : Option Addr) : List XClause → DWt
  | [] => out
  | c :: r => fun C fs sl n => (PySem.W.exmOne K (.ref C) c.cls = some true ∧ c.oks C ∧ ∀ xa : Addr, c.run C xa fs (c.ends E) (c.slots ⟨sl, n, sp⟩ xa)) ∨ (PySem.W.exmOne K (.ref C) c.cls = some false ∧ dFirst K out E sp r C fs sl n)
inductive XClauses {ι : Type} (X : ι → Cx) (K : PySem.W.Frag) : List ExceptHandler → List XClause → Prop
  | nil : XClauses X K [] []
  | cons {x : Str} {np pos : Pos} {b : Stmt} {bs : List Stmt} {n : Option Str} {hs : List ExceptHandler} {c : XClause} {cs : List XClause} :
      (∀ j, Names (X j) x c.cls) → (∀ xa C dd fs, c.oks C → DSs (sufF X xa (.ref C) dd) K (wpS K dd fs) (b :: bs) (c.run C xa fs)) →
      ((n = none ∧ c.slot = none) ∨ ∃ y i, n = some y ∧ c.slot = some i ∧ i ≠ 0 ∧ ∀ j, (X j).N[i]? = some y ∧ (X j).env.kindOf y = some .local) → XClauses X K hs cs →
      XClauses X K (.ExceptHandler (some (.Name x np)) n (b :: bs) pos :: hs) (c :: cs)
/-- the clause of the text -/
def XClause.tr {ι : Type} (X : ι → Cx) (c : XClause) (body : List Stmt) : Clause := ⟨c.cls, c.slot, fun xa cls dd D σ H => ∃ t, (∀ q : sufI ι cls dd, PSs (sufF X xa cls dd q) body t) ∧ t D σ H⟩
def hBody : ExceptHandler → List Stmt
  | .ExceptHandler _ _ b _ => b
def xtrs {ι : Type} (X : ι → Cx) : List ExceptHandler → List XClause → List Clause
  | h :: hs, c :: cs => c.tr X (hBody h) :: xtrs X hs cs
  | _, _ => []
theorem XClauses.of {hds : List ExceptHandler} {cs : List XClause} (h : XClauses X K hds cs) (j : ι) : ClausesOf (X j) hds (xtrs X hds cs) := by
  induction h with
  | nil => exact .nil
  | @cons x np pos b bs n hs c cs hn hr hsl _ ih =>
    refine .cons ⟨x, np, pos, b, bs, n, rfl, hn j, fun xa o cls dd pn hz hf => ?_, ?_⟩ ih
    · exact ⟨fun pins s σ H D I ⟨t, ht, hd⟩ => (ht ⟨(j, o, pn), hz, hf⟩).run pins s σ H D I hd⟩
    · rcases hsl with ⟨h1, h2⟩ | ⟨y, i, h1, h2, _, h3⟩
      · exact .inl ⟨h1, h2⟩
      · exact .inr ⟨y, i, h1, h2, (h3 j).1, (h3 j).2⟩
def dTry (K : PySem.W.Frag) (sf : Bool) (db : Wp → DSt) (out : DWt) (cs : List XClause) : DSt := fun E a => ∀ W : Value → Option Addr → St → Hp → Prop, db ⟨W, dFirst K out E a.sp cs, fun _ => True, sf⟩ E a
theorem pk_lookup {κ : Type} [BEq κ] {kvs : List (κ × D)} {vs : List (κ × V)} (h : PK K H kvs vs) {k : κ} {d : D} (e : kvs.lookup k = some d) : ∃ v, vs.lookup k = some v ∧ Dat K H d v := by
  induction h with
  | nil => cases e
  | @cons p q l m h t ih =>
    obtain ⟨p1, p2⟩ := p
    obtain ⟨q1, q2⟩ := q
    obtain ⟨h1, h2⟩ := h
    cases (show p1 = q1 from h1)
    rw [List.lookup_cons] at e ⊢
    cases z : k == p1 with
    | true =>
      rw [z] at e
      cases e
      exact ⟨q2, rfl, h2⟩
    | false =>
      rw [z] at e
      exact ih e
end
/-! ### classes of the text -/
def putFA (f : Str) (d : D) : List (Str × D) → List (Str × D)
  | [] => [(f, d)]
  | (g, e) :: r => if g = f then (g, d) :: r else (g, e) :: putFA f d r
section
variable {K : PySem.W.Frag} {ω : Wp} {B : Bs K} {F F' F1 F2 G : Hp} {a a' a1 a2 : AS} {σ σ' : St} {H H' H1 H2 : Hp} {n : Int} {te : TE} {de da db dc : DEt} {ι : Type} {X : ι → Cx} {e e1 e2 e3 o : Expr} {es : List Expr} {pos : Pos} {dt : DTt} {dl dm : DAt}
theorem pk_putF {f : Str} {d : D} {v : V} {fs : List (Str × D)} {vs : List (Str × V)} (h : PK K H fs vs) (hv : Dat K H d v) : PK K H (putFA f d fs) (putF f v vs) := by
  induction h with
  | nil => rw [L2.putF.eq_1]; exact .cons ⟨rfl, hv⟩ .nil
  | @cons p q l m h t ih =>
    obtain ⟨p1, p2⟩ := p
    obtain ⟨q1, q2⟩ := q
    obtain ⟨h1, h2⟩ := h
    cases (show p1 = q1 from h1)
    rw [L2.putF.eq_2]
    unfold putFA
    by_cases z : p1 = f
    · rw [if_pos z, if_pos z]
      exact .cons ⟨rfl, hv⟩ t
    · rw [if_neg z, if_neg z]
      exact .cons ⟨rfl, h2⟩ ih
theorem pk_lookup0 {κ : Type} [BEq κ] {kvs : List (κ × D)} {vs : List (κ × V)} (h : PK K H kvs vs) {k : κ} (e : kvs.lookup k = none) : vs.lookup k = none := by
  induction h with
  | nil => rfl
  | @cons p q l m h t ih =>
    obtain ⟨p1, p2⟩ := p
    obtain ⟨q1, q2⟩ := q
    obtain ⟨h1, h2⟩ := h
    cases (show p1 = q1 from h1)
    rw [List.lookup_cons] at e ⊢
    cases z : k == p1 with
    | true => rw [z] at e; cases e
    | false => rw [z] at e; exact ih e
theorem prt_ins {sp : Option Addr} {C : Addr} {fs : List (Str × D)} {x : V} (s : Same F H) (h : PrtS K sp F H (.ins C fs) x) : ∃ p dx vs, x = .ref p ∧ H p = some (.ins C dx vs) ∧ PK K F fs vs := by
  rcases h with ⟨p, dx, vs, rfl, h1, h2⟩ | ⟨p, o, rfl, h1, _, dx, vs, rfl, h2⟩
  · exact ⟨p, dx, vs, rfl, s _ _ h1, datS_pk.mp h2⟩
  · exact ⟨p, dx, vs, rfl, h1, datS_pk.mp h2⟩
/-- e.f -/
def dFld (C : Addr) (f : Str) (de : DEt) : DEt := fun a R => de a fun d a' => match d with
  | .ins C' fs => C' = C ∧ opt (fs.lookup f) fun v => R v a'
  | _ => False
theorem de_fld {C : Addr} {f : Str} (hC : Cls K C) (hn : NoAttr K C f) (h : DPS X K ω e de) (hb : ∀ j, attributeBase e f (X j).env (eval e (X j).env) = eval e (X j).env := by intro _; rfl) (hK : ∀ j, (X j).K = K := by intro _; rfl) : DX X K ω (.Attribute e f pos) (dFld C f de) := by
  obtain ⟨t, p, l⟩ := h
  refine ⟨tFld K t f, fun j => by rw [← hK j]; exact pe_fld (p j) (hb j), fun B hω F a σ H Q R ok hd k => l B hω F a σ H _ _ ok hd fun v d F1 a1 H1 g1 q1 r1 => ?_⟩
  cases d with
  | ins C' fs =>
    obtain ⟨rfl, r⟩ := r1
    obtain ⟨p, dx, vs, rfl, h1, h2⟩ := prt_ins g1.ok.fi.fh q1
    obtain ⟨d, e1, r⟩ := opt_of r
    obtain ⟨v, e2, h3⟩ := pk_lookup h2 e1
    exact ⟨p, C', dx, vs, v, rfl, h1, hC, hn, e2, k v d F1 a1 H1 g1 h3 r⟩
  | _ => exact r1.elim
/-- self.f = e, self one's own -/
def dFldO (C : Addr) (i : Nat) (f : Str) (de : DEt) : DSt := fun E a => de a fun d a1 => match a1.at i with
  | .own (.ins C' fs) => C' = C ∧ fs.length < 1000 ∧ E.nx (a1.put i (.own (.ins C (putFA f d fs))))
  | _ => False
theorem ds_fldO {C : Addr} {i : Nat} {x f : Str} {px pos' : Pos} {value : Expr} (hC : Cls K C) (hn : NoAttr K C f) (ho : ∀ j, PE (X j) (.Name x px) (tVar i)) (hv : DX X K ω value de) (hs : ∀ j, swapsWith value (some (.Attribute (.Name x px) f pos')) pos.line (X j).env = pure false := by intro _; rfl) (hK : ∀ j, (X j).K = K := by intro _; rfl) :
    DS X K ω (.Assign [.Attribute (.Name x px) f pos'] value pos) (dFldO C i f de) := by
  obtain ⟨t, p, l⟩ := hv
  refine ⟨sFld K (tVar i) t f, fun j => by rw [← hK j]; exact ps_fld (ho j) (p j) (hs j), fun B hω E DE F a σ H ok hd k => l B hω F a σ H _ _ ok hd fun v d F1 a1 H1 g1 q1 r1 => ?_⟩
  split at r1
  · rename_i C' fs es
    obtain ⟨rfl, hl, r⟩ := r1
    have es' := at_of' es (fun z => nomatch z)
    obtain ⟨p, o, h1, h2, h3, h4, dx, vs, rfl, h5⟩ := g1.ok.ow i _ es'
    have h6 := datS_pk.mp h5
    exact ⟨_, h1, p, C', dx, vs, rfl, h2, hC, hn, by rw [pk_len h6]; exact hl, k.nx F1 _ σ _ (g1.ok.chg (e := .ins C' (putFA f d fs)) es' h1 ⟨dx, _, rfl, datS_pk.mpr (pk_putF h6 q1)⟩) g1.ff r⟩
  · exact r1.elim
/-- an object of the class whose own dict has no m -/
def isI (C : Addr) (m : Str) : D → Prop
  | .ins C' fs => C' = C ∧ fs.lookup m = none
  | _ => False
theorem isI_dat {C : Addr} {m : Str} {d : D} {x : V} (s : Same F H) (h : Dat K F d x) (i : isI C m d) : ∃ p dx vs, x = .ref p ∧ H p = some (.ins C dx vs) ∧ vs.lookup m = none := by
  cases d with
  | ins C' fs =>
    obtain ⟨rfl, e⟩ := i
    obtain ⟨p, dx, vs, rfl, h1, h2⟩ := h
    exact ⟨p, dx, vs, rfl, s _ _ h1, pk_lookup0 (datS_pk.mp h2) e⟩
  | _ => exact i.elim
def dMeth (C : Addr) (m : Str) (dsp : DSp) (de : DEt) (dl : DAt) : DEt := fun a R => de a fun d a1 => isI C m d ∧ dl a1 fun ds a2 => dsp none (d :: ds) 0 fun x _ => R x a2
def dMethX (W : DWt) (C : Addr) (m : Str) (dsp : DSpX) (de : DEt) (dl : DAt) : DEt := fun a R => de a fun d a1 => isI C m d ∧ dl a1 fun ds a2 => dsp none (d :: ds) 0 (fun x _ => R x a2) fun C fs _ => W C fs a2.sl a2.n
/-- what is behind a call without the source, seen from here -/
theorem Go.call0 (ok : Ok B F a σ H) (x1 : Same F F') (x2 : Same F' H') (x3 : ∀ b o, none ≠ some b → H b = some o → H' b = some o) (x4 : ∀ b, F' b ≠ none → F b ≠ none ∨ H b = none ∨ ImmA F' b) : Go B σ F a H F' a H' := by
  have hh : Same H H' := fun b o h => x3 b o (fun z => nomatch z) h
  refine Go.call ok x1 x2 (fun b o _ h => hh b o h) x4 fun p e => ?_
  obtain ⟨y1, y2, y3⟩ := ok.fi.sr p e
  refine ⟨?_, y3.same hh⟩
  cases q : F' p with
  | none => rfl
  | some u =>
    rcases x4 p (by rw [q]; exact fun z => (nomatch z)) with w | w | ⟨o', w1, w2⟩
    · exact absurd y1 w
    · obtain ⟨xs, z⟩ := y3.at
      rw [z] at w
      cases w
    · obtain ⟨xs, z⟩ := (y3.same hh).at
      rw [x2 p o' w1] at z
      cases z
      cases w2
section
variable {CX : CXT} {k : Nat} {f C : Addr} {fd : FuncData} {ps : List Str} {s : Sp} {dsp : DSp} {dspX : DSpX} {E : XK} {m : Str} {apos : Pos} {pl : ι → Sem Bool}
theorem le_meth {te : TE} {ta : TA} (mo : Mon dsp) (u : Ups K s dsp) (l1 : LE K ω te de) (l2 : LAE K ω ta dl) : LE K ω (tMeth C m s [] E te ta) (dMeth C m dsp de dl) := fun B hω F a σ H Q R ok hd k => l1 B hω F a σ H _ _ ok hd fun v d F1 a1 H1 g1 q1 r1 => by
  obtain ⟨p, dx, vs0, rfl, h1, h2⟩ := isI_dat g1.ok.fi.fh q1 r1.1
  refine ⟨p, dx, vs0, rfl, h1, h2, l2 B hω F1 a1 σ H1 _ _ g1.ok r1.2 fun vs ds F2 a2 H2 g2 q2 r2 => ?_⟩
  rw [List.append_nil]
  refine u _ _ _ _ ⟨none, F2, d :: ds, 0, g2.ok.fi.fh, (fun p e => nomatch e), .cons (q1.mono g2.ff) q2, mo _ _ _ _ _ (fun d n' r => ?_) r2⟩
  intro v F' H' x1 x2 x3 x4 x5 x6
  exact k v d F' a2 H' (.trans ok g1 (.trans g1.ok g2 (Go.call0 g2.ok x1 x2 x3 x4))) x6 r
theorem de_meth (mo : Mon dsp) (u : Ups K s dsp) (ho : DX X K ω o de) (hC : Cls K C) (hm : Meth K C m f) (G : ∀ j, FnOk (X j).prog (X j).w (X j).K (X j).mg (X j).base CX k f fd ps s) (hr : ∀ j, Room k (X j).A) (hb : Binds K fd ps []) (hx : ∀ j, Passes CX (X j) E) (ha : DAE X K ω (e :: es) dl)
    (hK : ∀ j, (X j).K = K := by intro _; rfl) (hst : ∀ j, starEach (e :: es) (X j).env = (false, eval e (X j).env) :: starEach es (X j).env := by intro _; rfl) (hpl : ∀ j, (backTo pos (starEach es (X j).env)).any (·.1) = false := by intro _; rfl)
    (ht : ∀ j, eval (.Call (.Attribute o m apos) (e :: es) [] pos) (X j).env = (do
      let ov ← eval o (X j).env
      standAt apos.atName
      let (fv, first) ← holding [ov] (getMethod ov m (pl j))
      callWith pos fv first (backTo pos (starEach (e :: es) (X j).env)) (backToKw pos (keywordEach [] (X j).env))) := by intro _; rfl) :
    DX X K ω (.Call (.Attribute o m apos) (e :: es) [] pos) (dMeth C m dsp de dl) := by
  obtain ⟨te, p1, l1⟩ := ho
  obtain ⟨ta, p2, l2⟩ := ha
  exact ⟨_, fun j => pe_meth (p1 j) (by rw [hK j]; exact hC) (by rw [hK j]; exact hm) (G j) (hr j) (by rw [hK j]; exact hb) .nil (hx j) (p2 j) (hst j) (hpl j) (ht j), le_meth mo u l1 l2⟩
/-- a property -/
def dProp (C : Addr) (dsp : DSp) (de : DEt) : DEt := fun a R => de a fun d a1 => isC C d ∧ dsp none [d] 0 fun x _ => R x a1
where isC (C : Addr) : D → Prop
  | .ins C' _ => C' = C
  | _ => False
theorem de_prop {p g : Addr} {f : Str} (mo : Mon dsp) (u : Ups K s dsp) (ho : DX X K ω e de) (hC : Cls K C) (hp : PropOf K C f p g) (G : ∀ j, FnOk (X j).prog (X j).w (X j).K (X j).mg (X j).base CX k g fd ps s) (hr : ∀ j, Room (k + 1) (X j).A) (hb : Binds K fd ps []) (hx : ∀ j, Passes CX (Cx.nox (X j)) E)
    (hba : ∀ j, attributeBase e f (X j).env (eval e (X j).env) = eval e (X j).env := by intro _; rfl) (hK : ∀ j, (X j).K = K := by intro _; rfl) : DX X K ω (.Attribute e f pos) (dProp C dsp de) := by
  obtain ⟨te, p1, l1⟩ := ho
  refine ⟨_, fun j => pe_prop (p1 j) (by rw [hK j]; exact hC) (by rw [hK j]; exact hp) (G j) (hr j) (by rw [hK j]; exact hb) .nil (hx j) (hba j), fun B hω F a σ H Q R ok hd k => l1 B hω F a σ H _ _ ok hd fun v d F1 a1 H1 g1 q1 r1 => ?_⟩
  cases d with
  | ins C' fs =>
    obtain ⟨hc, r1⟩ := r1
    have hc : C' = C := hc
    subst hc
    obtain ⟨p, dx, vs, rfl, h1, h2⟩ := q1
    refine ⟨p, dx, vs, rfl, g1.ok.fi.fh _ _ h1, u _ _ _ _ ⟨none, F1, [.ins C' fs], 0, g1.ok.fi.fh, (fun p e => nomatch e), .cons ⟨p, dx, vs, rfl, h1, h2⟩ .nil, mo _ _ _ _ _ (fun d n' r => ?_) r1⟩⟩
    intro v F' H' x1 x2 x3 x4 x5 x6
    exact k v d F' a1 H' (.trans ok g1 (Go.call0 g1.ok x1 x2 x3 x4)) x6 r
  | _ => exact r1.1.elim
end
end
/-! making an object: the promise of an __init__ -/
/-- behind an __init__ that ends: the object at x -/
def PostI (K : PySem.W.Frag) (F H : Hp) (x : Addr) (Q : VK) (d : D) (_ : Int) : Prop := ∀ (F' H' : Hp), Same F F' → Same F' H' → Same H H' → (∀ b, F' b ≠ none → F b ≠ none ∨ H b = none ∨ ImmA F' b) → Dat K F' d (.ref x) → Q .non H'
def upI (K : PySem.W.Frag) (C : Addr) (dsp : DSpX) : Sp := fun vs H Q E => ∃ (x dx : Addr) (us : List V) (H1 F : Hp) (ds : List D), vs = .ref x :: us ∧ H = upd (upd H1 dx (.own x)) x (.ins C dx []) ∧ H1 x = none ∧ H1 dx = none ∧ dx ≠ x ∧ Same F H1 ∧ DatL K F ds us ∧ dsp none ds 0 (PostI K F H1 x Q) (PostX K none F H1 E)
theorem upI_len {K : PySem.W.Frag} {C : Addr} {dsp : DSpX} {m : Nat} (h : ∀ sp ds n R RX, dsp sp ds n R RX → ds.length = m) (vs : List V) (H : Hp) (Q : VK) (E : XK) : upI K C dsp vs H Q E → vs.length = m + 1 := fun ⟨x, dx, us, H1, F, ds, e, _, _, _, _, _, L, q⟩ => by
  rw [e, List.length_cons, L.len, h _ _ _ _ _ q]
def wpI (K : PySem.W.Frag) (F H : Hp) (E : XK) : Wp := ⟨fun cls dd _ H' => E cls dd H', fun C fs _ n => PostX K none F H E C fs n, fun _ => True, true⟩
def dstartI (N : List Str) (C : Addr) (ds : List D) : List Sl := .own (.ins C []) :: ds.map Sl.val ++ List.replicate (N.length - (ds.length + 1)) .emp
theorem d_runI {K : PySem.W.Frag} {C x dx : Addr} {F H1 H : Hp} {ds : List D} {us : List V} {Q : VK} {E : XK} {X : Cx} {body : List Stmt} {N : List Str} {d : DSt} (h : DSs (fun _ : Unit => X) K (wpI K F H1 E) body d) (hH : H = upd (upd H1 dx (.own x)) x (.ins C dx [])) (hx : H1 x = none) (hdx : H1 dx = none) (hne : dx ≠ x) (s : Same F H1) (L : DatL K F ds us)
    {sl : List Sl} (hsl : sl = dstartI N C ds) (hd : d { nx := fun a => ∃ fs, a.at 0 = .own (.ins C fs) ∧ PostI K F H1 x Q (.ins C fs) 0, rt := fun _ _ => False } ⟨sl, 0, none⟩) : ∃ t, PSs X body t ∧ t { nx := fun _ H' => Q .non H', rt := Q } (L2.start N (.ref x :: us)) H := by
  obtain ⟨t, p, l⟩ := h
  subst hsl hH
  have sH : Same H1 (upd (upd H1 dx (.own x)) x (.ins C dx [])) := (Same.new hdx).trans (Same.new (by rw [upd_ne (Ne.symm hne)]; exact hx))
  have hl := L.len
  have ok : Ok (K := K) ⟨none, H1, F, some x⟩ F ⟨dstartI N C ds, 0, none⟩ (L2.start N (.ref x :: us)) (upd (upd H1 dx (.own x)) x (.ins C dx [])) := by
    have own : ∀ {i : Nat} {d : D}, (dstartI N C ds)[i]? = some (Sl.own d) → i = 0 ∧ d = .ins C [] := fun {i d} e => by
      unfold dstartI at e
      cases i with
      | zero => exact ⟨rfl, by cases e; rfl⟩
      | succ i =>
        rw [List.cons_append, List.getElem?_cons_succ] at e
        rcases List.mem_append.mp (List.mem_of_getElem? e) with q | q
        · obtain ⟨y, _, z⟩ := List.mem_map.mp q
          cases z
        · cases (List.mem_replicate.mp q).2
    have hF : F x = none := by
      cases e : F x with
      | none => rfl
      | some u => rw [s _ _ e] at hx; cases hx
    refine ⟨⟨s.trans sH, Same.refl F, fun b h => .inl h, fun b o h _ => sH _ _ h, (fun p e => nomatch e)⟩, rfl, ?_, fun i d e => ?_, fun i d e => ?_, fun i j p d e h1 h2 _ _ => ?_, fun y e => ?_⟩
    · unfold dstartI L2.start
      simp only [List.length_append, List.length_map, List.length_replicate, List.length_cons, hl]
    · unfold dstartI at e
      cases i with
      | zero => cases e
      | succ i =>
        rw [List.cons_append, List.getElem?_cons_succ] at e
        by_cases hi : i < ds.length
        · rw [List.getElem?_append_left (by rw [List.length_map]; exact hi), List.getElem?_map] at e
          obtain ⟨y, h1, h2⟩ := Option.map_eq_some_iff.mp e
          cases h2
          obtain ⟨v, h3, h4⟩ := L.get h1
          refine ⟨v, ?_, h4⟩
          unfold L2.start
          rw [List.map_cons, List.cons_append, List.getElem?_cons_succ, List.getElem?_append_left (by rw [List.length_map, hl]; exact hi), List.getElem?_map, h3]
          rfl
        · rw [List.getElem?_append_right (by rw [List.length_map]; omega)] at e
          cases (List.mem_replicate.mp (List.mem_of_getElem? e)).2
    · obtain ⟨rfl, rfl⟩ := own e
      exact ⟨x, _, rfl, upd_same, hF, hx, dx, [], rfl, rfl⟩
    · rw [(own h1).1, (own h2).1]
    · cases e
      rfl
  refine ⟨t, p (), l ⟨none, H1, F, some x⟩ ⟨trivial, (fun z => nomatch z), fun F' a σ' H' C dd fs ok x w => ?_⟩ _ _ F _ _ _ ok hd ⟨fun F' a' σ' H' ok s h => ?_, fun v d n F' H' f s q h => h.elim, fun _ _ _ _ _ _ h => h.elim, fun _ _ _ _ _ _ h => h.elim⟩⟩
  · exact w dd F' H' ok.fi.ff ok.fi.fh (fun b o n h => ok.fi.fm b o h n) (fun b h => ok.fi.fr b h) (fun p e => nomatch e) x
  · obtain ⟨fs, e, k⟩ := h
    obtain ⟨p, o, h1, h2, h3, g⟩ := ok.own (at_of' e (fun z => nomatch z))
    have h4 := ok.fx x rfl
    rw [h4] at h1
    cases h1
    exact k _ H' (s.trans g.ff) g.ok.fi.fh (fun b o h => ok.fi.fm b o h (fun z => nomatch z)) (fun b h => g.ok.fi.fr b h) ((h3.mono g.ff).dat upd_same)
section
variable {K : PySem.W.Frag} {ω : Wp} {B : Bs K} {F F' F1 F2 G : Hp} {a a' a1 a2 : AS} {σ σ' : St} {H H' H1 H2 : Hp} {n : Int} {te : TE} {de da db dc : DEt} {ι : Type} {X : ι → Cx} {e e1 e2 e3 o : Expr} {es : List Expr} {pos : Pos} {dt : DTt} {dl dm : DAt} {k : Nat} {f C : Addr} {fd : FuncData} {ps : List Str} {s : Sp} {dsp : DSpX} {E : XK} {m x : Str} {p : Pos} {dvs : List V} {dds : List D} {bs : List Value}
def UpsI (K : PySem.W.Frag) (C : Addr) (sp : Sp) (dsp : DSpX) : Prop := ∀ vs H Q E, upI K C dsp vs H Q E → sp vs H Q E
theorem UpsI.rfl : UpsI K C (upI K C dsp) dsp := fun _ _ _ _ h => h
/-- C(..); dds the defaults -/
theorem le_make {ta : TA} (mo : MonX dsp) (u : UpsI K C s dsp) (l : LAE K ω ta dl) (hd0 : ∀ H, DatL K H dds dvs) : LE K ω (tMakeS C s dvs (fun σ => WE ω.W σ) ta) (dCallX0 ω.dW (fun sp ds n R RX => dsp sp (ds ++ dds) n R RX) dl) := fun B hω F a σ H Q R ok hd k => l B hω F a σ H _ _ ok hd fun vs ds F1 a1 H1 g1 q1 r1 => by
  intro x dx hx hdx hne
  refine u _ _ _ _ ⟨x, dx, vs ++ dvs, H1, F1, ds ++ dds, rfl, rfl, hx, hdx, hne, g1.ok.fi.fh, q1.app (hd0 _), mo _ _ _ _ _ _ _ (fun d n' r => ?_) (fun C fs n' r => ?_) r1⟩
  · intro F' H' x1 x2 x3 x4 x5
    exact ⟨rfl, k _ d F' a1 H' (.trans ok g1 (Go.call0 g1.ok x1 x2 (fun b o _ h => x3 b o h) x4)) x5 r⟩
  · intro dd F' H' x1 x2 x3 x4 x5 x6
    exact hω.2.2 F' a1 σ H' C dd fs (Go.call0 g1.ok x1 x2 x3 x4).ok x6 r
theorem de_make (mo : MonX dsp) (u : UpsI K C s dsp) (M : Mk K C f) (G : ∀ j, FnOk (X j).prog (X j).w (X j).K (X j).mg (X j).base (L2.CX (X j).prog (X j).w) k f fd ps s) (hr : ∀ j, Room (k + 1) (X j).A) (hg : ∀ j, Gl (X j) x) (hm : ∀ j, (X j).mg x = some (.ref C)) (hb : Binds K fd ps bs) (hv : Vals dvs bs) (hd0 : ∀ H, DatL K H dds dvs) (tk : ∀ j, Takes (X j) ω.W) (ha : DAE X K ω (e :: es) dl)
    (hdb : (x == ("__debug__" : Str)) = false := by decide) (he : ∀ j, starEach (e :: es) (X j).env = (false, eval e (X j).env) :: starEach es (X j).env := by intro _; rfl) (hpl : ∀ j, (backTo pos (starEach es (X j).env)).any (·.1) = false := by intro _; rfl) (hK : ∀ j, (X j).K = K := by intro _; rfl) :
    DX X K ω (.Call (.Name x p) (e :: es) [] pos) (dCallX0 ω.dW (fun sp ds n R RX => dsp sp (ds ++ dds) n R RX) dl) := by
  obtain ⟨t, h, l⟩ := ha
  exact ⟨_, fun j => pe_makeS (by rw [hK j]; exact M) (G j) (hr j) (hg j) (hm j) (by rw [hK j]; exact hb) hv (passAt (tk j)) (h j) hdb (he j) (hpl j), le_make mo u l hd0⟩
end
section
variable {K : PySem.W.Frag} {ω : Wp} {B : Bs K} {F F' F1 F2 G : Hp} {a a' a1 a2 : AS} {σ σ' : St} {H H' H1 H2 : Hp} {n : Int} {te : TE} {de da db dc : DEt} {ι : Type} {X : ι → Cx} {e e1 e2 o : Expr} {es : List Expr} {pos : Pos} {dt : DTt} {dl dm : DAt}
/-! more built-ins -/
/-- a sign in a text -/
def dInS : DR := fun d e R => match d, e with
  | .v (.str x), .v (.str z) => ∃ c, x = ⟨#[c]⟩ ∧ R (.v (.bl (decide (c ∈ z.cps.toList))))
  | _, _ => False
theorem dop_inS : DOpR X K ω (compareOp .In) dInS := ⟨_, fun _ => op_in_sign, lr_flat fun d e R h => by
  unfold dInS at h
  split at h
  · obtain ⟨c, rfl, h⟩ := h
    exact ⟨_, _, _, rfl, rfl, h, fun H Q q => ⟨c, _, rfl, rfl, q⟩⟩
  · exact h.elim⟩
def dDivmod : DC := fun ds R => match ds with
  | [.v (.int i), .v (.int j)] => CDivP i j ∧ R (.tup [.v (.int (i / j)), .v (.int (i % j))])
  | _ => False
def kD : Key → D
  | .inl i => .v (.int i)
  | .inr x => .v (.str x)
/-- tuple(d): its keys -/
def dTupD : DC := fun ds R => match ds with
  | [.dK kvs] => R (.ftup (kvs.map fun p => kD p.1))
  | _ => False
/-- str(i) -/
def dStrI : DC := fun ds R => match ds with
  | [.v (.int i)] => Nat.log2 i.natAbs < 1920 ∧ R (.v (.str (Str.ofString (toString i))))
  | _ => False
def dBool1 : DC := fun ds R => match ds with
  | [.v (.int i)] => R (.v (.bl (i != 0)))
  | [.v (.bl b)] => R (.v (.bl b))
  | _ => False
/-- min, max, sum of a list of ints -/
def dIs (P : List Int → Prop) (Po : List Int → Int → Prop) : DC := fun ds R => match ds with
  | [.lst es] => (match unI es with
    | some xs => P xs ∧ ∀ m, Po xs m → R (.v (.int m))
    | none => False)
  | _ => False
/-- sorted(texts): a list, or a dict's keys -/
def dSortS : DC := fun ds R => match ds with
  | [.lst es] => (match unS es with
    | some xs => xs.length < 64 ∧ ∀ ys : List Str, ys.Perm xs → PyProof.Rows.sortedS ys = true → R (.lst (ys.map fun y => D.v (V.str y)))
    | none => False)
  | [.dK kvs] => (match unS (kvs.map fun p => kD p.1) with
    | some xs => xs.length < 64 ∧ ∀ ys : List Str, ys.Perm xs → PyProof.Rows.sortedS ys = true → R (.lst (ys.map fun y => D.v (V.str y)))
    | none => False)
  | _ => False
/-! enumerate over lists and tuples, from any number on -/
def enumI (c : Int) (ds : List D) : List D := ds.zipIdx.map fun p => .tup [.v (.int (c + (p.2 : Nat))), p.1]
theorem enumI_at {ds : List D} {c : Int} {i : Nat} {d : D} (h : (enumI c ds)[i]? = some d) : ∃ x, ds[i]? = some x ∧ d = .tup [.v (.int (c + (i : Nat))), x] := by
  unfold enumI at h
  rw [List.getElem?_map, List.getElem?_zipIdx] at h
  cases e : ds[i]? with
  | none => rw [e] at h; cases h
  | some x =>
    rw [e] at h
    refine ⟨x, rfl, (Option.some.inj h).symm.trans ?_⟩
    show D.tup [.v (.int (c + ((0 + i : Nat)))), x] = _
    rw [Nat.zero_add]
theorem enumI_len {ds : List D} {c : Int} : (enumI c ds).length = ds.length := by
  unfold enumI
  rw [List.length_map, List.length_zipIdx]
theorem seqB_of {d : D} {x : V} {es : List D} (e : seqD d = some es) (s : Same G H) (h : Dat K G d x) : ∃ b p vs, x = .ref p ∧ SqB K b H p vs ∧ DatL K G es vs := by
  obtain ⟨p, vs, rfl, h1 | h1, h2⟩ := seqD_dat e s h
  · exact ⟨true, p, vs, rfl, h1, h2⟩
  · exact ⟨false, p, vs, rfl, h1, h2⟩
theorem sqB_same {b : Bool} {p : Addr} {vs : List V} (s : Same H H') (h : SqB K b H p vs) : SqB K b H' p vs := by
  cases b with
  | true => exact s.seq h
  | false => exact same_seqT s h
theorem it_enumB {b : Bool} {p : Addr} {vs : List V} {ds : List D} {c : Int} (h : SqB K b F p vs) (q : DatL K F ds vs) : ItOk K (IteB K b p c) F (enumI c ds) := fun i F1 H1 s1 s2 => by
  have S : SqB K b H1 p vs := sqB_same (s1.trans s2) h
  refine ⟨fun hi => ⟨vs, S, by rw [enumI_len] at hi; rw [q.len]; exact hi⟩, fun d e => ?_⟩
  obtain ⟨x, e1, rfl⟩ := enumI_at e
  obtain ⟨v, e2, e3⟩ := q.get e1
  refine ⟨⟨vs, v, S, e2⟩, fun y H2 ⟨T, x', h4, h5, h6, h7⟩ => .inr ⟨T, _, h5, h6, ?_⟩⟩
  have ex := h7 vs S
  rw [e2] at ex
  cases ex
  have hF : F1 T = none := by
    cases z : F1 T with
    | none => rfl
    | some u => rw [s2 _ _ z] at h5; cases h5
  exact ⟨T, _, h4, upd_same, .cons rfl (.cons ((e3.mono s1).mono (Same.new hF)) .nil)⟩
def dEnumB (dl : DAt) : DAt := fun a R => dl a fun xs a' => match xs with
  | [d] => (match seqD d with
    | some ds => R (enumI 0 ds) a'
    | none => False)
  | _ => False
theorem di_enumB {x : Expr} {p pos tpos : Pos} {elts : List Expr} {kk : Nat} (hg : ∀ j, Gl (X j) "enumerate") (hm : ∀ j, (X j).mg "enumerate" = none) (ha : DAE X K ω [x] dl) (hs : ∀ j, starEach [x] (X j).env = [(false, eval x (X j).env)] := by intro _; rfl) (hK : ∀ j, (X j).K = K := by intro _; rfl) :
    DI X K ω (.Tuple elts kk tpos) (.Call (.Name "enumerate" p) [x] [] pos) (dEnumB dl) := by
  obtain ⟨t, p1, l⟩ := ha
  refine ⟨iEnumB K t, fun j => by rw [← hK j]; exact pi_enumB (hg j) (hm j) (p1 j) (hs j), fun B hω F a σ H Q R ok hd k => l B hω F a σ H _ _ ok hd fun vs ds F' a' H' g q r => ?_⟩
  split at r
  · rename_i d
    split at r
    · rename_i ds e
      obtain ⟨v, r', rfl, h1, h2⟩ := q
      cases (show r' = [] from h2)
      obtain ⟨b, p, ws, rfl, h3, h4⟩ := seqB_of e (Same.refl F') h1
      exact ⟨b, p, ws, rfl, sqB_same g.ok.fi.fh h3, k _ _ F' a' H' g (it_enumB h3 h4) r⟩
    · exact r.elim
  · exact r.elim
/-- enumerate(x, start=k) -/
def dEnumS (dl : DAt) (dk : DEt) : DAt := fun a R => dl a fun xs a1 => dk a1 fun k a' => match xs, k with
  | [d], .v (.int c) => (match seqD d with
    | some ds => (-2 ^ 63 ≤ c ∧ c < 2 ^ 63) ∧ R (enumI c ds) a'
    | none => False)
  | _, _ => False
/-! dict(zip(texts, things)) -/
def dDictZip (dl : DAt) : DEt := fun a R => dl a fun ds a' => match ds with
  | [.tup xs, .tup ys] => (match unS xs with
    | some zs => zs.length ≤ 1000 ∧ R (.dK (mergeA [] ((zs.map Sum.inr).zip ys))) a'
    | none => False)
  | [.ftup xs, .tup ys] => (match unS xs with
    | some zs => zs.length ≤ 1000 ∧ R (.dK (mergeA [] ((zs.map Sum.inr).zip ys))) a'
    | none => False)
  | _ => False
/-! a written dict of texts to tuples of texts -/
def dInG (l : List (Str × List Str)) (de : DEt) : DEt := fun a R => de a fun d a' => match d with
  | .v (.str z) => R (.v (.bl (decide (z ∈ l.map (·.1))))) a'
  | _ => False
def dIxG (l : List (Str × List Str)) (de : DEt) : DEt := fun a R => de a fun d a' => match d with
  | .v (.str z) => ∃ ps, (z, ps) ∈ l ∧ R (.ctup (ps.map fun y => D.v (V.str y))) a'
  | _ => False
/-! x += e -/
def dAug (i : Nat) (g : Int → Int → Int) (de : DEt) : DSt := fun E a => match a.at i with
  | .val (.v (.int x)) => de a fun d a' => match d with
    | .v (.int y) => E.nx (a'.put i (.val (.v (.int (g x y)))))
    | _ => False
  | _ => False
/-! a, b = e: a list or a tuple -/
def dgSeq (u : DGts) : DGt := fun d a R => match seqD d with
  | some ds => u ds a R
  | none => False
theorem dg_seq {k : Nat} {dg : DGts} {w : List Nat} {m : Nat} (hc : ∀ j, (X j).calm = true) (h : DGs X K ω es dg w m) (hn : ∀ j, (assignEach es (X j).env).length = m := by intro _; rfl) (hst : ∀ j, (assignEach es (X j).env).findIdx? (fun x => x.1) = none := by intro _; rfl) (hK : ∀ j, (X j).K = K := by intro _; rfl) : DG X K ω (.Tuple es k pos) (dgSeq dg) w := by
  obtain ⟨g, p, l, hl⟩ := h
  refine ⟨fun v σ H Q => gTup K m g v σ H Q ∨ gUnl K m g v σ H Q, fun j => ⟨fun pins s σ H v u Q I r hw => hw.elim (fun hw => (pg_tup (hc j) (p j) (hn j) (hst j)).run pins s σ H v u Q I r (by rw [hK j]; exact hw)) fun hw => (pg_unl (hc j) (p j) (hn j) (hst j)).run pins s σ H v u Q I r (by rw [hK j]; exact hw)⟩, fun B hω F a σ H v d Q R ok h hd k => ?_⟩
  unfold dgSeq at hd
  split at hd
  · rename_i ds e
    obtain ⟨p, vs, rfl, h1, h2⟩ := seqD_dat e ok.fi.fh h
    rcases h1 with h1 | h1
    · exact .inr ⟨p, vs, rfl, h1, by rw [h2.len]; exact hl _ _ _ hd, l B hω F a σ H vs ds Q R ok h2 hd k⟩
    · exact .inl ⟨p, vs, rfl, h1, by rw [h2.len]; exact hl _ _ _ hd, l B hω F a σ H vs ds Q R ok h2 hd k⟩
  · exact hd.elim
/-! d.setdefault((..), v): one's own dict with tuple keys -/
def dDSetT (i : Nat) (dk dv : DEt) : DSt := fun E a => isOwnT (a.at i) = true ∧ dk a fun e a1 => dv a1 fun d a2 => match a2.at i, e with
  | .own (.dT kvs), .tup ds => (match keysD ds with
    | some k => kvs.length < sizeLine ∧ E.nx (a2.put i (.own (.dT (match getA kvs k with | some _ => kvs | none => putA kvs k d))))
    | none => False)
  | _, _ => False
where isOwnT : Sl → Bool
  | .own (.dT _) => true
  | _ => false
/-! a, b = x, y and a, b, c = x, y, z -/
def dPar (i j : Nat) (dl : DAt) : DSt := fun E a => dl a fun ds a' => match ds with
  | [d, e] => E.nx ((a'.put i (.val d)).put j (.val e))
  | _ => False
theorem ds_par {i j : Nat} {x y : Str} {px py pt : Pos} {kt k2 pt2} (hc : ∀ q, (X q).calm = true) (hN : ∀ q, (X q).N.Nodup) (hi : ∀ q, (X q).N[i]? = some x) (hj : ∀ q, (X q).N[j]? = some y) (hij : i ≠ j) (hx : ∀ q, (X q).env.scope.names.lookup x = some .local) (hy : ∀ q, (X q).env.scope.names.lookup y = some .local) (ha : DAE X K ω [e1, e2] dl)
    (hw : ∀ q, swappedStores [.Tuple [.Name x px, .Name y py] kt pt] (.Tuple [e1, e2] k2 pt2) (X q).env = pure (some [x, y])) (hs : ∀ q, swapsWithSole [.Tuple [.Name x px, .Name y py] kt pt] (.Tuple [e1, e2] k2 pt2) pos.line (X q).env = pure false := by intro _; rfl)
    (hzi : ω.sf = false ∨ i ≠ 0 := by first | exact Or.inl rfl | exact Or.inr (by decide)) (hzj : ω.sf = false ∨ j ≠ 0 := by first | exact Or.inl rfl | exact Or.inr (by decide)) :
    DS X K ω (.Assign [.Tuple [.Name x px, .Name y py] kt pt] (.Tuple [e1, e2] k2 pt2) pos) (dPar i j dl) := by
  obtain ⟨t, p, l⟩ := ha
  refine ⟨_, fun q => ps_par (hc q) (hN q) (hi q) (hj q) hij (hx q) (hy q) (p q) (hw q) (hs q), fun B hω E DE F a σ H ok hd k => l B hω F a σ H _ _ ok hd fun vs ds F' a' H' g q r => ?_⟩
  split at r
  · obtain ⟨v, r', rfl, h1, w, r'', rfl, h2, h3⟩ := q
    cases (show r'' = [] from h3)
    exact ⟨v, w, rfl, k.nx F' _ _ H' ((g.ok.setV (hω.z hzi) h1).setV (hω.z hzj) h2) g.ff r⟩
  · exact r.elim
def dPar3 (i j m : Nat) (dl : DAt) : DSt := fun E a => dl a fun ds a' => match ds with
  | [d, e, f] => E.nx (((a'.put i (.val d)).put j (.val e)).put m (.val f))
  | _ => False
end
section
variable {P : Program} {w : World} {K : PySem.W.Frag} {mg : Str → Option Value} {base : Heap}
/-! ### reading, step by step -/
theorem bif_t {A C : Prop} (h : A) : bIf true A C := h
theorem bif_f {A C : Prop} (h : C) : bIf false A C := h
theorem bif_d {c A C : Prop} {inst : Decidable c} (h1 : c → A) (h2 : ¬ c → C) : bIf (@decide c inst) A C := by
  by_cases h : c
  · rw [decide_eq_true h]
    exact h1 h
  · rw [decide_eq_false h]
    exact h2 h
theorem bif_nd {c A C : Prop} {inst : Decidable c} (h1 : ¬ c → A) (h2 : c → C) : bIf (!@decide c inst) A C := by
  by_cases h : c
  · rw [decide_eq_true h]
    exact h2 h
  · rw [decide_eq_false h]
    exact h1 h
theorem bif_nb {b : Bool} {A C : Prop} (h1 : b = false → A) (h2 : b = true → C) : bIf (!b) A C := by
  cases b with
  | true => exact h2 rfl
  | false => exact h1 rfl
theorem at_0 {x0 : Sl} {l : List Sl} {n : Int} {sp : Option Addr} : AS.at ⟨x0 :: l, n, sp⟩ 0 = x0 := rfl
theorem put_0 {x0 y : Sl} {l : List Sl} {n : Int} {sp : Option Addr} : AS.put ⟨x0 :: l, n, sp⟩ 0 y = ⟨y :: l, n, sp⟩ := rfl
theorem at_1 {x0 x1 : Sl} {l : List Sl} {n : Int} {sp : Option Addr} : AS.at ⟨x0 :: x1 :: l, n, sp⟩ 1 = x1 := rfl
theorem put_1 {x0 x1 y : Sl} {l : List Sl} {n : Int} {sp : Option Addr} : AS.put ⟨x0 :: x1 :: l, n, sp⟩ 1 y = ⟨x0 :: y :: l, n, sp⟩ := rfl
theorem at_2 {x0 x1 x2 : Sl} {l : List Sl} {n : Int} {sp : Option Addr} : AS.at ⟨x0 :: x1 :: x2 :: l, n, sp⟩ 2 = x2 := rfl
theorem put_2 {x0 x1 x2 y : Sl} {l : List Sl} {n : Int} {sp : Option Addr} : AS.put ⟨x0 :: x1 :: x2 :: l, n, sp⟩ 2 y = ⟨x0 :: x1 :: y :: l, n, sp⟩ := rfl
theorem at_3 {x0 x1 x2 x3 : Sl} {l : List Sl} {n : Int} {sp : Option Addr} : AS.at ⟨x0 :: x1 :: x2 :: x3 :: l, n, sp⟩ 3 = x3 := rfl
theorem put_3 {x0 x1 x2 x3 y : Sl} {l : List Sl} {n : Int} {sp : Option Addr} : AS.put ⟨x0 :: x1 :: x2 :: x3 :: l, n, sp⟩ 3 y = ⟨x0 :: x1 :: x2 :: y :: l, n, sp⟩ := rfl
theorem at_4 {x0 x1 x2 x3 x4 : Sl} {l : List Sl} {n : Int} {sp : Option Addr} : AS.at ⟨x0 :: x1 :: x2 :: x3 :: x4 :: l, n, sp⟩ 4 = x4 := rfl
theorem put_4 {x0 x1 x2 x3 x4 y : Sl} {l : List Sl} {n : Int} {sp : Option Addr} : AS.put ⟨x0 :: x1 :: x2 :: x3 :: x4 :: l, n, sp⟩ 4 y = ⟨x0 :: x1 :: x2 :: x3 :: y :: l, n, sp⟩ := rfl
theorem at_5 {x0 x1 x2 x3 x4 x5 : Sl} {l : List Sl} {n : Int} {sp : Option Addr} : AS.at ⟨x0 :: x1 :: x2 :: x3 :: x4 :: x5 :: l, n, sp⟩ 5 = x5 := rfl
theorem put_5 {x0 x1 x2 x3 x4 x5 y : Sl} {l : List Sl} {n : Int} {sp : Option Addr} : AS.put ⟨x0 :: x1 :: x2 :: x3 :: x4 :: x5 :: l, n, sp⟩ 5 y = ⟨x0 :: x1 :: x2 :: x3 :: x4 :: y :: l, n, sp⟩ := rfl
theorem at_6 {x0 x1 x2 x3 x4 x5 x6 : Sl} {l : List Sl} {n : Int} {sp : Option Addr} : AS.at ⟨x0 :: x1 :: x2 :: x3 :: x4 :: x5 :: x6 :: l, n, sp⟩ 6 = x6 := rfl
theorem put_6 {x0 x1 x2 x3 x4 x5 x6 y : Sl} {l : List Sl} {n : Int} {sp : Option Addr} : AS.put ⟨x0 :: x1 :: x2 :: x3 :: x4 :: x5 :: x6 :: l, n, sp⟩ 6 y = ⟨x0 :: x1 :: x2 :: x3 :: x4 :: x5 :: y :: l, n, sp⟩ := rfl
theorem at_7 {x0 x1 x2 x3 x4 x5 x6 x7 : Sl} {l : List Sl} {n : Int} {sp : Option Addr} : AS.at ⟨x0 :: x1 :: x2 :: x3 :: x4 :: x5 :: x6 :: x7 :: l, n, sp⟩ 7 = x7 := rfl
theorem put_7 {x0 x1 x2 x3 x4 x5 x6 x7 y : Sl} {l : List Sl} {n : Int} {sp : Option Addr} : AS.put ⟨x0 :: x1 :: x2 :: x3 :: x4 :: x5 :: x6 :: x7 :: l, n, sp⟩ 7 y = ⟨x0 :: x1 :: x2 :: x3 :: x4 :: x5 :: x6 :: y :: l, n, sp⟩ := rfl
theorem at_8 {x0 x1 x2 x3 x4 x5 x6 x7 x8 : Sl} {l : List Sl} {n : Int} {sp : Option Addr} : AS.at ⟨x0 :: x1 :: x2 :: x3 :: x4 :: x5 :: x6 :: x7 :: x8 :: l, n, sp⟩ 8 = x8 := rfl
theorem put_8 {x0 x1 x2 x3 x4 x5 x6 x7 x8 y : Sl} {l : List Sl} {n : Int} {sp : Option Addr} : AS.put ⟨x0 :: x1 :: x2 :: x3 :: x4 :: x5 :: x6 :: x7 :: x8 :: l, n, sp⟩ 8 y = ⟨x0 :: x1 :: x2 :: x3 :: x4 :: x5 :: x6 :: x7 :: y :: l, n, sp⟩ := rfl
theorem at_9 {x0 x1 x2 x3 x4 x5 x6 x7 x8 x9 : Sl} {l : List Sl} {n : Int} {sp : Option Addr} : AS.at ⟨x0 :: x1 :: x2 :: x3 :: x4 :: x5 :: x6 :: x7 :: x8 :: x9 :: l, n, sp⟩ 9 = x9 := rfl
theorem put_9 {x0 x1 x2 x3 x4 x5 x6 x7 x8 x9 y : Sl} {l : List Sl} {n : Int} {sp : Option Addr} : AS.put ⟨x0 :: x1 :: x2 :: x3 :: x4 :: x5 :: x6 :: x7 :: x8 :: x9 :: l, n, sp⟩ 9 y = ⟨x0 :: x1 :: x2 :: x3 :: x4 :: x5 :: x6 :: x7 :: x8 :: y :: l, n, sp⟩ := rfl
theorem at_10 {x0 x1 x2 x3 x4 x5 x6 x7 x8 x9 x10 : Sl} {l : List Sl} {n : Int} {sp : Option Addr} : AS.at ⟨x0 :: x1 :: x2 :: x3 :: x4 :: x5 :: x6 :: x7 :: x8 :: x9 :: x10 :: l, n, sp⟩ 10 = x10 := rfl
theorem put_10 {x0 x1 x2 x3 x4 x5 x6 x7 x8 x9 x10 y : Sl} {l : List Sl} {n : Int} {sp : Option Addr} : AS.put ⟨x0 :: x1 :: x2 :: x3 :: x4 :: x5 :: x6 :: x7 :: x8 :: x9 :: x10 :: l, n, sp⟩ 10 y = ⟨x0 :: x1 :: x2 :: x3 :: x4 :: x5 :: x6 :: x7 :: x8 :: x9 :: y :: l, n, sp⟩ := rfl
theorem at_11 {x0 x1 x2 x3 x4 x5 x6 x7 x8 x9 x10 x11 : Sl} {l : List Sl} {n : Int} {sp : Option Addr} : AS.at ⟨x0 :: x1 :: x2 :: x3 :: x4 :: x5 :: x6 :: x7 :: x8 :: x9 :: x10 :: x11 :: l, n, sp⟩ 11 = x11 := rfl
theorem put_11 {x0 x1 x2 x3 x4 x5 x6 x7 x8 x9 x10 x11 y : Sl} {l : List Sl} {n : Int} {sp : Option Addr} : AS.put ⟨x0 :: x1 :: x2 :: x3 :: x4 :: x5 :: x6 :: x7 :: x8 :: x9 :: x10 :: x11 :: l, n, sp⟩ 11 y = ⟨x0 :: x1 :: x2 :: x3 :: x4 :: x5 :: x6 :: x7 :: x8 :: x9 :: x10 :: y :: l, n, sp⟩ := rfl
theorem at_12 {x0 x1 x2 x3 x4 x5 x6 x7 x8 x9 x10 x11 x12 : Sl} {l : List Sl} {n : Int} {sp : Option Addr} : AS.at ⟨x0 :: x1 :: x2 :: x3 :: x4 :: x5 :: x6 :: x7 :: x8 :: x9 :: x10 :: x11 :: x12 :: l, n, sp⟩ 12 = x12 := rfl
theorem put_12 {x0 x1 x2 x3 x4 x5 x6 x7 x8 x9 x10 x11 x12 y : Sl} {l : List Sl} {n : Int} {sp : Option Addr} : AS.put ⟨x0 :: x1 :: x2 :: x3 :: x4 :: x5 :: x6 :: x7 :: x8 :: x9 :: x10 :: x11 :: x12 :: l, n, sp⟩ 12 y = ⟨x0 :: x1 :: x2 :: x3 :: x4 :: x5 :: x6 :: x7 :: x8 :: x9 :: x10 :: x11 :: y :: l, n, sp⟩ := rfl
theorem at_13 {x0 x1 x2 x3 x4 x5 x6 x7 x8 x9 x10 x11 x12 x13 : Sl} {l : List Sl} {n : Int} {sp : Option Addr} : AS.at ⟨x0 :: x1 :: x2 :: x3 :: x4 :: x5 :: x6 :: x7 :: x8 :: x9 :: x10 :: x11 :: x12 :: x13 :: l, n, sp⟩ 13 = x13 := rfl
theorem put_13 {x0 x1 x2 x3 x4 x5 x6 x7 x8 x9 x10 x11 x12 x13 y : Sl} {l : List Sl} {n : Int} {sp : Option Addr} : AS.put ⟨x0 :: x1 :: x2 :: x3 :: x4 :: x5 :: x6 :: x7 :: x8 :: x9 :: x10 :: x11 :: x12 :: x13 :: l, n, sp⟩ 13 y = ⟨x0 :: x1 :: x2 :: x3 :: x4 :: x5 :: x6 :: x7 :: x8 :: x9 :: x10 :: x11 :: x12 :: y :: l, n, sp⟩ := rfl
theorem at_14 {x0 x1 x2 x3 x4 x5 x6 x7 x8 x9 x10 x11 x12 x13 x14 : Sl} {l : List Sl} {n : Int} {sp : Option Addr} : AS.at ⟨x0 :: x1 :: x2 :: x3 :: x4 :: x5 :: x6 :: x7 :: x8 :: x9 :: x10 :: x11 :: x12 :: x13 :: x14 :: l, n, sp⟩ 14 = x14 := rfl
theorem put_14 {x0 x1 x2 x3 x4 x5 x6 x7 x8 x9 x10 x11 x12 x13 x14 y : Sl} {l : List Sl} {n : Int} {sp : Option Addr} : AS.put ⟨x0 :: x1 :: x2 :: x3 :: x4 :: x5 :: x6 :: x7 :: x8 :: x9 :: x10 :: x11 :: x12 :: x13 :: x14 :: l, n, sp⟩ 14 y = ⟨x0 :: x1 :: x2 :: x3 :: x4 :: x5 :: x6 :: x7 :: x8 :: x9 :: x10 :: x11 :: x12 :: x13 :: y :: l, n, sp⟩ := rfl
theorem at_15 {x0 x1 x2 x3 x4 x5 x6 x7 x8 x9 x10 x11 x12 x13 x14 x15 : Sl} {l : List Sl} {n : Int} {sp : Option Addr} : AS.at ⟨x0 :: x1 :: x2 :: x3 :: x4 :: x5 :: x6 :: x7 :: x8 :: x9 :: x10 :: x11 :: x12 :: x13 :: x14 :: x15 :: l, n, sp⟩ 15 = x15 := rfl
theorem put_15 {x0 x1 x2 x3 x4 x5 x6 x7 x8 x9 x10 x11 x12 x13 x14 x15 y : Sl} {l : List Sl} {n : Int} {sp : Option Addr} : AS.put ⟨x0 :: x1 :: x2 :: x3 :: x4 :: x5 :: x6 :: x7 :: x8 :: x9 :: x10 :: x11 :: x12 :: x13 :: x14 :: x15 :: l, n, sp⟩ 15 y = ⟨x0 :: x1 :: x2 :: x3 :: x4 :: x5 :: x6 :: x7 :: x8 :: x9 :: x10 :: x11 :: x12 :: x13 :: x14 :: y :: l, n, sp⟩ := rfl
theorem at_16 {x0 x1 x2 x3 x4 x5 x6 x7 x8 x9 x10 x11 x12 x13 x14 x15 x16 : Sl} {l : List Sl} {n : Int} {sp : Option Addr} : AS.at ⟨x0 :: x1 :: x2 :: x3 :: x4 :: x5 :: x6 :: x7 :: x8 :: x9 :: x10 :: x11 :: x12 :: x13 :: x14 :: x15 :: x16 :: l, n, sp⟩ 16 = x16 := rfl
theorem put_16 {x0 x1 x2 x3 x4 x5 x6 x7 x8 x9 x10 x11 x12 x13 x14 x15 x16 y : Sl} {l : List Sl} {n : Int} {sp : Option Addr} : AS.put ⟨x0 :: x1 :: x2 :: x3 :: x4 :: x5 :: x6 :: x7 :: x8 :: x9 :: x10 :: x11 :: x12 :: x13 :: x14 :: x15 :: x16 :: l, n, sp⟩ 16 y = ⟨x0 :: x1 :: x2 :: x3 :: x4 :: x5 :: x6 :: x7 :: x8 :: x9 :: x10 :: x11 :: x12 :: x13 :: x14 :: x15 :: y :: l, n, sp⟩ := rfl
theorem at_17 {x0 x1 x2 x3 x4 x5 x6 x7 x8 x9 x10 x11 x12 x13 x14 x15 x16 x17 : Sl} {l : List Sl} {n : Int} {sp : Option Addr} : AS.at ⟨x0 :: x1 :: x2 :: x3 :: x4 :: x5 :: x6 :: x7 :: x8 :: x9 :: x10 :: x11 :: x12 :: x13 :: x14 :: x15 :: x16 :: x17 :: l, n, sp⟩ 17 = x17 := rfl
theorem put_17 {x0 x1 x2 x3 x4 x5 x6 x7 x8 x9 x10 x11 x12 x13 x14 x15 x16 x17 y : Sl} {l : List Sl} {n : Int} {sp : Option Addr} : AS.put ⟨x0 :: x1 :: x2 :: x3 :: x4 :: x5 :: x6 :: x7 :: x8 :: x9 :: x10 :: x11 :: x12 :: x13 :: x14 :: x15 :: x16 :: x17 :: l, n, sp⟩ 17 y = ⟨x0 :: x1 :: x2 :: x3 :: x4 :: x5 :: x6 :: x7 :: x8 :: x9 :: x10 :: x11 :: x12 :: x13 :: x14 :: x15 :: x16 :: y :: l, n, sp⟩ := rfl
theorem at_18 {x0 x1 x2 x3 x4 x5 x6 x7 x8 x9 x10 x11 x12 x13 x14 x15 x16 x17 x18 : Sl} {l : List Sl} {n : Int} {sp : Option Addr} : AS.at ⟨x0 :: x1 :: x2 :: x3 :: x4 :: x5 :: x6 :: x7 :: x8 :: x9 :: x10 :: x11 :: x12 :: x13 :: x14 :: x15 :: x16 :: x17 :: x18 :: l, n, sp⟩ 18 = x18 := rfl
theorem put_18 {x0 x1 x2 x3 x4 x5 x6 x7 x8 x9 x10 x11 x12 x13 x14 x15 x16 x17 x18 y : Sl} {l : List Sl} {n : Int} {sp : Option Addr} : AS.put ⟨x0 :: x1 :: x2 :: x3 :: x4 :: x5 :: x6 :: x7 :: x8 :: x9 :: x10 :: x11 :: x12 :: x13 :: x14 :: x15 :: x16 :: x17 :: x18 :: l, n, sp⟩ 18 y = ⟨x0 :: x1 :: x2 :: x3 :: x4 :: x5 :: x6 :: x7 :: x8 :: x9 :: x10 :: x11 :: x12 :: x13 :: x14 :: x15 :: x16 :: x17 :: y :: l, n, sp⟩ := rfl
theorem at_19 {x0 x1 x2 x3 x4 x5 x6 x7 x8 x9 x10 x11 x12 x13 x14 x15 x16 x17 x18 x19 : Sl} {l : List Sl} {n : Int} {sp : Option Addr} : AS.at ⟨x0 :: x1 :: x2 :: x3 :: x4 :: x5 :: x6 :: x7 :: x8 :: x9 :: x10 :: x11 :: x12 :: x13 :: x14 :: x15 :: x16 :: x17 :: x18 :: x19 :: l, n, sp⟩ 19 = x19 := rfl
theorem put_19 {x0 x1 x2 x3 x4 x5 x6 x7 x8 x9 x10 x11 x12 x13 x14 x15 x16 x17 x18 x19 y : Sl} {l : List Sl} {n : Int} {sp : Option Addr} : AS.put ⟨x0 :: x1 :: x2 :: x3 :: x4 :: x5 :: x6 :: x7 :: x8 :: x9 :: x10 :: x11 :: x12 :: x13 :: x14 :: x15 :: x16 :: x17 :: x18 :: x19 :: l, n, sp⟩ 19 y = ⟨x0 :: x1 :: x2 :: x3 :: x4 :: x5 :: x6 :: x7 :: x8 :: x9 :: x10 :: x11 :: x12 :: x13 :: x14 :: x15 :: x16 :: x17 :: x18 :: y :: l, n, sp⟩ := rfl
theorem at_20 {x0 x1 x2 x3 x4 x5 x6 x7 x8 x9 x10 x11 x12 x13 x14 x15 x16 x17 x18 x19 x20 : Sl} {l : List Sl} {n : Int} {sp : Option Addr} : AS.at ⟨x0 :: x1 :: x2 :: x3 :: x4 :: x5 :: x6 :: x7 :: x8 :: x9 :: x10 :: x11 :: x12 :: x13 :: x14 :: x15 :: x16 :: x17 :: x18 :: x19 :: x20 :: l, n, sp⟩ 20 = x20 := rfl
theorem put_20 {x0 x1 x2 x3 x4 x5 x6 x7 x8 x9 x10 x11 x12 x13 x14 x15 x16 x17 x18 x19 x20 y : Sl} {l : List Sl} {n : Int} {sp : Option Addr} : AS.put ⟨x0 :: x1 :: x2 :: x3 :: x4 :: x5 :: x6 :: x7 :: x8 :: x9 :: x10 :: x11 :: x12 :: x13 :: x14 :: x15 :: x16 :: x17 :: x18 :: x19 :: x20 :: l, n, sp⟩ 20 y = ⟨x0 :: x1 :: x2 :: x3 :: x4 :: x5 :: x6 :: x7 :: x8 :: x9 :: x10 :: x11 :: x12 :: x13 :: x14 :: x15 :: x16 :: x17 :: x18 :: x19 :: y :: l, n, sp⟩ := rfl
theorem at_21 {x0 x1 x2 x3 x4 x5 x6 x7 x8 x9 x10 x11 x12 x13 x14 x15 x16 x17 x18 x19 x20 x21 : Sl} {l : List Sl} {n : Int} {sp : Option Addr} : AS.at ⟨x0 :: x1 :: x2 :: x3 :: x4 :: x5 :: x6 :: x7 :: x8 :: x9 :: x10 :: x11 :: x12 :: x13 :: x14 :: x15 :: x16 :: x17 :: x18 :: x19 :: x20 :: x21 :: l, n, sp⟩ 21 = x21 := rfl
theorem put_21 {x0 x1 x2 x3 x4 x5 x6 x7 x8 x9 x10 x11 x12 x13 x14 x15 x16 x17 x18 x19 x20 x21 y : Sl} {l : List Sl} {n : Int} {sp : Option Addr} : AS.put ⟨x0 :: x1 :: x2 :: x3 :: x4 :: x5 :: x6 :: x7 :: x8 :: x9 :: x10 :: x11 :: x12 :: x13 :: x14 :: x15 :: x16 :: x17 :: x18 :: x19 :: x20 :: x21 :: l, n, sp⟩ 21 y = ⟨x0 :: x1 :: x2 :: x3 :: x4 :: x5 :: x6 :: x7 :: x8 :: x9 :: x10 :: x11 :: x12 :: x13 :: x14 :: x15 :: x16 :: x17 :: x18 :: x19 :: x20 :: y :: l, n, sp⟩ := rfl
theorem at_22 {x0 x1 x2 x3 x4 x5 x6 x7 x8 x9 x10 x11 x12 x13 x14 x15 x16 x17 x18 x19 x20 x21 x22 : Sl} {l : List Sl} {n : Int} {sp : Option Addr} : AS.at ⟨x0 :: x1 :: x2 :: x3 :: x4 :: x5 :: x6 :: x7 :: x8 :: x9 :: x10 :: x11 :: x12 :: x13 :: x14 :: x15 :: x16 :: x17 :: x18 :: x19 :: x20 :: x21 :: x22 :: l, n, sp⟩ 22 = x22 := rfl
theorem put_22 {x0 x1 x2 x3 x4 x5 x6 x7 x8 x9 x10 x11 x12 x13 x14 x15 x16 x17 x18 x19 x20 x21 x22 y : Sl} {l : List Sl} {n : Int} {sp : Option Addr} : AS.put ⟨x0 :: x1 :: x2 :: x3 :: x4 :: x5 :: x6 :: x7 :: x8 :: x9 :: x10 :: x11 :: x12 :: x13 :: x14 :: x15 :: x16 :: x17 :: x18 :: x19 :: x20 :: x21 :: x22 :: l, n, sp⟩ 22 y = ⟨x0 :: x1 :: x2 :: x3 :: x4 :: x5 :: x6 :: x7 :: x8 :: x9 :: x10 :: x11 :: x12 :: x13 :: x14 :: x15 :: x16 :: x17 :: x18 :: x19 :: x20 :: x21 :: y :: l, n, sp⟩ := rfl
theorem at_23 {x0 x1 x2 x3 x4 x5 x6 x7 x8 x9 x10 x11 x12 x13 x14 x15 x16 x17 x18 x19 x20 x21 x22 x23 : Sl} {l : List Sl} {n : Int} {sp : Option Addr} : AS.at ⟨x0 :: x1 :: x2 :: x3 :: x4 :: x5 :: x6 :: x7 :: x8 :: x9 :: x10 :: x11 :: x12 :: x13 :: x14 :: x15 :: x16 :: x17 :: x18 :: x19 :: x20 :: x21 :: x22 :: x23 :: l, n, sp⟩ 23 = x23 := rfl
theorem put_23 {x0 x1 x2 x3 x4 x5 x6 x7 x8 x9 x10 x11 x12 x13 x14 x15 x16 x17 x18 x19 x20 x21 x22 x23 y : Sl} {l : List Sl} {n : Int} {sp : Option Addr} : AS.put ⟨x0 :: x1 :: x2 :: x3 :: x4 :: x5 :: x6 :: x7 :: x8 :: x9 :: x10 :: x11 :: x12 :: x13 :: x14 :: x15 :: x16 :: x17 :: x18 :: x19 :: x20 :: x21 :: x22 :: x23 :: l, n, sp⟩ 23 y = ⟨x0 :: x1 :: x2 :: x3 :: x4 :: x5 :: x6 :: x7 :: x8 :: x9 :: x10 :: x11 :: x12 :: x13 :: x14 :: x15 :: x16 :: x17 :: x18 :: x19 :: x20 :: x21 :: x22 :: y :: l, n, sp⟩ := rfl
theorem at_24 {x0 x1 x2 x3 x4 x5 x6 x7 x8 x9 x10 x11 x12 x13 x14 x15 x16 x17 x18 x19 x20 x21 x22 x23 x24 : Sl} {l : List Sl} {n : Int} {sp : Option Addr} : AS.at ⟨x0 :: x1 :: x2 :: x3 :: x4 :: x5 :: x6 :: x7 :: x8 :: x9 :: x10 :: x11 :: x12 :: x13 :: x14 :: x15 :: x16 :: x17 :: x18 :: x19 :: x20 :: x21 :: x22 :: x23 :: x24 :: l, n, sp⟩ 24 = x24 := rfl
theorem put_24 {x0 x1 x2 x3 x4 x5 x6 x7 x8 x9 x10 x11 x12 x13 x14 x15 x16 x17 x18 x19 x20 x21 x22 x23 x24 y : Sl} {l : List Sl} {n : Int} {sp : Option Addr} : AS.put ⟨x0 :: x1 :: x2 :: x3 :: x4 :: x5 :: x6 :: x7 :: x8 :: x9 :: x10 :: x11 :: x12 :: x13 :: x14 :: x15 :: x16 :: x17 :: x18 :: x19 :: x20 :: x21 :: x22 :: x23 :: x24 :: l, n, sp⟩ 24 y = ⟨x0 :: x1 :: x2 :: x3 :: x4 :: x5 :: x6 :: x7 :: x8 :: x9 :: x10 :: x11 :: x12 :: x13 :: x14 :: x15 :: x16 :: x17 :: x18 :: x19 :: x20 :: x21 :: x22 :: x23 :: y :: l, n, sp⟩ := rfl
theorem at_25 {x0 x1 x2 x3 x4 x5 x6 x7 x8 x9 x10 x11 x12 x13 x14 x15 x16 x17 x18 x19 x20 x21 x22 x23 x24 x25 : Sl} {l : List Sl} {n : Int} {sp : Option Addr} : AS.at ⟨x0 :: x1 :: x2 :: x3 :: x4 :: x5 :: x6 :: x7 :: x8 :: x9 :: x10 :: x11 :: x12 :: x13 :: x14 :: x15 :: x16 :: x17 :: x18 :: x19 :: x20 :: x21 :: x22 :: x23 :: x24 :: x25 :: l, n, sp⟩ 25 = x25 := rfl
theorem put_25 {x0 x1 x2 x3 x4 x5 x6 x7 x8 x9 x10 x11 x12 x13 x14 x15 x16 x17 x18 x19 x20 x21 x22 x23 x24 x25 y : Sl} {l : List Sl} {n : Int} {sp : Option Addr} : AS.put ⟨x0 :: x1 :: x2 :: x3 :: x4 :: x5 :: x6 :: x7 :: x8 :: x9 :: x10 :: x11 :: x12 :: x13 :: x14 :: x15 :: x16 :: x17 :: x18 :: x19 :: x20 :: x21 :: x22 :: x23 :: x24 :: x25 :: l, n, sp⟩ 25 y = ⟨x0 :: x1 :: x2 :: x3 :: x4 :: x5 :: x6 :: x7 :: x8 :: x9 :: x10 :: x11 :: x12 :: x13 :: x14 :: x15 :: x16 :: x17 :: x18 :: x19 :: x20 :: x21 :: x22 :: x23 :: x24 :: y :: l, n, sp⟩ := rfl
theorem not_t : (!true) = false := rfl
theorem not_f : (!false) = true := rfl
theorem bIf_t (A C : Prop) : bIf true A C = A := rfl
theorem bIf_f (A C : Prop) : bIf false A C = C := rfl
theorem mapc {α β : Type} {f : α → β} {x : α} {l : List α} : (x :: l).map f = f x :: l.map f := rfl
theorem mapn {α β : Type} {f : α → β} : ([] : List α).map f = [] := rfl
theorem wipe_1 {a : AS} {i : Nat} : dWipe a [i] = a.put i .emp := rfl
theorem wipe_2 {a : AS} {i j : Nat} : dWipe a [i, j] = (a.put j .emp).put i .emp := rfl
theorem wipe_3 {a : AS} {i j k : Nat} : dWipe a [i, j, k] = ((a.put k .emp).put j .emp).put i .emp := rfl
theorem wipe_4 {a : AS} {i j k l : Nat} : dWipe a [i, j, k, l] = (((a.put l .emp).put k .emp).put j .emp).put i .emp := rfl
theorem wipe_5 {a : AS} {i j k l m : Nat} : dWipe a [i, j, k, l, m] = ((((a.put m .emp).put l .emp).put k .emp).put j .emp).put i .emp := rfl
/-- over coded things -/
theorem lc_mapc {α : Type} {f : α → D} {xs : List α} {w : List Sl} {vs : List Nat} {dg : DGt} {dt : DTt} {de : DEt} {sp : Option Addr} {R : List D → Int → Prop} {n : Int} (g : α → D) (hl : xs.length ≤ sizeLine)
    (h : ∀ x ∈ xs, ∀ S : D → AS → Prop, (∀ a, (dWipe a vs).sl = w → a.n = n → S (g x) a) → dg (f x) ⟨w, n, sp⟩ fun a1 => dt a1 fun b a2 => bIf b (de a2 S) False) (hR : R (xs.map g) n)
    (mt : ∀ a (S S' : Bool → AS → Prop), (∀ b a, S b a → S' b a) → dt a S → dt a S') (mg : ∀ d a (S S' : AS → Prop), (∀ a, S a → S' a) → dg d a S → dg d a S') : dLcGo w vs dg dt de sp R (xs.map f) [] n := by
  refine dLc_inv (fun i acc n' => acc = (xs.take i).map g ∧ n' = n) ⟨rfl, rfl⟩ (fun i d acc n' N hi ⟨h1, h2⟩ hN => ?_) fun acc n' ⟨h1, h2⟩ => ?_
  · subst h1 h2
    rw [List.getElem?_map] at hi
    obtain ⟨x, hx, rfl⟩ := Option.map_eq_some_iff.mp hi
    have hlt : i < xs.length := (List.getElem?_eq_some_iff.mp hx).1
    refine mg _ _ _ _ (fun a1 q => mt _ _ _ (fun b a2 q => ?_) q) (h x (List.mem_of_getElem? hx) (fun x a3 => (dWipe a3 vs).sl = w ∧ ((xs.take i).map g).length < sizeLine ∧ N ((xs.take i).map g ++ [x]) a3.n) fun a e1 e2 => ⟨e1, ?_, hN _ _ ⟨?_, e2⟩⟩)
    · cases b with
      | true => exact q
      | false => exact q.elim
    · rw [List.length_map, List.length_take]
      omega
    · rw [take_more hx, List.map_append]
      rfl
  · subst h1 h2
    rw [List.length_map, List.take_length]
    exact hR
theorem lc_mapc1 {α : Type} {f : α → D} {xs : List α} {w : List Sl} {vs : List Nat} {i : Nat} {de : DEt} {sp : Option Addr} {R : List D → Int → Prop} {n : Int} (g : α → D) (hl : xs.length ≤ sizeLine)
    (h : ∀ x ∈ xs, ∀ S : D → AS → Prop, (∀ a, (dWipe a vs).sl = w → a.n = n → S (g x) a) → de (AS.put ⟨w, n, sp⟩ i (.val (f x))) S) (hR : R (xs.map g) n) : dLcGo w vs (dgName i) (fun a R => R true a) de sp R (xs.map f) [] n :=
  lc_mapc g hl h hR (fun _ _ _ f q => f _ _ q) fun _ _ _ _ f q => f _ q
theorem unB_map {α : Type} (f : α → Bool) : ∀ xs : List α, unB (xs.map fun x => D.v (V.bl (f x))) = some (xs.map f)
  | [] => rfl
  | x :: xs => by
    show (unB (xs.map fun x => D.v (V.bl (f x)))).map (f x :: ·) = _
    rw [unB_map f xs]
    rfl
/-- one statement, with what holds behind it -/
theorem cutI {t : DSt} {E : DEnds} {a : AS} {u : DSt} (Mid : AS → Prop) (h1 : t { E with nx := Mid } a) (h2 : ∀ a', Mid a' → u E a') : dCut t u E a := ⟨Mid, h1, h2⟩
theorem ty_non  : tyD (.v .non) = some .non := rfl
theorem ty_bl {b : Bool} : tyD (.v (.bl b)) = some .bl := rfl
theorem ty_int {i : Int} : tyD (.v (.int i)) = some .int := rfl
theorem ty_str {x : Str} : tyD (.v (.str x)) = some .str := rfl
theorem ty_lst {ds : List D} : tyD (.lst ds) = some .lst := rfl
theorem ty_tup {ds : List D} : tyD (.tup ds) = some .tup := rfl
theorem ty_ctup {ds : List D} : tyD (.ctup ds) = some .tup := rfl
theorem ty_ftup {ds : List D} : tyD (.ftup ds) = some .tup := rfl
theorem ty_dK {ks : List (Key × D)} : tyD (.dK ks) = some .dic := rfl
theorem ty_dT {ks : List (List Key × D)} : tyD (.dT ks) = some .dic := rfl
theorem sub_non_non : Ty.sub .non .non = true := rfl
theorem sub_non_bl : Ty.sub .non .bl = false := rfl
theorem sub_non_int : Ty.sub .non .int = false := rfl
theorem sub_non_str : Ty.sub .non .str = false := rfl
theorem sub_non_lst : Ty.sub .non .lst = false := rfl
theorem sub_non_tup : Ty.sub .non .tup = false := rfl
theorem sub_non_dic : Ty.sub .non .dic = false := rfl
theorem sub_bl_non : Ty.sub .bl .non = false := rfl
theorem sub_bl_bl : Ty.sub .bl .bl = true := rfl
theorem sub_bl_int : Ty.sub .bl .int = true := rfl
theorem sub_bl_str : Ty.sub .bl .str = false := rfl
theorem sub_bl_lst : Ty.sub .bl .lst = false := rfl
theorem sub_bl_tup : Ty.sub .bl .tup = false := rfl
theorem sub_bl_dic : Ty.sub .bl .dic = false := rfl
theorem sub_int_non : Ty.sub .int .non = false := rfl
theorem sub_int_bl : Ty.sub .int .bl = false := rfl
theorem sub_int_int : Ty.sub .int .int = true := rfl
theorem sub_int_str : Ty.sub .int .str = false := rfl
theorem sub_int_lst : Ty.sub .int .lst = false := rfl
theorem sub_int_tup : Ty.sub .int .tup = false := rfl
theorem sub_int_dic : Ty.sub .int .dic = false := rfl
theorem sub_str_non : Ty.sub .str .non = false := rfl
theorem sub_str_bl : Ty.sub .str .bl = false := rfl
theorem sub_str_int : Ty.sub .str .int = false := rfl
theorem sub_str_str : Ty.sub .str .str = true := rfl
theorem sub_str_lst : Ty.sub .str .lst = false := rfl
theorem sub_str_tup : Ty.sub .str .tup = false := rfl
theorem sub_str_dic : Ty.sub .str .dic = false := rfl
theorem sub_lst_non : Ty.sub .lst .non = false := rfl
theorem sub_lst_bl : Ty.sub .lst .bl = false := rfl
theorem sub_lst_int : Ty.sub .lst .int = false := rfl
theorem sub_lst_str : Ty.sub .lst .str = false := rfl
theorem sub_lst_lst : Ty.sub .lst .lst = true := rfl
theorem sub_lst_tup : Ty.sub .lst .tup = false := rfl
theorem sub_lst_dic : Ty.sub .lst .dic = false := rfl
theorem sub_tup_non : Ty.sub .tup .non = false := rfl
theorem sub_tup_bl : Ty.sub .tup .bl = false := rfl
theorem sub_tup_int : Ty.sub .tup .int = false := rfl
theorem sub_tup_str : Ty.sub .tup .str = false := rfl
theorem sub_tup_lst : Ty.sub .tup .lst = false := rfl
theorem sub_tup_tup : Ty.sub .tup .tup = true := rfl
theorem sub_tup_dic : Ty.sub .tup .dic = false := rfl
theorem sub_dic_non : Ty.sub .dic .non = false := rfl
theorem sub_dic_bl : Ty.sub .dic .bl = false := rfl
theorem sub_dic_int : Ty.sub .dic .int = false := rfl
theorem sub_dic_str : Ty.sub .dic .str = false := rfl
theorem sub_dic_lst : Ty.sub .dic .lst = false := rfl
theorem sub_dic_tup : Ty.sub .dic .tup = false := rfl
theorem sub_dic_dic : Ty.sub .dic .dic = true := rfl
theorem seq_lst {ds : List D} : seqD (.lst ds) = some ds := rfl
theorem seq_tup {ds : List D} : seqD (.tup ds) = some ds := rfl
theorem seq_ctup {ds : List D} : seqD (.ctup ds) = some ds := rfl
theorem seq_ftup {ds : List D} : seqD (.ftup ds) = some ds := rfl
theorem seq_non  : seqD (.v .non) = none := rfl
theorem seq_bl {b : Bool} : seqD (.v (.bl b)) = none := rfl
theorem seq_int {i : Int} : seqD (.v (.int i)) = none := rfl
theorem seq_str {x : Str} : seqD (.v (.str x)) = none := rfl
theorem seq_dK {ks : List (Key × D)} : seqD (.dK ks) = none := rfl
theorem seq_dT {ks : List (List Key × D)} : seqD (.dT ks) = none := rfl
theorem key_int {i : Int} : keyD (.v (.int i)) = some (.inl i) := rfl
theorem key_str {x : Str} : keyD (.v (.str x)) = some (.inr x) := rfl
theorem or_tt {b : Bool} : (true || b) = true := rfl
theorem or_ft {b : Bool} : (false || b) = b := rfl
theorem aI_1_0 {x0 : D} : atI [x0] 0 = some x0 := rfl
theorem aI_1_l {x0 : D} : atI [x0] (-1) = some x0 := rfl
theorem aI_2_0 {x0 x1 : D} : atI [x0, x1] 0 = some x0 := rfl
theorem aI_2_1 {x0 x1 : D} : atI [x0, x1] 1 = some x1 := rfl
theorem aI_2_l {x0 x1 : D} : atI [x0, x1] (-1) = some x1 := rfl
theorem aI_3_0 {x0 x1 x2 : D} : atI [x0, x1, x2] 0 = some x0 := rfl
theorem aI_3_1 {x0 x1 x2 : D} : atI [x0, x1, x2] 1 = some x1 := rfl
theorem aI_3_2 {x0 x1 x2 : D} : atI [x0, x1, x2] 2 = some x2 := rfl
theorem aI_3_l {x0 x1 x2 : D} : atI [x0, x1, x2] (-1) = some x2 := rfl
theorem aI_4_0 {x0 x1 x2 x3 : D} : atI [x0, x1, x2, x3] 0 = some x0 := rfl
theorem aI_4_1 {x0 x1 x2 x3 : D} : atI [x0, x1, x2, x3] 1 = some x1 := rfl
theorem aI_4_2 {x0 x1 x2 x3 : D} : atI [x0, x1, x2, x3] 2 = some x2 := rfl
theorem aI_4_3 {x0 x1 x2 x3 : D} : atI [x0, x1, x2, x3] 3 = some x3 := rfl
theorem aI_4_l {x0 x1 x2 x3 : D} : atI [x0, x1, x2, x3] (-1) = some x3 := rfl
theorem aI_5_0 {x0 x1 x2 x3 x4 : D} : atI [x0, x1, x2, x3, x4] 0 = some x0 := rfl
theorem aI_5_1 {x0 x1 x2 x3 x4 : D} : atI [x0, x1, x2, x3, x4] 1 = some x1 := rfl
theorem aI_5_2 {x0 x1 x2 x3 x4 : D} : atI [x0, x1, x2, x3, x4] 2 = some x2 := rfl
theorem aI_5_3 {x0 x1 x2 x3 x4 : D} : atI [x0, x1, x2, x3, x4] 3 = some x3 := rfl
theorem aI_5_4 {x0 x1 x2 x3 x4 : D} : atI [x0, x1, x2, x3, x4] 4 = some x4 := rfl
theorem aI_5_l {x0 x1 x2 x3 x4 : D} : atI [x0, x1, x2, x3, x4] (-1) = some x4 := rfl
theorem aI_6_0 {x0 x1 x2 x3 x4 x5 : D} : atI [x0, x1, x2, x3, x4, x5] 0 = some x0 := rfl
theorem aI_6_1 {x0 x1 x2 x3 x4 x5 : D} : atI [x0, x1, x2, x3, x4, x5] 1 = some x1 := rfl
theorem aI_6_2 {x0 x1 x2 x3 x4 x5 : D} : atI [x0, x1, x2, x3, x4, x5] 2 = some x2 := rfl
theorem aI_6_3 {x0 x1 x2 x3 x4 x5 : D} : atI [x0, x1, x2, x3, x4, x5] 3 = some x3 := rfl
theorem aI_6_4 {x0 x1 x2 x3 x4 x5 : D} : atI [x0, x1, x2, x3, x4, x5] 4 = some x4 := rfl
theorem aI_6_5 {x0 x1 x2 x3 x4 x5 : D} : atI [x0, x1, x2, x3, x4, x5] 5 = some x5 := rfl
theorem aI_6_l {x0 x1 x2 x3 x4 x5 : D} : atI [x0, x1, x2, x3, x4, x5] (-1) = some x5 := rfl
local macro_rules | `(tactic| walk_at "dr") => `(tactic| try dsimp only [dSeq, dPar, dPar3, dTry, dIfS, dOr, dAnd, dNot, dTest, dIsi, dIsi2, dVar, dVarB, dC, dOp, dI0, dI, dCB, dCons, dNil, dLen, dLc, wipe_1, wipe_2, wipe_3, wipe_4, wipe_5, mapc, mapn, dRet, dSet, dSetO, dNext, dAsg, dDrop, dTup, dLst, dIx, dFlat, isV, dIfE, dAndV, dOrV, dNotV, dChain, dgName, dgCons, dgNil, dgTup, dItSeq, dStr, dDisp, dpCons, dpNil, dEqB, dIsN, dCat, dRep, dListOf, dTupOf, dBs, dI1, dI2, dInt1, dDivmod, dTupD, dStrI, dInG, dIxG, dFld, dCall, dCall0, dCallF, dCallF0, dCallX, dCallX0, dCallXF0, dMeth, dMethX, dProp, dProp.isC, isI, dAug, dNeg, dUn, dEnum, dEnumB, dEnumS, dZip, dRng1, dRng2, dDGet, dDGet1, dDGet2, dDIn, dGetR, isDk, asB, nb, opt, bIf_t, bIf_f, not_t, not_f, Option.getD_some, Option.getD_none, List.lookup, dRaise, dRaise0, dFor, dgSeq, dDPut, dPutR, dOwn, dOwnE, mAppend, mExtend, mInsert, mPop, mPopAt, asL, dSetOwn, dSetIx, dDUpd, dDUpd.isOwnK, dDSetT, dDSetT.isOwnT, dFldO, dSlL, dSlS, dSlT, dPart, dNoPart, dJoin, dSplit, dCatTE, dDictZip, dIs, dSortS, dBool1, at_0, put_0, at_1, put_1, at_2, put_2, at_3, put_3, at_4, put_4, at_5, put_5, at_6, put_6, at_7, put_7, at_8, put_8, at_9, put_9, at_10, put_10, at_11, put_11, at_12, put_12, at_13, put_13, at_14, put_14, at_15, put_15, at_16, put_16, at_17, put_17, at_18, put_18, at_19, put_19, at_20, put_20, at_21, put_21, at_22, put_22, at_23, put_23, at_24, put_24, at_25, put_25, ty_non, ty_bl, ty_int, ty_str, ty_lst, ty_tup, ty_ctup, ty_ftup, ty_dK, ty_dT, sub_non_non, sub_non_bl, sub_non_int, sub_non_str, sub_non_lst, sub_non_tup, sub_non_dic, sub_bl_non, sub_bl_bl, sub_bl_int, sub_bl_str, sub_bl_lst, sub_bl_tup, sub_bl_dic, sub_int_non, sub_int_bl, sub_int_int, sub_int_str, sub_int_lst, sub_int_tup, sub_int_dic, sub_str_non, sub_str_bl, sub_str_int, sub_str_str, sub_str_lst, sub_str_tup, sub_str_dic, sub_lst_non, sub_lst_bl, sub_lst_int, sub_lst_str, sub_lst_lst, sub_lst_tup, sub_lst_dic, sub_tup_non, sub_tup_bl, sub_tup_int, sub_tup_str, sub_tup_lst, sub_tup_tup, sub_tup_dic, sub_dic_non, sub_dic_bl, sub_dic_int, sub_dic_str, sub_dic_lst, sub_dic_tup, sub_dic_dic, seq_non, seq_bl, seq_int, seq_str, seq_lst, seq_tup, seq_ctup, seq_ftup, seq_dK, seq_dT, key_int, key_str, or_tt, or_ft, aI_1_0, aI_1_l, aI_2_0, aI_2_1, aI_2_l, aI_3_0, aI_3_1, aI_3_2, aI_3_l, aI_4_0, aI_4_1, aI_4_2, aI_4_3, aI_4_l, aI_5_0, aI_5_1, aI_5_2, aI_5_3, aI_5_4, aI_5_l, aI_6_0, aI_6_1, aI_6_2, aI_6_3, aI_6_4, aI_6_5, aI_6_l])
/-! ### sorted(d) over data, d a dict whose keys are triples of texts -/
section
variable {K : PySem.W.Frag} {ω : Wp} {B : Bs K} {F F' F1 F2 G : Hp} {a a' a1 a2 : AS} {σ σ' : St} {H H' H1 H2 : Hp} {n : Int} {ι : Type} {X : ι → Cx} {e e1 e2 o : Expr} {es : List Expr} {pos p p2 q : Pos} {dl : DAt}
/-- a tuple that stands somewhere may be taken as what does not change -/
theorem Go.imm (ok : Ok B F a σ H) {p : Addr} {o : HO} (h : H p = some o) (hi : Toy.imm o = true) : ∃ F', Go B σ F a H F' a H ∧ F' p = some o := by
  cases hF : F p with
  | some o' =>
    have := ok.fi.fh _ _ hF
    rw [h] at this
    cases this
    exact ⟨F, .refl ok, hF⟩
  | none =>
    have s1 : Same F (upd F p o) := Same.new hF
    refine ⟨upd F p o, ⟨⟨⟨fun b u e => ?_, ok.fi.ff.trans s1, fun b e => ?_, ok.fi.fm, fun q e => ?_⟩, ok.es, ok.len, fun i d e => ?_, fun i d e => ?_, ok.ds, ok.fx⟩, s1, fun b u _ e => e, fun b e => ?_, fun _ h => h⟩, upd_same⟩
    · by_cases z : b = p
      · subst z
        rw [upd_same] at e
        rw [h]
        exact e
      · rw [upd_ne z] at e
        exact ok.fi.fh _ _ e
    · by_cases z : b = p
      · subst z
        exact .inr (.inr ⟨o, upd_same, hi⟩)
      · rw [upd_ne z] at e
        exact (ok.fi.fr b e).imp id fun q => q.imp id fun q => q.mono s1
    · obtain ⟨x1, x2, x3⟩ := ok.fi.sr q e
      have z : q ≠ p := fun z => by
        obtain ⟨xs, w⟩ := x3.at
        rw [z, h] at w
        cases w
        cases hi
      exact ⟨by rw [upd_ne z]; exact x1, x2, x3⟩
    · obtain ⟨v, e1, e2⟩ := ok.va i d e
      exact ⟨v, e1, e2.mono s1⟩
    · obtain ⟨q, ho', e1, e2, e3, e4, e5⟩ := ok.ow i d e
      have z : q ≠ p := fun z => by
        rw [z, h] at e2
        cases e2
        rw [e5.imm] at hi
        cases hi
      exact ⟨q, ho', e1, e2, by rw [upd_ne z]; exact e3, e4, e5.mono s1⟩
    · by_cases z : b = p
      · subst z
        exact .inr (.inr (.inr ⟨o, upd_same, hi⟩))
      · rw [upd_ne z] at e
        exact .inl e
def t3D (t : Str × Str × Str) : D := .tup [.v (.str t.1), .v (.str t.2.1), .v (.str t.2.2)]
theorem Go.tups : ∀ {ds : List Addr} {ts : List (Str × Str × Str)} {F : Hp}, PySem.Paired (fun d t => H d = some (.tup ((k3 t).map kV))) ds ts → Ok B F a σ H → ∃ F', Go B σ F a H F' a H ∧ DatL K F' (ts.map t3D) (ds.map V.ref)
  | _, _, F, .nil, ok => ⟨F, .refl ok, rfl⟩
  | d :: ds, t :: ts, F, .cons hd hr, ok => by
    obtain ⟨F1, g1, h1⟩ := Go.imm ok hd rfl
    obtain ⟨F2, g2, h2⟩ := Go.tups hr g1.ok
    exact ⟨F2, .trans ok g1 g2, .cons ⟨d, _, rfl, g2.ff _ _ h1, .cons rfl (.cons rfl (.cons rfl .nil))⟩ h2⟩
theorem datT_keys {H : Hp} : ∀ {kvs : List (List Key × D)} {vs : List (List Key × V)}, DatT K H kvs vs → vs.map (·.1) = kvs.map (·.1) := fun h => pk_keys (datT_pk.mp h)
def dSortT3 (dl : DAt) : DEt := fun a R => dl a fun ds a' => match ds with
  | [.dT kvs] => ∃ ts : List (Str × Str × Str), kvs.map (·.1) = ts.map k3 ∧ R (.lst ((sort3 ts).map t3D)) a'
  | _ => False
theorem do_sortT3 (hc : ∀ j, (X j).calm = true) (hu : ∀ j, (X j).A.units + 64 < cLine) (hg : ∀ j, Gl (X j) "sorted") (hm : ∀ j, (X j).mg "sorted" = none) (hv : bootBuiltins "sorted" = some (.builtin "sorted")) (ha : DAB X K ω [e] dl)
    (he : ∀ j, starEach [e] (X j).env = (false, eval e (X j).env) :: starEach [] (X j).env := by intro _; rfl) (hpl : ∀ j, (backTo pos (starEach [] (X j).env)).any (·.1) = false := by intro _; rfl) : DO X K ω (.Call (.Name "sorted" p) [e] [] pos) (dSortT3 dl) := by
  obtain ⟨t, h2, l2⟩ := ha
  refine ⟨tCB rSortedT3 t, fun j => pe_callB (call_sortedT3 (hc j) (hu j)) (hg j) (hm j) hv (h2 j) (by decide) (by decide) (he j) (hpl j), fun B hω F a σ H Q R ok hd k => l2 B hω F a σ H _ _ ok hd fun vs ds F1 a1 H1 g1 q1 r1 => ?_⟩
  split at r1
  · rename_i kvs
    obtain ⟨ts, hk, r1⟩ := r1
    obtain ⟨v, r, rfl, h1, h2⟩ := q1
    cases (show r = [] from h2)
    obtain ⟨q, ws, rfl, h3, h4⟩ := h1
    refine ⟨q, ws, ts, rfl, .inl (hs_same _ _ h3), (datT_keys h4).trans hk, fun ds p pr hp => ?_⟩
    obtain ⟨F2, g2, q2⟩ := Go.tups pr g1.ok
    exact Go.list ok (.trans ok g1 g2) hp q2 r1 k
  · exact r1.elim
end
/-! ### a comprehension whose step may raise, over data -/
section
variable {K : PySem.W.Frag} {ω : Wp} {B : Bs K} {F F' F1 F2 G : Hp} {a a' a1 a2 : AS} {σ σ' : St} {H H' H1 H2 : Hp} {n : Int} {de da db : DEt} {ι : Type} {X : ι → Cx} {e e1 e2 : Expr} {es : List Expr} {pos : Pos} {dl dm : DAt}
def noOwn (sl : List Sl) : Prop := ∀ s ∈ sl, ∀ d, s ≠ Sl.own d
def dLcX (W : DWt) (sf : Bool) (vs : List Nat) (i : Nat) (di : DAt) (de : Wp → DEt) : DEt := fun a R => di a fun items a' => noOwn a'.sl ∧ ∀ Wt : L2.WX, dLcGo (dWipe a' vs).sl vs (dgName i) (fun a R => R true a) (de ⟨Wt, fun C fs _ n => W C fs a'.sl n, fun _ => True, sf⟩) a'.sp (fun acc n => R (.lst acc) ⟨a'.sl, n, a'.sp⟩) items [] a'.n
theorem lo_lcX {wi : TI} {di : DAt} {vs : List Nat} {i : Nat} {te : L2.WX → TE} {de : Wp → DEt} (l1 : LI K ω wi di) (l4 : ∀ ω' : Wp, LE K ω' (te ω'.W) (de ω')) (hv : i ∈ vs) (hz : ω.sf = false ∨ 0 ∉ vs) : LO K ω (tLcX wi (gName i) te ω.W vs) (dLcX ω.dW ω.sf vs i di de) := fun B hω F a σ H Q R ok hd k => by
  refine l1 B hω F a σ H _ _ ok hd fun J items F0 a0 H0 g0 it hR => ?_
  intro D hD
  obtain ⟨noO, hR⟩ := hR
  obtain ⟨nF, n0, ns, nO⟩ := g0.ok.here hD
  have hz' : 0 ∈ vs → B.self = none := fun z => hz.elim hω.2.1 fun n => absurd z n
  have okb := g0.ok.wipe vs hz'
  have okw := okb.re
  have ew : dWipe a0 vs = ⟨(dWipe a0 vs).sl, a0.n, a0.sp⟩ := by rw [← dWipe_n a0 vs, ← dWipe_sp a0 vs]
  have nOw : ¬ OwnAt (dWipe a0 vs) (wipe σ vs) D := fun z => nO (own_wipe z)
  have hDne : ∀ {b : Addr} {o : HO}, H0 b = some o → b ≠ D := fun h z => by rw [z, hD] at h; cases h
  have hR := hR (fun cls d _ H => ω.W cls d σ H)
  have hω1 : WOk (K := K) ⟨B.sp, B.H0, F0, B.self⟩ ⟨fun cls d _ H => ω.W cls d σ H, fun C fs _ n => ω.dW C fs a0.sl n, fun _ => True, ω.sf⟩ := by
    refine ⟨trivial, hω.2.1, fun F a σ' H C dd fs ok x w => hω.2.2 F ⟨a0.sl, a.n, a0.sp⟩ σ H C dd fs ?_ x w⟩
    exact ⟨g0.ok.fi.un ok.fi, g0.ok.es, g0.ok.len, fun j d e => let ⟨v, e1, e2⟩ := g0.ok.va j d e; ⟨v, e1, e2.mono ok.fi.ff⟩, fun j d e => absurd rfl (noO _ (List.mem_of_getElem? e) d), fun j k p d e h1 _ _ _ => absurd rfl (noO _ (List.mem_of_getElem? h1) d), g0.ok.fx⟩
  have l5 := l4 ⟨fun cls d _ H => ω.W cls d σ H, fun C fs _ n => ω.dW C fs a0.sl n, fun _ => True, ω.sf⟩
  generalize de ⟨fun cls d _ H => ω.W cls d σ H, fun C fs _ n => ω.dW C fs a0.sl n, fun _ => True, ω.sf⟩ = dE at hR l5
  generalize ew' : (dWipe a0 vs).sl = w at *
  refine ⟨fun i' m H1 => ∃ F1 n1 acc ds, Go (K := K) ⟨B.sp, B.H0, F0, B.self⟩ (wipe σ vs) F0 (dWipe a0 vs) H0 F1 ⟨w, n1, a0.sp⟩ H1 ∧ F1 D = none ∧ H1 D = some (.lst acc) ∧ DatL K F1 ds acc ∧ i' ≤ items.length ∧ m = items.length - i' ∧ dLcGo w vs (dgName i) (fun a R => R true a) dE a0.sp (fun acc n => R (.lst acc) ⟨a0.sl, n, a0.sp⟩) (items.drop i') ds n1,
    ⟨_, F0, a0.n, [], [], by rw [← ew]; exact okw.newO hD, nF, upd_same, rfl, Nat.zero_le _, rfl, hR⟩, ?_⟩
  rintro i' m H1 ⟨F1, n1, acc, ds, g1, f1, h1, q1, hi, rfl, hl⟩
  by_cases hlt : i' < items.length
  · have e : items[i']? = some items[i'] := List.getElem?_eq_getElem hlt
    rw [List.drop_eq_getElem_cons hlt] at hl
    refine .inr ⟨((it i' F1 H1 g1.ff g1.ok.fi.fh).2 _ e).1, fun H9 => ∃ m', m' < items.length - i' ∧ ∃ F1 n1 acc ds, Go (K := K) ⟨B.sp, B.H0, F0, B.self⟩ (wipe σ vs) F0 (dWipe a0 vs) H0 F1 ⟨w, n1, a0.sp⟩ H9 ∧ F1 D = none ∧ H9 D = some (.lst acc) ∧ DatL K F1 ds acc ∧ i' + 1 ≤ items.length ∧ m' = items.length - (i' + 1) ∧ dLcGo w vs (dgName i) (fun a R => R true a) dE a0.sp (fun acc n => R (.lst acc) ⟨a0.sl, n, a0.sp⟩) (items.drop (i' + 1)) ds n1, fun H9 z => z, fun x H2 y => ?_⟩
    obtain ⟨F2, g2, q2⟩ := it.turn g1.ok g1.ff e y
    have s3 := g2.ok.putV (i := i) (fun z => hz' (z ▸ hv)) q2
    have es : wipe ((wipe σ vs).set i (some x)) vs = wipe σ vs := wipe_ext (by rw [List.length_set, wipe_length]) fun j hj => by rw [List.getElem?_set_ne (fun z : i = j => hj (by rw [← z]; exact hv)), wipe_out hj]
    show wipe ((wipe σ vs).set i (some x)) vs = wipe σ vs ∧ _
    generalize (wipe σ vs).set i (some x) = σ3 at s3 es
    -- a way within the turn, seen from the wiped state
    have back : ∀ {F5 a5 H5}, Go (K := K) ⟨B.sp, B.H0, F0, B.self⟩ σ3 F2 (AS.put ⟨w, n1, a0.sp⟩ i (.val items[i'])) H2 F5 a5 H5 → (dWipe a5 vs).sl = w → Go (K := K) ⟨B.sp, B.H0, F0, B.self⟩ (wipe σ vs) F1 ⟨w, n1, a0.sp⟩ H1 F5 ⟨w, a5.n, a0.sp⟩ H5 := fun {F5 a5 H5} g5 ew5 => by
      have o5 := g5.ok.wipe vs hz'
      have e5 : dWipe a5 vs = ⟨w, a5.n, a0.sp⟩ := by rw [← ew5, ← dWipe_n a5 vs, g0.ok.es, ← (show a5.sp = B.sp from g5.ok.es), ← dWipe_sp a5 vs]
      rw [es, e5] at o5
      have g2' : Go (K := K) ⟨B.sp, B.H0, F0, B.self⟩ (wipe σ vs) F2 ⟨w, n1, a0.sp⟩ H2 F5 ⟨w, a5.n, a0.sp⟩ H5 := ⟨o5, g5.ff, g5.hh, fun b z => (g5.fr b z).imp id fun z => z.imp id fun z => z.imp (s3.oo b) id, fun b z => s3.oo b (g5.oo b (own_wipe (vs := vs) (by rw [es, e5]; exact z)))⟩
      exact .trans g1.ok g2 g2'
    have still : ∀ {F5 n5 H5}, Go (K := K) ⟨B.sp, B.H0, F0, B.self⟩ (wipe σ vs) F1 ⟨w, n1, a0.sp⟩ H1 F5 ⟨w, n5, a0.sp⟩ H5 → F5 D = none ∧ H5 D = some (.lst acc) := fun {F5 n5 H5} g5 => by
      refine ⟨?_, g5.hh D _ ns h1⟩
      cases q : F5 D with
      | none => rfl
      | some u =>
        rcases g5.fr D (by rw [q]; exact fun z => (nomatch z)) with z | z | z | ⟨o', w1, w2⟩
        · exact absurd f1 z
        · rw [h1] at z
          cases z
        · exact absurd (g1.oo D z) nOw
        · have z := g5.hh D _ ns h1
          rw [g5.ok.fi.fh D o' w1] at z
          cases z
          cases w2
    refine ⟨es, l5 _ hω1 F2 _ σ3 H2 _ _ s3.ok hl fun v d F5 a5 H5 g5 q5 hR => ?_⟩
    obtain ⟨ew5, hz, hR⟩ := hR
    have g15 := back g5 ew5
    obtain ⟨f5, h5⟩ := still g15
    refine ⟨acc, h5, by rw [q1.len]; exact hz, items.length - (i' + 1), by omega, F5, a5.n, acc ++ [v], ds ++ [d], ?_, f5, upd_same, (q1.mono g15.ff).app (.cons q5 .nil), hlt, rfl, hR⟩
    have g05 := Go.trans okw g1 g15
    have nO5 : ¬ OwnAt ⟨w, a5.n, a0.sp⟩ (wipe σ vs) D := fun z => nOw (g05.oo D z)
    exact ⟨g05.ok.ext f5 n0 ns nO5, g05.ff, fun b o hb h => by rw [upd_ne (hDne h)]; exact g05.hh b o hb h, g05.fr, g05.oo⟩
  · have e : i' = items.length := by omega
    subst e
    rw [List.drop_length] at hl
    refine .inl ⟨(it _ F1 H1 g1.ff g1.ok.fi.fh).1 (Nat.le_refl _), ?_⟩
    subst ew'
    have gB : Go B (wipe σ vs) F0 (dWipe a0 vs) H0 F1 ⟨(dWipe a0 vs).sl, n1, a0.sp⟩ H1 := ⟨okb.un g1.ok, g1.ff, g1.hh, g1.fr, g1.oo⟩
    have gu := unwipe g0.ok gB
    have hH : H D = none := by
      cases q : H D with
      | none => rfl
      | some o =>
        rw [g0.hh D o ns q] at hD
        cases hD
    exact k D _ (.lst ds) F1 _ H1 (.trans ok g0 gu) hH f1 h1 ⟨acc, rfl, q1⟩ hl
/-- the family of its blocks -/
def blkXF (X : ι → Cx) (scope : Scope) (W : L2.WX) : (ι × Shared × Hp × Addr × List (Str × Addr) × List Addr) → Cx := fun q => (X q.1).blkX q.2.1 q.2.2.1 scope (compEnvC scope q.2.2.2.2.1 q.2.2.2.1 (X q.1).env) q.2.2.2.2.2 W
theorem do_lcX {elt iter : Expr} {x : Str} {px : Pos} {scope : Scope} {own : List (Str × Nat)} {i : Nat} {di : DAt} {de : Wp → DEt} (hc : ∀ j, (X j).calm = true) (hN : ∀ j, (X j).N.Nodup) (hst : ∀ j, (X j).stack = (X j).env :: (X j).outer) (hf : ∀ j, (X j).env.frame = some (X j).env.locals) (tk : ∀ j, L2.Takes (X j) ω.W) (hi : DI X K ω (.Name x px) iter di) (ok : ∀ j, BlkOk (X j).N (X j).env.scope scope own)
    (hg : ∀ (W : L2.WX) q, PG (blkXF X scope W q) (.Name x px) (gName i)) (he : ∀ ω' : Wp, DX (blkXF X scope ω'.W) K ω' elt (de ω')) (hw : i ∈ own.map (·.2) := by decide) (hs : ∀ j x, foldedSetIterable iter (X j).env x = pure x := by intro _ _; rfl) (hz : ω.sf = false ∨ 0 ∉ own.map (·.2) := by first | exact Or.inl rfl | exact Or.inr (by decide)) :
    DO X K ω (.ListComp elt [⟨.Name x px, iter, [], 0⟩] scope pos) (dLcX ω.dW ω.sf (own.map (·.2)) i di de) := by
  obtain ⟨wi, p1, l1⟩ := hi
  refine ⟨tLcX wi (gName i) (fun W σ H Q => ∃ t, (∀ q, PE (blkXF X scope W q) elt t) ∧ t σ H Q) ω.W (own.map (·.2)), fun j => pe_lcX (hc j) (hN j) (hst j) (hf j) (tk j) (p1 j) (ok j) (fun s H C cl fp W => hg W (j, s, H, C, cl, fp)) (fun s H C cl fp W => ⟨fun pins s1 σ H1 Q I ⟨t, ht, hd⟩ => (ht (j, s, H, C, cl, fp)).run pins s1 σ H1 Q I hd⟩) (hs j), lo_lcX l1 (fun ω' => ?_) hw hz⟩
  obtain ⟨t, p, l⟩ := he ω'
  exact fun B hω F a σ H Q R ok hd k => ⟨t, p, l B hω F a σ H Q R ok hd k⟩
section
variable {k : Nat} {f : Addr} {fd : FuncData} {ps : List Str} {s : Sp} {dsp : DSpX} {x : Str} {p : Pos}
/-- a call that may raise, in such a block -/
theorem de_callXB0 (m : MonX dsp) (u : UpsX K s dsp) (G : ∀ j, FnOk (X j).prog (X j).w (X j).K (X j).mg (X j).base (L2.CX (X j).prog (X j).w) k f fd ps s) (hr : ∀ j, Room k (X j).A) (hg : ∀ j, Gl (X j) x) (hm : ∀ j, (X j).mg x = some (.ref f)) (hk : ∀ j, PySem.W.keepIn (X j).K (.ref f) = true) (hb : ∀ j, Binds (X j).K fd ps []) (tk : ∀ j, L2.TakesF (X j) ω.W) (ha : DAE X K ω (e :: es) dl)
    (hdb : (x == ("__debug__" : Str)) = false := by decide) (he : ∀ j, starEach (e :: es) (X j).env = (false, eval e (X j).env) :: starEach es (X j).env := by intro _; rfl) (hpl : ∀ j, (backTo pos (starEach es (X j).env)).any (·.1) = false := by intro _; rfl) : DX X K ω (.Call (.Name x p) (e :: es) [] pos) (dCallX0 ω.dW dsp dl) := by
  obtain ⟨t, h, l⟩ := ha
  exact ⟨_, fun j => pe_callS (G j) (hr j) (hg j) (hm j) (hk j) (hb j) (L2.passAtF (tk j)) (h j) hdb (he j) (hpl j), le_callX0 m u l⟩
end
end
/-! ### n & 1 -/
section
variable {K : PySem.W.Frag} {ω : Wp} {ι : Type} {X : ι → Cx}
def dOdd : DR := fun d e R => match d, e with
  | .v (.int i), .v (.int j) => 0 ≤ i ∧ j = 1 ∧ R (.v (.int (i % 2)))
  | _, _ => False
theorem dop_odd : DOpR X K ω (binaryOp .BitAnd) dOdd := ⟨_, fun _ => op_odd, lr_flat fun d e R h => by
  unfold dOdd at h
  split at h
  · rename_i i j
    obtain ⟨h0, rfl, h⟩ := h
    obtain ⟨n, rfl⟩ : ∃ n : Nat, i = n := ⟨i.toNat, by omega⟩
    exact ⟨_, _, _, rfl, rfl, h, fun H Q q => ⟨n, rfl, rfl, by rw [show ((n % 2 : Nat) : Int) = (n : Int) % 2 from rfl]; exact q⟩⟩
  · exact h.elim⟩
end
/-! ### for loops whose body changes lists that it has made -/
/-! ### x in t, t a tuple of tuples; x in an own class; sorted triples -/
section
open PySem.Spec PyProof.Rows
variable {X : Cx}
def rInTD (K : PySem.W.Frag) : R2 := fun x y H Q => ∃ d ds, Dp K H x d ∧ Dp K H y (.tuple ds) ∧ SeqAt.shaped d = true ∧ SeqAt.shaped (.tuple ds) = true ∧ Q (.bl (ds.any fun z => PyData.eqv z d)) H
theorem op_inTD (hu : X.A.units + 65 < cLine) : OpR X (compareOp .In) (rInTD X.K) := by
  intro pins s σ H x y v u Q I rx ry h
  obtain ⟨d, ds, hd, he, sd, se, q⟩ := h
  obtain ⟨as, r1⟩ := Dp.reads I d x v hd rx
  obtain ⟨bs, r2⟩ := Dp.reads I (.tuple ds) y u he ry
  exact SeqAt.in_tuple_reads r2 r1 (SeqAt.canLay_of_shaped se) (SeqAt.canLay_of_shaped sd) (room_in_shaped sd hu) ⟨.bl _, H, I, rfl, q⟩
variable {CX : CXT} {C f : Addr} {fd : FuncData} {ps : List Str} {sp : Sp} {E : XK} {k : Nat}
def rInO (K : PySem.W.Frag) (C : Addr) (sp : Sp) (E : XK) : R2 := fun x y H Q => ∃ (a dx : Addr) (fs : List (Str × V)), y = .ref a ∧ H a = some (.ins C dx fs) ∧ sp [.ref a, x] H (fun v H' => ∃ b, v = .bl b ∧ Q (.bl b) H') E
theorem op_inO (F : FnOk X.prog X.w X.K X.mg X.base CX k f fd ps sp) (hs : PySem.W.findIn X.K (.ref C) "__contains__" = some (some (.ref f))) (hf : PySem.W.isFn X.K (.ref f) = true) (hb : Binds X.K fd ps []) (hx : Passes CX X E) (hr : Room k X.A) : OpR X (compareOp .In) (rInO X.K C sp E) := by
  intro pins s σ H x y v u Q I rx ry h
  obtain ⟨a, dx, fs, rfl, ha, hsp⟩ := h
  cases ry
  have J := (ins_get I.hok ha).choose_spec.1.look.choose_spec.1
  obtain ⟨m, hF⟩ := I.fr
  have sb : Sub X k X.A := ⟨hr, rfl⟩
  have e0 : Env0 X.prog X.w X.K X.mg X.base X.A X.stack s H := I.env0
  have bnd := hb s [.ref a, v] I.kIn (by simpa using F.len _ _ _ _ hsp)
  have run := F.run X.A X.stack s H ⟨[.ref a, v], []⟩ [.ref a, v] [.ref a, x] _ E sb.room e0 (by simpa using bnd) (.cons rfl (.cons rx .nil)) hsp
  refine PySem.W.in_K hF I.ok.mod.kin J hs hf (wpAny_call (codeAny_mono run fun r s' hq => ?_))
  match r, hq with
  | .error e, hq => exact hx pins σ H s e s' I hq
  | .ok (.ret w), hq =>
    obtain ⟨z, H', I', rz, b, rfl, q⟩ := I.after hq
    cases rz
    exact wpAny_truthy_bool ⟨.bl b, H', I', rfl, q⟩
  | .ok .next, hq | .ok .brk, hq | .ok .cont, hq => exact hq.elim
/-- sorted(l), l a list of triples of texts -/
def rSortedL3 (K : PySem.W.Frag) : List V → Hp → VK → Prop := fun xs H Q => ∃ (a : Addr) (ds : List Addr) (ts : List (Str × Str × Str)), xs = [.ref a] ∧ SqL K H a (ds.map V.ref) ∧ Paired (fun d t => H d = some (.tup ((k3 t).map kV))) ds ts ∧ ts.length ≤ sizeLine ∧
  ∀ (ds' : List Addr) (p : Addr), Paired (fun d t => H d = some (.tup ((k3 t).map kV))) ds' (sort3 ts) → H p = none → Q (.ref p) (upd H p (.lst (ds'.map V.ref)))
theorem call_sortedL3 (hu : X.A.units + 64 < cLine) : CallR X (.builtin "sorted") (rSortedL3 X.K) := by
  intro pins s σ H xs us Q I r h
  obtain ⟨a, ds, ts, rfl, hl, pr, zl, k⟩ := h
  obtain ⟨u, rfl, ru⟩ := vals1 r
  cases ru
  obtain ⟨its, rv, pl, hz⟩ := I.list hl
  have eits : its = ds.map Value.ref := by
    clear pl hl pr k hz
    induction ds generalizing its with
    | nil => cases rv; rfl
    | cons d ds ih =>
      cases rv with
      | cons r1 rv =>
        cases r1
        rw [ih _ rv]
        rfl
  have E1 := each_of pr
  rw [← eits] at E1
  have hR : PySem.W.EachIs (fun v b => ∃ as, Reads s.heap v (enc3 b) as) its ts := each_imp (fun v t q => by
    obtain ⟨d, rfl, hd⟩ := q
    obtain ⟨its, rv, ⟨ot, h1, h2, n, h3⟩, _⟩ := I.tuple (SqT.of hd)
    cases rv with
    | cons r1 rv =>
    cases rv with
    | cons r2 rv =>
    cases rv with
    | cons r3 rv =>
    cases rv
    obtain ⟨t1, rfl⟩ := r1
    obtain ⟨t2, rfl⟩ := r2
    obtain ⟨t3, rfl⟩ := r3
    exact ⟨_, .tuple h1 h2 h3 (.cons (.str _ _) (.cons (.str _ _) (.cons (.str _ _) .nil)))⟩) E1
  have hA : PySem.W.AllAlike (ts.map enc3) := fun d hd d' hd' => by
    obtain ⟨t, _, rfl⟩ := List.mem_map.mp hd
    obtain ⟨t', _, rfl⟩ := List.mem_map.mp hd'
    exact alike3 t t'
  have hS : PySem.W.Sortable (ts.map enc3) := .inl fun d hd => by
    obtain ⟨t, _, rfl⟩ := List.mem_map.mp hd
    exact ⟨_, _, rfl⟩
  have hD : ∀ b : Str × Str × Str, (enc3 b).depth ≤ 2 := fun b => by
    unfold enc3
    simp [PyData.depth, PyData.depthAll]
  refine PySem.W.sorted_data (vs := its) (enc := enc3) (R := fun v t => ∃ d, v = Value.ref d ∧ H d = some (.tup ((k3 t).map kV))) pl.isList E1 hR hA hS zl (fun b hb => by have := hD b; omega) fun out ol eo => ?_
  obtain ⟨ds', rfl, pd⟩ := of_each eo
  obtain ⟨c, hc⟩ := sortedAll_at s.heap its (List.toArray (ds'.map Value.ref))
  have le : s.heap.objs.size ≤ s.heap.objs.size + 1 := Nat.le_succ _
  refine ⟨.ref (s.heap.objs.size + 1), upd H (s.heap.objs.size + 1) (.lst (ds'.map V.ref)), I.laid (t' := s.toks) (fun b u eb => sortedAll_old eb) le ⟨?_, ds'.map Value.ref, c, vals_refs ds', hc⟩, rfl, k ds' _ pd (I.hok.fresh le)⟩
  rw [List.length_map]
  have : ds'.length = ts.length := by rw [← ol, List.length_map]
  omega
end
section
variable {K : PySem.W.Frag} {ω : Wp} {B : Bs K} {F F' F1 F2 G : Hp} {a a' a1 a2 : AS} {σ σ' : St} {H H' H1 H2 : Hp} {n : Int} {te : TE} {de da db : DEt} {ι : Type} {X : ι → Cx} {e e1 e2 o : Expr} {es : List Expr} {pos p p' : Pos} {dl dm : DAt} {k : Nat} {f C : Addr} {fd : FuncData} {ps : List Str} {s : Sp} {dsp : DSp} {E : XK} {y : Str}
def dInT : DR := fun d e R => match e with
  | .tup es => okP d ∧ okP (.tup es) ∧ R (.v (.bl ((pDs es).any fun z => PyData.eqv z (pD d))))
  | _ => False
theorem dop_inT (hu : ∀ j, (X j).A.units + 65 < cLine) (hK : ∀ j, (X j).K = K := by intro _; rfl) : DOpR X K ω (compareOp .In) dInT := by
  refine ⟨rInTD K, fun j => by rw [← hK j]; exact op_inTD (hu j), fun B hω F a σ H x y d e Q R ok hx hy hd k => ?_⟩
  unfold dInT at hd
  split at hd
  · obtain ⟨p, q, r⟩ := hd
    exact ⟨_, _, dat_dp hs_same p.1 hx, dat_dp (d := .tup _) hs_same q.1 hy, p.shaped, q.shaped, k _ (.v _) F H (.refl ok) rfl r⟩
  · exact hd.elim
def dInO (C : Addr) (dsp : DSp) : DR := fun d e R => (∃ fs, e = .ins C fs) ∧ dsp none [e, d] 0 fun z _ => ∃ b, z = .v (.bl b) ∧ R (.v (.bl b))
theorem dop_inO {CX : CXT} (mo : Mon dsp) (u : Ups K s dsp) (G : ∀ j, FnOk (X j).prog (X j).w (X j).K (X j).mg (X j).base CX k f fd ps s) (hs : PySem.W.findIn K (.ref C) "__contains__" = some (some (.ref f))) (hf : PySem.W.isFn K (.ref f) = true) (hb : Binds K fd ps []) (hx : ∀ j, Passes CX (X j) E) (hr : ∀ j, Room k (X j).A) (hK : ∀ j, (X j).K = K := by intro _; rfl) : DOpR X K ω (compareOp .In) (dInO C dsp) := by
  refine ⟨rInO K C s E, fun j => by rw [← hK j]; exact op_inO (G j) (by rw [hK j]; exact hs) (by rw [hK j]; exact hf) (by rw [hK j]; exact hb) (hx j) (hr j), fun B hω F a σ H x y d e Q R ok hx hy hd k => ?_⟩
  obtain ⟨⟨fs, rfl⟩, hsp⟩ := hd
  obtain ⟨p, dx, vs, rfl, h1, h2⟩ := hy
  refine ⟨p, dx, vs, rfl, hs_same _ _ h1, u _ _ _ _ ⟨none, Hs B.sp H, [.ins C fs, d], 0, hs_same, (fun p e => nomatch e), .cons ⟨p, dx, vs, rfl, h1, h2⟩ (.cons hx .nil), mo _ _ _ _ _ (fun z n' r => ?_) hsp⟩⟩
  obtain ⟨b, rfl, r⟩ := r
  intro v F' H' x1 x2 x3 x4 x5 x6
  have hh : Same H H' := fun b o h => x3 b o (fun z => nomatch z) h
  exact ⟨b, x6, k _ (.v _) F H' (Go.call ok (Same.refl F) (fun b o h => hh _ _ (ok.fi.fh b o h)) (fun b o _ h => hh b o h) (fun b z => .inl z) fun p e => ⟨(ok.fi.sr p e).1, (ok.fi.sr p e).2.2.same hh⟩) rfl r⟩
def dSortL3 (dl : DAt) : DEt := fun a R => dl a fun ds a' => match ds with
  | [.lst es] => ∃ ts : List (Str × Str × Str), es = ts.map t3D ∧ ts.length ≤ sizeLine ∧ R (.lst ((sort3 ts).map t3D)) a'
  | _ => False
theorem t3_paired : ∀ {ts : List (Str × Str × Str)} {vs : List V}, DatL K F (ts.map t3D) vs → ∃ ds : List Addr, vs = ds.map V.ref ∧ PySem.Paired (fun d t => F d = some (.tup ((k3 t).map kV))) ds ts
  | [], _, h => ⟨[], h, .nil⟩
  | t :: ts, _, ⟨v, r, e, h, q⟩ => by
    obtain ⟨ds, rfl, pr⟩ := t3_paired q
    obtain ⟨p, us, rfl, h1, h2⟩ := h
    obtain ⟨v1, r1, rfl, h3, v2, r2, rfl, h4, v3, r3, rfl, h5, h6⟩ := h2
    cases (show v1 = _ from h3)
    cases (show v2 = _ from h4)
    cases (show v3 = _ from h5)
    cases (show r3 = [] from h6)
    exact ⟨p :: ds, e, .cons h1 pr⟩
theorem do_sortL3 (hu : ∀ j, (X j).A.units + 64 < cLine) (hg : ∀ j, Gl (X j) "sorted") (hm : ∀ j, (X j).mg "sorted" = none) (hv : bootBuiltins "sorted" = some (.builtin "sorted")) (ha : DAE X K ω [e] dl)
    (he : ∀ j, starEach [e] (X j).env = (false, eval e (X j).env) :: starEach [] (X j).env := by intro _; rfl) (hpl : ∀ j, (backTo pos (starEach [] (X j).env)).any (·.1) = false := by intro _; rfl) (hK : ∀ j, (X j).K = K := by intro _; rfl) : DO X K ω (.Call (.Name "sorted" p) [e] [] pos) (dSortL3 dl) := by
  obtain ⟨t, h2, l2⟩ := ha
  refine ⟨tCB (rSortedL3 K) t, fun j => pe_callB (by rw [← hK j]; exact call_sortedL3 (hu j)) (hg j) (hm j) hv (h2 j) (by decide) (by decide) (he j) (hpl j), fun B hω F a σ H Q R ok hd k => l2 B hω F a σ H _ _ ok hd fun vs ds F1 a1 H1 g1 q1 r1 => ?_⟩
  split at r1
  · obtain ⟨ts, rfl, zl, r1⟩ := r1
    obtain ⟨v, r, rfl, h1, h2⟩ := q1
    cases (show r = [] from h2)
    obtain ⟨q, ws, rfl, h3, h4⟩ := h1
    obtain ⟨ds, rfl, pr⟩ := t3_paired h4
    have fh := g1.ok.fi.fh
    refine ⟨q, ds, ts, rfl, SqL.of (fh _ _ h3), ?_, zl, fun ds' p pr' hp => ?_⟩
    · clear h3 h4 r1 zl
      induction pr with
      | nil => exact .nil
      | cons h t ih => exact .cons (fh _ _ h) ih
    · obtain ⟨F2, g2, q2⟩ := Go.tups pr' g1.ok
      exact Go.list ok (.trans ok g1 g2) hp q2 r1 k
  · exact r1.elim
end
/-! ### l[::-1]; l == [] -/
section
variable {K : PySem.W.Frag} {ω : Wp} {B : Bs K} {F F' F1 F2 G : Hp} {a a' a1 a2 : AS} {σ σ' : St} {H H' H1 H2 : Hp} {ι : Type} {X : ι → Cx} {e : Expr} {pos : Pos} {da : DEt}
def dRevL (da : DEt) : DEt := fun a R => da a fun d a' => match d with
  | .lst ds => R (.lst ds.reverse) a'
  | _ => False
theorem do_revL {k : Nat} {p1 p2 p3 : Pos} (h : DX X K ω e da) (hK : ∀ j, (X j).K = K := by intro _; rfl) : DO X K ω (.Subscript e (.Slice none none (some (.UnaryOp .USub (.Constant (.int 1) k p1) p2)) p3) pos) (dRevL da) := by
  obtain ⟨t, p, l⟩ := h
  refine ⟨tRevL K t, fun j => by rw [← hK j]; exact pe_revL (p j), fun B hω F a σ H Q R ok hd kk => l B hω F a σ H _ _ ok hd fun v d F1 a1 H1 g1 q1 r1 => ?_⟩
  split at r1
  · rename_i ds
    obtain ⟨p, vs, rfl, h1, h2⟩ := q1
    exact ⟨p, vs, rfl, SqL.of (g1.ok.fi.fh _ _ h1), fun q hq => g1.list ok hq h2.rev r1 kk⟩
  · exact r1.elim
end
/-! ### a stretch of a law that changes lists inside lists that it has made -/
section
variable {K : PySem.W.Frag} {ω : Wp} {B : Bs K} {F F' F1 F2 Fs : Hp} {a a' a1 a2 : AS} {σ σ' : St} {H H' H0 H1 H2 : Hp} {n : Int} {te : TE} {de da db : DEt} {ι : Type} {X : ι → Cx} {e e1 e2 : Expr} {es : List Expr} {pos : Pos} {dl dm : DAt} {dt : DTt} {st : Stmt} {rest : List Stmt}
/-- a list that stands at an address where nothing stood -/
def flD (K : PySem.W.Frag) (Fs : Hp) (ds : List D) : D := .ob fun H0 y => Dat K H0 (.lst ds) y ∧ ∃ p, y = .ref p ∧ Fs p = none
/-- what stood already -/
def oldD (K : PySem.W.Frag) (Fs : Hp) : D → D
  | .v x => .v x
  | d => .ob fun _ y => Dat K Fs d y
theorem flD_lst {ds : List D} {v : V} (h : Dat K F (flD K Fs ds) v) : Dat K F (.lst ds) v := let ⟨_, s, q, _⟩ := h; q.mono s
theorem flD_at {ds : List D} {v : V} (h : Dat K F (flD K Fs ds) v) : ∃ p vs, v = .ref p ∧ Fs p = none ∧ F p = some (.lst vs) ∧ DatL K F ds vs := by
  obtain ⟨p, vs, rfl, q, l⟩ := flD_lst h
  obtain ⟨_, _, _, p', e, n⟩ := h
  cases e
  exact ⟨p, vs, rfl, n, q, l⟩
theorem oldD_of {d : D} {v : V} (s : Same Fs F) (h : Dat K Fs d v) : Dat K F (oldD K Fs d) v := by
  cases d
  case v x => exact h
  all_goals exact ⟨Fs, s, h⟩
theorem oldD_to {d : D} {v : V} (h : Dat K F (oldD K Fs d) v) : Dat K Fs d v := by
  cases d
  case v x => exact h
  all_goals exact h.choose_spec.2
/-- what is asked of such a stretch -/
def wpC (ω : Wp) (Fs : Hp) : Wp := ⟨ω.W, fun _ _ _ _ => False, fun F => F = Fs, ω.sf⟩
theorem wokC (hω : WOk B ω) : WOk (K := K) ⟨B.sp, H0, Fs, B.self⟩ (wpC ω Fs) := ⟨rfl, hω.2.1, fun _ _ _ _ _ _ _ _ _ w => w.elim⟩
/-- a new list, told so -/
def dFl (K : PySem.W.Frag) (Fs : Hp) (de : DEt) : DEt := fun a R => de a fun d a' => ∃ ds, d = .lst ds ∧ R (flD K Fs ds) a'
theorem LO.fl (h : LO K (wpC ω Fs) te de) : LE K (wpC ω Fs) te (dFl K Fs de) := fun B hω F a σ H Q R ok hd k => h B hω F a σ H Q _ ok hd fun p o d F' a' H' g n1 n2 e q r => by
  obtain ⟨ds, rfl, r⟩ := r
  obtain ⟨hF, h0, hs, no⟩ := ok.here n1
  have s1 : Same F' (upd F' p o) := Same.new n2
  have nf : Fs p = none := by
    have e0 : B.F0 = Fs := hω.1
    cases z : Fs p with
    | none => rfl
    | some u =>
      rw [← e0] at z
      rw [ok.fi.ff p u z] at hF
      cases hF
  refine k _ (flD K Fs ds) (upd F' p o) a' H' ⟨g.ok.frz e n2 h0 hs fun z => no (g.oo p z), g.ff.trans s1, g.hh, fun b z => ?_, g.oo⟩ (show Dat K _ (D.ob _) _ from ⟨_, Same.refl _, (q.mono s1).dat upd_same, p, rfl, nf⟩) r
  by_cases w : b = p
  · exact .inr (.inl (w ▸ n1))
  · rw [upd_ne w] at z
    exact (g.fr b z).imp id fun q => q.imp id fun q => q.imp id fun q => q.mono s1
theorem DO.fl (h : DO X K (wpC ω Fs) e de) : DX X K (wpC ω Fs) e (dFl K Fs de) := let ⟨t, p, l⟩ := h; ⟨t, p, l.fl⟩
/-- a name, seen with less than is known -/
def dView (K : PySem.W.Frag) (Fs : Hp) (i : Nat) : DEt := fun a R => ∃ d d', a.at i = .val d ∧ (∀ F v, Same Fs F → Dat K F d v → Dat K F d' v) ∧ R d' a
theorem le_view {i : Nat} : LE K (wpC ω Fs) (tVar i) (dView K Fs i) := fun B hω F a σ H Q R ok hd k => by
  obtain ⟨d, d', e, w, r⟩ := hd
  obtain ⟨v, h1, h2⟩ := ok.va i d (at_of' e (fun z => nomatch z))
  have e0 : B.F0 = Fs := hω.1
  exact ⟨v, h1, k v d' F a H (.refl ok) (w F v (e0 ▸ ok.fi.ff) h2) r⟩
/-- what the whole needs to come back -/
structure BackOk {K : PySem.W.Frag} (B : Bs K) (Fs H0 : Hp) : Prop where
  ff : Same B.F0 Fs
  fr : ∀ b, Fs b ≠ none → B.F0 b ≠ none ∨ B.H0 b = none ∨ ImmA Fs b
  fm : ∀ b o, B.H0 b = some o → B.sp ≠ some b → H0 b = some o
def isIns : HO → Bool
  | .ins _ _ _ => true
  | _ => false
/-- what stood already, and of the new what never changes -/
def keepF (Fs F1 : Hp) : Hp := fun b => match Fs b with
  | some _ => F1 b
  | none => match F1 b with
    | some o => if imm o || isIns o then some o else none
    | none => none
theorem keepF_to {b : Addr} {o : HO} (h : keepF Fs F1 b = some o) : F1 b = some o := by
  unfold keepF at h
  split at h
  · exact h
  · split at h
    · rename_i o' e
      split at h
      · rw [e]
        exact h
      · cases h
    · cases h
theorem keepF_old (s : Same Fs F1) : Same Fs (keepF Fs F1) := fun b o h => by
  unfold keepF
  rw [h]
  exact s b o h
theorem keepF_new {b : Addr} {o : HO} (h : F1 b = some o) (i : (imm o || isIns o) = true) : keepF Fs F1 b = some o := by
  unfold keepF
  split
  · exact h
  · rw [h]
    show (if (imm o || isIns o) = true then some o else none) = _
    rw [if_pos i]
theorem keepF_lst {b : Addr} {vs : List V} (h : F1 b = some (.lst vs)) (n : Fs b = none) : keepF Fs F1 b = none := by
  unfold keepF
  rw [n, h]
  rfl
/-- data without lists and dicts -/
def stillB : D → Bool
  | .v _ => true
  | .tup ds => stillL ds
  | .ctup _ => false
  | .ftup ds => stillL ds
  | .lst _ => false
  | .dK _ => false
  | .dT _ => false
  | .ins _ fs => stillS fs
  | .ob _ => false
  | .ow _ => false
where
  stillL : List D → Bool
    | [] => true
    | d :: ds => stillB d && stillL ds
  stillS : List (Str × D) → Bool
    | [] => true
    | (_, d) :: ds => stillB d && stillS ds
mutual
theorem still_dat : ∀ {d : D} {v : V}, stillB d = true → Dat K F1 d v → Dat K (keepF Fs F1) d v
  | .v _, _, _, h => h
  | .tup _, _, s, ⟨a, vs, e, h, l⟩ => ⟨a, vs, e, keepF_new h rfl, still_datL s l⟩
  | .ins _ _, _, s, ⟨a, dx, vs, e, h, l⟩ => ⟨a, dx, vs, e, keepF_new h rfl, still_datS s l⟩
  | .ctup _, _, s, _ => nomatch s
  | .ftup _, _, s, ⟨a, vs, e, ⟨o, h, h'⟩, l⟩ => ⟨a, vs, e, ⟨o, keepF_new h rfl, h'⟩, still_datL s l⟩
  | .lst _, _, s, _ => nomatch s
  | .dK _, _, s, _ => nomatch s
  | .dT _, _, s, _ => nomatch s
  | .ob _, _, s, _ => nomatch s
  | .ow _, _, s, _ => nomatch s
theorem still_datL : ∀ {ds : List D} {vs : List V}, stillB.stillL ds = true → DatL K F1 ds vs → DatL K (keepF Fs F1) ds vs
  | [], _, _, h => h
  | d :: ds, _, s, ⟨v, r, e, h, t⟩ => by
    have s' : (stillB d && stillB.stillL ds) = true := s
    rw [Bool.and_eq_true] at s'
    exact ⟨v, r, e, still_dat s'.1 h, still_datL s'.2 t⟩
theorem still_datS : ∀ {ds : List (Str × D)} {vs : List (Str × V)}, stillB.stillS ds = true → DatS K F1 ds vs → DatS K (keepF Fs F1) ds vs
  | [], _, _, h => h
  | (_, d) :: ds, _, s, ⟨v, r, e, h, t⟩ => by
    have s' : (stillB d && stillB.stillS ds) = true := s
    rw [Bool.and_eq_true] at s'
    exact ⟨v, r, e, still_dat s'.1 h, still_datS s'.2 t⟩
end
def noOwnC (sl : List Sl) : Prop := ∀ s ∈ sl, ∀ d, s ≠ Sl.own d
/-- the way back -/
theorem Ok.close (bk : BackOk B Fs H0) (ok : Ok (K := K) ⟨B.sp, H0, Fs, B.self⟩ F1 a1 σ H1) (sl3 : List Sl) (hl : sl3.length = a1.sl.length) (no3 : noOwnC sl3)
    (hk : ∀ (i : Nat) (d : D), sl3[i]? = some (Sl.val d) → ∃ d1, a1.sl[i]? = some (Sl.val d1) ∧ ∀ v, Dat K F1 d1 v → Dat K (keepF Fs F1) d v) (hs0 : ∀ p, B.sp = some p → B.H0 p ≠ none) : Ok B (keepF Fs F1) ⟨sl3, a1.n, a1.sp⟩ σ H1 := by
  have sf : Same Fs F1 := ok.fi.ff
  refine ⟨⟨fun b o h => ok.fi.fh b o (keepF_to h), bk.ff.trans (keepF_old sf), fun b h => ?_, fun b o h n => ok.fi.fm b o (bk.fm b o h n) n, fun p e => ?_⟩, ok.es, by rw [ok.len]; exact hl.symm, fun i d e => ?_, fun i d e => absurd rfl (no3 _ (List.mem_of_getElem? e) d), fun i j p d e h _ _ _ => absurd rfl (no3 _ (List.mem_of_getElem? h) d), ok.fx⟩
  · cases z : Fs b with
    | some u => exact (bk.fr b (by rw [z]; exact fun q => nomatch q)).imp id fun q => q.imp id fun q => q.mono (keepF_old sf)
    | none =>
      cases z1 : keepF Fs F1 b with
      | none => exact absurd z1 h
      | some o =>
        have h1 := keepF_to z1
        rcases ok.fi.fr b (by rw [h1]; exact fun q => nomatch q) with q | q | ⟨o', q1, q2⟩
        · exact absurd z q
        · refine .inr (.inl ?_)
          cases z2 : B.H0 b with
          | none => rfl
          | some u =>
            have n : B.sp ≠ some b := fun w => by
              have := (ok.fi.sr b w).1
              rw [h1] at this
              cases this
            have q : H0 b = none := q
            rw [bk.fm b u z2 n] at q
            cases q
        · rw [h1] at q1
          cases q1
          exact .inr (.inr ⟨o, z1, q2⟩)
  · obtain ⟨x1, x2, x3⟩ := ok.fi.sr p e
    refine ⟨?_, hs0 p e, x3⟩
    cases z : keepF Fs F1 p with
    | none => rfl
    | some o => rw [keepF_to z] at x1; cases x1
  · obtain ⟨d1, h1, w⟩ := hk i d e
    obtain ⟨v, h2, h3⟩ := ok.va i d1 h1
    exact ⟨v, h2, w v h3⟩
/-- the rest of such a stretch -/
def LTl (K : PySem.W.Frag) (ω : Wp) (Fs : Hp) (t : TS) (d : DSt) : Prop := ∀ (B : Bs K), WOk B ω → ∀ (E : Ends) (DE : DEnds) (H0 F1 : Hp) (a1 : AS) (σ1 : St) (H1 : Hp), BackOk B Fs H0 → (∀ p, B.sp = some p → B.H0 p ≠ none) → Ok (K := K) ⟨B.sp, H0, Fs, B.self⟩ F1 a1 σ1 H1 → d DE a1 → (∀ F, Same Fs F → EndsOk B F DE E) → t E σ1 H1
def DTl {ι : Type} (X : ι → Cx) (K : PySem.W.Frag) (ω : Wp) (ss : List Stmt) (d : Hp → DSt) : Prop := ∃ t : Hp → TS, (∀ Fs j, PSs (X j) ss (t Fs)) ∧ ∀ Fs, LTl K ω Fs (t Fs) (d Fs)
theorem dtl_cons {d1 d2 : Hp → DSt} (h1 : ∀ Fs, DS X K (wpC ω Fs) st (d1 Fs)) (h2 : DTl X K ω rest d2) : DTl X K ω (st :: rest) (fun Fs => fun E a => d1 Fs ⟨d2 Fs E, fun _ _ => False, fun _ => False, fun _ => False⟩ a) := by
  obtain ⟨u, p2, l2⟩ := h2
  refine ⟨fun Fs => tSeq (h1 Fs).choose (u Fs), fun Fs j => pss_cons ((h1 Fs).choose_spec.1 j) (p2 Fs j), fun Fs B hω E DE H0 F1 a1 σ1 H1 bk hs0 ok hd k => ?_⟩
  refine (h1 Fs).choose_spec.2 ⟨B.sp, H0, Fs, B.self⟩ (wokC hω) _ _ F1 a1 σ1 H1 ok hd ⟨fun F' a' σ' H' ok' s z => l2 Fs B hω E DE H0 F' a' σ' H' bk hs0 ok' z k, fun _ _ _ _ _ _ _ _ z => z.elim, fun _ _ _ _ _ _ z => z.elim, fun _ _ _ _ _ _ z => z.elim⟩
/-- into such a stretch -/
def oldSl (K : PySem.W.Frag) (Fs : Hp) : Sl → Sl
  | .val d => .val (oldD K Fs d)
  | s => s
def dOpen (K : PySem.W.Frag) (d : Hp → DSt) : DSt := fun E a => noOwnC a.sl ∧ ∀ Fs, d Fs E ⟨a.sl.map (oldSl K Fs), a.n, a.sp⟩
theorem dss_open {ss : List Stmt} {d : Hp → DSt} (h : DTl X K ω ss d) : DSs X K ω ss (dOpen K d) := by
  obtain ⟨t, p, l⟩ := h
  refine ⟨fun E σ H => ∃ Fs, t Fs E σ H, fun j => ⟨fun pins s σ H D I ⟨Fs, w⟩ => (p Fs j).run pins s σ H D I w⟩, fun B hω E DE F a σ H ok hd k => ⟨F, ?_⟩⟩
  obtain ⟨no, hd⟩ := hd
  have hv : ∀ (i : Nat) (d : D), (a.sl.map (oldSl K F))[i]? = some (Sl.val d) → ∃ v, σ[i]? = some (some v) ∧ Dat K F d v := fun i d e => by
    rw [List.getElem?_map] at e
    obtain ⟨s, h1, h2⟩ := Option.map_eq_some_iff.mp e
    cases s with
    | val d' =>
      cases h2
      obtain ⟨v, h3, h4⟩ := ok.va i d' h1
      exact ⟨v, h3, oldD_of (Same.refl _) h4⟩
    | emp => cases h2
    | own d' => cases h2
  have ho : noOwnC (a.sl.map (oldSl K F)) := fun s hs d e => by
    obtain ⟨s', h1, h2⟩ := List.mem_map.mp hs
    cases s' with
    | own d' => exact no _ h1 d' rfl
    | val d' => rw [← h2] at e; cases e
    | emp => rw [← h2] at e; cases e
  refine l F B hω E DE H F ⟨a.sl.map (oldSl K F), a.n, a.sp⟩ σ H ⟨ok.fi.ff, ok.fi.fr, ok.fi.fm⟩ (fun p e => (ok.fi.sr p e).2.1) ⟨⟨ok.fi.fh, Same.refl _, fun _ h => .inl h, fun _ _ h _ => h, fun p e => ?_⟩, ok.es, by rw [ok.len]; exact (List.length_map _).symm, hv, fun i d e => absurd rfl (ho _ (List.mem_of_getElem? e) d), fun i j p d e h _ _ _ => absurd rfl (ho _ (List.mem_of_getElem? h) d), ok.fx⟩ (hd F) fun F' s => k.mono s
  obtain ⟨x1, x2, x3⟩ := ok.fi.sr p e
  obtain ⟨xs, hx⟩ := x3.at
  exact ⟨x1, (by show H p ≠ none; rw [hx]; exact fun z => (nomatch z)), x3⟩
theorem dw (Fs : Hp) (i : Nat) {x : Str} {pos : Pos} (hN : ∀ j, (X j).N[i]? = some x := by intro _; rfl) (hv : ∀ j, Vis (X j).env.scope x := by first | exact fun _ => Or.inl rfl | exact fun _ => Or.inr (Or.inl rfl) | exact fun _ => Or.inr (Or.inr rfl)) (hd : (x == ("__debug__" : Str)) = false := by decide)
    (hcd : (x == ("__classdict__" : Str)) = false := by decide) : DX X K (wpC ω Fs) (.Name x pos) (dView K Fs i) := ⟨_, fun j => pe_var (hN j) (hv j) hd hcd, le_view⟩
end
/-! ### lists inside a list are changed, then the list itself is one's own -/
section
variable {K : PySem.W.Frag} {ω : Wp} {B : Bs K} {F F' F1 F2 Fs : Hp} {a a' a1 a2 : AS} {σ σ' : St} {H H' H0 H1 H2 : Hp} {n : Int} {ι : Type} {X : ι → Cx} {rest : List Stmt}
/-- what was made within the stretch and will not stay -/
theorem fresh_at {b : Addr} {vs : List V} (bk : BackOk B Fs H0) (ok : Ok (K := K) ⟨B.sp, H0, Fs, B.self⟩ F1 a1 σ H1) (n : Fs b = none) (h : F1 b = some (.lst vs)) : H1 b = some (.lst vs) ∧ keepF Fs F1 b = none ∧ B.H0 b = none ∧ B.sp ≠ some b := by
  have ns : B.sp ≠ some b := fun w => by
    have := (ok.fi.sr b w).1
    rw [h] at this
    cases this
  refine ⟨ok.fi.fh b _ h, keepF_lst h n, ?_, ns⟩
  rcases ok.fi.fr b (by rw [h]; exact fun q => (nomatch q)) with q | q | ⟨o', q1, q2⟩
  · exact absurd n q
  · cases z : B.H0 b with
    | none => rfl
    | some u =>
      have q : H0 b = none := q
      rw [bk.fm b u z ns] at q
      cases q
  · rw [h] at q1
    cases q1
    cases q2
theorem datL_v : ∀ (xs : List V), DatL K F (xs.map D.v) xs
  | [] => rfl
  | x :: xs => ⟨x, xs, rfl, rfl, datL_v xs⟩
theorem own_of_no {sl : List Sl} {n : Int} {sp : Option Addr} {b : Addr} (no : noOwnC sl) : ¬ OwnAt ⟨sl, n, sp⟩ σ b := by
  rintro ⟨i, d, h1, _⟩
  exact no _ (List.mem_of_getElem? h1) d rfl
theorem at0 {α : Type} (x : α) (l : List α) : atI (x :: l) 0 = some x := by
  unfold atI ixN
  rw [if_pos (by decide), if_pos (by rw [List.length_cons]; omega)]
  rfl
/-- which slots are known afterwards -/
def KeepSl (K : PySem.W.Frag) (Fs : Hp) (sl sl3 : List Sl) : Prop := sl3.length = sl.length ∧ noOwnC sl3 ∧ ∀ (i : Nat) (d : D), sl3[i]? = some (Sl.val d) → ∃ d1, sl[i]? = some (Sl.val d1) ∧ (d1 = oldD K Fs d ∨ (d1 = d ∧ stillB d = true))
theorem KeepSl.dat {sl sl3 : List Sl} (h : KeepSl K Fs sl sl3) (s : Same Fs F1) (i : Nat) (d : D) (e : sl3[i]? = some (Sl.val d)) : ∃ d1, sl[i]? = some (Sl.val d1) ∧ ∀ v, Dat K F1 d1 v → Dat K (keepF Fs F1) d v := by
  obtain ⟨d1, e1, q⟩ := h.2.2 i d e
  refine ⟨d1, e1, fun v z => ?_⟩
  rcases q with rfl | ⟨rfl, q⟩
  · exact (oldD_to z).mono (keepF_old s)
  · exact still_dat q z
end
/-! ### x.clear(); y[0].clear(); y.clear(), of lists made within the stretch -/
def l3D (t : Str × Str × Str) : D := .lst [.v (.str t.1), .v (.str t.2.1), .v (.str t.2.2)]
section
variable {K : PySem.W.Frag} {ω : Wp} {B : Bs K} {F F' F1 F2 Fs : Hp} {a a' a1 a2 : AS} {σ σ' : St} {H H' H0 H1 H2 : Hp} {n : Int} {ι : Type} {X : ι → Cx} {rest : List Stmt}
def dClear3 (K : PySem.W.Frag) (Fs : Hp) (i j : Nat) (d2 : DSt) : DSt := fun E a => ∃ (als g : List (Str × Str × Str)) (more : List D) (sl3 : List Sl),
  a.at i = .val (flD K Fs (als.map l3D)) ∧ a.at j = .val (flD K Fs (flD K Fs (g.map t3D) :: more)) ∧ KeepSl K Fs a.sl sl3 ∧ d2 E ⟨sl3, a.n, a.sp⟩
theorem dtl_clear3 {i j : Nat} {s5 s6 s7 : Stmt} {d2 : DSt}
    (p5 : ∀ q, PS (X q) s5 (tDrop (tBM0 K "list" rClear (tVar i))))
    (p6 : ∀ q, PS (X q) s6 (tDrop (tBM0 K "list" rClear (tOp (rIxL K) (tVar j) (tC (.int 0))))))
    (p7 : ∀ q, PS (X q) s7 (tDrop (tBM0 K "list" rClear (tVar j))))
    (h : DSs X K ω rest d2) : DTl X K ω (s5 :: s6 :: s7 :: rest) (fun Fs => dClear3 K Fs i j d2) := by
  obtain ⟨t, p, l⟩ := h
  refine ⟨fun _ => _, fun Fs q => pss_cons (p5 q) (pss_cons (p6 q) (pss_cons (p7 q) (p q))), fun Fs B hω E DE H0 F1 a σ H1 bk hs0 ok hd k => ?_⟩
  obtain ⟨als, g, more, sl3, e1, e2, ks, hd⟩ := hd
  obtain ⟨v, s1, q1⟩ := ok.va i _ (at_of' e1 (fun z => nomatch z))
  obtain ⟨u, s2, q2⟩ := ok.va j _ (at_of' e2 (fun z => nomatch z))
  obtain ⟨pa, rs, rfl, na, fa, la⟩ := flD_at q1
  obtain ⟨pb, ys, rfl, nb, fb, lb⟩ := flD_at q2
  obtain ⟨y0, yr, rfl, q3, _⟩ := lb
  obtain ⟨pg, vs, rfl, ng, fg, lg⟩ := flD_at q3
  obtain ⟨A1, A2, A3, A4⟩ := fresh_at bk ok na fa
  obtain ⟨B1, B2, B3, B4⟩ := fresh_at bk ok nb fb
  obtain ⟨G1, G2, G3, G4⟩ := fresh_at bk ok ng fg
  have ok3 := Ok.close bk ok sl3 ks.1 ks.2.1 (ks.dat ok.fi.ff) hs0
  have nn : ∀ b, ¬ OwnAt ⟨sl3, a.n, a.sp⟩ σ b := fun b => own_of_no ks.2.1
  -- what stands in the first of the second one
  have hg : vs = [] ∨ ∃ q us r, vs = .ref q :: r ∧ F1 q = some (.tup us) := by
    cases g with
    | nil => exact .inl lg
    | cons t g =>
      obtain ⟨v, r, rfl, ⟨q, us, rfl, h1, _⟩, _⟩ := lg
      exact .inr ⟨q, us, r, rfl, h1⟩
  have hal : rs = [] ∨ ∃ q z us r, rs = .ref q :: r ∧ F1 q = some (.lst (.str z :: us)) := by
    cases als with
    | nil => exact .inl la
    | cons t als =>
      obtain ⟨v, r, rfl, ⟨q, us, rfl, h1, h2⟩, _⟩ := la
      obtain ⟨w, ws, rfl, h3, _⟩ := h2
      cases (show w = _ from h3)
      exact .inr ⟨q, _, ws, r, rfl, h1⟩
  have nab : pb ≠ pa := fun z => by
    subst z
    rw [fb] at fa
    cases fa
    rcases hal with q | ⟨q, z, us, r, e, h1⟩
    · cases q
    · cases e
      rw [fg] at h1
      cases h1
      rcases hg with q | ⟨q, us, r, e, _⟩
      · cases q
      · cases e
  have nbg : pb ≠ pg := fun z => by
    subst z
    rw [fb] at fg
    cases fg
    rcases hg with q | ⟨q, us, r, e, h1⟩
    · cases q
    · cases e
      rw [fb] at h1
      cases h1
  refine ⟨_, s1, .inl ⟨rfl, _, SqL.of A1⟩, pa, rs, rfl, rfl, A1, ?_⟩
  have ok4 := ok3.ext (o := .lst []) A2 A3 A4 (nn pa)
  have B1' : upd H1 pa (.lst []) pb = some (.lst (.ref pg :: yr)) := by rw [upd_ne nab]; exact B1
  obtain ⟨ts, G1'⟩ : ∃ ts : List V, upd H1 pa (.lst []) pg = some (.lst ts) := by
    by_cases z : pg = pa
    · subst z
      exact ⟨_, upd_same⟩
    · exact ⟨_, by rw [upd_ne z]; exact G1⟩
  generalize upd H1 pa (.lst []) = H3 at *
  refine ⟨_, s2, pb, _, 0, _, rfl, rfl, SqL.of B1', at0 _ _, .inl ⟨rfl, _, SqL.of G1'⟩, pg, _, rfl, rfl, G1', ?_⟩
  have ok5 := ok4.ext (o := .lst []) G2 G3 G4 (nn pg)
  have B1'' : upd H3 pg (.lst []) pb = some (.lst (.ref pg :: yr)) := by rw [upd_ne nbg]; exact B1'
  generalize upd H3 pg (.lst []) = H4 at *
  refine ⟨_, s2, .inl ⟨rfl, _, SqL.of B1''⟩, pb, _, rfl, rfl, B1'', ?_⟩
  exact l B hω E DE _ _ σ _ (ok5.ext (o := .lst []) B2 B3 B4 (nn pb)) hd (k _ (keepF_old ok.fi.ff))
end
def top (i : Nat) : Stmt := PySem.Challenge.pw_nearloops_k50_tables.main.body.getD i (.Pass ⟨0, 0, 0, 0⟩)
def c_SIGNS : List V := [.str "<", .str "=", .str ">"]
def c_LONE_GAPS : List V := [.str "none", .str "first", .str "second"]
abbrev s_is_name : Stmt := top 5
abbrev s_checked_states : Stmt := top 9
abbrev s_checked_levels : Stmt := top 10
abbrev s_checked_period : Stmt := top 11
abbrev s_Table__init : Stmt := inClass (top 12) 0
abbrev s_Table_alone : Stmt := inClass (top 12) 1
abbrev s_Table_levels : Stmt := inClass (top 12) 2
abbrev s_Table_below : Stmt := inClass (top 12) 3
abbrev s_Table_above : Stmt := inClass (top 12) 4
abbrev s_Table_level : Stmt := inClass (top 12) 5
abbrev s_Table__contains : Stmt := inClass (top 12) 6
abbrev s_Table__eq : Stmt := inClass (top 12) 7
abbrev s_law_source : Stmt := top 14
abbrev s_law_draw : Stmt := top 15
abbrev s_law_pick : Stmt := top 16
abbrev s_law_level : Stmt := top 17
abbrev s_law_triples : Stmt := top 18
abbrev s_law_ascending : Stmt := top 19
abbrev s_law_near : Stmt := top 20
abbrev s_law_holds_rightly : Stmt := top 21
abbrev s_law : Stmt := top 22
theorem sc_is_name : FnScope ["thing", "letter"] ["thing"] (defScope s_is_name) := ⟨rfl, rfl, rfl, by decide +kernel, rfl, by decide +kernel, by decide +kernel⟩
theorem sc_checked_states : FnScope ["things", "words", "states", "thing"] ["things", "words"] (defScope s_checked_states) := ⟨rfl, rfl, rfl, by decide +kernel, rfl, by decide +kernel, by decide +kernel⟩
theorem sc_checked_levels : FnScope ["things", "thing"] ["things"] (defScope s_checked_levels) := ⟨rfl, rfl, rfl, by decide +kernel, rfl, by decide +kernel, by decide +kernel⟩
theorem sc_checked_period : FnScope ["thing", "most"] ["thing", "most"] (defScope s_checked_period) := ⟨rfl, rfl, rfl, by decide +kernel, rfl, by decide +kernel, by decide +kernel⟩
theorem sc_Table__init : FnScope ["self", "alone", "levels", "below", "above", "checked_alone", "checked_levels", "most", "checked_below", "checked_above"] ["self", "alone", "levels", "below", "above"] (defScope s_Table__init) := ⟨rfl, rfl, rfl, by decide +kernel, rfl, by decide +kernel, by decide +kernel⟩
theorem sc_Table_alone : FnScope ["self"] ["self"] (defScope s_Table_alone) := ⟨rfl, rfl, rfl, by decide +kernel, rfl, by decide +kernel, by decide +kernel⟩
theorem sc_Table_levels : FnScope ["self"] ["self"] (defScope s_Table_levels) := ⟨rfl, rfl, rfl, by decide +kernel, rfl, by decide +kernel, by decide +kernel⟩
theorem sc_Table_below : FnScope ["self"] ["self"] (defScope s_Table_below) := ⟨rfl, rfl, rfl, by decide +kernel, rfl, by decide +kernel, by decide +kernel⟩
theorem sc_Table_above : FnScope ["self"] ["self"] (defScope s_Table_above) := ⟨rfl, rfl, rfl, by decide +kernel, rfl, by decide +kernel, by decide +kernel⟩
theorem sc_Table_level : FnScope ["self", "d", "most"] ["self", "d"] (defScope s_Table_level) := ⟨rfl, rfl, rfl, by decide +kernel, rfl, by decide +kernel, by decide +kernel⟩
theorem sc_Table__contains : FnScope ["self", "x", "one", "other", "gap", "d", "sign"] ["self", "x"] (defScope s_Table__contains) := ⟨rfl, rfl, rfl, by decide +kernel, rfl, by decide +kernel, by decide +kernel⟩
theorem sc_Table__eq : FnScope ["self", "other"] ["self", "other"] (defScope s_Table__eq) := ⟨rfl, rfl, rfl, by decide +kernel, rfl, by decide +kernel, by decide +kernel⟩
theorem sc_law_source : FnScope ["_law_script", "_law_great", "_law_seed", "_law_cell"] ["_law_script"] (defScope s_law_source) := ⟨rfl, rfl, rfl, by decide +kernel, rfl, by decide +kernel, by decide +kernel⟩
theorem sc_law_draw : FnScope ["_law_source_here", "_law_many", "_law_digit", "_law_mixed"] ["_law_source_here", "_law_many"] (defScope s_law_draw) := ⟨rfl, rfl, rfl, by decide +kernel, rfl, by decide +kernel, by decide +kernel⟩
theorem sc_law_pick : FnScope ["_law_source_here", "_law_things"] ["_law_source_here", "_law_things"] (defScope s_law_pick) := ⟨rfl, rfl, rfl, by decide +kernel, rfl, by decide +kernel, by decide +kernel⟩
theorem sc_law_level : FnScope ["_law_table", "_law_d", "_law_most"] ["_law_table", "_law_d"] (defScope s_law_level) := ⟨rfl, rfl, rfl, by decide +kernel, rfl, by decide +kernel, by decide +kernel⟩
theorem sc_law_triples : FnScope ["_law_source_here", "_law_lasts", "_law_most", "_law_found", "_law_k", "_law_state", "_law_after"] ["_law_source_here", "_law_lasts", "_law_most"] (defScope s_law_triples) := ⟨rfl, rfl, rfl, by decide +kernel, rfl, by decide +kernel, by decide +kernel⟩
theorem sc_law_ascending : FnScope ["_law_triples_here", "_law_k", "_law_one"] ["_law_triples_here"] (defScope s_law_ascending) := ⟨rfl, rfl, rfl, by decide +kernel, rfl, by decide +kernel, by decide +kernel⟩
theorem sc_law_near : FnScope ["_law_d", "_law_below", "_law_above"] ["_law_d", "_law_below", "_law_above"] (defScope s_law_near) := ⟨rfl, rfl, rfl, by decide +kernel, rfl, by decide +kernel, by decide +kernel⟩
theorem sc_law_holds_rightly : FnScope ["_law_source_here", "_law_table", "_law_d", "_law_told", "_law_one", "_law_due"] ["_law_source_here", "_law_table", "_law_d"] (defScope s_law_holds_rightly) := ⟨rfl, rfl, rfl, by decide +kernel, rfl, by decide +kernel, by decide +kernel⟩
theorem sc_law : FnScope ["_law_script", "_law_source_here", "_law_alone", "_law_most", "_law_levels", "_law_below", "_law_above", "_law_one", "_law_passed", "_law_given", "_law_table", "_law_far", "_law_d", "_law_told", "_law_odd", "_law_twin", "_law_last", "_law_k", "_law_level_here", "_law_thing"] ["_law_script"] (defScope s_law) := ⟨rfl, rfl, rfl, by decide +kernel, rfl, by decide +kernel, by decide +kernel⟩
/-! ### _law_pick, _law_name -/
def small (c : Nat) : Prop := 97 ≤ c ∧ c ≤ 122
structure IsName (z : Str) : Prop where
  pos : 1 ≤ z.cps.size
  len : z.cps.size ≤ 8
  low : ∀ c ∈ z.cps.toList, small c
theorem IsName.ok {z : Str} (h : IsName z) : PyData.strOk z = true := by
  show z.cps.all (· < 0x110000) = true
  rw [← Array.all_toList, List.all_eq_true]
  intro c hc
  have := (h.low c hc).2
  exact decide_eq_true (by omega)
/-! ### is_name -/
def nameB (z : Str) : Bool := decide (1 ≤ z.cps.size) && decide (z.cps.size ≤ 8) && z.cps.toList.all fun c => decide (c ∈ (Str.ofString "abcdefghijklmnopqrstuvwxyz").cps.toList)
/-- what the top has written: each def at its address, the built-ins not hidden -/
structure Txt (P : Program) (w : World) (K : PySem.W.Frag) (mg : Str → Option Value) where
  C_Table : Addr
  m_Table : mg "Table" = some (.ref C_Table)
  cl_Table : Cls K C_Table
  na_Table_alone : NoAttr K C_Table "_alone"
  na_Table_levels : NoAttr K C_Table "_levels"
  na_Table_below : NoAttr K C_Table "_below"
  na_Table_above : NoAttr K C_Table "_above"
  f_Table__init : Addr
  d_Table__init : FuncData
  F_Table__init : Fun K "__init__" "Table.__init__" s_Table__init f_Table__init d_Table__init
  b_Table__init : Binds K d_Table__init ["self", "alone", "levels", "below", "above"] []
  mk_Table : Mk K C_Table f_Table__init
  f_Table_alone : Addr
  d_Table_alone : FuncData
  F_Table_alone : Fun K "alone" "Table.alone" s_Table_alone f_Table_alone d_Table_alone
  b_Table_alone : Binds K d_Table_alone ["self"] []
  p_Table_alone : Addr
  pr_Table_alone : PropOf K C_Table "alone" p_Table_alone f_Table_alone
  f_Table_levels : Addr
  d_Table_levels : FuncData
  F_Table_levels : Fun K "levels" "Table.levels" s_Table_levels f_Table_levels d_Table_levels
  b_Table_levels : Binds K d_Table_levels ["self"] []
  p_Table_levels : Addr
  pr_Table_levels : PropOf K C_Table "levels" p_Table_levels f_Table_levels
  f_Table_below : Addr
  d_Table_below : FuncData
  F_Table_below : Fun K "below" "Table.below" s_Table_below f_Table_below d_Table_below
  b_Table_below : Binds K d_Table_below ["self"] []
  p_Table_below : Addr
  pr_Table_below : PropOf K C_Table "below" p_Table_below f_Table_below
  f_Table_above : Addr
  d_Table_above : FuncData
  F_Table_above : Fun K "above" "Table.above" s_Table_above f_Table_above d_Table_above
  b_Table_above : Binds K d_Table_above ["self"] []
  p_Table_above : Addr
  pr_Table_above : PropOf K C_Table "above" p_Table_above f_Table_above
  f_Table_level : Addr
  d_Table_level : FuncData
  F_Table_level : Fun K "level" "Table.level" s_Table_level f_Table_level d_Table_level
  b_Table_level : Binds K d_Table_level ["self", "d"] []
  mt_Table_level : Meth K C_Table "level" f_Table_level
  f_Table__contains : Addr
  d_Table__contains : FuncData
  F_Table__contains : Fun K "__contains__" "Table.__contains__" s_Table__contains f_Table__contains d_Table__contains
  b_Table__contains : Binds K d_Table__contains ["self", "x"] []
  mt_Table__contains : Meth K C_Table "__contains__" f_Table__contains
  f_Table__eq : Addr
  d_Table__eq : FuncData
  F_Table__eq : Fun K "__eq__" "Table.__eq__" s_Table__eq f_Table__eq d_Table__eq
  b_Table__eq : Binds K d_Table__eq ["self", "other"] []
  mt_Table__eq : Meth K C_Table "__eq__" f_Table__eq
  t_LETTERS : Tok
  m_LETTERS : mg "LETTERS" = some (.str "abcdefghijklmnopqrstuvwxyz" t_LETTERS)
  f_is_name : Addr
  d_is_name : FuncData
  F_is_name : Fun K "is_name" "is_name" s_is_name f_is_name d_is_name
  b_is_name : Binds K d_is_name ["thing"] []
  m_is_name : mg "is_name" = some (.ref f_is_name)
  f_checked_states : Addr
  d_checked_states : FuncData
  F_checked_states : Fun K "_checked_states" "_checked_states" s_checked_states f_checked_states d_checked_states
  b_checked_states : Binds K d_checked_states ["things", "words"] []
  m_checked_states : mg "_checked_states" = some (.ref f_checked_states)
  f_checked_levels : Addr
  d_checked_levels : FuncData
  F_checked_levels : Fun K "_checked_levels" "_checked_levels" s_checked_levels f_checked_levels d_checked_levels
  b_checked_levels : Binds K d_checked_levels ["things"] []
  m_checked_levels : mg "_checked_levels" = some (.ref f_checked_levels)
  f_checked_period : Addr
  d_checked_period : FuncData
  F_checked_period : Fun K "_checked_period" "_checked_period" s_checked_period f_checked_period d_checked_period
  b_checked_period : Binds K d_checked_period ["thing", "most"] []
  m_checked_period : mg "_checked_period" = some (.ref f_checked_period)
  f_law_source : Addr
  d_law_source : FuncData
  F_law_source : Fun K "_law_source" "_law_source" s_law_source f_law_source d_law_source
  b_law_source : Binds K d_law_source ["_law_script"] []
  m_law_source : mg "_law_source" = some (.ref f_law_source)
  f_law_draw : Addr
  d_law_draw : FuncData
  F_law_draw : Fun K "_law_draw" "_law_draw" s_law_draw f_law_draw d_law_draw
  b_law_draw : Binds K d_law_draw ["_law_source_here", "_law_many"] []
  m_law_draw : mg "_law_draw" = some (.ref f_law_draw)
  f_law_pick : Addr
  d_law_pick : FuncData
  F_law_pick : Fun K "_law_pick" "_law_pick" s_law_pick f_law_pick d_law_pick
  b_law_pick : Binds K d_law_pick ["_law_source_here", "_law_things"] []
  m_law_pick : mg "_law_pick" = some (.ref f_law_pick)
  f_law_level : Addr
  d_law_level : FuncData
  F_law_level : Fun K "_law_level" "_law_level" s_law_level f_law_level d_law_level
  b_law_level : Binds K d_law_level ["_law_table", "_law_d"] []
  m_law_level : mg "_law_level" = some (.ref f_law_level)
  f_law_triples : Addr
  d_law_triples : FuncData
  F_law_triples : Fun K "_law_triples" "_law_triples" s_law_triples f_law_triples d_law_triples
  b_law_triples : Binds K d_law_triples ["_law_source_here", "_law_lasts", "_law_most"] []
  m_law_triples : mg "_law_triples" = some (.ref f_law_triples)
  f_law_ascending : Addr
  d_law_ascending : FuncData
  F_law_ascending : Fun K "_law_ascending" "_law_ascending" s_law_ascending f_law_ascending d_law_ascending
  b_law_ascending : Binds K d_law_ascending ["_law_triples_here"] []
  m_law_ascending : mg "_law_ascending" = some (.ref f_law_ascending)
  f_law_near : Addr
  d_law_near : FuncData
  F_law_near : Fun K "_law_near" "_law_near" s_law_near f_law_near d_law_near
  b_law_near : Binds K d_law_near ["_law_d", "_law_below", "_law_above"] []
  m_law_near : mg "_law_near" = some (.ref f_law_near)
  f_law_holds_rightly : Addr
  d_law_holds_rightly : FuncData
  F_law_holds_rightly : Fun K "_law_holds_rightly" "_law_holds_rightly" s_law_holds_rightly f_law_holds_rightly d_law_holds_rightly
  b_law_holds_rightly : Binds K d_law_holds_rightly ["_law_source_here", "_law_table", "_law_d"] []
  m_law_holds_rightly : mg "_law_holds_rightly" = some (.ref f_law_holds_rightly)
  f_law : Addr
  d_law : FuncData
  F_law : Fun K "law" "law" s_law f_law d_law
  b_law : Binds K d_law ["_law_script"] []
  m_law : mg "law" = some (.ref f_law)
  m_int : mg "int" = none
  m_str : mg "str" = none
  m_bool : mg "bool" = none
  m_range : mg "range" = none
  m_len : mg "len" = none
  m_isinstance : mg "isinstance" = none
  m_all : mg "all" = none
  m_any : mg "any" = none
  m_list : mg "list" = none
  m_tuple : mg "tuple" = none
  m_sorted : mg "sorted" = none
  m_enumerate : mg "enumerate" = none
  m_abs : mg "abs" = none
  a_SIGNS : Addr
  q_SIGNS : ∀ H : Hp, SqT K H a_SIGNS c_SIGNS
  o_SIGNS : ∃ o, K.lookup a_SIGNS = some o ∧ o.cls = .type "tuple" ∧ o.dict = none
  m_SIGNS : mg "SIGNS" = some (.ref a_SIGNS)
  a_LONE_GAPS : Addr
  q_LONE_GAPS : ∀ H : Hp, SqT K H a_LONE_GAPS c_LONE_GAPS
  o_LONE_GAPS : ∃ o, K.lookup a_LONE_GAPS = some o ∧ o.cls = .type "tuple" ∧ o.dict = none
  m_LONE_GAPS : mg "LONE_GAPS" = some (.ref a_LONE_GAPS)
  C_BadTable : Addr
  i_BadTable : Addr
  er_BadTable : PySem.SupX.ClsTxt P K mg C_BadTable i_BadTable "BadTable"
  fn_BadTable : PySem.SupX.FnTxt0 P K C_BadTable i_BadTable
  xf_BadTable : XfC K C_BadTable
  te_BadTable : PySem.W.exmOne K (.ref C_BadTable) (.ref C_BadTable) = some true
  ck_Table : PySem.W.findIn K (.ref C_Table) "__class__" = some (some (.builtin "object.__class__"))
  cg_Table : PySem.W.specialIn K (.builtin "object.__class__") "__get__" = some (some (.builtin "getset_descriptor.__get__"))
  ct_Table : PySem.W.takesIn K (.builtin "object.__class__") = some true
  co_Table : PySem.W.mroIn K C_Table (.type "object") = some true
  cn_Table : PySem.W.findIn K (.ref C_Table) "__ne__" = some (some (.builtin "object.__ne__"))
  nf_Table : PySem.W.notFirst K C_Table (.ref C_Table) = true
  n1_Table : PySem.W.notFirst K C_Table (.type "tuple") = true
  c1_Table : PySem.W.kitOne K (.type "tuple") (.ref C_Table) = some false
theorem ok_law_source (T : Txt P w K mg) : FnOk P w K mg base CX0 1 T.f_law_source T.d_law_source ["_law_script"] (spSource K) := by
  refine T.F_law_source.ok sc_law_source (fun vs H Q E h => ?_) (fun cdv A outer s H vs Q E hr h => ?_)
  · obtain ⟨a, ns, rfl, _⟩ := h
    rfl
  · obtain ⟨a, ns, rfl, hS, k⟩ := h
    refine ⟨_, (pss_cons (ps_asg (pe_tup (pa_cons pe_int (pa_cons pe_int pa_nil))) (pg_tup (by rfl) (pgs_cons (pg_name (i := 1) sc_law_source.nd rfl (Or.inl rfl)) (pgs_cons (pg_name (i := 2) sc_law_source.nd rfl (Or.inl rfl)) pgs_nil))))
      (pss_cons (ps_for PassesOwn.never rfl (pi_list (pv 0)) (pg_name (i := 3) sc_law_source.nd rfl (Or.inl rfl))
      (pss_cons (ps_if (PW.pt (pw_and (pt_cmpR op_eq (pv 1) pe_int (nomark _)) (pw_and1 (pt_cmpR op_ge (pv 3) (pe_op op_pow pe_int pe_int) (nomark _)))))
      (pss_one (ps_set (i := 1) sc_law_source.nd rfl (Or.inl rfl) (pv 3)))
      pss_nil)
      (pss_one (ps_set (i := 2) sc_law_source.nd rfl (Or.inl rfl) (pe_op op_mod (pe_callTy call_int1 (by rfl) T.m_int (by decide +kernel) (pa_cons (pe_op op_add (pe_op op_add (pe_op op_mul (pv 2) pe_int) (pv 3)) pe_int) pa_nil)) pe_int)))))
      (pss_one (ps_ret (pe_lst (pa_cons (pv 1) (pa_cons (pv 2) (pa_cons pe_int pa_nil)))))))), ?_⟩
    refine ⟨by decide, fun p hp => ?_⟩
    have s1 : Same H (upd H p (.tup [.int 0, .int 17])) := Same.new hp
    refine ⟨_, _, rfl, SqT.of upd_same, rfl, ?_⟩
    walk_at "rd"
    refine ⟨⟨_, s1.seq hS⟩, for_list (K := K) (a := a) (xs := ns.map V.int) (fun i σ H' => ∃ (g s : Int) (v : Option V), σ = [some (.ref a), some (.int g), some (.int s), v] ∧ 0 ≤ s ∧ s < 2147483647 ∧ Same H H')
      ⟨0, 17, none, rfl, by decide, by decide, s1⟩ (fun i σ H' _ ⟨_, _, _, _, _, _, z⟩ => z.seq hS) ?_ ?_⟩
    · rintro i y σ H' hi ⟨g, s, v, rfl, s0, s2, z⟩
      obtain ⟨u, rfl⟩ : ∃ u, y = V.int u := by
        rw [List.getElem?_map] at hi
        cases e : ns[i]? with
        | none => rw [e] at hi; cases hi
        | some u => rw [e] at hi; exact ⟨u, (Option.some.inj hi).symm⟩
      have fin : ∀ g' : Int, ∃ (g'' s'' : Int) (v'' : Option V), ([some (V.ref a), some (V.int g'), some (V.int ((s * 31 + u + 7) % 2147483647)), some (V.int u)] : St) = [some (.ref a), some (.int g''), some (.int s''), v''] ∧ 0 ≤ s'' ∧ s'' < 2147483647 ∧ Same H H' :=
        fun g' => ⟨g', _, _, rfl, Int.emod_nonneg _ (by decide), Int.emod_lt_of_pos _ (by decide), z⟩
      walk_at "rd"
      refine ifd (fun cg => ?_) (fun cg => ?_)
      · walk_at "rd"
        refine ⟨⟨by decide, by decide, by decide⟩, ?_⟩
        walk_at "rd"
        refine ifd (fun ch => ?_) (fun ch => ?_)
        · walk_at "rd"
          refine ⟨Or.inr ⟨by decide, by decide⟩, ?_⟩
          walk_at "rd"
          refine Or.inl ?_
          walk_at "rd"
          refine ⟨(by decide : (0 : Int) < 2147483647), ?_⟩
          exact fin u
        · walk_at "rd"
          refine ⟨Or.inr ⟨by decide, by decide⟩, ?_⟩
          walk_at "rd"
          refine Or.inl ?_
          walk_at "rd"
          refine ⟨(by decide : (0 : Int) < 2147483647), ?_⟩
          exact fin g
      · walk_at "rd"
        refine ⟨Or.inr ⟨by decide, by decide⟩, ?_⟩
        walk_at "rd"
        refine Or.inl ?_
        walk_at "rd"
        refine ⟨(by decide : (0 : Int) < 2147483647), ?_⟩
        exact fin g
    · rintro σ H' ⟨g, s, v, rfl, s0, s2, z⟩
      walk_at "rd"
      refine ⟨by show 3 ≤ sizeLine; decide, fun p2 hp2 => ?_⟩
      exact k p2 _ (z.free hp2) (z.trans (Same.new hp2)) ⟨g, s, 0, upd_same, s0, s2, by decide, by decide⟩
theorem ok_law_draw (T : Txt P w K mg) : FnOk P w K mg base CX0 1 T.f_law_draw T.d_law_draw ["_law_source_here", "_law_many"] spDraw := by
  refine T.F_law_draw.ok sc_law_draw (fun vs H Q E h => ?_) (fun cdv A outer s H vs Q E hr h => ?_)
  · obtain ⟨p, m, n, rfl, _⟩ := h
    rfl
  · obtain ⟨p, m, n, rfl, S, hn, m0, m1, k⟩ := h
    refine ⟨_, (pss_cons (ps_asg (pe_op op_add (pe_ix ix_list (pv 0) pe_int (fun _ _ => rfl)) pe_int) (pg_sub (pv 0) pe_int set_list))
      (pss_cons (ps_if (pt_cmpR op_gt (pe_ix ix_list (pv 0) pe_int (fun _ _ => rfl)) pe_int (nomark _))
      (pss_cons (ps_set (i := 2) sc_law_draw.nd rfl (Or.inl rfl) (pe_op op_mod (pe_callTy call_int1 (by rfl) T.m_int (by decide +kernel) (pa_cons (pe_ix ix_list (pv 0) pe_int (fun _ _ => rfl)) pa_nil)) (pv 1)))
      (pss_cons (ps_asg (pe_op op_fdivW (pe_ix ix_list (pv 0) pe_int (fun _ _ => rfl)) (pv 1)) (pg_sub (pv 0) pe_int set_list))
      (pss_one (ps_ret (pv 2)))))
      pss_nil)
      (pss_cons (ps_set (i := 3) sc_law_draw.nd rfl (Or.inl rfl) (pe_op op_mod (pe_op op_pow (pe_op op_add (pe_ix ix_list (pv 0) pe_int (fun _ _ => rfl)) (pe_op op_mul pe_int (pe_ix ix_list (pv 0) pe_int (fun _ _ => rfl)))) pe_int) pe_int))
      (pss_one (ps_ret (pe_op op_mod (pe_op op_mod (pe_op op_pow (pe_op op_add (pe_op op_add (pe_op op_mul (pv 3) pe_int) (pe_op op_mul (pe_op op_mul pe_int (pe_ix ix_list (pv 0) pe_int (fun _ _ => rfl))) (pe_ix ix_list (pv 0) pe_int (fun _ _ => rfl)))) pe_int) pe_int) pe_int) (pv 1))))))), ?_⟩
    obtain ⟨g, s, c, hp, s0, s1, c0, c1⟩ := S
    walk_at "rd"
    refine ⟨_, _, _, _, rfl, rfl, SqL.of hp, rfl, ?_⟩
    walk_at "rd"
    refine ⟨_, _, _, _, rfl, rfl, hp, rfl, ?_⟩
    walk_at "rd"
    refine ifd (fun cg => ?_) (fun cg => ?_)
    · walk_at "rd"
      refine Or.inl ?_
      walk_at "rd"
      refine ⟨m0, ?_⟩
      walk_at "rd"
      refine ⟨wide_div (b := 64) m0 (by omega) (by decide) (by decide), ?_⟩
      walk_at "rd"
      exact k _ _ (Int.emod_nonneg g (by omega)) (Int.emod_lt_of_pos g m0) (((But.refl p H).upd).upd) ⟨g / m, s, c + 1, upd_same, s0, s1, by omega, by omega⟩
    · walk_at "rd"
      refine ⟨Or.inl ⟨by decide, by decide⟩, ?_⟩
      walk_at "rd"
      refine ⟨⟨by decide, by decide, by omega⟩, ?_⟩
      walk_at "rd"
      refine ⟨(by decide : (0 : Int) < 2147483629), ?_⟩
      have x0 := Int.emod_nonneg ((s + 7919 * (c + 1)) ^ Int.toNat 5) (by decide : (2147483629 : Int) ≠ 0)
      have x1 := Int.emod_lt_of_pos ((s + 7919 * (c + 1)) ^ Int.toNat 5) (by decide : (0 : Int) < 2147483629)
      walk_at "rd"
      refine ⟨Or.inr ⟨by decide, by decide⟩, ?_⟩
      walk_at "rd"
      refine ⟨Or.inl ⟨by decide, by decide⟩, ?_⟩
      walk_at "rd"
      refine ⟨Or.inr ⟨by omega, by omega⟩, ?_⟩
      walk_at "rd"
      refine ⟨draw_pow x0 x1 (by omega) (by omega), ?_⟩
      walk_at "rd"
      refine ⟨(by decide : (0 : Int) < 1000000007), ?_⟩
      walk_at "rd"
      refine ⟨m0, ?_⟩
      exact k _ _ (Int.emod_nonneg _ (by omega)) (Int.emod_lt_of_pos _ m0) ((But.refl p H).upd) ⟨g, s, c + 1, upd_same, s0, s1, by omega, by omega⟩
theorem dat_flatL {G : Hp} : ∀ (xs : List V), DatL K G (xs.map D.v) xs
  | [] => rfl
  | x :: xs => ⟨x, xs, rfl, rfl, dat_flatL xs⟩
theorem dat_tupS {c : Addr} {xs : List V} (h : ∀ H : Hp, SqT K H c xs) : ∀ H, Dat K H (.ctup (xs.map D.v)) (.ref c) := fun H => ⟨c, xs, rfl, h H, dat_flatL xs⟩
theorem unV_strs : ∀ l : List Str, unV (l.map fun x => D.v (V.str x)) = some (l.map V.str)
  | [] => rfl
  | x :: l => by
    show (unV (l.map fun x => D.v (V.str x))).map (V.str x :: ·) = _
    rw [unV_strs l]
    rfl
theorem inV_strs (z : Str) : ∀ l : List Str, inV (V.str z) (l.map V.str) = decide (z ∈ l)
  | [] => rfl
  | a :: r => by
    have ih := inV_strs z r
    unfold inV at ih ⊢
    rw [List.map_cons, List.any_cons, ih]
    by_cases e : a = z
    · subst e
      simp [eqV]
    · have e1 : eqV (V.str a) (V.str z) = false := by
        show (a == z) = false
        simpa using e
      have e2 : ¬ z = a := fun q => e q.symm
      simp [e1, e2]
/-- a text in a written list of texts -/
theorem in_strs {z : Str} {l : List Str} {neg : Bool} {R : D → Prop} {e : D} (he : seqD e = some (l.map fun x => D.v (V.str x))) (h : R (.v (.bl (nb neg (decide (z ∈ l)))))) : dIn neg (.v (.str z)) e R := by
  unfold dIn
  rw [he]
  show match D.v (V.str z), unV (l.map fun x => D.v (V.str x)) with
    | .v x, some ys => _
    | d, _ => _
  rw [unV_strs]
  exact ⟨rfl, flat_strs l, by rw [inV_strs]; exact h⟩
/-! ### the program's checks -/
def isNameD : D → Bool
  | .v (.str z) => nameB z
  | _ => false
/-- a thing whose class is known; a text that isn't too long -/
def okT (d : D) : Prop := tyD d ≠ none ∧ ∀ z, d = .v (.str z) → z.length ≤ sizeLine
def spIsNameD : DSp := fsp0 (fun d : D => [d]) okT (fun d b => b = isNameD d) eB
theorem mon_is_name : Mon spIsNameD := fsp0.mon
theorem ups_is_name (_ : Txt P w K mg) : Ups K (up K spIsNameD) spIsNameD := .rfl
theorem ok_is_name (T : Txt P w K mg) : FnOk P w K mg base CX0 1 T.f_is_name T.d_is_name ["thing"] (up K spIsNameD) := by
  refine T.F_is_name.ok sc_is_name (up_len fun sp ds n R h => ?_) (fun cdv A outer s H vs Q E hr h => ?_)
  · obtain ⟨_, rfl, _⟩ := h
    rfl
  obtain ⟨sp, F, ds, n, hs, src, L, d, rfl, ⟨h1, h2⟩, k⟩ := h
  refine d_run (N := ["thing", "letter"]) (sl := [Sl.val _, Sl.emp]) (dss_cons (ds_if (DW.pt (dw_or (dt_not (dt_val (de_isi .str (by decide) (fun _ => rfl) (fun _ => T.m_isinstance) rfl (fun _ => rfl) (fun _ => T.m_str) (by decide +kernel) (dbv 0)))) (dw_or1 (dt_not (dt_chain dop_le dop_le (DX.b de_int) (DX.b (de_callB dc_len (fun _ => by rfl) (fun _ => T.m_len) (by decide +kernel) (dab_cons (dbv 0) dab_nil))) (DX.b de_int))))))
      (dss_one (ds_ret de_bl))
      dss_nil)
      (dss_one (ds_ret (de_callB (dc_all (fun _ => rfl)) (fun _ => by rfl) (fun _ => T.m_all) (by decide +kernel) (dab_cons (DX.b (DO.x (do_lc (own := [("letter", 1)]) (fun _ => rfl) (fun _ => sc_is_name.nd) (di_str (dv 0)) (fun _ => blkOk_by (own := [("letter", 1)]) (N := ["thing", "letter"]) (sc := defScope s_is_name) (by decide +kernel)) (dg_name (i := 1) (fun _ => sc_is_name.nd) (fun _ => rfl) (fun _ => Or.inl rfl)) dts_nil (de_cmp dop_inS (dbv 1) (DX.b (de_glob (v := .str "abcdefghijklmnopqrstuvwxyz") (fun _ => rfl) (fun _ => T.m_LETTERS) ⟨_, rfl⟩)) (by rfl))))) dab_nil))))) hs src L rfl ?_
  have no : isNameD d = false → ∃ m, n ≤ m ∧ Post K sp F H Q (D.v (V.bl false)) m := fun e => ⟨n, Int.le_refl _, k false e.symm⟩
  cases d with
  | v x =>
    cases x with
    | str z =>
      walk_at "dr"
      refine ⟨h2 z rfl, bif_d (fun a1 => bif_nd (fun a2 => no ?_) fun a2 => ?_) fun a1 => no ?_⟩
      · have : ¬ z.cps.size ≤ 8 := fun h => a2 (Int.ofNat_le.mpr h)
        show nameB z = false
        unfold nameB
        rw [decide_eq_false this]
        simp
      · have h8 : z.cps.size ≤ 8 := Int.ofNat_le.mp a2
        refine lc_mapc1 (fun c => eB (decide (c ∈ (Str.ofString "abcdefghijklmnopqrstuvwxyz").cps.toList))) (by rw [Array.length_toList]; exact Nat.le_trans h8 (by decide)) (fun c _ S hS => ⟨c, rfl, hS _ rfl rfl⟩) ?_
        walk_at "dr"
        rw [unB_map]
        refine ⟨n, Int.le_refl _, k _ ?_⟩
        show _ = nameB z
        unfold nameB
        rw [decide_eq_true (show 1 ≤ z.cps.size from Int.ofNat_le.mp a1), decide_eq_true h8, List.all_map]
        rfl
      · have : ¬ 1 ≤ z.cps.size := fun h => a1 (Int.ofNat_le.mpr h)
        show nameB z = false
        unfold nameB
        rw [decide_eq_false this]
        simp
    | non => walk_at "dr"; exact no rfl
    | bl b => walk_at "dr"; exact no rfl
    | int b => walk_at "dr"; exact no rfl
    | byt b => exact absurd rfl h1
    | flt b => exact absurd rfl h1
    | ref b => exact absurd rfl h1
    | ty b => exact absurd rfl h1
  | ins C fs => exact absurd rfl h1
  | ob φ => exact absurd rfl h1
  | ow φ => exact absurd rfl h1
  | _ => walk_at "dr"; exact no rfl
/-! a promise with errors: what is told, or which error with which fields -/
def fspX0 {α β : Type} (A : α → List D) (Pr : α → Prop) (Po : α → β → Prop) (O : β → D) (PoX : α → Addr → List (Str × D) → Prop) : DSpX := fun _ ds n R RX => ∃ x, ds = A x ∧ Pr x ∧ (∀ y, Po x y → R (O y) n) ∧ ∀ C fs, PoX x C fs → RX C fs n
theorem fspX0.mon {α β : Type} {A : α → List D} {Pr : α → Prop} {Po : α → β → Prop} {O : β → D} {PoX : α → Addr → List (Str × D) → Prop} : MonX (fspX0 A Pr Po O PoX) := fun sp ds n R R' S S' h h' ⟨x, h2, h3, h5, h6⟩ => ⟨x, h2, h3, fun y hy => h _ _ (h5 y hy), fun C fs hc => h' _ _ _ (h6 C fs hc)⟩
/-! ### small things -/
theorem opt_some {o : Option D} {d : D} {R : D → Prop} (h : o = some d) (r : R d) : opt o R := by
  rw [h]
  exact r
def isStD (zs : List Str) : D → Bool
  | .v (.str z) => decide (z ∈ zs)
  | _ => false
theorem cut_toD (xs : List D) (c : Nat) : cutD xs none (some ((c : Nat) : Int)) = xs.take c := by
  unfold cutD
  rw [HT.sIx_none, HT.sIx_nat, List.drop_zero, Nat.sub_zero]
  exact (List.take_eq_take_min).symm
/-! the same reading, where == and [] are left standing -/
local macro_rules | `(tactic| walk_at "drx") => `(tactic| try dsimp only [dSeq, dPar, dPar3, dTry, dIfS, dOr, dAnd, dNot, dTest, dIsi, dIsi2, dVar, dVarB, dC, dOp, dI0, dI, dCB, dCons, dNil,  dLc, wipe_1, wipe_2, wipe_3, wipe_4, wipe_5, mapc, mapn, dRet, dSet, dSetO, dNext, dAsg, dDrop, dTup, dLst,  dFlat, isV, dIfE, dAndV, dOrV, dNotV, dChain, dgName, dgCons, dgNil, dgTup, dItSeq, dStr, dDisp, dpCons, dpNil,  dIsN, dCat, dRep, dListOf, dTupOf, dBs, dI1, dI2, dInt1, dDivmod, dTupD, dStrI, dInG, dIxG, dFld, dCall, dCall0, dCallF, dCallF0, dCallX, dCallX0, dCallXF0, dMeth, dMethX, dProp, dProp.isC, isI, dAug, dNeg, dUn, dEnum, dEnumB, dEnumS, dZip, dRng1, dRng2, dDGet, dDGet1, dDGet2, dDIn, dGetR, isDk, asB, nb, opt, bIf_t, bIf_f, not_t, not_f, Option.getD_some, Option.getD_none, List.lookup, dRaise, dRaise0, dFor, dgSeq, dDPut, dPutR, dOwn, dOwnE, mAppend, mExtend, mInsert, mPop, mPopAt, asL, dSetOwn, dSetIx, dDUpd, dDUpd.isOwnK, dDSetT, dDSetT.isOwnT, dFldO, dSlL, dSlS, dSlT, dPart, dNoPart, dJoin, dSplit, dCatTE, dDictZip, dIs, dSortS, dBool1, at_0, put_0, at_1, put_1, at_2, put_2, at_3, put_3, at_4, put_4, at_5, put_5, at_6, put_6, at_7, put_7, at_8, put_8, at_9, put_9, at_10, put_10, at_11, put_11, at_12, put_12, at_13, put_13, at_14, put_14, at_15, put_15, at_16, put_16, at_17, put_17, at_18, put_18, at_19, put_19, at_20, put_20, at_21, put_21, at_22, put_22, at_23, put_23, at_24, put_24, at_25, put_25, ty_non, ty_bl, ty_int, ty_str, ty_lst, ty_tup, ty_ctup, ty_ftup, ty_dK, ty_dT, sub_non_non, sub_non_bl, sub_non_int, sub_non_str, sub_non_lst, sub_non_tup, sub_non_dic, sub_bl_non, sub_bl_bl, sub_bl_int, sub_bl_str, sub_bl_lst, sub_bl_tup, sub_bl_dic, sub_int_non, sub_int_bl, sub_int_int, sub_int_str, sub_int_lst, sub_int_tup, sub_int_dic, sub_str_non, sub_str_bl, sub_str_int, sub_str_str, sub_str_lst, sub_str_tup, sub_str_dic, sub_lst_non, sub_lst_bl, sub_lst_int, sub_lst_str, sub_lst_lst, sub_lst_tup, sub_lst_dic, sub_tup_non, sub_tup_bl, sub_tup_int, sub_tup_str, sub_tup_lst, sub_tup_tup, sub_tup_dic, sub_dic_non, sub_dic_bl, sub_dic_int, sub_dic_str, sub_dic_lst, sub_dic_tup, sub_dic_dic, seq_non, seq_bl, seq_int, seq_str, seq_lst, seq_tup, seq_ctup, seq_ftup, seq_dK, seq_dT, key_int, key_str, or_tt, or_ft, aI_1_0, aI_1_l, aI_2_0, aI_2_1, aI_2_l, aI_3_0, aI_3_1, aI_3_2, aI_3_l, aI_4_0, aI_4_1, aI_4_2, aI_4_3, aI_4_l, aI_5_0, aI_5_1, aI_5_2, aI_5_3, aI_5_4, aI_5_l, aI_6_0, aI_6_1, aI_6_2, aI_6_3, aI_6_4, aI_6_5, aI_6_l])
/-! ### the law's own defs, told over data -/
/-- with a limit of its own -/
def fspN {α β : Type} (L : Int) (C : α → Int) (A : Addr → α → List D) (P : α → Prop) (Po : α → β → Prop) (O : β → D) : DSp := fun sp ds n R => ∃ p x, sp = some p ∧ ds = A p x ∧ P x ∧ n < L ∧ ∀ y, Po x y → R (O y) (n + C x)
theorem fspN.mon {α β : Type} {L : Int} {C : α → Int} {A : Addr → α → List D} {P : α → Prop} {Po : α → β → Prop} {O : β → D} : Mon (fspN L C A P Po O) := fun sp ds n R R' h ⟨p, x, h1, h2, h3, h4, h5⟩ => ⟨p, x, h1, h2, h3, h4, fun y hy => h _ _ (h5 y hy)⟩
def spDrawD : DSp := fspN 1000000 (fun _ => 1) (fun p (m : Int) => [sD p, eI m]) (fun m => 0 < m ∧ m < 2 ^ 64) (fun m d => 0 ≤ d ∧ d < m) eI
theorem mon_law_draw : Mon spDrawD := fspN.mon
theorem ups_law_draw (_ : Txt P w K mg) : Ups K spDraw spDrawD := by
  rintro vs H Q E ⟨sp, F, ds, n, s, src, L, p, m, rfl, rfl, ⟨m0, m1⟩, hn, k⟩
  obtain ⟨v, r, rfl, h1, w, r', rfl, h2, h3⟩ := L
  cases (show v = _ from h1)
  cases (show w = _ from h2)
  cases (show r' = [] from h3)
  obtain ⟨fp, S⟩ := src p rfl
  refine ⟨p, m, n, rfl, S, hn, m0, m1, fun d H' d0 d1 b S' => ?_⟩
  refine k d ⟨d0, d1⟩ (.int d) F H' (Same.refl F) (fun c o h => b c o (fun z => by rw [z, fp] at h; cases h) (s c o h)) (fun c o z h => b c o (fun e => z (by rw [e])) h) (fun c h => .inl h) (fun q e => ?_) rfl
  cases e
  exact ⟨fp, S'⟩
theorem st_eq {d : DSt} {E : DEnds} {sl sl' : List Sl} {n : Int} {sp : Option Addr} (h : sl = sl') (hd : d E ⟨sl', n, sp⟩) : d E ⟨sl, n, sp⟩ := by
  rw [h]
  exact hd
/-! ### picks, names, written tables -/
def spPickD : DSp := fspN 1000000 (fun _ => 1) (fun p (ds : List D) => [sD p, .lst ds]) (fun ds => ds ≠ [] ∧ ds.length < 16777216) (fun ds d => d ∈ ds) id
theorem mon_law_pick : Mon spPickD := fspN.mon
theorem ups_law_pick (_ : Txt P w K mg) : Ups K (up K spPickD) spPickD := .rfl
theorem atI_mem {α : Type} {ds : List α} {i : Int} (h0 : 0 ≤ i) (h1 : i < (ds.length : Nat)) : ∃ d, atI ds i = some d ∧ d ∈ ds := by
  unfold atI ixN
  rw [if_pos h0, if_pos h1]
  refine ⟨ds[i.toNat], List.getElem?_eq_getElem (by omega), List.getElem_mem _⟩
theorem ok_law_pick (T : Txt P w K mg) : FnOk P w K mg base CX0 2 T.f_law_pick T.d_law_pick ["_law_source_here", "_law_things"] (up K spPickD) := by
  refine T.F_law_pick.ok sc_law_pick (up_len fun sp ds n R h => ?_) (fun cdv A outer s H vs Q E hr h => ?_)
  · obtain ⟨_, _, _, rfl, _⟩ := h
    rfl
  obtain ⟨sp, F, ds, n, hs, src, L, p, xs, rfl, rfl, ⟨x0, x1⟩, hn, k⟩ := h
  refine d_run (N := ["_law_source_here", "_law_things"]) (sl := [Sl.val _, Sl.val _]) (dss_one (ds_ret (de_ix (dv 1) (DX.b (de_callF mon_law_draw (ups_law_draw T) (fun _ => ok_law_draw T) (fun _ => (hr.mono (by decide))) (fun _ => by rfl) (fun _ => T.m_law_draw) (fun _ => T.F_law_draw.kp) (fun _ => T.b_law_draw) (fun _ => pass0) (dab_cons (dbv 0) (dab_cons (DX.b (de_callB dc_len (fun _ => by rfl) (fun _ => T.m_len) (by decide +kernel) (dab_cons (dbv 1) dab_nil))) dab_nil)))) (fun _ _ => rfl)))) hs src L rfl ?_
  have hl := List.length_pos_iff.mpr x0
  refine ⟨p, _, rfl, rfl, ⟨by omega, by omega⟩, hn, fun d hd => ⟨rfl, rfl, ?_⟩⟩
  obtain ⟨y, e, hy⟩ := atI_mem hd.1 hd.2
  refine opt_some e ?_
  exact ⟨_, Int.le_refl _, k y hy⟩
theorem dIx_seq {d x : D} {es : List D} {i : Int} {R : D → Prop} (e : seqD d = some es) (h : atI es i = some x) (r : R x) : dIx d (eI i) R := by
  cases d with
  | lst ds => cases e; unfold dIx; exact opt_some h r
  | tup ds => cases e; unfold dIx; exact opt_some h r
  | ctup ds => cases e; unfold dIx; exact opt_some h r
  | ftup ds => cases e; unfold dIx; exact opt_some h r
  | _ => cases e
/-! ### isinstance of an own class, == and != by an own __eq__ -/
/-- what isinstance asks of an own class -/
structure OCls (K : PySem.W.Frag) (C : Addr) : Prop where
  c : Cls K C
  ha : PySem.W.findIn K (.ref C) "__class__" = some (some (.builtin "object.__class__"))
  hn : PySem.W.specialIn K (.builtin "object.__class__") "__get__" = some (some (.builtin "getset_descriptor.__get__"))
  ht : PySem.W.takesIn K (.builtin "object.__class__") = some true
  hm : PySem.W.mroIn K C (.type "object") = some true
section
variable {K : PySem.W.Frag} {ω : Wp} {B : Bs K} {F F' F1 F2 G : Hp} {a a' a1 a2 : AS} {σ σ' : St} {H H' H1 H2 : Hp} {n : Int} {te : TE} {de da db : DEt} {ι : Type} {X : ι → Cx} {e e1 e2 o : Expr} {es : List Expr} {pos p p' : Pos} {dl dm : DAt} {k : Nat} {f C : Addr} {fd : FuncData} {ps : List Str} {s : Sp} {dsp : DSp} {E : XK} {y : Str}
/-- the class of a thing that is of a built-in one or of C -/
def clsB (K : PySem.W.Frag) (C : Addr) (b : Bool) : D → Prop
  | .ins C' _ => C' = C ∧ b = true
  | d => ∃ t, tyD d = some t ∧ PySem.W.kitOne K (.type t.nm) (.ref C) = some false ∧ b = false
def dIsO (K : PySem.W.Frag) (C : Addr) (de : DEt) : DEt := fun a R => de a fun d a' => ∃ b, clsB K C b d ∧ R (.v (.bl b)) a'
theorem clsB_ty {C : Addr} {b : Bool} {d : D} {x : V} (oc : OCls K C) (s : Same G H) (h : Dat K G d x) (i : clsB K C b d) : ∃ t, TyX K H x t ∧ PySem.W.kitOne K t (.ref C) = some b := by
  cases d with
  | ins C' fs =>
    obtain ⟨rfl, rfl⟩ := i
    obtain ⟨p, dx, vs, rfl, h1, h2⟩ := h
    exact ⟨_, .base (.ins (s _ _ h1) oc.c oc.ha oc.hn oc.ht oc.hm), by unfold PySem.W.kitOne; rw [if_pos (beq_self_eq_true _)]⟩
  | _ =>
    obtain ⟨t, e, q, rfl⟩ := i
    exact ⟨_, tyD_of s h e, q⟩
theorem de_isO (oc : OCls K C) (hg : ∀ j, Gl (X j) "isinstance") (hm : ∀ j, (X j).mg "isinstance" = none) (hg' : ∀ j, Gl (X j) y) (hm' : ∀ j, (X j).mg y = some (.ref C)) (ha : DB X K ω e de)
    (hd : (y == ("__debug__" : Str)) = false := by decide) (hs1 : ∀ j, starEach [e, .Name y p'] (X j).env = (false, eval e (X j).env) :: starEach [.Name y p'] (X j).env := by intro _; rfl) (hs2 : ∀ j, starEach [.Name y p'] (X j).env = (false, eval (.Name y p') (X j).env) :: starEach [] (X j).env := by intro _; rfl)
    (hpl : ∀ j, (backTo pos (starEach [.Name y p'] (X j).env)).any (·.1) = false := by intro _; rfl) (hK : ∀ j, (X j).K = K := by intro _; rfl) : DX X K ω (.Call (.Name "isinstance" p) [e, .Name y p'] [] pos) (dIsO K C de) := by
  obtain ⟨t, p1, l⟩ := ha
  refine ⟨tCB (rIsi K) (tCons t (tCons (tC (.ref C)) tNil)), fun j => by rw [← hK j]; exact pe_callB call_isi (hg j) (hm j) (by decide +kernel) (pa_cons (p1 j) (pa_cons (pe_glob (v := .ref C) (hg' j) (hm' j) rfl hd) pa_nil (hs2 j)) (hs1 j)) (by decide) (by decide) (hs1 j) (hpl j), fun B hω F a σ H Q R ok hd k => l B hω F a σ H _ _ ok hd fun v d F1 a1 H1 g1 q1 r1 => ?_⟩
  obtain ⟨b, i, r⟩ := r1
  obtain ⟨t, ty, kk⟩ := clsB_ty oc hs_same q1 i
  exact ⟨v, _, _, _, _, rfl, .own C, ty, kk, k _ (.v _) F1 a1 H1 g1 rfl r⟩
/-- what may stand on the right of == -/
def tyR (K : PySem.W.Frag) (C : Addr) : D → Prop
  | .tup _ => PySem.W.notFirst K C (.type "tuple") = true
  | .ins C' _ => PySem.W.notFirst K C (.ref C') = true
  | _ => False
theorem tyR_of {C : Addr} {d : D} {x : V} (s : Same G H) (h : Dat K G d x) (i : tyR K C d) : ∃ tb, TyL H x tb ∧ PySem.W.notFirst K C tb = true := by
  cases d with
  | tup ds =>
    obtain ⟨p, vs, rfl, h1, h2⟩ := h
    exact ⟨_, .tup (s _ _ h1), i⟩
  | ins C' fs =>
    obtain ⟨p, dx, vs, rfl, h1, h2⟩ := h
    exact ⟨_, .ins (s _ _ h1), i⟩
  | _ => exact i.elim
def dEqO (neg : Bool) (K : PySem.W.Frag) (C : Addr) (dsp : DSp) : DR := fun d e R => (∃ fs, d = .ins C fs) ∧ tyR K C e ∧ dsp none [d, e] 0 fun z _ => ∃ b, z = .v (.bl b) ∧ R (.v (.bl (nb neg b)))
theorem lr_eqO (neg : Bool) (mo : Mon dsp) (u : Ups K s dsp) {r : R2} (hr : ∀ x y H Q, (∃ (a dx : Addr) (fs : List (Str × V)) (tb : Value), x = .ref a ∧ H a = some (.ins C dx fs) ∧ TyL H y tb ∧ PySem.W.notFirst K C tb = true ∧ s [.ref a, y] H (fun v H' => ∃ b, v = .bl b ∧ Q (.bl (nb neg b)) H') E) → r x y H Q) : LR K ω r (dEqO neg K C dsp) := fun B hω F a σ H x y d e Q R ok hx hy hd k => by
  obtain ⟨⟨fs, rfl⟩, ty, hsp⟩ := hd
  obtain ⟨tb, tl, nf⟩ := tyR_of hs_same hy ty
  obtain ⟨p, dx, vs, rfl, h1, h2⟩ := hx
  refine hr _ _ _ _ ⟨p, dx, vs, tb, rfl, hs_same _ _ h1, tl, nf, u _ _ _ _ ⟨none, Hs B.sp H, [.ins C fs, e], 0, hs_same, (fun p e => nomatch e), .cons ⟨p, dx, vs, rfl, h1, h2⟩ (.cons hy .nil), mo _ _ _ _ _ (fun z n' r => ?_) hsp⟩⟩
  obtain ⟨b, rfl, r⟩ := r
  intro v F' H' x1 x2 x3 x4 x5 x6
  have hh : Same H H' := fun b o h => x3 b o (fun z => nomatch z) h
  exact ⟨b, x6, k _ (.v _) F H' (Go.call ok (Same.refl F) (fun b o h => hh _ _ (ok.fi.fh b o h)) (fun b o _ h => hh b o h) (fun b z => .inl z) fun p e => ⟨(ok.fi.sr p e).1, (ok.fi.sr p e).2.2.same hh⟩) rfl r⟩
theorem dop_eqO {CX : CXT} (mo : Mon dsp) (u : Ups K s dsp) (G : ∀ j, FnOk (X j).prog (X j).w (X j).K (X j).mg (X j).base CX k f fd ps s) (hs : PySem.W.findIn K (.ref C) "__eq__" = some (some (.ref f))) (hf : PySem.W.isFn K (.ref f) = true) (hb : Binds K fd ps []) (hx : ∀ j, Passes CX (X j) E) (hr : ∀ j, Room k (X j).A) (hK : ∀ j, (X j).K = K := by intro _; rfl) : DOpR X K ω (compareOp .Eq) (dEqO false K C dsp) :=
  ⟨rEqO K C s E, fun j => by rw [← hK j]; exact op_eqO (G j) (by rw [hK j]; exact hs) (by rw [hK j]; exact hf) (by rw [hK j]; exact hb) (hx j) (hr j), lr_eqO false mo u fun _ _ _ _ h => h⟩
theorem dop_neO {CX : CXT} (mo : Mon dsp) (u : Ups K s dsp) (G : ∀ j, FnOk (X j).prog (X j).w (X j).K (X j).mg (X j).base CX k f fd ps s) (hs : PySem.W.findIn K (.ref C) "__eq__" = some (some (.ref f))) (hf : PySem.W.isFn K (.ref f) = true) (hn : PySem.W.findIn K (.ref C) "__ne__" = some (some (.builtin "object.__ne__"))) (hm : PySem.W.mroIn K C (.type "object") = some true) (hb : Binds K fd ps []) (hx : ∀ j, Passes CX (X j) E) (hr : ∀ j, Room (k + 1) (X j).A) (hK : ∀ j, (X j).K = K := by intro _; rfl) : DOpR X K ω (compareOp .NotEq) (dEqO true K C dsp) :=
  ⟨rNeO K C s E, fun j => by rw [← hK j]; exact op_neO (G j) (by rw [hK j]; exact hs) (by rw [hK j]; exact hf) (by rw [hK j]; exact hn) (by rw [hK j]; exact hm) (by rw [hK j]; exact hb) (hx j) (hr j), lr_eqO true mo u fun _ _ _ _ h => h⟩
end
/-! ### what may be compared, and == told as equal -/
/-- what may be compared -/
theorem isPs_all : ∀ {l : List D}, (∀ d ∈ l, isP d = true) → isPs l = true
  | [], _ => rfl
  | d :: l, h => by
    show (isP d && isPs l) = true
    rw [h d List.mem_cons_self, isPs_all fun x hx => h x (List.mem_cons_of_mem _ hx)]
    rfl
theorem depths_all {n : Nat} : ∀ {l : List D}, (∀ d ∈ l, (pD d).depth ≤ n) → PyData.depthAll (pDs l) ≤ n
  | [], _ => Nat.zero_le _
  | d :: l, h => by
    have h1 := h d List.mem_cons_self
    have h2 := depths_all (l := l) fun x hx => h x (List.mem_cons_of_mem _ hx)
    show PyData.depthAll (pD d :: pDs l) ≤ n
    simp only [PyData.depthAll]
    omega
/-- data of depth n -/
def okN (n : Nat) (d : D) : Prop := isP d = true ∧ (pD d).depth ≤ n
theorem okN_tup {n : Nat} {l : List D} (h : ∀ d ∈ l, okN n d) : okN (n + 1) (.tup l) := ⟨isPs_all fun d hd => (h d hd).1, by
  have := depths_all (n := n) fun d hd => (h d hd).2
  show (PyData.tuple (pDs l)).depth ≤ n + 1
  simp only [PyData.depth]
  omega⟩
theorem okN_lst {n : Nat} {l : List D} (h : ∀ d ∈ l, okN n d) : okN (n + 1) (.lst l) := ⟨isPs_all fun d hd => (h d hd).1, by
  have := depths_all (n := n) fun d hd => (h d hd).2
  show (PyData.list (pDs l)).depth ≤ n + 1
  simp only [PyData.depth]
  omega⟩
theorem okN.le {n m : Nat} {d : D} (h : okN n d) (l : n ≤ m) : okN m d := ⟨h.1, Nat.le_trans h.2 l⟩
theorem okN.p {n : Nat} {d : D} (h : okN n d) (l : n ≤ 64 := by decide) : okP d := ⟨h.1, Nat.le_trans h.2 l⟩
theorem okN_str {z : Str} (h : PyData.strOk z = true) : okN 0 (eS z) := ⟨h, Nat.le_refl _⟩
theorem eqvA {α : Type} {g : α → PyData} (hg : ∀ a b, PyData.eqv (g a) (g b) = true ↔ a = b) : ∀ xs ys : List α, PyData.eqvAll (xs.map g) (ys.map g) = true ↔ xs = ys
  | [], [] => by simp [PyData.eqvAll]
  | [], _ :: _ => by simp [PyData.eqvAll]
  | _ :: _, [] => by simp [PyData.eqvAll]
  | a :: r, b :: t => by
    have ih := eqvA hg r t
    rw [List.map_cons, List.map_cons, PyData.eqvAll, Bool.and_eq_true, hg, ih, List.cons.injEq]
theorem eqv_s (a b : Str) : PyData.eqv (.str a) (.str b) = true ↔ a = b := by rw [PyData.eqv]; exact beq_iff_eq
theorem eqv_T (xs ys : List PyData) : PyData.eqv (.tuple xs) (.tuple ys) = PyData.eqvAll xs ys := by rw [PyData.eqv]
theorem eqvAll_C (x y : PyData) (xs ys : List PyData) : PyData.eqvAll (x :: xs) (y :: ys) = (PyData.eqv x y && PyData.eqvAll xs ys) := by rw [PyData.eqvAll]
theorem eqvAll_N : PyData.eqvAll [] [] = true := by rw [PyData.eqvAll]
theorem pDs_map {α : Type} {f : α → D} : ∀ l : List α, pDs (l.map f) = l.map fun x => pD (f x)
  | [] => rfl
  | _ :: l => congrArg _ (pDs_map l)
theorem eqv_tM {α : Type} {f : α → D} (hg : ∀ a b, PyData.eqv (pD (f a)) (pD (f b)) = true ↔ a = b) (xs ys : List α) : PyData.eqv (pD (.tup (xs.map f))) (pD (.tup (ys.map f))) = true ↔ xs = ys := by
  show PyData.eqv (.tuple (pDs _)) (.tuple (pDs _)) = true ↔ _
  rw [pDs_map, pDs_map, PyData.eqv]
  exact eqvA hg xs ys
theorem eq_dec {d e : D} {R : D → Prop} {neg b : Bool} (hd : okP d) (he : okP e) (q : PyData.eqv (pD d) (pD e) = b) (hv : ∀ x, d ≠ .v x) (h : R (.v (.bl (nb neg b)))) : dEqB neg d e R := by
  unfold dEqB
  split
  · rename_i x y q
    exact absurd rfl (hv _)
  · refine ⟨hd, he, ?_⟩
    rw [q]
    exact h
theorem bool_dec {b : Bool} {q : Prop} [Decidable q] (h : b = true ↔ q) : b = decide q := by
  by_cases z : q
  · rw [decide_eq_true z]
    exact h.mpr z
  · rw [decide_eq_false z]
    cases b with
    | false => rfl
    | true => exact absurd (h.mp rfl) z
/-! ### tables: joint states or side states, levels, periods -/
abbrev Tri := Str × Str × Str
def strOf : D → Str
  | .v (.str z) => z
  | _ => ""
def triOf (d : D) : Tri := match seqD d with
  | some [a, b, c] => (strOf a, strOf b, strOf c)
  | _ => ("", "", "")
def isTriD (ws : List Str) (d : D) : Bool := match seqD d with
  | some [a, b, c] => isNameD a && isNameD b && isStD ws c
  | _ => false
/-- lists and tuples that are not of the written part -/
def okTri (d : D) : Prop := tyD d ≠ none ∧ (∀ ds, d ≠ .ctup ds) ∧ (∀ ds, d ≠ .ftup ds) ∧ ∀ es, seqD d = some es → ∀ e ∈ es, okT e
def okTris (d : D) : Prop := tyD d ≠ none ∧ ∀ es, seqD d = some es → es.length ≤ 1000 ∧ ∀ e ∈ es, okTri e
def trisBad (ws : List Str) (d : D) : Bool := match seqD d with
  | some es => !es.all (isTriD ws)
  | none => true
def addT (ts : List Tri) (t : Tri) : List Tri := if t ∈ ts then ts else ts ++ [t]
def trisOf (es : List D) : List Tri := (es.map triOf).foldl addT []
def triK (ts : List Tri) : List (List Key × D) := ts.map fun t => (k3 t, eB true)
theorem k3_inj {s t : Tri} (h : k3 s = k3 t) : s = t := by
  obtain ⟨a, b, c⟩ := s
  obtain ⟨a', b', c'⟩ := t
  unfold k3 at h
  injection h with h1 h
  injection h with h2 h
  injection h with h3 h
  injection h1 with h1
  injection h2 with h2
  injection h3 with h3
  replace h1 : a = a' := h1
  replace h2 : b = b' := h2
  replace h3 : c = c' := h3
  rw [h1, h2, h3]
theorem triK_put (ts : List Tri) (t : Tri) : putA (triK ts) (k3 t) (eB true) = triK (addT ts t) := by
  unfold putA addT
  have e : ((triK ts).any fun kv => decide (kv.1 = k3 t)) = decide (t ∈ ts) := by
    unfold triK
    induction ts with
    | nil => rfl
    | cons a r ih =>
      rw [List.map_cons, List.any_cons, ih]
      by_cases h : a = t
      · subst h
        simp
      · have h1 : ¬ k3 a = k3 t := fun q => h (k3_inj q)
        have h2 : ¬ t = a := fun q => h q.symm
        simp [h1, h2]
  rw [e]
  by_cases h : t ∈ ts
  · rw [decide_eq_true h, if_pos rfl, if_pos h]
    unfold triK
    rw [List.map_map]
    refine List.map_congr_left fun a _ => ?_
    show (if k3 a = k3 t then _ else _) = _
    split <;> rfl
  · rw [decide_eq_false h, if_neg Bool.false_ne_true, if_neg h]
    unfold triK
    rw [List.map_append]
    rfl
theorem addT_len (ts : List Tri) (t : Tri) : (addT ts t).length ≤ ts.length + 1 := by
  unfold addT
  split
  · omega
  · rw [List.length_append, List.length_singleton]
    exact Nat.le_refl _
theorem fold_len : ∀ (us ts : List Tri), (us.foldl addT ts).length ≤ ts.length + us.length
  | [], ts => by simp
  | u :: us, ts => by
    have h1 := fold_len us (addT ts u)
    have h2 := addT_len ts u
    rw [List.foldl_cons, List.length_cons]
    omega
theorem trisOf_len (es : List D) : (trisOf es).length ≤ es.length := by
  have := fold_len (es.map triOf) []
  rw [List.length_map, List.length_nil, Nat.zero_add] at this
  exact this
theorem triK_keys (ts : List Tri) : (triK ts).map (·.1) = ts.map k3 := by
  unfold triK
  rw [List.map_map]
  rfl
/-- what is kept of such a list -/
def trisP (es : List D) (y : D) : Prop := y = .tup ((sort3 (trisOf es)).map t3D)
theorem nmD_str {d : D} (h : isNameD d = true) : ∃ z, d = eS z := by
  unfold isNameD at h
  split at h
  · exact ⟨_, rfl⟩
  · cases h
theorem triD_no {ws : List Str} {d a b c : D} (e : seqD d = some [a, b, c]) (h : isNameD a = false ∨ isNameD b = false ∨ isStD ws c = false) : isTriD ws d = false := by
  unfold isTriD
  rw [e]
  show (isNameD a && isNameD b && isStD ws c) = false
  rcases h with h | h | h
  all_goals rw [h]
  all_goals simp
theorem triD_yes {ws : List Str} {d a b c : D} (e : seqD d = some [a, b, c]) (h1 : isNameD a = true) (h2 : isNameD b = true) (h3 : isStD ws c = true) : isTriD ws d = true := by
  unfold isTriD
  rw [e]
  show (isNameD a && isNameD b && isStD ws c) = true
  rw [h1, h2, h3]
  rfl
def spChkStD (C0 : Addr) : DSpX := fspX0 (fun p : D × List Str => [p.1, .ctup (p.2.map eS)]) (fun p => okTris p.1) (fun p y => trisBad p.2 p.1 = false ∧ trisP ((seqD p.1).getD []) y) id (fun p C fs => trisBad p.2 p.1 = true ∧ C = C0 ∧ fs = [])
theorem mon_checked_states {C : Addr} : MonX (spChkStD C) := fspX0.mon
theorem ups_checked_states (T : Txt P w K mg) : UpsX K (upX K (spChkStD T.C_BadTable)) (spChkStD T.C_BadTable) := .rfl
theorem ok_checked_states (T : Txt P w K mg) : FnOk P w K mg base (L2.CX P w) 3 T.f_checked_states T.d_checked_states ["things", "words"] (upX K (spChkStD T.C_BadTable)) := by
  refine T.F_checked_states.okX sc_checked_states (upX_len fun sp ds n R RX h => ?_) (fun cdv A outer s H vs Q E hr h => ?_)
  · obtain ⟨_, rfl, _⟩ := h
    rfl
  obtain ⟨sp, F, ds, n, hs, src, L, ⟨d, ws⟩, rfl, ⟨h1, h2⟩, k, kx⟩ := h
  refine d_runX (E := E) (N := ["things", "words", "states", "thing"]) (sl := [Sl.val _, Sl.val _, Sl.emp, Sl.emp]) (dss_cons (ds_if (dt_not (dt_val (de_isi2 .lst .tup (by decide) (by decide) (fun _ => rfl) (fun _ => T.m_isinstance) rfl (fun _ => rfl) (fun _ => T.m_list) (by decide +kernel) (fun _ => rfl) (fun _ => T.m_tuple) (by decide +kernel) (dbv 0))))
      (dss_one (ds_raise0 (fun _ => rfl) (fun _ => T.er_BadTable) (fun _ => T.fn_BadTable) (fun _ => hr) (fun _ => takes_of rfl rfl rfl rfl) (fun _ => by rfl)))
      dss_nil)
      (dss_cons (ds_setO (i := 2) (fun _ => sc_checked_states.nd) (fun _ => rfl) (fun _ => Or.inl rfl) do_dnewT)
      (dss_cons (ds_for (fun _ => PassesOwn.leaving) (fun _ => rfl) (di_seq (dv 0)) (dg_name (i := 3) (fun _ => sc_checked_states.nd) (fun _ => rfl) (fun _ => Or.inl rfl))
      (dss_cons (ds_if (DW.pt (dw_or (dt_not (dt_val (de_isi2 .lst .tup (by decide) (by decide) (fun _ => rfl) (fun _ => T.m_isinstance) rfl (fun _ => rfl) (fun _ => T.m_list) (by decide +kernel) (fun _ => rfl) (fun _ => T.m_tuple) (by decide +kernel) (dbv 3)))) (dw_or1 (dt_cmp (dop_ne (fun _ => hr.units)) (DX.b (de_callB dc_len (fun _ => by rfl) (fun _ => T.m_len) (by decide +kernel) (dab_cons (dbv 3) dab_nil))) (DX.b de_int) (nomark _)))))
      (dss_one (ds_raise0 (fun _ => rfl) (fun _ => T.er_BadTable) (fun _ => T.fn_BadTable) (fun _ => hr) (fun _ => takes_of rfl rfl rfl rfl) (fun _ => by rfl)))
      dss_nil)
      (dss_cons (ds_if (DW.pt (dw_or (dt_not (dt_val (de_call0 mon_is_name (ups_is_name T) (fun _ => ok_is_name T) (fun _ => (hr.mono (by decide))) (fun _ => by rfl) (fun _ => T.m_is_name) (fun _ => T.F_is_name.kp) (fun _ => T.b_is_name) (fun _ => pass0) (da_cons (de_ix (dv 3) (DX.b de_int) (fun _ _ => rfl)) da_nil)))) (dw_or1 (dt_not (dt_val (de_call0 mon_is_name (ups_is_name T) (fun _ => ok_is_name T) (fun _ => (hr.mono (by decide))) (fun _ => by rfl) (fun _ => T.m_is_name) (fun _ => T.F_is_name.kp) (fun _ => T.b_is_name) (fun _ => pass0) (da_cons (de_ix (dv 3) (DX.b de_int) (fun _ _ => rfl)) da_nil)))))))
      (dss_one (ds_raise0 (fun _ => rfl) (fun _ => T.er_BadTable) (fun _ => T.fn_BadTable) (fun _ => hr) (fun _ => takes_of rfl rfl rfl rfl) (fun _ => by rfl)))
      dss_nil)
      (dss_cons (ds_if (DW.pt (dw_or (dt_not (dt_val (de_isi .str (by decide) (fun _ => rfl) (fun _ => T.m_isinstance) rfl (fun _ => rfl) (fun _ => T.m_str) (by decide +kernel) (db_ix (dbv 3) (DX.b de_int) (fun _ _ => rfl))))) (dw_or1 (dt_cmp (dop_notin (fun _ => hr65 hr)) (db_ix (dbv 3) (DX.b de_int) (fun _ _ => rfl)) (dbv 1) (by rfl)))))
      (dss_one (ds_raise0 (fun _ => rfl) (fun _ => T.er_BadTable) (fun _ => T.fn_BadTable) (fun _ => hr) (fun _ => takes_of rfl rfl rfl rfl) (fun _ => by rfl)))
      dss_nil)
      (dss_one (ds_dput (i := 2) (fun _ => hu_of hr) (fun _ => pv 2) (DX.b (de_tuple (fun _ => by rfl) (fun _ => T.m_tuple) (by decide +kernel) (da_cons (dv 3) da_nil))) de_bl))))))
      (dss_one (ds_ret (de_tuple (fun _ => by rfl) (fun _ => T.m_tuple) (by decide +kernel) (da_cons (DO.x (do_sortT3 (fun _ => rfl) (fun _ => hr.units) (fun _ => by rfl) (fun _ => T.m_sorted) (by decide +kernel) (dab_cons (dbv 2) dab_nil))) da_nil))))))) hs src L rfl ?_
  replace h1 : tyD d ≠ none := h1
  replace h2 : ∀ es, seqD d = some es → es.length ≤ 1000 ∧ ∀ e ∈ es, okTri e := h2
  have bad : trisBad ws d = true → PostX K sp F H E T.C_BadTable [] n := fun e => kx _ _ ⟨e, rfl, rfl⟩
  have three : ∀ ds : List D, V.int (ds.length : Nat) = V.int 3 → ∃ a b c, ds = [a, b, c] := by
    intro ds hl
    injection hl with hl
    match ds, hl with
    | [a, b, c], _ => exact ⟨a, b, c, rfl⟩
    | [], hl => exact absurd hl (by simp)
    | [_], hl => exact absurd hl (by simp)
    | [_, _], hl => exact absurd hl (by simp)
    | _ :: _ :: _ :: _ :: r, hl => exact absurd hl (by simp only [List.length_cons]; omega)
  have sh : ∀ (x : D) (ds : List D), seqD x = some ds → V.int (ds.length : Nat) ≠ V.int 3 → isTriD ws x = false := by
    intro x ds e hl
    unfold isTriD
    rw [e]
    match ds, hl with
    | [], _ => rfl
    | [_], _ => rfl
    | [_, _], _ => rfl
    | [_, _, _], hl => exact absurd rfl hl
    | _ :: _ :: _ :: _ :: _, _ => rfl
  have badx : ∀ (es : List D) (x : D), seqD d = some es → x ∈ es → isTriD ws x = false → PostX K sp F H E T.C_BadTable [] n := fun es x e hx q => bad (by
    unfold trisBad
    rw [e]
    show (!es.all (isTriD ws)) = true
    rw [Bool.not_eq_true', List.all_eq_false]
    exact ⟨x, hx, by rw [q]; exact Bool.false_ne_true⟩)
  have good : ∀ es : List D, seqD d = some es → (∀ e ∈ es, isTriD ws e = true) → Post K sp F H Q (.tup ((sort3 (trisOf es)).map t3D)) n := fun es e hall => k _ ⟨by
    show trisBad ws d = false
    unfold trisBad
    rw [e]
    show (!es.all (isTriD ws)) = false
    rw [List.all_eq_true.mpr hall]
    rfl, by show _ = D.tup ((sort3 (trisOf ((seqD d).getD []))).map t3D); rw [e]; rfl⟩
  clear k kx
  have small : ∀ m : Nat, m ≤ 1000 → m < sizeLine := fun m h => Nat.lt_of_le_of_lt h (by decide)
  (rcases d with xTy | _ | _ | _ | _ | _ | ⟨_, _⟩ | _; (rcases xTy with _ | _ | _ | _ | _ | _ | _ | _); all_goals (try exact absurd rfl h1))
  all_goals walk_at "dr"
  all_goals first
    | exact bad rfl
    | skip
  all_goals
    rename_i es
    obtain ⟨hl, h2⟩ := h2 es rfl
    replace badx := fun x hx => badx es x rfl hx
    replace good := good es rfl
    refine dLoop_inv (fun i a => (∃ v0 v3, a = ⟨[v0, .val (.ctup (ws.map eS)), .own (.dT (triK (trisOf (es.take i)))), v3], n, sp⟩) ∧ ∀ e ∈ es.take i, isTriD ws e = true) ⟨⟨_, _, rfl⟩, fun _ h => nomatch h⟩ ?_ ?_
  all_goals first
    | (rintro i x a N hi ⟨⟨v0, v3, rfl⟩, hall⟩ hN
       have hm := List.mem_of_getElem? hi
       obtain ⟨x1, x2, x3, x4⟩ := h2 x hm
       have bx := badx x hm
       have gx : isTriD ws x = true → ∀ v0 v3, N ⟨[v0, .val (.ctup (ws.map eS)), .own (.dT (triK (addT (trisOf (es.take i)) (triOf x)))), v3], n, sp⟩ := fun e v0 v3 => hN _ ⟨⟨v0, v3, by rw [take_more hi]; unfold trisOf; rw [List.map_append, List.foldl_append]; rfl⟩, fun y hy => by
         rw [take_more hi] at hy
         rcases List.mem_append.mp hy with q | q
         · exact hall y q
         · rw [List.mem_singleton.mp q]
           exact e⟩
       clear hN
       (rcases x with xTy | _ | _ | _ | _ | _ | ⟨_, _⟩ | _; (rcases xTy with _ | _ | _ | _ | _ | _ | _ | _); all_goals (try exact absurd rfl x1))
       all_goals walk_at "dr"
       all_goals first
         | exact bx rfl
         | exact absurd rfl (x2 _)
         | exact absurd rfl (x3 _)
         | skip
       all_goals (refine ⟨rfl, bif_nd (fun a1 => bx (sh _ _ rfl a1)) fun a1 => ?_⟩)
       all_goals (obtain ⟨ea, eb, ec, rfl⟩ := three _ a1)
       all_goals (have oa := x4 _ rfl ea (by simp))
       all_goals (have ob := x4 _ rfl eb (by simp))
       all_goals (have oc := x4 _ rfl ec (by simp))
       all_goals walk_at "dr"
       all_goals (refine ⟨rfl, ea, rfl, oa, fun b1 hb1 => bif_nb (fun e1 => bx (triD_no rfl (.inl (hb1.symm.trans e1)))) fun e1 => ⟨rfl, eb, rfl, ob, fun b2 hb2 => bif_nb (fun e2 => bx (triD_no rfl (.inr (.inl (hb2.symm.trans e2))))) fun e2 => ?_⟩⟩)
       all_goals (obtain ⟨za, rfl⟩ := nmD_str (hb1.symm.trans e1))
       all_goals (obtain ⟨zb, rfl⟩ := nmD_str (hb2.symm.trans e2))
       all_goals (have oc1 := oc.1)
       all_goals ((rcases ec with xTy | _ | _ | _ | _ | _ | ⟨_, _⟩ | _; (rcases xTy with _ | _ | _ | _ | _ | _ | _ | _); all_goals (try exact absurd rfl oc1)))
       all_goals walk_at "dr"
       all_goals first
         | exact bx (triD_no rfl (.inr (.inr rfl)))
         | skip
       all_goals (rename_i zc)
       all_goals (refine in_strs (l := ws) rfl ?_)
       all_goals walk_at "dr"
       all_goals (refine bif_nd (fun a2 => bx (triD_no rfl (.inr (.inr (decide_eq_false a2))))) fun a2 => ?_)
       all_goals (replace gx := gx (triD_yes rfl (hb1.symm.trans e1) (hb2.symm.trans e2) (decide_eq_true a2)))
       all_goals (refine ⟨(fun q => nomatch q), ?_⟩)
       all_goals (show (triK (trisOf (es.take i))).length < sizeLine ∧ N ⟨[v0, .val (.ctup (ws.map eS)), .own (.dT (putA (triK (trisOf (es.take i))) (k3 (za, zb, zc)) (eB true))), _], n, sp⟩)
       all_goals (rw [triK_put])
       all_goals (refine ⟨?_, gx v0 _⟩)
       all_goals (unfold triK; rw [List.length_map]; refine small _ (Nat.le_trans (trisOf_len _) ?_); rw [List.length_take]; omega))
    | (rintro a ⟨⟨v0, v3, rfl⟩, hall⟩
       rw [List.take_length] at hall
       walk_at "dr"
       dsimp only [dSortT3]
       walk_at "dr"
       rw [List.take_length]
       exact ⟨trisOf es, triK_keys _, n, Int.le_refl _, good hall⟩)
/-! the levels -/
def signsL : List Str := ["<", "=", ">"]
def gapsL : List Str := ["none", "first", "second"]
def okLvls (d : D) : Prop := tyD d ≠ none ∧ ∀ es, seqD d = some es → es.length ≤ 1000 ∧ ∀ e ∈ es, okTris e
def lvlsBad (d : D) : Bool := match seqD d with
  | some es => decide (es.length < 3) || decide (es.length % 2 = 0) || es.any (trisBad signsL)
  | none => true
def lvlsP (es : List D) (y : D) : Prop := ∃ ls : List D, y = .tup ls ∧ ls.length = es.length ∧ ∀ (j : Nat) (e : D), es[j]? = some e → ∃ l, ls[j]? = some l ∧ trisP ((seqD e).getD []) l
def spChkLvD (C0 : Addr) : DSpX := fspX0 (fun d : D => [d]) okLvls (fun d y => lvlsBad d = false ∧ lvlsP ((seqD d).getD []) y) id (fun d C fs => lvlsBad d = true ∧ C = C0 ∧ fs = [])
theorem mon_checked_levels {C : Addr} : MonX (spChkLvD C) := fspX0.mon
theorem ups_checked_levels (T : Txt P w K mg) : UpsX K (upX K (spChkLvD T.C_BadTable)) (spChkLvD T.C_BadTable) := .rfl
theorem ok_checked_levels (T : Txt P w K mg) : FnOk P w K mg base (L2.CX P w) 4 T.f_checked_levels T.d_checked_levels ["things"] (upX K (spChkLvD T.C_BadTable)) := by
  refine T.F_checked_levels.okX sc_checked_levels (upX_len fun sp ds n R RX h => ?_) (fun cdv A outer s H vs Q E hr h => ?_)
  · obtain ⟨_, rfl, _⟩ := h
    rfl
  obtain ⟨sp, F, ds, n, hs, src, L, d, rfl, ⟨h1, h2⟩, k, kx⟩ := h
  refine d_runX (E := E) (N := ["things", "thing"]) (sl := [Sl.val _, Sl.emp]) (dss_cons (ds_if (DW.pt (dw_or (dt_not (dt_val (de_isi2 .lst .tup (by decide) (by decide) (fun _ => rfl) (fun _ => T.m_isinstance) rfl (fun _ => rfl) (fun _ => T.m_list) (by decide +kernel) (fun _ => rfl) (fun _ => T.m_tuple) (by decide +kernel) (dbv 0)))) (dw_or (dt_cmp dop_lt (DX.b (de_callB dc_len (fun _ => by rfl) (fun _ => T.m_len) (by decide +kernel) (dab_cons (dbv 0) dab_nil))) (DX.b de_int) (nomark _)) (dw_or1 (dt_cmp (dop_eq (fun _ => hr.units)) (DX.b (de_op dop_odd (DX.b (de_callB dc_len (fun _ => by rfl) (fun _ => T.m_len) (by decide +kernel) (dab_cons (dbv 0) dab_nil))) (DX.b de_int))) (DX.b de_int) (nomark _))))))
      (dss_one (ds_raise0 (fun _ => rfl) (fun _ => T.er_BadTable) (fun _ => T.fn_BadTable) (fun _ => hr) (fun _ => takes_of rfl rfl rfl rfl) (fun _ => by rfl)))
      dss_nil)
      (dss_one (ds_ret (de_tuple (fun _ => by rfl) (fun _ => T.m_tuple) (by decide +kernel) (da_cons (DO.x (do_lcX (i := 1) (own := [("thing", 1)]) (fun _ => rfl) (fun _ => sc_checked_levels.nd) (fun _ => rfl) (fun _ => rfl) (fun _ => takes_of rfl rfl rfl rfl) (di_seq (dv 0)) (fun _ => blkOk_by (own := [("thing", 1)]) (N := ["things", "thing"]) (sc := defScope s_checked_levels) (by decide +kernel)) (fun _ _ => pg_name (i := 1) sc_checked_levels.nd rfl (Or.inl rfl)) (fun _ => (de_callXB0 mon_checked_states (ups_checked_states T) (fun _ => ok_checked_states T) (fun _ => (hr.mono (by decide))) (fun _ => by rfl) (fun _ => T.m_checked_states) (fun _ => T.F_checked_states.kp) (fun _ => T.b_checked_states) (fun _ => L2.blkX_takes) (da_cons (dv 1) (da_cons (de_globT (fun _ => rfl) (fun _ => T.m_SIGNS) (dat_tupS T.q_SIGNS)) da_nil)))))) da_nil))))) hs src L rfl ?_
  have bad : lvlsBad d = true → PostX K sp F H E T.C_BadTable [] n := fun e => kx _ _ ⟨e, rfl, rfl⟩
  (rcases d with xTy | _ | _ | _ | _ | _ | ⟨_, _⟩ | _; (rcases xTy with _ | _ | _ | _ | _ | _ | _ | _); all_goals (try exact absurd rfl h1))
  all_goals walk_at "dr"
  all_goals first
    | exact bad rfl
    | skip
  all_goals
    rename_i es
    obtain ⟨hl, h2⟩ := h2 es rfl
    refine bif_d (fun a1 => bad ?_) fun a1 => ⟨by omega, rfl, rfl, bif_d (fun a2 => bad ?_) fun a2 => ?_⟩
    · unfold lvlsBad
      show (decide (es.length < 3) || _ || _) = true
      rw [decide_eq_true (by omega)]
      rfl
    · injection a2 with a2
      unfold lvlsBad
      show (_ || decide (es.length % 2 = 0) || _) = true
      rw [decide_eq_true (p := es.length % 2 = 0) (by omega)]
      simp
    replace a2 : ¬ es.length % 2 = 0 := fun q => a2 (by rw [show ((es.length : Nat) : Int) % 2 = 0 by omega])
    dsimp only [dLcX]
    walk_at "drx"
    refine ⟨fun s hs d => by
      simp only [List.mem_cons, List.not_mem_nil, or_false] at hs
      rcases hs with rfl | rfl
      · exact fun q => nomatch q
      · exact (fun q => nomatch q), fun Wt => ?_⟩
    refine dLc_inv (fun i acc n' => n' = n ∧ (∀ e ∈ es.take i, trisBad signsL e = false) ∧ acc.length = i ∧ ∀ (j : Nat) (e : D), j < i → es[j]? = some e → ∃ l, acc[j]? = some l ∧ trisP ((seqD e).getD []) l) ⟨rfl, (fun _ h => nomatch h), rfl, fun j e hj => absurd hj (Nat.not_lt_zero _)⟩ (fun i x acc n' N hi ⟨e1, e2, e3, e4⟩ hN => ?_) fun acc n' ⟨e1, e2, e3, e4⟩ => ?_
    · subst e1
      have hm := List.mem_of_getElem? hi
      have il := (List.getElem?_eq_some_iff.mp hi).1
      walk_at "drx"
      refine ⟨(x, signsL), rfl, h2 x hm, fun y ⟨q1, q2⟩ => ⟨rfl, by rw [e3]; exact Nat.lt_of_le_of_lt (Nat.le_trans (Nat.le_of_lt il) hl) (by decide), hN _ _ ⟨rfl, fun e he => ?_, ?_, fun j e hj he => ?_⟩⟩, fun C fs ⟨q1, q2, q3⟩ => ?_⟩
      · rw [take_more hi] at he
        rcases List.mem_append.mp he with q | q
        · exact e2 e q
        · rw [List.mem_singleton.mp q]
          exact q1
      · rw [List.length_append, List.length_singleton, e3]
      · by_cases z : j < i
        · obtain ⟨l, h3, h4⟩ := e4 j e z he
          exact ⟨l, by rw [List.getElem?_append_left (by omega)]; exact h3, h4⟩
        · obtain rfl : j = i := by omega
          rw [hi] at he
          cases he
          exact ⟨y, by rw [List.getElem?_append_right (by omega), e3, Nat.sub_self]; rfl, q2⟩
      · subst q2 q3
        refine bad ?_
        unfold lvlsBad
        show (_ || _ || es.any (trisBad signsL)) = true
        rw [List.any_eq_true.mpr ⟨x, hm, q1⟩]
        simp
    · subst e1
      rw [List.take_length] at e2
      refine ⟨_, Int.le_refl _, k _ ⟨?_, acc, rfl, e3, fun j e he => e4 j e (List.getElem?_eq_some_iff.mp he).1 he⟩⟩
      show lvlsBad _ = false
      unfold lvlsBad
      show (decide (es.length < 3) || decide (es.length % 2 = 0) || es.any (trisBad signsL)) = false
      rw [decide_eq_false (by omega), decide_eq_false a2, List.any_eq_false.mpr fun e he => by rw [e2 e he]; exact Bool.false_ne_true]
      rfl
/-! the periods -/
def perBad (m : Nat) : D → Bool
  | .v (.int i) => !decide (1 ≤ i) || !decide (i ≤ (m : Int))
  | _ => true
def spChkPeD (C0 : Addr) : DSpX := fspX0 (fun p : D × Nat => [p.1, eI (p.2 : Nat)]) (fun p => tyD p.1 ≠ none) (fun p y => perBad p.2 p.1 = false ∧ y = p.1) id (fun p C fs => perBad p.2 p.1 = true ∧ C = C0 ∧ fs = [])
theorem mon_checked_period {C : Addr} : MonX (spChkPeD C) := fspX0.mon
theorem ups_checked_period (T : Txt P w K mg) : UpsX K (upX K (spChkPeD T.C_BadTable)) (spChkPeD T.C_BadTable) := .rfl
theorem ok_checked_period (T : Txt P w K mg) : FnOk P w K mg base (L2.CX P w) 3 T.f_checked_period T.d_checked_period ["thing", "most"] (upX K (spChkPeD T.C_BadTable)) := by
  refine T.F_checked_period.okX sc_checked_period (upX_len fun sp ds n R RX h => ?_) (fun cdv A outer s H vs Q E hr h => ?_)
  · obtain ⟨_, rfl, _⟩ := h
    rfl
  obtain ⟨sp, F, ds, n, hs, src, L, ⟨d, m⟩, rfl, h1, k, kx⟩ := h
  refine d_runX (E := E) (N := ["thing", "most"]) (sl := [Sl.val _, Sl.val _]) (dss_cons (ds_if (DW.pt (dw_or (dt_not (dt_val (de_isi .int (by decide) (fun _ => rfl) (fun _ => T.m_isinstance) rfl (fun _ => rfl) (fun _ => T.m_int) (by decide +kernel) (dbv 0)))) (dw_or (dt_val (de_isi .bl (by decide) (fun _ => rfl) (fun _ => T.m_isinstance) rfl (fun _ => rfl) (fun _ => T.m_bool) (by decide +kernel) (dbv 0))) (dw_or1 (dt_not (dt_chain dop_le dop_le (DX.b de_int) (dbv 0) (dbv 1)))))))
      (dss_one (ds_raise0 (fun _ => rfl) (fun _ => T.er_BadTable) (fun _ => T.fn_BadTable) (fun _ => hr) (fun _ => takes_of rfl rfl rfl rfl) (fun _ => by rfl)))
      dss_nil)
      (dss_one (ds_ret (dv 0)))) hs src L rfl ?_
  have bad : perBad m d = true → PostX K sp F H E T.C_BadTable [] n := fun e => kx _ _ ⟨e, rfl, rfl⟩
  replace h1 : tyD d ≠ none := h1
  (rcases d with xTy | _ | _ | _ | _ | _ | ⟨_, _⟩ | _; (rcases xTy with _ | _ | _ | _ | _ | _ | _ | _); all_goals (try exact absurd rfl h1))
  all_goals walk_at "dr"
  all_goals first
    | exact bad rfl
    | skip
  rename_i i
  refine bif_d (fun a1 => bif_nd (fun a2 => bad ?_) fun a2 => ⟨n, Int.le_refl _, k _ ⟨?_, rfl⟩⟩) fun a1 => bad ?_
  · show (!decide (1 ≤ i) || !decide (i ≤ (m : Int))) = true
    rw [decide_eq_false a2]
    simp
  · show (!decide (1 ≤ i) || !decide (i ≤ (m : Int))) = false
    rw [decide_eq_true a1, decide_eq_true a2]
    rfl
  · show (!decide (1 ≤ i) || !decide (i ≤ (m : Int))) = true
    rw [decide_eq_false a1]
    rfl
/-! ### Table -/
abbrev Tab4 := D × D × D × D
def tabBad (p : Tab4) : Bool := trisBad gapsL p.1 || lvlsBad p.2.1 || perBad (((seqD p.2.1).getD []).length / 2) p.2.2.1 || perBad (((seqD p.2.1).getD []).length / 2) p.2.2.2
def tableD (C : Addr) (al lv b c : D) : D := .ins C [(("_alone" : Str), al), (("_levels" : Str), lv), (("_below" : Str), b), (("_above" : Str), c)]
def spTableD (CC C0 : Addr) : DSpX := fspX0 (fun p : Tab4 => [p.1, p.2.1, p.2.2.1, p.2.2.2]) (fun p => okTris p.1 ∧ okLvls p.2.1 ∧ tyD p.2.2.1 ≠ none ∧ tyD p.2.2.2 ≠ none)
  (fun p y => tabBad p = false ∧ ∃ al lv, trisP ((seqD p.1).getD []) al ∧ lvlsP ((seqD p.2.1).getD []) lv ∧ y = tableD CC al lv p.2.2.1 p.2.2.2) id (fun p C fs => tabBad p = true ∧ C = C0 ∧ fs = [])
theorem mon_Table__init {C C1 : Addr} : MonX (spTableD C C1) := fspX0.mon
theorem ups_Table__init (T : Txt P w K mg) : UpsI K T.C_Table (upI K T.C_Table (spTableD T.C_Table T.C_BadTable)) (spTableD T.C_Table T.C_BadTable) := .rfl
theorem tabBad_of {p : Tab4} (h : trisBad gapsL p.1 = true ∨ lvlsBad p.2.1 = true ∨ perBad (((seqD p.2.1).getD []).length / 2) p.2.2.1 = true ∨ perBad (((seqD p.2.1).getD []).length / 2) p.2.2.2 = true) : tabBad p = true := by
  unfold tabBad
  rcases h with h | h | h | h
  all_goals rw [h]
  all_goals simp
theorem ok_Table__init (T : Txt P w K mg) : FnOk P w K mg base (L2.CX P w) 6 T.f_Table__init T.d_Table__init ["self", "alone", "levels", "below", "above"] (upI K T.C_Table (spTableD T.C_Table T.C_BadTable)) := by
  refine T.F_Table__init.okX sc_Table__init (upI_len (m := 4) fun sp ds n R RX h => ?_) (fun cdv A outer s H vs Q E hr h => ?_)
  · obtain ⟨_, rfl, _⟩ := h
    rfl
  obtain ⟨x, dx, us, H1, F, ds, rfl, hH, hx, hdx, hne, s, L, ⟨pa, pl, pb, pc⟩, rfl, ⟨h1, h2, h3, h4⟩, k, kx⟩ := h
  replace h3 : tyD pb ≠ none := h3
  replace h4 : tyD pc ≠ none := h4
  refine d_runI (E := E) (N := ["self", "alone", "levels", "below", "above", "checked_alone", "checked_levels", "most", "checked_below", "checked_above"]) (sl := [Sl.own _, Sl.val _, Sl.val _, Sl.val _, Sl.val _, Sl.emp, Sl.emp, Sl.emp, Sl.emp, Sl.emp]) (dss_cons (ds_set (i := 5) (fun _ => sc_Table__init.nd) (fun _ => rfl) (fun _ => Or.inl rfl) (de_callX0 mon_checked_states (ups_checked_states T) (fun _ => ok_checked_states T) (fun _ => (hr.mono (by decide))) (fun _ => by rfl) (fun _ => T.m_checked_states) (fun _ => T.F_checked_states.kp) (fun _ => T.b_checked_states) (fun _ => takes_of rfl rfl rfl rfl) (da_cons (dv 1) (da_cons (de_globT (fun _ => rfl) (fun _ => T.m_LONE_GAPS) (dat_tupS T.q_LONE_GAPS)) da_nil))))
      (dss_cons (ds_set (i := 6) (fun _ => sc_Table__init.nd) (fun _ => rfl) (fun _ => Or.inl rfl) (de_callX0 mon_checked_levels (ups_checked_levels T) (fun _ => ok_checked_levels T) (fun _ => (hr.mono (by decide))) (fun _ => by rfl) (fun _ => T.m_checked_levels) (fun _ => T.F_checked_levels.kp) (fun _ => T.b_checked_levels) (fun _ => takes_of rfl rfl rfl rfl) (da_cons (dv 2) da_nil)))
      (dss_cons (ds_set (i := 7) (fun _ => sc_Table__init.nd) (fun _ => rfl) (fun _ => Or.inl rfl) (de_op dop_fdivW (DX.b (de_callB dc_len (fun _ => by rfl) (fun _ => T.m_len) (by decide +kernel) (dab_cons (dbv 6) dab_nil))) (DX.b de_int)))
      (dss_cons (ds_set (i := 8) (fun _ => sc_Table__init.nd) (fun _ => rfl) (fun _ => Or.inl rfl) (de_callX0 mon_checked_period (ups_checked_period T) (fun _ => ok_checked_period T) (fun _ => (hr.mono (by decide))) (fun _ => by rfl) (fun _ => T.m_checked_period) (fun _ => T.F_checked_period.kp) (fun _ => T.b_checked_period) (fun _ => takes_of rfl rfl rfl rfl) (da_cons (dv 3) (da_cons (dv 7) da_nil))))
      (dss_cons (ds_set (i := 9) (fun _ => sc_Table__init.nd) (fun _ => rfl) (fun _ => Or.inl rfl) (de_callX0 mon_checked_period (ups_checked_period T) (fun _ => ok_checked_period T) (fun _ => (hr.mono (by decide))) (fun _ => by rfl) (fun _ => T.m_checked_period) (fun _ => T.F_checked_period.kp) (fun _ => T.b_checked_period) (fun _ => takes_of rfl rfl rfl rfl) (da_cons (dv 4) (da_cons (dv 7) da_nil))))
      (dss_cons (ds_fldO (i := 0) T.cl_Table T.na_Table_alone (fun _ => pv 0) (dv 5))
      (dss_cons (ds_fldO (i := 0) T.cl_Table T.na_Table_levels (fun _ => pv 0) (dv 6))
      (dss_cons (ds_fldO (i := 0) T.cl_Table T.na_Table_below (fun _ => pv 0) (dv 8))
      (dss_one (ds_fldO (i := 0) T.cl_Table T.na_Table_above (fun _ => pv 0) (dv 9))))))))))) hH hx hdx hne s L rfl ?_
  walk_at "dr"
  have lf : ∀ fs : List (Str × D), fs.length ≤ 4 → fs.length < 1000 := fun fs h => Nat.lt_of_le_of_lt h (by decide)
  refine ⟨(pa, gapsL), rfl, h1, fun y1 ⟨q1, q2⟩ => ?_, fun C fs ⟨q1, q2, q3⟩ => kx _ _ ⟨tabBad_of (.inl q1), q2, q3⟩⟩
  dsimp only [id]
  refine ⟨pl, rfl, h2, fun y2 ⟨q3, ls, q4, q5, q6⟩ => ?_, fun C fs ⟨q1, q2, q3⟩ => kx _ _ ⟨tabBad_of (.inr (.inl q1)), q2, q3⟩⟩
  subst q4
  dsimp only [id]
  walk_at "dr"
  have hn : ((seqD pl).getD []).length = ls.length := q5.symm
  have he : ∀ m : Int, m = (ls.length : Int) / 2 → m = ((ls.length / 2 : Nat) : Int) := fun m h => by rw [h]; rfl
  refine ⟨⟨by decide, by decide +kernel⟩, (pb, ls.length / 2), rfl, h3, fun y3 ⟨q7, q8⟩ => ?_, fun C fs ⟨q1, q2, q3⟩ => kx _ _ ⟨tabBad_of (.inr (.inr (.inl (by show perBad (((seqD pl).getD []).length / 2) pb = true; rw [hn]; exact q1)))), q2, q3⟩⟩
  subst q8
  dsimp only [id]
  refine ⟨(pc, ls.length / 2), rfl, h4, fun y4 ⟨q9, q10⟩ => ?_, fun C fs ⟨q1, q2, q3⟩ => kx _ _ ⟨tabBad_of (.inr (.inr (.inr (by show perBad (((seqD pl).getD []).length / 2) pc = true; rw [hn]; exact q1)))), q2, q3⟩⟩
  subst q10
  dsimp only [id]
  refine ⟨rfl, by decide, rfl, lf _ (by show 1 ≤ 4; decide), rfl, lf _ (by show 2 ≤ 4; decide), rfl, lf _ (by show 3 ≤ 4; decide), _, rfl, k _ ⟨?_, y1, .tup ls, q2, ⟨ls, rfl, q5, q6⟩, rfl⟩⟩
  show (trisBad gapsL pa || lvlsBad pl || perBad (((seqD pl).getD []).length / 2) _ || perBad (((seqD pl).getD []).length / 2) _) = false
  rw [hn, q1, q3, q7, q9]
  rfl
/-! ### a table, told as numbers and triples -/
structure TabX where
  al : List Tri
  lv : List (List Tri)
  b : Nat
  a : Nat
def trisD (l : List Tri) : D := .tup (l.map t3D)
def tabD (C : Addr) (x : TabX) : D := tableD C (trisD x.al) (.tup (x.lv.map trisD)) (eI (x.b : Nat)) (eI (x.a : Nat))
def triOk (t : Tri) : Prop := PyData.strOk t.1 = true ∧ PyData.strOk t.2.1 = true ∧ PyData.strOk t.2.2 = true
structure TabOk (x : TabX) (m : Nat) : Prop where
  len : x.lv.length = 2 * m + 1
  b1 : 1 ≤ x.b
  bm : x.b ≤ m
  a1 : 1 ≤ x.a
  am : x.a ≤ m
  mm : m ≤ 1000
  al : ∀ t ∈ x.al, triOk t
  lv : ∀ l ∈ x.lv, ∀ t ∈ l, triOk t
/-- the listed level that stands for the level of d -/
def lvlIx (m a b : Nat) (d : Int) : Int := if (m : Int) < d then m - (m - d) % a else if d < -(m : Int) then (d + m) % b - m else d
def levelT (x : TabX) (d : Int) : List Tri := x.lv.getD (lvlIx (x.lv.length / 2) x.a x.b d + ((x.lv.length / 2 : Nat) : Int)).toNat []
theorem lvlIx_in {m a b : Nat} (h1 : 1 ≤ a) (h2 : a ≤ m) (h3 : 1 ≤ b) (h4 : b ≤ m) (d : Int) : -(m : Int) ≤ lvlIx m a b d ∧ lvlIx m a b d ≤ m := by
  unfold lvlIx
  split
  · have e1 := Int.emod_nonneg ((m : Int) - d) (show (a : Int) ≠ 0 from by omega)
    have e2 := Int.emod_lt_of_pos ((m : Int) - d) (show (0 : Int) < a from by omega)
    omega
  · split
    · have e1 := Int.emod_nonneg (d + (m : Int)) (show (b : Int) ≠ 0 from by omega)
      have e2 := Int.emod_lt_of_pos (d + (m : Int)) (show (0 : Int) < b from by omega)
      omega
    · omega
theorem atI_castT {α : Type} {xs : List α} (j : Nat) : atI xs (j : Int) = xs[j]? := by
  unfold atI ixN
  rw [if_pos (Int.natCast_nonneg j)]
  by_cases h : j < xs.length
  · rw [if_pos (by omega)]
    rfl
  · rw [if_neg (by omega), List.getElem?_eq_none (by omega)]
    rfl
theorem level_at {x : TabX} {m : Nat} (h : TabOk x m) (d : Int) : atI (x.lv.map trisD) (lvlIx m x.a x.b d + (m : Nat)) = some (trisD (levelT x d)) := by
  have i := lvlIx_in h.a1 h.am h.b1 h.bm d
  have hm : x.lv.length / 2 = m := by rw [h.len]; omega
  obtain ⟨j, hj⟩ : ∃ j : Nat, lvlIx m x.a x.b d + (m : Nat) = (j : Int) := ⟨(lvlIx m x.a x.b d + (m : Nat)).toNat, by omega⟩
  rw [hj, atI_castT, List.getElem?_map]
  unfold levelT
  rw [hm, hj, Int.toNat_natCast, List.getD_eq_getElem?_getD, List.getElem?_eq_getElem (by rw [h.len]; omega)]
  rfl
theorem level_ok {x : TabX} {m : Nat} (h : TabOk x m) (d : Int) : ∀ t ∈ levelT x d, triOk t := by
  unfold levelT
  rw [List.getD_eq_getElem?_getD]
  cases e : x.lv[(lvlIx (x.lv.length / 2) x.a x.b d + ((x.lv.length / 2 : Nat) : Int)).toNat]? with
  | none => exact fun t ht => nomatch ht
  | some l => exact h.lv l (List.mem_of_getElem? e)
theorem okN_t3 {t : Tri} (h : triOk t) : okN 1 (t3D t) := okN_tup fun d hd => by
  simp only [List.mem_cons, List.not_mem_nil, or_false] at hd
  rcases hd with rfl | rfl | rfl
  · exact okN_str h.1
  · exact okN_str h.2.1
  · exact okN_str h.2.2
theorem okN_tris {l : List Tri} (h : ∀ t ∈ l, triOk t) : okN 2 (trisD l) := okN_tup fun d hd => by
  obtain ⟨t, ht, rfl⟩ := List.mem_map.mp hd
  exact okN_t3 (h t ht)
theorem okN_lvls {ls : List (List Tri)} (h : ∀ l ∈ ls, ∀ t ∈ l, triOk t) : okN 3 (.tup (ls.map trisD)) := okN_tup fun d hd => by
  obtain ⟨l, hl, rfl⟩ := List.mem_map.mp hd
  exact okN_tris (h l hl)
theorem eqv_t3 (s t : Tri) : PyData.eqv (pD (t3D s)) (pD (t3D t)) = true ↔ s = t := by
  obtain ⟨a1, a2, a3⟩ := s
  obtain ⟨b1, b2, b3⟩ := t
  show PyData.eqv (.tuple [.str a1, .str a2, .str a3]) (.tuple [.str b1, .str b2, .str b3]) = true ↔ _
  rw [eqv_T, eqvAll_C, eqvAll_C, eqvAll_C, eqvAll_N, Bool.and_eq_true, Bool.and_eq_true, Bool.and_true, eqv_s, eqv_s, eqv_s, Prod.mk.injEq, Prod.mk.injEq]
theorem eqv_tris (s t : List Tri) : PyData.eqv (pD (trisD s)) (pD (trisD t)) = true ↔ s = t := eqv_tM eqv_t3 s t
theorem eqv_lvls (s t : List (List Tri)) : PyData.eqv (pD (.tup (s.map trisD))) (pD (.tup (t.map trisD))) = true ↔ s = t := eqv_tM eqv_tris s t
/-- a triple among others -/
theorem any_tri (l : List Tri) (t : Tri) : ((pDs (l.map t3D)).any fun z => PyData.eqv z (pD (t3D t))) = decide (t ∈ l) := by
  refine bool_dec ?_
  rw [pDs_map, List.any_map, List.any_eq_true]
  constructor
  · rintro ⟨s, hs, e⟩
    rw [← (eqv_t3 s t).mp e]
    exact hs
  · exact fun h => ⟨t, h, (eqv_t3 t t).mpr rfl⟩
theorem in_tris {l : List Tri} {t : Tri} {R : D → Prop} (h1 : ∀ s ∈ l, triOk s) (h2 : triOk t) (r : R (eB (decide (t ∈ l)))) : dInT (t3D t) (trisD l) R := by
  refine ⟨(okN_t3 h2).p, (okN_tris h1).p, ?_⟩
  rw [any_tri]
  exact r
theorem fe_tb_alone_alone : (("_alone" : Str) == "_alone") = true := rfl
theorem fe_tb_alone_levels : (("_alone" : Str) == "_levels") = false := rfl
theorem fe_tb_alone_below : (("_alone" : Str) == "_below") = false := rfl
theorem fe_tb_alone_above : (("_alone" : Str) == "_above") = false := rfl
theorem fe_tb_levels_alone : (("_levels" : Str) == "_alone") = false := rfl
theorem fe_tb_levels_levels : (("_levels" : Str) == "_levels") = true := rfl
theorem fe_tb_levels_below : (("_levels" : Str) == "_below") = false := rfl
theorem fe_tb_levels_above : (("_levels" : Str) == "_above") = false := rfl
theorem fe_tb_below_alone : (("_below" : Str) == "_alone") = false := rfl
theorem fe_tb_below_levels : (("_below" : Str) == "_levels") = false := rfl
theorem fe_tb_below_below : (("_below" : Str) == "_below") = true := rfl
theorem fe_tb_below_above : (("_below" : Str) == "_above") = false := rfl
theorem fe_tb_above_alone : (("_above" : Str) == "_alone") = false := rfl
theorem fe_tb_above_levels : (("_above" : Str) == "_levels") = false := rfl
theorem fe_tb_above_below : (("_above" : Str) == "_below") = false := rfl
theorem fe_tb_above_above : (("_above" : Str) == "_above") = true := rfl
/-! its properties -/
def spTabAl (C : Addr) : DSp := fsp0 (fun x : TabX => [tabD C x]) (fun _ => True) (fun x y => y = trisD x.al) id
theorem mon_Table_alone {C : Addr} : Mon (spTabAl C) := fsp0.mon
theorem ups_Table_alone (T : Txt P w K mg) : Ups K (up K (spTabAl T.C_Table)) (spTabAl T.C_Table) := .rfl
theorem ok_Table_alone (T : Txt P w K mg) : FnOk P w K mg base CX0 1 T.f_Table_alone T.d_Table_alone ["self"] (up K (spTabAl T.C_Table)) := by
  refine T.F_Table_alone.ok sc_Table_alone (up_len fun sp ds n R h => ?_) (fun cdv A outer s H vs Q E hr h => ?_)
  · obtain ⟨_, rfl, _⟩ := h
    rfl
  obtain ⟨sp, F, ds, n, hs, src, L, x, rfl, _, k⟩ := h
  refine d_run (N := ["self"]) (sl := [Sl.val _]) (dss_one (ds_ret (de_fld T.cl_Table T.na_Table_alone (dpv 0)))) hs src L rfl ?_
  exact ⟨rfl, n, Int.le_refl _, k _ rfl⟩
def spTabLv (C : Addr) : DSp := fsp0 (fun x : TabX => [tabD C x]) (fun _ => True) (fun x y => y = .tup (x.lv.map trisD)) id
theorem mon_Table_levels {C : Addr} : Mon (spTabLv C) := fsp0.mon
theorem ups_Table_levels (T : Txt P w K mg) : Ups K (up K (spTabLv T.C_Table)) (spTabLv T.C_Table) := .rfl
theorem ok_Table_levels (T : Txt P w K mg) : FnOk P w K mg base CX0 1 T.f_Table_levels T.d_Table_levels ["self"] (up K (spTabLv T.C_Table)) := by
  refine T.F_Table_levels.ok sc_Table_levels (up_len fun sp ds n R h => ?_) (fun cdv A outer s H vs Q E hr h => ?_)
  · obtain ⟨_, rfl, _⟩ := h
    rfl
  obtain ⟨sp, F, ds, n, hs, src, L, x, rfl, _, k⟩ := h
  refine d_run (N := ["self"]) (sl := [Sl.val _]) (dss_one (ds_ret (de_fld T.cl_Table T.na_Table_levels (dpv 0)))) hs src L rfl ?_
  exact ⟨rfl, n, Int.le_refl _, k _ rfl⟩
def spTabB (C : Addr) : DSp := fsp0 (fun x : TabX => [tabD C x]) (fun _ => True) (fun x y => y = eI (x.b : Nat)) id
theorem mon_Table_below {C : Addr} : Mon (spTabB C) := fsp0.mon
theorem ups_Table_below (T : Txt P w K mg) : Ups K (up K (spTabB T.C_Table)) (spTabB T.C_Table) := .rfl
theorem ok_Table_below (T : Txt P w K mg) : FnOk P w K mg base CX0 1 T.f_Table_below T.d_Table_below ["self"] (up K (spTabB T.C_Table)) := by
  refine T.F_Table_below.ok sc_Table_below (up_len fun sp ds n R h => ?_) (fun cdv A outer s H vs Q E hr h => ?_)
  · obtain ⟨_, rfl, _⟩ := h
    rfl
  obtain ⟨sp, F, ds, n, hs, src, L, x, rfl, _, k⟩ := h
  refine d_run (N := ["self"]) (sl := [Sl.val _]) (dss_one (ds_ret (de_fld T.cl_Table T.na_Table_below (dpv 0)))) hs src L rfl ?_
  exact ⟨rfl, n, Int.le_refl _, k _ rfl⟩
def spTabA (C : Addr) : DSp := fsp0 (fun x : TabX => [tabD C x]) (fun _ => True) (fun x y => y = eI (x.a : Nat)) id
theorem mon_Table_above {C : Addr} : Mon (spTabA C) := fsp0.mon
theorem ups_Table_above (T : Txt P w K mg) : Ups K (up K (spTabA T.C_Table)) (spTabA T.C_Table) := .rfl
theorem ok_Table_above (T : Txt P w K mg) : FnOk P w K mg base CX0 1 T.f_Table_above T.d_Table_above ["self"] (up K (spTabA T.C_Table)) := by
  refine T.F_Table_above.ok sc_Table_above (up_len fun sp ds n R h => ?_) (fun cdv A outer s H vs Q E hr h => ?_)
  · obtain ⟨_, rfl, _⟩ := h
    rfl
  obtain ⟨sp, F, ds, n, hs, src, L, x, rfl, _, k⟩ := h
  refine d_run (N := ["self"]) (sl := [Sl.val _]) (dss_one (ds_ret (de_fld T.cl_Table T.na_Table_above (dpv 0)))) hs src L rfl ?_
  exact ⟨rfl, n, Int.le_refl _, k _ rfl⟩
/-! level -/
def spTabLevel (C : Addr) : DSp := fsp0 (fun x : TabX × Int => [tabD C x.1, eI x.2]) (fun x => ∃ m, TabOk x.1 m) (fun x y => y = trisD (levelT x.1 x.2)) id
theorem mon_Table_level {C : Addr} : Mon (spTabLevel C) := fsp0.mon
theorem ups_Table_level (T : Txt P w K mg) : Ups K (up K (spTabLevel T.C_Table)) (spTabLevel T.C_Table) := .rfl
theorem ok_Table_level (T : Txt P w K mg) : FnOk P w K mg base CX0 2 T.f_Table_level T.d_Table_level ["self", "d"] (up K (spTabLevel T.C_Table)) := by
  refine T.F_Table_level.ok sc_Table_level (up_len fun sp ds n R h => ?_) (fun cdv A outer s H vs Q E hr h => ?_)
  · obtain ⟨_, rfl, _⟩ := h
    rfl
  obtain ⟨sp, F, ds, n, hs, src, L, ⟨x, d⟩, rfl, ⟨m, h1⟩, k⟩ := h
  replace h1 : TabOk x m := h1
  refine d_run (N := ["self", "d", "most"]) (sl := [Sl.val _, Sl.val _, Sl.emp]) (dss_cons (ds_set (i := 2) (fun _ => sc_Table_level.nd) (fun _ => rfl) (fun _ => Or.inl rfl) (de_op dop_fdivW (DX.b (de_callB dc_len (fun _ => by rfl) (fun _ => T.m_len) (by decide +kernel) (dab_cons (DX.b (de_fld T.cl_Table T.na_Table_levels (dpv 0))) dab_nil))) (DX.b de_int)))
      (dss_cons (ds_if (dt_cmp dop_gt (dbv 1) (dbv 2) (nomark _))
      (dss_one (ds_set (i := 1) (fun _ => sc_Table_level.nd) (fun _ => rfl) (fun _ => Or.inl rfl) (de_op dop_sub (dbv 2) (DX.b (de_op dop_mod (DX.b (de_op dop_sub (dbv 2) (dbv 1))) (DX.b (de_fld T.cl_Table T.na_Table_above (dpv 0))))))))
      (dss_one (ds_if (dt_cmp dop_lt (dbv 1) (DX.b (de_neg (dbv 2))) (nomark _))
      (dss_one (ds_set (i := 1) (fun _ => sc_Table_level.nd) (fun _ => rfl) (fun _ => Or.inl rfl) (de_op dop_sub (DX.b (de_op dop_mod (DX.b (de_op dop_add (dbv 1) (dbv 2))) (DX.b (de_fld T.cl_Table T.na_Table_below (dpv 0))))) (dbv 2))))
      dss_nil)))
      (dss_one (ds_ret (de_ix (de_fld T.cl_Table T.na_Table_levels (dpv 0)) (DX.b (de_op dop_add (dbv 1) (dbv 2))) (fun _ _ => rfl)))))) hs src L rfl ?_
  unfold tabD tableD
  walk_at "drx"
  try dsimp only [fe_tb_alone_alone, fe_tb_alone_levels, fe_tb_alone_below, fe_tb_alone_above, fe_tb_levels_alone, fe_tb_levels_levels, fe_tb_levels_below, fe_tb_levels_above, fe_tb_below_alone, fe_tb_below_levels, fe_tb_below_below, fe_tb_below_above, fe_tb_above_alone, fe_tb_above_levels, fe_tb_above_below, fe_tb_above_above]
  walk_at "drx"
  try dsimp only [fe_tb_alone_alone, fe_tb_alone_levels, fe_tb_alone_below, fe_tb_alone_above, fe_tb_levels_alone, fe_tb_levels_levels, fe_tb_levels_below, fe_tb_levels_above, fe_tb_below_alone, fe_tb_below_levels, fe_tb_below_below, fe_tb_below_above, fe_tb_above_alone, fe_tb_above_levels, fe_tb_above_below, fe_tb_above_above]
  walk_at "drx"
  refine ⟨rfl, ?_⟩
  dsimp only [dLen]
  have el : (((x.lv.map trisD).length : Nat) : Int) / 2 = (m : Nat) := by rw [List.length_map, h1.len]; omega
  rw [el]
  have at_ := level_at h1 d
  have b1 := h1.b1
  have a1 := h1.a1
  refine ⟨⟨by decide, by decide +kernel⟩, bif_d (fun q => ⟨rfl, by omega, rfl, rfl, dIx_seq rfl (x := trisD (levelT x d)) ?_ ⟨n, Int.le_refl _, k _ rfl⟩⟩) fun q => bif_d (fun q2 => ⟨rfl, by omega, rfl, rfl, dIx_seq rfl (x := trisD (levelT x d)) ?_ ⟨n, Int.le_refl _, k _ rfl⟩⟩) fun q2 => ⟨rfl, rfl, dIx_seq rfl (x := trisD (levelT x d)) ?_ ⟨n, Int.le_refl _, k _ rfl⟩⟩⟩
  · unfold lvlIx at at_
    rw [if_pos q] at at_
    exact at_
  · unfold lvlIx at at_
    rw [if_neg q, if_pos q2] at at_
    exact at_
  · unfold lvlIx at at_
    rw [if_neg q, if_neg q2] at at_
    exact at_
/-! == -/
def eqQD (C : Addr) : TabX ⊕ List D → D
  | .inl y => tabD C y
  | .inr l => .tup l
def eqQB (x : TabX) : TabX ⊕ List D → Bool
  | .inl y => decide (x.al = y.al) && decide (x.lv = y.lv) && decide (x.b = y.b) && decide (x.a = y.a)
  | .inr _ => false
def spTabEq (C : Addr) : DSp := fsp0 (fun x : TabX × (TabX ⊕ List D) => [tabD C x.1, eqQD C x.2]) (fun x => (∃ m, TabOk x.1 m) ∧ ∀ y, x.2 = .inl y → ∃ m, TabOk y m) (fun x y => y = eqQB x.1 x.2) eB
theorem mon_Table__eq {C : Addr} : Mon (spTabEq C) := fsp0.mon
theorem ups_Table__eq (T : Txt P w K mg) : Ups K (up K (spTabEq T.C_Table)) (spTabEq T.C_Table) := .rfl
theorem ok_Table__eq (T : Txt P w K mg) : FnOk P w K mg base CX0 2 T.f_Table__eq T.d_Table__eq ["self", "other"] (up K (spTabEq T.C_Table)) := by
  refine T.F_Table__eq.ok sc_Table__eq (up_len fun sp ds n R h => ?_) (fun cdv A outer s H vs Q E hr h => ?_)
  · obtain ⟨_, rfl, _⟩ := h
    rfl
  obtain ⟨sp, F, ds, n, hs, src, L, ⟨x, y⟩, rfl, ⟨⟨m, h1⟩, h2⟩, k⟩ := h
  replace h1 : TabOk x m := h1
  refine d_run (N := ["self", "other"]) (sl := [Sl.val _, Sl.val _]) (dss_cons (ds_if (dt_not (dt_val (de_isO ⟨T.cl_Table, T.ck_Table, T.cg_Table, T.ct_Table, T.co_Table⟩ (fun _ => by rfl) (fun _ => T.m_isinstance) (fun _ => by rfl) (fun _ => T.m_Table) (dbv 1))))
      (dss_one (ds_ret de_bl))
      dss_nil)
      (dss_cons (ds_if (DW.pt (dw_or (dt_cmp (dop_ne (fun _ => hr.units)) (DX.b (de_fld T.cl_Table T.na_Table_alone (dpv 0))) (DX.b (de_fld T.cl_Table T.na_Table_alone (dpv 1))) (nomark _)) (dw_or1 (dt_cmp (dop_ne (fun _ => hr.units)) (DX.b (de_fld T.cl_Table T.na_Table_levels (dpv 0))) (DX.b (de_fld T.cl_Table T.na_Table_levels (dpv 1))) (nomark _)))))
      (dss_one (ds_ret de_bl))
      dss_nil)
      (dss_one (ds_ret (de_and (de_cmp (dop_eq (fun _ => hr.units)) (DX.b (de_fld T.cl_Table T.na_Table_below (dpv 0))) (DX.b (de_fld T.cl_Table T.na_Table_below (dpv 1))) (nomark _)) (de_one (de_cmp (dop_eq (fun _ => hr.units)) (DX.b (de_fld T.cl_Table T.na_Table_above (dpv 0))) (DX.b (de_fld T.cl_Table T.na_Table_above (dpv 1))) (nomark _)))))))) hs src L rfl ?_
  cases y with
  | inr l =>
    dsimp only [eqQD]
    walk_at "dr"
    dsimp only [dIsO]
    refine ⟨false, ⟨_, rfl, T.c1_Table, rfl⟩, ?_⟩
    walk_at "dr"
    exact ⟨n, Int.le_refl _, k _ rfl⟩
  | inl y =>
    obtain ⟨m', h3⟩ := h2 y rfl
    dsimp only [eqQD]
    unfold tabD tableD
    walk_at "drx"
    try dsimp only [fe_tb_alone_alone, fe_tb_alone_levels, fe_tb_alone_below, fe_tb_alone_above, fe_tb_levels_alone, fe_tb_levels_levels, fe_tb_levels_below, fe_tb_levels_above, fe_tb_below_alone, fe_tb_below_levels, fe_tb_below_below, fe_tb_below_above, fe_tb_above_alone, fe_tb_above_levels, fe_tb_above_below, fe_tb_above_above]
    walk_at "drx"
    dsimp only [dIsO]
    refine ⟨true, ⟨rfl, rfl⟩, ?_⟩
    walk_at "drx"
    try dsimp only [fe_tb_alone_alone, fe_tb_alone_levels, fe_tb_alone_below, fe_tb_alone_above, fe_tb_levels_alone, fe_tb_levels_levels, fe_tb_levels_below, fe_tb_levels_above, fe_tb_below_alone, fe_tb_below_levels, fe_tb_below_below, fe_tb_below_above, fe_tb_above_alone, fe_tb_above_levels, fe_tb_above_below, fe_tb_above_above]
    walk_at "drx"
    have no : ∀ b : Bool, b = eqQB x (.inl y) → ∃ m, n ≤ m ∧ Post K sp F H Q (D.v (V.bl b)) m := fun b e => ⟨n, Int.le_refl _, k b e⟩
    refine ⟨rfl, rfl, eq_dec (b := decide (x.al = y.al)) (okN_tris h1.al).p (okN_tris h3.al).p (bool_dec (eqv_tris _ _)) (fun _ q => nomatch q) (bif_nd (fun q1 => no _ ?_) fun q1 => ?_)⟩
    · show _ = (decide (x.al = y.al) && decide (x.lv = y.lv) && decide (x.b = y.b) && decide (x.a = y.a))
      rw [decide_eq_false q1]
      rfl
    refine ⟨rfl, rfl, eq_dec (b := decide (x.lv = y.lv)) (okN_lvls h1.lv).p (okN_lvls h3.lv).p (bool_dec (eqv_lvls _ _)) (fun _ q => nomatch q) (bif_nd (fun q2 => no _ ?_) fun q2 => ?_)⟩
    · show _ = (decide (x.al = y.al) && decide (x.lv = y.lv) && decide (x.b = y.b) && decide (x.a = y.a))
      rw [decide_eq_false q2, Bool.and_false]
      rfl
    refine ⟨rfl, rfl, rfl, bif_d (fun q3 => ⟨rfl, rfl, rfl, no _ ?_⟩) fun q3 => no _ ?_⟩
    · show _ = (decide (x.al = y.al) && decide (x.lv = y.lv) && decide (x.b = y.b) && decide (x.a = y.a))
      rw [decide_eq_true q1, decide_eq_true q2, decide_eq_true (show x.b = y.b from by injection q3 with q3; omega)]
      refine decide_eq_decide.mpr ⟨fun e => by injection e with e; omega, fun e => by rw [e]⟩
    · show _ = (decide (x.al = y.al) && decide (x.lv = y.lv) && decide (x.b = y.b) && decide (x.a = y.a))
      rw [decide_eq_false (fun e : x.b = y.b => q3 (by rw [e])), Bool.and_false]
      rfl
/-! what may be asked to be in a table -/
inductive InQ where
  | tri (t : Tri)
  | far (l : Bool) (a b : Str) (d : Int) (z : Str)
  | odd (d : D)
def oddIn : List D := [eN, .tup [], eS "none", .tup [eS "a", eS "a"], .tup [eS "a", eS "a", eN], .tup [eS "a", eS "A", eS "none"], eI 5, .tup [eS "a", eS "a", .tup [eB true, eS "="]], .tup [eS "a", eS "a", .tup [eI 0, eS "=", eI 1]], .tup [eS "a", eS "a", eS "none", eS "none"]]
def inQD : InQ → D
  | .tri t => t3D t
  | .far false a b d z => .tup [eS a, eS b, .tup [eI d, eS z]]
  | .far true a b d z => .lst [eS a, eS b, .lst [eI d, eS z]]
  | .odd d => d
def inQOk : InQ → Prop
  | .tri t => nameB t.1 = true ∧ nameB t.2.1 = true ∧ triOk t
  | .far _ a b _ z => nameB a = true ∧ nameB b = true ∧ triOk (a, b, z)
  | .odd d => d ∈ oddIn
def inQB (x : TabX) : InQ → Bool
  | .tri t => decide (t ∈ x.al)
  | .far _ a b d z => decide ((a, b, z) ∈ levelT x d)
  | .odd _ => false
theorem nmA : nameB "a" = true := by decide +kernel
theorem name_line {a : Str} (h : nameB a = true) : a.length ≤ sizeLine := by
  unfold nameB at h
  rw [Bool.and_eq_true, Bool.and_eq_true] at h
  have : a.cps.size ≤ 8 := of_decide_eq_true h.1.2
  exact Nat.le_trans this (by decide)
theorem isName_yes {a : Str} {R : D → Int → Prop} (h : nameB a = true) (r : R (.v (.bl true)) 0) : spIsNameD none [eS a] 0 R := ⟨eS a, rfl, ⟨(fun q => nomatch q), fun z e => by cases e; exact name_line h⟩, fun y hy => by
  have e : y = true := hy.trans h
  subst e
  exact r⟩
theorem isName_no {a : Str} {R : D → Int → Prop} (h : nameB a = false) (l : a.length ≤ sizeLine) (r : R (.v (.bl false)) 0) : spIsNameD none [eS a] 0 R := ⟨eS a, rfl, ⟨(fun q => nomatch q), fun z e => by cases e; exact l⟩, fun y hy => by
  have e : y = false := hy.trans h
  subst e
  exact r⟩
def spTabIn (C : Addr) : DSp := fsp0 (fun x : TabX × InQ => [tabD C x.1, inQD x.2]) (fun x => (∃ m, TabOk x.1 m) ∧ inQOk x.2) (fun x y => y = inQB x.1 x.2) eB
theorem mon_Table__contains {C : Addr} : Mon (spTabIn C) := fsp0.mon
theorem ups_Table__contains (T : Txt P w K mg) : Ups K (up K (spTabIn T.C_Table)) (spTabIn T.C_Table) := .rfl
theorem ok_Table__contains (T : Txt P w K mg) : FnOk P w K mg base CX0 3 T.f_Table__contains T.d_Table__contains ["self", "x"] (up K (spTabIn T.C_Table)) := by
  refine T.F_Table__contains.ok sc_Table__contains (up_len fun sp ds n R h => ?_) (fun cdv A outer s H vs Q E hr h => ?_)
  · obtain ⟨_, rfl, _⟩ := h
    rfl
  obtain ⟨sp, F, ds, n, hs, src, L, ⟨x, q⟩, rfl, ⟨⟨m, h1⟩, h2⟩, k⟩ := h
  replace h1 : TabOk x m := h1
  replace h2 : inQOk q := h2
  refine d_run (N := ["self", "x", "one", "other", "gap", "d", "sign"]) (sl := [Sl.val _, Sl.val _, Sl.emp, Sl.emp, Sl.emp, Sl.emp, Sl.emp]) (dss_cons (ds_if (DW.pt (dw_or (dt_not (dt_val (de_isi2 .lst .tup (by decide) (by decide) (fun _ => rfl) (fun _ => T.m_isinstance) rfl (fun _ => rfl) (fun _ => T.m_list) (by decide +kernel) (fun _ => rfl) (fun _ => T.m_tuple) (by decide +kernel) (dbv 1)))) (dw_or1 (dt_cmp (dop_ne (fun _ => hr.units)) (DX.b (de_callB dc_len (fun _ => by rfl) (fun _ => T.m_len) (by decide +kernel) (dab_cons (dbv 1) dab_nil))) (DX.b de_int) (nomark _)))))
      (dss_one (ds_ret de_bl))
      dss_nil)
      (dss_cons (ds_asg (dv 1) (dg_seq (fun _ => rfl) (dgs_cons (dg_name (i := 2) (fun _ => sc_Table__contains.nd) (fun _ => rfl) (fun _ => Or.inl rfl)) (dgs_cons (dg_name (i := 3) (fun _ => sc_Table__contains.nd) (fun _ => rfl) (fun _ => Or.inl rfl)) (dgs_cons (dg_name (i := 4) (fun _ => sc_Table__contains.nd) (fun _ => rfl) (fun _ => Or.inl rfl)) dgs_nil)))))
      (dss_cons (ds_if (DW.pt (dw_or (dt_not (dt_val (de_call0 mon_is_name (ups_is_name T) (fun _ => ok_is_name T) (fun _ => (hr.mono (by decide))) (fun _ => by rfl) (fun _ => T.m_is_name) (fun _ => T.F_is_name.kp) (fun _ => T.b_is_name) (fun _ => pass0) (da_cons (dv 2) da_nil)))) (dw_or1 (dt_not (dt_val (de_call0 mon_is_name (ups_is_name T) (fun _ => ok_is_name T) (fun _ => (hr.mono (by decide))) (fun _ => by rfl) (fun _ => T.m_is_name) (fun _ => T.F_is_name.kp) (fun _ => T.b_is_name) (fun _ => pass0) (da_cons (dv 3) da_nil)))))))
      (dss_one (ds_ret de_bl))
      dss_nil)
      (dss_cons (ds_if (dt_val (de_isi .str (by decide) (fun _ => rfl) (fun _ => T.m_isinstance) rfl (fun _ => rfl) (fun _ => T.m_str) (by decide +kernel) (dbv 4)))
      (dss_one (ds_ret (de_cmp (dop_inT (fun _ => hr65 hr)) (DX.b (de_tup (da_cons (dv 2) (da_cons (dv 3) (da_cons (dv 4) da_nil))))) (DX.b (de_fld T.cl_Table T.na_Table_alone (dpv 0))) (by rfl))))
      dss_nil)
      (dss_cons (ds_if (DW.pt (dw_or (dt_not (dt_val (de_isi2 .lst .tup (by decide) (by decide) (fun _ => rfl) (fun _ => T.m_isinstance) rfl (fun _ => rfl) (fun _ => T.m_list) (by decide +kernel) (fun _ => rfl) (fun _ => T.m_tuple) (by decide +kernel) (dbv 4)))) (dw_or1 (dt_cmp (dop_ne (fun _ => hr.units)) (DX.b (de_callB dc_len (fun _ => by rfl) (fun _ => T.m_len) (by decide +kernel) (dab_cons (dbv 4) dab_nil))) (DX.b de_int) (nomark _)))))
      (dss_one (ds_ret de_bl))
      dss_nil)
      (dss_cons (ds_asg (dv 4) (dg_seq (fun _ => rfl) (dgs_cons (dg_name (i := 5) (fun _ => sc_Table__contains.nd) (fun _ => rfl) (fun _ => Or.inl rfl)) (dgs_cons (dg_name (i := 6) (fun _ => sc_Table__contains.nd) (fun _ => rfl) (fun _ => Or.inl rfl)) dgs_nil))))
      (dss_cons (ds_if (DW.pt (dw_or (dt_not (dt_val (de_isi .int (by decide) (fun _ => rfl) (fun _ => T.m_isinstance) rfl (fun _ => rfl) (fun _ => T.m_int) (by decide +kernel) (dbv 5)))) (dw_or (dt_val (de_isi .bl (by decide) (fun _ => rfl) (fun _ => T.m_isinstance) rfl (fun _ => rfl) (fun _ => T.m_bool) (by decide +kernel) (dbv 5))) (dw_or1 (dt_not (dt_val (de_isi .str (by decide) (fun _ => rfl) (fun _ => T.m_isinstance) rfl (fun _ => rfl) (fun _ => T.m_str) (by decide +kernel) (dbv 6))))))))
      (dss_one (ds_ret de_bl))
      dss_nil)
      (dss_one (ds_ret (de_cmp (dop_inT (fun _ => hr65 hr)) (DX.b (de_tup (da_cons (dv 2) (da_cons (dv 3) (da_cons (dv 6) da_nil))))) (DX.b (de_meth mon_Table_level (ups_Table_level T) (dv 0) T.cl_Table T.mt_Table_level (fun _ => ok_Table_level T) (fun _ => hr.mono (by decide)) T.b_Table_level (fun _ => pass0) (da_cons (dv 5) da_nil))) (by rfl))))))))))) hs src L rfl ?_
  have ret : inQB x q = false → ∃ m, n ≤ m ∧ Post K sp F H Q (D.v (V.bl false)) m := fun e => ⟨n, Int.le_refl _, by have := k _ rfl; rw [e] at this; exact this⟩
  cases q with
  | tri t =>
    obtain ⟨a, b, z⟩ := t
    obtain ⟨n1, n2, n3⟩ := h2
    dsimp only [inQD, t3D]
    walk_at "dr"
    refine ⟨rfl, bif_nd (fun q => absurd rfl q) fun _ => ⟨rfl, isName_yes n1 (isName_yes n2 ⟨by show 3 ≤ sizeLine; decide, rfl, ?_⟩)⟩⟩
    show dInT (t3D (a, b, z)) (trisD x.al) _
    exact in_tris h1.al n3 ⟨n, Int.le_refl _, k _ rfl⟩
  | far l a b d z =>
    obtain ⟨n1, n2, n3⟩ := h2
    cases l
    all_goals dsimp only [inQD]
    all_goals walk_at "dr"
    all_goals refine ⟨rfl, bif_nd (fun q => absurd rfl q) fun _ => ⟨rfl, isName_yes n1 (isName_yes n2 ⟨rfl, bif_nd (fun q => absurd rfl q) fun _ => ⟨rfl, by show 3 ≤ sizeLine; decide, ⟨rfl, rfl⟩, (x, d), rfl, ⟨m, h1⟩, fun y hy => ?_⟩⟩)⟩⟩
    all_goals subst hy
    all_goals show dInT (t3D (a, b, z)) (trisD (levelT x d)) _
    all_goals exact in_tris (level_ok h1 d) n3 ⟨n, Int.le_refl _, k _ rfl⟩
  | odd d =>
    replace ret := ret rfl
    clear k
    replace h2 : d ∈ oddIn := h2
    dsimp only [inQD]
    unfold oddIn at h2
    simp only [List.mem_cons, List.not_mem_nil, or_false] at h2
    rcases h2 with rfl | rfl | rfl | rfl | rfl | rfl | rfl | rfl | rfl | rfl
    all_goals walk_at "dr"
    · exact ret
    · exact ⟨rfl, bif_nd (fun _ => ret) fun q => absurd q (by decide)⟩
    · exact ret
    · exact ⟨rfl, bif_nd (fun _ => ret) fun q => absurd q (by decide)⟩
    · exact ⟨rfl, bif_nd (fun q => absurd rfl q) fun _ => ⟨rfl, isName_yes nmA (isName_yes nmA ret)⟩⟩
    · exact ⟨rfl, bif_nd (fun q => absurd rfl q) fun _ => ⟨rfl, isName_yes nmA (isName_no (by decide +kernel) (by decide) ret)⟩⟩
    · exact ret
    · exact ⟨rfl, bif_nd (fun q => absurd rfl q) fun _ => ⟨rfl, isName_yes nmA (isName_yes nmA ⟨rfl, bif_nd (fun q => absurd rfl q) fun _ => ⟨rfl, ret⟩⟩)⟩⟩
    · exact ⟨rfl, bif_nd (fun q => absurd rfl q) fun _ => ⟨rfl, isName_yes nmA (isName_yes nmA ⟨rfl, bif_nd (fun _ => ret) fun q => absurd q (by decide)⟩)⟩⟩
    · exact ⟨rfl, bif_nd (fun _ => ret) fun q => absurd q (by decide)⟩
theorem dLen_seq {d : D} {es : List D} {R : D → Prop} (e : seqD d = some es) (r : R (eI (es.length : Nat))) : dLen [d] R := by
  cases d with
  | lst ds => cases e; exact r
  | tup ds => cases e; exact r
  | ctup ds => cases e; exact r
  | ftup ds => cases e; exact r
  | _ => cases e
/-! ### the law's own look at levels -/
theorem lvl_id {m a b : Nat} {d : Int} (h1 : -(m : Int) ≤ d) (h2 : d ≤ m) : lvlIx m a b d = d := by
  unfold lvlIx
  rw [if_neg (by omega), if_neg (by omega)]
theorem lvl_down {m a b : Nat} {d : Int} (h1 : 1 ≤ a) (h2 : a ≤ m) (h3 : m ≤ 3) (h : (m : Int) < d) : lvlIx m a b (d - a) = lvlIx m a b d := by
  unfold lvlIx
  rw [if_pos h]
  have ha : a = 1 ∨ a = 2 ∨ a = 3 := by omega
  by_cases c : (m : Int) < d - a
  · rw [if_pos c]
    rcases ha with rfl | rfl | rfl <;> omega
  · rw [if_neg c, if_neg (by omega)]
    rcases ha with rfl | rfl | rfl <;> omega
theorem lvl_up {m a b : Nat} {d : Int} (h1 : 1 ≤ b) (h2 : b ≤ m) (h3 : m ≤ 3) (h : d < -(m : Int)) : lvlIx m a b (d + b) = lvlIx m a b d := by
  unfold lvlIx
  rw [if_neg (by omega : ¬ (m : Int) < d), if_pos h, if_neg (by omega)]
  have ha : b = 1 ∨ b = 2 ∨ b = 3 := by omega
  by_cases c : d + b < -(m : Int)
  · rw [if_pos c]
    rcases ha with rfl | rfl | rfl <;> omega
  · rw [if_neg c]
    rcases ha with rfl | rfl | rfl <;> omega
theorem lvl_top {m a b : Nat} {d : Int} (h1 : 1 ≤ a) (h2 : a ≤ m) (h3 : m ≤ 3) (h : (m : Int) < d) : lvlIx m a b (d - (d - m) / a * a + a) = lvlIx m a b d ∧ (m : Int) < d - (d - m) / a * a + a ∧ d - (d - m) / a * a + a ≤ m + 6 := by
  unfold lvlIx
  have ha : a = 1 ∨ a = 2 ∨ a = 3 := by omega
  have c : (m : Int) < d - (d - m) / a * a + a ∧ d - (d - m) / a * a + a ≤ m + 6 := by rcases ha with rfl | rfl | rfl <;> omega
  rw [if_pos h, if_pos c.1]
  refine ⟨?_, c⟩
  rcases ha with rfl | rfl | rfl <;> omega
theorem lvl_bot {m a b : Nat} {d : Int} (h1 : 1 ≤ b) (h2 : b ≤ m) (h3 : m ≤ 3) (h : d < -(m : Int)) : lvlIx m a b (d + (0 - m - d) / b * b - b) = lvlIx m a b d ∧ d + (0 - m - d) / b * b - b < -(m : Int) ∧ -(m : Int) - 6 ≤ d + (0 - m - d) / b * b - b := by
  unfold lvlIx
  have ha : b = 1 ∨ b = 2 ∨ b = 3 := by omega
  have c : d + (0 - m - d) / b * b - b < -(m : Int) ∧ -(m : Int) - 6 ≤ d + (0 - m - d) / b * b - b := by rcases ha with rfl | rfl | rfl <;> omega
  rw [if_neg (by omega : ¬ (m : Int) < d), if_pos h, if_neg (by omega), if_pos c.1]
  refine ⟨?_, c⟩
  rcases ha with rfl | rfl | rfl <;> omega
theorem level_lvl {x : TabX} {m : Nat} (h : TabOk x m) {d e : Int} (q : lvlIx m x.a x.b d = lvlIx m x.a x.b e) : levelT x d = levelT x e := by
  unfold levelT
  have hm : x.lv.length / 2 = m := by rw [h.len]; omega
  rw [hm, q]
theorem div_small {i j : Int} (h : 0 < j) (h2 : j < 5000) : CDivW i j := ⟨h, Nat.lt_of_le_of_lt (Nat.log2_le_self _) (by omega)⟩
def spLLevel (C : Addr) : DSp := fsp0 (fun x : TabX × Int => [tabD C x.1, eI x.2]) (fun x => (∃ m, TabOk x.1 m ∧ m ≤ 3) ∧ -1000000000000 < x.2 ∧ x.2 < 1000000000000) (fun x y => y = trisD (levelT x.1 x.2)) id
theorem mon_law_level {C : Addr} : Mon (spLLevel C) := fsp0.mon
theorem ups_law_level (T : Txt P w K mg) : Ups K (up K (spLLevel T.C_Table)) (spLLevel T.C_Table) := .rfl
theorem ok_law_level (T : Txt P w K mg) : FnOk P w K mg base CX0 3 T.f_law_level T.d_law_level ["_law_table", "_law_d"] (up K (spLLevel T.C_Table)) := by
  refine T.F_law_level.ok sc_law_level (up_len fun sp ds n R h => ?_) (fun cdv A outer s H vs Q E hr h => ?_)
  · obtain ⟨_, rfl, _⟩ := h
    rfl
  obtain ⟨sp, F, ds, n, hs, src, L, ⟨x, d⟩, rfl, ⟨⟨m, h1, m3⟩, d1, d2⟩, k⟩ := h
  replace h1 : TabOk x m := h1
  refine d_run (N := ["_law_table", "_law_d", "_law_most"]) (sl := [Sl.val _, Sl.val _, Sl.emp]) (dss_cons (ds_set (i := 2) (fun _ => sc_law_level.nd) (fun _ => rfl) (fun _ => Or.inl rfl) (de_op dop_fdivW (DX.b (de_callB dc_len (fun _ => by rfl) (fun _ => T.m_len) (by decide +kernel) (dab_cons (DX.b (de_prop mon_Table_levels (ups_Table_levels T) (dv 0) T.cl_Table T.pr_Table_levels (fun _ => ok_Table_levels T) (fun _ => hr.mono (by decide)) T.b_Table_levels (fun _ => pass0))) dab_nil))) (DX.b de_int)))
      (dss_cons (ds_if (dt_cmp dop_gt (dbv 1) (dbv 2) (nomark _))
      (dss_one (ds_set (i := 1) (fun _ => sc_law_level.nd) (fun _ => rfl) (fun _ => Or.inl rfl) (de_op dop_add (DX.b (de_op dop_sub (dbv 1) (DX.b (de_op dop_mul (DX.b (de_op dop_fdivW (DX.b (de_callTy dc_int (fun _ => by rfl) (fun _ => T.m_int) (by decide +kernel) (dab_cons (DX.b (de_op dop_sub (dbv 1) (dbv 2))) dab_nil))) (DX.b (de_prop mon_Table_above (ups_Table_above T) (dv 0) T.cl_Table T.pr_Table_above (fun _ => ok_Table_above T) (fun _ => hr.mono (by decide)) T.b_Table_above (fun _ => pass0))))) (DX.b (de_prop mon_Table_above (ups_Table_above T) (dv 0) T.cl_Table T.pr_Table_above (fun _ => ok_Table_above T) (fun _ => hr.mono (by decide)) T.b_Table_above (fun _ => pass0))))))) (DX.b (de_prop mon_Table_above (ups_Table_above T) (dv 0) T.cl_Table T.pr_Table_above (fun _ => ok_Table_above T) (fun _ => hr.mono (by decide)) T.b_Table_above (fun _ => pass0))))))
      dss_nil)
      (dss_cons (ds_if (dt_cmp dop_lt (dbv 1) (DX.b (de_op dop_sub (DX.b de_int) (dbv 2))) (nomark _))
      (dss_one (ds_set (i := 1) (fun _ => sc_law_level.nd) (fun _ => rfl) (fun _ => Or.inl rfl) (de_op dop_sub (DX.b (de_op dop_add (dbv 1) (DX.b (de_op dop_mul (DX.b (de_op dop_fdivW (DX.b (de_callTy dc_int (fun _ => by rfl) (fun _ => T.m_int) (by decide +kernel) (dab_cons (DX.b (de_op dop_sub (DX.b (de_op dop_sub (DX.b de_int) (dbv 2))) (dbv 1))) dab_nil))) (DX.b (de_prop mon_Table_below (ups_Table_below T) (dv 0) T.cl_Table T.pr_Table_below (fun _ => ok_Table_below T) (fun _ => hr.mono (by decide)) T.b_Table_below (fun _ => pass0))))) (DX.b (de_prop mon_Table_below (ups_Table_below T) (dv 0) T.cl_Table T.pr_Table_below (fun _ => ok_Table_below T) (fun _ => hr.mono (by decide)) T.b_Table_below (fun _ => pass0))))))) (DX.b (de_prop mon_Table_below (ups_Table_below T) (dv 0) T.cl_Table T.pr_Table_below (fun _ => ok_Table_below T) (fun _ => hr.mono (by decide)) T.b_Table_below (fun _ => pass0))))))
      dss_nil)
      (dss_cons (ds_while (fun _ => PassesOwn.never) (dt_cmp dop_gt (dbv 1) (dbv 2) (nomark _))
      (dss_one (ds_set (i := 1) (fun _ => sc_law_level.nd) (fun _ => rfl) (fun _ => Or.inl rfl) (de_op dop_sub (dbv 1) (DX.b (de_prop mon_Table_above (ups_Table_above T) (dv 0) T.cl_Table T.pr_Table_above (fun _ => ok_Table_above T) (fun _ => hr.mono (by decide)) T.b_Table_above (fun _ => pass0)))))))
      (dss_cons (ds_while (fun _ => PassesOwn.never) (dt_cmp dop_lt (dbv 1) (DX.b (de_op dop_sub (DX.b de_int) (dbv 2))) (nomark _))
      (dss_one (ds_set (i := 1) (fun _ => sc_law_level.nd) (fun _ => rfl) (fun _ => Or.inl rfl) (de_op dop_add (dbv 1) (DX.b (de_prop mon_Table_below (ups_Table_below T) (dv 0) T.cl_Table T.pr_Table_below (fun _ => ok_Table_below T) (fun _ => hr.mono (by decide)) T.b_Table_below (fun _ => pass0)))))))
      (dss_one (ds_ret (de_ix (de_prop mon_Table_levels (ups_Table_levels T) (dv 0) T.cl_Table T.pr_Table_levels (fun _ => ok_Table_levels T) (fun _ => hr.mono (by decide)) T.b_Table_levels (fun _ => pass0)) (DX.b (de_op dop_add (dbv 1) (dbv 2))) (fun _ _ => rfl))))))))) hs src L rfl ?_
  walk_at "drx"
  have b1 := h1.b1
  have bm := h1.bm
  have a1 := h1.a1
  have am := h1.am
  have el : (((x.lv.map trisD).length : Nat) : Int) / 2 = (m : Nat) := by rw [List.length_map, h1.len]; omega
  have dA : ∀ i : Int, CDivW i (x.a : Nat) := fun i => div_small (by omega) (by omega)
  have dB : ∀ i : Int, CDivW i (x.b : Nat) := fun i => div_small (by omega) (by omega)
  have mA : ∀ i : Int, CMul i (x.a : Nat) := fun i => .inr ⟨by omega, by omega⟩
  have mB : ∀ i : Int, CMul i (x.b : Nat) := fun i => .inr ⟨by omega, by omega⟩
  have fin : ∀ d0 : Int, lvlIx m x.a x.b d0 = lvlIx m x.a x.b d → dWhile (dTest (dOp (dI0 fun i j => V.bl (decide (j < i))) (dVarB 1) (dVarB 2)))
        (dSet 1 (dOp (dI0 fun i j => V.int (i - j)) (dVarB 1) (dProp T.C_Table (spTabA T.C_Table) (dVar 0))))
        { nx := dSeq (dWhile (dTest (dOp (dI0 fun i j => V.bl (decide (i < j))) (dVarB 1) (dOp (dI0 fun i j => V.int (i - j)) (dC (V.int 0)) (dVarB 2)))) (dSet 1 (dOp (dI0 fun i j => V.int (i + j)) (dVarB 1) (dProp T.C_Table (spTabB T.C_Table) (dVar 0)))))
            (dRet (dOp dIx (dProp T.C_Table (spTabLv T.C_Table) (dVar 0)) (dFlat (dOp (dI0 fun i j => V.int (i + j)) (dVarB 1) (dVarB 2))))) { nx := fun a => Post K sp F H Q (D.v V.non) a.n, rt := Post K sp F H Q }, rt := Post K sp F H Q }
        { sl := [Sl.val (tabD T.C_Table x), Sl.val (D.v (V.int d0)), Sl.val (D.v (V.int (m : Nat)))], n := n, sp := sp } := fun d0 e0 => by
    refine ⟨fun t a => ∃ d1 : Int, a = { sl := [Sl.val (tabD T.C_Table x), Sl.val (D.v (V.int d1)), Sl.val (D.v (V.int (m : Nat)))], n := n, sp := sp } ∧ lvlIx m x.a x.b d1 = lvlIx m x.a x.b d ∧ t = (d1 - m).toNat, ⟨_, d0, rfl, e0, rfl⟩, ?_⟩
    rintro t _ ⟨d1, rfl, e1, rfl⟩
    walk_at "drx"
    refine bif_d (fun q => ⟨rfl, x, rfl, trivial, fun y hy => ?_⟩) fun q => ?_
    · subst hy
      exact ⟨_, by omega, d1 - (x.a : Nat), rfl, (lvl_down a1 am m3 q).trans e1, rfl⟩
    refine ⟨fun t a => ∃ d2 : Int, a = { sl := [Sl.val (tabD T.C_Table x), Sl.val (D.v (V.int d2)), Sl.val (D.v (V.int (m : Nat)))], n := n, sp := sp } ∧ lvlIx m x.a x.b d2 = lvlIx m x.a x.b d ∧ d2 ≤ m ∧ t = (0 - m - d2).toNat, ⟨_, d1, rfl, e1, by omega, rfl⟩, ?_⟩
    rintro t _ ⟨d2, rfl, e2, q2, rfl⟩
    walk_at "drx"
    refine bif_d (fun q3 => ⟨rfl, x, rfl, trivial, fun y hy => ?_⟩) fun q3 => ⟨rfl, x, rfl, trivial, fun y hy => ?_⟩
    · subst hy
      exact ⟨_, by omega, d2 + (x.b : Nat), rfl, (lvl_up b1 bm m3 (by omega)).trans e2, by omega, rfl⟩
    · subst hy
      have at_ := level_at h1 d
      rw [← e2, lvl_id (by omega) q2] at at_
      exact ⟨rfl, dIx_seq (show seqD (.tup (x.lv.map trisD)) = some (x.lv.map trisD) from rfl) at_ ⟨n, Int.le_refl _, k _ rfl⟩⟩
  refine ⟨rfl, x, rfl, trivial, fun y hy => ?_⟩
  subst hy
  refine dLen_seq rfl ?_
  dsimp only
  rw [el]
  refine ⟨div_small (by omega) (by omega), bif_d (fun q => ⟨rfl, x, rfl, trivial, fun y hy => ?_⟩) fun q => bif_d (fun q2 => ⟨rfl, x, rfl, trivial, fun y hy => ?_⟩) fun q2 => fin d rfl⟩
  · subst hy
    refine ⟨dA _, rfl, x, rfl, trivial, fun y hy => ?_⟩
    subst hy
    refine ⟨mA _, rfl, x, rfl, trivial, fun y hy => ?_⟩
    subst hy
    have tp := lvl_top (b := x.b) a1 am m3 q
    exact bif_d (fun q3 => absurd q3 (by omega)) fun _ => fin _ tp.1
  · subst hy
    refine ⟨dB _, rfl, x, rfl, trivial, fun y hy => ?_⟩
    subst hy
    refine ⟨mB _, rfl, x, rfl, trivial, fun y hy => ?_⟩
    subst hy
    have tp := lvl_bot (a := x.a) b1 bm m3 (show d < -(m : Int) from by omega)
    exact fin _ tp.1
/-! ### near -/
def nearT (b a : Nat) (d : Int) : Int := if (d.natAbs : Int) < 1000000000 then d else if 0 < d then d % (60 * a) + 60 * a else 0 - (0 - d) % (60 * b) - 60 * b
def spLNear : DSp := fsp0 (fun x : Int × Nat × Nat => [eI x.1, eI (x.2.1 : Nat), eI (x.2.2 : Nat)]) (fun x => 1 ≤ x.2.1 ∧ x.2.1 ≤ 3 ∧ 1 ≤ x.2.2 ∧ x.2.2 ≤ 3) (fun x y => y = nearT x.2.1 x.2.2 x.1) eI
theorem mon_law_near : Mon spLNear := fsp0.mon
theorem ups_law_near (T : Txt P w K mg) : Ups K (up K spLNear) spLNear := .rfl
theorem ok_law_near (T : Txt P w K mg) : FnOk P w K mg base CX0 1 T.f_law_near T.d_law_near ["_law_d", "_law_below", "_law_above"] (up K spLNear) := by
  refine T.F_law_near.ok sc_law_near (up_len fun sp ds n R h => ?_) (fun cdv A outer s H vs Q E hr h => ?_)
  · obtain ⟨_, rfl, _⟩ := h
    rfl
  obtain ⟨sp, F, ds, n, hs, src, L, ⟨d, b, a⟩, rfl, ⟨b1, b3, a1, a3⟩, k⟩ := h
  refine d_run (N := ["_law_d", "_law_below", "_law_above"]) (sl := [Sl.val _, Sl.val _, Sl.val _]) (dss_cons (ds_if (dt_cmp dop_lt (DX.b (de_callB dc_abs (fun _ => by rfl) (fun _ => T.m_abs) (by decide +kernel) (dab_cons (dbv 0) dab_nil))) (DX.b (de_op dop_pow (DX.b de_int) (DX.b de_int))) (nomark _))
      (dss_one (ds_ret (dv 0)))
      dss_nil)
      (dss_cons (ds_if (dt_cmp dop_gt (dbv 0) (DX.b de_int) (nomark _))
      (dss_one (ds_ret (de_op dop_add (DX.b (de_op dop_mod (dbv 0) (DX.b (de_op dop_mul (DX.b de_int) (dbv 2))))) (DX.b (de_op dop_mul (DX.b de_int) (dbv 2))))))
      dss_nil)
      (dss_one (ds_ret (de_op dop_sub (DX.b (de_op dop_sub (DX.b de_int) (DX.b (de_op dop_mod (DX.b (de_op dop_sub (DX.b de_int) (dbv 0))) (DX.b (de_op dop_mul (DX.b de_int) (dbv 1))))))) (DX.b (de_op dop_mul (DX.b de_int) (dbv 1)))))))) hs src L rfl ?_
  walk_at "drx"
  replace b1 : 1 ≤ b := b1
  replace b3 : b ≤ 3 := b3
  replace a1 : 1 ≤ a := a1
  replace a3 : a ≤ 3 := a3
  have mA : CMul 60 (a : Nat) := .inl ⟨by decide, by decide⟩
  have mB : CMul 60 (b : Nat) := .inl ⟨by decide, by decide⟩
  have tell : ∀ e : Int, e = nearT b a d → ∃ m, n ≤ m ∧ Post K sp F H Q (D.v (V.int e)) m := fun e q => ⟨n, Int.le_refl _, k e q⟩
  have nu : ((10 : Int) ^ Int.toNat 9) = 1000000000 := by decide
  rw [nu]
  unfold nearT at tell
  refine ⟨⟨by decide, by decide, by decide⟩, bif_d (fun q => tell _ ?_) fun q => bif_d (fun q2 => ⟨mA, by omega, mA, tell _ ?_⟩) fun q2 => ⟨mB, by omega, mB, tell _ ?_⟩⟩
  · rw [if_pos (by split at q <;> omega)]
  · rw [if_neg (by split at q <;> omega), if_pos q2]
  · rw [if_neg (by split at q <;> omega), if_neg q2]
theorem near_lt {a b : Nat} (a1 : 1 ≤ a) (a3 : a ≤ 3) (b1 : 1 ≤ b) (b3 : b ≤ 3) (d : Int) : -1000000000000 < nearT b a d ∧ nearT b a d < 1000000000000 := by
  unfold nearT
  have ha : a = 1 ∨ a = 2 ∨ a = 3 := by omega
  have hb : b = 1 ∨ b = 2 ∨ b = 3 := by omega
  split
  · omega
  split
  · rcases ha with rfl | rfl | rfl <;> omega
  · rcases hb with rfl | rfl | rfl <;> omega
theorem near_lvl {m a b : Nat} (m3 : m ≤ 3) (a1 : 1 ≤ a) (a3 : a ≤ m) (b1 : 1 ≤ b) (b3 : b ≤ m) (d : Int) : lvlIx m a b (nearT b a d) = lvlIx m a b d := by
  unfold nearT
  have ha : a = 1 ∨ a = 2 ∨ a = 3 := by omega
  have hb : b = 1 ∨ b = 2 ∨ b = 3 := by omega
  split
  · rfl
  rename_i q
  split
  · rename_i q2
    have c : (m : Int) < d % (60 * (a : Nat)) + 60 * (a : Nat) := by rcases ha with rfl | rfl | rfl <;> omega
    unfold lvlIx
    rw [if_pos c, if_pos (by omega)]
    rcases ha with rfl | rfl | rfl <;> omega
  · have c : 0 - (0 - d) % (60 * (b : Nat)) - 60 * (b : Nat) < -(m : Int) := by rcases hb with rfl | rfl | rfl <;> omega
    unfold lvlIx
    rw [if_neg (by omega), if_pos c, if_neg (by omega), if_pos (by omega)]
    rcases hb with rfl | rfl | rfl <;> omega
/-! ### triples drawn -/
def triIn (lasts : List Str) (t : Tri) : Prop := (t.1 = "a" ∨ t.1 = "b" ∨ t.1 = "read") ∧ (t.2.1 = "a" ∨ t.2.1 = "d") ∧ t.2.2 ∈ lasts
def spTriD : DSp := fspN 100000 (fun _ => 400) (fun p (x : List Str × Nat) => [sD p, .lst (x.1.map eS), eI (x.2 : Nat)]) (fun x => x.1 ≠ [] ∧ x.1.length ≤ 1000 ∧ x.2 ≤ 100) (fun x (ts : List Tri) => ts.length ≤ x.2 ∧ ∀ t ∈ ts, triIn x.1 t) (fun ts => .lst (ts.map t3D))
theorem mon_law_triples : Mon spTriD := fspN.mon
theorem ups_law_triples (_ : Txt P w K mg) : Ups K (up K spTriD) spTriD := .rfl
theorem ok_law_triples (T : Txt P w K mg) : FnOk P w K mg base CX0 3 T.f_law_triples T.d_law_triples ["_law_source_here", "_law_lasts", "_law_most"] (up K spTriD) := by
  refine T.F_law_triples.ok sc_law_triples (up_len fun sp ds n R h => ?_) (fun cdv A outer s H vs Q E hr h => ?_)
  · obtain ⟨_, _, _, rfl, _⟩ := h
    rfl
  obtain ⟨sp, F, ds, n, hs, src, L, p, ⟨ls, most⟩, rfl, rfl, ⟨l1, l2, l3⟩, n1, k⟩ := h
  replace l1 : ls ≠ [] := l1
  replace l2 : ls.length ≤ 1000 := l2
  replace l3 : most ≤ 100 := l3
  refine d_run (N := ["_law_source_here", "_law_lasts", "_law_most", "_law_found", "_law_k", "_law_state", "_law_after"]) (sl := [Sl.val _, Sl.val _, Sl.val _, Sl.emp, Sl.emp, Sl.emp, Sl.emp]) (dss_cons (ds_setO (i := 3) (fun _ => sc_law_triples.nd) (fun _ => rfl) (fun _ => Or.inl rfl) (do_lst da_nil))
      (dss_cons (ds_for (fun _ => PassesOwn.never) (fun _ => rfl) (di_range1 (fun _ => by rfl) (fun _ => T.m_range) (dab_cons (DX.b (de_callF mon_law_draw (ups_law_draw T) (fun _ => ok_law_draw T) (fun _ => (hr.mono (by decide))) (fun _ => by rfl) (fun _ => T.m_law_draw) (fun _ => T.F_law_draw.kp) (fun _ => T.b_law_draw) (fun _ => pass0) (dab_cons (dbv 0) (dab_cons (DX.b (de_op dop_add (dbv 2) (DX.b de_int))) dab_nil)))) dab_nil)) (dg_name (i := 4) (fun _ => sc_law_triples.nd) (fun _ => rfl) (fun _ => Or.inl rfl))
      (dss_cons (ds_par (i := 5) (j := 6) (fun _ => by rfl) (fun _ => sc_law_triples.nd) (fun _ => rfl) (fun _ => rfl) (by decide) (fun _ => rfl) (fun _ => rfl) (da_cons (de_call mon_law_pick (ups_law_pick T) (fun _ => ok_law_pick T) (fun _ => (hr.mono (by decide))) (fun _ => by rfl) (fun _ => T.m_law_pick) (fun _ => T.F_law_pick.kp) (fun _ => T.b_law_pick) (fun _ => pass0) (da_cons (dv 0) (da_cons (DO.x (do_lst (da_cons de_str (da_cons de_str (da_cons de_str da_nil))))) da_nil))) (da_cons (de_call mon_law_pick (ups_law_pick T) (fun _ => ok_law_pick T) (fun _ => (hr.mono (by decide))) (fun _ => by rfl) (fun _ => T.m_law_pick) (fun _ => T.F_law_pick.kp) (fun _ => T.b_law_pick) (fun _ => pass0) (da_cons (dv 0) (da_cons (DO.x (do_lst (da_cons de_str (da_cons de_str da_nil)))) da_nil))) da_nil)) (fun _ => by rfl))
      (dss_one (ds_own (i := 3) PySem.F.plainAttrs_list PySem.F.slot_list_append PySem.F.type_list_append (fun _ => mt_append) lm_append (fun _ => pv 3) (da_cons (de_tup (da_cons (dv 5) (da_cons (dv 6) (da_cons (de_call mon_law_pick (ups_law_pick T) (fun _ => ok_law_pick T) (fun _ => (hr.mono (by decide))) (fun _ => by rfl) (fun _ => T.m_law_pick) (fun _ => T.F_law_pick.kp) (fun _ => T.b_law_pick) (fun _ => pass0) (da_cons (dv 0) (da_cons (dv 1) da_nil))) da_nil)))) da_nil)))))
      (dss_one (ds_ret (dv 3))))) hs src L rfl ?_
  walk_at "drx"
  refine ⟨by decide, p, ((most : Nat) : Int) + 1, rfl, rfl, ⟨by omega, by omega⟩, by omega, fun j hj => ⟨rfl, ⟨by omega, by omega⟩, ?_⟩⟩
  refine dLoop_inv (fun i a => ∃ ts v4 v5 v6 m, a = ⟨[.val (sD p), .val (.lst (ls.map eS)), .val (eI (most : Nat)), .own (.lst (ts.map t3D)), v4, v5, v6], m, some p⟩ ∧ m = n + 1 + 3 * (i : Nat) ∧ ts.length = i ∧ ∀ t ∈ ts, triIn ls t) ⟨[], _, _, _, _, rfl, (by show n + 1 = _; omega), rfl, fun _ h => nomatch h⟩ (fun i x a N hi ⟨ts, v4, v5, v6, m, ea, em, el, ht⟩ hN => ?_) fun a ⟨ts, v4, v5, v6, m, ea, em, el, ht⟩ => ?_
  · subst ea
    have il := (List.getElem?_eq_some_iff.mp hi).1
    rw [rng_len] at il
    walk_at "drx"
    refine ⟨by decide, p, [eS "a", eS "b", eS "read"], rfl, rfl, ⟨by decide, by decide⟩, by omega, fun y1 q1 => ?_⟩
    obtain ⟨z1, e1, g1⟩ : ∃ z1, y1 = eS z1 ∧ (z1 = "a" ∨ z1 = "b" ∨ z1 = "read") := by
      simp only [List.mem_cons, List.not_mem_nil, or_false] at q1
      rcases q1 with q | q | q
      · exact ⟨_, q, .inl rfl⟩
      · exact ⟨_, q, .inr (.inl rfl)⟩
      · exact ⟨_, q, .inr (.inr rfl)⟩
    subst e1
    walk_at "drx"
    refine ⟨by decide, p, [eS "a", eS "d"], rfl, rfl, ⟨by decide, by decide⟩, by omega, fun y2 q2 => ?_⟩
    obtain ⟨z2, e2, g2⟩ : ∃ z2, y2 = eS z2 ∧ (z2 = "a" ∨ z2 = "d") := by
      simp only [List.mem_cons, List.not_mem_nil, or_false] at q2
      rcases q2 with q | q
      · exact ⟨_, q, .inl rfl⟩
      · exact ⟨_, q, .inr rfl⟩
    subst e2
    walk_at "drx"
    refine ⟨p, ls.map eS, rfl, rfl, ⟨fun q => l1 (List.map_eq_nil_iff.mp q), by rw [List.length_map]; omega⟩, by omega, fun y3 q3 => ?_⟩
    obtain ⟨z3, g3, e3⟩ := List.mem_map.mp q3
    subst e3
    walk_at "drx"
    refine ⟨by show 3 ≤ sizeLine; decide, by rw [List.length_map, el]; exact Nat.lt_of_lt_of_le (show i < 1000 by omega) (by decide), hN _ ⟨ts ++ [(z1, z2, z3)], _, _, _, _, by rw [List.map_append]; rfl, by omega, by rw [List.length_append, List.length_singleton, el], fun t ht1 => ?_⟩⟩
    rcases List.mem_append.mp ht1 with q | q
    · exact ht t q
    · rw [List.mem_singleton.mp q]
      exact ⟨g1, g2, g3⟩
  · subst ea
    rw [rng_len] at el em
    walk_at "drx"
    exact ⟨n + 400, by omega, k ts ⟨by show ts.length ≤ most; omega, ht⟩⟩
/-! ### ascending, each once -/
theorem mem_fold {t : Tri} : ∀ {us ts : List Tri}, t ∈ us.foldl addT ts ↔ t ∈ ts ∨ t ∈ us
  | [], ts => by simp
  | u :: us, ts => by
    rw [List.foldl_cons, mem_fold]
    unfold addT
    split
    · rename_i h
      constructor
      · rintro (q | q)
        · exact .inl q
        · exact .inr (.tail _ q)
      · rintro (q | q)
        · exact .inl q
        · rcases List.mem_cons.mp q with rfl | q
          · exact .inl h
          · exact .inr q
    · rw [List.mem_append, List.mem_singleton, List.mem_cons, or_assoc]
def distT (ts : List Tri) : List Tri := ts.foldl addT []
theorem mem_dist {t : Tri} {ts : List Tri} : t ∈ distT ts ↔ t ∈ ts := by
  unfold distT
  rw [mem_fold]
  simp
theorem dist_snoc (ts : List Tri) (t : Tri) : distT (ts ++ [t]) = addT (distT ts) t := by
  unfold distT
  rw [List.foldl_append]
  rfl
theorem dIn_tri {neg : Bool} {l : List Tri} {t : Tri} {R : D → Prop} (h1 : ∀ s ∈ l, triOk s) (h2 : triOk t) (r : R (eB (nb neg (decide (t ∈ l))))) : dIn neg (t3D t) (.lst (l.map t3D)) R := by
  show okP _ ∧ okP _ ∧ R _
  refine ⟨(okN_t3 h2).p, (okN_lst (n := 1) fun d hd => ?_).p, ?_⟩
  · obtain ⟨s, hs, rfl⟩ := List.mem_map.mp hd
    exact okN_t3 (h1 s hs)
  · rw [any_tri]
    exact r
def spAscD : DSp := fsp0 (fun ts : List Tri => [.lst (ts.map t3D)]) (fun ts => (∀ t ∈ ts, triOk t) ∧ ts.length ≤ 1000) (fun ts y => y = trisD (sort3 (distT ts))) id
theorem mon_law_ascending : Mon spAscD := fsp0.mon
theorem ups_law_ascending (_ : Txt P w K mg) : Ups K (up K spAscD) spAscD := .rfl
theorem ok_law_ascending (T : Txt P w K mg) : FnOk P w K mg base CX0 3 T.f_law_ascending T.d_law_ascending ["_law_triples_here"] (up K spAscD) := by
  refine T.F_law_ascending.ok sc_law_ascending (up_len fun sp ds n R h => ?_) (fun cdv A outer s H vs Q E hr h => ?_)
  · obtain ⟨_, rfl, _⟩ := h
    rfl
  obtain ⟨sp, F, ds, n, hs, src, L, ts, rfl, ⟨h1, h2⟩, k⟩ := h
  refine d_run (N := ["_law_triples_here", "_law_k", "_law_one"]) (sl := [Sl.val _, Sl.emp, Sl.emp]) (dss_one (ds_ret (de_tuple (fun _ => by rfl) (fun _ => T.m_tuple) (by decide +kernel) (da_cons (DO.x (do_sortL3 (fun _ => hr.units) (fun _ => by rfl) (fun _ => T.m_sorted) (by decide +kernel) (da_cons (DO.x (do_lc (own := [("_law_k", 1), ("_law_one", 2)]) (fun _ => rfl) (fun _ => sc_law_ascending.nd) (di_enumB (fun _ => by rfl) (fun _ => T.m_enumerate) (da_cons (dv 0) da_nil)) (fun _ => blkOk_by (own := [("_law_k", 1), ("_law_one", 2)]) (N := ["_law_triples_here", "_law_k", "_law_one"]) (sc := defScope s_law_ascending) (by decide +kernel)) (dg_tup (fun _ => rfl) (dgs_cons (dg_name (i := 1) (fun _ => sc_law_ascending.nd) (fun _ => rfl) (fun _ => Or.inl rfl)) (dgs_cons (dg_name (i := 2) (fun _ => sc_law_ascending.nd) (fun _ => rfl) (fun _ => Or.inl rfl)) dgs_nil))) (dts_one (dt_cmp (dop_notin (fun _ => hr65 hr)) (dbv 2) (DX.b (DO.x (do_slL (dv 0) dpo_none (dpo_some (dbv 1))))) (by rfl))) (dv 2))) da_nil))) da_nil)))) hs src L rfl ?_
  walk_at "drx"
  dsimp only [dSortL3]
  walk_at "drx"
  refine dLc_inv (fun i acc n' => n' = n ∧ acc = (distT (ts.take i)).map t3D) ⟨rfl, rfl⟩ (fun i x acc n' N hi ⟨e1, e2⟩ hN => ?_) fun acc n' ⟨e1, e2⟩ => ?_
  · subst e1 e2
    obtain ⟨y, hy, rfl⟩ := enumI_at hi
    obtain ⟨t, ht, rfl⟩ : ∃ t, ts[i]? = some t ∧ y = t3D t := by
      rw [List.getElem?_map] at hy
      cases e : ts[i]? with
      | none => rw [e] at hy; cases hy
      | some t => rw [e] at hy; cases hy; exact ⟨t, rfl, rfl⟩
    have il := (List.getElem?_eq_some_iff.mp ht).1
    have tk : ts.take (i + 1) = ts.take i ++ [t] := take_more ht
    have hl : ((distT (ts.take i)).map t3D).length < sizeLine := by
      have := fold_len (ts.take i) []
      rw [List.length_map]
      unfold distT
      rw [List.length_nil, List.length_take] at this
      exact Nat.lt_of_lt_of_le (show _ < 2000 by omega) (by decide)
    walk_at "drx"
    refine ⟨rfl, ?_⟩
    show dIn true (t3D t) (.lst (cutD (ts.map t3D) none (some ((0 : Int) + (i : Nat))))) _
    rw [Int.zero_add, cut_toD, ← List.map_take]
    refine dIn_tri (fun s hs => h1 s (List.mem_of_mem_take hs)) (h1 t (List.mem_of_getElem? ht)) ?_
    show bIf (!decide (t ∈ ts.take i)) _ _
    refine bif_nd (fun q => ⟨rfl, hl, hN _ _ ⟨rfl, ?_⟩⟩) fun q => ⟨rfl, hN _ _ ⟨rfl, ?_⟩⟩
    · rw [tk, dist_snoc]
      unfold addT
      rw [if_neg (fun h => q (mem_dist.mp h)), List.map_append]
      rfl
    · rw [tk, dist_snoc]
      unfold addT
      rw [if_pos (mem_dist.mpr q)]
  · subst e1 e2
    rw [enumI_len, List.length_map, List.take_length]
    exact ⟨distT ts, rfl, Nat.le_trans (by have := fold_len ts []; unfold distT; rw [List.length_nil] at this; omega) (show 1000 ≤ sizeLine by decide), n', Int.le_refl _, k _ rfl⟩
/-! ### in, for what is in a level -/
def spRightD (C : Addr) : DSp := fspN 50000 (fun _ => 400) (fun p (x : TabX × Int) => [sD p, tabD C x.1, eI x.2]) (fun x => ∃ m, TabOk x.1 m) (fun _ (b : Bool) => b = true) eB
theorem mon_law_holds_rightly {C : Addr} : Mon (spRightD C) := fspN.mon
theorem ups_law_holds_rightly (T : Txt P w K mg) : Ups K (up K (spRightD T.C_Table)) (spRightD T.C_Table) := .rfl
theorem dne_self {B : Bool} {R : D → Prop} (r : R (eB false)) : dEqB true (eB B) (eB B) R := ⟨rfl, by rw [decide_eq_true rfl]; exact r⟩
theorem deq_self {B : Bool} {R : D → Prop} (r : R (eB true)) : dEqB false (eB B) (eB B) R := ⟨rfl, by rw [decide_eq_true rfl]; exact r⟩
theorem triIn_ok {ls : List Str} {t : Tri} (h : triIn ls t) (hl : ∀ z ∈ ls, PyData.strOk z = true) : nameB t.1 = true ∧ nameB t.2.1 = true ∧ triOk t := by
  obtain ⟨a, b, z⟩ := t
  obtain ⟨h1, h2, h3⟩ := h
  replace h1 : a = "a" ∨ a = "b" ∨ a = "read" := h1
  replace h2 : b = "a" ∨ b = "d" := h2
  have n1 : nameB a = true ∧ PyData.strOk a = true := by rcases h1 with rfl | rfl | rfl <;> exact ⟨by decide +kernel, by decide +kernel⟩
  have n2 : nameB b = true ∧ PyData.strOk b = true := by rcases h2 with rfl | rfl <;> exact ⟨by decide +kernel, by decide +kernel⟩
  exact ⟨n1.1, n2.1, n1.2, n2.2, hl z h3⟩
theorem ok_law_holds_rightly (T : Txt P w K mg) : FnOk P w K mg base CX0 4 T.f_law_holds_rightly T.d_law_holds_rightly ["_law_source_here", "_law_table", "_law_d"] (up K (spRightD T.C_Table)) := by
  refine T.F_law_holds_rightly.ok sc_law_holds_rightly (up_len fun sp ds n R h => ?_) (fun cdv A outer s H vs Q E hr h => ?_)
  · obtain ⟨_, _, _, rfl, _⟩ := h
    rfl
  obtain ⟨sp, F, ds, n, hs, src, L, p, ⟨x, d⟩, rfl, rfl, ⟨m, h1⟩, n1, k⟩ := h
  replace h1 : TabOk x m := h1
  refine d_run (N := ["_law_source_here", "_law_table", "_law_d", "_law_told", "_law_one", "_law_due"]) (sl := [Sl.val _, Sl.val _, Sl.val _, Sl.emp, Sl.emp, Sl.emp]) (dss_cons (ds_set (i := 3) (fun _ => sc_law_holds_rightly.nd) (fun _ => rfl) (fun _ => Or.inl rfl) (de_meth mon_Table_level (ups_Table_level T) (dv 1) T.cl_Table T.mt_Table_level (fun _ => ok_Table_level T) (fun _ => hr.mono (by decide)) T.b_Table_level (fun _ => pass0) (da_cons (dv 2) da_nil)))
      (dss_cons (ds_for (fun _ => PassesOwn.never) (fun _ => rfl) (di_seq (de_call mon_law_triples (ups_law_triples T) (fun _ => ok_law_triples T) (fun _ => (hr.mono (by decide))) (fun _ => by rfl) (fun _ => T.m_law_triples) (fun _ => T.F_law_triples.kp) (fun _ => T.b_law_triples) (fun _ => pass0) (da_cons (dv 0) (da_cons (DO.x (do_lst (da_cons de_str (da_cons de_str (da_cons de_str da_nil))))) (da_cons de_int da_nil))))) (dg_name (i := 4) (fun _ => sc_law_holds_rightly.nd) (fun _ => rfl) (fun _ => Or.inl rfl))
      (dss_cons (ds_set (i := 5) (fun _ => sc_law_holds_rightly.nd) (fun _ => rfl) (fun _ => Or.inl rfl) (de_cmp (dop_inT (fun _ => hr65 hr)) (dbv 4) (dbv 3) (by rfl)))
      (dss_cons (ds_if (dt_cmp (dop_ne (fun _ => hr.units)) (DX.b (de_cmp (dop_inO mon_Table__contains (ups_Table__contains T) (fun _ => ok_Table__contains T) T.mt_Table__contains.at_ T.mt_Table__contains.fn T.b_Table__contains (fun _ => pass0) (fun _ => hr.mono (by decide))) (DX.b (de_tup (da_cons (de_ix (dv 4) (DX.b de_int) (fun _ _ => rfl)) (da_cons (de_ix (dv 4) (DX.b de_int) (fun _ _ => rfl)) (da_cons (de_tup (da_cons (dv 2) (da_cons (de_ix (dv 4) (DX.b de_int) (fun _ _ => rfl)) da_nil))) da_nil))))) (dbv 1) (by rfl))) (dbv 5) (nomark _))
      (dss_one (ds_ret de_bl))
      dss_nil)
      (dss_one (ds_if (dt_cmp (dop_ne (fun _ => hr.units)) (DX.b (de_cmp (dop_inO mon_Table__contains (ups_Table__contains T) (fun _ => ok_Table__contains T) T.mt_Table__contains.at_ T.mt_Table__contains.fn T.b_Table__contains (fun _ => pass0) (fun _ => hr.mono (by decide))) (DX.b (DO.x (do_lst (da_cons (de_ix (dv 4) (DX.b de_int) (fun _ _ => rfl)) (da_cons (de_ix (dv 4) (DX.b de_int) (fun _ _ => rfl)) (da_cons (DO.x (do_lst (da_cons (dv 2) (da_cons (de_ix (dv 4) (DX.b de_int) (fun _ _ => rfl)) da_nil)))) da_nil)))))) (dbv 1) (by rfl))) (dbv 5) (nomark _))
      (dss_one (ds_ret de_bl))
      dss_nil)))))
      (dss_one (ds_ret de_bl)))) hs src L rfl ?_
  walk_at "drx"
  refine ⟨⟨rfl, rfl⟩, (x, d), rfl, ⟨m, h1⟩, fun y hy => ?_⟩
  subst hy
  refine ⟨by decide, p, (["<", "=", ">"], 3), rfl, rfl, ⟨(fun q => nomatch q), by decide, by decide⟩, by omega, fun ts q => ?_⟩
  obtain ⟨q1, q2⟩ := q
  dsimp only [seqD]
  refine dLoop_inv (fun i a => ∃ v4 v5, a = ⟨[.val (sD p), .val (tabD T.C_Table x), .val (eI d), .val (trisD (levelT x d)), v4, v5], n + 400, some p⟩) ⟨_, _, rfl⟩ (fun i y a N hi ⟨v4, v5, ea⟩ hN => ?_) fun a ⟨v4, v5, ea⟩ => ?_
  · subst ea
    obtain ⟨t, ht, rfl⟩ := List.mem_map.mp (List.mem_of_getElem? hi)
    obtain ⟨n1, n2, n3⟩ := triIn_ok (q2 t ht) (by decide +kernel)
    walk_at "drx"
    refine in_tris (level_ok h1 d) n3 ?_
    unfold t3D
    walk_at "drx"
    refine ⟨rfl, dIx_seq rfl (show atI [_, _, _] 0 = some (eS t.1) from rfl) ⟨rfl, dIx_seq rfl (show atI [_, _, _] 1 = some (eS t.2.1) from rfl) ⟨rfl, dIx_seq rfl (show atI [_, _, _] 2 = some (eS t.2.2) from rfl) ⟨by show 2 ≤ sizeLine; decide, by show 3 ≤ sizeLine; decide, ⟨_, rfl⟩, (x, .far false t.1 t.2.1 d t.2.2), rfl, ⟨⟨m, h1⟩, n1, n2, n3⟩, fun y hy => ⟨y, rfl, ?_⟩⟩⟩⟩⟩
    replace hy : y = decide (t ∈ levelT x d) := hy
    subst hy
    refine dne_self ?_
    refine bif_f ⟨rfl, dIx_seq rfl (show atI [_, _, _] 0 = some (eS t.1) from rfl) ⟨rfl, dIx_seq rfl (show atI [_, _, _] 1 = some (eS t.2.1) from rfl) ⟨rfl, dIx_seq rfl (show atI [_, _, _] 2 = some (eS t.2.2) from rfl) ⟨by show 2 ≤ sizeLine; decide, by show 3 ≤ sizeLine; decide, ⟨_, rfl⟩, (x, .far true t.1 t.2.1 d t.2.2), rfl, ⟨⟨m, h1⟩, n1, n2, n3⟩, fun y hy => ⟨y, rfl, ?_⟩⟩⟩⟩⟩
    replace hy : y = decide (t ∈ levelT x d) := hy
    subst hy
    exact dne_self (bif_f (hN _ ⟨_, _, rfl⟩))
  · subst ea
    walk_at "drx"
    exact ⟨_, Int.le_refl _, k true rfl⟩
/-! equal things -/
theorem eqv_self {d : D} (h : okP d) : PyData.eqv (pD d) (pD d) = true := SeqAt.eqv_refl _ (isP_lay d h.1)
/-! ### sorted, whatever the order of what is sorted -/
theorem sort3_same {s t : List Tri} (h : s.Perm t) : sort3 s = sort3 t := by
  have T := PySem.W.sortLe_total (PyProof.Rows.listOrd PyProof.Rows.itemOrd) false (fun b : Tri => PySem.W.keyToks (enc3 b))
  have pw : ∀ l : List Tri, (sort3 l).Pairwise fun a b => PySem.W.dataLe false enc3 a b = true := fun l => List.pairwise_mergeSort T.trans (fun a b => by rw [Bool.or_eq_true]; exact T.total a b) l
  refine List.Perm.eq_of_pairwise (fun a b _ _ h1 h2 => ?_) (pw s) (pw t) (((List.mergeSort_perm _ _).trans h).trans (List.mergeSort_perm _ _).symm)
  have h1' : (!PyProof.Rows.lexLt PyProof.Rows.itemOrd (PySem.W.keyToks (enc3 b)) (PySem.W.keyToks (enc3 a))) = true := h1
  have h2' : (!PyProof.Rows.lexLt PyProof.Rows.itemOrd (PySem.W.keyToks (enc3 a)) (PySem.W.keyToks (enc3 b))) = true := h2
  have e := PyProof.Rows.lex_total (O := PyProof.Rows.itemOrd) _ _ (by simpa using h2') (by simpa using h1')
  obtain ⟨a1, a2, a3⟩ := a
  obtain ⟨b1, b2, b3⟩ := b
  simp only [enc3, PySem.W.keyToks, PySem.W.keyToksAll] at e
  simp at e
  obtain ⟨e1, e2, e3⟩ := e
  rw [PySem.W.str_of_cps (congrArg Array.toList e1), PySem.W.str_of_cps (congrArg Array.toList e2), PySem.W.str_of_cps (congrArg Array.toList e3)]
theorem fold_nodup : ∀ {us ts : List Tri}, ts.Nodup → (us.foldl addT ts).Nodup
  | [], _, h => h
  | u :: us, ts, h => by
    rw [List.foldl_cons]
    refine fold_nodup ?_
    unfold addT
    split
    · exact h
    · rename_i q
      refine List.nodup_append.mpr ⟨h, by simp, fun a ha b hb => ?_⟩
      rw [List.mem_singleton.mp hb]
      exact fun z => q (z ▸ ha)
theorem dist_nodup {ts : List Tri} : (distT ts).Nodup := fold_nodup List.nodup_nil
theorem sort_rev (ts : List Tri) : sort3 (distT ts.reverse) = sort3 (distT ts) := by
  refine sort3_same ((List.perm_ext_iff_of_nodup dist_nodup dist_nodup).mpr fun t => ?_)
  rw [mem_dist, mem_dist, List.mem_reverse]
theorem mem_sort {t : Tri} {ts : List Tri} : t ∈ sort3 (distT ts) ↔ t ∈ ts := by
  unfold sort3
  rw [List.mem_mergeSort, mem_dist]
/-! ### what Table makes of it -/
def formOk (f : Tri → D) : Prop := ∀ t, seqD (f t) = some [eS t.1, eS t.2.1, eS t.2.2] ∧ tyD (f t) ≠ none ∧ (∀ ds, f t ≠ .ctup ds) ∧ ∀ ds, f t ≠ .ftup ds
theorem form_t : formOk t3D := fun _ => ⟨rfl, (fun q => nomatch q), (fun _ q => nomatch q), fun _ q => nomatch q⟩
theorem form_l : formOk l3D := fun _ => ⟨rfl, (fun q => nomatch q), (fun _ q => nomatch q), fun _ q => nomatch q⟩
theorem tris_form {f : Tri → D} (hf : formOk f) (ts : List Tri) : trisOf (ts.map f) = distT ts := by
  unfold trisOf distT
  rw [List.map_map]
  congr 1
  refine (List.map_congr_left (g := id) fun t _ => ?_).trans (List.map_id _)
  show triOf (f t) = t
  unfold triOf
  rw [(hf t).1]
  rfl
theorem tris_good {f : Tri → D} (hf : formOk f) {d : D} {ws : List Str} {ts : List Tri} (hw : ∀ z ∈ ws, PyData.strOk z = true) (e : seqD d = some (ts.map f)) (ty : tyD d ≠ none) (h : ∀ t ∈ ts, triIn ws t) (hl : ts.length ≤ 1000) (hz : ∀ z ∈ ws, z.length ≤ sizeLine) : trisBad ws d = false ∧ okTris d := by
  refine ⟨?_, ty, fun es q => ?_⟩
  · unfold trisBad
    rw [e]
    show (!(ts.map f).all (isTriD ws)) = false
    rw [Bool.not_eq_false', List.all_eq_true]
    intro x hx
    obtain ⟨t, ht, rfl⟩ := List.mem_map.mp hx
    obtain ⟨n1, n2, n3⟩ := triIn_ok (h t ht) hw
    exact triD_yes (hf t).1 n1 n2 (decide_eq_true (h t ht).2.2)
  · rw [e] at q
    cases q
    refine ⟨by rw [List.length_map]; exact hl, fun x hx => ?_⟩
    obtain ⟨t, ht, rfl⟩ := List.mem_map.mp hx
    obtain ⟨n1, n2, n3⟩ := triIn_ok (h t ht) hw
    refine ⟨(hf t).2.1, (hf t).2.2.1, (hf t).2.2.2, fun es q y hy => ?_⟩
    rw [(hf t).1] at q
    cases q
    simp only [List.mem_cons, List.not_mem_nil, or_false] at hy
    rcases hy with rfl | rfl | rfl
    · exact ⟨(fun q => nomatch q), fun z q => by cases q; exact name_line n1⟩
    · exact ⟨(fun q => nomatch q), fun z q => by cases q; exact name_line n2⟩
    · exact ⟨(fun q => nomatch q), fun z q => by cases q; exact hz _ (h t ht).2.2⟩
/-- the drawn ones -/
structure Drawn (m : Nat) (al : List Tri) (L : List (List Tri)) : Prop where
  m1 : 1 ≤ m
  m3 : m ≤ 3
  al3 : al.length ≤ 3
  alI : ∀ t ∈ al, triIn gapsL t
  len : L.length = 2 * m + 1
  l4 : ∀ l ∈ L, l.length ≤ 4
  lI : ∀ l ∈ L, ∀ t ∈ l, triIn signsL t
def tabOf (al : List Tri) (L : List (List Tri)) (b c : Nat) : TabX := ⟨sort3 (distT al), L.map fun l => sort3 (distT l), b, c⟩
theorem signs_ok : (∀ z ∈ signsL, PyData.strOk z = true) ∧ ∀ z ∈ signsL, z.length ≤ sizeLine := ⟨by decide +kernel, by decide +kernel⟩
theorem gaps_ok : (∀ z ∈ gapsL, PyData.strOk z = true) ∧ ∀ z ∈ gapsL, z.length ≤ sizeLine := ⟨by decide +kernel, by decide +kernel⟩
theorem tabOf_ok {m : Nat} {al : List Tri} {L : List (List Tri)} {b c : Nat} (h : Drawn m al L) (b1 : 1 ≤ b) (bm : b ≤ m) (c1 : 1 ≤ c) (cm : c ≤ m) : TabOk (tabOf al L b c) m := by
  refine ⟨by show (L.map _).length = _; rw [List.length_map, h.len], b1, bm, c1, cm, by have := h.m3; omega, fun t ht => (triIn_ok (h.alI t (mem_sort.mp ht)) gaps_ok.1).2.2, fun l hl t ht => ?_⟩
  obtain ⟨l0, h0, rfl⟩ := List.mem_map.mp hl
  exact (triIn_ok (h.lI l0 h0 t (mem_sort.mp ht)) signs_ok.1).2.2
theorem tab_good {C C0 : Addr} {m : Nat} {al : List Tri} {L : List (List Tri)} {b c : Nat} (h : Drawn m al L) (b1 : 1 ≤ b) (bm : b ≤ m) (c1 : 1 ≤ c) (cm : c ≤ m) {f : Tri → D} (hf : formOk f) {n : Int} {R : D → Int → Prop} {RX : Addr → List (Str × D) → Int → Prop}
    (k : R (tabD C (tabOf al L b c)) n) {sp : Option Addr} : spTableD C C0 sp [.lst (al.map f), .lst (L.map fun l => .lst (l.map t3D)), eI (b : Nat), eI (c : Nat)] n R RX := by
  obtain ⟨x1, x2⟩ := tris_good hf (d := .lst (al.map f)) gaps_ok.1 rfl (fun q => nomatch q) h.alI (by have := h.al3; omega) gaps_ok.2
  have y1 : ∀ l ∈ L, trisBad signsL (.lst (l.map t3D)) = false ∧ okTris (.lst (l.map t3D)) := fun l hl => tris_good form_t signs_ok.1 rfl (fun q => nomatch q) (h.lI l hl) (by have := h.l4 l hl; omega) signs_ok.2
  have m1 := h.m1
  have m3 := h.m3
  have ln := h.len
  have hl2 : (L.map fun l => D.lst (l.map t3D)).length / 2 = m := by rw [List.length_map]; omega
  have pg : ∀ i : Nat, 1 ≤ i → i ≤ m → perBad m (eI (i : Nat)) = false := fun i h1 h2 => by
    show (!decide (1 ≤ (i : Int)) || !decide ((i : Int) ≤ (m : Int))) = false
    rw [decide_eq_true (by omega), decide_eq_true (by omega)]
    rfl
  have lb : lvlsBad (.lst (L.map fun l => .lst (l.map t3D))) = false := by
    unfold lvlsBad
    show (decide ((L.map fun l => D.lst (l.map t3D)).length < 3) || decide ((L.map fun l => D.lst (l.map t3D)).length % 2 = 0) || (L.map fun l => D.lst (l.map t3D)).any (trisBad signsL)) = false
    rw [List.length_map, decide_eq_false (by omega), decide_eq_false (by omega), List.any_eq_false.mpr fun e he => by
      obtain ⟨l, hl, rfl⟩ := List.mem_map.mp he
      rw [(y1 l hl).1]
      exact Bool.false_ne_true]
    rfl
  have good : tabBad (.lst (al.map f), .lst (L.map fun l => .lst (l.map t3D)), eI (b : Nat), eI (c : Nat)) = false := by
    show (trisBad gapsL (.lst (al.map f)) || lvlsBad (.lst (L.map fun l => .lst (l.map t3D))) || perBad ((L.map fun l => D.lst (l.map t3D)).length / 2) (eI (b : Nat)) || perBad ((L.map fun l => D.lst (l.map t3D)).length / 2) (eI (c : Nat))) = false
    rw [x1, lb, hl2, pg b b1 bm, pg c c1 cm]
    rfl
  refine ⟨(.lst (al.map f), .lst (L.map fun l => .lst (l.map t3D)), eI (b : Nat), eI (c : Nat)), rfl, ⟨x2, ⟨(fun q => nomatch q), fun es q => ?_⟩, (fun q => nomatch q), fun q => nomatch q⟩, fun y ⟨_, a', lv, q1, q2, q3⟩ => ?_, fun C' fs ⟨q, _⟩ => ?_⟩
  · cases q
    refine ⟨by rw [List.length_map]; omega, fun e he => ?_⟩
    obtain ⟨l, hl, rfl⟩ := List.mem_map.mp he
    exact (y1 l hl).2
  · obtain ⟨ls, rfl, ll, hls⟩ := q2
    replace q1 : a' = .tup ((sort3 (trisOf (al.map f))).map t3D) := q1
    rw [tris_form hf] at q1
    have e : ls = (tabOf al L b c).lv.map trisD := by
      replace ll : ls.length = (L.map fun l => D.lst (l.map t3D)).length := ll
      rw [List.length_map] at ll
      refine List.ext_getElem (by rw [ll]; show _ = ((L.map _).map _).length; rw [List.length_map, List.length_map]) fun i h1 h2 => ?_
      have hi : i < L.length := by omega
      obtain ⟨z, hz, tz⟩ := hls i (.lst (L[i].map t3D)) (by show (L.map _)[i]? = _; rw [List.getElem?_map, List.getElem?_eq_getElem hi]; rfl)
      rw [List.getElem?_eq_getElem h1] at hz
      cases hz
      replace tz : ls[i] = .tup ((sort3 (trisOf (L[i].map t3D))).map t3D) := tz
      rw [tris_form form_t] at tz
      rw [tz]
      refine Option.some.inj ?_
      rw [← List.getElem?_eq_getElem h2]
      show _ = ((L.map fun l => sort3 (distT l)).map trisD)[i]?
      rw [List.getElem?_map, List.getElem?_map, List.getElem?_eq_getElem hi]
      rfl
    subst e q1 q3
    exact k
  · rw [good] at q
    cases q
theorem eq_tris {neg : Bool} {s : List Tri} {R : D → Prop} (h : ∀ t ∈ s, triOk t) (r : R (eB (nb neg true))) : dEqB neg (trisD s) (trisD s) R := eq_dec (okN_tris h).p (okN_tris h).p ((eqv_tris s s).mpr rfl) (fun _ q => nomatch q) r
theorem eq_lvls {neg : Bool} {s : List (List Tri)} {R : D → Prop} (h : ∀ l ∈ s, ∀ t ∈ l, triOk t) (r : R (eB (nb neg true))) : dEqB neg (.tup (s.map trisD)) (.tup (s.map trisD)) R := eq_dec (okN_lvls h).p (okN_lvls h).p ((eqv_lvls s s).mpr rfl) (fun _ q => nomatch q) r
/-! ### list(range(x, y)) -/
section
variable {K : PySem.W.Frag} {ω : Wp} {B : Bs K} {F F' F1 F2 Fs : Hp} {a a' a1 a2 : AS} {σ σ' : St} {H H' H0 H1 H2 : Hp} {n : Int} {ι : Type} {X : ι → Cx}
def dListRg2 (dx dy : DEt) : DEt := fun a R => dx a fun d1 a1 => dy a1 fun d2 a2 => match d1, d2 with
  | .v (.int i), .v (.int j) => RgOk i j ∧ R (.lst (rngD i (j - i).toNat)) a2
  | _, _ => False
theorem do_listRg2 {x y : Expr} {dx dy : DEt} {p pos p2 pos2 : Pos} (hc : ∀ j, (X j).calm = true) (hg : ∀ j, Gl (X j) "list") (hm : ∀ j, (X j).mg "list" = none) (hg2 : ∀ j, Gl (X j) "range") (hm2 : ∀ j, (X j).mg "range" = none) (hx : DX X K ω x dx) (hy : DX X K ω y dy)
    (na : ∀ j, starEach [x, y] (X j).env = (false, eval x (X j).env) :: starEach [y] (X j).env := by intro _; rfl) (nb : ∀ j, starEach [y] (X j).env = (false, eval y (X j).env) :: starEach [] (X j).env := by intro _; rfl) (hp : ∀ j, (backTo pos2 (starEach [y] (X j).env)).any (·.1) = false := by intro _; rfl)
    (nc : ∀ j, starEach [Expr.Call (.Name "range" p2) [x, y] [] pos2] (X j).env = (false, eval (Expr.Call (.Name "range" p2) [x, y] [] pos2) (X j).env) :: starEach [] (X j).env := by intro _; rfl) :
    DO X K ω (.Call (.Name "list" p) [.Call (.Name "range" p2) [x, y] [] pos2] [] pos) (dListRg2 dx dy) := by
  obtain ⟨t1, h1, l1⟩ := hx
  obtain ⟨t2, h2, l2⟩ := hy
  refine ⟨_, fun j => pe_listRg (hc j) (hg j) (hm j) (prg_2 (hg2 j) (hm2 j) (h1 j) (h2 j) (na j) (nb j) (hp j)) (nc j), fun B hω F a σ H Q R ok hd k => l1 B hω F a σ H _ _ ok hd fun v1 d1 F1 a1 H1 g1 q1 r1 => l2 B hω F1 a1 σ H1 _ _ g1.ok r1 fun v2 d2 F2 a2 H2 g2 q2 r2 => ?_⟩
  split at r2
  · rename_i i j
    cases (show v1 = _ from q1)
    cases (show v2 = _ from q2)
    refine ⟨i, j, rfl, rfl, r2.1, fun q hq => Go.list ok (.trans ok g1 g2) hq (ds := rngD i (j - i).toNat) ?_ r2.2 k⟩
    have e : rngD i (j - i).toNat = (rgV i j).map D.v := by
      unfold rngD rgV
      rw [List.map_map]
      rfl
    rw [e]
    exact datL_v _
  · exact r2.elim
end
/-! ### the law -/
theorem oldD_v {Fs : Hp} {x : V} : oldD K Fs (.v x) = .v x := rfl
theorem still_map {α : Type} {f : α → D} (h : ∀ x, stillB (f x) = true) : ∀ xs : List α, stillB.stillL (xs.map f) = true
  | [] => rfl
  | x :: xs => by
    show (stillB (f x) && stillB.stillL (xs.map f)) = true
    rw [h x, still_map h xs]
    rfl
theorem still_t3 (t : Tri) : stillB (t3D t) = true := rfl
theorem still_tris (ts : List Tri) : stillB (trisD ts) = true := still_map still_t3 ts
theorem still_tab (C : Addr) (x : TabX) : stillB (tabD C x) = true := by
  show (stillB.stillL (x.al.map t3D) && (stillB.stillL (x.lv.map trisD) && (true && (true && true)))) = true
  rw [still_map still_t3, still_map still_tris]
  rfl
theorem datL_mapW {α : Type} {F : Hp} {f g : α → D} (h : ∀ x v, Dat K F (f x) v → Dat K F (g x) v) : ∀ {xs : List α} {vs : List V}, DatL K F (xs.map f) vs → DatL K F (xs.map g) vs
  | [], _, l => l
  | _ :: _, _, ⟨v, r, e, q, t⟩ => ⟨v, r, e, h _ _ q, datL_mapW h t⟩
theorem eqO_tab (T : Txt P w K mg) {neg : Bool} (x : TabX) (y : TabX ⊕ List D) {m : Nat} (hx : TabOk x m) (hy : ∀ z, y = .inl z → ∃ m, TabOk z m) {R : D → Prop} (h : R (.v (.bl (nb neg (eqQB x y))))) : dEqO neg K T.C_Table (spTabEq T.C_Table) (tabD T.C_Table x) (eqQD T.C_Table y) R := by
  refine ⟨⟨_, rfl⟩, ?_, (x, y), rfl, ⟨⟨m, hx⟩, hy⟩, fun b hb => ⟨b, rfl, by subst hb; exact h⟩⟩
  cases y with
  | inl y => exact T.nf_Table
  | inr l => exact T.n1_Table
theorem inO_tab (T : Txt P w K mg) (x : TabX) (q : InQ) {m : Nat} (hx : TabOk x m) (hq : inQOk q) {R : D → Prop} (h : R (eB (inQB x q))) : dInO T.C_Table (spTabIn T.C_Table) (inQD q) (tabD T.C_Table x) R :=
  ⟨⟨_, rfl⟩, (x, q), rfl, ⟨⟨m, hx⟩, hq⟩, fun y hy => ⟨y, rfl, by subst hy; exact h⟩⟩
def odd1 : List D := [eN, .tup [], eS "none", .tup [eS "a", eS "a"], .tup [eS "a", eS "a", eN], .tup [eS "a", eS "A", eS "none"], .tup [eS "a", eS "a", .tup [eI 0, eS "x"]], eI 5]
def odd2 : List D := [.tup [eS "a", eS "a", .tup [eB true, eS "="]], .tup [eS "a", eS "a", .tup [eI 0, eS "=", eI 1]], .tup [eS "a", eS "a", eS "none", eS "none"]]
theorem lvl_call {C : Addr} {x : TabX} {d n : Int} {sp : Option Addr} {R : D → Int → Prop} (h : ∃ m, TabOk x m ∧ m ≤ 3) (h1 : -1000000000000 < d) (h2 : d < 1000000000000) (k : R (trisD (levelT x d)) n) : spLLevel C sp [tabD C x, eI d] n R := ⟨(x, d), rfl, ⟨h, h1, h2⟩, fun y hy => by subst hy; exact k⟩
theorem odd_ask {m : Nat} {al : List Tri} {L : List (List Tri)} {b c : Nat} (h : Drawn m al L) (x : D) (hx : x ∈ odd1 ++ odd2) : ∃ q, x = inQD q ∧ inQOk q ∧ inQB (tabOf al L b c) q = false := by
  by_cases e : x = .tup [eS "a", eS "a", .tup [eI 0, eS "x"]]
  · refine ⟨.far false "a" "a" 0 "x", e, ⟨nmA, nmA, by decide +kernel, by decide +kernel, by decide +kernel⟩, decide_eq_false fun q => ?_⟩
    unfold levelT at q
    rw [List.getD_eq_getElem?_getD] at q
    cases g : (tabOf al L b c).lv[(lvlIx ((tabOf al L b c).lv.length / 2) (tabOf al L b c).a (tabOf al L b c).b 0 + (((tabOf al L b c).lv.length / 2 : Nat) : Int)).toNat]? with
    | none => rw [g] at q; cases q
    | some l =>
      rw [g] at q
      obtain ⟨l0, h0, rfl⟩ := List.mem_map.mp (List.mem_of_getElem? g)
      have := (h.lI l0 h0 _ (mem_sort.mp q)).2.2
      revert this
      decide +kernel
  · refine ⟨.odd x, rfl, ?_, rfl⟩
    show x ∈ oddIn
    unfold odd1 odd2 at hx
    unfold oddIn
    simp only [List.cons_append, List.nil_append, List.mem_cons, List.not_mem_nil, or_false] at hx ⊢
    rcases hx with h | h | h | h | h | h | h | h | h | h | h
    all_goals first
      | exact absurd h e
      | simp [h]
theorem ok_law (T : Txt P w K mg) : FnOk P w K mg base CX0 12 T.f_law T.d_law ["_law_script"] (spLaw K) := by
  refine T.F_law.ok sc_law (fun vs H Q E h => ?_) (fun cdv A outer s H vs Q E hr h => ?_)
  · obtain ⟨a, ns, rfl, _⟩ := h
    rfl
  obtain ⟨a, ns, rfl, hS, hlen, k⟩ := h
  refine law_run (ps_set (i := 1) sc_law.nd rfl (Or.inr rfl) (pe_call (ok_law_source T) (hr.mono (by decide)) (by rfl) T.m_law_source T.F_law_source.kp T.b_law_source .nil pass0 (pa_cons (pv 0) pa_nil))) (dss_cut (ds_set (i := 2) (fun _ => sc_law.nd) (fun _ => rfl) (fun _ => Or.inl rfl) (de_call mon_law_triples (ups_law_triples T) (fun _ => ok_law_triples T) (fun _ => (hr.mono (by decide))) (fun _ => by rfl) (fun _ => T.m_law_triples) (fun _ => T.F_law_triples.kp) (fun _ => T.b_law_triples) (fun _ => pass0) (da_cons (dv 1) (da_cons (DO.x (do_lst (da_cons de_str (da_cons de_str (da_cons de_str da_nil))))) (da_cons de_int da_nil)))))
      (dss_cut (ds_set (i := 3) (fun _ => sc_law.nd) (fun _ => rfl) (fun _ => Or.inl rfl) (de_op dop_add (DX.b de_int) (DX.b (de_callF mon_law_draw (ups_law_draw T) (fun _ => ok_law_draw T) (fun _ => (hr.mono (by decide))) (fun _ => by rfl) (fun _ => T.m_law_draw) (fun _ => T.F_law_draw.kp) (fun _ => T.b_law_draw) (fun _ => pass0) (dab_cons (dbv 1) (dab_cons (DX.b de_int) dab_nil))))))
      (dss_cut (ds_setLc (i := 4) (own := [("_law_k", 17)]) (fun _ => rfl) (fun _ => sc_law.nd) (fun _ => rfl) (fun _ => rfl) (fun _ => sw_true rfl rfl rfl (by decide +kernel)) (di_range1 (fun _ => by rfl) (fun _ => T.m_range) (dab_cons (DX.b (de_op dop_add (DX.b (de_op dop_mul (DX.b de_int) (dbv 3))) (DX.b de_int))) dab_nil)) (fun _ => blkOk_by (own := [("_law_k", 17)]) (N := ["_law_script", "_law_source_here", "_law_alone", "_law_most", "_law_levels", "_law_below", "_law_above", "_law_one", "_law_passed", "_law_given", "_law_table", "_law_far", "_law_d", "_law_told", "_law_odd", "_law_twin", "_law_last", "_law_k", "_law_level_here", "_law_thing"]) (sc := defScope s_law) (by decide +kernel)) (dg_name (i := 17) (fun _ => sc_law.nd) (fun _ => rfl) (fun _ => Or.inl rfl)) dts_nil (de_call mon_law_triples (ups_law_triples T) (fun _ => ok_law_triples T) (fun _ => (hr.mono (by decide))) (fun _ => by rfl) (fun _ => T.m_law_triples) (fun _ => T.F_law_triples.kp) (fun _ => T.b_law_triples) (fun _ => pass0) (da_cons (dv 1) (da_cons (DO.x (do_lst (da_cons de_str (da_cons de_str (da_cons de_str da_nil))))) (da_cons de_int da_nil)))))
      (dss_cut (ds_par (i := 5) (j := 6) (fun _ => by rfl) (fun _ => sc_law.nd) (fun _ => rfl) (fun _ => rfl) (by decide) (fun _ => rfl) (fun _ => rfl) (da_cons (de_op dop_add (DX.b de_int) (DX.b (de_callF mon_law_draw (ups_law_draw T) (fun _ => ok_law_draw T) (fun _ => (hr.mono (by decide))) (fun _ => by rfl) (fun _ => T.m_law_draw) (fun _ => T.F_law_draw.kp) (fun _ => T.b_law_draw) (fun _ => pass0) (dab_cons (dbv 1) (dab_cons (dbv 3) dab_nil))))) (da_cons (de_op dop_add (DX.b de_int) (DX.b (de_callF mon_law_draw (ups_law_draw T) (fun _ => ok_law_draw T) (fun _ => (hr.mono (by decide))) (fun _ => by rfl) (fun _ => T.m_law_draw) (fun _ => T.F_law_draw.kp) (fun _ => T.b_law_draw) (fun _ => pass0) (dab_cons (dbv 1) (dab_cons (dbv 3) dab_nil))))) da_nil)) (fun _ => by rfl))
      (dss_open (dtl_cons (fun Fs => (ds_par (i := 8) (j := 9) (fun _ => by rfl) (fun _ => sc_law.nd) (fun _ => rfl) (fun _ => rfl) (by decide) (fun _ => rfl) (fun _ => rfl) (da_cons (DO.fl (do_lc (own := [("_law_one", 7)]) (fun _ => rfl) (fun _ => sc_law.nd) (di_seq (dw Fs 2)) (fun _ => blkOk_by (own := [("_law_one", 7)]) (N := ["_law_script", "_law_source_here", "_law_alone", "_law_most", "_law_levels", "_law_below", "_law_above", "_law_one", "_law_passed", "_law_given", "_law_table", "_law_far", "_law_d", "_law_told", "_law_odd", "_law_twin", "_law_last", "_law_k", "_law_level_here", "_law_thing"]) (sc := defScope s_law) (by decide +kernel)) (dg_name (i := 7) (fun _ => sc_law.nd) (fun _ => rfl) (fun _ => Or.inl rfl)) dts_nil (DO.x (do_list (fun _ => by rfl) (fun _ => T.m_list) (by decide +kernel) (da_cons (dv 7) da_nil))))) (da_cons (DO.fl (do_lc (own := [("_law_level_here", 18)]) (fun _ => rfl) (fun _ => sc_law.nd) (di_seq (dw Fs 4)) (fun _ => blkOk_by (own := [("_law_level_here", 18)]) (N := ["_law_script", "_law_source_here", "_law_alone", "_law_most", "_law_levels", "_law_below", "_law_above", "_law_one", "_law_passed", "_law_given", "_law_table", "_law_far", "_law_d", "_law_told", "_law_odd", "_law_twin", "_law_last", "_law_k", "_law_level_here", "_law_thing"]) (sc := defScope s_law) (by decide +kernel)) (dg_name (i := 18) (fun _ => sc_law.nd) (fun _ => rfl) (fun _ => Or.inl rfl)) dts_nil (DO.fl (do_list (fun _ => by rfl) (fun _ => T.m_list) (by decide +kernel) (da_cons (dv 18) da_nil))))) da_nil)) (fun _ => by rfl)))
      (dtl_cons (fun Fs => (ds_set (i := 10) (fun _ => sc_law.nd) (fun _ => rfl) (fun _ => Or.inr rfl) (de_make mon_Table__init (ups_Table__init T) T.mk_Table (fun _ => ok_Table__init T) (fun _ => hr.mono (by decide)) (fun _ => by rfl) (fun _ => T.m_Table) T.b_Table__init .nil (dds := []) (fun _ => rfl) (fun _ => takes0) (da_cons (dw Fs 8) (da_cons (dw Fs 9) (da_cons (dv 5) (da_cons (dv 6) da_nil)))))))
      ((dtl_clear3 (i := 8) (j := 9) (fun _ => ps_expr (pe_bm0 PySem.F.plainAttrs_list PySem.F.slot_list_clear PySem.F.type_list_clear mt_clear (pv 8))) (fun _ => ps_expr (pe_bm0 PySem.F.plainAttrs_list PySem.F.slot_list_clear PySem.F.type_list_clear mt_clear (pe_ix (show IxR _ (rIxL K) from ix_list) (pv 9) pe_int (fun _ _ => rfl)))) (fun _ => ps_expr (pe_bm0 PySem.F.plainAttrs_list PySem.F.slot_list_clear PySem.F.type_list_clear mt_clear (pv 9)))) (dss_cut (ds_if (DW.pt (dw_or (dt_cmp (dop_ne (fun _ => hr.units)) (DX.b (de_prop mon_Table_alone (ups_Table_alone T) (dv 10) T.cl_Table T.pr_Table_alone (fun _ => ok_Table_alone T) (fun _ => hr.mono (by decide)) T.b_Table_alone (fun _ => pass0))) (DX.b (de_call0 mon_law_ascending (ups_law_ascending T) (fun _ => ok_law_ascending T) (fun _ => (hr.mono (by decide))) (fun _ => by rfl) (fun _ => T.m_law_ascending) (fun _ => T.F_law_ascending.kp) (fun _ => T.b_law_ascending) (fun _ => pass0) (da_cons (dv 2) da_nil))) (nomark _)) (dw_or1 (dt_cmp (dop_ne (fun _ => hr.units)) (DX.b (DO.x (do_lst (da_cons (de_prop mon_Table_below (ups_Table_below T) (dv 10) T.cl_Table T.pr_Table_below (fun _ => ok_Table_below T) (fun _ => hr.mono (by decide)) T.b_Table_below (fun _ => pass0)) (da_cons (de_prop mon_Table_above (ups_Table_above T) (dv 10) T.cl_Table T.pr_Table_above (fun _ => ok_Table_above T) (fun _ => hr.mono (by decide)) T.b_Table_above (fun _ => pass0)) da_nil))))) (DX.b (DO.x (do_lst (da_cons (dv 5) (da_cons (dv 6) da_nil))))) (nomark _)))))
      (dss_one (ds_ret de_bl))
      dss_nil)
      (dss_cut (ds_if (dt_cmp (dop_ne (fun _ => hr.units)) (DX.b (de_prop mon_Table_levels (ups_Table_levels T) (dv 10) T.cl_Table T.pr_Table_levels (fun _ => ok_Table_levels T) (fun _ => hr.mono (by decide)) T.b_Table_levels (fun _ => pass0))) (DX.b (de_tuple (fun _ => by rfl) (fun _ => T.m_tuple) (by decide +kernel) (da_cons (DO.x (do_lc (own := [("_law_level_here", 18)]) (fun _ => rfl) (fun _ => sc_law.nd) (di_seq (dv 4)) (fun _ => blkOk_by (own := [("_law_level_here", 18)]) (N := ["_law_script", "_law_source_here", "_law_alone", "_law_most", "_law_levels", "_law_below", "_law_above", "_law_one", "_law_passed", "_law_given", "_law_table", "_law_far", "_law_d", "_law_told", "_law_odd", "_law_twin", "_law_last", "_law_k", "_law_level_here", "_law_thing"]) (sc := defScope s_law) (by decide +kernel)) (dg_name (i := 18) (fun _ => sc_law.nd) (fun _ => rfl) (fun _ => Or.inl rfl)) dts_nil (de_call0 mon_law_ascending (ups_law_ascending T) (fun _ => ok_law_ascending T) (fun _ => (hr.mono (by decide))) (fun _ => by rfl) (fun _ => T.m_law_ascending) (fun _ => T.F_law_ascending.kp) (fun _ => T.b_law_ascending) (fun _ => pass0) (da_cons (dv 18) da_nil)))) da_nil))) (nomark _))
      (dss_one (ds_ret de_bl))
      dss_nil)
      (dss_cut (ds_set (i := 11) (fun _ => sc_law.nd) (fun _ => rfl) (fun _ => Or.inl rfl) (DO.x (do_lst (da_cons (de_op dop_add (DX.b (de_op dop_pow (DX.b de_int) (DX.b de_int))) (dbv 5)) (da_cons (de_op dop_sub (DX.b (de_op dop_sub (DX.b de_int) (DX.b (de_op dop_pow (DX.b de_int) (DX.b de_int))))) (dbv 6)) (da_cons (de_op dop_pow (DX.b de_int) (DX.b de_int)) da_nil))))))
      (dss_cut (ds_for (fun _ => PassesOwn.never) (fun _ => rfl) (di_seq (DO.x (do_cat (DO.x (do_listRg2 (fun _ => rfl) (fun _ => by rfl) (fun _ => T.m_list) (fun _ => by rfl) (fun _ => T.m_range) (de_op dop_sub (DX.b (de_op dop_sub (DX.b de_int) (dbv 3))) (DX.b de_int)) (de_op dop_add (dbv 3) (DX.b de_int)))) (dv 11)))) (dg_name (i := 12) (fun _ => sc_law.nd) (fun _ => rfl) (fun _ => Or.inl rfl))
      (dss_cons (ds_set (i := 13) (fun _ => sc_law.nd) (fun _ => rfl) (fun _ => Or.inl rfl) (de_meth mon_Table_level (ups_Table_level T) (dv 10) T.cl_Table T.mt_Table_level (fun _ => ok_Table_level T) (fun _ => hr.mono (by decide)) T.b_Table_level (fun _ => pass0) (da_cons (dv 12) da_nil)))
      (dss_cons (ds_if (DW.pt (dw_or (dt_not (dt_val (de_isi .tup (by decide) (fun _ => rfl) (fun _ => T.m_isinstance) rfl (fun _ => rfl) (fun _ => T.m_tuple) (by decide +kernel) (dbv 13)))) (dw_or1 (dt_cmp (dop_ne (fun _ => hr.units)) (dbv 13) (DX.b (de_call0 mon_law_level (ups_law_level T) (fun _ => ok_law_level T) (fun _ => (hr.mono (by decide))) (fun _ => by rfl) (fun _ => T.m_law_level) (fun _ => T.F_law_level.kp) (fun _ => T.b_law_level) (fun _ => pass0) (da_cons (dv 10) (da_cons (de_call0 mon_law_near (ups_law_near T) (fun _ => ok_law_near T) (fun _ => (hr.mono (by decide))) (fun _ => by rfl) (fun _ => T.m_law_near) (fun _ => T.F_law_near.kp) (fun _ => T.b_law_near) (fun _ => pass0) (da_cons (dv 12) (da_cons (dv 5) (da_cons (dv 6) da_nil)))) da_nil)))) (nomark _)))))
      (dss_one (ds_ret de_bl))
      dss_nil)
      (dss_one (ds_if (dt_not (dt_val (de_call mon_law_holds_rightly (ups_law_holds_rightly T) (fun _ => ok_law_holds_rightly T) (fun _ => (hr.mono (by decide))) (fun _ => by rfl) (fun _ => T.m_law_holds_rightly) (fun _ => T.F_law_holds_rightly.kp) (fun _ => T.b_law_holds_rightly) (fun _ => pass0) (da_cons (dv 1) (da_cons (dv 10) (da_cons (dv 12) da_nil))))))
      (dss_one (ds_ret de_bl))
      dss_nil)))))
      (dss_cut (ds_for (fun _ => PassesOwn.never) (fun _ => rfl) (di_seq (de_call mon_law_triples (ups_law_triples T) (fun _ => ok_law_triples T) (fun _ => (hr.mono (by decide))) (fun _ => by rfl) (fun _ => T.m_law_triples) (fun _ => T.F_law_triples.kp) (fun _ => T.b_law_triples) (fun _ => pass0) (da_cons (dv 1) (da_cons (DO.x (do_lst (da_cons de_str (da_cons de_str (da_cons de_str da_nil))))) (da_cons de_int da_nil))))) (dg_name (i := 7) (fun _ => sc_law.nd) (fun _ => rfl) (fun _ => Or.inl rfl))
      (dss_one (ds_if (dt_cmp (dop_ne (fun _ => hr.units)) (DX.b (de_cmp (dop_inO mon_Table__contains (ups_Table__contains T) (fun _ => ok_Table__contains T) T.mt_Table__contains.at_ T.mt_Table__contains.fn T.b_Table__contains (fun _ => pass0) (fun _ => hr.mono (by decide))) (dbv 7) (dbv 10) (by rfl))) (DX.b (de_cmp (dop_in (fun _ => hr65 hr)) (dbv 7) (dbv 2) (by rfl))) (nomark _))
      (dss_one (ds_ret de_bl))
      dss_nil)))
      (dss_cut (ds_set (i := 14) (fun _ => sc_law.nd) (fun _ => rfl) (fun _ => Or.inl rfl) (DO.x (do_lst (da_cons de_non (da_cons (de_tup da_nil) (da_cons de_str (da_cons (de_tup (da_cons de_str (da_cons de_str da_nil))) (da_cons (de_tup (da_cons de_str (da_cons de_str (da_cons de_non da_nil)))) (da_cons (de_tup (da_cons de_str (da_cons de_str (da_cons de_str da_nil)))) (da_cons (de_tup (da_cons de_str (da_cons de_str (da_cons (de_tup (da_cons de_int (da_cons de_str da_nil))) da_nil)))) (da_cons de_int da_nil)))))))))))
      (dss_cut (ds_set (i := 14) (fun _ => sc_law.nd) (fun _ => rfl) (fun _ => Or.inl rfl) (DO.x (do_cat (dv 14) (DO.x (do_lst (da_cons (de_tup (da_cons de_str (da_cons de_str (da_cons (de_tup (da_cons de_bl (da_cons de_str da_nil))) da_nil)))) (da_cons (de_tup (da_cons de_str (da_cons de_str (da_cons (de_tup (da_cons de_int (da_cons de_str (da_cons de_int da_nil)))) da_nil)))) (da_cons (de_tup (da_cons de_str (da_cons de_str (da_cons de_str (da_cons de_str da_nil))))) da_nil))))))))
      (dss_cut (ds_if (DW.pt (dw_or (dt_val (de_callB (dc_any (fun _ => rfl)) (fun _ => by rfl) (fun _ => T.m_any) (by decide +kernel) (dab_cons (DX.b (DO.x (do_lc (own := [("_law_thing", 19)]) (fun _ => rfl) (fun _ => sc_law.nd) (di_seq (dv 14)) (fun _ => blkOk_by (own := [("_law_thing", 19)]) (N := ["_law_script", "_law_source_here", "_law_alone", "_law_most", "_law_levels", "_law_below", "_law_above", "_law_one", "_law_passed", "_law_given", "_law_table", "_law_far", "_law_d", "_law_told", "_law_odd", "_law_twin", "_law_last", "_law_k", "_law_level_here", "_law_thing"]) (sc := defScope s_law) (by decide +kernel)) (dg_name (i := 19) (fun _ => sc_law.nd) (fun _ => rfl) (fun _ => Or.inl rfl)) dts_nil (de_cmp (dop_inO mon_Table__contains (ups_Table__contains T) (fun _ => ok_Table__contains T) T.mt_Table__contains.at_ T.mt_Table__contains.fn T.b_Table__contains (fun _ => pass0) (fun _ => hr.mono (by decide))) (dbv 19) (dbv 10) (by rfl))))) dab_nil))) (dw_or1 (dt_cmp (dop_eqO mon_Table__eq (ups_Table__eq T) (fun _ => ok_Table__eq T) T.mt_Table__eq.at_ T.mt_Table__eq.fn T.b_Table__eq (fun _ => pass0) (fun _ => hr.mono (by decide))) (dbv 10) (DX.b (de_tup (da_cons (dv 2) (da_cons (dv 4) (da_cons (dv 5) (da_cons (dv 6) da_nil)))))) (nomark _)))))
      (dss_one (ds_ret de_bl))
      dss_nil)
      (dss_cut (ds_set (i := 15) (fun _ => sc_law.nd) (fun _ => rfl) (fun _ => Or.inl rfl) (de_make mon_Table__init (ups_Table__init T) T.mk_Table (fun _ => ok_Table__init T) (fun _ => hr.mono (by decide)) (fun _ => by rfl) (fun _ => T.m_Table) T.b_Table__init .nil (dds := []) (fun _ => rfl) (fun _ => takes0) (da_cons (DO.x (do_revL (dv 2))) (da_cons (DO.x (do_lc (own := [("_law_level_here", 18)]) (fun _ => rfl) (fun _ => sc_law.nd) (di_seq (dv 4)) (fun _ => blkOk_by (own := [("_law_level_here", 18)]) (N := ["_law_script", "_law_source_here", "_law_alone", "_law_most", "_law_levels", "_law_below", "_law_above", "_law_one", "_law_passed", "_law_given", "_law_table", "_law_far", "_law_d", "_law_told", "_law_odd", "_law_twin", "_law_last", "_law_k", "_law_level_here", "_law_thing"]) (sc := defScope s_law) (by decide +kernel)) (dg_name (i := 18) (fun _ => sc_law.nd) (fun _ => rfl) (fun _ => Or.inl rfl)) dts_nil (DO.x (do_revL (dv 18))))) (da_cons (dv 5) (da_cons (dv 6) da_nil))))))
      (dss_cut (ds_set (i := 16) (fun _ => sc_law.nd) (fun _ => rfl) (fun _ => Or.inl rfl) (de_make mon_Table__init (ups_Table__init T) T.mk_Table (fun _ => ok_Table__init T) (fun _ => hr.mono (by decide)) (fun _ => by rfl) (fun _ => T.m_Table) T.b_Table__init .nil (dds := []) (fun _ => rfl) (fun _ => takes0) (da_cons (dv 2) (da_cons (dv 4) (da_cons (dv 5) (da_cons (de_op dop_add (DX.b de_int) (DX.b (de_op dop_mod (dbv 6) (dbv 3)))) da_nil))))))
      (dss_one (ds_ret (de_and (de_cmp (dop_eqO mon_Table__eq (ups_Table__eq T) (fun _ => ok_Table__eq T) T.mt_Table__eq.at_ T.mt_Table__eq.fn T.b_Table__eq (fun _ => pass0) (fun _ => hr.mono (by decide))) (dbv 10) (dbv 15) (nomark _)) (de_and (de_not (de_cmp (dop_neO mon_Table__eq (ups_Table__eq T) (fun _ => ok_Table__eq T) T.mt_Table__eq.at_ T.mt_Table__eq.fn T.cn_Table T.co_Table T.b_Table__eq (fun _ => pass0) (fun _ => hr.mono (by decide))) (dbv 10) (dbv 15) (nomark _))) (de_one (de_cmp (dop_eq (fun _ => hr.units)) (DX.b (de_cmp (dop_eqO mon_Table__eq (ups_Table__eq T) (fun _ => ok_Table__eq T) T.mt_Table__eq.at_ T.mt_Table__eq.fn T.b_Table__eq (fun _ => pass0) (fun _ => hr.mono (by decide))) (dbv 10) (dbv 16) (nomark _))) (DX.b (de_cmp (dop_eq (fun _ => hr.units)) (dbv 6) (DX.b (de_op dop_add (DX.b de_int) (DX.b (de_op dop_mod (dbv 6) (dbv 3))))) (nomark _))) (nomark _))))))))))))))))))))))))) hS (by decide) k fun p => st_eq (sl' := [.emp, .val (sD p), .emp, .emp, .emp, .emp, .emp, .emp, .emp, .emp, .emp, .emp, .emp, .emp, .emp, .emp, .emp, .emp, .emp, .emp]) rfl ?_
  have sm : ∀ m : Nat, m ≤ 1000 → m ≤ sizeLine := fun m h => Nat.le_trans h (by decide)
  refine cutI (fun a => ∃ al : List Tri, al.length ≤ 3 ∧ (∀ t ∈ al, triIn gapsL t) ∧ a = ⟨[.emp, .val (sD p), .val (.lst (al.map t3D)), .emp, .emp, .emp, .emp, .emp, .emp, .emp, .emp, .emp, .emp, .emp, .emp, .emp, .emp, .emp, .emp, .emp], 400, some p⟩) ?_ ?_
  · walk_at "drx"
    exact ⟨sm 3 (by decide), p, (gapsL, 3), rfl, rfl, ⟨(fun q => nomatch q), by decide, by decide⟩, by decide, fun ts ⟨q1, q2⟩ => ⟨ts, q1, q2, rfl⟩⟩
  rintro a ⟨al, al3, alI, rfl⟩
  refine cutI (fun a => ∃ m : Nat, 1 ≤ m ∧ m ≤ 3 ∧ a = ⟨[.emp, .val (sD p), .val (.lst (al.map t3D)), .val (eI (m : Nat)), .emp, .emp, .emp, .emp, .emp, .emp, .emp, .emp, .emp, .emp, .emp, .emp, .emp, .emp, .emp, .emp], 401, some p⟩) ?_ ?_
  · walk_at "drx"
    refine ⟨p, 3, rfl, rfl, ⟨by decide, by decide⟩, by decide, fun d ⟨d0, d1⟩ => ⟨rfl, d.toNat + 1, by omega, by omega, ?_⟩⟩
    rw [show (1 : Int) + d = ((d.toNat + 1 : Nat) : Int) by omega]
    rfl
  rintro a ⟨m, m1, m3, rfl⟩
  refine cutI (fun a => ∃ L n, Drawn m al L ∧ n ≤ 4000 ∧ a = ⟨[.emp, .val (sD p), .val (.lst (al.map t3D)), .val (eI (m : Nat)), .val (.lst (L.map fun l => .lst (l.map t3D))), .emp, .emp, .emp, .emp, .emp, .emp, .emp, .emp, .emp, .emp, .emp, .emp, .emp, .emp, .emp], n, some p⟩) ?_ ?_
  · walk_at "drx"
    refine ⟨.inl ⟨by decide, by decide⟩, ⟨by omega, by omega⟩, ?_⟩
    refine dLc_inv (fun i acc n' => ∃ L : List (List Tri), acc = L.map (fun l => .lst (l.map t3D)) ∧ L.length = i ∧ (∀ l ∈ L, l.length ≤ 4 ∧ ∀ t ∈ l, triIn signsL t) ∧ n' = 401 + 400 * (i : Nat)) ⟨[], rfl, rfl, (fun _ h => nomatch h), rfl⟩ (fun i d acc n' N hi ⟨L, e1, e2, e3, e4⟩ hN => ?_) fun acc n' ⟨L, e1, e2, e3, e4⟩ => ?_
    · obtain ⟨il, rfl⟩ := rng_at hi
      subst e1 e4
      walk_at "drx"
      refine ⟨sm 3 (by decide), p, (signsL, 4), rfl, rfl, ⟨(fun q => nomatch q), by decide, by decide⟩, by omega, fun ts ⟨q1, q2⟩ => ⟨rfl, by rw [List.length_map, e2]; exact Nat.lt_of_lt_of_le (show i < 100 by omega) (by decide), hN _ _ ⟨L ++ [ts], by rw [List.map_append]; rfl, by rw [List.length_append, e2]; rfl, fun l hl => ?_, by show (401 : Int) + 400 * (i : Nat) + 400 = _; omega⟩⟩⟩
      rcases List.mem_append.mp hl with q | q
      · exact e3 l q
      · rw [List.mem_singleton.mp q]
        exact ⟨q1, q2⟩
    · subst e1 e4
      rw [rng_len] at e2
      exact ⟨L, _, ⟨m1, m3, al3, alI, by omega, fun l hl => (e3 l hl).1, fun l hl => (e3 l hl).2⟩, by rw [rng_len]; omega, rfl⟩
  rintro a ⟨L, n, hD, hn, rfl⟩
  refine cutI (fun a => ∃ (b c : Nat) (n : Int), 1 ≤ b ∧ b ≤ m ∧ 1 ≤ c ∧ c ≤ m ∧ n ≤ 4002 ∧ a = ⟨[.emp, .val (sD p), .val (.lst (al.map t3D)), .val (eI (m : Nat)), .val (.lst (L.map fun l => .lst (l.map t3D))), .val (eI (b : Nat)), .val (eI (c : Nat)), .emp, .emp, .emp, .emp, .emp, .emp, .emp, .emp, .emp, .emp, .emp, .emp, .emp], n, some p⟩) ?_ ?_
  · walk_at "drx"
    refine ⟨p, (m : Nat), rfl, rfl, ⟨by omega, by omega⟩, by omega, fun d ⟨d0, d1⟩ => ⟨rfl, ?_⟩⟩
    refine ⟨p, (m : Nat), rfl, rfl, ⟨by omega, by omega⟩, by show n + 1 < 1000000; omega, fun e ⟨e0, e1⟩ => ⟨rfl, d.toNat + 1, e.toNat + 1, n + 1 + 1, by omega, by omega, by omega, by omega, ?_, ?_⟩⟩
    rotate_left
    · rw [show (1 : Int) + d = ((d.toNat + 1 : Nat) : Int) by omega, show (1 : Int) + e = ((e.toNat + 1 : Nat) : Int) by omega]
    · show n + 1 + 1 ≤ 4002
      omega
  rintro a ⟨b, c, n, b1, bm, c1, cm, hn, rfl⟩
  have hT : TabOk (tabOf al L b c) m := tabOf_ok hD b1 bm c1 cm
  refine ⟨fun s hs d e => ?_, fun Fs => ?_⟩
  · subst e
    simp at hs
  simp only [List.map_cons, List.map_nil, oldSl, oldD_v]
  have ov : ∀ (d : D) (F : Hp) (v : V), Same Fs F → Dat K F (oldD K Fs d) v → Dat K F d v := fun d F v s h => (oldD_to h).mono s
  have fv : ∀ (ds : List D) (F : Hp) (v : V), Same Fs F → Dat K F (flD K Fs ds) v → Dat K F (.lst ds) v := fun ds F v s h => flD_lst h
  walk_at "drx"
  dsimp only [dFl, dView]
  walk_at "drx"
  refine ⟨_, .lst (al.map t3D), rfl, fun F v => ov _ F v, ?_⟩
  generalize hAL : al.map t3D = RA
  refine dLc_inv (fun i acc n' => acc = (al.take i).map l3D ∧ n' = n) ⟨rfl, rfl⟩ ?_ ?_
  · rintro i d acc n' N hi ⟨rfl, rfl⟩ hN
    rw [← hAL, List.getElem?_map] at hi
    obtain ⟨r, hr', rfl⟩ := Option.map_eq_some_iff.mp hi
    have hil := (List.getElem?_eq_some_iff.mp hr').1
    dsimp only [t3D]
    walk_at "drx"
    refine ⟨rfl, by rw [List.length_map, List.length_take]; exact Nat.lt_of_lt_of_le (show _ < 1000 by omega) (by decide), hN _ _ ⟨?_, rfl⟩⟩
    rw [take_more hr', List.map_append]
    rfl
  rintro acc n' ⟨rfl, rfl⟩
  rw [← hAL, List.length_map, List.take_length, hAL]
  refine ⟨_, rfl, ?_⟩
  refine ⟨_, .lst (L.map fun l => .lst (l.map t3D)), rfl, fun F v => ov _ F v, ?_⟩
  walk_at "drx"
  generalize hLV : (L.map fun l => D.lst (l.map t3D)) = LV
  refine dLc_inv (fun i acc n'' => acc = (L.take i).map (fun l => flD K Fs (l.map t3D)) ∧ n'' = n') ⟨rfl, rfl⟩ ?_ ?_
  · rintro i d acc n'' N hi ⟨rfl, rfl⟩ hN
    rw [← hLV, List.getElem?_map] at hi
    obtain ⟨r, hr', rfl⟩ := Option.map_eq_some_iff.mp hi
    have hil := (List.getElem?_eq_some_iff.mp hr').1
    have ln := hD.len
    walk_at "drx"
    dsimp only [dFl]
    walk_at "drx"
    refine ⟨_, rfl, rfl, by rw [List.length_map, List.length_take]; exact Nat.lt_of_lt_of_le (show _ < 1000 by omega) (by decide), hN _ _ ⟨?_, rfl⟩⟩
    rw [take_more hr', List.map_append]
    rfl
  rintro acc n'' ⟨rfl, rfl⟩
  rw [← hLV, List.length_map, List.take_length, hLV]
  refine ⟨_, rfl, _, .lst (al.map l3D), rfl, fun F v => fv _ F v, _, .lst (L.map fun l => .lst (l.map t3D)), rfl, fun F v _ h => ?_, ?_⟩
  · obtain ⟨a, vs, e, q, l⟩ := flD_lst h
    exact ⟨a, vs, e, q, datL_mapW (fun x v h => flD_lst h) l⟩
  refine tab_good hD b1 bm c1 cm form_l ?_
  obtain ⟨l0, lt, rfl⟩ : ∃ l0 lt, L = l0 :: lt := by
    cases L with
    | nil => exact absurd hD.len (by show (0 : Nat) ≠ _; omega)
    | cons r rt => exact ⟨r, rt, rfl⟩
  have stl := still_tab T.C_Table (tabOf al (l0 :: lt) b c)
  generalize hL : l0 :: lt = L at *
  refine ⟨al, l0, lt.map (fun l => flD K Fs (l.map t3D)), [.emp, .val (sD p), .val (.lst RA), .val (eI (m : Nat)), .val (.lst LV), .val (eI (b : Nat)), .val (eI (c : Nat)), .emp, .emp, .emp, .val (tabD T.C_Table (tabOf al L b c)), .emp, .emp, .emp, .emp, .emp, .emp, .emp, .emp, .emp], rfl, ?_, ⟨rfl, fun s hs d e => ?_, fun i d e => ?_⟩, ?_⟩
  · rw [← hL]
    rfl
  · subst e
    simp at hs
  · match i, e with
    | 0, e => cases e
    | 1, e => cases e; exact ⟨_, rfl, .inr ⟨rfl, rfl⟩⟩
    | 2, e => cases e; exact ⟨_, rfl, .inl rfl⟩
    | 3, e => cases e; exact ⟨_, rfl, .inr ⟨rfl, rfl⟩⟩
    | 4, e => cases e; exact ⟨_, rfl, .inl rfl⟩
    | 5, e => cases e; exact ⟨_, rfl, .inr ⟨rfl, rfl⟩⟩
    | 6, e => cases e; exact ⟨_, rfl, .inr ⟨rfl, rfl⟩⟩
    | 7, e => cases e
    | 8, e => cases e
    | 9, e => cases e
    | 10, e => cases e; exact ⟨_, rfl, .inr ⟨rfl, stl⟩⟩
    | 11, e => cases e
    | 12, e => cases e
    | 13, e => cases e
    | 14, e => cases e
    | 15, e => cases e
    | 16, e => cases e
    | 17, e => cases e
    | 18, e => cases e
    | 19, e => cases e
  subst hAL hLV
  have al_ok : ∀ t ∈ al, triOk t := fun t ht => (triIn_ok (alI t ht) gaps_ok.1).2.2
  have lv_ok : ∀ l ∈ L, (∀ t ∈ l, triOk t) ∧ l.length ≤ 1000 := fun l hl => ⟨fun t ht => (triIn_ok (hD.lI l hl t ht) signs_ok.1).2.2, by have := hD.l4 l hl; omega⟩
  refine cutI (fun a => ∃ n : Int, n ≤ 4002 ∧ a = ⟨[.emp, .val (sD p), .val (.lst (al.map t3D)), .val (eI (m : Nat)), .val (.lst (L.map fun l => .lst (l.map t3D))), .val (eI (b : Nat)), .val (eI (c : Nat)), .emp, .emp, .emp, .val (tabD T.C_Table (tabOf al L b c)), .emp, .emp, .emp, .emp, .emp, .emp, .emp, .emp, .emp], n, some p⟩) ?_ ?_
  · walk_at "drx"
    refine ⟨rfl, tabOf al L b c, rfl, trivial, fun y hy => ?_⟩
    subst hy
    refine ⟨al, rfl, ⟨al_ok, by omega⟩, fun y hy => ?_⟩
    subst hy
    refine eq_tris hT.al ?_
    walk_at "drx"
    refine ⟨rfl, tabOf al L b c, rfl, trivial, fun y hy => ?_⟩
    subst hy
    refine ⟨rfl, tabOf al L b c, rfl, trivial, fun y hy => ?_⟩
    subst hy
    refine ⟨sm 2 (by decide), sm 2 (by decide), ?_⟩
    have o2 : okP (.lst [eI (b : Nat), eI (c : Nat)]) := ⟨rfl, by show (PyData.list [.int b, .int c]).depth ≤ 64; simp [PyData.depth, PyData.depthAll]⟩
    exact eq_dec (d := .lst [eI (b : Nat), eI (c : Nat)]) (e := .lst [eI (b : Nat), eI (c : Nat)]) o2 o2 (eqv_self o2) (fun _ q => nomatch q) ⟨_, hn, rfl⟩
  rintro a ⟨n, hn, rfl⟩
  refine cutI (fun a => ∃ n : Int, n ≤ 4002 ∧ a = ⟨[.emp, .val (sD p), .val (.lst (al.map t3D)), .val (eI (m : Nat)), .val (.lst (L.map fun l => .lst (l.map t3D))), .val (eI (b : Nat)), .val (eI (c : Nat)), .emp, .emp, .emp, .val (tabD T.C_Table (tabOf al L b c)), .emp, .emp, .emp, .emp, .emp, .emp, .emp, .emp, .emp], n, some p⟩) ?_ ?_
  · walk_at "drx"
    refine ⟨rfl, tabOf al L b c, rfl, trivial, fun y hy => ?_⟩
    subst hy
    walk_at "drx"
    refine dLc_inv (fun i acc n' => acc = (L.take i).map (fun l => trisD (sort3 (distT l))) ∧ n' = n) ⟨rfl, rfl⟩ ?_ ?_
    · rintro i d acc n' N hi ⟨e1, e2⟩ hN
      subst e1 e2
      rw [List.getElem?_map] at hi
      obtain ⟨r, hr', rfl⟩ := Option.map_eq_some_iff.mp hi
      have hil := (List.getElem?_eq_some_iff.mp hr').1
      have ln := hD.len
      walk_at "drx"
      refine ⟨r, rfl, lv_ok r (List.mem_of_getElem? hr'), fun y hy => ?_⟩
      subst hy
      walk_at "drx"
      refine ⟨rfl, by rw [List.length_map, List.length_take]; exact Nat.lt_of_lt_of_le (show _ < 1000 by omega) (by decide), hN _ _ ⟨?_, rfl⟩⟩
      rw [take_more hr', List.map_append]
      rfl
    rintro acc n' ⟨e1, e2⟩
    subst e1 e2
    rw [List.length_map, List.take_length]
    walk_at "drx"
    have el : L.map (fun l => trisD (sort3 (distT l))) = (tabOf al L b c).lv.map trisD := by
      show _ = (L.map _).map trisD
      rw [List.map_map]
      rfl
    rw [el]
    exact eq_lvls hT.lv ⟨_, hn, rfl⟩
  rintro a ⟨n, hn, rfl⟩
  refine cutI (fun a => ∃ n : Int, n ≤ 4002 ∧ a = ⟨[.emp, .val (sD p), .val (.lst (al.map t3D)), .val (eI (m : Nat)), .val (.lst (L.map fun l => .lst (l.map t3D))), .val (eI (b : Nat)), .val (eI (c : Nat)), .emp, .emp, .emp, .val (tabD T.C_Table (tabOf al L b c)), .val (.lst [eI (10 ^ 20 + (b : Nat)), eI (0 - 10 ^ 20 - (c : Nat)), eI (10 ^ 40)]), .emp, .emp, .emp, .emp, .emp, .emp, .emp, .emp], n, some p⟩) ?_ ?_
  · walk_at "drx"
    exact ⟨⟨by decide, by decide, by decide⟩, ⟨by decide, by decide, by decide⟩, ⟨by decide, by decide, by decide⟩, sm 3 (by decide), n, hn, rfl⟩
  rintro a ⟨n, hn, rfl⟩
  refine cutI (fun a => ∃ (n : Int) (s12 s13 : Sl), n ≤ 16000 ∧ a = ⟨[.emp, .val (sD p), .val (.lst (al.map t3D)), .val (eI (m : Nat)), .val (.lst (L.map fun l => .lst (l.map t3D))), .val (eI (b : Nat)), .val (eI (c : Nat)), .emp, .emp, .emp, .val (tabD T.C_Table (tabOf al L b c)), .val (.lst [eI (10 ^ 20 + (b : Nat)), eI (0 - 10 ^ 20 - (c : Nat)), eI (10 ^ 40)]), s12, s13, .emp, .emp, .emp, .emp, .emp, .emp], n, some p⟩) ?_ ?_
  · walk_at "drx"
    dsimp only [dListRg2]
    walk_at "drx"
    have cnt : ((m : Int) + 10 - (0 - (m : Int) - 9)).toNat = 2 * m + 19 := by omega
    refine ⟨⟨by omega, by omega, by omega, by omega, by omega⟩, by rw [rng_len, cnt]; exact sm _ (by show 2 * m + 19 + 3 ≤ 1000; omega), ?_⟩
    refine dLoop_inv (fun i a => ∃ (n' : Int) (s12 s13 : Sl), n' = n + 400 * (i : Nat) ∧ a = ⟨[.emp, .val (sD p), .val (.lst (al.map t3D)), .val (eI (m : Nat)), .val (.lst (L.map fun l => .lst (l.map t3D))), .val (eI (b : Nat)), .val (eI (c : Nat)), .emp, .emp, .emp, .val (tabD T.C_Table (tabOf al L b c)), .val (.lst [eI (10 ^ 20 + (b : Nat)), eI (0 - 10 ^ 20 - (c : Nat)), eI (10 ^ 40)]), s12, s13, .emp, .emp, .emp, .emp, .emp, .emp], n', some p⟩) ⟨_, _, _, by show n = n + 400 * 0; omega, rfl⟩ (fun i x a N hi ⟨n', s12, s13, en, ea⟩ hN => ?_) fun a ⟨n', s12, s13, en, ea⟩ => ?_
    · subst ea
      have il := (List.getElem?_eq_some_iff.mp hi).1
      rw [List.length_append, rng_len, cnt] at il
      replace il : i < 2 * m + 19 + 3 := il
      obtain ⟨d, rfl⟩ : ∃ d, x = eI d := by
        rcases List.mem_append.mp (List.mem_of_getElem? hi) with q | q
        · unfold rngD at q
          obtain ⟨z, _, rfl⟩ := List.mem_map.mp q
          exact ⟨_, rfl⟩
        · simp only [List.mem_cons, List.not_mem_nil, or_false] at q
          rcases q with rfl | rfl | rfl <;> exact ⟨_, rfl⟩
      walk_at "drx"
      refine ⟨⟨rfl, rfl⟩, (tabOf al L b c, d), rfl, ⟨m, hT⟩, fun y hy => ?_⟩
      subst hy
      walk_at "drx"
      change bIf false _ _
      refine bif_f ⟨(d, b, c), rfl, ⟨b1, by show b ≤ 3; omega, c1, by show c ≤ 3; omega⟩, fun y hy => ?_⟩
      replace hy : y = nearT b c d := hy
      have nl := near_lt c1 (show c ≤ 3 by omega) b1 (show b ≤ 3 by omega) d
      rw [← hy] at nl
      refine lvl_call ⟨m, hT, m3⟩ nl.1 nl.2 ?_
      have le : levelT (tabOf al L b c) y = levelT (tabOf al L b c) d := level_lvl hT (by rw [hy]; exact near_lvl m3 c1 cm b1 bm d)
      show dEqB true (trisD (levelT (tabOf al L b c) d)) (trisD (levelT (tabOf al L b c) y)) _
      rw [le]
      refine eq_tris (level_ok hT d) ?_
      change bIf false _ _
      refine bif_f ⟨p, (tabOf al L b c, d), rfl, rfl, ⟨m, hT⟩, by omega, fun y hy => ?_⟩
      subst hy
      change bIf false _ _
      exact bif_f (hN _ ⟨n' + 400, _, _, by rw [en]; show n + 400 * (i : Nat) + 400 = n + 400 * ((i + 1 : Nat) : Int); omega, rfl⟩)
    · subst ea
      rw [List.length_append, rng_len, cnt] at en
      exact ⟨n', s12, s13, by rw [en]; show n + 400 * ((2 * m + 19 + 3 : Nat) : Int) ≤ 16000; omega, rfl⟩
  rintro a ⟨n, s12, s13, hn, rfl⟩
  refine cutI (fun a => ∃ (n : Int) (s7 s12 s13 : Sl), n ≤ 17000 ∧ a = ⟨[.emp, .val (sD p), .val (.lst (al.map t3D)), .val (eI (m : Nat)), .val (.lst (L.map fun l => .lst (l.map t3D))), .val (eI (b : Nat)), .val (eI (c : Nat)), s7, .emp, .emp, .val (tabD T.C_Table (tabOf al L b c)), .val (.lst [eI (10 ^ 20 + (b : Nat)), eI (0 - 10 ^ 20 - (c : Nat)), eI (10 ^ 40)]), s12, s13, .emp, .emp, .emp, .emp, .emp, .emp], n, some p⟩) ?_ ?_
  · walk_at "drx"
    refine ⟨sm 3 (by decide), p, (gapsL, 3), rfl, rfl, ⟨(fun q => nomatch q), by decide, by decide⟩, by omega, fun ts ⟨q1, q2⟩ => ?_⟩
    dsimp only [seqD]
    refine dLoop_inv (fun i a => ∃ s7, a = ⟨[.emp, .val (sD p), .val (.lst (al.map t3D)), .val (eI (m : Nat)), .val (.lst (L.map fun l => .lst (l.map t3D))), .val (eI (b : Nat)), .val (eI (c : Nat)), s7, .emp, .emp, .val (tabD T.C_Table (tabOf al L b c)), .val (.lst [eI (10 ^ 20 + (b : Nat)), eI (0 - 10 ^ 20 - (c : Nat)), eI (10 ^ 40)]), s12, s13, .emp, .emp, .emp, .emp, .emp, .emp], n + 400, some p⟩) ⟨_, rfl⟩ (fun i y a N hi ⟨s7, ea⟩ hN => ?_) fun a ⟨s7, ea⟩ => ⟨_, s7, s12, s13, by omega, ea⟩
    subst ea
    obtain ⟨t, ht, rfl⟩ := List.mem_map.mp (List.mem_of_getElem? hi)
    obtain ⟨t1, t2, t3⟩ := triIn_ok (q2 t ht) gaps_ok.1
    walk_at "drx"
    refine inO_tab T (tabOf al L b c) (.tri t) hT ⟨t1, t2, t3⟩ ?_
    refine dIn_tri al_ok t3 ?_
    have eb : inQB (tabOf al L b c) (.tri t) = decide (t ∈ al) := decide_eq_decide.mpr mem_sort
    rw [eb]
    exact dne_self (hN _ ⟨_, rfl⟩)
  rintro a ⟨n, s7, s12, s13, hn, rfl⟩
  refine cutI (fun a => a = ⟨[.emp, .val (sD p), .val (.lst (al.map t3D)), .val (eI (m : Nat)), .val (.lst (L.map fun l => .lst (l.map t3D))), .val (eI (b : Nat)), .val (eI (c : Nat)), s7, .emp, .emp, .val (tabD T.C_Table (tabOf al L b c)), .val (.lst [eI (10 ^ 20 + (b : Nat)), eI (0 - 10 ^ 20 - (c : Nat)), eI (10 ^ 40)]), s12, s13, .val (.lst odd1), .emp, .emp, .emp, .emp, .emp], n, some p⟩) ?_ ?_
  · walk_at "drx"
    repeat' (first | rfl | decide | apply And.intro)
  rintro a rfl
  refine cutI (fun a => a = ⟨[.emp, .val (sD p), .val (.lst (al.map t3D)), .val (eI (m : Nat)), .val (.lst (L.map fun l => .lst (l.map t3D))), .val (eI (b : Nat)), .val (eI (c : Nat)), s7, .emp, .emp, .val (tabD T.C_Table (tabOf al L b c)), .val (.lst [eI (10 ^ 20 + (b : Nat)), eI (0 - 10 ^ 20 - (c : Nat)), eI (10 ^ 40)]), s12, s13, .val (.lst (odd1 ++ odd2)), .emp, .emp, .emp, .emp, .emp], n, some p⟩) ?_ ?_
  · walk_at "drx"
    repeat' (first | rfl | decide | apply And.intro)
  rintro a rfl
  refine cutI (fun a => a = ⟨[.emp, .val (sD p), .val (.lst (al.map t3D)), .val (eI (m : Nat)), .val (.lst (L.map fun l => .lst (l.map t3D))), .val (eI (b : Nat)), .val (eI (c : Nat)), s7, .emp, .emp, .val (tabD T.C_Table (tabOf al L b c)), .val (.lst [eI (10 ^ 20 + (b : Nat)), eI (0 - 10 ^ 20 - (c : Nat)), eI (10 ^ 40)]), s12, s13, .val (.lst (odd1 ++ odd2)), .emp, .emp, .emp, .emp, .emp], n, some p⟩) ?_ ?_
  · walk_at "drx"
    generalize hX : odd1 ++ odd2 = XS
    refine dLc_inv (fun i acc n' => acc = (XS.take i).map (fun _ => eB false) ∧ n' = n) ⟨rfl, rfl⟩ (fun i x acc n' N hi ⟨e1, e2⟩ hN => ?_) fun acc n' ⟨e1, e2⟩ => ?_
    · subst e1 e2
      have il := (List.getElem?_eq_some_iff.mp hi).1
      obtain ⟨q, rfl, hq, hb⟩ := odd_ask hD (b := b) (c := c) x (by rw [hX]; exact List.mem_of_getElem? hi)
      walk_at "drx"
      refine inO_tab T (tabOf al L b c) q hT hq ?_
      rw [hb]
      refine ⟨rfl, by rw [List.length_map, List.length_take]; exact Nat.lt_of_lt_of_le (show _ < 1000 by rw [← hX] at il ⊢; have : (odd1 ++ odd2).length = 11 := rfl; omega) (by decide), hN _ _ ⟨?_, rfl⟩⟩
      rw [take_more hi, List.map_append]
      rfl
    · subst e1 e2
      rw [List.take_length]
      walk_at "drx"
      rw [show unB (XS.map fun _ => eB false) = some (XS.map fun _ => false) from unB_map _ _]
      have na : (XS.map fun _ : D => false).any id = false := by
        rw [List.any_map]
        exact List.any_eq_false.mpr fun _ _ => Bool.false_ne_true
      change bIf ((XS.map fun _ : D => false).any id) _ _
      rw [na]
      refine bif_f ⟨sm 4 (by decide), ?_⟩
      refine eqO_tab T (tabOf al L b c) (.inr [.lst (al.map t3D), .lst (L.map fun l => .lst (l.map t3D)), eI (b : Nat), eI (c : Nat)]) hT (fun z q => nomatch q) ?_
      change bIf false _ _
      exact bif_f rfl
  rintro a rfl
  have hD' : Drawn m al.reverse (L.map List.reverse) := ⟨m1, m3, by rw [List.length_reverse]; exact al3, fun t ht => alI t (List.mem_reverse.mp ht), by rw [List.length_map]; exact hD.len, fun l hl => by
    obtain ⟨l0, h0, rfl⟩ := List.mem_map.mp hl
    rw [List.length_reverse]
    exact hD.l4 l0 h0, fun l hl t ht => by
    obtain ⟨l0, h0, rfl⟩ := List.mem_map.mp hl
    exact hD.lI l0 h0 t (List.mem_reverse.mp ht)⟩
  have tw : tabOf al.reverse (L.map List.reverse) b c = tabOf al L b c := by
    unfold tabOf
    rw [sort_rev, List.map_map]
    congr 1
    exact List.map_congr_left fun l _ => sort_rev l
  refine cutI (fun a => a = ⟨[.emp, .val (sD p), .val (.lst (al.map t3D)), .val (eI (m : Nat)), .val (.lst (L.map fun l => .lst (l.map t3D))), .val (eI (b : Nat)), .val (eI (c : Nat)), s7, .emp, .emp, .val (tabD T.C_Table (tabOf al L b c)), .val (.lst [eI (10 ^ 20 + (b : Nat)), eI (0 - 10 ^ 20 - (c : Nat)), eI (10 ^ 40)]), s12, s13, .val (.lst (odd1 ++ odd2)), .val (tabD T.C_Table (tabOf al L b c)), .emp, .emp, .emp, .emp], n, some p⟩) ?_ ?_
  · walk_at "drx"
    dsimp only [dRevL]
    walk_at "drx"
    refine dLc_inv (fun i acc n' => acc = (L.take i).map (fun l => .lst (l.reverse.map t3D)) ∧ n' = n) ⟨rfl, rfl⟩ ?_ ?_
    · rintro i d acc n' N hi ⟨e1, e2⟩ hN
      subst e1 e2
      rw [List.getElem?_map] at hi
      obtain ⟨r, hr', rfl⟩ := Option.map_eq_some_iff.mp hi
      have hil := (List.getElem?_eq_some_iff.mp hr').1
      have ln := hD.len
      walk_at "drx"
      dsimp only [dRevL]
      walk_at "drx"
      rw [← List.map_reverse]
      refine ⟨rfl, by rw [List.length_map, List.length_take]; exact Nat.lt_of_lt_of_le (show _ < 1000 by omega) (by decide), hN _ _ ⟨?_, rfl⟩⟩
      rw [take_more hr', List.map_append]
      rfl
    rintro acc n' ⟨e1, e2⟩
    subst e1 e2
    rw [List.length_map, List.take_length, ← List.map_reverse, show L.map (fun l => D.lst (l.reverse.map t3D)) = (L.map List.reverse).map (fun l => D.lst (l.map t3D)) by rw [List.map_map]; rfl]
    refine tab_good hD' b1 bm c1 cm form_t ?_
    rw [tw]
  rintro a rfl
  have mo : c % m < m := Nat.mod_lt c m1
  have hT2 : TabOk (tabOf al L b (1 + c % m)) m := tabOf_ok hD b1 bm (by omega) (by omega)
  have em : (1 : Int) + (c : Int) % (m : Int) = ((1 + c % m : Nat) : Int) := by
    rcases (by omega : m = 1 ∨ m = 2 ∨ m = 3) with rfl | rfl | rfl <;> omega
  refine cutI (fun a => a = ⟨[.emp, .val (sD p), .val (.lst (al.map t3D)), .val (eI (m : Nat)), .val (.lst (L.map fun l => .lst (l.map t3D))), .val (eI (b : Nat)), .val (eI (c : Nat)), s7, .emp, .emp, .val (tabD T.C_Table (tabOf al L b c)), .val (.lst [eI (10 ^ 20 + (b : Nat)), eI (0 - 10 ^ 20 - (c : Nat)), eI (10 ^ 40)]), s12, s13, .val (.lst (odd1 ++ odd2)), .val (tabD T.C_Table (tabOf al L b c)), .val (tabD T.C_Table (tabOf al L b (1 + c % m))), .emp, .emp, .emp], n, some p⟩) ?_ ?_
  · walk_at "drx"
    rw [em]
    refine ⟨by omega, tab_good hD b1 bm (by omega) (by omega) form_t ?_⟩
    rfl
  rintro a rfl
  walk_at "drx"
  have e1 : eqQB (tabOf al L b c) (.inl (tabOf al L b c)) = true := by
    unfold eqQB
    simp
  have e2 : eqQB (tabOf al L b c) (.inl (tabOf al L b (1 + c % m))) = decide (c = 1 + c % m) := by
    unfold eqQB tabOf
    simp
  refine eqO_tab T (tabOf al L b c) (.inl (tabOf al L b c)) hT (fun z q => ⟨m, by cases q; exact hT⟩) ?_
  rw [e1]
  change bIf true _ _
  refine bif_t (eqO_tab T (tabOf al L b c) (.inl (tabOf al L b c)) hT (fun z q => ⟨m, by cases q; exact hT⟩) ?_)
  rw [e1]
  change bIf true _ _
  refine bif_t (eqO_tab T (tabOf al L b c) (.inl (tabOf al L b (1 + c % m))) hT (fun z q => ⟨m, by cases q; exact hT2⟩) ?_)
  rw [e2, em]
  refine ⟨by omega, rfl, ?_⟩
  have e3 : decide (V.int (c : Nat) = V.int ((1 + c % m : Nat) : Int)) = decide (c = 1 + c % m) := decide_eq_decide.mpr ⟨fun q => by injection q with q; exact Int.ofNat_inj.mp q, fun q => congrArg (fun z : Nat => V.int (z : Int)) q⟩
  rw [e3]
  exact deq_self ⟨n, Int.le_refl _, rfl⟩
/-! ### the end by one run of the top: what is looked at behind it, by names -/
section
open PySem.Spec PyProof.Rows
abbrev FnZ : Type := Option (Str × Str × Arguments × FuncBody × Scope × Addr × Addr)
def fnZ (K : PySem.W.Frag) (a : Addr) : FnZ := match K.lookup a with
  | some ⟨_, _, .func fd, _⟩ => some (fd.name, fd.qualname, fd.params, fd.body, fd.scope, fd.globals, fd.builtins)
  | _ => none
/-- one def: where it stands, its names, its text -/
structure DefZ where
  at_ : PySem.W.Frag → Addr
  name : Str
  qual : Str
  st : Stmt
def DefZ.val (d : DefZ) : FnZ := some (d.name, d.qual, defArgs d.st, .stmts (defBody d.st), defScope d.st, mainGlobals, builtinsNs)
abbrev AlZ : Type := Bool × List FnZ × List (Option (List (Option (Str × Int))))
def obsZ (ck : List (PySem.W.Frag → Bool)) (fn : List DefZ) (ts : List (PySem.W.Frag → Addr)) (K : PySem.W.Frag) : AlZ := (ck.all fun c => c K, fn.map fun d => fnZ K (d.at_ K), ts.map fun t => He.dicW K (t K))
def valZ (fn : List DefZ) (ks : List (List Str)) (w : World) : AlZ := (true, fn.map DefZ.val, ks.map fun k => some (He.keysIn w.params k))
def obsZG (as : List Addr) (ck : List (PySem.W.Frag → Bool)) (fn : List DefZ) (ts : List (PySem.W.Frag → Addr)) (g : Addr → Option Obj) : AlZ := obsZ ck fn ts (He.frG g as)
def hookZ (as : List Addr) (ck : List (PySem.W.Frag → Bool)) (fn : List DefZ) (ts : List (PySem.W.Frag → Addr)) (ks : List (List Str)) : PySem.W.Hook where
  α := AlZ
  obs := fun s => obsZG as ck fn ts s.heap.get?
  val := fun w => valZ fn ks w
  says := fun w h => ∃ K : PySem.W.Frag, K.In h ∧ obsZ ck fn ts K = valZ fn ks w
  of := fun _ _ e => ⟨_, He.frG_in, e⟩
  keeps := fun _ _ _ ⟨K, hK, c⟩ k => ⟨K, PySem.W.Frag.In.keeps hK k, c⟩
theorem obsZG_eq {as : List Addr} {ck : List (PySem.W.Frag → Bool)} {fn : List DefZ} {ts : List (PySem.W.Frag → Addr)} {ks : List (List Str)} {g : Addr → Option Obj} {s : Shared} (h : ∀ a, g a = s.heap.get? a) : obsZG as ck fn ts g = (hookZ as ck fn ts ks).obs s := by
  have e : g = s.heap.get? := funext h
  rw [e] <;> rfl
/-- more is looked at, by another run -/
def ckZ (as : List Addr) (ck : List (PySem.W.Frag → Bool)) (g : Addr → Option Obj) : Bool := ck.all fun c => c (He.frG g as)
theorem runEq_add {r : PySem.W.OpenRow} {q : Program} {as : List Addr} {M : Nat} {loose : List PySem.Str} {w : World} {ck1 ck2 : List (PySem.W.Frag → Bool)} {fn : List DefZ} {ts : List (PySem.W.Frag → Addr)} {ks : List (List Str)}
    (h1 : HandSHeadRun.RunEq r q (hookZ as ck1 fn ts ks) (fun s => obsZG as ck1 fn ts (HandSHeadRun.getT s)) M loose w)
    (h2 : ∀ os, Option.map (fun s => ckZ as ck2 (HandSHeadRun.getT s)) (HandSHeadRun.endF (HandSHeadRun.stepQ (HandSHeadRun.denQ HandSHeadRun.tabQ) r.prog w) M r.prog w os) = some true) :
    HandSHeadRun.RunEq r q (hookZ as (ck2 ++ ck1) fn ts ks) (fun s => obsZG as (ck2 ++ ck1) fn ts (HandSHeadRun.getT s)) M loose w := by
  intro os
  have a := h1 os
  have b := h2 os
  revert a b
  generalize HandSHeadRun.endF (HandSHeadRun.stepQ (HandSHeadRun.denQ HandSHeadRun.tabQ) r.prog w) M r.prog w os = E
  intro a b
  cases E with
  | none => cases b
  | some s =>
    have b' : ckZ as ck2 (HandSHeadRun.getT s) = true := Option.some.inj b
    have a' := Option.some.inj a
    have a1 : _ = true := congrArg (fun z => z.1) a'
    have a2 := congrArg (fun z => z.2.1) a'
    have a3 : obsZG as ck1 fn ts (HandSHeadRun.getT s) = valZ fn ks w := congrArg (fun z => z.2.2) a'
    show some (_, _, obsZG as (ck2 ++ ck1) fn ts (HandSHeadRun.getT s)) = some (true, _, valZ fn ks w)
    have a4 : obsZG as (ck2 ++ ck1) fn ts (HandSHeadRun.getT s) = valZ fn ks w := by
      have c1 : (ck1.all fun c => c (He.frG (HandSHeadRun.getT s) as)) = true := congrArg (fun z : AlZ => z.1) a3
      have c2 : ((ck2 ++ ck1).all fun c => c (He.frG (HandSHeadRun.getT s) as)) = true := by
        rw [List.all_append, c1, Bool.and_true]
        exact b'
      have c3 := congrArg (fun z : AlZ => z.2) a3
      exact Prod.ext c2 c3
    rw [a4]
    exact congrArg some (Prod.ext a1 (Prod.ext a2 rfl))
section
variable {ck : List (PySem.W.Frag → Bool)} {fn : List DefZ} {ts : List (PySem.W.Frag → Addr)} {ks : List (List Str)} {K : PySem.W.Frag} {w : World} {h : Heap} {mg : Str → Option Value}
theorem z_ck (c : obsZ ck fn ts K = valZ fn ks w) (i : Nat) {f : PySem.W.Frag → Bool} (h : ck[i]? = some f := by rfl) : f K = true :=
  List.all_eq_true.mp (show (ck.all fun c => c K) = true from congrArg (fun z : AlZ => z.1) c) f (List.mem_of_getElem? h)
theorem z_fn (c : obsZ ck fn ts K = valZ fn ks w) (i : Nat) {d : DefZ} (h : fn[i]? = some d := by rfl) : fnZ K (d.at_ K) = d.val := by
  have e : fn.map (fun d => fnZ K (d.at_ K)) = fn.map DefZ.val := congrArg (fun z : AlZ => z.2.1) c
  have e2 : (fn.map fun d => fnZ K (d.at_ K))[i]? = (fn.map DefZ.val)[i]? := by rw [e]
  rw [List.getElem?_map, List.getElem?_map, h] at e2
  exact Option.some.inj e2
/-! defs -/
def plainB (q : Str) (dvs : List V) (a : PySem.W.Frag → Addr) (K : PySem.W.Frag) : Bool := PySem.W.keepIn K (.ref (a K)) && (match K.lookup (a K) with
  | some ⟨_, _, .func fd, _⟩ => fd.closure.isEmpty && (PySem.W.codeIn K fd.code q && He.dflB K fd.defaults dvs)
  | _ => false)
theorem plain_fd {d : DefZ} {dvs : List V} (e : fnZ K (d.at_ K) = d.val) (c : plainB d.qual dvs d.at_ K = true) : PySem.W.keepIn K (.ref (d.at_ K)) = true ∧ ∃ oc od dV kV doc pm an cdv ct osl, K.lookup (d.at_ K) = some ⟨oc, od, .func (PySem.W.fnOf d.name d.qual (defArgs d.st) (defBody d.st) (defScope d.st) dV kV doc pm an cdv ct), osl⟩ ∧ PySem.W.codeIn K cdv d.qual = true ∧ He.dflB K dV dvs = true := by
  obtain ⟨kp, c2⟩ := He.ba c
  refine ⟨kp, ?_⟩
  unfold fnZ at e
  cases q : K.lookup (d.at_ K) with
  | none =>
    rw [q] at c2
    cases c2
  | some o =>
    obtain ⟨oc, od, dt, osl⟩ := o
    rw [q] at c2 e
    cases dt with
    | func fd =>
      obtain ⟨n1, n2, n3, n4, n5, n6, n7, n8, n9, n10, n11, n12, n13, n14, n15⟩ := fd
      have e2 : (some (n1, n2, n3, n4, n5, n6, n15) : FnZ) = some (d.name, d.qual, defArgs d.st, .stmts (defBody d.st), defScope d.st, mainGlobals, builtinsNs) := e
      simp only [Option.some.injEq, Prod.mk.injEq] at e2
      obtain ⟨h1, h2, h3, h4, h5, h6, h7⟩ := e2
      have c3 : (n7.isEmpty && (PySem.W.codeIn K n13 d.qual && He.dflB K n8 dvs)) = true := c2
      obtain ⟨k1, k2⟩ := He.ba c3
      obtain ⟨k3, k4⟩ := He.ba k2
      have k5 : n7 = [] := List.isEmpty_iff.mp k1
      subst h1 h2 h3 h4 h5 h6 h7 k5
      exact ⟨_, _, _, _, _, _, _, _, _, _, rfl, k3, k4⟩
    | _ => cases c2
theorem fun_z {d : DefZ} (e : fnZ K (d.at_ K) = d.val) (c : plainB d.qual [] d.at_ K = true) : ∃ fd, Fun K d.name d.qual d.st (d.at_ K) fd := by
  obtain ⟨kp, oc, od, dV, kV, doc, pm, an, cdv, ct, osl, l, c1, c2⟩ := plain_fd e c
  have e : dV = .none := by
    cases dV with
    | none => rfl
    | _ => cases c2
  subst e
  exact ⟨_, fun_mk l c1 kp⟩
/-! a def with the class in its closure -/
def cellB (P : Program) (q : Str) (C a : PySem.W.Frag → Addr) (K : PySem.W.Frag) : Bool := match K.lookup (a K) with
  | some ⟨_, _, .func fd, _⟩ => (match fd.closure, fd.code, fd.defaults with
    | [(nm, cc)], .ref cda, .none => decide (nm = "__class__") && (PySem.W.codeIn K (.ref cda) q && ((match K.lookup cda with
        | some ⟨_, _, .fields vs, _⟩ => (match (vs[2]? : Option Value) with
          | some (.str file _) => (P.main.file : Str) == file
          | _ => false)
        | _ => false) && (match K.lookup cc with
        | some ⟨_, _, .cell (some (.ref D)), _⟩ => decide (D = C K)
        | _ => false)))
    | _, _, _ => false)
  | _ => false
theorem cell_z {P : Program} {d : DefZ} {C : PySem.W.Frag → Addr} (e : fnZ K (d.at_ K) = d.val) (c : cellB P d.qual C d.at_ K = true) :
    ∃ (oc kV doc pm ct : Value) (od an : Option Addr) (osl : Array (Option Value)) (cda cc : Addr) (vs : Array Value) (file : Str) (tf : Tok) (ccl cl : Value) (cdd cld : Option Addr) (ccs csl : Array (Option Value)),
    K.lookup (d.at_ K) = some ⟨oc, od, .func (PySem.W.ksFn d.name d.qual (defArgs d.st) (defBody d.st) (defScope d.st) .none kV doc pm an (.ref cda) ct cc), osl⟩ ∧ PySem.W.codeIn K (.ref cda) d.qual = true ∧
    K.lookup cda = some ⟨ccl, cdd, .fields vs, ccs⟩ ∧ vs[2]? = some (.str file tf) ∧ ((P.main.file : Str) == file) = true ∧ K.lookup cc = some ⟨cl, cld, .cell (some (.ref (C K))), csl⟩ := by
  unfold cellB at c
  unfold fnZ at e
  split at c
  · rename_i oc od fd osl q
    rw [q] at e
    split at c
    · rename_i nm cc cda h1 h2 h3
      obtain ⟨c1, c⟩ := He.ba c
      obtain ⟨c2, c⟩ := He.ba c
      obtain ⟨c3, c4⟩ := He.ba c
      split at c3
      · rename_i ccl cdd vs ccs q2
        split at c3
        · rename_i file tf q3
          split at c4
          · rename_i cl cld D csl q4
            obtain ⟨n1, n2, n3, n4, n5, n6, n7, n8, n9, n10, n11, n12, n13, n14, n15⟩ := fd
            have e2 : (some (n1, n2, n3, n4, n5, n6, n15) : FnZ) = some (d.name, d.qual, defArgs d.st, .stmts (defBody d.st), defScope d.st, mainGlobals, builtinsNs) := e
            simp only [Option.some.injEq, Prod.mk.injEq] at e2
            obtain ⟨g1, g2, g3, g4, g5, g6, g7⟩ := e2
            replace h1 : n7 = [(nm, cc)] := h1
            replace h2 : n13 = .ref cda := h2
            replace h3 : n8 = .none := h3
            have c1 := of_decide_eq_true c1
            have c4 := of_decide_eq_true c4
            subst g1 g2 g3 g4 g5 g6 g7 h1 h2 h3 c1 c4
            exact ⟨_, _, _, _, _, _, _, _, cda, cc, vs, file, tf, _, _, _, _, _, _, q, c2, q2, q3, c3, q4⟩
          · cases c4
        · cases c3
      · cases c3
    · cases c
  · cases c
/-! super().__init__ of a plain class -/
/-! a property -/
def getZ (C m : Str) (K : PySem.W.Frag) : Addr := match PySem.W.recIn K (He.ma K (He.ga K C) m) "property" with
  | some (.ref g :: _) => g
  | _ => 0
def propB (C m : Str) (K : PySem.W.Frag) : Bool := He.eqO (PySem.W.findIn K (.ref (He.ga K C)) m) (some (some (.ref (He.ma K (He.ga K C) m)))) && (He.eqO (PySem.W.specialIn K (.ref (He.ma K (He.ga K C) m)) "__get__") (some (some (.builtin "property.__get__"))) && (decide (PySem.W.takesIn K (.ref (He.ma K (He.ga K C) m)) = some true) && (match PySem.W.recIn K (He.ma K (He.ga K C) m) "property" with
  | some (.ref _ :: _) => true
  | _ => false)))
theorem prop_z {C m : Str} (c : propB C m K = true) : PropOf K (He.ga K C) m (He.ma K (He.ga K C) m) (getZ C m K) := by
  obtain ⟨c1, c⟩ := He.ba c
  obtain ⟨c2, c⟩ := He.ba c
  obtain ⟨c3, c4⟩ := He.ba c
  refine ⟨He.eqO_ok c1, He.eqO_ok c2, of_decide_eq_true c3, ?_⟩
  unfold getZ
  split at c4
  · rename_i g r q
    rw [q]
    exact ⟨r, rfl⟩
  · cases c4
/-! tuples, tables -/
def tupZ (K : PySem.W.Frag) (a : Addr) (vs : List V) : Bool := match K.lookup a with
  | some ⟨.type c, none, .seq its _, _⟩ => decide (c = "tuple") && (decide (its.size ≤ sizeLine) && He.relAll vs its.toList)
  | _ => false
theorem tup_z {a : Addr} {vs : List V} (c : tupZ K a vs = true) : (∀ H : Hp, SqT K H a vs) ∧ ∃ o, K.lookup a = some o ∧ o.cls = .type "tuple" ∧ o.dict = none := by
  unfold tupZ at c
  split at c
  · rename_i cn its n sl q
    obtain ⟨h1, h2⟩ := He.ba c
    obtain ⟨h3, h4⟩ := He.ba h2
    have h1 := of_decide_eq_true h1
    subst h1
    exact ⟨fun H => .inr ⟨_, its, n, q, rfl, rfl, of_decide_eq_true h3, He.relAll_ok h4⟩, _, q, rfl, rfl⟩
  · cases c
/-! data -/
/-! errors -/
def excB (C : Addr) (K : PySem.W.Frag) : Bool := match K.lookup C with
  | some ⟨.type c, _, .cls cd, sl⟩ => (match cd.mro, sl.toList with
    | .ref D :: bm, [_, _, _, _, some (.builtin n), _] => decide (c = "type") && (decide (D = C) && (decide (n = "ValueError.__new__") && (!cd.hasDel && (cd.hasDict && PySem.HandSPX.refsVE bm))))
    | _, _ => false)
  | _ => false
theorem exc_z {C : Addr} (c : excB C K = true) : ∃ nm q N bs bm sn sub ab col dd k0 k1 k2 k3 k5, K.lookup C = some (excClassObj nm q C N bs bm true sn sub ab col dd k0 k1 k2 k3 k5 "ValueError.__new__") ∧ PySem.HandSPX.refsVE bm = true := by
  unfold excB at c
  split at c
  · rename_i cn dd cd sl ho
    split at c
    · rename_i D bm k0 k1 k2 k3 n k5 hm hs
      obtain ⟨h1, c⟩ := He.ba c
      obtain ⟨h2, c⟩ := He.ba c
      obtain ⟨h3, c⟩ := He.ba c
      obtain ⟨h4, c⟩ := He.ba c
      obtain ⟨h5, h6⟩ := He.ba c
      obtain ⟨nm, bs, mro, ns, qn, hd, sn, sub, ab, col, del⟩ := cd
      replace hm : mro = .ref D :: bm := hm
      replace h4 : (!del) = true := h4
      replace h5 : hd = true := h5
      have h4 : del = false := by simpa using h4
      have h1 := of_decide_eq_true h1
      have h2 := of_decide_eq_true h2
      have h3 := of_decide_eq_true h3
      have hsl : sl = #[k0, k1, k2, k3, some (.builtin n), k5] := by
        obtain ⟨l⟩ := sl
        simp only at hs
        rw [hs]
      subst h1 h2 h3 h4 h5 hm hsl
      exact ⟨_, _, _, _, _, _, _, _, _, _, _, _, _, _, _, ho, h6⟩
    · cases c
  · cases c
/-- all of an error class that its making asks -/
def errB (P : Program) (x : Str) (K : PySem.W.Frag) : Bool :=
  (He.Fa.glo x).ok K && (excB (He.ga K x) K && (He.eqO (PySem.W.findIn K (.ref (He.ga K x)) "__setattr__") (some (some (.builtin "object.__setattr__"))) && (He.eqO (PySem.W.findIn K (.ref (He.ga K x)) "__getattribute__") (some (some (.builtin "BaseException.__getattribute__"))) &&
  (He.eqO (PySem.W.findIn K (.ref (He.ga K x)) "__getattr__") (some none) && (He.eqO (PySem.W.findIn K (.ref (He.ga K x)) "__init__") (some (some (.ref (He.ma K (He.ga K x) "__init__")))) && (decide (PySem.W.typeIn K (.ref (He.ma K (He.ga K x) "__init__")) = some (.type "function")) &&
  (PySem.W.keepIn K (.ref (He.ga K x)) && (decide (PySem.W.subIn K (.ref (He.ga K x)) (.type "BaseException") = some true) && (decide (PySem.W.typeIn K (.ref (He.ga K x)) = some (.type "type")) && (PySem.W.hasDictIn K (He.ga K x) &&
  (He.eqO (PySem.W.nsIn K mainGlobals "super") (some none) && (He.eqO (PySem.W.ks_superIn K (He.ga K x) (He.ga K x) "__init__") (some (some (.builtin "ValueError.__init__"))) && (decide (PySem.W.subIn K (.ref (He.ga K x)) (.type "ValueError") = some true) &&
  (decide (PySem.W.mroIn K (He.ga K x) (.ref (He.ga K x)) = some true) && (He.eqO (PySem.W.nsIn K PySem.cStatics "thirdparty.any") (some none) && !(P.main.scope.names.lookup ("super" : Str)).isSome)))))))))))))))
theorem err_z {P : Program} {x : Str} (X : K.In h) (G : h.Ns mainGlobals mg) (c : errB P x K = true) : PySem.SupX.ClsTxt P K mg (He.ga K x) (He.ma K (He.ga K x) "__init__") x ∧ XfC K (He.ga K x) := by
  obtain ⟨c1, c⟩ := He.ba c
  obtain ⟨c2, c⟩ := He.ba c
  obtain ⟨c3, c⟩ := He.ba c
  obtain ⟨c4, c⟩ := He.ba c
  obtain ⟨c5, c⟩ := He.ba c
  obtain ⟨c6, c⟩ := He.ba c
  obtain ⟨c7, c⟩ := He.ba c
  obtain ⟨c8, c⟩ := He.ba c
  obtain ⟨c9, c⟩ := He.ba c
  obtain ⟨c10, c⟩ := He.ba c
  obtain ⟨c11, c⟩ := He.ba c
  obtain ⟨c12, c⟩ := He.ba c
  obtain ⟨c13, c⟩ := He.ba c
  obtain ⟨c14, c⟩ := He.ba c
  obtain ⟨c15, c⟩ := He.ba c
  obtain ⟨c16, c17⟩ := He.ba c
  exact ⟨{ gC := He.glo_ok X G c1, cls := exc_z c2, sa := He.eqO_ok c3, ga := He.eqO_ok c4, gg := He.eqO_ok c5, iC := He.eqO_ok c6, tC := of_decide_eq_true c7, kC := c8, exC := of_decide_eq_true c9, tyC := of_decide_eq_true c10, hdC := c11, msup := PySem.W.mg_none_of X G (He.eqO_ok c12), sup := He.eqO_ok c13, sve := of_decide_eq_true c14, mro := of_decide_eq_true c15, st := He.eqO_ok c16, htop := by simpa using c17 },
    ⟨He.eqO_ok c4, He.eqO_ok c5, of_decide_eq_true c9, c11⟩⟩
def exmB (x y : Str) (b : Bool) (K : PySem.W.Frag) : Bool := decide (PySem.W.exmOne K (.ref (He.ga K x)) (.ref (He.ga K y)) = some b)
end
end
end
abbrev zR : PySem.W.OpenRow := PySem.W.OpenLaw.row PySem.Challenge.rw_nearloops_k50_tables
abbrev zP : Program := PySem.W.OpenLaw.prog PySem.Challenge.rw_nearloops_k50_tables
def zckA0 : List (PySem.W.Frag → Bool) := [fun K => He.Fa.ok K (.glo "law"), fun K => He.Fa.ok K (.glo "Table"), fun K => He.Fa.ok K (.cls "Table"), fun K => He.Fa.ok K (.noat "Table" "_alone"), fun K => He.Fa.ok K (.noat "Table" "_levels"), fun K => He.Fa.ok K (.noat "Table" "_below"), fun K => He.Fa.ok K (.noat "Table" "_above"), fun K => He.eqO (PySem.W.findIn K (.ref (He.ga K "Table")) "__class__") (some (some (.builtin "object.__class__"))), fun K => He.eqO (PySem.W.specialIn K (.builtin "object.__class__") "__get__") (some (some (.builtin "getset_descriptor.__get__"))), fun K => He.eqO (PySem.W.findIn K (.ref (He.ga K "Table")) "__ne__") (some (some (.builtin "object.__ne__"))), fun K => decide (PySem.W.takesIn K (.builtin "object.__class__") = some true), fun K => decide (PySem.W.mroIn K (He.ga K "Table") (.type "object") = some true), fun K => decide (PySem.W.kitOne K (.type "tuple") (.ref (He.ga K "Table")) = some false), fun K => PySem.W.notFirst K (He.ga K "Table") (.ref (He.ga K "Table")), fun K => PySem.W.notFirst K (He.ga K "Table") (.type "tuple"), fun K => He.Fa.ok K (.str "LETTERS" "abcdefghijklmnopqrstuvwxyz")]
def zckA1 : List (PySem.W.Frag → Bool) := [plainB "is_name" [] ((fun K => He.ga K "is_name")), fun K => He.Fa.ok K (.glo "is_name"), plainB "_checked_states" [] ((fun K => He.ga K "_checked_states")), fun K => He.Fa.ok K (.glo "_checked_states"), plainB "_checked_levels" [] ((fun K => He.ga K "_checked_levels")), fun K => He.Fa.ok K (.glo "_checked_levels"), plainB "_checked_period" [] ((fun K => He.ga K "_checked_period")), fun K => He.Fa.ok K (.glo "_checked_period"), fun K => He.Fa.ok K (.mkr "Table"), plainB "Table.__init__" [] ((fun K => He.ma K (He.ga K "Table") "__init__")), propB "Table" "alone", plainB "Table.alone" [] ((fun K => getZ "Table" "alone" K)), propB "Table" "levels", plainB "Table.levels" [] ((fun K => getZ "Table" "levels" K)), propB "Table" "below", plainB "Table.below" [] ((fun K => getZ "Table" "below" K))]
def zckA2 : List (PySem.W.Frag → Bool) := [propB "Table" "above", plainB "Table.above" [] ((fun K => getZ "Table" "above" K)), fun K => He.Fa.ok K (.meth "Table" "level"), plainB "Table.level" [] ((fun K => He.ma K (He.ga K "Table") "level")), fun K => He.Fa.ok K (.meth "Table" "__contains__"), plainB "Table.__contains__" [] ((fun K => He.ma K (He.ga K "Table") "__contains__")), fun K => He.Fa.ok K (.meth "Table" "__eq__"), plainB "Table.__eq__" [] ((fun K => He.ma K (He.ga K "Table") "__eq__")), plainB "_law_source" [] ((fun K => He.ga K "_law_source")), fun K => He.Fa.ok K (.glo "_law_source"), plainB "_law_draw" [] ((fun K => He.ga K "_law_draw")), fun K => He.Fa.ok K (.glo "_law_draw"), plainB "_law_pick" [] ((fun K => He.ga K "_law_pick")), fun K => He.Fa.ok K (.glo "_law_pick"), plainB "_law_level" [] ((fun K => He.ga K "_law_level")), fun K => He.Fa.ok K (.glo "_law_level")]
def zckA3 : List (PySem.W.Frag → Bool) := [plainB "_law_triples" [] ((fun K => He.ga K "_law_triples")), fun K => He.Fa.ok K (.glo "_law_triples"), plainB "_law_ascending" [] ((fun K => He.ga K "_law_ascending")), fun K => He.Fa.ok K (.glo "_law_ascending"), plainB "_law_near" [] ((fun K => He.ga K "_law_near")), fun K => He.Fa.ok K (.glo "_law_near"), plainB "_law_holds_rightly" [] ((fun K => He.ga K "_law_holds_rightly")), fun K => He.Fa.ok K (.glo "_law_holds_rightly"), plainB "law" [] ((fun K => He.ga K "law")), fun K => He.Fa.ok K (.free "int"), fun K => He.Fa.ok K (.free "str"), fun K => He.Fa.ok K (.free "bool"), fun K => He.Fa.ok K (.free "range"), fun K => He.Fa.ok K (.free "len"), fun K => He.Fa.ok K (.free "isinstance"), fun K => He.Fa.ok K (.free "all")]
def zckA4 : List (PySem.W.Frag → Bool) := [fun K => He.Fa.ok K (.free "any"), fun K => He.Fa.ok K (.free "list"), fun K => He.Fa.ok K (.free "tuple"), fun K => He.Fa.ok K (.free "sorted"), fun K => He.Fa.ok K (.free "enumerate"), fun K => He.Fa.ok K (.free "abs"), fun K => tupZ K (He.ga K "SIGNS") c_SIGNS, fun K => He.Fa.ok K (.glo "SIGNS"), fun K => tupZ K (He.ga K "LONE_GAPS") c_LONE_GAPS, fun K => He.Fa.ok K (.glo "LONE_GAPS"), errB zP "BadTable", cellB zP "BadTable.__init__" (fun K => He.ga K "BadTable") (fun K => He.ma K (He.ga K "BadTable") "__init__"), exmB "BadTable" "BadTable" true]
def zckA : List (PySem.W.Frag → Bool) := zckA0 ++ (zckA1 ++ (zckA2 ++ (zckA3 ++ (zckA4))))
def zas0 : List Addr := [3, 6, 4, 24, 46, 53, 54, 55, 62, 67, 74, 144, 155, 162, 169, 176, 183, 188, 195, 202, 207, 0, 23, 45]
def zas1 : List Addr := [52, 61, 66, 73, 143, 154, 161, 168, 175, 182, 187, 194, 201, 206, 22, 25, 43, 44, 49, 50, 51, 56, 57, 58]
def zas2 : List Addr := [59, 60, 63, 64, 65, 68, 69, 70, 71, 72, 88, 96, 104, 112, 120, 127, 134, 141, 142, 145, 146, 149, 150, 151]
def zas3 : List Addr := [152, 153, 156, 157, 158, 159, 160, 163, 164, 165, 166, 167, 170, 171, 172, 173, 174, 177, 178, 179, 180, 181, 184, 185]
def zas4 : List Addr := [186, 189, 190, 191, 192, 193, 196, 197, 198, 199, 200, 203, 204, 205, 42, 31, 87, 95, 103, 111, 119, 126, 133, 140]
def zas5 : List Addr := [37, 38, 39, 40, 41, 82, 83, 84, 85, 86, 94, 102, 110, 118, 121, 122, 123, 124, 125, 128, 129, 130, 131, 132]
def zas6 : List Addr := [135, 136, 137, 138, 139, 2]
def zas : List Addr := zas0 ++ (zas1 ++ (zas2 ++ (zas3 ++ (zas4 ++ (zas5 ++ (zas6))))))
def zck : List (PySem.W.Frag → Bool) := zckA ++ []
def zfn0 : List DefZ := [⟨(fun K => He.ga K "is_name"), "is_name", "is_name", s_is_name⟩, ⟨(fun K => He.ga K "_checked_states"), "_checked_states", "_checked_states", s_checked_states⟩, ⟨(fun K => He.ga K "_checked_levels"), "_checked_levels", "_checked_levels", s_checked_levels⟩, ⟨(fun K => He.ga K "_checked_period"), "_checked_period", "_checked_period", s_checked_period⟩, ⟨(fun K => He.ma K (He.ga K "Table") "__init__"), "__init__", "Table.__init__", s_Table__init⟩, ⟨(fun K => getZ "Table" "alone" K), "alone", "Table.alone", s_Table_alone⟩, ⟨(fun K => getZ "Table" "levels" K), "levels", "Table.levels", s_Table_levels⟩, ⟨(fun K => getZ "Table" "below" K), "below", "Table.below", s_Table_below⟩, ⟨(fun K => getZ "Table" "above" K), "above", "Table.above", s_Table_above⟩, ⟨(fun K => He.ma K (He.ga K "Table") "level"), "level", "Table.level", s_Table_level⟩, ⟨(fun K => He.ma K (He.ga K "Table") "__contains__"), "__contains__", "Table.__contains__", s_Table__contains⟩, ⟨(fun K => He.ma K (He.ga K "Table") "__eq__"), "__eq__", "Table.__eq__", s_Table__eq⟩, ⟨(fun K => He.ga K "_law_source"), "_law_source", "_law_source", s_law_source⟩, ⟨(fun K => He.ga K "_law_draw"), "_law_draw", "_law_draw", s_law_draw⟩, ⟨(fun K => He.ga K "_law_pick"), "_law_pick", "_law_pick", s_law_pick⟩, ⟨(fun K => He.ga K "_law_level"), "_law_level", "_law_level", s_law_level⟩]
def zfn1 : List DefZ := [⟨(fun K => He.ga K "_law_triples"), "_law_triples", "_law_triples", s_law_triples⟩, ⟨(fun K => He.ga K "_law_ascending"), "_law_ascending", "_law_ascending", s_law_ascending⟩, ⟨(fun K => He.ga K "_law_near"), "_law_near", "_law_near", s_law_near⟩, ⟨(fun K => He.ga K "_law_holds_rightly"), "_law_holds_rightly", "_law_holds_rightly", s_law_holds_rightly⟩, ⟨(fun K => He.ga K "law"), "law", "law", s_law⟩, ⟨(fun K => He.ma K (He.ga K "BadTable") "__init__"), "__init__", "BadTable.__init__", (inClass (top 2) 0)⟩]
def zfn : List DefZ := zfn0 ++ (zfn1)
def zts0 : List (PySem.W.Frag → Addr) := []
def zts : List (PySem.W.Frag → Addr) := zts0
def zks0 : List (List Str) := []
def zks : List (List Str) := zks0
def znames0 : List PySem.Str := ["__name__", "NearError", "BadTable", "LETTERS", "is_name", "SIGNS", "LONE_GAPS", "_checked_states", "_checked_levels", "_checked_period", "Table", "_law_source", "_law_draw", "_law_pick", "_law_level", "_law_triples"]
def znames1 : List PySem.Str := ["_law_ascending", "_law_near", "_law_holds_rightly"]
def znames : List PySem.Str := znames0 ++ (znames1)
abbrev zhk : PySem.W.Hook := hookZ zas zck zfn zts zks
def zob (s : PySem.W.SharedT) : AlZ := obsZG zas zck zfn zts (HandSHeadRun.getT s)
theorem zob_eq (s : PySem.W.SharedT) : zob s = zhk.obs s.abs := obsZG_eq (HandSHeadRun.getT_eq s)
set_option maxHeartbeats 0 in
theorem zrun0z (w : World) : HandSHeadRun.RunEq zR (PySem.W.view zR.prog [22]) (hookZ zas [] zfn zts zks) (fun s => obsZG zas [] zfn zts (HandSHeadRun.getT s)) 20000 znames (w.withFollow "special-get-raises" false) := by
  intro os
  kernel_rfl
set_option maxHeartbeats 0 in
theorem zrun0A (w : World) (os : OsState) : Option.map (fun s => ckZ zas zckA (HandSHeadRun.getT s)) (HandSHeadRun.endF (HandSHeadRun.stepQ (HandSHeadRun.denQ HandSHeadRun.tabQ) zR.prog (w.withFollow "special-get-raises" false)) 20000 zR.prog (w.withFollow "special-get-raises" false) os) = some true := by
  kernel_rfl
theorem zrun0 (w : World) : HandSHeadRun.RunEq zR (PySem.W.view zR.prog [22]) zhk zob 20000 znames (w.withFollow "special-get-raises" false) := runEq_add (zrun0z w) (zrun0A w)
set_option maxHeartbeats 0 in
theorem zrun1z (w : World) : HandSHeadRun.RunEq zR (PySem.W.view zR.prog [22]) (hookZ zas [] zfn zts zks) (fun s => obsZG zas [] zfn zts (HandSHeadRun.getT s)) 20000 znames (w.withFollow "special-get-raises" true) := by
  intro os
  kernel_rfl
set_option maxHeartbeats 0 in
theorem zrun1A (w : World) (os : OsState) : Option.map (fun s => ckZ zas zckA (HandSHeadRun.getT s)) (HandSHeadRun.endF (HandSHeadRun.stepQ (HandSHeadRun.denQ HandSHeadRun.tabQ) zR.prog (w.withFollow "special-get-raises" true)) 20000 zR.prog (w.withFollow "special-get-raises" true) os) = some true := by
  kernel_rfl
theorem zrun1 (w : World) : HandSHeadRun.RunEq zR (PySem.W.view zR.prog [22]) zhk zob 20000 znames (w.withFollow "special-get-raises" true) := runEq_add (zrun1z w) (zrun1A w)
theorem zrun (w : World) : HandSHeadRun.RunEq zR (PySem.W.view zR.prog [22]) zhk zob 20000 znames w := PySem.W.byRow2 "special-get-raises" (P := fun w => HandSHeadRun.RunEq zR (PySem.W.view zR.prog [22]) zhk zob 20000 znames w) zrun0 zrun1 w
theorem z_to {K : PySem.W.Frag} {f : Addr} {fd : FuncData} (F : Fun K "law" "law" s_law f fd) (s : Shared) (v : Value) : BindsTo s fd ⟨[v], []⟩ [("_law_script", v)] := by
  obtain ⟨oc, od, kV, doc, pm, an, cdv, ct, osl, rfl, _, _⟩ := F.ex
  exact .of_eq rfl
set_option maxHeartbeats 0 in
theorem zfacts {w : World} {K : PySem.W.Frag} {h : Heap} {mg : Str → Option Value} {fa : Addr} (X : K.In h) (G : h.Ns mainGlobals mg) (hfa : mg "law" = some (.ref fa)) (c : obsZ zck zfn zts K = valZ zfn zks w) :
    ∃ fd : FuncData, (∀ (s : Shared) (v : Value), BindsTo s fd ⟨[v], []⟩ [("_law_script", v)]) ∧ ∀ base : Heap, K.In base → base.Ns mainGlobals mg → FnOk zP w K mg base CX0 12 fa fd ["_law_script"] (spLaw K) := by
  have e := hfa.symm.trans (He.glo_ok X G (x := "law") (z_ck c 0))
  cases e
  obtain ⟨t_LETTERS, g_LETTERS⟩ := He.str_ok X G (x := "LETTERS") (z_ck c 15)
  obtain ⟨d_is_name, F_is_name⟩ : ∃ fd, Fun K "is_name" "is_name" s_is_name (He.ga K "is_name") fd := fun_z (d := ⟨(fun K => He.ga K "is_name"), "is_name", "is_name", s_is_name⟩) (z_fn c 0) (z_ck c 16)
  have b_is_name := F_is_name.binds (ps := ["thing"]) fun _ _ _ _ _ _ us hl => match us, hl with | [_], _ => rfl
  obtain ⟨d_checked_states, F_checked_states⟩ : ∃ fd, Fun K "_checked_states" "_checked_states" s_checked_states (He.ga K "_checked_states") fd := fun_z (d := ⟨(fun K => He.ga K "_checked_states"), "_checked_states", "_checked_states", s_checked_states⟩) (z_fn c 1) (z_ck c 18)
  have b_checked_states := F_checked_states.binds (ps := ["things", "words"]) fun _ _ _ _ _ _ us hl => match us, hl with | [_, _], _ => rfl
  obtain ⟨d_checked_levels, F_checked_levels⟩ : ∃ fd, Fun K "_checked_levels" "_checked_levels" s_checked_levels (He.ga K "_checked_levels") fd := fun_z (d := ⟨(fun K => He.ga K "_checked_levels"), "_checked_levels", "_checked_levels", s_checked_levels⟩) (z_fn c 2) (z_ck c 20)
  have b_checked_levels := F_checked_levels.binds (ps := ["things"]) fun _ _ _ _ _ _ us hl => match us, hl with | [_], _ => rfl
  obtain ⟨d_checked_period, F_checked_period⟩ : ∃ fd, Fun K "_checked_period" "_checked_period" s_checked_period (He.ga K "_checked_period") fd := fun_z (d := ⟨(fun K => He.ga K "_checked_period"), "_checked_period", "_checked_period", s_checked_period⟩) (z_fn c 3) (z_ck c 22)
  have b_checked_period := F_checked_period.binds (ps := ["thing", "most"]) fun _ _ _ _ _ _ us hl => match us, hl with | [_, _], _ => rfl
  obtain ⟨d_Table__init, F_Table__init⟩ : ∃ fd, Fun K "__init__" "Table.__init__" s_Table__init (He.ma K (He.ga K "Table") "__init__") fd := fun_z (d := ⟨(fun K => He.ma K (He.ga K "Table") "__init__"), "__init__", "Table.__init__", s_Table__init⟩) (z_fn c 4) (z_ck c 25)
  have b_Table__init := F_Table__init.binds (ps := ["self", "alone", "levels", "below", "above"]) fun _ _ _ _ _ _ us hl => match us, hl with | [_, _, _, _, _], _ => rfl
  obtain ⟨d_Table_alone, F_Table_alone⟩ : ∃ fd, Fun K "alone" "Table.alone" s_Table_alone (getZ "Table" "alone" K) fd := fun_z (d := ⟨(fun K => getZ "Table" "alone" K), "alone", "Table.alone", s_Table_alone⟩) (z_fn c 5) (z_ck c 27)
  have b_Table_alone := F_Table_alone.binds (ps := ["self"]) fun _ _ _ _ _ _ us hl => match us, hl with | [_], _ => rfl
  obtain ⟨d_Table_levels, F_Table_levels⟩ : ∃ fd, Fun K "levels" "Table.levels" s_Table_levels (getZ "Table" "levels" K) fd := fun_z (d := ⟨(fun K => getZ "Table" "levels" K), "levels", "Table.levels", s_Table_levels⟩) (z_fn c 6) (z_ck c 29)
  have b_Table_levels := F_Table_levels.binds (ps := ["self"]) fun _ _ _ _ _ _ us hl => match us, hl with | [_], _ => rfl
  obtain ⟨d_Table_below, F_Table_below⟩ : ∃ fd, Fun K "below" "Table.below" s_Table_below (getZ "Table" "below" K) fd := fun_z (d := ⟨(fun K => getZ "Table" "below" K), "below", "Table.below", s_Table_below⟩) (z_fn c 7) (z_ck c 31)
  have b_Table_below := F_Table_below.binds (ps := ["self"]) fun _ _ _ _ _ _ us hl => match us, hl with | [_], _ => rfl
  obtain ⟨d_Table_above, F_Table_above⟩ : ∃ fd, Fun K "above" "Table.above" s_Table_above (getZ "Table" "above" K) fd := fun_z (d := ⟨(fun K => getZ "Table" "above" K), "above", "Table.above", s_Table_above⟩) (z_fn c 8) (z_ck c 33)
  have b_Table_above := F_Table_above.binds (ps := ["self"]) fun _ _ _ _ _ _ us hl => match us, hl with | [_], _ => rfl
  obtain ⟨d_Table_level, F_Table_level⟩ : ∃ fd, Fun K "level" "Table.level" s_Table_level (He.ma K (He.ga K "Table") "level") fd := fun_z (d := ⟨(fun K => He.ma K (He.ga K "Table") "level"), "level", "Table.level", s_Table_level⟩) (z_fn c 9) (z_ck c 35)
  have b_Table_level := F_Table_level.binds (ps := ["self", "d"]) fun _ _ _ _ _ _ us hl => match us, hl with | [_, _], _ => rfl
  obtain ⟨d_Table__contains, F_Table__contains⟩ : ∃ fd, Fun K "__contains__" "Table.__contains__" s_Table__contains (He.ma K (He.ga K "Table") "__contains__") fd := fun_z (d := ⟨(fun K => He.ma K (He.ga K "Table") "__contains__"), "__contains__", "Table.__contains__", s_Table__contains⟩) (z_fn c 10) (z_ck c 37)
  have b_Table__contains := F_Table__contains.binds (ps := ["self", "x"]) fun _ _ _ _ _ _ us hl => match us, hl with | [_, _], _ => rfl
  obtain ⟨d_Table__eq, F_Table__eq⟩ : ∃ fd, Fun K "__eq__" "Table.__eq__" s_Table__eq (He.ma K (He.ga K "Table") "__eq__") fd := fun_z (d := ⟨(fun K => He.ma K (He.ga K "Table") "__eq__"), "__eq__", "Table.__eq__", s_Table__eq⟩) (z_fn c 11) (z_ck c 39)
  have b_Table__eq := F_Table__eq.binds (ps := ["self", "other"]) fun _ _ _ _ _ _ us hl => match us, hl with | [_, _], _ => rfl
  obtain ⟨d_law_source, F_law_source⟩ : ∃ fd, Fun K "_law_source" "_law_source" s_law_source (He.ga K "_law_source") fd := fun_z (d := ⟨(fun K => He.ga K "_law_source"), "_law_source", "_law_source", s_law_source⟩) (z_fn c 12) (z_ck c 40)
  have b_law_source := F_law_source.binds (ps := ["_law_script"]) fun _ _ _ _ _ _ us hl => match us, hl with | [_], _ => rfl
  obtain ⟨d_law_draw, F_law_draw⟩ : ∃ fd, Fun K "_law_draw" "_law_draw" s_law_draw (He.ga K "_law_draw") fd := fun_z (d := ⟨(fun K => He.ga K "_law_draw"), "_law_draw", "_law_draw", s_law_draw⟩) (z_fn c 13) (z_ck c 42)
  have b_law_draw := F_law_draw.binds (ps := ["_law_source_here", "_law_many"]) fun _ _ _ _ _ _ us hl => match us, hl with | [_, _], _ => rfl
  obtain ⟨d_law_pick, F_law_pick⟩ : ∃ fd, Fun K "_law_pick" "_law_pick" s_law_pick (He.ga K "_law_pick") fd := fun_z (d := ⟨(fun K => He.ga K "_law_pick"), "_law_pick", "_law_pick", s_law_pick⟩) (z_fn c 14) (z_ck c 44)
  have b_law_pick := F_law_pick.binds (ps := ["_law_source_here", "_law_things"]) fun _ _ _ _ _ _ us hl => match us, hl with | [_, _], _ => rfl
  obtain ⟨d_law_level, F_law_level⟩ : ∃ fd, Fun K "_law_level" "_law_level" s_law_level (He.ga K "_law_level") fd := fun_z (d := ⟨(fun K => He.ga K "_law_level"), "_law_level", "_law_level", s_law_level⟩) (z_fn c 15) (z_ck c 46)
  have b_law_level := F_law_level.binds (ps := ["_law_table", "_law_d"]) fun _ _ _ _ _ _ us hl => match us, hl with | [_, _], _ => rfl
  obtain ⟨d_law_triples, F_law_triples⟩ : ∃ fd, Fun K "_law_triples" "_law_triples" s_law_triples (He.ga K "_law_triples") fd := fun_z (d := ⟨(fun K => He.ga K "_law_triples"), "_law_triples", "_law_triples", s_law_triples⟩) (z_fn c 16) (z_ck c 48)
  have b_law_triples := F_law_triples.binds (ps := ["_law_source_here", "_law_lasts", "_law_most"]) fun _ _ _ _ _ _ us hl => match us, hl with | [_, _, _], _ => rfl
  obtain ⟨d_law_ascending, F_law_ascending⟩ : ∃ fd, Fun K "_law_ascending" "_law_ascending" s_law_ascending (He.ga K "_law_ascending") fd := fun_z (d := ⟨(fun K => He.ga K "_law_ascending"), "_law_ascending", "_law_ascending", s_law_ascending⟩) (z_fn c 17) (z_ck c 50)
  have b_law_ascending := F_law_ascending.binds (ps := ["_law_triples_here"]) fun _ _ _ _ _ _ us hl => match us, hl with | [_], _ => rfl
  obtain ⟨d_law_near, F_law_near⟩ : ∃ fd, Fun K "_law_near" "_law_near" s_law_near (He.ga K "_law_near") fd := fun_z (d := ⟨(fun K => He.ga K "_law_near"), "_law_near", "_law_near", s_law_near⟩) (z_fn c 18) (z_ck c 52)
  have b_law_near := F_law_near.binds (ps := ["_law_d", "_law_below", "_law_above"]) fun _ _ _ _ _ _ us hl => match us, hl with | [_, _, _], _ => rfl
  obtain ⟨d_law_holds_rightly, F_law_holds_rightly⟩ : ∃ fd, Fun K "_law_holds_rightly" "_law_holds_rightly" s_law_holds_rightly (He.ga K "_law_holds_rightly") fd := fun_z (d := ⟨(fun K => He.ga K "_law_holds_rightly"), "_law_holds_rightly", "_law_holds_rightly", s_law_holds_rightly⟩) (z_fn c 19) (z_ck c 54)
  have b_law_holds_rightly := F_law_holds_rightly.binds (ps := ["_law_source_here", "_law_table", "_law_d"]) fun _ _ _ _ _ _ us hl => match us, hl with | [_, _, _], _ => rfl
  obtain ⟨d_law, F_law⟩ : ∃ fd, Fun K "law" "law" s_law (He.ga K "law") fd := fun_z (d := ⟨(fun K => He.ga K "law"), "law", "law", s_law⟩) (z_fn c 20) (z_ck c 56)
  have b_law := F_law.binds (ps := ["_law_script"]) fun _ _ _ _ _ _ us hl => match us, hl with | [_], _ => rfl
  have er_BadTable := err_z (P := zP) (x := "BadTable") X G (z_ck c 74)
  obtain ⟨oc_BadTable, kV_BadTable, doc_BadTable, pm_BadTable, ct_BadTable, od_BadTable, an_BadTable, osl_BadTable, cda_BadTable, cc_BadTable, vs_BadTable, file_BadTable, tf_BadTable, ccl_BadTable, cl_BadTable, cdd_BadTable, cld_BadTable, ccs_BadTable, csl_BadTable, xli_BadTable, xci_BadTable, xcd_BadTable, xv2_BadTable, xfi_BadTable, xcc_BadTable⟩ := cell_z (P := zP) (d := ⟨(fun K => He.ma K (He.ga K "BadTable") "__init__"), "__init__", "BadTable.__init__", (inClass (top 2) 0)⟩) (C := (fun K => He.ga K "BadTable")) (z_fn c 21) (z_ck c 75)
  have fn_BadTable : PySem.SupX.FnTxt0 zP K (He.ga K "BadTable") (He.ma K (He.ga K "BadTable") "__init__") := { fn := ⟨oc_BadTable, doc_BadTable, pm_BadTable, kV_BadTable, ct_BadTable, od_BadTable, an_BadTable, osl_BadTable, _, _, _, _, _, _, _, cda_BadTable, cc_BadTable, vs_BadTable, file_BadTable, tf_BadTable, ccl_BadTable, cl_BadTable, cdd_BadTable, cld_BadTable, ccs_BadTable, csl_BadTable, _, rfl, xli_BadTable, xci_BadTable, fun _ => rfl, xcd_BadTable, xv2_BadTable, xfi_BadTable, xcc_BadTable, ⟨_, fun _ => rfl⟩, fun _ => rfl⟩ }
  let T : Txt zP w K mg := {
    C_Table := He.ga K "Table", m_Table := He.glo_ok X G (x := "Table") (z_ck c 1), cl_Table := He.cls_ok (z_ck c 2),
    na_Table_alone := He.noat_ok (z_ck c 3),
    na_Table_levels := He.noat_ok (z_ck c 4),
    na_Table_below := He.noat_ok (z_ck c 5),
    na_Table_above := He.noat_ok (z_ck c 6),
    ck_Table := He.eqO_ok (z_ck c 7),
    cg_Table := He.eqO_ok (z_ck c 8),
    cn_Table := He.eqO_ok (z_ck c 9),
    ct_Table := of_decide_eq_true (z_ck c 10),
    co_Table := of_decide_eq_true (z_ck c 11),
    c1_Table := of_decide_eq_true (z_ck c 12),
    nf_Table := (z_ck c 13),
    n1_Table := (z_ck c 14),
    t_LETTERS := t_LETTERS, m_LETTERS := g_LETTERS,
    f_is_name := He.ga K "is_name", d_is_name := d_is_name, F_is_name := F_is_name, b_is_name := b_is_name, m_is_name := He.glo_ok X G (x := "is_name") (z_ck c 17),
    f_checked_states := He.ga K "_checked_states", d_checked_states := d_checked_states, F_checked_states := F_checked_states, b_checked_states := b_checked_states, m_checked_states := He.glo_ok X G (x := "_checked_states") (z_ck c 19),
    f_checked_levels := He.ga K "_checked_levels", d_checked_levels := d_checked_levels, F_checked_levels := F_checked_levels, b_checked_levels := b_checked_levels, m_checked_levels := He.glo_ok X G (x := "_checked_levels") (z_ck c 21),
    f_checked_period := He.ga K "_checked_period", d_checked_period := d_checked_period, F_checked_period := F_checked_period, b_checked_period := b_checked_period, m_checked_period := He.glo_ok X G (x := "_checked_period") (z_ck c 23),
    f_Table__init := He.ma K (He.ga K "Table") "__init__", d_Table__init := d_Table__init, F_Table__init := F_Table__init, b_Table__init := b_Table__init, mk_Table := He.mkr_ok (z_ck c 24),
    f_Table_alone := getZ "Table" "alone" K, d_Table_alone := d_Table_alone, F_Table_alone := F_Table_alone, b_Table_alone := b_Table_alone, p_Table_alone := He.ma K (He.ga K "Table") "alone", pr_Table_alone := prop_z (z_ck c 26),
    f_Table_levels := getZ "Table" "levels" K, d_Table_levels := d_Table_levels, F_Table_levels := F_Table_levels, b_Table_levels := b_Table_levels, p_Table_levels := He.ma K (He.ga K "Table") "levels", pr_Table_levels := prop_z (z_ck c 28),
    f_Table_below := getZ "Table" "below" K, d_Table_below := d_Table_below, F_Table_below := F_Table_below, b_Table_below := b_Table_below, p_Table_below := He.ma K (He.ga K "Table") "below", pr_Table_below := prop_z (z_ck c 30),
    f_Table_above := getZ "Table" "above" K, d_Table_above := d_Table_above, F_Table_above := F_Table_above, b_Table_above := b_Table_above, p_Table_above := He.ma K (He.ga K "Table") "above", pr_Table_above := prop_z (z_ck c 32),
    f_Table_level := He.ma K (He.ga K "Table") "level", d_Table_level := d_Table_level, F_Table_level := F_Table_level, b_Table_level := b_Table_level, mt_Table_level := He.meth_ok (z_ck c 34),
    f_Table__contains := He.ma K (He.ga K "Table") "__contains__", d_Table__contains := d_Table__contains, F_Table__contains := F_Table__contains, b_Table__contains := b_Table__contains, mt_Table__contains := He.meth_ok (z_ck c 36),
    f_Table__eq := He.ma K (He.ga K "Table") "__eq__", d_Table__eq := d_Table__eq, F_Table__eq := F_Table__eq, b_Table__eq := b_Table__eq, mt_Table__eq := He.meth_ok (z_ck c 38),
    f_law_source := He.ga K "_law_source", d_law_source := d_law_source, F_law_source := F_law_source, b_law_source := b_law_source, m_law_source := He.glo_ok X G (x := "_law_source") (z_ck c 41),
    f_law_draw := He.ga K "_law_draw", d_law_draw := d_law_draw, F_law_draw := F_law_draw, b_law_draw := b_law_draw, m_law_draw := He.glo_ok X G (x := "_law_draw") (z_ck c 43),
    f_law_pick := He.ga K "_law_pick", d_law_pick := d_law_pick, F_law_pick := F_law_pick, b_law_pick := b_law_pick, m_law_pick := He.glo_ok X G (x := "_law_pick") (z_ck c 45),
    f_law_level := He.ga K "_law_level", d_law_level := d_law_level, F_law_level := F_law_level, b_law_level := b_law_level, m_law_level := He.glo_ok X G (x := "_law_level") (z_ck c 47),
    f_law_triples := He.ga K "_law_triples", d_law_triples := d_law_triples, F_law_triples := F_law_triples, b_law_triples := b_law_triples, m_law_triples := He.glo_ok X G (x := "_law_triples") (z_ck c 49),
    f_law_ascending := He.ga K "_law_ascending", d_law_ascending := d_law_ascending, F_law_ascending := F_law_ascending, b_law_ascending := b_law_ascending, m_law_ascending := He.glo_ok X G (x := "_law_ascending") (z_ck c 51),
    f_law_near := He.ga K "_law_near", d_law_near := d_law_near, F_law_near := F_law_near, b_law_near := b_law_near, m_law_near := He.glo_ok X G (x := "_law_near") (z_ck c 53),
    f_law_holds_rightly := He.ga K "_law_holds_rightly", d_law_holds_rightly := d_law_holds_rightly, F_law_holds_rightly := F_law_holds_rightly, b_law_holds_rightly := b_law_holds_rightly, m_law_holds_rightly := He.glo_ok X G (x := "_law_holds_rightly") (z_ck c 55),
    f_law := He.ga K "law", d_law := d_law, F_law := F_law, b_law := b_law, m_law := He.glo_ok X G (x := "law") (z_ck c 0),
    m_int := He.free_ok X G (x := "int") (z_ck c 57),
    m_str := He.free_ok X G (x := "str") (z_ck c 58),
    m_bool := He.free_ok X G (x := "bool") (z_ck c 59),
    m_range := He.free_ok X G (x := "range") (z_ck c 60),
    m_len := He.free_ok X G (x := "len") (z_ck c 61),
    m_isinstance := He.free_ok X G (x := "isinstance") (z_ck c 62),
    m_all := He.free_ok X G (x := "all") (z_ck c 63),
    m_any := He.free_ok X G (x := "any") (z_ck c 64),
    m_list := He.free_ok X G (x := "list") (z_ck c 65),
    m_tuple := He.free_ok X G (x := "tuple") (z_ck c 66),
    m_sorted := He.free_ok X G (x := "sorted") (z_ck c 67),
    m_enumerate := He.free_ok X G (x := "enumerate") (z_ck c 68),
    m_abs := He.free_ok X G (x := "abs") (z_ck c 69),
    a_SIGNS := He.ga K "SIGNS", q_SIGNS := (tup_z (z_ck c 70)).1, o_SIGNS := (tup_z (z_ck c 70)).2, m_SIGNS := He.glo_ok X G (x := "SIGNS") (z_ck c 71),
    a_LONE_GAPS := He.ga K "LONE_GAPS", q_LONE_GAPS := (tup_z (z_ck c 72)).1, o_LONE_GAPS := (tup_z (z_ck c 72)).2, m_LONE_GAPS := He.glo_ok X G (x := "LONE_GAPS") (z_ck c 73),
    C_BadTable := He.ga K "BadTable", i_BadTable := He.ma K (He.ga K "BadTable") "__init__", er_BadTable := er_BadTable.1, fn_BadTable := fn_BadTable, xf_BadTable := er_BadTable.2, te_BadTable := of_decide_eq_true (z_ck c 76) }
  exact ⟨d_law, fun s v => z_to F_law s v, fun base _ _ => ok_law T⟩
end Toy
open PySem PySem.W PySem.Calls PyProof.Rows
set_option maxRecDepth 100000 in
set_option maxHeartbeats 0 in
theorem PySem.Challenge.cw_nearloops_k50_tables_holds : PySem.Challenge.rw_nearloops_k50_tables.Holds := by
  w_on; o_law
  refine HandSHeadRun.head_any (r := OpenLaw.row PySem.Challenge.rw_nearloops_k50_tables) (q := view (OpenLaw.row PySem.Challenge.rw_nearloops_k50_tables).prog [22]) (H := Toy.zhk) (ob := Toy.zob) (M := 20000) (loose := Toy.znames) (d := HandSHeadRun.topDef (OpenLaw.row PySem.Challenge.rw_nearloops_k50_tables).prog 22) (kwd := []) Toy.zob_eq
    (by kernel_rfl) (fun s => by kernel_rfl) Toy.zrun (by kernel_rfl) (by kernel_rfl) (by kernel_rfl) (by rfl) (by first | assumption | decide +kernel) (by decide +kernel) ⟨rfl, rfl, rfl, rfl, rfl, by decide +kernel⟩ ?hw ?hc
  case hw => w_witness2
  case hc =>
    refine L2.walk_ofE (l := PySem.Challenge.rw_nearloops_k50_tables) (n := 63) (k := 12) (x := "_law_script") (CX := L2.CX0) rfl (by decide) (by kernel_rfl) ⟨rfl, by decide, by decide⟩ ?F (fun _ _ _ _ z => z)
    intro w mg fa h Y G hmg0
    obtain ⟨K, KX, c⟩ := Y
    have hmg : mg ("law" : PySem.Str) = some (.ref fa) := by
      have e : (HandSHeadRun.topDef (OpenLaw.row PySem.Challenge.rw_nearloops_k50_tables).prog 22).name = ("law" : PySem.Str) := by kernel_rfl
      rw [← e]
      exact hmg0
    obtain ⟨fd, hb, hF⟩ := Toy.zfacts KX G hmg c
    exact ⟨K, fd, Toy.spLaw K, KX, hb, fun H a ns hl _ hS => ⟨a, ns, rfl, hS, hl, fun _ => rfl⟩, hF⟩
