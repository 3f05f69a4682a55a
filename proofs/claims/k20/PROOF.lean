import PyProof.Rows.All
import Wide.All
import OpenK.AllK
import Wide.FinOn
import HandS.Base
import HandS.Call
import HandS.List
import HandS.Ends
import HandS.Words
import HandS.WordsList
import HandS.Wide
import HandS.WideBits
import HandS.IsInst
import HandS.Comp
import HandS.Strs
import HandS.Codes
import HandS.More
import HandS.Dict
import HandS.WordsDict
import HandS.Text
import HandS.Iter
import HandS.Walk
import PyProof.DictUpdate
import HandS.SetKeys
import PyProof.DictMoreH
import KE.GoesEnum
import KE.GoesEnumKw
import HandS.Conv
import KE.KDictSum
import HandS.NoneIn
import HandS.Defaults
import HandS.Property
import HandS.Zip
import HandS.OwnEq
import HandS.Deep
import PyProof.FactsLen
import KE.KDictZip
import HandS.DictComp
import HandS.SetFor
import PySem.Challenge.RW_nearloops_k20_whole_runs_of_one_shape
set_option Elab.async false
set_option maxRecDepth 100000
set_option maxHeartbeats 4000000

namespace L2
open PySem PySem.Spec PyProof.Rows
section
variable {X : Cx} {pins : List (Addr × Obj)} {σ : St} {H : Hp} {s : Shared} {a b : Addr} {kvs : List (List Key × V)} {k : List Key} {d : V} {r : Value} {A : Around} {E : Value → Shared → Prop}
/-- d.setdefault((x, y), z), a dict with tuple keys -/
theorem d_setdT {Q : Value → Shared → Prop} (hu : A.units + 1 < cLine) (I : Inv X pins σ H s) (e : H a = some (.dT kvs)) (eb : H b = some (.tup (k.map kV))) (rd : RelV d r) (hl : kvs.length < sizeLine)
    (h1 : ∀ v, valV kvs k = some v → ∀ (w' : Value) (s' : Shared), Inv X pins σ H s' → RelV v w' → Q w' s') (h2 : valV kvs k = none → ∀ (w' : Value) (s' : Shared), Inv X pins σ (upd H a (.dT (putK kvs k d))) s' → RelV d w' → Q w' s') :
    wpAny (model X.prog X.w) A (call (.builtin "dict.setdefault") [.ref a, .ref b, r]) Q E s := by
  obtain ⟨z, hd, xs, rel, dd⟩ := dt_of I.hok e
  have hz : xs.length ≤ sizeLine := by rw [← Paired.length rel]; exact z
  refine call_setdefault_heap (hsz := hz) (tupleKind_room_in1 hu) (key_of I.hok eb) hd dd (fun p hp => ?_) fun hn h' dd' hs => ?_
  · have q := rel.val k
    rw [hp] at q
    cases q0 : valV kvs k with
    | none =>
      rw [q0] at q
      exact (show False from q).elim
    | some v0 =>
      rw [q0] at q
      exact h1 v0 q0 _ _ (I.tok _) q
  · have q := rel.val k
    rw [hn] at q
    cases q0 : valV kvs k with
    | some v0 =>
      rw [q0] at q
      exact (show False from q).elim
    | none =>
      have hl2 : (putK kvs k d).length ≤ sizeLine := by have := length_putK kvs k d; omega
      obtain ⟨q, es, ep, hq, g2, g3, g4, _, g5⟩ := dd'
      refine h2 q0 _ _ (d_write I (by rw [e]; exact True.intro) hs ⟨q, hq⟩ ⟨hl2, hd, _, (rel.put k eb rd).keeps fun c ys ec => ?_, q, es, ep, hq, g2, g3, g4, g5⟩) rd
      rw [upd_ne (ne_of ec e (fun z => nomatch z))]
      exact ec
end
def tDSetdT (td ty tx : TE) : TE := fun σ H Q => td σ H fun x H1 => ∃ a, x = .ref a ∧ IsD H1 a ∧ ty σ H1 fun y H2 => tx σ H2 fun z H3 => ∃ (kvs : List (List Key × V)) (k : List Key) (b : Addr), H3 a = some (.dT kvs) ∧ y = .ref b ∧ H3 b = some (.tup (k.map kV)) ∧ kvs.length < sizeLine ∧
  (∀ v, valV kvs k = some v → Q v H3) ∧ (valV kvs k = none → Q z (upd H3 a (.dT (putK kvs k z))))
section
variable {X : Cx} {o e f : Expr} {td ty tx : TE} {apos cpos : Pos}
theorem pe_dsetdT (hu : X.A.units + 1 < cLine) (ho : PE X o td) (he : PE X e ty) (hf : PE X f tx) (m : M2 X o "setdefault" apos e f cpos) : PE X (.Call (.Attribute o "setdefault" apos) [e, f] [] cpos) (tDSetdT td ty tx) := by
  refine ⟨fun pins s σ H Q I h => ?_⟩
  refine wpAny_Call_method m.base m.few m.line PySem.F.plainAttrs_dict PySem.F.slot_dict_setdefault PySem.F.type_dict_setdefault (thn (ho.run pins s σ H _ I h) fun u s1 ⟨x, H1, I1, rx, a, ex, d, q1⟩ => ?_)
  subst ex
  obtain rfl : u = Value.ref a := rx
  obtain ⟨t1, t2, _⟩ := isD_at I1 d
  refine ⟨t1, t2, ?_⟩
  rw [m.trees]
  refine Calls.callWith_builtin rfl (Calls.evalArgs_plain (Calls.spliced_cons (thn (he.run pins s1 σ H1 _ I1 q1) fun iv s2 ⟨y, H2, I2, ry, q2⟩ =>
    Calls.spliced_cons (thn (hf.run pins s2 σ H2 _ I2 q2) fun fv s3 ⟨z, H3, I3, rz, kvs, k, b, ea, ey, eb, hl, q3, q4⟩ => Calls.spliced_nil ?_))))
  subst ey
  obtain rfl : iv = Value.ref b := ry
  exact d_setdT hu I3 ea eb rz hl (fun v hv w' s4 I4 rw' => ⟨v, _, I4, rw', q3 v hv⟩) fun hn w' s4 I4 rw' => ⟨z, _, I4, rw', q4 hn⟩
end
end L2
namespace L2
open PySem PySem.Spec PyProof.Rows
/-! ### enumerate(list or tuple), enumerate(list or tuple, start=k) -/
/-- a list (b = true) or a tuple of xs is to be read at a -/
def SqB (K : PySem.W.Frag) (b : Bool) (H : Hp) (a : Addr) (xs : List V) : Prop := match b with
  | true => SqL K H a xs
  | false => SqT K H a xs
def IsB (b : Bool) (h : Heap) (a : Addr) (its : Array Value) : Prop := match b with
  | true => h.IsList a its
  | false => h.IsTuple a its
def ItB (b : Bool) (h : Heap) (it a : Addr) (i : Nat) : Prop := match b with
  | true => h.IsListIter it a i
  | false => h.IsTupleIter it a i
theorem ItB.ob {b : Bool} {h : Heap} {it a : Addr} {i : Nat} (st : ItB b h it a i) : ∃ o, h.get? it = some o ∧ ∀ v, o.data ≠ .cell v := by
  cases b with
  | true =>
    obtain ⟨o, ho, hc, hd⟩ := st
    exact ⟨o, ho, fun v q => by rw [hd] at q; cases q⟩
  | false =>
    obtain ⟨o, ho, hc, hd⟩ := st
    exact ⟨o, ho, fun v q => by rw [hd] at q; cases q⟩
theorem ItB.at {b : Bool} {h h' : Heap} {it a : Addr} {i : Nat} (st : ItB b h it a i) (k : ∀ o, h.get? it = some o → h'.get? it = some o) : ItB b h' it a i := by
  cases b with
  | true => exact Heap.IsListIter.at st k
  | false => exact Heap.IsTupleIter.at st k
theorem drawsB {prog : Program} {w : World} {A : Around} (b : Bool) (hh : A.handled = none) (it l : Addr) (hne : l ≠ it) (items : Array Value) :
    Draws prog w A it [it, l] items.size (fun i v => items[i]? = some v) (fun i h => ItB b h it l i ∧ IsB b h l items) := by
  cases b with
  | true => exact Draws.list hh it l hne items
  | false => exact Draws.tuple hh it l hne items
/-- at the end -/
theorem drawsEnd {prog : Program} {w : World} {A : Around} (b : Bool) (hh : A.handled = none) (it l : Addr) (items : Array Value) {i : Nat} (hn : items[i]? = none) :
    Draws prog w A it [it, l] i (fun _ _ => True) (fun j h => j = i ∧ ItB b h it l i ∧ IsB b h l items) where
  live := fun _ _ st => let ⟨o, ho, _⟩ := st.2.1.ob; ⟨o, ho⟩
  frame := fun _ h h' st hk => ⟨st.1, st.2.1.at fun o e => hk it (by simp) o e, by
    obtain ⟨_, _, p⟩ := st
    cases b with
    | true => exact Heap.IsList.at p fun o e => hk l (by simp) o e
    | false => exact Heap.IsTuple.at p fun o e => hk l (by simp) o e⟩
  item := fun j s Q E hj st hQ => absurd st.1 (Nat.ne_of_lt hj)
  done := fun s Q E st hE => by
    obtain ⟨_, hit, p⟩ := st
    cases b with
    | true => exact wpAny_nextOf_list_end hh hit p hn hE
    | false => exact wpAny_nextOf_tuple_end hh hit p hn hE
section
variable {X : Cx} {pins : List (Addr × Obj)} {σ : St} {H : Hp} {s : Shared} {a : Addr} {xs ys : List V} {b : Bool}
theorem Inv.seqB (I : Inv X pins σ H s) (h : SqB X.K b H a xs) : ∃ its : List Value, Vals xs its ∧ IsB b s.heap a its.toArray := by
  cases b with
  | true =>
    obtain ⟨its, r, p, _⟩ := I.list h
    exact ⟨its, r, p.isList⟩
  | false =>
    obtain ⟨its, r, p, _⟩ := I.tuple h
    exact ⟨its, r, p⟩
theorem Inv.seqB_inj (I : Inv X pins σ H s) (h : SqB X.K b H a xs) (h' : SqB X.K b H a ys) : xs = ys := by
  cases b with
  | true => exact I.list_inj h h'
  | false => exact I.tuple_inj h h'
theorem IsB.ne {h : Heap} {its : Array Value} {it l a : Addr} {i : Nat} (st : IsB b h a its) (t : ItB b h it l i) : a ≠ it := fun e => by
  subst e
  cases b with
  | true =>
    obtain ⟨o, ho, hc, n, hd⟩ := st
    obtain ⟨o', ho', hc', hd'⟩ := t
    rw [ho] at ho'
    cases ho'
    rw [hd] at hd'
    cases hd'
  | false =>
    obtain ⟨o, ho, hc, n, hd⟩ := st
    obtain ⟨o', ho', hc', hd'⟩ := t
    rw [ho] at ho'
    cases ho'
    rw [hd] at hd'
    cases hd'
theorem IsB.begins {h : Heap} {its : Array Value} (st : IsB b h a its) : ∃ o, Begins (.ref a) o (fun h => IsB b h a its) ∧ ∀ (h' : Heap) (it : Addr), h'.get? it = some o → ItB b h' it a 0 := by
  cases b with
  | true => exact ⟨_, begins_list a its, fun h' it e => ⟨_, e, rfl, rfl⟩⟩
  | false => exact ⟨_, begins_tuple a its, fun h' it e => ⟨_, e, rfl, rfl⟩⟩
end
def IteB (K : PySem.W.Frag) (b : Bool) (a : Addr) (c : Int) : It :=
  ⟨fun i H => ∃ (xs : List V) (x : V), SqB K b H a xs ∧ xs[i]? = some x, fun i H v H' => ∃ T x, v = .ref T ∧ H T = none ∧ H' = upd H T (.tup [.int (c + (i : Nat)), x]) ∧ ∀ xs, SqB K b H a xs → xs[i]? = some x, fun i H => ∃ xs : List V, SqB K b H a xs ∧ xs.length ≤ i⟩
theorem turn_enumB {P : Program} {w : World} {K : PySem.W.Frag} {elts : List Expr} {kk : Nat} {tpos : Pos} (b : Bool) (a e it : Addr) (c : Int) :
    Turn P w K (.Tuple elts kk tpos) (IteB K b a c) [e, it] e (fun i h => (∃ old, IsEnum h e it (c + (i : Nat)) old) ∧ ItB b h it a i ∧ e ≠ it) where
  mem := by simp
  obj := fun i h st d hd => by
    obtain ⟨⟨old, he⟩, hi, _⟩ := st
    have e' : d = e ∨ d = it := by simpa using hd
    rcases e' with z | z
    · rw [z]; exact ⟨_, he, fun v q => nomatch q⟩
    · rw [z]; exact hi.ob
  keep := fun i h h' st k => let ⟨⟨old, he⟩, hi, hne⟩ := st; ⟨⟨old, k e (by simp) _ he⟩, hi.at fun o q => k it (by simp) o q, hne⟩
  item := by
    intro X hP hw hK hc i pins s σ H E I hf st hg
    subst hP hw hK
    obtain ⟨⟨old, he⟩, hit, hne⟩ := st
    obtain ⟨xs, x, hq, hx⟩ := hg
    obtain ⟨its, rv, p⟩ := I.seqB hq
    obtain ⟨u, hu, ru⟩ := rv.get hx
    have hel : e < s.heap.objs.size := Heap.lt_size he
    have hil : it < s.heap.objs.size := by obtain ⟨_, q, _⟩ := hit.ob; exact Heap.lt_size q
    have hai := p.ne hit
    have hae : e ∉ [it, a] := fun q => by
      rcases List.mem_cons.mp q with z | z
      · exact hne z
      · have z := List.mem_singleton.mp z
        subst z
        cases b with
        | true =>
          obtain ⟨o, ho, hc, n, hd⟩ := p
          have q := ho.symm.trans he
          cases q
          cases hd
        | false =>
          obtain ⟨o, ho, hc, n, hd⟩ := p
          have q := ho.symm.trans he
          cases q
          cases hd
    have hlt : i < its.toArray.size := by
      rw [List.size_toArray]
      exact (List.getElem?_eq_some_iff.mp hu).1
    refine wpAny_pyNext_enum_itemC (drawsB (A := X.A.in1) b (I.ok.hd hc) it a hai its.toArray) he ⟨hit, p⟩ hlt hne hae fun y h' tk hy ho hst' hT hsz hk => ?_
    have ey : y = u := by
      have hy' : its[i]? = some y := by simpa using hy
      rw [hu] at hy'
      exact (Option.some.inj hy').symm
    subst ey
    refine ⟨_, rfl, wpAny_letOwnedTupleGo_enum (s := { s with heap := h', toks := tk + 1 }) ho fun h'' he' sb => ?_⟩
    have hT2 : h''.get? s.heap.objs.size = some { cls := .type "tuple", data := .seq #[.int (c + (i : Nat)) tk, y] } := (sb.2 _ (Nat.ne_of_gt hel)).trans hT
    have new : ObjOk X.prog X.w (upd H s.heap.objs.size (.tup [.int (c + (i : Nat)), x])) h'' s.heap.objs.size (.tup [.int (c + (i : Nat)), x]) :=
      ⟨by show 2 ≤ sizeLine; decide, [.int (c + (i : Nat)) tk, y], .cons ⟨_, rfl⟩ (.cons ru .nil), ⟨_, hT2, rfl, _, rfl⟩⟩
    have I1 : Inv X pins σ (upd H s.heap.objs.size (.tup [.int (c + (i : Nat)), x])) { s with heap := h'', toks := tk + 1 } :=
      I.turnedNew (ch := [e, it]) (fun b ob hb q => (sb.2 b (fun z => hb (by simp [z]))).trans (hk b ob (fun z => hb (by simp [z])) (fun z => hb (by simp [z])) q)) hf (Nat.le_refl _) new
    refine ⟨.ref s.heap.objs.size, _, I1, rfl, ⟨_, x, rfl, I.hok.fresh (Nat.le_refl _), rfl, fun ys hy => by rw [I.seqB_inj hy hq]; exact hx⟩, ⟨⟨y, ?_⟩, hst'.1.at fun o q => (sb.2 it (Ne.symm hne)).trans q, hne⟩, fun b hb => ?_⟩
    · have e1 : c + ((i + 1 : Nat) : Int) = c + (i : Nat) + 1 := by omega
      rw [e1]; exact he'
    · have hb' : b < s.heap.objs.size := by
        have e' : b = e ∨ b = it := by simpa using hb
        rcases e' with z | z
        · rw [z]; exact hel
        · rw [z]; exact hil
      rw [upd_ne (Nat.ne_of_lt hb')]
      exact (hf b hb).1
  done := by
    intro X hP hw hK hc i pins s σ H E I hf st hg
    subst hP hw hK
    obtain ⟨⟨old, he⟩, hit, hne⟩ := st
    obtain ⟨xs, hq, hx⟩ := hg
    obtain ⟨its, rv, p⟩ := I.seqB hq
    obtain ⟨f0, f1, f2, f3, f4, f5⟩ := hf it (by simp)
    have hl := rv.length
    have hn : its.toArray[i]? = none := by simp; omega
    exact wpAny_pyNext_enum_endD (drawsEnd (A := X.A.in1) b (I.ok.hd hc) it a its.toArray hn) he ⟨rfl, hit, p⟩ fun h' eb => ⟨rfl, I.turned (t' := s.toks) (fun b o hb q => eb b o hb q) f0 f1 f3 f4 f5⟩
  self := fun A i s Q E st h => let ⟨⟨_, he⟩, _⟩ := st; wpAny_pyIter_enum he h
section
open PySem.Sem
set_option maxHeartbeats 4000000 in
theorem enum_new1 {v : Value} {o : Obj} {G : Heap → Prop} (B : Begins v o G) :
    Meets (Builtin.«enumerate.__new__» ⟨[.type "enumerate", v], []⟩) (fun _ R s => G s.heap ∧
      R (.ok (.ret (.ref (s.heap.push o).objs.size))) { s with heap := (s.heap.push o).push { cls := .type "enumerate", data := .fields #[.none, .bool false, .ref s.heap.objs.size, rawInt 0, .none, .none] } }) :=
  .of_wp fun prog w A R s h => by
    obtain ⟨hp, g, d, tk, os⟩ := s
    obtain ⟨h1, h⟩ := h
    have hsub := sub_enumerate
    have walkIt : ∀ {A' : Around} {E : Value → Shared → Prop} {Q : Value → Shared → Prop}, Q (.ref hp.objs.size) ⟨hp.push o, g, d, tk, os⟩ → wpAny (model prog w) A' (pyIter v) Q E ⟨hp, g, d, tk, os⟩ :=
      fun q => B.iter prog w _ _ ⟨hp, g, d, tk, os⟩ _ h1 q
    wp_walk using walkIt
    refine wpAny_stack_any fun st => wpAny_pure ?_
    split
    · rename_i c _ _ _ _ _
      cases (c == Value.type "enumerate")
      all_goals
        wp_walk using walkIt
        exact ⟨_, rfl, h⟩
    · wp_walk using walkIt
      exact ⟨_, rfl, h⟩
theorem enum_begins0 {prog : Program} {w : World} {A : Around} {E : Value → Shared → Prop} {s : Shared} {v : Value} {o : Obj} {G : Heap → Prop} {Q : Value → Shared → Prop} (B : Begins v o G) (h1 : G s.heap)
    (h : ∀ h', IsEnum h' (s.heap.objs.size + 1) s.heap.objs.size 0 .none → h'.get? s.heap.objs.size = some o → h'.objs.size = s.heap.objs.size + 2 →
      (∀ b o, s.heap.get? b = some o → h'.get? b = some o) → Q (.ref (s.heap.objs.size + 1)) { s with heap := h' }) :
    wpAny (model prog w) A (call (.type "enumerate") [v]) Q E s := by
  refine callType_new F.called_enumerate (by decide) (F.typeCall_enumerate_1 _) (F.newCall_enumerate_1 _) (fun obj => F.args_object_init_2 obj _) F.entry_enumerate_new (enum_new1 B) ⟨h1, ?_⟩
  have hz : (s.heap.push o).objs.size = s.heap.objs.size + 1 := Heap.size_push ..
  show _ ∧ _
  rw [hz]
  have he : IsEnum ((s.heap.push o).push { cls := .type "enumerate", data := .fields #[.none, .bool false, .ref s.heap.objs.size, rawInt 0, .none, .none] }) (s.heap.objs.size + 1) s.heap.objs.size 0 .none := by
    have q := Heap.get?_push_size (s.heap.push o) (o := { cls := .type "enumerate", data := .fields #[.none, .bool false, .ref s.heap.objs.size, rawInt 0, .none, .none] }) rfl
    rw [hz] at q
    exact q
  exact ⟨⟨_, he, rfl⟩, h _ he (Heap.get?_push_of_some _ (Heap.get?_push_size _ B.free)) (by rw [Heap.size_push, hz]) fun b o x => Heap.get?_push_of_some _ (Heap.get?_push_of_some _ x)⟩
end
/-- enumerate(e) -/
def iEnumB (K : PySem.W.Frag) (ta : TA) : TI := fun σ H R => ta σ H fun vs H1 => ∃ b a xs, vs = [.ref a] ∧ SqB K b H1 a xs ∧ R (IteB K b a 0) H1
/-- enumerate(e, start=k) -/
def iEnumS (K : PySem.W.Frag) (ta tk : TA) : TI := fun σ H R => ta σ H fun vs H1 => tk σ H1 fun zs H2 => ∃ b a xs k, vs = [.ref a] ∧ zs = [.int k] ∧ -(2 ^ 63) ≤ k ∧ k < 2 ^ 63 ∧ SqB K b H2 a xs ∧ R (IteB K b a k) H2
section
variable {X : Cx} {e : Expr} {kws : List Keyword} {ta tk : TA} {p pos tpos : Pos} {elts : List Expr} {kk : Nat}
theorem enum_come {pins : List (Addr × Obj)} {σ : St} {H : Hp} {s : Shared} {R : It → Hp → Prop} {b : Bool} {a : Addr} {k : Int} {h' : Heap} {o : Obj} (I : Inv X pins σ H s) (he : IsEnum h' (s.heap.objs.size + 1) s.heap.objs.size k .none) (hit : ItB b h' s.heap.objs.size a 0)
    (hk : ∀ b o, s.heap.get? b = some o → h'.get? b = some o) (q : R (IteB X.K b a k) H) : PIE X pins σ (.Tuple elts kk tpos) R (.ref (s.heap.objs.size + 1)) { s with heap := h' } := by
  have I2 : Inv X pins σ H { s with heap := h' } := I.kept (t' := s.toks) hk
  refine ⟨s.heap.objs.size + 1, [s.heap.objs.size + 1, s.heap.objs.size], _, _, H, rfl, I2, turn_enumB b a (s.heap.objs.size + 1) s.heap.objs.size k, ⟨⟨.none, by simpa using he⟩, hit, Nat.succ_ne_self _⟩, fun c hc => ?_, q⟩
  have e' : c = s.heap.objs.size + 1 ∨ c = s.heap.objs.size := by simpa using hc
  have hle : s.heap.objs.size ≤ c := by
    rcases e' with z | z
    · rw [z]; exact Nat.le_add_right _ _
    · rw [z]; exact Nat.le_refl _
  exact I.fpOk hle (I.hok.fresh hle)
theorem pi_enumB (hg : Gl X "enumerate") (hm : X.mg "enumerate" = none) (ha : PA X [e] ta) (hs : starEach [e] X.env = [(false, eval e X.env)] := by rfl) :
    PI X (.Tuple elts kk tpos) (.Call (.Name "enumerate" p) [e] [] pos) (iEnumB X.K ta) := by
  refine ⟨fun pins s σ H R I h => ?_⟩
  refine Call_ (ld_blt I hg hm boot_enumerate (PyProof.Rows.callWith_type1 (thn (ha.run pos pins s σ H _ I h) fun us s1 ⟨vs, H1, I1, r1, q1⟩ => ?_) hs rfl))
  obtain ⟨b, a, xs, ex, hq, q⟩ := q1
  rw [ex] at r1
  rw [Vals.ref1 r1]
  obtain ⟨its, rv, p'⟩ := I1.seqB hq
  obtain ⟨o, B, hB⟩ := p'.begins
  refine enum_begins0 B p' fun h' he ho hsz hk => wpAny_pyIter_enum he ?_
  exact enum_come (o := o) I1 he (hB h' _ ho) hk q
theorem callWith_typeKw {M : Model} {env : Env} {A : Around} {E : Value → Shared → Prop} {s : Shared} {pos : Pos} {T : String} {e : Expr} {rest : List Expr} {kws : List Keyword} {Q : Value → Shared → Prop}
    (h : wpAny M A (spliced (backTo pos (starEach (e :: rest) env))) (fun vs s₁ => wpAny M A (evalAll ((backToKw pos (keywordEach kws env)).map (·.2)))
      (fun kvs s₂ => wpAny M A (call (.type T) vs (((backToKw pos (keywordEach kws env)).filterMap (·.1)).zip kvs)) Q E s₂) E s₁) E s)
    (he : backTo pos (starEach (e :: rest) env) = (false, eval e env) :: backTo pos (starEach rest env)) (hplain : (backTo pos (starEach (e :: rest) env)).any (·.1) = false)
    (hall : (backToKw pos (keywordEach kws env)).all (·.1.isSome) = true) (hkw : (backToKw pos (keywordEach kws env)).any (·.1.isNone) = false) :
    wpAny M A (callWith pos (.type T) [] (backTo pos (starEach (e :: rest) env)) (backToKw pos (keywordEach kws env))) Q E s := by
  have h2 : wpAny M A (evalArgs (.type T) true (backTo pos (starEach (e :: rest) env)) (backToKw pos (keywordEach kws env))) (fun a s₁ => wpAny M A (call (.type T) ([] ++ a.pos) a.kw) Q E s₁) E s := by
    rw [he] at h ⊢
    exact evalArgs_kwB hall h
  unfold callWith
  refine wpAny_bind (wpAny_holding (wpAny_mono h2 (fun a s₁ h₁ => wpAny_bind (wpAny_standAt ?_)) fun _ _ x => x))
  simp only [hplain, hkw, Bool.or_false]
  refine wpAny_bind (wpAny_pure ?_)
  exact wpAny_bind (wpAny_mono h₁ (fun r s₂ hr => wpAny_bind (wpAny_holding (wpAny_point (wpAny_pure hr)))) fun _ _ x => x)
theorem pi_enumS (hg : Gl X "enumerate") (hm : X.mg "enumerate" = none) (ha : PA X [e] ta) (hk : PK X kws tk) (he : backTo pos (starEach [e] X.env) = (false, eval e X.env) :: backTo pos (starEach [] X.env) := by rfl) (hpl : (backTo pos (starEach [e] X.env)).any (·.1) = false := by rfl)
    (hall : (backToKw pos (keywordEach kws X.env)).all (·.1.isSome) = true := by rfl) (hnone : (backToKw pos (keywordEach kws X.env)).any (·.1.isNone) = false := by rfl) (hks : (backToKw pos (keywordEach kws X.env)).filterMap (·.1) = [Str.ofString "start"] := by rfl) :
    PI X (.Tuple elts kk tpos) (.Call (.Name "enumerate" p) [e] kws pos) (iEnumS X.K ta tk) := by
  refine ⟨fun pins s σ H R I h => ?_⟩
  refine wpAny_Call_Name_kw (ld_blt I hg hm boot_enumerate ?_)
  refine callWith_typeKw (thn (ha.run pos pins s σ H _ I h) fun us s1 ⟨vs, H1, I1, r1, q1⟩ => thn (hk.run pos pins s1 σ H1 _ I1 q1) fun ws s2 ⟨zs, H2, I2, r2, q2⟩ => ?_) he hpl hall hnone
  obtain ⟨b, a, xs, k, ex, ez, k0, k1, hq, q⟩ := q2
  subst ex
  subst ez
  rw [Vals.ref1 r1, hks]
  cases r2 with
  | cons r rr =>
    cases rr
    obtain ⟨t, rfl⟩ := r
    obtain ⟨its, rv, p'⟩ := I2.seqB hq
    obtain ⟨o, B, hB⟩ := p'.begins
    refine enum_begins_start B p' k0 k1 fun h' he ho hsz hk => wpAny_pyIter_enum he ?_
    exact enum_come (o := o) I2 he (hB h' _ ho) hk q
end
/-- a for over it -/
theorem walk_enumB {K : PySem.W.Frag} {a : Addr} {xs : List V} {b : Bool} {c : Int} : Walk (IteB K b a c) xs.length (fun H => SqB K b H a xs) (YPair (fun i => some (.int (c + (i : Nat)))) (fun i => xs[i]?)) where
  goes := fun i H hi h => ⟨xs, xs[i], h, List.getElem?_eq_getElem hi⟩
  stops := fun H h => ⟨xs, h, Nat.le_refl _⟩
  yields := fun i H x H' hi h y => by
    obtain ⟨T, z, e, hT, e2, hx⟩ := y
    exact ⟨T, _, z, e, hT, e2, rfl, hx xs h⟩
end L2
namespace L2
open PySem PySem.Spec PyProof.Rows PySem.Calls
section
variable {prog : Program} {w : World} {A : Around} {E : Value → Shared → Prop} {s : Shared} {r d : Addr} {n : Nat} {P : Nat → Value → Prop} {OK : Heap → Prop}
/-- tuple(x), x a dict or a view of one -/
theorem codeTupD {Q₁ : Value → Shared → Prop} (Kd : PySem.W.KdlSrc prog w "dict" r d n P OK) (hT : s.TypeIs (.ref r) "dict") (hh : A.handled = none) (hok : OK s.heap) (hn : n ≤ sizeLine)
    (h : ∀ (h' : Heap) (tk : Nat) (acc : Array Value), (∀ b o, s.heap.get? b = some o → h'.get? b = some o) → ItemsOf P acc n →
      Q₁ (.ref h'.objs.size) { s with heap := h'.push { cls := .type "tuple", data := .seq acc }, toks := tk }) :
    codeAny (model prog w) A (.call (.builtin "tuple.__new__") ⟨[.type "tuple", .ref r], []⟩) (wants Q₁ E) s := by
  refine codeAny_of_tree ?_
  show wpAny _ A.in1 (do checkBuiltinCall "tuple.__new__" ⟨[.type "tuple", .ref r], []⟩; again (.builtin "tuple.__new__" ⟨[.type "tuple", .ref r], []⟩)) _ _ s
  refine wpAny_bind (wpAny_of_eq (F.newCall_tuple_1 _) (wpAny_pure ⟨plainId_quiet F.plain_tuple_new _, codeAny_builtin F.entry_tuple_new ?_⟩))
  rw [Around.under_plainId F.plain_tuple_new _]
  have hsub := sub_tuple_self
  have hinit := init_tuple_lookup
  have hmh := madeHere_tuple
  have hh1 : A.in1.handled = none := hh
  wp_walk using wpAny_typeOf hT, PySem.W.kdu_collect (A := A.in1) Kd hh1 hok hn
  intro h' tk acc hk hacc
  show wpAny _ _ (Builtin.Tuple.tupleExact acc.toList.toArray >>= fun v => ret v) _ _ _
  unfold Builtin.Tuple.tupleExact
  refine wpAny_bind (wpAny_newObj_type ?_ (by show acc.toList.toArray.size ≤ sizeLine; simp only [Array.toArray_toList]; rw [hacc.1]; exact hn))
  refine wpAny_pure ?_
  have e : acc.toList.toArray = acc := by simp
  rw [e]
  exact h h' tk acc hk hacc
end
section
variable {X : Cx}
/-- tuple(d): its keys -/
theorem call_tupleD (hcalm : X.calm = true) : CallR X (.type "tuple") (fun xs H Q => ∃ (a : Addr) (kvs : List (Key × V)), xs = [.ref a] ∧ Rd H a (.dK kvs) ∧ ∀ p, H p = none → Q (.ref p) (upd H p (.tup (kvs.map fun kv => kV kv.1)))) := by
  intro pins s σ H xs us Q I r q
  obtain ⟨a, kvs, ex, hd, q⟩ := q
  subst ex
  rw [Vals.ref1 r]
  obtain ⟨z, lo, vs, rel, dd⟩ := dk_rd I.hok hd
  obtain ⟨ep, hat⟩ := dd.dictAt
  have ek : (kvs.map fun kv => kV kv.1) = vs.map fun p => kV p.1 := by
    have e := congrArg (List.map kV) rel.keys
    rw [List.map_map, List.map_map] at e
    exact e
  have hz : vs.length ≤ sizeLine := by
    rw [← rel.length]
    exact z
  refine callType_codes (Q₁ := fun obj s₁ => s₁.TypeIs obj "tuple" ∧ EP X pins σ Q obj s₁) F.called_tuple (F.typeCall_tuple_1 _) F.entry_object_init
    (codeTupD (A := X.A.in1) (PySem.W.kdl_dict (knd := mixKind X.prog X.w) (kvs := vs) (ep := ep) lo) dd.typeIs (I.ok.hd hcalm) hat hz fun h' tk acc hk hacc => ⟨⟨_, Heap.get?_push_size _ rfl, rfl⟩, ?_⟩) fun obj s₁ h₁ => ?_
  · have hv : Vals (vs.map fun p => kV p.1) acc.toList := keys_at (by rw [Array.length_toList]; exact hacc.1) fun j v e => hacc.2 j v (by rw [← Array.getElem?_toList]; exact e)
    have I1 : Inv X pins σ H { s with heap := h', toks := tk } := I.kept hk
    have I2 : Inv X pins σ (upd H h'.objs.size (.tup (kvs.map fun kv => kV kv.1))) { s with heap := h'.push { cls := .type "tuple", data := .seq acc }, toks := tk } :=
      I1.laid (t' := tk) (fun b o e => Heap.get?_push_of_some _ e) (Nat.le_refl _) (show ObjOk X.prog X.w _ _ _ (.tup (kvs.map fun kv => kV kv.1)) from ⟨by rw [List.length_map]; exact z, acc.toList, by rw [ek]; exact hv, by
        have e : acc.toList.toArray = acc := by simp
        rw [e]
        exact IsTup.new _ _⟩)
    exact ⟨.ref h'.objs.size, _, I2, rfl, q _ (I1.hok.fresh (Nat.le_refl _))⟩
  · exact ⟨h₁.1, F.args_object_init_2 obj _, object_init_meets F.called_tuple.init.lookup F.called_tuple.made (by decide) X.prog X.w X.A.in1 _ s₁ ⟨h₁.1, rfl, h₁.2⟩⟩
end
end L2
/-! ### dict(zip(a, b)) of two tuples -/
namespace DZ
open PySem
section
variable {P : Program} {w : World} {A : Around} {B : Value → Shared → Prop} {s : Shared} {z TI TO T i1 i2 l1 l2 : Addr} {f : Bool} {oT : Obj} {k1 k2 : Nat} {xs ys : Array Value}
/-- one step of a zip whose last pair is still out: its two iterators are asked in turn -/
theorem out_step {Q : Fin → Shared → Prop} (hz : IsZipHeld s.heap z TI TO T f) (hT : s.heap.get? T = some oT) (hTI : IsPair s.heap TI (.ref i1) (.ref i2))
    (k : ∀ h1, IsZipHeld h1 z TI TO T true → Heap.SameBut z s.heap h1 → wpAny (model P w) A (Builtin.SmallTypes.nextOf (.ref i1)) (fun x s2 => wpAny (model P w) A (Builtin.SmallTypes.nextOf (.ref i2)) (fun y s3 => wpAny (model P w) A (newTuple [x, y]) (fun v s4 => Q (.done (.ret v)) s4) B s3) B s2) B { s with heap := h1 }) :
    wpAny (model P w) A (Builtin.«zip.__next__» ⟨[.ref z], []⟩) Q B s := by
  refine (show wpAny _ _ (field (.ref z) 2 >>= _) _ _ _ from wpAny_bind (wpAny_field hz rfl (x := .bool false) rfl (show wpAny _ _ (field (.ref z) 3 >>= _) _ _ _ from wpAny_bind (wpAny_field hz rfl (x := .ref TI) rfl (wpAny_bind (wpAny_seqItems hTI rfl (show wpAny _ _ (Builtin.SmallTypes.ownedTupleIsFree (.ref z) >>= _) _ _ _ from wpAny_bind (wpAny_tupleHeld_zip hz hT fun h1 hz1 hs1 => ?_))))))))
  simp only [Bool.false_eq_true, if_false, ← Array.forIn_toList, List.forIn_cons, List.forIn_nil]
  refine wpAny_bind (wpAny_bind (wpAny_bind (wpAny_holding (show wpAny _ _ (Builtin.SmallTypes.nextOf (.ref i1) >>= _) _ _ _ from wpAny_bind (wpAny_mono (k h1 hz1 hs1) (fun x s2 h2 => wpAny_pure (wpAny_pure ?_)) fun _ _ e => e)))))
  refine wpAny_bind (wpAny_bind (wpAny_holding (show wpAny _ _ (Builtin.SmallTypes.nextOf (.ref i2) >>= _) _ _ _ from wpAny_bind (wpAny_mono h2 (fun y s3 h3 => wpAny_pure (wpAny_pure (wpAny_pure ?_))) fun _ _ e => e))))
  exact (show wpAny _ _ (newTuple [x, y] >>= _) _ _ _ from wpAny_bind (wpAny_mono h3 (fun v s4 h4 => wpAny_pure h4) fun _ _ e => e))
open RZ
theorem out_item {Q : Option Value → Shared → Prop} {x y : Value} (D : ZipApart z TI TO i1 i2 l1 l2) (hz : IsZipHeld s.heap z TI TO T f) (hT : s.heap.get? T = some oT) (hTI : IsPair s.heap TI (.ref i1) (.ref i2))
    (a1 : s.heap.IsTupleIter i1 l1 k1) (a2 : s.heap.IsTupleIter i2 l2 k2) (b1 : s.heap.IsTuple l1 xs) (b2 : s.heap.IsTuple l2 ys) (hx : xs[k1]? = some x) (hy : ys[k2]? = some y)
    (q : ∀ h', IsZipHeld h' z TI TO T true → h'.IsTupleIter i1 l1 (k1 + 1) → h'.IsTupleIter i2 l2 (k2 + 1) → IsPair h' s.heap.objs.size x y → (∀ c o, c ≠ z → c ≠ i1 → c ≠ i2 → s.heap.get? c = some o → h'.get? c = some o) → Q (some (.ref s.heap.objs.size)) { s with heap := h' }) :
    wpAny (model P w) A (pyNext (.ref z)) Q B s := by
  have ty : s.TypeIs (.ref z) "zip" := ⟨_, hz, rfl⟩
  unfold pyNext
  refine wpAny_bind (wpAny_attempt (wpAny_callSpecial?_slot (name := Str.ofString "__next__") ty F.slot_zip_next (wpAny_call_entry F.slot_zip_next ty F.entry_zip_next (out_step hz hT hTI fun h1 z1 s1 => ?_) (F.args_zip_next_1 _))))
  refine nextOf_tuple_item (s := { s with heap := h1 }) (a1.extBut s1.extBut D.i1z) (b1.extBut s1.extBut D.l1z) hx fun h2 c1 s2 => ?_
  refine nextOf_tuple_item (s := { s with heap := h2 }) ((a2.extBut s1.extBut D.i2z).extBut s2.extBut D.i12.symm) ((b2.extBut s1.extBut D.l2z).extBut s2.extBut D.l2i1) hy fun h3 c2 s3 => ?_
  refine wpAny_newTuple ⟨_, rfl, wpAny_pure ?_⟩
  have n : h3.objs.size = s.heap.objs.size := by rw [s3.1, s2.1, s1.1]
  have pr : IsPair (h3.push { cls := .type "tuple", data := .seq #[x, y] }) h3.objs.size x y := Heap.get?_push_size _ rfl
  show Q (some (.ref h3.objs.size)) _
  rw [n] at pr ⊢
  exact q _ (Heap.get?_push_of_some _ (s3.extBut _ _ D.i2z.symm (s2.extBut _ _ D.i1z.symm z1))) ((c1.extBut s3.extBut D.i12).at fun o e => Heap.get?_push_of_some _ e) (c2.at fun o e => Heap.get?_push_of_some _ e) pr
    fun c o n1 n2 n3 e => Heap.get?_push_of_some _ (s3.extBut _ _ n3 (s2.extBut _ _ n2 (s1.extBut _ _ n1 e)))
theorem out_end {Q : Option Value → Shared → Prop} (hh : A.handled = none) (D : ZipApart z TI TO i1 i2 l1 l2) (hz : IsZipHeld s.heap z TI TO T f) (hT : s.heap.get? T = some oT) (hTI : IsPair s.heap TI (.ref i1) (.ref i2))
    (a1 : s.heap.IsTupleIter i1 l1 k1) (a2 : s.heap.IsTupleIter i2 l2 k2) (b1 : s.heap.IsTuple l1 xs) (b2 : s.heap.IsTuple l2 ys) (he : xs[k1]? = none ∨ ys[k2]? = none)
    (q : ∀ h', (∀ c o, c ≠ z → c ≠ i1 → c ≠ i2 → s.heap.get? c = some o → h'.get? c = some o) → Q none { s with heap := h' }) : wpAny (model P w) A (pyNext (.ref z)) Q B s := by
  have ty : s.TypeIs (.ref z) "zip" := ⟨_, hz, rfl⟩
  have out : ∀ h' e, (∀ c o, c ≠ z → c ≠ i1 → c ≠ i2 → s.heap.get? c = some o → h'.get? c = some o) → (∃ o, h'.get? e = some o ∧ o.cls = .type "StopIteration") →
      wpAny (model P w) A (do if ← isInstance (.ref e) (.type "StopIteration") then pure none else throw (.ref e)) Q B { s with heap := h' } := fun h' e k ⟨o, ho, hc⟩ =>
    wpAny_bind (wpAny_isInstance (T := "StopIteration") (b := true) ⟨o, ho, hc⟩ isSubtype_stop (wpAny_pure (q _ k)))
  unfold pyNext
  refine wpAny_bind (wpAny_attempt (wpAny_callSpecial?_slot (name := Str.ofString "__next__") ty F.slot_zip_next (wpAny_call_entry F.slot_zip_next ty F.entry_zip_next (out_step hz hT hTI fun h1 z1 s1 => ?_) (F.args_zip_next_1 _))))
  cases hx : xs[k1]? with
  | none => exact nextOf_tuple_end (s := { s with heap := h1 }) hh (a1.extBut s1.extBut D.i1z) (b1.extBut s1.extBut D.l1z) hx fun h2 e s2 he => out h2 e (fun c o n1 n2 _ x => s2 _ _ n2 (s1.extBut _ _ n1 x)) he
  | some x =>
    have hy : ys[k2]? = none := he.resolve_left fun h => by rw [hx] at h; cases h
    refine nextOf_tuple_item (s := { s with heap := h1 }) (a1.extBut s1.extBut D.i1z) (b1.extBut s1.extBut D.l1z) hx fun h2 c1 s2 => ?_
    exact nextOf_tuple_end (s := { s with heap := h2 }) hh ((a2.extBut s1.extBut D.i2z).extBut s2.extBut D.i12.symm) ((b2.extBut s1.extBut D.l2z).extBut s2.extBut D.l2i1) hy fun h3 e s3 he => out h3 e (fun c o n1 n2 n3 x => s3 _ _ n3 (s2.extBut _ _ n2 (s1.extBut _ _ n1 x))) he
/-- the zip after k pairs, while a dict is filled at d: its last pair is out or not -/
structure At (h : Heap) (d z TI TO i1 i2 l1 l2 : Addr) (xs ys : Array Value) (k : Nat) : Prop where
  ti : IsPair h TI (.ref i1) (.ref i2)
  a1 : h.IsTupleIter i1 l1 k
  a2 : h.IsTupleIter i2 l2 k
  b1 : h.IsTuple l1 xs
  b2 : h.IsTuple l2 ys
  zz : (IsZip h z TI TO .none ∧ ∃ a b, IsPair h TO a b) ∨ ∃ T f oT, IsZipHeld h z TI TO T f ∧ h.get? T = some oT ∧ T ≠ z ∧ T ≠ i1 ∧ T ≠ i2 ∧ T ≠ d
theorem argZipT (D : ZipApart z TI TO i1 i2 l1 l2) (xs ys : Array Value) : PairArg P w "zip" z [z, TI, TO, i1, i2, l1, l2] [z, TO, i1, i2] (min xs.size ys.size) (fun i k v => xs[i]? = some k ∧ ys[i]? = some v)
    (fun h => (IsZip h z TI TO .none ∧ ∃ a b, IsPair h TO a b) ∧ IsPair h TI (.ref i1) (.ref i2) ∧ (h.IsTupleIter i1 l1 0 ∧ h.IsTupleIter i2 l2 0) ∧ h.IsTuple l1 xs ∧ h.IsTuple l2 ys) where
  type := fun s o => ⟨_, o.1.1, rfl⟩
  notDict := by decide
  keep := fun h h' ⟨⟨c1, a, b, c2⟩, c3, ⟨c4, c5⟩, c6, c7⟩ e => ⟨⟨e _ _ c1, a, b, e _ _ c2⟩, e _ _ c3, ⟨c4.at fun o q => e _ o q, c5.at fun o q => e _ o q⟩, c6.at fun o q => e _ o q, c7.at fun o q => e _ o q⟩
  there := fun h ⟨⟨c1, a, b, c2⟩, c3, ⟨⟨o4, c4, _⟩, o5, c5, _⟩, ⟨o6, c6, _⟩, o7, c7, _⟩ b hb => by
    simp only [List.mem_cons, List.not_mem_nil, or_false] at hb
    rcases hb with e | e | e | e | e | e | e
    all_goals (subst e; first | exact ⟨_, c1⟩ | exact ⟨_, c3⟩ | exact ⟨_, c2⟩ | exact ⟨_, c4⟩ | exact ⟨_, c5⟩ | exact ⟨_, c6⟩ | exact ⟨_, c7⟩)
  sub := fun b hb => by
    simp only [List.mem_cons, List.not_mem_nil, or_false] at hb ⊢
    rcases hb with e | e | e | e
    all_goals simp [e]
  noKeys := fun A s Q E hA o h => getAttrOr_miss_zip o.1.1 rfl rfl rfl zip_no_keys (by decide +kernel) hA h
  iter := fun A s d Q E hA o hd hdf h => by
    obtain ⟨c1, c3, ⟨c4, c5⟩, c6, c7⟩ := o
    simp only [List.mem_cons, List.not_mem_nil, or_false, not_or] at hdf
    obtain ⟨n1, n2, n3, n4, n5, n6, n7⟩ := hdf
    refine wpAny_pyIter_zip c1.1 (h z [z, TO, i1, i2] (fun i h => At h d z TI TO i1 i2 l1 l2 xs ys i) s.heap s.toks ?_ ⟨c3, c4, c5, c6, c7, .inl c1⟩ (fun _ _ e => e) fun b hb => .inl hb)
    refine { off := fun hm => ?_, frame := fun i h1 h2 st e => ?_, item := fun i s1 Q1 E1 hi st hds k => ?_, done := fun s1 Q1 E1 st k => ?_ }
    · simp only [List.mem_cons, List.not_mem_nil, or_false] at hm
      exact hm.elim n1 fun m => m.elim n3 fun m => m.elim n4 n5
    · refine ⟨e _ _ (Ne.symm n2) st.ti, st.a1.at fun o q => e _ o (Ne.symm n4) q, st.a2.at fun o q => e _ o (Ne.symm n5) q, st.b1.at fun o q => e _ o (Ne.symm n6) q, st.b2.at fun o q => e _ o (Ne.symm n7) q, st.zz.imp (fun ⟨m1, a, b, m2⟩ => ⟨e _ _ (Ne.symm n1) m1, a, b, e _ _ (Ne.symm n3) m2⟩) ?_⟩
      exact fun ⟨T, f, oT, m1, m2, m3, m4, m5, m6⟩ => ⟨T, f, oT, e _ _ (Ne.symm n1) m1, e _ _ m6 m2, m3, m4, m5, m6⟩
    · have ex := Array.getElem?_eq_getElem (xs := xs) (show i < xs.size by omega)
      have ey := Array.getElem?_eq_getElem (xs := ys) (show i < ys.size by omega)
      have lt : ∀ {c o}, s1.heap.get? c = some o → s1.heap.objs.size ≠ c := fun e => Nat.ne_of_gt (Heap.lt_size e)
      have m1 : s1.heap.objs.size ≠ i1 := lt st.a1.choose_spec.1
      have m2 : s1.heap.objs.size ≠ i2 := lt st.a2.choose_spec.1
      rcases st.zz with ⟨q1, a, b, q2⟩ | ⟨T, f, oT, q1, q2, q3, q4, q5, q6⟩
      · refine RZ.pyNext_zipT_item D q1 st.ti q2 st.a1 st.a2 st.b1 st.b2 ex ey fun h' r1 r2 r3 r4 r5 r6 e => k _ _ _ h' s1.toks ⟨ex, ey⟩ (.inl ⟨_, r5, rfl, _, rfl⟩) ?_ fun c o hc q => ?_
        · exact ⟨e _ _ D.TIz D.TITO D.TIi1 D.TIi2 st.ti, r3, r4, st.b1.at fun o q => e _ o D.l1z D.l1TO D.l1i1 D.l1i2 q, st.b2.at fun o q => e _ o D.l2z D.l2TO D.l2i1 D.l2i2 q, .inr ⟨_, false, _, r1, r5, lt q1, m1, m2, Nat.ne_of_gt hds⟩⟩
        · simp only [List.mem_cons, List.not_mem_nil, or_false, not_or] at hc
          exact e c o hc.1 hc.2.1 hc.2.2.1 hc.2.2.2 q
      · refine out_item D q1 q2 st.ti st.a1 st.a2 st.b1 st.b2 ex ey fun h' r1 r3 r4 r5 e => k _ _ _ h' s1.toks ⟨ex, ey⟩ (.inl ⟨_, r5, rfl, _, rfl⟩) ?_ fun c o hc q => ?_
        · exact ⟨e _ _ D.TIz D.TIi1 D.TIi2 st.ti, r3, r4, st.b1.at fun o q => e _ o D.l1z D.l1i1 D.l1i2 q, st.b2.at fun o q => e _ o D.l2z D.l2i1 D.l2i2 q, .inr ⟨T, true, oT, r1, e _ _ q3 q4 q5 q2, q3, q4, q5, q6⟩⟩
        · simp only [List.mem_cons, List.not_mem_nil, or_false, not_or] at hc
          exact e c o hc.1 hc.2.2.1 hc.2.2.2 q
    · have he : xs[min xs.size ys.size]? = none ∨ ys[min xs.size ys.size]? = none := (Nat.le_total xs.size ys.size).imp (fun h => Array.getElem?_eq_none (by omega)) fun h => Array.getElem?_eq_none (by omega)
      rcases st.zz with ⟨q1, a, b, q2⟩ | ⟨T, f, oT, q1, q2, q3, q4, q5, q6⟩
      · refine RZ.pyNext_zipT_end hA D q1 st.ti q2 st.a1 st.a2 st.b1 st.b2 he fun h' e => k h' s1.toks fun c o hc q => ?_
        simp only [List.mem_cons, List.not_mem_nil, or_false, not_or] at hc
        exact e c o hc.1 hc.2.1 hc.2.2.1 hc.2.2.2 q
      · refine out_end hA D q1 q2 st.ti st.a1 st.a2 st.b1 st.b2 he fun h' e => k h' s1.toks fun c o hc q => ?_
        simp only [List.mem_cons, List.not_mem_nil, or_false, not_or] at hc
        exact e c o hc.1 hc.2.2.1 hc.2.2.2 q
end
end DZ
namespace L2
open PySem PySem.Spec PyProof.Rows
theorem boot_dictT : bootBuiltins "dict" = some (.type "dict") := by decide +kernel
theorem kv_zip : ∀ {ks : List Key} {xs : List V} {us : List Value}, Vals xs us → KV (ks.zip xs) (ks.zip us)
  | [], _, _, _ => .nil
  | _ :: _, _, _, .nil => .nil
  | _ :: _, _, _, .cons r t => .cons ⟨rfl, r⟩ (kv_zip t)
/-- dict(zip(a, b)), a a tuple of texts, b a tuple -/
def tDictZip (K : PySem.W.Frag) (ta : TA) : TE := fun σ H Q => ta σ H fun vs H1 => ∃ (a b : Addr) (zs : List Str) (xs : List V), vs = [.ref a, .ref b] ∧ SqT K H1 a (zs.map V.str) ∧ SqT K H1 b xs ∧ zs.length ≤ 1000 ∧
  ∀ p, H1 p = none → Q (.ref p) (upd H1 p (.dK (mergeK [] ((zs.map (Sum.inr : Str → Key)).zip xs))))
theorem pe_dictZip {X : Cx} {e e2 : Expr} {ta : TA} {p p2 q pos : Pos} (hg : Gl X "dict") (hm : X.mg "dict" = none) (hg2 : Gl X "zip") (hm2 : X.mg "zip" = none) (ha : PA X [e, e2] ta) (hc : X.calm = true := by rfl)
    (hs : starEach [e, e2] X.env = (false, eval e X.env) :: starEach [e2] X.env := by rfl) (hpl : (backTo q (starEach [e2] X.env)).any (·.1) = false := by rfl)
    (hz : starEach [.Call (.Name "zip" p2) [e, e2] [] q] X.env = (false, eval (.Call (.Name "zip" p2) [e, e2] [] q) X.env) :: starEach [] X.env := by rfl) :
    PE X (.Call (.Name "dict" p) [.Call (.Name "zip" p2) [e, e2] [] q] [] pos) (tDictZip X.K ta) := by
  refine ⟨fun pins s σ H Q I h => ?_⟩
  refine Call_ (ld_blt I hg hm boot_dictT (callWith_type1 (args_cons (Call_ (ld_blt I hg2 hm2 boot_zip (callWith_type1 (thn (ha.run q pins s σ H _ I h) fun us s1 ⟨vs, H1, I1, r1, q1⟩ => ?_) hs hpl))) hz) hz rfl))
  obtain ⟨a, b, zs, xs, rfl, h1, h2, hl, q1⟩ := q1
  obtain ⟨u1, u2, rfl, e1, e2⟩ := vals2 r1
  cases e1
  cases e2
  obtain ⟨is1, v1, t1, _⟩ := I1.tuple h1
  obtain ⟨is2, v2, t2, _⟩ := I1.tuple h2
  have n1 : a < s1.heap.objs.size := Heap.lt_size t1.choose_spec.1
  have n2 : b < s1.heap.objs.size := Heap.lt_size t2.choose_spec.1
  have D := PySem.W.ktu_apart s1.heap.objs.size a b n1 n2
  have l1 : is1.length = zs.length := by rw [← v1.length, List.length_map]
  refine RZ.call_zipT (show s1.heap.IsTuple a is1.toArray from t1) (show s1.heap.IsTuple b is2.toArray from t2) fun h' hz hTI hTO g1 g2 hsz hk => args_nil ?_
  have I2 : Inv X pins σ H1 { s1 with heap := h' } := I1.kept (t' := s1.toks) hk
  have ln : ((zs.map (Sum.inr : Str → Key)).zip is2).length = min is1.toArray.size is2.toArray.size := by rw [List.length_zip, List.length_map, List.size_toArray, List.size_toArray, l1]
  refine PySem.call_dict_pairs (s := { s1 with heap := h' }) (knd := mixKind X.prog X.w) (kvs := (zs.map (Sum.inr : Str → Key)).zip is2) (DZ.argZipT D is1.toArray is2.toArray) (I1.ok.hd hc)
    ⟨⟨hz, _, _, hTO⟩, hTI, ⟨g1, g2⟩, (show s1.heap.IsTuple a is1.toArray from t1).at fun o e => hk _ o e, (show s1.heap.IsTuple b is2.toArray from t2).at fun o e => hk _ o e⟩ ⟨ln, fun i key v ⟨m1, m2⟩ => ?_⟩ ?_ fun h3 tk hd hk3 => ?_
  · have hi : i < zs.length := by
      have := (Array.getElem?_eq_some_iff.mp m1).1
      rw [List.size_toArray, l1] at this
      exact this
    obtain ⟨u, hu, ru⟩ := v1.get (i := i) (x := V.str zs[i]) (by rw [List.getElem?_map, List.getElem?_eq_getElem hi]; rfl)
    have ek : u = key := by
      have m1' : is1[i]? = some key := by simpa using m1
      rw [hu] at m1'
      exact Option.some.inj m1'
    have m2' : is2[i]? = some v := by simpa using m2
    refine ⟨Sum.inr zs[i], ?_, by rw [← ek]; exact kV_is (k := Sum.inr zs[i]) ru⟩
    rw [List.getElem?_zip_eq_some]
    exact ⟨by rw [List.getElem?_map, List.getElem?_eq_getElem hi]; rfl, m2'⟩
  · rw [← ln, List.length_zip, List.length_map]
    exact Nat.le_trans (Nat.min_le_left _ _) (Nat.le_trans hl (by decide))
  · have k3 : ∀ c o, s1.heap.get? c = some o → h3.get? c = some o := fun c o e => hk3 c o (fun m => by
      have lt := Heap.lt_size e
      simp only [List.mem_cons, List.not_mem_nil, or_false] at m
      rcases m with m | m | m | m <;> (rw [m] at lt; first | exact absurd lt (Nat.not_lt.mpr (Nat.le_add_right _ _)) | exact absurd lt (Nat.lt_irrefl _))) (hk c o e)
    have big : sysModules < h'.objs.size := I2.big
    have le : s1.heap.objs.size ≤ h'.objs.size := by rw [hsz]; exact Nat.le_add_right _ _
    have sz : (mergeK [] ((zs.map (Sum.inr : Str → Key)).zip xs)).length ≤ sizeLine := by
      refine Nat.le_trans (length_mergeK _ []) ?_
      rw [List.length_nil, Nat.zero_add, List.length_zip, List.length_map]
      exact Nat.le_trans (Nat.min_le_left _ _) (Nat.le_trans hl (by decide))
    have new : ObjOk X.prog X.w (upd H1 h'.objs.size (.dK (mergeK [] ((zs.map (Sum.inr : Str → Key)).zip xs)))) h3 h'.objs.size (.dK (mergeK [] ((zs.map (Sum.inr : Str → Key)).zip xs))) := ⟨sz, beq_eq_false_iff_ne.mpr (Nat.ne_of_gt big), _, KV.merge (kv_zip v2) .nil, hd⟩
    exact ⟨.ref h'.objs.size, _, I1.laid (t' := tk) k3 le new, rfl, q1 _ (I1.hok.fresh le)⟩
theorem putK_out {kvs : List (Key × V)} {k : Key} {v : V} (h : k ∉ kvs.map (·.1)) : putK kvs k v = kvs ++ [(k, v)] := by
  unfold putK
  rw [if_neg]
  rw [List.any_eq_true]
  rintro ⟨p, hp, e⟩
  exact h (List.mem_map.mpr ⟨p, hp, of_decide_eq_true e⟩)
theorem mergeK_nd : ∀ {more kvs : List (Key × V)}, ((kvs ++ more).map (·.1)).Nodup → mergeK kvs more = kvs ++ more
  | [], kvs, _ => by rw [List.append_nil]; rfl
  | (k, v) :: r, kvs, h => by
    have hk : k ∉ kvs.map (·.1) := fun m => by
      rw [List.map_append, List.nodup_append] at h
      exact h.2.2 k m k List.mem_cons_self rfl
    have e : mergeK kvs ((k, v) :: r) = mergeK (putK kvs k v) r := rfl
    rw [e, putK_out hk, mergeK_nd (kvs := kvs ++ [(k, v)]) (by rw [List.append_assoc]; exact h), List.append_assoc]
    rfl
end L2
namespace L2
open PySem PySem.Spec PyProof.Rows RZ
/-! ### zip of two sequences, each a list (true) or a tuple (false) -/
def JtB (b : Bool) (h : Heap) (i l : Addr) (k : Nat) : Prop := if b = true then h.IsListIter i l k else h.IsTupleIter i l k
def SeqB (b : Bool) (h : Heap) (l : Addr) (xs : Array Value) : Prop := if b = true then h.IsList l xs else h.IsTuple l xs
theorem JtB.ext {b : Bool} {h g : Heap} {i l c : Addr} {k : Nat} (x : JtB b h i l k) (e : Heap.ExtBut c h g) (n : i ≠ c) : JtB b g i l k := by
  cases b
  · exact Heap.IsTupleIter.extBut (show h.IsTupleIter i l k from x) e n
  · exact Heap.IsListIter.extBut (show h.IsListIter i l k from x) e n
theorem JtB.at {b : Bool} {h g : Heap} {i l : Addr} {k : Nat} (x : JtB b h i l k) (e : ∀ o, h.get? i = some o → g.get? i = some o) : JtB b g i l k := by
  cases b
  · exact Heap.IsTupleIter.at (show h.IsTupleIter i l k from x) e
  · exact Heap.IsListIter.at (show h.IsListIter i l k from x) e
theorem JtB.ob {b : Bool} {h : Heap} {i l : Addr} {k : Nat} (x : JtB b h i l k) : ∃ o, h.get? i = some o ∧ ∀ v, o.data ≠ .cell v := by
  cases b
  · obtain ⟨o, e, _, d⟩ := (show h.IsTupleIter i l k from x)
    exact ⟨o, e, fun v q => by rw [d] at q; cases q⟩
  · obtain ⟨o, e, _, d⟩ := (show h.IsListIter i l k from x)
    exact ⟨o, e, fun v q => by rw [d] at q; cases q⟩
theorem SeqB.ext {b : Bool} {h g : Heap} {l c : Addr} {xs : Array Value} (x : SeqB b h l xs) (e : Heap.ExtBut c h g) (n : l ≠ c) : SeqB b g l xs := by
  cases b
  · exact Heap.IsTuple.extBut (show h.IsTuple l xs from x) e n
  · exact Heap.IsList.extBut (show h.IsList l xs from x) e n
theorem SeqB.lt {b : Bool} {h : Heap} {l : Addr} {xs : Array Value} (x : SeqB b h l xs) : l < h.objs.size := by
  cases b
  · obtain ⟨o, e, _⟩ := (show h.IsTuple l xs from x)
    exact Heap.lt_size e
  · obtain ⟨o, e, _⟩ := (show h.IsList l xs from x)
    exact Heap.lt_size e
section
variable {P : Program} {w : World} {A : Around} {E : Value → Shared → Prop} {s : Shared}
theorem nextB_item {b : Bool} {i l : Addr} {k : Nat} {xs : Array Value} {x : Value} {Q : Value → Shared → Prop} (hi : JtB b s.heap i l k) (hl : SeqB b s.heap l xs) (hx : xs[k]? = some x)
    (q : ∀ g, JtB b g i l (k + 1) → Heap.SameBut i s.heap g → Q x { s with heap := g }) : wpAny (model P w) A (Builtin.SmallTypes.nextOf (.ref i)) Q E s := by
  cases b
  · exact nextOf_tuple_item (show s.heap.IsTupleIter i l k from hi) (show s.heap.IsTuple l xs from hl) hx q
  · exact wpAny_nextOf_list_item (show s.heap.IsListIter i l k from hi) (show s.heap.IsList l xs from hl) hx q
theorem nextB_end {b : Bool} {i l : Addr} {k : Nat} {xs : Array Value} {Q : Value → Shared → Prop} (hh : A.handled = none) (hi : JtB b s.heap i l k) (hl : SeqB b s.heap l xs) (hx : xs[k]? = none)
    (q : ∀ g e, Heap.ExtBut i s.heap g → (∃ o, g.get? e = some o ∧ o.cls = .type "StopIteration") → E (.ref e) { s with heap := g }) : wpAny (model P w) A (Builtin.SmallTypes.nextOf (.ref i)) Q E s := by
  cases b
  · exact nextOf_tuple_end hh (show s.heap.IsTupleIter i l k from hi) (show s.heap.IsTuple l xs from hl) hx q
  · exact wpAny_nextOf_list_end hh (show s.heap.IsListIter i l k from hi) (show s.heap.IsList l xs from hl) hx q
variable {b c : Bool} {z U O i j l m : Addr} {p q : Nat} {xs ys : Array Value} {u v : Value}
/-- zip's step: both sides have an item -/
theorem zipB_item {x y : Value} {Q : Value → Shared → Prop} (D : ZipApart z U O i j l m) (hz : IsZip s.heap z U O .none) (hU : IsPair s.heap U (.ref i) (.ref j)) (hO : IsPair s.heap O u v)
    (hi : JtB b s.heap i l p) (hj : JtB c s.heap j m q) (hl : SeqB b s.heap l xs) (hm : SeqB c s.heap m ys) (hx : xs[p]? = some x) (hy : ys[q]? = some y)
    (kk : ∀ g, IsZip g z U O (rawInt s.heap.objs.size) → IsPair g O x y → JtB b g i l (p + 1) → JtB c g j m (q + 1) → IsPair g s.heap.objs.size x y → g.objs.size = s.heap.objs.size + 1 →
      (∀ a o, a ≠ z → a ≠ O → a ≠ i → a ≠ j → s.heap.get? a = some o → g.get? a = some o) → Q (.ref s.heap.objs.size) { s with heap := g }) :
    wpAny (model P w) A (Builtin.«zip.__next__» ⟨[.ref z], []⟩) (fun f t => ∃ v, f = .done (.ret v) ∧ Q v t) E s := by
  show wpAny _ _ (field (.ref z) 2 >>= _) _ E _
  refine wpAny_bind (wpAny_field hz rfl (x := .bool false) rfl (?_ : _))
  show wpAny _ _ (field (.ref z) 3 >>= _) _ E _
  refine wpAny_bind (wpAny_field hz rfl (x := .ref U) rfl ?_)
  refine wpAny_bind (wpAny_seqItems hU rfl ?_)
  show wpAny _ _ (Builtin.SmallTypes.ownedTupleIsFree (.ref z) >>= _) _ E _
  refine wpAny_bind ?_
  unfold Builtin.SmallTypes.ownedTupleIsFree
  refine wpAny_bind (wpAny_field hz rfl (x := .none) rfl (wpAny_pure (?_ : _)))
  simp only [if_true]
  refine wpAny_bind (wpAny_rule ?_)
  refine wpAny_bind (wpAny_field hz rfl (x := .ref O) rfl ?_)
  refine wpAny_bind (wpAny_setField_rec hz (by simp) fun g1 zg1 b1 => ?_)
  replace zg1 : IsZip g1 z U O .ellipsis := zg1
  refine wpAny_bind ?_
  simp only [List.zipIdx_cons, List.zipIdx_nil, List.forIn_nil, List.forIn_cons]
  refine wpAny_bind (wpAny_bind (wpAny_onRaise (?_ : _)))
  show wpAny _ _ (Builtin.SmallTypes.nextOf (.ref i) >>= _) _ _ _
  refine wpAny_bind (nextB_item (hi.ext b1.extBut D.i1z) (hl.ext b1.extBut D.l1z) hx fun g2 i2 b2 => wpAny_pure ?_)
  have O2 : IsPair g2 O u v := b2.extBut _ _ D.TOi1 (b1.extBut _ _ D.TOz hO)
  refine wpAny_bind (wpAny_seqItems O2 rfl ?_)
  refine wpAny_bind (wpAny_updateSeq_pair O2 fun g3 O3 b3 => ?_)
  replace O3 : IsPair g3 O x v := O3
  refine wpAny_bind (wpAny_letGo (wpAny_pure (?_ : _)))
  refine wpAny_bind (wpAny_bind (wpAny_onRaise (?_ : _)))
  show wpAny _ _ (Builtin.SmallTypes.nextOf (.ref j) >>= _) _ _ _
  refine wpAny_bind (nextB_item (((hj.ext b1.extBut D.i2z).ext b2.extBut D.i12.symm).ext b3.extBut D.TOi2.symm) (((hm.ext b1.extBut D.l2z).ext b2.extBut D.l2i1).ext b3.extBut D.l2TO) hy fun g4 j4 b4 => wpAny_pure ?_)
  have O4 : IsPair g4 O x v := b4.extBut _ _ D.TOi2 O3
  refine wpAny_bind (wpAny_seqItems O4 rfl ?_)
  refine wpAny_bind (wpAny_updateSeq_pair O4 fun g5 O5 b5 => ?_)
  replace O5 : IsPair g5 O x y := O5
  refine wpAny_bind (wpAny_letGo (wpAny_pure (wpAny_pure (?_ : _))))
  refine wpAny_bind (wpAny_seqItems O5 rfl ?_)
  refine wpAny_bind (wpAny_newTuple (?_ : _))
  have sz : g5.objs.size = s.heap.objs.size := by rw [b5.1, b4.1, b3.1, b2.1, b1.1]
  have z5 : IsZip g5 z U O .ellipsis := b5.extBut _ _ D.TOz.symm (b4.extBut _ _ D.i2z.symm (b3.extBut _ _ D.TOz.symm (b2.extBut _ _ D.i1z.symm zg1)))
  have k5 : ∀ a o, a ≠ z → a ≠ O → a ≠ i → a ≠ j → s.heap.get? a = some o → g5.get? a = some o := fun a o a1 a2 a3 a4 e =>
    b5.extBut _ _ a2 (b4.extBut _ _ a4 (b3.extBut _ _ a2 (b2.extBut _ _ a3 (b1.extBut _ _ a1 e))))
  have i5 : JtB b g5 i l (p + 1) := ((i2.ext b3.extBut D.TOi1.symm).ext b4.extBut D.i12).ext b5.extBut D.TOi1.symm
  have j5 : JtB c g5 j m (q + 1) := j4.ext b5.extBut D.TOi2.symm
  have zlt : z < g5.objs.size := Heap.lt_size z5
  show wpAny _ _ (Builtin.SmallTypes.ownedTupleHandOut (.ref z) (.ref g5.objs.size) >>= _) _ _ _
  refine wpAny_bind ?_
  unfold Builtin.SmallTypes.ownedTupleHandOut
  have z6 : IsZip (g5.push { cls := .type "tuple", data := .seq #[x, y] }) z U O .ellipsis := Heap.get?_push_of_some _ z5
  refine wpAny_bind (wpAny_setField_rec z6 (by simp) fun g7 z7 b7 => ?_)
  replace z7 : IsZip g7 z U O (rawInt g5.objs.size) := z7
  refine wpAny_setField_rec z7 (by simp) fun g8 z8 b8 => ?_
  replace z8 : IsZip g8 z U O (rawInt g5.objs.size) := z8
  have up : ∀ a o, a ≠ z → g5.get? a = some o → g8.get? a = some o := fun a o a1 e => b8.extBut _ _ a1 (b7.extBut _ _ a1 (Heap.get?_push_of_some _ e))
  have T8 : IsPair g8 g5.objs.size x y := b8.extBut _ _ (Nat.ne_of_gt zlt) (b7.extBut _ _ (Nat.ne_of_gt zlt) (Heap.get?_push_size _ rfl))
  have s8 : g8.objs.size = g5.objs.size + 1 := by rw [b8.1, b7.1, Heap.size_push]
  rw [sz] at z8 T8 s8
  refine wpAny_pure ⟨_, rfl, (?_ : _)⟩
  show Q (.ref g5.objs.size) _
  rw [sz]
  exact kk g8 z8 (up _ _ D.TOz O5) (i5.at fun o e => up _ o D.i1z e) (j5.at fun o e => up _ o D.i2z e) T8 s8 fun a o a1 a2 a3 a4 e => up a o a1 (k5 a o a1 a2 a3 a4 e)
/-- zip's step: one side has come to its end -/
theorem zipB_end {Q : Fin → Shared → Prop} (hh : A.handled = none) (D : ZipApart z U O i j l m) (hz : IsZip s.heap z U O .none) (hU : IsPair s.heap U (.ref i) (.ref j)) (hO : IsPair s.heap O u v)
    (hi : JtB b s.heap i l p) (hj : JtB c s.heap j m q) (hl : SeqB b s.heap l xs) (hm : SeqB c s.heap m ys) (he : xs[p]? = none ∨ ys[q]? = none)
    (kk : ∀ g e, (∀ a o, a ≠ z → a ≠ O → a ≠ i → a ≠ j → s.heap.get? a = some o → g.get? a = some o) → (∃ o, g.get? e = some o ∧ o.cls = .type "StopIteration") → E (.ref e) { s with heap := g }) :
    wpAny (model P w) A (Builtin.«zip.__next__» ⟨[.ref z], []⟩) Q E s := by
  show wpAny _ _ (field (.ref z) 2 >>= _) _ E _
  refine wpAny_bind (wpAny_field hz rfl (x := .bool false) rfl (?_ : _))
  show wpAny _ _ (field (.ref z) 3 >>= _) _ E _
  refine wpAny_bind (wpAny_field hz rfl (x := .ref U) rfl ?_)
  refine wpAny_bind (wpAny_seqItems hU rfl ?_)
  show wpAny _ _ (Builtin.SmallTypes.ownedTupleIsFree (.ref z) >>= _) _ E _
  refine wpAny_bind ?_
  unfold Builtin.SmallTypes.ownedTupleIsFree
  refine wpAny_bind (wpAny_field hz rfl (x := .none) rfl (wpAny_pure (?_ : _)))
  simp only [if_true]
  refine wpAny_bind (wpAny_rule ?_)
  refine wpAny_bind (wpAny_field hz rfl (x := .ref O) rfl ?_)
  refine wpAny_bind (wpAny_setField_rec hz (by simp) fun g1 zg1 b1 => ?_)
  replace zg1 : IsZip g1 z U O .ellipsis := zg1
  refine wpAny_bind ?_
  simp only [List.zipIdx_cons, List.zipIdx_nil, List.forIn_nil, List.forIn_cons]
  refine wpAny_bind (wpAny_bind (wpAny_onRaise (?_ : _)))
  show wpAny _ _ (Builtin.SmallTypes.nextOf (.ref i) >>= _) _ _ _
  cases hx : xs[p]? with
  | none =>
    refine wpAny_bind (nextB_end hh (hi.ext b1.extBut D.i1z) (hl.ext b1.extBut D.l1z) hx fun g2 e b2 st => ?_)
    obtain ⟨oe, he1, he2⟩ := st
    have z2 : IsZip g2 z U O .ellipsis := b2 _ _ D.i1z.symm zg1
    have ez : e ≠ z := fun x => by
      subst x
      rw [z2] at he1
      cases he1
      simp at he2
    exact wpAny_setField_rec z2 (by simp) fun g3 _ b3 => kk g3 e (fun a o a1 _ a3 _ x => b3.extBut _ _ a1 (b2 _ _ a3 (b1.extBut _ _ a1 x))) ⟨oe, b3.extBut _ _ ez he1, he2⟩
  | some x =>
    have hy : ys[q]? = none := he.resolve_left (by rw [hx]; exact fun n => nomatch n)
    refine wpAny_bind (nextB_item (hi.ext b1.extBut D.i1z) (hl.ext b1.extBut D.l1z) hx fun g2 i2 b2 => wpAny_pure ?_)
    have O2 : IsPair g2 O u v := b2.extBut _ _ D.TOi1 (b1.extBut _ _ D.TOz hO)
    refine wpAny_bind (wpAny_seqItems O2 rfl ?_)
    refine wpAny_bind (wpAny_updateSeq_pair O2 fun g3 O3 b3 => ?_)
    refine wpAny_bind (wpAny_letGo (wpAny_pure (?_ : _)))
    refine wpAny_bind (wpAny_bind (wpAny_onRaise (?_ : _)))
    show wpAny _ _ (Builtin.SmallTypes.nextOf (.ref j) >>= _) _ _ _
    refine wpAny_bind (nextB_end hh (((hj.ext b1.extBut D.i2z).ext b2.extBut D.i12.symm).ext b3.extBut D.TOi2.symm) (((hm.ext b1.extBut D.l2z).ext b2.extBut D.l2i1).ext b3.extBut D.l2TO) hy fun g4 e b4 st => ?_)
    obtain ⟨oe, he1, he2⟩ := st
    have z4 : IsZip g4 z U O .ellipsis := b4 _ _ D.i2z.symm (b3.extBut _ _ D.TOz.symm (b2.extBut _ _ D.i1z.symm zg1))
    have ez : e ≠ z := fun x => by
      subst x
      rw [z4] at he1
      cases he1
      simp at he2
    exact wpAny_setField_rec z4 (by simp) fun g5 _ b5 => kk g5 e (fun a o a1 a2 a3 a4 x => b5.extBut _ _ a1 (b4 _ _ a4 (b3.extBut _ _ a2 (b2.extBut _ _ a3 (b1.extBut _ _ a1 x))))) ⟨oe, b5.extBut _ _ ez he1, he2⟩
theorem nextZ_item {x y : Value} {Q : Option Value → Shared → Prop} (D : ZipApart z U O i j l m) (hz : IsZip s.heap z U O .none) (hU : IsPair s.heap U (.ref i) (.ref j)) (hO : IsPair s.heap O u v)
    (hi : JtB b s.heap i l p) (hj : JtB c s.heap j m q) (hl : SeqB b s.heap l xs) (hm : SeqB c s.heap m ys) (hx : xs[p]? = some x) (hy : ys[q]? = some y)
    (kk : ∀ g, IsZip g z U O (rawInt s.heap.objs.size) → IsPair g O x y → JtB b g i l (p + 1) → JtB c g j m (q + 1) → IsPair g s.heap.objs.size x y → g.objs.size = s.heap.objs.size + 1 →
      (∀ a o, a ≠ z → a ≠ O → a ≠ i → a ≠ j → s.heap.get? a = some o → g.get? a = some o) → Q (some (.ref s.heap.objs.size)) { s with heap := g }) :
    wpAny (model P w) A (pyNext (.ref z)) Q E s := by
  have ty : s.TypeIs (.ref z) "zip" := ⟨_, hz, rfl⟩
  unfold pyNext
  exact wpAny_bind (wpAny_attempt (wpAny_callSpecial?_slot (name := Str.ofString "__next__") ty F.slot_zip_next (wpAny_call_entry F.slot_zip_next ty F.entry_zip_next
    (zipB_item D hz hU hO hi hj hl hm hx hy fun g a1 a2 a3 a4 a5 a6 a7 => wpAny_pure (kk g a1 a2 a3 a4 a5 a6 a7)) (F.args_zip_next_1 _))))
theorem nextZ_end {Q : Option Value → Shared → Prop} (hh : A.handled = none) (D : ZipApart z U O i j l m) (hz : IsZip s.heap z U O .none) (hU : IsPair s.heap U (.ref i) (.ref j)) (hO : IsPair s.heap O u v)
    (hi : JtB b s.heap i l p) (hj : JtB c s.heap j m q) (hl : SeqB b s.heap l xs) (hm : SeqB c s.heap m ys) (he : xs[p]? = none ∨ ys[q]? = none)
    (kk : ∀ g, (∀ a o, a ≠ z → a ≠ O → a ≠ i → a ≠ j → s.heap.get? a = some o → g.get? a = some o) → Q none { s with heap := g }) : wpAny (model P w) A (pyNext (.ref z)) Q E s := by
  have ty : s.TypeIs (.ref z) "zip" := ⟨_, hz, rfl⟩
  unfold pyNext
  refine wpAny_bind (wpAny_attempt (wpAny_callSpecial?_slot (name := Str.ofString "__next__") ty F.slot_zip_next (wpAny_call_entry F.slot_zip_next ty F.entry_zip_next
    (zipB_end hh D hz hU hO hi hj hl hm he fun g e hk st => ?_) (F.args_zip_next_1 _))))
  obtain ⟨o, h1, h2⟩ := st
  refine wpAny_bind (wpAny_isInstance (T := "StopIteration") (b := true) ⟨o, h1, h2⟩ isSubtype_stop (?_ : _))
  exact wpAny_pure (kk _ hk)
end
/-! ### zip made -/
def itName (b : Bool) : String := if b = true then "list_iterator" else "tuple_iterator"
abbrev zb1 (b : Bool) (h : Heap) (l : Addr) : Heap := h.push { cls := .type (itName b), data := .fields #[.ref l, .int 0 0] }
abbrev zb2 (b c : Bool) (h : Heap) (l m : Addr) : Heap := (zb1 b h l).push { cls := .type (itName c), data := .fields #[.ref m, .int 0 0] }
abbrev zb3 (b c : Bool) (h : Heap) (l m : Addr) : Heap := (zb2 b c h l m).push { cls := .type "tuple", data := .seq #[.ref h.objs.size, .ref (zb1 b h l).objs.size] }
abbrev zb4 (b c : Bool) (h : Heap) (l m : Addr) : Heap := (zb3 b c h l m).push { cls := .type "tuple", data := .seq #[.none, .none] }
abbrev zb5 (b c : Bool) (h : Heap) (l m : Addr) : Heap := (zb4 b c h l m).push { cls := .type "zip", data := .fields #[.none, .bool false, .bool false, .ref (zb2 b c h l m).objs.size, .ref (zb3 b c h l m).objs.size] }
theorem zipB_new (b c : Bool) (l m : Addr) (xs ys : Array Value) :
    Meets (Builtin.«zip.__new__» ⟨[.type "zip", .ref l, .ref m], []⟩) (fun _ R s => SeqB b s.heap l xs ∧ SeqB c s.heap m ys ∧ R (.ok (.ret (.ref (zb4 b c s.heap l m).objs.size))) { s with heap := zb5 b c s.heap l m }) :=
  .of_wp fun prog w A R s h => by
    obtain ⟨hp, g, d, tk, os⟩ := s
    obtain ⟨hl, hm, k⟩ := h
    have sb := sub_zip
    cases b <;> cases c
    · have L : Heap.IsTuple (Shared.heap ⟨hp, g, d, tk, os⟩) l xs := hl
      have M : Heap.IsTuple (Shared.heap ⟨hp.push { cls := .type "tuple_iterator", data := .fields #[.ref l, .int 0 0] }, g, d, tk, os⟩) m ys := Heap.IsTuple.push (show Heap.IsTuple hp m ys from hm) _
      wp_walk using wpAny_pyIter_tuple L, wpAny_pyIter_tuple M
      exact ⟨_, rfl, k⟩
    · have L : Heap.IsTuple (Shared.heap ⟨hp, g, d, tk, os⟩) l xs := hl
      have M : Heap.IsList (Shared.heap ⟨hp.push { cls := .type "tuple_iterator", data := .fields #[.ref l, .int 0 0] }, g, d, tk, os⟩) m ys := Heap.IsList.push (show Heap.IsList hp m ys from hm) _
      wp_walk using wpAny_pyIter_tuple L, wpAny_pyIter_list M
      exact ⟨_, rfl, k⟩
    · have L : Heap.IsList (Shared.heap ⟨hp, g, d, tk, os⟩) l xs := hl
      have M : Heap.IsTuple (Shared.heap ⟨hp.push { cls := .type "list_iterator", data := .fields #[.ref l, .int 0 0] }, g, d, tk, os⟩) m ys := Heap.IsTuple.push (show Heap.IsTuple hp m ys from hm) _
      wp_walk using wpAny_pyIter_list L, wpAny_pyIter_tuple M
      exact ⟨_, rfl, k⟩
    · have L : Heap.IsList (Shared.heap ⟨hp, g, d, tk, os⟩) l xs := hl
      have M : Heap.IsList (Shared.heap ⟨hp.push { cls := .type "list_iterator", data := .fields #[.ref l, .int 0 0] }, g, d, tk, os⟩) m ys := Heap.IsList.push (show Heap.IsList hp m ys from hm) _
      wp_walk using wpAny_pyIter_list L, wpAny_pyIter_list M
      exact ⟨_, rfl, k⟩
theorem jtB_new {b : Bool} {h : Heap} {i l : Addr} (e : h.get? i = some { cls := .type (itName b), data := .fields #[.ref l, .int 0 0] }) : JtB b h i l 0 := by
  cases b
  · exact ⟨_, e, rfl, rfl⟩
  · exact ⟨_, e, rfl, rfl⟩
section
variable {P : Program} {w : World} {A : Around} {E : Value → Shared → Prop} {s : Shared}
theorem zipB_call {b c : Bool} {l m : Addr} {xs ys : Array Value} {Q : Value → Shared → Prop} (hl : SeqB b s.heap l xs) (hm : SeqB c s.heap m ys)
    (k : ∀ g, IsZip g (s.heap.objs.size + 4) (s.heap.objs.size + 2) (s.heap.objs.size + 3) .none → IsPair g (s.heap.objs.size + 2) (.ref s.heap.objs.size) (.ref (s.heap.objs.size + 1)) →
      IsPair g (s.heap.objs.size + 3) .none .none → JtB b g s.heap.objs.size l 0 → JtB c g (s.heap.objs.size + 1) m 0 → (∀ a o, s.heap.get? a = some o → g.get? a = some o) → Q (.ref (s.heap.objs.size + 4)) { s with heap := g }) :
    wpAny (model P w) A (call (.type "zip") [.ref l, .ref m]) Q E s := by
  refine callType_new F.called_zip (by decide) (F.typeCall_zip_2 _ _) (F.newCall_zip_2 _ _) (fun o => F.args_object_init_3 o _ _) F.entry_zip_new (zipB_new b c l m xs ys) ⟨hl, hm, ?_⟩
  have e1 : (zb1 b s.heap l).objs.size = s.heap.objs.size + 1 := Heap.size_push ..
  have e2 : (zb2 b c s.heap l m).objs.size = s.heap.objs.size + 2 := by rw [Heap.size_push, e1]
  have e3 : (zb3 b c s.heap l m).objs.size = s.heap.objs.size + 3 := by rw [Heap.size_push, e2]
  have e4 : (zb4 b c s.heap l m).objs.size = s.heap.objs.size + 4 := by rw [Heap.size_push, e3]
  have f5 : (zb5 b c s.heap l m).get? (zb4 b c s.heap l m).objs.size = some _ := Heap.get?_push_size _ rfl
  have f4 : (zb5 b c s.heap l m).get? (zb3 b c s.heap l m).objs.size = some _ := Heap.get?_push_of_some _ (Heap.get?_push_size _ rfl)
  have f3 : (zb5 b c s.heap l m).get? (zb2 b c s.heap l m).objs.size = some _ := Heap.get?_push_of_some _ (Heap.get?_push_of_some _ (Heap.get?_push_size _ rfl))
  have f2 : (zb5 b c s.heap l m).get? (zb1 b s.heap l).objs.size = some _ := Heap.get?_push_of_some _ (Heap.get?_push_of_some _ (Heap.get?_push_of_some _ (Heap.get?_push_size _ rfl)))
  have f1 : (zb5 b c s.heap l m).get? s.heap.objs.size = some _ := Heap.get?_push_of_some _ (Heap.get?_push_of_some _ (Heap.get?_push_of_some _ (Heap.get?_push_of_some _ (Heap.get?_push_size _ rfl))))
  show _ ∧ _
  rw [e2, e3, e4] at f5
  rw [e1, e2] at f3
  rw [e3] at f4
  rw [e1] at f2
  rw [e4]
  exact ⟨⟨_, f5, rfl⟩, k _ f5 f3 f4 (jtB_new f1) (jtB_new f2) fun a o x => Heap.get?_push_of_some _ (Heap.get?_push_of_some _ (Heap.get?_push_of_some _ (Heap.get?_push_of_some _ (Heap.get?_push_of_some _ x))))⟩
end
/-! ### the rule -/
def SqZ (K : PySem.W.Frag) (b : Bool) (H : Hp) (a : Addr) (xs : List V) : Prop := if b = true then SqL K H a xs else SqT K H a xs
def ItZ (K : PySem.W.Frag) (b c : Bool) (l m : Addr) : It :=
  ⟨fun i H => ∃ (xs ys : List V) (x y : V), SqZ K b H l xs ∧ SqZ K c H m ys ∧ xs[i]? = some x ∧ ys[i]? = some y,
    fun i H v H' => ∃ T x y, v = .ref T ∧ H T = none ∧ H' = upd H T (.tup [x, y]) ∧ (∀ xs, SqZ K b H l xs → xs[i]? = some x) ∧ ∀ ys, SqZ K c H m ys → ys[i]? = some y,
    fun i H => ∃ xs ys : List V, SqZ K b H l xs ∧ SqZ K c H m ys ∧ (xs.length ≤ i ∨ ys.length ≤ i)⟩
theorem Inv.sqZ {X : Cx} {pins : List (Addr × Obj)} {σ : St} {H : Hp} {s : Shared} {b : Bool} {a : Addr} {xs : List V} (I : Inv X pins σ H s) (h : SqZ X.K b H a xs) : ∃ its, Vals xs its ∧ SeqB b s.heap a its.toArray := by
  cases b
  · obtain ⟨its, rv, p, _⟩ := I.tuple (show SqT X.K H a xs from h)
    exact ⟨its, rv, p⟩
  · obtain ⟨its, rv, p, _⟩ := I.list (show SqL X.K H a xs from h)
    exact ⟨its, rv, p.isList⟩
theorem Inv.sqZ_inj {X : Cx} {pins : List (Addr × Obj)} {σ : St} {H : Hp} {s : Shared} {b : Bool} {a : Addr} {xs ys : List V} (I : Inv X pins σ H s) (h : SqZ X.K b H a xs) (h' : SqZ X.K b H a ys) : xs = ys := by
  cases b
  · exact I.tuple_inj (show SqT X.K H a xs from h) (show SqT X.K H a ys from h')
  · exact I.list_inj (show SqL X.K H a xs from h) (show SqL X.K H a ys from h')
theorem turnZ {P : Program} {w : World} {K : PySem.W.Frag} {elts : List Expr} {n : Nat} {tpos : Pos} {b c : Bool} {l m z U O i j : Addr} (D : ZipApart z U O i j l m) :
    Turn P w K (.Tuple elts n tpos) (ItZ K b c l m) [z, U, O, i, j] z (fun p h => IsZip h z U O .none ∧ IsPair h U (.ref i) (.ref j) ∧ (∃ x y, IsPair h O x y) ∧ JtB b h i l p ∧ JtB c h j m p) where
  mem := by simp
  obj := fun p h st a ha => by
    obtain ⟨hz, hU, ⟨x, y, hO⟩, hi, hj⟩ := st
    have e : a = z ∨ a = U ∨ a = O ∨ a = i ∨ a = j := by simpa using ha
    rcases e with e | e | e | e | e <;> subst e
    · exact ⟨_, hz, fun v q => nomatch q⟩
    · exact ⟨_, hU, fun v q => nomatch q⟩
    · exact ⟨_, hO, fun v q => nomatch q⟩
    · exact hi.ob
    · exact hj.ob
  keep := fun p h g st k => by
    obtain ⟨hz, hU, ⟨x, y, hO⟩, hi, hj⟩ := st
    exact ⟨k z (by simp) _ hz, k U (by simp) _ hU, ⟨x, y, k O (by simp) _ hO⟩, hi.at fun o q => k i (by simp) o q, hj.at fun o q => k j (by simp) o q⟩
  item := by
    intro X hP hw hK hc p pins s σ H E I hf st hg
    subst hP hw hK
    obtain ⟨hz, hU, ⟨x0, y0, hO⟩, hi, hj⟩ := st
    obtain ⟨xs, ys, x, y, qx, qy, hx, hy⟩ := hg
    obtain ⟨its, rv, px⟩ := I.sqZ qx
    obtain ⟨jts, rw', py⟩ := I.sqZ qy
    obtain ⟨a1, ha1, ra1⟩ := rv.get hx
    obtain ⟨a2, ha2, ra2⟩ := rw'.get hy
    have zl : z < s.heap.objs.size := Heap.lt_size hz
    refine nextZ_item D hz hU hO hi hj px py (x := a1) (y := a2) (by simpa using ha1) (by simpa using ha2) fun g z' O' i' j' hT sz hk => ?_
    refine ⟨_, rfl, wpAny_letOwnedTupleGo_zip (s := { s with heap := g }) z' fun g2 z2 sb => ?_⟩
    have T2 : g2.get? s.heap.objs.size = some { cls := .type "tuple", data := .seq #[a1, a2] } := (sb.2 _ (Nat.ne_of_gt zl)).trans hT
    have nw : ObjOk X.prog X.w (upd H s.heap.objs.size (.tup [x, y])) g2 s.heap.objs.size (.tup [x, y]) := ⟨by show 2 ≤ sizeLine; decide, [a1, a2], .cons ra1 (.cons ra2 .nil), ⟨_, T2, rfl, _, rfl⟩⟩
    have out : ∀ a o, a ∉ [z, U, O, i, j] → s.heap.get? a = some o → g2.get? a = some o := fun a o ha q =>
      (sb.2 a (fun r => ha (by simp [r]))).trans (hk a o (fun r => ha (by simp [r])) (fun r => ha (by simp [r])) (fun r => ha (by simp [r])) (fun r => ha (by simp [r])) q)
    have I1 : Inv X pins σ (upd H s.heap.objs.size (.tup [x, y])) { s with heap := g2 } := I.turnedNew (t' := s.toks) (ch := [z, U, O, i, j]) out hf (Nat.le_refl _) nw
    refine ⟨.ref s.heap.objs.size, _, I1, rfl, ⟨_, x, y, rfl, I.hok.fresh (Nat.le_refl _), rfl, fun l hl => by rw [I.sqZ_inj hl qx]; exact hx, fun l hl => by rw [I.sqZ_inj hl qy]; exact hy⟩, ⟨z2, ?_, ⟨a1, a2, ?_⟩, ?_, ?_⟩, fun a ha => ?_⟩
    · exact (sb.2 _ D.TIz).trans (hk _ _ D.TIz D.TITO D.TIi1 D.TIi2 hU)
    · exact (sb.2 _ D.TOz).trans O'
    · exact i'.at fun o q => (sb.2 _ D.i1z).trans q
    · exact j'.at fun o q => (sb.2 _ D.i2z).trans q
    · have lt : a < s.heap.objs.size := by
        have e : a = z ∨ a = U ∨ a = O ∨ a = i ∨ a = j := by simpa using ha
        rcases e with e | e | e | e | e <;> subst e
        · exact zl
        · exact Heap.lt_size hU
        · exact Heap.lt_size hO
        · obtain ⟨_, q, _⟩ := hi.ob
          exact Heap.lt_size q
        · obtain ⟨_, q, _⟩ := hj.ob
          exact Heap.lt_size q
      rw [upd_ne (Nat.ne_of_lt lt)]
      exact (hf a ha).1
  done := by
    intro X hP hw hK hc p pins s σ H E I hf st hg
    subst hP hw hK
    obtain ⟨hz, hU, ⟨x0, y0, hO⟩, hi, hj⟩ := st
    obtain ⟨xs, ys, qx, qy, he⟩ := hg
    obtain ⟨its, rv, px⟩ := I.sqZ qx
    obtain ⟨jts, rw', py⟩ := I.sqZ qy
    have n1 := rv.length
    have n2 := rw'.length
    have hh : its.toArray[p]? = none ∨ jts.toArray[p]? = none := by
      rcases he with q | q
      · exact .inl (by simp; omega)
      · exact .inr (by simp; omega)
    exact nextZ_end (I.ok.hd hc) D hz hU hO hi hj px py hh fun g hk => ⟨rfl, I.turnedL (t' := s.toks) (ch := [z, U, O, i, j]) (fun a o ha q =>
      hk a o (fun r => ha (by simp [r])) (fun r => ha (by simp [r])) (fun r => ha (by simp [r])) (fun r => ha (by simp [r])) q) hf⟩
  self := fun A p s Q E st h => wpAny_pyIter_zip st.1 h
def iZipZ (K : PySem.W.Frag) (ta : TA) : TI := fun σ H R => ta σ H fun vs H1 => ∃ (b c : Bool) (l m : Addr) (xs ys : List V), vs = [.ref l, .ref m] ∧ SqZ K b H1 l xs ∧ SqZ K c H1 m ys ∧ R (ItZ K b c l m) H1
theorem pi_zipZ {X : Cx} {e e2 : Expr} {ta : TA} {p pos tpos : Pos} {elts : List Expr} {n : Nat} (hg : Gl X "zip") (hm : X.mg "zip" = none) (ha : PA X [e, e2] ta)
    (hs : starEach [e, e2] X.env = (false, eval e X.env) :: starEach [e2] X.env := by rfl) (hp : (backTo pos (starEach [e2] X.env)).any (·.1) = false := by rfl) :
    PI X (.Tuple elts n tpos) (.Call (.Name "zip" p) [e, e2] [] pos) (iZipZ X.K ta) := by
  refine ⟨fun pins s σ H R I h => ?_⟩
  refine Call_ (ld_blt I hg hm PyProof.Rows.boot_zip (PyProof.Rows.callWith_type1 (thn (ha.run pos pins s σ H _ I h) fun us s1 ⟨vs, H1, I1, r1, q1⟩ => (?_ : _)) hs hp))
  obtain ⟨b, c, l, m, xs, ys, rfl, qx, qy, q⟩ := q1
  cases r1 with
  | cons r rr =>
    cases rr with
    | cons r' rr =>
      cases rr
      cases r
      cases r'
      have five : ∀ a, a ∈ [s1.heap.objs.size + 4, s1.heap.objs.size + 2, s1.heap.objs.size + 3, s1.heap.objs.size, s1.heap.objs.size + 1] → FpOk X pins H1 a := fun a ha => by
        have e : a = s1.heap.objs.size + 4 ∨ a = s1.heap.objs.size + 2 ∨ a = s1.heap.objs.size + 3 ∨ a = s1.heap.objs.size ∨ a = s1.heap.objs.size + 1 := by simpa using ha
        have le : s1.heap.objs.size ≤ a := by
          rcases e with e | e | e | e | e <;> subst e
          all_goals first | exact Nat.le_refl _ | exact Nat.le_add_right _ _
        exact I1.fpOk le (I1.hok.fresh le)
      obtain ⟨its, rv, px⟩ := I1.sqZ qx
      obtain ⟨jts, rw', py⟩ := I1.sqZ qy
      refine zipB_call px py fun g hz hU hO hi hj hk => wpAny_pyIter_zip hz ?_
      have I2 : Inv X pins σ H1 { s1 with heap := g } := I1.kept (t' := s1.toks) hk
      exact ⟨s1.heap.objs.size + 4, [s1.heap.objs.size + 4, s1.heap.objs.size + 2, s1.heap.objs.size + 3, s1.heap.objs.size, s1.heap.objs.size + 1], _, _, H1, rfl, I2, turnZ (PySem.W.ktu_apart s1.heap.objs.size l m px.lt py.lt), ⟨hz, hU, ⟨_, _, hO⟩, hi, hj⟩, five, q⟩
/-- a loop over zip of two sequences of one length -/
theorem for_zipZ {K : PySem.W.Frag} {b c : Bool} {l m : Addr} {xs ys : List V} {g : TG} {tb : TS} {D : Ends} {σ : L2.St} {H : Hp} (hl : xs.length = ys.length) (Pv : Nat → L2.St → Hp → Prop) (h0 : Pv 0 σ H) (hq : ∀ i σ H, Pv i σ H → SqZ K b H l xs ∧ SqZ K c H m ys)
    (one : ∀ (i : Nat) (x y : V) (T : Addr) (σ : L2.St) (H : Hp), xs[i]? = some x → ys[i]? = some y → Pv i σ H → H T = none → g (.ref T) σ (upd H T (.tup [x, y])) fun σ2 H2 => tb { D with nx := Pv (i + 1), ct := Pv (i + 1), bk := D.nx } σ2 H2) (fin : ∀ σ H, Pv xs.length σ H → D.nx σ H) :
    ∃ W : Nat → Nat → L2.St → Hp → Prop, (∃ n, W 0 n σ H) ∧ ∀ i n σ H, W i n σ H →
      ((ItZ K b c l m).stop i H ∧ D.nx σ H) ∨ ((ItZ K b c l m).go i H ∧ ∃ N : L2.St → Hp → Prop, (∀ σ' H', N σ' H' → ∃ n', n' < n ∧ W (i + 1) n' σ' H') ∧ ∀ v H', (ItZ K b c l m).yld i H v H' → g v σ H' fun σ2 H2 => tb { D with nx := N, ct := N, bk := D.nx } σ2 H2) := by
  refine ⟨fun i n σ H => n = xs.length - i ∧ i ≤ xs.length ∧ Pv i σ H, ⟨xs.length, rfl, Nat.zero_le _, h0⟩, ?_⟩
  rintro i n σ H ⟨rfl, hi, pp⟩
  obtain ⟨qx, qy⟩ := hq i σ H pp
  by_cases lt : i < xs.length
  · have lt2 : i < ys.length := by omega
    refine .inr ⟨⟨xs, ys, _, _, qx, qy, List.getElem?_eq_getElem lt, List.getElem?_eq_getElem lt2⟩, Pv (i + 1), fun σ' H' p' => ⟨xs.length - (i + 1), by omega, rfl, lt, p'⟩, fun v H' yl => ?_⟩
    obtain ⟨T, x', y', rfl, hT, rfl, f1, f2⟩ := yl
    exact one i x' y' T σ H (f1 xs qx) (f2 ys qy) pp hT
  · have e : i = xs.length := by omega
    subst e
    exact .inl ⟨⟨xs, ys, qx, qy, Or.inl (Nat.le_refl _)⟩, fin σ H pp⟩
theorem walk_zipZ {K : PySem.W.Frag} {b c : Bool} {l m : Addr} {xs ys : List V} {n : Nat} (hn : n = min xs.length ys.length) : Walk (ItZ K b c l m) n (fun H => SqZ K b H l xs ∧ SqZ K c H m ys) (YPair (fun i => xs[i]?) (fun i => ys[i]?)) := by
  subst hn
  refine ⟨fun i _ hi q => ?_, fun _ q => ⟨xs, ys, q.1, q.2, by omega⟩, fun i H v H' _ q y => ?_⟩
  · have h1 : i < xs.length := by omega
    have h2 : i < ys.length := by omega
    exact ⟨xs, ys, xs[i], ys[i], q.1, q.2, List.getElem?_eq_getElem h1, List.getElem?_eq_getElem h2⟩
  · obtain ⟨T, x, z, f1, f2, f3, f4, f5⟩ := y
    exact ⟨T, x, z, f1, f2, f3, f4 xs q.1, f5 ys q.2⟩
end L2
namespace L2
open PySem PySem.Spec PyProof.Rows
/-! ### set(l), l a list of numbers -/
abbrev setOb (w : World) : Obj := { cls := .type "set", dict := none, data := .set #[] 0 (.fresh 0 0 (!w.params.followText "set-order")) }
section
variable {P : Program} {w : World} {A : Around} {E : Value → Shared → Prop} {s : Shared}
set_option maxRecDepth 100000 in
set_option maxHeartbeats 3200000 in
theorem set_of_lst {l : Addr} {its : Array Value} (ns : List Int) {Q : Value → Shared → Prop} (hh : A.handled = none) (isl : s.heap.IsList l its) (hit : IntsAre its.toList ns) (few : ns.length + 1 < scanBound)
    (q : ∀ (g : Heap) (tk c : Nat), SetR w g s.heap.objs.size (fun j => decide (j ∈ ns)) c → c ≤ ns.length → (∀ b o, s.heap.get? b = some o → g.get? b = some o) → Q (.ref s.heap.objs.size) { s with heap := g, toks := tk }) :
    wpAny (model P w) A (call (.type "set") [.ref l]) Q E s := by
  have sz : its.size = ns.length := by
    have z := IntsAre.length hit
    rw [Array.length_toList] at z
    exact z
  obtain ⟨cc, tt, mro⟩ := F.called_set.mro
  have mad := F.called_set.made
  have sbs := F.called_set.sub
  refine wpAny_call (codeAny_of_tree ?_)
  show wpAny _ _ (callAny (.type "set") _) _ _ _
  refine wpAny_pure ⟨Code.quiet_builtin _ (by decide +kernel), codeAny_builtin F.entry_type_call (?_ : _)⟩
  rw [show Around.under _ _ = _ from Around.under_plain (weight_type_call_type "set" [.ref l] []) rfl]
  have n1 := F.called_set.notType
  have n2 := F.called_set.canCreate
  have n3 := F.typeCall_set_1 (.ref l)
  repeat (any_goals (first | assumption | wp_step))
  refine codeAny_mono (code_set_led1 (.ref l) (E := E) (Q₁ := fun o t => o = .ref s.heap.objs.size ∧ t = { s with heap := s.heap.push (setOb w) }) ⟨rfl, rfl⟩) fun r t hr => ?_
  match r, hr with
  | .error e, hr => exact hr
  | .ok .next, hr | .ok .brk, hr | .ok .cont, hr => exact hr.elim
  | .ok (.ret o), hr =>
    obtain ⟨rfl, rfl⟩ := hr
    have at0 : (s.heap.push (setOb w)).get? s.heap.objs.size = some (setOb w) := Heap.get?_push_size _ rfl
    have ty0 : Shared.TypeIs { s with heap := s.heap.push (setOb w) } (.ref s.heap.objs.size) "set" := ⟨_, at0, rfl⟩
    have lk := F.called_set.init.lookup
    have bd := F.called_set.init.bind (.ref s.heap.objs.size)
    repeat (any_goals (first | assumption | wp_step))
    refine codeAny_mono (codeAny_call_builtin (R := wants (fun r t => r = .none ∧ ∃ g tk c, t = { s with heap := g, toks := tk } ∧ SetR w g s.heap.objs.size (fun j => decide (j ∈ ns)) c ∧ c ≤ ns.length ∧ (∀ b o, s.heap.get? b = some o → g.get? b = some o)) E) F.called_set.init.plain F.entry_set_init (check_set_init_1 ty0 ?_)) fun r2 t2 hr2 => ?_
    · obtain ⟨ob, hob, oc, m, od⟩ := isl
      obtain ⟨ocl, odc, odt, osl⟩ := ob
      simp only at oc od
      subst oc od
      have hob2 : (s.heap.push (setOb w)).get? l = some { cls := .type "list", dict := odc, data := .seq its m, slots := osl } := Heap.get?_push_of_some _ hob
      have f1 := F.sub_list_set
      have f2 := F.sub_list_frozenset
      have f3 : (Value.type "list" == Value.type "dict") = false := by decide
      have isl2 : (s.heap.push (setOb w)).IsList l its := ⟨_, hob2, rfl, m, rfl⟩
      unfold Builtin.«set.__init__» noKeywords Builtin.Frozenset.updateFrom
      generalize hPI : pyIter = PI
      wp_walk
      subst hPI
      refine wpAny_pyIter_list isl2 ?_
      refine wpAny_bind (wpAny_runValue (?_ : _))
      have lt : l < s.heap.objs.size := Heap.lt_size hob
      have hh3 : A.in1.in1.in1.handled = none := by simp [hh]
      have ne1 : l ≠ (s.heap.push (setOb w)).objs.size := by
        rw [Heap.size_push]
        exact Nat.ne_of_lt (Nat.lt_succ_of_lt lt)
      have nin : s.heap.objs.size ∉ [(s.heap.push (setOb w)).objs.size, l] := by
        rw [Heap.size_push]
        simp only [List.mem_cons, List.not_mem_nil, or_false, not_or]
        exact ⟨Nat.ne_of_lt (Nat.lt_succ_self _), Nat.ne_of_gt lt⟩
      have val : ∀ (i : Nat) (v : Value), its[i]? = some v → ∃ k t, ns[i]? = some k ∧ v = .int k t := fun i v hv => by
        have hi : i < ns.length := by
          rw [← sz]
          exact (Array.getElem?_eq_some_iff.mp hv).1
        obtain ⟨t, e⟩ := PyProof.Rows.IntsAre.int_at hit i v (by rw [Array.getElem?_toList, hv])
        refine ⟨ns[i], t, List.getElem?_eq_getElem hi, ?_⟩
        rw [e, List.getD_eq_getElem?_getD, List.getElem?_eq_getElem hi]
        rfl
      refine set_update_ints ((Walks.list hh3 _ l ne1 its).toS) s.heap.objs.size nin ns sz few val (its.size - 0) 0 _ (by omega) (Nat.zero_le _) ⟨⟨_, Heap.get?_push_size _ rfl, rfl, rfl⟩, (isl2.push _)⟩ ?start ?stop
      case start => exact ⟨0, Nat.le_refl 0, setR_new_at (Heap.get?_push_of_some _ at0)⟩
      case stop =>
        intro t' c' mv hc' hS'
        obtain ⟨g, gg, dd, tk, oo⟩ := t'
        have e1 : gg = s.gens := mv.gens
        have e2 : dd = s.drawn := mv.drawn
        have e3 : oo = s.os := mv.os
        subst e1 e2 e3
        show wpAny _ _ _ _ _ _
        refine wpAny_pure ?_
        show wpAny _ _ (ret Value.none) _ _ _
        rw [sz] at hc'
        refine wpAny_pure ⟨rfl, g, tk, c', rfl, hS', hc', fun b o e => ?_⟩
        have b0 : b < s.heap.objs.size := Heap.lt_size e
        refine mv.heap b o ?_ (Heap.get?_push_of_some _ (Heap.get?_push_of_some _ e))
        rw [Heap.size_push]
        simp only [List.mem_cons, List.not_mem_nil, or_false, not_or]
        exact ⟨Nat.ne_of_lt b0, Nat.ne_of_lt (Nat.lt_succ_of_lt b0)⟩
    · match r2, hr2 with
      | .error e, hr2 => exact hr2
      | .ok .next, hr2 | .ok .brk, hr2 | .ok .cont, hr2 => exact hr2.elim
      | .ok (.ret r), hr2 =>
        obtain ⟨rfl, g, tk, c', rfl, hS', hc', keep⟩ := hr2
        repeat (any_goals (first | assumption | wp_step))
        exact q _ _ _ hS' hc' keep
end
section
variable {X : Cx}
def rSetI (K : PySem.W.Frag) (w : World) : List V → Hp → VK → Prop := fun xs H Q => ∃ (l : Addr) (ns : List Int), xs = [.ref l] ∧ SqL K H l (ns.map V.int) ∧ ns.length < 1000 ∧
  ∀ (p : Addr) (n : Nat), H p = none → n ≤ ns.length → Q (.ref p) (upd H p (SetO w p (fun j => decide (j ∈ ns)) n))
theorem cr_setI (hc : X.calm = true) : CallR X (.type "set") (rSetI X.K X.w) := by
  intro pins s σ H xs us Q I r h
  obtain ⟨l, ns, rfl, hq, hl, k⟩ := h
  obtain ⟨u, rfl, ru⟩ := vals1 r
  cases ru
  obtain ⟨its, rv, pl, hz⟩ := I.list hq
  refine set_of_lst ns (I.ok.hd hc) pl.isList (by simpa using ints_of_vals rv) (by unfold scanBound; omega) fun g tk c R hc keep => ?_
  exact ⟨.ref _, _, I.laid keep (Nat.le_refl _) (setO_new R), rfl, k _ c (I.hok.fresh (Nat.le_refl _)) hc⟩
end
end L2
namespace L2
open PySem PySem.Spec PyProof.Rows
/-! ### a dict comprehension over a walk -/
theorem dc_it {J : It} {n : Nat} {G : Hp → Prop} {Y : Nat → Hp → V → Hp → Prop} (w : Walk J n G Y) {g : TG} {tt : TT} {tk tv : TE} {vs : List Nat} {σ : St} {H0 : Hp} {D : Addr} {Qd : Hp → Prop} (Pv : Nat → Hp → Prop) (h0 : Pv 0 (upd H0 D (.dK []))) (hG : ∀ i H, i ≤ n → Pv i H → G H)
    (one : ∀ i x H H', i < n → Pv i H → Y i H x H' → g x (wipe σ vs) H' fun σ2 H2 => wipe σ2 vs = wipe σ vs ∧ tt σ2 H2 fun b H3 =>
      if b = true then tk σ2 H3 fun y H4 => tv σ2 H4 fun z H5 => ∃ kvs k, y = kV k ∧ H5 D = some (.dK kvs) ∧ kvs.length < sizeLine ∧ Pv (i + 1) (upd H5 D (.dK (putK kvs k z))) else Pv (i + 1) H3) (fin : ∀ H, Pv n H → Qd H) :
    ∃ W : Nat → Nat → Hp → Prop, (∃ m, W 0 m (upd H0 D (.dK []))) ∧ ∀ i m H, W i m H →
      (J.stop i H ∧ Qd H) ∨ (J.go i H ∧ ∃ Nx : Hp → Prop, (∀ H', Nx H' → ∃ m', m' < m ∧ W (i + 1) m' H') ∧ ∀ x H', J.yld i H x H' → g x (wipe σ vs) H' fun σ2 H2 => wipe σ2 vs = wipe σ vs ∧ tt σ2 H2 fun b H3 =>
        if b = true then tk σ2 H3 fun y H4 => tv σ2 H4 fun z H5 => ∃ kvs k, y = kV k ∧ H5 D = some (.dK kvs) ∧ kvs.length < sizeLine ∧ Nx (upd H5 D (.dK (putK kvs k z))) else Nx H3) := by
  refine ⟨fun i m H => m = n - i ∧ i ≤ n ∧ Pv i H, ⟨n, by simp, Nat.zero_le _, h0⟩, ?_⟩
  rintro i m H ⟨rfl, hi, pp⟩
  have q := hG i H hi pp
  by_cases lt : i < n
  · exact .inr ⟨w.goes i H lt q, Pv (i + 1), fun H' p' => ⟨n - (i + 1), by omega, rfl, lt, p'⟩, fun x H' y => one i x H H' lt pp (w.yields i H x H' lt q y)⟩
  · have e : i = n := by omega
    subst e
    exact .inl ⟨w.stops H q, fin H pp⟩
end L2
namespace Toy
open PySem L2
def top (i : Nat) : Stmt := PySem.Challenge.pw_nearloops_k20_whole_runs_of_one_shape.main.body.getD i (.Pass ⟨0, 0, 0, 0⟩)
def l_GROUPS : List (Str × List Str) := [("any", ["below", "-<", "-=", "->", "<", "=", ">", "+<", "+=", "+>", "above"]), ("near", ["-=", "->", "<", "=", ">", "+<", "+="]), ("far", ["below", "-<", "+>", "above"]), ("less", ["below", "-<", "-=", "->", "<"]), ("more", [">", "+<", "+=", "+>", "above"]), ("under", ["below", "-<"]), ("over", ["+>", "above"]), ("cell", ["<", "=", ">"]), ("none", [])]
def c_PLACES : List V := [.str "below", .str "-<", .str "-=", .str "->", .str "<", .str "=", .str ">", .str "+<", .str "+=", .str "+>", .str "above"]
abbrev s_is_name : Stmt := top 13
abbrev s_is_number : Stmt := top 14
abbrev s_is_tolerance : Stmt := top 15
abbrev s_check_number : Stmt := top 16
abbrev s_check_tolerance : Stmt := top 17
abbrev s_check_row : Stmt := top 18
abbrev s_is_place : Stmt := top 22
abbrev s_is_group : Stmt := top 23
abbrev s_are_groups : Stmt := top 24
abbrev s_sign_of : Stmt := top 25
abbrev s_place_at : Stmt := top 26
abbrev s_place : Stmt := top 27
abbrev s_group : Stmt := top 28
abbrev s_is_rule : Stmt := top 38
abbrev s_checked_rules : Stmt := top 39
abbrev s_is_answer : Stmt := top 40
abbrev s_checked_answers : Stmt := top 41
abbrev s_used_rules : Stmt := top 42
abbrev s_Loop__init : Stmt := inClass (top 43) 0
abbrev s_Loop_rules : Stmt := inClass (top 43) 2
abbrev s_Loop_start : Stmt := inClass (top 43) 4
abbrev s_Loop_answers : Stmt := inClass (top 43) 5
abbrev s_Loop_fitting : Stmt := inClass (top 43) 6
abbrev s_step : Stmt := top 30
abbrev s_Run__init : Stmt := inClass (top 32) 0
abbrev s_u_place : Stmt := top 33
abbrev s_run : Stmt := top 34
abbrev s_cells_and_ranks : Stmt := top 45
abbrev s_ranked : Stmt := top 46
abbrev s_law_source : Stmt := top 48
abbrev s_law_draw : Stmt := top 49
abbrev s_law_pick : Stmt := top 50
abbrev s_law_name : Stmt := top 51
abbrev s_law_names : Stmt := top 52
abbrev s_law_places : Stmt := top 53
abbrev s_law_group_names : Stmt := top 54
abbrev s_law_groups : Stmt := top 56
abbrev s_law_rules : Stmt := top 57
abbrev s_law_states : Stmt := top 55
abbrev s_law_answers : Stmt := top 58
abbrev s_law_tolerance : Stmt := top 59
abbrev s_law_row : Stmt := top 60
abbrev s_law_unlike : Stmt := top 61
abbrev s_law_wider : Stmt := top 62
abbrev s_law : Stmt := top 63
theorem sc_is_name : FnScope ["thing", "letter"] ["thing"] (defScope s_is_name) := ⟨rfl, rfl, rfl, by decide +kernel, rfl, by decide +kernel, by decide +kernel⟩
theorem sc_is_number : FnScope ["thing"] ["thing"] (defScope s_is_number) := ⟨rfl, rfl, rfl, by decide +kernel, rfl, by decide +kernel, by decide +kernel⟩
theorem sc_is_tolerance : FnScope ["thing"] ["thing"] (defScope s_is_tolerance) := ⟨rfl, rfl, rfl, by decide +kernel, rfl, by decide +kernel, by decide +kernel⟩
theorem sc_check_number : FnScope ["number"] ["number"] (defScope s_check_number) := ⟨rfl, rfl, rfl, by decide +kernel, rfl, by decide +kernel, by decide +kernel⟩
theorem sc_check_tolerance : FnScope ["tolerance"] ["tolerance"] (defScope s_check_tolerance) := ⟨rfl, rfl, rfl, by decide +kernel, rfl, by decide +kernel, by decide +kernel⟩
theorem sc_check_row : FnScope ["row", "item"] ["row"] (defScope s_check_row) := ⟨rfl, rfl, rfl, by decide +kernel, rfl, by decide +kernel, by decide +kernel⟩
theorem sc_is_place : FnScope ["thing"] ["thing"] (defScope s_is_place) := ⟨rfl, rfl, rfl, by decide +kernel, rfl, by decide +kernel, by decide +kernel⟩
theorem sc_is_group : FnScope ["thing"] ["thing"] (defScope s_is_group) := ⟨rfl, rfl, rfl, by decide +kernel, rfl, by decide +kernel, by decide +kernel⟩
theorem sc_are_groups : FnScope ["things", "thing"] ["things"] (defScope s_are_groups) := ⟨rfl, rfl, rfl, by decide +kernel, rfl, by decide +kernel, by decide +kernel⟩
theorem sc_sign_of : FnScope ["rest", "other"] ["rest", "other"] (defScope s_sign_of) := ⟨rfl, rfl, rfl, by decide +kernel, rfl, by decide +kernel, by decide +kernel⟩
theorem sc_place_at : FnScope ["step", "sign"] ["step", "sign"] (defScope s_place_at) := ⟨rfl, rfl, rfl, by decide +kernel, rfl, by decide +kernel, by decide +kernel⟩
theorem sc_place : FnScope ["x", "kept", "tolerance", "cell", "rest", "kept_cell", "kept_rest"] ["x", "kept", "tolerance"] (defScope s_place) := ⟨rfl, rfl, rfl, by decide +kernel, rfl, by decide +kernel, by decide +kernel⟩
theorem sc_group : FnScope ["name"] ["name"] (defScope s_group) := ⟨rfl, rfl, rfl, by decide +kernel, rfl, by decide +kernel, by decide +kernel⟩
theorem sc_is_rule : FnScope ["thing", "state", "groups", "word", "keeps", "later"] ["thing"] (defScope s_is_rule) := ⟨rfl, rfl, rfl, by decide +kernel, rfl, by decide +kernel, by decide +kernel⟩
theorem sc_checked_rules : FnScope ["rules", "checked", "states", "line", "rule", "state", "groups", "word", "keeps", "later"] ["rules"] (defScope s_checked_rules) := ⟨rfl, rfl, rfl, by decide +kernel, rfl, by decide +kernel, by decide +kernel⟩
theorem sc_is_answer : FnScope ["thing"] ["thing"] (defScope s_is_answer) := ⟨rfl, rfl, rfl, by decide +kernel, rfl, by decide +kernel, by decide +kernel⟩
theorem sc_checked_answers : FnScope ["states", "answers", "given", "state", "checked", "answer"] ["states", "answers"] (defScope s_checked_answers) := ⟨rfl, rfl, rfl, by decide +kernel, rfl, by decide +kernel, by decide +kernel⟩
theorem sc_used_rules : FnScope ["rules", "used", "index", "rule", "name", "places", "place"] ["rules"] (defScope s_used_rules) := ⟨rfl, rfl, rfl, by decide +kernel, rfl, by decide +kernel, by decide +kernel⟩
theorem sc_Loop__init : FnScope ["self", "rules", "answers", "checked", "states", "told"] ["self", "rules", "answers"] (defScope s_Loop__init) := ⟨rfl, rfl, rfl, by decide +kernel, rfl, by decide +kernel, by decide +kernel⟩
theorem sc_Loop_rules : FnScope ["self"] ["self"] (defScope s_Loop_rules) := ⟨rfl, rfl, rfl, by decide +kernel, rfl, by decide +kernel, by decide +kernel⟩
theorem sc_Loop_start : FnScope ["self"] ["self"] (defScope s_Loop_start) := ⟨rfl, rfl, rfl, by decide +kernel, rfl, by decide +kernel, by decide +kernel⟩
theorem sc_Loop_answers : FnScope ["self"] ["self"] (defScope s_Loop_answers) := ⟨rfl, rfl, rfl, by decide +kernel, rfl, by decide +kernel, by decide +kernel⟩
theorem sc_Loop_fitting : FnScope ["self", "state", "place"] ["self", "state", "place"] (defScope s_Loop_fitting) := ⟨rfl, rfl, rfl, by decide +kernel, rfl, by decide +kernel, by decide +kernel⟩
theorem sc_step : FnScope ["loop", "state", "place", "index"] ["loop", "state", "place"] (defScope s_step) := ⟨rfl, rfl, rfl, by decide +kernel, rfl, by decide +kernel, by decide +kernel⟩
theorem sc_Run__init : FnScope ["self", "words", "keeps", "kept", "state", "answer"] ["self", "words", "keeps", "kept", "state", "answer"] (defScope s_Run__init) := ⟨rfl, rfl, rfl, by decide +kernel, rfl, by decide +kernel, by decide +kernel⟩
theorem sc_u_place : FnScope ["number", "kept", "tolerance"] ["number", "kept", "tolerance"] (defScope s_u_place) := ⟨rfl, rfl, rfl, by decide +kernel, rfl, by decide +kernel, by decide +kernel⟩
theorem sc_run : FnScope ["loop", "row", "tolerance", "words", "keeps", "kept", "state", "number", "word", "is_kept"] ["loop", "row", "tolerance"] (defScope s_run) := ⟨rfl, rfl, rfl, by decide +kernel, rfl, by decide +kernel, by decide +kernel⟩
theorem sc_cells_and_ranks : FnScope ["row", "tolerance", "cells", "rests", "ranks", "number", "cell", "rank", "rest"] ["row", "tolerance"] (defScope s_cells_and_ranks) := ⟨rfl, rfl, rfl, by decide +kernel, rfl, by decide +kernel, by decide +kernel⟩
theorem sc_ranked : FnScope ["row", "tolerance", "cells", "ranks", "many", "least", "cell", "rank"] ["row", "tolerance"] (defScope s_ranked) := ⟨rfl, rfl, rfl, by decide +kernel, rfl, by decide +kernel, by decide +kernel⟩
theorem sc_law_source : FnScope ["_law_script", "_law_great", "_law_seed", "_law_cell"] ["_law_script"] (defScope s_law_source) := ⟨rfl, rfl, rfl, by decide +kernel, rfl, by decide +kernel, by decide +kernel⟩
theorem sc_law_draw : FnScope ["_law_source_here", "_law_many", "_law_digit", "_law_mixed"] ["_law_source_here", "_law_many"] (defScope s_law_draw) := ⟨rfl, rfl, rfl, by decide +kernel, rfl, by decide +kernel, by decide +kernel⟩
theorem sc_law_pick : FnScope ["_law_source_here", "_law_things"] ["_law_source_here", "_law_things"] (defScope s_law_pick) := ⟨rfl, rfl, rfl, by decide +kernel, rfl, by decide +kernel, by decide +kernel⟩
theorem sc_law_name : FnScope ["_law_source_here", "_law_taken", "_law_size", "_law_name_here", "_law_k", "_law_one", "_law_letter"] ["_law_source_here", "_law_taken"] (defScope s_law_name) := ⟨rfl, rfl, rfl, by decide +kernel, rfl, by decide +kernel, by decide +kernel⟩
theorem sc_law_names : FnScope ["_law_source_here", "_law_many", "_law_names_here", "_law_k"] ["_law_source_here", "_law_many"] (defScope s_law_names) := ⟨rfl, rfl, rfl, by decide +kernel, rfl, by decide +kernel, by decide +kernel⟩
theorem sc_law_places : FnScope [] [] (defScope s_law_places) := ⟨rfl, rfl, rfl, by decide +kernel, rfl, by decide +kernel, by decide +kernel⟩
theorem sc_law_group_names : FnScope [] [] (defScope s_law_group_names) := ⟨rfl, rfl, rfl, by decide +kernel, rfl, by decide +kernel, by decide +kernel⟩
theorem sc_law_groups : FnScope ["_law_source_here", "_law_first", "_law_names_here", "_law_groups_here", "_law_k"] ["_law_source_here", "_law_first"] (defScope s_law_groups) := ⟨rfl, rfl, rfl, by decide +kernel, rfl, by decide +kernel, by decide +kernel⟩
theorem sc_law_rules : FnScope ["_law_source_here", "_law_many", "_law_most", "_law_states_here", "_law_words", "_law_rules_here", "_law_k", "_law_state", "_law_groups_here"] ["_law_source_here", "_law_many", "_law_most"] (defScope s_law_rules) := ⟨rfl, rfl, rfl, by decide +kernel, rfl, by decide +kernel, by decide +kernel⟩
theorem sc_law_states : FnScope ["_law_rules_here", "_law_found", "_law_rule", "_law_state"] ["_law_rules_here"] (defScope s_law_states) := ⟨rfl, rfl, rfl, by decide +kernel, rfl, by decide +kernel, by decide +kernel⟩
theorem sc_law_answers : FnScope ["_law_source_here", "_law_rules_here", "_law_found", "_law_state"] ["_law_source_here", "_law_rules_here"] (defScope s_law_answers) := ⟨rfl, rfl, rfl, by decide +kernel, rfl, by decide +kernel, by decide +kernel⟩
theorem sc_law_tolerance : FnScope ["_law_source_here"] ["_law_source_here"] (defScope s_law_tolerance) := ⟨rfl, rfl, rfl, by decide +kernel, rfl, by decide +kernel, by decide +kernel⟩
theorem sc_law_row : FnScope ["_law_source_here", "_law_most", "_law_tolerance_here", "_law_row_here", "_law_k", "_law_base", "_law_step", "_law_shift", "_law_x"] ["_law_source_here", "_law_most", "_law_tolerance_here"] (defScope s_law_row) := ⟨rfl, rfl, rfl, by decide +kernel, rfl, by decide +kernel, by decide +kernel⟩
theorem sc_law_unlike : FnScope ["_law_numbers", "_law_found", "_law_number", "_law_one"] ["_law_numbers"] (defScope s_law_unlike) := ⟨rfl, rfl, rfl, by decide +kernel, rfl, by decide +kernel, by decide +kernel⟩
theorem sc_law_wider : FnScope ["_law_source_here", "_law_row_here", "_law_tolerance_here", "_law_rests", "_law_others", "_law_at", "_law_rest", "_law_wide", "_law_x"] ["_law_source_here", "_law_row_here", "_law_tolerance_here"] (defScope s_law_wider) := ⟨rfl, rfl, rfl, by decide +kernel, rfl, by decide +kernel, by decide +kernel⟩
theorem sc_law : FnScope ["_law_script", "_law_source_here", "_law_rules_here", "_law_loop", "_law_tolerance_here", "_law_row_here", "_law_times", "_law_shift", "_law_pairs", "_law_due", "_law_other", "_law_width", "_law_told", "_law_x", "_law_keep"] ["_law_script"] (defScope s_law) := ⟨rfl, rfl, rfl, by decide +kernel, rfl, by decide +kernel, by decide +kernel⟩

/-! ### the data -/
/-- H' tells all that H tells, but for what stands at p -/
def But (p : Addr) (H H' : Hp) : Prop := ∀ b o, b ≠ p → H b = some o → H' b = some o
theorem But.refl (p : Addr) (H : Hp) : But p H H := fun _ _ _ h => h
theorem But.trans {p : Addr} {H H1 H2 : Hp} (a : But p H H1) (b : But p H1 H2) : But p H H2 := fun c o n h => b c o n (a c o n h)
theorem But.upd {p : Addr} {H H' : Hp} {o : HO} (a : But p H H') : But p H (upd H' p o) := fun c o n h => by rw [upd_ne n]; exact a c o n h
theorem Same.but {p : Addr} {H H' : Hp} (a : Same H H') : But p H H' := fun c o _ h => a c o h
theorem Same.new {H : Hp} {p : Addr} {o : HO} (h : H p = none) : Same H (upd H p o) := fun b o e => by rw [upd_ne (ne_of_none e h)]; exact e
/-- a source of draws at p, at most n drawn so far -/
def Src (H : Hp) (p : Addr) (n : Int) : Prop := ∃ g s c : Int, H p = some (.lst [.int g, .int s, .int c]) ∧ 0 ≤ s ∧ s < 2147483647 ∧ 0 ≤ c ∧ c ≤ n
theorem Src.same {H H' : Hp} {p : Addr} {n : Int} (h : Src H p n) (e : Same H H') : Src H' p n := by
  obtain ⟨g, s, c, h, q⟩ := h
  exact ⟨g, s, c, e _ _ h, q⟩
theorem Src.le {H : Hp} {p : Addr} {n m : Int} (h : Src H p n) (e : n ≤ m) : Src H p m := by
  obtain ⟨g, s, c, h, q1, q2, q3, q4⟩ := h
  exact ⟨g, s, c, h, q1, q2, q3, by omega⟩

theorem draw_pow {x c : Int} (x0 : 0 ≤ x) (x1 : x < 2147483629) (c0 : 0 ≤ c) (c1 : c ≤ 1000000) : CPow (x * 48271 + 16807 * c * c + 11) 3 := by
  refine ⟨by decide, by decide, ?_⟩
  have h1 : 0 ≤ c * c := Int.mul_nonneg c0 c0
  have h2 : c * c ≤ 1000000 * 1000000 := Int.mul_le_mul c1 c1 c0 (by decide)
  have e : 16807 * c * c = 16807 * (c * c) := Int.mul_assoc _ _ _
  rw [e]
  generalize c * c = y at h1 h2
  show _ < 18446744073709551616
  omega
theorem ix_of {K : PySem.W.Frag} {H : Hp} {p : Addr} {xs : List V} {i : Int} {v : V} {Q : VK} (h : SqL K H p xs) (h2 : atI xs i = some v) (h3 : Q v H) : rIxL K (.ref p) (.int i) H Q := ⟨p, xs, i, v, rfl, rfl, h, h2, h3⟩
theorem set_of {H : Hp} {p : Addr} {xs : List V} {k : Int} {j : Nat} {v : V} {Q : Hp → Prop} (h : H p = some (.lst xs)) (h2 : ixN xs.length k = some j) (h3 : Q (upd H p (.lst (xs.set j v)))) : rSetL (.ref p) (.int k) v H Q := ⟨p, xs, k, j, rfl, rfl, h, h2, h3⟩
theorem ifne {x y : V} {A B : Prop} (h : x = y) (k : B) : if (!decide (x = y)) = true then A else B := by
  rw [decide_eq_true h]
  exact iteF k
theorem ifd {c A B : Prop} {inst : Decidable c} (h1 : c → A) (h2 : ¬ c → B) : if (@decide c inst) = true then A else B := by
  by_cases h : c
  · rw [if_pos (decide_eq_true h)]
    exact h1 h
  · rw [if_neg (by rw [decide_eq_false h]; exact Bool.false_ne_true)]
    exact h2 h
local macro_rules | `(tactic| walk_at "rd") => `(tactic| repeat (first
  | refine ⟨_, rfl, ?_⟩
  | refine ⟨_, _, rfl, rfl, ?_⟩
  | refine ⟨_, _, rfl, ?_⟩
  | refine ⟨rfl, ?_⟩
  | refine ⟨_, _, _, _, rfl, rfl, SqL.of upd_same, rfl, ?_⟩
  | refine ⟨_, _, _, _, rfl, rfl, upd_same, rfl, ?_⟩
  | refine iteT ?_
  | refine iteF ?_))
theorem take_more {α : Type} : ∀ {l : List α} {i : Nat} {x : α}, l[i]? = some x → l.take (i + 1) = l.take i ++ [x]
  | [], i, x, h => by simp at h
  | a :: l, 0, x, h => by
    have e : a = x := Option.some.inj h
    subst e
    rfl
  | a :: l, i + 1, x, h => by
    have ih := take_more (l := l) (i := i) (x := x) h
    show a :: l.take (i + 1) = a :: l.take i ++ [x]
    rw [ih]
    rfl
/-- a new object, the heap behind it a letter: generalize hH : upd H l _ = H' ahead of it -/
theorem new_of {H H' : Hp} {l : Addr} {o o' : HO} (hH : upd H l o = H') (h : H l = none) (e : o = o') : Same H H' ∧ H' l = some o' := by
  subst e hH
  exact ⟨Same.new h, upd_same⟩
/-- a changed object -/
theorem chg_of {H H' : Hp} {l : Addr} {o o' : HO} (hH : upd H l o = H') (e : o = o') : But l H H' ∧ H' l = some o' := by
  subst e hH
  exact ⟨(But.refl l H).upd, upd_same⟩
theorem Src.but {H H' : Hp} {p q : Addr} {n : Int} (h : Src H p n) (e : But q H H') (hne : p ≠ q) : Src H' p n := by
  obtain ⟨g, s, c, h, r⟩ := h
  exact ⟨g, s, c, e _ _ hne h, r⟩
theorem Src.at {H : Hp} {p : Addr} {n : Int} (h : Src H p n) : ∃ xs, H p = some (.lst xs) := by
  obtain ⟨g, s, c, h, q⟩ := h
  exact ⟨_, h⟩
theorem Src.ne {H : Hp} {p q : Addr} {n : Int} (h : Src H p n) (hq : H q = none) : q ≠ p := fun z => by
  obtain ⟨_, _, _, e, _⟩ := h
  rw [z, e] at hq
  cases hq
theorem int_at {l : List Int} {i : Nat} {x : V} (h : (l.map V.int)[i]? = some x) : ∃ z, x = V.int z ∧ l[i]? = some z := by
  rw [List.getElem?_map] at h
  cases e : l[i]? with
  | none => rw [e] at h; cases h
  | some z => rw [e] at h; exact ⟨z, (Option.some.inj h).symm, rfl⟩
/-! ### the promises -/
def spSource (K : PySem.W.Frag) : Sp := fun vs H Q _ => ∃ (a : Addr) (ns : List Int), vs = [.ref a] ∧ SqL K H a (ns.map V.int) ∧ ∀ (p : Addr) (H' : Hp), H p = none → Same H H' → Src H' p 0 → Q (.ref p) H'
def spDraw : Sp := fun vs H Q _ => ∃ (p : Addr) (m n : Int), vs = [.ref p, .int m] ∧ Src H p n ∧ n < 1000000 ∧ 0 < m ∧ m < 2 ^ 64 ∧
  ∀ (d : Int) (H' : Hp), 0 ≤ d → d < m → But p H H' → Src H' p (n + 1) → Q (.int d) H'
def spLaw (K : PySem.W.Frag) : Sp := fun vs H Q _ => ∃ (a : Addr) (ns : List Int), vs = [.ref a] ∧ SqL K H a (ns.map V.int) ∧ ns.length ≤ 63 ∧ ∀ H', Q (.bl true) H'
def spTol : Sp := fun vs H Q _ => ∃ (p : Addr) (n : Int), vs = [.ref p] ∧ Src H p n ∧ n < 1000000 ∧
  ∀ (d : Int) (H' : Hp), 1 ≤ d → d ≤ 1000000 → But p H H' → Src H' p (n + 1) → Q (.int d) H'
def big : Int := 1000000000000000000000000000000
theorem div_ok {x e : Int} (h1 : -big < x) (h2 : x < big) (h : 1 ≤ e) : CDivP x e := by
  refine divp_ok h ?_
  have b := PyProof.Rows.intBits_le (k := 100) (a := x) (by unfold big at *; show _ < 1267650600228229401496703205376; omega)
  omega
theorem big_eq : (10 : Int) ^ (30 : Int).toNat = big := by decide +kernel
def spIsNum : Sp := fun vs H Q _ => ∃ x : Int, vs = [.int x] ∧ -big < x ∧ x < big ∧ Q (.bl true) H
def spIsTol : Sp := fun vs H Q _ => ∃ x : Int, vs = [.int x] ∧ 1 ≤ x ∧ x < big ∧ Q (.bl true) H
def spChkNum : Sp := fun vs H Q _ => ∃ x : Int, vs = [.int x] ∧ -big < x ∧ x < big ∧ Q .non H
def spChkTol : Sp := fun vs H Q _ => ∃ x : Int, vs = [.int x] ∧ 1 ≤ x ∧ x < big ∧ Q .non H
def sgn (r s : Int) : Str := if r < s then "<" else if s < r then ">" else "="
theorem sgn_len (r s : Int) : 1 + (sgn r s).length ≤ sizeLine := by
  unfold sgn
  split
  · decide
  · split <;> decide
def plcD (d r s : Int) : Str := if d ≤ -2 then "below" else if 2 ≤ d then "above" else if d = -1 then "-" ++ sgn r s else if d = 1 then "+" ++ sgn r s else sgn r s
def plc (x k e : Int) : Str := plcD (x / e - k / e) (x % e) (k % e)
def spSign : Sp := fun vs H Q _ => ∃ r s : Int, vs = [.int r, .int s] ∧ Q (.str (sgn r s)) H
def spPlaceAt : Sp := fun vs H Q _ => ∃ d r s : Int, vs = [.int d, .str (sgn r s)] ∧ Q (.str (plcD d r s)) H
def spPlace : Sp := fun vs H Q _ => ∃ x k e : Int, vs = [.int x, .int k, .int e] ∧ -big < x ∧ x < big ∧ -big < k ∧ k < big ∧ 1 ≤ e ∧ e < big ∧ ∀ H', Same H H' → Q (.str (plc x k e)) H'
/-! ### the places by their numbers -/
def placesL : List Str := ["below", "-<", "-=", "->", "<", "=", ">", "+<", "+=", "+>", "above"]
theorem c_places : c_PLACES = placesL.map V.str := rfl
theorem inV_strs (z : Str) : ∀ l : List Str, inV (V.str z) (l.map V.str) = decide (z ∈ l)
  | [] => rfl
  | a :: r => by
    have ih := inV_strs z r
    unfold inV at ih ⊢
    rw [List.map_cons, List.any_cons, ih]
    by_cases e : a = z
    · subst e
      simp [eqV]
    · have e1 : eqV (V.str a) (V.str z) = false := by
        show (a == z) = false
        simpa using e
      have e2 : ¬ z = a := fun q => e q.symm
      simp [e1, e2]
theorem flat_strs : ∀ l : List Str, (l.map V.str).all flatV = true
  | [] => rfl
  | a :: r => by
    rw [List.map_cons, List.all_cons, flat_strs r]
    rfl
theorem dp_strs {K : PySem.W.Frag} {H : Hp} : ∀ l : List Str, DpAll K H (l.map V.str) (l.map PyData.str)
  | [] => .nil
  | a :: r => .cons (.str a) (dp_strs r)
theorem str_at {l : List Str} {i : Nat} {x : V} (h : (l.map V.str)[i]? = some x) : ∃ z, x = V.str z ∧ l[i]? = some z := by
  rw [List.getElem?_map] at h
  cases e : l[i]? with
  | none => rw [e] at h; cases h
  | some z => rw [e] at h; exact ⟨z, (Option.some.inj h).symm, rfl⟩
theorem places_nd : placesL.Nodup := by decide +kernel
theorem places_lt {j : Nat} {z : Str} (h : placesL[j]? = some z) : j < 11 := (List.getElem?_eq_some_iff.mp h).1
theorem places_first {j m : Nat} {z : Str} (h : placesL[j]? = some z) (hm : m < j) : placesL[m]? ≠ some z := fun e => by
  have q := nd_ix places_nd e h
  omega
theorem shaped_of {d : PyData} (h1 : d.canLay0 = true) (h2 : d.depth ≤ 64) : SeqAt.shaped d = true := by
  unfold SeqAt.shaped
  rw [h1, decide_eq_true h2]
  rfl
theorem lay_strs : ∀ l : List Str, (∀ z ∈ l, PyData.strOk z = true) → PyData.canLayAll0 (l.map PyData.str) = true
  | [], _ => rfl
  | a :: r, h => by
    rw [List.map_cons, PyData.canLayAll0, lay_strs r fun z hz => h z (List.mem_cons_of_mem _ hz), PyData.canLay0, h a List.mem_cons_self]
    rfl
theorem depth_strs : ∀ l : List Str, PyData.depthAll (l.map PyData.str) ≤ 1
  | [] => by simp [PyData.depthAll]
  | a :: r => by
    have ih := depth_strs r
    rw [List.map_cons, PyData.depthAll]
    have e : (PyData.str a).depth ≤ 1 := by simp [PyData.depth]
    omega
theorem shaped_strs {l : List Str} (h : ∀ z ∈ l, PyData.strOk z = true) : SeqAt.shaped (.list (l.map PyData.str)) = true :=
  shaped_of (by rw [PyData.canLay0]; exact lay_strs l h) (by rw [PyData.depth]; have := depth_strs l; omega)
theorem eqv_strs {l : List Str} (h : ∀ z ∈ l, PyData.strOk z = true) : PyData.eqv (.list (l.map PyData.str)) (.list (l.map PyData.str)) = true :=
  SeqAt.eqv_refl _ (by rw [PyData.canLay0]; exact lay_strs l h)
theorem places_ok : ∀ z ∈ placesL, PyData.strOk z = true := by decide +kernel
/-- the number of the place -/
def plcN (d r s : Int) : Nat := if d ≤ -2 then 0 else if 2 ≤ d then 10 else (if d = -1 then 1 else if d = 1 then 7 else 4) + (if r < s then 0 else if s < r then 2 else 1)
theorem plc_at (d r s : Int) : placesL[plcN d r s]? = some (plcD d r s) := by
  unfold plcN plcD sgn
  by_cases a : d ≤ -2
  · rw [if_pos a, if_pos a]; rfl
  by_cases b : 2 ≤ d
  · rw [if_neg a, if_pos b, if_neg a, if_pos b]; rfl
  rw [if_neg a, if_neg b, if_neg a, if_neg b]
  rcases (by omega : d = -1 ∨ d = 1 ∨ d = 0) with e | e | e
  all_goals subst e
  all_goals rcases (by omega : r < s ∨ s < r ∨ r = s) with c | c | c
  all_goals first
    | (rw [if_pos c, if_pos c]; rfl)
    | (rw [if_neg (by omega : ¬ r < s), if_pos c, if_neg (by omega : ¬ r < s), if_pos c]; rfl)
    | (subst c; rw [if_neg (Int.lt_irrefl r), if_neg (Int.lt_irrefl r), if_neg (Int.lt_irrefl r), if_neg (Int.lt_irrefl r)]; rfl)
    | (subst c; rw [if_neg (Int.lt_irrefl r), if_neg (Int.lt_irrefl r)]; rfl)
theorem plc_ok (x k e : Int) : PyData.strOk (plc x k e) = true := places_ok _ (List.mem_of_getElem? (plc_at _ _ _))
/-! ### is_place, turned -/
def spIsPlace : Sp := fun vs H Q _ => ∃ z : Str, vs = [.str z] ∧ Q (.bl (decide (z ∈ placesL))) H
/-! ### the groups -/
theorem isStr_ne {x z : Str} {t : Tok} (h : x ≠ z) : (Value.str x t).isStr z = false := by
  show (x == z) = false
  simpa using h
theorem groups_at : ∀ {l : List (Str × List Str)} {z : Str}, z ∈ l.map (·.1) → ∃ (j : Nat) (ps : List Str), l[j]? = some (z, ps)
  | (a, q) :: r, z, h => by
    rw [List.map_cons] at h
    rcases List.mem_cons.mp h with e | e
    · exact ⟨0, q, by rw [e]; rfl⟩
    · obtain ⟨j, ps, h'⟩ := groups_at e
      exact ⟨j + 1, ps, h'⟩
theorem names_in {j : Nat} {z : Str} {ps : List Str} (h : l_GROUPS[j]? = some (z, ps)) : z ∈ l_GROUPS.map (·.1) := List.mem_map.mpr ⟨_, List.mem_of_getElem? h, rfl⟩
theorem names_no : ∀ z ∈ l_GROUPS.map (·.1), z ∉ placesL := by decide +kernel
/-- group: of a name of the table, that is no place; of a place -/
def spIsGroup : Sp := fun vs H Q _ => ∃ z : Str, vs = [.str z] ∧ Q (.bl (decide (z ∈ placesL ∨ z ∈ l_GROUPS.map (·.1)))) H
def spGroup (K : PySem.W.Frag) : Sp := fun vs H Q _ => ∃ z : Str, vs = [.str z] ∧
  ((∃ (j : Nat) (ps : List Str), l_GROUPS[j]? = some (z, ps) ∧ ∀ u : Addr, (∀ H' : Hp, SqT K H' u (ps.map V.str)) → Q (.ref u) H) ∨
   (z ∈ placesL ∧ ∀ p : Addr, H p = none → Q (.ref p) (upd H p (.tup [.str z]))))
/-! ### _law_pick, _law_name -/
theorem sql_but {K : PySem.W.Frag} {H H' : Hp} {p l : Addr} {xs : List V} (h : SqL K H l xs) (e : But p H H') (n : l ≠ p) : SqL K H' l xs := by
  rcases h with (h | ⟨o, h⟩) | h
  · exact .inl (.inl (e _ _ n h))
  · exact .inl (.inr ⟨o, e _ _ n h⟩)
  · exact .inr h
theorem but_new {p q : Addr} {H H' : Hp} {o : HO} (a : But p H H') (h : H q = none) : But p H (upd H' q o) := fun c u n z => by
  rw [upd_ne (fun e => by rw [e, h] at z; cases z)]
  exact a c u n z
theorem but_free {p q : Addr} {H H' : Hp} (a : But p H H') (n : q ≠ p) (h : H' q = none) : H q = none := by
  cases e : H q with
  | none => rfl
  | some o =>
    rw [a q o n e] at h
    cases h
theorem at_any {α : Type} {xs : List α} {j : Nat} {x : α} (h : xs[j]? = some x) : atI xs (j : Int) = some x := by
  have hj : j < xs.length := (List.getElem?_eq_some_iff.mp h).1
  unfold atI ixN
  rw [if_pos (by omega : (0 : Int) ≤ j), if_pos (by omega : (j : Int) < xs.length)]
  exact h
def spPick (K : PySem.W.Frag) : Sp := fun vs H Q _ => ∃ (p l : Addr) (xs : List V) (n : Int), vs = [.ref p, .ref l] ∧ Src H p n ∧ n < 1000000 ∧ l ≠ p ∧ SqL K H l xs ∧ 0 < xs.length ∧ xs.length ≤ 1000 ∧
  ∀ (j : Nat) (v : V) (H' : Hp), xs[j]? = some v → But p H H' → Src H' p (n + 1) → Q v H'
/-- a name of at most eight small letters -/
def one (c : Nat) : Str := ⟨#[c]⟩
def small (c : Nat) : Prop := 97 ≤ c ∧ c ≤ 122
structure IsName (z : Str) : Prop where
  pos : 1 ≤ z.cps.size
  len : z.cps.size ≤ 8
  low : ∀ c ∈ z.cps.toList, small c
theorem IsName.ok {z : Str} (h : IsName z) : PyData.strOk z = true := by
  show z.cps.all (· < 0x110000) = true
  rw [← Array.all_toList, List.all_eq_true]
  intro c hc
  have := (h.low c hc).2
  exact decide_eq_true (by omega)
theorem join_ones : ∀ cs : List Nat, Txt.join (Str.ofString "") (cs.map one) = ⟨cs.toArray⟩ := fun cs => by
  rw [TL.join_eq]
  have e : ∀ l : List Nat, TL.tl (Str.join (Str.ofString "") (l.map one)) = l := fun l => by
    rw [TL.tl_join, show TL.tl (Str.ofString "") = [] by decide +kernel]
    induction l with
    | nil => rfl
    | cons a r ih =>
      cases r with
      | nil => rfl
      | cons b r =>
        rw [List.map_cons, List.map_cons, List.map_cons, List.map_cons, TL.joinL]
        rw [List.map_cons, List.map_cons] at ih
        rw [List.nil_append, ih]
        rfl
  have q := e cs
  show (Str.join (Str.ofString "") (cs.map one)) = ⟨cs.toArray⟩
  have h : (Str.join (Str.ofString "") (cs.map one)).cps.toList = cs := q
  generalize Str.join (Str.ofString "") (cs.map one) = z at h
  obtain ⟨a⟩ := z
  obtain ⟨l⟩ := a
  have h' : l = cs := h
  rw [h']
theorem name_of {cs : List Nat} (h1 : 1 ≤ cs.length) (h8 : cs.length ≤ 8) (hl : ∀ c ∈ cs, small c) : IsName ⟨cs.toArray⟩ := ⟨by simpa using h1, by simpa using h8, by simpa using hl⟩
theorem name_q {z : Str} (h : IsName z) : IsName (Str.ofString "q" ++ cutS z (some 1) none) := by
  have hl := cutS_length z (some 1) none
  have e : (Str.ofString "q" ++ cutS z (some 1) none).cps = #[113] ++ (cutS z (some 1) none).cps := by
    show (Str.ofString "q").cps ++ _ = _
    rw [show (Str.ofString "q").cps = #[113] by decide +kernel]
  have hz : (cutS z (some 1) none).cps.size ≤ z.cps.size - 1 := by
    show (((z.cps.toList.drop (HT.sIx z.length 0 (some 1))).take (HT.sIx z.length z.length none - HT.sIx z.length 0 (some 1))).toArray).size ≤ _
    have p := h.pos
    have e1 : HT.sIx z.length 0 (some 1) = 1 := by
      show HT.sIx z.cps.size 0 (some 1) = 1
      unfold HT.sIx
      simp
      omega
    rw [e1, List.size_toArray, List.length_take, List.length_drop, Array.length_toList]
    omega
  have p := h.pos
  have p8 := h.len
  refine ⟨?_, ?_, ?_⟩
  · rw [e, Array.size_append]
    show 1 ≤ 1 + _
    omega
  · rw [e, Array.size_append]
    show 1 + _ ≤ 8
    omega
  · intro c hc
    rw [e, Array.toList_append] at hc
    rcases List.mem_append.mp hc with q | q
    · have : c = 113 := by simpa using q
      subst this
      exact ⟨by decide, by decide⟩
    · refine h.low c ?_
      have q' : c ∈ (((z.cps.toList.drop (HT.sIx z.length 0 (some 1))).take (HT.sIx z.length z.length none - HT.sIx z.length 0 (some 1))).toArray).toList := q
      rw [List.toList_toArray] at q'
      exact List.mem_of_mem_drop (List.mem_of_mem_take q')
/-- the names that are taken where all else is: z and one of seventeen letters -/
def zName (c : Nat) : Str := Str.ofString "z" ++ one c
theorem zName_is {c : Nat} (h : small c) : IsName (zName c) := by
  have e : (zName c).cps = #[122] ++ #[c] := by
    show (Str.ofString "z").cps ++ _ = _
    rw [show (Str.ofString "z").cps = #[122] by decide +kernel]
    rfl
  refine ⟨by rw [e]; exact (by omega : 1 ≤ 2), by rw [e]; exact (by omega : 2 ≤ 8), ?_⟩
  intro d hd
  rw [e] at hd
  have hd' : d = 122 ∨ d = c := by simpa using hd
  rcases hd' with rfl | rfl
  · exact ⟨by decide, by decide⟩
  · exact h
def zNames (i : Nat) : List Str := (List.range i).map fun k => zName (97 + k)
theorem zNames_more (i : Nat) : zNames (i + 1) = zNames i ++ [zName (97 + i)] := by
  unfold zNames
  rw [List.range_succ, List.map_append]
  rfl
theorem zNames_is {z : Str} (h : z ∈ zNames 17) : IsName z := by
  obtain ⟨k, hk, rfl⟩ := List.mem_map.mp h
  have := List.mem_range.mp hk
  exact zName_is ⟨by omega, by omega⟩
theorem zNames_has {c : Nat} (h1 : 97 ≤ c) (h2 : c ≤ 113) : zName c ∈ zNames 17 := List.mem_map.mpr ⟨c - 97, List.mem_range.mpr (by omega), by rw [show 97 + (c - 97) = c by omega]⟩
def spName (K : PySem.W.Frag) : Sp := fun vs H Q _ => ∃ (p l : Addr) (tk : List Str) (n : Int), vs = [.ref p, .ref l] ∧ Src H p n ∧ n < 900000 ∧ l ≠ p ∧ SqL K H l (tk.map V.str) ∧ (∃ c : Nat, 97 ≤ c ∧ c ≤ 113 ∧ zName c ∉ tk) ∧
  ∀ (z : Str) (H' : Hp), IsName z → z ∉ tk → But p H H' → Src H' p (n + 10) → Q (.str z) H'
/-! ### _law_names -/
theorem sub_length : ∀ {xs ys : List Str}, xs.Nodup → (∀ z ∈ xs, z ∈ ys) → xs.length ≤ ys.length
  | [], _, _, _ => Nat.zero_le _
  | x :: r, ys, h, s => by
    have hx := s x List.mem_cons_self
    obtain ⟨h1, h2⟩ := List.nodup_cons.mp h
    have q := sub_length (xs := r) (ys := ys.erase x) h2 fun z hz => (List.mem_erase_of_ne (fun e => h1 (by rw [← e]; exact hz))).mpr (s z (List.mem_cons_of_mem _ hz))
    rw [List.length_erase_of_mem hx] at q
    have : 0 < ys.length := List.length_pos_of_mem hx
    rw [List.length_cons]
    omega
theorem zNames_nd : (zNames 17).Nodup := by decide +kernel
theorem z_left {zs : List Str} (h : zs.length < 17) : ∃ c : Nat, 97 ≤ c ∧ c ≤ 113 ∧ zName c ∉ zs := by
  apply Classical.byContradiction
  intro hn
  have q := sub_length zNames_nd (ys := zs) fun z hz => by
    obtain ⟨k, hk, rfl⟩ := List.mem_map.mp hz
    have := List.mem_range.mp hk
    exact Classical.byContradiction fun h2 => hn ⟨97 + k, by omega, by omega, h2⟩
  have e : (zNames 17).length = 17 := by simp [zNames]
  omega
theorem nd_snoc : ∀ {zs : List Str} {z : Str}, zs.Nodup → z ∉ zs → (zs ++ [z]).Nodup
  | [], z, _, _ => List.nodup_cons.mpr ⟨(fun h => nomatch h), List.nodup_nil⟩
  | a :: r, z, h, hz => by
    obtain ⟨h1, h2⟩ := List.nodup_cons.mp h
    refine List.nodup_cons.mpr ⟨fun q => ?_, nd_snoc h2 fun q => hz (List.mem_cons_of_mem _ q)⟩
    rcases List.mem_append.mp q with q | q
    · exact h1 q
    · exact hz (by rw [← List.mem_singleton.mp q]; exact List.mem_cons_self)
def spNames : Sp := fun vs H Q _ => ∃ (p : Addr) (m : Nat) (n : Int), vs = [.ref p, .int m] ∧ Src H p n ∧ m ≤ 17 ∧ n < 800000 ∧
  ∀ (l : Addr) (zs : List Str) (H' : Hp), zs.length = m → (∀ z ∈ zs, IsName z) → zs.Nodup → H l = none → H' l = some (.lst (zs.map V.str)) → But p H H' → Src H' p (n + 10 * (m : Int)) → Q (.ref l) H'
/-! ### _law_places, _law_group_names, _law_group -/
def namesL : List Str := ["any", "near", "far", "less", "more", "under", "over", "cell", "none"]
def spPlaces : Sp := fun vs H Q _ => vs = [] ∧ ∀ p : Addr, H p = none → Q (.ref p) (upd H p (.lst (placesL.map V.str)))
def spGroupNames : Sp := fun vs H Q _ => vs = [] ∧ ∀ p : Addr, H p = none → Q (.ref p) (upd H p (.lst (namesL.map V.str)))
def grpL (z : Str) : List Str := (l_GROUPS.lookup z).getD [z]
def spLawGroup : Sp := fun vs H Q _ => ∃ z : Str, vs = [.str z] ∧ ∀ (a : Addr) (H' : Hp), Same H H' → H' a = some (.lst ((grpL z).map V.str)) → Q (.ref a) H'
theorem same_but {D : Addr} {H H1 H2 : Hp} (s : Same H H1) (u : But D H1 H2) (hD : H D = none) : Same H H2 := fun b o e => u b o (ne_of_none e hD) (s b o e)
def underL : List Str := ["below", "-<"]
def overL : List Str := ["+>", "above"]
def nearL : List Str := ["-=", "->", "<", "=", ">", "+<", "+="]
def lessL : List Str := ["below", "-<", "-=", "->", "<"]
def moreL : List Str := [">", "+<", "+=", "+>", "above"]
def cellL : List Str := ["<", "=", ">"]
theorem valV_out : ∀ {kvs : List (Key × V)} {k : Key}, (∀ q ∈ kvs, q.1 ≠ k) → valV kvs k = none
  | [], _, _ => rfl
  | (j, v) :: r, k, h => by
    have ih := valV_out (kvs := r) (k := k) fun q hq => h q (List.mem_cons_of_mem _ hq)
    have hj : j ≠ k := h _ List.mem_cons_self
    unfold valV at ih ⊢
    simp [List.find?, hj]
    simpa using ih
theorem grp_out {z : Str} (h : z ∉ namesL) : grpL z = [z] := by
  have key : ∀ l : List (Str × List Str), z ∉ l.map (·.1) → l.lookup z = none := fun l => by
    induction l with
    | nil => exact fun _ => rfl
    | cons a r ih =>
      intro hn
      rw [List.map_cons, List.mem_cons, not_or] at hn
      rw [List.lookup_cons, show (z == a.1) = false by simpa using hn.1]
      exact ih hn.2
  unfold grpL
  rw [key l_GROUPS (show z ∉ l_GROUPS.map (·.1) from h)]
  rfl
def gdK (r a3 a6 a7 a8 b1 b2 b3 b4 : Addr) : List (Key × V) := [(.inr "any", .ref r), (.inr "near", .ref a3), (.inr "far", .ref a6), (.inr "less", .ref a7), (.inr "more", .ref a8), (.inr "under", .ref b1), (.inr "over", .ref b2), (.inr "cell", .ref b3), (.inr "none", .ref b4)]
/-! ### is_place, is_group, group, turned of any value that a law hands in -/
inductive OddV (H : Hp) : V → PyData → Prop
  | non : OddV H .non .none
  | int (i : Int) : OddV H (.int i) (.int i)
  | lst {a : Addr} {z : Str} (h : H a = some (.lst [.str z])) (ok : PyData.strOk z = true) : OddV H (.ref a) (.list [.str z])
  | tup {a : Addr} {z : Str} (h : H a = some (.tup [.str z])) (ok : PyData.strOk z = true) : OddV H (.ref a) (.tuple [.str z])
theorem OddV.mv {H H' : Hp} {v : V} {d : PyData} (o : OddV H v d) (e : ∀ b u, (∀ ps, u ≠ .tbl ps) → H b = some u → H' b = some u) : OddV H' v d := by
  cases o with
  | non => exact .non
  | int i => exact .int i
  | lst h ok => exact .lst (e _ _ (fun ps z => by cases z) h) ok
  | tup h ok => exact .tup (e _ _ (fun ps z => by cases z) h) ok
theorem OddV.ty {K : PySem.W.Frag} {H : Hp} {v : V} {d : PyData} (o : OddV H v d) : ∃ t : String, TyX K H v (.type t) ∧ kitB t "str" = some false := by
  cases o with
  | non => exact ⟨_, .base .non, by decide +kernel⟩
  | int i => exact ⟨_, .base (.int i), by decide +kernel⟩
  | lst h ok => exact ⟨_, .base (.lst h), by decide +kernel⟩
  | tup h ok => exact ⟨_, .base (.tup h), by decide +kernel⟩
def spIsPlaceA : Sp := fun vs H Q _ => ∃ v : V, vs = [v] ∧ ((∃ z : Str, v = .str z ∧ Q (.bl (decide (z ∈ placesL))) H) ∨ (∃ d, OddV H v d) ∧ Q (.bl false) H)
def spIsGroupA : Sp := fun vs H Q _ => ∃ v : V, vs = [v] ∧ ((∃ z : Str, v = .str z ∧ Q (.bl (decide (z ∈ placesL ∨ z ∈ l_GROUPS.map (·.1)))) H) ∨ (∃ d, OddV H v d) ∧ Q (.bl false) H)
/-! ### are_groups, of a list or a tuple of texts -/
def iLT (K : PySem.W.Frag) (tl : TE) : TI := fun σ H R => iList K tl σ H R ∨ iTup K tl σ H R
theorem pi_lt {X : Cx} {tg l : Expr} {tl : TE} (hl : PE X l tl) : PI X tg l (iLT X.K tl) := ⟨fun pins s σ H R I h => h.elim (fun h => (pi_list hl).run pins s σ H R I h) (fun h => (pi_tup hl).run pins s σ H R I h)⟩
def grpB (z : Str) : Bool := decide (z ∈ placesL ∨ z ∈ l_GROUPS.map (·.1))
def LT (H : Hp) (a : Addr) (xs : List V) : Prop := H a = some (.lst xs) ∨ H a = some (.tup xs)
theorem LT.same {H H' : Hp} {a : Addr} {xs : List V} (h : LT H a xs) (e : Same H H') : LT H' a xs := h.imp (e _ _) (e _ _)
theorem LT.sq {K : PySem.W.Frag} {H : Hp} {a : Addr} {xs : List V} (h : LT H a xs) : SqL K H a xs ∨ SqT K H a xs := h.imp SqL.of SqT.of
theorem LT.ty {K : PySem.W.Frag} {H : Hp} {a : Addr} {xs : List V} (h : LT H a xs) : ∃ t : String, TyX K H (.ref a) (.type t) ∧ PySem.W.kitAny K (.type t) [.type "list", .type "tuple"] = some true := by
  rcases h with h | h
  · exact ⟨_, .base (.lst h), by rw [PySem.W.kitAny]; rfl⟩
  · exact ⟨_, .base (.tup h), by rw [PySem.W.kitAny]; rfl⟩
def spAreGroups : Sp := fun vs H Q _ => ∃ (a : Addr) (gs : List Str), vs = [.ref a] ∧ LT H a (gs.map V.str) ∧ gs.length ≤ 1000 ∧ ∀ H', Same H H' → Q (.bl (!gs.isEmpty && gs.all grpB)) H'
/-! ### _law_groups: one to four names of groups; with "none" among them if so asked -/
def grpNames : List Str := (namesL.take 8) ++ placesL
structure IsGroups (first : Bool) (gs : List Str) : Prop where
  pos : 1 ≤ gs.length
  len : gs.length ≤ 4
  mem : ∀ g ∈ gs, g ∈ namesL ++ placesL
  non : first = true → (Str.ofString "none") ∈ gs
theorem groups_plain {gs : List Str} (h1 : 1 ≤ gs.length) (h3 : gs.length ≤ 3) (hm : ∀ g ∈ gs, g ∈ namesL ++ placesL) : IsGroups false gs := ⟨h1, by omega, hm, fun h => nomatch h⟩
theorem groups_ins {gs : List Str} {first : Bool} (i : Nat) (h3 : gs.length ≤ 3) (hm : ∀ g ∈ gs, g ∈ namesL ++ placesL) : IsGroups first (gs.take i ++ [Str.ofString "none"] ++ gs.drop i) := by
  have hl : (gs.take i ++ [Str.ofString "none"] ++ gs.drop i).length = gs.length + 1 := by
    rw [List.length_append, List.length_append, List.length_take, List.length_drop, List.length_singleton]
    omega
  refine ⟨by omega, by omega, fun g hg => ?_, fun _ => List.mem_append_left _ (List.mem_append_right _ (List.mem_singleton.mpr rfl))⟩
  rcases List.mem_append.mp hg with q | q
  · rcases List.mem_append.mp q with q | q
    · exact hm g (List.mem_of_mem_take q)
    · rw [List.mem_singleton.mp q]
      exact List.mem_append_left _ (by decide +kernel)
  · exact hm g (List.mem_of_mem_drop q)
def spGroups (K : PySem.W.Frag) : Sp := fun vs H Q _ => ∃ (p : Addr) (first : Bool) (n : Int), vs = [.ref p, .bl first] ∧ Src H p n ∧ n < 900000 ∧
  ∀ (l : Addr) (gs : List Str) (H' : Hp), IsGroups first gs → H l = none → H' l = some (.lst (gs.map V.str)) → But p H H' → Src H' p (n + 10) → Q (.ref l) H'
/-! ### the rules that _law_rules makes -/
structure Rul where
  st : Str
  gs : List Str
  wd : Str
  kp : Bool
  nx : Str
def wordsL : List Str := ["new", "old", "pass"]
structure RuleOk (zs : List Str) (first : Bool) (r : Rul) : Prop where
  st : r.st ∈ zs
  nx : r.nx ∈ zs
  gs : IsGroups first r.gs
  wd : r.wd ∈ wordsL
theorem IsGroups.ne {b : Bool} {gs : List Str} (h : IsGroups b gs) : gs ≠ [] := fun q => by
  have := h.pos
  rw [q] at this
  cases this
theorem IsGroups.any {b : Bool} {gs : List Str} (h : IsGroups b gs) : IsGroups false gs := ⟨h.pos, h.len, h.mem, fun q => nomatch q⟩
theorem RuleOk.any {zs : List Str} {b : Bool} {r : Rul} (h : RuleOk zs b r) : RuleOk zs false r := ⟨h.st, h.nx, h.gs.any, h.wd⟩
/-- the value is a tuple, new since H0, that tells the rule; its groups are a list, new too -/
def RuleAt (H0 H : Hp) (v : V) (r : Rul) : Prop := ∃ t g : Addr, v = .ref t ∧ H t = some (.tup [.str r.st, .ref g, .str r.wd, .bl r.kp, .str r.nx]) ∧ H g = some (.lst (r.gs.map V.str)) ∧ r.gs ≠ [] ∧ H0 t = none ∧ H0 g = none
theorem Src.strs {H : Hp} {p g : Addr} {n : Int} {l : List Str} (S : Src H p n) (h : H g = some (.lst (l.map V.str))) : g ≠ p := fun q => by
  obtain ⟨a, b, c, e, _⟩ := S
  rw [q, e] at h
  cases l with
  | nil => cases h
  | cons x r => cases h
theorem Src.tups {H : Hp} {p g : Addr} {n : Int} {l : List V} (S : Src H p n) (h : H g = some (.tup l)) : g ≠ p := fun q => by
  obtain ⟨a, b, c, e, _⟩ := S
  rw [q, e] at h
  cases h
theorem RuleAt.same {H0 H H' : Hp} {v : V} {r : Rul} (h : RuleAt H0 H v r) (e : Same H H') : RuleAt H0 H' v r := by
  obtain ⟨t, g, h1, h2, h3, h4⟩ := h
  exact ⟨t, g, h1, e _ _ h2, e _ _ h3, h4⟩
theorem RuleAt.src {H0 H H' : Hp} {p : Addr} {n : Int} {v : V} {r : Rul} (h : RuleAt H0 H v r) (S : Src H p n) (e : But p H H') : RuleAt H0 H' v r := by
  obtain ⟨t, g, h1, h2, h3, h4⟩ := h
  exact ⟨t, g, h1, e _ _ (S.tups h2) h2, e _ _ (S.strs h3) h3, h4⟩
/-- a list of no texts is changed -/
theorem RuleAt.lst {H0 H H' : Hp} {l : Addr} {xs : List V} {v : V} {r : Rul} (h : RuleAt H0 H v r) (hl : H l = some (.lst xs)) (hx : ∀ x ∈ xs, ∃ a, x = .ref a) (e : But l H H') : RuleAt H0 H' v r := by
  obtain ⟨t, g, h1, h2, h3, h4, h5⟩ := h
  refine ⟨t, g, h1, e _ _ (fun q => by rw [q, hl] at h2; cases h2) h2, e _ _ (fun q => ?_) h3, h4, h5⟩
  rw [q, hl] at h3
  have e3 : xs = r.gs.map V.str := by
    have z := Option.some.inj h3
    cases z
    rfl
  cases hg : r.gs with
  | nil => exact h4 hg
  | cons a b =>
    obtain ⟨c, hc⟩ := hx (.str a) (by rw [e3, hg]; exact List.mem_cons_self)
    cases hc
def RulesAt (H0 H : Hp) (xs : List V) (rs : List Rul) : Prop := Paired (RuleAt H0 H) xs rs
theorem paired_map {α β : Type} {R S : α → β → Prop} (f : ∀ a b, R a b → S a b) : ∀ {xs : List α} {ys : List β}, Paired R xs ys → Paired S xs ys
  | _, _, .nil => .nil
  | _, _, .cons h t => .cons (f _ _ h) (paired_map f t)
theorem paired_snoc {α β : Type} {R : α → β → Prop} {a : α} {b : β} (h : R a b) : ∀ {xs : List α} {ys : List β}, Paired R xs ys → Paired R (xs ++ [a]) (ys ++ [b])
  | _, _, .nil => .cons h .nil
  | _, _, .cons h' t => .cons h' (paired_snoc h t)
theorem rules_refs {H0 H : Hp} : ∀ {xs : List V} {rs : List Rul}, RulesAt H0 H xs rs → ∀ x ∈ xs, ∃ a, x = .ref a
  | _, _, .nil, _, h => nomatch h
  | _, _, .cons h t, x, hx => by
    rcases List.mem_cons.mp hx with q | q
    · obtain ⟨a, g, e, _⟩ := h
      exact ⟨a, q.trans e⟩
    · exact rules_refs t x q
/-- what _law_rules makes: the first rule is of the first state and has none; the states are names, each once -/
structure RulesOk (zs : List Str) (r0 : Rul) (rs : List Rul) : Prop where
  name : ∀ z ∈ zs, IsName z
  nd : zs.Nodup
  head : RuleOk zs true r0
  at0 : zs[0]? = some r0.st
  all : ∀ r ∈ rs, RuleOk zs false r
def spRules : Sp := fun vs H Q _ => ∃ (p : Addr) (m most : Nat) (n : Int), vs = [.ref p, .int m, .int most] ∧ Src H p n ∧ 1 ≤ m ∧ m ≤ 16 ∧ 1 ≤ most ∧ most ≤ 100 ∧ n < 100000 ∧
  ∀ (l : Addr) (xs : List V) (zs : List Str) (r0 : Rul) (rs : List Rul) (H' : Hp), RulesOk zs r0 rs → zs.length ≤ m → rs.length < most → RulesAt H H' xs (r0 :: rs) → H l = none → H' l = some (.lst xs) → But p H H' → Src H' p (n + 10000) → Q (.ref l) H'
theorem rules_same {H0 H H' : Hp} {xs : List V} {rs : List Rul} (h : RulesAt H0 H xs rs) (e : Same H H') : RulesAt H0 H' xs rs := paired_map (fun _ _ h => h.same e) h
theorem rules_src {H0 H H' : Hp} {p : Addr} {n : Int} {xs : List V} {rs : List Rul} (h : RulesAt H0 H xs rs) (S : Src H p n) (e : But p H H') : RulesAt H0 H' xs rs := paired_map (fun _ _ h => h.src S e) h
theorem rules_lst {H0 H H' : Hp} {l : Addr} {ys xs : List V} {rs : List Rul} (h : RulesAt H0 H xs rs) (hl : H l = some (.lst ys)) (hx : ∀ x ∈ ys, ∃ a, x = .ref a) (e : But l H H') : RulesAt H0 H' xs rs := paired_map (fun _ _ h => h.lst hl hx e) h
/-! ### _law_states -/
def addS (acc : List Str) (z : Str) : List Str := if z ∈ acc then acc else acc ++ [z]
def statesOf (rs : List Rul) : List Str := rs.foldl (fun acc r => addS (addS acc r.st) r.nx) []
theorem states_more {rs : List Rul} {i : Nat} {r : Rul} (h : rs[i]? = some r) : statesOf (rs.take (i + 1)) = addS (addS (statesOf (rs.take i)) r.st) r.nx := by
  unfold statesOf
  rw [take_more h, List.foldl_append]
  rfl
theorem addS_len (acc : List Str) (z : Str) : (addS acc z).length ≤ acc.length + 1 := by
  unfold addS
  split
  · omega
  · rw [List.length_append]
    exact Nat.le_refl _
theorem states_len : ∀ (rs : List Rul), (statesOf rs).length ≤ 2 * rs.length := by
  have key : ∀ (rs : List Rul) (acc : List Str), (rs.foldl (fun acc r => addS (addS acc r.st) r.nx) acc).length ≤ acc.length + 2 * rs.length := by
    intro rs
    induction rs with
    | nil => intro acc; exact Nat.le_refl _
    | cons r rs ih =>
      intro acc
      rw [List.foldl_cons, List.length_cons]
      have h1 := ih (addS (addS acc r.st) r.nx)
      have h2 := addS_len acc r.st
      have h3 := addS_len (addS acc r.st) r.nx
      omega
  intro rs
  have := key rs []
  rw [List.length_nil] at this
  unfold statesOf
  omega
theorem paired_at {α β : Type} {R : α → β → Prop} : ∀ {xs : List α} {ys : List β}, Paired R xs ys → ∀ {i : Nat} {x : α}, xs[i]? = some x → ∃ y, ys[i]? = some y ∧ R x y
  | _, _, .nil, i, x, h => nomatch h
  | _, _, .cons (b := b) h t, 0, x, hx => ⟨b, rfl, by rw [← Option.some.inj hx]; exact h⟩
  | _, _, .cons h t, i + 1, x, hx => paired_at t (i := i) hx
def spStates (K : PySem.W.Frag) : Sp := fun vs H Q _ => ∃ (l : Addr) (xs : List V) (rs : List Rul) (H0 : Hp), vs = [.ref l] ∧ SqL K H l xs ∧ RulesAt H0 H xs rs ∧ rs.length ≤ 1000 ∧
  ∀ (p : Addr) (H' : Hp), H p = none → Same H H' → H' p = some (.lst ((statesOf rs).map V.str)) → Q (.ref p) H'
/-! ### is_name -/
def nameB (z : Str) : Bool := decide (1 ≤ z.cps.size) && decide (z.cps.size ≤ 8) && z.cps.toList.all fun c => decide (c ∈ (Str.ofString "abcdefghijklmnopqrstuvwxyz").cps.toList)
theorem lettersC : (Str.ofString "abcdefghijklmnopqrstuvwxyz").cps.toList = (List.range 26).map (97 + ·) := by decide +kernel
theorem letter_small {c : Nat} : c ∈ (Str.ofString "abcdefghijklmnopqrstuvwxyz").cps.toList ↔ small c := by
  rw [lettersC, List.mem_map]
  constructor
  · rintro ⟨k, hk, rfl⟩
    have := List.mem_range.mp hk
    exact ⟨by omega, by omega⟩
  · intro h
    exact ⟨c - 97, List.mem_range.mpr (by have := h.2; have := h.1; omega), by have := h.1; omega⟩
theorem nameB_iff {z : Str} : nameB z = true ↔ IsName z := by
  unfold nameB
  rw [Bool.and_eq_true, Bool.and_eq_true, decide_eq_true_eq, decide_eq_true_eq, List.all_eq_true]
  constructor
  · rintro ⟨⟨h1, h2⟩, h3⟩
    exact ⟨h1, h2, fun c hc => letter_small.mp (of_decide_eq_true (h3 c hc))⟩
  · intro h
    exact ⟨⟨h.pos, h.len⟩, fun c hc => decide_eq_true (letter_small.mpr (h.low c hc))⟩
def spIsName (K : PySem.W.Frag) : Sp := fun vs H Q _ => ∃ v : V, vs = [v] ∧ ((∃ z : Str, v = .str z ∧ z.length ≤ sizeLine ∧ ∀ H', Same H H' → Q (.bl (nameB z)) H') ∨ (∃ t : String, TyX K H v (.type t) ∧ kitB t "str" = some false) ∧ Q (.bl false) H)
/-! ### loops: _is_rule, _checked_rules, _checked_answers, _used_rules, Loop -/
theorem sameT {K : PySem.W.Frag} {H H' : Hp} {a : Addr} {xs : List V} (e : Same H H') (h : SqT K H a xs) : SqT K H' a xs := by
  rcases h with (h | ⟨o, h⟩) | h
  · exact .inl (.inl (e _ _ h))
  · exact .inl (.inr ⟨o, e _ _ h⟩)
  · exact .inr h
def gSeqU (K : PySem.W.Frag) (n : Nat) (t : TGs) : TG := fun v σ H Q => gTup K n t v σ H Q ∨ gUnl K n t v σ H Q
theorem pg_seqU {X : Cx} {es : List Expr} {k : Nat} {pos : Pos} {t : TGs} {n : Nat} (hc : X.calm = true) (h : PGs X es t)
    (hn : (assignEach es X.env).length = n := by rfl) (hst : (assignEach es X.env).findIdx? (·.1) = none := by rfl) : PG X (.Tuple es k pos) (gSeqU X.K n t) :=
  ⟨fun pins s σ H v u Q I r hw => hw.elim (fun hw => (pg_tup hc h hn hst).run pins s σ H v u Q I r hw) (fun hw => (pg_unl hc h hn hst).run pins s σ H v u Q I r hw)⟩
theorem IsName.line {z : Str} (h : IsName z) : z.length ≤ sizeLine := Nat.le_trans h.len (by decide)
/-- a rule that has the form of one -/
structure RulV (r : Rul) : Prop where
  st : IsName r.st
  wd : IsName r.wd
  nx : IsName r.nx
  ne : r.gs ≠ []
  len : r.gs.length ≤ 1000
  gs : ∀ g ∈ r.gs, grpB g = true
theorem RulV.grp {r : Rul} (h : RulV r) : (!r.gs.isEmpty && r.gs.all grpB) = true := by
  rw [List.all_eq_true.mpr h.gs]
  cases e : r.gs with
  | nil => exact absurd e h.ne
  | cons a b => rfl
/-- a tuple or list that tells a rule, its groups a tuple or list -/
def RuleIn (H : Hp) (v : V) (r : Rul) : Prop := ∃ t g : Addr, v = .ref t ∧ LT H t [.str r.st, .ref g, .str r.wd, .bl r.kp, .str r.nx] ∧ LT H g (r.gs.map V.str)
theorem RuleIn.same {H H' : Hp} {v : V} {r : Rul} (h : RuleIn H v r) (e : Same H H') : RuleIn H' v r := by
  obtain ⟨t, g, h1, h2, h3⟩ := h
  exact ⟨t, g, h1, h2.same e, h3.same e⟩
theorem RuleAt.ruleIn {H0 H : Hp} {v : V} {r : Rul} (h : RuleAt H0 H v r) : RuleIn H v r := by
  obtain ⟨t, g, h1, h2, h3, _⟩ := h
  exact ⟨t, g, h1, .inr h2, .inl h3⟩
/-- a tuple that tells a rule, its groups a tuple -/
def RuleT (H : Hp) (v : V) (r : Rul) : Prop := ∃ t g : Addr, v = .ref t ∧ H t = some (.tup [.str r.st, .ref g, .str r.wd, .bl r.kp, .str r.nx]) ∧ H g = some (.tup (r.gs.map V.str))
theorem RuleT.same {H H' : Hp} {v : V} {r : Rul} (h : RuleT H v r) (e : Same H H') : RuleT H' v r := by
  obtain ⟨t, g, h1, h2, h3⟩ := h
  exact ⟨t, g, h1, e _ _ h2, e _ _ h3⟩
theorem RuleT.but {l : Addr} {H H' : Hp} {v : V} {r : Rul} (h : RuleT H v r) (hl : ∀ ys, H l ≠ some (.tup ys)) (e : But l H H') : RuleT H' v r := by
  obtain ⟨t, g, h1, h2, h3⟩ := h
  exact ⟨t, g, h1, e _ _ (fun q => hl _ (q ▸ h2)) h2, e _ _ (fun q => hl _ (q ▸ h3)) h3⟩
theorem RuleT.ruleIn {H : Hp} {v : V} {r : Rul} (h : RuleT H v r) : RuleIn H v r := by
  obtain ⟨t, g, h1, h2, h3⟩ := h
  exact ⟨t, g, h1, .inr h2, .inr h3⟩
def RulesIn (H : Hp) (xs : List V) (rs : List Rul) : Prop := Paired (RuleIn H) xs rs
def RulesT (H : Hp) (xs : List V) (rs : List Rul) : Prop := Paired (RuleT H) xs rs
def spIsRule : Sp := fun vs H Q _ => ∃ (v : V) (r : Rul), vs = [v] ∧ RuleIn H v r ∧ RulV r ∧ ∀ H', Same H H' → Q (.bl true) H'
structure RulsV (rs : List Rul) : Prop where
  all : ∀ r ∈ rs, RulV r
  pos : 1 ≤ rs.length
  len : rs.length ≤ 40
  sts : (statesOf rs).length ≤ 6
theorem addS_ge (acc : List Str) (z : Str) : acc.length ≤ (addS acc z).length := by
  unfold addS
  split
  · exact Nat.le_refl _
  · rw [List.length_append]
    exact Nat.le_add_right _ _
theorem states_fold_ge : ∀ (rs : List Rul) (acc : List Str), acc.length ≤ (rs.foldl (fun acc r => addS (addS acc r.st) r.nx) acc).length
  | [], _ => Nat.le_refl _
  | r :: rs, acc => by
    rw [List.foldl_cons]
    exact Nat.le_trans (Nat.le_trans (addS_ge acc r.st) (addS_ge _ r.nx)) (states_fold_ge rs _)
theorem states_mono (rs : List Rul) (i : Nat) : (statesOf (rs.take i)).length ≤ (statesOf rs).length := by
  have h := states_fold_ge (rs.drop i) (statesOf (rs.take i))
  have e : statesOf rs = (rs.drop i).foldl (fun acc r => addS (addS acc r.st) r.nx) (statesOf (rs.take i)) := by
    unfold statesOf
    rw [← List.foldl_append, List.take_append_drop]
  rw [e]
  exact h
/-- a dict of these keys, all True -/
def trues (l : List Str) : List (Key × V) := l.map fun z => (Sum.inr z, V.bl true)
theorem trues_put (l : List Str) (z : Str) : putK (trues l) (Sum.inr z : Key) (V.bl true) = trues (addS l z) := by
  have hany : ((trues l).any fun kv => decide (kv.1 = (Sum.inr z : Key))) = decide (z ∈ l) := by
    unfold trues
    rw [List.any_map, Bool.eq_iff_iff, List.any_eq_true, decide_eq_true_eq]
    constructor
    · rintro ⟨x, hx, h⟩
      have h : (Sum.inr x : Key) = Sum.inr z := of_decide_eq_true h
      cases h
      exact hx
    · intro h
      exact ⟨z, h, decide_eq_true rfl⟩
  unfold putK addS
  rw [hany]
  by_cases h : z ∈ l
  · rw [if_pos (decide_eq_true h), if_pos h]
    unfold trues
    rw [List.map_map]
    refine List.map_congr_left fun x hx => ?_
    show (if (Sum.inr x : Key) = Sum.inr z then ((Sum.inr x : Key), V.bl true) else (Sum.inr x, V.bl true)) = (Sum.inr x, V.bl true)
    split <;> rfl
  · rw [if_neg (by rw [decide_eq_false h]; exact Bool.false_ne_true), if_neg h]
    unfold trues
    rw [List.map_append]
    rfl
theorem trues_keys (l : List Str) : ((trues l).map fun kv => kV kv.1) = l.map V.str := by
  unfold trues
  rw [List.map_map]
  rfl
def spCheckedRules (K : PySem.W.Frag) : Sp := fun vs H Q _ => ∃ (b : Bool) (l : Addr) (xs : List V) (rs : List Rul), vs = [.ref l] ∧ SqB K b H l xs ∧ RulesIn H xs rs ∧ RulsV rs ∧
  ∀ (p c s : Addr) (ys : List V) (H' : Hp), Same H H' → H' p = some (.tup [.ref c, .ref s]) → H' c = some (.tup ys) → RulesT H' ys rs → H' s = some (.tup ((statesOf rs).map V.str)) → Q (.ref p) H'
theorem SqB.same {K : PySem.W.Frag} {b : Bool} {H H' : Hp} {a : Addr} {xs : List V} (h : SqB K b H a xs) (e : Same H H') : SqB K b H' a xs := by
  cases b with
  | true => exact e.seq h
  | false => exact sameT e h
/-- what the top has written: each def at its address, the built-ins not hidden -/
structure Txt (w : World) (K : PySem.W.Frag) (mg : Str → Option Value) where
  C_Loop : Addr
  m_Loop : mg "Loop" = some (.ref C_Loop)
  cl_Loop : Cls K C_Loop
  na_Loop_rules : NoAttr K C_Loop "_rules"
  na_Loop_states : NoAttr K C_Loop "_states"
  na_Loop_answers : NoAttr K C_Loop "_answers"
  na_Loop_used : NoAttr K C_Loop "_used"
  C_Run : Addr
  m_Run : mg "Run" = some (.ref C_Run)
  cl_Run : Cls K C_Run
  na_Run_words : NoAttr K C_Run "words"
  na_Run_keeps : NoAttr K C_Run "keeps"
  na_Run_kept : NoAttr K C_Run "kept"
  na_Run_last : NoAttr K C_Run "last"
  na_Run_state : NoAttr K C_Run "state"
  na_Run_answer : NoAttr K C_Run "answer"
  f_Loop__init : Addr
  d_Loop__init : FuncData
  F_Loop__init : FunD K "__init__" "Loop.__init__" (defArgs s_Loop__init) (defBody s_Loop__init) (defScope s_Loop__init) [.non] [] f_Loop__init d_Loop__init
  b_Loop__init : Binds K d_Loop__init ["self", "rules", "answers"] []
  bd1_Loop__init : ∃ ds, Vals [.non] ds ∧ Binds K d_Loop__init ["self", "rules", "answers"] ds
  mk_Loop : Mk K C_Loop f_Loop__init
  f_Loop_rules : Addr
  d_Loop_rules : FuncData
  F_Loop_rules : Fun K "rules" "Loop.rules" s_Loop_rules f_Loop_rules d_Loop_rules
  b_Loop_rules : Binds K d_Loop_rules ["self"] []
  p_Loop_rules : Addr
  pr_Loop_rules : PropOf K C_Loop "rules" p_Loop_rules f_Loop_rules
  f_Loop_start : Addr
  d_Loop_start : FuncData
  F_Loop_start : Fun K "start" "Loop.start" s_Loop_start f_Loop_start d_Loop_start
  b_Loop_start : Binds K d_Loop_start ["self"] []
  p_Loop_start : Addr
  pr_Loop_start : PropOf K C_Loop "start" p_Loop_start f_Loop_start
  f_Loop_answers : Addr
  d_Loop_answers : FuncData
  F_Loop_answers : Fun K "answers" "Loop.answers" s_Loop_answers f_Loop_answers d_Loop_answers
  b_Loop_answers : Binds K d_Loop_answers ["self"] []
  p_Loop_answers : Addr
  pr_Loop_answers : PropOf K C_Loop "answers" p_Loop_answers f_Loop_answers
  f_Loop_fitting : Addr
  d_Loop_fitting : FuncData
  F_Loop_fitting : Fun K "fitting" "Loop.fitting" s_Loop_fitting f_Loop_fitting d_Loop_fitting
  b_Loop_fitting : Binds K d_Loop_fitting ["self", "state", "place"] []
  mt_Loop_fitting : Meth K C_Loop "fitting" f_Loop_fitting
  f_Run__init : Addr
  d_Run__init : FuncData
  F_Run__init : Fun K "__init__" "Run.__init__" s_Run__init f_Run__init d_Run__init
  b_Run__init : Binds K d_Run__init ["self", "words", "keeps", "kept", "state", "answer"] []
  mk_Run : Mk K C_Run f_Run__init
  t_LETTERS : Tok
  m_LETTERS : mg "LETTERS" = some (.str "abcdefghijklmnopqrstuvwxyz" t_LETTERS)
  t_MOST_ITEMS : Tok
  m_MOST_ITEMS : mg "MOST_ITEMS" = some (.int 1000 t_MOST_ITEMS)
  t_MOST_RULES : Tok
  m_MOST_RULES : mg "MOST_RULES" = some (.int 40 t_MOST_RULES)
  t_MOST_STATES : Tok
  m_MOST_STATES : mg "MOST_STATES" = some (.int 6 t_MOST_STATES)
  f_is_name : Addr
  d_is_name : FuncData
  F_is_name : Fun K "is_name" "is_name" s_is_name f_is_name d_is_name
  b_is_name : Binds K d_is_name ["thing"] []
  m_is_name : mg "is_name" = some (.ref f_is_name)
  f_is_number : Addr
  d_is_number : FuncData
  F_is_number : Fun K "is_number" "is_number" s_is_number f_is_number d_is_number
  b_is_number : Binds K d_is_number ["thing"] []
  m_is_number : mg "is_number" = some (.ref f_is_number)
  f_is_tolerance : Addr
  d_is_tolerance : FuncData
  F_is_tolerance : Fun K "is_tolerance" "is_tolerance" s_is_tolerance f_is_tolerance d_is_tolerance
  b_is_tolerance : Binds K d_is_tolerance ["thing"] []
  m_is_tolerance : mg "is_tolerance" = some (.ref f_is_tolerance)
  f_check_number : Addr
  d_check_number : FuncData
  F_check_number : Fun K "check_number" "check_number" s_check_number f_check_number d_check_number
  b_check_number : Binds K d_check_number ["number"] []
  m_check_number : mg "check_number" = some (.ref f_check_number)
  f_check_tolerance : Addr
  d_check_tolerance : FuncData
  F_check_tolerance : Fun K "check_tolerance" "check_tolerance" s_check_tolerance f_check_tolerance d_check_tolerance
  b_check_tolerance : Binds K d_check_tolerance ["tolerance"] []
  m_check_tolerance : mg "check_tolerance" = some (.ref f_check_tolerance)
  f_check_row : Addr
  d_check_row : FuncData
  F_check_row : Fun K "check_row" "check_row" s_check_row f_check_row d_check_row
  b_check_row : Binds K d_check_row ["row"] []
  m_check_row : mg "check_row" = some (.ref f_check_row)
  f_is_place : Addr
  d_is_place : FuncData
  F_is_place : Fun K "is_place" "is_place" s_is_place f_is_place d_is_place
  b_is_place : Binds K d_is_place ["thing"] []
  m_is_place : mg "is_place" = some (.ref f_is_place)
  f_is_group : Addr
  d_is_group : FuncData
  F_is_group : Fun K "is_group" "is_group" s_is_group f_is_group d_is_group
  b_is_group : Binds K d_is_group ["thing"] []
  m_is_group : mg "is_group" = some (.ref f_is_group)
  f_are_groups : Addr
  d_are_groups : FuncData
  F_are_groups : Fun K "are_groups" "are_groups" s_are_groups f_are_groups d_are_groups
  b_are_groups : Binds K d_are_groups ["things"] []
  m_are_groups : mg "are_groups" = some (.ref f_are_groups)
  f_sign_of : Addr
  d_sign_of : FuncData
  F_sign_of : Fun K "sign_of" "sign_of" s_sign_of f_sign_of d_sign_of
  b_sign_of : Binds K d_sign_of ["rest", "other"] []
  m_sign_of : mg "sign_of" = some (.ref f_sign_of)
  f_place_at : Addr
  d_place_at : FuncData
  F_place_at : Fun K "place_at" "place_at" s_place_at f_place_at d_place_at
  b_place_at : Binds K d_place_at ["step", "sign"] []
  m_place_at : mg "place_at" = some (.ref f_place_at)
  f_place : Addr
  d_place : FuncData
  F_place : Fun K "place" "place" s_place f_place d_place
  b_place : Binds K d_place ["x", "kept", "tolerance"] []
  m_place : mg "place" = some (.ref f_place)
  f_group : Addr
  d_group : FuncData
  F_group : Fun K "group" "group" s_group f_group d_group
  b_group : Binds K d_group ["name"] []
  m_group : mg "group" = some (.ref f_group)
  f_is_rule : Addr
  d_is_rule : FuncData
  F_is_rule : Fun K "_is_rule" "_is_rule" s_is_rule f_is_rule d_is_rule
  b_is_rule : Binds K d_is_rule ["thing"] []
  m_is_rule : mg "_is_rule" = some (.ref f_is_rule)
  f_checked_rules : Addr
  d_checked_rules : FuncData
  F_checked_rules : Fun K "_checked_rules" "_checked_rules" s_checked_rules f_checked_rules d_checked_rules
  b_checked_rules : Binds K d_checked_rules ["rules"] []
  m_checked_rules : mg "_checked_rules" = some (.ref f_checked_rules)
  f_is_answer : Addr
  d_is_answer : FuncData
  F_is_answer : Fun K "_is_answer" "_is_answer" s_is_answer f_is_answer d_is_answer
  b_is_answer : Binds K d_is_answer ["thing"] []
  m_is_answer : mg "_is_answer" = some (.ref f_is_answer)
  f_checked_answers : Addr
  d_checked_answers : FuncData
  F_checked_answers : Fun K "_checked_answers" "_checked_answers" s_checked_answers f_checked_answers d_checked_answers
  b_checked_answers : Binds K d_checked_answers ["states", "answers"] []
  m_checked_answers : mg "_checked_answers" = some (.ref f_checked_answers)
  f_used_rules : Addr
  d_used_rules : FuncData
  F_used_rules : Fun K "_used_rules" "_used_rules" s_used_rules f_used_rules d_used_rules
  b_used_rules : Binds K d_used_rules ["rules"] []
  m_used_rules : mg "_used_rules" = some (.ref f_used_rules)
  f_step : Addr
  d_step : FuncData
  F_step : Fun K "step" "step" s_step f_step d_step
  b_step : Binds K d_step ["loop", "state", "place"] []
  m_step : mg "step" = some (.ref f_step)
  f_u_place : Addr
  d_u_place : FuncData
  F_u_place : Fun K "_place" "_place" s_u_place f_u_place d_u_place
  b_u_place : Binds K d_u_place ["number", "kept", "tolerance"] []
  m_u_place : mg "_place" = some (.ref f_u_place)
  f_run : Addr
  d_run : FuncData
  F_run : Fun K "run" "run" s_run f_run d_run
  b_run : Binds K d_run ["loop", "row", "tolerance"] []
  m_run : mg "run" = some (.ref f_run)
  f_cells_and_ranks : Addr
  d_cells_and_ranks : FuncData
  F_cells_and_ranks : Fun K "_cells_and_ranks" "_cells_and_ranks" s_cells_and_ranks f_cells_and_ranks d_cells_and_ranks
  b_cells_and_ranks : Binds K d_cells_and_ranks ["row", "tolerance"] []
  m_cells_and_ranks : mg "_cells_and_ranks" = some (.ref f_cells_and_ranks)
  f_ranked : Addr
  d_ranked : FuncData
  F_ranked : Fun K "ranked" "ranked" s_ranked f_ranked d_ranked
  b_ranked : Binds K d_ranked ["row", "tolerance"] []
  m_ranked : mg "ranked" = some (.ref f_ranked)
  f_law_source : Addr
  d_law_source : FuncData
  F_law_source : Fun K "_law_source" "_law_source" s_law_source f_law_source d_law_source
  b_law_source : Binds K d_law_source ["_law_script"] []
  m_law_source : mg "_law_source" = some (.ref f_law_source)
  f_law_draw : Addr
  d_law_draw : FuncData
  F_law_draw : Fun K "_law_draw" "_law_draw" s_law_draw f_law_draw d_law_draw
  b_law_draw : Binds K d_law_draw ["_law_source_here", "_law_many"] []
  m_law_draw : mg "_law_draw" = some (.ref f_law_draw)
  f_law_pick : Addr
  d_law_pick : FuncData
  F_law_pick : Fun K "_law_pick" "_law_pick" s_law_pick f_law_pick d_law_pick
  b_law_pick : Binds K d_law_pick ["_law_source_here", "_law_things"] []
  m_law_pick : mg "_law_pick" = some (.ref f_law_pick)
  f_law_name : Addr
  d_law_name : FuncData
  F_law_name : Fun K "_law_name" "_law_name" s_law_name f_law_name d_law_name
  b_law_name : Binds K d_law_name ["_law_source_here", "_law_taken"] []
  m_law_name : mg "_law_name" = some (.ref f_law_name)
  f_law_names : Addr
  d_law_names : FuncData
  F_law_names : Fun K "_law_names" "_law_names" s_law_names f_law_names d_law_names
  b_law_names : Binds K d_law_names ["_law_source_here", "_law_many"] []
  m_law_names : mg "_law_names" = some (.ref f_law_names)
  f_law_places : Addr
  d_law_places : FuncData
  F_law_places : Fun K "_law_places" "_law_places" s_law_places f_law_places d_law_places
  b_law_places : Binds K d_law_places [] []
  m_law_places : mg "_law_places" = some (.ref f_law_places)
  f_law_group_names : Addr
  d_law_group_names : FuncData
  F_law_group_names : Fun K "_law_group_names" "_law_group_names" s_law_group_names f_law_group_names d_law_group_names
  b_law_group_names : Binds K d_law_group_names [] []
  m_law_group_names : mg "_law_group_names" = some (.ref f_law_group_names)
  f_law_groups : Addr
  d_law_groups : FuncData
  F_law_groups : Fun K "_law_groups" "_law_groups" s_law_groups f_law_groups d_law_groups
  b_law_groups : Binds K d_law_groups ["_law_source_here", "_law_first"] []
  m_law_groups : mg "_law_groups" = some (.ref f_law_groups)
  f_law_rules : Addr
  d_law_rules : FuncData
  F_law_rules : Fun K "_law_rules" "_law_rules" s_law_rules f_law_rules d_law_rules
  b_law_rules : Binds K d_law_rules ["_law_source_here", "_law_many", "_law_most"] []
  m_law_rules : mg "_law_rules" = some (.ref f_law_rules)
  f_law_states : Addr
  d_law_states : FuncData
  F_law_states : Fun K "_law_states" "_law_states" s_law_states f_law_states d_law_states
  b_law_states : Binds K d_law_states ["_law_rules_here"] []
  m_law_states : mg "_law_states" = some (.ref f_law_states)
  f_law_answers : Addr
  d_law_answers : FuncData
  F_law_answers : Fun K "_law_answers" "_law_answers" s_law_answers f_law_answers d_law_answers
  b_law_answers : Binds K d_law_answers ["_law_source_here", "_law_rules_here"] []
  m_law_answers : mg "_law_answers" = some (.ref f_law_answers)
  f_law_tolerance : Addr
  d_law_tolerance : FuncData
  F_law_tolerance : Fun K "_law_tolerance" "_law_tolerance" s_law_tolerance f_law_tolerance d_law_tolerance
  b_law_tolerance : Binds K d_law_tolerance ["_law_source_here"] []
  m_law_tolerance : mg "_law_tolerance" = some (.ref f_law_tolerance)
  f_law_row : Addr
  d_law_row : FuncData
  F_law_row : Fun K "_law_row" "_law_row" s_law_row f_law_row d_law_row
  b_law_row : Binds K d_law_row ["_law_source_here", "_law_most", "_law_tolerance_here"] []
  m_law_row : mg "_law_row" = some (.ref f_law_row)
  f_law_unlike : Addr
  d_law_unlike : FuncData
  F_law_unlike : Fun K "_law_unlike" "_law_unlike" s_law_unlike f_law_unlike d_law_unlike
  b_law_unlike : Binds K d_law_unlike ["_law_numbers"] []
  m_law_unlike : mg "_law_unlike" = some (.ref f_law_unlike)
  f_law_wider : Addr
  d_law_wider : FuncData
  F_law_wider : Fun K "_law_wider" "_law_wider" s_law_wider f_law_wider d_law_wider
  b_law_wider : Binds K d_law_wider ["_law_source_here", "_law_row_here", "_law_tolerance_here"] []
  m_law_wider : mg "_law_wider" = some (.ref f_law_wider)
  f_law : Addr
  d_law : FuncData
  F_law : Fun K "law" "law" s_law f_law d_law
  b_law : Binds K d_law ["_law_script"] []
  m_law : mg "law" = some (.ref f_law)
  m_abs : mg "abs" = none
  m_all : mg "all" = none
  m_any : mg "any" = none
  m_bool : mg "bool" = none
  m_dict : mg "dict" = none
  m_divmod : mg "divmod" = none
  m_enumerate : mg "enumerate" = none
  m_int : mg "int" = none
  m_isinstance : mg "isinstance" = none
  m_len : mg "len" = none
  m_list : mg "list" = none
  m_max : mg "max" = none
  m_min : mg "min" = none
  m_range : mg "range" = none
  m_set : mg "set" = none
  m_sorted : mg "sorted" = none
  m_str : mg "str" = none
  m_tuple : mg "tuple" = none
  m_zip : mg "zip" = none
  a_GROUPS : Addr
  m_GROUPS : mg "GROUPS" = some (.ref a_GROUPS)
  e_GROUPS : Array DictEntry
  n_GROUPS : Nat
  kd_GROUPS : KDict K w a_GROUPS e_GROUPS n_GROUPS
  y_GROUPS : ∀ (j : Nat) (nm : Str) (ps : List Str), l_GROUPS[j]? = some (nm, ps) → ∃ u : Addr, PySem.W.nsIn K a_GROUPS nm = some (some (.ref u)) ∧ ∀ H : Hp, SqT K H u (ps.map V.str)
  z_GROUPS : ∀ z : Str, z ∉ l_GROUPS.map (·.1) → PySem.W.nsIn K a_GROUPS z = some none
  a_PLACES : Addr
  q_PLACES : ∀ H : Hp, SqT K H a_PLACES c_PLACES
  o_PLACES : ∃ o, K.lookup a_PLACES = some o ∧ o.cls = .type "tuple" ∧ o.dict = none
  m_PLACES : mg "PLACES" = some (.ref a_PLACES)

section
variable {P : Program} {w : World} {K : PySem.W.Frag} {mg : Str → Option Value} {base : Heap}
theorem ok_law_source (T : Txt w K mg) : FnOk P w K mg base CX0 1 T.f_law_source T.d_law_source ["_law_script"] (spSource K) := by
  refine T.F_law_source.ok sc_law_source (fun vs H Q E h => ?_) (fun cdv A outer s H vs Q E hr h => ?_)
  · obtain ⟨a, ns, rfl, _⟩ := h
    rfl
  · obtain ⟨a, ns, rfl, hS, k⟩ := h
    refine ⟨_, (pss_cons (ps_asg (pe_tup (pa_cons pe_int (pa_cons pe_int pa_nil))) (pg_tup (by rfl) (pgs_cons (pg_name (i := 1) sc_law_source.nd rfl (Or.inl rfl)) (pgs_cons (pg_name (i := 2) sc_law_source.nd rfl (Or.inl rfl)) pgs_nil))))
      (pss_cons (ps_for PassesOwn.never rfl (pi_list (pv 0)) (pg_name (i := 3) sc_law_source.nd rfl (Or.inl rfl))
      (pss_cons (ps_if (PW.pt (pw_and (pt_cmpR op_eq (pv 1) pe_int (nomark _)) (pw_and1 (pt_cmpR op_ge (pv 3) (pe_op op_pow pe_int pe_int) (nomark _)))))
      (pss_one (ps_set (i := 1) sc_law_source.nd rfl (Or.inl rfl) (pv 3)))
      pss_nil)
      (pss_one (ps_set (i := 2) sc_law_source.nd rfl (Or.inl rfl) (pe_op op_mod (pe_callTy call_int1 (by rfl) T.m_int (by decide +kernel) (pa_cons (pe_op op_add (pe_op op_add (pe_op op_mul (pv 2) pe_int) (pv 3)) pe_int) pa_nil)) pe_int)))))
      (pss_one (ps_ret (pe_lst (pa_cons (pv 1) (pa_cons (pv 2) (pa_cons pe_int pa_nil)))))))), ?_⟩
    refine ⟨by decide, fun p hp => ?_⟩
    have s1 : Same H (upd H p (.tup [.int 0, .int 17])) := Same.new hp
    refine ⟨_, _, rfl, SqT.of upd_same, rfl, ?_⟩
    walk_at "rd"
    refine ⟨⟨_, s1.seq hS⟩, for_list (K := K) (a := a) (xs := ns.map V.int) (fun i σ H' => ∃ (g s : Int) (v : Option V), σ = [some (.ref a), some (.int g), some (.int s), v] ∧ 0 ≤ s ∧ s < 2147483647 ∧ Same H H')
      ⟨0, 17, none, rfl, by decide, by decide, s1⟩ (fun i σ H' _ ⟨_, _, _, _, _, _, z⟩ => z.seq hS) ?_ ?_⟩
    · rintro i y σ H' hi ⟨g, s, v, rfl, s0, s2, z⟩
      obtain ⟨u, rfl⟩ : ∃ u, y = V.int u := by
        rw [List.getElem?_map] at hi
        cases e : ns[i]? with
        | none => rw [e] at hi; cases hi
        | some u => rw [e] at hi; exact ⟨u, (Option.some.inj hi).symm⟩
      have fin : ∀ g' : Int, ∃ (g'' s'' : Int) (v'' : Option V), ([some (V.ref a), some (V.int g'), some (V.int ((s * 31 + u + 7) % 2147483647)), some (V.int u)] : St) = [some (.ref a), some (.int g''), some (.int s''), v''] ∧ 0 ≤ s'' ∧ s'' < 2147483647 ∧ Same H H' :=
        fun g' => ⟨g', _, _, rfl, Int.emod_nonneg _ (by decide), Int.emod_lt_of_pos _ (by decide), z⟩
      walk_at "rd"
      refine ifd (fun cg => ?_) (fun cg => ?_)
      · walk_at "rd"
        refine ⟨⟨by decide, by decide, by decide⟩, ?_⟩
        walk_at "rd"
        refine ifd (fun ch => ?_) (fun ch => ?_)
        · walk_at "rd"
          refine ⟨Or.inr ⟨by decide, by decide⟩, ?_⟩
          walk_at "rd"
          refine Or.inl ?_
          walk_at "rd"
          refine ⟨(by decide : (0 : Int) < 2147483647), ?_⟩
          exact fin u
        · walk_at "rd"
          refine ⟨Or.inr ⟨by decide, by decide⟩, ?_⟩
          walk_at "rd"
          refine Or.inl ?_
          walk_at "rd"
          refine ⟨(by decide : (0 : Int) < 2147483647), ?_⟩
          exact fin g
      · walk_at "rd"
        refine ⟨Or.inr ⟨by decide, by decide⟩, ?_⟩
        walk_at "rd"
        refine Or.inl ?_
        walk_at "rd"
        refine ⟨(by decide : (0 : Int) < 2147483647), ?_⟩
        exact fin g
    · rintro σ H' ⟨g, s, v, rfl, s0, s2, z⟩
      walk_at "rd"
      refine ⟨by show 3 ≤ sizeLine; decide, fun p2 hp2 => ?_⟩
      exact k p2 _ (z.free hp2) (z.trans (Same.new hp2)) ⟨g, s, 0, upd_same, s0, s2, by decide, by decide⟩
theorem ok_law_draw (T : Txt w K mg) : FnOk P w K mg base CX0 1 T.f_law_draw T.d_law_draw ["_law_source_here", "_law_many"] spDraw := by
  refine T.F_law_draw.ok sc_law_draw (fun vs H Q E h => ?_) (fun cdv A outer s H vs Q E hr h => ?_)
  · obtain ⟨p, m, n, rfl, _⟩ := h
    rfl
  · obtain ⟨p, m, n, rfl, S, hn, m0, m1, k⟩ := h
    refine ⟨_, (pss_cons (ps_asg (pe_op op_add (pe_ix ix_list (pv 0) pe_int (fun _ _ => rfl)) pe_int) (pg_sub (pv 0) pe_int set_list))
      (pss_cons (ps_if (pt_cmpR op_gt (pe_ix ix_list (pv 0) pe_int (fun _ _ => rfl)) pe_int (nomark _))
      (pss_cons (ps_set (i := 2) sc_law_draw.nd rfl (Or.inl rfl) (pe_op op_mod (pe_callTy call_int1 (by rfl) T.m_int (by decide +kernel) (pa_cons (pe_ix ix_list (pv 0) pe_int (fun _ _ => rfl)) pa_nil)) (pv 1)))
      (pss_cons (ps_asg (pe_op op_fdivW (pe_ix ix_list (pv 0) pe_int (fun _ _ => rfl)) (pv 1)) (pg_sub (pv 0) pe_int set_list))
      (pss_one (ps_ret (pv 2)))))
      pss_nil)
      (pss_cons (ps_set (i := 3) sc_law_draw.nd rfl (Or.inl rfl) (pe_op op_mod (pe_op op_pow (pe_op op_add (pe_ix ix_list (pv 0) pe_int (fun _ _ => rfl)) (pe_op op_mul pe_int (pe_ix ix_list (pv 0) pe_int (fun _ _ => rfl)))) pe_int) pe_int))
      (pss_one (ps_ret (pe_op op_mod (pe_op op_mod (pe_op op_pow (pe_op op_add (pe_op op_add (pe_op op_mul (pv 3) pe_int) (pe_op op_mul (pe_op op_mul pe_int (pe_ix ix_list (pv 0) pe_int (fun _ _ => rfl))) (pe_ix ix_list (pv 0) pe_int (fun _ _ => rfl)))) pe_int) pe_int) pe_int) (pv 1))))))), ?_⟩
    obtain ⟨g, s, c, hp, s0, s1, c0, c1⟩ := S
    walk_at "rd"
    refine ⟨_, _, _, _, rfl, rfl, SqL.of hp, rfl, ?_⟩
    walk_at "rd"
    refine ⟨_, _, _, _, rfl, rfl, hp, rfl, ?_⟩
    walk_at "rd"
    refine ifd (fun cg => ?_) (fun cg => ?_)
    · walk_at "rd"
      refine Or.inl ?_
      walk_at "rd"
      refine ⟨m0, ?_⟩
      walk_at "rd"
      refine ⟨wide_div (b := 64) m0 (by omega) (by decide) (by decide), ?_⟩
      walk_at "rd"
      exact k _ _ (Int.emod_nonneg g (by omega)) (Int.emod_lt_of_pos g m0) (((But.refl p H).upd).upd) ⟨g / m, s, c + 1, upd_same, s0, s1, by omega, by omega⟩
    · walk_at "rd"
      refine ⟨Or.inl ⟨by decide, by decide⟩, ?_⟩
      walk_at "rd"
      refine ⟨⟨by decide, by decide, by omega⟩, ?_⟩
      walk_at "rd"
      refine ⟨(by decide : (0 : Int) < 2147483629), ?_⟩
      have x0 := Int.emod_nonneg ((s + 7919 * (c + 1)) ^ Int.toNat 5) (by decide : (2147483629 : Int) ≠ 0)
      have x1 := Int.emod_lt_of_pos ((s + 7919 * (c + 1)) ^ Int.toNat 5) (by decide : (0 : Int) < 2147483629)
      walk_at "rd"
      refine ⟨Or.inr ⟨by decide, by decide⟩, ?_⟩
      walk_at "rd"
      refine ⟨Or.inl ⟨by decide, by decide⟩, ?_⟩
      walk_at "rd"
      refine ⟨Or.inr ⟨by omega, by omega⟩, ?_⟩
      walk_at "rd"
      refine ⟨draw_pow x0 x1 (by omega) (by omega), ?_⟩
      walk_at "rd"
      refine ⟨(by decide : (0 : Int) < 1000000007), ?_⟩
      walk_at "rd"
      refine ⟨m0, ?_⟩
      exact k _ _ (Int.emod_nonneg _ (by omega)) (Int.emod_lt_of_pos _ m0) ((But.refl p H).upd) ⟨g, s, c + 1, upd_same, s0, s1, by omega, by omega⟩
theorem ok_law_pick (T : Txt w K mg) : FnOk P w K mg base CX0 2 T.f_law_pick T.d_law_pick ["_law_source_here", "_law_things"] (spPick K) := by
  refine T.F_law_pick.ok sc_law_pick (fun vs H Q E h => ?_) (fun cdv A outer s H vs Q E hr h => ?_)
  · obtain ⟨p, l, xs, n, rfl, _⟩ := h
    rfl
  · obtain ⟨p, l, xs, n, rfl, S, hn, hne, hS, h0, h1, k⟩ := h
    refine ⟨_, (pss_one (ps_ret (pe_ix ix_list (pv 1) (pe_call (ok_law_draw T) (hr.mono (by decide)) (by rfl) T.m_law_draw T.F_law_draw.kp T.b_law_draw .nil pass0 (pa_cons (pv 0) (pa_cons (pe_callB call_len_seq (by rfl) T.m_len (by decide +kernel) (pa_cons (pv 1) pa_nil)) pa_nil))) (fun _ _ => rfl)))), ?_⟩
    walk_at "rd"
    refine ⟨_, _, rfl, .inl hS, ?_⟩
    refine ⟨_, _, _, rfl, S, hn, by omega, by omega, fun d H' a b u S' => ?_⟩
    obtain ⟨j, rfl⟩ : ∃ j : Nat, d = j := ⟨d.toNat, by omega⟩
    have hj : xs[j]? = some (xs[j]'(by omega)) := List.getElem?_eq_getElem _
    exact ⟨_, _, _, _, rfl, rfl, sql_but hS u hne, at_of (by omega) hj, k j _ _ hj u S'⟩
def sizesL : List Int := [8, 4, 5, 6, 7, 1, 2, 3, 1, 2, 3, 1, 2]
theorem sizes_ok : ∀ j : _root_.Fin 13, 1 ≤ sizesL.getD j.val 0 ∧ sizesL.getD j.val 0 ≤ 8 := by decide +kernel
theorem letter_ok : ∀ j : _root_.Fin 26, (Str.ofString "abcdefghijklmnopqrstuvwxyz").cps.toList[j.val]? = some (97 + j.val) := by decide +kernel
theorem zletter_ok : ∀ j : _root_.Fin 17, (Str.ofString "abcdefghijklmnopq").cps[j.val]? = some (97 + j.val) := by decide +kernel
theorem zletter_size : (Str.ofString "abcdefghijklmnopq").cps.size = 17 := by decide +kernel
theorem five_ok : ∀ z ∈ ([Str.ofString "keep", "pass", "none", "near", "answer"] : List Str), (decide (1 ≤ z.cps.size) && decide (z.cps.size ≤ 8) && z.cps.toList.all fun c => decide (97 ≤ c) && decide (c ≤ 122)) = true := by decide +kernel
theorem five_name {z : Str} (h : z ∈ ([Str.ofString "keep", "pass", "none", "near", "answer"] : List Str)) : IsName z := by
  have q := five_ok z h
  rw [Bool.and_eq_true, Bool.and_eq_true, List.all_eq_true] at q
  obtain ⟨⟨q1, q2⟩, q3⟩ := q
  refine ⟨of_decide_eq_true q1, of_decide_eq_true q2, fun c hc => ?_⟩
  have q := q3 c hc
  rw [Bool.and_eq_true] at q
  exact ⟨of_decide_eq_true q.1, of_decide_eq_true q.2⟩
theorem ok_law_name (T : Txt w K mg) : FnOk P w K mg base CX0 2 T.f_law_name T.d_law_name ["_law_source_here", "_law_taken"] (spName K) := by
  refine T.F_law_name.ok sc_law_name (fun vs H Q E h => ?_) (fun cdv A outer s H vs Q E hr h => ?_)
  · obtain ⟨p, l, xs, n, rfl, _⟩ := h
    rfl
  · obtain ⟨p, l, tk, n, rfl, S, hn, hne, hS, hc, k⟩ := h
    refine ⟨_, (pss_cons (ps_set (i := 2) sc_law_name.nd rfl (Or.inl rfl) (pe_ix ix_list (pe_lst (pa_cons pe_int (pa_cons pe_int (pa_cons pe_int (pa_cons pe_int (pa_cons pe_int (pa_cons pe_int (pa_cons pe_int (pa_cons pe_int (pa_cons pe_int (pa_cons pe_int (pa_cons pe_int (pa_cons pe_int (pa_cons pe_int pa_nil)))))))))))))) (pe_call (ok_law_draw T) (hr.mono (by decide)) (by rfl) T.m_law_draw T.F_law_draw.kp T.b_law_draw .nil pass0 (pa_cons (pv 0) (pa_cons pe_int pa_nil))) (fun _ _ => rfl)))
      (pss_cons (ps_set (i := 3) sc_law_name.nd rfl (Or.inl rfl) (pe_join pe_str (pe_lc (own := [("_law_k", 4)]) (by rfl) sc_law_name.nd (pi_range1 (by rfl) T.m_range (pa_cons (pv 2) pa_nil)) (blkOk_by (own := [("_law_k", 4)]) (N := ["_law_source_here", "_law_taken", "_law_size", "_law_name_here", "_law_k", "_law_one", "_law_letter"]) (sc := defScope s_law_name) (by decide +kernel)) (fun _ _ _ _ _ => (pg_name (i := 4) sc_law_name.nd rfl (Or.inl rfl))) (fun _ _ _ _ _ => pts_nil) (fun _ _ _ _ _ => (pe_ix ix_str pe_str (pe_call (ok_law_draw T) (hr.mono (by decide)) (by rfl) T.m_law_draw T.F_law_draw.kp T.b_law_draw .nil pass0 (pa_cons (pv 0) (pa_cons pe_int pa_nil))) (fun _ _ => rfl))))))
      (C8.pss_cut (ps_if (pt_chain op_lt op_lt pe_int (pv 2) pe_int)
      (pss_one (ps_set (i := 3) sc_law_name.nd rfl (Or.inl rfl) (pe_ix ix_list (pe_lst (pa_cons pe_str (pa_cons pe_str (pa_cons pe_str (pa_cons pe_str (pa_cons pe_str (pa_cons (pe_op op_add_str pe_str (pe_slice sl_str (pv 3) (po_some pe_int) po_none)) pa_nil))))))) (pe_call (ok_law_draw T) (hr.mono (by decide)) (by rfl) T.m_law_draw T.F_law_draw.kp T.b_law_draw .nil pass0 (pa_cons (pv 0) (pa_cons pe_int pa_nil))) (fun _ _ => rfl))))
      pss_nil)
      (pss_cons (ps_if (pt_cmpR op_notIn_seq (pv 3) (pv 1) (by rfl))
      (pss_one (ps_ret (pv 3)))
      pss_nil)
      (pss_one (ps_ret (pe_ix ix_list (pe_lc (own := [("_law_one", 5)]) (by rfl) sc_law_name.nd (pi_list (pe_lc (own := [("_law_letter", 6)]) (by rfl) sc_law_name.nd (pi_str pe_str) (blkOk_by (own := [("_law_letter", 6)]) (N := ["_law_source_here", "_law_taken", "_law_size", "_law_name_here", "_law_k", "_law_one", "_law_letter"]) (sc := defScope s_law_name) (by decide +kernel)) (fun _ _ _ _ _ => (pg_name (i := 6) sc_law_name.nd rfl (Or.inl rfl))) (fun _ _ _ _ _ => pts_nil) (fun _ _ _ _ _ => (pe_op op_add_str pe_str (pv 6))))) (blkOk_by (own := [("_law_one", 5)]) (N := ["_law_source_here", "_law_taken", "_law_size", "_law_name_here", "_law_k", "_law_one", "_law_letter"]) (sc := defScope s_law_name) (by decide +kernel)) (fun _ _ _ _ _ => (pg_name (i := 5) sc_law_name.nd rfl (Or.inl rfl))) (fun _ _ _ _ _ => (pts_one (pt_cmpR (show OpR _ _ (rIn K true) from op_notIn_seq) (pv 5) (pv 1) (by rfl)))) (fun _ _ _ _ _ => (pv 5))) pe_int (fun _ _ => rfl)))))))), ?_⟩
    refine ⟨by show 13 ≤ sizeLine; decide, fun l0 hl0 => ?_⟩
    generalize hH : upd _ l0 _ = H1
    obtain ⟨s1, d1⟩ := new_of (o' := .lst (sizesL.map V.int)) hH hl0 rfl
    clear hH
    have pl : l0 ≠ p := S.ne hl0
    walk_at "rd"
    refine ⟨_, _, _, rfl, S.same s1, by omega, by omega, by omega, fun d H2 a b u2 S2 => ?_⟩
    obtain ⟨j, rfl⟩ : ∃ j : Nat, d = j := ⟨d.toNat, by omega⟩
    have hj : (sizesL.map V.int)[j]? = some (V.int (sizesL.getD j 0)) := by
      rw [List.getElem?_map, List.getElem?_eq_getElem (show j < sizesL.length by show j < 13; omega)]
      rw [List.getD_eq_getElem?_getD, List.getElem?_eq_getElem (show j < sizesL.length by show j < 13; omega)]
      rfl
    have sz := sizes_ok ⟨j, by omega⟩
    have sz1 : 1 ≤ sizesL.getD j 0 := sz.1
    have sz8 : sizesL.getD j 0 ≤ 8 := sz.2
    generalize sizesL.getD j 0 = sz at hj sz1 sz8
    refine ⟨_, _, _, _, rfl, rfl, SqL.of (u2 _ _ pl d1), at_of rfl hj, ?_⟩
    walk_at "rd"
    refine ⟨⟨_, rfl⟩, ?_⟩
    walk_at "rd"
    refine ⟨by omega, by omega, fun D hD => ?_⟩
    have pD : D ≠ p := S2.ne hD
    have u02 : But p H H2 := (Same.but s1).trans u2
    have hD0 : H D = none := but_free u02 pD hD
    refine lc_range (lo := 0) (n := sz.toNat) (fun i H' => ∃ cs : List Nat, cs.length = i ∧ (∀ c ∈ cs, small c) ∧ But p H H' ∧ H' D = some (.lst ((cs.map one).map V.str)) ∧ Src H' p (n + 1 + (i : Int)))
      ⟨[], rfl, (fun c hc => nomatch hc), but_new u02 hD0, upd_same, (S2.same (Same.new hD)).le (by omega)⟩ ?_ ?_
    · rintro i H' hi ⟨cs, rfl, hl, u', hD', S'⟩
      refine ⟨rfl, ?_⟩
      walk_at "rd"
      refine ⟨_, _, _, rfl, S', by omega, by omega, by omega, fun d' H4 a' b' u4 S4 => ?_⟩
      obtain ⟨j', rfl⟩ : ∃ j : Nat, d' = j := ⟨d'.toNat, by omega⟩
      have hl' := letter_ok ⟨j', by omega⟩
      refine ⟨_, _, _, rfl, rfl, by decide +kernel, at_any hl', ?_⟩
      refine ⟨_, u4 _ _ pD hD', ?_, ⟨cs ++ [97 + j'], by simp, ?_, ?_, ?_, ?_⟩⟩
      · rw [List.length_map, List.length_map]
        exact Nat.lt_of_lt_of_le (by omega : cs.length < 8) (by decide)
      · intro c hc
        rcases List.mem_append.mp hc with q | q
        · exact hl c q
        · have : c = 97 + j' := by simpa using q
          subst this
          exact ⟨by omega, by omega⟩
      · exact but_new (u'.trans u4) hD0
      · rw [upd_same, List.map_append, List.map_append]
        rfl
      · refine (S4.but (q := D) ?_ pD.symm).le ?_
        · exact (But.refl D _).upd
        · show _ ≤ n + 1 + ((cs.length + 1 : Nat) : Int)
          omega
    rintro H3 ⟨cs, hlen, hl, u3, hD3, S3⟩
    refine ⟨_, _, cs.map one, rfl, rfl, .inl (SqL.of hD3), ?_, ?_⟩
    · have e : ((cs.map one).map (·.length)).sum = cs.length := by
        clear hl hlen hD3
        induction cs with
        | nil => rfl
        | cons c r ih =>
          rw [List.map_cons, List.map_cons, List.sum_cons, ih, List.length_cons]
          show 1 + r.length = _
          omega
      rw [e]
      show cs.length + (cs.map one).length * 0 ≤ _
      omega
    rw [join_ones]
    have nm := name_of (cs := cs) (by omega) (by omega) hl
    generalize (⟨cs.toArray⟩ : Str) = z at nm
    have S3' := S3.le (show _ ≤ n + 9 by omega)
    clear S3 hD3 hl hlen
    walk_at "rd"
    have v456 : ∃ v4 v5 v6 : Option V, ([some (.ref p), some (.ref l), some (.int sz), some (.str z), none, none, none] : St) = [some (.ref p), some (.ref l), some (.int sz), some (.str z), v4, v5, v6] := ⟨_, _, _, rfl⟩
    refine ⟨fun σ H' => ∃ (y : Str) (v4 v5 v6 : Option V), σ = [some (.ref p), some (.ref l), some (.int sz), some (.str y), v4, v5, v6] ∧ IsName y ∧ But p H H' ∧ Src H' p (n + 10), ?_, ?_⟩
    · have stay : ∃ (y : Str) (v4 v5 v6 : Option V), ([some (.ref p), some (.ref l), some (.int sz), some (.str z), none, none, none] : St) = [some (.ref p), some (.ref l), some (.int sz), some (.str y), v4, v5, v6] ∧ IsName y ∧ But p H H3 ∧ Src H3 p (n + 10) :=
        ⟨z, none, none, none, rfl, nm, u3, S3'.le (by omega)⟩
      walk_at "rd"
      refine ifd (fun _ => ?_) (fun _ => ?_)
      · walk_at "rd"
        refine ifd (fun _ => ?_) (fun _ => ?_)
        · walk_at "rd"
          refine ⟨Nat.le_trans nm.len (by decide), _, _, rfl, rfl, ?_, ?_⟩
          · have q := cutS_length z (some 1) none
            have q8 : z.length ≤ 8 := nm.len
            show 1 + _ ≤ _
            exact Nat.le_trans (by omega : 1 + (cutS z (some 1) none).length ≤ 9) (by decide)
          have nq := name_q nm
          generalize (Str.ofString "q" ++ cutS z (some 1) none) = zq at nq
          refine ⟨by show 6 ≤ sizeLine; decide, fun l1 hl1 => ?_⟩
          generalize hH : upd _ l1 _ = H4
          obtain ⟨s4, d4⟩ := new_of (o' := .lst (([Str.ofString "keep", "pass", "none", "near", "answer", zq] : List Str).map V.str)) hH hl1 rfl
          clear hH
          have p1 : l1 ≠ p := S3'.ne hl1
          walk_at "rd"
          refine ⟨_, _, _, rfl, S3'.same s4, by omega, by omega, by omega, fun d' H5 a' b' u5 S5 => ?_⟩
          obtain ⟨j', rfl⟩ : ∃ j : Nat, d' = j := ⟨d'.toNat, by omega⟩
          have hj' : j' < ([Str.ofString "keep", "pass", "none", "near", "answer", zq] : List Str).length := by show j' < 6; omega
          have hy := List.getElem?_eq_getElem hj'
          have ny : IsName ([Str.ofString "keep", "pass", "none", "near", "answer", zq] : List Str)[j'] := by
            have q : ([Str.ofString "keep", "pass", "none", "near", "answer", zq] : List Str)[j'] ∈ ([Str.ofString "keep", "pass", "none", "near", "answer"] : List Str) ++ [zq] := List.getElem_mem hj'
            rcases List.mem_append.mp q with q | q
            · exact five_name q
            · rw [List.mem_singleton.mp q]
              exact nq
          generalize ([Str.ofString "keep", "pass", "none", "near", "answer", zq] : List Str)[j'] = y at hy ny
          refine ⟨_, _, _, _, rfl, rfl, SqL.of (u5 _ _ p1 d4), at_any (by rw [List.getElem?_map, hy]; rfl), ?_⟩
          exact ⟨y, none, none, none, rfl, ny, (u3.trans (Same.but s4)).trans u5, S5.le (by omega)⟩
        · exact stay
      · walk_at "rd"
        exact stay
    rintro σ H5 ⟨y, v4, v5, v6, rfl, nm', u5, S5⟩
    walk_at "rd"
    refine ⟨_, _, rfl, .inl (sql_but hS u5 hne), rfl, flat_strs tk, ?_⟩
    refine ⟨!decide (y ∈ tk), congrArg (fun b => V.bl (!b)) (inV_strs y tk), ?_⟩
    by_cases hin : y ∈ tk
    · rw [decide_eq_true hin]
      refine iteF ?_
      clear u2 S2 d1 s1 hD pD hD0 u02 S3' u3 nm v456
      walk_at "rd"
      refine fun D1 hD1 => ?_
      refine lc_it (walk_str (z := Str.ofString "abcdefghijklmnopq")) (fun i H' => Same H5 H' ∧ H' D1 = some (.lst ((zNames i).map V.str))) ⟨Same.new hD1, upd_same⟩ (fun _ _ _ _ => trivial) ?_ ?_
      · rintro i x H6 H7 hi ⟨s6, d6⟩ ⟨rfl, c, hc', rfl⟩
        rw [zletter_size] at hi
        have q := zletter_ok ⟨i, hi⟩
        have q' : c = 97 + i := Option.some.inj (hc'.symm.trans q)
        subst q'
        refine ⟨rfl, ?_⟩
        walk_at "rd"
        refine ⟨by show 1 + 1 ≤ sizeLine; decide, ?_⟩
        refine ⟨_, d6, ?_, ?_, ?_⟩
        · rw [List.length_map, zNames, List.length_map, List.length_range]
          exact Nat.lt_of_lt_of_le hi (by decide)
        · exact fun b o e => by
            rw [upd_ne (fun q => by rw [q, hD1] at e; cases e)]
            exact s6 b o e
        · rw [upd_same, zNames_more, List.map_append]
          rfl
      rintro H6 ⟨s6, d6⟩
      rw [zletter_size] at d6
      refine ⟨D1, rfl, ⟨_, SqL.of d6⟩, fun D2 hD2 => ?_⟩
      have hS6 : SqL K H6 l (tk.map V.str) := s6.seq (sql_but hS u5 hne)
      refine lc_list (K := K) (a := D1) (xs := (zNames 17).map V.str) (fun i H' => Same H6 H' ∧ H' D2 = some (.lst ((((zNames 17).take i).filter fun z => !decide (z ∈ tk)).map V.str))) ⟨Same.new hD2, upd_same⟩ (fun i H' _ h => h.1.seq (SqL.of d6)) ?_ ?_
      · rintro i x H7 hx ⟨s7, d7⟩
        obtain ⟨z', rfl, hz⟩ := str_at hx
        have hi : i < 17 := by
          have := (List.getElem?_eq_some_iff.mp hz).1
          simpa [zNames] using this
        refine ⟨rfl, ?_⟩
        walk_at "rd"
        refine ⟨_, _, rfl, s7.seq hS6 |> .inl, rfl, flat_strs tk, ?_⟩
        refine ⟨!decide (z' ∈ tk), congrArg (fun b => V.bl (!b)) (inV_strs z' tk), ?_⟩
        rw [take_more hz, List.filter_append]
        by_cases hin' : z' ∈ tk
        · rw [decide_eq_true hin']
          refine iteF ⟨s7, ?_⟩
          rw [List.filter_cons, decide_eq_true hin', if_neg (by decide), List.filter_nil, List.append_nil]
          exact d7
        · rw [decide_eq_false hin']
          refine iteT ?_
          walk_at "rd"
          refine ⟨_, d7, ?_, ?_, ?_⟩
          · rw [List.length_map]
            refine Nat.lt_of_le_of_lt (List.length_filter_le _ _) ?_
            rw [List.length_take]
            exact Nat.lt_of_le_of_lt (Nat.min_le_left _ _) (Nat.lt_of_lt_of_le hi (by decide))
          · exact fun b o e => by
              rw [upd_ne (fun q => by rw [q, hD2] at e; cases e)]
              exact s7 b o e
          · rw [upd_same, List.filter_cons, decide_eq_false hin', if_pos (by decide), List.filter_nil, List.map_append]
            rfl
      rintro H7 ⟨s7, d7⟩
      rw [List.length_map, List.take_length] at d7
      obtain ⟨c, c1, c2, c3⟩ := hc
      have hne' : zName c ∈ (zNames 17).filter fun z => !decide (z ∈ tk) := List.mem_filter.mpr ⟨zNames_has c1 c2, by rw [decide_eq_false c3]; rfl⟩
      generalize hF : ((zNames 17).filter fun z => !decide (z ∈ tk)) = F at d7 hne'
      cases F with
      | nil => cases hne'
      | cons z0 r =>
        have hz0 : z0 ∈ (zNames 17).filter fun z => !decide (z ∈ tk) := by rw [hF]; exact List.mem_cons_self
        obtain ⟨h1, h2⟩ := List.mem_filter.mp hz0
        have h3 : z0 ∉ tk := fun q => by rw [decide_eq_true q] at h2; cases h2
        walk_at "rd"
        refine ⟨_, _, _, _, rfl, rfl, SqL.of d7, at_any (j := 0) rfl, ?_⟩
        exact k z0 H7 (zNames_is h1) h3 ((u5.trans (Same.but s6)).trans (Same.but s7)) ((S5.same s6).same s7)
    · rw [decide_eq_false hin]
      refine iteT ?_
      walk_at "rd"
      exact k y H5 nm' hin u5 S5
theorem ok_law_names (T : Txt w K mg) : FnOk P w K mg base CX0 3 T.f_law_names T.d_law_names ["_law_source_here", "_law_many"] spNames := by
  refine T.F_law_names.ok sc_law_names (fun vs H Q E h => ?_) (fun cdv A outer s H vs Q E hr h => ?_)
  · obtain ⟨p, m, n, rfl, _⟩ := h
    rfl
  · obtain ⟨p, m, n, rfl, S, hm, hn, k⟩ := h
    refine ⟨_, (pss_cons (ps_set (i := 2) sc_law_names.nd rfl (Or.inl rfl) (pe_lst pa_nil))
      (pss_cons (ps_for PassesOwn.never rfl (pi_range1 (by rfl) T.m_range (pa_cons (pv 1) pa_nil)) (pg_name (i := 3) sc_law_names.nd rfl (Or.inl rfl))
      (pss_one (ps_expr (pe_bm PySem.F.plainAttrs_list PySem.F.slot_list_append PySem.F.type_list_append mt_append (pv 2) (pa_cons (pe_call (ok_law_name T) (hr.mono (by decide)) (by rfl) T.m_law_name T.F_law_name.kp T.b_law_name .nil pass0 (pa_cons (pv 0) (pa_cons (pv 2) pa_nil))) pa_nil)))))
      (pss_one (ps_ret (pv 2))))), ?_⟩
    refine ⟨by show 0 ≤ sizeLine; decide, fun l hl => ?_⟩
    have lp := S.ne hl
    generalize hH : upd _ l _ = H1
    obtain ⟨s1, d1⟩ := new_of (o' := .lst (([] : List Str).map V.str)) hH hl rfl
    clear hH
    walk_at "rd"
    refine ⟨by omega, by omega, ?_⟩
    refine for_range (lo := 0) (n := m) (fun i σ H' => ∃ (zs : List Str) (v : Option V), σ = [some (.ref p), some (.int m), some (.ref l), v] ∧ zs.length = i ∧ (∀ z ∈ zs, IsName z) ∧ zs.Nodup ∧ H' l = some (.lst (zs.map V.str)) ∧ But p H H' ∧ Src H' p (n + 10 * (i : Int)))
      ⟨[], none, rfl, rfl, (fun z hz => nomatch hz), List.nodup_nil, d1, Same.but s1, (S.same s1).le (by omega)⟩ ?_ ?_
    · rintro i σ H2 hi ⟨zs, v, rfl, rfl, nz, nd, dl, u2, S2⟩
      walk_at "rd"
      refine ⟨.inl ⟨rfl, _, SqL.of dl⟩, ?_⟩
      walk_at "rd"
      refine ⟨p, l, zs, _, rfl, S2, by omega, lp, SqL.of dl, z_left (by omega), fun z H3 nz' hz u3 S3 => ?_⟩
      refine ⟨_, _, _, rfl, rfl, u3 _ _ lp dl, ?_, ?_⟩
      · rw [List.length_map]
        exact Nat.lt_of_lt_of_le (by omega : zs.length < 17) (by decide)
      refine ⟨zs ++ [z], _, rfl, by simp, ?_, nd_snoc nd hz, ?_, but_new (u2.trans u3) hl, ?_⟩
      · intro y hy
        rcases List.mem_append.mp hy with q | q
        · exact nz y q
        · rw [List.mem_singleton.mp q]
          exact nz'
      · rw [upd_same, List.map_append]
        rfl
      · exact (S3.but (q := l) ((But.refl l H3).upd) lp.symm).le (by omega)
    · rintro σ H2 ⟨zs, v, rfl, e, nz, nd, dl, u2, S2⟩
      walk_at "rd"
      exact k l zs H2 e nz nd hl dl u2 S2
theorem ok_law_places (T : Txt w K mg) : FnOk P w K mg base CX0 1 T.f_law_places T.d_law_places [] spPlaces := by
  refine T.F_law_places.ok sc_law_places (fun vs H Q E h => ?_) (fun cdv A outer s H vs Q E hr h => ?_)
  · obtain ⟨rfl, _⟩ := h
    rfl
  · obtain ⟨rfl, k⟩ := h
    refine ⟨_, (pss_one (ps_ret (pe_lst (pa_cons pe_str (pa_cons pe_str (pa_cons pe_str (pa_cons pe_str (pa_cons pe_str (pa_cons pe_str (pa_cons pe_str (pa_cons pe_str (pa_cons pe_str (pa_cons pe_str (pa_cons pe_str pa_nil)))))))))))))), ?_⟩
    exact ⟨by show 11 ≤ sizeLine; decide, k⟩
theorem ok_law_group_names (T : Txt w K mg) : FnOk P w K mg base CX0 1 T.f_law_group_names T.d_law_group_names [] spGroupNames := by
  refine T.F_law_group_names.ok sc_law_group_names (fun vs H Q E h => ?_) (fun cdv A outer s H vs Q E hr h => ?_)
  · obtain ⟨rfl, _⟩ := h
    rfl
  · obtain ⟨rfl, k⟩ := h
    refine ⟨_, (pss_one (ps_ret (pe_lst (pa_cons pe_str (pa_cons pe_str (pa_cons pe_str (pa_cons pe_str (pa_cons pe_str (pa_cons pe_str (pa_cons pe_str (pa_cons pe_str (pa_cons pe_str pa_nil)))))))))))), ?_⟩
    exact ⟨by show 9 ≤ sizeLine; decide, k⟩
theorem ok_law_groups (T : Txt w K mg) : FnOk P w K mg base CX0 3 T.f_law_groups T.d_law_groups ["_law_source_here", "_law_first"] (spGroups K) := by
  refine T.F_law_groups.ok sc_law_groups (fun vs H Q E h => ?_) (fun cdv A outer s H vs Q E hr h => ?_)
  · obtain ⟨p, m, n, rfl, _⟩ := h
    rfl
  · obtain ⟨p, first, n, rfl, S, hn, k⟩ := h
    refine ⟨_, (pss_cons (ps_set (i := 2) sc_law_groups.nd rfl (Or.inr rfl) (pe_op op_cat (pe_slice sl_list (pe_call0 (ok_law_group_names T) (hr.mono (by decide)) (by rfl) T.m_law_group_names T.F_law_group_names.kp T.b_law_group_names .nil pass0) po_none (po_some pe_int)) (pe_call0 (ok_law_places T) (hr.mono (by decide)) (by rfl) T.m_law_places T.F_law_places.kp T.b_law_places .nil pass0)))
      (pss_cons (ps_setLc (i := 3) (own := [("_law_k", 4)]) (by rfl) sc_law_groups.nd rfl rfl (sw_true rfl rfl rfl (by decide +kernel)) (pi_range1 (by rfl) T.m_range (pa_cons (pe_op op_add pe_int (pe_call (ok_law_draw T) (hr.mono (by decide)) (by rfl) T.m_law_draw T.F_law_draw.kp T.b_law_draw .nil pass0 (pa_cons (pv 0) (pa_cons pe_int pa_nil)))) pa_nil)) (blkOk_by (own := [("_law_k", 4)]) (N := ["_law_source_here", "_law_first", "_law_names_here", "_law_groups_here", "_law_k"]) (sc := defScope s_law_groups) (by decide +kernel)) (fun _ _ _ _ _ => (pg_name (i := 4) sc_law_groups.nd rfl (Or.inl rfl))) (fun _ _ _ _ _ => pts_nil) (fun _ _ _ _ _ => (pe_call (ok_law_pick T) (hr.mono (by decide)) (by rfl) T.m_law_pick T.F_law_pick.kp T.b_law_pick .nil pass0 (pa_cons (pv 0) (pa_cons (pv 2) pa_nil)))))
      (C8.pss_cut (ps_if (PW.pt (pw_or (pt_val (pv 1)) (pw_or1 (pt_cmpR op_eq (pe_call (ok_law_draw T) (hr.mono (by decide)) (by rfl) T.m_law_draw T.F_law_draw.kp T.b_law_draw .nil pass0 (pa_cons (pv 0) (pa_cons pe_int pa_nil))) pe_int (nomark _)))))
      (pss_one (ps_expr (pe_bm PySem.F.plainAttrs_list PySem.F.slot_list_insert PySem.F.type_list_insert mt_insert (pv 3) (pa_cons (pe_call (ok_law_draw T) (hr.mono (by decide)) (by rfl) T.m_law_draw T.F_law_draw.kp T.b_law_draw .nil pass0 (pa_cons (pv 0) (pa_cons (pe_op op_add (pe_callB call_len_seq (by rfl) T.m_len (by decide +kernel) (pa_cons (pv 3) pa_nil)) pe_int) pa_nil))) (pa_cons pe_str pa_nil)))))
      pss_nil)
      (pss_one (ps_ret (pv 3)))))), ?_⟩
    walk_at "rd"
    refine fun g1 h1 => ?_
    generalize hH : upd _ g1 _ = H1
    obtain ⟨s1, d1⟩ := new_of (o' := .lst (namesL.map V.str)) hH h1 rfl
    clear hH
    walk_at "rd"
    refine ⟨_, _, rfl, SqL.of d1, fun g2 h2 => ?_⟩
    generalize hH : upd _ g2 _ = H2
    obtain ⟨s2, d2⟩ := new_of (o' := .lst ((namesL.take 8).map V.str)) hH h2 (by kernel_rfl)
    clear hH
    refine ⟨rfl, fun g3 h3 => ?_⟩
    generalize hH : upd _ g3 _ = H3
    obtain ⟨s3, d3⟩ := new_of (o' := .lst (placesL.map V.str)) hH h3 rfl
    clear hH
    refine ⟨_, _, _, _, rfl, rfl, s3 _ _ d2, d3, by show 8 + 11 ≤ sizeLine; decide, fun L hL => ?_⟩
    generalize hH : upd _ L _ = H4
    obtain ⟨s4, dL⟩ := new_of (o' := .lst (grpNames.map V.str)) hH hL (by kernel_rfl)
    clear hH
    have S4 := (((S.same s1).same s2).same s3).same s4
    have Lp : L ≠ p := (((S.same s1).same s2).same s3).ne hL
    have e4 : Same H H4 := ((s1.trans s2).trans s3).trans s4
    clear s1 s2 s3 s4 d1 d2 d3 h1 h2 h3 hL S
    walk_at "rd"
    refine ⟨_, _, _, rfl, S4, by omega, by decide, by decide, fun d H5 a b u5 S5 => ?_⟩
    have dL5 := u5 _ _ Lp dL
    walk_at "rd"
    refine ⟨by omega, by omega, fun D hD => ?_⟩
    have Dp : D ≠ p := S5.ne hD
    have LD : L ≠ D := ne_of_none dL5 hD
    have u05 : But p H H5 := (Same.but e4).trans u5
    have hD0 : H D = none := but_free u05 Dp hD
    refine lc_range (lo := 0) (n := (1 + d).toNat) (fun i H' => ∃ gs : List Str, gs.length = i ∧ (∀ g ∈ gs, g ∈ grpNames) ∧ But p H H' ∧ H' D = some (.lst (gs.map V.str)) ∧ H' L = some (.lst (grpNames.map V.str)) ∧ Src H' p (n + 1 + (i : Int)))
      ⟨[], rfl, (fun g hg => nomatch hg), but_new u05 hD0, upd_same, by rw [upd_ne LD]; exact dL5, (S5.same (Same.new hD)).le (by omega)⟩ ?_ ?_
    · rintro i H6 hi ⟨gs, rfl, hg, u6, dD, dL6, S6⟩
      refine ⟨rfl, ?_⟩
      walk_at "rd"
      refine ⟨p, L, _, _, rfl, S6, by omega, Lp, SqL.of dL6, by show 0 < 19; decide, by show 19 ≤ 1000; decide, fun j v H7 hj u7 S7 => ?_⟩
      obtain ⟨g, rfl, hgj⟩ := str_at hj
      refine ⟨_, u7 _ _ Dp dD, ?_, gs ++ [g], by simp, ?_, but_new (u6.trans u7) hD0, ?_, ?_, ?_⟩
      · rw [List.length_map]
        exact Nat.lt_of_lt_of_le (by omega : gs.length < 17) (by decide)
      · intro y hy
        rcases List.mem_append.mp hy with q | q
        · exact hg y q
        · rw [List.mem_singleton.mp q]
          exact List.mem_of_getElem? hgj
      · rw [upd_same, List.map_append]
        rfl
      · rw [upd_ne LD]
        exact u7 _ _ Lp dL6
      · exact (S7.but (q := D) ((But.refl D H7).upd) Dp.symm).le (by omega)
    rintro H6 ⟨gs, hlen, hg, u6, dD, dL6, S6⟩
    have h1 : 1 ≤ gs.length := by omega
    have h3 : gs.length ≤ 3 := by omega
    have S6' := S6.le (show _ ≤ n + 4 by omega)
    have hmem : ∀ g ∈ gs, g ∈ namesL ++ placesL := fun g q => by
      rcases List.mem_append.mp (hg g q) with q | q
      · exact List.mem_append_left _ (List.mem_of_mem_take q)
      · exact List.mem_append_right _ q
    clear S6 hlen
    walk_at "rd"
    refine ⟨fun σ H' => ∃ (gs' : List Str) (v : Option V), σ = [some (.ref p), some (.bl first), some (.ref L), some (.ref D), v] ∧ IsGroups first gs' ∧ H' D = some (.lst (gs'.map V.str)) ∧ But p H H' ∧ Src H' p (n + 10), ?_, ?_⟩
    · cases first with
      | true =>
        walk_at "rd"
        refine ⟨.inl ⟨rfl, _, SqL.of dD⟩, ?_⟩
        walk_at "rd"
        refine ⟨_, _, rfl, .inl (SqL.of dD), ?_⟩
        walk_at "rd"
        refine ⟨_, _, _, rfl, S6', by omega, by omega, by rw [List.length_map]; omega, fun d2 H9 a2 b2 u9 S9 => ?_⟩
        walk_at "rd"
        refine ⟨_, _, _, _, rfl, rfl, u9 _ _ Dp dD, ?_, a2, by rw [List.length_map] at b2; omega, ?_⟩
        · rw [List.length_map]
          exact Nat.lt_of_lt_of_le (by omega : gs.length < 17) (by decide)
        generalize hH : upd _ D _ = H10
        obtain ⟨u10, d10⟩ := chg_of (o' := .lst ((gs.take d2.toNat ++ [Str.ofString "none"] ++ gs.drop d2.toNat).map V.str)) hH (by rw [List.map_append, List.map_append, List.map_take, List.map_drop]; rfl)
        clear hH
        have hD9 : But p H H9 := u6.trans u9
        refine ⟨_, _, rfl, groups_ins d2.toNat h3 hmem, d10, fun b o hb e => u10 _ _ (ne_of_none e hD0) (hD9 _ _ hb e), (S9.but u10 Dp.symm).le (by omega)⟩
      | false =>
        walk_at "rd"
        refine ⟨_, _, _, rfl, S6', by omega, by decide, by decide, fun d1 H8 a1 b1 u8 S8 => ?_⟩
        have dD8 := u8 _ _ Dp dD
        walk_at "rd"
        refine ifd (fun _ => ?_) (fun _ => ?_)
        · skip
          walk_at "rd"
          refine ⟨.inl ⟨rfl, _, SqL.of dD8⟩, ?_⟩
          walk_at "rd"
          refine ⟨_, _, rfl, .inl (SqL.of dD8), ?_⟩
          walk_at "rd"
          refine ⟨_, _, _, rfl, S8, by omega, by omega, by rw [List.length_map]; omega, fun d2 H9 a2 b2 u9 S9 => ?_⟩
          walk_at "rd"
          refine ⟨_, _, _, _, rfl, rfl, u9 _ _ Dp dD8, ?_, a2, by rw [List.length_map] at b2; omega, ?_⟩
          · rw [List.length_map]
            exact Nat.lt_of_lt_of_le (by omega : gs.length < 17) (by decide)
          generalize hH : upd _ D _ = H10
          obtain ⟨u10, d10⟩ := chg_of (o' := .lst ((gs.take d2.toNat ++ [Str.ofString "none"] ++ gs.drop d2.toNat).map V.str)) hH (by rw [List.map_append, List.map_append, List.map_take, List.map_drop]; rfl)
          clear hH
          have hD9 : But p H H9 := (u6.trans u8).trans u9
          refine ⟨_, _, rfl, groups_ins d2.toNat h3 hmem, d10, fun b o hb e => u10 _ _ (ne_of_none e hD0) (hD9 _ _ hb e), (S9.but u10 Dp.symm).le (by omega)⟩
        · walk_at "rd"
          exact ⟨gs, _, rfl, groups_plain h1 h3 hmem, dD8, u6.trans u8, S8.le (by omega)⟩
    rintro σ H9 ⟨gs', v, rfl, hgs, d9, u9, S9⟩
    walk_at "rd"
    exact k D gs' H9 hgs hD0 d9 u9 S9
theorem ok_law_rules (T : Txt w K mg) : FnOk P w K mg base CX0 4 T.f_law_rules T.d_law_rules ["_law_source_here", "_law_many", "_law_most"] spRules := by
  refine T.F_law_rules.ok sc_law_rules (fun vs H Q E h => ?_) (fun cdv A outer s H vs Q E hr h => ?_)
  · obtain ⟨p, m, most, n, rfl, _⟩ := h
    rfl
  · obtain ⟨p, m, most, n, rfl, S, m1, m2, o1, o2, hn, k⟩ := h
    refine ⟨_, (pss_cons (ps_set (i := 3) sc_law_rules.nd rfl (Or.inl rfl) (pe_call (ok_law_names T) (hr.mono (by decide)) (by rfl) T.m_law_names T.F_law_names.kp T.b_law_names .nil pass0 (pa_cons (pv 0) (pa_cons (pe_op op_add pe_int (pe_call (ok_law_draw T) (hr.mono (by decide)) (by rfl) T.m_law_draw T.F_law_draw.kp T.b_law_draw .nil pass0 (pa_cons (pv 0) (pa_cons (pv 1) pa_nil)))) pa_nil))))
      (pss_cons (ps_set (i := 4) sc_law_rules.nd rfl (Or.inl rfl) (pe_lst (pa_cons pe_str (pa_cons pe_str (pa_cons pe_str pa_nil)))))
      (pss_cons (ps_set (i := 5) sc_law_rules.nd rfl (Or.inl rfl) (pe_lst (pa_cons (pe_tup (pa_cons (pe_ix ix_list (pv 3) pe_int (fun _ _ => rfl)) (pa_cons (pe_call (ok_law_groups T) (hr.mono (by decide)) (by rfl) T.m_law_groups T.F_law_groups.kp T.b_law_groups .nil pass0 (pa_cons (pv 0) (pa_cons pe_bl pa_nil))) (pa_cons (pe_call (ok_law_pick T) (hr.mono (by decide)) (by rfl) T.m_law_pick T.F_law_pick.kp T.b_law_pick .nil pass0 (pa_cons (pv 0) (pa_cons (pv 4) pa_nil))) pa_nil)))) pa_nil)))
      (pss_cons (ps_set (i := 5) sc_law_rules.nd rfl (Or.inl rfl) (pe_lst (pa_cons (pe_op op_catT (pe_ix ix_list (pv 5) pe_int (fun _ _ => rfl)) (pe_tup (pa_cons (pe_cmpR op_gt (pe_call (ok_law_draw T) (hr.mono (by decide)) (by rfl) T.m_law_draw T.F_law_draw.kp T.b_law_draw .nil pass0 (pa_cons (pv 0) (pa_cons pe_int pa_nil))) pe_int (nomark _)) (pa_cons (pe_call (ok_law_pick T) (hr.mono (by decide)) (by rfl) T.m_law_pick T.F_law_pick.kp T.b_law_pick .nil pass0 (pa_cons (pv 0) (pa_cons (pv 3) pa_nil))) pa_nil)))) pa_nil)))
      (pss_cons (ps_for PassesOwn.never rfl (pi_range1 (by rfl) T.m_range (pa_cons (pe_call (ok_law_draw T) (hr.mono (by decide)) (by rfl) T.m_law_draw T.F_law_draw.kp T.b_law_draw .nil pass0 (pa_cons (pv 0) (pa_cons (pv 2) pa_nil))) pa_nil)) (pg_name (i := 6) sc_law_rules.nd rfl (Or.inl rfl))
      (pss_cons (ps_par (i := 7) (j := 8) (by rfl) sc_law_rules.nd rfl rfl (by decide) rfl rfl (pa_cons (pe_call (ok_law_pick T) (hr.mono (by decide)) (by rfl) T.m_law_pick T.F_law_pick.kp T.b_law_pick .nil pass0 (pa_cons (pv 0) (pa_cons (pv 3) pa_nil))) (pa_cons (pe_call (ok_law_groups T) (hr.mono (by decide)) (by rfl) T.m_law_groups T.F_law_groups.kp T.b_law_groups .nil pass0 (pa_cons (pv 0) (pa_cons pe_bl pa_nil))) pa_nil)) (by rfl))
      (pss_one (ps_expr (pe_bm PySem.F.plainAttrs_list PySem.F.slot_list_append PySem.F.type_list_append mt_append (pv 5) (pa_cons (pe_tup (pa_cons (pv 7) (pa_cons (pv 8) (pa_cons (pe_call (ok_law_pick T) (hr.mono (by decide)) (by rfl) T.m_law_pick T.F_law_pick.kp T.b_law_pick .nil pass0 (pa_cons (pv 0) (pa_cons (pv 4) pa_nil))) (pa_cons (pe_cmpR op_eq (pe_call (ok_law_draw T) (hr.mono (by decide)) (by rfl) T.m_law_draw T.F_law_draw.kp T.b_law_draw .nil pass0 (pa_cons (pv 0) (pa_cons pe_int pa_nil))) pe_int (nomark _)) (pa_cons (pe_call (ok_law_pick T) (hr.mono (by decide)) (by rfl) T.m_law_pick T.F_law_pick.kp T.b_law_pick .nil pass0 (pa_cons (pv 0) (pa_cons (pv 3) pa_nil))) pa_nil)))))) pa_nil))))))
      (pss_one (ps_ret (pv 5)))))))), ?_⟩
    walk_at "rd"
    refine ⟨_, _, _, rfl, S, by omega, by omega, by omega, fun d H1 a b u1 S1 => ?_⟩
    obtain ⟨j, rfl⟩ : ∃ j : Nat, d = j := ⟨d.toNat, by omega⟩
    walk_at "rd"
    refine ⟨p, 1 + j, _, rfl, S1, by omega, by omega, fun sl zs H2 zl zn znd hsl dsl u2 S2 => ?_⟩
    have S2' := S2.le (show _ ≤ n + 200 by omega)
    have u02 : But p H H2 := u1.trans u2
    clear S2
    refine ⟨by show 3 ≤ sizeLine; decide, fun w hw => ?_⟩
    generalize hH : upd _ w _ = H3
    obtain ⟨s3, dw⟩ := new_of (o' := .lst (wordsL.map V.str)) hH hw rfl
    clear hH
    have S3 := S2'.same s3
    have wp : w ≠ p := S2'.ne hw
    have slp : sl ≠ p := S2'.strs dsl
    have dsl3 := s3 _ _ dsl
    have u03 : But p H H3 := u02.trans (Same.but s3)
    obtain ⟨z0, hz0⟩ : ∃ z0, zs[0]? = some z0 := ⟨zs[0]'(by omega), List.getElem?_eq_getElem _⟩
    walk_at "rd"
    refine ⟨_, _, _, _, rfl, rfl, SqL.of dsl3, at_any (j := 0) (by rw [List.getElem?_map, hz0]; rfl), ?_⟩
    walk_at "rd"
    refine ⟨p, true, _, rfl, S3, by omega, fun gl gs H4 hgs hgl dgl u4 S4 => ?_⟩
    walk_at "rd"
    refine ⟨p, w, _, _, rfl, S4, by omega, wp, SqL.of (u4 _ _ wp dw), by show 0 < 3; decide, by show 3 ≤ 1000; decide, fun jw vw H5 hjw u5 S5 => ?_⟩
    obtain ⟨wd, rfl, hwd⟩ := str_at hjw
    have S5' := S5.le (show _ ≤ n + 300 by omega)
    have dgl5 := u5 _ _ (S4.strs dgl) dgl
    have u05 : But p H H5 := (u03.trans u4).trans u5
    have glp := S4.strs dgl
    have hgl0 : H gl = none := but_free u03 glp hgl
    refine ⟨by show 3 ≤ sizeLine; decide, fun t0 ht0 => ?_⟩
    generalize hH : upd _ t0 _ = H6
    obtain ⟨s6, dt0⟩ := new_of (o' := .tup [.str z0, .ref gl, .str wd]) hH ht0 rfl
    clear hH
    refine ⟨by show 1 ≤ sizeLine; decide, fun R0 hR0 => ?_⟩
    generalize hH : upd _ R0 _ = H7
    obtain ⟨s7, dR0⟩ := new_of (o' := .lst [.ref t0]) hH hR0 rfl
    clear hH
    have S7 := (S5'.same s6).same s7
    walk_at "rd"
    refine ⟨_, _, _, _, rfl, rfl, SqL.of dR0, rfl, ?_⟩
    walk_at "rd"
    refine ⟨_, _, _, rfl, S7, by omega, by decide, by decide, fun kd H8 a8 b8 u8 S8 => ?_⟩
    walk_at "rd"
    have e57 := s6.trans s7
    have sl8 := u8 _ _ slp (e57 _ _ (u5 _ _ slp (u4 _ _ slp dsl3)))
    refine ⟨p, sl, _, _, rfl, S8, by omega, slp, SqL.of sl8, by rw [List.length_map]; omega, by rw [List.length_map]; omega, fun jn vn H9 hjn u9 S9 => ?_⟩
    obtain ⟨nx, rfl, hnx⟩ := str_at hjn
    have S9' := S9.le (show _ ≤ n + 400 by omega)
    refine ⟨by show 2 ≤ sizeLine; decide, fun t1 ht1 => ?_⟩
    generalize hH : upd _ t1 _ = H10
    obtain ⟨s10, dt1⟩ := new_of (o' := .tup [.bl (decide (0 < kd)), .str nx]) hH ht1 rfl
    clear hH
    have t0p := S5'.ne ht0
    have dt010 := s10 _ _ (u9 _ _ t0p (u8 _ _ t0p (s7 _ _ dt0)))
    refine ⟨_, _, _, _, rfl, rfl, SqT.of dt010, SqT.of dt1, (fun q => by cases q), by show 3 + 2 ≤ sizeLine; decide, (fun q => by cases q), fun _ t2 ht2 => ?_⟩
    generalize hH : upd _ t2 _ = H11
    obtain ⟨s11, dt2⟩ := new_of (o' := .tup [.str z0, .ref gl, .str wd, .bl (decide (0 < kd)), .str nx]) hH ht2 rfl
    clear hH
    refine ⟨by show 1 ≤ sizeLine; decide, fun R hR => ?_⟩
    have S11 := (S9'.same s10).same s11
    have Rp := S11.ne hR
    have t2p := (S9'.same s10).ne ht2
    have u010 : But p H H10 := (((u05.trans (Same.but e57)).trans u8).trans u9).trans (Same.but s10)
    have u011 : But p H H11 := u010.trans (Same.but s11)
    have ht20 : H t2 = none := but_free u010 t2p ht2
    have hR0' : H R = none := but_free u011 Rp hR
    have mv : ∀ b o, b ≠ p → H5 b = some o → H11 b = some o := fun b o hb e => s11 _ _ (s10 _ _ (u9 _ _ hb (u8 _ _ hb (e57 _ _ e))))
    have sl11 := mv _ _ slp (u5 _ _ slp (u4 _ _ slp dsl3))
    have w11 := mv _ _ wp (u5 _ _ wp (u4 _ _ wp dw))
    have gl11 := mv _ _ glp dgl5
    generalize hH : upd _ R _ = H12
    obtain ⟨s12, dR⟩ := new_of (o' := .lst [.ref t2]) hH hR rfl
    clear hH
    have ok0 : RuleOk zs true ⟨z0, gs, wd, decide (0 < kd), nx⟩ := ⟨List.mem_of_getElem? hz0, List.mem_of_getElem? hnx, hgs, List.mem_of_getElem? hwd⟩
    have at0 : RuleAt H H12 (.ref t2) ⟨z0, gs, wd, decide (0 < kd), nx⟩ := ⟨t2, gl, rfl, s12 _ _ dt2, s12 _ _ gl11, hgs.ne, ht20, hgl0⟩
    have S12 := S11.same s12
    have slR : sl ≠ R := ne_of_none sl11 hR
    have wR : w ≠ R := ne_of_none w11 hR
    have sl12 := s12 _ _ sl11
    have w12 := s12 _ _ w11
    have u012 : But p H H12 := u011.trans (Same.but s12)
    clear u02 u2 S1 u1 hsl dsl hw dw s3 S3 dsl3 u03 u4 S4 u5 S5 S5' dgl5 u05 ht0 s6 dt0 hR0 s7 dR0 S7 a8 b8 u8 S8 e57 sl8 hjn u9 S9 S9' ht1 s10 dt1 dt010 ht2 s11 S11 hR u010 u011 mv sl11 w11 gl11 dt2 s12 dgl
    walk_at "rd"
    refine ⟨_, _, _, rfl, S12, by omega, by omega, by omega, fun d H13 a13 b13 u13 S13 => ?_⟩
    walk_at "rd"
    refine ⟨by omega, by omega, ?_⟩
    refine for_range (lo := 0) (n := d.toNat) (fun i σ H' => ∃ (xs : List V) (rs : List Rul) (v6 v7 v8 : Option V), σ = [some (.ref p), some (.int m), some (.int most), some (.ref sl), some (.ref w), some (.ref R), v6, v7, v8] ∧ rs.length = i ∧ (∀ r ∈ rs, RuleOk zs false r) ∧
        RulesAt H H' xs (⟨z0, gs, wd, decide (0 < kd), nx⟩ :: rs) ∧ H' R = some (.lst xs) ∧ H' sl = some (.lst (zs.map V.str)) ∧ H' w = some (.lst (wordsL.map V.str)) ∧ But p H H' ∧ Src H' p (n + 500 + 20 * (i : Int)))
      ⟨[.ref t2], [], none, none, none, rfl, rfl, (fun r hr => nomatch hr), rules_src (.cons at0 .nil) S12 u13, u13 _ _ Rp dR, u13 _ _ slp sl12, u13 _ _ wp w12, u012.trans u13, S13.le (by omega)⟩ ?_ ?_
    · rintro i σ H14 hi ⟨xs, rs, v6, v7, v8, rfl, rfl, hrs, hat, dR14, sl14, w14, u14, S14⟩
      walk_at "rd"
      refine ⟨p, sl, _, _, rfl, S14, by omega, slp, SqL.of sl14, by rw [List.length_map]; omega, by rw [List.length_map]; omega, fun js vs H15 hjs u15 S15 => ?_⟩
      obtain ⟨st, rfl, hst⟩ := str_at hjs
      walk_at "rd"
      refine ⟨p, false, _, rfl, S15, by omega, fun g2 gs2 H16 hgs2 hgl2 dgl2 u16 S16 => ?_⟩
      walk_at "rd"
      have g2p := S16.strs dgl2
      have u016 : But p H H16 := (u14.trans u15).trans u16
      have hg20 : H g2 = none := but_free (u14.trans u15) g2p hgl2
      have m16 : ∀ b o, b ≠ p → H14 b = some o → H16 b = some o := fun b o hb e => u16 _ _ hb (u15 _ _ hb e)
      refine ⟨.inl ⟨rfl, _, SqL.of (m16 _ _ Rp dR14)⟩, ?_⟩
      walk_at "rd"
      refine ⟨p, w, _, _, rfl, S16, by omega, wp, SqL.of (m16 _ _ wp w14), by show 0 < 3; decide, by show 3 ≤ 1000; decide, fun j3 v3 H17 hj3 u17 S17 => ?_⟩
      obtain ⟨wd2, rfl, hwd2⟩ := str_at hj3
      walk_at "rd"
      refine ⟨_, _, _, rfl, S17, by omega, by decide, by decide, fun k2 H18 a18 b18 u18 S18 => ?_⟩
      walk_at "rd"
      have m18 : ∀ b o, b ≠ p → H14 b = some o → H18 b = some o := fun b o hb e => u18 _ _ hb (u17 _ _ hb (m16 _ _ hb e))
      refine ⟨p, sl, _, _, rfl, S18, by omega, slp, SqL.of (m18 _ _ slp sl14), by rw [List.length_map]; omega, by rw [List.length_map]; omega, fun j5 v5 H19 hj5 u19 S19 => ?_⟩
      obtain ⟨nx2, rfl, hnx2⟩ := str_at hj5
      have m19 : ∀ b o, b ≠ p → H14 b = some o → H19 b = some o := fun b o hb e => u19 _ _ hb (m18 _ _ hb e)
      have u1419 : But p H14 H19 := m19
      have u019 : But p H H19 := u14.trans u1419
      have dg19 := u19 _ _ g2p (u18 _ _ g2p (u17 _ _ g2p dgl2))
      refine ⟨by show 5 ≤ sizeLine; decide, fun t ht => ?_⟩
      generalize hH : upd _ t _ = H20
      obtain ⟨s20, dt⟩ := new_of (o' := .tup [.str st, .ref g2, .str wd2, .bl (decide (V.int k2 = V.int 1)), .str nx2]) hH ht rfl
      clear hH
      have tp := S19.ne ht
      have ht0 : H t = none := but_free u019 tp ht
      have R20 := s20 _ _ (m19 _ _ Rp dR14)
      have at20 : RulesAt H H20 xs (⟨z0, gs, wd, decide (0 < kd), nx⟩ :: rs) := rules_same (rules_src hat S14 u1419) s20
      have len := Paired.length at20
      rw [List.length_cons] at len
      refine ⟨_, _, _, rfl, rfl, R20, Nat.lt_of_lt_of_le (by omega : xs.length < 200) (by decide), ?_⟩
      generalize hH : upd _ R _ = H21
      obtain ⟨u21, d21⟩ := chg_of (o' := .lst (xs ++ [.ref t])) hH rfl
      clear hH
      have refs := rules_refs at20
      have new21 : RuleAt H H21 (.ref t) ⟨st, gs2, wd2, decide (V.int k2 = V.int 1), nx2⟩ :=
        RuleAt.lst ⟨t, g2, rfl, dt, s20 _ _ dg19, hgs2.ne, ht0, hg20⟩ R20 refs u21
      have pr : RulesAt H H21 (xs ++ [V.ref t]) ((⟨z0, gs, wd, decide (0 < kd), nx⟩ : Rul) :: (rs ++ [(⟨st, gs2, wd2, decide (V.int k2 = V.int 1), nx2⟩ : Rul)])) := paired_snoc new21 (rules_lst at20 R20 refs u21)
      refine ⟨xs ++ [.ref t], rs ++ [⟨st, gs2, wd2, decide (V.int k2 = V.int 1), nx2⟩], _, _, _, rfl, by simp, ?_, pr, d21, u21 _ _ slR (s20 _ _ (m19 _ _ slp sl14)), u21 _ _ wR (s20 _ _ (m19 _ _ wp w14)), fun b o hb e => u21 _ _ (ne_of_none e hR0') (s20 _ _ (u019 _ _ hb e)), ((S19.same s20).but u21 Rp.symm).le (by omega)⟩
      intro r hr
      rcases List.mem_append.mp hr with q | q
      · exact hrs r q
      · rw [List.mem_singleton.mp q]
        exact ⟨List.mem_of_getElem? hst, List.mem_of_getElem? hnx2, hgs2, List.mem_of_getElem? hwd2⟩
    · rintro σ H14 ⟨xs, rs, v6, v7, v8, rfl, hlen, hrs, hat, dR14, sl14, w14, u14, S14⟩
      walk_at "rd"
      exact k R xs zs _ rs H14 ⟨zn, znd, ok0, hz0, hrs⟩ (by omega) (by omega) hat hR0' dR14 u14 (S14.le (by omega))
theorem ok_law_states (T : Txt w K mg) : FnOk P w K mg base CX0 1 T.f_law_states T.d_law_states ["_law_rules_here"] (spStates K) := by
  refine T.F_law_states.ok sc_law_states (fun vs H Q E h => ?_) (fun cdv A outer s H vs Q E hr h => ?_)
  · obtain ⟨l, xs, rs, H0, rfl, _⟩ := h
    rfl
  · obtain ⟨l, xs, rs, H0, rfl, hS, hat, hn, k⟩ := h
    refine ⟨_, (pss_cons (ps_set (i := 1) sc_law_states.nd rfl (Or.inl rfl) (pe_lst pa_nil))
      (pss_cons (ps_for PassesOwn.never rfl (pi_list (pv 0)) (pg_name (i := 2) sc_law_states.nd rfl (Or.inl rfl))
      (pss_one (ps_for PassesOwn.never rfl (pi_tup (pe_tup (pa_cons (pe_ix ix_tup (pv 2) pe_int (fun _ _ => rfl)) (pa_cons (pe_ix ix_tup (pv 2) pe_int (fun _ _ => rfl)) pa_nil)))) (pg_name (i := 3) sc_law_states.nd rfl (Or.inl rfl))
      (pss_one (ps_if (pt_cmpR op_notIn_seq (pv 3) (pv 1) (by rfl))
      (pss_one (ps_expr (pe_bm PySem.F.plainAttrs_list PySem.F.slot_list_append PySem.F.type_list_append mt_append (pv 1) (pa_cons (pv 3) pa_nil))))
      pss_nil)))))
      (pss_one (ps_ret (pv 1))))), ?_⟩
    refine ⟨by show 0 ≤ sizeLine; decide, fun f hf => ?_⟩
    generalize hH : upd _ f _ = H1
    obtain ⟨s1, d1⟩ := new_of (o' := .lst (([] : List Str).map V.str)) hH hf rfl
    clear hH
    walk_at "rd"
    refine ⟨⟨_, s1.seq hS⟩, for_list (K := K) (a := l) (xs := xs) (fun i σ H' => ∃ v2 v3 : Option V, σ = [some (.ref l), some (.ref f), v2, v3] ∧ Same H H' ∧ H' f = some (.lst ((statesOf (rs.take i)).map V.str)))
      ⟨none, none, rfl, s1, d1⟩ (fun i σ H' _ ⟨_, _, _, z, _⟩ => z.seq hS) ?_ ?_⟩
    · rintro i x σ H2 hx ⟨v2, v3, rfl, s2, d2⟩
      obtain ⟨r, hr', t, g, rfl, ht, hg, _⟩ := paired_at (rules_same hat s2) hx
      walk_at "rd"
      refine ⟨_, _, _, _, rfl, rfl, SqT.of ht, at_any (j := 0) rfl, ?_⟩
      walk_at "rd"
      refine ⟨_, _, _, _, rfl, rfl, SqT.of ht, at_any (j := 4) rfl, ?_⟩
      refine ⟨by show 2 ≤ sizeLine; decide, fun u hu => ?_⟩
      generalize hH : upd _ u _ = H3
      obtain ⟨s3, du⟩ := new_of (o' := .tup (([r.st, r.nx] : List Str).map V.str)) hH hu rfl
      clear hH
      have uf : u ≠ f := (ne_of_none d2 hu).symm
      have len0 := states_len (rs.take i)
      have ri : i < rs.length := (List.getElem?_eq_some_iff.mp hr').1
      rw [List.length_take] at len0
      have mst := states_more hr'
      generalize statesOf (rs.take i) = acc at d2 len0 mst
      refine ⟨u, rfl, ⟨_, SqT.of du⟩, for_tup (K := K) (a := u) (xs := ([r.st, r.nx] : List Str).map V.str) (fun j σ H' => ∃ v3 : Option V, σ = [some (.ref l), some (.ref f), some (.ref t), v3] ∧ Same H H' ∧ H' u = some (.tup (([r.st, r.nx] : List Str).map V.str)) ∧ H' f = some (.lst (((([r.st, r.nx] : List Str).take j).foldl addS acc).map V.str)))
        ⟨_, rfl, s2.trans s3, du, s3 _ _ d2⟩ (fun j σ H' _ ⟨_, _, _, z, _⟩ => SqT.of z) ?_ ?_⟩
      · rintro j y σ H4 hy ⟨v3', rfl, s4, du4, d4⟩
        obtain ⟨z, rfl, hz⟩ := str_at hy
        have hj : j < 2 := (List.getElem?_eq_some_iff.mp hz).1
        have more : (([r.st, r.nx] : List Str).take (j + 1)).foldl addS acc = addS ((([r.st, r.nx] : List Str).take j).foldl addS acc) z := by
          rw [take_more hz, List.foldl_append]
          rfl
        have la : ((([r.st, r.nx] : List Str).take j).foldl addS acc).length ≤ acc.length + 2 := by
          have q1 := addS_len acc r.st
          have q2 := addS_len (addS acc r.st) r.nx
          match j, hj with
          | 0, _ => show acc.length ≤ _; omega
          | 1, _ => show (addS acc r.st).length ≤ _; omega
        rw [more]
        generalize (([r.st, r.nx] : List Str).take j).foldl addS acc = ac at d4 la
        walk_at "rd"
        refine ⟨_, _, rfl, .inl (SqL.of d4), rfl, flat_strs ac, ?_⟩
        refine ⟨!decide (z ∈ ac), congrArg (fun b => V.bl (!b)) (inV_strs z ac), ?_⟩
        by_cases hin : z ∈ ac
        · rw [decide_eq_true hin]
          refine iteF ?_
          walk_at "rd"
          refine ⟨s4, du4, ?_⟩
          unfold addS
          rw [if_pos hin]
          exact d4
        · rw [decide_eq_false hin]
          refine iteT ?_
          walk_at "rd"
          refine ⟨.inl ⟨rfl, _, SqL.of d4⟩, ?_⟩
          walk_at "rd"
          refine ⟨_, _, _, rfl, rfl, d4, ?_, ?_⟩
          · rw [List.length_map]
            exact Nat.lt_of_lt_of_le (by omega : ac.length < 2100) (by decide)
          refine ⟨_, rfl, fun b o e => ?_, by rw [upd_ne uf]; exact du4, ?_⟩
          · rw [upd_ne (ne_of_none e hf)]
            exact s4 b o e
          · rw [upd_same]
            unfold addS
            rw [if_neg hin, List.map_append]
            rfl
      · rintro σ H4 ⟨v3', rfl, s4, du4, d4⟩
        refine ⟨_, _, rfl, s4, ?_⟩
        rw [mst]
        exact d4
    · rintro σ H2 ⟨v2, v3, rfl, s2, d2⟩
      have e := Paired.length hat
      rw [e, List.take_length] at d2
      walk_at "rd"
      exact k f H2 hf s2 d2
theorem ok_is_name (T : Txt w K mg) : FnOk P w K mg base CX0 1 T.f_is_name T.d_is_name ["thing"] (spIsName K) := by
  refine T.F_is_name.ok sc_is_name (fun vs H Q E h => ?_) (fun cdv A outer s H vs Q E hr h => ?_)
  · obtain ⟨v, rfl, _⟩ := h
    rfl
  · obtain ⟨v, rfl, h⟩ := h
    refine ⟨_, (pss_cons (ps_if (PW.pt (pw_or (pt_not (pt_val (pe_callB call_isi (by rfl) T.m_isinstance (by decide +kernel) (pa_cons (pv 0) (pa_cons (pe_bltn (v := .ty "str") (by rfl) T.m_str (by decide +kernel) rfl) pa_nil))))) (pw_or1 (pt_not (pt_chain op_le op_le pe_int (pe_callB call_len_str (by rfl) T.m_len (by decide +kernel) (pa_cons (pv 0) pa_nil)) pe_int)))))
      (pss_one (ps_ret pe_bl))
      pss_nil)
      (pss_one (ps_ret (pe_callB (cr_all rfl) (by rfl) T.m_all (by decide +kernel) (pa_cons (pe_lc (own := [("letter", 1)]) (by rfl) sc_is_name.nd (pi_str (pv 0)) (blkOk_by (own := [("letter", 1)]) (N := ["thing", "letter"]) (sc := defScope s_is_name) (by decide +kernel)) (fun _ _ _ _ _ => (pg_name (i := 1) sc_is_name.nd rfl (Or.inl rfl))) (fun _ _ _ _ _ => pts_nil) (fun _ _ _ _ _ => (pe_cmpR op_in_sign (pv 1) (pe_glob (v := .str "abcdefghijklmnopqrstuvwxyz") rfl T.m_LETTERS ⟨_, rfl⟩) (by rfl)))) pa_nil))))), ?_⟩
    walk_at "rd"
    rcases h with ⟨z, rfl, hz, k⟩ | ⟨⟨t, ty, kb⟩, k⟩
    · refine ⟨_, _, _, _, true, rfl, .ty _, .base (.str _), kit_ty (by decide +kernel), ?_⟩
      walk_at "rd"
      refine ⟨hz, ?_⟩
      walk_at "rd"
      refine ifd (fun h1 => ?_) (fun h1 => ?_)
      · walk_at "rd"
        by_cases h2 : (z.length : Int) ≤ 8
        · rw [decide_eq_true h2]
          refine iteF ?_
          walk_at "rd"
          refine fun D hD => ?_
          refine lc_it (walk_str (z := z)) (fun i H' => Same H H' ∧ H' D = some (.lst (((z.cps.toList.take i).map fun c => decide (c ∈ (Str.ofString "abcdefghijklmnopqrstuvwxyz").cps.toList)).map V.bl))) ⟨Same.new hD, upd_same⟩ (fun _ _ _ _ => trivial) ?_ ?_
          · rintro i x H6 H7 hi ⟨s6, d6⟩ ⟨rfl, c, hc', rfl⟩
            refine ⟨rfl, ?_⟩
            walk_at "rd"
            have hc2 : z.cps.toList[i]? = some c := by rw [Array.getElem?_toList]; exact hc'
            refine ⟨_, d6, ?_, ?_, ?_⟩
            · rw [List.length_map, List.length_map, List.length_take]
              have h8 : z.cps.size ≤ 8 := by have : (z.length : Int) ≤ 8 := h2; exact (by omega : z.length ≤ 8)
              exact Nat.lt_of_le_of_lt (Nat.min_le_left _ _) (Nat.lt_of_lt_of_le hi (Nat.le_trans h8 (by decide)))
            · exact fun b o e => by
                rw [upd_ne (fun q => by rw [q, hD] at e; cases e)]
                exact s6 b o e
            · rw [upd_same, take_more hc2, List.map_append, List.map_append]
              rfl
          rintro H6 ⟨s6, d6⟩
          rw [← Array.length_toList, List.take_length] at d6
          refine ⟨_, _, rfl, SqL.of d6, ?_⟩
          have e : ((z.cps.toList.map fun c => decide (c ∈ (Str.ofString "abcdefghijklmnopqrstuvwxyz").cps.toList)).all id) = nameB z := by
            unfold nameB
            rw [decide_eq_true (show 1 ≤ z.cps.size by have : (1 : Int) ≤ (z.length : Int) := h1; exact (by omega : 1 ≤ z.length)), decide_eq_true (show z.cps.size ≤ 8 by have : (z.length : Int) ≤ 8 := h2; exact (by omega : z.length ≤ 8)), List.all_map]
            rfl
          rw [e]
          exact k H6 s6
        · rw [decide_eq_false h2]
          refine iteT ?_
          walk_at "rd"
          have e : nameB z = false := by
            unfold nameB
            rw [decide_eq_false (show ¬ z.cps.size ≤ 8 from fun q => h2 (by have : z.length ≤ 8 := q; omega)), Bool.and_false, Bool.false_and]
          rw [← e]
          exact k H (Same.refl H)
      · walk_at "rd"
        have e : nameB z = false := by
          unfold nameB
          rw [decide_eq_false (show ¬ 1 ≤ z.cps.size from fun q => h1 (by have : 1 ≤ z.length := q; omega)), Bool.false_and, Bool.false_and]
        rw [← e]
        exact k H (Same.refl H)
    · refine ⟨_, _, _, _, false, rfl, .ty _, ty, kit_ty kb, ?_⟩
      walk_at "rd"
      exact k
theorem ok_is_place (T : Txt w K mg) : FnOk P w K mg base CX0 1 T.f_is_place T.d_is_place ["thing"] spIsPlaceA := by
  refine T.F_is_place.ok sc_is_place (fun vs H Q E h => ?_) (fun cdv A outer s H vs Q E hr h => ?_)
  · obtain ⟨z, rfl, _⟩ := h
    rfl
  · obtain ⟨v, rfl, h⟩ := h
    refine ⟨_, (pss_one (ps_ret (pe_and (pe_callB call_isi (by rfl) T.m_isinstance (by decide +kernel) (pa_cons (pv 0) (pa_cons (pe_bltn (v := .ty "str") (by rfl) T.m_str (by decide +kernel) rfl) pa_nil))) (pe_one (pe_cmpR op_in_seq (pv 0) (pe_glob (v := .ref T.a_PLACES) rfl T.m_PLACES rfl) (by rfl)))))), ?_⟩
    walk_at "rd"
    rcases h with ⟨z, rfl, k⟩ | ⟨⟨d, o⟩, k⟩
    · refine ⟨_, _, _, _, true, rfl, .ty _, .base (.str _), kit_ty (by decide +kernel), ?_⟩
      walk_at "rd"
      refine ⟨_, _, rfl, .inr (T.q_PLACES _), rfl, flat_strs placesL, ?_⟩
      show Q (.bl (inV (.str z) (placesL.map V.str))) H
      rw [inV_strs]
      exact k
    · obtain ⟨t, ty, kb⟩ := o.ty (K := K)
      refine ⟨_, _, _, _, false, rfl, .ty _, ty, kit_ty kb, ?_⟩
      walk_at "rd"
      exact k
theorem ok_is_group (T : Txt w K mg) : FnOk P w K mg base CX0 1 T.f_is_group T.d_is_group ["thing"] spIsGroupA := by
  refine T.F_is_group.ok sc_is_group (fun vs H Q E h => ?_) (fun cdv A outer s H vs Q E hr h => ?_)
  · obtain ⟨z, rfl, _⟩ := h
    rfl
  · obtain ⟨v, rfl, h⟩ := h
    refine ⟨_, (pss_one (ps_ret (pe_and (pe_callB call_isi (by rfl) T.m_isinstance (by decide +kernel) (pa_cons (pv 0) (pa_cons (pe_bltn (v := .ty "str") (by rfl) T.m_str (by decide +kernel) rfl) pa_nil))) (pe_one (pe_or (pe_cmpR op_in_seq (pv 0) (pe_glob (v := .ref T.a_PLACES) rfl T.m_PLACES rfl) (by rfl)) (pe_one (pe_cmpR (op_in_kd T.kd_GROUPS) (pv 0) (pe_glob (v := .ref T.a_GROUPS) rfl T.m_GROUPS rfl) (by rfl)))))))), ?_⟩
    walk_at "rd"
    rcases h with ⟨z, rfl, k⟩ | ⟨⟨d, o⟩, k⟩
    · refine ⟨_, _, _, _, true, rfl, .ty _, .base (.str _), kit_ty (by decide +kernel), ?_⟩
      walk_at "rd"
      refine ⟨_, _, rfl, .inr (T.q_PLACES _), rfl, flat_strs placesL, ?_⟩
      refine ⟨decide (z ∈ placesL), congrArg V.bl (inV_strs z placesL), ?_⟩
      by_cases h1 : z ∈ placesL
      · rw [decide_eq_true h1]
        rw [decide_eq_true (Or.inl h1)] at k
        refine iteT ?_
        exact k
      rw [decide_eq_false h1]
      refine iteF ?_
      walk_at "rd"
      by_cases h2 : z ∈ l_GROUPS.map (·.1)
      · obtain ⟨j, ps, hj⟩ := groups_at h2
        obtain ⟨u, hu, _⟩ := T.y_GROUPS j z ps hj
        refine ⟨_, _, rfl, rfl, hu, ?_⟩
        rw [decide_eq_true (Or.inr h2)] at k
        exact k
      · refine ⟨_, _, rfl, rfl, T.z_GROUPS z h2, ?_⟩
        rw [decide_eq_false (fun q => q.elim h1 h2)] at k
        exact k
    · obtain ⟨t, ty, kb⟩ := o.ty (K := K)
      refine ⟨_, _, _, _, false, rfl, .ty _, ty, kit_ty kb, ?_⟩
      walk_at "rd"
      exact k
theorem ok_are_groups (T : Txt w K mg) : FnOk P w K mg base CX0 2 T.f_are_groups T.d_are_groups ["things"] spAreGroups := by
  refine T.F_are_groups.ok sc_are_groups (fun vs H Q E h => ?_) (fun cdv A outer s H vs Q E hr h => ?_)
  · obtain ⟨v, gs, rfl, _⟩ := h
    rfl
  · obtain ⟨a, gs, rfl, hA, hlen, k⟩ := h
    refine ⟨_, (pss_cons (ps_if (PW.pt (pw_or (pt_not (pt_val (pe_callB call_isiT (by rfl) T.m_isinstance (by decide +kernel) (pa_cons (pv 0) (pa_cons (pe_tup (pa_cons (pe_bltn (v := .ty "list") (by rfl) T.m_list (by decide +kernel) rfl) (pa_cons (pe_bltn (v := .ty "tuple") (by rfl) T.m_tuple (by decide +kernel) rfl) pa_nil))) pa_nil))))) (pw_or1 (pt_cmpR op_eq (pe_callB call_len_seq (by rfl) T.m_len (by decide +kernel) (pa_cons (pv 0) pa_nil)) pe_int (nomark _)))))
      (pss_one (ps_ret pe_bl))
      pss_nil)
      (pss_one (ps_ret (pe_callB (cr_all rfl) (by rfl) T.m_all (by decide +kernel) (pa_cons (pe_lc (own := [("thing", 1)]) (by rfl) sc_are_groups.nd (pi_lt (pv 0)) (blkOk_by (own := [("thing", 1)]) (N := ["things", "thing"]) (sc := defScope s_are_groups) (by decide +kernel)) (fun _ _ _ _ _ => (pg_name (i := 1) sc_are_groups.nd rfl (Or.inl rfl))) (fun _ _ _ _ _ => pts_nil) (fun _ _ _ _ _ => (pe_call (ok_is_group T) (hr.mono (by decide)) (by rfl) T.m_is_group T.F_is_group.kp T.b_is_group .nil pass0 (pa_cons (pv 1) pa_nil)))) pa_nil))))), ?_⟩
    walk_at "rd"
    refine ⟨by show 2 ≤ sizeLine; decide, fun t0 ht0 => ?_⟩
    generalize hH : upd _ t0 _ = H1
    obtain ⟨s1, dt0⟩ := new_of (o' := .tup [.ty "list", .ty "tuple"]) hH ht0 rfl
    clear hH
    have hA1 := hA.same s1
    obtain ⟨t, ty, kb⟩ := hA1.ty (K := K)
    refine ⟨_, t0, _, _, _, true, rfl, dt0, .cons (.ty _) (.cons (.ty _) .nil), ty, kb, ?_⟩
    walk_at "rd"
    refine ⟨_, _, rfl, hA1.sq, ?_⟩
    walk_at "rd"
    by_cases h0 : gs = []
    · subst h0
      walk_at "rd"
      exact k H1 s1
    · rw [decide_eq_false (show ¬ V.int ((gs.map V.str).length : Nat) = V.int 0 from fun q => by
        rw [List.length_map] at q
        have q' : (gs.length : Int) = 0 := by injection q
        exact h0 (List.length_eq_zero_iff.mp (by omega)))]
      refine iteF ?_
      walk_at "rd"
      rcases hA1 with h | h
      · refine Or.inl ⟨_, rfl, a, rfl, ⟨_, SqL.of h⟩, fun D hD => ?_⟩
        refine lc_list (K := K) (a := a) (xs := gs.map V.str) (fun i H' => Same H1 H' ∧ H' D = some (.lst (((gs.take i).map grpB).map V.bl))) ⟨Same.new hD, upd_same⟩ (fun i H' _ z => z.1.seq (SqL.of h)) ?_ ?_
        · rintro i x H6 hx ⟨s6, d6⟩
          obtain ⟨z, rfl, hz⟩ := str_at hx
          refine ⟨rfl, ?_⟩
          walk_at "rd"
          refine Or.inl ⟨z, rfl, ?_⟩
          refine ⟨_, d6, ?_, ?_, ?_⟩
          · rw [List.length_map, List.length_map, List.length_take]
            exact Nat.lt_of_le_of_lt (Nat.min_le_right _ _) (Nat.lt_of_le_of_lt hlen (by decide))
          · exact fun b o e => by
              rw [upd_ne (fun q => by rw [q, hD] at e; cases e)]
              exact s6 b o e
          · rw [upd_same, take_more hz, List.map_append, List.map_append]
            rfl
        rintro H6 ⟨s6, d6⟩
        rw [List.length_map, List.take_length] at d6
        refine ⟨_, _, rfl, SqL.of d6, ?_⟩
        have e : ((gs.map grpB).all id) = (!gs.isEmpty && gs.all grpB) := by
          rw [List.all_map]
          cases gs with
          | nil => exact absurd rfl h0
          | cons a r => rfl
        rw [e]
        exact k H6 (s1.trans s6)
      · refine Or.inr ⟨_, rfl, a, rfl, ⟨_, SqT.of h⟩, fun D hD => ?_⟩
        refine lc_tup (K := K) (a := a) (xs := gs.map V.str) (fun i H' => Same H1 H' ∧ H' D = some (.lst (((gs.take i).map grpB).map V.bl))) ⟨Same.new hD, upd_same⟩ (fun i H' _ z => SqT.of (z.1 _ _ h)) ?_ ?_
        · rintro i x H6 hx ⟨s6, d6⟩
          obtain ⟨z, rfl, hz⟩ := str_at hx
          refine ⟨rfl, ?_⟩
          walk_at "rd"
          refine Or.inl ⟨z, rfl, ?_⟩
          refine ⟨_, d6, ?_, ?_, ?_⟩
          · rw [List.length_map, List.length_map, List.length_take]
            exact Nat.lt_of_le_of_lt (Nat.min_le_right _ _) (Nat.lt_of_le_of_lt hlen (by decide))
          · exact fun b o e => by
              rw [upd_ne (fun q => by rw [q, hD] at e; cases e)]
              exact s6 b o e
          · rw [upd_same, take_more hz, List.map_append, List.map_append]
            rfl
        rintro H6 ⟨s6, d6⟩
        rw [List.length_map, List.take_length] at d6
        refine ⟨_, _, rfl, SqL.of d6, ?_⟩
        have e : ((gs.map grpB).all id) = (!gs.isEmpty && gs.all grpB) := by
          rw [List.all_map]
          cases gs with
          | nil => exact absurd rfl h0
          | cons a r => rfl
        rw [e]
        exact k H6 (s1.trans s6)
theorem ok_is_rule (T : Txt w K mg) : FnOk P w K mg base CX0 3 T.f_is_rule T.d_is_rule ["thing"] spIsRule := by
  refine T.F_is_rule.ok sc_is_rule (fun vs H Q E h => ?_) (fun cdv A outer s H vs Q E hr h => ?_)
  · obtain ⟨v, r, rfl, _⟩ := h
    rfl
  · obtain ⟨v, r, rfl, ⟨t, g, rfl, ht, hg⟩, hv, k⟩ := h
    refine ⟨_, (pss_cons (ps_if (PW.pt (pw_or (pt_not (pt_val (pe_callB call_isiT (by rfl) T.m_isinstance (by decide +kernel) (pa_cons (pv 0) (pa_cons (pe_tup (pa_cons (pe_bltn (v := .ty "list") (by rfl) T.m_list (by decide +kernel) rfl) (pa_cons (pe_bltn (v := .ty "tuple") (by rfl) T.m_tuple (by decide +kernel) rfl) pa_nil))) pa_nil))))) (pw_or1 (pt_cmpR op_ne (pe_callB call_len_seq (by rfl) T.m_len (by decide +kernel) (pa_cons (pv 0) pa_nil)) pe_int (nomark _)))))
      (pss_one (ps_ret pe_bl))
      pss_nil)
      (pss_cons (ps_asg (pv 0) (pg_seqU (by rfl) (pgs_cons (pg_name (i := 1) sc_is_rule.nd rfl (Or.inl rfl)) (pgs_cons (pg_name (i := 2) sc_is_rule.nd rfl (Or.inl rfl)) (pgs_cons (pg_name (i := 3) sc_is_rule.nd rfl (Or.inl rfl)) (pgs_cons (pg_name (i := 4) sc_is_rule.nd rfl (Or.inl rfl)) (pgs_cons (pg_name (i := 5) sc_is_rule.nd rfl (Or.inl rfl)) pgs_nil)))))))
      (pss_cons (ps_if (PW.pt (pw_or (pt_not (pt_val (pe_callB call_isi (by rfl) T.m_isinstance (by decide +kernel) (pa_cons (pv 4) (pa_cons (pe_bltn (v := .ty "bool") (by rfl) T.m_bool (by decide +kernel) rfl) pa_nil))))) (pw_or1 (pt_not (pt_val (pe_call (ok_are_groups T) (hr.mono (by decide)) (by rfl) T.m_are_groups T.F_are_groups.kp T.b_are_groups .nil pass0 (pa_cons (pv 2) pa_nil)))))))
      (pss_one (ps_ret pe_bl))
      pss_nil)
      (pss_one (ps_ret (pe_and (pe_call (ok_is_name T) (hr.mono (by decide)) (by rfl) T.m_is_name T.F_is_name.kp T.b_is_name .nil pass0 (pa_cons (pv 1) pa_nil)) (pe_and (pe_call (ok_is_name T) (hr.mono (by decide)) (by rfl) T.m_is_name T.F_is_name.kp T.b_is_name .nil pass0 (pa_cons (pv 3) pa_nil)) (pe_one (pe_call (ok_is_name T) (hr.mono (by decide)) (by rfl) T.m_is_name T.F_is_name.kp T.b_is_name .nil pass0 (pa_cons (pv 5) pa_nil)))))))))), ?_⟩
    walk_at "rd"
    refine ⟨by show 2 ≤ sizeLine; decide, fun t0 ht0 => ?_⟩
    generalize hH : upd _ t0 _ = H1
    obtain ⟨s1, dt0⟩ := new_of (o' := .tup [.ty "list", .ty "tuple"]) hH ht0 rfl
    clear hH
    obtain ⟨ty, h1, kb⟩ := (ht.same s1).ty (K := K)
    refine ⟨_, t0, _, _, _, true, rfl, dt0, .cons (.ty _) (.cons (.ty _) .nil), h1, kb, ?_⟩
    walk_at "rd"
    refine ⟨_, _, rfl, (ht.same s1).sq, ?_⟩
    walk_at "rd"
    refine (ht.same s1).elim (fun h => Or.inr ⟨_, _, rfl, SqL.of h, rfl, ?_⟩) (fun h => Or.inl ⟨_, _, rfl, SqT.of h, rfl, ?_⟩)
    all_goals
      walk_at "rd"
      refine ⟨_, _, _, _, true, rfl, .ty _, .base (.bl _), kit_ty (by decide +kernel), ?_⟩
      walk_at "rd"
      refine ⟨_, _, rfl, hg.same s1, hv.len, fun H2 s2 => ?_⟩
      rw [hv.grp]
      walk_at "rd"
      refine Or.inl ⟨r.st, rfl, hv.st.line, fun H3 s3 => ?_⟩
      rw [nameB_iff.mpr hv.st]
      walk_at "rd"
      refine Or.inl ⟨r.wd, rfl, hv.wd.line, fun H4 s4 => ?_⟩
      rw [nameB_iff.mpr hv.wd]
      walk_at "rd"
      refine Or.inl ⟨r.nx, rfl, hv.nx.line, fun H5 s5 => ?_⟩
      rw [nameB_iff.mpr hv.nx]
      exact k H5 ((((s1.trans s2).trans s3).trans s4).trans s5)
--SPLIT
theorem ok_is_number (T : Txt w K mg) : FnOk P w K mg base CX0 1 T.f_is_number T.d_is_number ["thing"] spIsNum := by
  refine T.F_is_number.ok sc_is_number (fun vs H Q E h => ?_) (fun cdv A outer s H vs Q E hr h => ?_)
  · obtain ⟨x, rfl, _⟩ := h
    rfl
  · obtain ⟨x, rfl, h1, h2, k⟩ := h
    refine ⟨_, (pss_cons (ps_if (PW.pt (pw_or (pt_not (pt_val (pe_callB call_isi (by rfl) T.m_isinstance (by decide +kernel) (pa_cons (pv 0) (pa_cons (pe_bltn (v := .ty "int") (by rfl) T.m_int (by decide +kernel) rfl) pa_nil))))) (pw_or1 (pt_val (pe_callB call_isi (by rfl) T.m_isinstance (by decide +kernel) (pa_cons (pv 0) (pa_cons (pe_bltn (v := .ty "bool") (by rfl) T.m_bool (by decide +kernel) rfl) pa_nil)))))))
      (pss_one (ps_ret pe_bl))
      pss_nil)
      (pss_one (ps_ret (pe_cmpR op_lt (pe_callB call_abs (by rfl) T.m_abs (by decide +kernel) (pa_cons (pv 0) pa_nil)) (pe_op op_pow pe_int pe_int) (nomark _))))), ?_⟩
    walk_at "rd"
    refine ⟨_, _, _, _, true, rfl, .ty _, .base (.int _), kit_ty (by decide +kernel), ?_⟩
    walk_at "rd"
    refine ⟨_, _, _, _, false, rfl, .ty _, .base (.int _), kit_ty (by decide +kernel), ?_⟩
    walk_at "rd"
    refine ⟨⟨by decide, by decide, by decide⟩, ?_⟩
    walk_at "rd"
    show Q (.bl (decide ((if x < 0 then -x else x) < (10 : Int) ^ (30 : Int).toNat))) _
    rw [big_eq, decide_eq_true (by split <;> omega)]
    exact k
theorem ok_is_tolerance (T : Txt w K mg) : FnOk P w K mg base CX0 2 T.f_is_tolerance T.d_is_tolerance ["thing"] spIsTol := by
  refine T.F_is_tolerance.ok sc_is_tolerance (fun vs H Q E h => ?_) (fun cdv A outer s H vs Q E hr h => ?_)
  · obtain ⟨x, rfl, _⟩ := h
    rfl
  · obtain ⟨x, rfl, h1, h2, k⟩ := h
    refine ⟨_, (pss_one (ps_ret (pe_and (pe_call (ok_is_number T) (hr.mono (by decide)) (by rfl) T.m_is_number T.F_is_number.kp T.b_is_number .nil pass0 (pa_cons (pv 0) pa_nil)) (pe_one (pe_cmpR op_ge (pv 0) pe_int (nomark _)))))), ?_⟩
    walk_at "rd"
    refine ⟨by unfold big at *; omega, h2, ?_⟩
    walk_at "rd"
    show Q (.bl (decide (1 ≤ x))) _
    rw [decide_eq_true h1]
    exact k
theorem ok_check_number (T : Txt w K mg) : FnOk P w K mg base CX0 2 T.f_check_number T.d_check_number ["number"] spChkNum := by
  refine T.F_check_number.ok sc_check_number (fun vs H Q E h => ?_) (fun cdv A outer s H vs Q E hr h => ?_)
  · obtain ⟨x, rfl, _⟩ := h
    rfl
  · obtain ⟨x, rfl, h1, h2, k⟩ := h
    refine ⟨_, (pss_one (ps_if (pt_not (pt_val (pe_call (ok_is_number T) (hr.mono (by decide)) (by rfl) T.m_is_number T.F_is_number.kp T.b_is_number .nil pass0 (pa_cons (pv 0) pa_nil))))
      (pss_one ps_never)
      pss_nil)), ?_⟩
    walk_at "rd"
    refine ⟨h1, h2, ?_⟩
    walk_at "rd"
    exact k
theorem ok_check_tolerance (T : Txt w K mg) : FnOk P w K mg base CX0 3 T.f_check_tolerance T.d_check_tolerance ["tolerance"] spChkTol := by
  refine T.F_check_tolerance.ok sc_check_tolerance (fun vs H Q E h => ?_) (fun cdv A outer s H vs Q E hr h => ?_)
  · obtain ⟨x, rfl, _⟩ := h
    rfl
  · obtain ⟨x, rfl, h1, h2, k⟩ := h
    refine ⟨_, (pss_one (ps_if (pt_not (pt_val (pe_call (ok_is_tolerance T) (hr.mono (by decide)) (by rfl) T.m_is_tolerance T.F_is_tolerance.kp T.b_is_tolerance .nil pass0 (pa_cons (pv 0) pa_nil))))
      (pss_one ps_never)
      pss_nil)), ?_⟩
    walk_at "rd"
    refine ⟨h1, h2, ?_⟩
    walk_at "rd"
    exact k
theorem ok_sign_of (T : Txt w K mg) : FnOk P w K mg base CX0 1 T.f_sign_of T.d_sign_of ["rest", "other"] spSign := by
  refine T.F_sign_of.ok sc_sign_of (fun vs H Q E h => ?_) (fun cdv A outer s H vs Q E hr h => ?_)
  · obtain ⟨r, s, rfl, _⟩ := h
    rfl
  · obtain ⟨r, s, rfl, k⟩ := h
    refine ⟨_, (pss_cons (ps_if (pt_cmpR op_lt (pv 0) (pv 1) (nomark _))
      (pss_one (ps_ret pe_str))
      pss_nil)
      (pss_cons (ps_if (pt_cmpR op_gt (pv 0) (pv 1) (nomark _))
      (pss_one (ps_ret pe_str))
      pss_nil)
      (pss_one (ps_ret pe_str)))), ?_⟩
    walk_at "rd"
    unfold sgn at k
    refine ifd (fun c => ?_) (fun c => ?_)
    · rw [if_pos c] at k
      exact k
    · rw [if_neg c] at k
      walk_at "rd"
      refine ifd (fun d => ?_) (fun d => ?_)
      · rw [if_pos d] at k
        exact k
      · rw [if_neg d] at k
        exact k
theorem ok_place_at (T : Txt w K mg) : FnOk P w K mg base CX0 1 T.f_place_at T.d_place_at ["step", "sign"] spPlaceAt := by
  refine T.F_place_at.ok sc_place_at (fun vs H Q E h => ?_) (fun cdv A outer s H vs Q E hr h => ?_)
  · obtain ⟨d, r, s, rfl, _⟩ := h
    rfl
  · obtain ⟨d, r, s, rfl, q'⟩ := h
    refine ⟨_, (pss_cons (ps_if (pt_cmpR op_le (pv 0) (pe_un un_neg pe_int) (nomark _))
      (pss_one (ps_ret pe_str))
      pss_nil)
      (pss_cons (ps_if (pt_cmpR op_ge (pv 0) pe_int (nomark _))
      (pss_one (ps_ret pe_str))
      pss_nil)
      (pss_cons (ps_if (pt_cmpR op_eq (pv 0) (pe_un un_neg pe_int) (nomark _))
      (pss_one (ps_ret (pe_op op_add_str pe_str (pv 1))))
      pss_nil)
      (pss_cons (ps_if (pt_cmpR op_eq (pv 0) pe_int (nomark _))
      (pss_one (ps_ret (pe_op op_add_str pe_str (pv 1))))
      pss_nil)
      (pss_one (ps_ret (pv 1))))))), ?_⟩
    unfold plcD at q'
    walk_at "rd"
    refine ifd (fun c => ?_) (fun c => ?_)
    · rw [if_pos c] at q'
      exact q'
    rw [if_neg c] at q'
    walk_at "rd"
    refine ifd (fun c => ?_) (fun c => ?_)
    · rw [if_pos c] at q'
      exact q'
    rw [if_neg c] at q'
    walk_at "rd"
    refine ifd (fun c => ?_) (fun c => ?_)
    · rw [if_pos (V.int.inj c)] at q'
      walk_at "rd"
      exact ⟨sgn_len _ _, q'⟩
    rw [if_neg (fun z => c (congrArg V.int z))] at q'
    walk_at "rd"
    refine ifd (fun c => ?_) (fun c => ?_)
    · rw [if_pos (V.int.inj c)] at q'
      walk_at "rd"
      exact ⟨sgn_len _ _, q'⟩
    rw [if_neg (fun z => c (congrArg V.int z))] at q'
    walk_at "rd"
    exact q'
theorem ok_place (T : Txt w K mg) : FnOk P w K mg base CX0 4 T.f_place T.d_place ["x", "kept", "tolerance"] spPlace := by
  refine T.F_place.ok sc_place (fun vs H Q E h => ?_) (fun cdv A outer s H vs Q E hr h => ?_)
  · obtain ⟨x, k, e, rfl, _⟩ := h
    rfl
  · obtain ⟨x, k, e, rfl, x1, x2, k1, k2, e1, e2, q⟩ := h
    refine ⟨_, (pss_cons (ps_expr (pe_call (ok_check_number T) (hr.mono (by decide)) (by rfl) T.m_check_number T.F_check_number.kp T.b_check_number .nil pass0 (pa_cons (pv 0) pa_nil)))
      (pss_cons (ps_expr (pe_call (ok_check_number T) (hr.mono (by decide)) (by rfl) T.m_check_number T.F_check_number.kp T.b_check_number .nil pass0 (pa_cons (pv 1) pa_nil)))
      (pss_cons (ps_expr (pe_call (ok_check_tolerance T) (hr.mono (by decide)) (by rfl) T.m_check_tolerance T.F_check_tolerance.kp T.b_check_tolerance .nil pass0 (pa_cons (pv 2) pa_nil)))
      (pss_cons (ps_asg (pe_callB call_divmodW (by rfl) T.m_divmod (by decide +kernel) (pa_cons (pv 0) (pa_cons (pv 2) pa_nil))) (pg_tup (by rfl) (pgs_cons (pg_name (i := 3) sc_place.nd rfl (Or.inl rfl)) (pgs_cons (pg_name (i := 4) sc_place.nd rfl (Or.inl rfl)) pgs_nil))))
      (pss_cons (ps_asg (pe_callB call_divmodW (by rfl) T.m_divmod (by decide +kernel) (pa_cons (pv 1) (pa_cons (pv 2) pa_nil))) (pg_tup (by rfl) (pgs_cons (pg_name (i := 5) sc_place.nd rfl (Or.inl rfl)) (pgs_cons (pg_name (i := 6) sc_place.nd rfl (Or.inl rfl)) pgs_nil))))
      (pss_one (ps_ret (pe_call (ok_place_at T) (hr.mono (by decide)) (by rfl) T.m_place_at T.F_place_at.kp T.b_place_at .nil pass0 (pa_cons (pe_op op_sub (pv 3) (pv 5)) (pa_cons (pe_call (ok_sign_of T) (hr.mono (by decide)) (by rfl) T.m_sign_of T.F_sign_of.kp T.b_sign_of .nil pass0 (pa_cons (pv 4) (pa_cons (pv 6) pa_nil))) pa_nil)))))))))), ?_⟩
    walk_at "rd"
    refine ⟨x1, x2, ?_⟩
    walk_at "rd"
    refine ⟨k1, k2, ?_⟩
    walk_at "rd"
    refine ⟨e1, e2, ?_⟩
    walk_at "rd"
    refine ⟨div_ok x1 x2 e1, fun p hp => ?_⟩
    have s1 : Same H (upd H p (.tup [.int (x / e), .int (x % e)])) := Same.new hp
    refine ⟨_, _, rfl, SqT.of upd_same, rfl, ?_⟩
    walk_at "rd"
    refine ⟨div_ok k1 k2 e1, fun p2 hp2 => ?_⟩
    refine ⟨_, _, rfl, SqT.of upd_same, rfl, ?_⟩
    have s2 := s1.trans (Same.new (o := .tup [.int (k / e), .int (k % e)]) hp2)
    walk_at "rd"
    exact ⟨_, _, _, rfl, q _ s2⟩
theorem ok_law_tolerance (T : Txt w K mg) : FnOk P w K mg base CX0 2 T.f_law_tolerance T.d_law_tolerance ["_law_source_here"] spTol := by
  refine T.F_law_tolerance.ok sc_law_tolerance (fun vs H Q E h => ?_) (fun cdv A outer s H vs Q E hr h => ?_)
  · obtain ⟨p, n, rfl, _⟩ := h
    rfl
  · obtain ⟨p, n, rfl, S, hn, k⟩ := h
    refine ⟨_, (pss_one (ps_ret (pe_ix ix_list (pe_lst (pa_cons pe_int (pa_cons pe_int (pa_cons pe_int (pa_cons pe_int (pa_cons pe_int (pa_cons pe_int (pa_cons pe_int (pa_cons (pe_op op_pow pe_int pe_int) pa_nil))))))))) (pe_call (ok_law_draw T) (hr.mono (by decide)) (by rfl) T.m_law_draw T.F_law_draw.kp T.b_law_draw .nil pass0 (pa_cons (pv 0) (pa_cons pe_int pa_nil))) (fun _ _ => rfl)))), ?_⟩
    walk_at "rd"
    refine ⟨⟨by decide, by decide, by decide⟩, ?_⟩
    refine ⟨by show 8 ≤ sizeLine; decide, fun t ht => ?_⟩
    walk_at "rd"
    refine ⟨p, 8, n, rfl, S.same (Same.new ht), hn, by decide, by decide, fun d H' d0 d1 hb S' => ?_⟩
    have pt : t ≠ p := fun z => by
      obtain ⟨_, _, _, e, _⟩ := S
      rw [z, e] at ht
      cases ht
    have e1 := hb t _ pt upd_same
    have hk := fun (d : Int) (a : 1 ≤ d) (b : d ≤ 1000000) => k d H' a b ((Same.but (Same.new ht)).trans hb) S'
    rcases (by omega : d = 0 ∨ d = 1 ∨ d = 2 ∨ d = 3 ∨ d = 4 ∨ d = 5 ∨ d = 6 ∨ d = 7) with z | z | z | z | z | z | z | z
    all_goals subst z
    all_goals exact ix_of (SqL.of e1) rfl (hk _ (by decide) (by decide))
theorem ok_checked_rules (T : Txt w K mg) : FnOk P w K mg base CX0 4 T.f_checked_rules T.d_checked_rules ["rules"] (spCheckedRules K) := by
  refine T.F_checked_rules.ok sc_checked_rules (fun vs H Q E h => ?_) (fun cdv A outer s H vs Q E hr h => ?_)
  · obtain ⟨b, l, xs, rs, rfl, _⟩ := h
    rfl
  · obtain ⟨b, l, xs, rs, rfl, hS, hin, hv, k⟩ := h
    refine ⟨_, (pss_cons (ps_set (i := 1) sc_checked_rules.nd rfl (Or.inl rfl) (pe_lst pa_nil))
      (pss_cons (ps_set (i := 2) sc_checked_rules.nd rfl (Or.inl rfl) pe_dnewK)
      (pss_cons (ps_for PassesOwn.never rfl (pi_enumS (by rfl) T.m_enumerate (pa_cons (pv 0) pa_nil) (pk_cons pe_int pk_nil)) (pg_seqU (by rfl) (pgs_cons (pg_name (i := 3) sc_checked_rules.nd rfl (Or.inl rfl)) (pgs_cons (pg_name (i := 4) sc_checked_rules.nd rfl (Or.inl rfl)) pgs_nil)))
      (pss_cons (ps_if (PW.pt (pw_or (pt_cmpR op_gt (pv 3) (pe_glob (v := .int 40) rfl T.m_MOST_RULES ⟨_, rfl⟩) (nomark _)) (pw_or1 (pt_not (pt_val (pe_call (ok_is_rule T) (hr.mono (by decide)) (by rfl) T.m_is_rule T.F_is_rule.kp T.b_is_rule .nil pass0 (pa_cons (pv 4) pa_nil)))))))
      (pss_one ps_never)
      pss_nil)
      (pss_cons (ps_asg (pv 4) (pg_seqU (by rfl) (pgs_cons (pg_name (i := 5) sc_checked_rules.nd rfl (Or.inl rfl)) (pgs_cons (pg_name (i := 6) sc_checked_rules.nd rfl (Or.inl rfl)) (pgs_cons (pg_name (i := 7) sc_checked_rules.nd rfl (Or.inl rfl)) (pgs_cons (pg_name (i := 8) sc_checked_rules.nd rfl (Or.inl rfl)) (pgs_cons (pg_name (i := 9) sc_checked_rules.nd rfl (Or.inl rfl)) pgs_nil)))))))
      (pss_cons (ps_dput (hu_of hr) (pv 2) (pv 5) pe_bl rfl)
      (pss_cons (ps_dput (hu_of hr) (pv 2) (pv 9) pe_bl rfl)
      (pss_cons (ps_if (pt_cmpR op_gt (pe_callB call_lenD (by rfl) T.m_len (by decide +kernel) (pa_cons (pv 2) pa_nil)) (pe_glob (v := .int 6) rfl T.m_MOST_STATES ⟨_, rfl⟩) (nomark _))
      (pss_one ps_never)
      pss_nil)
      (pss_one (ps_expr (pe_bm PySem.F.plainAttrs_list PySem.F.slot_list_append PySem.F.type_list_append mt_append (pv 1) (pa_cons (pe_tup (pa_cons (pv 5) (pa_cons (pe_callTy call_tuple_of (by rfl) T.m_tuple (by decide +kernel) (pa_cons (pv 6) pa_nil)) (pa_cons (pv 7) (pa_cons (pv 8) (pa_cons (pv 9) pa_nil)))))) pa_nil))))))))))
      (pss_cons (ps_if (pt_cmpR op_eq (pe_callB call_len_seq (by rfl) T.m_len (by decide +kernel) (pa_cons (pv 1) pa_nil)) pe_int (nomark _))
      (pss_one ps_never)
      pss_nil)
      (pss_one (ps_ret (pe_tup (pa_cons (pe_callTy call_tuple_of (by rfl) T.m_tuple (by decide +kernel) (pa_cons (pv 1) pa_nil)) (pa_cons (pe_callTy (call_tupleD rfl) (by rfl) T.m_tuple (by decide +kernel) (pa_cons (pv 2) pa_nil)) pa_nil))))))))), ?_⟩
    refine ⟨by show 0 ≤ sizeLine; decide, fun c hc => ?_⟩
    generalize hH : upd _ c _ = H1
    obtain ⟨s1, dc⟩ := new_of (o' := .lst []) hH hc rfl
    clear hH
    refine fun d hd => ?_
    generalize hH : upd _ d _ = H2
    obtain ⟨s2, dd⟩ := new_of (o' := .dK (trues [])) hH hd rfl
    clear hH
    have cd : c ≠ d := ne_of_none dc hd
    have hd0 : H d = none := s1.free hd
    have e := Paired.length hin
    refine ⟨_, rfl, b, l, xs, 1, rfl, rfl, by decide, by decide, SqB.same hS (s1.trans s2), ?_⟩
    refine for_it (walk_enumB (K := K) (a := l) (xs := xs) (b := b) (c := 1)) (fun i σ H' => ∃ (ys : List V) (v3 v4 v5 v6 v7 v8 v9 : Option V), σ = [some (.ref l), some (.ref c), some (.ref d), v3, v4, v5, v6, v7, v8, v9] ∧ Same H H' ∧ H' c = some (.lst ys) ∧ RulesT H' ys (rs.take i) ∧ H' d = some (.dK (trues (statesOf (rs.take i)))))
      ⟨[], none, none, none, none, none, none, none, rfl, s1.trans s2, s2 _ _ dc, .nil, dd⟩ (fun i σ H' _ ⟨_, _, _, _, _, _, _, _, _, z, _⟩ => SqB.same hS z) ?_ ?_
    · rintro i x σ H3 H4 hi ⟨ys, v3, v4, v5, v6, v7, v8, v9, rfl, s3, c3, t3, d3⟩ ⟨t, x, y, rfl, ht, rfl, hx, hy⟩
      cases hx
      obtain ⟨r, hr', hin'⟩ := paired_at hin hy
      have hil : i < rs.length := (List.getElem?_eq_some_iff.mp hr').1
      have rv := hv.all r (List.mem_of_getElem? hr')
      generalize hH : upd _ t _ = H5
      obtain ⟨s5, dt⟩ := new_of (o' := .tup [.int (1 + (i : Nat)), y]) hH ht rfl
      clear hH
      refine Or.inl ⟨_, _, rfl, SqT.of dt, rfl, ?_⟩
      walk_at "rd"
      have rin5 := (hin'.same s3).same s5
      have hlen := hv.len
      rw [decide_eq_false (show ¬ (40 : Int) < 1 + (i : Nat) by omega)]
      walk_at "rd"
      refine ⟨y, r, rfl, rin5, rv, fun H6 s6 => ?_⟩
      walk_at "rd"
      obtain ⟨tr, gr, rfl, h1, h2⟩ := rin5.same s6
      have s36 : Same H3 H6 := s5.trans s6
      have d6 := s36 _ _ d3
      have c6 := s36 _ _ c3
      have mst := states_more hr'
      have hst := states_mono rs (i + 1)
      have hst2 := hv.sts
      rw [mst] at hst ⊢
      have la := addS_ge (addS (statesOf (rs.take i)) r.st) r.nx
      have lb := addS_ge (statesOf (rs.take i)) r.st
      generalize statesOf (rs.take i) = acc at d6 hst la lb ⊢
      have lt : ∀ n : Nat, n ≤ 6 → n < sizeLine := fun n h => Nat.lt_of_le_of_lt h (by decide)
      have lt2 : ∀ n : Nat, n ≤ 40 → n < sizeLine := fun n h => Nat.lt_of_le_of_lt h (by decide)
      refine h1.elim (fun h => Or.inr ⟨_, _, rfl, SqL.of h, rfl, ?_⟩) (fun h => Or.inl ⟨_, _, rfl, SqT.of h, rfl, ?_⟩)
      all_goals
        walk_at "rd"
        refine ⟨_, _, rfl, DPut.k (k := Sum.inr r.st) d6 (lt _ (by unfold trues; rw [List.length_map]; omega)), ?_⟩
        rw [trues_put]
        generalize hH : upd _ d _ = H7
        obtain ⟨u7, d7⟩ := chg_of (o' := .dK (trues (addS acc r.st))) hH rfl
        clear hH
        walk_at "rd"
        refine ⟨_, _, rfl, DPut.k (k := Sum.inr r.nx) d7 (lt _ (by unfold trues; rw [List.length_map]; omega)), ?_⟩
        rw [trues_put]
        generalize hH : upd _ d _ = H8
        obtain ⟨u8, d8⟩ := chg_of (o' := .dK (trues (addS (addS acc r.st) r.nx))) hH rfl
        clear hH
        walk_at "rd"
        refine ⟨_, _, rfl, d8, ?_⟩
        walk_at "rd"
        rw [decide_eq_false (show ¬ (6 : Int) < ((trues (addS (addS acc r.st) r.nx)).length : Nat) by unfold trues; rw [List.length_map]; omega)]
        walk_at "rd"
        have u68 : But d H6 H8 := u7.trans u8
        have c8 := u68 _ _ cd c6
        have S08 : Same H H8 := fun b o q => u68 _ _ (ne_of_none q hd0) (s36 _ _ (s3 _ _ q))
        have gd : gr ≠ d := fun q => by
          subst q
          rcases h2 with q | q
          · rw [d6] at q; cases q
          · rw [d6] at q; cases q
        refine ⟨.inl ⟨rfl, _, SqL.of c8⟩, ?_⟩
        walk_at "rd"
        rcases h2 with h2 | h2
        · have h8 := u68 _ _ gd h2
          refine ⟨_, _, rfl, .inl ⟨SqL.of h8, fun g2 hg2 => ?_⟩⟩
          generalize hH : upd _ g2 _ = H9
          obtain ⟨s9, dg9⟩ := new_of (o' := .tup (r.gs.map V.str)) hH hg2 rfl
          clear hH
          walk_at "rd"
          refine ⟨by show 5 ≤ sizeLine; decide, fun t2 ht2 => ?_⟩
          generalize hH : upd _ t2 _ = H10
          obtain ⟨s10, dt2⟩ := new_of (o' := .tup [.str r.st, .ref g2, .str r.wd, .bl r.kp, .str r.nx]) hH ht2 rfl
          clear hH
          have s810 := s9.trans s10
          have tr' : RulesT H10 ys (rs.take i) := paired_map (fun _ _ z => (((z.same s36).but (fun ys q => by rw [d6] at q; cases q) u68).same s810)) t3
          have hlen2 := Paired.length tr'
          rw [List.length_take] at hlen2
          refine ⟨_, _, _, rfl, rfl, s810 _ _ c8, lt2 _ (by omega), ?_⟩
          generalize hH : upd _ c _ = H11
          obtain ⟨u11, d11⟩ := chg_of (o' := .lst (ys ++ [.ref t2])) hH rfl
          clear hH
          have nt : ∀ ys, H10 c ≠ some (.tup ys) := fun ys q => by rw [s810 _ _ c8] at q; cases q
          refine ⟨ys ++ [.ref t2], _, _, _, _, _, _, _, rfl, fun b o q => u11 _ _ (ne_of_none q hc) (s810 _ _ (S08 _ _ q)), d11, ?_, u11 _ _ cd.symm (s810 _ _ d8)⟩
          rw [take_more hr']
          exact paired_snoc (RuleT.but ⟨t2, g2, rfl, dt2, s10 _ _ dg9⟩ nt u11) (paired_map (fun _ _ z => z.but nt u11) tr')
        · have dg9 := u68 _ _ gd h2
          have s9 : Same H8 H8 := Same.refl _
          refine ⟨_, _, rfl, .inr ⟨SqT.of dg9, ?_⟩⟩
          walk_at "rd"
          refine ⟨by show 5 ≤ sizeLine; decide, fun t2 ht2 => ?_⟩
          generalize hH : upd _ t2 _ = H10
          obtain ⟨s10, dt2⟩ := new_of (o' := .tup [.str r.st, .ref gr, .str r.wd, .bl r.kp, .str r.nx]) hH ht2 rfl
          clear hH
          have s810 := s9.trans s10
          have tr' : RulesT H10 ys (rs.take i) := paired_map (fun _ _ z => (((z.same s36).but (fun ys q => by rw [d6] at q; cases q) u68).same s810)) t3
          have hlen2 := Paired.length tr'
          rw [List.length_take] at hlen2
          refine ⟨_, _, _, rfl, rfl, s810 _ _ c8, lt2 _ (by omega), ?_⟩
          generalize hH : upd _ c _ = H11
          obtain ⟨u11, d11⟩ := chg_of (o' := .lst (ys ++ [.ref t2])) hH rfl
          clear hH
          have nt : ∀ ys, H10 c ≠ some (.tup ys) := fun ys q => by rw [s810 _ _ c8] at q; cases q
          refine ⟨ys ++ [.ref t2], _, _, _, _, _, _, _, rfl, fun b o q => u11 _ _ (ne_of_none q hc) (s810 _ _ (S08 _ _ q)), d11, ?_, u11 _ _ cd.symm (s810 _ _ d8)⟩
          rw [take_more hr']
          exact paired_snoc (RuleT.but ⟨t2, gr, rfl, dt2, s10 _ _ dg9⟩ nt u11) (paired_map (fun _ _ z => z.but nt u11) tr')
    · rintro σ H3 ⟨ys, v3, v4, v5, v6, v7, v8, v9, rfl, s3, c3, t3, d3⟩
      rw [e, List.take_length] at t3 d3
      have hlen := Paired.length t3
      walk_at "rd"
      refine ⟨_, _, rfl, .inl (SqL.of c3), ?_⟩
      walk_at "rd"
      rw [decide_eq_false (show ¬ V.int (ys.length : Nat) = V.int 0 from fun q => by
        have q' : (ys.length : Int) = 0 := by injection q
        have := hv.pos
        omega)]
      walk_at "rd"
      refine ⟨_, _, rfl, .inl ⟨SqL.of c3, fun c2 hc2 => ?_⟩⟩
      generalize hH : upd _ c2 _ = H4
      obtain ⟨s4, d4⟩ := new_of (o' := .tup ys) hH hc2 rfl
      clear hH
      walk_at "rd"
      refine ⟨_, _, rfl, .inl (s4 _ _ d3), fun st hst => ?_⟩
      rw [trues_keys]
      generalize hH : upd _ st _ = H5
      obtain ⟨s5, d5⟩ := new_of (o' := .tup ((statesOf rs).map V.str)) hH hst rfl
      clear hH
      refine ⟨by show 2 ≤ sizeLine; decide, fun p hp => ?_⟩
      generalize hH : upd _ p _ = H6
      obtain ⟨s6, d6⟩ := new_of (o' := .tup [.ref c2, .ref st]) hH hp rfl
      clear hH
      exact k p c2 st ys H6 (((s3.trans s4).trans s5).trans s6) d6 (s6 _ _ (s5 _ _ d4)) (paired_map (fun _ _ z => z.same ((s4.trans s5).trans s6)) t3) (s6 _ _ d5)
theorem ok_group (T : Txt w K mg) : FnOk P w K mg base CX0 2 T.f_group T.d_group ["name"] (spGroup K) := by
  refine T.F_group.ok sc_group (fun vs H Q E h => ?_) (fun cdv A outer s H vs Q E hr h => ?_)
  · obtain ⟨z, rfl, _⟩ := h
    rfl
  · obtain ⟨z, rfl, k⟩ := h
    refine ⟨_, (pss_cons (ps_if (pt_not (pt_val (pe_call (ok_is_group T) (hr.mono (by decide)) (by rfl) T.m_is_group T.F_is_group.kp T.b_is_group .nil pass0 (pa_cons (pv 0) pa_nil))))
      (pss_one ps_never)
      pss_nil)
      (pss_cons (ps_if (pt_val (pe_call (ok_is_place T) (hr.mono (by decide)) (by rfl) T.m_is_place T.F_is_place.kp T.b_is_place .nil pass0 (pa_cons (pv 0) pa_nil)))
      (pss_one (ps_ret (pe_tup (pa_cons (pv 0) pa_nil))))
      pss_nil)
      (pss_one (ps_ret (pe_ix ix_kdict (pe_glob (v := .ref T.a_GROUPS) rfl T.m_GROUPS rfl) (pv 0) (fun _ _ => rfl)))))), ?_⟩
    have hin : decide (z ∈ placesL ∨ z ∈ l_GROUPS.map (·.1)) = true := decide_eq_true (by
      rcases k with ⟨j, ps, hj, _⟩ | ⟨h, _⟩
      · exact .inr (names_in hj)
      · exact .inl h)
    walk_at "rd"
    refine Or.inl ⟨z, rfl, ?_⟩
    rw [hin]
    walk_at "rd"
    refine Or.inl ⟨z, rfl, ?_⟩
    by_cases h1 : z ∈ placesL
    · rw [decide_eq_true h1]
      walk_at "rd"
      rcases k with ⟨j, ps, hj, _⟩ | ⟨_, k⟩
      · exact absurd h1 (names_no z (names_in hj))
      exact ⟨by show 1 ≤ sizeLine; decide, k⟩
    · rw [decide_eq_false h1]
      walk_at "rd"
      rcases k with ⟨j, ps, hj, k⟩ | ⟨h, _⟩
      · obtain ⟨u, hu, hq⟩ := T.y_GROUPS j z ps hj
        exact ⟨_, _, .ref u, rfl, rfl, ⟨_, _, _, T.kd_GROUPS.at_, T.kd_GROUPS.lit, hu, rfl⟩, k u hq⟩
      · exact absurd h h1
--SPLIT
/-! ### answers -/
def AnsOk (z : Str) : Prop := IsName z ∨ z = ""
theorem AnsOk.line {z : Str} (h : AnsOk z) : z.length ≤ sizeLine := by
  rcases h with h | h
  · exact h.line
  · rw [h]
    decide
def spIsAnswer : Sp := fun vs H Q _ => ∃ z : Str, vs = [.str z] ∧ AnsOk z ∧ ∀ H', Same H H' → Q (.bl true) H'
def ansKv (as : List (Str × Str)) : List (Key × V) := as.map fun p => (Sum.inr p.1, V.str p.2)
def ansOf (as : List (Str × Str)) (z : Str) : Str := (as.lookup z).getD ""
theorem ansKv_val (z : Str) : ∀ as : List (Str × Str), valV (ansKv as) (Sum.inr z : Key) = (as.lookup z).map V.str
  | [] => rfl
  | (a, b) :: r => by
    have ih := ansKv_val z r
    rw [List.lookup_cons]
    by_cases h : z = a
    · subst h
      rw [show (z == z) = true from beq_self_eq_true z]
      exact valV_pos (p := ((Sum.inr z : Key), V.str b)) rfl
    · rw [show (z == a) = false by simpa using h]
      refine Eq.trans (valV_neg (p := ((Sum.inr a : Key), V.str b)) fun q => ?_) ih
      cases q
      exact h rfl
theorem ansKv_get (as : List (Str × Str)) (z : Str) : (valV (ansKv as) (Sum.inr z : Key)).getD (V.str "") = V.str (ansOf as z) := by
  rw [ansKv_val]
  unfold ansOf
  cases as.lookup z <;> rfl
/-- what is passed as answers: None, or a dict -/
def AnsAt (H : Hp) (v : V) (as : List (Str × Str)) : Prop := (v = .non ∧ as = []) ∨ ∃ a, v = .ref a ∧ H a = some (.dK (ansKv as))
structure AnsV (zs : List Str) (as : List (Str × Str)) : Prop where
  inn : ∀ p ∈ as, p.1 ∈ zs
  few : as.length < 64
  all : ∀ z ∈ zs, AnsOk (ansOf as z)
def spCheckedAnswers (K : PySem.W.Frag) : Sp := fun vs H Q _ => ∃ (s : Addr) (v : V) (zs : List Str) (as : List (Str × Str)), vs = [.ref s, v] ∧ H s = some (.tup (zs.map V.str)) ∧ AnsAt H v as ∧ AnsV zs as ∧ zs.length ≤ 6 ∧
  ∀ (p : Addr) (H' : Hp), Same H H' → H' p = some (.tup ((zs.map (ansOf as)).map V.str)) → Q (.ref p) H'
/-! ### the rule that is used -/
theorem ifc {a b : Prop} {α : Type} {x y : α} {ia : Decidable a} {ib : Decidable b} (h : a ↔ b) : @ite _ a ia x y = @ite _ b ib x y := by
  by_cases p : a
  · rw [if_pos p, if_pos (h.mp p)]
  · rw [if_neg p, if_neg fun q => p (h.mpr q)]
def noneS : Str := "none"
def plsOf (g : Str) : List Str := if g = noneS then [noneS] else grpL g
def rulePls (r : Rul) : List Str := r.gs.flatMap plsOf
def fitR (z pl : Str) (r : Rul) : Bool := decide (r.st = z) && decide (pl ∈ rulePls r)
def fitIx (rs : List Rul) (z pl : Str) : Option Nat := rs.findIdx? (fitR z pl)
theorem fitIx_more {rs : List Rul} {i : Nat} {r : Rul} (h : rs[i]? = some r) (z pl : Str) : fitIx (rs.take (i + 1)) z pl = (fitIx (rs.take i) z pl).or (if fitR z pl r = true then some i else none) := by
  have hi : i < rs.length := (List.getElem?_eq_some_iff.mp h).1
  unfold fitIx
  rw [take_more h, List.findIdx?_append, List.length_take, Nat.min_eq_left (Nat.le_of_lt hi)]
  congr 1
  by_cases e : fitR z pl r = true
  · rw [if_pos e, List.findIdx?_cons, if_pos e]
    simp
  · rw [if_neg e, List.findIdx?_cons, if_neg e]
    rfl
/-- what the dict tells: of the rules taken whole, then of those places of the rule r (the i-th) that were done -/
def UsedIs (kvs : List (List Key × V)) (rs : List Rul) (st : Str) (i : Nat) (done : List Str) : Prop :=
  ∀ z pl : Str, valV kvs [Sum.inr z, Sum.inr pl] = ((fitIx rs z pl).or (if st = z ∧ pl ∈ done then some i else none)).map fun n => V.int (n : Nat)
theorem UsedIs.there {kvs : List (List Key × V)} {rs : List Rul} {st : Str} {i : Nat} {done : List Str} {p : Str} (h : UsedIs kvs rs st i done) {v : V} (e : valV kvs [Sum.inr st, Sum.inr p] = some v) : UsedIs kvs rs st i (done ++ [p]) := fun z pl => by
  rw [h z pl]
  by_cases q : st = z ∧ pl = p
  · obtain ⟨rfl, rfl⟩ := q
    rw [h st pl] at e
    cases e2 : fitIx rs st pl with
    | some n => rfl
    | none =>
      rw [e2] at e
      by_cases m : pl ∈ done
      · rw [if_pos ⟨rfl, m⟩, if_pos ⟨rfl, List.mem_append_left _ m⟩]
      · rw [if_neg (fun z => m z.2)] at e
        cases e
  · congr 2
    refine ifc ⟨fun z => ⟨z.1, List.mem_append_left _ z.2⟩, fun y => ⟨y.1, ?_⟩⟩
    rcases List.mem_append.mp y.2 with m | m
    · exact m
    · exact absurd ⟨y.1, List.mem_singleton.mp m⟩ q
theorem UsedIs.put {kvs : List (List Key × V)} {rs : List Rul} {st : Str} {i : Nat} {done : List Str} {p : Str} (h : UsedIs kvs rs st i done) (e : valV kvs [Sum.inr st, Sum.inr p] = none) : UsedIs (putK kvs [Sum.inr st, Sum.inr p] (.int (i : Nat))) rs st i (done ++ [p]) := fun z pl => by
  rw [valV_put]
  by_cases q : st = z ∧ pl = p
  · obtain ⟨rfl, rfl⟩ := q
    rw [h st pl] at e
    rw [if_pos rfl, if_pos ⟨rfl, List.mem_append_right _ (List.mem_singleton.mpr rfl)⟩]
    cases e2 : fitIx rs st pl with
    | some n =>
      rw [e2] at e
      cases e
    | none => rfl
  · rw [if_neg (fun y => by
      have y1 : (Sum.inr z : Key) = Sum.inr st := by injection y
      have y2 : ([Sum.inr pl] : List Key) = [Sum.inr p] := by injection y
      have y3 : (Sum.inr pl : Key) = Sum.inr p := by injection y2
      cases y1
      cases y3
      exact q ⟨rfl, rfl⟩), h z pl]
    congr 2
    refine ifc ⟨fun z => ⟨z.1, List.mem_append_left _ z.2⟩, fun y => ⟨y.1, ?_⟩⟩
    rcases List.mem_append.mp y.2 with m | m
    · exact m
    · exact absurd ⟨y.1, List.mem_singleton.mp m⟩ q
theorem UsedIs.start {kvs : List (List Key × V)} {rs : List Rul} (h : ∀ z pl : Str, valV kvs [Sum.inr z, Sum.inr pl] = (fitIx rs z pl).map fun n => V.int (n : Nat)) (st : Str) (i : Nat) : UsedIs kvs rs st i [] := fun z pl => by
  rw [h z pl, if_neg (fun q => nomatch q.2), Option.or_none]
theorem UsedIs.next {kvs : List (List Key × V)} {rs : List Rul} {i : Nat} {r : Rul} (hr : rs[i]? = some r) (h : UsedIs kvs (rs.take i) r.st i (rulePls r)) (z pl : Str) : valV kvs [Sum.inr z, Sum.inr pl] = (fitIx (rs.take (i + 1)) z pl).map fun n => V.int (n : Nat) := by
  rw [h z pl, fitIx_more hr]
  congr 2
  refine ifc ?_
  unfold fitR
  rw [Bool.and_eq_true, decide_eq_true_eq, decide_eq_true_eq]
theorem grpL_len : ∀ z : Str, (grpL z).length ≤ 11 := fun z => by
  unfold grpL
  cases h : l_GROUPS.lookup z with
  | none => exact Nat.le_of_ble_eq_true rfl
  | some l =>
    have key : ∀ l : List (Str × List Str), (∀ p ∈ l, p.2.length ≤ 11) → ∀ y, l.lookup z = some y → y.length ≤ 11 := fun l => by
      induction l with
      | nil => intro _ y h; cases h
      | cons a r ih =>
        intro hl y hy
        rw [List.lookup_cons] at hy
        cases e : z == a.1 with
        | true =>
          rw [e] at hy
          cases hy
          exact hl a List.mem_cons_self
        | false =>
          rw [e] at hy
          exact ih (fun p hp => hl p (List.mem_cons_of_mem _ hp)) y hy
    exact key l_GROUPS (by decide +kernel) l h
theorem plsOf_len (g : Str) : (plsOf g).length ≤ 11 := by
  unfold plsOf
  split
  · exact Nat.le_of_ble_eq_true rfl
  · exact grpL_len g
theorem flat_more {α β : Type} {l : List α} {i : Nat} {x : α} (f : α → List β) (h : l[i]? = some x) : (l.take (i + 1)).flatMap f = (l.take i).flatMap f ++ f x := by
  rw [take_more h, List.flatMap_append]
  simp
def spUsedRules : Sp := fun vs H Q _ => ∃ (c : Addr) (ys : List V) (rs : List Rul), vs = [.ref c] ∧ H c = some (.tup ys) ∧ RulesT H ys rs ∧ RulsV rs ∧
  ∀ (d : Addr) (kvs : List (List Key × V)) (H' : Hp), Same H H' → H d = none → H' d = some (.dT kvs) → (∀ z pl : Str, valV kvs [Sum.inr z, Sum.inr pl] = (fitIx rs z pl).map fun n => V.int (n : Nat)) → Q (.ref d) H'
theorem grp_names {g : Str} (h : grpB g = true) : (∃ (j : Nat) (ps : List Str), l_GROUPS[j]? = some (g, ps) ∧ grpL g = ps) ∨ (g ∈ placesL ∧ grpL g = [g]) := by
  unfold grpB at h
  rcases of_decide_eq_true h with h | h
  · exact .inr ⟨h, grp_out fun q => names_no g q h⟩
  · obtain ⟨j, ps, hj⟩ := groups_at h
    refine .inl ⟨j, ps, hj, ?_⟩
    have key : ∀ p ∈ l_GROUPS, grpL p.1 = p.2 := by decide +kernel
    exact key (g, ps) (List.mem_of_getElem? hj)
--SPLIT
theorem ok_is_answer (T : Txt w K mg) : FnOk P w K mg base CX0 2 T.f_is_answer T.d_is_answer ["thing"] spIsAnswer := by
  refine T.F_is_answer.ok sc_is_answer (fun vs H Q E h => ?_) (fun cdv A outer s H vs Q E hr h => ?_)
  · obtain ⟨z, rfl, _⟩ := h
    rfl
  · obtain ⟨z, rfl, hz, k⟩ := h
    refine ⟨_, (pss_one (ps_ret (pe_or (pe_call (ok_is_name T) (hr.mono (by decide)) (by rfl) T.m_is_name T.F_is_name.kp T.b_is_name .nil pass0 (pa_cons (pv 0) pa_nil)) (pe_one (pe_and (pe_callB call_isi (by rfl) T.m_isinstance (by decide +kernel) (pa_cons (pv 0) (pa_cons (pe_bltn (v := .ty "str") (by rfl) T.m_str (by decide +kernel) rfl) pa_nil))) (pe_one (pe_cmpR op_eq (pv 0) pe_str (nomark _)))))))), ?_⟩
    walk_at "rd"
    refine Or.inl ⟨z, rfl, hz.line, fun H1 s1 => ?_⟩
    rcases hz with hz | hz
    · rw [nameB_iff.mpr hz]
      walk_at "rd"
      exact k H1 s1
    · subst hz
      rw [show nameB "" = false by decide +kernel]
      walk_at "rd"
      refine ⟨_, _, _, _, true, rfl, .ty _, .base (.str _), kit_ty (by decide +kernel), ?_⟩
      walk_at "rd"
      exact k H1 s1
theorem ok_checked_answers (T : Txt w K mg) : FnOk P w K mg base CX0 3 T.f_checked_answers T.d_checked_answers ["states", "answers"] (spCheckedAnswers K) := by
  refine T.F_checked_answers.ok sc_checked_answers (fun vs H Q E h => ?_) (fun cdv A outer s H vs Q E hr h => ?_)
  · obtain ⟨st, v, zs, as, rfl, _⟩ := h
    rfl
  · obtain ⟨st, v, zs, as, rfl, hst, ha, hv, hz, k⟩ := h
    refine ⟨_, (C8.pss_cut (ps_set (i := 2) sc_checked_answers.nd rfl (Or.inr rfl) (pe_ifExp (pt_cmpR op_isN (pv 1) pe_non (nomark _)) pe_dnewK (pv 1)))
      (C8.pss_cut (ps_for PassesOwn.never rfl (pi_list (pe_callB (call_sortedD rfl) (by rfl) T.m_sorted (by decide +kernel) (pa_cons (pv 2) pa_nil))) (pg_name (i := 3) sc_checked_answers.nd rfl (Or.inl rfl))
      (pss_one (ps_if (pt_cmpR op_notIn_seq (pv 3) (pv 0) (by rfl))
      (pss_one ps_never)
      pss_nil)))
      (pss_cons (ps_setLc (i := 4) (own := [("state", 3)]) (by rfl) sc_checked_answers.nd rfl rfl (sw_true rfl rfl rfl (by decide +kernel)) (pi_tup (pv 0)) (blkOk_by (own := [("state", 3)]) (N := ["states", "answers", "given", "state", "checked", "answer"]) (sc := defScope s_checked_answers) (by decide +kernel)) (fun _ _ _ _ _ => (pg_name (i := 3) sc_checked_answers.nd rfl (Or.inl rfl))) (fun _ _ _ _ _ => pts_nil) (fun _ _ _ _ _ => (pe_dget2 (hu_of hr) (pv 2) (pv 3) pe_str ⟨rfl, rfl, rfl, rfl⟩)))
      (pss_cons (ps_for PassesOwn.never rfl (pi_list (pv 4)) (pg_name (i := 5) sc_checked_answers.nd rfl (Or.inl rfl))
      (pss_one (ps_if (pt_not (pt_val (pe_call (ok_is_answer T) (hr.mono (by decide)) (by rfl) T.m_is_answer T.F_is_answer.kp T.b_is_answer .nil pass0 (pa_cons (pv 5) pa_nil))))
      (pss_one ps_never)
      pss_nil)))
      (pss_one (ps_ret (pe_callTy call_tuple_of (by rfl) T.m_tuple (by decide +kernel) (pa_cons (pv 4) pa_nil)))))))), ?_⟩
    refine ⟨fun σ H' => ∃ (g : Addr), σ = [some (.ref st), some v, some (.ref g), none, none, none] ∧ Same H H' ∧ H' g = some (.dK (ansKv as)), ?_, ?_⟩
    · walk_at "rd"
      rcases ha with ⟨rfl, rfl⟩ | ⟨a, rfl, ha⟩
      · walk_at "rd"
        refine fun g hg => ?_
        generalize hH : upd _ g _ = H1
        obtain ⟨s1, d1⟩ := new_of (o' := .dK (ansKv [])) hH hg rfl
        clear hH
        exact ⟨g, rfl, s1, d1⟩
      · rw [decide_eq_false (show ¬ V.ref a = V.non from fun q => by cases q)]
        walk_at "rd"
        exact ⟨Same.refl H, ha⟩
    rintro σ H1 ⟨g, rfl, s1, d1⟩
    refine ⟨fun σ H' => ∃ v3 : Option V, σ = [some (.ref st), some v, some (.ref g), v3, none, none] ∧ Same H1 H', ?_, ?_⟩
    · walk_at "rd"
      refine ⟨g, _, as.map (·.1), rfl, .inl d1, by unfold ansKv; rw [List.map_map, List.map_map]; rfl, by rw [List.length_map]; exact hv.few, fun ys p hp _ hn => ?_⟩
      generalize hH : upd _ p _ = H2
      obtain ⟨s2, d2⟩ := new_of (o' := .lst (ys.map V.str)) hH hn rfl
      clear hH
      refine ⟨p, rfl, ⟨_, SqL.of d2⟩, for_list (K := K) (a := p) (xs := ys.map V.str) (fun i σ H' => ∃ v3 : Option V, σ = [some (.ref st), some v, some (.ref g), v3, none, none] ∧ Same H2 H')
        ⟨_, rfl, Same.refl _⟩ (fun i σ H' _ ⟨_, _, z⟩ => z.seq (SqL.of d2)) ?_ ?_⟩
      · rintro i x σ H3 hx ⟨v3, rfl, s3⟩
        obtain ⟨z, rfl, hz⟩ := str_at hx
        have hin : z ∈ zs := by
          have m := hp.mem_iff.mp (List.mem_of_getElem? hz)
          obtain ⟨q, hq, e⟩ := List.mem_map.mp m
          rw [← e]
          exact hv.inn q hq
        walk_at "rd"
        refine ⟨_, _, rfl, .inr (SqT.of ((s1.trans s2).trans s3 _ _ hst)), rfl, flat_strs zs, ?_⟩
        refine ⟨!decide (z ∈ zs), congrArg (fun b => V.bl (!b)) (inV_strs z zs), ?_⟩
        rw [decide_eq_true hin]
        walk_at "rd"
        exact s3
      · rintro σ H3 ⟨v3, rfl, s3⟩
        exact ⟨_, rfl, s2.trans s3⟩
    rintro σ H2 ⟨v3, rfl, s2⟩
    have d2 := s2 _ _ d1
    have st2 := (s1.trans s2) _ _ hst
    refine ⟨_, rfl, st, rfl, ⟨_, SqT.of st2⟩, fun D hD => ?_⟩
    have gD : g ≠ D := ne_of_none d2 hD
    have stD : st ≠ D := ne_of_none st2 hD
    refine lc_tup (K := K) (a := st) (xs := zs.map V.str) (fun i H' => Same H2 H' ∧ H' D = some (.lst (((zs.take i).map (ansOf as)).map V.str))) ⟨Same.new hD, upd_same⟩ (fun i H' _ z => SqT.of (z.1 _ _ st2)) ?_ ?_
    · rintro i x H6 hx ⟨s6, d6⟩
      obtain ⟨z, rfl, hz⟩ := str_at hx
      refine ⟨rfl, ?_⟩
      walk_at "rd"
      refine ⟨.inl ⟨_, .inl (s6 _ _ d2)⟩, ?_⟩
      walk_at "rd"
      refine ⟨_, DGet.k (k := .inr z) (s6 _ _ d2), ?_⟩
      rw [ansKv_get]
      have hi : i < zs.length := (List.getElem?_eq_some_iff.mp hz).1
      refine ⟨_, d6, ?_, ?_, ?_⟩
      · rw [List.length_map, List.length_map, List.length_take]
        exact Nat.lt_of_le_of_lt (by omega : _ ≤ 6) (by decide)
      · exact fun b o e => by
          rw [upd_ne (fun q => by rw [q, hD] at e; cases e)]
          exact s6 b o e
      · rw [upd_same, take_more hz, List.map_append, List.map_append]
        rfl
    rintro H6 ⟨s6, d6⟩
    rw [List.length_map, List.take_length] at d6
    walk_at "rd"
    refine ⟨⟨_, SqL.of d6⟩, for_list (K := K) (a := D) (xs := (zs.map (ansOf as)).map V.str) (fun i σ H' => ∃ v5 : Option V, σ = [some (.ref st), some v, some (.ref g), v3, some (.ref D), v5] ∧ Same H6 H')
      ⟨_, rfl, Same.refl _⟩ (fun i σ H' _ ⟨_, _, z⟩ => z.seq (SqL.of d6)) ?_ ?_⟩
    · rintro i x σ H7 hx ⟨v5, rfl, s7⟩
      obtain ⟨z, rfl, hz⟩ := str_at hx
      walk_at "rd"
      have hok : AnsOk z := by
        obtain ⟨y, hy, e⟩ := List.mem_map.mp (List.mem_of_getElem? hz)
        rw [← e]
        exact hv.all y hy
      refine ⟨hok, fun H8 s8 => ?_⟩
      walk_at "rd"
      exact s7.trans s8
    · rintro σ H7 ⟨v5, rfl, s7⟩
      walk_at "rd"
      refine ⟨_, _, rfl, .inl ⟨SqL.of (s7 _ _ d6), fun p hp => ?_⟩⟩
      generalize hH : upd _ p _ = H8
      obtain ⟨s8, d8⟩ := new_of (o' := .tup ((zs.map (ansOf as)).map V.str)) hH hp rfl
      clear hH
      exact k p H8 ((((s1.trans s2).trans s6).trans s7).trans s8) d8
theorem ok_used_rules (T : Txt w K mg) : FnOk P w K mg base CX0 3 T.f_used_rules T.d_used_rules ["rules"] spUsedRules := by
  refine T.F_used_rules.ok sc_used_rules (fun vs H Q E h => ?_) (fun cdv A outer s H vs Q E hr h => ?_)
  · obtain ⟨c, ys, rs, rfl, _⟩ := h
    rfl
  · obtain ⟨c, ys, rs, rfl, hc, hT, hv, k⟩ := h
    refine ⟨_, (pss_cons (ps_set (i := 1) sc_used_rules.nd rfl (Or.inl rfl) pe_dnewT)
      (pss_cons (ps_for PassesOwn.never rfl (pi_enumB (by rfl) T.m_enumerate (pa_cons (pv 0) pa_nil)) (pg_tup (by rfl) (pgs_cons (pg_name (i := 2) sc_used_rules.nd rfl (Or.inl rfl)) (pgs_cons (pg_name (i := 3) sc_used_rules.nd rfl (Or.inl rfl)) pgs_nil)))
      (pss_one (ps_for PassesOwn.never rfl (pi_tup (pe_ix ix_tup (pv 3) pe_int (fun _ _ => rfl))) (pg_name (i := 4) sc_used_rules.nd rfl (Or.inl rfl))
      (C8.pss_cut (ps_set (i := 5) sc_used_rules.nd rfl (Or.inl rfl) (pe_ifExp (pt_cmpR op_eq (pv 4) pe_str (nomark _)) (pe_tup (pa_cons pe_str pa_nil)) (pe_call (ok_group T) (hr.mono (by decide)) (by rfl) T.m_group T.F_group.kp T.b_group .nil pass0 (pa_cons (pv 4) pa_nil))))
      (pss_one (ps_for PassesOwn.never rfl (pi_tup (pv 5)) (pg_name (i := 6) sc_used_rules.nd rfl (Or.inl rfl))
      (pss_one (ps_expr (pe_dsetdT (hu_of hr) (pv 1) (pe_tup (pa_cons (pe_ix ix_tup (pv 3) pe_int (fun _ _ => rfl)) (pa_cons (pv 6) pa_nil))) (pv 2) ⟨rfl, rfl, rfl, rfl⟩)))))))))
      (pss_one (ps_ret (pv 1))))), ?_⟩
    refine fun d hd => ?_
    generalize hH : upd _ d _ = H1
    obtain ⟨s1, d1⟩ := new_of (o' := .dT []) hH hd rfl
    clear hH
    have e := Paired.length hT
    refine ⟨_, rfl, false, c, ys, rfl, SqT.of (s1 _ _ hc), ?_⟩
    refine for_it (walk_enumB (K := K) (a := c) (xs := ys) (b := false) (c := 0)) (fun i σ H' => ∃ (kvs : List (List Key × V)) (v2 v3 v4 v5 v6 : Option V), σ = [some (.ref c), some (.ref d), v2, v3, v4, v5, v6] ∧ Same H H' ∧ H' d = some (.dT kvs) ∧ kvs.length ≤ 11000 * i ∧ (∀ z pl : Str, valV kvs [Sum.inr z, Sum.inr pl] = (fitIx (rs.take i) z pl).map fun n => V.int (n : Nat)))
      ⟨[], none, none, none, none, none, rfl, s1, d1, Nat.zero_le _, fun z pl => rfl⟩ (fun i σ H' _ ⟨_, _, _, _, _, _, _, z, _⟩ => SqT.of (z _ _ hc)) ?_ ?_
    · rintro i x σ H3 H4 hi ⟨kvs, v2, v3, v4, v5, v6, rfl, s3, d3, hl, hk⟩ ⟨t, x, y, rfl, ht, rfl, hx, hy⟩
      cases hx
      obtain ⟨r, hr', t0, g0, rfl, h1, h2⟩ := paired_at hT hy
      have hil : i < rs.length := (List.getElem?_eq_some_iff.mp hr').1
      have rv := hv.all r (List.mem_of_getElem? hr')
      have hlen := hv.len
      generalize hH : upd _ t _ = H5
      obtain ⟨s5, dt⟩ := new_of (o' := .tup [.int (0 + (i : Nat)), .ref t0]) hH ht rfl
      clear hH
      refine ⟨_, _, rfl, SqT.of dt, rfl, ?_⟩
      walk_at "rd"
      have s35 := s3.trans s5
      refine ⟨_, _, _, _, rfl, rfl, SqT.of (s35 _ _ h1), at_any (j := 1) rfl, ?_⟩
      walk_at "rd"
      refine ⟨⟨_, SqT.of (s35 _ _ h2)⟩, for_tup (K := K) (a := g0) (xs := r.gs.map V.str) (fun j σ H' => ∃ (kvs : List (List Key × V)) (v4 v5 v6 : Option V), σ = [some (.ref c), some (.ref d), some (.int (0 + (i : Nat))), some (.ref t0), v4, v5, v6] ∧ Same H H' ∧ H' d = some (.dT kvs) ∧ kvs.length ≤ 11000 * i + 11 * j ∧ UsedIs kvs (rs.take i) r.st i ((r.gs.take j).flatMap plsOf))
        ⟨kvs, v4, v5, v6, rfl, s35, s5 _ _ d3, by omega, UsedIs.start hk r.st i⟩ (fun j σ H' _ ⟨_, _, _, _, _, z, _⟩ => SqT.of (z _ _ h2)) ?_ ?_⟩
      · rintro j x σ H6 hx ⟨kvs6, v4, v5, v6, rfl, s6, d6, hl6, hk6⟩
        obtain ⟨g, rfl, hg⟩ := str_at hx
        have hgb := rv.gs g (List.mem_of_getElem? hg)
        have hjl : j < r.gs.length := (List.getElem?_eq_some_iff.mp hg).1
        have rl := rv.len
        refine ⟨fun σ H' => ∃ a : Addr, σ = [some (.ref c), some (.ref d), some (.int (0 + (i : Nat))), some (.ref t0), some (.str g), some (.ref a), v6] ∧ Same H6 H' ∧ (∀ H'', But d H' H'' → SqT K H'' a ((plsOf g).map V.str)) ∧ H' d = some (.dT kvs6), ?_, ?_⟩
        · walk_at "rd"
          by_cases hn : g = noneS
          · subst hn
            rw [decide_eq_true (show V.str noneS = V.str "none" from rfl)]
            walk_at "rd"
            refine ⟨by show 1 ≤ sizeLine; decide, fun a ha => ?_⟩
            generalize hH : upd _ a _ = H7
            obtain ⟨s7, da⟩ := new_of (o' := .tup [.str noneS]) hH ha rfl
            clear hH
            have ad : a ≠ d := (ne_of_none d6 ha).symm
            refine ⟨_, rfl, s7, fun H'' u => ?_, s7 _ _ d6⟩
            rw [show plsOf noneS = [noneS] from if_pos rfl]
            exact SqT.of (u _ _ ad da)
          · rw [decide_eq_false (show ¬ V.str g = V.str "none" from fun q => by
              have q' : g = "none" := by injection q
              exact hn q')]
            walk_at "rd"
            have hp : plsOf g = grpL g := if_neg hn
            rw [hp]
            rcases grp_names hgb with ⟨j', ps, hj, e2⟩ | ⟨hin, e2⟩
            · refine Or.inl ⟨j', ps, hj, fun u hu => ?_⟩
              rw [e2]
              exact ⟨_, rfl, Same.refl _, fun H'' _ => hu H'', d6⟩
            · refine Or.inr ⟨hin, fun a ha => ?_⟩
              generalize hH : upd _ a _ = H7
              obtain ⟨s7, da⟩ := new_of (o' := .tup [.str g]) hH ha rfl
              clear hH
              have ad : a ≠ d := (ne_of_none d6 ha).symm
              rw [e2]
              exact ⟨_, rfl, s7, fun H'' u => SqT.of (u _ _ ad da), s7 _ _ d6⟩
        rintro σ H7 ⟨a, rfl, s7, ha, d7⟩
        have fm := flat_more plsOf hg
        have pl11 := plsOf_len g
        generalize hdone : (r.gs.take j).flatMap plsOf = done at hk6 fm
        rw [fm]
        have s17 := s6.trans s7
        refine ⟨_, rfl, a, rfl, ⟨_, ha H7 (But.refl _ _)⟩, for_tup (K := K) (a := a) (xs := (plsOf g).map V.str) (fun m σ H' => ∃ (kvs : List (List Key × V)) (v6 : Option V), σ = [some (.ref c), some (.ref d), some (.int (0 + (i : Nat))), some (.ref t0), some (.str g), some (.ref a), v6] ∧ But d H7 H' ∧ Same H H' ∧ H' d = some (.dT kvs) ∧ kvs.length ≤ 11000 * i + 11 * j + m ∧ UsedIs kvs (rs.take i) r.st i (done ++ (plsOf g).take m))
          ⟨kvs6, v6, rfl, But.refl _ _, s17, d7, by omega, by rw [List.take_zero, List.append_nil]; exact hk6⟩ (fun m σ H' _ ⟨_, _, _, z, _⟩ => ha _ z) ?_ ?_⟩
        · rintro m x σ H8 hx ⟨kvs8, v6', rfl, u8, s8, d8, hl8, hk8⟩
          obtain ⟨pl, rfl, hpl⟩ := str_at hx
          have hml : m < (plsOf g).length := (List.getElem?_eq_some_iff.mp hpl).1
          walk_at "rd"
          refine ⟨.inr ⟨_, .inl d8⟩, ?_⟩
          walk_at "rd"
          refine ⟨_, _, _, _, rfl, rfl, SqT.of (s8 _ _ h1), at_any (j := 0) rfl, ?_⟩
          walk_at "rd"
          refine ⟨by show 2 ≤ sizeLine; decide, fun u hu => ?_⟩
          generalize hH : upd _ u _ = H9
          obtain ⟨s9, du⟩ := new_of (o' := .tup (([Sum.inr r.st, Sum.inr pl] : List Key).map kV)) hH hu rfl
          clear hH
          walk_at "rd"
          have d9 := s9 _ _ d8
          refine ⟨kvs8, [Sum.inr r.st, Sum.inr pl], u, d9, rfl, du, Nat.lt_of_le_of_lt (by omega : kvs8.length ≤ 2000000) (by decide), fun v hv8 => ?_, fun hv8 => ?_⟩
          · refine ⟨kvs8, _, rfl, u8.trans (Same.but s9), s8.trans s9, d9, by omega, ?_⟩
            rw [take_more hpl, ← List.append_assoc]
            exact hk8.there hv8
          · generalize hH : upd _ d _ = H10
            obtain ⟨u10, d10⟩ := chg_of (o' := .dT (putK kvs8 [Sum.inr r.st, Sum.inr pl] (.int (i : Nat)))) hH (by rw [Int.zero_add])
            clear hH
            have lp := length_putK kvs8 [Sum.inr r.st, Sum.inr pl] (V.int (i : Nat))
            refine ⟨_, _, rfl, (u8.trans (Same.but s9)).trans u10, fun b o q => u10 _ _ (ne_of_none q hd) (s9 _ _ (s8 _ _ q)), d10, by omega, ?_⟩
            rw [take_more hpl, ← List.append_assoc]
            exact hk8.put hv8
        · rintro σ H8 ⟨kvs8, v6', rfl, u8, s8, d8, hl8, hk8⟩
          rw [List.length_map, List.take_length] at hk8
          rw [List.length_map] at hl8
          exact ⟨kvs8, _, _, _, rfl, s8, d8, by omega, hk8⟩
      · rintro σ H6 ⟨kvs6, v4, v5, v6, rfl, s6, d6, hl6, hk6⟩
        rw [List.length_map, List.take_length] at hk6
        rw [List.length_map] at hl6
        have rl := rv.len
        exact ⟨kvs6, _, _, _, _, _, rfl, s6, d6, by omega, UsedIs.next hr' hk6⟩
    · rintro σ H3 ⟨kvs, v2, v3, v4, v5, v6, rfl, s3, d3, hl, hk⟩
      rw [e, List.take_length] at hk
      walk_at "rd"
      exact k d kvs H3 s3 hd d3 hk
--SPLIT
/-! ### a loop -/
def lf (c s a d : Addr) : List (Str × V) := [("_rules", .ref c), ("_states", .ref s), ("_answers", .ref a), ("_used", .ref d)]
theorem putF_end {f : Str} {v : V} : ∀ {fs : List (Str × V)}, f ∉ fs.map (·.1) → putF f v fs = fs ++ [(f, v)]
  | [], _ => rfl
  | (g, w) :: r, h => by
    rw [List.map_cons, List.mem_cons, not_or] at h
    have ih := putF_end (f := f) (v := v) h.2
    show (if g = f then (g, v) :: r else (g, w) :: putF f v r) = _
    rw [if_neg fun q => h.1 q.symm, ih]
    rfl
theorem lf_rules (c s a d : Addr) : (lf c s a d).lookup ("_rules" : Str) = some (.ref c) := by
  unfold lf
  rw [List.lookup_cons, show (("_rules" : Str) == "_rules") = true by decide +kernel]
theorem lf_states (c s a d : Addr) : (lf c s a d).lookup ("_states" : Str) = some (.ref s) := by
  unfold lf
  rw [List.lookup_cons, show (("_states" : Str) == "_rules") = false by decide +kernel]
  show List.lookup _ _ = _
  rw [List.lookup_cons, show (("_states" : Str) == "_states") = true by decide +kernel]
theorem lf_answers (c s a d : Addr) : (lf c s a d).lookup ("_answers" : Str) = some (.ref a) := by
  unfold lf
  rw [List.lookup_cons, show (("_answers" : Str) == "_rules") = false by decide +kernel]
  show List.lookup _ _ = _
  rw [List.lookup_cons, show (("_answers" : Str) == "_states") = false by decide +kernel]
  show List.lookup _ _ = _
  rw [List.lookup_cons, show (("_answers" : Str) == "_answers") = true by decide +kernel]
theorem lf_used (c s a d : Addr) : (lf c s a d).lookup ("_used" : Str) = some (.ref d) := by
  unfold lf
  rw [List.lookup_cons, show (("_used" : Str) == "_rules") = false by decide +kernel]
  show List.lookup _ _ = _
  rw [List.lookup_cons, show (("_used" : Str) == "_states") = false by decide +kernel]
  show List.lookup _ _ = _
  rw [List.lookup_cons, show (("_used" : Str) == "_answers") = false by decide +kernel]
  show List.lookup _ _ = _
  rw [List.lookup_cons, show (("_used" : Str) == "_used") = true by decide +kernel]
theorem lf_no {f : Str} (c s a d : Addr) (h : ∀ g ∈ (["_rules", "_states", "_answers", "_used"] : List Str), f ≠ g) : (lf c s a d).lookup f = none := by
  have q : ∀ g ∈ (["_rules", "_states", "_answers", "_used"] : List Str), (f == g) = false := fun g hg => by simpa using h g hg
  unfold lf
  rw [List.lookup_cons, q "_rules" (by decide +kernel)]
  show List.lookup _ _ = _
  rw [List.lookup_cons, q "_states" (by decide +kernel)]
  show List.lookup _ _ = _
  rw [List.lookup_cons, q "_answers" (by decide +kernel)]
  show List.lookup _ _ = _
  rw [List.lookup_cons, q "_used" (by decide +kernel)]
  rfl
def UsedAll (kvs : List (List Key × V)) (rs : List Rul) : Prop := ∀ z pl : Str, valV kvs [Sum.inr z, Sum.inr pl] = (fitIx rs z pl).map fun n => V.int (n : Nat)
/-- a Loop of the class at C stands at p -/
structure LoopIs (C : Addr) (H : Hp) (p : Addr) (rs : List Rul) (as : List (Str × Str)) (dx c s a d : Addr) (ys : List V) (kvs : List (List Key × V)) : Prop where
  ob : H p = some (.ins C dx (lf c s a d))
  ru : H c = some (.tup ys)
  rt : RulesT H ys rs
  st : H s = some (.tup ((statesOf rs).map V.str))
  an : H a = some (.tup (((statesOf rs).map (ansOf as)).map V.str))
  us : H d = some (.dT kvs)
  ua : UsedAll kvs rs
def LoopAt (C : Addr) (H : Hp) (p : Addr) (rs : List Rul) (as : List (Str × Str)) : Prop := ∃ dx c s a d ys kvs, LoopIs C H p rs as dx c s a d ys kvs
theorem LoopIs.same {C : Addr} {H H' : Hp} {p : Addr} {rs : List Rul} {as : List (Str × Str)} {dx c s a d : Addr} {ys : List V} {kvs : List (List Key × V)} (h : LoopIs C H p rs as dx c s a d ys kvs) (e : Same H H') : LoopIs C H' p rs as dx c s a d ys kvs :=
  ⟨e _ _ h.ob, e _ _ h.ru, paired_map (fun _ _ z => z.same e) h.rt, e _ _ h.st, e _ _ h.an, e _ _ h.us, h.ua⟩
theorem LoopAt.same {C : Addr} {H H' : Hp} {p : Addr} {rs : List Rul} {as : List (Str × Str)} (h : LoopAt C H p rs as) (e : Same H H') : LoopAt C H' p rs as := by
  obtain ⟨dx, c, s, a, d, ys, kvs, h⟩ := h
  exact ⟨dx, c, s, a, d, ys, kvs, h.same e⟩
/-- what stands at q is a list -/
theorem LoopAt.but {C : Addr} {H H' : Hp} {p q : Addr} {xs : List V} {rs : List Rul} {as : List (Str × Str)} (h : LoopAt C H p rs as) (hq : H q = some (.lst xs)) (e : But q H H') : LoopAt C H' p rs as := by
  obtain ⟨dx, c, s, a, d, ys, kvs, h⟩ := h
  have ne : ∀ {b : Addr} {o : HO}, H b = some o → (∀ l, o ≠ .lst l) → b ≠ q := fun hb ho z => by
    rw [z, hq] at hb
    exact ho xs (Option.some.inj hb).symm
  exact ⟨dx, c, s, a, d, ys, kvs, e _ _ (ne h.ob fun l z => by cases z) h.ob, e _ _ (ne h.ru fun l z => by cases z) h.ru, paired_map (fun _ _ z => z.but (fun ys y => by rw [hq] at y; cases y) e) h.rt, e _ _ (ne h.st fun l z => by cases z) h.st, e _ _ (ne h.an fun l z => by cases z) h.an, e _ _ (ne h.us fun l z => by cases z) h.us, h.ua⟩
def spLoopInit (K : PySem.W.Frag) (C : Addr) : Sp := fun vs H Q _ => ∃ (p dx : Addr) (b : Bool) (l : Addr) (v : V) (xs : List V) (rs : List Rul) (as : List (Str × Str)), vs = [.ref p, .ref l, v] ∧ H p = some (.ins C dx []) ∧ SqB K b H l xs ∧ RulesIn H xs rs ∧ RulsV rs ∧ AnsAt H v as ∧ AnsV (statesOf rs) as ∧
  ∀ H', But p H H' → LoopAt C H' p rs as → Q .non H'
/-- the error is raised: of the class at C, its own new dict holds the value -/
def Refus (C : Addr) (f : Str) (v : V) (H : Hp) (E : XK) : Prop := ∀ d : Addr, H d = none → E (.ref C) (some d) (upd H d (.xd [(f, v)]))
def optV : Option Nat → V
  | none => .non
  | some n => .int (n : Nat)
def spFitting (C CU CB : Addr) : Sp := fun vs H Q E => ∃ (p : Addr) (sv wv : V) (rs : List Rul) (as : List (Str × Str)), vs = [.ref p, sv, wv] ∧ LoopAt C H p rs as ∧
  ((((∃ z : Str, sv = .str z ∧ z ∉ statesOf rs) ∨ ∃ d, OddV H sv d) ∧ Refus CU "state" sv H E) ∨
   ∃ z : Str, sv = .str z ∧ z ∈ statesOf rs ∧ ((((∃ y : Str, wv = .str y ∧ y ∉ placesL ∧ y ≠ noneS) ∨ ∃ d, OddV H wv d) ∧ Refus CB "group" wv H E) ∨
     ∃ y : Str, wv = .str y ∧ (y ∈ placesL ∨ y = noneS) ∧ ∀ H', Same H H' → Q (optV (fitIx rs z y)) H'))
theorem ok_Loop__init (T : Txt w K mg) : FnOk P w K mg base CX0 5 T.f_Loop__init T.d_Loop__init ["self", "rules", "answers"] (spLoopInit K T.C_Loop) := by
  refine T.F_Loop__init.ok sc_Loop__init (fun vs H Q E h => ?_) (fun cdv A outer s H vs Q E hr h => ?_)
  · obtain ⟨p, dx, b, l, v, xs, rs, as, rfl, _⟩ := h
    rfl
  · obtain ⟨p, dx, b, l, v, xs, rs, as, rfl, hp, hS, hin, hv, ha, hav, k⟩ := h
    refine ⟨_, (pss_cons (ps_asg (pe_call (ok_checked_rules T) (hr.mono (by decide)) (by rfl) T.m_checked_rules T.F_checked_rules.kp T.b_checked_rules .nil pass0 (pa_cons (pv 1) pa_nil)) (pg_tup (by rfl) (pgs_cons (pg_name (i := 3) sc_Loop__init.nd rfl (Or.inl rfl)) (pgs_cons (pg_name (i := 4) sc_Loop__init.nd rfl (Or.inl rfl)) pgs_nil))))
      (pss_cons (ps_set (i := 5) sc_Loop__init.nd rfl (Or.inl rfl) (pe_call (ok_checked_answers T) (hr.mono (by decide)) (by rfl) T.m_checked_answers T.F_checked_answers.kp T.b_checked_answers .nil pass0 (pa_cons (pv 4) (pa_cons (pv 2) pa_nil))))
      (pss_cons (ps_fld (pv 0) (pv 3) rfl)
      (pss_cons (ps_fld (pv 0) (pv 4) rfl)
      (pss_cons (ps_fld (pv 0) (pv 5) rfl)
      (pss_one (ps_fld (pv 0) (pe_call (ok_used_rules T) (hr.mono (by decide)) (by rfl) T.m_used_rules T.F_used_rules.kp T.b_used_rules .nil pass0 (pa_cons (pv 3) pa_nil)) rfl))))))), ?_⟩
    walk_at "rd"
    refine ⟨b, l, xs, rs, rfl, hS, hin, hv, fun q c s ys H1 s1 hq hc hT hs => ?_⟩
    refine ⟨_, _, rfl, SqT.of hq, rfl, ?_⟩
    walk_at "rd"
    have ha1 : AnsAt H1 v as := ha.elim (fun h => .inl h) fun ⟨a, e, h⟩ => .inr ⟨a, e, s1 _ _ h⟩
    refine ⟨s, v, statesOf rs, as, rfl, hs, ha1, hav, hv.sts, fun a H2 s2 h2 => ?_⟩
    have p2 := s2 _ _ (s1 _ _ hp)
    walk_at "rd"
    refine ⟨p, _, dx, _, rfl, p2, T.cl_Loop, T.na_Loop_rules, by show 0 < 1000; decide, ?_⟩
    generalize hH : upd _ p _ = H3
    obtain ⟨u3, p3⟩ := chg_of (o' := .ins T.C_Loop dx [("_rules", .ref c)]) hH rfl
    clear hH
    walk_at "rd"
    refine ⟨p, _, dx, _, rfl, p3, T.cl_Loop, T.na_Loop_states, by show 1 < 1000; decide, ?_⟩
    generalize hH : upd _ p _ = H4
    obtain ⟨u4, p4⟩ := chg_of (o' := .ins T.C_Loop dx [("_rules", .ref c), ("_states", .ref s)]) hH (congrArg (HO.ins T.C_Loop dx) (putF_end (show ("_states" : Str) ∉ (["_rules"] : List Str) by decide +kernel)))
    clear hH
    walk_at "rd"
    refine ⟨p, _, dx, _, rfl, p4, T.cl_Loop, T.na_Loop_answers, by show 2 < 1000; decide, ?_⟩
    generalize hH : upd _ p _ = H5
    obtain ⟨u5, p5⟩ := chg_of (o' := .ins T.C_Loop dx [("_rules", .ref c), ("_states", .ref s), ("_answers", .ref a)]) hH (congrArg (HO.ins T.C_Loop dx) (putF_end (show ("_answers" : Str) ∉ (["_rules", "_states"] : List Str) by decide +kernel)))
    clear hH
    walk_at "rd"
    have u25 : But p H2 H5 := (u3.trans u4).trans u5
    have nt : ∀ ys, H2 p ≠ some (.tup ys) := fun ys q => by rw [p2] at q; cases q
    have hc2 := s2 _ _ hc
    have hT2 : RulesT H2 ys rs := paired_map (fun _ _ z => z.same s2) hT
    have hs2 := s2 _ _ hs
    have cp : c ≠ p := fun q => nt _ (q ▸ hc2)
    have sp : s ≠ p := fun q => nt _ (q ▸ hs2)
    have ap : a ≠ p := fun q => nt _ (q ▸ h2)
    have hT5 : RulesT H5 ys rs := paired_map (fun _ _ z => z.but nt u25) hT2
    refine ⟨c, ys, rs, rfl, u25 _ _ cp hc2, hT5, hv, fun d kvs H6 s6 hd h6 hk => ?_⟩
    walk_at "rd"
    have p6 := s6 _ _ p5
    refine ⟨p, _, dx, _, rfl, p6, T.cl_Loop, T.na_Loop_used, by show 3 < 1000; decide, ?_⟩
    generalize hH : upd _ p _ = H7
    obtain ⟨u7, p7⟩ := chg_of (o' := .ins T.C_Loop dx (lf c s a d)) hH (congrArg (HO.ins T.C_Loop dx) (putF_end (show ("_used" : Str) ∉ (["_rules", "_states", "_answers"] : List Str) by decide +kernel)))
    clear hH
    have nt6 : ∀ ys, H6 p ≠ some (.tup ys) := fun ys q => by rw [p6] at q; cases q
    have dp : d ≠ p := (ne_of_none p5 hd).symm
    have u27 : But p H2 H7 := (u25.trans (Same.but s6)).trans u7
    exact k H7 (((Same.but s1).trans (Same.but s2)).trans u27) ⟨dx, c, s, a, d, ys, kvs, p7, u27 _ _ cp hc2, paired_map (fun _ _ z => z.but nt u27) hT2, u27 _ _ sp hs2, u27 _ _ ap h2, u7 _ _ dp h6, hk⟩
/-! ### the states and the rules that _law_rules makes, as a loop takes them -/
theorem addS_mem {acc : List Str} {z y : Str} (h : y ∈ addS acc z) : y ∈ acc ∨ y = z := by
  unfold addS at h
  split at h
  · exact .inl h
  · exact (List.mem_append.mp h).imp id List.mem_singleton.mp
theorem addS_nd {acc : List Str} {z : Str} (h : acc.Nodup) : (addS acc z).Nodup := by
  unfold addS
  split
  · exact h
  · rename_i q
    exact nd_snoc h q
theorem states_in {zs : List Str} : ∀ (rs : List Rul) (acc : List Str), acc.Nodup → (∀ y ∈ acc, y ∈ zs) → (∀ r ∈ rs, r.st ∈ zs ∧ r.nx ∈ zs) →
    (rs.foldl (fun acc r => addS (addS acc r.st) r.nx) acc).Nodup ∧ ∀ y ∈ rs.foldl (fun acc r => addS (addS acc r.st) r.nx) acc, y ∈ zs
  | [], acc, nd, h, _ => ⟨nd, h⟩
  | r :: rs, acc, nd, h, hr => by
    rw [List.foldl_cons]
    have h1 := hr r List.mem_cons_self
    refine states_in rs _ (addS_nd (addS_nd nd)) (fun y hy => ?_) fun q hq => hr q (List.mem_cons_of_mem _ hq)
    rcases addS_mem hy with hy | rfl
    · rcases addS_mem hy with hy | rfl
      · exact h y hy
      · exact h1.1
    · exact h1.2
theorem nd_le : ∀ {l zs : List Str}, l.Nodup → (∀ y ∈ l, y ∈ zs) → l.length ≤ zs.length
  | [], _, _, _ => Nat.zero_le _
  | a :: r, zs, nd, h => by
    obtain ⟨n1, n2⟩ := List.nodup_cons.mp nd
    have ha := h a List.mem_cons_self
    have ih := nd_le (l := r) (zs := zs.erase a) n2 fun y hy => (List.mem_erase_of_ne (fun (e : y = a) => n1 (by rw [← e]; exact hy))).mpr (h y (List.mem_cons_of_mem _ hy))
    rw [List.length_erase_of_mem ha] at ih
    have := List.length_pos_of_mem ha
    rw [List.length_cons]
    omega
theorem states_ok {zs : List Str} {rs : List Rul} (h : ∀ r ∈ rs, r.st ∈ zs ∧ r.nx ∈ zs) : (∀ y ∈ statesOf rs, y ∈ zs) ∧ (statesOf rs).length ≤ zs.length := by
  have q := states_in (zs := zs) rs [] List.nodup_nil (fun y hy => nomatch hy) h
  exact ⟨q.2, nd_le q.1 q.2⟩
theorem addS_has (acc : List Str) (z : Str) : z ∈ addS acc z := by
  unfold addS
  split
  · rename_i q
    exact q
  · exact List.mem_append_right _ (List.mem_singleton.mpr rfl)
theorem addS_keep {acc : List Str} {z y : Str} (h : y ∈ acc) : y ∈ addS acc z := by
  unfold addS
  split
  · exact h
  · exact List.mem_append_left _ h
theorem states_keep {y : Str} : ∀ (rs : List Rul) (acc : List Str), y ∈ acc → y ∈ rs.foldl (fun acc r => addS (addS acc r.st) r.nx) acc
  | [], _, h => h
  | r :: rs, acc, h => by
    rw [List.foldl_cons]
    exact states_keep rs _ (addS_keep (addS_keep h))
theorem states_pos (r : Rul) (rs : List Rul) : 0 < (statesOf (r :: rs)).length := by
  refine List.length_pos_of_mem (a := r.st) ?_
  show r.st ∈ (r :: rs).foldl _ []
  rw [List.foldl_cons]
  exact states_keep rs _ (addS_keep (addS_has _ _))
theorem words_name : ∀ z ∈ wordsL, nameB z = true := by decide +kernel
theorem names_grp : ∀ g ∈ namesL ++ placesL, grpB g = true := by decide +kernel
theorem RuleOk.v {zs : List Str} {b : Bool} {r : Rul} (hz : ∀ z ∈ zs, IsName z) (h : RuleOk zs b r) : RulV r :=
  ⟨hz _ h.st, nameB_iff.mp (words_name _ h.wd), hz _ h.nx, h.gs.ne, Nat.le_trans h.gs.len (by decide), fun g hg => names_grp g (h.gs.mem g hg)⟩
theorem RulesOk.all1 {zs : List Str} {r0 : Rul} {rs : List Rul} (h : RulesOk zs r0 rs) : ∀ r ∈ r0 :: rs, RuleOk zs false r := fun r hr => by
  rcases List.mem_cons.mp hr with rfl | q
  · exact h.head.any
  · exact h.all r q
theorem RulesOk.v {zs : List Str} {r0 : Rul} {rs : List Rul} (h : RulesOk zs r0 rs) (hz : zs.length ≤ 6) (hl : rs.length < 40) : RulsV (r0 :: rs) :=
  ⟨fun r hr => (h.all1 r hr).v h.name, by rw [List.length_cons]; omega, by rw [List.length_cons]; omega, Nat.le_trans (states_ok (zs := zs) fun r hr => ⟨(h.all1 r hr).st, (h.all1 r hr).nx⟩).2 hz⟩
theorem RulesOk.stn {zs : List Str} {r0 : Rul} {rs : List Rul} (h : RulesOk zs r0 rs) : ∀ y ∈ statesOf (r0 :: rs), IsName y := fun y hy =>
  h.name y ((states_ok (zs := zs) fun r hr => ⟨(h.all1 r hr).st, (h.all1 r hr).nx⟩).1 y hy)
theorem ansV_nil (zs : List Str) : AnsV zs [] := ⟨(fun p h => nomatch h), by decide, fun z _ => Or.inr rfl⟩
def spFit0 (C : Addr) : Sp := fun vs H Q _ => ∃ (p : Addr) (rs : List Rul) (as : List (Str × Str)) (z y : Str), vs = [.ref p, .str z, .str y] ∧ LoopAt C H p rs as ∧ z ∈ statesOf rs ∧ (y ∈ placesL ∨ y = noneS) ∧ ∀ H', Same H H' → Q (optV (fitIx rs z y)) H'
theorem ok_Loop_fitting (T : Txt w K mg) : FnOk P w K mg base CX0 3 T.f_Loop_fitting T.d_Loop_fitting ["self", "state", "place"] (spFit0 T.C_Loop) := by
  refine T.F_Loop_fitting.ok sc_Loop_fitting (fun vs H Q E h => ?_) (fun cdv A outer s H vs Q E hr h => ?_)
  · obtain ⟨p, rs, as, z, y, rfl, _⟩ := h
    rfl
  · obtain ⟨p, rs, as, z, y, rfl, ⟨dx, c, st, a, d, ys, kvs, L⟩, hz, hy, k⟩ := h
    refine ⟨_, (pss_cons (ps_if (PW.pt (pw_or (pt_not (pt_val (pe_callB call_isi (by rfl) T.m_isinstance (by decide +kernel) (pa_cons (pv 1) (pa_cons (pe_bltn (v := .ty "str") (by rfl) T.m_str (by decide +kernel) rfl) pa_nil))))) (pw_or1 (pt_cmpR op_notIn_seq (pv 1) (pe_fld (pv 0) rfl) (by rfl)))))
      (pss_one ps_never)
      pss_nil)
      (pss_cons (ps_if (PW.pt (pw_and (pt_not (pt_val (pe_call (ok_is_place T) (hr.mono (by decide)) (by rfl) T.m_is_place T.F_is_place.kp T.b_is_place .nil pass0 (pa_cons (pv 2) pa_nil)))) (pw_and1 (pt_not (PW.pt (pw_and (pt_val (pe_callB call_isi (by rfl) T.m_isinstance (by decide +kernel) (pa_cons (pv 2) (pa_cons (pe_bltn (v := .ty "str") (by rfl) T.m_str (by decide +kernel) rfl) pa_nil)))) (pw_and1 (pt_cmpR op_eq (pv 2) pe_str (nomark _)))))))))
      (pss_one ps_never)
      pss_nil)
      (pss_one (ps_ret (pe_dget1 (hu_of hr) (pe_fld (pv 0) rfl) (pe_tup (pa_cons (pv 1) (pa_cons (pv 2) pa_nil))) ⟨rfl, rfl, rfl, rfl⟩))))), ?_⟩
    have lst := lf_states c st a d
    have lus := lf_used c st a d
    walk_at "rd"
    refine ⟨_, _, _, _, true, rfl, .ty _, .base (.str _), kit_ty (by decide +kernel), ?_⟩
    walk_at "rd"
    refine ⟨p, _, dx, _, _, rfl, L.ob, T.cl_Loop, T.na_Loop_states, lst, ?_⟩
    refine ⟨_, _, rfl, .inr (SqT.of L.st), rfl, flat_strs (statesOf rs), ?_⟩
    refine ⟨!decide (z ∈ statesOf rs), congrArg (fun b => V.bl (!b)) (inV_strs z _), ?_⟩
    rw [decide_eq_true hz]
    walk_at "rd"
    refine Or.inl ⟨y, rfl, ?_⟩
    have hnone : noneS ∉ placesL := by decide +kernel
    have fin : ∀ (H0 : Hp), H0 = H → ∀ u : Addr, H0 u = none → ∃ o, DGet (upd H0 u (.tup (([Sum.inr z, Sum.inr y] : List Key).map kV))) d (.ref u) o ∧ Q (o.getD .non) (upd H0 u (.tup (([Sum.inr z, Sum.inr y] : List Key).map kV))) := fun H0 e0 u hu => by
      subst e0
      generalize hH : upd _ u _ = H1
      obtain ⟨s1, du⟩ := new_of (o' := .tup (([Sum.inr z, Sum.inr y] : List Key).map kV)) hH hu rfl
      clear hH
      refine ⟨_, DGet.t (s1 _ _ L.us) du, ?_⟩
      rw [L.ua z y]
      have e : ((fitIx rs z y).map fun n => V.int (n : Nat)).getD .non = optV (fitIx rs z y) := by cases fitIx rs z y <;> rfl
      rw [e]
      exact k H1 s1
    by_cases hp : y ∈ placesL
    · rw [decide_eq_true hp]
      walk_at "rd"
      refine ⟨p, _, dx, _, _, rfl, L.ob, T.cl_Loop, T.na_Loop_used, lus, ?_⟩
      refine ⟨_, rfl, .inr ⟨_, .inl L.us⟩, ?_⟩
      walk_at "rd"
      exact ⟨by show 2 ≤ sizeLine; decide, fun u hu => fin H rfl u hu⟩
    · have hn : y = noneS := hy.resolve_left hp
      subst hn
      rw [decide_eq_false hp]
      walk_at "rd"
      refine ⟨_, _, _, _, true, rfl, .ty _, .base (.str _), kit_ty (by decide +kernel), ?_⟩
      walk_at "rd"
      refine ⟨p, _, dx, _, _, rfl, L.ob, T.cl_Loop, T.na_Loop_used, lus, ?_⟩
      refine ⟨_, rfl, .inr ⟨_, .inl L.us⟩, ?_⟩
      walk_at "rd"
      exact ⟨by show 2 ≤ sizeLine; decide, fun u hu => fin H rfl u hu⟩
theorem ok_Loop_rules (T : Txt w K mg) : FnOk P w K mg base CX0 1 T.f_Loop_rules T.d_Loop_rules ["self"] (getSp T.C_Loop "_rules") := by
  refine T.F_Loop_rules.ok sc_Loop_rules (fun vs H Q E h => ?_) (fun cdv A outer s H vs Q E hr h => ?_)
  · obtain ⟨a, dx, fs, v, rfl, _⟩ := h
    rfl
  · obtain ⟨a, dx, fs, v, rfl, ha, hl, k⟩ := h
    refine ⟨_, (pss_one (ps_ret (pe_fld (pv 0) rfl))), ?_⟩
    exact ⟨_, rfl, a, _, dx, fs, v, rfl, ha, T.cl_Loop, T.na_Loop_rules, hl, k⟩
def spStart (C : Addr) : Sp := fun vs H Q _ => ∃ (p : Addr) (r : Rul) (rs : List Rul) (as : List (Str × Str)), vs = [.ref p] ∧ LoopAt C H p (r :: rs) as ∧ Q (.str r.st) H
theorem states_head (r : Rul) (rs : List Rul) : (statesOf (r :: rs))[0]? = some r.st := by
  have key : ∀ (rs : List Rul) (acc : List Str) (x : Str), acc[0]? = some x → (rs.foldl (fun acc r => addS (addS acc r.st) r.nx) acc)[0]? = some x := fun rs => by
    induction rs with
    | nil => exact fun _ _ h => h
    | cons a rs ih =>
      intro acc x h
      rw [List.foldl_cons]
      have one : ∀ (acc : List Str) (z : Str), acc[0]? = some x → (addS acc z)[0]? = some x := fun acc z h => by
        unfold addS
        split
        · exact h
        · rw [List.getElem?_append_left (List.getElem?_eq_some_iff.mp h).1]
          exact h
      exact ih _ x (one _ _ (one _ _ h))
  unfold statesOf
  rw [List.foldl_cons]
  refine key rs _ r.st ?_
  have e1 : addS [] r.st = [r.st] := by
    unfold addS
    rw [if_neg List.not_mem_nil]
    rfl
  rw [e1]
  unfold addS
  split
  · rfl
  · rfl
theorem ok_Loop_start (T : Txt w K mg) : FnOk P w K mg base CX0 1 T.f_Loop_start T.d_Loop_start ["self"] (spStart T.C_Loop) := by
  refine T.F_Loop_start.ok sc_Loop_start (fun vs H Q E h => ?_) (fun cdv A outer s H vs Q E hr h => ?_)
  · obtain ⟨p, r, rs, as, rfl, _⟩ := h
    rfl
  · obtain ⟨p, r, rs, as, rfl, ⟨dx, c, st, a, d, ys, kvs, L⟩, k⟩ := h
    refine ⟨_, (pss_one (ps_ret (pe_ix ix_tup (pe_fld (pv 0) rfl) pe_int (fun _ _ => rfl)))), ?_⟩
    walk_at "rd"
    refine ⟨p, _, dx, _, _, rfl, L.ob, T.cl_Loop, T.na_Loop_states, lf_states c st a d, ?_⟩
    walk_at "rd"
    exact ⟨_, _, _, _, rfl, rfl, SqT.of L.st, at_any (j := 0) (by rw [List.getElem?_map, states_head]; rfl), k⟩
/-- the dict of the answers -/
def ansD (rs : List Rul) (as : List (Str × Str)) : List (Key × V) := (statesOf rs).map fun z => (Sum.inr z, V.str (ansOf as z))
theorem ansD_zip (zs : List Str) (f : Str → Str) : (zs.map (Sum.inr : Str → Key)).zip ((zs.map f).map V.str) = zs.map fun z => (Sum.inr z, V.str (f z)) := by
  induction zs with
  | nil => rfl
  | cons a r ih =>
    show (Sum.inr a, V.str (f a)) :: (r.map (Sum.inr : Str → Key)).zip ((r.map f).map V.str) = _
    rw [ih]
    rfl
theorem ansD_keys (zs : List Str) (f : Str → Str) : ((zs.map fun z => ((Sum.inr z : Key), V.str (f z))).map (·.1)) = zs.map (Sum.inr : Str → Key) := by
  rw [List.map_map]
  rfl
theorem states_nd (rs : List Rul) : (statesOf rs).Nodup := by
  have key : ∀ (rs : List Rul) (acc : List Str), acc.Nodup → (rs.foldl (fun acc r => addS (addS acc r.st) r.nx) acc).Nodup := fun rs => by
    induction rs with
    | nil => exact fun _ h => h
    | cons r rs ih => exact fun acc h => ih _ (addS_nd (addS_nd h))
  exact key rs [] List.nodup_nil
theorem nd_inr {zs : List Str} (h : zs.Nodup) : (zs.map (Sum.inr : Str → Key)).Nodup := by
  induction zs with
  | nil => exact List.nodup_nil
  | cons a r ih =>
    obtain ⟨h1, h2⟩ := List.nodup_cons.mp h
    rw [List.map_cons]
    refine List.nodup_cons.mpr ⟨fun m => ?_, ih h2⟩
    obtain ⟨x, hx, e⟩ := List.mem_map.mp m
    cases e
    exact h1 hx
theorem ansD_merge (rs : List Rul) (as : List (Str × Str)) : mergeK [] (((statesOf rs).map (Sum.inr : Str → Key)).zip (((statesOf rs).map (ansOf as)).map V.str)) = ansD rs as := by
  rw [ansD_zip]
  exact mergeK_nd (kvs := []) (by rw [List.nil_append, ansD_keys]; exact nd_inr (states_nd rs))
theorem ansD_val {rs : List Rul} {as : List (Str × Str)} {z : Str} (h : z ∈ statesOf rs) : valV (ansD rs as) (Sum.inr z : Key) = some (.str (ansOf as z)) := by
  have key : ∀ zs : List Str, z ∈ zs → valV (zs.map fun z => ((Sum.inr z : Key), V.str (ansOf as z))) (Sum.inr z : Key) = some (.str (ansOf as z)) := fun zs => by
    induction zs with
    | nil => exact fun h => nomatch h
    | cons a r ih =>
      intro h
      by_cases e : a = z
      · subst e
        exact valV_pos (p := ((Sum.inr a : Key), V.str (ansOf as a))) rfl
      · refine Eq.trans (valV_neg (p := ((Sum.inr a : Key), V.str (ansOf as a))) fun q => e (by cases q; rfl)) (ih ?_)
        exact (List.mem_cons.mp h).resolve_left fun q => e q.symm
  exact key _ h
def spAnswers (C : Addr) : Sp := fun vs H Q _ => ∃ (p : Addr) (rs : List Rul) (as : List (Str × Str)), vs = [.ref p] ∧ LoopAt C H p rs as ∧ (statesOf rs).length ≤ 1000 ∧ ∀ d, H d = none → Q (.ref d) (upd H d (.dK (ansD rs as)))
theorem ok_Loop_answers (T : Txt w K mg) : FnOk P w K mg base CX0 1 T.f_Loop_answers T.d_Loop_answers ["self"] (spAnswers T.C_Loop) := by
  refine T.F_Loop_answers.ok sc_Loop_answers (fun vs H Q E h => ?_) (fun cdv A outer s H vs Q E hr h => ?_)
  · obtain ⟨p, rs, as, rfl, _⟩ := h
    rfl
  · obtain ⟨p, rs, as, rfl, ⟨dx, c, st, a, d, ys, kvs, L⟩, hl, k⟩ := h
    refine ⟨_, (pss_one (ps_ret (pe_dictZip (by rfl) T.m_dict (by rfl) T.m_zip (pa_cons (pe_fld (pv 0) rfl) (pa_cons (pe_fld (pv 0) rfl) pa_nil))))), ?_⟩
    walk_at "rd"
    refine ⟨p, _, dx, _, _, rfl, L.ob, T.cl_Loop, T.na_Loop_states, lf_states c st a d, ?_⟩
    walk_at "rd"
    refine ⟨p, _, dx, _, _, rfl, L.ob, T.cl_Loop, T.na_Loop_answers, lf_answers c st a d, ?_⟩
    walk_at "rd"
    refine ⟨st, a, statesOf rs, _, rfl, SqT.of L.st, SqT.of L.an, hl, fun d hd => ?_⟩
    rw [ansD_merge]
    exact k d hd
--SPLIT
/-! ### what a loop tells, by its rules -/
def usedR (rs : List Rul) (z y : Str) : Option Rul := rs.find? (fitR z y)
def tellF (rs : List Rul) (z y : Str) : Str × Bool × Str := match usedR rs z y with
  | some r => (r.wd, r.kp, r.nx)
  | none => ("pass", false, z)
theorem fit_used (z y : Str) : ∀ rs : List Rul, usedR rs z y = (fitIx rs z y).bind fun n => rs[n]?
  | [] => rfl
  | r :: rs => by
    have ih := fit_used z y rs
    unfold usedR fitIx at ih ⊢
    rw [List.find?_cons, List.findIdx?_cons]
    cases e : fitR z y r with
    | true => simp
    | false =>
      simp only [Bool.false_eq_true, if_false]
      rw [ih, Option.bind_map]
      rfl
theorem fit_some {rs : List Rul} {z y : Str} {n : Nat} (h : fitIx rs z y = some n) : ∃ r, rs[n]? = some r ∧ usedR rs z y = some r := by
  have hn : n < rs.length := by
    unfold fitIx at h
    exact (List.findIdx?_eq_some_iff_getElem.mp h).1
  refine ⟨rs[n], List.getElem?_eq_getElem hn, ?_⟩
  rw [fit_used, h]
  exact List.getElem?_eq_getElem hn
theorem fit_none {rs : List Rul} {z y : Str} (h : fitIx rs z y = none) : usedR rs z y = none := by
  rw [fit_used, h]
  rfl
def whF (kept : List Int) (x e : Int) : Str := match kept.getLast? with
  | none => noneS
  | some k => plc x k e
structure RunS where
  st : Str
  words : List Str
  keeps : List Bool
  kept : List Int
def stepS (rs : List Rul) (e : Int) (s : RunS) (x : Int) : RunS :=
  ⟨(tellF rs s.st (whF s.kept x e)).2.2, s.words ++ [(tellF rs s.st (whF s.kept x e)).1], s.keeps ++ [(tellF rs s.st (whF s.kept x e)).2.1], if (tellF rs s.st (whF s.kept x e)).2.1 = true then s.kept ++ [x] else s.kept⟩
def runS (rs : List Rul) (e : Int) (s : RunS) (xs : List Int) : RunS := xs.foldl (stepS rs e) s
theorem runS_more {xs : List Int} {i : Nat} {x : Int} (h : xs[i]? = some x) (rs : List Rul) (e : Int) (s : RunS) : runS rs e s (xs.take (i + 1)) = stepS rs e (runS rs e s (xs.take i)) x := by
  unfold runS
  rw [take_more h, List.foldl_append]
  rfl
def begS (z : Str) : RunS := ⟨z, [], [], []⟩
theorem plc_in (x k e : Int) : plc x k e ∈ placesL := List.mem_of_getElem? (plc_at (x / e - k / e) (x % e) (k % e))
theorem whF_in (kept : List Int) (x e : Int) : whF kept x e ∈ placesL ∨ whF kept x e = noneS := by
  unfold whF
  split
  · exact .inr rfl
  · exact .inl (plc_in _ _ _)
theorem states_mem_nx {rs : List Rul} {r : Rul} (h : r ∈ rs) : r.nx ∈ statesOf rs := by
  obtain ⟨a, b, rfl⟩ := List.append_of_mem h
  unfold statesOf
  rw [List.foldl_append, List.foldl_cons]
  exact states_keep b _ (addS_has _ _)
theorem states_mem_st {rs : List Rul} {r : Rul} (h : r ∈ rs) : r.st ∈ statesOf rs := by
  obtain ⟨a, b, rfl⟩ := List.append_of_mem h
  unfold statesOf
  rw [List.foldl_append, List.foldl_cons]
  exact states_keep b _ (addS_keep (addS_has _ _))
theorem tell_st {rs : List Rul} {z y : Str} (h : z ∈ statesOf rs) : (tellF rs z y).2.2 ∈ statesOf rs := by
  unfold tellF
  split
  · rename_i r hr
    exact states_mem_nx (List.mem_of_find?_eq_some hr)
  · exact h
/-- after i numbers of xs -/
structure RunOk (rs : List Rul) (s : RunS) (xs : List Int) (i : Nat) : Prop where
  st : s.st ∈ statesOf rs
  nw : s.words.length = i
  nk : s.keeps.length = i
  nt : s.kept.length ≤ i
  kin : ∀ k ∈ s.kept, k ∈ xs
  wok : ∀ z ∈ s.words, PyData.strOk z = true
theorem pass_ok : PyData.strOk "pass" = true := by decide +kernel
theorem tell_ok {rs : List Rul} (hw : ∀ r ∈ rs, PyData.strOk r.wd = true) (z y : Str) : PyData.strOk (tellF rs z y).1 = true := by
  unfold tellF
  split
  · rename_i r hr
    exact hw r (List.mem_of_find?_eq_some hr)
  · exact pass_ok
theorem RunOk.next {rs : List Rul} {s : RunS} {xs : List Int} {i : Nat} {x e : Int} (hw : ∀ r ∈ rs, PyData.strOk r.wd = true) (h : RunOk rs s xs i) (hx : x ∈ xs) : RunOk rs (stepS rs e s x) xs (i + 1) := by
  refine ⟨tell_st h.st, ?_, ?_, ?_, ?_, ?_⟩
  · show (s.words ++ [_]).length = _
    rw [List.length_append, h.nw]
    rfl
  · show (s.keeps ++ [_]).length = _
    rw [List.length_append, h.nk]
    rfl
  · show (if (tellF rs s.st (whF s.kept x e)).2.1 = true then s.kept ++ [x] else s.kept).length ≤ _
    have := h.nt
    split
    · rw [List.length_append, List.length_singleton]
      omega
    · omega
  · show ∀ k ∈ (if (tellF rs s.st (whF s.kept x e)).2.1 = true then s.kept ++ [x] else s.kept), k ∈ xs
    split
    · intro k hk
      rcases List.mem_append.mp hk with q | q
      · exact h.kin k q
      · rw [List.mem_singleton.mp q]
        exact hx
    · exact h.kin
  · intro z hz
    rcases List.mem_append.mp hz with q | q
    · exact h.wok z q
    · rw [List.mem_singleton.mp q]
      exact tell_ok hw _ _
theorem RunOk.of {rs : List Rul} {xs : List Int} {z : Str} {e : Int} (hw : ∀ r ∈ rs, PyData.strOk r.wd = true) (hz : z ∈ statesOf rs) : ∀ i, i ≤ xs.length → RunOk rs (runS rs e (begS z) (xs.take i)) xs i
  | 0, _ => ⟨hz, rfl, rfl, Nat.le_refl _, (fun k hk => nomatch hk), fun z hz => nomatch hz⟩
  | i + 1, h => by
    have ih := RunOk.of (e := e) hw hz i (Nat.le_of_succ_le h)
    have hx : xs[i]? = some xs[i] := List.getElem?_eq_getElem h
    rw [runS_more hx]
    exact ih.next hw (List.mem_of_getElem? hx)
theorem at_end {xs : List V} {v : V} (h : xs.getLast? = some v) : atI xs (-1) = some v := by
  have h0 : xs ≠ [] := fun q => by rw [q] at h; cases h
  have hl : 1 ≤ xs.length := List.length_pos_iff.mpr h0
  unfold atI ixN
  rw [if_neg (by decide), if_pos (by omega)]
  show xs[((-1 : Int) + (xs.length : Nat)).toNat]? = some v
  rw [show ((-1 : Int) + (xs.length : Nat)).toNat = xs.length - 1 by omega, ← List.getLast?_eq_getElem?]
  exact h
theorem paired_ta {α β : Type} {R : α → β → Prop} : ∀ {xs : List α} {ys : List β}, Paired R xs ys → ∀ {i : Nat} {y : β}, ys[i]? = some y → ∃ x, xs[i]? = some x ∧ R x y
  | _, _, .nil, i, y, h => nomatch h
  | _, _, .cons (a := a) h t, 0, y, hy => ⟨a, rfl, by rw [← Option.some.inj hy]; exact h⟩
  | _, _, .cons h t, i + 1, y, hy => paired_ta t (i := i) hy
def spStep (C : Addr) : Sp := fun vs H Q _ => ∃ (p : Addr) (rs : List Rul) (as : List (Str × Str)) (z y : Str), vs = [.ref p, .str z, .str y] ∧ LoopAt C H p rs as ∧ z ∈ statesOf rs ∧ (y ∈ placesL ∨ y = noneS) ∧
  ∀ (t : Addr) (H' : Hp), Same H H' → H' t = some (.tup [.str (tellF rs z y).1, .bl (tellF rs z y).2.1, .str (tellF rs z y).2.2]) → Q (.ref t) H'
theorem ok_step (T : Txt w K mg) : FnOk P w K mg base CX0 4 T.f_step T.d_step ["loop", "state", "place"] (spStep T.C_Loop) := by
  refine T.F_step.ok sc_step (fun vs H Q E h => ?_) (fun cdv A outer s H vs Q E hr h => ?_)
  · obtain ⟨p, rs, as, z, y, rfl, _⟩ := h
    rfl
  · obtain ⟨p, rs, as, z, y, rfl, ⟨dx, c, st, a, d, ys, kvs, L⟩, hz, hy, k⟩ := h
    refine ⟨_, (pss_cons (ps_set (i := 3) sc_step.nd rfl (Or.inl rfl) (pe_meth (pv 0) T.cl_Loop T.mt_Loop_fitting (ok_Loop_fitting T) (hr.mono (by decide)) T.b_Loop_fitting .nil pass0 (pa_cons (pv 1) (pa_cons (pv 2) pa_nil))))
      (pss_cons (ps_if (pt_cmpR op_isN (pv 3) pe_non (nomark _))
      (pss_one (ps_ret (pe_tup (pa_cons pe_str (pa_cons pe_bl (pa_cons (pv 1) pa_nil))))))
      pss_nil)
      (pss_one (ps_ret (pe_slice sl_tup (pe_ix ix_tup (pe_prop (pv 0) T.cl_Loop T.pr_Loop_rules (ok_Loop_rules T) (hr.mono (by decide)) T.b_Loop_rules .nil pass0 (by rfl)) (pv 3) (fun _ _ => rfl)) (po_some pe_int) po_none))))), ?_⟩
    walk_at "rd"
    refine ⟨p, dx, _, rfl, L.ob, lf_no _ _ _ _ (by decide), ?_⟩
    walk_at "rd"
    refine ⟨p, rs, as, z, y, rfl, ⟨dx, c, st, a, d, ys, kvs, L⟩, hz, hy, fun H1 s1 => ?_⟩
    have L1 := L.same s1
    walk_at "rd"
    cases hf : fitIx rs z y with
    | none =>
      have hu := fit_none hf
      rw [decide_eq_true (show optV none = V.non from rfl)]
      walk_at "rd"
      refine ⟨by show 3 ≤ sizeLine; decide, fun t ht => ?_⟩
      generalize hH : upd _ t _ = H2
      obtain ⟨s2, d2⟩ := new_of (o' := .tup [.str "pass", .bl false, .str z]) hH ht rfl
      clear hH
      refine k t H2 (s1.trans s2) ?_
      unfold tellF
      rw [hu]
      exact d2
    | some n =>
      obtain ⟨r, hr', hu⟩ := fit_some hf
      obtain ⟨v, hv, t0, g0, rfl, h1, h2⟩ := paired_ta L1.rt hr'
      rw [decide_eq_false (show ¬ optV (some n) = V.non from fun q => by cases q)]
      walk_at "rd"
      refine ⟨p, dx, _, rfl, L1.ob, ?_⟩
      refine ⟨p, dx, _, _, rfl, L1.ob, lf_rules c st a d, ?_⟩
      walk_at "rd"
      refine ⟨_, _, _, _, rfl, rfl, SqT.of L1.ru, at_any (j := n) hv, ?_⟩
      walk_at "rd"
      refine ⟨_, _, rfl, SqT.of h1, by show ¬ (HT.sIx 5 0 (some 2) = 0 ∧ HT.sIx 5 5 none = 5); decide, fun t ht => ?_⟩
      generalize hH : upd _ t _ = H2
      obtain ⟨s2, d2⟩ := new_of (o' := .tup [.str r.wd, .bl r.kp, .str r.nx]) hH ht rfl
      clear hH
      refine k t H2 (s1.trans s2) ?_
      unfold tellF
      rw [hu]
      exact d2
/-! ### Run -/
def rf (a b c : Addr) (l st an : V) : List (Str × V) := [("words", .ref a), ("keeps", .ref b), ("kept", .ref c), ("last", l), ("state", st), ("answer", an)]
def lastV (ts : List V) : V := (ts.getLast?).getD .non
/-- a Run of the class at C stands at p -/
structure RunIs (C : Addr) (H : Hp) (p : Addr) (ws ks ts : List V) (st an : V) (dx a b c : Addr) : Prop where
  ob : H p = some (.ins C dx (rf a b c (lastV ts) st an))
  ws : H a = some (.tup ws)
  ks : H b = some (.tup ks)
  ts : H c = some (.tup ts)
def RunAt (C : Addr) (H : Hp) (p : Addr) (ws ks ts : List V) (st an : V) : Prop := ∃ dx a b c, RunIs C H p ws ks ts st an dx a b c
def spRunInit (K : PySem.W.Frag) (C : Addr) : Sp := fun vs H Q _ => ∃ (p dx wl kl tl : Addr) (ws ks ts : List V) (st an : V), vs = [.ref p, .ref wl, .ref kl, .ref tl, st, an] ∧ H p = some (.ins C dx []) ∧ H wl = some (.lst ws) ∧ H kl = some (.lst ks) ∧ H tl = some (.lst ts) ∧
  ∀ H', But p H H' → RunAt C H' p ws ks ts st an → Q .non H'
theorem ok_Run__init (T : Txt w K mg) : FnOk P w K mg base CX0 2 T.f_Run__init T.d_Run__init ["self", "words", "keeps", "kept", "state", "answer"] (spRunInit K T.C_Run) := by
  refine T.F_Run__init.ok sc_Run__init (fun vs H Q E h => ?_) (fun cdv A outer s H vs Q E hr h => ?_)
  · obtain ⟨p, dx, wl, kl, tl, ws, ks, ts, st, an, rfl, _⟩ := h
    rfl
  · obtain ⟨p, dx, wl, kl, tl, ws, ks, ts, st, an, rfl, hp, hw, hk, ht, k⟩ := h
    refine ⟨_, (pss_cons (ps_fld (pv 0) (pe_callTy call_tuple_of (by rfl) T.m_tuple (by decide +kernel) (pa_cons (pv 1) pa_nil)) rfl)
      (pss_cons (ps_fld (pv 0) (pe_callTy call_tuple_of (by rfl) T.m_tuple (by decide +kernel) (pa_cons (pv 2) pa_nil)) rfl)
      (pss_cons (ps_fld (pv 0) (pe_callTy call_tuple_of (by rfl) T.m_tuple (by decide +kernel) (pa_cons (pv 3) pa_nil)) rfl)
      (C8.pss_cut (ps_fld (pv 0) (pe_ifExp (pt_cmpR op_gt (pe_callB call_len_seq (by rfl) T.m_len (by decide +kernel) (pa_cons (pe_fld (pv 0) rfl) pa_nil)) pe_int (nomark _)) (pe_ix ix_tup (pe_fld (pv 0) rfl) (pe_un un_neg pe_int) (fun _ _ => rfl)) pe_non) rfl)
      (pss_cons (ps_fld (pv 0) (pv 4) rfl)
      (pss_one (ps_fld (pv 0) (pv 5) rfl))))))), ?_⟩
    walk_at "rd"
    refine ⟨wl, ws, rfl, .inl ⟨SqL.of hw, fun a ha => ?_⟩⟩
    generalize hH : upd _ a _ = H1
    obtain ⟨s1, da⟩ := new_of (o' := .tup ws) hH ha rfl
    clear hH
    walk_at "rd"
    refine ⟨p, _, dx, _, rfl, s1 _ _ hp, T.cl_Run, T.na_Run_words, by show 0 < 1000; decide, ?_⟩
    generalize hH : upd _ p _ = H2
    obtain ⟨u2, p2⟩ := chg_of (o' := .ins T.C_Run dx [("words", .ref a)]) hH rfl
    clear hH
    have nl : ∀ {q : Addr} {l : List V}, H q = some (.lst l) → q ≠ p := fun h z => by rw [z, hp] at h; cases h
    walk_at "rd"
    refine ⟨kl, ks, rfl, .inl ⟨SqL.of (u2 _ _ (nl hk) (s1 _ _ hk)), fun b hb => ?_⟩⟩
    generalize hH : upd _ b _ = H3
    obtain ⟨s3, db⟩ := new_of (o' := .tup ks) hH hb rfl
    clear hH
    walk_at "rd"
    refine ⟨p, _, dx, _, rfl, s3 _ _ p2, T.cl_Run, T.na_Run_keeps, by show 1 < 1000; decide, ?_⟩
    generalize hH : upd _ p _ = H4
    obtain ⟨u4, p4⟩ := chg_of (o' := .ins T.C_Run dx [("words", .ref a), ("keeps", .ref b)]) hH (congrArg (HO.ins T.C_Run dx) (putF_end (show ("keeps" : Str) ∉ (["words"] : List Str) by decide +kernel)))
    clear hH
    have m04 : ∀ q l, H q = some (.lst l) → H4 q = some (.lst l) := fun q l h => u4 _ _ (nl h) (s3 _ _ (u2 _ _ (nl h) (s1 _ _ h)))
    walk_at "rd"
    refine ⟨tl, ts, rfl, .inl ⟨SqL.of (m04 _ _ ht), fun c hc => ?_⟩⟩
    generalize hH : upd _ c _ = H5
    obtain ⟨s5, dc⟩ := new_of (o' := .tup ts) hH hc rfl
    clear hH
    walk_at "rd"
    refine ⟨p, _, dx, _, rfl, s5 _ _ p4, T.cl_Run, T.na_Run_kept, by show 2 < 1000; decide, ?_⟩
    generalize hH : upd _ p _ = H6
    obtain ⟨u6, p6⟩ := chg_of (o' := .ins T.C_Run dx [("words", .ref a), ("keeps", .ref b), ("kept", .ref c)]) hH (congrArg (HO.ins T.C_Run dx) (putF_end (show ("kept" : Str) ∉ (["words", "keeps"] : List Str) by decide +kernel)))
    clear hH
    have ap : a ≠ p := fun z => by rw [z, hp] at ha; cases ha
    have bp : b ≠ p := fun z => by rw [z, p2] at hb; cases hb
    have cp : c ≠ p := fun z => by rw [z, p4] at hc; cases hc
    have a6 := u6 _ _ ap (s5 _ _ (u4 _ _ ap (s3 _ _ (u2 _ _ ap da))))
    have b6 := u6 _ _ bp (s5 _ _ (u4 _ _ bp db))
    have c6 := u6 _ _ cp dc
    have u06 : But p H H6 := (((((Same.but s1).trans u2).trans (Same.but s3)).trans u4).trans (Same.but s5)).trans u6
    refine ⟨fun σ H' => σ = [some (.ref p), some (.ref wl), some (.ref kl), some (.ref tl), some st, some an] ∧ But p H6 H' ∧ H' p = some (.ins T.C_Run dx [("words", .ref a), ("keeps", .ref b), ("kept", .ref c), ("last", lastV ts)]), ?_, ?_⟩
    · walk_at "rd"
      refine ⟨p, _, dx, _, _, rfl, p6, T.cl_Run, T.na_Run_kept, rfl, ?_⟩
      refine ⟨_, _, rfl, .inr (SqT.of c6), ?_⟩
      walk_at "rd"
      have fin : ∀ v, v = lastV ts → But p H6 (upd H6 p (.ins T.C_Run dx (putF "last" v [("words", .ref a), ("keeps", .ref b), ("kept", .ref c)]))) ∧ (upd H6 p (.ins T.C_Run dx (putF "last" v [("words", .ref a), ("keeps", .ref b), ("kept", .ref c)]))) p = some (.ins T.C_Run dx [("words", .ref a), ("keeps", .ref b), ("kept", .ref c), ("last", lastV ts)]) := fun v hv => by
        rw [hv]
        exact chg_of rfl (congrArg (HO.ins T.C_Run dx) (putF_end (show ("last" : Str) ∉ (["words", "keeps", "kept"] : List Str) by decide +kernel)))
      by_cases h0 : ts = []
      · subst h0
        rw [decide_eq_false (show ¬ (0 : Int) < (([] : List V).length : Nat) by decide)]
        walk_at "rd"
        refine ⟨p, _, dx, _, rfl, p6, T.cl_Run, T.na_Run_last, by show 3 < 1000; decide, ?_⟩
        exact ⟨rfl, fin _ rfl⟩
      · have hl : 1 ≤ ts.length := List.length_pos_iff.mpr h0
        rw [decide_eq_true (show (0 : Int) < (ts.length : Nat) by omega)]
        walk_at "rd"
        refine ⟨p, _, dx, _, _, rfl, p6, T.cl_Run, T.na_Run_kept, rfl, ?_⟩
        walk_at "rd"
        obtain ⟨v, hv⟩ : ∃ v, ts.getLast? = some v := by
          cases hq : ts.getLast? with
          | none => exact absurd (List.getLast?_eq_none_iff.mp hq) h0
          | some v => exact ⟨v, rfl⟩
        refine ⟨_, _, _, _, rfl, rfl, SqT.of c6, at_end hv, ?_⟩
        walk_at "rd"
        refine ⟨p, _, dx, _, rfl, p6, T.cl_Run, T.na_Run_last, by show 3 < 1000; decide, ?_⟩
        exact ⟨rfl, fin _ (by unfold lastV; rw [hv]; rfl)⟩
    rintro σ H7 ⟨rfl, u7, p7⟩
    walk_at "rd"
    refine ⟨p, _, dx, _, rfl, p7, T.cl_Run, T.na_Run_state, by show 4 < 1000; decide, ?_⟩
    generalize hH : upd _ p _ = H8
    obtain ⟨u8, p8⟩ := chg_of (o' := .ins T.C_Run dx [("words", .ref a), ("keeps", .ref b), ("kept", .ref c), ("last", lastV ts), ("state", st)]) hH (congrArg (HO.ins T.C_Run dx) (putF_end (show ("state" : Str) ∉ (["words", "keeps", "kept", "last"] : List Str) by decide +kernel)))
    clear hH
    walk_at "rd"
    refine ⟨p, _, dx, _, rfl, p8, T.cl_Run, T.na_Run_answer, by show 5 < 1000; decide, ?_⟩
    generalize hH : upd _ p _ = H9
    obtain ⟨u9, p9⟩ := chg_of (o' := .ins T.C_Run dx (rf a b c (lastV ts) st an)) hH (congrArg (HO.ins T.C_Run dx) (putF_end (show ("answer" : Str) ∉ (["words", "keeps", "kept", "last", "state"] : List Str) by decide +kernel)))
    clear hH
    have u69 : But p H6 H9 := (u7.trans u8).trans u9
    exact k H9 (u06.trans u69) ⟨dx, a, b, c, p9, u69 _ _ ap a6, u69 _ _ bp b6, u69 _ _ cp c6⟩
def spChkRow : Sp := fun vs H Q _ => ∃ (a : Addr) (xs : List Int), vs = [.ref a] ∧ LT H a (xs.map V.int) ∧ xs.length ≤ 1000 ∧ (∀ x ∈ xs, -big < x ∧ x < big) ∧ ∀ H', Same H H' → Q .non H'
theorem ok_check_row (T : Txt w K mg) : FnOk P w K mg base CX0 3 T.f_check_row T.d_check_row ["row"] spChkRow := by
  refine T.F_check_row.ok sc_check_row (fun vs H Q E h => ?_) (fun cdv A outer s H vs Q E hr h => ?_)
  · obtain ⟨a, xs, rfl, _⟩ := h
    rfl
  · obtain ⟨a, xs, rfl, hA, hl, hb, k⟩ := h
    refine ⟨_, (pss_cons (ps_if (PW.pt (pw_or (pt_not (pt_val (pe_callB call_isiT (by rfl) T.m_isinstance (by decide +kernel) (pa_cons (pv 0) (pa_cons (pe_tup (pa_cons (pe_bltn (v := .ty "list") (by rfl) T.m_list (by decide +kernel) rfl) (pa_cons (pe_bltn (v := .ty "tuple") (by rfl) T.m_tuple (by decide +kernel) rfl) pa_nil))) pa_nil))))) (pw_or1 (pt_cmpR op_gt (pe_callB call_len_seq (by rfl) T.m_len (by decide +kernel) (pa_cons (pv 0) pa_nil)) (pe_glob (v := .int 1000) rfl T.m_MOST_ITEMS ⟨_, rfl⟩) (nomark _)))))
      (pss_one ps_never)
      pss_nil)
      (pss_one (ps_for PassesOwn.never rfl (pi_lt (pv 0)) (pg_name (i := 1) sc_check_row.nd rfl (Or.inl rfl))
      (pss_one (ps_expr (pe_call (ok_check_number T) (hr.mono (by decide)) (by rfl) T.m_check_number T.F_check_number.kp T.b_check_number .nil pass0 (pa_cons (pv 1) pa_nil))))))), ?_⟩
    walk_at "rd"
    refine ⟨by show 2 ≤ sizeLine; decide, fun t0 ht0 => ?_⟩
    generalize hH : upd _ t0 _ = H1
    obtain ⟨s1, dt0⟩ := new_of (o' := .tup [.ty "list", .ty "tuple"]) hH ht0 rfl
    clear hH
    have hA1 := hA.same s1
    obtain ⟨t, ty, kb⟩ := hA1.ty (K := K)
    refine ⟨_, t0, _, _, _, true, rfl, dt0, .cons (.ty _) (.cons (.ty _) .nil), ty, kb, ?_⟩
    walk_at "rd"
    refine ⟨_, _, rfl, hA1.sq, ?_⟩
    walk_at "rd"
    rw [decide_eq_false (show ¬ (1000 : Int) < ((xs.map V.int).length : Nat) by rw [List.length_map]; omega)]
    walk_at "rd"
    rcases hA1 with h | h
    · refine Or.inl ⟨_, rfl, a, rfl, ⟨_, SqL.of h⟩, for_list (K := K) (a := a) (xs := xs.map V.int) (fun i σ H' => ∃ v1 : Option V, σ = [some (.ref a), v1] ∧ Same H1 H') ⟨none, rfl, Same.refl _⟩ (fun i σ H' _ ⟨_, _, z⟩ => z.seq (SqL.of h)) ?_ ?_⟩
      · rintro i x σ H2 hx ⟨v1, rfl, s2⟩
        obtain ⟨z, rfl, hz⟩ := int_at hx
        have b := hb z (List.mem_of_getElem? hz)
        walk_at "rd"
        refine ⟨b.1, b.2, ?_⟩
        exact ⟨_, rfl, s2⟩
      · rintro σ H2 ⟨v1, rfl, s2⟩
        exact k H2 (s1.trans s2)
    · refine Or.inr ⟨_, rfl, a, rfl, ⟨_, SqT.of h⟩, for_tup (K := K) (a := a) (xs := xs.map V.int) (fun i σ H' => ∃ v1 : Option V, σ = [some (.ref a), v1] ∧ Same H1 H') ⟨none, rfl, Same.refl _⟩ (fun i σ H' _ ⟨_, _, z⟩ => SqT.of (z _ _ h)) ?_ ?_⟩
      · rintro i x σ H2 hx ⟨v1, rfl, s2⟩
        obtain ⟨z, rfl, hz⟩ := int_at hx
        have b := hb z (List.mem_of_getElem? hz)
        walk_at "rd"
        refine ⟨b.1, b.2, ?_⟩
        exact ⟨_, rfl, s2⟩
      · rintro σ H2 ⟨v1, rfl, s2⟩
        exact k H2 (s1.trans s2)
def spPlc : Sp := fun vs H Q _ => ∃ (a : Addr) (kept : List Int) (x e : Int), vs = [.int x, .ref a, .int e] ∧ H a = some (.lst (kept.map V.int)) ∧ -big < x ∧ x < big ∧ (∀ k ∈ kept, -big < k ∧ k < big) ∧ 1 ≤ e ∧ e < big ∧ ∀ H', Same H H' → Q (.str (whF kept x e)) H'
theorem last_at {kept : List Int} {k : Int} (h : kept.getLast? = some k) : atI (kept.map V.int) (-1) = some (V.int k) :=
  at_end (by rw [List.getLast?_map, h]; rfl)
theorem ok_u_place (T : Txt w K mg) : FnOk P w K mg base CX0 5 T.f_u_place T.d_u_place ["number", "kept", "tolerance"] spPlc := by
  refine T.F_u_place.ok sc_u_place (fun vs H Q E h => ?_) (fun cdv A outer s H vs Q E hr h => ?_)
  · obtain ⟨a, kept, x, e, rfl, _⟩ := h
    rfl
  · obtain ⟨a, kept, x, e, rfl, ha, x1, x2, hk, e1, e2, k⟩ := h
    refine ⟨_, (pss_cons (ps_if (pt_cmpR op_eq (pe_callB call_len_seq (by rfl) T.m_len (by decide +kernel) (pa_cons (pv 1) pa_nil)) pe_int (nomark _))
      (pss_one (ps_ret pe_str))
      pss_nil)
      (pss_one (ps_ret (pe_call (ok_place T) (hr.mono (by decide)) (by rfl) T.m_place T.F_place.kp T.b_place .nil pass0 (pa_cons (pv 0) (pa_cons (pe_ix ix_list (pv 1) (pe_un un_neg pe_int) (fun _ _ => rfl)) (pa_cons (pv 2) pa_nil))))))), ?_⟩
    walk_at "rd"
    refine ⟨_, _, rfl, .inl (SqL.of ha), ?_⟩
    walk_at "rd"
    cases hl : kept.getLast? with
    | none =>
      have h0 : kept = [] := List.getLast?_eq_none_iff.mp hl
      subst h0
      walk_at "rd"
      exact k H (Same.refl _)
    | some z =>
      have hz := hk z (List.mem_of_getLast? hl)
      have h0 : kept ≠ [] := fun q => by rw [q] at hl; cases hl
      rw [decide_eq_false (show ¬ V.int ((kept.map V.int).length : Nat) = V.int 0 from fun q => by
        rw [List.length_map] at q
        have q' : (kept.length : Int) = 0 := by injection q
        exact h0 (List.length_eq_zero_iff.mp (by omega)))]
      walk_at "rd"
      refine ⟨_, _, _, _, rfl, rfl, SqL.of ha, last_at hl, ?_⟩
      walk_at "rd"
      rw [show whF kept x e = plc x z e by unfold whF; rw [hl]] at k
      exact ⟨x, z, e, rfl, x1, x2, hz.1, hz.2, e1, e2, k⟩
--SPLIT
def spRun (C CR : Addr) : Sp := fun vs H Q _ => ∃ (p a : Addr) (r : Rul) (rs : List Rul) (as : List (Str × Str)) (xs : List Int) (e : Int), vs = [.ref p, .ref a, .int e] ∧ LoopAt C H p (r :: rs) as ∧ RulsV (r :: rs) ∧ LT H a (xs.map V.int) ∧ xs.length ≤ 1000 ∧ (∀ x ∈ xs, -big < x ∧ x < big) ∧ 1 ≤ e ∧ e < big ∧
  ∀ (q : Addr) (H' : Hp), Same H H' → RunAt CR H' q ((runS (r :: rs) e (begS r.st) xs).words.map V.str) ((runS (r :: rs) e (begS r.st) xs).keeps.map V.bl) ((runS (r :: rs) e (begS r.st) xs).kept.map V.int) (.str (runS (r :: rs) e (begS r.st) xs).st) (.str (ansOf as (runS (r :: rs) e (begS r.st) xs).st)) → Q (.ref q) H'
theorem ok_run (T : Txt w K mg) : FnOk P w K mg base CX0 6 T.f_run T.d_run ["loop", "row", "tolerance"] (spRun T.C_Loop T.C_Run) := by
  refine T.F_run.ok sc_run (fun vs H Q E h => ?_) (fun cdv A outer s H vs Q E hr h => ?_)
  · obtain ⟨p, a, r, rs, as, xs, e, rfl, _⟩ := h
    rfl
  · obtain ⟨p, a, r, rs, as, xs, e, rfl, L, rv, hA, hl, hb, e1, e2, k⟩ := h
    refine ⟨_, (pss_cons (ps_expr (pe_call (ok_check_row T) (hr.mono (by decide)) (by rfl) T.m_check_row T.F_check_row.kp T.b_check_row .nil pass0 (pa_cons (pv 1) pa_nil)))
      (pss_cons (ps_expr (pe_call (ok_check_tolerance T) (hr.mono (by decide)) (by rfl) T.m_check_tolerance T.F_check_tolerance.kp T.b_check_tolerance .nil pass0 (pa_cons (pv 2) pa_nil)))
      (pss_cons (ps_set (i := 3) sc_run.nd rfl (Or.inl rfl) (pe_lst pa_nil))
      (pss_cons (ps_set (i := 4) sc_run.nd rfl (Or.inl rfl) (pe_lst pa_nil))
      (pss_cons (ps_set (i := 5) sc_run.nd rfl (Or.inl rfl) (pe_lst pa_nil))
      (pss_cons (ps_set (i := 6) sc_run.nd rfl (Or.inl rfl) (pe_prop (pv 0) T.cl_Loop T.pr_Loop_start (ok_Loop_start T) (hr.mono (by decide)) T.b_Loop_start .nil pass0 (by rfl)))
      (pss_cons (ps_for PassesOwn.never rfl (pi_lt (pv 1)) (pg_name (i := 7) sc_run.nd rfl (Or.inl rfl))
      (pss_cons (ps_asg (pe_call (ok_step T) (hr.mono (by decide)) (by rfl) T.m_step T.F_step.kp T.b_step .nil pass0 (pa_cons (pv 0) (pa_cons (pv 6) (pa_cons (pe_call (ok_u_place T) (hr.mono (by decide)) (by rfl) T.m_u_place T.F_u_place.kp T.b_u_place .nil pass0 (pa_cons (pv 7) (pa_cons (pv 5) (pa_cons (pv 2) pa_nil)))) pa_nil)))) (pg_tup (by rfl) (pgs_cons (pg_name (i := 8) sc_run.nd rfl (Or.inl rfl)) (pgs_cons (pg_name (i := 9) sc_run.nd rfl (Or.inl rfl)) (pgs_cons (pg_name (i := 6) sc_run.nd rfl (Or.inl rfl)) pgs_nil)))))
      (pss_cons (ps_expr (pe_bm PySem.F.plainAttrs_list PySem.F.slot_list_append PySem.F.type_list_append mt_append (pv 3) (pa_cons (pv 8) pa_nil)))
      (pss_cons (ps_expr (pe_bm PySem.F.plainAttrs_list PySem.F.slot_list_append PySem.F.type_list_append mt_append (pv 4) (pa_cons (pv 9) pa_nil)))
      (pss_one (ps_if (pt_val (pv 9))
      (pss_one (ps_expr (pe_bm PySem.F.plainAttrs_list PySem.F.slot_list_append PySem.F.type_list_append mt_append (pv 5) (pa_cons (pv 7) pa_nil))))
      pss_nil))))))
      (pss_one (ps_ret (pe_make T.mk_Run (ok_Run__init T) (hr.mono (by decide)) (by rfl) T.m_Run T.b_Run__init .nil pass0 (pa_cons (pv 3) (pa_cons (pv 4) (pa_cons (pv 5) (pa_cons (pv 6) (pa_cons (pe_dget (hu_of hr) (pe_prop (pv 0) T.cl_Loop T.pr_Loop_answers (ok_Loop_answers T) (hr.mono (by decide)) T.b_Loop_answers .nil pass0 (by rfl)) (pv 6) (fun _ _ => rfl)) pa_nil))))))))))))))), ?_⟩
    have hw : ∀ q ∈ r :: rs, PyData.strOk q.wd = true := fun q hq => (rv.all q hq).wd.ok
    have hst : r.st ∈ statesOf (r :: rs) := states_mem_st List.mem_cons_self
    walk_at "rd"
    refine ⟨a, xs, rfl, hA, hl, hb, fun H1 s1 => ?_⟩
    walk_at "rd"
    refine ⟨e1, e2, ?_⟩
    refine ⟨by show 0 ≤ sizeLine; decide, fun wl hwl => ?_⟩
    generalize hH : upd _ wl _ = H2
    obtain ⟨s2, w2⟩ := new_of (o' := .lst (([] : List Str).map V.str)) hH hwl rfl
    clear hH
    refine ⟨by show 0 ≤ sizeLine; decide, fun kl hkl => ?_⟩
    generalize hH : upd _ kl _ = H3
    obtain ⟨s3, k3⟩ := new_of (o' := .lst (([] : List Bool).map V.bl)) hH hkl rfl
    clear hH
    refine ⟨by show 0 ≤ sizeLine; decide, fun tl htl => ?_⟩
    generalize hH : upd _ tl _ = H4
    obtain ⟨s4, t4⟩ := new_of (o' := .lst (([] : List Int).map V.int)) hH htl rfl
    clear hH
    have wk : wl ≠ kl := ne_of_none w2 hkl
    have wt : wl ≠ tl := ne_of_none (s3 _ _ w2) htl
    have kt : kl ≠ tl := ne_of_none k3 htl
    have hwl0 : H wl = none := s1.free hwl
    have hkl0 : H kl = none := (s1.trans s2).free hkl
    have htl0 : H tl = none := ((s1.trans s2).trans s3).free htl
    have s04 := ((s1.trans s2).trans s3).trans s4
    have w4 := s4 _ _ (s3 _ _ w2)
    have k4 := s4 _ _ k3
    clear s1 s2 s3 s4 w2 k3 hwl hkl htl
    obtain ⟨dx0, c0, st0, a0, d0, ys0, kvs0, L0⟩ := id L
    walk_at "rd"
    refine ⟨p, dx0, _, rfl, (L0.same s04).ob, ?_⟩
    refine ⟨p, r, rs, as, rfl, L.same s04, ?_⟩
    walk_at "rd"
    have L7 : ∀ H7, Same H H7 → LoopIs T.C_Loop H7 p (r :: rs) as dx0 c0 st0 a0 d0 ys0 kvs0 := fun H7 s => L0.same s
    rcases hA with h | h
    · refine Or.inl ⟨_, rfl, a, rfl, ⟨_, SqL.of (s04 _ _ h)⟩, for_list (K := K) (a := a) (xs := xs.map V.int) (fun i σ H' => ∃ v7 v8 v9 : Option V, σ = [some (.ref p), some (.ref a), some (.int e), some (.ref wl), some (.ref kl), some (.ref tl), some (.str (runS (r :: rs) e (begS r.st) (xs.take i)).st), v7, v8, v9] ∧ Same H H' ∧ H' wl = some (.lst ((runS (r :: rs) e (begS r.st) (xs.take i)).words.map V.str)) ∧ H' kl = some (.lst ((runS (r :: rs) e (begS r.st) (xs.take i)).keeps.map V.bl)) ∧ H' tl = some (.lst ((runS (r :: rs) e (begS r.st) (xs.take i)).kept.map V.int)))
        ⟨none, none, none, rfl, s04, w4, k4, t4⟩ (fun i σ H' _ ⟨_, _, _, _, z, _⟩ => SqL.of (z _ _ h)) ?_ ?_⟩
      · rintro i x σ H7 hx ⟨v7, v8, v9, rfl, s7, w7, k7, t7⟩
        obtain ⟨z, rfl, hz⟩ := int_at hx
        have hzb := hb z (List.mem_of_getElem? hz)
        have il : i < xs.length := (List.getElem?_eq_some_iff.mp hz).1
        have ok := RunOk.of (e := e) (xs := xs) hw hst i (by omega)
        have more := runS_more hz (r :: rs) e (begS r.st)
        generalize runS (r :: rs) e (begS r.st) (xs.take i) = R at ok more w7 k7 t7
        have lt : ∀ n : Nat, n ≤ 1000 → n < sizeLine := fun n h => Nat.lt_of_le_of_lt h (by decide)
        walk_at "rd"
        refine ⟨tl, R.kept, z, e, rfl, t7, hzb.1, hzb.2, fun k hk => hb k (ok.kin k hk), e1, e2, fun H8 s8 => ?_⟩
        walk_at "rd"
        refine ⟨p, r :: rs, as, R.st, whF R.kept z e, rfl, (L.same s7).same s8, ok.st, whF_in _ _ _, fun t H9 s9 d9 => ?_⟩
        refine ⟨_, _, rfl, SqT.of d9, rfl, ?_⟩
        have s79 := s8.trans s9
        have w9 := s79 _ _ w7
        have k9 := s79 _ _ k7
        have t9 := s79 _ _ t7
        walk_at "rd"
        refine ⟨.inl ⟨rfl, _, SqL.of w9⟩, ?_⟩
        walk_at "rd"
        refine ⟨_, _, _, rfl, rfl, w9, by rw [List.length_map, ok.nw]; exact lt _ (by omega), ?_⟩
        generalize hH : upd _ wl _ = H10
        obtain ⟨u10, w10⟩ := chg_of (o' := .lst ((stepS (r :: rs) e R z).words.map V.str)) hH (by show _ = HO.lst ((R.words ++ [_]).map V.str); rw [List.map_append]; rfl)
        clear hH
        have k10 := u10 _ _ wk.symm k9
        have t10 := u10 _ _ wt.symm t9
        walk_at "rd"
        refine ⟨.inl ⟨rfl, _, SqL.of k10⟩, ?_⟩
        walk_at "rd"
        refine ⟨_, _, _, rfl, rfl, k10, by rw [List.length_map, ok.nk]; exact lt _ (by omega), ?_⟩
        generalize hH : upd _ kl _ = H11
        obtain ⟨u11, k11⟩ := chg_of (o' := .lst ((stepS (r :: rs) e R z).keeps.map V.bl)) hH (by show _ = HO.lst ((R.keeps ++ [_]).map V.bl); rw [List.map_append]; rfl)
        clear hH
        have w11 := u11 _ _ wk w10
        have t11 := u11 _ _ kt.symm t10
        have S11 : Same H H11 := fun b o q => u11 _ _ (ne_of_none q hkl0) (u10 _ _ (ne_of_none q hwl0) (s79 _ _ (s7 _ _ q)))
        walk_at "rd"
        have ek : (stepS (r :: rs) e R z).kept = if (tellF (r :: rs) R.st (whF R.kept z e)).2.1 = true then R.kept ++ [z] else R.kept := rfl
        by_cases hb1 : (tellF (r :: rs) R.st (whF R.kept z e)).2.1 = true
        · rw [if_pos hb1] at ek
          rw [hb1]
          walk_at "rd"
          refine ⟨.inl ⟨rfl, _, SqL.of t11⟩, ?_⟩
          walk_at "rd"
          have nt := ok.nt
          refine ⟨_, _, _, rfl, rfl, t11, by rw [List.length_map]; exact lt _ (by omega), ?_⟩
          generalize hH : upd _ tl _ = H12
          obtain ⟨u12, t12⟩ := chg_of (o' := .lst ((R.kept ++ [z]).map V.int)) hH (by rw [List.map_append]; rfl)
          clear hH
          rw [more]
          exact ⟨_, _, _, rfl, fun b o q => u12 _ _ (ne_of_none q htl0) (S11 _ _ q), u12 _ _ wt w11, u12 _ _ kt k11, by rw [ek]; exact t12⟩
        · rw [if_neg hb1] at ek
          rw [Bool.not_eq_true] at hb1
          rw [hb1]
          walk_at "rd"
          rw [more]
          exact ⟨_, _, _, rfl, S11, w11, k11, by rw [ek]; exact t11⟩
      · rintro σ H7 ⟨v7, v8, v9, rfl, s7, w7, k7, t7⟩
        have ok := RunOk.of (e := e) (xs := xs) hw hst xs.length (Nat.le_refl _)
        rw [List.length_map, List.take_length] at w7 k7 t7
        rw [List.take_length] at ok
        walk_at "rd"
        refine ⟨p, dx0, _, rfl, (L7 H7 s7).ob, ?_⟩
        rw [List.length_map, List.take_length]
        refine ⟨p, r :: rs, as, rfl, ⟨dx0, c0, st0, a0, d0, ys0, kvs0, L7 H7 s7⟩, Nat.le_trans rv.sts (by decide), fun d hd => ?_⟩
        generalize hH : upd _ d _ = H8
        obtain ⟨s8, d8⟩ := new_of (o' := .dK (ansD (r :: rs) as)) hH hd rfl
        clear hH
        generalize runS (r :: rs) e (begS r.st) xs = R at *
        have get : DGet H8 d (.str R.st) (some (.str (ansOf as R.st))) := by
          have q := DGet.k (k := Sum.inr R.st) d8
          rw [ansD_val ok.st] at q
          exact q
        walk_at "rd"
        refine ⟨d, _, rfl, get, ?_⟩
        walk_at "rd"
        refine fun q dq hq hdq ne => ?_
        generalize hH : upd (upd H8 dq _) q _ = H9
        obtain ⟨s9, q9⟩ : Same H8 H9 ∧ H9 q = some (.ins T.C_Run dq []) := by
          subst hH
          exact ⟨(Same.new hdq).trans (Same.new (by rw [upd_ne ne.symm]; exact hq)), upd_same⟩
        clear hH
        have s79 := s8.trans s9
        refine ⟨q, dq, wl, kl, tl, _, _, _, _, _, rfl, q9, s79 _ _ w7, s79 _ _ k7, s79 _ _ t7, fun H10 u10 R10 => ⟨rfl, ?_⟩⟩
        exact k q H10 (same_but (s7.trans s79) u10 ((s7.trans s8).free hq)) R10
    · refine Or.inr ⟨_, rfl, a, rfl, ⟨_, SqT.of (s04 _ _ h)⟩, for_tup (K := K) (a := a) (xs := xs.map V.int) (fun i σ H' => ∃ v7 v8 v9 : Option V, σ = [some (.ref p), some (.ref a), some (.int e), some (.ref wl), some (.ref kl), some (.ref tl), some (.str (runS (r :: rs) e (begS r.st) (xs.take i)).st), v7, v8, v9] ∧ Same H H' ∧ H' wl = some (.lst ((runS (r :: rs) e (begS r.st) (xs.take i)).words.map V.str)) ∧ H' kl = some (.lst ((runS (r :: rs) e (begS r.st) (xs.take i)).keeps.map V.bl)) ∧ H' tl = some (.lst ((runS (r :: rs) e (begS r.st) (xs.take i)).kept.map V.int)))
        ⟨none, none, none, rfl, s04, w4, k4, t4⟩ (fun i σ H' _ ⟨_, _, _, _, z, _⟩ => SqT.of (z _ _ h)) ?_ ?_⟩
      · rintro i x σ H7 hx ⟨v7, v8, v9, rfl, s7, w7, k7, t7⟩
        obtain ⟨z, rfl, hz⟩ := int_at hx
        have hzb := hb z (List.mem_of_getElem? hz)
        have il : i < xs.length := (List.getElem?_eq_some_iff.mp hz).1
        have ok := RunOk.of (e := e) (xs := xs) hw hst i (by omega)
        have more := runS_more hz (r :: rs) e (begS r.st)
        generalize runS (r :: rs) e (begS r.st) (xs.take i) = R at ok more w7 k7 t7
        have lt : ∀ n : Nat, n ≤ 1000 → n < sizeLine := fun n h => Nat.lt_of_le_of_lt h (by decide)
        walk_at "rd"
        refine ⟨tl, R.kept, z, e, rfl, t7, hzb.1, hzb.2, fun k hk => hb k (ok.kin k hk), e1, e2, fun H8 s8 => ?_⟩
        walk_at "rd"
        refine ⟨p, r :: rs, as, R.st, whF R.kept z e, rfl, (L.same s7).same s8, ok.st, whF_in _ _ _, fun t H9 s9 d9 => ?_⟩
        refine ⟨_, _, rfl, SqT.of d9, rfl, ?_⟩
        have s79 := s8.trans s9
        have w9 := s79 _ _ w7
        have k9 := s79 _ _ k7
        have t9 := s79 _ _ t7
        walk_at "rd"
        refine ⟨.inl ⟨rfl, _, SqL.of w9⟩, ?_⟩
        walk_at "rd"
        refine ⟨_, _, _, rfl, rfl, w9, by rw [List.length_map, ok.nw]; exact lt _ (by omega), ?_⟩
        generalize hH : upd _ wl _ = H10
        obtain ⟨u10, w10⟩ := chg_of (o' := .lst ((stepS (r :: rs) e R z).words.map V.str)) hH (by show _ = HO.lst ((R.words ++ [_]).map V.str); rw [List.map_append]; rfl)
        clear hH
        have k10 := u10 _ _ wk.symm k9
        have t10 := u10 _ _ wt.symm t9
        walk_at "rd"
        refine ⟨.inl ⟨rfl, _, SqL.of k10⟩, ?_⟩
        walk_at "rd"
        refine ⟨_, _, _, rfl, rfl, k10, by rw [List.length_map, ok.nk]; exact lt _ (by omega), ?_⟩
        generalize hH : upd _ kl _ = H11
        obtain ⟨u11, k11⟩ := chg_of (o' := .lst ((stepS (r :: rs) e R z).keeps.map V.bl)) hH (by show _ = HO.lst ((R.keeps ++ [_]).map V.bl); rw [List.map_append]; rfl)
        clear hH
        have w11 := u11 _ _ wk w10
        have t11 := u11 _ _ kt.symm t10
        have S11 : Same H H11 := fun b o q => u11 _ _ (ne_of_none q hkl0) (u10 _ _ (ne_of_none q hwl0) (s79 _ _ (s7 _ _ q)))
        walk_at "rd"
        have ek : (stepS (r :: rs) e R z).kept = if (tellF (r :: rs) R.st (whF R.kept z e)).2.1 = true then R.kept ++ [z] else R.kept := rfl
        by_cases hb1 : (tellF (r :: rs) R.st (whF R.kept z e)).2.1 = true
        · rw [if_pos hb1] at ek
          rw [hb1]
          walk_at "rd"
          refine ⟨.inl ⟨rfl, _, SqL.of t11⟩, ?_⟩
          walk_at "rd"
          have nt := ok.nt
          refine ⟨_, _, _, rfl, rfl, t11, by rw [List.length_map]; exact lt _ (by omega), ?_⟩
          generalize hH : upd _ tl _ = H12
          obtain ⟨u12, t12⟩ := chg_of (o' := .lst ((R.kept ++ [z]).map V.int)) hH (by rw [List.map_append]; rfl)
          clear hH
          rw [more]
          exact ⟨_, _, _, rfl, fun b o q => u12 _ _ (ne_of_none q htl0) (S11 _ _ q), u12 _ _ wt w11, u12 _ _ kt k11, by rw [ek]; exact t12⟩
        · rw [if_neg hb1] at ek
          rw [Bool.not_eq_true] at hb1
          rw [hb1]
          walk_at "rd"
          rw [more]
          exact ⟨_, _, _, rfl, S11, w11, k11, by rw [ek]; exact t11⟩
      · rintro σ H7 ⟨v7, v8, v9, rfl, s7, w7, k7, t7⟩
        have ok := RunOk.of (e := e) (xs := xs) hw hst xs.length (Nat.le_refl _)
        rw [List.length_map, List.take_length] at w7 k7 t7
        rw [List.take_length] at ok
        walk_at "rd"
        refine ⟨p, dx0, _, rfl, (L7 H7 s7).ob, ?_⟩
        rw [List.length_map, List.take_length]
        refine ⟨p, r :: rs, as, rfl, ⟨dx0, c0, st0, a0, d0, ys0, kvs0, L7 H7 s7⟩, Nat.le_trans rv.sts (by decide), fun d hd => ?_⟩
        generalize hH : upd _ d _ = H8
        obtain ⟨s8, d8⟩ := new_of (o' := .dK (ansD (r :: rs) as)) hH hd rfl
        clear hH
        generalize runS (r :: rs) e (begS r.st) xs = R at *
        have get : DGet H8 d (.str R.st) (some (.str (ansOf as R.st))) := by
          have q := DGet.k (k := Sum.inr R.st) d8
          rw [ansD_val ok.st] at q
          exact q
        walk_at "rd"
        refine ⟨d, _, rfl, get, ?_⟩
        walk_at "rd"
        refine fun q dq hq hdq ne => ?_
        generalize hH : upd (upd H8 dq _) q _ = H9
        obtain ⟨s9, q9⟩ : Same H8 H9 ∧ H9 q = some (.ins T.C_Run dq []) := by
          subst hH
          exact ⟨(Same.new hdq).trans (Same.new (by rw [upd_ne ne.symm]; exact hq)), upd_same⟩
        clear hH
        have s79 := s8.trans s9
        refine ⟨q, dq, wl, kl, tl, _, _, _, _, _, rfl, q9, s79 _ _ w7, s79 _ _ k7, s79 _ _ t7, fun H10 u10 R10 => ⟨rfl, ?_⟩⟩
        exact k q H10 (same_but (s7.trans s79) u10 ((s7.trans s8).free hq)) R10
--SPLIT
/-! ### lists of numbers, of texts, of truth values, as data -/
structure Atoms {α : Type} (f : α → V) (g : α → PyData) : Prop where
  dp : ∀ (K : PySem.W.Frag) (H : Hp) (a : α), Dp K H (f a) (g a)
  depth : ∀ a, (g a).depth ≤ 1
theorem at_int : Atoms V.int PyData.int := ⟨fun _ _ a => .int a, fun a => by simp [PyData.depth]⟩
theorem at_bl : Atoms V.bl PyData.bool := ⟨fun _ _ a => .bl a, fun a => by simp [PyData.depth]⟩
theorem at_str : Atoms V.str PyData.str := ⟨fun _ _ a => .str a, fun a => by simp [PyData.depth]⟩
section
variable {α : Type} {f : α → V} {g : α → PyData} (A : Atoms f g)
include A
theorem Atoms.all {K : PySem.W.Frag} {H : Hp} : ∀ l : List α, DpAll K H (l.map f) (l.map g)
  | [] => .nil
  | a :: r => .cons (A.dp K H a) (Atoms.all r)
theorem Atoms.deep : ∀ l : List α, PyData.depthAll (l.map g) ≤ 1
  | [] => by simp [PyData.depthAll]
  | a :: r => by
    have ih := Atoms.deep r
    have h := A.depth a
    rw [List.map_cons, PyData.depthAll]
    omega
omit A in
theorem lay_all : ∀ l : List α, (∀ a ∈ l, (g a).canLay0 = true) → PyData.canLayAll0 (l.map g) = true
  | [], _ => rfl
  | a :: r, h => by
    rw [List.map_cons, PyData.canLayAll0, lay_all r fun z hz => h z (List.mem_cons_of_mem _ hz), h a List.mem_cons_self]
    rfl
theorem Atoms.shL {l : List α} (h : ∀ a ∈ l, (g a).canLay0 = true) : SeqAt.shaped (.list (l.map g)) = true :=
  shaped_of (by rw [PyData.canLay0]; exact lay_all l h) (by rw [PyData.depth]; have := A.deep l; omega)
theorem Atoms.shT {l : List α} (h : ∀ a ∈ l, (g a).canLay0 = true) : SeqAt.shaped (.tuple (l.map g)) = true :=
  shaped_of (by rw [PyData.canLay0]; exact lay_all l h) (by rw [PyData.depth]; have := A.deep l; omega)
omit A in
theorem eqvL {l : List α} (h : ∀ a ∈ l, (g a).canLay0 = true) : PyData.eqv (.list (l.map g)) (.list (l.map g)) = true := SeqAt.eqv_refl _ (by rw [PyData.canLay0]; exact lay_all l h)
end
theorem lay_int : ∀ l : List Int, ∀ a ∈ l, (PyData.int a).canLay0 = true := fun _ _ _ => rfl
theorem lay_bl : ∀ l : List Bool, ∀ a ∈ l, (PyData.bool a).canLay0 = true := fun _ _ _ => rfl
theorem lay_str {l : List Str} (h : ∀ z ∈ l, PyData.strOk z = true) : ∀ a ∈ l, (PyData.str a).canLay0 = true := fun a ha => by
  rw [PyData.canLay0]
  exact h a ha
theorem eqv_nil (l : List PyData) : PyData.eqv (.list l) (.list []) = l.isEmpty := by
  cases l <;> simp [PyData.eqv, PyData.eqvAll]
theorem shaped_nil : SeqAt.shaped (.list []) = true := by decide +kernel
/-- xs == [], xs a list of numbers -/
theorem eq_nil {K : PySem.W.Frag} {H : Hp} {a b : Addr} {xs : List Int} {Q : VK} (ha : H a = some (.lst (xs.map V.int))) (hb : H b = some (.lst [])) (k : Q (.bl xs.isEmpty) H) : rEqD K (.ref a) (.ref b) H Q := by
  refine ⟨_, _, .lst (SqL.of ha) (at_int.all xs), .lst (SqL.of hb) .nil, at_int.shL (lay_int xs), shaped_nil, ?_⟩
  rw [eqv_nil, List.isEmpty_map]
  exact k
def ansL : List Str := ["yes", "no", "even"]
theorem ansL_name : ∀ z ∈ ansL, nameB z = true := by decide +kernel
theorem nd_take {l : List Str} {i : Nat} {z : Str} (h : l.Nodup) (hz : l[i]? = some z) : z ∉ l.take i := fun m => by
  obtain ⟨j, hj⟩ := List.getElem?_of_mem m
  rw [List.getElem?_take] at hj
  split at hj
  · have := nd_ix h hj hz
    omega
  · cases hj
/-- what _law_answers makes -/
structure AnsM (zs : List Str) (as : List (Str × Str)) : Prop where
  inn : ∀ q ∈ as, q.1 ∈ zs
  val : ∀ q ∈ as, q.2 ∈ ansL
  few : as.length ≤ zs.length
theorem lookup_mem {z y : Str} : ∀ {as : List (Str × Str)}, as.lookup z = some y → ∃ q ∈ as, q.2 = y
  | (a, b) :: r, h => by
    rw [List.lookup_cons] at h
    split at h
    · cases h
      exact ⟨(a, y), List.mem_cons_self, rfl⟩
    · obtain ⟨q, hq, e⟩ := lookup_mem h
      exact ⟨q, List.mem_cons_of_mem _ hq, e⟩
theorem AnsM.ok {zs : List Str} {as : List (Str × Str)} (h : AnsM zs as) (z : Str) : AnsOk (ansOf as z) := by
  unfold ansOf
  cases e : as.lookup z with
  | none => exact .inr rfl
  | some y =>
    obtain ⟨q, hq, rfl⟩ := lookup_mem e
    exact .inl (nameB_iff.mp (ansL_name _ (h.val q hq)))
theorem AnsM.v {zs : List Str} {as : List (Str × Str)} (h : AnsM zs as) (hz : zs.length ≤ 6) : AnsV zs as := ⟨h.inn, by have := h.few; omega, fun z _ => h.ok z⟩
theorem AnsOk.str {z : Str} (h : AnsOk z) : PyData.strOk z = true := by
  rcases h with h | h
  · exact h.ok
  · rw [h]
    decide +kernel
def spAnsw (K : PySem.W.Frag) : Sp := fun vs H Q _ => ∃ (H0 : Hp) (p l : Addr) (xs : List V) (rs : List Rul) (n : Int), vs = [.ref p, .ref l] ∧ Src H p n ∧ n < 100000 ∧ SqL K H l xs ∧ RulesAt H0 H xs rs ∧ rs.length ≤ 1000 ∧ (statesOf rs).length ≤ 6 ∧
  ∀ (d : Addr) (as : List (Str × Str)) (H' : Hp), AnsM (statesOf rs) as → H d = none → H' d = some (.dK (ansKv as)) → But p H H' → Src H' p (n + 100) → Q (.ref d) H'
theorem ok_law_answers (T : Txt w K mg) : FnOk P w K mg base CX0 3 T.f_law_answers T.d_law_answers ["_law_source_here", "_law_rules_here"] (spAnsw K) := by
  refine T.F_law_answers.ok sc_law_answers (fun vs H Q E h => ?_) (fun cdv A outer s H vs Q E hr h => ?_)
  · obtain ⟨H0, p, l, xs, rs, n, rfl, _⟩ := h
    rfl
  · obtain ⟨H0, p, l, xs, rs, n, rfl, S, hn, hS, hat, hl, h6, k⟩ := h
    refine ⟨_, (pss_cons (ps_set (i := 2) sc_law_answers.nd rfl (Or.inl rfl) pe_dnewK)
      (pss_cons (ps_for PassesOwn.never rfl (pi_list (pe_call (ok_law_states T) (hr.mono (by decide)) (by rfl) T.m_law_states T.F_law_states.kp T.b_law_states .nil pass0 (pa_cons (pv 1) pa_nil))) (pg_name (i := 3) sc_law_answers.nd rfl (Or.inl rfl))
      (pss_one (ps_if (pt_cmpR op_eq (pe_call (ok_law_draw T) (hr.mono (by decide)) (by rfl) T.m_law_draw T.F_law_draw.kp T.b_law_draw .nil pass0 (pa_cons (pv 0) (pa_cons pe_int pa_nil))) pe_int (nomark _))
      (pss_one (ps_dput (hu_of hr) (pv 2) (pv 3) (pe_call (ok_law_pick T) (hr.mono (by decide)) (by rfl) T.m_law_pick T.F_law_pick.kp T.b_law_pick .nil pass0 (pa_cons (pv 0) (pa_cons (pe_lst (pa_cons pe_str (pa_cons pe_str (pa_cons pe_str pa_nil)))) pa_nil))) rfl))
      pss_nil)))
      (pss_one (ps_ret (pv 2))))), ?_⟩
    refine fun d hd => ?_
    generalize hH : upd _ d _ = H1
    obtain ⟨s1, d1⟩ := new_of (o' := .dK (ansKv [])) hH hd rfl
    clear hH
    have dp : d ≠ p := S.ne hd
    walk_at "rd"
    refine ⟨l, xs, rs, H0, rfl, s1.seq hS, rules_same hat s1, hl, fun st H2 hst s2 d2 => ?_⟩
    have sd : st ≠ d := fun q => by rw [q, d1] at hst; cases hst
    have S2 := (S.same s1).same s2
    have stp : st ≠ p := (S.same s1).ne hst
    refine ⟨st, rfl, ⟨_, SqL.of d2⟩, for_list (K := K) (a := st) (xs := (statesOf rs).map V.str) (fun i σ H' => ∃ (v3 : Option V) (as : List (Str × Str)), σ = [some (.ref p), some (.ref l), some (.ref d), v3] ∧ But p H H' ∧ H' d = some (.dK (ansKv as)) ∧ (∀ q ∈ as, q.1 ∈ (statesOf rs).take i) ∧ (∀ q ∈ as, q.2 ∈ ansL) ∧ as.length ≤ i ∧ H' st = some (.lst ((statesOf rs).map V.str)) ∧ Src H' p (n + 2 * (i : Int)))
      ⟨none, [], rfl, (Same.but s1).trans (Same.but s2), s2 _ _ d1, (fun q h => nomatch h), (fun q h => nomatch h), Nat.le_refl _, d2, S2.le (by omega)⟩ (fun i σ H' _ ⟨_, _, _, _, _, _, _, _, z, _⟩ => SqL.of z) ?_ ?_⟩
    · rintro i x σ H3 hx ⟨v3, as, rfl, u3, d3, hin, hval, hlen, st3, S3⟩
      obtain ⟨z, rfl, hz⟩ := str_at hx
      have hi : i < (statesOf rs).length := (List.getElem?_eq_some_iff.mp hz).1
      walk_at "rd"
      refine ⟨p, 2, _, rfl, S3, by omega, by decide, by decide, fun v H4 a b u4 S4 => ?_⟩
      have d4 := u4 _ _ dp d3
      have st4 := u4 _ _ stp st3
      have mono : ∀ q ∈ as, q.1 ∈ (statesOf rs).take (i + 1) := fun q hq => by
        rw [take_more hz]
        exact List.mem_append_left _ (hin q hq)
      walk_at "rd"
      refine ifd (fun c => ?_) (fun c => ?_)
      · walk_at "rd"
        refine ⟨by show 3 ≤ sizeLine; decide, fun t ht => ?_⟩
        generalize hH : upd _ t _ = H5
        obtain ⟨s5, d5⟩ := new_of (o' := .lst (ansL.map V.str)) hH ht rfl
        clear hH
        walk_at "rd"
        refine ⟨p, t, _, _, rfl, S4.same s5, by omega, S4.ne ht, SqL.of d5, by show 0 < 3; decide, by show 3 ≤ 1000; decide, fun j v H6 hj u6 S6 => ?_⟩
        obtain ⟨y, rfl, hy⟩ := str_at hj
        have d6 := u6 _ _ dp (s5 _ _ d4)
        have u36 : But p H H6 := ((u3.trans u4).trans (Same.but s5)).trans u6
        walk_at "rd"
        refine ⟨_, _, rfl, DPut.k (k := Sum.inr z) d6 (by unfold ansKv; rw [List.length_map]; exact Nat.lt_of_le_of_lt (by omega : _ ≤ 6) (by decide)), ?_⟩
        generalize hH : upd _ d _ = H7
        have hnew : (Sum.inr z : Key) ∉ (ansKv as).map (·.1) := fun m => by
          unfold ansKv at m
          rw [List.map_map] at m
          obtain ⟨q, hq, e⟩ := List.mem_map.mp m
          have e' : (Sum.inr q.1 : Key) = Sum.inr z := e
          cases e'
          exact nd_take (states_nd rs) hz (hin q hq)
        obtain ⟨u7, d7⟩ := chg_of (o' := .dK (ansKv (as ++ [(z, y)]))) hH (by rw [putK_out hnew]; unfold ansKv; rw [List.map_append]; rfl)
        have u07 : But p H H7 := fun b o nb q => u7 _ _ (ne_of_none q hd) (u36 _ _ nb q)
        clear hH
        refine ⟨_, as ++ [(z, y)], rfl, u07, d7, ?_, ?_, ?_, u7 _ _ sd (u6 _ _ stp (s5 _ _ st4)), (S6.but u7 dp.symm).le (by omega)⟩
        · intro q hq
          rcases List.mem_append.mp hq with m | m
          · exact mono q m
          · rw [List.mem_singleton.mp m, take_more hz]
            exact List.mem_append_right _ (List.mem_singleton.mpr rfl)
        · intro q hq
          rcases List.mem_append.mp hq with m | m
          · exact hval q m
          · rw [List.mem_singleton.mp m]
            exact List.mem_of_getElem? hy
        · rw [List.length_append, List.length_singleton]
          omega
      · exact ⟨_, as, rfl, u3.trans u4, d4, mono, hval, by omega, st4, S4.le (by omega)⟩
    · rintro σ H3 ⟨v3, as, rfl, u3, d3, hin, hval, hlen, st3, S3⟩
      rw [List.length_map] at hlen S3
      rw [List.length_map, List.take_length] at hin
      walk_at "rd"
      exact k d as H3 ⟨hin, hval, hlen⟩ hd d3 u3 (S3.le (by omega))
def spRow : Sp := fun vs H Q _ => ∃ (p : Addr) (most : Nat) (e n : Int), vs = [.ref p, .int most, .int e] ∧ Src H p n ∧ n < 100000 ∧ most ≤ 12 ∧ 1 ≤ e ∧ e ≤ 1000000 ∧
  ∀ (l : Addr) (xs : List Int) (H' : Hp), xs.length ≤ most → (∀ x ∈ xs, -20000000000000000000000000000 < x ∧ x < 20000000000000000000000000000) → H l = none → H' l = some (.lst (xs.map V.int)) → But p H H' → Src H' p (n + 100) → Q (.ref l) H'
theorem ok_law_row (T : Txt w K mg) : FnOk P w K mg base CX0 3 T.f_law_row T.d_law_row ["_law_source_here", "_law_most", "_law_tolerance_here"] spRow := by
  refine T.F_law_row.ok sc_law_row (fun vs H Q E h => ?_) (fun cdv A outer s H vs Q E hr h => ?_)
  · obtain ⟨p, most, e, n, rfl, _⟩ := h
    rfl
  · obtain ⟨p, most, e, n, rfl, S, hn, hm, e1, e2, k⟩ := h
    refine ⟨_, (pss_cons (ps_set (i := 3) sc_law_row.nd rfl (Or.inl rfl) (pe_lst pa_nil))
      (pss_cons (ps_for PassesOwn.never rfl (pi_range1 (by rfl) T.m_range (pa_cons (pe_call (ok_law_draw T) (hr.mono (by decide)) (by rfl) T.m_law_draw T.F_law_draw.kp T.b_law_draw .nil pass0 (pa_cons (pv 0) (pa_cons (pe_op op_add (pv 1) pe_int) pa_nil))) pa_nil)) (pg_name (i := 4) sc_law_row.nd rfl (Or.inl rfl))
      (C8.pss_cut (ps_set (i := 5) sc_law_row.nd rfl (Or.inl rfl) (pe_ifExp (pt_cmpR (op_eqD hr.units) (pv 3) (pe_lst pa_nil) (nomark _)) pe_int (pe_ix ix_list (pv 3) (pe_call (ok_law_draw T) (hr.mono (by decide)) (by rfl) T.m_law_draw T.F_law_draw.kp T.b_law_draw .nil pass0 (pa_cons (pv 0) (pa_cons (pe_callB call_len_seq (by rfl) T.m_len (by decide +kernel) (pa_cons (pv 3) pa_nil)) pa_nil))) (fun _ _ => rfl))))
      (pss_cons (ps_set (i := 6) sc_law_row.nd rfl (Or.inl rfl) (pe_op op_add (pe_op op_mul (pe_ix ix_list (pe_lst (pa_cons pe_int (pa_cons pe_int (pa_cons pe_int (pa_cons pe_int (pa_cons pe_int pa_nil)))))) (pe_call (ok_law_draw T) (hr.mono (by decide)) (by rfl) T.m_law_draw T.F_law_draw.kp T.b_law_draw .nil pass0 (pa_cons (pv 0) (pa_cons pe_int pa_nil))) (fun _ _ => rfl)) (pv 2)) (pe_call (ok_law_draw T) (hr.mono (by decide)) (by rfl) T.m_law_draw T.F_law_draw.kp T.b_law_draw .nil pass0 (pa_cons (pv 0) (pa_cons (pe_op op_add (pe_callB (call_min2 rfl) (by rfl) T.m_min (by decide +kernel) (pa_cons (pv 2) (pa_cons pe_int pa_nil))) pe_int) pa_nil)))))
      (pss_one (ps_expr (pe_bm PySem.F.plainAttrs_list PySem.F.slot_list_append PySem.F.type_list_append mt_append (pv 3) (pa_cons (pe_op op_add (pv 5) (pe_ifExp (pt_cmpR op_eq (pe_call (ok_law_draw T) (hr.mono (by decide)) (by rfl) T.m_law_draw T.F_law_draw.kp T.b_law_draw .nil pass0 (pa_cons (pv 0) (pa_cons pe_int pa_nil))) pe_int (nomark _)) (pv 6) (pe_op op_sub pe_int (pv 6)))) pa_nil)))))))
      (pss_cons (ps_if (pt_cmpR op_eq (pe_call (ok_law_draw T) (hr.mono (by decide)) (by rfl) T.m_law_draw T.F_law_draw.kp T.b_law_draw .nil pass0 (pa_cons (pv 0) (pa_cons pe_int pa_nil))) pe_int (nomark _))
      (pss_cons (ps_set (i := 7) sc_law_row.nd rfl (Or.inr rfl) (pe_op op_mul (pe_ix ix_list (pe_lst (pa_cons (pe_op op_pow pe_int pe_int) (pa_cons (pe_op op_sub pe_int (pe_op op_pow pe_int pe_int)) pa_nil))) (pe_call (ok_law_draw T) (hr.mono (by decide)) (by rfl) T.m_law_draw T.F_law_draw.kp T.b_law_draw .nil pass0 (pa_cons (pv 0) (pa_cons pe_int pa_nil))) (fun _ _ => rfl)) (pv 2)))
      (pss_one (ps_setLc (i := 3) (own := [("_law_x", 8)]) (by rfl) sc_law_row.nd rfl rfl (sw_true rfl rfl rfl (by decide +kernel)) (pi_list (pv 3)) (blkOk_by (own := [("_law_x", 8)]) (N := ["_law_source_here", "_law_most", "_law_tolerance_here", "_law_row_here", "_law_k", "_law_base", "_law_step", "_law_shift", "_law_x"]) (sc := defScope s_law_row) (by decide +kernel)) (fun _ _ _ _ _ => (pg_name (i := 8) sc_law_row.nd rfl (Or.inl rfl))) (fun _ _ _ _ _ => pts_nil) (fun _ _ _ _ _ => (pe_op op_add (pv 8) (pv 7))))))
      pss_nil)
      (pss_one (ps_ret (pv 3)))))), ?_⟩
    refine ⟨by show 0 ≤ sizeLine; decide, fun l hl => ?_⟩
    generalize hH : upd _ l _ = H1
    obtain ⟨s1, d1⟩ := new_of (o' := .lst (([] : List Int).map V.int)) hH hl rfl
    clear hH
    have lp : l ≠ p := S.ne hl
    walk_at "rd"
    refine ⟨p, (most : Int) + 1, _, rfl, S.same s1, by omega, by omega, by omega, fun dm H2 a2 b2 u2 S2 => ?_⟩
    have d2 := u2 _ _ lp d1
    walk_at "rd"
    refine ⟨by omega, by omega, ?_⟩
    refine for_range (lo := 0) (n := dm.toNat) (fun i σ H' => ∃ (v4 v5 v6 : Option V) (xs : List Int), σ = [some (.ref p), some (.int most), some (.int e), some (.ref l), v4, v5, v6, none, none] ∧ xs.length = i ∧ (∀ x ∈ xs, -(4000000 * (i : Int)) ≤ x ∧ x ≤ 4000000 * (i : Int)) ∧ H' l = some (.lst (xs.map V.int)) ∧ But p H H' ∧ Src H' p (n + 1 + 4 * (i : Int)))
      ⟨none, none, none, [], rfl, rfl, (fun x hx => nomatch hx), d2, (Same.but s1).trans u2, S2.le (by omega)⟩ ?_ ?_
    · rintro i σ H3 hi ⟨v4, v5, v6, xs, rfl, hlen, hx, d3, u3, S3⟩
      have im : (i : Int) < 12 := by omega
      refine ⟨fun σ H' => ∃ b : Int, σ = [some (.ref p), some (.int most), some (.int e), some (.ref l), some (.int (0 + (i : Nat))), some (.int b), v6, none, none] ∧ -(4000000 * (i : Int)) ≤ b ∧ b ≤ 4000000 * (i : Int) ∧ H' l = some (.lst (xs.map V.int)) ∧ But p H H' ∧ Src H' p (n + 2 + 4 * (i : Int)), ?_, ?_⟩
      · walk_at "rd"
        refine ⟨by show 0 ≤ sizeLine; decide, fun n0 hn0 => ?_⟩
        have u4 := but_new u3 (but_free u3 (S3.ne hn0) hn0) (o := .lst [])
        generalize hH : upd _ n0 _ = H4 at u4 ⊢
        obtain ⟨s4, d4⟩ := new_of (o' := .lst []) hH hn0 rfl
        clear hH
        refine eq_nil (s4 _ _ d3) d4 ?_
        cases xs with
        | nil =>
          walk_at "rd"
          exact ⟨by omega, by omega, s4 _ _ d3, u4, (S3.same s4).le (by omega)⟩
        | cons y r =>
          walk_at "rd"
          refine ⟨_, _, rfl, .inl (SqL.of (s4 _ _ d3)), ?_⟩
          walk_at "rd"
          rw [List.length_map]
          refine ⟨p, ((y :: r).length : Nat), _, rfl, S3.same s4, by omega, by rw [List.length_cons]; omega, by omega, fun j H5 a5 b5 u5 S5 => ?_⟩
          have d5 := u5 _ _ lp (s4 _ _ d3)
          have hj : j.toNat < (y :: r).length := by omega
          have gj : (y :: r)[j.toNat]? = some (y :: r)[j.toNat] := List.getElem?_eq_getElem hj
          have hb := hx _ (List.mem_of_getElem? gj)
          refine ⟨_, _, _, _, rfl, rfl, SqL.of d5, at_of (j := j.toNat) (by omega) (by rw [List.getElem?_map, gj]; rfl), ?_⟩
          exact ⟨_, rfl, hb.1, hb.2, d5, u4.trans u5, S5.le (by omega)⟩
      rintro σ H4 ⟨b, rfl, b1, b2, d4, u4, S4⟩
      walk_at "rd"
      refine ⟨by show 5 ≤ sizeLine; decide, fun t ht => ?_⟩
      have tp := S4.ne ht
      have u5 := but_new u4 (but_free u4 tp ht) (o := .lst [.int 0, .int 1, .int 1, .int 2, .int 3])
      generalize hH : upd _ t _ = H5 at u5 ⊢
      obtain ⟨s5, d5⟩ := new_of (o' := .lst [.int 0, .int 1, .int 1, .int 2, .int 3]) hH ht rfl
      clear hH
      walk_at "rd"
      refine ⟨p, 5, _, rfl, S4.same s5, by omega, by decide, by decide, fun j H6 a6 b6 u6 S6 => ?_⟩
      have t6 := u6 _ _ tp d5
      have d6 := u6 _ _ lp (s5 _ _ d4)
      obtain ⟨c, hc, c0, c3⟩ : ∃ c : Int, atI [V.int 0, .int 1, .int 1, .int 2, .int 3] j = some (.int c) ∧ 0 ≤ c ∧ c ≤ 3 := by
        rcases (by omega : j = 0 ∨ j = 1 ∨ j = 2 ∨ j = 3 ∨ j = 4) with q | q | q | q | q
        all_goals subst q
        · exact ⟨0, rfl, by decide, by decide⟩
        · exact ⟨1, rfl, by decide, by decide⟩
        · exact ⟨1, rfl, by decide, by decide⟩
        · exact ⟨2, rfl, by decide, by decide⟩
        · exact ⟨3, rfl, by decide, by decide⟩
      refine ⟨_, _, _, _, rfl, rfl, SqL.of t6, hc, ?_⟩
      walk_at "rd"
      refine ⟨Or.inr ⟨by omega, by omega⟩, ?_⟩
      walk_at "rd"
      have m0 : 0 ≤ c * e := Int.mul_nonneg c0 (by omega)
      have m1 : c * e ≤ 3 * e := Int.mul_le_mul_of_nonneg_right c3 (by omega)
      refine ⟨p, _, _, rfl, S6, by omega, ?_, ?_, fun g H7 a7 b7 u7 S7 => ?_⟩
      · show 0 < (if 9 < e then 9 else e) + 1
        split <;> omega
      · show (if 9 < e then 9 else e) + 1 < 2 ^ 64
        split <;> omega
      have g9 : g ≤ 9 := by
        have b7' : g < (if 9 < e then 9 else e) + 1 := b7
        split at b7' <;> omega
      have d7 := u7 _ _ lp d6
      have u07 := (u5.trans u6).trans u7
      walk_at "rd"
      refine ⟨.inl ⟨rfl, _, SqL.of d7⟩, ?_⟩
      walk_at "rd"
      refine ⟨p, 2, _, rfl, S7, by omega, by decide, by decide, fun v H8 a8 b8 u8 S8 => ?_⟩
      have d8 := u8 _ _ lp d7
      have u08 := u07.trans u8
      have fin : ∀ y : Int, -(4000000 * ((i : Int) + 1)) ≤ y → y ≤ 4000000 * ((i : Int) + 1) → ∃ (v4 v5 v6 : Option V) (xs' : List Int), [some (V.ref p), some (V.int most), some (V.int e), some (V.ref l), some (V.int (0 + (i : Nat))), some (V.int b), some (V.int (c * e + g)), none, none] = [some (V.ref p), some (.int most), some (.int e), some (.ref l), v4, v5, v6, none, none] ∧ xs'.length = i + 1 ∧ (∀ x ∈ xs', -(4000000 * ((i + 1 : Nat) : Int)) ≤ x ∧ x ≤ 4000000 * ((i + 1 : Nat) : Int)) ∧
          upd H8 l (.lst (xs.map V.int ++ [V.int y])) l = some (.lst (xs'.map V.int)) ∧ But p H (upd H8 l (.lst (xs.map V.int ++ [V.int y]))) ∧ Src (upd H8 l (.lst (xs.map V.int ++ [V.int y]))) p (n + 1 + 4 * ((i + 1 : Nat) : Int)) := fun y y1 y2 => by
        refine ⟨_, _, _, xs ++ [y], rfl, by rw [List.length_append, hlen]; rfl, fun x hm => ?_, by rw [upd_same, List.map_append]; rfl, but_new u08 hl, ?_⟩
        · rcases List.mem_append.mp hm with q | q
          · have := hx x q
            omega
          · rw [List.mem_singleton.mp q]
            omega
        · exact (S8.but (q := l) ((But.refl l H8).upd) lp.symm).le (by omega)
      walk_at "rd"
      refine ifd (fun q => ?_) (fun q => ?_)
      · walk_at "rd"
        refine ⟨_, _, _, rfl, rfl, d8, by rw [List.length_map, hlen]; exact Nat.lt_of_lt_of_le hi (Nat.le_trans (by omega : _ ≤ 12) (by decide)), ?_⟩
        exact fin (b + (c * e + g)) (by omega) (by omega)
      · walk_at "rd"
        refine ⟨_, _, _, rfl, rfl, d8, by rw [List.length_map, hlen]; exact Nat.lt_of_lt_of_le hi (Nat.le_trans (by omega : _ ≤ 12) (by decide)), ?_⟩
        exact fin (b + (0 - (c * e + g))) (by omega) (by omega)
    · rintro σ H3 ⟨v4, v5, v6, xs, rfl, hlen, hx, d3, u3, S3⟩
      walk_at "rd"
      refine ⟨p, 8, _, rfl, S3, by omega, by decide, by decide, fun v H4 a4 b4 u4 S4 => ?_⟩
      have d4 := u4 _ _ lp d3
      have u04 := u3.trans u4
      have dm12 : dm.toNat ≤ 12 := by omega
      walk_at "rd"
      refine ifd (fun q => ?_) (fun q => ?_)
      · walk_at "rd"
        refine ⟨⟨by decide, by decide, by decide⟩, ?_⟩
        walk_at "rd"
        refine ⟨⟨by decide, by decide, by decide⟩, ?_⟩
        walk_at "rd"
        refine ⟨by show 2 ≤ sizeLine; decide, fun t ht => ?_⟩
        have tp := S4.ne ht
        have u5 := but_new u04 (but_free u04 tp ht) (o := .lst [.int ((10 : Int) ^ (22 : Int).toNat), .int (0 - (10 : Int) ^ (21 : Int).toNat)])
        generalize hH : upd _ t _ = H5 at u5 ⊢
        obtain ⟨s5, d5⟩ := new_of (o' := .lst [.int ((10 : Int) ^ (22 : Int).toNat), .int (0 - (10 : Int) ^ (21 : Int).toNat)]) hH ht rfl
        clear hH
        walk_at "rd"
        refine ⟨p, 2, _, rfl, S4.same s5, by omega, by decide, by decide, fun j H6 a6 b6 u6 S6 => ?_⟩
        have t6 := u6 _ _ tp d5
        have d6 := u6 _ _ lp (s5 _ _ d4)
        obtain ⟨c, hc, c0, c3⟩ : ∃ c : Int, atI [V.int ((10 : Int) ^ (22 : Int).toNat), .int (0 - (10 : Int) ^ (21 : Int).toNat)] j = some (.int c) ∧ -10000000000000000000000 ≤ c ∧ c ≤ 10000000000000000000000 := by
          rcases (by omega : j = 0 ∨ j = 1) with q | q
          all_goals subst q
          · exact ⟨_, rfl, by decide, by decide⟩
          · exact ⟨_, rfl, by decide, by decide⟩
        refine ⟨_, _, _, _, rfl, rfl, SqL.of t6, hc, ?_⟩
        walk_at "rd"
        refine ⟨Or.inr ⟨by omega, by omega⟩, ?_⟩
        have m1 : c * e ≤ 10000000000000000000000 * 1000000 := by
          have q1 : c * e ≤ 10000000000000000000000 * e := Int.mul_le_mul_of_nonneg_right c3 (by omega)
          omega
        have m0 : -(10000000000000000000000 * 1000000) ≤ c * e := by
          have q1 : -10000000000000000000000 * e ≤ c * e := Int.mul_le_mul_of_nonneg_right c0 (by omega)
          omega
        walk_at "rd"
        refine ⟨⟨_, SqL.of d6⟩, fun D hD => ?_⟩
        have Dp := S6.ne hD
        have u06 := u5.trans u6
        have hD0 : H D = none := but_free u06 Dp hD
        refine lc_list (K := K) (a := l) (xs := xs.map V.int) (fun i H' => Same H6 H' ∧ H' D = some (.lst ((((xs.take i).map fun x => x + c * e)).map V.int))) ⟨Same.new hD, upd_same⟩ (fun i H' _ z => SqL.of (z.1 _ _ d6)) ?_ ?_
        · rintro i x H7 hx ⟨s7, d7⟩
          obtain ⟨z, rfl, hz⟩ := int_at hx
          have hi : i < xs.length := (List.getElem?_eq_some_iff.mp hz).1
          refine ⟨rfl, ?_⟩
          walk_at "rd"
          refine ⟨_, d7, ?_, ?_, ?_⟩
          · rw [List.length_map, List.length_map, List.length_take]
            exact Nat.lt_of_le_of_lt (by omega : _ ≤ 12) (by decide)
          · exact fun b o q => by
              rw [upd_ne (fun q2 => by rw [q2, hD] at q; cases q)]
              exact s7 b o q
          · rw [upd_same, take_more hz, List.map_append, List.map_append]
            rfl
        rintro H7 ⟨s7, d7⟩
        rw [List.length_map, List.take_length] at d7
        walk_at "rd"
        refine k D _ H7 (by rw [List.length_map]; omega) (fun x hm => ?_) hD0 d7 (u06.trans (Same.but s7)) ((S6.same s7).le (by omega))
        obtain ⟨y, hy, rfl⟩ := List.mem_map.mp hm
        have := hx y hy
        omega
      · walk_at "rd"
        exact k l xs H4 (by omega) (fun x hm => by have := hx x hm; omega) hl d4 u04 (S4.le (by omega))
/-- what the law has made and looks at again -/
structure Kept (C : Addr) (H1 H : Hp) (l d q : Addr) (xs : List V) (rr : List Rul) (as : List (Str × Str)) : Prop where
  l : H l = some (.lst xs)
  rt : RulesAt H1 H xs rr
  d : H d = some (.dK (ansKv as))
  lp : LoopAt C H q rr as
theorem Kept.same {C : Addr} {H1 H H' : Hp} {l d q : Addr} {xs : List V} {rr : List Rul} {as : List (Str × Str)} (k : Kept C H1 H l d q xs rr as) (e : Same H H') : Kept C H1 H' l d q xs rr as :=
  ⟨e _ _ k.l, rules_same k.rt e, e _ _ k.d, k.lp.same e⟩
theorem Kept.src {C : Addr} {H1 H H' : Hp} {l d q p : Addr} {xs : List V} {rr : List Rul} {as : List (Str × Str)} {n : Int} (k : Kept C H1 H l d q xs rr as) (lp : l ≠ p) (dp : d ≠ p) (S : Src H p n) (u : But p H H') : Kept C H1 H' l d q xs rr as := by
  obtain ⟨ys, hy⟩ := S.at
  exact ⟨u _ _ lp k.l, rules_src k.rt S u, u _ _ dp k.d, k.lp.but hy u⟩
theorem RunAt.same {C : Addr} {H H' : Hp} {p : Addr} {ws ks ts : List V} {st an : V} (h : RunAt C H p ws ks ts st an) (e : Same H H') : RunAt C H' p ws ks ts st an := by
  obtain ⟨dx, a, b, c, h⟩ := h
  exact ⟨dx, a, b, c, e _ _ h.ob, e _ _ h.ws, e _ _ h.ks, e _ _ h.ts⟩
--SPLIT
/-! ### the different numbers of a list, ascending -/
def insU (a : Int) : List Int → List Int
  | [] => [a]
  | b :: r => if a < b then a :: b :: r else if a = b then b :: r else b :: insU a r
def uqs : List Int → List Int
  | [] => []
  | a :: r => insU a (uqs r)
theorem insU_mem {k a : Int} : ∀ {l : List Int}, k ∈ insU a l ↔ k = a ∨ k ∈ l
  | [] => by simp [insU]
  | b :: r => by
    have ih := insU_mem (k := k) (a := a) (l := r)
    unfold insU
    split
    · simp
    · split
      · rename_i h
        subst h
        simp
      · rw [List.mem_cons, ih, List.mem_cons]
        exact ⟨fun h => h.elim (fun q => .inr (.inl q)) (fun q => q.elim .inl fun z => .inr (.inr z)), fun h => h.elim (fun q => .inr (.inl q)) (fun q => q.elim .inl fun z => .inr (.inr z))⟩
theorem insU_lt {a : Int} : ∀ {l : List Int}, l.Pairwise (· < ·) → (insU a l).Pairwise (· < ·)
  | [], _ => by simp [insU]
  | b :: r, h => by
    obtain ⟨h1, h2⟩ := List.pairwise_cons.mp h
    unfold insU
    split
    · rename_i q
      refine List.pairwise_cons.mpr ⟨fun x hx => ?_, h⟩
      rcases List.mem_cons.mp hx with z | z
      · omega
      · have := h1 x z
        omega
    · split
      · exact h
      · refine List.pairwise_cons.mpr ⟨fun x hx => ?_, insU_lt h2⟩
        rcases insU_mem.mp hx with z | z
        · omega
        · exact h1 x z
theorem uqs_mem {k : Int} : ∀ {l : List Int}, k ∈ uqs l ↔ k ∈ l
  | [] => Iff.rfl
  | a :: r => by
    show k ∈ insU a (uqs r) ↔ _
    rw [insU_mem, uqs_mem, List.mem_cons]
theorem uqs_lt : ∀ l : List Int, (uqs l).Pairwise (· < ·)
  | [] => List.Pairwise.nil
  | a :: r => insU_lt (uqs_lt r)
theorem lt_unique : ∀ {a b : List Int}, a.Pairwise (· < ·) → b.Pairwise (· < ·) → (∀ k, k ∈ a ↔ k ∈ b) → a = b
  | [], [], _, _, _ => rfl
  | [], y :: t, _, _, h => absurd ((h y).mpr List.mem_cons_self) List.not_mem_nil
  | x :: r, [], _, _, h => absurd ((h x).mp List.mem_cons_self) List.not_mem_nil
  | x :: r, y :: t, h1, h2, h => by
    obtain ⟨a1, a2⟩ := List.pairwise_cons.mp h1
    obtain ⟨b1, b2⟩ := List.pairwise_cons.mp h2
    have e : x = y := by
      rcases List.mem_cons.mp ((h x).mp List.mem_cons_self) with q | q
      · exact q
      rcases List.mem_cons.mp ((h y).mpr List.mem_cons_self) with z | z
      · exact z.symm
      have := b1 x q
      have := a1 y z
      omega
    subst e
    rw [lt_unique a2 b2 fun k => ?_]
    have hk := h k
    rw [List.mem_cons, List.mem_cons] at hk
    constructor
    · intro m
      rcases hk.mp (.inr m) with q | q
      · have := a1 k m
        omega
      · exact q
    · intro m
      rcases hk.mpr (.inr m) with q | q
      · have := b1 k m
        omega
      · exact q
theorem uqs_of {out l : List Int} (h : out.Pairwise (· < ·)) (hm : ∀ k, k ∈ out ↔ k ∈ l) : out = uqs l := lt_unique h (uqs_lt l) fun k => (hm k).trans uqs_mem.symm
theorem insU_len (a : Int) : ∀ l : List Int, (insU a l).length ≤ l.length + 1
  | [] => Nat.le_refl _
  | b :: r => by
    have ih := insU_len a r
    unfold insU
    split
    · exact Nat.le_refl _
    · split
      · exact Nat.le_succ _
      · rw [List.length_cons, List.length_cons]
        omega
theorem uqs_len : ∀ l : List Int, (uqs l).length ≤ l.length
  | [] => Nat.le_refl _
  | a :: r => by
    have ih := uqs_len r
    have h := insU_len a (uqs r)
    show (insU a (uqs r)).length ≤ r.length + 1
    omega
theorem lt_nodup {l : List Int} (h : l.Pairwise (· < ·)) : l.Nodup := h.imp fun q z => by omega
theorem uqs_nd (l : List Int) : (uqs l).Nodup := lt_nodup (uqs_lt l)
theorem idx_lt {u : Int} {l : List Int} (h : u ∈ l) : l.idxOf u < l.length := List.idxOf_lt_length_of_mem h
theorem idx_at {u : Int} {l : List Int} (h : u ∈ l) : l[l.idxOf u]? = some u := by
  rw [List.getElem?_eq_getElem (idx_lt h), List.getElem_idxOf (idx_lt h)]
theorem idx_of {l : List Int} (nd : l.Nodup) {i : Nat} {u : Int} (h : l[i]? = some u) : l.idxOf u = i := by
  obtain ⟨hi, e⟩ := List.getElem?_eq_some_iff.mp h
  rw [← e]
  exact List.Nodup.idxOf_getElem nd i hi
/-- the ranked row -/
def restsL (xs : List Int) (e : Int) : List Int := xs.map fun x => x % e
def rkOf (xs : List Int) (e x : Int) : Nat := (uqs (restsL xs e)).idxOf (x % e)
def ranksL (xs : List Int) (e : Int) : List Int := xs.map fun x => ((rkOf xs e x : Nat) : Int)
def manyOf (xs : List Int) (e : Int) : Nat := (uqs (restsL xs e)).length
def wideOf (xs : List Int) (e : Int) : Int := if ((manyOf xs e : Nat) : Int) > 1 then ((manyOf xs e : Nat) : Int) else 1
def rankedL (xs : List Int) (e : Int) : List Int := xs.map fun x => x / e * wideOf xs e + ((rkOf xs e x : Nat) : Int)
theorem rests_mem {xs : List Int} {e x : Int} (h : x ∈ xs) : x % e ∈ uqs (restsL xs e) := uqs_mem.mpr (List.mem_map.mpr ⟨x, h, rfl⟩)
theorem rk_lt {xs : List Int} {e x : Int} (h : x ∈ xs) : rkOf xs e x < manyOf xs e := idx_lt (rests_mem h)
theorem many_le (xs : List Int) (e : Int) : manyOf xs e ≤ xs.length := by
  have := uqs_len (restsL xs e)
  unfold restsL at this
  rw [List.length_map] at this
  exact this
theorem wide_pos (xs : List Int) (e : Int) : 1 ≤ wideOf xs e := by
  unfold wideOf
  split <;> omega
theorem wide_many {xs : List Int} {e : Int} (h : 1 ≤ manyOf xs e) : wideOf xs e = manyOf xs e := by
  unfold wideOf
  split <;> omega
theorem wide_le {xs : List Int} {e : Int} {n : Nat} (h : xs.length ≤ n) (hn : 1 ≤ n) : wideOf xs e ≤ n := by
  have := many_le xs e
  unfold wideOf
  split <;> omega
theorem many_pos {xs : List Int} {e x : Int} (h : x ∈ xs) : 1 ≤ manyOf xs e := by
  have := rk_lt (e := e) h
  omega
theorem ranked_div {xs : List Int} {e x : Int} (h : x ∈ xs) : (x / e * wideOf xs e + ((rkOf xs e x : Nat) : Int)) / wideOf xs e = x / e := by
  have h1 := rk_lt (e := e) h
  have h2 := wide_many (many_pos (e := e) h)
  have h3 := wide_pos xs e
  rw [Int.add_comm, Int.add_mul_ediv_right _ _ (by omega), Int.ediv_eq_zero_of_lt (by omega) (by omega), Int.zero_add]
theorem ranked_mod {xs : List Int} {e x : Int} (h : x ∈ xs) : (x / e * wideOf xs e + ((rkOf xs e x : Nat) : Int)) % wideOf xs e = ((rkOf xs e x : Nat) : Int) := by
  have h1 := rk_lt (e := e) h
  have h2 := wide_many (many_pos (e := e) h)
  rw [Int.add_comm, Int.add_mul_emod_self_right, Int.emod_eq_of_lt (by omega) (by omega)]
theorem ranked_rests (xs : List Int) (e : Int) : restsL (rankedL xs e) (wideOf xs e) = ranksL xs e := by
  unfold restsL rankedL ranksL
  rw [List.map_map]
  exact List.map_congr_left fun x hx => ranked_mod hx
def upTo (n : Nat) : List Int := (List.range n).map fun i => ((i : Nat) : Int)
theorem upTo_lt (n : Nat) : (upTo n).Pairwise (· < ·) := by
  unfold upTo
  rw [List.pairwise_map]
  exact (List.pairwise_lt_range (n := n)).imp fun h => by omega
theorem upTo_len (n : Nat) : (upTo n).length = n := by
  unfold upTo
  rw [List.length_map, List.length_range]
theorem upTo_at {n i : Nat} (h : i < n) : (upTo n)[i]? = some ((i : Nat) : Int) := by
  unfold upTo
  rw [List.getElem?_map, List.getElem?_range h]
  rfl
theorem uqs_ranks (xs : List Int) (e : Int) : uqs (ranksL xs e) = upTo (manyOf xs e) := by
  refine (uqs_of (upTo_lt _) fun k => ?_).symm
  unfold upTo ranksL
  rw [List.mem_map, List.mem_map]
  constructor
  · rintro ⟨i, hi, rfl⟩
    have hi := List.mem_range.mp hi
    obtain ⟨u, hu⟩ : ∃ u, (uqs (restsL xs e))[i]? = some u := ⟨_, List.getElem?_eq_getElem hi⟩
    have hm := uqs_mem.mp (List.mem_of_getElem? hu)
    obtain ⟨x, hx, ex⟩ := List.mem_map.mp hm
    refine ⟨x, hx, ?_⟩
    unfold rkOf
    have ex' : x % e = u := ex
    rw [ex', idx_of (uqs_nd _) hu]
  · rintro ⟨x, hx, rfl⟩
    exact ⟨_, List.mem_range.mpr (rk_lt hx), rfl⟩
theorem ranked_many (xs : List Int) (e : Int) : manyOf (rankedL xs e) (wideOf xs e) = manyOf xs e := by
  show (uqs (restsL (rankedL xs e) (wideOf xs e))).length = _
  rw [ranked_rests, uqs_ranks, upTo_len]
theorem ranked_wide (xs : List Int) (e : Int) : wideOf (rankedL xs e) (wideOf xs e) = wideOf xs e := by
  show (if ((manyOf (rankedL xs e) (wideOf xs e) : Nat) : Int) > 1 then ((manyOf (rankedL xs e) (wideOf xs e) : Nat) : Int) else 1) = wideOf xs e
  rw [ranked_many]
  rfl
theorem ranked_rk {xs : List Int} {e x : Int} (h : x ∈ xs) : rkOf (rankedL xs e) (wideOf xs e) (x / e * wideOf xs e + ((rkOf xs e x : Nat) : Int)) = rkOf xs e x := by
  show (uqs (restsL (rankedL xs e) (wideOf xs e))).idxOf _ = _
  rw [ranked_rests, uqs_ranks, ranked_mod h]
  exact idx_of (lt_nodup (upTo_lt _)) (upTo_at (rk_lt h))
theorem ranked_twice (xs : List Int) (e : Int) : rankedL (rankedL xs e) (wideOf xs e) = rankedL xs e := by
  show List.map _ (List.map _ xs) = List.map _ xs
  rw [List.map_map]
  refine List.map_congr_left fun x hx => ?_
  show (x / e * wideOf xs e + ((rkOf xs e x : Nat) : Int)) / wideOf xs e * wideOf (rankedL xs e) (wideOf xs e) + ((rkOf (rankedL xs e) (wideOf xs e) (x / e * wideOf xs e + ((rkOf xs e x : Nat) : Int)) : Nat) : Int) = _
  rw [ranked_div hx, ranked_wide, ranked_rk hx]
/-! ### _cells_and_ranks, ranked -/
theorem LT.sqZ {K : PySem.W.Frag} {H : Hp} {a : Addr} {xs : List V} (h : LT H a xs) : ∃ b, ∀ H', Same H H' → SqZ K b H' a xs := by
  rcases h with h | h
  · exact ⟨true, fun H' e => SqL.of (e _ _ h)⟩
  · exact ⟨false, fun H' e => SqT.of (e _ _ h)⟩
theorem cell_rest (x e : Int) : x - x / e * e = x % e := by
  have := Int.mul_ediv_add_emod x e
  rw [Int.mul_comm] at this
  omega
/-- the dict of the ranks of the first i of the numbers -/
def rkD (us : List Int) (i : Nat) : List (Key × V) := (us.take i).zipIdx.map fun p => ((Sum.inl p.1 : Key), V.int (p.2 : Nat))
theorem rkD_len (us : List Int) (i : Nat) : (rkD us i).length ≤ us.length := by
  unfold rkD
  rw [List.length_map, List.length_zipIdx, List.length_take]
  exact Nat.min_le_right _ _
theorem rkD_keys (us : List Int) (i : Nat) : (rkD us i).map (·.1) = (us.take i).map Sum.inl := by
  unfold rkD
  rw [List.map_map]
  show List.map (fun p : Int × Nat => (Sum.inl p.1 : Key)) _ = _
  rw [show (fun p : Int × Nat => (Sum.inl p.1 : Key)) = (Sum.inl : Int → Key) ∘ Prod.fst from rfl, ← List.map_map, List.zipIdx_map_fst]
theorem rkD_put {us : List Int} (nd : us.Nodup) {i : Nat} {u : Int} (h : us[i]? = some u) : putK (rkD us i) (Sum.inl u : Key) (V.int (i : Nat)) = rkD us (i + 1) := by
  have out : (Sum.inl u : Key) ∉ (rkD us i).map (·.1) := fun m => by
    rw [rkD_keys] at m
    obtain ⟨y, hy, e⟩ := List.mem_map.mp m
    cases e
    obtain ⟨j, hj⟩ := List.getElem?_of_mem hy
    rw [List.getElem?_take] at hj
    split at hj
    · have := idx_of nd hj
      have := idx_of nd h
      omega
    · cases hj
  rw [putK_out out]
  unfold rkD
  have hi : i < us.length := (List.getElem?_eq_some_iff.mp h).1
  rw [take_more h, List.zipIdx_append, List.map_append, List.length_take, Nat.min_eq_left (Nat.le_of_lt hi)]
  simp
theorem rkD_val {us : List Int} (nd : us.Nodup) {u : Int} (h : u ∈ us) : valV (rkD us us.length) (Sum.inl u : Key) = some (V.int (us.idxOf u : Nat)) := by
  have key : ∀ (l : List Int) (n : Nat), l.Nodup → u ∈ l → valV ((l.zipIdx n).map fun p => ((Sum.inl p.1 : Key), V.int (p.2 : Nat))) (Sum.inl u : Key) = some (V.int ((n + l.idxOf u : Nat) : Nat)) := fun l => by
    induction l with
    | nil => exact fun _ _ h => nomatch h
    | cons a r ih =>
      intro n hn hm
      obtain ⟨h1, h2⟩ := List.nodup_cons.mp hn
      by_cases e : a = u
      · subst e
        rw [List.idxOf_cons_self]
        exact valV_pos (p := ((Sum.inl a : Key), V.int (n : Nat))) rfl
      · refine Eq.trans (valV_neg (p := ((Sum.inl a : Key), V.int (n : Nat))) fun q => e (by cases q; rfl)) ?_
        rw [List.idxOf_cons, show (a == u) = false by simpa using e]
        show _ = some (V.int ((n + (r.idxOf u + 1) : Nat) : Nat))
        have := ih (n + 1) h2 ((List.mem_cons.mp hm).resolve_left fun q => e q.symm)
        rw [show n + (r.idxOf u + 1) = n + 1 + r.idxOf u by omega]
        exact this
  unfold rkD
  rw [List.take_length]
  have := key us 0 nd h
  rw [Nat.zero_add] at this
  exact this
theorem int2_at {α : Type} {f : α → Int} {l : List α} {i : Nat} {x : V} {z : α} (hz : l[i]? = some z) (h : ((l.map f).map V.int)[i]? = some x) : x = V.int (f z) := by
  rw [List.getElem?_map, List.getElem?_map, hz] at h
  exact (Option.some.inj h).symm
def spCR : Sp := fun vs H Q _ => ∃ (a : Addr) (xs : List Int) (e : Int), vs = [.ref a, .int e] ∧ LT H a (xs.map V.int) ∧ xs.length < 60 ∧ 1 ≤ e ∧ e ≤ 3000000 ∧
  ∀ (t c r : Addr) (H' : Hp), Same H H' → H' t = some (.tup [.ref c, .ref r, .int (manyOf xs e : Nat)]) → H' c = some (.lst ((xs.map fun x => x / e).map V.int)) → H' r = some (.lst ((ranksL xs e).map V.int)) → Q (.ref t) H'
theorem ok_cells_and_ranks (T : Txt w K mg) : FnOk P w K mg base CX0 3 T.f_cells_and_ranks T.d_cells_and_ranks ["row", "tolerance"] spCR := by
  refine T.F_cells_and_ranks.ok sc_cells_and_ranks (fun vs H Q E h => ?_) (fun cdv A outer s H vs Q E hr h => ?_)
  · obtain ⟨a, xs, e, rfl, _⟩ := h
    rfl
  · obtain ⟨a, xs, e, rfl, hA, hl, e1, e2, k⟩ := h
    refine ⟨_, (C8.pss_cut (ps_setLc (i := 2) (own := [("number", 5)]) (by rfl) sc_cells_and_ranks.nd rfl rfl (sw_true rfl rfl rfl (by decide +kernel)) (pi_lt (pv 0)) (blkOk_by (own := [("number", 5)]) (N := ["row", "tolerance", "cells", "rests", "ranks", "number", "cell", "rank", "rest"]) (sc := defScope s_cells_and_ranks) (by decide +kernel)) (fun _ _ _ _ _ => (pg_name (i := 5) sc_cells_and_ranks.nd rfl (Or.inl rfl))) (fun _ _ _ _ _ => pts_nil) (fun _ _ _ _ _ => (pe_op op_fdivW (pv 5) (pv 1))))
      (pss_cons (ps_setLc (i := 3) (own := [("number", 5), ("cell", 6)]) (by rfl) sc_cells_and_ranks.nd rfl rfl (sw_true rfl rfl rfl (by decide +kernel)) (pi_zipZ (by rfl) T.m_zip (pa_cons (pv 0) (pa_cons (pv 2) pa_nil))) (blkOk_by (own := [("number", 5), ("cell", 6)]) (N := ["row", "tolerance", "cells", "rests", "ranks", "number", "cell", "rank", "rest"]) (sc := defScope s_cells_and_ranks) (by decide +kernel)) (fun _ _ _ _ _ => (show PG _ _ (gTup K 2 _) from (pg_tup (by rfl) (pgs_cons (pg_name (i := 5) sc_cells_and_ranks.nd rfl (Or.inl rfl)) (pgs_cons (pg_name (i := 6) sc_cells_and_ranks.nd rfl (Or.inl rfl)) pgs_nil))))) (fun _ _ _ _ _ => pts_nil) (fun _ _ _ _ _ => (pe_op op_sub (pv 5) (pe_op op_mul (pv 6) (pv 1)))))
      (pss_cons (ps_set (i := 4) sc_cells_and_ranks.nd rfl (Or.inr rfl) (pe_dc (own := [("rank", 7), ("rest", 8)]) (by rfl) sc_cells_and_ranks.nd (pi_enum (by rfl) T.m_enumerate (pa_cons (pe_callB (cr_sortedSet rfl) (by rfl) T.m_sorted (by decide +kernel) (pa_cons (pe_callTy (cr_setI rfl) (by rfl) T.m_set (by decide +kernel) (pa_cons (pv 3) pa_nil)) pa_nil)) pa_nil)) (blkOk_by (own := [("rank", 7), ("rest", 8)]) (N := ["row", "tolerance", "cells", "rests", "ranks", "number", "cell", "rank", "rest"]) (sc := defScope s_cells_and_ranks) (by decide +kernel)) (fun _ _ _ _ _ => (show PG _ _ (gTup K 2 _) from (pg_tup (by rfl) (pgs_cons (pg_name (i := 7) sc_cells_and_ranks.nd rfl (Or.inl rfl)) (pgs_cons (pg_name (i := 8) sc_cells_and_ranks.nd rfl (Or.inl rfl)) pgs_nil))))) (fun _ _ _ _ _ => pts_nil) (fun _ _ _ _ _ => (pv 8)) (fun _ _ _ _ _ => (pv 7))))
      (pss_one (ps_ret (pe_tup (pa_cons (pv 2) (pa_cons (pe_lc (own := [("rest", 8)]) (by rfl) sc_cells_and_ranks.nd (pi_list (pv 3)) (blkOk_by (own := [("rest", 8)]) (N := ["row", "tolerance", "cells", "rests", "ranks", "number", "cell", "rank", "rest"]) (sc := defScope s_cells_and_ranks) (by decide +kernel)) (fun _ _ _ _ _ => (pg_name (i := 8) sc_cells_and_ranks.nd rfl (Or.inl rfl))) (fun _ _ _ _ _ => pts_nil) (fun _ _ _ _ _ => (pe_dget (hu_of hr) (pv 4) (pv 8) (fun _ _ => rfl)))) (pa_cons (pe_callB call_lenD (by rfl) T.m_len (by decide +kernel) (pa_cons (pv 4) pa_nil)) pa_nil))))))))), ?_⟩
    refine ⟨fun σ H' => ∃ c : Addr, σ = [some (.ref a), some (.int e), some (.ref c), none, none, none, none, none, none] ∧ Same H H' ∧ H' c = some (.lst ((xs.map fun x => x / e).map V.int)), ?_, ?_⟩
    · have one : ∀ (i : Nat) (x : V) (D : Addr) (H2 : Hp), H D = none → (xs.map V.int)[i]? = some x → Same H H2 ∧ H2 D = some (.lst (((xs.take i).map fun x => x / e).map V.int)) → ∃ z, x = V.int z ∧ ∃ acc, H2 D = some (.lst acc) ∧ acc.length < sizeLine ∧ Same H (upd H2 D (.lst (acc ++ [V.int (z / e)]))) ∧ upd H2 D (.lst (acc ++ [V.int (z / e)])) D = some (.lst (((xs.take (i + 1)).map fun x => x / e).map V.int)) := fun i x D H2 hD hx ⟨s2, d2⟩ => by
        obtain ⟨z, rfl, hz⟩ := int_at hx
        refine ⟨z, rfl, _, d2, ?_, fun b o q => ?_, ?_⟩
        · rw [List.length_map, List.length_map, List.length_take]
          exact Nat.lt_of_le_of_lt (by omega : _ ≤ 60) (by decide)
        · rw [upd_ne (fun q2 => by rw [q2, hD] at q; cases q)]
          exact s2 b o q
        · rw [upd_same, take_more hz, List.map_append, List.map_append]
          rfl
      rcases hA with h | h
      · refine Or.inl ⟨_, rfl, a, rfl, ⟨_, SqL.of h⟩, fun D hD => ?_⟩
        refine lc_list (K := K) (a := a) (xs := xs.map V.int) (fun i H' => Same H H' ∧ H' D = some (.lst (((xs.take i).map fun x => x / e).map V.int))) ⟨Same.new hD, upd_same⟩ (fun i H' _ z => SqL.of (z.1 _ _ h)) ?_ ?_
        · rintro i x H2 hx p
          obtain ⟨z, rfl, fin⟩ := one i x D H2 hD hx p
          refine ⟨rfl, ?_⟩
          walk_at "rd"
          refine ⟨wide_div (b := 64) (by omega) (by omega) (by decide) (by decide), ?_⟩
          exact fin
        rintro H2 ⟨s2, d2⟩
        rw [List.length_map, List.take_length] at d2
        exact ⟨D, rfl, s2, d2⟩
      · refine Or.inr ⟨_, rfl, a, rfl, ⟨_, SqT.of h⟩, fun D hD => ?_⟩
        refine lc_tup (K := K) (a := a) (xs := xs.map V.int) (fun i H' => Same H H' ∧ H' D = some (.lst (((xs.take i).map fun x => x / e).map V.int))) ⟨Same.new hD, upd_same⟩ (fun i H' _ z => SqT.of (z.1 _ _ h)) ?_ ?_
        · rintro i x H2 hx p
          obtain ⟨z, rfl, fin⟩ := one i x D H2 hD hx p
          refine ⟨rfl, ?_⟩
          walk_at "rd"
          refine ⟨wide_div (b := 64) (by omega) (by omega) (by decide) (by decide), ?_⟩
          exact fin
        rintro H2 ⟨s2, d2⟩
        rw [List.length_map, List.take_length] at d2
        exact ⟨D, rfl, s2, d2⟩
    rintro σ H1 ⟨c, rfl, s1, d1⟩
    obtain ⟨b, qa⟩ := LT.sqZ (K := K) (hA.same s1)
    walk_at "rd"
    refine ⟨b, true, a, c, _, _, rfl, qa _ (Same.refl _), SqL.of d1, fun D hD => ?_⟩
    refine lc_it (walk_zipZ (K := K) (n := xs.length) (by rw [List.length_map, List.length_map, List.length_map, Nat.min_self])) (fun i H' => Same H1 H' ∧ H' D = some (.lst (((xs.take i).map fun x => x % e).map V.int))) ⟨Same.new hD, upd_same⟩ (fun i H' _ z => ⟨qa _ z.1, SqL.of (z.1 _ _ d1)⟩) ?_ ?_
    · rintro i v H2 H3 hi ⟨s2, d2⟩ ⟨t, x, y, rfl, ht, rfl, hx, hy⟩
      obtain ⟨z, rfl, hz⟩ := int_at hx
      have ey := int2_at hz hy
      subst ey
      refine ⟨_, _, rfl, SqT.of upd_same, rfl, ?_⟩
      walk_at "rd"
      refine ⟨Or.inr ⟨by omega, by omega⟩, ?_⟩
      walk_at "rd"
      rw [show (fun i j : Int => V.int (i - j)) z (z / e * e) = V.int (z % e) from congrArg V.int (cell_rest z e)]
      have tD : t ≠ D := fun q => by rw [q, d2] at ht; cases ht
      refine ⟨_, by rw [upd_ne tD.symm]; exact d2, ?_, fun b o q => ?_, ?_⟩
      · rw [List.length_map, List.length_map, List.length_take]
        exact Nat.lt_of_le_of_lt (by omega : _ ≤ 60) (by decide)
      · have q2 := s2 b o q
        rw [upd_ne (fun q3 => by rw [q3, hD] at q; cases q), upd_ne (fun q3 => by rw [q3, ht] at q2; cases q2)]
        exact q2
      · rw [upd_same, take_more hz, List.map_append, List.map_append]
        rfl
    rintro H2 ⟨s2, d2⟩
    rw [List.take_length] at d2
    have d2 : H2 D = some (.lst ((restsL xs e).map V.int)) := d2
    have c2 := s2 _ _ d1
    have s02 := s1.trans s2
    clear s1 s2 d1 qa hD
    walk_at "rd"
    refine ⟨D, restsL xs e, rfl, SqL.of d2, by unfold restsL; rw [List.length_map]; omega, fun p n hp hn => ?_⟩
    have e2' : n < 64 := by
      unfold restsL at hn
      rw [List.length_map] at hn
      omega
    refine ⟨p, _, n, rfl, upd_same, e2', fun us u hlt hmem hul hu => ?_⟩
    have eu : us = uqs (restsL xs e) := uqs_of hlt fun k => (hmem k).trans decide_eq_true_iff
    generalize hH : upd _ u _ = H3
    obtain ⟨s3, d3⟩ := new_of (o' := .lst (us.map V.int)) hH hu rfl
    clear hH
    have s23 : Same H2 H3 := (Same.new hp).trans s3
    have nd : us.Nodup := lt_nodup hlt
    have ul : us.length = manyOf xs e := by rw [eu]; rfl
    have um : us.length ≤ 60 := by
      have := many_le xs e
      omega
    refine ⟨u, _, rfl, SqL.of d3, fun G hG => ?_⟩
    refine dc_it (walk_enum (K := K) (a := u) (xs := us.map V.int)) (fun i H' => Same H3 H' ∧ H' G = some (.dK (rkD us i))) ⟨Same.new hG, upd_same⟩ (fun i H' _ z => SqL.of (z.1 _ _ d3)) ?_ ?_
    · rintro i v H4 H5 hi ⟨s4, d4⟩ ⟨t, x, y, rfl, ht, rfl, hx, hy⟩
      obtain rfl := Option.some.inj hx
      obtain ⟨z, rfl, hz⟩ := int_at hy
      refine ⟨_, _, rfl, SqT.of upd_same, rfl, ?_⟩
      walk_at "rd"
      have tG : t ≠ G := fun q => by rw [q, d4] at ht; cases ht
      refine ⟨_, Sum.inl z, rfl, by rw [upd_ne tG.symm]; exact d4, Nat.lt_of_le_of_lt (Nat.le_trans (rkD_len us i) um) (by decide), fun b o q => ?_, ?_⟩
      · have q2 := s4 b o q
        rw [upd_ne (fun q3 => by rw [q3, hG] at q; cases q), upd_ne (fun q3 => by rw [q3, ht] at q2; cases q2)]
        exact q2
      · rw [upd_same, rkD_put nd hz]
    rintro H4 ⟨s4, d4⟩
    rw [List.length_map] at d4
    have s24 := s23.trans s4
    have d24 := s24 _ _ d2
    walk_at "rd"
    refine ⟨⟨_, SqL.of d24⟩, fun R hR => ?_⟩
    refine lc_list (K := K) (a := D) (xs := (restsL xs e).map V.int) (fun i H' => Same H4 H' ∧ H' R = some (.lst (((xs.take i).map fun x => ((rkOf xs e x : Nat) : Int)).map V.int))) ⟨Same.new hR, upd_same⟩ (fun i H' _ z => SqL.of (z.1 _ _ d24)) ?_ ?_
    · rintro i x H5 hx ⟨s5, d5⟩
      obtain ⟨z, hz⟩ : ∃ z, xs[i]? = some z := by
        rw [List.getElem?_map] at hx
        cases q : xs[i]? with
        | some z => exact ⟨z, rfl⟩
        | none =>
          unfold restsL at hx
          rw [List.getElem?_map, q] at hx
          cases hx
      have ex : x = V.int (z % e) := int2_at (f := fun x => x % e) hz hx
      subst ex
      refine ⟨rfl, ?_⟩
      walk_at "rd"
      refine ⟨G, V.int ((us.idxOf (z % e) : Nat) : Int), rfl, ?_, ?_⟩
      · have q := DGet.k (k := Sum.inl (z % e)) (s5 _ _ d4)
        rw [rkD_val nd (by rw [eu]; exact rests_mem (List.mem_of_getElem? hz))] at q
        exact q
      refine ⟨_, d5, ?_, fun b o q => ?_, ?_⟩
      · rw [List.length_map, List.length_map, List.length_take]
        exact Nat.lt_of_le_of_lt (by omega : _ ≤ 60) (by decide)
      · rw [upd_ne (fun q2 => by rw [q2, hR] at q; cases q)]
        exact s5 b o q
      · rw [upd_same, take_more hz, List.map_append, List.map_append]
        rw [eu]
        rfl
    rintro H5 ⟨s5, d5⟩
    have rl : ((restsL xs e).map V.int).length = xs.length := by
      unfold restsL
      rw [List.length_map, List.length_map]
    rw [rl, List.take_length] at d5
    walk_at "rd"
    refine ⟨_, _, rfl, s5 _ _ d4, ?_⟩
    refine ⟨by show 3 ≤ sizeLine; decide, fun t ht => ?_⟩
    generalize hH : upd _ t _ = H6
    have rln : (rkD us us.length).length = manyOf xs e := by
      unfold rkD
      rw [List.length_map, List.length_zipIdx, List.take_length, ul]
    obtain ⟨s6, d6⟩ := new_of (o' := .tup [.ref c, .ref R, .int (manyOf xs e : Nat)]) hH ht (by rw [rln])
    clear hH
    have s56 := s5.trans s6
    exact k t c R H6 ((s02.trans s24).trans s56) d6 (s56 _ _ (s24 _ _ c2)) (s6 _ _ d5)
def spRanked : Sp := fun vs H Q _ => ∃ (a : Addr) (xs : List Int) (e : Int), vs = [.ref a, .int e] ∧ LT H a (xs.map V.int) ∧ xs.length < 60 ∧ (∀ x ∈ xs, -big < x ∧ x < big) ∧ 1 ≤ e ∧ e ≤ 3000000 ∧
  ∀ (t l : Addr) (H' : Hp), Same H H' → H l = none → H' t = some (.tup [.ref l, .int (wideOf xs e)]) → H' l = some (.lst ((rankedL xs e).map V.int)) → Q (.ref t) H'
theorem ok_ranked (T : Txt w K mg) : FnOk P w K mg base CX0 4 T.f_ranked T.d_ranked ["row", "tolerance"] spRanked := by
  refine T.F_ranked.ok sc_ranked (fun vs H Q E h => ?_) (fun cdv A outer s H vs Q E hr h => ?_)
  · obtain ⟨a, xs, e, rfl, _⟩ := h
    rfl
  · obtain ⟨a, xs, e, rfl, hA, hl, hb, e1, e2, k⟩ := h
    refine ⟨_, (pss_cons (ps_expr (pe_call (ok_check_row T) (hr.mono (by decide)) (by rfl) T.m_check_row T.F_check_row.kp T.b_check_row .nil pass0 (pa_cons (pv 0) pa_nil)))
      (pss_cons (ps_expr (pe_call (ok_check_tolerance T) (hr.mono (by decide)) (by rfl) T.m_check_tolerance T.F_check_tolerance.kp T.b_check_tolerance .nil pass0 (pa_cons (pv 1) pa_nil)))
      (pss_cons (ps_asg (pe_call (ok_cells_and_ranks T) (hr.mono (by decide)) (by rfl) T.m_cells_and_ranks T.F_cells_and_ranks.kp T.b_cells_and_ranks .nil pass0 (pa_cons (pv 0) (pa_cons (pv 1) pa_nil))) (pg_tup (by rfl) (pgs_cons (pg_name (i := 2) sc_ranked.nd rfl (Or.inl rfl)) (pgs_cons (pg_name (i := 3) sc_ranked.nd rfl (Or.inl rfl)) (pgs_cons (pg_name (i := 4) sc_ranked.nd rfl (Or.inl rfl)) pgs_nil)))))
      (pss_cons (ps_set (i := 5) sc_ranked.nd rfl (Or.inr rfl) (pe_callB (call_max2 rfl) (by rfl) T.m_max (by decide +kernel) (pa_cons pe_int (pa_cons (pv 4) pa_nil))))
      (pss_one (ps_ret (pe_tup (pa_cons (pe_lc (own := [("cell", 6), ("rank", 7)]) (by rfl) sc_ranked.nd (pi_zip (by rfl) T.m_zip (pa_cons (pv 2) (pa_cons (pv 3) pa_nil))) (blkOk_by (own := [("cell", 6), ("rank", 7)]) (N := ["row", "tolerance", "cells", "ranks", "many", "least", "cell", "rank"]) (sc := defScope s_ranked) (by decide +kernel)) (fun _ _ _ _ _ => (show PG _ _ (gTup K 2 _) from (pg_tup (by rfl) (pgs_cons (pg_name (i := 6) sc_ranked.nd rfl (Or.inl rfl)) (pgs_cons (pg_name (i := 7) sc_ranked.nd rfl (Or.inl rfl)) pgs_nil))))) (fun _ _ _ _ _ => pts_nil) (fun _ _ _ _ _ => (pe_op op_add (pe_op op_mul (pv 6) (pv 5)) (pv 7)))) (pa_cons (pv 5) pa_nil))))))))), ?_⟩
    walk_at "rd"
    refine ⟨a, xs, rfl, hA, by omega, hb, fun H1 s1 => ?_⟩
    walk_at "rd"
    refine ⟨e1, by unfold big; omega, ?_⟩
    walk_at "rd"
    refine ⟨a, xs, e, rfl, hA.same s1, hl, e1, e2, fun t c r H2 s2 d2 dc dr => ?_⟩
    refine ⟨_, _, rfl, SqT.of d2, rfl, ?_⟩
    walk_at "rd"
    refine ⟨_, _, _, _, rfl, SqL.of dc, SqL.of dr, fun D hD => ?_⟩
    have wl := wide_le (e := e) (n := 60) (by omega : xs.length ≤ 60) (by decide)
    have wp := wide_pos xs e
    refine lc_it (walk_zip (K := K) (n := xs.length) (by unfold ranksL; rw [List.length_map, List.length_map, List.length_map, List.length_map, Nat.min_self])) (fun i H' => Same H2 H' ∧ H' D = some (.lst (((xs.take i).map fun x => x / e * wideOf xs e + ((rkOf xs e x : Nat) : Int)).map V.int))) ⟨Same.new hD, upd_same⟩ (fun i H' _ z => ⟨SqL.of (z.1 _ _ dc), SqL.of (z.1 _ _ dr)⟩) ?_ ?_
    · rintro i v H3 H4 hi ⟨s3, d3⟩ ⟨u, x, y, rfl, hu, rfl, hx, hy⟩
      obtain ⟨z, hz⟩ : ∃ z, xs[i]? = some z := ⟨_, List.getElem?_eq_getElem hi⟩
      have ex := int2_at hz hx
      have ey := int2_at (f := fun x => ((rkOf xs e x : Nat) : Int)) hz hy
      subst ex ey
      refine ⟨_, _, rfl, SqT.of upd_same, rfl, ?_⟩
      walk_at "rd"
      refine ⟨Or.inr ⟨?_, ?_⟩, ?_⟩
      · show -(2 ^ 64) < wideOf xs e
        omega
      · show wideOf xs e < 2 ^ 64
        omega
      walk_at "rd"
      have uD : u ≠ D := fun q => by rw [q, d3] at hu; cases hu
      refine ⟨_, by rw [upd_ne uD.symm]; exact d3, ?_, fun b o q => ?_, ?_⟩
      · rw [List.length_map, List.length_map, List.length_take]
        exact Nat.lt_of_le_of_lt (by omega : _ ≤ 60) (by decide)
      · have q2 := s3 b o q
        rw [upd_ne (fun q3 => by rw [q3, hD] at q; cases q), upd_ne (fun q3 => by rw [q3, hu] at q2; cases q2)]
        exact q2
      · rw [upd_same, take_more hz, List.map_append, List.map_append]
        rfl
    rintro H3 ⟨s3, d3⟩
    rw [List.take_length] at d3
    have s13 := (s1.trans s2).trans s3
    walk_at "rd"
    refine ⟨by show 2 ≤ sizeLine; decide, fun t2 ht2 => ?_⟩
    generalize hH : upd _ t2 _ = H4
    obtain ⟨s4, d4⟩ := new_of (o' := .tup [.ref D, .int (wideOf xs e)]) hH ht2 rfl
    clear hH
    exact k t2 D H4 (s13.trans s4) ((s1.trans s2).free hD) d4 (s4 _ _ d3)
/-! ### _law_unlike -/
def spUnlike : Sp := fun vs H Q _ => ∃ (a : Addr) (ns : List Int), vs = [.ref a] ∧ H a = some (.lst (ns.map V.int)) ∧ ns.length < 60 ∧ ∀ (l : Addr) (H' : Hp), Same H H' → H l = none → H' l = some (.lst ((uqs ns).map V.int)) → Q (.ref l) H'
/-- the numbers without those that stand behind an equal one -/
def thinL (l : List Int) (n : Nat) : List Int := uqs (l.take n)
theorem sorted_last {l : List Int} (h : l.Pairwise (· ≤ ·)) {n : Nat} {z : Int} (hz : l[n]? = some z) : ∀ k ∈ l.take n, k ≤ z := fun k hk => by
  obtain ⟨i, hi⟩ := List.getElem?_of_mem hk
  rw [List.getElem?_take] at hi
  split at hi
  · rename_i q
    obtain ⟨a1, a2⟩ := List.getElem?_eq_some_iff.mp hi
    obtain ⟨b1, b2⟩ := List.getElem?_eq_some_iff.mp hz
    have := List.pairwise_iff_getElem.mp h i n a1 b1 q
    omega
  · cases hi
theorem insU_end {z : Int} : ∀ {l : List Int}, l.Pairwise (· < ·) → (∀ k ∈ l, k < z) → insU z l = l ++ [z]
  | [], _, _ => rfl
  | b :: r, h, hk => by
    obtain ⟨_, h2⟩ := List.pairwise_cons.mp h
    have hb := hk b List.mem_cons_self
    unfold insU
    rw [if_neg (by omega), if_neg (by omega), insU_end h2 fun k hr => hk k (List.mem_cons_of_mem _ hr)]
    rfl
theorem uqs_snoc (l : List Int) (z : Int) : uqs (l ++ [z]) = insU z (uqs l) :=
  lt_unique (uqs_lt _) (insU_lt (uqs_lt l)) fun k => by
    rw [uqs_mem, insU_mem, uqs_mem, List.mem_append, List.mem_singleton]
    exact Or.comm
theorem insU_in {z : Int} : ∀ {l : List Int}, l.Pairwise (· < ·) → z ∈ l → insU z l = l := fun {l} h hz =>
  lt_unique (insU_lt h) h fun k => by
    rw [insU_mem]
    exact ⟨fun q => q.elim (fun e => e ▸ hz) id, .inr⟩
/-- the last of the ascending different numbers is the greatest -/
theorem last_max {us : List Int} (h : us.Pairwise (· < ·)) {m : Int} (hm : us.getLast? = some m) : ∀ k ∈ us, k ≤ m := fun k hk => by
  obtain ⟨ys, rfl⟩ := List.getLast?_eq_some_iff.mp hm
  rcases List.mem_append.mp hk with q | q
  · have := (List.pairwise_append.mp h).2.2 k q m (List.mem_singleton.mpr rfl)
    omega
  · rw [List.mem_singleton.mp q]
    exact Int.le_refl _
theorem thin_next {l : List Int} (h : l.Pairwise (· ≤ ·)) {n : Nat} {z : Int} (hz : l[n]? = some z) : uqs (l.take (n + 1)) = if (uqs (l.take n)).getLast? = some z then uqs (l.take n) else uqs (l.take n) ++ [z] := by
  rw [take_more hz, uqs_snoc]
  split
  · rename_i q
    exact insU_in (uqs_lt _) (List.mem_of_getLast? q)
  · rename_i q
    refine insU_end (uqs_lt _) fun k hk => ?_
    have h1 := sorted_last h hz k (uqs_mem.mp hk)
    refine Int.lt_iff_le_and_ne.mpr ⟨h1, fun e => q ?_⟩
    subst e
    have ne : uqs (l.take n) ≠ [] := fun w => by rw [w] at hk; cases hk
    cases hm : (uqs (l.take n)).getLast? with
    | none => exact absurd (List.getLast?_eq_none_iff.mp hm) ne
    | some m =>
      have a1 := last_max (uqs_lt _) hm k hk
      have a2 := sorted_last h hz m (uqs_mem.mp (List.mem_of_getLast? hm))
      rw [show m = k by omega]
theorem last_int {l : List Int} {k : Int} (h : l.getLast? = some k) : atI (l.map V.int) (-1) = some (V.int k) := by
  have h0 : l ≠ [] := fun q => by rw [q] at h; cases h
  have hl : 1 ≤ l.length := List.length_pos_iff.mpr h0
  unfold atI ixN
  rw [if_neg (by decide), if_pos (by rw [List.length_map]; omega)]
  show (l.map V.int)[((-1 : Int) + ((l.map V.int).length : Nat)).toNat]? = _
  rw [show ((-1 : Int) + ((l.map V.int).length : Nat)).toNat = l.length - 1 by rw [List.length_map]; omega, List.getElem?_map, ← List.getLast?_eq_getElem?, h]
  rfl
theorem ok_law_unlike (T : Txt w K mg) : FnOk P w K mg base CX0 1 T.f_law_unlike T.d_law_unlike ["_law_numbers"] spUnlike := by
  refine T.F_law_unlike.ok sc_law_unlike (fun vs H Q E h => ?_) (fun cdv A outer s H vs Q E hr h => ?_)
  · obtain ⟨a, ns, rfl, _⟩ := h
    rfl
  · obtain ⟨a, ns, rfl, hA, hl, k⟩ := h
    refine ⟨_, (pss_cons (ps_set (i := 1) sc_law_unlike.nd rfl (Or.inl rfl) (pe_lst pa_nil))
      (pss_cons (ps_for PassesOwn.never rfl (pi_list (pe_callB cr_sorted (by rfl) T.m_sorted (by decide +kernel) (pa_cons (pe_lc (own := [("_law_one", 3)]) (by rfl) sc_law_unlike.nd (pi_list (pv 0)) (blkOk_by (own := [("_law_one", 3)]) (N := ["_law_numbers", "_law_found", "_law_number", "_law_one"]) (sc := defScope s_law_unlike) (by decide +kernel)) (fun _ _ _ _ _ => (pg_name (i := 3) sc_law_unlike.nd rfl (Or.inl rfl))) (fun _ _ _ _ _ => pts_nil) (fun _ _ _ _ _ => (pe_callTy call_int1 (by rfl) T.m_int (by decide +kernel) (pa_cons (pv 3) pa_nil)))) pa_nil))) (pg_name (i := 2) sc_law_unlike.nd rfl (Or.inl rfl))
      (pss_one (ps_if (PW.pt (pw_or (pt_cmpR (op_eqD hr.units) (pv 1) (pe_lst pa_nil) (nomark _)) (pw_or1 (pt_cmpR op_ne (pe_ix ix_list (pv 1) (pe_un un_neg pe_int) (fun _ _ => rfl)) (pv 2) (nomark _)))))
      (pss_one (ps_expr (pe_bm PySem.F.plainAttrs_list PySem.F.slot_list_append PySem.F.type_list_append mt_append (pv 1) (pa_cons (pv 2) pa_nil))))
      pss_nil)))
      (pss_one (ps_ret (pv 1))))), ?_⟩
    refine ⟨by show 0 ≤ sizeLine; decide, fun l hl0 => ?_⟩
    generalize hH : upd _ l _ = H1
    obtain ⟨s1, d1⟩ := new_of (o' := .lst (([] : List Int).map V.int)) hH hl0 rfl
    clear hH
    have a1 := s1 _ _ hA
    walk_at "rd"
    refine ⟨⟨_, SqL.of a1⟩, fun D hD => ?_⟩
    refine lc_list (K := K) (a := a) (xs := ns.map V.int) (fun i H' => Same H1 H' ∧ H' D = some (.lst ((ns.take i).map V.int))) ⟨Same.new hD, upd_same⟩ (fun i H' _ z => SqL.of (z.1 _ _ a1)) ?_ ?_
    · rintro i x H2 hx ⟨s2, d2⟩
      obtain ⟨z, rfl, hz⟩ := int_at hx
      refine ⟨rfl, ?_⟩
      walk_at "rd"
      refine Or.inl ?_
      walk_at "rd"
      refine ⟨_, d2, ?_, fun b o q => ?_, ?_⟩
      · rw [List.length_map, List.length_take]
        exact Nat.lt_of_le_of_lt (by omega : _ ≤ 60) (by decide)
      · rw [upd_ne (fun q2 => by rw [q2, hD] at q; cases q)]
        exact s2 b o q
      · rw [upd_same, take_more hz, List.map_append]
        rfl
    rintro H2 ⟨s2, d2⟩
    rw [List.length_map, List.take_length] at d2
    refine ⟨D, ns, rfl, SqL.of d2, by omega, fun ms p hp hs hp0 => ?_⟩
    generalize hH : upd _ p _ = H3
    obtain ⟨s3, d3⟩ := new_of (o' := .lst (ms.map V.int)) hH hp0 rfl
    clear hH
    have s13 := s2.trans s3
    have l3 := s13 _ _ d1
    have pl : p ≠ l := (ne_of_none (s2 _ _ d1) hp0).symm
    have s03 := s1.trans s13
    have eu : uqs ms = uqs ns := lt_unique (uqs_lt _) (uqs_lt _) fun k => by rw [uqs_mem, uqs_mem]; exact hp.mem_iff
    have ml : ms.length < 60 := by rw [hp.length_eq]; exact hl
    rw [← eu] at k
    refine ⟨p, rfl, ⟨_, SqL.of d3⟩, for_list (K := K) (a := p) (xs := ms.map V.int) (fun i σ H' => ∃ v2 : Option V, σ = [some (.ref a), some (.ref l), v2, none] ∧ Same H H' ∧ H' p = some (.lst (ms.map V.int)) ∧ H' l = some (.lst ((uqs (ms.take i)).map V.int)))
      ⟨none, rfl, s03, d3, l3⟩ (fun i σ H' _ ⟨_, _, _, z, _⟩ => SqL.of z) ?_ ?_⟩
    · rintro i x σ H4 hx ⟨v2, rfl, s4, p4, l4⟩
      obtain ⟨z, rfl, hz⟩ := int_at hx
      have tl : (uqs (ms.take i)).length ≤ 60 := by
        have := uqs_len (ms.take i)
        rw [List.length_take] at this
        omega
      have nx := thin_next hs hz
      have addIt : uqs (ms.take (i + 1)) = uqs (ms.take i) ++ [z] → ∀ H5, Same H4 H5 → ∃ acc, H5 l = some (.lst acc) ∧ acc.length < sizeLine ∧ (∃ v2 : Option V, [some (V.ref a), some (V.ref l), some (V.int z), none] = [some (.ref a), some (.ref l), v2, none] ∧ Same H (upd H5 l (.lst (acc ++ [V.int z]))) ∧ upd H5 l (.lst (acc ++ [V.int z])) p = some (.lst (ms.map V.int)) ∧ upd H5 l (.lst (acc ++ [V.int z])) l = some (.lst ((uqs (ms.take (i + 1))).map V.int))) := fun en H5 s5 => by
        refine ⟨_, s5 _ _ l4, ?_, _, rfl, fun b o q => ?_, ?_, ?_⟩
        · rw [List.length_map]
          exact Nat.lt_of_le_of_lt tl (by decide)
        · rw [upd_ne (fun q2 => by rw [q2, hl0] at q; cases q)]
          exact s5 _ _ (s4 b o q)
        · rw [upd_ne pl]
          exact s5 _ _ p4
        · rw [upd_same, en, List.map_append]
          rfl
      walk_at "rd"
      refine ⟨by show 0 ≤ sizeLine; decide, fun n0 hn0 => ?_⟩
      generalize hH : upd _ n0 _ = H5
      obtain ⟨s5, d5⟩ := new_of (o' := .lst []) hH hn0 rfl
      clear hH
      refine eq_nil (s5 _ _ l4) d5 ?_
      cases hu : uqs (ms.take i) with
      | nil =>
        rw [hu] at nx addIt
        rw [if_neg (by intro q; cases q)] at nx
        walk_at "rd"
        refine ⟨.inl ⟨rfl, _, SqL.of (s5 _ _ l4)⟩, ?_⟩
        walk_at "rd"
        obtain ⟨acc, h1, h2, h3⟩ := addIt nx H5 s5
        exact ⟨_, _, _, rfl, rfl, h1, h2, h3⟩
      | cons u us =>
        obtain ⟨m, hm⟩ : ∃ m, (uqs (ms.take i)).getLast? = some m := by
          cases q : (uqs (ms.take i)).getLast? with
          | none => rw [List.getLast?_eq_none_iff.mp q] at hu; cases hu
          | some m => exact ⟨m, rfl⟩
        walk_at "rd"
        refine ⟨_, _, _, _, rfl, rfl, SqL.of (s5 _ _ l4), last_int hm, ?_⟩
        walk_at "rd"
        by_cases e : m = z
        · subst e
          rw [if_pos hm] at nx
          rw [decide_eq_true (show V.int m = V.int m from rfl)]
          walk_at "rd"
          exact ⟨s4.trans s5, s5 _ _ p4, by rw [nx]; exact s5 _ _ l4⟩
        · rw [if_neg (by rw [hm]; exact fun q => e (Option.some.inj q))] at nx
          rw [decide_eq_false (show ¬ V.int m = V.int z from fun q => e (by injection q))]
          walk_at "rd"
          refine ⟨.inl ⟨rfl, _, SqL.of (s5 _ _ l4)⟩, ?_⟩
          walk_at "rd"
          obtain ⟨acc, h1, h2, h3⟩ := addIt nx H5 s5
          exact ⟨_, _, _, rfl, rfl, h1, h2, h3⟩
    · rintro σ H4 ⟨v2, rfl, s4, p4, l4⟩
      rw [List.length_map, List.take_length] at l4
      walk_at "rd"
      exact k l H4 s4 hl0 l4
--SPLIT
/-! ### runs on rows of one shape -/
def mapS (φ : Int → Int) (s : RunS) : RunS := ⟨s.st, s.words, s.keeps, s.kept.map φ⟩
theorem whF_map {φ : Int → Int} {kept : List Int} {x e f : Int} (h : ∀ k ∈ kept, plc (φ x) (φ k) f = plc x k e) : whF (kept.map φ) (φ x) f = whF kept x e := by
  unfold whF
  rw [List.getLast?_map]
  cases q : kept.getLast? with
  | none => rfl
  | some k => exact h k (List.mem_of_getLast? q)
theorem step_map {φ : Int → Int} {rs : List Rul} {e f x : Int} {s : RunS} (h : ∀ k ∈ s.kept, plc (φ x) (φ k) f = plc x k e) : stepS rs f (mapS φ s) (φ x) = mapS φ (stepS rs e s x) := by
  have w : whF (mapS φ s).kept (φ x) f = whF s.kept x e := whF_map h
  unfold stepS
  rw [w]
  show RunS.mk _ _ _ (if (tellF rs s.st (whF s.kept x e)).2.1 = true then s.kept.map φ ++ [φ x] else s.kept.map φ) = RunS.mk _ _ _ ((if (tellF rs s.st (whF s.kept x e)).2.1 = true then s.kept ++ [x] else s.kept).map φ)
  by_cases c : (tellF rs s.st (whF s.kept x e)).2.1 = true
  · rw [if_pos c, if_pos c, List.map_append]
    rfl
  · rw [if_neg c, if_neg c]
    rfl
theorem step_kept {rs : List Rul} {e x k : Int} {s : RunS} (h : k ∈ (stepS rs e s x).kept) : k ∈ s.kept ∨ k = x := by
  have h : k ∈ (if (tellF rs s.st (whF s.kept x e)).2.1 = true then s.kept ++ [x] else s.kept) := h
  split at h
  · rcases List.mem_append.mp h with q | q
    · exact .inl q
    · exact .inr (List.mem_singleton.mp q)
  · exact .inl h
theorem run_map {φ : Int → Int} {rs : List Rul} {e f : Int} : ∀ (xs : List Int) (s : RunS), (∀ x ∈ xs, ∀ k, k ∈ s.kept ∨ k ∈ xs → plc (φ x) (φ k) f = plc x k e) → runS rs f (mapS φ s) (xs.map φ) = mapS φ (runS rs e s xs)
  | [], _, _ => rfl
  | x :: xs, s, h => by
    show runS rs f (stepS rs f (mapS φ s) (φ x)) (xs.map φ) = mapS φ (runS rs e (stepS rs e s x) xs)
    rw [step_map fun k hk => h x List.mem_cons_self k (.inl hk)]
    refine run_map xs _ fun y hy k hk => h y (List.mem_cons_of_mem _ hy) k ?_
    rcases hk with q | q
    · rcases step_kept q with z | z
      · exact .inl z
      · exact .inr (z ▸ List.mem_cons_self)
    · exact .inr (List.mem_cons_of_mem _ q)
theorem run_like {φ : Int → Int} {rs : List Rul} {e f : Int} {xs : List Int} (z : Str) (h : ∀ x ∈ xs, ∀ k ∈ xs, plc (φ x) (φ k) f = plc x k e) : runS rs f (begS z) (xs.map φ) = mapS φ (runS rs e (begS z) xs) :=
  run_map xs (begS z) fun x hx k hk => h x hx k (hk.resolve_left fun q => nomatch q)
def keptBy : List Int → List Bool → List Int
  | x :: xs, b :: bs => if b = true then x :: keptBy xs bs else keptBy xs bs
  | _, _ => []
theorem keptBy_map (φ : Int → Int) : ∀ (xs : List Int) (bs : List Bool), keptBy (xs.map φ) bs = (keptBy xs bs).map φ
  | [], _ => rfl
  | _ :: _, [] => rfl
  | x :: xs, b :: bs => by
    have ih := keptBy_map φ xs bs
    show (if b = true then φ x :: keptBy (xs.map φ) bs else keptBy (xs.map φ) bs) = List.map φ (if b = true then x :: keptBy xs bs else keptBy xs bs)
    rw [ih]
    split <;> rfl
theorem keptBy_more : ∀ {xs : List Int} {bs : List Bool} {i : Nat} {x : Int} {b : Bool}, xs[i]? = some x → bs[i]? = some b → keptBy (xs.take (i + 1)) (bs.take (i + 1)) = keptBy (xs.take i) (bs.take i) ++ (if b = true then [x] else [])
  | [], _, i, _, _, h, _ => by simp at h
  | _ :: _, [], i, _, _, _, h => by simp at h
  | a :: xs, c :: bs, 0, x, b, h, h' => by
    obtain rfl := Option.some.inj h
    obtain rfl := Option.some.inj h'
    cases xs <;> cases bs <;> simp [keptBy]
  | a :: xs, c :: bs, i + 1, x, b, h, h' => by
    have ih := keptBy_more (xs := xs) (bs := bs) (i := i) (x := x) (b := b) (by simpa using h) (by simpa using h')
    show (if c = true then a :: keptBy (xs.take (i + 1)) (bs.take (i + 1)) else keptBy (xs.take (i + 1)) (bs.take (i + 1))) = (if c = true then a :: keptBy (xs.take i) (bs.take i) else keptBy (xs.take i) (bs.take i)) ++ _
    rw [ih]
    split <;> rfl
theorem keptBy_len : ∀ (xs : List Int) (bs : List Bool), (keptBy xs bs).length ≤ xs.length
  | [], _ => Nat.le_refl _
  | _ :: _, [] => Nat.zero_le _
  | x :: xs, b :: bs => by
    have ih := keptBy_len xs bs
    show (if b = true then x :: keptBy xs bs else keptBy xs bs).length ≤ _
    split
    · rw [List.length_cons, List.length_cons]
      omega
    · rw [List.length_cons]
      omega
theorem run_keptBy {rs : List Rul} {e : Int} : ∀ (xs : List Int) (s : RunS), ∃ bs, (runS rs e s xs).keeps = s.keeps ++ bs ∧ (runS rs e s xs).kept = s.kept ++ keptBy xs bs
  | [], s => ⟨[], by show s.keeps = s.keeps ++ []; rw [List.append_nil], by show s.kept = s.kept ++ []; rw [List.append_nil]⟩
  | x :: xs, s => by
    obtain ⟨bs, h1, h2⟩ := run_keptBy (rs := rs) (e := e) xs (stepS rs e s x)
    refine ⟨(tellF rs s.st (whF s.kept x e)).2.1 :: bs, ?_, ?_⟩
    · show (runS rs e (stepS rs e s x) xs).keeps = _
      rw [h1]
      show s.keeps ++ [_] ++ bs = _
      rw [List.append_assoc]
      rfl
    · show (runS rs e (stepS rs e s x) xs).kept = _
      rw [h2]
      show (if (tellF rs s.st (whF s.kept x e)).2.1 = true then s.kept ++ [x] else s.kept) ++ keptBy xs bs = s.kept ++ (if (tellF rs s.st (whF s.kept x e)).2.1 = true then x :: keptBy xs bs else keptBy xs bs)
      split
      · rw [List.append_assoc]
        rfl
      · rfl
theorem kept_keeps (rs : List Rul) (e : Int) (z : Str) (xs : List Int) : (runS rs e (begS z) xs).kept = keptBy xs (runS rs e (begS z) xs).keeps := by
  obtain ⟨bs, h1, h2⟩ := run_keptBy (rs := rs) (e := e) xs (begS z)
  rw [h2, h1]
  rfl
/-! ### the four rows -/
structure Fit (xs : List Int) (e : Int) (φ : Int → Int) (f : Int) : Prop where
  f1 : 1 ≤ f
  f2 : f < big
  bd : ∀ x ∈ xs, -big < φ x ∧ φ x < big
  hom : ∀ x ∈ xs, ∀ k ∈ xs, plc (φ x) (φ k) f = plc x k e
theorem plc_shift (x k z : Int) {e : Int} (he : 1 ≤ e) : plc (x + z * e) (k + z * e) e = plc x k e := by
  unfold plc
  rw [Int.add_mul_ediv_right x z (by omega), Int.add_mul_ediv_right k z (by omega), Int.add_mul_emod_self_right, Int.add_mul_emod_self_right]
  congr 1
  omega
theorem sgn_scale (r s : Int) {t : Int} (ht : 0 < t) : sgn (r * t) (s * t) = sgn r s := by
  unfold sgn
  have e1 : (r * t < s * t) = (r < s) := propext (Int.mul_lt_mul_right ht)
  have e2 : (s * t < r * t) = (s < r) := propext (Int.mul_lt_mul_right ht)
  simp only [e1, e2]
theorem emod_scale (a b : Int) {t : Int} (ht : 0 < t) : a * t % (b * t) = a % b * t := by
  rw [Int.mul_comm a t, Int.mul_comm b t, Int.mul_emod_mul_of_pos _ _ ht, Int.mul_comm]
theorem plc_scale (x k e : Int) {t : Int} (ht : 0 < t) : plc (x * t) (k * t) (e * t) = plc x k e := by
  unfold plc
  rw [Int.mul_ediv_mul_of_pos_left _ _ ht, Int.mul_ediv_mul_of_pos_left _ _ ht, emod_scale _ _ ht, emod_scale _ _ ht]
  unfold plcD
  rw [sgn_scale _ _ ht]
theorem put_parts {a r w : Int} (h0 : 0 ≤ r) (h1 : r < w) : (a * w + r) / w = a ∧ (a * w + r) % w = r := by
  have e1 : (a * w + r) / w = a := by
    rw [Int.add_comm, Int.add_mul_ediv_right _ _ (by omega), Int.ediv_eq_zero_of_lt h0 h1, Int.zero_add]
  have e2 : (a * w + r) % w = r := by
    rw [Int.add_comm, Int.add_mul_emod_self_right, Int.emod_eq_of_lt h0 h1]
  exact ⟨e1, e2⟩
theorem plc_mono {x k e w : Int} {g : Int → Int} (x0 : 0 ≤ g (x % e)) (x1 : g (x % e) < w) (k0 : 0 ≤ g (k % e)) (k1 : g (k % e) < w) (m1 : x % e < k % e → g (x % e) < g (k % e)) (m2 : k % e < x % e → g (k % e) < g (x % e)) :
    plc (x / e * w + g (x % e)) (k / e * w + g (k % e)) w = plc x k e := by
  unfold plc
  rw [(put_parts x0 x1).1, (put_parts x0 x1).2, (put_parts k0 k1).1, (put_parts k0 k1).2]
  have es : sgn (g (x % e)) (g (k % e)) = sgn (x % e) (k % e) := by
    unfold sgn
    rcases Int.lt_trichotomy (x % e) (k % e) with h | h | h
    · rw [if_pos (m1 h), if_pos h]
    · rw [h, if_neg (Int.lt_irrefl _), if_neg (Int.lt_irrefl _), if_neg (Int.lt_irrefl _), if_neg (Int.lt_irrefl _)]
    · have := m2 h
      rw [if_neg (show ¬ g (x % e) < g (k % e) by omega), if_pos (m2 h), if_neg (show ¬ x % e < k % e by omega), if_pos h]
  unfold plcD
  rw [es]
theorem idx_mono {us : List Int} (h : us.Pairwise (· < ·)) {r s : Int} (hr : r ∈ us) (hs : s ∈ us) (lt : r < s) : us.idxOf r < us.idxOf s := by
  obtain ⟨a1, a2⟩ := List.getElem?_eq_some_iff.mp (idx_at hr)
  obtain ⟨b1, b2⟩ := List.getElem?_eq_some_iff.mp (idx_at hs)
  rcases Nat.lt_trichotomy (us.idxOf r) (us.idxOf s) with q | q | q
  · exact q
  · simp only [q] at a2
    omega
  · have := List.pairwise_iff_getElem.mp h _ _ b1 a1 q
    omega
structure Wider (xs : List Int) (e : Int) (g : Int → Int) (w : Int) : Prop where
  lo : ∀ r ∈ restsL xs e, 0 ≤ g r
  hi : ∀ r ∈ restsL xs e, g r < w
  mono : ∀ r ∈ restsL xs e, ∀ s ∈ restsL xs e, r < s → g r < g s
theorem rest_in {xs : List Int} {e x : Int} (h : x ∈ xs) : x % e ∈ restsL xs e := List.mem_map.mpr ⟨x, h, rfl⟩
theorem Wider.fit {xs : List Int} {e w : Int} {g : Int → Int} (h : Wider xs e g w) (e1 : 1 ≤ e) (w1 : 1 ≤ w) (w2 : w ≤ 45) (hb : ∀ x ∈ xs, -20000000000000000000000000000 < x ∧ x < 20000000000000000000000000000) : Fit xs e (fun x => x / e * w + g (x % e)) w where
  f1 := w1
  f2 := by unfold big; omega
  bd := fun x hx => by
    have b := hb x hx
    have g0 := h.lo _ (rest_in (e := e) hx)
    have g1 := h.hi _ (rest_in (e := e) hx)
    have c1 : -20000000000000000000000000000 ≤ x / e := Int.le_ediv_of_mul_le (by omega) (by omega)
    have c2 : x / e ≤ 20000000000000000000000000000 := Int.ediv_le_of_le_mul (by omega) (by omega)
    have q1 : x / e * w ≤ 20000000000000000000000000000 * w := Int.mul_le_mul_of_nonneg_right c2 (by omega)
    have q2 : -20000000000000000000000000000 * w ≤ x / e * w := Int.mul_le_mul_of_nonneg_right c1 (by omega)
    show -big < x / e * w + g (x % e) ∧ x / e * w + g (x % e) < big
    unfold big
    omega
  hom := fun x hx k hk => plc_mono (h.lo _ (rest_in hx)) (h.hi _ (rest_in hx)) (h.lo _ (rest_in hk)) (h.hi _ (rest_in hk)) (h.mono _ (rest_in hx) _ (rest_in hk)) (h.mono _ (rest_in hk) _ (rest_in hx))
theorem ranked_wider {xs : List Int} {e : Int} : Wider xs e (fun r => (((uqs (restsL xs e)).idxOf r : Nat) : Int)) (wideOf xs e) where
  lo := fun r _ => by omega
  hi := fun r hr => by
    have hm := uqs_mem.mpr hr
    have h1 := idx_lt hm
    have h2 : 1 ≤ manyOf xs e := by show 1 ≤ (uqs (restsL xs e)).length; omega
    rw [wide_many h2]
    show (((uqs (restsL xs e)).idxOf r : Nat) : Int) < (((uqs (restsL xs e)).length : Nat) : Int)
    omega
  mono := fun r hr s hs lt => by
    have := idx_mono (uqs_lt _) (uqs_mem.mpr hr) (uqs_mem.mpr hs) lt
    show (((uqs (restsL xs e)).idxOf r : Nat) : Int) < (((uqs (restsL xs e)).idxOf s : Nat) : Int)
    omega
/-! ### the dict of wider rests -/
def otD (us gs : List Int) : List (Key × V) := (us.zip gs).map fun p => ((Sum.inl p.1 : Key), V.int p.2)
def gOf (us gs : List Int) (r : Int) : Int := (gs[us.idxOf r]?).getD 0
theorem otD_val : ∀ {us gs : List Int} {u : Int}, us.Nodup → us.length = gs.length → u ∈ us → valV (otD us gs) (Sum.inl u : Key) = some (V.int (gOf us gs u))
  | [], _, _, _, _, h => nomatch h
  | _ :: _, [], _, _, h, _ => by simp at h
  | a :: us, g :: gs, u, nd, hl, hm => by
    obtain ⟨h1, h2⟩ := List.nodup_cons.mp nd
    by_cases e : a = u
    · subst e
      have z : gOf (a :: us) (g :: gs) a = g := by
        unfold gOf
        rw [List.idxOf_cons_self]
        rfl
      rw [z]
      exact valV_pos (p := ((Sum.inl a : Key), V.int g)) rfl
    · refine Eq.trans (valV_neg (p := ((Sum.inl a : Key), V.int g)) fun q => e (by cases q; rfl)) ?_
      have ih := otD_val (gs := gs) h2 (by simpa using hl) ((List.mem_cons.mp hm).resolve_left fun q => e q.symm)
      have z : gOf (a :: us) (g :: gs) u = gOf us gs u := by
        unfold gOf
        rw [List.idxOf_cons, show (a == u) = false by simpa using e]
        rfl
      rw [z]
      exact ih
theorem otD_put {us gs : List Int} (nd : us.Nodup) {i : Nat} {u g : Int} (h : us[i]? = some u) (hl : gs.length = i) : putK (otD (us.take i) gs) (Sum.inl u : Key) (V.int g) = otD (us.take (i + 1)) (gs ++ [g]) := by
  have hi : i < us.length := (List.getElem?_eq_some_iff.mp h).1
  have ll : (us.take i).length = gs.length := by rw [List.length_take]; omega
  have out : (Sum.inl u : Key) ∉ (otD (us.take i) gs).map (·.1) := fun m => by
    unfold otD at m
    rw [List.map_map] at m
    obtain ⟨y, hy, e⟩ := List.mem_map.mp m
    have e : (Sum.inl y.1 : Key) = Sum.inl u := e
    have hy1 : y.1 ∈ us.take i := (List.of_mem_zip (a := y.1) (b := y.2) hy).1
    cases e
    obtain ⟨j, hj⟩ := List.getElem?_of_mem hy1
    rw [List.getElem?_take] at hj
    split at hj
    · have := idx_of nd hj
      have := idx_of nd h
      omega
    · cases hj
  rw [putK_out out, take_more h]
  unfold otD
  rw [List.zip_append ll, List.map_append]
  rfl
theorem otD_wider {xs : List Int} {e at' d : Int} {gs : List Int} (hl : gs.length = (uqs (restsL xs e)).length) (hs : gs.Pairwise (· < ·)) (hb : ∀ g ∈ gs, 0 ≤ g ∧ g ≤ at') (d0 : 0 ≤ d) : Wider xs e (gOf (uqs (restsL xs e)) gs) (at' + 1 + d) := by
  have at_ : ∀ r ∈ restsL xs e, ∃ h : (uqs (restsL xs e)).idxOf r < gs.length, gOf (uqs (restsL xs e)) gs r = gs[(uqs (restsL xs e)).idxOf r] := fun r hr => by
    have h1 := idx_lt (uqs_mem.mpr hr)
    have h2 : (uqs (restsL xs e)).idxOf r < gs.length := by omega
    refine ⟨h2, ?_⟩
    unfold gOf
    rw [List.getElem?_eq_getElem h2]
    rfl
  refine ⟨fun r hr => ?_, fun r hr => ?_, fun r hr s hs' lt => ?_⟩
  · obtain ⟨h, q⟩ := at_ r hr
    rw [q]
    exact (hb _ (List.getElem_mem h)).1
  · obtain ⟨h, q⟩ := at_ r hr
    have := (hb _ (List.getElem_mem h)).2
    rw [q]
    omega
  · obtain ⟨h, q⟩ := at_ r hr
    obtain ⟨h', q'⟩ := at_ s hs'
    rw [q, q']
    exact List.pairwise_iff_getElem.mp hs _ _ h h' (idx_mono (uqs_lt _) (uqs_mem.mpr hr) (uqs_mem.mpr hs') lt)
def spWider : Sp := fun vs H Q _ => ∃ (p R : Addr) (xs : List Int) (e n : Int), vs = [.ref p, .ref R, .int e] ∧ Src H p n ∧ n < 500000 ∧ R ≠ p ∧ H R = some (.lst (xs.map V.int)) ∧ xs.length ≤ 12 ∧ 1 ≤ e ∧ e ≤ 1000000 ∧
  ∀ (t l : Addr) (g : Int → Int) (w : Int) (H' : Hp), Wider xs e g w → 1 ≤ w → w ≤ 45 → But p H H' → H t = none → H l = none → H' t = some (.lst [.ref l, .int w]) → H' l = some (.lst ((xs.map fun x => x / e * w + g (x % e)).map V.int)) → Src H' p (n + 50) → Q (.ref t) H'
theorem ok_law_wider (T : Txt w K mg) : FnOk P w K mg base CX0 3 T.f_law_wider T.d_law_wider ["_law_source_here", "_law_row_here", "_law_tolerance_here"] spWider := by
  refine T.F_law_wider.ok sc_law_wider (fun vs H Q E h => ?_) (fun cdv A outer s H vs Q E hr h => ?_)
  · obtain ⟨p, R, xs, e, n, rfl, _⟩ := h
    rfl
  · obtain ⟨p, R, xs, e, n, rfl, S, hn, Rp, dR, hl, e1, e2, k⟩ := h
    refine ⟨_, (pss_cons (ps_set (i := 3) sc_law_wider.nd rfl (Or.inl rfl) (pe_call (ok_law_unlike T) (hr.mono (by decide)) (by rfl) T.m_law_unlike T.F_law_unlike.kp T.b_law_unlike .nil pass0 (pa_cons (pe_lc (own := [("_law_x", 8)]) (by rfl) sc_law_wider.nd (pi_list (pv 1)) (blkOk_by (own := [("_law_x", 8)]) (N := ["_law_source_here", "_law_row_here", "_law_tolerance_here", "_law_rests", "_law_others", "_law_at", "_law_rest", "_law_wide", "_law_x"]) (sc := defScope s_law_wider) (by decide +kernel)) (fun _ _ _ _ _ => (pg_name (i := 8) sc_law_wider.nd rfl (Or.inl rfl))) (fun _ _ _ _ _ => pts_nil) (fun _ _ _ _ _ => (pe_op op_mod (pv 8) (pv 2)))) pa_nil)))
      (pss_cons (ps_asg (pe_tup (pa_cons pe_dnewK (pa_cons pe_int pa_nil))) (pg_tup (by rfl) (pgs_cons (pg_name (i := 4) sc_law_wider.nd rfl (Or.inr rfl)) (pgs_cons (pg_name (i := 5) sc_law_wider.nd rfl (Or.inl rfl)) pgs_nil))))
      (pss_cons (ps_for PassesOwn.never rfl (pi_list (pv 3)) (pg_name (i := 6) sc_law_wider.nd rfl (Or.inl rfl))
      (pss_cons (ps_set (i := 5) sc_law_wider.nd rfl (Or.inl rfl) (pe_op op_add (pe_op op_add (pv 5) pe_int) (pe_call (ok_law_draw T) (hr.mono (by decide)) (by rfl) T.m_law_draw T.F_law_draw.kp T.b_law_draw .nil pass0 (pa_cons (pv 0) (pa_cons pe_int pa_nil)))))
      (pss_one (ps_dput (hu_of hr) (pv 4) (pv 6) (pv 5) rfl))))
      (pss_cons (ps_set (i := 7) sc_law_wider.nd rfl (Or.inr rfl) (pe_op op_add (pe_op op_add (pv 5) pe_int) (pe_call (ok_law_draw T) (hr.mono (by decide)) (by rfl) T.m_law_draw T.F_law_draw.kp T.b_law_draw .nil pass0 (pa_cons (pv 0) (pa_cons pe_int pa_nil)))))
      (pss_one (ps_ret (pe_lst (pa_cons (pe_lc (own := [("_law_x", 8)]) (by rfl) sc_law_wider.nd (pi_list (pv 1)) (blkOk_by (own := [("_law_x", 8)]) (N := ["_law_source_here", "_law_row_here", "_law_tolerance_here", "_law_rests", "_law_others", "_law_at", "_law_rest", "_law_wide", "_law_x"]) (sc := defScope s_law_wider) (by decide +kernel)) (fun _ _ _ _ _ => (pg_name (i := 8) sc_law_wider.nd rfl (Or.inl rfl))) (fun _ _ _ _ _ => pts_nil) (fun _ _ _ _ _ => (pe_op op_add (pe_op op_mul (pe_op op_fdivW (pv 8) (pv 2)) (pv 7)) (pe_dget (hu_of hr) (pv 4) (pe_op op_mod (pv 8) (pv 2)) (fun _ _ => rfl))))) (pa_cons (pv 7) pa_nil))))))))), ?_⟩
    walk_at "rd"
    refine ⟨⟨_, SqL.of dR⟩, fun D hD => ?_⟩
    refine lc_list (K := K) (a := R) (xs := xs.map V.int) (fun i H' => Same H H' ∧ H' D = some (.lst (((xs.take i).map fun x => x % e).map V.int))) ⟨Same.new hD, upd_same⟩ (fun i H' _ z => SqL.of (z.1 _ _ dR)) ?_ ?_
    · rintro i x H6 hx ⟨s6, d6⟩
      obtain ⟨z, rfl, hz⟩ := int_at hx
      refine ⟨rfl, ?_⟩
      walk_at "rd"
      refine ⟨by omega, ?_⟩
      refine ⟨_, d6, ?_, fun b o q => ?_, ?_⟩
      · rw [List.length_map, List.length_map, List.length_take]
        exact Nat.lt_of_le_of_lt (by omega : _ ≤ 60) (by decide)
      · rw [upd_ne (fun q2 => by rw [q2, hD] at q; cases q)]
        exact s6 b o q
      · rw [upd_same, take_more hz, List.map_append, List.map_append]
        rfl
    rintro H1 ⟨s1, d1⟩
    rw [List.length_map, List.take_length] at d1
    walk_at "rd"
    refine ⟨D, restsL xs e, rfl, d1, by unfold restsL; rw [List.length_map]; omega, fun U H2 s2 hU dU => ?_⟩
    have s02 := s1.trans s2
    have S2 := S.same s02
    have dR2 := s02 _ _ dR
    have Up : U ≠ p := (S.same s1).ne hU
    clear s1 s2 d1 hD hU
    have ul : (uqs (restsL xs e)).length ≤ 12 := Nat.le_trans (many_le xs e) hl
    have nd := uqs_nd (restsL xs e)
    walk_at "rd"
    refine fun O hO => ?_
    generalize hH : upd _ O _ = H3
    obtain ⟨s3, dO⟩ := new_of (o' := .dK (otD ((uqs (restsL xs e)).take 0) [])) hH hO rfl
    clear hH
    have Op : O ≠ p := S2.ne hO
    have UO : U ≠ O := ne_of_none dU hO
    have RO : R ≠ O := ne_of_none dR2 hO
    have hO0 : H O = none := s02.free hO
    refine ⟨by show 2 ≤ sizeLine; decide, fun t0 ht0 => ?_⟩
    generalize hH : upd _ t0 _ = H4
    obtain ⟨s4, d4⟩ := new_of (o' := .tup [.ref O, .int 0]) hH ht0 rfl
    clear hH
    have s34 := s3.trans s4
    have s04 := s02.trans s34
    have S4 := S2.same s34
    have dU4 := s34 _ _ dU
    have dR4 := s34 _ _ dR2
    have dO4 := s4 _ _ dO
    clear s3 dO S2 dU dR2 hO ht0
    refine ⟨_, _, rfl, SqT.of d4, rfl, ?_⟩
    clear d4 s4 s34
    walk_at "rd"
    refine ⟨⟨_, SqL.of dU4⟩, for_list (K := K) (a := U) (xs := (uqs (restsL xs e)).map V.int) (fun i σ H' => ∃ (gs : List Int) (at' : Int) (v6 : Option V), σ = [some (.ref p), some (.ref R), some (.int e), some (.ref U), some (.ref O), some (.int at'), v6, none, none] ∧ gs.length = i ∧ gs.Pairwise (· < ·) ∧ (∀ g ∈ gs, 0 ≤ g ∧ g ≤ at') ∧ 0 ≤ at' ∧ at' ≤ 3 * (i : Int) ∧
        H' O = some (.dK (otD ((uqs (restsL xs e)).take i) gs)) ∧ H' U = some (.lst ((uqs (restsL xs e)).map V.int)) ∧ H' R = some (.lst (xs.map V.int)) ∧ But p H H' ∧ Src H' p (n + (i : Int)))
      ⟨[], 0, none, rfl, rfl, List.Pairwise.nil, (fun g hg => nomatch hg), by omega, by omega, dO4, dU4, dR4, Same.but s04, S4.le (by omega)⟩ (fun i σ H' _ ⟨_, _, _, _, _, _, _, _, _, _, z, _⟩ => SqL.of z) ?_ ?_⟩
    · clear dU4 dR4 dO4 S4 s04 s02
      rintro i x σ H5 hx ⟨gs, at', v6, rfl, hg, hs, hb, a0, a1, dO, dU, dR5, u5, S5⟩
      obtain ⟨z, rfl, hz⟩ := int_at hx
      have hi : i < 12 := by
        have := (List.getElem?_eq_some_iff.mp hz).1
        omega
      walk_at "rd"
      refine ⟨p, 3, _, rfl, S5, by omega, by decide, by decide, fun d H6 d0 d2 u6 S6 => ?_⟩
      have dO6 := u6 _ _ Op dO
      walk_at "rd"
      refine ⟨_, _, rfl, DPut.k (k := Sum.inl z) dO6 (by unfold otD; rw [List.length_map, List.length_zip]; exact Nat.lt_of_le_of_lt (by omega : _ ≤ 12) (by decide)), ?_⟩
      generalize hH : upd _ O _ = H7
      obtain ⟨u7, d7⟩ := chg_of (o' := .dK (otD ((uqs (restsL xs e)).take (i + 1)) (gs ++ [at' + 1 + d]))) hH (by rw [otD_put nd hz hg])
      clear hH
      refine ⟨gs ++ [at' + 1 + d], _, _, rfl, by rw [List.length_append, hg]; rfl, ?_, ?_, by omega, by omega, d7, u7 _ _ UO (u6 _ _ Up dU), u7 _ _ RO (u6 _ _ Rp dR5), fun b o nb q => u7 _ _ (ne_of_none q hO0) (u6 _ _ nb (u5 _ _ nb q)), (S6.but u7 Op.symm).le (by omega)⟩
      · refine List.pairwise_append.mpr ⟨hs, List.pairwise_singleton _ _, fun a ha b hb' => ?_⟩
        rw [List.mem_singleton.mp hb']
        have := hb a ha
        omega
      · intro g hg'
        rcases List.mem_append.mp hg' with q | q
        · have := hb g q
          omega
        · rw [List.mem_singleton.mp q]
          omega
    · clear dU4 dR4 dO4 S4 s04 s02
      rintro σ H5 ⟨gs, at', v6, rfl, hg, hs, hb, a0, a1, dO, dU, dR5, u5, S5⟩
      rw [List.length_map] at hg a1 S5 dO
      rw [List.take_length] at dO
      walk_at "rd"
      refine ⟨p, 3, _, rfl, S5, by omega, by decide, by decide, fun d H6 d0 d2 u6 S6 => ?_⟩
      have dO6 := u6 _ _ Op dO
      have dR6 := u6 _ _ Rp dR5
      have wd := otD_wider (xs := xs) (e := e) (at' := at') (d := d) hg hs hb d0
      have u06 := u5.trans u6
      clear u5 u6 dO dU dR5 S5
      walk_at "rd"
      refine ⟨⟨_, SqL.of dR6⟩, fun L hL => ?_⟩
      have Lp := S6.ne hL
      refine lc_list (K := K) (a := R) (xs := xs.map V.int) (fun i H' => Same H6 H' ∧ H' L = some (.lst (((xs.take i).map fun x => x / e * (at' + 1 + d) + gOf (uqs (restsL xs e)) gs (x % e)).map V.int))) ⟨Same.new hL, upd_same⟩ (fun i H' _ z => SqL.of (z.1 _ _ dR6)) ?_ ?_
      · rintro i x H7 hx ⟨s7, d7⟩
        obtain ⟨z, rfl, hz⟩ := int_at hx
        refine ⟨rfl, ?_⟩
        walk_at "rd"
        refine ⟨wide_div (b := 64) (by omega) (by omega) (by decide) (by decide), ?_⟩
        walk_at "rd"
        refine ⟨Or.inr ⟨by omega, by omega⟩, ?_⟩
        walk_at "rd"
        refine ⟨by omega, ?_⟩
        refine ⟨O, V.int (gOf (uqs (restsL xs e)) gs (z % e)), rfl, ?_, ?_⟩
        · have q := DGet.k (k := Sum.inl (z % e)) (s7 _ _ dO6)
          rw [otD_val nd hg.symm (rests_mem (List.mem_of_getElem? hz))] at q
          exact q
        walk_at "rd"
        refine ⟨_, d7, ?_, fun b o q => ?_, ?_⟩
        · rw [List.length_map, List.length_map, List.length_take]
          exact Nat.lt_of_le_of_lt (by omega : _ ≤ 60) (by decide)
        · rw [upd_ne (fun q2 => by rw [q2, hL] at q; cases q)]
          exact s7 b o q
        · rw [upd_same, take_more hz, List.map_append, List.map_append]
          rfl
      rintro H7 ⟨s7, d7⟩
      rw [List.length_map, List.take_length] at d7
      walk_at "rd"
      refine ⟨by show 2 ≤ sizeLine; decide, fun t ht => ?_⟩
      have tp := (S6.same s7).ne ht
      generalize hH : upd _ t _ = H8
      obtain ⟨s8, d8⟩ := new_of (o' := .lst [.ref L, .int (at' + 1 + d)]) hH ht rfl
      clear hH
      exact k t L _ _ H8 wd (by omega) (by omega) ((u06.trans (Same.but s7)).trans (Same.but s8)) (but_free u06 tp (s7.free ht)) (but_free u06 Lp hL) d8 (s8 _ _ d7) (((S6.same s7).same s8).le (by omega))
--SPLIT
/-! ### k20 -/
def qd (ws : List Str) (bs : List Bool) (st an : Str) : PyData := .list [.tuple (ws.map PyData.str), .tuple (bs.map PyData.bool), .str st, .str an]
theorem qd_lay {ws : List Str} {bs : List Bool} {st an : Str} (h : ∀ z ∈ ws, PyData.strOk z = true) (h1 : PyData.strOk st = true) (h2 : PyData.strOk an = true) : (qd ws bs st an).canLay0 = true := by
  unfold qd
  simp only [PyData.canLay0, PyData.canLayAll0]
  rw [lay_all ws (lay_str h), lay_all bs (lay_bl bs), h1, h2]
  rfl
theorem qd_sh {ws : List Str} {bs : List Bool} {st an : Str} (h : ∀ z ∈ ws, PyData.strOk z = true) (h1 : PyData.strOk st = true) (h2 : PyData.strOk an = true) : SeqAt.shaped (qd ws bs st an) = true :=
  shaped_of (qd_lay h h1 h2) (by
    have a := at_str.deep ws
    have b := at_bl.deep bs
    unfold qd
    simp only [PyData.depth, PyData.depthAll]
    omega)
def PairAt (H : Hp) (ys : List Int) (e : Int) (v : V) : Prop := ∃ (t l : Addr) (φ : Int → Int) (f : Int), v = .ref t ∧ LT H t [.ref l, .int f] ∧ H l = some (.lst ((ys.map φ).map V.int)) ∧ Fit ys e φ f
theorem PairAt.same {H H' : Hp} {ys : List Int} {e : Int} {v : V} (h : PairAt H ys e v) (s : Same H H') : PairAt H' ys e v := by
  obtain ⟨t, l, φ, f, h1, h2, h3, h4⟩ := h
  exact ⟨t, l, φ, f, h1, h2.same s, s _ _ h3, h4⟩
theorem fit_shift {ys : List Int} {e s : Int} (e1 : 1 ≤ e) (e2 : e ≤ 1000000) (s1 : -4 ≤ s) (s2 : s ≤ 4) (hb : ∀ x ∈ ys, -20000000000000000000000000000 < x ∧ x < 20000000000000000000000000000) : Fit ys e (fun x => x + s * e) e where
  f1 := e1
  f2 := by unfold big; omega
  bd := fun x hx => by
    have b := hb x hx
    have q1 : s * e ≤ 4 * e := Int.mul_le_mul_of_nonneg_right s2 (by omega)
    have q2 : -4 * e ≤ s * e := Int.mul_le_mul_of_nonneg_right s1 (by omega)
    show -big < x + s * e ∧ x + s * e < big
    unfold big
    omega
  hom := fun x _ k _ => plc_shift x k s e1
theorem fit_scale {ys : List Int} {e t : Int} (e1 : 1 ≤ e) (e2 : e ≤ 1000000) (t1 : 2 ≤ t) (t2 : t ≤ 5) (hb : ∀ x ∈ ys, -20000000000000000000000000000 < x ∧ x < 20000000000000000000000000000) : Fit ys e (fun x => x * t) (e * t) where
  f1 := by
    have q : e * 2 ≤ e * t := Int.mul_le_mul_of_nonneg_left t1 (by omega)
    omega
  f2 := by
    have q : e * t ≤ e * 5 := Int.mul_le_mul_of_nonneg_left t2 (by omega)
    unfold big
    omega
  bd := fun x hx => by
    have b := hb x hx
    show -big < x * t ∧ x * t < big
    rcases (by omega : t = 2 ∨ t = 3 ∨ t = 4 ∨ t = 5) with h | h | h | h <;> subst h <;> unfold big <;> omega
  hom := fun x _ k _ => plc_scale x k e (by omega)
theorem ok_law (T : Txt w K mg) : FnOk P w K mg base CX0 9 T.f_law T.d_law ["_law_script"] (spLaw K) := by
  refine T.F_law.ok sc_law (fun vs H Q E h => ?_) (fun cdv A outer s H vs Q E hr h => ?_)
  · obtain ⟨a, ns, rfl, _⟩ := h
    rfl
  · obtain ⟨a, ns, rfl, hS, hlen, k⟩ := h
    refine ⟨_, (pss_cons (ps_set (i := 1) sc_law.nd rfl (Or.inl rfl) (pe_call (ok_law_source T) (hr.mono (by decide)) (by rfl) T.m_law_source T.F_law_source.kp T.b_law_source .nil pass0 (pa_cons (pv 0) pa_nil)))
      (pss_cons (ps_set (i := 2) sc_law.nd rfl (Or.inl rfl) (pe_call (ok_law_rules T) (hr.mono (by decide)) (by rfl) T.m_law_rules T.F_law_rules.kp T.b_law_rules .nil pass0 (pa_cons (pv 1) (pa_cons pe_int (pa_cons pe_int pa_nil)))))
      (pss_cons (ps_set (i := 3) sc_law.nd rfl (Or.inl rfl) (pe_make T.mk_Loop (ok_Loop__init T) (hr.mono (by decide)) (by rfl) T.m_Loop T.b_Loop__init .nil pass0 (pa_cons (pv 2) (pa_cons (pe_call (ok_law_answers T) (hr.mono (by decide)) (by rfl) T.m_law_answers T.F_law_answers.kp T.b_law_answers .nil pass0 (pa_cons (pv 1) (pa_cons (pv 2) pa_nil))) pa_nil))))
      (pss_cons (ps_set (i := 4) sc_law.nd rfl (Or.inr rfl) (pe_call (ok_law_tolerance T) (hr.mono (by decide)) (by rfl) T.m_law_tolerance T.F_law_tolerance.kp T.b_law_tolerance .nil pass0 (pa_cons (pv 1) pa_nil)))
      (C8.pss_cut (ps_set (i := 5) sc_law.nd rfl (Or.inl rfl) (pe_call (ok_law_row T) (hr.mono (by decide)) (by rfl) T.m_law_row T.F_law_row.kp T.b_law_row .nil pass0 (pa_cons (pv 1) (pa_cons pe_int (pa_cons (pv 4) pa_nil)))))
      (C8.pss_cut (ps_asg (pe_tup (pa_cons (pe_op op_add pe_int (pe_call (ok_law_draw T) (hr.mono (by decide)) (by rfl) T.m_law_draw T.F_law_draw.kp T.b_law_draw .nil pass0 (pa_cons (pv 1) (pa_cons pe_int pa_nil)))) (pa_cons (pe_op op_sub (pe_call (ok_law_draw T) (hr.mono (by decide)) (by rfl) T.m_law_draw T.F_law_draw.kp T.b_law_draw .nil pass0 (pa_cons (pv 1) (pa_cons pe_int pa_nil))) pe_int) pa_nil))) (pg_seqU (by rfl) (pgs_cons (pg_name (i := 6) sc_law.nd rfl (Or.inr rfl)) (pgs_cons (pg_name (i := 7) sc_law.nd rfl (Or.inr rfl)) pgs_nil))))
      (C8.pss_cut (ps_set (i := 8) sc_law.nd rfl (Or.inl rfl) (pe_lst (pa_cons (pe_lst (pa_cons (pe_lc (own := [("_law_x", 13)]) (by rfl) sc_law.nd (pi_list (pv 5)) (blkOk_by (own := [("_law_x", 13)]) (N := ["_law_script", "_law_source_here", "_law_rules_here", "_law_loop", "_law_tolerance_here", "_law_row_here", "_law_times", "_law_shift", "_law_pairs", "_law_due", "_law_other", "_law_width", "_law_told", "_law_x", "_law_keep"]) (sc := defScope s_law) (by decide +kernel)) (fun _ _ _ _ _ => (pg_name (i := 13) sc_law.nd rfl (Or.inl rfl))) (fun _ _ _ _ _ => pts_nil) (fun _ _ _ _ _ => (pe_op op_add (pv 13) (pe_op op_mul (pv 7) (pv 4))))) (pa_cons (pv 4) pa_nil))) (pa_cons (pe_lst (pa_cons (pe_lc (own := [("_law_x", 13)]) (by rfl) sc_law.nd (pi_list (pv 5)) (blkOk_by (own := [("_law_x", 13)]) (N := ["_law_script", "_law_source_here", "_law_rules_here", "_law_loop", "_law_tolerance_here", "_law_row_here", "_law_times", "_law_shift", "_law_pairs", "_law_due", "_law_other", "_law_width", "_law_told", "_law_x", "_law_keep"]) (sc := defScope s_law) (by decide +kernel)) (fun _ _ _ _ _ => (pg_name (i := 13) sc_law.nd rfl (Or.inl rfl))) (fun _ _ _ _ _ => pts_nil) (fun _ _ _ _ _ => (pe_op op_mul (pv 13) (pv 6)))) (pa_cons (pe_op op_mul (pv 4) (pv 6)) pa_nil))) pa_nil))))
      (C8.pss_cut (ps_set (i := 8) sc_law.nd rfl (Or.inl rfl) (pe_op op_cat (pv 8) (pe_lst (pa_cons (pe_call (ok_law_wider T) (hr.mono (by decide)) (by rfl) T.m_law_wider T.F_law_wider.kp T.b_law_wider .nil pass0 (pa_cons (pv 1) (pa_cons (pv 5) (pa_cons (pv 4) pa_nil)))) (pa_cons (pe_call (ok_ranked T) (hr.mono (by decide)) (by rfl) T.m_ranked T.F_ranked.kp T.b_ranked .nil pass0 (pa_cons (pv 5) (pa_cons (pv 4) pa_nil))) pa_nil)))))
      (C8.pss_cut (ps_set (i := 9) sc_law.nd rfl (Or.inl rfl) (pe_call (ok_run T) (hr.mono (by decide)) (by rfl) T.m_run T.F_run.kp T.b_run .nil pass0 (pa_cons (pv 3) (pa_cons (pv 5) (pa_cons (pv 4) pa_nil)))))
      (pss_cons (ps_for PassesOwn.never rfl (pi_list (pv 8)) (pg_seqU (by rfl) (pgs_cons (pg_name (i := 10) sc_law.nd rfl (Or.inl rfl)) (pgs_cons (pg_name (i := 11) sc_law.nd rfl (Or.inl rfl)) pgs_nil)))
      (pss_cons (ps_set (i := 12) sc_law.nd rfl (Or.inl rfl) (pe_call (ok_run T) (hr.mono (by decide)) (by rfl) T.m_run T.F_run.kp T.b_run .nil pass0 (pa_cons (pv 3) (pa_cons (pv 10) (pa_cons (pv 11) pa_nil)))))
      (pss_cons (ps_if (pt_cmpR (op_neD hr.units) (pe_lst (pa_cons (pe_fld (pv 12) rfl) (pa_cons (pe_fld (pv 12) rfl) (pa_cons (pe_fld (pv 12) rfl) (pa_cons (pe_fld (pv 12) rfl) pa_nil))))) (pe_lst (pa_cons (pe_fld (pv 9) rfl) (pa_cons (pe_fld (pv 9) rfl) (pa_cons (pe_fld (pv 9) rfl) (pa_cons (pe_fld (pv 9) rfl) pa_nil))))) (nomark _))
      (pss_one (ps_ret pe_bl))
      pss_nil)
      (pss_one (ps_if (pt_cmpR (op_neD hr.units) (pe_callTy call_list_of (by rfl) T.m_list (by decide +kernel) (pa_cons (pe_fld (pv 12) rfl) pa_nil)) (pe_lc (own := [("_law_x", 13), ("_law_keep", 14)]) (by rfl) sc_law.nd (pi_zipZ (by rfl) T.m_zip (pa_cons (pv 10) (pa_cons (pe_fld (pv 9) rfl) pa_nil))) (blkOk_by (own := [("_law_x", 13), ("_law_keep", 14)]) (N := ["_law_script", "_law_source_here", "_law_rules_here", "_law_loop", "_law_tolerance_here", "_law_row_here", "_law_times", "_law_shift", "_law_pairs", "_law_due", "_law_other", "_law_width", "_law_told", "_law_x", "_law_keep"]) (sc := defScope s_law) (by decide +kernel)) (fun _ _ _ _ _ => (show PG _ _ (gTup K 2 _) from (pg_tup (by rfl) (pgs_cons (pg_name (i := 13) sc_law.nd rfl (Or.inl rfl)) (pgs_cons (pg_name (i := 14) sc_law.nd rfl (Or.inl rfl)) pgs_nil))))) (fun _ _ _ _ _ => (pts_one (pt_val (pv 14)))) (fun _ _ _ _ _ => (pv 13))) (nomark _))
      (pss_one (ps_ret pe_bl))
      pss_nil)))))
      (pss_one (ps_ret pe_bl)))))))))))), ?_⟩
    walk_at "rd"
    refine ⟨a, ns, rfl, hS, fun p H1 hp s1 S1 => ?_⟩
    walk_at "rd"
    refine ⟨p, 5, 9, 0, rfl, S1, by decide, by decide, by decide, by decide, by decide, fun l xs zs r0 rs H2 hok hzs hrs hat hl0 hl u2 S2 => ?_⟩
    have lp : l ≠ p := S1.ne hl0
    have rv := hok.v (by omega) (by omega)
    have stn := hok.stn
    have hw : ∀ q ∈ r0 :: rs, PyData.strOk q.wd = true := fun q hq => (rv.all q hq).wd.ok
    have sle := rv.sts
    have e0 : (r0 :: rs).length ≤ 40 := rv.len
    clear hok hzs hrs hlen hS
    walk_at "rd"
    refine ⟨H1, p, l, xs, r0 :: rs, _, rfl, S2, by omega, SqL.of hl, hat, by omega, sle, fun d as H3 am hd d3 u3 S3 => ?_⟩
    have hl3 := u3 _ _ lp hl
    have hat3 := rules_src hat S2 u3
    have anv := am.v sle
    have anok := am.ok
    clear am hd
    refine fun q dq hq hdq ne => ?_
    generalize hH : upd (upd H3 dq _) q _ = H4
    obtain ⟨s4, dQ⟩ : Same H3 H4 ∧ H4 q = some (.ins T.C_Loop dq []) := by
      subst hH
      exact ⟨(Same.new hdq).trans (Same.new (by rw [upd_ne ne.symm]; exact hq)), upd_same⟩
    clear hH
    refine ⟨q, dq, true, l, .ref d, xs, r0 :: rs, as, rfl, dQ, SqL.of (s4 _ _ hl3), paired_map (fun _ _ z => (z.same s4).ruleIn) hat3, rv, .inr ⟨d, rfl, s4 _ _ d3⟩, anv, fun H5 u5 L5 => ⟨rfl, ?_⟩⟩
    have s5 : Same H3 H5 := same_but s4 u5 hq
    have S5 := S3.same s5
    clear s5 u5 dQ s4 ne hdq hq hat3 hl3 u3 d3 S3 S2 u2 hl hat hl0 S1
    walk_at "rd"
    refine ⟨p, _, rfl, S5, by omega, fun e H6 e1 e2 u6 S6 => ?_⟩
    obtain ⟨y5, hy5⟩ := S5.at
    have L6 := L5.but hy5 u6
    have ebig : e < big := by unfold big; omega
    clear L5 S5 hy5 u6
    refine ⟨fun σ H' => ∃ (R : Addr) (ys : List Int), σ = [some (.ref a), some (.ref p), some (.ref l), some (.ref q), some (.int e), some (.ref R), none, none, none, none, none, none, none, none, none] ∧ ys.length ≤ 10 ∧ (∀ x ∈ ys, -20000000000000000000000000000 < x ∧ x < 20000000000000000000000000000) ∧ R ≠ p ∧ H' R = some (.lst (ys.map V.int)) ∧ LoopAt T.C_Loop H' q (r0 :: rs) as ∧ Src H' p 30000, ?_, ?_⟩
    · walk_at "rd"
      refine ⟨p, 10, e, _, rfl, S6, by omega, by decide, e1, e2, fun R ys H7 hyl hyb hR0 dR u7 S7 => ?_⟩
      obtain ⟨y6, hy6⟩ := S6.at
      exact ⟨R, ys, rfl, hyl, hyb, S6.ne hR0, dR, L6.but hy6 u7, S7.le (by omega)⟩
    clear L6 S6
    rintro σ H7 ⟨R, ys, rfl, hyl, hyb, Rp, dR, L7, S7⟩
    have yb : ∀ x ∈ ys, -big < x ∧ x < big := fun x hx => by
      have := hyb x hx
      unfold big
      omega
    refine ⟨fun σ H' => ∃ t s : Int, σ = [some (.ref a), some (.ref p), some (.ref l), some (.ref q), some (.int e), some (.ref R), some (.int t), some (.int s), none, none, none, none, none, none, none] ∧ 2 ≤ t ∧ t ≤ 5 ∧ -4 ≤ s ∧ s ≤ 4 ∧ H' R = some (.lst (ys.map V.int)) ∧ LoopAt T.C_Loop H' q (r0 :: rs) as ∧ Src H' p 30100, ?_, ?_⟩
    · walk_at "rd"
      refine ⟨p, 4, _, rfl, S7, by omega, by decide, by decide, fun g H8 a8 b8 u8 S8 => ?_⟩
      obtain ⟨y7, hy7⟩ := S7.at
      have L8 := L7.but hy7 u8
      have R8 := u8 _ _ Rp dR
      walk_at "rd"
      refine ⟨p, 9, _, rfl, S8, by omega, by decide, by decide, fun g2 H9 a9 b9 u9 S9 => ?_⟩
      obtain ⟨y8, hy8⟩ := S8.at
      have L9 := L8.but hy8 u9
      have R9 := u9 _ _ Rp R8
      walk_at "rd"
      refine ⟨by show 2 ≤ sizeLine; decide, fun t0 ht0 => ?_⟩
      generalize hH : upd _ t0 _ = H10
      obtain ⟨s10, d10⟩ := new_of (o' := .tup [.int (2 + g), .int (g2 - 4)]) hH ht0 rfl
      clear hH
      refine Or.inl ⟨_, _, rfl, SqT.of d10, rfl, ?_⟩
      walk_at "rd"
      exact ⟨by omega, by omega, by omega, by omega, s10 _ _ R9, L9.same s10, (S9.same s10).le (by omega)⟩
    clear L7 S7 dR
    rintro σ H8 ⟨t, s, rfl, t1, t2, s1', s2', dR, L8, S8⟩
    refine ⟨fun σ H' => ∃ PP v1 v2, σ = [some (.ref a), some (.ref p), some (.ref l), some (.ref q), some (.int e), some (.ref R), some (.int t), some (.int s), some (.ref PP), none, none, none, none, none, none] ∧ PP ≠ p ∧ H' PP = some (.lst [v1, v2]) ∧ (∀ H'', But p H' H'' → PairAt H'' ys e v1 ∧ PairAt H'' ys e v2) ∧ H' R = some (.lst (ys.map V.int)) ∧ LoopAt T.C_Loop H' q (r0 :: rs) as ∧ Src H' p 30100, ?_, ?_⟩
    · walk_at "rd"
      refine ⟨⟨_, SqL.of dR⟩, fun c1 hc1 => ?_⟩
      have c1p := S8.ne hc1
      refine lc_list (K := K) (a := R) (xs := ys.map V.int) (fun i H' => Same H8 H' ∧ H' c1 = some (.lst (((ys.take i).map fun x => x + s * e).map V.int))) ⟨Same.new hc1, upd_same⟩ (fun i H' _ z => SqL.of (z.1 _ _ dR)) ?_ ?_
      · rintro i x H6 hx ⟨s6, d6⟩
        obtain ⟨z, rfl, hz⟩ := int_at hx
        refine ⟨rfl, ?_⟩
        walk_at "rd"
        refine ⟨Or.inl ⟨by omega, by omega⟩, ?_⟩
        walk_at "rd"
        refine ⟨_, d6, ?_, fun b o q => ?_, ?_⟩
        · rw [List.length_map, List.length_map, List.length_take]
          exact Nat.lt_of_le_of_lt (by omega : _ ≤ 60) (by decide)
        · rw [upd_ne (fun q2 => by rw [q2, hc1] at q; cases q)]
          exact s6 b o q
        · rw [upd_same, take_more hz, List.map_append, List.map_append]
          rfl
      rintro H9 ⟨s9, d9⟩
      rw [List.length_map, List.take_length] at d9
      walk_at "rd"
      refine ⟨by show 2 ≤ sizeLine; decide, fun p1 hp1 => ?_⟩
      have p1p := (S8.same s9).ne hp1
      generalize hH : upd _ p1 _ = H10
      obtain ⟨s10, d10⟩ := new_of (o' := .lst [.ref c1, .int e]) hH hp1 rfl
      clear hH
      have sA := s9.trans s10
      have R10 := sA _ _ dR
      walk_at "rd"
      refine ⟨⟨_, SqL.of R10⟩, fun c2 hc2 => ?_⟩
      have c2p := (S8.same sA).ne hc2
      refine lc_list (K := K) (a := R) (xs := ys.map V.int) (fun i H' => Same H10 H' ∧ H' c2 = some (.lst (((ys.take i).map fun x => x * t).map V.int))) ⟨Same.new hc2, upd_same⟩ (fun i H' _ z => SqL.of (z.1 _ _ R10)) ?_ ?_
      · rintro i x H6 hx ⟨s6, d6⟩
        obtain ⟨z, rfl, hz⟩ := int_at hx
        refine ⟨rfl, ?_⟩
        walk_at "rd"
        refine ⟨Or.inr ⟨by omega, by omega⟩, ?_⟩
        walk_at "rd"
        refine ⟨_, d6, ?_, fun b o q => ?_, ?_⟩
        · rw [List.length_map, List.length_map, List.length_take]
          exact Nat.lt_of_le_of_lt (by omega : _ ≤ 60) (by decide)
        · rw [upd_ne (fun q2 => by rw [q2, hc2] at q; cases q)]
          exact s6 b o q
        · rw [upd_same, take_more hz, List.map_append, List.map_append]
          rfl
      rintro H11 ⟨s11, d11⟩
      rw [List.length_map, List.take_length] at d11
      walk_at "rd"
      refine ⟨Or.inr ⟨by omega, by omega⟩, ?_⟩
      refine ⟨by show 2 ≤ sizeLine; decide, fun p2 hp2 => ?_⟩
      have sB := sA.trans s11
      have p2p := (S8.same sB).ne hp2
      generalize hH : upd _ p2 _ = H12
      obtain ⟨s12, d12⟩ := new_of (o' := .lst [.ref c2, .int (e * t)]) hH hp2 rfl
      clear hH
      refine ⟨by show 2 ≤ sizeLine; decide, fun PP hPP => ?_⟩
      have sC := sB.trans s12
      have PPp := (S8.same sC).ne hPP
      generalize hH : upd _ PP _ = H13
      obtain ⟨s13, d13⟩ := new_of (o' := .lst [.ref p1, .ref p2]) hH hPP rfl
      clear hH
      have sD := sC.trans s13
      have z1 := s13 _ _ (s12 _ _ (s11 _ _ d10))
      have z2 := s13 _ _ (s12 _ _ (s11 _ _ (s10 _ _ d9)))
      have z3 := s13 _ _ d12
      have z4 := s13 _ _ (s12 _ _ d11)
      exact ⟨PP, _, _, rfl, PPp, d13, fun H'' u => ⟨⟨p1, c1, _, _, rfl, .inl (u _ _ p1p z1), u _ _ c1p z2, fit_shift e1 e2 s1' s2' hyb⟩, ⟨p2, c2, _, _, rfl, .inl (u _ _ p2p z3), u _ _ c2p z4, fit_scale e1 e2 t1 t2 hyb⟩⟩, sD _ _ dR, L8.same sD, S8.same sD⟩
    clear dR L8 S8
    rintro σ H9 ⟨PP, v1, v2, rfl, PPp, dP, pr, dR, L9, S9⟩
    refine ⟨fun σ H' => ∃ (PQ : Addr) (vs : List V), σ = [some (.ref a), some (.ref p), some (.ref l), some (.ref q), some (.int e), some (.ref R), some (.int t), some (.int s), some (.ref PQ), none, none, none, none, none, none] ∧ H' PQ = some (.lst vs) ∧ (∀ v ∈ vs, PairAt H' ys e v) ∧ H' R = some (.lst (ys.map V.int)) ∧ LoopAt T.C_Loop H' q (r0 :: rs) as, ?_, ?_⟩
    · walk_at "rd"
      refine ⟨p, R, ys, e, _, rfl, S9, by omega, Rp, dR, by omega, e1, e2, fun t3 l3 g w H10 wd w1 w2 u10 ht3 hl3 dt3 dl3 S10 => ?_⟩
      have P10 := u10 _ _ PPp dP
      have R10 := u10 _ _ Rp dR
      obtain ⟨y9, hy9⟩ := S9.at
      have L10 := L9.but hy9 u10
      walk_at "rd"
      refine ⟨R, ys, e, rfl, .inl R10, by omega, yb, e1, by omega, fun t4 l4 H11 s11 hl4 dt4 dl4 => ?_⟩
      refine ⟨by show 2 ≤ sizeLine; decide, fun n0 hn0 => ?_⟩
      generalize hH : upd _ n0 _ = H12
      obtain ⟨s12, d12⟩ := new_of (o' := .lst [.ref t3, .ref t4]) hH hn0 rfl
      clear hH
      have sA := s11.trans s12
      refine ⟨_, _, _, _, rfl, rfl, sA _ _ P10, d12, by show 2 + 2 ≤ sizeLine; decide, fun PQ hPQ => ?_⟩
      generalize hH : upd _ PQ _ = H13
      obtain ⟨s13, d13⟩ := new_of (o' := .lst [v1, v2, .ref t3, .ref t4]) hH hPQ rfl
      clear hH
      have sB := sA.trans s13
      have wl := wide_le (e := e) (n := 10) hyl (by decide)
      have f4 := (ranked_wider (xs := ys) (e := e)).fit e1 (wide_pos ys e) (by omega) hyb
      refine ⟨PQ, _, rfl, d13, fun v hv => ?_, sB _ _ R10, L10.same sB⟩
      rcases List.mem_cons.mp hv with rfl | hv
      · exact (pr H10 u10).1.same sB
      rcases List.mem_cons.mp hv with rfl | hv
      · exact (pr H10 u10).2.same sB
      rcases List.mem_cons.mp hv with rfl | hv
      · exact ⟨t3, l3, _, w, rfl, .inl (sB _ _ dt3), sB _ _ dl3, wd.fit e1 w1 w2 hyb⟩
      · rw [List.mem_singleton.mp hv]
        exact ⟨t4, l4, _, _, rfl, .inr (s13 _ _ (s12 _ _ dt4)), s13 _ _ (s12 _ _ dl4), f4⟩
    clear dP pr dR L9 S9 PPp
    rintro σ H10 ⟨PQ, vs, rfl, dP, pr, dR, L10⟩
    refine ⟨fun σ H' => ∃ rq : Addr, σ = [some (.ref a), some (.ref p), some (.ref l), some (.ref q), some (.int e), some (.ref R), some (.int t), some (.int s), some (.ref PQ), some (.ref rq), none, none, none, none, none] ∧ H' PQ = some (.lst vs) ∧ (∀ v ∈ vs, PairAt H' ys e v) ∧ LoopAt T.C_Loop H' q (r0 :: rs) as ∧ RunAt T.C_Run H' rq ((runS (r0 :: rs) e (begS r0.st) ys).words.map V.str) ((runS (r0 :: rs) e (begS r0.st) ys).keeps.map V.bl) ((runS (r0 :: rs) e (begS r0.st) ys).kept.map V.int) (.str (runS (r0 :: rs) e (begS r0.st) ys).st) (.str (ansOf as (runS (r0 :: rs) e (begS r0.st) ys).st)), ?_, ?_⟩
    · walk_at "rd"
      refine ⟨q, R, r0, rs, as, ys, e, rfl, L10, rv, .inl dR, by omega, yb, e1, ebig, fun rq H11 s11 R11 => ?_⟩
      exact ⟨rq, rfl, s11 _ _ dP, fun v hv => (pr v hv).same s11, L10.same s11, R11⟩
    clear dP pr dR L10
    rintro σ H11 ⟨rq, rfl, dP, pr, L11, R11⟩
    have rok := RunOk.of (e := e) (xs := ys) hw (states_mem_st List.mem_cons_self : r0.st ∈ statesOf (r0 :: rs)) ys.length (Nat.le_refl _)
    rw [List.take_length] at rok
    have like : ∀ (φ : Int → Int) (f : Int), Fit ys e φ f → runS (r0 :: rs) f (begS r0.st) (ys.map φ) = mapS φ (runS (r0 :: rs) e (begS r0.st) ys) := fun φ f h => run_like r0.st h.hom
    have kk := kept_keeps (r0 :: rs) e r0.st ys
    generalize runS (r0 :: rs) e (begS r0.st) ys = RR at *
    have sto : PyData.strOk RR.st = true := (stn _ rok.st).ok
    have ano : PyData.strOk (ansOf as RR.st) = true := (anok RR.st).str
    obtain ⟨dx, ra, rb, rc, RI⟩ := id R11
    walk_at "rd"
    refine ⟨⟨_, SqL.of dP⟩, for_list (K := K) (a := PQ) (xs := vs) (fun i σ H' => ∃ v10 v11 v12 : Option V, σ = [some (.ref a), some (.ref p), some (.ref l), some (.ref q), some (.int e), some (.ref R), some (.int t), some (.int s), some (.ref PQ), some (.ref rq), v10, v11, v12, none, none] ∧ Same H11 H')
      ⟨none, none, none, rfl, Same.refl _⟩ (fun i σ H' _ ⟨_, _, _, _, z⟩ => SqL.of (z _ _ dP)) ?_ ?_⟩
    · rintro i x σ H12 hx ⟨v10, v11, v12, rfl, s12⟩
      obtain ⟨tu, L, φ, f, rfl, hT, dL, F⟩ := pr x (List.mem_of_getElem? hx)
      have L12 := L11.same s12
      have dL12 := s12 _ _ dL
      have fl : (ys.map φ).length ≤ 1000 := by rw [List.length_map]; omega
      have fb : ∀ x ∈ ys.map φ, -big < x ∧ x < big := fun x hx => by
        obtain ⟨y, hy, rfl⟩ := List.mem_map.mp hx
        exact F.bd y hy
      have ee := like φ f F
      rcases hT with h | h
      case' inl => refine Or.inr ⟨_, _, rfl, SqL.of (s12 _ _ h), rfl, ?_⟩
      case' inr => refine Or.inl ⟨_, _, rfl, SqT.of (s12 _ _ h), rfl, ?_⟩
      all_goals
        walk_at "rd"
        refine ⟨q, L, r0, rs, as, ys.map φ, f, rfl, L12, rv, .inl dL12, fl, fb, F.f1, F.f2, fun tq H13 s13 R13 => ?_⟩
        rw [ee] at R13
        obtain ⟨dy, ta, tb, tc, TI⟩ := id R13
        have s23 := s12.trans s13
        have ob := s23 _ _ RI.ob
        have TIts : H13 tc = some (.tup ((RR.kept.map φ).map V.int)) := TI.ts
        walk_at "rd"
        refine ⟨tq, _, dy, _, _, rfl, TI.ob, T.cl_Run, T.na_Run_words, rfl, ?_⟩
        walk_at "rd"
        refine ⟨tq, _, dy, _, _, rfl, TI.ob, T.cl_Run, T.na_Run_keeps, rfl, ?_⟩
        walk_at "rd"
        refine ⟨tq, _, dy, _, _, rfl, TI.ob, T.cl_Run, T.na_Run_state, rfl, ?_⟩
        walk_at "rd"
        refine ⟨tq, _, dy, _, _, rfl, TI.ob, T.cl_Run, T.na_Run_answer, rfl, ?_⟩
        refine ⟨by show 4 ≤ sizeLine; decide, fun m1 hm1 => ?_⟩
        generalize hH : upd _ m1 _ = H14
        obtain ⟨s14, d14⟩ := new_of (o' := .lst [.ref ta, .ref tb, .str RR.st, .str (ansOf as RR.st)]) hH hm1 rfl
        clear hH
        have ob14 := s14 _ _ ob
        walk_at "rd"
        refine ⟨rq, _, dx, _, _, rfl, ob14, T.cl_Run, T.na_Run_words, rfl, ?_⟩
        walk_at "rd"
        refine ⟨rq, _, dx, _, _, rfl, ob14, T.cl_Run, T.na_Run_keeps, rfl, ?_⟩
        walk_at "rd"
        refine ⟨rq, _, dx, _, _, rfl, ob14, T.cl_Run, T.na_Run_state, rfl, ?_⟩
        walk_at "rd"
        refine ⟨rq, _, dx, _, _, rfl, ob14, T.cl_Run, T.na_Run_answer, rfl, ?_⟩
        refine ⟨by show 4 ≤ sizeLine; decide, fun m2 hm2 => ?_⟩
        generalize hH : upd _ m2 _ = H15
        obtain ⟨s15, d15⟩ := new_of (o' := .lst [.ref ra, .ref rb, .str RR.st, .str (ansOf as RR.st)]) hH hm2 rfl
        clear hH
        have s35 := s14.trans s15
        have s25 := s23.trans s35
        refine ⟨qd RR.words RR.keeps RR.st (ansOf as RR.st), qd RR.words RR.keeps RR.st (ansOf as RR.st), .lst (SqL.of (s15 _ _ d14)) (.cons (.tup (SqT.of (s35 _ _ TI.ws)) (at_str.all _)) (.cons (.tup (SqT.of (s35 _ _ TI.ks)) (at_bl.all _)) (.cons (.str _) (.cons (.str _) .nil)))),
          .lst (SqL.of d15) (.cons (.tup (SqT.of (s25 _ _ RI.ws)) (at_str.all _)) (.cons (.tup (SqT.of (s25 _ _ RI.ks)) (at_bl.all _)) (.cons (.str _) (.cons (.str _) .nil)))), qd_sh rok.wok sto ano, qd_sh rok.wok sto ano, ?_⟩
        rw [SeqAt.eqv_refl _ (qd_lay rok.wok sto ano)]
        walk_at "rd"
        refine ⟨tq, _, dy, _, _, rfl, s35 _ _ TI.ob, T.cl_Run, T.na_Run_kept, rfl, ?_⟩
        refine ⟨tc, _, rfl, .inr (SqT.of (s35 _ _ TIts)), fun m3 hm3 => ?_⟩
        generalize hH : upd _ m3 _ = H16
        obtain ⟨s16, d16⟩ := new_of (o' := .lst ((RR.kept.map φ).map V.int)) hH hm3 rfl
        clear hH
        have s36 := s35.trans s16
        have s26 := s25.trans s16
        have dL16 := s36 _ _ (s13 _ _ dL12)
        have ks16 := s26 _ _ RI.ks
        walk_at "rd"
        refine ⟨rq, _, dx, _, _, rfl, s26 _ _ RI.ob, T.cl_Run, T.na_Run_keeps, rfl, ?_⟩
        refine ⟨true, false, L, rb, _, _, rfl, SqL.of dL16, SqT.of ks16, fun D hD => ?_⟩
        refine lc_it (walk_zipZ (K := K) (n := ys.length) (by rw [List.length_map, List.length_map, List.length_map, rok.nk, Nat.min_self])) (fun i H' => Same H16 H' ∧ H' D = some (.lst ((keptBy ((ys.map φ).take i) (RR.keeps.take i)).map V.int))) ⟨Same.new hD, upd_same⟩ (fun i H' _ z => ⟨SqL.of (z.1 _ _ dL16), SqT.of (z.1 _ _ ks16)⟩) ?_ ?_
        · rintro j v H17 H18 hj ⟨s17, d17⟩ ⟨u, x, y, rfl, hu, rfl, hx', hy'⟩
          obtain ⟨z, rfl, hz⟩ := int_at hx'
          obtain ⟨b, rfl, hb⟩ : ∃ b, y = V.bl b ∧ RR.keeps[j]? = some b := by
            have hy' : (RR.keeps.map V.bl)[j]? = some y := hy'
            rw [List.getElem?_map] at hy'
            cases hz : RR.keeps[j]? with
            | none => rw [hz] at hy'; cases hy'
            | some b => rw [hz] at hy'; exact ⟨b, (Option.some.inj hy').symm, rfl⟩
          have more := keptBy_more hz hb
          have uD : u ≠ D := fun q => by rw [q, d17] at hu; cases hu
          have su : Same H17 (upd H17 u (.tup [V.int z, V.bl b])) := Same.new hu
          refine ⟨_, _, rfl, SqT.of upd_same, rfl, ?_⟩
          walk_at "rd"
          cases b with
          | true =>
            walk_at "rd"
            refine ⟨_, by rw [upd_ne uD.symm]; exact d17, ?_, fun b o q => ?_, ?_⟩
            · have := keptBy_len ((ys.map φ).take j) (RR.keeps.take j)
              rw [List.length_take, List.length_map] at this
              rw [List.length_map]
              exact Nat.lt_of_le_of_lt (by omega : _ ≤ 60) (by decide)
            · have q2 := s17 b o q
              rw [upd_ne (fun q3 => by rw [q3, hD] at q; cases q)]
              exact su _ _ q2
            · rw [upd_same, more, List.map_append]
              rfl
          | false =>
            walk_at "rd"
            refine ⟨s17.trans su, ?_⟩
            rw [more, if_neg (by decide), List.append_nil]
            exact su _ _ d17
        rintro H17 ⟨s17, d17⟩
        have e17 : keptBy ((ys.map φ).take ys.length) (RR.keeps.take ys.length) = RR.kept.map φ := by
          rw [List.take_of_length_le (by rw [List.length_map]; exact Nat.le_refl _), List.take_of_length_le (by rw [rok.nk]; exact Nat.le_refl _), keptBy_map, ← kk]
        rw [e17] at d17
        refine ⟨_, _, .lst (SqL.of (s17 _ _ d16)) (at_int.all _), .lst (SqL.of d17) (at_int.all _), at_int.shL (lay_int _), at_int.shL (lay_int _), ?_⟩
        rw [eqvL (lay_int _)]
        walk_at "rd"
        exact ⟨_, _, _, rfl, s26.trans s17⟩
    · rintro σ H12 ⟨v10, v11, v12, rfl, s12⟩
      walk_at "rd"
      exact k _
--SPLIT
--SPLIT
end
theorem binds_nil {K : PySem.W.Frag} {fd : FuncData} {ps : List Str} (h : ∃ ds, Vals [] ds ∧ Binds K fd ps ds) : Binds K fd ps [] := by
  obtain ⟨ds, h1, h2⟩ := h
  cases h1
  exact h2
theorem all_mk {l : PySem.W.OpenLaw} {w : World} {K : PySem.W.Frag} {h : Heap} {mg : Str → Option Value} {fa : Addr} (X : K.In h) (G : h.Ns mainGlobals mg) (hfa : mg "law" = some (.ref fa))
    {f_is_name f_is_number f_is_tolerance f_check_number f_check_tolerance f_check_row f_is_place f_is_group f_are_groups f_sign_of f_place_at f_place f_group f_is_rule f_checked_rules f_is_answer f_checked_answers f_used_rules f_Loop__init f_Loop_rules f_Loop_start f_Loop_answers f_Loop_fitting f_step f_Run__init f_u_place f_run f_cells_and_ranks f_ranked f_law_source f_law_draw f_law_pick f_law_name f_law_names f_law_places f_law_group_names f_law_groups f_law_rules f_law_states f_law_answers f_law_tolerance f_law_row f_law_unlike f_law_wider f_law : Addr}
    {od_is_name an_is_name od_is_number an_is_number od_is_tolerance an_is_tolerance od_check_number an_check_number od_check_tolerance an_check_tolerance od_check_row an_check_row od_is_place an_is_place od_is_group an_is_group od_are_groups an_are_groups od_sign_of an_sign_of od_place_at an_place_at od_place an_place od_group an_group od_is_rule an_is_rule od_checked_rules an_checked_rules od_is_answer an_is_answer od_checked_answers an_checked_answers od_used_rules an_used_rules od_Loop__init an_Loop__init od_Loop_rules an_Loop_rules od_Loop_start an_Loop_start od_Loop_answers an_Loop_answers od_Loop_fitting an_Loop_fitting od_step an_step od_Run__init an_Run__init od_u_place an_u_place od_run an_run od_cells_and_ranks an_cells_and_ranks od_ranked an_ranked od_law_source an_law_source od_law_draw an_law_draw od_law_pick an_law_pick od_law_name an_law_name od_law_names an_law_names od_law_places an_law_places od_law_group_names an_law_group_names od_law_groups an_law_groups od_law_rules an_law_rules od_law_states an_law_states od_law_answers an_law_answers od_law_tolerance an_law_tolerance od_law_row an_law_row od_law_unlike an_law_unlike od_law_wider an_law_wider od_law an_law : Option Addr} {sl_is_name sl_is_number sl_is_tolerance sl_check_number sl_check_tolerance sl_check_row sl_is_place sl_is_group sl_are_groups sl_sign_of sl_place_at sl_place sl_group sl_is_rule sl_checked_rules sl_is_answer sl_checked_answers sl_used_rules sl_Loop__init sl_Loop_rules sl_Loop_start sl_Loop_answers sl_Loop_fitting sl_step sl_Run__init sl_u_place sl_run sl_cells_and_ranks sl_ranked sl_law_source sl_law_draw sl_law_pick sl_law_name sl_law_names sl_law_places sl_law_group_names sl_law_groups sl_law_rules sl_law_states sl_law_answers sl_law_tolerance sl_law_row sl_law_unlike sl_law_wider sl_law : Array (Option Value)}
    {oc_is_name kV_is_name dc_is_name pm_is_name cd_is_name ct_is_name oc_is_number kV_is_number dc_is_number pm_is_number cd_is_number ct_is_number oc_is_tolerance kV_is_tolerance dc_is_tolerance pm_is_tolerance cd_is_tolerance ct_is_tolerance oc_check_number kV_check_number dc_check_number pm_check_number cd_check_number ct_check_number oc_check_tolerance kV_check_tolerance dc_check_tolerance pm_check_tolerance cd_check_tolerance ct_check_tolerance oc_check_row kV_check_row dc_check_row pm_check_row cd_check_row ct_check_row oc_is_place kV_is_place dc_is_place pm_is_place cd_is_place ct_is_place oc_is_group kV_is_group dc_is_group pm_is_group cd_is_group ct_is_group oc_are_groups kV_are_groups dc_are_groups pm_are_groups cd_are_groups ct_are_groups oc_sign_of kV_sign_of dc_sign_of pm_sign_of cd_sign_of ct_sign_of oc_place_at kV_place_at dc_place_at pm_place_at cd_place_at ct_place_at oc_place kV_place dc_place pm_place cd_place ct_place oc_group kV_group dc_group pm_group cd_group ct_group oc_is_rule kV_is_rule dc_is_rule pm_is_rule cd_is_rule ct_is_rule oc_checked_rules kV_checked_rules dc_checked_rules pm_checked_rules cd_checked_rules ct_checked_rules oc_is_answer kV_is_answer dc_is_answer pm_is_answer cd_is_answer ct_is_answer oc_checked_answers kV_checked_answers dc_checked_answers pm_checked_answers cd_checked_answers ct_checked_answers oc_used_rules kV_used_rules dc_used_rules pm_used_rules cd_used_rules ct_used_rules oc_Loop__init kV_Loop__init dc_Loop__init pm_Loop__init cd_Loop__init ct_Loop__init oc_Loop_rules kV_Loop_rules dc_Loop_rules pm_Loop_rules cd_Loop_rules ct_Loop_rules oc_Loop_start kV_Loop_start dc_Loop_start pm_Loop_start cd_Loop_start ct_Loop_start oc_Loop_answers kV_Loop_answers dc_Loop_answers pm_Loop_answers cd_Loop_answers ct_Loop_answers oc_Loop_fitting kV_Loop_fitting dc_Loop_fitting pm_Loop_fitting cd_Loop_fitting ct_Loop_fitting oc_step kV_step dc_step pm_step cd_step ct_step oc_Run__init kV_Run__init dc_Run__init pm_Run__init cd_Run__init ct_Run__init oc_u_place kV_u_place dc_u_place pm_u_place cd_u_place ct_u_place oc_run kV_run dc_run pm_run cd_run ct_run oc_cells_and_ranks kV_cells_and_ranks dc_cells_and_ranks pm_cells_and_ranks cd_cells_and_ranks ct_cells_and_ranks oc_ranked kV_ranked dc_ranked pm_ranked cd_ranked ct_ranked oc_law_source kV_law_source dc_law_source pm_law_source cd_law_source ct_law_source oc_law_draw kV_law_draw dc_law_draw pm_law_draw cd_law_draw ct_law_draw oc_law_pick kV_law_pick dc_law_pick pm_law_pick cd_law_pick ct_law_pick oc_law_name kV_law_name dc_law_name pm_law_name cd_law_name ct_law_name oc_law_names kV_law_names dc_law_names pm_law_names cd_law_names ct_law_names oc_law_places kV_law_places dc_law_places pm_law_places cd_law_places ct_law_places oc_law_group_names kV_law_group_names dc_law_group_names pm_law_group_names cd_law_group_names ct_law_group_names oc_law_groups kV_law_groups dc_law_groups pm_law_groups cd_law_groups ct_law_groups oc_law_rules kV_law_rules dc_law_rules pm_law_rules cd_law_rules ct_law_rules oc_law_states kV_law_states dc_law_states pm_law_states cd_law_states ct_law_states oc_law_answers kV_law_answers dc_law_answers pm_law_answers cd_law_answers ct_law_answers oc_law_tolerance kV_law_tolerance dc_law_tolerance pm_law_tolerance cd_law_tolerance ct_law_tolerance oc_law_row kV_law_row dc_law_row pm_law_row cd_law_row ct_law_row oc_law_unlike kV_law_unlike dc_law_unlike pm_law_unlike cd_law_unlike ct_law_unlike oc_law_wider kV_law_wider dc_law_wider pm_law_wider cd_law_wider ct_law_wider oc_law kV_law dc_law pm_law cd_law ct_law : Value}
    {a_PLACES : Addr} {n_PLACES : Nat} {sl_PLACES : Array (Option Value)} {t_PLACES_0 t_PLACES_1 t_PLACES_2 t_PLACES_3 t_PLACES_4 t_PLACES_5 t_PLACES_6 t_PLACES_7 t_PLACES_8 t_PLACES_9 t_PLACES_10 : Tok}
    {a_GROUPS : Addr} {n_GROUPS : Nat} {g_GROUPS_0 g_GROUPS_1 g_GROUPS_2 g_GROUPS_3 g_GROUPS_4 g_GROUPS_5 g_GROUPS_6 g_GROUPS_7 g_GROUPS_8 : Addr} {t_GROUPS_0 t_GROUPS_1 t_GROUPS_2 t_GROUPS_3 t_GROUPS_4 t_GROUPS_5 t_GROUPS_6 t_GROUPS_7 t_GROUPS_8 : Tok} {h_GROUPS_0 h_GROUPS_1 h_GROUPS_2 h_GROUPS_3 h_GROUPS_4 h_GROUPS_5 h_GROUPS_6 h_GROUPS_7 h_GROUPS_8 : Int}
    {m_GROUPS_0 : Nat} {sl_GROUPS_0 : Array (Option Value)} {t_GROUPS_0_0 t_GROUPS_0_1 t_GROUPS_0_2 t_GROUPS_0_3 t_GROUPS_0_4 t_GROUPS_0_5 t_GROUPS_0_6 t_GROUPS_0_7 t_GROUPS_0_8 t_GROUPS_0_9 t_GROUPS_0_10 : Tok}
    {m_GROUPS_1 : Nat} {sl_GROUPS_1 : Array (Option Value)} {t_GROUPS_1_0 t_GROUPS_1_1 t_GROUPS_1_2 t_GROUPS_1_3 t_GROUPS_1_4 t_GROUPS_1_5 t_GROUPS_1_6 : Tok}
    {m_GROUPS_2 : Nat} {sl_GROUPS_2 : Array (Option Value)} {t_GROUPS_2_0 t_GROUPS_2_1 t_GROUPS_2_2 t_GROUPS_2_3 : Tok}
    {m_GROUPS_3 : Nat} {sl_GROUPS_3 : Array (Option Value)} {t_GROUPS_3_0 t_GROUPS_3_1 t_GROUPS_3_2 t_GROUPS_3_3 t_GROUPS_3_4 : Tok}
    {m_GROUPS_4 : Nat} {sl_GROUPS_4 : Array (Option Value)} {t_GROUPS_4_0 t_GROUPS_4_1 t_GROUPS_4_2 t_GROUPS_4_3 t_GROUPS_4_4 : Tok}
    {m_GROUPS_5 : Nat} {sl_GROUPS_5 : Array (Option Value)} {t_GROUPS_5_0 t_GROUPS_5_1 : Tok}
    {m_GROUPS_6 : Nat} {sl_GROUPS_6 : Array (Option Value)} {t_GROUPS_6_0 t_GROUPS_6_1 : Tok}
    {m_GROUPS_7 : Nat} {sl_GROUPS_7 : Array (Option Value)} {t_GROUPS_7_0 t_GROUPS_7_1 t_GROUPS_7_2 : Tok}
    {m_GROUPS_8 : Nat} {sl_GROUPS_8 : Array (Option Value)}
    {t_LETTERS : Tok}
    {t_MOST_ITEMS : Tok}
    {t_MOST_RULES : Tok}
    {t_MOST_STATES : Tok}
    {C_Loop : Addr}
    {C_Run : Addr}
    {dt_Loop__init : Addr} {do_Loop__init : Option Addr} {dn_Loop__init : Nat} {dsl_Loop__init : Array (Option Value)} {dcl_Loop__init : Value}
    {p_Loop_rules : Addr} {pre_Loop_rules : List Value}
    {p_Loop_start : Addr} {pre_Loop_start : List Value}
    {p_Loop_answers : Addr} {pre_Loop_answers : List Value}
    (x_PLACES : PySem.W.nsIn K mainGlobals "PLACES" = some (some (.ref a_PLACES)))
    (lk_PLACES : K.lookup a_PLACES = some ⟨.type "tuple", none, .seq #[.str "below" t_PLACES_0, .str "-<" t_PLACES_1, .str "-=" t_PLACES_2, .str "->" t_PLACES_3, .str "<" t_PLACES_4, .str "=" t_PLACES_5, .str ">" t_PLACES_6, .str "+<" t_PLACES_7, .str "+=" t_PLACES_8, .str "+>" t_PLACES_9, .str "above" t_PLACES_10] n_PLACES, sl_PLACES⟩)
    (x_GROUPS : PySem.W.nsIn K mainGlobals "GROUPS" = some (some (.ref a_GROUPS)))
    (lk_GROUPS : K.lookup a_GROUPS = some ⟨.type "dict", none, .dict #[⟨h_GROUPS_0, .str "any" t_GROUPS_0, .ref g_GROUPS_0⟩, ⟨h_GROUPS_1, .str "near" t_GROUPS_1, .ref g_GROUPS_1⟩, ⟨h_GROUPS_2, .str "far" t_GROUPS_2, .ref g_GROUPS_2⟩, ⟨h_GROUPS_3, .str "less" t_GROUPS_3, .ref g_GROUPS_3⟩, ⟨h_GROUPS_4, .str "more" t_GROUPS_4, .ref g_GROUPS_4⟩, ⟨h_GROUPS_5, .str "under" t_GROUPS_5, .ref g_GROUPS_5⟩, ⟨h_GROUPS_6, .str "over" t_GROUPS_6, .ref g_GROUPS_6⟩, ⟨h_GROUPS_7, .str "cell" t_GROUPS_7, .ref g_GROUPS_7⟩, ⟨h_GROUPS_8, .str "none" t_GROUPS_8, .ref g_GROUPS_8⟩] n_GROUPS, #[]⟩)
    (ky_GROUPS : PySem.W.KeysLit w.params (#[⟨h_GROUPS_0, .str "any" t_GROUPS_0, .ref g_GROUPS_0⟩, ⟨h_GROUPS_1, .str "near" t_GROUPS_1, .ref g_GROUPS_1⟩, ⟨h_GROUPS_2, .str "far" t_GROUPS_2, .ref g_GROUPS_2⟩, ⟨h_GROUPS_3, .str "less" t_GROUPS_3, .ref g_GROUPS_3⟩, ⟨h_GROUPS_4, .str "more" t_GROUPS_4, .ref g_GROUPS_4⟩, ⟨h_GROUPS_5, .str "under" t_GROUPS_5, .ref g_GROUPS_5⟩, ⟨h_GROUPS_6, .str "over" t_GROUPS_6, .ref g_GROUPS_6⟩, ⟨h_GROUPS_7, .str "cell" t_GROUPS_7, .ref g_GROUPS_7⟩, ⟨h_GROUPS_8, .str "none" t_GROUPS_8, .ref g_GROUPS_8⟩] : Array DictEntry).toList)
    (lo_GROUPS : (a_GROUPS == sysModules) = false)
    (lg_GROUPS_0 : K.lookup g_GROUPS_0 = some ⟨.type "tuple", none, .seq #[.str "below" t_GROUPS_0_0, .str "-<" t_GROUPS_0_1, .str "-=" t_GROUPS_0_2, .str "->" t_GROUPS_0_3, .str "<" t_GROUPS_0_4, .str "=" t_GROUPS_0_5, .str ">" t_GROUPS_0_6, .str "+<" t_GROUPS_0_7, .str "+=" t_GROUPS_0_8, .str "+>" t_GROUPS_0_9, .str "above" t_GROUPS_0_10] m_GROUPS_0, sl_GROUPS_0⟩)
    (lg_GROUPS_1 : K.lookup g_GROUPS_1 = some ⟨.type "tuple", none, .seq #[.str "-=" t_GROUPS_1_0, .str "->" t_GROUPS_1_1, .str "<" t_GROUPS_1_2, .str "=" t_GROUPS_1_3, .str ">" t_GROUPS_1_4, .str "+<" t_GROUPS_1_5, .str "+=" t_GROUPS_1_6] m_GROUPS_1, sl_GROUPS_1⟩)
    (lg_GROUPS_2 : K.lookup g_GROUPS_2 = some ⟨.type "tuple", none, .seq #[.str "below" t_GROUPS_2_0, .str "-<" t_GROUPS_2_1, .str "+>" t_GROUPS_2_2, .str "above" t_GROUPS_2_3] m_GROUPS_2, sl_GROUPS_2⟩)
    (lg_GROUPS_3 : K.lookup g_GROUPS_3 = some ⟨.type "tuple", none, .seq #[.str "below" t_GROUPS_3_0, .str "-<" t_GROUPS_3_1, .str "-=" t_GROUPS_3_2, .str "->" t_GROUPS_3_3, .str "<" t_GROUPS_3_4] m_GROUPS_3, sl_GROUPS_3⟩)
    (lg_GROUPS_4 : K.lookup g_GROUPS_4 = some ⟨.type "tuple", none, .seq #[.str ">" t_GROUPS_4_0, .str "+<" t_GROUPS_4_1, .str "+=" t_GROUPS_4_2, .str "+>" t_GROUPS_4_3, .str "above" t_GROUPS_4_4] m_GROUPS_4, sl_GROUPS_4⟩)
    (lg_GROUPS_5 : K.lookup g_GROUPS_5 = some ⟨.type "tuple", none, .seq #[.str "below" t_GROUPS_5_0, .str "-<" t_GROUPS_5_1] m_GROUPS_5, sl_GROUPS_5⟩)
    (lg_GROUPS_6 : K.lookup g_GROUPS_6 = some ⟨.type "tuple", none, .seq #[.str "+>" t_GROUPS_6_0, .str "above" t_GROUPS_6_1] m_GROUPS_6, sl_GROUPS_6⟩)
    (lg_GROUPS_7 : K.lookup g_GROUPS_7 = some ⟨.type "tuple", none, .seq #[.str "<" t_GROUPS_7_0, .str "=" t_GROUPS_7_1, .str ">" t_GROUPS_7_2] m_GROUPS_7, sl_GROUPS_7⟩)
    (lg_GROUPS_8 : K.lookup g_GROUPS_8 = some ⟨.type "tuple", none, .seq #[] m_GROUPS_8, sl_GROUPS_8⟩)
    (g_LETTERS : PySem.W.nsIn K mainGlobals "LETTERS" = some (some (.str "abcdefghijklmnopqrstuvwxyz" t_LETTERS)))
    (g_MOST_ITEMS : PySem.W.nsIn K mainGlobals "MOST_ITEMS" = some (some (.int 1000 t_MOST_ITEMS)))
    (g_MOST_RULES : PySem.W.nsIn K mainGlobals "MOST_RULES" = some (some (.int 40 t_MOST_RULES)))
    (g_MOST_STATES : PySem.W.nsIn K mainGlobals "MOST_STATES" = some (some (.int 6 t_MOST_STATES)))
    (cg_Loop : PySem.W.nsIn K mainGlobals "Loop" = some (some (.ref C_Loop)))
    (cpg_Loop : PySem.W.plainGet K C_Loop Str.empty = true)
    (chd_Loop : PySem.W.hasDictIn K C_Loop = true)
    (cpo_Loop : PySem.W.plainOver K C_Loop = true)
    (csa_Loop : PySem.W.findIn K (.ref C_Loop) "__setattr__" = some (some (.builtin "object.__setattr__")))
    (cmk_Loop : PySem.W.makesIn K C_Loop = true)
    (ckc_Loop : PySem.W.keepIn K (.ref C_Loop) = true)
    (cn_Loop_rules : PySem.W.findIn K (.ref C_Loop) "_rules" = some none)
    (cn_Loop_states : PySem.W.findIn K (.ref C_Loop) "_states" = some none)
    (cn_Loop_answers : PySem.W.findIn K (.ref C_Loop) "_answers" = some none)
    (cn_Loop_used : PySem.W.findIn K (.ref C_Loop) "_used" = some none)
    (cg_Run : PySem.W.nsIn K mainGlobals "Run" = some (some (.ref C_Run)))
    (cpg_Run : PySem.W.plainGet K C_Run Str.empty = true)
    (chd_Run : PySem.W.hasDictIn K C_Run = true)
    (cpo_Run : PySem.W.plainOver K C_Run = true)
    (csa_Run : PySem.W.findIn K (.ref C_Run) "__setattr__" = some (some (.builtin "object.__setattr__")))
    (cmk_Run : PySem.W.makesIn K C_Run = true)
    (ckc_Run : PySem.W.keepIn K (.ref C_Run) = true)
    (cn_Run_words : PySem.W.findIn K (.ref C_Run) "words" = some none)
    (cn_Run_keeps : PySem.W.findIn K (.ref C_Run) "keeps" = some none)
    (cn_Run_kept : PySem.W.findIn K (.ref C_Run) "kept" = some none)
    (cn_Run_last : PySem.W.findIn K (.ref C_Run) "last" = some none)
    (cn_Run_state : PySem.W.findIn K (.ref C_Run) "state" = some none)
    (cn_Run_answer : PySem.W.findIn K (.ref C_Run) "answer" = some none)
    (a_Loop__init : PySem.W.findIn K (.ref C_Loop) "__init__" = some (some (.ref f_Loop__init)))
    (i_Loop__init : PySem.W.isFn K (.ref f_Loop__init) = true)
    (l_Loop__init : K.lookup f_Loop__init = some ⟨oc_Loop__init, od_Loop__init, .func (PySem.W.fnOf "__init__" "Loop.__init__" (defArgs s_Loop__init) (defBody s_Loop__init) (defScope s_Loop__init) (.ref dt_Loop__init) kV_Loop__init dc_Loop__init pm_Loop__init an_Loop__init cd_Loop__init ct_Loop__init), sl_Loop__init⟩)
    (dl_Loop__init : K.lookup dt_Loop__init = some ⟨dcl_Loop__init, do_Loop__init, .seq #[.none] dn_Loop__init, dsl_Loop__init⟩)
    (c_Loop__init : PySem.W.codeIn K cd_Loop__init "Loop.__init__" = true)
    (k_Loop__init : PySem.W.keepIn K (.ref f_Loop__init) = true)
    (pa_Loop_rules : PySem.W.findIn K (.ref C_Loop) "rules" = some (some (.ref p_Loop_rules)))
    (pg_Loop_rules : PySem.W.specialIn K (.ref p_Loop_rules) "__get__" = some (some (.builtin "property.__get__")))
    (pt_Loop_rules : PySem.W.takesIn K (.ref p_Loop_rules) = some true)
    (pc_Loop_rules : PySem.W.recIn K p_Loop_rules "property" = some (.ref f_Loop_rules :: pre_Loop_rules))
    (l_Loop_rules : K.lookup f_Loop_rules = some ⟨oc_Loop_rules, od_Loop_rules, .func (PySem.W.fnOf "rules" "Loop.rules" (defArgs s_Loop_rules) (defBody s_Loop_rules) (defScope s_Loop_rules) .none kV_Loop_rules dc_Loop_rules pm_Loop_rules an_Loop_rules cd_Loop_rules ct_Loop_rules), sl_Loop_rules⟩)
    (c_Loop_rules : PySem.W.codeIn K cd_Loop_rules "Loop.rules" = true)
    (k_Loop_rules : PySem.W.keepIn K (.ref f_Loop_rules) = true)
    (pa_Loop_start : PySem.W.findIn K (.ref C_Loop) "start" = some (some (.ref p_Loop_start)))
    (pg_Loop_start : PySem.W.specialIn K (.ref p_Loop_start) "__get__" = some (some (.builtin "property.__get__")))
    (pt_Loop_start : PySem.W.takesIn K (.ref p_Loop_start) = some true)
    (pc_Loop_start : PySem.W.recIn K p_Loop_start "property" = some (.ref f_Loop_start :: pre_Loop_start))
    (l_Loop_start : K.lookup f_Loop_start = some ⟨oc_Loop_start, od_Loop_start, .func (PySem.W.fnOf "start" "Loop.start" (defArgs s_Loop_start) (defBody s_Loop_start) (defScope s_Loop_start) .none kV_Loop_start dc_Loop_start pm_Loop_start an_Loop_start cd_Loop_start ct_Loop_start), sl_Loop_start⟩)
    (c_Loop_start : PySem.W.codeIn K cd_Loop_start "Loop.start" = true)
    (k_Loop_start : PySem.W.keepIn K (.ref f_Loop_start) = true)
    (pa_Loop_answers : PySem.W.findIn K (.ref C_Loop) "answers" = some (some (.ref p_Loop_answers)))
    (pg_Loop_answers : PySem.W.specialIn K (.ref p_Loop_answers) "__get__" = some (some (.builtin "property.__get__")))
    (pt_Loop_answers : PySem.W.takesIn K (.ref p_Loop_answers) = some true)
    (pc_Loop_answers : PySem.W.recIn K p_Loop_answers "property" = some (.ref f_Loop_answers :: pre_Loop_answers))
    (l_Loop_answers : K.lookup f_Loop_answers = some ⟨oc_Loop_answers, od_Loop_answers, .func (PySem.W.fnOf "answers" "Loop.answers" (defArgs s_Loop_answers) (defBody s_Loop_answers) (defScope s_Loop_answers) .none kV_Loop_answers dc_Loop_answers pm_Loop_answers an_Loop_answers cd_Loop_answers ct_Loop_answers), sl_Loop_answers⟩)
    (c_Loop_answers : PySem.W.codeIn K cd_Loop_answers "Loop.answers" = true)
    (k_Loop_answers : PySem.W.keepIn K (.ref f_Loop_answers) = true)
    (a_Loop_fitting : PySem.W.findIn K (.ref C_Loop) "fitting" = some (some (.ref f_Loop_fitting)))
    (i_Loop_fitting : PySem.W.isFn K (.ref f_Loop_fitting) = true)
    (l_Loop_fitting : K.lookup f_Loop_fitting = some ⟨oc_Loop_fitting, od_Loop_fitting, .func (PySem.W.fnOf "fitting" "Loop.fitting" (defArgs s_Loop_fitting) (defBody s_Loop_fitting) (defScope s_Loop_fitting) .none kV_Loop_fitting dc_Loop_fitting pm_Loop_fitting an_Loop_fitting cd_Loop_fitting ct_Loop_fitting), sl_Loop_fitting⟩)
    (c_Loop_fitting : PySem.W.codeIn K cd_Loop_fitting "Loop.fitting" = true)
    (k_Loop_fitting : PySem.W.keepIn K (.ref f_Loop_fitting) = true)
    (a_Run__init : PySem.W.findIn K (.ref C_Run) "__init__" = some (some (.ref f_Run__init)))
    (i_Run__init : PySem.W.isFn K (.ref f_Run__init) = true)
    (l_Run__init : K.lookup f_Run__init = some ⟨oc_Run__init, od_Run__init, .func (PySem.W.fnOf "__init__" "Run.__init__" (defArgs s_Run__init) (defBody s_Run__init) (defScope s_Run__init) .none kV_Run__init dc_Run__init pm_Run__init an_Run__init cd_Run__init ct_Run__init), sl_Run__init⟩)
    (c_Run__init : PySem.W.codeIn K cd_Run__init "Run.__init__" = true)
    (k_Run__init : PySem.W.keepIn K (.ref f_Run__init) = true)
    (a_is_name : PySem.W.nsIn K mainGlobals "is_name" = some (some (.ref f_is_name)))
    (l_is_name : K.lookup f_is_name = some ⟨oc_is_name, od_is_name, .func (PySem.W.fnOf "is_name" "is_name" (defArgs s_is_name) (defBody s_is_name) (defScope s_is_name) .none kV_is_name dc_is_name pm_is_name an_is_name cd_is_name ct_is_name), sl_is_name⟩)
    (c_is_name : PySem.W.codeIn K cd_is_name "is_name" = true)
    (k_is_name : PySem.W.keepIn K (.ref f_is_name) = true)
    (a_is_number : PySem.W.nsIn K mainGlobals "is_number" = some (some (.ref f_is_number)))
    (l_is_number : K.lookup f_is_number = some ⟨oc_is_number, od_is_number, .func (PySem.W.fnOf "is_number" "is_number" (defArgs s_is_number) (defBody s_is_number) (defScope s_is_number) .none kV_is_number dc_is_number pm_is_number an_is_number cd_is_number ct_is_number), sl_is_number⟩)
    (c_is_number : PySem.W.codeIn K cd_is_number "is_number" = true)
    (k_is_number : PySem.W.keepIn K (.ref f_is_number) = true)
    (a_is_tolerance : PySem.W.nsIn K mainGlobals "is_tolerance" = some (some (.ref f_is_tolerance)))
    (l_is_tolerance : K.lookup f_is_tolerance = some ⟨oc_is_tolerance, od_is_tolerance, .func (PySem.W.fnOf "is_tolerance" "is_tolerance" (defArgs s_is_tolerance) (defBody s_is_tolerance) (defScope s_is_tolerance) .none kV_is_tolerance dc_is_tolerance pm_is_tolerance an_is_tolerance cd_is_tolerance ct_is_tolerance), sl_is_tolerance⟩)
    (c_is_tolerance : PySem.W.codeIn K cd_is_tolerance "is_tolerance" = true)
    (k_is_tolerance : PySem.W.keepIn K (.ref f_is_tolerance) = true)
    (a_check_number : PySem.W.nsIn K mainGlobals "check_number" = some (some (.ref f_check_number)))
    (l_check_number : K.lookup f_check_number = some ⟨oc_check_number, od_check_number, .func (PySem.W.fnOf "check_number" "check_number" (defArgs s_check_number) (defBody s_check_number) (defScope s_check_number) .none kV_check_number dc_check_number pm_check_number an_check_number cd_check_number ct_check_number), sl_check_number⟩)
    (c_check_number : PySem.W.codeIn K cd_check_number "check_number" = true)
    (k_check_number : PySem.W.keepIn K (.ref f_check_number) = true)
    (a_check_tolerance : PySem.W.nsIn K mainGlobals "check_tolerance" = some (some (.ref f_check_tolerance)))
    (l_check_tolerance : K.lookup f_check_tolerance = some ⟨oc_check_tolerance, od_check_tolerance, .func (PySem.W.fnOf "check_tolerance" "check_tolerance" (defArgs s_check_tolerance) (defBody s_check_tolerance) (defScope s_check_tolerance) .none kV_check_tolerance dc_check_tolerance pm_check_tolerance an_check_tolerance cd_check_tolerance ct_check_tolerance), sl_check_tolerance⟩)
    (c_check_tolerance : PySem.W.codeIn K cd_check_tolerance "check_tolerance" = true)
    (k_check_tolerance : PySem.W.keepIn K (.ref f_check_tolerance) = true)
    (a_check_row : PySem.W.nsIn K mainGlobals "check_row" = some (some (.ref f_check_row)))
    (l_check_row : K.lookup f_check_row = some ⟨oc_check_row, od_check_row, .func (PySem.W.fnOf "check_row" "check_row" (defArgs s_check_row) (defBody s_check_row) (defScope s_check_row) .none kV_check_row dc_check_row pm_check_row an_check_row cd_check_row ct_check_row), sl_check_row⟩)
    (c_check_row : PySem.W.codeIn K cd_check_row "check_row" = true)
    (k_check_row : PySem.W.keepIn K (.ref f_check_row) = true)
    (a_is_place : PySem.W.nsIn K mainGlobals "is_place" = some (some (.ref f_is_place)))
    (l_is_place : K.lookup f_is_place = some ⟨oc_is_place, od_is_place, .func (PySem.W.fnOf "is_place" "is_place" (defArgs s_is_place) (defBody s_is_place) (defScope s_is_place) .none kV_is_place dc_is_place pm_is_place an_is_place cd_is_place ct_is_place), sl_is_place⟩)
    (c_is_place : PySem.W.codeIn K cd_is_place "is_place" = true)
    (k_is_place : PySem.W.keepIn K (.ref f_is_place) = true)
    (a_is_group : PySem.W.nsIn K mainGlobals "is_group" = some (some (.ref f_is_group)))
    (l_is_group : K.lookup f_is_group = some ⟨oc_is_group, od_is_group, .func (PySem.W.fnOf "is_group" "is_group" (defArgs s_is_group) (defBody s_is_group) (defScope s_is_group) .none kV_is_group dc_is_group pm_is_group an_is_group cd_is_group ct_is_group), sl_is_group⟩)
    (c_is_group : PySem.W.codeIn K cd_is_group "is_group" = true)
    (k_is_group : PySem.W.keepIn K (.ref f_is_group) = true)
    (a_are_groups : PySem.W.nsIn K mainGlobals "are_groups" = some (some (.ref f_are_groups)))
    (l_are_groups : K.lookup f_are_groups = some ⟨oc_are_groups, od_are_groups, .func (PySem.W.fnOf "are_groups" "are_groups" (defArgs s_are_groups) (defBody s_are_groups) (defScope s_are_groups) .none kV_are_groups dc_are_groups pm_are_groups an_are_groups cd_are_groups ct_are_groups), sl_are_groups⟩)
    (c_are_groups : PySem.W.codeIn K cd_are_groups "are_groups" = true)
    (k_are_groups : PySem.W.keepIn K (.ref f_are_groups) = true)
    (a_sign_of : PySem.W.nsIn K mainGlobals "sign_of" = some (some (.ref f_sign_of)))
    (l_sign_of : K.lookup f_sign_of = some ⟨oc_sign_of, od_sign_of, .func (PySem.W.fnOf "sign_of" "sign_of" (defArgs s_sign_of) (defBody s_sign_of) (defScope s_sign_of) .none kV_sign_of dc_sign_of pm_sign_of an_sign_of cd_sign_of ct_sign_of), sl_sign_of⟩)
    (c_sign_of : PySem.W.codeIn K cd_sign_of "sign_of" = true)
    (k_sign_of : PySem.W.keepIn K (.ref f_sign_of) = true)
    (a_place_at : PySem.W.nsIn K mainGlobals "place_at" = some (some (.ref f_place_at)))
    (l_place_at : K.lookup f_place_at = some ⟨oc_place_at, od_place_at, .func (PySem.W.fnOf "place_at" "place_at" (defArgs s_place_at) (defBody s_place_at) (defScope s_place_at) .none kV_place_at dc_place_at pm_place_at an_place_at cd_place_at ct_place_at), sl_place_at⟩)
    (c_place_at : PySem.W.codeIn K cd_place_at "place_at" = true)
    (k_place_at : PySem.W.keepIn K (.ref f_place_at) = true)
    (a_place : PySem.W.nsIn K mainGlobals "place" = some (some (.ref f_place)))
    (l_place : K.lookup f_place = some ⟨oc_place, od_place, .func (PySem.W.fnOf "place" "place" (defArgs s_place) (defBody s_place) (defScope s_place) .none kV_place dc_place pm_place an_place cd_place ct_place), sl_place⟩)
    (c_place : PySem.W.codeIn K cd_place "place" = true)
    (k_place : PySem.W.keepIn K (.ref f_place) = true)
    (a_group : PySem.W.nsIn K mainGlobals "group" = some (some (.ref f_group)))
    (l_group : K.lookup f_group = some ⟨oc_group, od_group, .func (PySem.W.fnOf "group" "group" (defArgs s_group) (defBody s_group) (defScope s_group) .none kV_group dc_group pm_group an_group cd_group ct_group), sl_group⟩)
    (c_group : PySem.W.codeIn K cd_group "group" = true)
    (k_group : PySem.W.keepIn K (.ref f_group) = true)
    (a_is_rule : PySem.W.nsIn K mainGlobals "_is_rule" = some (some (.ref f_is_rule)))
    (l_is_rule : K.lookup f_is_rule = some ⟨oc_is_rule, od_is_rule, .func (PySem.W.fnOf "_is_rule" "_is_rule" (defArgs s_is_rule) (defBody s_is_rule) (defScope s_is_rule) .none kV_is_rule dc_is_rule pm_is_rule an_is_rule cd_is_rule ct_is_rule), sl_is_rule⟩)
    (c_is_rule : PySem.W.codeIn K cd_is_rule "_is_rule" = true)
    (k_is_rule : PySem.W.keepIn K (.ref f_is_rule) = true)
    (a_checked_rules : PySem.W.nsIn K mainGlobals "_checked_rules" = some (some (.ref f_checked_rules)))
    (l_checked_rules : K.lookup f_checked_rules = some ⟨oc_checked_rules, od_checked_rules, .func (PySem.W.fnOf "_checked_rules" "_checked_rules" (defArgs s_checked_rules) (defBody s_checked_rules) (defScope s_checked_rules) .none kV_checked_rules dc_checked_rules pm_checked_rules an_checked_rules cd_checked_rules ct_checked_rules), sl_checked_rules⟩)
    (c_checked_rules : PySem.W.codeIn K cd_checked_rules "_checked_rules" = true)
    (k_checked_rules : PySem.W.keepIn K (.ref f_checked_rules) = true)
    (a_is_answer : PySem.W.nsIn K mainGlobals "_is_answer" = some (some (.ref f_is_answer)))
    (l_is_answer : K.lookup f_is_answer = some ⟨oc_is_answer, od_is_answer, .func (PySem.W.fnOf "_is_answer" "_is_answer" (defArgs s_is_answer) (defBody s_is_answer) (defScope s_is_answer) .none kV_is_answer dc_is_answer pm_is_answer an_is_answer cd_is_answer ct_is_answer), sl_is_answer⟩)
    (c_is_answer : PySem.W.codeIn K cd_is_answer "_is_answer" = true)
    (k_is_answer : PySem.W.keepIn K (.ref f_is_answer) = true)
    (a_checked_answers : PySem.W.nsIn K mainGlobals "_checked_answers" = some (some (.ref f_checked_answers)))
    (l_checked_answers : K.lookup f_checked_answers = some ⟨oc_checked_answers, od_checked_answers, .func (PySem.W.fnOf "_checked_answers" "_checked_answers" (defArgs s_checked_answers) (defBody s_checked_answers) (defScope s_checked_answers) .none kV_checked_answers dc_checked_answers pm_checked_answers an_checked_answers cd_checked_answers ct_checked_answers), sl_checked_answers⟩)
    (c_checked_answers : PySem.W.codeIn K cd_checked_answers "_checked_answers" = true)
    (k_checked_answers : PySem.W.keepIn K (.ref f_checked_answers) = true)
    (a_used_rules : PySem.W.nsIn K mainGlobals "_used_rules" = some (some (.ref f_used_rules)))
    (l_used_rules : K.lookup f_used_rules = some ⟨oc_used_rules, od_used_rules, .func (PySem.W.fnOf "_used_rules" "_used_rules" (defArgs s_used_rules) (defBody s_used_rules) (defScope s_used_rules) .none kV_used_rules dc_used_rules pm_used_rules an_used_rules cd_used_rules ct_used_rules), sl_used_rules⟩)
    (c_used_rules : PySem.W.codeIn K cd_used_rules "_used_rules" = true)
    (k_used_rules : PySem.W.keepIn K (.ref f_used_rules) = true)
    (a_step : PySem.W.nsIn K mainGlobals "step" = some (some (.ref f_step)))
    (l_step : K.lookup f_step = some ⟨oc_step, od_step, .func (PySem.W.fnOf "step" "step" (defArgs s_step) (defBody s_step) (defScope s_step) .none kV_step dc_step pm_step an_step cd_step ct_step), sl_step⟩)
    (c_step : PySem.W.codeIn K cd_step "step" = true)
    (k_step : PySem.W.keepIn K (.ref f_step) = true)
    (a_u_place : PySem.W.nsIn K mainGlobals "_place" = some (some (.ref f_u_place)))
    (l_u_place : K.lookup f_u_place = some ⟨oc_u_place, od_u_place, .func (PySem.W.fnOf "_place" "_place" (defArgs s_u_place) (defBody s_u_place) (defScope s_u_place) .none kV_u_place dc_u_place pm_u_place an_u_place cd_u_place ct_u_place), sl_u_place⟩)
    (c_u_place : PySem.W.codeIn K cd_u_place "_place" = true)
    (k_u_place : PySem.W.keepIn K (.ref f_u_place) = true)
    (a_run : PySem.W.nsIn K mainGlobals "run" = some (some (.ref f_run)))
    (l_run : K.lookup f_run = some ⟨oc_run, od_run, .func (PySem.W.fnOf "run" "run" (defArgs s_run) (defBody s_run) (defScope s_run) .none kV_run dc_run pm_run an_run cd_run ct_run), sl_run⟩)
    (c_run : PySem.W.codeIn K cd_run "run" = true)
    (k_run : PySem.W.keepIn K (.ref f_run) = true)
    (a_cells_and_ranks : PySem.W.nsIn K mainGlobals "_cells_and_ranks" = some (some (.ref f_cells_and_ranks)))
    (l_cells_and_ranks : K.lookup f_cells_and_ranks = some ⟨oc_cells_and_ranks, od_cells_and_ranks, .func (PySem.W.fnOf "_cells_and_ranks" "_cells_and_ranks" (defArgs s_cells_and_ranks) (defBody s_cells_and_ranks) (defScope s_cells_and_ranks) .none kV_cells_and_ranks dc_cells_and_ranks pm_cells_and_ranks an_cells_and_ranks cd_cells_and_ranks ct_cells_and_ranks), sl_cells_and_ranks⟩)
    (c_cells_and_ranks : PySem.W.codeIn K cd_cells_and_ranks "_cells_and_ranks" = true)
    (k_cells_and_ranks : PySem.W.keepIn K (.ref f_cells_and_ranks) = true)
    (a_ranked : PySem.W.nsIn K mainGlobals "ranked" = some (some (.ref f_ranked)))
    (l_ranked : K.lookup f_ranked = some ⟨oc_ranked, od_ranked, .func (PySem.W.fnOf "ranked" "ranked" (defArgs s_ranked) (defBody s_ranked) (defScope s_ranked) .none kV_ranked dc_ranked pm_ranked an_ranked cd_ranked ct_ranked), sl_ranked⟩)
    (c_ranked : PySem.W.codeIn K cd_ranked "ranked" = true)
    (k_ranked : PySem.W.keepIn K (.ref f_ranked) = true)
    (a_law_source : PySem.W.nsIn K mainGlobals "_law_source" = some (some (.ref f_law_source)))
    (l_law_source : K.lookup f_law_source = some ⟨oc_law_source, od_law_source, .func (PySem.W.fnOf "_law_source" "_law_source" (defArgs s_law_source) (defBody s_law_source) (defScope s_law_source) .none kV_law_source dc_law_source pm_law_source an_law_source cd_law_source ct_law_source), sl_law_source⟩)
    (c_law_source : PySem.W.codeIn K cd_law_source "_law_source" = true)
    (k_law_source : PySem.W.keepIn K (.ref f_law_source) = true)
    (a_law_draw : PySem.W.nsIn K mainGlobals "_law_draw" = some (some (.ref f_law_draw)))
    (l_law_draw : K.lookup f_law_draw = some ⟨oc_law_draw, od_law_draw, .func (PySem.W.fnOf "_law_draw" "_law_draw" (defArgs s_law_draw) (defBody s_law_draw) (defScope s_law_draw) .none kV_law_draw dc_law_draw pm_law_draw an_law_draw cd_law_draw ct_law_draw), sl_law_draw⟩)
    (c_law_draw : PySem.W.codeIn K cd_law_draw "_law_draw" = true)
    (k_law_draw : PySem.W.keepIn K (.ref f_law_draw) = true)
    (a_law_pick : PySem.W.nsIn K mainGlobals "_law_pick" = some (some (.ref f_law_pick)))
    (l_law_pick : K.lookup f_law_pick = some ⟨oc_law_pick, od_law_pick, .func (PySem.W.fnOf "_law_pick" "_law_pick" (defArgs s_law_pick) (defBody s_law_pick) (defScope s_law_pick) .none kV_law_pick dc_law_pick pm_law_pick an_law_pick cd_law_pick ct_law_pick), sl_law_pick⟩)
    (c_law_pick : PySem.W.codeIn K cd_law_pick "_law_pick" = true)
    (k_law_pick : PySem.W.keepIn K (.ref f_law_pick) = true)
    (a_law_name : PySem.W.nsIn K mainGlobals "_law_name" = some (some (.ref f_law_name)))
    (l_law_name : K.lookup f_law_name = some ⟨oc_law_name, od_law_name, .func (PySem.W.fnOf "_law_name" "_law_name" (defArgs s_law_name) (defBody s_law_name) (defScope s_law_name) .none kV_law_name dc_law_name pm_law_name an_law_name cd_law_name ct_law_name), sl_law_name⟩)
    (c_law_name : PySem.W.codeIn K cd_law_name "_law_name" = true)
    (k_law_name : PySem.W.keepIn K (.ref f_law_name) = true)
    (a_law_names : PySem.W.nsIn K mainGlobals "_law_names" = some (some (.ref f_law_names)))
    (l_law_names : K.lookup f_law_names = some ⟨oc_law_names, od_law_names, .func (PySem.W.fnOf "_law_names" "_law_names" (defArgs s_law_names) (defBody s_law_names) (defScope s_law_names) .none kV_law_names dc_law_names pm_law_names an_law_names cd_law_names ct_law_names), sl_law_names⟩)
    (c_law_names : PySem.W.codeIn K cd_law_names "_law_names" = true)
    (k_law_names : PySem.W.keepIn K (.ref f_law_names) = true)
    (a_law_places : PySem.W.nsIn K mainGlobals "_law_places" = some (some (.ref f_law_places)))
    (l_law_places : K.lookup f_law_places = some ⟨oc_law_places, od_law_places, .func (PySem.W.fnOf "_law_places" "_law_places" (defArgs s_law_places) (defBody s_law_places) (defScope s_law_places) .none kV_law_places dc_law_places pm_law_places an_law_places cd_law_places ct_law_places), sl_law_places⟩)
    (c_law_places : PySem.W.codeIn K cd_law_places "_law_places" = true)
    (k_law_places : PySem.W.keepIn K (.ref f_law_places) = true)
    (a_law_group_names : PySem.W.nsIn K mainGlobals "_law_group_names" = some (some (.ref f_law_group_names)))
    (l_law_group_names : K.lookup f_law_group_names = some ⟨oc_law_group_names, od_law_group_names, .func (PySem.W.fnOf "_law_group_names" "_law_group_names" (defArgs s_law_group_names) (defBody s_law_group_names) (defScope s_law_group_names) .none kV_law_group_names dc_law_group_names pm_law_group_names an_law_group_names cd_law_group_names ct_law_group_names), sl_law_group_names⟩)
    (c_law_group_names : PySem.W.codeIn K cd_law_group_names "_law_group_names" = true)
    (k_law_group_names : PySem.W.keepIn K (.ref f_law_group_names) = true)
    (a_law_groups : PySem.W.nsIn K mainGlobals "_law_groups" = some (some (.ref f_law_groups)))
    (l_law_groups : K.lookup f_law_groups = some ⟨oc_law_groups, od_law_groups, .func (PySem.W.fnOf "_law_groups" "_law_groups" (defArgs s_law_groups) (defBody s_law_groups) (defScope s_law_groups) .none kV_law_groups dc_law_groups pm_law_groups an_law_groups cd_law_groups ct_law_groups), sl_law_groups⟩)
    (c_law_groups : PySem.W.codeIn K cd_law_groups "_law_groups" = true)
    (k_law_groups : PySem.W.keepIn K (.ref f_law_groups) = true)
    (a_law_rules : PySem.W.nsIn K mainGlobals "_law_rules" = some (some (.ref f_law_rules)))
    (l_law_rules : K.lookup f_law_rules = some ⟨oc_law_rules, od_law_rules, .func (PySem.W.fnOf "_law_rules" "_law_rules" (defArgs s_law_rules) (defBody s_law_rules) (defScope s_law_rules) .none kV_law_rules dc_law_rules pm_law_rules an_law_rules cd_law_rules ct_law_rules), sl_law_rules⟩)
    (c_law_rules : PySem.W.codeIn K cd_law_rules "_law_rules" = true)
    (k_law_rules : PySem.W.keepIn K (.ref f_law_rules) = true)
    (a_law_states : PySem.W.nsIn K mainGlobals "_law_states" = some (some (.ref f_law_states)))
    (l_law_states : K.lookup f_law_states = some ⟨oc_law_states, od_law_states, .func (PySem.W.fnOf "_law_states" "_law_states" (defArgs s_law_states) (defBody s_law_states) (defScope s_law_states) .none kV_law_states dc_law_states pm_law_states an_law_states cd_law_states ct_law_states), sl_law_states⟩)
    (c_law_states : PySem.W.codeIn K cd_law_states "_law_states" = true)
    (k_law_states : PySem.W.keepIn K (.ref f_law_states) = true)
    (a_law_answers : PySem.W.nsIn K mainGlobals "_law_answers" = some (some (.ref f_law_answers)))
    (l_law_answers : K.lookup f_law_answers = some ⟨oc_law_answers, od_law_answers, .func (PySem.W.fnOf "_law_answers" "_law_answers" (defArgs s_law_answers) (defBody s_law_answers) (defScope s_law_answers) .none kV_law_answers dc_law_answers pm_law_answers an_law_answers cd_law_answers ct_law_answers), sl_law_answers⟩)
    (c_law_answers : PySem.W.codeIn K cd_law_answers "_law_answers" = true)
    (k_law_answers : PySem.W.keepIn K (.ref f_law_answers) = true)
    (a_law_tolerance : PySem.W.nsIn K mainGlobals "_law_tolerance" = some (some (.ref f_law_tolerance)))
    (l_law_tolerance : K.lookup f_law_tolerance = some ⟨oc_law_tolerance, od_law_tolerance, .func (PySem.W.fnOf "_law_tolerance" "_law_tolerance" (defArgs s_law_tolerance) (defBody s_law_tolerance) (defScope s_law_tolerance) .none kV_law_tolerance dc_law_tolerance pm_law_tolerance an_law_tolerance cd_law_tolerance ct_law_tolerance), sl_law_tolerance⟩)
    (c_law_tolerance : PySem.W.codeIn K cd_law_tolerance "_law_tolerance" = true)
    (k_law_tolerance : PySem.W.keepIn K (.ref f_law_tolerance) = true)
    (a_law_row : PySem.W.nsIn K mainGlobals "_law_row" = some (some (.ref f_law_row)))
    (l_law_row : K.lookup f_law_row = some ⟨oc_law_row, od_law_row, .func (PySem.W.fnOf "_law_row" "_law_row" (defArgs s_law_row) (defBody s_law_row) (defScope s_law_row) .none kV_law_row dc_law_row pm_law_row an_law_row cd_law_row ct_law_row), sl_law_row⟩)
    (c_law_row : PySem.W.codeIn K cd_law_row "_law_row" = true)
    (k_law_row : PySem.W.keepIn K (.ref f_law_row) = true)
    (a_law_unlike : PySem.W.nsIn K mainGlobals "_law_unlike" = some (some (.ref f_law_unlike)))
    (l_law_unlike : K.lookup f_law_unlike = some ⟨oc_law_unlike, od_law_unlike, .func (PySem.W.fnOf "_law_unlike" "_law_unlike" (defArgs s_law_unlike) (defBody s_law_unlike) (defScope s_law_unlike) .none kV_law_unlike dc_law_unlike pm_law_unlike an_law_unlike cd_law_unlike ct_law_unlike), sl_law_unlike⟩)
    (c_law_unlike : PySem.W.codeIn K cd_law_unlike "_law_unlike" = true)
    (k_law_unlike : PySem.W.keepIn K (.ref f_law_unlike) = true)
    (a_law_wider : PySem.W.nsIn K mainGlobals "_law_wider" = some (some (.ref f_law_wider)))
    (l_law_wider : K.lookup f_law_wider = some ⟨oc_law_wider, od_law_wider, .func (PySem.W.fnOf "_law_wider" "_law_wider" (defArgs s_law_wider) (defBody s_law_wider) (defScope s_law_wider) .none kV_law_wider dc_law_wider pm_law_wider an_law_wider cd_law_wider ct_law_wider), sl_law_wider⟩)
    (c_law_wider : PySem.W.codeIn K cd_law_wider "_law_wider" = true)
    (k_law_wider : PySem.W.keepIn K (.ref f_law_wider) = true)
    (a_law : PySem.W.nsIn K mainGlobals "law" = some (some (.ref f_law)))
    (l_law : K.lookup f_law = some ⟨oc_law, od_law, .func (PySem.W.fnOf "law" "law" (defArgs s_law) (defBody s_law) (defScope s_law) .none kV_law dc_law pm_law an_law cd_law ct_law), sl_law⟩)
    (c_law : PySem.W.codeIn K cd_law "law" = true)
    (k_law : PySem.W.keepIn K (.ref f_law) = true)
    (z_abs : PySem.W.nsIn K mainGlobals "abs" = some none)
    (z_all : PySem.W.nsIn K mainGlobals "all" = some none)
    (z_any : PySem.W.nsIn K mainGlobals "any" = some none)
    (z_bool : PySem.W.nsIn K mainGlobals "bool" = some none)
    (z_dict : PySem.W.nsIn K mainGlobals "dict" = some none)
    (z_divmod : PySem.W.nsIn K mainGlobals "divmod" = some none)
    (z_enumerate : PySem.W.nsIn K mainGlobals "enumerate" = some none)
    (z_int : PySem.W.nsIn K mainGlobals "int" = some none)
    (z_isinstance : PySem.W.nsIn K mainGlobals "isinstance" = some none)
    (z_len : PySem.W.nsIn K mainGlobals "len" = some none)
    (z_list : PySem.W.nsIn K mainGlobals "list" = some none)
    (z_max : PySem.W.nsIn K mainGlobals "max" = some none)
    (z_min : PySem.W.nsIn K mainGlobals "min" = some none)
    (z_range : PySem.W.nsIn K mainGlobals "range" = some none)
    (z_set : PySem.W.nsIn K mainGlobals "set" = some none)
    (z_sorted : PySem.W.nsIn K mainGlobals "sorted" = some none)
    (z_str : PySem.W.nsIn K mainGlobals "str" = some none)
    (z_tuple : PySem.W.nsIn K mainGlobals "tuple" = some none)
    (z_zip : PySem.W.nsIn K mainGlobals "zip" = some none)
    : ∃ fd : FuncData, (∀ (s : Shared) (v : Value), BindsTo s fd ⟨[v], []⟩ [("_law_script", v)]) ∧ ∀ base : Heap, K.In base → base.Ns mainGlobals mg → FnOk l.prog w K mg base CX0 9 fa fd ["_law_script"] (spLaw K) := by
  have e := hfa.symm.trans (PySem.W.mg_of X G a_law)
  cases e
  have F_is_name := fun_mk (st := s_is_name) l_is_name c_is_name k_is_name
  have F_is_number := fun_mk (st := s_is_number) l_is_number c_is_number k_is_number
  have F_is_tolerance := fun_mk (st := s_is_tolerance) l_is_tolerance c_is_tolerance k_is_tolerance
  have F_check_number := fun_mk (st := s_check_number) l_check_number c_check_number k_check_number
  have F_check_tolerance := fun_mk (st := s_check_tolerance) l_check_tolerance c_check_tolerance k_check_tolerance
  have F_check_row := fun_mk (st := s_check_row) l_check_row c_check_row k_check_row
  have F_is_place := fun_mk (st := s_is_place) l_is_place c_is_place k_is_place
  have F_is_group := fun_mk (st := s_is_group) l_is_group c_is_group k_is_group
  have F_are_groups := fun_mk (st := s_are_groups) l_are_groups c_are_groups k_are_groups
  have F_sign_of := fun_mk (st := s_sign_of) l_sign_of c_sign_of k_sign_of
  have F_place_at := fun_mk (st := s_place_at) l_place_at c_place_at k_place_at
  have F_place := fun_mk (st := s_place) l_place c_place k_place
  have F_group := fun_mk (st := s_group) l_group c_group k_group
  have F_is_rule := fun_mk (st := s_is_rule) l_is_rule c_is_rule k_is_rule
  have F_checked_rules := fun_mk (st := s_checked_rules) l_checked_rules c_checked_rules k_checked_rules
  have F_is_answer := fun_mk (st := s_is_answer) l_is_answer c_is_answer k_is_answer
  have F_checked_answers := fun_mk (st := s_checked_answers) l_checked_answers c_checked_answers k_checked_answers
  have F_used_rules := fun_mk (st := s_used_rules) l_used_rules c_used_rules k_used_rules
  have F_Loop__init : FunD K "__init__" "Loop.__init__" (defArgs s_Loop__init) (defBody s_Loop__init) (defScope s_Loop__init) [.non] [] f_Loop__init _ := ⟨⟨_, _, _, _, _, _, _, _, _, _, rfl, l_Loop__init, c_Loop__init, .inr ⟨by decide, _, _, [.none], _, rfl, dl_Loop__init, rfl, (.cons rfl .nil)⟩, .inl rfl⟩, k_Loop__init⟩
  have F_Loop_rules := fun_mk (st := s_Loop_rules) l_Loop_rules c_Loop_rules k_Loop_rules
  have F_Loop_start := fun_mk (st := s_Loop_start) l_Loop_start c_Loop_start k_Loop_start
  have F_Loop_answers := fun_mk (st := s_Loop_answers) l_Loop_answers c_Loop_answers k_Loop_answers
  have F_Loop_fitting := fun_mk (st := s_Loop_fitting) l_Loop_fitting c_Loop_fitting k_Loop_fitting
  have F_step := fun_mk (st := s_step) l_step c_step k_step
  have F_Run__init := fun_mk (st := s_Run__init) l_Run__init c_Run__init k_Run__init
  have F_u_place := fun_mk (st := s_u_place) l_u_place c_u_place k_u_place
  have F_run := fun_mk (st := s_run) l_run c_run k_run
  have F_cells_and_ranks := fun_mk (st := s_cells_and_ranks) l_cells_and_ranks c_cells_and_ranks k_cells_and_ranks
  have F_ranked := fun_mk (st := s_ranked) l_ranked c_ranked k_ranked
  have F_law_source := fun_mk (st := s_law_source) l_law_source c_law_source k_law_source
  have F_law_draw := fun_mk (st := s_law_draw) l_law_draw c_law_draw k_law_draw
  have F_law_pick := fun_mk (st := s_law_pick) l_law_pick c_law_pick k_law_pick
  have F_law_name := fun_mk (st := s_law_name) l_law_name c_law_name k_law_name
  have F_law_names := fun_mk (st := s_law_names) l_law_names c_law_names k_law_names
  have F_law_places := fun_mk (st := s_law_places) l_law_places c_law_places k_law_places
  have F_law_group_names := fun_mk (st := s_law_group_names) l_law_group_names c_law_group_names k_law_group_names
  have F_law_groups := fun_mk (st := s_law_groups) l_law_groups c_law_groups k_law_groups
  have F_law_rules := fun_mk (st := s_law_rules) l_law_rules c_law_rules k_law_rules
  have F_law_states := fun_mk (st := s_law_states) l_law_states c_law_states k_law_states
  have F_law_answers := fun_mk (st := s_law_answers) l_law_answers c_law_answers k_law_answers
  have F_law_tolerance := fun_mk (st := s_law_tolerance) l_law_tolerance c_law_tolerance k_law_tolerance
  have F_law_row := fun_mk (st := s_law_row) l_law_row c_law_row k_law_row
  have F_law_unlike := fun_mk (st := s_law_unlike) l_law_unlike c_law_unlike k_law_unlike
  have F_law_wider := fun_mk (st := s_law_wider) l_law_wider c_law_wider k_law_wider
  have F_law := fun_mk (st := s_law) l_law c_law k_law
  have b_is_name := F_is_name.binds (ps := ["thing"]) fun _ _ _ _ _ _ us hl => match us, hl with | [_], _ => rfl
  have b_is_number := F_is_number.binds (ps := ["thing"]) fun _ _ _ _ _ _ us hl => match us, hl with | [_], _ => rfl
  have b_is_tolerance := F_is_tolerance.binds (ps := ["thing"]) fun _ _ _ _ _ _ us hl => match us, hl with | [_], _ => rfl
  have b_check_number := F_check_number.binds (ps := ["number"]) fun _ _ _ _ _ _ us hl => match us, hl with | [_], _ => rfl
  have b_check_tolerance := F_check_tolerance.binds (ps := ["tolerance"]) fun _ _ _ _ _ _ us hl => match us, hl with | [_], _ => rfl
  have b_check_row := F_check_row.binds (ps := ["row"]) fun _ _ _ _ _ _ us hl => match us, hl with | [_], _ => rfl
  have b_is_place := F_is_place.binds (ps := ["thing"]) fun _ _ _ _ _ _ us hl => match us, hl with | [_], _ => rfl
  have b_is_group := F_is_group.binds (ps := ["thing"]) fun _ _ _ _ _ _ us hl => match us, hl with | [_], _ => rfl
  have b_are_groups := F_are_groups.binds (ps := ["things"]) fun _ _ _ _ _ _ us hl => match us, hl with | [_], _ => rfl
  have b_sign_of := F_sign_of.binds (ps := ["rest", "other"]) fun _ _ _ _ _ _ us hl => match us, hl with | [_, _], _ => rfl
  have b_place_at := F_place_at.binds (ps := ["step", "sign"]) fun _ _ _ _ _ _ us hl => match us, hl with | [_, _], _ => rfl
  have b_place := F_place.binds (ps := ["x", "kept", "tolerance"]) fun _ _ _ _ _ _ us hl => match us, hl with | [_, _, _], _ => rfl
  have b_group := F_group.binds (ps := ["name"]) fun _ _ _ _ _ _ us hl => match us, hl with | [_], _ => rfl
  have b_is_rule := F_is_rule.binds (ps := ["thing"]) fun _ _ _ _ _ _ us hl => match us, hl with | [_], _ => rfl
  have b_checked_rules := F_checked_rules.binds (ps := ["rules"]) fun _ _ _ _ _ _ us hl => match us, hl with | [_], _ => rfl
  have b_is_answer := F_is_answer.binds (ps := ["thing"]) fun _ _ _ _ _ _ us hl => match us, hl with | [_], _ => rfl
  have b_checked_answers := F_checked_answers.binds (ps := ["states", "answers"]) fun _ _ _ _ _ _ us hl => match us, hl with | [_, _], _ => rfl
  have b_used_rules := F_used_rules.binds (ps := ["rules"]) fun _ _ _ _ _ _ us hl => match us, hl with | [_], _ => rfl
  have bd_Loop__init := F_Loop__init.binds1 (ps := ["self", "rules", "answers"]) 2 0 (by decide) rfl fun _ _ _ _ _ _ _ us its h1 h2 => match us, h1, its, h2 with | [_, _], _, [_], _ => ⟨_, rfl, rfl⟩
  have b_Loop__init := binds_nil (F_Loop__init.binds1 (ps := ["self", "rules", "answers"]) 3 1 (by decide) rfl fun _ _ _ _ _ _ _ us its h1 h2 => match us, h1, its, h2 with | [_, _, _], _, [_], _ => ⟨_, rfl, rfl⟩)
  have b_Loop_rules := F_Loop_rules.binds (ps := ["self"]) fun _ _ _ _ _ _ us hl => match us, hl with | [_], _ => rfl
  have b_Loop_start := F_Loop_start.binds (ps := ["self"]) fun _ _ _ _ _ _ us hl => match us, hl with | [_], _ => rfl
  have b_Loop_answers := F_Loop_answers.binds (ps := ["self"]) fun _ _ _ _ _ _ us hl => match us, hl with | [_], _ => rfl
  have b_Loop_fitting := F_Loop_fitting.binds (ps := ["self", "state", "place"]) fun _ _ _ _ _ _ us hl => match us, hl with | [_, _, _], _ => rfl
  have b_step := F_step.binds (ps := ["loop", "state", "place"]) fun _ _ _ _ _ _ us hl => match us, hl with | [_, _, _], _ => rfl
  have b_Run__init := F_Run__init.binds (ps := ["self", "words", "keeps", "kept", "state", "answer"]) fun _ _ _ _ _ _ us hl => match us, hl with | [_, _, _, _, _, _], _ => rfl
  have b_u_place := F_u_place.binds (ps := ["number", "kept", "tolerance"]) fun _ _ _ _ _ _ us hl => match us, hl with | [_, _, _], _ => rfl
  have b_run := F_run.binds (ps := ["loop", "row", "tolerance"]) fun _ _ _ _ _ _ us hl => match us, hl with | [_, _, _], _ => rfl
  have b_cells_and_ranks := F_cells_and_ranks.binds (ps := ["row", "tolerance"]) fun _ _ _ _ _ _ us hl => match us, hl with | [_, _], _ => rfl
  have b_ranked := F_ranked.binds (ps := ["row", "tolerance"]) fun _ _ _ _ _ _ us hl => match us, hl with | [_, _], _ => rfl
  have b_law_source := F_law_source.binds (ps := ["_law_script"]) fun _ _ _ _ _ _ us hl => match us, hl with | [_], _ => rfl
  have b_law_draw := F_law_draw.binds (ps := ["_law_source_here", "_law_many"]) fun _ _ _ _ _ _ us hl => match us, hl with | [_, _], _ => rfl
  have b_law_pick := F_law_pick.binds (ps := ["_law_source_here", "_law_things"]) fun _ _ _ _ _ _ us hl => match us, hl with | [_, _], _ => rfl
  have b_law_name := F_law_name.binds (ps := ["_law_source_here", "_law_taken"]) fun _ _ _ _ _ _ us hl => match us, hl with | [_, _], _ => rfl
  have b_law_names := F_law_names.binds (ps := ["_law_source_here", "_law_many"]) fun _ _ _ _ _ _ us hl => match us, hl with | [_, _], _ => rfl
  have b_law_places := F_law_places.binds (ps := []) fun _ _ _ _ _ _ us hl => match us, hl with | [], _ => rfl
  have b_law_group_names := F_law_group_names.binds (ps := []) fun _ _ _ _ _ _ us hl => match us, hl with | [], _ => rfl
  have b_law_groups := F_law_groups.binds (ps := ["_law_source_here", "_law_first"]) fun _ _ _ _ _ _ us hl => match us, hl with | [_, _], _ => rfl
  have b_law_rules := F_law_rules.binds (ps := ["_law_source_here", "_law_many", "_law_most"]) fun _ _ _ _ _ _ us hl => match us, hl with | [_, _, _], _ => rfl
  have b_law_states := F_law_states.binds (ps := ["_law_rules_here"]) fun _ _ _ _ _ _ us hl => match us, hl with | [_], _ => rfl
  have b_law_answers := F_law_answers.binds (ps := ["_law_source_here", "_law_rules_here"]) fun _ _ _ _ _ _ us hl => match us, hl with | [_, _], _ => rfl
  have b_law_tolerance := F_law_tolerance.binds (ps := ["_law_source_here"]) fun _ _ _ _ _ _ us hl => match us, hl with | [_], _ => rfl
  have b_law_row := F_law_row.binds (ps := ["_law_source_here", "_law_most", "_law_tolerance_here"]) fun _ _ _ _ _ _ us hl => match us, hl with | [_, _, _], _ => rfl
  have b_law_unlike := F_law_unlike.binds (ps := ["_law_numbers"]) fun _ _ _ _ _ _ us hl => match us, hl with | [_], _ => rfl
  have b_law_wider := F_law_wider.binds (ps := ["_law_source_here", "_law_row_here", "_law_tolerance_here"]) fun _ _ _ _ _ _ us hl => match us, hl with | [_, _, _], _ => rfl
  have b_law := F_law.binds (ps := ["_law_script"]) fun _ _ _ _ _ _ us hl => match us, hl with | [_], _ => rfl
  have y_GROUPS : ∀ (j : Nat) (nm : Str) (ps : List Str), l_GROUPS[j]? = some (nm, ps) → ∃ u : Addr, PySem.W.nsIn K a_GROUPS nm = some (some (.ref u)) ∧ ∀ H : Hp, SqT K H u (ps.map V.str) := fun j nm ps h => match j, h with
    | 0, h => by
      cases Option.some.inj h
      exact ⟨g_GROUPS_0, by rw [PySem.W.nsIn, lk_GROUPS] <;> rfl, fun H => .inr ⟨_, _, _, lg_GROUPS_0, rfl, rfl, (by show 11 ≤ sizeLine; decide), (.cons ⟨_, rfl⟩ (.cons ⟨_, rfl⟩ (.cons ⟨_, rfl⟩ (.cons ⟨_, rfl⟩ (.cons ⟨_, rfl⟩ (.cons ⟨_, rfl⟩ (.cons ⟨_, rfl⟩ (.cons ⟨_, rfl⟩ (.cons ⟨_, rfl⟩ (.cons ⟨_, rfl⟩ (.cons ⟨_, rfl⟩ .nil)))))))))))⟩⟩
    | 1, h => by
      cases Option.some.inj h
      exact ⟨g_GROUPS_1, by rw [PySem.W.nsIn, lk_GROUPS] <;> rfl, fun H => .inr ⟨_, _, _, lg_GROUPS_1, rfl, rfl, (by show 7 ≤ sizeLine; decide), (.cons ⟨_, rfl⟩ (.cons ⟨_, rfl⟩ (.cons ⟨_, rfl⟩ (.cons ⟨_, rfl⟩ (.cons ⟨_, rfl⟩ (.cons ⟨_, rfl⟩ (.cons ⟨_, rfl⟩ .nil)))))))⟩⟩
    | 2, h => by
      cases Option.some.inj h
      exact ⟨g_GROUPS_2, by rw [PySem.W.nsIn, lk_GROUPS] <;> rfl, fun H => .inr ⟨_, _, _, lg_GROUPS_2, rfl, rfl, (by show 4 ≤ sizeLine; decide), (.cons ⟨_, rfl⟩ (.cons ⟨_, rfl⟩ (.cons ⟨_, rfl⟩ (.cons ⟨_, rfl⟩ .nil))))⟩⟩
    | 3, h => by
      cases Option.some.inj h
      exact ⟨g_GROUPS_3, by rw [PySem.W.nsIn, lk_GROUPS] <;> rfl, fun H => .inr ⟨_, _, _, lg_GROUPS_3, rfl, rfl, (by show 5 ≤ sizeLine; decide), (.cons ⟨_, rfl⟩ (.cons ⟨_, rfl⟩ (.cons ⟨_, rfl⟩ (.cons ⟨_, rfl⟩ (.cons ⟨_, rfl⟩ .nil)))))⟩⟩
    | 4, h => by
      cases Option.some.inj h
      exact ⟨g_GROUPS_4, by rw [PySem.W.nsIn, lk_GROUPS] <;> rfl, fun H => .inr ⟨_, _, _, lg_GROUPS_4, rfl, rfl, (by show 5 ≤ sizeLine; decide), (.cons ⟨_, rfl⟩ (.cons ⟨_, rfl⟩ (.cons ⟨_, rfl⟩ (.cons ⟨_, rfl⟩ (.cons ⟨_, rfl⟩ .nil)))))⟩⟩
    | 5, h => by
      cases Option.some.inj h
      exact ⟨g_GROUPS_5, by rw [PySem.W.nsIn, lk_GROUPS] <;> rfl, fun H => .inr ⟨_, _, _, lg_GROUPS_5, rfl, rfl, (by show 2 ≤ sizeLine; decide), (.cons ⟨_, rfl⟩ (.cons ⟨_, rfl⟩ .nil))⟩⟩
    | 6, h => by
      cases Option.some.inj h
      exact ⟨g_GROUPS_6, by rw [PySem.W.nsIn, lk_GROUPS] <;> rfl, fun H => .inr ⟨_, _, _, lg_GROUPS_6, rfl, rfl, (by show 2 ≤ sizeLine; decide), (.cons ⟨_, rfl⟩ (.cons ⟨_, rfl⟩ .nil))⟩⟩
    | 7, h => by
      cases Option.some.inj h
      exact ⟨g_GROUPS_7, by rw [PySem.W.nsIn, lk_GROUPS] <;> rfl, fun H => .inr ⟨_, _, _, lg_GROUPS_7, rfl, rfl, (by show 3 ≤ sizeLine; decide), (.cons ⟨_, rfl⟩ (.cons ⟨_, rfl⟩ (.cons ⟨_, rfl⟩ .nil)))⟩⟩
    | 8, h => by
      cases Option.some.inj h
      exact ⟨g_GROUPS_8, by rw [PySem.W.nsIn, lk_GROUPS] <;> rfl, fun H => .inr ⟨_, _, _, lg_GROUPS_8, rfl, rfl, (by show 0 ≤ sizeLine; decide), .nil⟩⟩
    | _ + 9, h => by cases h
  have z_GROUPS : ∀ z : Str, z ∉ l_GROUPS.map (·.1) → PySem.W.nsIn K a_GROUPS z = some none := fun z hz => by
    have n0 : (Value.str "any" t_GROUPS_0).isStr z = false := isStr_ne (fun q => hz (by rw [← q]; decide +kernel))
    have n1 : (Value.str "near" t_GROUPS_1).isStr z = false := isStr_ne (fun q => hz (by rw [← q]; decide +kernel))
    have n2 : (Value.str "far" t_GROUPS_2).isStr z = false := isStr_ne (fun q => hz (by rw [← q]; decide +kernel))
    have n3 : (Value.str "less" t_GROUPS_3).isStr z = false := isStr_ne (fun q => hz (by rw [← q]; decide +kernel))
    have n4 : (Value.str "more" t_GROUPS_4).isStr z = false := isStr_ne (fun q => hz (by rw [← q]; decide +kernel))
    have n5 : (Value.str "under" t_GROUPS_5).isStr z = false := isStr_ne (fun q => hz (by rw [← q]; decide +kernel))
    have n6 : (Value.str "over" t_GROUPS_6).isStr z = false := isStr_ne (fun q => hz (by rw [← q]; decide +kernel))
    have n7 : (Value.str "cell" t_GROUPS_7).isStr z = false := isStr_ne (fun q => hz (by rw [← q]; decide +kernel))
    have n8 : (Value.str "none" t_GROUPS_8).isStr z = false := isStr_ne (fun q => hz (by rw [← q]; decide +kernel))
    rw [PySem.W.nsIn, lk_GROUPS]
    simp only [List.find?, List.any, n0, n1, n2, n3, n4, n5, n6, n7, n8]
    rfl
  let T : Txt w K mg := {
C_Loop := C_Loop, m_Loop := PySem.W.mg_of X G cg_Loop, cl_Loop := ⟨cpg_Loop, chd_Loop, cpo_Loop, csa_Loop⟩,
    na_Loop_rules := cn_Loop_rules,
    na_Loop_states := cn_Loop_states,
    na_Loop_answers := cn_Loop_answers,
    na_Loop_used := cn_Loop_used,
    C_Run := C_Run, m_Run := PySem.W.mg_of X G cg_Run, cl_Run := ⟨cpg_Run, chd_Run, cpo_Run, csa_Run⟩,
    na_Run_words := cn_Run_words,
    na_Run_keeps := cn_Run_keeps,
    na_Run_kept := cn_Run_kept,
    na_Run_last := cn_Run_last,
    na_Run_state := cn_Run_state,
    na_Run_answer := cn_Run_answer,
    t_LETTERS := t_LETTERS, m_LETTERS := PySem.W.mg_of X G g_LETTERS,
    t_MOST_ITEMS := t_MOST_ITEMS, m_MOST_ITEMS := PySem.W.mg_of X G g_MOST_ITEMS,
    t_MOST_RULES := t_MOST_RULES, m_MOST_RULES := PySem.W.mg_of X G g_MOST_RULES,
    t_MOST_STATES := t_MOST_STATES, m_MOST_STATES := PySem.W.mg_of X G g_MOST_STATES,
    f_Loop__init := f_Loop__init, d_Loop__init := _, F_Loop__init := F_Loop__init, b_Loop__init := b_Loop__init, bd1_Loop__init := bd_Loop__init, mk_Loop := ⟨cmk_Loop, a_Loop__init, i_Loop__init, ckc_Loop⟩,
    f_Loop_rules := f_Loop_rules, d_Loop_rules := _, F_Loop_rules := F_Loop_rules, b_Loop_rules := b_Loop_rules, p_Loop_rules := p_Loop_rules, pr_Loop_rules := ⟨pa_Loop_rules, pg_Loop_rules, pt_Loop_rules, ⟨_, pc_Loop_rules⟩⟩,
    f_Loop_start := f_Loop_start, d_Loop_start := _, F_Loop_start := F_Loop_start, b_Loop_start := b_Loop_start, p_Loop_start := p_Loop_start, pr_Loop_start := ⟨pa_Loop_start, pg_Loop_start, pt_Loop_start, ⟨_, pc_Loop_start⟩⟩,
    f_Loop_answers := f_Loop_answers, d_Loop_answers := _, F_Loop_answers := F_Loop_answers, b_Loop_answers := b_Loop_answers, p_Loop_answers := p_Loop_answers, pr_Loop_answers := ⟨pa_Loop_answers, pg_Loop_answers, pt_Loop_answers, ⟨_, pc_Loop_answers⟩⟩,
    f_Loop_fitting := f_Loop_fitting, d_Loop_fitting := _, F_Loop_fitting := F_Loop_fitting, b_Loop_fitting := b_Loop_fitting, mt_Loop_fitting := ⟨a_Loop_fitting, i_Loop_fitting, k_Loop_fitting⟩,
    f_Run__init := f_Run__init, d_Run__init := _, F_Run__init := F_Run__init, b_Run__init := b_Run__init, mk_Run := ⟨cmk_Run, a_Run__init, i_Run__init, ckc_Run⟩,
    f_is_name := f_is_name, d_is_name := _, F_is_name := F_is_name, b_is_name := b_is_name, m_is_name := PySem.W.mg_of X G a_is_name,
    f_is_number := f_is_number, d_is_number := _, F_is_number := F_is_number, b_is_number := b_is_number, m_is_number := PySem.W.mg_of X G a_is_number,
    f_is_tolerance := f_is_tolerance, d_is_tolerance := _, F_is_tolerance := F_is_tolerance, b_is_tolerance := b_is_tolerance, m_is_tolerance := PySem.W.mg_of X G a_is_tolerance,
    f_check_number := f_check_number, d_check_number := _, F_check_number := F_check_number, b_check_number := b_check_number, m_check_number := PySem.W.mg_of X G a_check_number,
    f_check_tolerance := f_check_tolerance, d_check_tolerance := _, F_check_tolerance := F_check_tolerance, b_check_tolerance := b_check_tolerance, m_check_tolerance := PySem.W.mg_of X G a_check_tolerance,
    f_check_row := f_check_row, d_check_row := _, F_check_row := F_check_row, b_check_row := b_check_row, m_check_row := PySem.W.mg_of X G a_check_row,
    f_is_place := f_is_place, d_is_place := _, F_is_place := F_is_place, b_is_place := b_is_place, m_is_place := PySem.W.mg_of X G a_is_place,
    f_is_group := f_is_group, d_is_group := _, F_is_group := F_is_group, b_is_group := b_is_group, m_is_group := PySem.W.mg_of X G a_is_group,
    f_are_groups := f_are_groups, d_are_groups := _, F_are_groups := F_are_groups, b_are_groups := b_are_groups, m_are_groups := PySem.W.mg_of X G a_are_groups,
    f_sign_of := f_sign_of, d_sign_of := _, F_sign_of := F_sign_of, b_sign_of := b_sign_of, m_sign_of := PySem.W.mg_of X G a_sign_of,
    f_place_at := f_place_at, d_place_at := _, F_place_at := F_place_at, b_place_at := b_place_at, m_place_at := PySem.W.mg_of X G a_place_at,
    f_place := f_place, d_place := _, F_place := F_place, b_place := b_place, m_place := PySem.W.mg_of X G a_place,
    f_group := f_group, d_group := _, F_group := F_group, b_group := b_group, m_group := PySem.W.mg_of X G a_group,
    f_is_rule := f_is_rule, d_is_rule := _, F_is_rule := F_is_rule, b_is_rule := b_is_rule, m_is_rule := PySem.W.mg_of X G a_is_rule,
    f_checked_rules := f_checked_rules, d_checked_rules := _, F_checked_rules := F_checked_rules, b_checked_rules := b_checked_rules, m_checked_rules := PySem.W.mg_of X G a_checked_rules,
    f_is_answer := f_is_answer, d_is_answer := _, F_is_answer := F_is_answer, b_is_answer := b_is_answer, m_is_answer := PySem.W.mg_of X G a_is_answer,
    f_checked_answers := f_checked_answers, d_checked_answers := _, F_checked_answers := F_checked_answers, b_checked_answers := b_checked_answers, m_checked_answers := PySem.W.mg_of X G a_checked_answers,
    f_used_rules := f_used_rules, d_used_rules := _, F_used_rules := F_used_rules, b_used_rules := b_used_rules, m_used_rules := PySem.W.mg_of X G a_used_rules,
    f_step := f_step, d_step := _, F_step := F_step, b_step := b_step, m_step := PySem.W.mg_of X G a_step,
    f_u_place := f_u_place, d_u_place := _, F_u_place := F_u_place, b_u_place := b_u_place, m_u_place := PySem.W.mg_of X G a_u_place,
    f_run := f_run, d_run := _, F_run := F_run, b_run := b_run, m_run := PySem.W.mg_of X G a_run,
    f_cells_and_ranks := f_cells_and_ranks, d_cells_and_ranks := _, F_cells_and_ranks := F_cells_and_ranks, b_cells_and_ranks := b_cells_and_ranks, m_cells_and_ranks := PySem.W.mg_of X G a_cells_and_ranks,
    f_ranked := f_ranked, d_ranked := _, F_ranked := F_ranked, b_ranked := b_ranked, m_ranked := PySem.W.mg_of X G a_ranked,
    f_law_source := f_law_source, d_law_source := _, F_law_source := F_law_source, b_law_source := b_law_source, m_law_source := PySem.W.mg_of X G a_law_source,
    f_law_draw := f_law_draw, d_law_draw := _, F_law_draw := F_law_draw, b_law_draw := b_law_draw, m_law_draw := PySem.W.mg_of X G a_law_draw,
    f_law_pick := f_law_pick, d_law_pick := _, F_law_pick := F_law_pick, b_law_pick := b_law_pick, m_law_pick := PySem.W.mg_of X G a_law_pick,
    f_law_name := f_law_name, d_law_name := _, F_law_name := F_law_name, b_law_name := b_law_name, m_law_name := PySem.W.mg_of X G a_law_name,
    f_law_names := f_law_names, d_law_names := _, F_law_names := F_law_names, b_law_names := b_law_names, m_law_names := PySem.W.mg_of X G a_law_names,
    f_law_places := f_law_places, d_law_places := _, F_law_places := F_law_places, b_law_places := b_law_places, m_law_places := PySem.W.mg_of X G a_law_places,
    f_law_group_names := f_law_group_names, d_law_group_names := _, F_law_group_names := F_law_group_names, b_law_group_names := b_law_group_names, m_law_group_names := PySem.W.mg_of X G a_law_group_names,
    f_law_groups := f_law_groups, d_law_groups := _, F_law_groups := F_law_groups, b_law_groups := b_law_groups, m_law_groups := PySem.W.mg_of X G a_law_groups,
    f_law_rules := f_law_rules, d_law_rules := _, F_law_rules := F_law_rules, b_law_rules := b_law_rules, m_law_rules := PySem.W.mg_of X G a_law_rules,
    f_law_states := f_law_states, d_law_states := _, F_law_states := F_law_states, b_law_states := b_law_states, m_law_states := PySem.W.mg_of X G a_law_states,
    f_law_answers := f_law_answers, d_law_answers := _, F_law_answers := F_law_answers, b_law_answers := b_law_answers, m_law_answers := PySem.W.mg_of X G a_law_answers,
    f_law_tolerance := f_law_tolerance, d_law_tolerance := _, F_law_tolerance := F_law_tolerance, b_law_tolerance := b_law_tolerance, m_law_tolerance := PySem.W.mg_of X G a_law_tolerance,
    f_law_row := f_law_row, d_law_row := _, F_law_row := F_law_row, b_law_row := b_law_row, m_law_row := PySem.W.mg_of X G a_law_row,
    f_law_unlike := f_law_unlike, d_law_unlike := _, F_law_unlike := F_law_unlike, b_law_unlike := b_law_unlike, m_law_unlike := PySem.W.mg_of X G a_law_unlike,
    f_law_wider := f_law_wider, d_law_wider := _, F_law_wider := F_law_wider, b_law_wider := b_law_wider, m_law_wider := PySem.W.mg_of X G a_law_wider,
    f_law := fa, d_law := _, F_law := F_law, b_law := b_law, m_law := hfa,
    m_abs := PySem.W.mg_none_of X G z_abs,
    m_all := PySem.W.mg_none_of X G z_all,
    m_any := PySem.W.mg_none_of X G z_any,
    m_bool := PySem.W.mg_none_of X G z_bool,
    m_dict := PySem.W.mg_none_of X G z_dict,
    m_divmod := PySem.W.mg_none_of X G z_divmod,
    m_enumerate := PySem.W.mg_none_of X G z_enumerate,
    m_int := PySem.W.mg_none_of X G z_int,
    m_isinstance := PySem.W.mg_none_of X G z_isinstance,
    m_len := PySem.W.mg_none_of X G z_len,
    m_list := PySem.W.mg_none_of X G z_list,
    m_max := PySem.W.mg_none_of X G z_max,
    m_min := PySem.W.mg_none_of X G z_min,
    m_range := PySem.W.mg_none_of X G z_range,
    m_set := PySem.W.mg_none_of X G z_set,
    m_sorted := PySem.W.mg_none_of X G z_sorted,
    m_str := PySem.W.mg_none_of X G z_str,
    m_tuple := PySem.W.mg_none_of X G z_tuple,
    m_zip := PySem.W.mg_none_of X G z_zip,
    a_GROUPS := a_GROUPS, m_GROUPS := PySem.W.mg_of X G x_GROUPS, e_GROUPS := _, n_GROUPS := _, kd_GROUPS := ⟨lk_GROUPS, ky_GROUPS, lo_GROUPS⟩, y_GROUPS := y_GROUPS, z_GROUPS := z_GROUPS,
    a_PLACES := a_PLACES, q_PLACES := fun H => .inr ⟨_, _, _, lk_PLACES, rfl, rfl, (by show 11 ≤ sizeLine; decide), (.cons ⟨_, rfl⟩ (.cons ⟨_, rfl⟩ (.cons ⟨_, rfl⟩ (.cons ⟨_, rfl⟩ (.cons ⟨_, rfl⟩ (.cons ⟨_, rfl⟩ (.cons ⟨_, rfl⟩ (.cons ⟨_, rfl⟩ (.cons ⟨_, rfl⟩ (.cons ⟨_, rfl⟩ (.cons ⟨_, rfl⟩ .nil)))))))))))⟩, o_PLACES := ⟨_, lk_PLACES, rfl, rfl⟩, m_PLACES := PySem.W.mg_of X G x_PLACES }
  exact ⟨PySem.W.fnOf "law" "law" (defArgs s_law) (defBody s_law) (defScope s_law) .none kV_law dc_law pm_law an_law cd_law ct_law, fun s v => .of_eq rfl, fun base _ _ => ok_law T⟩
theorem walk {l : PySem.W.OpenLaw} {q : Program} {loose : List Str} {XP : (Str → Option Value) → Heap → Prop} {YP : World → Heap → Prop} {d : DefRec} {K : Params → PySem.W.Frag} (hn : l.most = some 63) (hdf : d.params.defaults = [])
    (hY : ∀ (w : World) (h : Heap), YP w h → (K w.params).In h)
    (F : ∀ (w : World) (mg : Str → Option Value) (fa : Addr) (h : Heap), (K w.params).In h → h.Ns mainGlobals mg → mg d.name = some (.ref fa) →
      ∃ fd : FuncData, (∀ (s : Shared) (u : Value), BindsTo s fd ⟨[u], []⟩ [("_law_script", u)]) ∧ ∀ base : Heap, (K w.params).In base → base.Ns mainGlobals mg → FnOk l.prog w (K w.params) mg base CX0 9 fa fd ["_law_script"] (spLaw (K w.params))) :
    PySem.W.WalkO q loose XP YP l.row.toRowW d [] (fun f vs => PySem.call f vs) :=
  L2.walk_of (n := 63) (k := 9) (x := "_law_script") (CX := fun _ => CX0) (sp := fun w => spLaw (K w.params)) hn (by decide) hdf ⟨rfl, by decide, by decide⟩ hY F (fun _ _ a ns hl _ hS => ⟨a, ns, rfl, hS, hl, fun _ => rfl⟩) fun _ _ _ _ _ z => z
end Toy
open PySem PySem.W PyProof.Rows
set_option maxRecDepth 100000 in
set_option maxHeartbeats 0 in
theorem PySem.Challenge.cw_nearloops_k20_whole_runs_of_one_shape_holds : PySem.Challenge.rw_nearloops_k20_whole_runs_of_one_shape.Holds := by
  w_on; o_law; k_head; (case hw => w_witness2)
  k_fill
  refine Toy.walk (l := PySem.Challenge.rw_nearloops_k20_whole_runs_of_one_shape) rfl rfl (fun w h Y => PySem.W.kIn_of Y) ?F
  case F =>
    intro w mg fa h KX G hmg
    refine' Toy.all_mk KX G hmg ?x_PLACES ?lk_PLACES ?x_GROUPS ?lk_GROUPS ?ky_GROUPS ?lo_GROUPS ?lg_GROUPS_0 ?lg_GROUPS_1 ?lg_GROUPS_2 ?lg_GROUPS_3 ?lg_GROUPS_4 ?lg_GROUPS_5 ?lg_GROUPS_6 ?lg_GROUPS_7 ?lg_GROUPS_8 ?g_LETTERS ?g_MOST_ITEMS ?g_MOST_RULES ?g_MOST_STATES ?cg_Loop ?cpg_Loop ?chd_Loop ?cpo_Loop ?csa_Loop ?cmk_Loop ?ckc_Loop ?cn_Loop_rules ?cn_Loop_states ?cn_Loop_answers ?cn_Loop_used ?cg_Run ?cpg_Run ?chd_Run ?cpo_Run ?csa_Run ?cmk_Run ?ckc_Run ?cn_Run_words ?cn_Run_keeps ?cn_Run_kept ?cn_Run_last ?cn_Run_state ?cn_Run_answer ?a_Loop__init ?i_Loop__init ?l_Loop__init ?dl_Loop__init ?c_Loop__init ?k_Loop__init ?pa_Loop_rules ?pg_Loop_rules ?pt_Loop_rules ?pc_Loop_rules ?l_Loop_rules ?c_Loop_rules ?k_Loop_rules ?pa_Loop_start ?pg_Loop_start ?pt_Loop_start ?pc_Loop_start ?l_Loop_start ?c_Loop_start ?k_Loop_start ?pa_Loop_answers ?pg_Loop_answers ?pt_Loop_answers ?pc_Loop_answers ?l_Loop_answers ?c_Loop_answers ?k_Loop_answers ?a_Loop_fitting ?i_Loop_fitting ?l_Loop_fitting ?c_Loop_fitting ?k_Loop_fitting ?a_Run__init ?i_Run__init ?l_Run__init ?c_Run__init ?k_Run__init ?a_is_name ?l_is_name ?c_is_name ?k_is_name ?a_is_number ?l_is_number ?c_is_number ?k_is_number ?a_is_tolerance ?l_is_tolerance ?c_is_tolerance ?k_is_tolerance ?a_check_number ?l_check_number ?c_check_number ?k_check_number ?a_check_tolerance ?l_check_tolerance ?c_check_tolerance ?k_check_tolerance ?a_check_row ?l_check_row ?c_check_row ?k_check_row ?a_is_place ?l_is_place ?c_is_place ?k_is_place ?a_is_group ?l_is_group ?c_is_group ?k_is_group ?a_are_groups ?l_are_groups ?c_are_groups ?k_are_groups ?a_sign_of ?l_sign_of ?c_sign_of ?k_sign_of ?a_place_at ?l_place_at ?c_place_at ?k_place_at ?a_place ?l_place ?c_place ?k_place ?a_group ?l_group ?c_group ?k_group ?a_is_rule ?l_is_rule ?c_is_rule ?k_is_rule ?a_checked_rules ?l_checked_rules ?c_checked_rules ?k_checked_rules ?a_is_answer ?l_is_answer ?c_is_answer ?k_is_answer ?a_checked_answers ?l_checked_answers ?c_checked_answers ?k_checked_answers ?a_used_rules ?l_used_rules ?c_used_rules ?k_used_rules ?a_step ?l_step ?c_step ?k_step ?a_u_place ?l_u_place ?c_u_place ?k_u_place ?a_run ?l_run ?c_run ?k_run ?a_cells_and_ranks ?l_cells_and_ranks ?c_cells_and_ranks ?k_cells_and_ranks ?a_ranked ?l_ranked ?c_ranked ?k_ranked ?a_law_source ?l_law_source ?c_law_source ?k_law_source ?a_law_draw ?l_law_draw ?c_law_draw ?k_law_draw ?a_law_pick ?l_law_pick ?c_law_pick ?k_law_pick ?a_law_name ?l_law_name ?c_law_name ?k_law_name ?a_law_names ?l_law_names ?c_law_names ?k_law_names ?a_law_places ?l_law_places ?c_law_places ?k_law_places ?a_law_group_names ?l_law_group_names ?c_law_group_names ?k_law_group_names ?a_law_groups ?l_law_groups ?c_law_groups ?k_law_groups ?a_law_rules ?l_law_rules ?c_law_rules ?k_law_rules ?a_law_states ?l_law_states ?c_law_states ?k_law_states ?a_law_answers ?l_law_answers ?c_law_answers ?k_law_answers ?a_law_tolerance ?l_law_tolerance ?c_law_tolerance ?k_law_tolerance ?a_law_row ?l_law_row ?c_law_row ?k_law_row ?a_law_unlike ?l_law_unlike ?c_law_unlike ?k_law_unlike ?a_law_wider ?l_law_wider ?c_law_wider ?k_law_wider ?a_law ?l_law ?c_law ?k_law ?z_abs ?z_all ?z_any ?z_bool ?z_dict ?z_divmod ?z_enumerate ?z_int ?z_isinstance ?z_len ?z_list ?z_max ?z_min ?z_range ?z_set ?z_sorted ?z_str ?z_tuple ?z_zip
    (case x_PLACES => k_is)
    (case lk_PLACES => k_is)
    (case x_GROUPS => k_is)
    (case lk_GROUPS => k_is)
    (case ky_GROUPS => k_keys)
    (case lo_GROUPS => rfl)
    (case lg_GROUPS_0 => k_is)
    (case lg_GROUPS_1 => k_is)
    (case lg_GROUPS_2 => k_is)
    (case lg_GROUPS_3 => k_is)
    (case lg_GROUPS_4 => k_is)
    (case lg_GROUPS_5 => k_is)
    (case lg_GROUPS_6 => k_is)
    (case lg_GROUPS_7 => k_is)
    (case lg_GROUPS_8 => k_is)
    (case g_LETTERS => k_is)
    (case g_MOST_ITEMS => k_is)
    (case g_MOST_RULES => k_is)
    (case g_MOST_STATES => k_is)
    (case cg_Loop => k_is)
    (case cpg_Loop => k_is)
    (case chd_Loop => k_is)
    (case cpo_Loop => k_is)
    (case csa_Loop => k_is)
    (case cmk_Loop => k_is)
    (case ckc_Loop => k_is)
    (case cn_Loop_rules => k_is)
    (case cn_Loop_states => k_is)
    (case cn_Loop_answers => k_is)
    (case cn_Loop_used => k_is)
    (case cg_Run => k_is)
    (case cpg_Run => k_is)
    (case chd_Run => k_is)
    (case cpo_Run => k_is)
    (case csa_Run => k_is)
    (case cmk_Run => k_is)
    (case ckc_Run => k_is)
    (case cn_Run_words => k_is)
    (case cn_Run_keeps => k_is)
    (case cn_Run_kept => k_is)
    (case cn_Run_last => k_is)
    (case cn_Run_state => k_is)
    (case cn_Run_answer => k_is)
    (case a_Loop__init => k_is)
    (case i_Loop__init => k_is)
    (case l_Loop__init => k_is)
    (case dl_Loop__init => k_is)
    (case c_Loop__init => k_is)
    (case k_Loop__init => k_is)
    (case pa_Loop_rules => k_is)
    (case pg_Loop_rules => k_is)
    (case pt_Loop_rules => k_is)
    (case pc_Loop_rules => k_is)
    (case l_Loop_rules => k_is)
    (case c_Loop_rules => k_is)
    (case k_Loop_rules => k_is)
    (case pa_Loop_start => k_is)
    (case pg_Loop_start => k_is)
    (case pt_Loop_start => k_is)
    (case pc_Loop_start => k_is)
    (case l_Loop_start => k_is)
    (case c_Loop_start => k_is)
    (case k_Loop_start => k_is)
    (case pa_Loop_answers => k_is)
    (case pg_Loop_answers => k_is)
    (case pt_Loop_answers => k_is)
    (case pc_Loop_answers => k_is)
    (case l_Loop_answers => k_is)
    (case c_Loop_answers => k_is)
    (case k_Loop_answers => k_is)
    (case a_Loop_fitting => k_is)
    (case i_Loop_fitting => k_is)
    (case l_Loop_fitting => k_is)
    (case c_Loop_fitting => k_is)
    (case k_Loop_fitting => k_is)
    (case a_Run__init => k_is)
    (case i_Run__init => k_is)
    (case l_Run__init => k_is)
    (case c_Run__init => k_is)
    (case k_Run__init => k_is)
    (case a_is_name => k_is)
    (case l_is_name => k_is)
    (case c_is_name => k_is)
    (case k_is_name => k_is)
    (case a_is_number => k_is)
    (case l_is_number => k_is)
    (case c_is_number => k_is)
    (case k_is_number => k_is)
    (case a_is_tolerance => k_is)
    (case l_is_tolerance => k_is)
    (case c_is_tolerance => k_is)
    (case k_is_tolerance => k_is)
    (case a_check_number => k_is)
    (case l_check_number => k_is)
    (case c_check_number => k_is)
    (case k_check_number => k_is)
    (case a_check_tolerance => k_is)
    (case l_check_tolerance => k_is)
    (case c_check_tolerance => k_is)
    (case k_check_tolerance => k_is)
    (case a_check_row => k_is)
    (case l_check_row => k_is)
    (case c_check_row => k_is)
    (case k_check_row => k_is)
    (case a_is_place => k_is)
    (case l_is_place => k_is)
    (case c_is_place => k_is)
    (case k_is_place => k_is)
    (case a_is_group => k_is)
    (case l_is_group => k_is)
    (case c_is_group => k_is)
    (case k_is_group => k_is)
    (case a_are_groups => k_is)
    (case l_are_groups => k_is)
    (case c_are_groups => k_is)
    (case k_are_groups => k_is)
    (case a_sign_of => k_is)
    (case l_sign_of => k_is)
    (case c_sign_of => k_is)
    (case k_sign_of => k_is)
    (case a_place_at => k_is)
    (case l_place_at => k_is)
    (case c_place_at => k_is)
    (case k_place_at => k_is)
    (case a_place => k_is)
    (case l_place => k_is)
    (case c_place => k_is)
    (case k_place => k_is)
    (case a_group => k_is)
    (case l_group => k_is)
    (case c_group => k_is)
    (case k_group => k_is)
    (case a_is_rule => k_is)
    (case l_is_rule => k_is)
    (case c_is_rule => k_is)
    (case k_is_rule => k_is)
    (case a_checked_rules => k_is)
    (case l_checked_rules => k_is)
    (case c_checked_rules => k_is)
    (case k_checked_rules => k_is)
    (case a_is_answer => k_is)
    (case l_is_answer => k_is)
    (case c_is_answer => k_is)
    (case k_is_answer => k_is)
    (case a_checked_answers => k_is)
    (case l_checked_answers => k_is)
    (case c_checked_answers => k_is)
    (case k_checked_answers => k_is)
    (case a_used_rules => k_is)
    (case l_used_rules => k_is)
    (case c_used_rules => k_is)
    (case k_used_rules => k_is)
    (case a_step => k_is)
    (case l_step => k_is)
    (case c_step => k_is)
    (case k_step => k_is)
    (case a_u_place => k_is)
    (case l_u_place => k_is)
    (case c_u_place => k_is)
    (case k_u_place => k_is)
    (case a_run => k_is)
    (case l_run => k_is)
    (case c_run => k_is)
    (case k_run => k_is)
    (case a_cells_and_ranks => k_is)
    (case l_cells_and_ranks => k_is)
    (case c_cells_and_ranks => k_is)
    (case k_cells_and_ranks => k_is)
    (case a_ranked => k_is)
    (case l_ranked => k_is)
    (case c_ranked => k_is)
    (case k_ranked => k_is)
    (case a_law_source => k_is)
    (case l_law_source => k_is)
    (case c_law_source => k_is)
    (case k_law_source => k_is)
    (case a_law_draw => k_is)
    (case l_law_draw => k_is)
    (case c_law_draw => k_is)
    (case k_law_draw => k_is)
    (case a_law_pick => k_is)
    (case l_law_pick => k_is)
    (case c_law_pick => k_is)
    (case k_law_pick => k_is)
    (case a_law_name => k_is)
    (case l_law_name => k_is)
    (case c_law_name => k_is)
    (case k_law_name => k_is)
    (case a_law_names => k_is)
    (case l_law_names => k_is)
    (case c_law_names => k_is)
    (case k_law_names => k_is)
    (case a_law_places => k_is)
    (case l_law_places => k_is)
    (case c_law_places => k_is)
    (case k_law_places => k_is)
    (case a_law_group_names => k_is)
    (case l_law_group_names => k_is)
    (case c_law_group_names => k_is)
    (case k_law_group_names => k_is)
    (case a_law_groups => k_is)
    (case l_law_groups => k_is)
    (case c_law_groups => k_is)
    (case k_law_groups => k_is)
    (case a_law_rules => k_is)
    (case l_law_rules => k_is)
    (case c_law_rules => k_is)
    (case k_law_rules => k_is)
    (case a_law_states => k_is)
    (case l_law_states => k_is)
    (case c_law_states => k_is)
    (case k_law_states => k_is)
    (case a_law_answers => k_is)
    (case l_law_answers => k_is)
    (case c_law_answers => k_is)
    (case k_law_answers => k_is)
    (case a_law_tolerance => k_is)
    (case l_law_tolerance => k_is)
    (case c_law_tolerance => k_is)
    (case k_law_tolerance => k_is)
    (case a_law_row => k_is)
    (case l_law_row => k_is)
    (case c_law_row => k_is)
    (case k_law_row => k_is)
    (case a_law_unlike => k_is)
    (case l_law_unlike => k_is)
    (case c_law_unlike => k_is)
    (case k_law_unlike => k_is)
    (case a_law_wider => k_is)
    (case l_law_wider => k_is)
    (case c_law_wider => k_is)
    (case k_law_wider => k_is)
    (case a_law => k_is)
    (case l_law => k_is)
    (case c_law => k_is)
    (case k_law => k_is)
    (case z_abs => k_is)
    (case z_all => k_is)
    (case z_any => k_is)
    (case z_bool => k_is)
    (case z_dict => k_is)
    (case z_divmod => k_is)
    (case z_enumerate => k_is)
    (case z_int => k_is)
    (case z_isinstance => k_is)
    (case z_len => k_is)
    (case z_list => k_is)
    (case z_max => k_is)
    (case z_min => k_is)
    (case z_range => k_is)
    (case z_set => k_is)
    (case z_sorted => k_is)
    (case z_str => k_is)
    (case z_tuple => k_is)
    (case z_zip => k_is)

