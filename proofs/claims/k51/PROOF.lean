-- %%D%%
import PyProof.Rows.All
import Wide.All
import OpenK.AllK
import Wide.FinOn
import HandS.Base
import HandS.Call
import HandS.List
import HandS.Ends
import HandS.Words
import HandS.WordsList
import HandS.Wide
import HandS.WideBits
import HandS.IsInst
import HandS.Comp
import HandS.Strs
import HandS.Iter
import HandS.Zip
import HandS.Codes
import HandS.More
import HandS.Dict
import HandS.WordsDict
import HandS.Style
import HandS.Text
import HandS.Walk
import HandS.Exc
import HandS.ExcOwn
import HandS.ExcInit
import HandS.ExcSuper
import KE.KExcSuper
import HandS.ExcField
import HandS.WordsExc
import HandS.Lambda
import HandS.EndTab
import HandS.EndOwn
import PyProof.DictUpdate
import HandS.SetKeys
import PyProof.DictMoreH
import KE.GoesEnum
import KE.GoesEnumKw
import HandS.Conv
import KE.KDictSum
import HandS.NoneIn
import HandS.Defaults
import HandS.Property
import HandS.TryMany
import HandS.OwnEq
import HandS.Deep
import PyProof.FactsLen
import KE.KDictZip
import HandS.FStr
import HandS.Star
import KE.KUnpackStar
import PyProof.StrLawsTight
import PyProof.Rows.StrLawsPart
import PyProof.Rows.StrItems
import HandS.TupAny
import HandS.ClsMeth
import PyProof.InstEq
import HandS.DictComp
import HandS.SetFor
import HandS.ClsMeth
import KE.SortData
import HandS.Conv
import HandS.DictTup
import PySem.Challenge.RW_nearloops_k51_bad_tables
set_option Elab.async false
set_option maxRecDepth 100000
set_option maxHeartbeats 4000000

namespace L2
open PySem PySem.Spec PyProof.Rows
section
variable {X : Cx} {pins : List (Addr × Obj)} {σ : St} {H : Hp} {s : Shared} {a b : Addr} {kvs more : List (Key × V)} {A : Around} {E : Value → Shared → Prop}
/-- d.update(d2), two dicts with keys ints and texts -/
theorem d_update {Q : Value → Shared → Prop} (I : Inv X pins σ H s) (e : H a = some (.dK kvs)) (e2 : H b = some (.dK more)) (hne : a ≠ b) (hz : kvs.length + more.length ≤ sizeLine)
    (h : ∀ s', Inv X pins σ (upd H a (.dK (mergeK kvs more))) s' → Q .none s') : wpAny (model X.prog X.w) A (call (.builtin "dict.update") [.ref a, .ref b]) Q E s := by
  obtain ⟨z, hd, vs, rel, dd⟩ := dk_of I.hok e
  obtain ⟨z2, hd2, vs2, rel2, dd2⟩ := dk_of I.hok e2
  refine call_meetsIn PySem.F.slot_dict_update dd.typeIs PySem.F.entry_dict_update (PySem.F.args_dict_update_2 _ _) (meets_dict_update (mixKind X.prog X.w) a b hne hd2)
    ⟨vs, vs2, dd, dd2, by rw [← rel.length, ← rel2.length]; exact hz, fun h' dd' _ hs => h _ ?_⟩
  have he : ∃ q, h'.get? a = some q := let ⟨q, _, _, hq, _⟩ := dd'; ⟨q, hq⟩
  exact d_write I (by rw [e]; exact True.intro) hs he (dk_new (Nat.le_trans (length_mergeK more kvs) hz) hd (rel2.merge rel) dd')
end
def tDUpd (td ty : TE) : TE := fun σ H Q => td σ H fun x H1 => ∃ a, x = .ref a ∧ IsD H1 a ∧ ty σ H1 fun y H2 => ∃ b kvs more, y = .ref b ∧ H2 a = some (.dK kvs) ∧ H2 b = some (.dK more) ∧ a ≠ b ∧ kvs.length + more.length ≤ sizeLine ∧ Q .non (upd H2 a (.dK (mergeK kvs more)))
section
variable {X : Cx} {o e : Expr} {apos cpos : Pos} {td ty : TE}
theorem pe_dupd (ho : PE X o td) (he : PE X e ty) (m : M1 X o "update" apos e cpos) : PE X (.Call (.Attribute o "update" apos) [e] [] cpos) (tDUpd td ty) := by
  refine ⟨fun pins s σ H Q I h => ?_⟩
  refine wpAny_Call_method m.base m.few m.line PySem.F.plainAttrs_dict PySem.F.slot_dict_update PySem.F.type_dict_update (thn (ho.run pins s σ H _ I h) fun u s1 ⟨x, H1, I1, rx, a, ex, d, q1⟩ => ?_)
  subst ex
  obtain rfl : u = Value.ref a := rx
  obtain ⟨t1, t2, _⟩ := isD_at I1 d
  refine ⟨t1, t2, ?_⟩
  rw [m.trees]
  refine Calls.callWith_builtin rfl (Calls.evalArgs_plain (Calls.spliced_cons (thn (he.run pins s1 σ H1 _ I1 q1) fun iv s2 ⟨y, H2, I2, ry, b, kvs, more, ey, ea, eb, hne, hz, q2⟩ => Calls.spliced_nil ?_)))
  subst ey
  obtain rfl : iv = Value.ref b := ry
  exact d_update I2 ea eb hne hz fun s3 I3 => ⟨.non, _, I3, rfl, q2⟩
end
end L2
namespace L2
open PySem PySem.Spec PyProof.Rows
section
variable {X : Cx} {pins : List (Addr × Obj)} {σ : St} {H : Hp} {s : Shared} {a b : Addr} {kvs : List (List Key × V)} {k : List Key} {d : V} {r : Value} {A : Around} {E : Value → Shared → Prop}
/-- d.setdefault((x, y), z), a dict with tuple keys -/
theorem d_setdT {Q : Value → Shared → Prop} (hu : A.units + 1 < cLine) (I : Inv X pins σ H s) (e : H a = some (.dT kvs)) (eb : H b = some (.tup (k.map kV))) (rd : RelV d r) (hl : kvs.length < sizeLine)
    (h1 : ∀ v, valV kvs k = some v → ∀ (w' : Value) (s' : Shared), Inv X pins σ H s' → RelV v w' → Q w' s') (h2 : valV kvs k = none → ∀ (w' : Value) (s' : Shared), Inv X pins σ (upd H a (.dT (putK kvs k d))) s' → RelV d w' → Q w' s') :
    wpAny (model X.prog X.w) A (call (.builtin "dict.setdefault") [.ref a, .ref b, r]) Q E s := by
  obtain ⟨z, hd, xs, rel, dd⟩ := dt_of I.hok e
  have hz : xs.length ≤ sizeLine := by rw [← Paired.length rel]; exact z
  refine call_setdefault_heap (hsz := hz) (tupleKind_room_in1 hu) (key_of I.hok eb) hd dd (fun p hp => ?_) fun hn h' dd' hs => ?_
  · have q := rel.val k
    rw [hp] at q
    cases q0 : valV kvs k with
    | none =>
      rw [q0] at q
      exact (show False from q).elim
    | some v0 =>
      rw [q0] at q
      exact h1 v0 q0 _ _ (I.tok _) q
  · have q := rel.val k
    rw [hn] at q
    cases q0 : valV kvs k with
    | some v0 =>
      rw [q0] at q
      exact (show False from q).elim
    | none =>
      have hl2 : (putK kvs k d).length ≤ sizeLine := by have := length_putK kvs k d; omega
      obtain ⟨q, es, ep, hq, g2, g3, g4, _, g5⟩ := dd'
      refine h2 q0 _ _ (d_write I (by rw [e]; exact True.intro) hs ⟨q, hq⟩ ⟨hl2, hd, _, (rel.put k eb rd).keeps fun c ys ec => ?_, q, es, ep, hq, g2, g3, g4, g5⟩) rd
      rw [upd_ne (ne_of ec e (fun z => nomatch z))]
      exact ec
end
def tDSetdT (td ty tx : TE) : TE := fun σ H Q => td σ H fun x H1 => ∃ a, x = .ref a ∧ IsD H1 a ∧ ty σ H1 fun y H2 => tx σ H2 fun z H3 => ∃ (kvs : List (List Key × V)) (k : List Key) (b : Addr), H3 a = some (.dT kvs) ∧ y = .ref b ∧ H3 b = some (.tup (k.map kV)) ∧ kvs.length < sizeLine ∧
  (∀ v, valV kvs k = some v → Q v H3) ∧ (valV kvs k = none → Q z (upd H3 a (.dT (putK kvs k z))))
section
variable {X : Cx} {o e f : Expr} {td ty tx : TE} {apos cpos : Pos}
theorem pe_dsetdT (hu : X.A.units + 1 < cLine) (ho : PE X o td) (he : PE X e ty) (hf : PE X f tx) (m : M2 X o "setdefault" apos e f cpos) : PE X (.Call (.Attribute o "setdefault" apos) [e, f] [] cpos) (tDSetdT td ty tx) := by
  refine ⟨fun pins s σ H Q I h => ?_⟩
  refine wpAny_Call_method m.base m.few m.line PySem.F.plainAttrs_dict PySem.F.slot_dict_setdefault PySem.F.type_dict_setdefault (thn (ho.run pins s σ H _ I h) fun u s1 ⟨x, H1, I1, rx, a, ex, d, q1⟩ => ?_)
  subst ex
  obtain rfl : u = Value.ref a := rx
  obtain ⟨t1, t2, _⟩ := isD_at I1 d
  refine ⟨t1, t2, ?_⟩
  rw [m.trees]
  refine Calls.callWith_builtin rfl (Calls.evalArgs_plain (Calls.spliced_cons (thn (he.run pins s1 σ H1 _ I1 q1) fun iv s2 ⟨y, H2, I2, ry, q2⟩ =>
    Calls.spliced_cons (thn (hf.run pins s2 σ H2 _ I2 q2) fun fv s3 ⟨z, H3, I3, rz, kvs, k, b, ea, ey, eb, hl, q3, q4⟩ => Calls.spliced_nil ?_))))
  subst ey
  obtain rfl : iv = Value.ref b := ry
  exact d_setdT hu I3 ea eb rz hl (fun v hv w' s4 I4 rw' => ⟨v, _, I4, rw', q3 v hv⟩) fun hn w' s4 I4 rw' => ⟨z, _, I4, rw', q4 hn⟩
end
end L2
namespace L2
open PySem PySem.Spec PyProof.Rows
/-! ### enumerate(list or tuple), enumerate(list or tuple, start=k) -/
/-- a list (b = true) or a tuple of xs is to be read at a -/
def SqB (K : PySem.W.Frag) (b : Bool) (H : Hp) (a : Addr) (xs : List V) : Prop := match b with
  | true => SqL K H a xs
  | false => SqT K H a xs
def IsB (b : Bool) (h : Heap) (a : Addr) (its : Array Value) : Prop := match b with
  | true => h.IsList a its
  | false => h.IsTuple a its
def ItB (b : Bool) (h : Heap) (it a : Addr) (i : Nat) : Prop := match b with
  | true => h.IsListIter it a i
  | false => h.IsTupleIter it a i
theorem ItB.ob {b : Bool} {h : Heap} {it a : Addr} {i : Nat} (st : ItB b h it a i) : ∃ o, h.get? it = some o ∧ ∀ v, o.data ≠ .cell v := by
  cases b with
  | true =>
    obtain ⟨o, ho, hc, hd⟩ := st
    exact ⟨o, ho, fun v q => by rw [hd] at q; cases q⟩
  | false =>
    obtain ⟨o, ho, hc, hd⟩ := st
    exact ⟨o, ho, fun v q => by rw [hd] at q; cases q⟩
theorem ItB.at {b : Bool} {h h' : Heap} {it a : Addr} {i : Nat} (st : ItB b h it a i) (k : ∀ o, h.get? it = some o → h'.get? it = some o) : ItB b h' it a i := by
  cases b with
  | true => exact Heap.IsListIter.at st k
  | false => exact Heap.IsTupleIter.at st k
theorem drawsB {prog : Program} {w : World} {A : Around} (b : Bool) (hh : A.handled = none) (it l : Addr) (hne : l ≠ it) (items : Array Value) :
    Draws prog w A it [it, l] items.size (fun i v => items[i]? = some v) (fun i h => ItB b h it l i ∧ IsB b h l items) := by
  cases b with
  | true => exact Draws.list hh it l hne items
  | false => exact Draws.tuple hh it l hne items
/-- at the end -/
theorem drawsEnd {prog : Program} {w : World} {A : Around} (b : Bool) (hh : A.handled = none) (it l : Addr) (items : Array Value) {i : Nat} (hn : items[i]? = none) :
    Draws prog w A it [it, l] i (fun _ _ => True) (fun j h => j = i ∧ ItB b h it l i ∧ IsB b h l items) where
  live := fun _ _ st => let ⟨o, ho, _⟩ := st.2.1.ob; ⟨o, ho⟩
  frame := fun _ h h' st hk => ⟨st.1, st.2.1.at fun o e => hk it (by simp) o e, by
    obtain ⟨_, _, p⟩ := st
    cases b with
    | true => exact Heap.IsList.at p fun o e => hk l (by simp) o e
    | false => exact Heap.IsTuple.at p fun o e => hk l (by simp) o e⟩
  item := fun j s Q E hj st hQ => absurd st.1 (Nat.ne_of_lt hj)
  done := fun s Q E st hE => by
    obtain ⟨_, hit, p⟩ := st
    cases b with
    | true => exact wpAny_nextOf_list_end hh hit p hn hE
    | false => exact wpAny_nextOf_tuple_end hh hit p hn hE
section
variable {X : Cx} {pins : List (Addr × Obj)} {σ : St} {H : Hp} {s : Shared} {a : Addr} {xs ys : List V} {b : Bool}
theorem Inv.seqB (I : Inv X pins σ H s) (h : SqB X.K b H a xs) : ∃ its : List Value, Vals xs its ∧ IsB b s.heap a its.toArray := by
  cases b with
  | true =>
    obtain ⟨its, r, p, _⟩ := I.list h
    exact ⟨its, r, p.isList⟩
  | false =>
    obtain ⟨its, r, p, _⟩ := I.tuple h
    exact ⟨its, r, p⟩
theorem Inv.seqB_inj (I : Inv X pins σ H s) (h : SqB X.K b H a xs) (h' : SqB X.K b H a ys) : xs = ys := by
  cases b with
  | true => exact I.list_inj h h'
  | false => exact I.tuple_inj h h'
theorem IsB.ne {h : Heap} {its : Array Value} {it l a : Addr} {i : Nat} (st : IsB b h a its) (t : ItB b h it l i) : a ≠ it := fun e => by
  subst e
  cases b with
  | true =>
    obtain ⟨o, ho, hc, n, hd⟩ := st
    obtain ⟨o', ho', hc', hd'⟩ := t
    rw [ho] at ho'
    cases ho'
    rw [hd] at hd'
    cases hd'
  | false =>
    obtain ⟨o, ho, hc, n, hd⟩ := st
    obtain ⟨o', ho', hc', hd'⟩ := t
    rw [ho] at ho'
    cases ho'
    rw [hd] at hd'
    cases hd'
theorem IsB.begins {h : Heap} {its : Array Value} (st : IsB b h a its) : ∃ o, Begins (.ref a) o (fun h => IsB b h a its) ∧ ∀ (h' : Heap) (it : Addr), h'.get? it = some o → ItB b h' it a 0 := by
  cases b with
  | true => exact ⟨_, begins_list a its, fun h' it e => ⟨_, e, rfl, rfl⟩⟩
  | false => exact ⟨_, begins_tuple a its, fun h' it e => ⟨_, e, rfl, rfl⟩⟩
end
def IteB (K : PySem.W.Frag) (b : Bool) (a : Addr) (c : Int) : It :=
  ⟨fun i H => ∃ (xs : List V) (x : V), SqB K b H a xs ∧ xs[i]? = some x, fun i H v H' => ∃ T x, v = .ref T ∧ H T = none ∧ H' = upd H T (.tup [.int (c + (i : Nat)), x]) ∧ ∀ xs, SqB K b H a xs → xs[i]? = some x, fun i H => ∃ xs : List V, SqB K b H a xs ∧ xs.length ≤ i⟩
theorem turn_enumB {P : Program} {w : World} {K : PySem.W.Frag} {elts : List Expr} {kk : Nat} {tpos : Pos} (b : Bool) (a e it : Addr) (c : Int) :
    Turn P w K (.Tuple elts kk tpos) (IteB K b a c) [e, it] e (fun i h => (∃ old, IsEnum h e it (c + (i : Nat)) old) ∧ ItB b h it a i ∧ e ≠ it) where
  mem := by simp
  obj := fun i h st d hd => by
    obtain ⟨⟨old, he⟩, hi, _⟩ := st
    have e' : d = e ∨ d = it := by simpa using hd
    rcases e' with z | z
    · rw [z]; exact ⟨_, he, fun v q => nomatch q⟩
    · rw [z]; exact hi.ob
  keep := fun i h h' st k => let ⟨⟨old, he⟩, hi, hne⟩ := st; ⟨⟨old, k e (by simp) _ he⟩, hi.at fun o q => k it (by simp) o q, hne⟩
  item := by
    intro X hP hw hK hc i pins s σ H E I hf st hg
    subst hP hw hK
    obtain ⟨⟨old, he⟩, hit, hne⟩ := st
    obtain ⟨xs, x, hq, hx⟩ := hg
    obtain ⟨its, rv, p⟩ := I.seqB hq
    obtain ⟨u, hu, ru⟩ := rv.get hx
    have hel : e < s.heap.objs.size := Heap.lt_size he
    have hil : it < s.heap.objs.size := by obtain ⟨_, q, _⟩ := hit.ob; exact Heap.lt_size q
    have hai := p.ne hit
    have hae : e ∉ [it, a] := fun q => by
      rcases List.mem_cons.mp q with z | z
      · exact hne z
      · have z := List.mem_singleton.mp z
        subst z
        cases b with
        | true =>
          obtain ⟨o, ho, hc, n, hd⟩ := p
          have q := ho.symm.trans he
          cases q
          cases hd
        | false =>
          obtain ⟨o, ho, hc, n, hd⟩ := p
          have q := ho.symm.trans he
          cases q
          cases hd
    have hlt : i < its.toArray.size := by
      rw [List.size_toArray]
      exact (List.getElem?_eq_some_iff.mp hu).1
    refine wpAny_pyNext_enum_itemC (drawsB (A := X.A.in1) b (I.ok.hd hc) it a hai its.toArray) he ⟨hit, p⟩ hlt hne hae fun y h' tk hy ho hst' hT hsz hk => ?_
    have ey : y = u := by
      have hy' : its[i]? = some y := by simpa using hy
      rw [hu] at hy'
      exact (Option.some.inj hy').symm
    subst ey
    refine ⟨_, rfl, wpAny_letOwnedTupleGo_enum (s := { s with heap := h', toks := tk + 1 }) ho fun h'' he' sb => ?_⟩
    have hT2 : h''.get? s.heap.objs.size = some { cls := .type "tuple", data := .seq #[.int (c + (i : Nat)) tk, y] } := (sb.2 _ (Nat.ne_of_gt hel)).trans hT
    have new : ObjOk X.prog X.w (upd H s.heap.objs.size (.tup [.int (c + (i : Nat)), x])) h'' s.heap.objs.size (.tup [.int (c + (i : Nat)), x]) :=
      ⟨by show 2 ≤ sizeLine; decide, [.int (c + (i : Nat)) tk, y], .cons ⟨_, rfl⟩ (.cons ru .nil), ⟨_, hT2, rfl, _, rfl⟩⟩
    have I1 : Inv X pins σ (upd H s.heap.objs.size (.tup [.int (c + (i : Nat)), x])) { s with heap := h'', toks := tk + 1 } :=
      I.turnedNew (ch := [e, it]) (fun b ob hb q => (sb.2 b (fun z => hb (by simp [z]))).trans (hk b ob (fun z => hb (by simp [z])) (fun z => hb (by simp [z])) q)) hf (Nat.le_refl _) new
    refine ⟨.ref s.heap.objs.size, _, I1, rfl, ⟨_, x, rfl, I.hok.fresh (Nat.le_refl _), rfl, fun ys hy => by rw [I.seqB_inj hy hq]; exact hx⟩, ⟨⟨y, ?_⟩, hst'.1.at fun o q => (sb.2 it (Ne.symm hne)).trans q, hne⟩, fun b hb => ?_⟩
    · have e1 : c + ((i + 1 : Nat) : Int) = c + (i : Nat) + 1 := by omega
      rw [e1]; exact he'
    · have hb' : b < s.heap.objs.size := by
        have e' : b = e ∨ b = it := by simpa using hb
        rcases e' with z | z
        · rw [z]; exact hel
        · rw [z]; exact hil
      rw [upd_ne (Nat.ne_of_lt hb')]
      exact (hf b hb).1
  done := by
    intro X hP hw hK hc i pins s σ H E I hf st hg
    subst hP hw hK
    obtain ⟨⟨old, he⟩, hit, hne⟩ := st
    obtain ⟨xs, hq, hx⟩ := hg
    obtain ⟨its, rv, p⟩ := I.seqB hq
    obtain ⟨f0, f1, f2, f3, f4, f5⟩ := hf it (by simp)
    have hl := rv.length
    have hn : its.toArray[i]? = none := by simp; omega
    exact wpAny_pyNext_enum_endD (drawsEnd (A := X.A.in1) b (I.ok.hd hc) it a its.toArray hn) he ⟨rfl, hit, p⟩ fun h' eb => ⟨rfl, I.turned (t' := s.toks) (fun b o hb q => eb b o hb q) f0 f1 f3 f4 f5⟩
  self := fun A i s Q E st h => let ⟨⟨_, he⟩, _⟩ := st; wpAny_pyIter_enum he h
section
open PySem.Sem
set_option maxHeartbeats 4000000 in
theorem enum_new1 {v : Value} {o : Obj} {G : Heap → Prop} (B : Begins v o G) :
    Meets (Builtin.«enumerate.__new__» ⟨[.type "enumerate", v], []⟩) (fun _ R s => G s.heap ∧
      R (.ok (.ret (.ref (s.heap.push o).objs.size))) { s with heap := (s.heap.push o).push { cls := .type "enumerate", data := .fields #[.none, .bool false, .ref s.heap.objs.size, rawInt 0, .none, .none] } }) :=
  .of_wp fun prog w A R s h => by
    obtain ⟨hp, g, d, tk, os⟩ := s
    obtain ⟨h1, h⟩ := h
    have hsub := sub_enumerate
    have walkIt : ∀ {A' : Around} {E : Value → Shared → Prop} {Q : Value → Shared → Prop}, Q (.ref hp.objs.size) ⟨hp.push o, g, d, tk, os⟩ → wpAny (model prog w) A' (pyIter v) Q E ⟨hp, g, d, tk, os⟩ :=
      fun q => B.iter prog w _ _ ⟨hp, g, d, tk, os⟩ _ h1 q
    wp_walk using walkIt
    refine wpAny_stack_any fun st => wpAny_pure ?_
    split
    · rename_i c _ _ _ _ _
      cases (c == Value.type "enumerate")
      all_goals
        wp_walk using walkIt
        exact ⟨_, rfl, h⟩
    · wp_walk using walkIt
      exact ⟨_, rfl, h⟩
theorem enum_begins0 {prog : Program} {w : World} {A : Around} {E : Value → Shared → Prop} {s : Shared} {v : Value} {o : Obj} {G : Heap → Prop} {Q : Value → Shared → Prop} (B : Begins v o G) (h1 : G s.heap)
    (h : ∀ h', IsEnum h' (s.heap.objs.size + 1) s.heap.objs.size 0 .none → h'.get? s.heap.objs.size = some o → h'.objs.size = s.heap.objs.size + 2 →
      (∀ b o, s.heap.get? b = some o → h'.get? b = some o) → Q (.ref (s.heap.objs.size + 1)) { s with heap := h' }) :
    wpAny (model prog w) A (call (.type "enumerate") [v]) Q E s := by
  refine callType_new F.called_enumerate (by decide) (F.typeCall_enumerate_1 _) (F.newCall_enumerate_1 _) (fun obj => F.args_object_init_2 obj _) F.entry_enumerate_new (enum_new1 B) ⟨h1, ?_⟩
  have hz : (s.heap.push o).objs.size = s.heap.objs.size + 1 := Heap.size_push ..
  show _ ∧ _
  rw [hz]
  have he : IsEnum ((s.heap.push o).push { cls := .type "enumerate", data := .fields #[.none, .bool false, .ref s.heap.objs.size, rawInt 0, .none, .none] }) (s.heap.objs.size + 1) s.heap.objs.size 0 .none := by
    have q := Heap.get?_push_size (s.heap.push o) (o := { cls := .type "enumerate", data := .fields #[.none, .bool false, .ref s.heap.objs.size, rawInt 0, .none, .none] }) rfl
    rw [hz] at q
    exact q
  exact ⟨⟨_, he, rfl⟩, h _ he (Heap.get?_push_of_some _ (Heap.get?_push_size _ B.free)) (by rw [Heap.size_push, hz]) fun b o x => Heap.get?_push_of_some _ (Heap.get?_push_of_some _ x)⟩
end
/-- enumerate(e) -/
def iEnumB (K : PySem.W.Frag) (ta : TA) : TI := fun σ H R => ta σ H fun vs H1 => ∃ b a xs, vs = [.ref a] ∧ SqB K b H1 a xs ∧ R (IteB K b a 0) H1
/-- enumerate(e, start=k) -/
def iEnumS (K : PySem.W.Frag) (ta tk : TA) : TI := fun σ H R => ta σ H fun vs H1 => tk σ H1 fun zs H2 => ∃ b a xs k, vs = [.ref a] ∧ zs = [.int k] ∧ -(2 ^ 63) ≤ k ∧ k < 2 ^ 63 ∧ SqB K b H2 a xs ∧ R (IteB K b a k) H2
section
variable {X : Cx} {e : Expr} {kws : List Keyword} {ta tk : TA} {p pos tpos : Pos} {elts : List Expr} {kk : Nat}
theorem enum_come {pins : List (Addr × Obj)} {σ : St} {H : Hp} {s : Shared} {R : It → Hp → Prop} {b : Bool} {a : Addr} {k : Int} {h' : Heap} {o : Obj} (I : Inv X pins σ H s) (he : IsEnum h' (s.heap.objs.size + 1) s.heap.objs.size k .none) (hit : ItB b h' s.heap.objs.size a 0)
    (hk : ∀ b o, s.heap.get? b = some o → h'.get? b = some o) (q : R (IteB X.K b a k) H) : PIE X pins σ (.Tuple elts kk tpos) R (.ref (s.heap.objs.size + 1)) { s with heap := h' } := by
  have I2 : Inv X pins σ H { s with heap := h' } := I.kept (t' := s.toks) hk
  refine ⟨s.heap.objs.size + 1, [s.heap.objs.size + 1, s.heap.objs.size], _, _, H, rfl, I2, turn_enumB b a (s.heap.objs.size + 1) s.heap.objs.size k, ⟨⟨.none, by simpa using he⟩, hit, Nat.succ_ne_self _⟩, fun c hc => ?_, q⟩
  have e' : c = s.heap.objs.size + 1 ∨ c = s.heap.objs.size := by simpa using hc
  have hle : s.heap.objs.size ≤ c := by
    rcases e' with z | z
    · rw [z]; exact Nat.le_add_right _ _
    · rw [z]; exact Nat.le_refl _
  exact I.fpOk hle (I.hok.fresh hle)
theorem pi_enumB (hg : Gl X "enumerate") (hm : X.mg "enumerate" = none) (ha : PA X [e] ta) (hs : starEach [e] X.env = [(false, eval e X.env)] := by rfl) :
    PI X (.Tuple elts kk tpos) (.Call (.Name "enumerate" p) [e] [] pos) (iEnumB X.K ta) := by
  refine ⟨fun pins s σ H R I h => ?_⟩
  refine Call_ (ld_blt I hg hm boot_enumerate (PyProof.Rows.callWith_type1 (thn (ha.run pos pins s σ H _ I h) fun us s1 ⟨vs, H1, I1, r1, q1⟩ => ?_) hs rfl))
  obtain ⟨b, a, xs, ex, hq, q⟩ := q1
  rw [ex] at r1
  rw [Vals.ref1 r1]
  obtain ⟨its, rv, p'⟩ := I1.seqB hq
  obtain ⟨o, B, hB⟩ := p'.begins
  refine enum_begins0 B p' fun h' he ho hsz hk => wpAny_pyIter_enum he ?_
  exact enum_come (o := o) I1 he (hB h' _ ho) hk q
theorem callWith_typeKw {M : Model} {env : Env} {A : Around} {E : Value → Shared → Prop} {s : Shared} {pos : Pos} {T : String} {e : Expr} {rest : List Expr} {kws : List Keyword} {Q : Value → Shared → Prop}
    (h : wpAny M A (spliced (backTo pos (starEach (e :: rest) env))) (fun vs s₁ => wpAny M A (evalAll ((backToKw pos (keywordEach kws env)).map (·.2)))
      (fun kvs s₂ => wpAny M A (call (.type T) vs (((backToKw pos (keywordEach kws env)).filterMap (·.1)).zip kvs)) Q E s₂) E s₁) E s)
    (he : backTo pos (starEach (e :: rest) env) = (false, eval e env) :: backTo pos (starEach rest env)) (hplain : (backTo pos (starEach (e :: rest) env)).any (·.1) = false)
    (hall : (backToKw pos (keywordEach kws env)).all (·.1.isSome) = true) (hkw : (backToKw pos (keywordEach kws env)).any (·.1.isNone) = false) :
    wpAny M A (callWith pos (.type T) [] (backTo pos (starEach (e :: rest) env)) (backToKw pos (keywordEach kws env))) Q E s := by
  have h2 : wpAny M A (evalArgs (.type T) true (backTo pos (starEach (e :: rest) env)) (backToKw pos (keywordEach kws env))) (fun a s₁ => wpAny M A (call (.type T) ([] ++ a.pos) a.kw) Q E s₁) E s := by
    rw [he] at h ⊢
    exact evalArgs_kwB hall h
  unfold callWith
  refine wpAny_bind (wpAny_holding (wpAny_mono h2 (fun a s₁ h₁ => wpAny_bind (wpAny_standAt ?_)) fun _ _ x => x))
  simp only [hplain, hkw, Bool.or_false]
  refine wpAny_bind (wpAny_pure ?_)
  exact wpAny_bind (wpAny_mono h₁ (fun r s₂ hr => wpAny_bind (wpAny_holding (wpAny_point (wpAny_pure hr)))) fun _ _ x => x)
theorem pi_enumS (hg : Gl X "enumerate") (hm : X.mg "enumerate" = none) (ha : PA X [e] ta) (hk : PK X kws tk) (he : backTo pos (starEach [e] X.env) = (false, eval e X.env) :: backTo pos (starEach [] X.env) := by rfl) (hpl : (backTo pos (starEach [e] X.env)).any (·.1) = false := by rfl)
    (hall : (backToKw pos (keywordEach kws X.env)).all (·.1.isSome) = true := by rfl) (hnone : (backToKw pos (keywordEach kws X.env)).any (·.1.isNone) = false := by rfl) (hks : (backToKw pos (keywordEach kws X.env)).filterMap (·.1) = [Str.ofString "start"] := by rfl) :
    PI X (.Tuple elts kk tpos) (.Call (.Name "enumerate" p) [e] kws pos) (iEnumS X.K ta tk) := by
  refine ⟨fun pins s σ H R I h => ?_⟩
  refine wpAny_Call_Name_kw (ld_blt I hg hm boot_enumerate ?_)
  refine callWith_typeKw (thn (ha.run pos pins s σ H _ I h) fun us s1 ⟨vs, H1, I1, r1, q1⟩ => thn (hk.run pos pins s1 σ H1 _ I1 q1) fun ws s2 ⟨zs, H2, I2, r2, q2⟩ => ?_) he hpl hall hnone
  obtain ⟨b, a, xs, k, ex, ez, k0, k1, hq, q⟩ := q2
  subst ex
  subst ez
  rw [Vals.ref1 r1, hks]
  cases r2 with
  | cons r rr =>
    cases rr
    obtain ⟨t, rfl⟩ := r
    obtain ⟨its, rv, p'⟩ := I2.seqB hq
    obtain ⟨o, B, hB⟩ := p'.begins
    refine enum_begins_start B p' k0 k1 fun h' he ho hsz hk => wpAny_pyIter_enum he ?_
    exact enum_come (o := o) I2 he (hB h' _ ho) hk q
end
/-- a for over it -/
theorem walk_enumB {K : PySem.W.Frag} {a : Addr} {xs : List V} {b : Bool} {c : Int} : Walk (IteB K b a c) xs.length (fun H => SqB K b H a xs) (YPair (fun i => some (.int (c + (i : Nat)))) (fun i => xs[i]?)) where
  goes := fun i H hi h => ⟨xs, xs[i], h, List.getElem?_eq_getElem hi⟩
  stops := fun H h => ⟨xs, h, Nat.le_refl _⟩
  yields := fun i H x H' hi h y => by
    obtain ⟨T, z, e, hT, e2, hx⟩ := y
    exact ⟨T, _, z, e, hT, e2, rfl, hx xs h⟩
end L2
namespace L2
open PySem PySem.Spec PyProof.Rows PySem.Calls
section
variable {prog : Program} {w : World} {A : Around} {E : Value → Shared → Prop} {s : Shared} {r d : Addr} {n : Nat} {P : Nat → Value → Prop} {OK : Heap → Prop}
/-- tuple(x), x a dict or a view of one -/
theorem codeTupD {Q₁ : Value → Shared → Prop} (Kd : PySem.W.KdlSrc prog w "dict" r d n P OK) (hT : s.TypeIs (.ref r) "dict") (hh : A.handled = none) (hok : OK s.heap) (hn : n ≤ sizeLine)
    (h : ∀ (h' : Heap) (tk : Nat) (acc : Array Value), (∀ b o, s.heap.get? b = some o → h'.get? b = some o) → ItemsOf P acc n →
      Q₁ (.ref h'.objs.size) { s with heap := h'.push { cls := .type "tuple", data := .seq acc }, toks := tk }) :
    codeAny (model prog w) A (.call (.builtin "tuple.__new__") ⟨[.type "tuple", .ref r], []⟩) (wants Q₁ E) s := by
  refine codeAny_of_tree ?_
  show wpAny _ A.in1 (do checkBuiltinCall "tuple.__new__" ⟨[.type "tuple", .ref r], []⟩; again (.builtin "tuple.__new__" ⟨[.type "tuple", .ref r], []⟩)) _ _ s
  refine wpAny_bind (wpAny_of_eq (F.newCall_tuple_1 _) (wpAny_pure ⟨plainId_quiet F.plain_tuple_new _, codeAny_builtin F.entry_tuple_new ?_⟩))
  rw [Around.under_plainId F.plain_tuple_new _]
  have hsub := sub_tuple_self
  have hinit := init_tuple_lookup
  have hmh := madeHere_tuple
  have hh1 : A.in1.handled = none := hh
  wp_walk using wpAny_typeOf hT, PySem.W.kdu_collect (A := A.in1) Kd hh1 hok hn
  intro h' tk acc hk hacc
  show wpAny _ _ (Builtin.Tuple.tupleExact acc.toList.toArray >>= fun v => ret v) _ _ _
  unfold Builtin.Tuple.tupleExact
  refine wpAny_bind (wpAny_newObj_type ?_ (by show acc.toList.toArray.size ≤ sizeLine; simp only [Array.toArray_toList]; rw [hacc.1]; exact hn))
  refine wpAny_pure ?_
  have e : acc.toList.toArray = acc := by simp
  rw [e]
  exact h h' tk acc hk hacc
end
section
variable {X : Cx}
/-- tuple(d): its keys -/
theorem call_tupleD (hcalm : X.calm = true) : CallR X (.type "tuple") (fun xs H Q => ∃ (a : Addr) (kvs : List (Key × V)), xs = [.ref a] ∧ Rd H a (.dK kvs) ∧ ∀ (p : Addr) (o : Obj), H p = none → o.dict = none → Q (.ref p) (upd H p (.frz o (.tup (kvs.map fun kv => kV kv.1))))) := by
  intro pins s σ H xs us Q I r q
  obtain ⟨a, kvs, ex, hd, q⟩ := q
  subst ex
  rw [Vals.ref1 r]
  obtain ⟨z, lo, vs, rel, dd⟩ := dk_rd I.hok hd
  obtain ⟨ep, hat⟩ := dd.dictAt
  have ek : (kvs.map fun kv => kV kv.1) = vs.map fun p => kV p.1 := by
    have e := congrArg (List.map kV) rel.keys
    rw [List.map_map, List.map_map] at e
    exact e
  have hz : vs.length ≤ sizeLine := by
    rw [← rel.length]
    exact z
  refine callType_codes (Q₁ := fun obj s₁ => s₁.TypeIs obj "tuple" ∧ EP X pins σ Q obj s₁) F.called_tuple (F.typeCall_tuple_1 _) F.entry_object_init
    (codeTupD (A := X.A.in1) (PySem.W.kdl_dict (knd := mixKind X.prog X.w) (kvs := vs) (ep := ep) lo) dd.typeIs (I.ok.hd hcalm) hat hz fun h' tk acc hk hacc => ⟨⟨_, Heap.get?_push_size _ rfl, rfl⟩, ?_⟩) fun obj s₁ h₁ => ?_
  · have hv : Vals (vs.map fun p => kV p.1) acc.toList := keys_at (by rw [Array.length_toList]; exact hacc.1) fun j v e => hacc.2 j v (by rw [← Array.getElem?_toList]; exact e)
    have I1 : Inv X pins σ H { s with heap := h', toks := tk } := I.kept hk
    have I2 : Inv X pins σ (upd H h'.objs.size (.frz { cls := .type "tuple", data := .seq acc } (.tup (kvs.map fun kv => kV kv.1)))) { s with heap := h'.push { cls := .type "tuple", data := .seq acc }, toks := tk } :=
      I1.laid (t' := tk) (fun b o e => Heap.get?_push_of_some _ e) (Nat.le_refl _) (show ObjOk X.prog X.w _ _ _ (.frz _ (.tup (kvs.map fun kv => kV kv.1))) from ⟨Heap.get?_push_size _ rfl, by rw [List.length_map]; exact z, acc.toList, by rw [ek]; exact hv, by
        have e : acc.toList.toArray = acc := by simp
        rw [e]
        exact IsTup.new _ _⟩)
    exact ⟨.ref h'.objs.size, _, I2, rfl, q _ _ (I1.hok.fresh (Nat.le_refl _)) rfl⟩
  · exact ⟨h₁.1, F.args_object_init_2 obj _, object_init_meets F.called_tuple.init.lookup F.called_tuple.made (by decide) X.prog X.w X.A.in1 _ s₁ ⟨h₁.1, rfl, h₁.2⟩⟩
end
end L2
namespace PySem
namespace SupX
open PySem.W PySem.Calls PyProof.Rows PySem.HandSPX
/-! ### an own error over an own error over ValueError: def __init__(self, f): super().__init__('..'); self.f = f -/
def iA (f : Str) (p1 p2 : Pos) : Arguments :=
  { posonlyargs := [], args := [{ arg := "self", annotation := none, pos := p1 }, { arg := f, annotation := none, pos := p2 }], vararg := none, kwonlyargs := [], kw_defaults := [], kwarg := none, defaults := [] }
def iB (f tx : Str) (k0 : Nat) (q1 q2 q3 q4 q5 q6 q7 q8 q9 q10 : Pos) : List Stmt :=
  [.Expr (.Call (.Attribute (.Call (.Name "super" q1) [] [] q2) "__init__" q3) [.Constant (.str tx) k0 q4] [] q5) q6, .Assign [.Attribute (.Name "self" q7) f q8] (.Name f q9) q10]
def iS (f : Str) : Scope := { kind := .function, names := [("self", .local), (f, .local), ("__class__", .free), ("super", .globalImplicit)], isGenerator := false, isCoroutine := false, more := [] }
abbrev veTl : List Value := [.type "ValueError", .type "Exception", .type "BaseException", .type "object"]
/-- what is the same for every such class -/
structure ClsTxt (P : Program) (K : Frag) (mg : Str → Option Value) (C fI : Addr) (x : Str) : Prop where
  gC : mg x = some (.ref C)
  cls : ∃ nm q N bs bm sn sub ab col dd k0 k1 k2 k3 k5, K.lookup C = some (excClassObj nm q C N bs bm true sn sub ab col dd k0 k1 k2 k3 k5 "ValueError.__new__") ∧ refsVE bm = true
  sa : findIn K (.ref C) "__setattr__" = some (some (.builtin "object.__setattr__"))
  ga : findIn K (.ref C) "__getattribute__" = some (some (.builtin "BaseException.__getattribute__"))
  gg : findIn K (.ref C) "__getattr__" = some none
  iC : findIn K (.ref C) "__init__" = some (some (.ref fI))
  tC : typeIn K (.ref fI) = some (.type "function")
  kC : keepIn K (.ref C) = true
  exC : subIn K (.ref C) (.type "BaseException") = some true
  tyC : typeIn K (.ref C) = some (.type "type")
  hdC : hasDictIn K C = true
  msup : mg "super" = none
  sup : ks_superIn K C C "__init__" = some (some (.builtin "ValueError.__init__"))
  sve : subIn K (.ref C) (.type "ValueError") = some true
  mro : mroIn K C (.ref C) = some true
  st : nsIn K cStatics "thirdparty.any" = some none
  htop : (P.main.scope.names.lookup ("super" : Str)).isSome = false
structure FnTxt (P : Program) (K : Frag) (C fI : Addr) (f : Str) : Prop where
  noN : findIn K (.ref C) f = some none
  nd : (f == ("__debug__" : Str)) = false
  sf : (("self" : Str) == f) = false
  lf : (iS f).names.lookup f = some .local
  lc : (iS f).names.lookup ("__class__" : Str) = some .free
  ls : (iS f).names.lookup ("super" : Str) = some .globalImplicit
  fn : ∃ (oc doc pm kV ct : Value) (od an : Option Addr) (osl : Array (Option Value)) (tx qual : Str) (k0 : Nat) (p1 p2 q1 q2 q3 q4 q5 q6 q7 q8 q9 q10 : Pos) (cda cc : Addr) (vs : Array Value) (file : Str) (tf : Tok)
      (ccl cl : Value) (cdd cld : Option Addr) (ccs csl : Array (Option Value)) (fd : FuncData),
    fd = ksFn "__init__" qual (iA f p1 p2) (iB f tx k0 q1 q2 q3 q4 q5 q6 q7 q8 q9 q10) (iS f) .none kV doc pm an (.ref cda) ct cc ∧
    K.lookup fI = some ⟨oc, od, .func fd, osl⟩ ∧ codeIn K (.ref cda) qual = true ∧ (∀ a v : Value, bindArgs fd ⟨[a, v], []⟩ = pure [(("self" : Str), a), (f, v)]) ∧
    K.lookup cda = some ⟨ccl, cdd, .fields vs, ccs⟩ ∧ vs[2]? = some (.str file tf) ∧ ((P.main.file : Str) == file) = true ∧ K.lookup cc = some ⟨cl, cld, .cell (some (.ref C)), csl⟩ ∧
    (∃ pl : Sem Bool, ∀ L : Addr, eval (.Call (.Attribute (.Call (.Name "super" q1) [] [] q2) "__init__" q3) [.Constant (.str tx) k0 q4] [] q5) (ksEnv qual (iS f) L fI (.ref cda) cc) = (do
      let ov ← attributeBase (.Call (.Name "super" q1) [] [] q2) "__init__" (ksEnv qual (iS f) L fI (.ref cda) cc) (eval (.Call (.Name "super" q1) [] [] q2) (ksEnv qual (iS f) L fI (.ref cda) cc))
      standAt q3.atName
      let (fv, first) ← holding [ov] (getMethod ov "__init__" pl)
      callWith q5 fv first (backTo q5 (starEach [.Constant (.str tx) k0 q4] (ksEnv qual (iS f) L fI (.ref cda) cc))) [])) ∧
    (∀ L : Addr, swapsWith (.Name f q9) (some (.Attribute (.Name "self" q7) f q8)) q10.line (ksEnv qual (iS f) L fI (.ref cda) cc) = pure false) ∧
    (∀ L : Addr, swapsWith (.Call (.Attribute (.Call (.Name "super" q1) [] [] q2) "__init__" q3) [.Constant (.str tx) k0 q4] [] q5) none q6.line (ksEnv qual (iS f) L fI (.ref cda) cc) = pure false)
theorem one_size (v : Value) : [v].length ≤ sizeLine := by
  rw [sizeLine_eq]
  exact (by decide : 1 ≤ 16777216)
/-- what __init__ leaves of a fresh exception at x: a new args tuple, the argument in its own dict -/
structure InitEnd (h h' : Heap) (x C dx t1 : Addr) (f : Str) (v : Value) : Prop where
  keep : ∀ b o, b ≠ x → h.get? b = some o → h'.get? b = some o
  obj : h'.get? x = some { cls := .ref C, dict := some dx, data := .fields #[.ref t1, .none, .none, .none, .bool false, .none] }
  dbig : h.objs.size ≤ dx
  dne : dx ≠ x
  ns : h'.Ns1 dx (fun y => if y = f then some v else none)
section
variable {prog : Program} {w : World} {A : Around} {E : Value → Shared → Prop} {R : Result → Shared → Prop} {s : Shared} {K : Frag} {mg : Str → Option Value} {C fI : Addr} {x f : Str}
/-- the bound ValueError.__init__ called -/
theorem ve_init {h : Heap} {g : Array GenState} {d : Drawn} {t : Nat} {os : OsState} {nm q : Str} {N : Addr} {bs bm : List Value} {sn : List Str} {sub : List Value} {ab : Bool} {col : Option Bool} {dd : Option Addr} {k0 k1 k2 k3 k5 : Option Value}
    {u e t0 : Addr} {us : List Value} {Q : Value → Shared → Prop}
    (hC : h.get? C = some (excClassObj nm q C N bs bm true sn sub ab col dd k0 k1 k2 k3 k5 "ValueError.__new__")) (he : h.get? e = some (excO C t0)) (hu : h.get? u = some (kxs_mw "ValueError.__init__" e)) (hus : us.length ≤ sizeLine)
    (hq : ∀ h' t1, (∀ b o, b ≠ e → h.get? b = some o → h'.get? b = some o) → h'.get? e = some (excO C t1) → Q .none ⟨h', g, d, t, os⟩) :
    wpAny (model prog w) A (call (.ref u) us) Q E ⟨h, g, d, t, os⟩ := by
  refine wpAny_call (codeAny_of_tree ?_)
  show wpAny _ A.in1 (callAny (.ref u) ⟨us, []⟩) _ _ _
  simp only [callAny]
  refine wpAny_bind (wpAny_load hu ?_)
  have z : (Value.type "method-wrapper" == Value.type "method" || Value.type "method-wrapper" == Value.type "builtin_function_or_method" || Value.type "method-wrapper" == Value.type "method-wrapper") = true := by decide
  simp only [kxs_mw, z, if_true]
  refine KFB.if_so (by decide) (wpAny_bind (check_bound_init F.excBase_ValueError.toExcCallFacts hC he rfl ?_))
  refine wpAny_bind (wpAny_pure (wpAny_pure ⟨plainId_quiet F.excBase_ValueError.init.plain _, codeAny_builtin F.excBase_ValueError.initEntry ?_⟩))
  rw [Around.under_plainId F.excBase_ValueError.init.plain _]
  exact exc_init_tree (cls := .ref C) (t0 := t0) (dv := none) (c2 := .none) (c3 := .none) (b4 := .bool false) he hus fun h' k e' _ => hq h' _ k e'
theorem cls_of {h : Heap} (T : ClsTxt prog K mg C fI x) (X : K.In h) : ∃ cd oD, clsIn K C = some cd ∧ h.get? C = some oD ∧ oD.data = .cls cd := by
  obtain ⟨nm, q, N, bs, bm, sn, sub, ab, col, dd, k0, k1, k2, k3, k5, hC, _⟩ := T.cls
  exact ⟨_, _, by unfold clsIn; rw [hC] <;> rfl, X _ _ hC, rfl⟩
theorem sup_init (T : ClsTxt prog K mg C fI x) (Tf : FnTxt prog K C fI f) {e t0 : Addr} {v : Value} (X : K.In s.heap) (G : s.heap.Ns mainGlobals mg) {mb : Str → Option Value} (B : s.heap.Ns builtinsNs mb) (hb : mb "super" = some (.type "super"))
    (hlim : s.heap.NoLimit) (hx : s.heap.get? e = some (excO C t0)) (hnx : K.lookup e = none) (hroom : A.depth < recursionLimit)
    (hq : ∀ h' tk dx t1, InitEnd s.heap h' e C dx t1 f v → R (.ok (.ret .none)) { s with heap := h', toks := tk }) :
    codeAny (model prog w) A (.call (.ref fI) ⟨[.ref e, v], []⟩) R s := by
  obtain ⟨oc, doc, pm, kV, ct, od, an, osl, tx, qual, k0, p1, p2, q1, q2, q3, q4, q5, q6, q7, q8, q9, q10, cda, cc, vs, file, tf, ccl, cl, cdd, cld, ccs, csl, fd, rfl, ho, hcd, hbind, hcode, hvs, hfile, hcell, ⟨pl, he⟩, hsw, hsw0⟩ := Tf.fn
  obtain ⟨nm, q, N, bs, bm, sn, sub, ab, col, dd, j0, j1, j2, j3, j5, hC, hbm⟩ := T.cls
  obtain ⟨cd, oD, hcl, hD1, hD2⟩ := cls_of T X
  refine ks_codeAny_call_defAt (body := iB f tx k0 q1 q2 q3 q4 q5 q6 q7 q8 q9 q10) hroom (X _ _ ho) rfl hlim (codeRec_of X hcd) rfl (BindsTo.of_eq (hbind (.ref e) v)) ?_ ?_ (fun h₁ hn hk => ?_) rfl rfl rfl
  · show ∀ y ∈ (iS f).names, y.2 ≠ .cell
    intro y hy
    unfold iS at hy
    simp only [List.mem_cons, List.not_mem_nil, or_false] at hy
    rcases hy with rfl | rfl | rfl | rfl <;> (intro z; cases z)
  · show ∀ y ∈ ([(("self" : Str), Value.ref e), (f, v)] : List (Str × Value)), (iS f).names.lookup y.1 = some .local
    intro y hy
    simp only [List.mem_cons, List.not_mem_nil, or_false] at hy
    rcases hy with rfl | rfl
    · rfl
    · exact Tf.lf
  have X1 : K.In h₁ := X.keeps hk
  have hx1 := hk _ _ hx
  have hD1' := hk _ _ hD1
  have vS : ([(("self" : Str), Value.ref e), (f, v)] : List (Str × Value)).reverse.lookup ("self" : Str) = some (.ref e) := by
    show List.lookup ("self" : Str) [(f, v), (("self" : Str), Value.ref e)] = some (.ref e)
    rw [List.lookup_cons, Tf.sf]
    rfl
  have vF : ([(("self" : Str), Value.ref e), (f, v)] : List (Str × Value)).reverse.lookup f = some v := by
    show List.lookup f [(f, v), (("self" : Str), Value.ref e)] = some v
    rw [List.lookup_cons, beq_self_eq_true]
  have hI1 : InstAt h₁ e (excO C t0) C none := ⟨hx1, rfl, rfl, trivial⟩
  refine ks_wpAt_execs_cons (ks_wpAt_Expr_any (ks_wpAt_MethodCall (pl := pl) (ks_wpAt_super_base Tf.ls Tf.lc rfl rfl (X1 _ _ ho) rfl rfl rfl (X1 _ _ hcode) rfl hvs hfile T.htop ?_) (he _)) rfl (hsw0 _))
  refine ks_loadName_global rfl Tf.ls (loadGlobal_builtin (G.keeps hk) T.msup (B.keeps hk) hb ⟨rfl, ?_⟩)
  refine wpAny_loadName_free rfl Tf.lc rfl ⟨_, X1 _ _ hcell, rfl⟩ ?_
  refine wpAny_loadName_local rfl rfl hn vS ?_
  refine ks_wpAny_isType_cls hD1' hD2 ⟨rfl, ?_⟩
  refine ks_wpAny_call_super hD1' hD2 hx1 rfl (fun c z => by cases z) (looks_mroIn X1 T.mro) (fun h₂ e2 k2 => ?_)
  have hk2 : ∀ b o, s.heap.get? b = some o → h₂.get? b = some o := fun b o z => k2 b o (hk b o z)
  have X2 : K.In h₂ := X.keeps hk2
  have hx2 := k2 _ _ hx1
  have hI2 : InstAt h₂ e (excO C t0) C none := ⟨hx2, rfl, rfl, trivial⟩
  have hsup := T.sup
  unfold ks_superIn at hsup
  rw [hcl] at hsup
  refine kxs_getMethod kxs_ValueError e2 (looks_opaque X2 T.st) (l₀ := cd.mro) (fun A Q E s k q => wpAny_bind ((looks_clsIn X2 hcl) A _ E s k (wpAny_pure q))) rfl X2 hsup (hI2.type.andThen (looks_subIn X2 T.sve)) (ks_ne X2 hI2 hcl) rfl ?_
  refine kxs_callWith (i := "ValueError.__init__") (x := e) rfl (evalArgs_plain ?_)
  refine spliced_cons (wpAny_Constant_str (k := k0) (pos := q4) (spliced_nil ?_))
  have hx3 : (h₂.push (kxs_mw "ValueError.__init__" e)).get? e = some (excO C t0) := Heap.get?_push_of_some _ hx2
  refine ⟨Heap.get?_push_size _ rfl, ?_⟩
  refine ve_init (t0 := t0) (Heap.get?_push_of_some _ (X2 _ _ hC)) hx3 (Heap.get?_push_size _ rfl) (one_size _) fun h₃ t1 k3 hx4 => ?_
  have hk3 : ∀ b o, b ≠ e → s.heap.get? b = some o → h₃.get? b = some o := fun b o hb z => k3 b o hb (Heap.get?_push_of_some _ (hk2 b o z))
  have X3 : K.In h₃ := fun a o z => hk3 a o (fun q => by rw [q, hnx] at z; cases z) (X a o z)
  have hL : e ≠ s.heap.objs.size := Nat.ne_of_lt (Heap.lt_size hx)
  have hn3 : h₃.Ns s.heap.objs.size fun y => ([(("self" : Str), Value.ref e), (f, v)] : List (Str × Value)).reverse.lookup y := by
    obtain ⟨oL, es, ep, q, r⟩ := hn
    exact ⟨oL, es, ep, k3 _ _ (Ne.symm hL) (Heap.get?_push_of_some _ (k2 _ _ q)), r⟩
  refine wpAt_of_wpAny ?_
  refine wpAny_execs_cons (plainObj_wpAny_Assign_Attribute ?_ (hsw _))
  refine ESX.ldL hn3 vF (ESX.ldL hn3 vS ?_ rfl rfl (by decide)) rfl Tf.lf Tf.nd
  refine set_plain X3 (ox := excO C t1) (od := none) ⟨hx4, rfl, rfl, trivial⟩ T.sa ?_
  have hcd2 : clsIn K C = some { name := nm, bases := bs, mro := .ref C :: bm, ns := N, qualname := q, hasDict := true, slotNames := sn, subclasses := sub, abstract := ab, collection := col, hasDel := false } := by unfold clsIn; rw [hC] <;> rfl
  refine exc_osa X3 hx4 hcd2 (show refsVE (.ref C :: bm) = true from hbm) rfl Tf.noN (fun h₄ tk₄ dx k₄ dn dne hx₄ hn₄ => ?_)
  refine wpAny_execs_nil (hq h₄ tk₄ dx t1 ⟨fun b o hb z => k₄ b o hb (hk3 b o hb z), hx₄, ?_, dne, hn₄⟩)
  have z1 : h₂.objs.size < h₃.objs.size := by
    have z := k3 h₂.objs.size _ (fun q => ?_) (Heap.get?_push_size (o := kxs_mw "ValueError.__init__" e) h₂ rfl)
    · exact Heap.lt_size z
    · exact Nat.lt_irrefl _ (Nat.lt_of_lt_of_eq (Heap.lt_size hx2) q)
  have z2 : s.heap.objs.size < h₂.objs.size := by
    obtain ⟨oL, es, ep, q, r⟩ := hn
    exact Heap.lt_size (k2 _ _ q)
  exact Nat.le_of_lt (Nat.lt_trans z2 (Nat.lt_of_lt_of_le z1 dn))
/-- a made error: e, its own dict d holds f = v -/
structure Made (h h' : Heap) (e C d : Addr) (f : Str) (v : Value) : Prop where
  keep : ∀ b o, h.get? b = some o → h'.get? b = some o
  new : h.objs.size ≤ e
  obj : ∃ oe vs, h'.get? e = some oe ∧ oe.cls = .ref C ∧ oe.dict = some d ∧ oe.data = .fields vs ∧ vs[1]? = some .none
  dbig : h.objs.size ≤ d
  dne : d ≠ e
  ns : h'.Ns1 d (fun y => if y = f then some v else none)
theorem sup_made (T : ClsTxt prog K mg C fI x) (Tf : FnTxt prog K C fI f) {v : Value} (X : K.In s.heap) (G : s.heap.Ns mainGlobals mg) {mb : Str → Option Value} (B : s.heap.Ns builtinsNs mb) (hb : mb "super" = some (.type "super"))
    (hlim : s.heap.NoLimit) (hroom : A.depth + 1 < recursionLimit)
    (hq : ∀ h' tk e d, Made s.heap h' e C d f v → R (.ok (.ret (.ref e))) { s with heap := h', toks := tk }) :
    codeAny (model prog w) A (.call (.ref C) ⟨[v], []⟩) R s := by
  obtain ⟨nm, q, N, bs, bm, sn, sub, ab, col, dd, k0, k1, k2, k3, k5, hC, hbm⟩ := T.cls
  obtain ⟨hp, g, dr, tk, os⟩ := s
  have k : ∀ b o, hp.get? b = some o → ((hp.push (kdv_tup [v])).push (excO C hp.objs.size)).get? b = some o := fun b o e => Heap.get?_push_of_some _ (Heap.get?_push_of_some _ e)
  have hget : ((hp.push (kdv_tup [v])).push (excO C hp.objs.size)).get? (hp.objs.size + 1) = some (excO C hp.objs.size) := by heap_get
  have hnx : K.lookup (hp.objs.size + 1) = none := by
    cases e : K.lookup (hp.objs.size + 1) with
    | none => rfl
    | some o => exact absurd (Nat.lt_of_succ_lt (Heap.lt_size (X _ _ e))) (Nat.lt_irrefl _)
  refine call_own F.excBase_ValueError (fun Y => refsVE_contains Y bm hbm) (X _ _ hC) (looks_findIn X T.iC) (fun self => bind_fn X self T.tC) (one_size v) ?_
  refine sup_init (s := ⟨(hp.push (kdv_tup [v])).push (excO C hp.objs.size), g, dr, tk, os⟩) T Tf (X.keeps k) (G.keeps k) (B.keeps k) hb (hlim.keeps k) hget hnx ?_ fun h' tk' dx t1 ⟨k', hx, dn, dne, hns⟩ => ?_
  · show A.depth + 1 < recursionLimit
    exact hroom
  have old : ∀ b o, hp.get? b = some o → h'.get? b = some o := fun b o e => k' b o (Nat.ne_of_lt (Nat.lt_succ_of_lt (Heap.lt_size e))) (k b o e)
  have z : hp.objs.size + 1 + 1 ≤ dx := by
    have q := dn
    rw [Heap.size_push, Heap.size_push] at q
    exact q
  exact ⟨rfl, hq h' tk' (hp.objs.size + 1) dx ⟨old, Nat.le_succ _, ⟨_, _, hx, rfl, rfl, rfl, rfl⟩, Nat.le_trans (Nat.le_trans (Nat.le_succ _) (Nat.le_succ _)) z, dne, hns⟩⟩
end
end SupX
end PySem
namespace L2
open PySem PySem.Spec PyProof.Rows
theorem relO_one {v : V} {v' : Value} {f : Str} (r : RelV v v') (g : Str) : RelO (List.lookup g [(f, v)]) (if g = f then some v' else none) := by
  by_cases hw : g = f
  · subst hw
    rw [if_pos rfl]
    have q : List.lookup g [(g, v)] = some v := by simp [List.lookup]
    rw [q]
    exact r
  · rw [if_neg hw]
    have qw : (g == f) = false := by simpa using hw
    have q2 : List.lookup g [(f, v)] = none := by simp [List.lookup, qw]
    rw [q2]
    trivial
section
variable {X : Cx} {C fI : Addr} {x f : Str}
/-- C(e) -/
def tMkSup (C : Addr) (f : Str) (ta : TA) : St → Hp → XK → Prop := fun σ H Q => ta σ H fun vs H1 => ∃ v, vs = [v] ∧ ∀ d, H1 d = none → Q (.ref C) (some d) (upd H1 d (.xd [(f, v)]))
theorem pmk_sup {a : Expr} {ta : TA} {p pos : Pos} {k : Nat} (T : PySem.SupX.ClsTxt X.prog X.K X.mg C fI x) (Tf : PySem.SupX.FnTxt X.prog X.K C fI f) (hr : Room k X.A) (ha : PA X [a] ta) (hg : Gl X x) (hd : (x == ("__debug__" : Str)) = false := by decide)
    (he : starEach (a :: []) X.env = (false, eval a X.env) :: starEach [] X.env := by rfl) (hpl : (backTo pos (starEach [] X.env)).any (·.1) = false := by rfl) :
    PMk X (.Call (.Name x p) [a] [] pos) (tMkSup C f ta) := by
  intro pins s σ H Q I h
  refine wpAny_Call_Name_kw (ld_glob I hg T.gC ?_ hd)
  refine PySem.W.callWith_K (h₀ := X.base) I.ok.mod.kin T.kC (thn (ha.run pos pins s σ H _ I h) fun us s1 hh => ?_) he hpl
  obtain ⟨vs, H1, I1, r1, v, ev, q1⟩ := hh
  subst ev
  refine ⟨I1.kIn, ?_⟩
  cases r1 with
  | cons rv rn =>
    rename_i v' us'
    cases rn
    show wpAny _ _ (call (.ref C) [v']) _ _ _
    have hlim := I1.nolimit
    obtain ⟨mb, hB1, hB2⟩ := I1.mod.blt
    have hB := hB1.keeps I1.bk
    have hG := I1.mod.glob.keeps I1.bk
    have hb : mb "super" = some (.type "super") := (hB2 _ (by decide)).trans (by decide +kernel)
    obtain ⟨hp, g, dr, tk, os⟩ := s1
    refine wpAny_call (PySem.SupX.sup_made T Tf I1.kIn hG hB hb hlim (by have := hr.dp; omega) fun h' tk' e d M => ?_)
    show MkP X pins σ Q (.ref e) ⟨h', g, dr, tk', os⟩
    obtain ⟨oe, fv, hoe, hc, hd, hdat, h1⟩ := M.obj
    have hns := M.ns
    obtain ⟨G', g1, g2⟩ := restrict h' fun b => decide (b ≠ e)
    have gk : ∀ b, b ≠ e → G'.get? b = h'.get? b := fun b hb => g1 b (decide_eq_true hb)
    have ge : G'.get? e = none := g2 e (by simp)
    have old : ∀ b o, hp.get? b = some o → G'.get? b = some o := fun b o q => (gk b (Nat.ne_of_lt (Nat.lt_of_lt_of_le (Heap.lt_size q) M.new))).trans (M.keep b o q)
    have ob : ObjOk X.prog X.w (upd H1 d (.xd [(f, v)])) G' d (.xd [(f, v)]) := ⟨_, hns.at (fun o q => (gk d M.dne).trans q), fun g => relO_one rv g⟩
    have J : Inv X pins σ (upd H1 d (.xd [(f, v)])) ⟨G', g, dr, tk', os⟩ := I1.laid (t' := tk') old M.dbig ob
    refine ⟨e, oe, fv, ⟨G', g, dr, tk', os⟩, _, .ref C, some d, rfl, J, fun b o q => ?_, ge, hoe, ⟨hc, hd⟩, hdat, h1, ?_, rfl, I1.bare, raises_own T.exC T.tyC, q1 d (I1.hok.fresh M.dbig)⟩
    · by_cases hb : b = e
      · have q' : G'.get? b = some o := q
        rw [hb, ge] at q'; cases q'
      · exact (gk b hb).symm.trans q
    · rw [upd_ne (Ne.symm M.dne)]
      exact I1.hok.fresh M.new
/-- raise C(e) -/
def tRaiseSup (C : Addr) (f : Str) (W : WX) (ta : TA) : TS := fun _ σ H => tMkSup C f ta σ H fun cls d H' => W cls d σ H'
theorem ps_raiseSup {a : Expr} {ta : TA} {W : WX} {p pos pos2 : Pos} {k : Nat} (hc : X.calm = true) (T : PySem.SupX.ClsTxt X.prog X.K X.mg C fI x) (Tf : PySem.SupX.FnTxt X.prog X.K C fI f) (hr : Room k X.A) (tk : Takes X W) (ha : PA X [a] ta) (hg : Gl X x)
    (hd : (x == ("__debug__" : Str)) = false := by decide)
    (he : starEach (a :: []) X.env = (false, eval a X.env) :: starEach [] X.env := by rfl) (hpl : (backTo pos (starEach [] X.env)).any (·.1) = false := by rfl) :
    PS X (.Raise (some (.Call (.Name x p) [a] [] pos)) none pos2) (tRaiseSup C f W ta) := ps_raise hc tk (pmk_sup T Tf hr ha hg hd he hpl)
end
end L2
namespace PySem
namespace SupX
open PySem.W PySem.Calls PyProof.Rows PySem.HandSPX
/-! ### the same without a field: def __init__(self): super().__init__() -/
def iA0 (p1 : Pos) : Arguments :=
  { posonlyargs := [], args := [{ arg := "self", annotation := none, pos := p1 }], vararg := none, kwonlyargs := [], kw_defaults := [], kwarg := none, defaults := [] }
def iB0 (q1 q2 q3 q5 q6 : Pos) : List Stmt :=
  [.Expr (.Call (.Attribute (.Call (.Name "super" q1) [] [] q2) "__init__" q3) [] [] q5) q6]
def iS0 : Scope := { kind := .function, names := [("self", .local), ("__class__", .free), ("super", .globalImplicit)], isGenerator := false, isCoroutine := false, more := [] }
structure FnTxt0 (P : Program) (K : Frag) (C fI : Addr) : Prop where
  fn : ∃ (oc doc pm kV ct : Value) (od an : Option Addr) (osl : Array (Option Value)) (qual : Str) (p1 q1 q2 q3 q5 q6 : Pos) (cda cc : Addr) (vs : Array Value) (file : Str) (tf : Tok)
      (ccl cl : Value) (cdd cld : Option Addr) (ccs csl : Array (Option Value)) (fd : FuncData),
    fd = ksFn "__init__" qual (iA0 p1) (iB0 q1 q2 q3 q5 q6) iS0 .none kV doc pm an (.ref cda) ct cc ∧
    K.lookup fI = some ⟨oc, od, .func fd, osl⟩ ∧ codeIn K (.ref cda) qual = true ∧ (∀ a : Value, bindArgs fd ⟨[a], []⟩ = pure [(("self" : Str), a)]) ∧
    K.lookup cda = some ⟨ccl, cdd, .fields vs, ccs⟩ ∧ vs[2]? = some (.str file tf) ∧ ((P.main.file : Str) == file) = true ∧ K.lookup cc = some ⟨cl, cld, .cell (some (.ref C)), csl⟩ ∧
    (∃ pl : Sem Bool, ∀ L : Addr, eval (.Call (.Attribute (.Call (.Name "super" q1) [] [] q2) "__init__" q3) [] [] q5) (ksEnv qual iS0 L fI (.ref cda) cc) = (do
      let ov ← attributeBase (.Call (.Name "super" q1) [] [] q2) "__init__" (ksEnv qual iS0 L fI (.ref cda) cc) (eval (.Call (.Name "super" q1) [] [] q2) (ksEnv qual iS0 L fI (.ref cda) cc))
      standAt q3.atName
      let (fv, first) ← holding [ov] (getMethod ov "__init__" pl)
      callWith q5 fv first (backTo q5 (starEach [] (ksEnv qual iS0 L fI (.ref cda) cc))) [])) ∧
    (∀ L : Addr, swapsWith (.Call (.Attribute (.Call (.Name "super" q1) [] [] q2) "__init__" q3) [] [] q5) none q6.line (ksEnv qual iS0 L fI (.ref cda) cc) = pure false)
theorem no_size : ([] : List Value).length ≤ sizeLine := Nat.zero_le _
/-- what __init__ leaves of a fresh exception at x: a new args tuple -/
structure InitEnd0 (h h' : Heap) (x C t1 : Addr) : Prop where
  keep : ∀ b o, b ≠ x → h.get? b = some o → h'.get? b = some o
  obj : h'.get? x = some (excO C t1)
section
variable {prog : Program} {w : World} {A : Around} {E : Value → Shared → Prop} {R : Result → Shared → Prop} {s : Shared} {K : Frag} {mg : Str → Option Value} {C fI : Addr} {x f : Str}
theorem sup_init0 (T : ClsTxt prog K mg C fI x) (Tf : FnTxt0 prog K C fI) {e t0 : Addr} (X : K.In s.heap) (G : s.heap.Ns mainGlobals mg) {mb : Str → Option Value} (B : s.heap.Ns builtinsNs mb) (hb : mb "super" = some (.type "super"))
    (hlim : s.heap.NoLimit) (hx : s.heap.get? e = some (excO C t0)) (hnx : K.lookup e = none) (hroom : A.depth < recursionLimit)
    (hq : ∀ h' tk t1, InitEnd0 s.heap h' e C t1 → R (.ok (.ret .none)) { s with heap := h', toks := tk }) :
    codeAny (model prog w) A (.call (.ref fI) ⟨[.ref e], []⟩) R s := by
  obtain ⟨oc, doc, pm, kV, ct, od, an, osl, qual, p1, q1, q2, q3, q5, q6, cda, cc, vs, file, tf, ccl, cl, cdd, cld, ccs, csl, fd, rfl, ho, hcd, hbind, hcode, hvs, hfile, hcell, ⟨pl, he⟩, hsw0⟩ := Tf.fn
  obtain ⟨nm, q, N, bs, bm, sn, sub, ab, col, dd, j0, j1, j2, j3, j5, hC, hbm⟩ := T.cls
  obtain ⟨cd, oD, hcl, hD1, hD2⟩ := cls_of T X
  have ls : iS0.names.lookup ("super" : Str) = some .globalImplicit := by decide
  have lc : iS0.names.lookup ("__class__" : Str) = some .free := by decide
  refine ks_codeAny_call_defAt (body := iB0 q1 q2 q3 q5 q6) hroom (X _ _ ho) rfl hlim (codeRec_of X hcd) rfl (BindsTo.of_eq (hbind (.ref e))) ?_ ?_ (fun h₁ hn hk => ?_) rfl rfl rfl
  · show ∀ y ∈ iS0.names, y.2 ≠ .cell
    intro y hy
    unfold iS0 at hy
    simp only [List.mem_cons, List.not_mem_nil, or_false] at hy
    rcases hy with rfl | rfl | rfl <;> (intro z; cases z)
  · show ∀ y ∈ ([(("self" : Str), Value.ref e)] : List (Str × Value)), iS0.names.lookup y.1 = some .local
    intro y hy
    simp only [List.mem_cons, List.not_mem_nil, or_false] at hy
    rcases hy with rfl
    rfl
  have X1 : K.In h₁ := X.keeps hk
  have hx1 := hk _ _ hx
  have hD1' := hk _ _ hD1
  have vS : ([(("self" : Str), Value.ref e)] : List (Str × Value)).reverse.lookup ("self" : Str) = some (.ref e) := rfl
  have hI1 : InstAt h₁ e (excO C t0) C none := ⟨hx1, rfl, rfl, trivial⟩
  refine ks_wpAt_execs_cons (ks_wpAt_Expr_any (ks_wpAt_MethodCall (pl := pl) (ks_wpAt_super_base ls lc rfl rfl (X1 _ _ ho) rfl rfl rfl (X1 _ _ hcode) rfl hvs hfile T.htop ?_) (he _)) rfl (hsw0 _))
  refine ks_loadName_global rfl ls (loadGlobal_builtin (G.keeps hk) T.msup (B.keeps hk) hb ⟨rfl, ?_⟩)
  refine wpAny_loadName_free rfl lc rfl ⟨_, X1 _ _ hcell, rfl⟩ ?_
  refine wpAny_loadName_local rfl rfl hn vS ?_
  refine ks_wpAny_isType_cls hD1' hD2 ⟨rfl, ?_⟩
  refine ks_wpAny_call_super hD1' hD2 hx1 rfl (fun c z => by cases z) (looks_mroIn X1 T.mro) (fun h₂ e2 k2 => ?_)
  have hk2 : ∀ b o, s.heap.get? b = some o → h₂.get? b = some o := fun b o z => k2 b o (hk b o z)
  have X2 : K.In h₂ := X.keeps hk2
  have hx2 := k2 _ _ hx1
  have hI2 : InstAt h₂ e (excO C t0) C none := ⟨hx2, rfl, rfl, trivial⟩
  have hsup := T.sup
  unfold ks_superIn at hsup
  rw [hcl] at hsup
  refine kxs_getMethod kxs_ValueError e2 (looks_opaque X2 T.st) (l₀ := cd.mro) (fun A Q E s k q => wpAny_bind ((looks_clsIn X2 hcl) A _ E s k (wpAny_pure q))) rfl X2 hsup (hI2.type.andThen (looks_subIn X2 T.sve)) (ks_ne X2 hI2 hcl) rfl ?_
  refine kxs_callWith (i := "ValueError.__init__") (x := e) rfl ?_
  show wpAny _ _ (evalArgs _ true [] []) _ _ _
  refine PyProof.Rows.evalArgs_empty ?_
  have hx3 : (h₂.push (kxs_mw "ValueError.__init__" e)).get? e = some (excO C t0) := Heap.get?_push_of_some _ hx2
  refine ⟨Heap.get?_push_size _ rfl, ?_⟩
  refine ve_init (t0 := t0) (Heap.get?_push_of_some _ (X2 _ _ hC)) hx3 (Heap.get?_push_size _ rfl) no_size fun h₃ t1 k3 hx4 => ?_
  have hk3 : ∀ b o, b ≠ e → s.heap.get? b = some o → h₃.get? b = some o := fun b o hb z => k3 b o hb (Heap.get?_push_of_some _ (hk2 b o z))
  refine wpAt_of_wpAny ?_
  exact wpAny_execs_nil (hq h₃ _ t1 ⟨hk3, hx4⟩)
/-- a made error without a field -/
structure Made0 (h h' : Heap) (e C : Addr) : Prop where
  keep : ∀ b o, h.get? b = some o → h'.get? b = some o
  new : h.objs.size ≤ e
  obj : ∃ oe vs, h'.get? e = some oe ∧ oe.cls = .ref C ∧ oe.dict = none ∧ oe.data = .fields vs ∧ vs[1]? = some .none
theorem sup_made0 (T : ClsTxt prog K mg C fI x) (Tf : FnTxt0 prog K C fI) (X : K.In s.heap) (G : s.heap.Ns mainGlobals mg) {mb : Str → Option Value} (B : s.heap.Ns builtinsNs mb) (hb : mb "super" = some (.type "super"))
    (hlim : s.heap.NoLimit) (hroom : A.depth + 1 < recursionLimit)
    (hq : ∀ h' tk e, Made0 s.heap h' e C → R (.ok (.ret (.ref e))) { s with heap := h', toks := tk }) :
    codeAny (model prog w) A (.call (.ref C) ⟨[], []⟩) R s := by
  obtain ⟨nm, q, N, bs, bm, sn, sub, ab, col, dd, k0, k1, k2, k3, k5, hC, hbm⟩ := T.cls
  obtain ⟨hp, g, dr, tk, os⟩ := s
  have k : ∀ b o, hp.get? b = some o → ((hp.push (kdv_tup [])).push (excO C hp.objs.size)).get? b = some o := fun b o e => Heap.get?_push_of_some _ (Heap.get?_push_of_some _ e)
  have hget : ((hp.push (kdv_tup [])).push (excO C hp.objs.size)).get? (hp.objs.size + 1) = some (excO C hp.objs.size) := by heap_get
  have hnx : K.lookup (hp.objs.size + 1) = none := by
    cases e : K.lookup (hp.objs.size + 1) with
    | none => rfl
    | some o => exact absurd (Nat.lt_of_succ_lt (Heap.lt_size (X _ _ e))) (Nat.lt_irrefl _)
  refine call_own F.excBase_ValueError (fun Y => refsVE_contains Y bm hbm) (X _ _ hC) (looks_findIn X T.iC) (fun self => bind_fn X self T.tC) no_size ?_
  refine sup_init0 (s := ⟨(hp.push (kdv_tup [])).push (excO C hp.objs.size), g, dr, tk, os⟩) T Tf (X.keeps k) (G.keeps k) (B.keeps k) hb (hlim.keeps k) hget hnx ?_ fun h' tk' t1 ⟨k', hx⟩ => ?_
  · show A.depth + 1 < recursionLimit
    exact hroom
  have old : ∀ b o, hp.get? b = some o → h'.get? b = some o := fun b o e => k' b o (Nat.ne_of_lt (Nat.lt_succ_of_lt (Heap.lt_size e))) (k b o e)
  exact ⟨rfl, hq h' tk' (hp.objs.size + 1) ⟨old, Nat.le_succ _, ⟨_, _, hx, rfl, rfl, rfl, rfl⟩⟩⟩
end
end SupX
end PySem
namespace L2
open PySem PySem.Spec PyProof.Rows
section
variable {X : Cx} {C fI : Addr} {x : Str}
/-- C() -/
def tMkSup0 (C : Addr) : St → Hp → XK → Prop := fun _ H Q => Q (.ref C) none H
theorem pmk_sup0 {p pos : Pos} {k : Nat} (T : PySem.SupX.ClsTxt X.prog X.K X.mg C fI x) (Tf : PySem.SupX.FnTxt0 X.prog X.K C fI) (hr : Room k X.A) (hg : Gl X x) (hd : (x == ("__debug__" : Str)) = false := by decide) :
    PMk X (.Call (.Name x p) [] [] pos) (tMkSup0 C) := by
  intro pins s σ H Q I h
  refine wpAny_Call_Name_kw (ld_glob I hg T.gC ?_ hd)
  refine PySem.W.callWith_K0 I.kIn T.kC ?_
  show wpAny _ _ (call (.ref C) []) _ _ _
  have hlim := I.nolimit
  obtain ⟨mb, hB1, hB2⟩ := I.ok.mod.blt
  have hB := hB1.keeps I.bk
  have hG := I.ok.mod.glob.keeps I.bk
  have hb : mb "super" = some (.type "super") := (hB2 _ (by decide)).trans (by decide +kernel)
  obtain ⟨hp, g, dr, tk, os⟩ := s
  refine wpAny_call (PySem.SupX.sup_made0 T Tf I.kIn hG hB hb hlim (by have := hr.dp; omega) fun h' tk' e M => ?_)
  show MkP X pins σ Q (.ref e) ⟨h', g, dr, tk', os⟩
  obtain ⟨oe, fv, hoe, hc, hd, hdat, h1⟩ := M.obj
  obtain ⟨G', g1, g2⟩ := restrict h' fun b => decide (b ≠ e)
  have gk : ∀ b, b ≠ e → G'.get? b = h'.get? b := fun b hb => g1 b (decide_eq_true hb)
  have ge : G'.get? e = none := g2 e (by simp)
  have old : ∀ b o, hp.get? b = some o → G'.get? b = some o := fun b o q => (gk b (Nat.ne_of_lt (Nat.lt_of_lt_of_le (Heap.lt_size q) M.new))).trans (M.keep b o q)
  have J : Inv X pins σ H ⟨G', g, dr, tk', os⟩ := I.kept (t' := tk') old
  refine ⟨e, oe, fv, ⟨G', g, dr, tk', os⟩, _, .ref C, none, rfl, J, fun b o q => ?_, ge, hoe, ⟨hc, hd⟩, hdat, h1, ?_, rfl, I.bare, raises_own T.exC T.tyC, h⟩
  · by_cases hb : b = e
    · have q' : G'.get? b = some o := q
      rw [hb, ge] at q'; cases q'
    · exact (gk b hb).symm.trans q
  · exact I.hok.fresh M.new
/-- raise C() -/
def tRaiseSup0 (C : Addr) (W : WX) : TS := fun _ σ H => W (.ref C) none σ H
theorem ps_raiseSup0 {W : WX} {p pos pos2 : Pos} {k : Nat} (hc : X.calm = true) (T : PySem.SupX.ClsTxt X.prog X.K X.mg C fI x) (Tf : PySem.SupX.FnTxt0 X.prog X.K C fI) (hr : Room k X.A) (tk : Takes X W) (hg : Gl X x)
    (hd : (x == ("__debug__" : Str)) = false := by decide) :
    PS X (.Raise (some (.Call (.Name x p) [] [] pos)) none pos2) (tRaiseSup0 C W) := ps_raise hc tk (pmk_sup0 T Tf hr hg hd)
end
end L2
namespace L2
open PySem PySem.Spec PyProof.Rows
/-! ### try with any number of clauses, each with a name or without -/
/-- a clause: the class, the slot of its name, what its suite is read as -/
structure Clause where
  cls : Value
  slot : Option Nat
  run : Addr → Value → Option Addr → TS
/-- behind the suite the name is gone -/
def Clause.ends (c : Clause) (D : Ends) : Ends :=
  let off : St → St := fun σ => match c.slot with | none => σ | some i => σ.set i none
  ⟨fun σ H => D.nx (off σ) H, D.rt, fun σ H => D.bk (off σ) H, fun σ H => D.ct (off σ) H⟩
def Clause.slots (c : Clause) (σ : St) (a : Addr) : St := match c.slot with | none => σ | some i => σ.set i (some (.ref a))
/-- the first clause whose class fits, else the wish of those without -/
def firstOf (K : PySem.W.Frag) (out : WX) (D : Ends) : List Clause → WX
  | [] => out
  | c :: r => fun cls d σ H => (PySem.W.exmOne K cls c.cls = some true ∧ ∀ a, H a = none → c.run a cls d (c.ends D) (c.slots σ a) H) ∨ (PySem.W.exmOne K cls c.cls = some false ∧ firstOf K out D r cls d σ H)
/-- a clause of the text -/
structure ClauseOf (X : Cx) (h : ExceptHandler) (c : Clause) : Prop where
  is : ∃ (x : Str) (np pos : Pos) (b : Stmt) (bs : List Stmt) (n : Option Str), h = .ExceptHandler (some (.Name x np)) n (b :: bs) pos ∧ Names X x c.cls ∧
    (∀ (a : Addr) (o : Obj) (cls : Value) (d : Option Addr) (pn : List (Addr × Obj)), Zc cls d o → (∃ vs, o.data = .fields vs) → PSs (X.suite a ((a, o) :: pn)) (b :: bs) (c.run a cls d)) ∧
    ((n = none ∧ c.slot = none) ∨ ∃ (y : Str) (i : Nat), n = some y ∧ c.slot = some i ∧ X.N[i]? = some y ∧ X.env.kindOf y = some .local)
/-- an exception at a has come down in the frame, the heap being h -/
structure Fallen (X : Cx) (pins : List (Addr × Obj)) (σ : St) (H : Hp) (cls : Value) (d : Option Addr) (a : Addr) (s : Shared) : Prop where
  ex : ∃ (B : Heap) (sI : Shared), Inv X pins σ H sI ∧ (∀ b o, sI.heap.get? b = some o → b ∉ frs X.stack → B.get? b = some o) ∧ sI.heap.UpToSlots s.heap ∧ HandSPX.FlyingZ B X.stack a (Zc cls d) s.heap ∧ H a = none ∧ s.os = sI.os ∧ AllBare s.gens
section
variable {X : Cx} {pins : List (Addr × Obj)} {σ : St} {H : Hp} {cls : Value} {d : Option Addr} {a : Addr} {s : Shared}
theorem Fallen.inv (f : Fallen X pins σ H cls d a s) : Inv X pins σ H s := by
  obtain ⟨B, sI, J, nb, up, fl, _, os, ag⟩ := f.ex
  exact J.landed nb fl.1 up os ag
theorem Fallen.obj (f : Fallen X pins σ H cls d a s) : ∃ o vs, s.heap.get? a = some o ∧ Zc cls d o ∧ o.data = .fields vs := by
  obtain ⟨B, sI, _, _, _, fl, _⟩ := f.ex
  exact fl.there
/-- its suite begins -/
theorem Fallen.within (f : Fallen X pins σ H cls d a s) (hs : X.stack = X.env :: X.outer) (hf : X.env.frame = some X.env.locals) :
    ∃ o, Zc cls d o ∧ (∃ vs, o.data = .fields vs) ∧ Inv (X.suite a ((a, o) :: (X.pn ++ pins))) [] σ H s := by
  obtain ⟨o, vs, ho, hz, hd⟩ := f.obj
  have J := f.inv
  obtain ⟨B, sI, _, _, _, fl, na, _⟩ := f.ex
  have out : a ∉ frs X.stack := fun hm => by
    obtain ⟨_, o', e', hnf⟩ := fl.2.2.1.mem hm
    cases ho.symm.trans e'
    exact hnf _ hd
  rw [hs] at out
  exact ⟨o, hz, ⟨vs, hd⟩, J.suite ho hd na (fun z => out (List.mem_filterMap.mpr ⟨X.env, .head _, by rw [hf, z]⟩)) fun hm => out (by
    obtain ⟨e, he, q⟩ := List.mem_filterMap.mp hm
    exact List.mem_filterMap.mpr ⟨e, .tail _ he, q⟩)⟩
/-- its flight is set to none again -/
theorem Fallen.again {Q : Unit → Shared → Prop} {E : Value → Shared → Prop} {A : Around} (f : Fallen X pins σ H cls d a s) (h : ∀ s', Fallen X pins σ H cls d a s' → Q () s') : wpAny (model X.prog X.w) A (setFlight (.ref a) none) Q E s := by
  obtain ⟨B, sI, J, nb, up, fl, na, os, ag⟩ := f.ex
  exact HandSPX.lands_againZ fl fun h4 fl4 up4 => h _ ⟨B, sI, J, nb, up.trans up4, fl4, na, os, ag⟩
/-- no clause fits -/
theorem Fallen.leaves {D : Ends} {out : WX} (f : Fallen X pins σ H cls d a s) (hs : X.stack = X.env :: X.outer) (hf : X.env.frame = some X.env.locals) (tk : Takes X out) (w : out cls d σ H) :
    wpAny (model X.prog X.w) X.A (handleBy (.ref a) X.env []) (SP X pins D) X.xe s := by
  obtain ⟨B, sI, J, nb, up, fl, na, os, ag⟩ := f.ex
  refine wpAny_handleBy_nil ?_
  obtain ⟨_, _, _, o, vs, T, oT, _, ho, _, hd, h1, _⟩ := id fl
  have go : wpAny (model X.prog X.w) X.A (setFlight (.ref a) X.env.frame) (fun _ t => wpAny (model X.prog X.w) X.A (throw (.ref a) : Sem Flow) (SP X pins D) X.xe t) X.xe s := by
    rw [hf]
    exact HandSPX.setFlight_upZ fl fun h4 hh up4 => wpAny_throw (tk _ _ ⟨a, B, sI, pins, σ, H, cls, d, rfl, J, nb, up.trans up4, .inr (.inr hh), na, os, ag, w⟩)
  unfold PySem.passOn
  refine wpAny_bind (wpAny_field ho hd h1 ?_)
  rw [if_neg (by simp)]
  first
    | exact wpAny_bind go
    | exact wpAny_bind (wpAny_pure (wpAny_bind go))
/-- the test of a clause -/
theorem Fallen.test {x : Str} {np : Pos} {c : Value} {b : Bool} {Q : Bool → Shared → Prop} {E E' : Value → Shared → Prop} (f : Fallen X pins σ H cls d a s) (hs : X.stack = X.env :: X.outer) (hf : X.env.frame = some X.env.locals) (hc : Names X x c) (hb : PySem.W.exmOne X.K cls c = some b) (h : Q b s) :
    wpAny (model X.prog X.w) (X.A.mark (some (.ref a))) (eval (.Name x np) X.env) (fun c s₁ => wpAny (model X.prog X.w) (X.A.mark (some (.ref a))) (excMatches (.ref a) c) Q E s₁) E' s := by
  obtain ⟨o, vs, ho, hz, hd⟩ := f.obj
  obtain ⟨o2, _, _, S⟩ := f.within hs hf
  have cl : PySem.W.Looks (model X.prog X.w) s.heap (typeOf (.ref a)) cls := fun _ _ _ _ k q => wpAny_typeOf_ref (k _ _ ho) (by rw [hz.1]; exact q)
  have q := (PySem.W.exm_one (M := model X.prog X.w) f.inv.kIn cl hb).here (A := X.A.mark (some (.ref a))) (Q := Q) (E := E) h
  obtain ⟨hg, hdb, hm | ⟨hm, hv, hn⟩⟩ := hc
  · exact ld_glob (X := X.suite a ((a, o2) :: (X.pn ++ pins))) S hg hm q hdb
  · exact ld_blt (X := X.suite a ((a, o2) :: (X.pn ++ pins))) S hg hm hv q hn hdb
/-- what a suite ends with, told outside -/
theorem suiteEnds {o : Obj} {fw : Flow} {D D' : Ends} {off : St → St} {Q : Shared → Prop} (ok : X.Ok) (e : D' = ⟨fun σ H => D.nx (off σ) H, D.rt, fun σ H => D.bk (off σ) H, fun σ H => D.ct (off σ) H⟩)
    (h : SP (X.suite a ((a, o) :: (X.pn ++ pins))) [] D' fw s) (k : ∀ σ' H', Inv X pins σ' H' s → (∀ s', Inv X pins (off σ') H' s' → SP X pins D fw s') → Q s) : Q s := by
  subst e
  cases fw with
  | next => obtain ⟨σ', H', S, q⟩ := h; exact k _ _ (S.unsuite ok) fun s' J => ⟨_, _, J, q⟩
  | brk => obtain ⟨σ', H', S, q⟩ := h; exact k _ _ (S.unsuite ok) fun s' J => ⟨_, _, J, q⟩
  | cont => obtain ⟨σ', H', S, q⟩ := h; exact k _ _ (S.unsuite ok) fun s' J => ⟨_, _, J, q⟩
  | ret u => obtain ⟨v, σ', H', S, r, q⟩ := h; exact k _ _ (S.unsuite ok) fun s' J => ⟨_, _, _, J, r, q⟩
inductive ClausesOf (X : Cx) : List ExceptHandler → List Clause → Prop
  | nil : ClausesOf X [] []
  | cons {h : ExceptHandler} {hs : List ExceptHandler} {c : Clause} {cs : List Clause} : ClauseOf X h c → ClausesOf X hs cs → ClausesOf X (h :: hs) (c :: cs)
theorem Fallen.caught {D : Ends} {out : WX} (hs : X.stack = X.env :: X.outer) (hf : X.env.frame = some X.env.locals) (hN : X.N.Nodup) (tk : Takes X out) {hds : List ExceptHandler} {cs : List Clause} (C : ClausesOf X hds cs) (f : Fallen X pins σ H cls d a s) (w : firstOf X.K out D cs cls d σ H) :
    wpAny (model X.prog X.w) X.A (handleBy (.ref a) X.env hds) (SP X pins D) X.xe s := by
  induction C with
  | nil => exact f.leaves hs hf tk w
  | @cons h hs' c cs' hc _ ih =>
    obtain ⟨x, np, pos, b, bs, n, rfl, hn, hsu, hname⟩ := hc.is
    refine wpAny_handleBy_cons (codeAny_handlers_test ?_) (by intro q; cases q)
    rcases w with ⟨hb, w⟩ | ⟨hb, w⟩
    · refine f.test hs hf hn hb ?_
      rcases hname with ⟨rfl, hsl⟩ | ⟨y, i, rfl, hsl, hi, hl⟩
      · refine codeAny_handlers_suite (f.again fun s4 f4 => ?_)
        obtain ⟨o, hz, hd, S⟩ := f4.within hs hf
        have na : H a = none := let ⟨_, _, _, _, _, _, na, _⟩ := f4.ex; na
        have w' := w a na
        unfold Clause.slots at w'
        rw [hsl] at w'
        refine wpAny_mono ((hsu a o cls d (X.pn ++ pins) hz hd).run [] s4 _ H _ S w') (fun fw s6 q => ?_) (fun _ _ z => z.elim)
        exact suiteEnds (off := id) f.inv.ok (by unfold Clause.ends; rw [hsl]; rfl) q fun σ' H' J k => k s6 J
      · refine codeAny_handlers_suite_as (f.again fun s4 f4 => ?_)
        obtain ⟨o, hz, hd, S⟩ := f4.within hs hf
        have na : H a = none := let ⟨_, _, _, _, _, _, na, _⟩ := f4.ex; na
        have w' := w a na
        unfold Clause.slots at w'
        rw [hsl] at w'
        refine store_ok (X := X.suite a ((a, o) :: (X.pn ++ pins))) (v := .ref a) S hN hi (.inl hl) rfl (fun s5 S5 => ?_) (.inr hl)
        refine wpAny_mono ((hsu a o cls d (X.pn ++ pins) hz hd).run [] s5 _ H _ S5 w') (fun fw s6 q => ?_) (fun _ _ z => z.elim)
        exact suiteEnds (off := fun σ => σ.set i none) f.inv.ok (by unfold Clause.ends; rw [hsl]) q fun σ' H' J k => gone_ok J hN hi hl k
    · exact f.test hs hf hn hb (ih w)
end
section
variable {X : Cx} {body : List Stmt} {h₀ : ExceptHandler} {hds : List ExceptHandler} {cs : List Clause} {pos : Pos} {tb : WX → TS} {out : WX}
theorem ps_clauses (hs : X.stack = X.env :: X.outer) (hf : X.env.frame = some X.env.locals) (hN : X.N.Nodup) (tk : Takes X out)
    (hb : ∀ (W : WX) (pn : List (Addr × Obj)) (xe : Value → Shared → Prop), Takes (X.tr pn xe) W → PassesOwn (model X.prog X.w) X.A X.env xe → PSs (X.tr pn xe) body (tb W)) (C : ClausesOf X (h₀ :: hds) cs) :
    PS X (.Try body (h₀ :: hds) [] [] pos) (fun D σ H => tb (firstOf X.K out D cs) D σ H) := by
  refine ⟨fun pins s σ H D I h => wpAny_Try_except ?_⟩
  have ok := I.ok
  have main := (hb (firstOf X.K out D cs) (X.pn ++ pins) (fun e s₁ => wpAny (model X.prog X.w) X.A (noteFrame e X.env) (fun _ s₂ => wpAny (model X.prog X.w) X.A (setFlight e none) (fun _ s₃ => wpAny (model X.prog X.w) X.A (handleBy e X.env (h₀ :: hds)) (SP X pins D) X.xe s₃) X.xe s₂) X.xe s₁)
    (fun u s' x => by
      obtain ⟨a, B, sI, pn', σ', H', cls, d, rfl, J, nb, up, sky, na, os, ag, w⟩ := x
      have fr : X.A.frames = some (X.env :: X.outer) := by rw [ok.frames, hs]
      have sky2 : Sky B (X.env :: X.outer) a (Zc cls d) X.env.locals s'.heap := by rw [← hs]; exact sky
      exact Sky.land Zc.steady fr hf sky2 fun h3 fl up3 => Fallen.caught hs hf hN tk C ⟨B, sI, J.ofTry ok, nb, up.trans up3, by rw [hs]; exact fl, na, os, ag⟩ w) PassesOwn.looking).run [] s σ H D (I.toTry _) h
  refine wpAny_mono main (fun fw s1 q => ?_) (fun _ _ z => z)
  cases fw with
  | next => obtain ⟨σ', H', J, q⟩ := q; exact wpAny_execs_nil ⟨σ', H', J.ofTry ok, q⟩
  | brk => obtain ⟨σ', H', J, q⟩ := q; exact ⟨σ', H', J.ofTry ok, q⟩
  | cont => obtain ⟨σ', H', J, q⟩ := q; exact ⟨σ', H', J.ofTry ok, q⟩
  | ret u => obtain ⟨v, σ', H', J, r, q⟩ := q; exact ⟨v, σ', H', J.ofTry ok, r, q⟩
end
end L2
namespace L2
open PySem PySem.Spec PyProof.Rows
/-! ### methods and makings that may fail -/
section
variable {X : Cx} {CX : CXT} {k : Nat} {f C : Addr} {fd : FuncData} {ps : List Str} {sp : Sp} {dvs : List V} {ds : List Value} {m x : Str} {p pos apos : Pos} {e o : Expr} {es : List Expr} {ta : TE} {t : TA} {pl : Sem Bool}
def tMethS' (C : Addr) (m : Str) (sp : Sp) (E : St → XK) (ta : TE) (t : TA) : TE := fun σ H Q => ta σ H fun x H1 => ∃ a dx fs, x = .ref a ∧ H1 a = some (.ins C dx fs) ∧ fs.lookup m = none ∧ t σ H1 fun vs H2 => sp (x :: vs) H2 Q (E σ)
theorem pe_methE {E : St → XK} (he : PE X o ta) (c : Cls X.K C) (hm : Meth X.K C m f) (F : FnOk X.prog X.w X.K X.mg X.base CX k f fd ps sp) (hr : Room k X.A) (hb : Binds X.K fd ps []) (hx : ∀ σ, PassesAt CX X σ (E σ)) (ha : PA X (e :: es) t)
    (hst : starEach (e :: es) X.env = (false, eval e X.env) :: starEach es X.env := by rfl) (hpl : (backTo pos (starEach es X.env)).any (·.1) = false := by rfl)
    (ht : eval (.Call (.Attribute o m apos) (e :: es) [] pos) X.env = (do
      let ov ← eval o X.env
      standAt apos.atName
      let (fv, first) ← holding [ov] (getMethod ov m pl)
      callWith pos fv first (backTo pos (starEach (e :: es) X.env)) (backToKw pos (keywordEach [] X.env))) := by rfl) :
    PE X (.Call (.Attribute o m apos) (e :: es) [] pos) (tMethS' C m sp E ta t) := by
  refine ⟨fun pins s σ H Q I h => PySem.W.methodCall_KW (thn (he.run pins s σ H _ I h) fun u s1 ⟨x, H1, I1, rx, a, dx, fs, ex, ea, l, q⟩ => ?_) ht⟩
  subst ex
  obtain rfl : u = Value.ref a := rx
  refine getmeth_ok I1 ea c hm l (PySem.W.callWith_K I.ok.mod.kin hm.kp (thn (ha.run pos pins s1 σ H1 _ I1 q) fun us s2 ⟨vs, H2, I2, r, q2⟩ => ⟨I2.kIn, ?_⟩) hst hpl)
  exact run_fnS F hr hb (hx σ) I2 (.cons (show RelV (V.ref a) (Value.ref a) from rfl) r) q2
theorem run_makeE {E : XK} {pins : List (Addr × Obj)} {σ : St} {H : Hp} {s : Shared} {Q : VK} {us : List Value} {vs : List V} (M : Mk X.K C f) (F : FnOk X.prog X.w X.K X.mg X.base CX k f fd ps sp) (hr : Room (k + 1) X.A) (hb : Binds X.K fd ps ds) (hd : Vals dvs ds) (hx : PassesAt CX X σ E) (I : Inv X pins σ H s) (r : Vals vs us)
    (h : ∀ (x dx : Addr), H x = none → H dx = none → dx ≠ x → sp (.ref x :: (vs ++ dvs)) (upd (upd H dx (.own x)) x (.ins C dx [])) (fun v H2 => v = .non ∧ Q (.ref x) H2) E) : wpAny (model X.prog X.w) X.A (call (.ref C) us) (EP X pins σ Q) X.xe s := by
  have hq := h (s.heap.objs.size + 1) s.heap.objs.size (I.hok.fresh (Nat.le_succ _)) (I.hok.fresh (Nat.le_refl _)) (Nat.ne_of_lt (Nat.lt_succ_self _))
  have I2 := Inv.made (C := C) I
  have r2 : Vals (V.ref (s.heap.objs.size + 1) :: (vs ++ dvs)) (Value.ref (s.heap.objs.size + 1) :: (us ++ ds)) := .cons rfl (Vals.append r hd)
  have hl : (Value.ref (s.heap.objs.size + 1) :: (us ++ ds)).length = ps.length := (Vals.length r2).symm.trans (F.len _ _ _ _ hq)
  refine wpAny_call (make_map I.kIn M.makes M.init (beq_iff_eq.mp M.fn) (codeAny_mono (F.run _ X.stack _ _ ⟨Value.ref (s.heap.objs.size + 1) :: us, []⟩ _ _ _ E (Room.make hr C us []) (Env0.make I2.env0 C us []) (hb _ (Value.ref (s.heap.objs.size + 1) :: us) I2.kIn hl) r2 hq) fun r s' hq' => ?_))
  match r, hq' with
  | .error e, hq' => exact hx pins _ _ e s' I2 hq'
  | .ok (.ret u), hq' =>
    obtain ⟨v, H', I3, rv, ev, q3⟩ := I2.after hq'
    subst ev
    obtain rfl : u = Value.none := rv
    exact ⟨rfl, .ref (s.heap.objs.size + 1), H', I3, rfl, q3⟩
def tMakeS (C : Addr) (sp : Sp) (dvs : List V) (E : St → XK) (t : TA) : TE := fun σ H Q => tMake C sp dvs (E σ) t σ H Q
theorem pe_makeS {E : St → XK} (M : Mk X.K C f) (F : FnOk X.prog X.w X.K X.mg X.base CX k f fd ps sp) (hr : Room (k + 1) X.A) (hg : Gl X x) (hm : X.mg x = some (.ref C)) (hb : Binds X.K fd ps ds) (hd : Vals dvs ds) (hx : ∀ σ, PassesAt CX X σ (E σ)) (ha : PA X (e :: es) t)
    (hdb : (x == ("__debug__" : Str)) = false := by decide) (he : starEach (e :: es) X.env = (false, eval e X.env) :: starEach es X.env := by rfl) (hpl : (backTo pos (starEach es X.env)).any (·.1) = false := by rfl) : PE X (.Call (.Name x p) (e :: es) [] pos) (tMakeS C sp dvs E t) := by
  refine ⟨fun pins s σ H Q I h => wpAny_Call_Name_kw (ld_glob I hg hm (PySem.W.callWith_K I.ok.mod.kin M.kp (thn (ha.run pos pins s σ H _ I h) fun us s1 ⟨vs, H1, I1, r, q⟩ => ⟨I1.kIn, ?_⟩) he hpl) hdb)⟩
  exact run_makeE M F hr hb hd (hx σ) I1 r q
end
end L2
namespace L2
open PySem PySem.Spec PyProof.Rows
/-! ### len(x), x of a class of the text with an own __len__ -/
section
variable {X : Cx} {CX : CXT} {C f : Addr} {fd : FuncData} {ps : List Str} {sp : Sp} {E : XK} {k : Nat}
def rLenO (C : Addr) (sp : Sp) (E : XK) : List V → Hp → VK → Prop := fun xs H Q => ∃ (a dx : Addr) (fs : List (Str × V)), xs = [.ref a] ∧ H a = some (.ins C dx fs) ∧ sp [.ref a] H (fun v H' => ∃ n : Nat, v = .int (n : Nat) ∧ n < sizeLine ∧ Q (.int (n : Nat)) H') E
theorem call_lenO (F : FnOk X.prog X.w X.K X.mg X.base CX k f fd ps sp) (hs : PySem.W.findIn X.K (.ref C) "__len__" = some (some (.ref f))) (hf : PySem.W.isFn X.K (.ref f) = true) (hb : Binds X.K fd ps []) (hx : Passes CX X E) (hr : Room (k + 1) X.A) :
    CallR X (.builtin "len") (rLenO C sp E) := by
  intro pins s σ H xs us Q I r h
  obtain ⟨a, dx, fs, rfl, ha, hsp⟩ := h
  obtain ⟨u, rfl, ru⟩ := vals1 r
  cases ru
  have J := (ins_get I.hok ha).choose_spec.1.look.choose_spec.1
  have sb : Sub X k X.A.in1 := Sub.in1 ⟨hr, rfl⟩
  have e0 : Env0 X.prog X.w X.K X.mg X.base X.A.in1 X.stack s H := let e := I.env0; ⟨by rw [sb.fr, e.frames], e.mod, e.bs, e.bsz, e.funs, e.frf, e.hok, e.bare⟩
  have bnd := hb s [.ref a] I.kIn (by simpa using F.len _ _ _ _ hsp)
  have run := F.run X.A.in1 X.stack s H ⟨[.ref a], []⟩ [.ref a] [.ref a] _ E sb.room e0 (by simpa using bnd) (.cons rfl .nil) hsp
  have h24 : sizeLine = 16777216 := sizeLine_eq
  refine Calls.call_function_entry kind_len plain_len entry_len (args_len1 _) (show wpAny _ _ (Builtin.«len» _) _ _ _ from ?_)
  unfold Builtin.«len»
  refine wpAny_bind (m := oneArg "len" _) (wpAny_pure (wpAny_bind (m := callSpecial? (.ref a) (Str.ofString "__len__")) (PySem.W.special_fn I.kIn J hs (beq_iff_eq.mp hf) (wpAny_call (codeAny_mono run fun r s' hq => ?_)))))
  match r, hq with
  | .error e, hq => exact hx pins σ H s e s' I hq
  | .ok (.ret w), hq =>
    obtain ⟨z, H', I', rz, n, rfl, hn, q⟩ := I.after hq
    obtain ⟨t, rfl⟩ := rz
    refine wpAny_bind (wpAny_holding (wpAny_pure (wpAny_bind (wpAny_letGo (show wpAny _ _ (if ((n : Nat) : Int) < 0 then _ else _) _ _ _ from ?_)))))
    rw [if_neg (show ¬ ((n : Nat) : Int) < 0 by omega)]
    refine (show wpAny _ _ (if ((n : Nat) : Int) ≥ 2 ^ 63 then _ else _) _ _ _ from ?_)
    rw [if_neg (show ¬ ((n : Nat) : Int) ≥ 2 ^ 63 by omega)]
    exact wpAny_bind (wpAny_mkInt (wpAny_pure ⟨Value.int (n : Nat) s'.toks, rfl, V.int (n : Nat), H', I'.tok _, ⟨_, rfl⟩, q⟩))
  | .ok .next, hq | .ok .brk, hq | .ok .cont, hq => exact hq.elim
end
end L2
/-! ### dict(zip(a, b)) of two tuples -/
namespace DZ
open PySem
section
variable {P : Program} {w : World} {A : Around} {B : Value → Shared → Prop} {s : Shared} {z TI TO T i1 i2 l1 l2 : Addr} {f : Bool} {oT : Obj} {k1 k2 : Nat} {xs ys : Array Value}
/-- one step of a zip whose last pair is still out: its two iterators are asked in turn -/
theorem out_step {Q : Fin → Shared → Prop} (hz : IsZipHeld s.heap z TI TO T f) (hT : s.heap.get? T = some oT) (hTI : IsPair s.heap TI (.ref i1) (.ref i2))
    (k : ∀ h1, IsZipHeld h1 z TI TO T true → Heap.SameBut z s.heap h1 → wpAny (model P w) A (Builtin.SmallTypes.nextOf (.ref i1)) (fun x s2 => wpAny (model P w) A (Builtin.SmallTypes.nextOf (.ref i2)) (fun y s3 => wpAny (model P w) A (newTuple [x, y]) (fun v s4 => Q (.done (.ret v)) s4) B s3) B s2) B { s with heap := h1 }) :
    wpAny (model P w) A (Builtin.«zip.__next__» ⟨[.ref z], []⟩) Q B s := by
  refine (show wpAny _ _ (field (.ref z) 2 >>= _) _ _ _ from wpAny_bind (wpAny_field hz rfl (x := .bool false) rfl (show wpAny _ _ (field (.ref z) 3 >>= _) _ _ _ from wpAny_bind (wpAny_field hz rfl (x := .ref TI) rfl (wpAny_bind (wpAny_seqItems hTI rfl (show wpAny _ _ (Builtin.SmallTypes.ownedTupleIsFree (.ref z) >>= _) _ _ _ from wpAny_bind (wpAny_tupleHeld_zip hz hT fun h1 hz1 hs1 => ?_))))))))
  simp only [Bool.false_eq_true, if_false, ← Array.forIn_toList, List.forIn_cons, List.forIn_nil]
  refine wpAny_bind (wpAny_bind (wpAny_bind (wpAny_holding (show wpAny _ _ (Builtin.SmallTypes.nextOf (.ref i1) >>= _) _ _ _ from wpAny_bind (wpAny_mono (k h1 hz1 hs1) (fun x s2 h2 => wpAny_pure (wpAny_pure ?_)) fun _ _ e => e)))))
  refine wpAny_bind (wpAny_bind (wpAny_holding (show wpAny _ _ (Builtin.SmallTypes.nextOf (.ref i2) >>= _) _ _ _ from wpAny_bind (wpAny_mono h2 (fun y s3 h3 => wpAny_pure (wpAny_pure (wpAny_pure ?_))) fun _ _ e => e))))
  exact (show wpAny _ _ (newTuple [x, y] >>= _) _ _ _ from wpAny_bind (wpAny_mono h3 (fun v s4 h4 => wpAny_pure h4) fun _ _ e => e))
open RZ
theorem out_item {Q : Option Value → Shared → Prop} {x y : Value} (D : ZipApart z TI TO i1 i2 l1 l2) (hz : IsZipHeld s.heap z TI TO T f) (hT : s.heap.get? T = some oT) (hTI : IsPair s.heap TI (.ref i1) (.ref i2))
    (a1 : s.heap.IsTupleIter i1 l1 k1) (a2 : s.heap.IsTupleIter i2 l2 k2) (b1 : s.heap.IsTuple l1 xs) (b2 : s.heap.IsTuple l2 ys) (hx : xs[k1]? = some x) (hy : ys[k2]? = some y)
    (q : ∀ h', IsZipHeld h' z TI TO T true → h'.IsTupleIter i1 l1 (k1 + 1) → h'.IsTupleIter i2 l2 (k2 + 1) → IsPair h' s.heap.objs.size x y → (∀ c o, c ≠ z → c ≠ i1 → c ≠ i2 → s.heap.get? c = some o → h'.get? c = some o) → Q (some (.ref s.heap.objs.size)) { s with heap := h' }) :
    wpAny (model P w) A (pyNext (.ref z)) Q B s := by
  have ty : s.TypeIs (.ref z) "zip" := ⟨_, hz, rfl⟩
  unfold pyNext
  refine wpAny_bind (wpAny_attempt (wpAny_callSpecial?_slot (name := Str.ofString "__next__") ty F.slot_zip_next (wpAny_call_entry F.slot_zip_next ty F.entry_zip_next (out_step hz hT hTI fun h1 z1 s1 => ?_) (F.args_zip_next_1 _))))
  refine nextOf_tuple_item (s := { s with heap := h1 }) (a1.extBut s1.extBut D.i1z) (b1.extBut s1.extBut D.l1z) hx fun h2 c1 s2 => ?_
  refine nextOf_tuple_item (s := { s with heap := h2 }) ((a2.extBut s1.extBut D.i2z).extBut s2.extBut D.i12.symm) ((b2.extBut s1.extBut D.l2z).extBut s2.extBut D.l2i1) hy fun h3 c2 s3 => ?_
  refine wpAny_newTuple ⟨_, rfl, wpAny_pure ?_⟩
  have n : h3.objs.size = s.heap.objs.size := by rw [s3.1, s2.1, s1.1]
  have pr : IsPair (h3.push { cls := .type "tuple", data := .seq #[x, y] }) h3.objs.size x y := Heap.get?_push_size _ rfl
  show Q (some (.ref h3.objs.size)) _
  rw [n] at pr ⊢
  exact q _ (Heap.get?_push_of_some _ (s3.extBut _ _ D.i2z.symm (s2.extBut _ _ D.i1z.symm z1))) ((c1.extBut s3.extBut D.i12).at fun o e => Heap.get?_push_of_some _ e) (c2.at fun o e => Heap.get?_push_of_some _ e) pr
    fun c o n1 n2 n3 e => Heap.get?_push_of_some _ (s3.extBut _ _ n3 (s2.extBut _ _ n2 (s1.extBut _ _ n1 e)))
theorem out_end {Q : Option Value → Shared → Prop} (hh : A.handled = none) (D : ZipApart z TI TO i1 i2 l1 l2) (hz : IsZipHeld s.heap z TI TO T f) (hT : s.heap.get? T = some oT) (hTI : IsPair s.heap TI (.ref i1) (.ref i2))
    (a1 : s.heap.IsTupleIter i1 l1 k1) (a2 : s.heap.IsTupleIter i2 l2 k2) (b1 : s.heap.IsTuple l1 xs) (b2 : s.heap.IsTuple l2 ys) (he : xs[k1]? = none ∨ ys[k2]? = none)
    (q : ∀ h', (∀ c o, c ≠ z → c ≠ i1 → c ≠ i2 → s.heap.get? c = some o → h'.get? c = some o) → Q none { s with heap := h' }) : wpAny (model P w) A (pyNext (.ref z)) Q B s := by
  have ty : s.TypeIs (.ref z) "zip" := ⟨_, hz, rfl⟩
  have out : ∀ h' e, (∀ c o, c ≠ z → c ≠ i1 → c ≠ i2 → s.heap.get? c = some o → h'.get? c = some o) → (∃ o, h'.get? e = some o ∧ o.cls = .type "StopIteration") →
      wpAny (model P w) A (do if ← isInstance (.ref e) (.type "StopIteration") then pure none else throw (.ref e)) Q B { s with heap := h' } := fun h' e k ⟨o, ho, hc⟩ =>
    wpAny_bind (wpAny_isInstance (T := "StopIteration") (b := true) ⟨o, ho, hc⟩ isSubtype_stop (wpAny_pure (q _ k)))
  unfold pyNext
  refine wpAny_bind (wpAny_attempt (wpAny_callSpecial?_slot (name := Str.ofString "__next__") ty F.slot_zip_next (wpAny_call_entry F.slot_zip_next ty F.entry_zip_next (out_step hz hT hTI fun h1 z1 s1 => ?_) (F.args_zip_next_1 _))))
  cases hx : xs[k1]? with
  | none => exact nextOf_tuple_end (s := { s with heap := h1 }) hh (a1.extBut s1.extBut D.i1z) (b1.extBut s1.extBut D.l1z) hx fun h2 e s2 he => out h2 e (fun c o n1 n2 _ x => s2 _ _ n2 (s1.extBut _ _ n1 x)) he
  | some x =>
    have hy : ys[k2]? = none := he.resolve_left fun h => by rw [hx] at h; cases h
    refine nextOf_tuple_item (s := { s with heap := h1 }) (a1.extBut s1.extBut D.i1z) (b1.extBut s1.extBut D.l1z) hx fun h2 c1 s2 => ?_
    exact nextOf_tuple_end (s := { s with heap := h2 }) hh ((a2.extBut s1.extBut D.i2z).extBut s2.extBut D.i12.symm) ((b2.extBut s1.extBut D.l2z).extBut s2.extBut D.l2i1) hy fun h3 e s3 he => out h3 e (fun c o n1 n2 n3 x => s3 _ _ n3 (s2.extBut _ _ n2 (s1.extBut _ _ n1 x))) he
/-- the zip after k pairs, while a dict is filled at d: its last pair is out or not -/
structure At (h : Heap) (d z TI TO i1 i2 l1 l2 : Addr) (xs ys : Array Value) (k : Nat) : Prop where
  ti : IsPair h TI (.ref i1) (.ref i2)
  a1 : h.IsTupleIter i1 l1 k
  a2 : h.IsTupleIter i2 l2 k
  b1 : h.IsTuple l1 xs
  b2 : h.IsTuple l2 ys
  zz : (IsZip h z TI TO .none ∧ ∃ a b, IsPair h TO a b) ∨ ∃ T f oT, IsZipHeld h z TI TO T f ∧ h.get? T = some oT ∧ T ≠ z ∧ T ≠ i1 ∧ T ≠ i2 ∧ T ≠ d
theorem argZipT (D : ZipApart z TI TO i1 i2 l1 l2) (xs ys : Array Value) : PairArg P w "zip" z [z, TI, TO, i1, i2, l1, l2] [z, TO, i1, i2] (min xs.size ys.size) (fun i k v => xs[i]? = some k ∧ ys[i]? = some v)
    (fun h => (IsZip h z TI TO .none ∧ ∃ a b, IsPair h TO a b) ∧ IsPair h TI (.ref i1) (.ref i2) ∧ (h.IsTupleIter i1 l1 0 ∧ h.IsTupleIter i2 l2 0) ∧ h.IsTuple l1 xs ∧ h.IsTuple l2 ys) where
  type := fun s o => ⟨_, o.1.1, rfl⟩
  notDict := by decide
  keep := fun h h' ⟨⟨c1, a, b, c2⟩, c3, ⟨c4, c5⟩, c6, c7⟩ e => ⟨⟨e _ _ c1, a, b, e _ _ c2⟩, e _ _ c3, ⟨c4.at fun o q => e _ o q, c5.at fun o q => e _ o q⟩, c6.at fun o q => e _ o q, c7.at fun o q => e _ o q⟩
  there := fun h ⟨⟨c1, a, b, c2⟩, c3, ⟨⟨o4, c4, _⟩, o5, c5, _⟩, ⟨o6, c6, _⟩, o7, c7, _⟩ b hb => by
    simp only [List.mem_cons, List.not_mem_nil, or_false] at hb
    rcases hb with e | e | e | e | e | e | e
    all_goals (subst e; first | exact ⟨_, c1⟩ | exact ⟨_, c3⟩ | exact ⟨_, c2⟩ | exact ⟨_, c4⟩ | exact ⟨_, c5⟩ | exact ⟨_, c6⟩ | exact ⟨_, c7⟩)
  sub := fun b hb => by
    simp only [List.mem_cons, List.not_mem_nil, or_false] at hb ⊢
    rcases hb with e | e | e | e
    all_goals simp [e]
  noKeys := fun A s Q E hA o h => getAttrOr_miss_zip o.1.1 rfl rfl rfl zip_no_keys (by decide +kernel) hA h
  iter := fun A s d Q E hA o hd hdf h => by
    obtain ⟨c1, c3, ⟨c4, c5⟩, c6, c7⟩ := o
    simp only [List.mem_cons, List.not_mem_nil, or_false, not_or] at hdf
    obtain ⟨n1, n2, n3, n4, n5, n6, n7⟩ := hdf
    refine wpAny_pyIter_zip c1.1 (h z [z, TO, i1, i2] (fun i h => At h d z TI TO i1 i2 l1 l2 xs ys i) s.heap s.toks ?_ ⟨c3, c4, c5, c6, c7, .inl c1⟩ (fun _ _ e => e) fun b hb => .inl hb)
    refine { off := fun hm => ?_, frame := fun i h1 h2 st e => ?_, item := fun i s1 Q1 E1 hi st hds k => ?_, done := fun s1 Q1 E1 st k => ?_ }
    · simp only [List.mem_cons, List.not_mem_nil, or_false] at hm
      exact hm.elim n1 fun m => m.elim n3 fun m => m.elim n4 n5
    · refine ⟨e _ _ (Ne.symm n2) st.ti, st.a1.at fun o q => e _ o (Ne.symm n4) q, st.a2.at fun o q => e _ o (Ne.symm n5) q, st.b1.at fun o q => e _ o (Ne.symm n6) q, st.b2.at fun o q => e _ o (Ne.symm n7) q, st.zz.imp (fun ⟨m1, a, b, m2⟩ => ⟨e _ _ (Ne.symm n1) m1, a, b, e _ _ (Ne.symm n3) m2⟩) ?_⟩
      exact fun ⟨T, f, oT, m1, m2, m3, m4, m5, m6⟩ => ⟨T, f, oT, e _ _ (Ne.symm n1) m1, e _ _ m6 m2, m3, m4, m5, m6⟩
    · have ex := Array.getElem?_eq_getElem (xs := xs) (show i < xs.size by omega)
      have ey := Array.getElem?_eq_getElem (xs := ys) (show i < ys.size by omega)
      have lt : ∀ {c o}, s1.heap.get? c = some o → s1.heap.objs.size ≠ c := fun e => Nat.ne_of_gt (Heap.lt_size e)
      have m1 : s1.heap.objs.size ≠ i1 := lt st.a1.choose_spec.1
      have m2 : s1.heap.objs.size ≠ i2 := lt st.a2.choose_spec.1
      rcases st.zz with ⟨q1, a, b, q2⟩ | ⟨T, f, oT, q1, q2, q3, q4, q5, q6⟩
      · refine RZ.pyNext_zipT_item D q1 st.ti q2 st.a1 st.a2 st.b1 st.b2 ex ey fun h' r1 r2 r3 r4 r5 r6 e => k _ _ _ h' s1.toks ⟨ex, ey⟩ (.inl ⟨_, r5, rfl, _, rfl⟩) ?_ fun c o hc q => ?_
        · exact ⟨e _ _ D.TIz D.TITO D.TIi1 D.TIi2 st.ti, r3, r4, st.b1.at fun o q => e _ o D.l1z D.l1TO D.l1i1 D.l1i2 q, st.b2.at fun o q => e _ o D.l2z D.l2TO D.l2i1 D.l2i2 q, .inr ⟨_, false, _, r1, r5, lt q1, m1, m2, Nat.ne_of_gt hds⟩⟩
        · simp only [List.mem_cons, List.not_mem_nil, or_false, not_or] at hc
          exact e c o hc.1 hc.2.1 hc.2.2.1 hc.2.2.2 q
      · refine out_item D q1 q2 st.ti st.a1 st.a2 st.b1 st.b2 ex ey fun h' r1 r3 r4 r5 e => k _ _ _ h' s1.toks ⟨ex, ey⟩ (.inl ⟨_, r5, rfl, _, rfl⟩) ?_ fun c o hc q => ?_
        · exact ⟨e _ _ D.TIz D.TIi1 D.TIi2 st.ti, r3, r4, st.b1.at fun o q => e _ o D.l1z D.l1i1 D.l1i2 q, st.b2.at fun o q => e _ o D.l2z D.l2i1 D.l2i2 q, .inr ⟨T, true, oT, r1, e _ _ q3 q4 q5 q2, q3, q4, q5, q6⟩⟩
        · simp only [List.mem_cons, List.not_mem_nil, or_false, not_or] at hc
          exact e c o hc.1 hc.2.2.1 hc.2.2.2 q
    · have he : xs[min xs.size ys.size]? = none ∨ ys[min xs.size ys.size]? = none := (Nat.le_total xs.size ys.size).imp (fun h => Array.getElem?_eq_none (by omega)) fun h => Array.getElem?_eq_none (by omega)
      rcases st.zz with ⟨q1, a, b, q2⟩ | ⟨T, f, oT, q1, q2, q3, q4, q5, q6⟩
      · refine RZ.pyNext_zipT_end hA D q1 st.ti q2 st.a1 st.a2 st.b1 st.b2 he fun h' e => k h' s1.toks fun c o hc q => ?_
        simp only [List.mem_cons, List.not_mem_nil, or_false, not_or] at hc
        exact e c o hc.1 hc.2.1 hc.2.2.1 hc.2.2.2 q
      · refine out_end hA D q1 q2 st.ti st.a1 st.a2 st.b1 st.b2 he fun h' e => k h' s1.toks fun c o hc q => ?_
        simp only [List.mem_cons, List.not_mem_nil, or_false, not_or] at hc
        exact e c o hc.1 hc.2.2.1 hc.2.2.2 q
end
end DZ
namespace L2
open PySem PySem.Spec PyProof.Rows
theorem boot_dictT : bootBuiltins "dict" = some (.type "dict") := by decide +kernel
theorem kv_zip : ∀ {ks : List Key} {xs : List V} {us : List Value}, Vals xs us → KV (ks.zip xs) (ks.zip us)
  | [], _, _, _ => .nil
  | _ :: _, _, _, .nil => .nil
  | _ :: _, _, _, .cons r t => .cons ⟨rfl, r⟩ (kv_zip t)
/-- dict(zip(a, b)), a a tuple of texts, b a tuple -/
def tDictZip (K : PySem.W.Frag) (ta : TA) : TE := fun σ H Q => ta σ H fun vs H1 => ∃ (a b : Addr) (zs : List Str) (xs : List V), vs = [.ref a, .ref b] ∧ SqT K H1 a (zs.map V.str) ∧ SqT K H1 b xs ∧ zs.length ≤ 1000 ∧
  ∀ p, H1 p = none → Q (.ref p) (upd H1 p (.dK (mergeK [] ((zs.map (Sum.inr : Str → Key)).zip xs))))
theorem pe_dictZip {X : Cx} {e e2 : Expr} {ta : TA} {p p2 q pos : Pos} (hg : Gl X "dict") (hm : X.mg "dict" = none) (hg2 : Gl X "zip") (hm2 : X.mg "zip" = none) (ha : PA X [e, e2] ta) (hc : X.calm = true := by rfl)
    (hs : starEach [e, e2] X.env = (false, eval e X.env) :: starEach [e2] X.env := by rfl) (hpl : (backTo q (starEach [e2] X.env)).any (·.1) = false := by rfl)
    (hz : starEach [.Call (.Name "zip" p2) [e, e2] [] q] X.env = (false, eval (.Call (.Name "zip" p2) [e, e2] [] q) X.env) :: starEach [] X.env := by rfl) :
    PE X (.Call (.Name "dict" p) [.Call (.Name "zip" p2) [e, e2] [] q] [] pos) (tDictZip X.K ta) := by
  refine ⟨fun pins s σ H Q I h => ?_⟩
  refine Call_ (ld_blt I hg hm boot_dictT (callWith_type1 (args_cons (Call_ (ld_blt I hg2 hm2 boot_zip (callWith_type1 (thn (ha.run q pins s σ H _ I h) fun us s1 ⟨vs, H1, I1, r1, q1⟩ => ?_) hs hpl))) hz) hz rfl))
  obtain ⟨a, b, zs, xs, rfl, h1, h2, hl, q1⟩ := q1
  obtain ⟨u1, u2, rfl, e1, e2⟩ := vals2 r1
  cases e1
  cases e2
  obtain ⟨is1, v1, t1, _⟩ := I1.tuple h1
  obtain ⟨is2, v2, t2, _⟩ := I1.tuple h2
  have n1 : a < s1.heap.objs.size := Heap.lt_size t1.choose_spec.1
  have n2 : b < s1.heap.objs.size := Heap.lt_size t2.choose_spec.1
  have D := PySem.W.ktu_apart s1.heap.objs.size a b n1 n2
  have l1 : is1.length = zs.length := by rw [← v1.length, List.length_map]
  refine RZ.call_zipT (show s1.heap.IsTuple a is1.toArray from t1) (show s1.heap.IsTuple b is2.toArray from t2) fun h' hz hTI hTO g1 g2 hsz hk => args_nil ?_
  have I2 : Inv X pins σ H1 { s1 with heap := h' } := I1.kept (t' := s1.toks) hk
  have ln : ((zs.map (Sum.inr : Str → Key)).zip is2).length = min is1.toArray.size is2.toArray.size := by rw [List.length_zip, List.length_map, List.size_toArray, List.size_toArray, l1]
  refine PySem.call_dict_pairs (s := { s1 with heap := h' }) (knd := mixKind X.prog X.w) (kvs := (zs.map (Sum.inr : Str → Key)).zip is2) (DZ.argZipT D is1.toArray is2.toArray) (I1.ok.hd hc)
    ⟨⟨hz, _, _, hTO⟩, hTI, ⟨g1, g2⟩, (show s1.heap.IsTuple a is1.toArray from t1).at fun o e => hk _ o e, (show s1.heap.IsTuple b is2.toArray from t2).at fun o e => hk _ o e⟩ ⟨ln, fun i key v ⟨m1, m2⟩ => ?_⟩ ?_ fun h3 tk hd hk3 => ?_
  · have hi : i < zs.length := by
      have := (Array.getElem?_eq_some_iff.mp m1).1
      rw [List.size_toArray, l1] at this
      exact this
    obtain ⟨u, hu, ru⟩ := v1.get (i := i) (x := V.str zs[i]) (by rw [List.getElem?_map, List.getElem?_eq_getElem hi]; rfl)
    have ek : u = key := by
      have m1' : is1[i]? = some key := by simpa using m1
      rw [hu] at m1'
      exact Option.some.inj m1'
    have m2' : is2[i]? = some v := by simpa using m2
    refine ⟨Sum.inr zs[i], ?_, by rw [← ek]; exact kV_is (k := Sum.inr zs[i]) ru⟩
    rw [List.getElem?_zip_eq_some]
    exact ⟨by rw [List.getElem?_map, List.getElem?_eq_getElem hi]; rfl, m2'⟩
  · rw [← ln, List.length_zip, List.length_map]
    exact Nat.le_trans (Nat.min_le_left _ _) (Nat.le_trans hl (by decide))
  · have k3 : ∀ c o, s1.heap.get? c = some o → h3.get? c = some o := fun c o e => hk3 c o (fun m => by
      have lt := Heap.lt_size e
      simp only [List.mem_cons, List.not_mem_nil, or_false] at m
      rcases m with m | m | m | m <;> (rw [m] at lt; first | exact absurd lt (Nat.not_lt.mpr (Nat.le_add_right _ _)) | exact absurd lt (Nat.lt_irrefl _))) (hk c o e)
    have big : sysModules < h'.objs.size := I2.big
    have le : s1.heap.objs.size ≤ h'.objs.size := by rw [hsz]; exact Nat.le_add_right _ _
    have sz : (mergeK [] ((zs.map (Sum.inr : Str → Key)).zip xs)).length ≤ sizeLine := by
      refine Nat.le_trans (length_mergeK _ []) ?_
      rw [List.length_nil, Nat.zero_add, List.length_zip, List.length_map]
      exact Nat.le_trans (Nat.min_le_left _ _) (Nat.le_trans hl (by decide))
    have new : ObjOk X.prog X.w (upd H1 h'.objs.size (.dK (mergeK [] ((zs.map (Sum.inr : Str → Key)).zip xs)))) h3 h'.objs.size (.dK (mergeK [] ((zs.map (Sum.inr : Str → Key)).zip xs))) := ⟨sz, beq_eq_false_iff_ne.mpr (Nat.ne_of_gt big), _, KV.merge (kv_zip v2) .nil, hd⟩
    exact ⟨.ref h'.objs.size, _, I1.laid (t' := tk) k3 le new, rfl, q1 _ (I1.hok.fresh le)⟩
theorem putK_out {kvs : List (Key × V)} {k : Key} {v : V} (h : k ∉ kvs.map (·.1)) : putK kvs k v = kvs ++ [(k, v)] := by
  unfold putK
  rw [if_neg]
  rw [List.any_eq_true]
  rintro ⟨p, hp, e⟩
  exact h (List.mem_map.mpr ⟨p, hp, of_decide_eq_true e⟩)
theorem mergeK_nd : ∀ {more kvs : List (Key × V)}, ((kvs ++ more).map (·.1)).Nodup → mergeK kvs more = kvs ++ more
  | [], kvs, _ => by rw [List.append_nil]; rfl
  | (k, v) :: r, kvs, h => by
    have hk : k ∉ kvs.map (·.1) := fun m => by
      rw [List.map_append, List.nodup_append] at h
      exact h.2.2 k m k List.mem_cons_self rfl
    have e : mergeK kvs ((k, v) :: r) = mergeK (putK kvs k v) r := rfl
    rw [e, putK_out hk, mergeK_nd (kvs := kvs ++ [(k, v)]) (by rw [List.append_assoc]; exact h), List.append_assoc]
    rfl
end L2
namespace L2
open PySem PySem.Spec PyProof.Rows
/-! ### len(s), s a set of numbers -/
def rLenSet (w : World) : List V → Hp → VK → Prop := fun xs H Q => ∃ (a : Addr) (S : Int → Bool) (n : Nat), xs = [.ref a] ∧ H a = some (SetO w a S n) ∧ n < 1000 ∧ ∀ ks : List Int, ks.Nodup → (∀ k, S k = true ↔ k ∈ ks) → Q (.int (ks.length : Nat)) H
theorem call_lenSet {X : Cx} : CallR X (.builtin "len") (rLenSet X.w) := by
  intro pins s σ H xs us Q I r h
  obtain ⟨a, S, n, rfl, ha, n1, q⟩ := h
  have R := setO_get I ha
  rw [Vals.ref1 r]
  obtain ⟨o, es, ep, t, ho, hex, hd, g, nd, hm, hb, hf, hn, hr, hl⟩ := R
  exact call_len_set ho hex hd hf (by rw [hn] <;> omega) ⟨.int ((es.toList.map keyOf).length : Nat), H, I.tok _, ⟨_, by rw [List.length_map, Array.length_toList]⟩, q _ nd hm⟩
end L2
namespace L2
open PySem PySem.Spec PyProof.Rows
/-! ### x == y, x of a class of the text whose own __eq__ tells True or False -/
/-- the type of what stands on the right -/
inductive TyL (H : Hp) : V → Value → Prop where
  | non : TyL H .non (.type "NoneType")
  | int (i : Int) : TyL H (.int i) (.type "int")
  | str (x : Str) : TyL H (.str x) (.type "str")
  | tup {a : Addr} {xs : List V} (h : H a = some (.tup xs)) : TyL H (.ref a) (.type "tuple")
  | ins {a C dx : Addr} {fs : List (Str × V)} (h : H a = some (.ins C dx fs)) : TyL H (.ref a) (.ref C)
theorem TyL.looks {X : Cx} {pins : List (Addr × Obj)} {σ : St} {H : Hp} {s : Shared} {y : V} {u tb : Value} (ty : TyL H y tb) (I : Inv X pins σ H s) (r : RelV y u) : PySem.W.Looks (model X.prog X.w) s.heap (typeOf u) tb := by
  cases ty with
  | non =>
    cases r
    exact fun _ _ _ _ _ q => wpAny_of_eq rfl q
  | int i =>
    obtain ⟨t, rfl⟩ := r
    exact fun _ _ _ _ _ q => wpAny_of_eq rfl q
  | str x =>
    obtain ⟨t, rfl⟩ := r
    exact fun _ _ _ _ _ q => wpAny_of_eq rfl q
  | tup h =>
    cases r
    obtain ⟨its, _, tp, _⟩ := I.tuple (SqT.of h)
    obtain ⟨o, ho, hc, _⟩ := tp
    exact fun _ _ _ _ k q => wpAny_typeOf_ref (k _ _ ho) (by rw [hc]; exact q)
  | ins h =>
    cases r
    exact (ins_get I.hok h).choose_spec.1.look.choose_spec.1.type
section
variable {X : Cx} {CX : CXT} {C f : Addr} {fd : FuncData} {ps : List Str} {sp : Sp} {E : XK} {k : Nat}
def rEqO (K : PySem.W.Frag) (C : Addr) (sp : Sp) (E : XK) : R2 := fun x y H Q => ∃ (a dx : Addr) (fs : List (Str × V)) (tb : Value), x = .ref a ∧ H a = some (.ins C dx fs) ∧ TyL H y tb ∧ PySem.W.notFirst K C tb = true ∧ sp [.ref a, y] H (fun v H' => ∃ b, v = .bl b ∧ Q (.bl b) H') E
theorem op_eqO (F : FnOk X.prog X.w X.K X.mg X.base CX k f fd ps sp) (hs : PySem.W.findIn X.K (.ref C) "__eq__" = some (some (.ref f))) (hf : PySem.W.isFn X.K (.ref f) = true) (hb : Binds X.K fd ps []) (hx : Passes CX X E) (hr : Room k X.A) : OpR X (compareOp .Eq) (rEqO X.K C sp E) := by
  intro pins s σ H x y v u Q I rx ry h
  obtain ⟨a, dx, fs, tb, rfl, ha, ty, nf, hsp⟩ := h
  cases rx
  have J := (ins_get I.hok ha).choose_spec.1.look.choose_spec.1
  obtain ⟨m, hF⟩ := I.fr
  have sb : Sub X k X.A := ⟨hr, rfl⟩
  have e0 : Env0 X.prog X.w X.K X.mg X.base X.A X.stack s H := I.env0
  have bnd := hb s [.ref a, u] I.kIn (by simpa using F.len _ _ _ _ hsp)
  have run := F.run X.A X.stack s H ⟨[.ref a, u], []⟩ [.ref a, u] [.ref a, y] _ E sb.room e0 (by simpa using bnd) (.cons rfl (.cons ry .nil)) hsp
  refine (show wpAny (model X.prog X.w) X.A (richCompare .Eq (.ref a) u) (EP X pins σ Q) X.xe s from PySem.W.cmp_K (op := .Eq) (tb := tb) sb.room.units0 hF I.ok.mod.kin J (ty.looks I ry) nf hs hf (wpAny_call (codeAny_mono run fun r s' hq => ?_)))
  match r, hq with
  | .error e, hq => exact hx pins σ H s e s' I hq
  | .ok (.ret w), hq =>
    obtain ⟨z, H', I', rz, b, rfl, q⟩ := I.after hq
    cases rz
    exact ⟨.bl b, H', I', rfl, q⟩
  | .ok .next, hq | .ok .brk, hq | .ok .cont, hq => exact hq.elim
end
end L2
namespace L2
open PySem PySem.Spec PyProof.Rows
section
variable {P : Program} {w : World} {A : Around} {B : Value → Shared → Prop} {s : Shared} {K : PySem.W.Frag} {x C f : Addr} {u : Value} {ox : Obj} {od : Option Obj}
/-- object.__ne__ asks the own __eq__ -/
theorem ne_asks {Q : Value → Shared → Prop} (X : K.In s.heap) (J : PySem.W.InstAt s.heap x ox C od) (hu : A.in1.units < cLine) (hs : PySem.W.findIn K (.ref C) "__eq__" = some (some (.ref f))) (hf : PySem.W.isFn K (.ref f) = true) (hm : PySem.W.mroIn K C (.type "object") = some true)
    (h : wpAny (model P w) A.in1 (call (.ref f) [.ref x, u]) (fun v s' => ∃ b, v = .bool b ∧ Q (.bool (!b)) s') B s) : wpAny (model P w) A (call (.builtin "object.__ne__") [.ref x, u]) Q B s := by
  have inst : PySem.W.Looks (model P w) s.heap (isInstance (.ref x) (.type "object")) true := J.type.andThen (PySem.W.looks_mroIn X hm)
  refine wpAny_call (codeAny_call_builtin (F.cmp_object.ne.plain) F.cmpEntry_ne (PySem.W.check_slot F.cmpKind_ne F.cmpSplit_ne inst (F.cmpArgs_ne _ _) ?_))
  show wpAny (model P w) A.in1 (cRoomFor "comparison" [.ref x, u] >>= _) _ _ s
  refine wpAny_bind (wpAny_cRoomFor hu (wpAny_bind (PySem.W.ifBound_K X J hs hf (wpAny_mono h (fun v s' hv => ?_) fun _ _ e => e))))
  obtain ⟨b, rfl, q⟩ := hv
  exact wpAny_bind (wpAny_truthy_bool (wpAny_pure q))
/-- != of an instance whose class has object's __ne__ -/
theorem ne_bound {Q : Option Value → Shared → Prop} (X : K.In s.heap) (J : PySem.W.InstAt s.heap x ox C od) (hn : PySem.W.findIn K (.ref C) "__ne__" = some (some (.builtin "object.__ne__")))
    (h : wpAny (model P w) A (call (.builtin "object.__ne__") [.ref x, u]) (fun v => Q (some v)) B s) : wpAny (model P w) A (callSpecialIfBound? (.ref x) "__ne__" [u]) Q B s := by
  simp only [callSpecialIfBound?, bindSpecialIfBound?]
  have b : bindSpecial (.builtin "object.__ne__") (.ref x) = pure (.builtin "object.__ne__", [.ref x]) := F.cmp_object.ne.bind _
  have fin : wpAny (model P w) A (call (.builtin "object.__ne__") ([.ref x] ++ [u]) >>= fun v => pure (some v)) Q B s := wpAny_bind (wpAny_mono h (fun v s' h' => wpAny_pure h') fun _ _ e => e)
  refine wpAny_holding (wpAny_bind (wpAny_bind (wpAny_bind (J.type.here ((PySem.W.looks_findIn X hn).here ?_)))))
  simp only [b]
  refine wpAny_bind (wpAny_askSetting (wpAny_ite ?_))
  split
  · exact wpAny_bind (wpAny_pure (wpAny_pure fin))
  · exact wpAny_tryCatch (wpAny_bind (wpAny_pure (wpAny_pure fin)))
end
end L2
namespace L2
open PySem PySem.Spec PyProof.Rows
section
variable {X : Cx} {CX : CXT} {C f : Addr} {fd : FuncData} {ps : List Str} {sp : Sp} {E : XK} {k : Nat}
/-- x != y, x of a class of the text with an own __eq__ and object's __ne__ -/
def rNeO (K : PySem.W.Frag) (C : Addr) (sp : Sp) (E : XK) : R2 := fun x y H Q => ∃ (a dx : Addr) (fs : List (Str × V)) (tb : Value), x = .ref a ∧ H a = some (.ins C dx fs) ∧ TyL H y tb ∧ PySem.W.notFirst K C tb = true ∧ sp [.ref a, y] H (fun v H' => ∃ b, v = .bl b ∧ Q (.bl (!b)) H') E
theorem op_neO (F : FnOk X.prog X.w X.K X.mg X.base CX k f fd ps sp) (hs : PySem.W.findIn X.K (.ref C) "__eq__" = some (some (.ref f))) (hf : PySem.W.isFn X.K (.ref f) = true) (hn : PySem.W.findIn X.K (.ref C) "__ne__" = some (some (.builtin "object.__ne__"))) (hm : PySem.W.mroIn X.K C (.type "object") = some true)
    (hb : Binds X.K fd ps []) (hx : Passes CX X E) (hr : Room (k + 1) X.A) : OpR X (compareOp .NotEq) (rNeO X.K C sp E) := by
  intro pins s σ H x y v u Q I rx ry h
  obtain ⟨a, dx, fs, tb, rfl, ha, ty, nf, hsp⟩ := h
  cases rx
  have J := (ins_get I.hok ha).choose_spec.1.look.choose_spec.1
  have sb : Sub X k X.A.in1 := Sub.in1 ⟨hr, rfl⟩
  have s0 : Sub X (k + 1) X.A := ⟨hr, rfl⟩
  have e0 : Env0 X.prog X.w X.K X.mg X.base X.A.in1 X.stack s H := let e := I.env0; ⟨by rw [sb.fr, e.frames], e.mod, e.bs, e.bsz, e.funs, e.frf, e.hok, e.bare⟩
  have bnd := hb s [.ref a, u] I.kIn (by simpa using F.len _ _ _ _ hsp)
  have run := F.run X.A.in1 X.stack s H ⟨[.ref a, u], []⟩ [.ref a, u] [.ref a, y] _ E sb.room e0 (by simpa using bnd) (.cons rfl (.cons ry .nil)) hsp
  have one : wpAny (model X.prog X.w) X.A (tryCompare (.ref a) "__ne__" u) (fun r s' => ∃ v, r = some v ∧ EP X pins σ Q v s') X.xe s := by
    unfold tryCompare
    refine wpAny_bind (ne_bound I.kIn J hn (ne_asks I.kIn J sb.room.units0 hs hf hm (wpAny_call (codeAny_mono run fun r s' hq => ?_))))
    match r, hq with
    | .error e, hq => exact hx pins σ H s e s' I hq
    | .ok (.ret w), hq =>
      obtain ⟨z, H', I', rz, b, rfl, q⟩ := I.after hq
      cases rz
      exact ⟨b, rfl, wpAny_pure ⟨_, rfl, .bl (!b), H', I', rfl, q⟩⟩
    | .ok .next, hq | .ok .brk, hq | .ok .cont, hq => exact hq.elim
  refine (show wpAny (model X.prog X.w) X.A (richCompare .NotEq (.ref a) u) (EP X pins σ Q) X.xe s from ?_)
  unfold richCompare
  simp only [oneThing_ref]
  refine wpAny_holding (wpAny_bind (wpAny_cRoomFor s0.room.units0 (wpAny_bind (J.type.here (wpAny_bind ((ty.looks I ry).here ?_))))))
  have go : wpAny (model X.prog X.w) X.A (tryCompare (.ref a) "__ne__" u) (fun r s' => ∃ v, r = some v ∧ EP X pins σ Q v s') X.xe s := one
  split
  · rename_i q
    have e : PySem.W.subIn X.K tb (.ref C) = some false := (Bool.or_eq_true_iff.mp nf).elim (fun e => by rw [beq_iff_eq.mp e] at q; simp at q) fun e => beq_iff_eq.mp e
    refine wpAny_bind ((PySem.W.looks_subIn I.kIn e).here ?_)
    rw [if_neg Bool.false_ne_true]
    exact wpAny_bind (wpAny_mono go (fun r s' ⟨v, hv, hq⟩ => by subst hv; exact wpAny_pure hq) fun _ _ e => e)
  · refine wpAny_bind (wpAny_pure ?_)
    rw [if_neg Bool.false_ne_true]
    exact wpAny_bind (wpAny_mono go (fun r s' ⟨v, hv, hq⟩ => by subst hv; exact wpAny_pure hq) fun _ _ e => e)
end
end L2
namespace L2
open PySem PySem.Spec PyProof.Rows
/-! ### a, *b = a list of one item or more -/
section
variable {X : Cx} {pos : Pos}
theorem pgs_star {e : Expr} {p : Pos} {es : List Expr} {t : TG} {u : TGs} (h1 : PG X e t) (h2 : PGs X es u)
    (hs : (assignEach (.Starred e p :: es) X.env).map (·.2) = assign e X.env :: (assignEach es X.env).map (·.2) := by rfl) : PGs X (.Starred e p :: es) (gCons t u) := by
  refine ⟨fun pins s σ H vs us Q I r h => ?_⟩
  obtain ⟨v, vr, e1, h⟩ := h
  subst e1
  cases r with
  | cons r rr =>
    rw [hs]
    refine assignInOrder_cons (thn (h1.run pins s σ H _ _ _ I r h) fun _ s1 ⟨σ1, H1, I1, q1⟩ => ?_)
    exact h2.run pins s1 σ1 H1 _ _ Q I1 rr q1
def gUnS (K : PySem.W.Frag) (t : TGs) : TG := fun v σ H Q => ∃ a x xs, v = .ref a ∧ SqL K H a (x :: xs) ∧ ∀ D, H D = none → t [x, .ref D] σ (upd H D (.lst xs)) Q
theorem pg_unS {es : List Expr} {k : Nat} {t : TGs} (hc : X.calm = true) (h : PGs X es t)
    (hn : (assignEach es X.env).length = 2 := by rfl) (hst : (assignEach es X.env).findIdx? (·.1) = some 1 := by rfl) : PG X (.Tuple es k pos) (gUnS X.K t) := by
  refine ⟨fun pins s σ H v u Q I r hw => ?_⟩
  obtain ⟨a, x, xs, e1, hq, hw⟩ := hw
  subst e1
  cases r
  obtain ⟨its, rv, pl, hz⟩ := I.list hq
  have hl : s.heap.IsList a its.toArray := by
    obtain ⟨o, m, e, c, d, q⟩ := pl
    exact ⟨o, e, c, m, q⟩
  cases rv with
  | @cons _ y _ ys rx rr =>
    have hlen := rr.length
    have hz' : ys.length + 1 ≤ sizeLine := by
      rw [List.length_cons] at hz
      omega
    have hsz : (y :: ys).toArray.size = ys.length + 1 := by simp
    have hlt : a ≠ s.heap.objs.size := by obtain ⟨o, ho, _⟩ := hl; exact Nat.ne_of_lt (Heap.lt_size ho)
    rw [PyProof.Rows.assign_Tuple]
    refine wpAny_bind (wpAny_standAt ?_)
    unfold unpack
    rw [hn, hst]
    refine wpAny_bind (wpAny_holding ?_)
    unfold unpackItems
    refine wpAny_bind ?_
    unfold notIterableAtAll
    refine wpAny_bind (wpAny_specialOf hl.typeIs PySem.F.slot_list_iter.lookup ?_)
    refine wpAny_pure ?_
    simp only [Bool.false_eq_true, if_false]
    refine wpAny_bind (wpAny_holding (wpAny_pyIter_list hl ?_))
    refine wpAny_bind (wpAny_holding (PySem.W.kun_draw hlt 1 0 _ _ ⟨_, Heap.get?_push_size _ rfl, rfl, rfl⟩ (hl.push _) (by omega) fun h₁ hit₁ hs₁ => ?_))
    have hl₁ : h₁.IsList a (y :: ys).toArray := (hl.push _).extBut hs₁.extBut hlt
    have hit₂ := hit₁
    obtain ⟨oi, hoi, _⟩ := hit₂
    have hl₂ := hl₁
    obtain ⟨ol, hol, _⟩ := hl₂
    rw [List.drop_zero]
    have hf : ((y :: ys).toArray.toList.take 1) = [y] := by simp
    rw [hf, if_neg (by show ¬ (1 < 1); decide)]
    refine wpAny_bind (wpAny_holding (PySem.W.kun_collect (s := { s with heap := h₁ }) (T := "list_iterator") (.inr (.inr (.inl rfl))) (Walks.list (A := X.A.in1) (I.ok.hd hc) s.heap.objs.size a hlt (y :: ys).toArray) (fun j u st => st.1.typeIs) (k := 1) (by omega) ⟨hit₁, hl₁⟩ (Heap.lt_size hoi) (Heap.lt_size hol) (fun h₂ tk hk => ?_) (by omega)))
    have hd : ((y :: ys).toArray.toList.drop 1) = ys := by simp
    rw [hd]
    show wpAny _ _ (if ys.length < 2 - 1 - 1 then _ else _) _ _ _
    rw [if_neg (by omega)]
    show wpAny _ _ (newList (ys.take (ys.length - (2 - 1 - 1))) >>= fun d => pure ([y] ++ [d] ++ ys.drop (ys.length - (2 - 1 - 1)))) _ _ _
    rw [show ys.length - (2 - 1 - 1) = ys.length by omega, List.take_length, List.drop_length]
    have he : ∀ b o, s.heap.get? b = some o → h₂.get? b = some o := fun b o e => hk b o (Nat.ne_of_lt (Heap.lt_size e)) (hs₁.extBut b o (Nat.ne_of_lt (Heap.lt_size e)) (Heap.get?_push_of_some _ e))
    have I2 : Inv X pins σ H { s with heap := h₂, toks := tk } := I.kept (t' := tk) he
    refine wpAny_bind (wpAny_newList (wpAny_pure ?_) (by omega))
    have I1 : Inv X pins σ (upd H h₂.objs.size (.lst xs)) { s with heap := h₂.push { cls := .type "list", data := .seq ys.toArray }, toks := tk } := I2.laid (t' := tk) (fun b o e => Heap.get?_push_of_some _ e) (Nat.le_refl _) ⟨by omega, ys, 0, rr, Heap.get?_push_size _ rfl⟩
    exact h.run pins _ σ _ [x, .ref h₂.objs.size] [y, .ref h₂.objs.size] Q I1 (.cons rx (.cons rfl .nil)) (hw _ (I2.hok.fresh (Nat.le_refl _)))
end
end L2
namespace L2
open PySem PySem.Spec PyProof.Rows
/-! ### an instance made by a name of the def: cls(..) -/
section
variable {X : Cx} {CX : CXT} {C f : Addr} {fd : FuncData} {ps : List Str} {sp : Sp} {E : XK} {k : Nat} {x : Str} {e : Expr} {es : List Expr} {t : TA} {tf : TE} {p pos : Pos} {ds : List Value} {dvs : List V}
def tMakeC (C : Addr) (sp : Sp) (dvs : List V) (E : XK) (tf : TE) (t : TA) : TE := fun σ H Q => tf σ H fun y H1 => y = .ref C ∧ tMake C sp dvs E t σ H1 Q
theorem pe_makeC (hn : PE X (.Name x p) tf) (M : Mk X.K C f) (F : FnOk X.prog X.w X.K X.mg X.base CX k f fd ps sp) (hr : Room (k + 1) X.A) (hb : Binds X.K fd ps ds) (hd : Vals dvs ds) (hx : Passes CX X E)
    (ha : PA X (e :: es) t) (he : starEach (e :: es) X.env = (false, eval e X.env) :: starEach es X.env := by rfl) (hpl : (backTo pos (starEach es X.env)).any (·.1) = false := by rfl) :
    PE X (.Call (.Name x p) (e :: es) [] pos) (tMakeC C sp dvs E tf t) := by
  refine ⟨fun pins s σ H Q I h => ?_⟩
  refine wpAny_Call_Name_kw (thn (hn.run pins s σ H _ I h) fun u s1 ⟨y, H1, I1, ry, ey, q⟩ => ?_)
  subst ey
  obtain rfl : u = Value.ref C := ry
  refine PySem.W.callWith_K (h₀ := X.base) I1.ok.mod.kin M.kp (thn (ha.run pos pins s1 σ H1 _ I1 q) fun us s2 ⟨vs, H2, I2, r, q2⟩ => ⟨I2.kIn, ?_⟩) he hpl
  exact run_make M F hr hb hd hx I2 r q2
end
end L2
namespace L2
open PySem PySem.Spec PyProof.Rows RZ
/-! ### zip of two sequences, each a list (true) or a tuple (false) -/
def JtB (b : Bool) (h : Heap) (i l : Addr) (k : Nat) : Prop := if b = true then h.IsListIter i l k else h.IsTupleIter i l k
def SeqB (b : Bool) (h : Heap) (l : Addr) (xs : Array Value) : Prop := if b = true then h.IsList l xs else h.IsTuple l xs
theorem JtB.ext {b : Bool} {h g : Heap} {i l c : Addr} {k : Nat} (x : JtB b h i l k) (e : Heap.ExtBut c h g) (n : i ≠ c) : JtB b g i l k := by
  cases b
  · exact Heap.IsTupleIter.extBut (show h.IsTupleIter i l k from x) e n
  · exact Heap.IsListIter.extBut (show h.IsListIter i l k from x) e n
theorem JtB.at {b : Bool} {h g : Heap} {i l : Addr} {k : Nat} (x : JtB b h i l k) (e : ∀ o, h.get? i = some o → g.get? i = some o) : JtB b g i l k := by
  cases b
  · exact Heap.IsTupleIter.at (show h.IsTupleIter i l k from x) e
  · exact Heap.IsListIter.at (show h.IsListIter i l k from x) e
theorem JtB.ob {b : Bool} {h : Heap} {i l : Addr} {k : Nat} (x : JtB b h i l k) : ∃ o, h.get? i = some o ∧ ∀ v, o.data ≠ .cell v := by
  cases b
  · obtain ⟨o, e, _, d⟩ := (show h.IsTupleIter i l k from x)
    exact ⟨o, e, fun v q => by rw [d] at q; cases q⟩
  · obtain ⟨o, e, _, d⟩ := (show h.IsListIter i l k from x)
    exact ⟨o, e, fun v q => by rw [d] at q; cases q⟩
theorem SeqB.ext {b : Bool} {h g : Heap} {l c : Addr} {xs : Array Value} (x : SeqB b h l xs) (e : Heap.ExtBut c h g) (n : l ≠ c) : SeqB b g l xs := by
  cases b
  · exact Heap.IsTuple.extBut (show h.IsTuple l xs from x) e n
  · exact Heap.IsList.extBut (show h.IsList l xs from x) e n
theorem SeqB.lt {b : Bool} {h : Heap} {l : Addr} {xs : Array Value} (x : SeqB b h l xs) : l < h.objs.size := by
  cases b
  · obtain ⟨o, e, _⟩ := (show h.IsTuple l xs from x)
    exact Heap.lt_size e
  · obtain ⟨o, e, _⟩ := (show h.IsList l xs from x)
    exact Heap.lt_size e
section
variable {P : Program} {w : World} {A : Around} {E : Value → Shared → Prop} {s : Shared}
theorem nextB_item {b : Bool} {i l : Addr} {k : Nat} {xs : Array Value} {x : Value} {Q : Value → Shared → Prop} (hi : JtB b s.heap i l k) (hl : SeqB b s.heap l xs) (hx : xs[k]? = some x)
    (q : ∀ g, JtB b g i l (k + 1) → Heap.SameBut i s.heap g → Q x { s with heap := g }) : wpAny (model P w) A (Builtin.SmallTypes.nextOf (.ref i)) Q E s := by
  cases b
  · exact nextOf_tuple_item (show s.heap.IsTupleIter i l k from hi) (show s.heap.IsTuple l xs from hl) hx q
  · exact wpAny_nextOf_list_item (show s.heap.IsListIter i l k from hi) (show s.heap.IsList l xs from hl) hx q
theorem nextB_end {b : Bool} {i l : Addr} {k : Nat} {xs : Array Value} {Q : Value → Shared → Prop} (hh : A.handled = none) (hi : JtB b s.heap i l k) (hl : SeqB b s.heap l xs) (hx : xs[k]? = none)
    (q : ∀ g e, Heap.ExtBut i s.heap g → (∃ o, g.get? e = some o ∧ o.cls = .type "StopIteration") → E (.ref e) { s with heap := g }) : wpAny (model P w) A (Builtin.SmallTypes.nextOf (.ref i)) Q E s := by
  cases b
  · exact nextOf_tuple_end hh (show s.heap.IsTupleIter i l k from hi) (show s.heap.IsTuple l xs from hl) hx q
  · exact wpAny_nextOf_list_end hh (show s.heap.IsListIter i l k from hi) (show s.heap.IsList l xs from hl) hx q
variable {b c : Bool} {z U O i j l m : Addr} {p q : Nat} {xs ys : Array Value} {u v : Value}
/-- zip's step: both sides have an item -/
theorem zipB_item {x y : Value} {Q : Value → Shared → Prop} (D : ZipApart z U O i j l m) (hz : IsZip s.heap z U O .none) (hU : IsPair s.heap U (.ref i) (.ref j)) (hO : IsPair s.heap O u v)
    (hi : JtB b s.heap i l p) (hj : JtB c s.heap j m q) (hl : SeqB b s.heap l xs) (hm : SeqB c s.heap m ys) (hx : xs[p]? = some x) (hy : ys[q]? = some y)
    (kk : ∀ g, IsZip g z U O (rawInt s.heap.objs.size) → IsPair g O x y → JtB b g i l (p + 1) → JtB c g j m (q + 1) → IsPair g s.heap.objs.size x y → g.objs.size = s.heap.objs.size + 1 →
      (∀ a o, a ≠ z → a ≠ O → a ≠ i → a ≠ j → s.heap.get? a = some o → g.get? a = some o) → Q (.ref s.heap.objs.size) { s with heap := g }) :
    wpAny (model P w) A (Builtin.«zip.__next__» ⟨[.ref z], []⟩) (fun f t => ∃ v, f = .done (.ret v) ∧ Q v t) E s := by
  show wpAny _ _ (field (.ref z) 2 >>= _) _ E _
  refine wpAny_bind (wpAny_field hz rfl (x := .bool false) rfl (?_ : _))
  show wpAny _ _ (field (.ref z) 3 >>= _) _ E _
  refine wpAny_bind (wpAny_field hz rfl (x := .ref U) rfl ?_)
  refine wpAny_bind (wpAny_seqItems hU rfl ?_)
  show wpAny _ _ (Builtin.SmallTypes.ownedTupleIsFree (.ref z) >>= _) _ E _
  refine wpAny_bind ?_
  unfold Builtin.SmallTypes.ownedTupleIsFree
  refine wpAny_bind (wpAny_field hz rfl (x := .none) rfl (wpAny_pure (?_ : _)))
  simp only [if_true]
  refine wpAny_bind (wpAny_rule ?_)
  refine wpAny_bind (wpAny_field hz rfl (x := .ref O) rfl ?_)
  refine wpAny_bind (wpAny_setField_rec hz (by simp) fun g1 zg1 b1 => ?_)
  replace zg1 : IsZip g1 z U O .ellipsis := zg1
  refine wpAny_bind ?_
  simp only [List.zipIdx_cons, List.zipIdx_nil, List.forIn_nil, List.forIn_cons]
  refine wpAny_bind (wpAny_bind (wpAny_onRaise (?_ : _)))
  show wpAny _ _ (Builtin.SmallTypes.nextOf (.ref i) >>= _) _ _ _
  refine wpAny_bind (nextB_item (hi.ext b1.extBut D.i1z) (hl.ext b1.extBut D.l1z) hx fun g2 i2 b2 => wpAny_pure ?_)
  have O2 : IsPair g2 O u v := b2.extBut _ _ D.TOi1 (b1.extBut _ _ D.TOz hO)
  refine wpAny_bind (wpAny_seqItems O2 rfl ?_)
  refine wpAny_bind (wpAny_updateSeq_pair O2 fun g3 O3 b3 => ?_)
  replace O3 : IsPair g3 O x v := O3
  refine wpAny_bind (wpAny_letGo (wpAny_pure (?_ : _)))
  refine wpAny_bind (wpAny_bind (wpAny_onRaise (?_ : _)))
  show wpAny _ _ (Builtin.SmallTypes.nextOf (.ref j) >>= _) _ _ _
  refine wpAny_bind (nextB_item (((hj.ext b1.extBut D.i2z).ext b2.extBut D.i12.symm).ext b3.extBut D.TOi2.symm) (((hm.ext b1.extBut D.l2z).ext b2.extBut D.l2i1).ext b3.extBut D.l2TO) hy fun g4 j4 b4 => wpAny_pure ?_)
  have O4 : IsPair g4 O x v := b4.extBut _ _ D.TOi2 O3
  refine wpAny_bind (wpAny_seqItems O4 rfl ?_)
  refine wpAny_bind (wpAny_updateSeq_pair O4 fun g5 O5 b5 => ?_)
  replace O5 : IsPair g5 O x y := O5
  refine wpAny_bind (wpAny_letGo (wpAny_pure (wpAny_pure (?_ : _))))
  refine wpAny_bind (wpAny_seqItems O5 rfl ?_)
  refine wpAny_bind (wpAny_newTuple (?_ : _))
  have sz : g5.objs.size = s.heap.objs.size := by rw [b5.1, b4.1, b3.1, b2.1, b1.1]
  have z5 : IsZip g5 z U O .ellipsis := b5.extBut _ _ D.TOz.symm (b4.extBut _ _ D.i2z.symm (b3.extBut _ _ D.TOz.symm (b2.extBut _ _ D.i1z.symm zg1)))
  have k5 : ∀ a o, a ≠ z → a ≠ O → a ≠ i → a ≠ j → s.heap.get? a = some o → g5.get? a = some o := fun a o a1 a2 a3 a4 e =>
    b5.extBut _ _ a2 (b4.extBut _ _ a4 (b3.extBut _ _ a2 (b2.extBut _ _ a3 (b1.extBut _ _ a1 e))))
  have i5 : JtB b g5 i l (p + 1) := ((i2.ext b3.extBut D.TOi1.symm).ext b4.extBut D.i12).ext b5.extBut D.TOi1.symm
  have j5 : JtB c g5 j m (q + 1) := j4.ext b5.extBut D.TOi2.symm
  have zlt : z < g5.objs.size := Heap.lt_size z5
  show wpAny _ _ (Builtin.SmallTypes.ownedTupleHandOut (.ref z) (.ref g5.objs.size) >>= _) _ _ _
  refine wpAny_bind ?_
  unfold Builtin.SmallTypes.ownedTupleHandOut
  have z6 : IsZip (g5.push { cls := .type "tuple", data := .seq #[x, y] }) z U O .ellipsis := Heap.get?_push_of_some _ z5
  refine wpAny_bind (wpAny_setField_rec z6 (by simp) fun g7 z7 b7 => ?_)
  replace z7 : IsZip g7 z U O (rawInt g5.objs.size) := z7
  refine wpAny_setField_rec z7 (by simp) fun g8 z8 b8 => ?_
  replace z8 : IsZip g8 z U O (rawInt g5.objs.size) := z8
  have up : ∀ a o, a ≠ z → g5.get? a = some o → g8.get? a = some o := fun a o a1 e => b8.extBut _ _ a1 (b7.extBut _ _ a1 (Heap.get?_push_of_some _ e))
  have T8 : IsPair g8 g5.objs.size x y := b8.extBut _ _ (Nat.ne_of_gt zlt) (b7.extBut _ _ (Nat.ne_of_gt zlt) (Heap.get?_push_size _ rfl))
  have s8 : g8.objs.size = g5.objs.size + 1 := by rw [b8.1, b7.1, Heap.size_push]
  rw [sz] at z8 T8 s8
  refine wpAny_pure ⟨_, rfl, (?_ : _)⟩
  show Q (.ref g5.objs.size) _
  rw [sz]
  exact kk g8 z8 (up _ _ D.TOz O5) (i5.at fun o e => up _ o D.i1z e) (j5.at fun o e => up _ o D.i2z e) T8 s8 fun a o a1 a2 a3 a4 e => up a o a1 (k5 a o a1 a2 a3 a4 e)
/-- zip's step: one side has come to its end -/
theorem zipB_end {Q : Fin → Shared → Prop} (hh : A.handled = none) (D : ZipApart z U O i j l m) (hz : IsZip s.heap z U O .none) (hU : IsPair s.heap U (.ref i) (.ref j)) (hO : IsPair s.heap O u v)
    (hi : JtB b s.heap i l p) (hj : JtB c s.heap j m q) (hl : SeqB b s.heap l xs) (hm : SeqB c s.heap m ys) (he : xs[p]? = none ∨ ys[q]? = none)
    (kk : ∀ g e, (∀ a o, a ≠ z → a ≠ O → a ≠ i → a ≠ j → s.heap.get? a = some o → g.get? a = some o) → (∃ o, g.get? e = some o ∧ o.cls = .type "StopIteration") → E (.ref e) { s with heap := g }) :
    wpAny (model P w) A (Builtin.«zip.__next__» ⟨[.ref z], []⟩) Q E s := by
  show wpAny _ _ (field (.ref z) 2 >>= _) _ E _
  refine wpAny_bind (wpAny_field hz rfl (x := .bool false) rfl (?_ : _))
  show wpAny _ _ (field (.ref z) 3 >>= _) _ E _
  refine wpAny_bind (wpAny_field hz rfl (x := .ref U) rfl ?_)
  refine wpAny_bind (wpAny_seqItems hU rfl ?_)
  show wpAny _ _ (Builtin.SmallTypes.ownedTupleIsFree (.ref z) >>= _) _ E _
  refine wpAny_bind ?_
  unfold Builtin.SmallTypes.ownedTupleIsFree
  refine wpAny_bind (wpAny_field hz rfl (x := .none) rfl (wpAny_pure (?_ : _)))
  simp only [if_true]
  refine wpAny_bind (wpAny_rule ?_)
  refine wpAny_bind (wpAny_field hz rfl (x := .ref O) rfl ?_)
  refine wpAny_bind (wpAny_setField_rec hz (by simp) fun g1 zg1 b1 => ?_)
  replace zg1 : IsZip g1 z U O .ellipsis := zg1
  refine wpAny_bind ?_
  simp only [List.zipIdx_cons, List.zipIdx_nil, List.forIn_nil, List.forIn_cons]
  refine wpAny_bind (wpAny_bind (wpAny_onRaise (?_ : _)))
  show wpAny _ _ (Builtin.SmallTypes.nextOf (.ref i) >>= _) _ _ _
  cases hx : xs[p]? with
  | none =>
    refine wpAny_bind (nextB_end hh (hi.ext b1.extBut D.i1z) (hl.ext b1.extBut D.l1z) hx fun g2 e b2 st => ?_)
    obtain ⟨oe, he1, he2⟩ := st
    have z2 : IsZip g2 z U O .ellipsis := b2 _ _ D.i1z.symm zg1
    have ez : e ≠ z := fun x => by
      subst x
      rw [z2] at he1
      cases he1
      simp at he2
    exact wpAny_setField_rec z2 (by simp) fun g3 _ b3 => kk g3 e (fun a o a1 _ a3 _ x => b3.extBut _ _ a1 (b2 _ _ a3 (b1.extBut _ _ a1 x))) ⟨oe, b3.extBut _ _ ez he1, he2⟩
  | some x =>
    have hy : ys[q]? = none := he.resolve_left (by rw [hx]; exact fun n => nomatch n)
    refine wpAny_bind (nextB_item (hi.ext b1.extBut D.i1z) (hl.ext b1.extBut D.l1z) hx fun g2 i2 b2 => wpAny_pure ?_)
    have O2 : IsPair g2 O u v := b2.extBut _ _ D.TOi1 (b1.extBut _ _ D.TOz hO)
    refine wpAny_bind (wpAny_seqItems O2 rfl ?_)
    refine wpAny_bind (wpAny_updateSeq_pair O2 fun g3 O3 b3 => ?_)
    refine wpAny_bind (wpAny_letGo (wpAny_pure (?_ : _)))
    refine wpAny_bind (wpAny_bind (wpAny_onRaise (?_ : _)))
    show wpAny _ _ (Builtin.SmallTypes.nextOf (.ref j) >>= _) _ _ _
    refine wpAny_bind (nextB_end hh (((hj.ext b1.extBut D.i2z).ext b2.extBut D.i12.symm).ext b3.extBut D.TOi2.symm) (((hm.ext b1.extBut D.l2z).ext b2.extBut D.l2i1).ext b3.extBut D.l2TO) hy fun g4 e b4 st => ?_)
    obtain ⟨oe, he1, he2⟩ := st
    have z4 : IsZip g4 z U O .ellipsis := b4 _ _ D.i2z.symm (b3.extBut _ _ D.TOz.symm (b2.extBut _ _ D.i1z.symm zg1))
    have ez : e ≠ z := fun x => by
      subst x
      rw [z4] at he1
      cases he1
      simp at he2
    exact wpAny_setField_rec z4 (by simp) fun g5 _ b5 => kk g5 e (fun a o a1 a2 a3 a4 x => b5.extBut _ _ a1 (b4 _ _ a4 (b3.extBut _ _ a2 (b2.extBut _ _ a3 (b1.extBut _ _ a1 x))))) ⟨oe, b5.extBut _ _ ez he1, he2⟩
theorem nextZ_item {x y : Value} {Q : Option Value → Shared → Prop} (D : ZipApart z U O i j l m) (hz : IsZip s.heap z U O .none) (hU : IsPair s.heap U (.ref i) (.ref j)) (hO : IsPair s.heap O u v)
    (hi : JtB b s.heap i l p) (hj : JtB c s.heap j m q) (hl : SeqB b s.heap l xs) (hm : SeqB c s.heap m ys) (hx : xs[p]? = some x) (hy : ys[q]? = some y)
    (kk : ∀ g, IsZip g z U O (rawInt s.heap.objs.size) → IsPair g O x y → JtB b g i l (p + 1) → JtB c g j m (q + 1) → IsPair g s.heap.objs.size x y → g.objs.size = s.heap.objs.size + 1 →
      (∀ a o, a ≠ z → a ≠ O → a ≠ i → a ≠ j → s.heap.get? a = some o → g.get? a = some o) → Q (some (.ref s.heap.objs.size)) { s with heap := g }) :
    wpAny (model P w) A (pyNext (.ref z)) Q E s := by
  have ty : s.TypeIs (.ref z) "zip" := ⟨_, hz, rfl⟩
  unfold pyNext
  exact wpAny_bind (wpAny_attempt (wpAny_callSpecial?_slot (name := Str.ofString "__next__") ty F.slot_zip_next (wpAny_call_entry F.slot_zip_next ty F.entry_zip_next
    (zipB_item D hz hU hO hi hj hl hm hx hy fun g a1 a2 a3 a4 a5 a6 a7 => wpAny_pure (kk g a1 a2 a3 a4 a5 a6 a7)) (F.args_zip_next_1 _))))
theorem nextZ_end {Q : Option Value → Shared → Prop} (hh : A.handled = none) (D : ZipApart z U O i j l m) (hz : IsZip s.heap z U O .none) (hU : IsPair s.heap U (.ref i) (.ref j)) (hO : IsPair s.heap O u v)
    (hi : JtB b s.heap i l p) (hj : JtB c s.heap j m q) (hl : SeqB b s.heap l xs) (hm : SeqB c s.heap m ys) (he : xs[p]? = none ∨ ys[q]? = none)
    (kk : ∀ g, (∀ a o, a ≠ z → a ≠ O → a ≠ i → a ≠ j → s.heap.get? a = some o → g.get? a = some o) → Q none { s with heap := g }) : wpAny (model P w) A (pyNext (.ref z)) Q E s := by
  have ty : s.TypeIs (.ref z) "zip" := ⟨_, hz, rfl⟩
  unfold pyNext
  refine wpAny_bind (wpAny_attempt (wpAny_callSpecial?_slot (name := Str.ofString "__next__") ty F.slot_zip_next (wpAny_call_entry F.slot_zip_next ty F.entry_zip_next
    (zipB_end hh D hz hU hO hi hj hl hm he fun g e hk st => ?_) (F.args_zip_next_1 _))))
  obtain ⟨o, h1, h2⟩ := st
  refine wpAny_bind (wpAny_isInstance (T := "StopIteration") (b := true) ⟨o, h1, h2⟩ isSubtype_stop (?_ : _))
  exact wpAny_pure (kk _ hk)
end
/-! ### zip made -/
def itName (b : Bool) : String := if b = true then "list_iterator" else "tuple_iterator"
abbrev zb1 (b : Bool) (h : Heap) (l : Addr) : Heap := h.push { cls := .type (itName b), data := .fields #[.ref l, .int 0 0] }
abbrev zb2 (b c : Bool) (h : Heap) (l m : Addr) : Heap := (zb1 b h l).push { cls := .type (itName c), data := .fields #[.ref m, .int 0 0] }
abbrev zb3 (b c : Bool) (h : Heap) (l m : Addr) : Heap := (zb2 b c h l m).push { cls := .type "tuple", data := .seq #[.ref h.objs.size, .ref (zb1 b h l).objs.size] }
abbrev zb4 (b c : Bool) (h : Heap) (l m : Addr) : Heap := (zb3 b c h l m).push { cls := .type "tuple", data := .seq #[.none, .none] }
abbrev zb5 (b c : Bool) (h : Heap) (l m : Addr) : Heap := (zb4 b c h l m).push { cls := .type "zip", data := .fields #[.none, .bool false, .bool false, .ref (zb2 b c h l m).objs.size, .ref (zb3 b c h l m).objs.size] }
theorem zipB_new (b c : Bool) (l m : Addr) (xs ys : Array Value) :
    Meets (Builtin.«zip.__new__» ⟨[.type "zip", .ref l, .ref m], []⟩) (fun _ R s => SeqB b s.heap l xs ∧ SeqB c s.heap m ys ∧ R (.ok (.ret (.ref (zb4 b c s.heap l m).objs.size))) { s with heap := zb5 b c s.heap l m }) :=
  .of_wp fun prog w A R s h => by
    obtain ⟨hp, g, d, tk, os⟩ := s
    obtain ⟨hl, hm, k⟩ := h
    have sb := sub_zip
    cases b <;> cases c
    · have L : Heap.IsTuple (Shared.heap ⟨hp, g, d, tk, os⟩) l xs := hl
      have M : Heap.IsTuple (Shared.heap ⟨hp.push { cls := .type "tuple_iterator", data := .fields #[.ref l, .int 0 0] }, g, d, tk, os⟩) m ys := Heap.IsTuple.push (show Heap.IsTuple hp m ys from hm) _
      wp_walk using wpAny_pyIter_tuple L, wpAny_pyIter_tuple M
      exact ⟨_, rfl, k⟩
    · have L : Heap.IsTuple (Shared.heap ⟨hp, g, d, tk, os⟩) l xs := hl
      have M : Heap.IsList (Shared.heap ⟨hp.push { cls := .type "tuple_iterator", data := .fields #[.ref l, .int 0 0] }, g, d, tk, os⟩) m ys := Heap.IsList.push (show Heap.IsList hp m ys from hm) _
      wp_walk using wpAny_pyIter_tuple L, wpAny_pyIter_list M
      exact ⟨_, rfl, k⟩
    · have L : Heap.IsList (Shared.heap ⟨hp, g, d, tk, os⟩) l xs := hl
      have M : Heap.IsTuple (Shared.heap ⟨hp.push { cls := .type "list_iterator", data := .fields #[.ref l, .int 0 0] }, g, d, tk, os⟩) m ys := Heap.IsTuple.push (show Heap.IsTuple hp m ys from hm) _
      wp_walk using wpAny_pyIter_list L, wpAny_pyIter_tuple M
      exact ⟨_, rfl, k⟩
    · have L : Heap.IsList (Shared.heap ⟨hp, g, d, tk, os⟩) l xs := hl
      have M : Heap.IsList (Shared.heap ⟨hp.push { cls := .type "list_iterator", data := .fields #[.ref l, .int 0 0] }, g, d, tk, os⟩) m ys := Heap.IsList.push (show Heap.IsList hp m ys from hm) _
      wp_walk using wpAny_pyIter_list L, wpAny_pyIter_list M
      exact ⟨_, rfl, k⟩
theorem jtB_new {b : Bool} {h : Heap} {i l : Addr} (e : h.get? i = some { cls := .type (itName b), data := .fields #[.ref l, .int 0 0] }) : JtB b h i l 0 := by
  cases b
  · exact ⟨_, e, rfl, rfl⟩
  · exact ⟨_, e, rfl, rfl⟩
section
variable {P : Program} {w : World} {A : Around} {E : Value → Shared → Prop} {s : Shared}
theorem zipB_call {b c : Bool} {l m : Addr} {xs ys : Array Value} {Q : Value → Shared → Prop} (hl : SeqB b s.heap l xs) (hm : SeqB c s.heap m ys)
    (k : ∀ g, IsZip g (s.heap.objs.size + 4) (s.heap.objs.size + 2) (s.heap.objs.size + 3) .none → IsPair g (s.heap.objs.size + 2) (.ref s.heap.objs.size) (.ref (s.heap.objs.size + 1)) →
      IsPair g (s.heap.objs.size + 3) .none .none → JtB b g s.heap.objs.size l 0 → JtB c g (s.heap.objs.size + 1) m 0 → (∀ a o, s.heap.get? a = some o → g.get? a = some o) → Q (.ref (s.heap.objs.size + 4)) { s with heap := g }) :
    wpAny (model P w) A (call (.type "zip") [.ref l, .ref m]) Q E s := by
  refine callType_new F.called_zip (by decide) (F.typeCall_zip_2 _ _) (F.newCall_zip_2 _ _) (fun o => F.args_object_init_3 o _ _) F.entry_zip_new (zipB_new b c l m xs ys) ⟨hl, hm, ?_⟩
  have e1 : (zb1 b s.heap l).objs.size = s.heap.objs.size + 1 := Heap.size_push ..
  have e2 : (zb2 b c s.heap l m).objs.size = s.heap.objs.size + 2 := by rw [Heap.size_push, e1]
  have e3 : (zb3 b c s.heap l m).objs.size = s.heap.objs.size + 3 := by rw [Heap.size_push, e2]
  have e4 : (zb4 b c s.heap l m).objs.size = s.heap.objs.size + 4 := by rw [Heap.size_push, e3]
  have f5 : (zb5 b c s.heap l m).get? (zb4 b c s.heap l m).objs.size = some _ := Heap.get?_push_size _ rfl
  have f4 : (zb5 b c s.heap l m).get? (zb3 b c s.heap l m).objs.size = some _ := Heap.get?_push_of_some _ (Heap.get?_push_size _ rfl)
  have f3 : (zb5 b c s.heap l m).get? (zb2 b c s.heap l m).objs.size = some _ := Heap.get?_push_of_some _ (Heap.get?_push_of_some _ (Heap.get?_push_size _ rfl))
  have f2 : (zb5 b c s.heap l m).get? (zb1 b s.heap l).objs.size = some _ := Heap.get?_push_of_some _ (Heap.get?_push_of_some _ (Heap.get?_push_of_some _ (Heap.get?_push_size _ rfl)))
  have f1 : (zb5 b c s.heap l m).get? s.heap.objs.size = some _ := Heap.get?_push_of_some _ (Heap.get?_push_of_some _ (Heap.get?_push_of_some _ (Heap.get?_push_of_some _ (Heap.get?_push_size _ rfl))))
  show _ ∧ _
  rw [e2, e3, e4] at f5
  rw [e1, e2] at f3
  rw [e3] at f4
  rw [e1] at f2
  rw [e4]
  exact ⟨⟨_, f5, rfl⟩, k _ f5 f3 f4 (jtB_new f1) (jtB_new f2) fun a o x => Heap.get?_push_of_some _ (Heap.get?_push_of_some _ (Heap.get?_push_of_some _ (Heap.get?_push_of_some _ (Heap.get?_push_of_some _ x))))⟩
end
/-! ### the rule -/
def SqZ (K : PySem.W.Frag) (b : Bool) (H : Hp) (a : Addr) (xs : List V) : Prop := if b = true then SqL K H a xs else SqT K H a xs
def ItZ (K : PySem.W.Frag) (b c : Bool) (l m : Addr) : It :=
  ⟨fun i H => ∃ (xs ys : List V) (x y : V), SqZ K b H l xs ∧ SqZ K c H m ys ∧ xs[i]? = some x ∧ ys[i]? = some y,
    fun i H v H' => ∃ T x y, v = .ref T ∧ H T = none ∧ H' = upd H T (.tup [x, y]) ∧ (∀ xs, SqZ K b H l xs → xs[i]? = some x) ∧ ∀ ys, SqZ K c H m ys → ys[i]? = some y,
    fun i H => ∃ xs ys : List V, SqZ K b H l xs ∧ SqZ K c H m ys ∧ (xs.length ≤ i ∨ ys.length ≤ i)⟩
theorem Inv.sqZ {X : Cx} {pins : List (Addr × Obj)} {σ : St} {H : Hp} {s : Shared} {b : Bool} {a : Addr} {xs : List V} (I : Inv X pins σ H s) (h : SqZ X.K b H a xs) : ∃ its, Vals xs its ∧ SeqB b s.heap a its.toArray := by
  cases b
  · obtain ⟨its, rv, p, _⟩ := I.tuple (show SqT X.K H a xs from h)
    exact ⟨its, rv, p⟩
  · obtain ⟨its, rv, p, _⟩ := I.list (show SqL X.K H a xs from h)
    exact ⟨its, rv, p.isList⟩
theorem Inv.sqZ_inj {X : Cx} {pins : List (Addr × Obj)} {σ : St} {H : Hp} {s : Shared} {b : Bool} {a : Addr} {xs ys : List V} (I : Inv X pins σ H s) (h : SqZ X.K b H a xs) (h' : SqZ X.K b H a ys) : xs = ys := by
  cases b
  · exact I.tuple_inj (show SqT X.K H a xs from h) (show SqT X.K H a ys from h')
  · exact I.list_inj (show SqL X.K H a xs from h) (show SqL X.K H a ys from h')
theorem turnZ {P : Program} {w : World} {K : PySem.W.Frag} {elts : List Expr} {n : Nat} {tpos : Pos} {b c : Bool} {l m z U O i j : Addr} (D : ZipApart z U O i j l m) :
    Turn P w K (.Tuple elts n tpos) (ItZ K b c l m) [z, U, O, i, j] z (fun p h => IsZip h z U O .none ∧ IsPair h U (.ref i) (.ref j) ∧ (∃ x y, IsPair h O x y) ∧ JtB b h i l p ∧ JtB c h j m p) where
  mem := by simp
  obj := fun p h st a ha => by
    obtain ⟨hz, hU, ⟨x, y, hO⟩, hi, hj⟩ := st
    have e : a = z ∨ a = U ∨ a = O ∨ a = i ∨ a = j := by simpa using ha
    rcases e with e | e | e | e | e <;> subst e
    · exact ⟨_, hz, fun v q => nomatch q⟩
    · exact ⟨_, hU, fun v q => nomatch q⟩
    · exact ⟨_, hO, fun v q => nomatch q⟩
    · exact hi.ob
    · exact hj.ob
  keep := fun p h g st k => by
    obtain ⟨hz, hU, ⟨x, y, hO⟩, hi, hj⟩ := st
    exact ⟨k z (by simp) _ hz, k U (by simp) _ hU, ⟨x, y, k O (by simp) _ hO⟩, hi.at fun o q => k i (by simp) o q, hj.at fun o q => k j (by simp) o q⟩
  item := by
    intro X hP hw hK hc p pins s σ H E I hf st hg
    subst hP hw hK
    obtain ⟨hz, hU, ⟨x0, y0, hO⟩, hi, hj⟩ := st
    obtain ⟨xs, ys, x, y, qx, qy, hx, hy⟩ := hg
    obtain ⟨its, rv, px⟩ := I.sqZ qx
    obtain ⟨jts, rw', py⟩ := I.sqZ qy
    obtain ⟨a1, ha1, ra1⟩ := rv.get hx
    obtain ⟨a2, ha2, ra2⟩ := rw'.get hy
    have zl : z < s.heap.objs.size := Heap.lt_size hz
    refine nextZ_item D hz hU hO hi hj px py (x := a1) (y := a2) (by simpa using ha1) (by simpa using ha2) fun g z' O' i' j' hT sz hk => ?_
    refine ⟨_, rfl, wpAny_letOwnedTupleGo_zip (s := { s with heap := g }) z' fun g2 z2 sb => ?_⟩
    have T2 : g2.get? s.heap.objs.size = some { cls := .type "tuple", data := .seq #[a1, a2] } := (sb.2 _ (Nat.ne_of_gt zl)).trans hT
    have nw : ObjOk X.prog X.w (upd H s.heap.objs.size (.tup [x, y])) g2 s.heap.objs.size (.tup [x, y]) := ⟨by show 2 ≤ sizeLine; decide, [a1, a2], .cons ra1 (.cons ra2 .nil), ⟨_, T2, rfl, _, rfl⟩⟩
    have out : ∀ a o, a ∉ [z, U, O, i, j] → s.heap.get? a = some o → g2.get? a = some o := fun a o ha q =>
      (sb.2 a (fun r => ha (by simp [r]))).trans (hk a o (fun r => ha (by simp [r])) (fun r => ha (by simp [r])) (fun r => ha (by simp [r])) (fun r => ha (by simp [r])) q)
    have I1 : Inv X pins σ (upd H s.heap.objs.size (.tup [x, y])) { s with heap := g2 } := I.turnedNew (t' := s.toks) (ch := [z, U, O, i, j]) out hf (Nat.le_refl _) nw
    refine ⟨.ref s.heap.objs.size, _, I1, rfl, ⟨_, x, y, rfl, I.hok.fresh (Nat.le_refl _), rfl, fun l hl => by rw [I.sqZ_inj hl qx]; exact hx, fun l hl => by rw [I.sqZ_inj hl qy]; exact hy⟩, ⟨z2, ?_, ⟨a1, a2, ?_⟩, ?_, ?_⟩, fun a ha => ?_⟩
    · exact (sb.2 _ D.TIz).trans (hk _ _ D.TIz D.TITO D.TIi1 D.TIi2 hU)
    · exact (sb.2 _ D.TOz).trans O'
    · exact i'.at fun o q => (sb.2 _ D.i1z).trans q
    · exact j'.at fun o q => (sb.2 _ D.i2z).trans q
    · have lt : a < s.heap.objs.size := by
        have e : a = z ∨ a = U ∨ a = O ∨ a = i ∨ a = j := by simpa using ha
        rcases e with e | e | e | e | e <;> subst e
        · exact zl
        · exact Heap.lt_size hU
        · exact Heap.lt_size hO
        · obtain ⟨_, q, _⟩ := hi.ob
          exact Heap.lt_size q
        · obtain ⟨_, q, _⟩ := hj.ob
          exact Heap.lt_size q
      rw [upd_ne (Nat.ne_of_lt lt)]
      exact (hf a ha).1
  done := by
    intro X hP hw hK hc p pins s σ H E I hf st hg
    subst hP hw hK
    obtain ⟨hz, hU, ⟨x0, y0, hO⟩, hi, hj⟩ := st
    obtain ⟨xs, ys, qx, qy, he⟩ := hg
    obtain ⟨its, rv, px⟩ := I.sqZ qx
    obtain ⟨jts, rw', py⟩ := I.sqZ qy
    have n1 := rv.length
    have n2 := rw'.length
    have hh : its.toArray[p]? = none ∨ jts.toArray[p]? = none := by
      rcases he with q | q
      · exact .inl (by simp; omega)
      · exact .inr (by simp; omega)
    exact nextZ_end (I.ok.hd hc) D hz hU hO hi hj px py hh fun g hk => ⟨rfl, I.turnedL (t' := s.toks) (ch := [z, U, O, i, j]) (fun a o ha q =>
      hk a o (fun r => ha (by simp [r])) (fun r => ha (by simp [r])) (fun r => ha (by simp [r])) (fun r => ha (by simp [r])) q) hf⟩
  self := fun A p s Q E st h => wpAny_pyIter_zip st.1 h
def iZipZ (K : PySem.W.Frag) (ta : TA) : TI := fun σ H R => ta σ H fun vs H1 => ∃ (b c : Bool) (l m : Addr) (xs ys : List V), vs = [.ref l, .ref m] ∧ SqZ K b H1 l xs ∧ SqZ K c H1 m ys ∧ R (ItZ K b c l m) H1
theorem pi_zipZ {X : Cx} {e e2 : Expr} {ta : TA} {p pos tpos : Pos} {elts : List Expr} {n : Nat} (hg : Gl X "zip") (hm : X.mg "zip" = none) (ha : PA X [e, e2] ta)
    (hs : starEach [e, e2] X.env = (false, eval e X.env) :: starEach [e2] X.env := by rfl) (hp : (backTo pos (starEach [e2] X.env)).any (·.1) = false := by rfl) :
    PI X (.Tuple elts n tpos) (.Call (.Name "zip" p) [e, e2] [] pos) (iZipZ X.K ta) := by
  refine ⟨fun pins s σ H R I h => ?_⟩
  refine Call_ (ld_blt I hg hm PyProof.Rows.boot_zip (PyProof.Rows.callWith_type1 (thn (ha.run pos pins s σ H _ I h) fun us s1 ⟨vs, H1, I1, r1, q1⟩ => (?_ : _)) hs hp))
  obtain ⟨b, c, l, m, xs, ys, rfl, qx, qy, q⟩ := q1
  cases r1 with
  | cons r rr =>
    cases rr with
    | cons r' rr =>
      cases rr
      cases r
      cases r'
      have five : ∀ a, a ∈ [s1.heap.objs.size + 4, s1.heap.objs.size + 2, s1.heap.objs.size + 3, s1.heap.objs.size, s1.heap.objs.size + 1] → FpOk X pins H1 a := fun a ha => by
        have e : a = s1.heap.objs.size + 4 ∨ a = s1.heap.objs.size + 2 ∨ a = s1.heap.objs.size + 3 ∨ a = s1.heap.objs.size ∨ a = s1.heap.objs.size + 1 := by simpa using ha
        have le : s1.heap.objs.size ≤ a := by
          rcases e with e | e | e | e | e <;> subst e
          all_goals first | exact Nat.le_refl _ | exact Nat.le_add_right _ _
        exact I1.fpOk le (I1.hok.fresh le)
      obtain ⟨its, rv, px⟩ := I1.sqZ qx
      obtain ⟨jts, rw', py⟩ := I1.sqZ qy
      refine zipB_call px py fun g hz hU hO hi hj hk => wpAny_pyIter_zip hz ?_
      have I2 : Inv X pins σ H1 { s1 with heap := g } := I1.kept (t' := s1.toks) hk
      exact ⟨s1.heap.objs.size + 4, [s1.heap.objs.size + 4, s1.heap.objs.size + 2, s1.heap.objs.size + 3, s1.heap.objs.size, s1.heap.objs.size + 1], _, _, H1, rfl, I2, turnZ (PySem.W.ktu_apart s1.heap.objs.size l m px.lt py.lt), ⟨hz, hU, ⟨_, _, hO⟩, hi, hj⟩, five, q⟩
/-- a loop over zip of two sequences of one length -/
theorem for_zipZ {K : PySem.W.Frag} {b c : Bool} {l m : Addr} {xs ys : List V} {g : TG} {tb : TS} {D : Ends} {σ : L2.St} {H : Hp} (hl : xs.length = ys.length) (Pv : Nat → L2.St → Hp → Prop) (h0 : Pv 0 σ H) (hq : ∀ i σ H, Pv i σ H → SqZ K b H l xs ∧ SqZ K c H m ys)
    (one : ∀ (i : Nat) (x y : V) (T : Addr) (σ : L2.St) (H : Hp), xs[i]? = some x → ys[i]? = some y → Pv i σ H → H T = none → g (.ref T) σ (upd H T (.tup [x, y])) fun σ2 H2 => tb { D with nx := Pv (i + 1), ct := Pv (i + 1), bk := D.nx } σ2 H2) (fin : ∀ σ H, Pv xs.length σ H → D.nx σ H) :
    ∃ W : Nat → Nat → L2.St → Hp → Prop, (∃ n, W 0 n σ H) ∧ ∀ i n σ H, W i n σ H →
      ((ItZ K b c l m).stop i H ∧ D.nx σ H) ∨ ((ItZ K b c l m).go i H ∧ ∃ N : L2.St → Hp → Prop, (∀ σ' H', N σ' H' → ∃ n', n' < n ∧ W (i + 1) n' σ' H') ∧ ∀ v H', (ItZ K b c l m).yld i H v H' → g v σ H' fun σ2 H2 => tb { D with nx := N, ct := N, bk := D.nx } σ2 H2) := by
  refine ⟨fun i n σ H => n = xs.length - i ∧ i ≤ xs.length ∧ Pv i σ H, ⟨xs.length, rfl, Nat.zero_le _, h0⟩, ?_⟩
  rintro i n σ H ⟨rfl, hi, pp⟩
  obtain ⟨qx, qy⟩ := hq i σ H pp
  by_cases lt : i < xs.length
  · have lt2 : i < ys.length := by omega
    refine .inr ⟨⟨xs, ys, _, _, qx, qy, List.getElem?_eq_getElem lt, List.getElem?_eq_getElem lt2⟩, Pv (i + 1), fun σ' H' p' => ⟨xs.length - (i + 1), by omega, rfl, lt, p'⟩, fun v H' yl => ?_⟩
    obtain ⟨T, x', y', rfl, hT, rfl, f1, f2⟩ := yl
    exact one i x' y' T σ H (f1 xs qx) (f2 ys qy) pp hT
  · have e : i = xs.length := by omega
    subst e
    exact .inl ⟨⟨xs, ys, qx, qy, Or.inl (Nat.le_refl _)⟩, fin σ H pp⟩
theorem walk_zipZ {K : PySem.W.Frag} {b c : Bool} {l m : Addr} {xs ys : List V} {n : Nat} (hn : n = min xs.length ys.length) : Walk (ItZ K b c l m) n (fun H => SqZ K b H l xs ∧ SqZ K c H m ys) (YPair (fun i => xs[i]?) (fun i => ys[i]?)) := by
  subst hn
  refine ⟨fun i _ hi q => ?_, fun _ q => ⟨xs, ys, q.1, q.2, by omega⟩, fun i H v H' _ q y => ?_⟩
  · have h1 : i < xs.length := by omega
    have h2 : i < ys.length := by omega
    exact ⟨xs, ys, xs[i], ys[i], q.1, q.2, List.getElem?_eq_getElem h1, List.getElem?_eq_getElem h2⟩
  · obtain ⟨T, x, z, f1, f2, f3, f4, f5⟩ := y
    exact ⟨T, x, z, f1, f2, f3, f4 xs q.1, f5 ys q.2⟩
end L2
namespace L2
open PySem PySem.Spec PyProof.Rows
/-! ### sorted(d), d a dict whose keys are triples of texts -/
def k3 (t : Str × Str × Str) : List Key := [.inr t.1, .inr t.2.1, .inr t.2.2]
def enc3 (t : Str × Str × Str) : PyData := .tuple [.str t.1, .str t.2.1, .str t.2.2]
def rSortedT3 : List V → Hp → VK → Prop := fun xs H Q => ∃ (a : Addr) (kvs : List (List Key × V)) (ts : List (Str × Str × Str)), xs = [.ref a] ∧ Rd H a (.dT kvs) ∧ kvs.map (·.1) = ts.map k3 ∧
  ∀ (ts' : List (Str × Str × Str)) (ds : List Addr) (p : Addr), ts'.Perm ts → Paired (fun d t => H d = some (.tup ((k3 t).map kV))) ds ts' → H p = none → Q (.ref p) (upd H p (.lst (ds.map V.ref)))
theorem alike3 (s t : Str × Str × Str) : PySem.W.alike (enc3 s) (enc3 t) = true := by
  unfold enc3
  simp [PySem.W.alike, PySem.W.alikeAll]
theorem keys_pair {H : Hp} : ∀ {kvs : List (List Key × V)} {zs : List (List Key × Addr × Value)} {ts : List (Str × Str × Str)}, Paired (fun p q => p.1 = q.1 ∧ H q.2.1 = some (.tup (p.1.map kV)) ∧ RelV p.2 q.2.2) kvs zs → kvs.map (·.1) = ts.map k3 →
    Paired (fun d t => H d = some (.tup ((k3 t).map kV))) (zs.map (·.2.1)) ts
  | _, _, ts, .nil, h => by
    cases ts with
    | nil => exact .nil
    | cons t ts => cases h
  | _, _, ts, .cons hp ht, h => by
    cases ts with
    | nil => cases h
    | cons t ts =>
      rw [List.map_cons, List.map_cons] at h
      injection h with h1 h2
      exact .cons (by rw [← h1]; exact hp.2.1) (keys_pair ht h2)
theorem each_of {S : Addr → (Str × Str × Str) → Prop} : ∀ {as : List Addr} {ts : List (Str × Str × Str)}, Paired S as ts → PySem.W.EachIs (fun v t => ∃ d, v = Value.ref d ∧ S d t) (as.map Value.ref) ts
  | _, _, .nil => .nil
  | _, _, .cons h t => .cons ⟨_, rfl, h⟩ (each_of t)
theorem of_each {S : Addr → (Str × Str × Str) → Prop} : ∀ {out : List Value} {ts : List (Str × Str × Str)}, PySem.W.EachIs (fun v t => ∃ d, v = Value.ref d ∧ S d t) out ts → ∃ ds : List Addr, out = ds.map Value.ref ∧ Paired S ds ts
  | _, _, .nil => ⟨[], rfl, .nil⟩
  | _, _, .cons ⟨d, e, h⟩ t => by
    obtain ⟨ds, e2, p⟩ := of_each t
    exact ⟨d :: ds, by rw [e, e2]; rfl, .cons h p⟩
theorem each_imp {α β : Type} {R S : α → β → Prop} (h : ∀ a b, R a b → S a b) : ∀ {as : List α} {bs : List β}, PySem.W.EachIs R as bs → PySem.W.EachIs S as bs
  | _, _, .nil => .nil
  | _, _, .cons x t => .cons (h _ _ x) (each_imp h t)
theorem each_len {α β : Type} {R : α → β → Prop} : ∀ {as : List α} {bs : List β}, PySem.W.EachIs R as bs → as.length = bs.length
  | _, _, .nil => rfl
  | _, _, .cons _ t => by rw [List.length_cons, List.length_cons, each_len t]
theorem call_sortedT3 {X : Cx} (hc : X.calm = true) (hu : X.A.units + 64 < cLine) : CallR X (.builtin "sorted") rSortedT3 := by
  intro pins s σ H xs us Q I r h
  obtain ⟨a, kvs, ts, rfl, rd, hk, k⟩ := h
  obtain ⟨u, rfl, ru⟩ := vals1 r
  cases ru
  obtain ⟨hlen, hsm, zs, kt, o, es, ep, ho, hex, hd, hes, nd⟩ := rd.ok I.hok
  have ez : es.size = zs.length := size_of_entries hes
  have kz : kvs.length = zs.length := Paired.length kt
  refine Calls.call_function_entry (b := Builtin.sorted) kind_sorted plain_sorted entry_sorted (args_sorted1 _) ?_
  show wpAny _ _ (checkCount "sorted" 1 1 1 >>= fun _ => _) _ _ _
  refine wpAny_bind (wpAny_pure ?_)
  refine wpAny_bind (PySem.W.kdu_collect (kdl_raw hsm hex hd) (I.ok.hd hc) ho (by omega) fun h' tk acc keep items => ?_)
  obtain ⟨is, it⟩ := items
  have accL : acc.toList = (zs.map (·.2.1)).map Value.ref := by
    refine List.ext_getElem? fun j => ?_
    rw [List.getElem?_map, List.getElem?_map, Array.getElem?_toList]
    cases e : acc[j]? with
    | none =>
      have := Array.getElem?_eq_none_iff.mp e
      rw [List.getElem?_eq_none (by omega)]
      rfl
    | some v =>
      obtain ⟨en, e1, rfl⟩ := it j v e
      rw [entry_at hes j] at e1
      obtain ⟨q, e2, rfl⟩ := Option.map_eq_some_iff.mp e1
      rw [e2]
      rfl
  have pr := keys_pair kt hk
  have al : acc.toList.length = zs.length := by rw [accL, List.length_map, List.length_map]
  have I1 : Inv X pins σ H ⟨h', s.gens, s.drawn, tk, s.os⟩ := I.kept (t' := tk) keep
  refine wpAny_bind (wpAny_newList ?_ (by omega))
  have I2 : Inv X pins σ H ⟨h'.push { cls := .type "list", data := .seq acc.toList.toArray }, s.gens, s.drawn, tk, s.os⟩ := I1.kept (t' := tk) fun b o e => Heap.get?_push_of_some _ e
  refine wpAny_bind (wpAny_holding ?_)
  have E1 := each_of pr
  rw [← accL] at E1
  have hR : PySem.W.EachIs (fun v b => ∃ as, Reads (h'.push { cls := .type "list", data := .seq acc.toList.toArray }) v (enc3 b) as ∧ ¬h'.objs.size ∈ as) acc.toList ts := each_imp (fun v t q => by
    obtain ⟨d, rfl, hd⟩ := q
    obtain ⟨its, rv, ⟨ot, h1, h2, n, h3⟩, _⟩ := I2.tuple (SqT.of hd)
    cases rv with
    | cons r1 rv =>
    cases rv with
    | cons r2 rv =>
    cases rv with
    | cons r3 rv =>
    cases rv
    obtain ⟨t1, rfl⟩ := r1
    obtain ⟨t2, rfl⟩ := r2
    obtain ⟨t3, rfl⟩ := r3
    exact ⟨_, .tuple h1 h2 h3 (.cons (.str _ _) (.cons (.str _ _) (.cons (.str _ _) .nil))), fun z => nomatch z⟩) E1
  have hA : PySem.W.AllAlike (ts.map enc3) := fun d hd d' hd' => by
    obtain ⟨t, _, rfl⟩ := List.mem_map.mp hd
    obtain ⟨t', _, rfl⟩ := List.mem_map.mp hd'
    exact alike3 t t'
  have hS : PySem.W.Sortable (ts.map enc3) := .inl fun d hd => by
    obtain ⟨t, _, rfl⟩ := List.mem_map.mp hd
    exact ⟨_, _, rfl⟩
  have tl : acc.toList.length = ts.length := each_len E1
  have hD : ∀ b : Str × Str × Str, (enc3 b).depth ≤ 2 := fun b => by
    unfold enc3
    simp [PyData.depth, PyData.depthAll]
  refine PySem.W.list_sort_data (n := 0) (enc := enc3) (R := fun v t => ∃ d, v = Value.ref d ∧ H d = some (.tup ((k3 t).map kV))) (Heap.get?_push_size _ rfl) E1 hR hA hS (by omega) (fun b hb => by have := hD b; have e : X.A.in1.units = X.A.units + 1 := rfl; omega) fun out ol eo => ?_
  · obtain ⟨ds, rfl, pd⟩ := of_each eo
    refine wpAny_pure ⟨_, rfl, ?_⟩
    obtain ⟨e, he⟩ := sortedHeap_at (out := (ds.map Value.ref).toArray) (vs := acc.toList) (n := 0) (Heap.get?_push_size (o := { cls := .type "list", data := .seq acc.toList.toArray }) h' rfl)
    refine ⟨.ref h'.objs.size, upd H h'.objs.size (.lst (ds.map V.ref)), I1.laid (t' := tk) (fun b u eb => ?_) (Nat.le_refl _) ⟨?_, ds.map Value.ref, e, vals_refs ds, he⟩, rfl, k _ ds _ (List.mergeSort_perm _ _) pd (I1.hok.fresh (Nat.le_refl _))⟩
    · have lt : b < h'.objs.size := Heap.lt_size eb
      have lt2 : b < (h'.push { cls := .type "list", data := .seq acc.toList.toArray }).objs.size := by
        rw [size_push']
        exact Nat.lt_succ_of_lt lt
      rw [sortedHeap_old (Nat.ne_of_lt lt) lt2]
      exact Heap.get?_push_of_some _ eb
    · have l1 : ds.length = ts.length := by rw [← ol, List.length_map]
      rw [List.length_map]
      omega
end L2
namespace L2
open PySem PySem.Spec PyProof.Rows
/-! ### a list comprehension whose step may raise -/
section
variable {M : Model} {A : Around} {E : Value → Shared → Prop} {s : Shared} {env : Env}
def compPostX (M : Model) (A : Around) (E : Value → Shared → Prop) (Q : Value → Shared → Prop) (acc : Value) (cenv : Env) (r : Result) (s' : Shared) : Prop :=
  match r with
  | .ok _ => ∃ m, s'.heap.Ns cenv.locals m ∧ ∀ h', Heap.SameBut cenv.locals s'.heap h' → Q acc { s' with heap := h' }
  | .error x => ∃ m, s'.heap.Ns cenv.locals m ∧ ∀ h', Heap.SameBut cenv.locals s'.heap h' → ∀ c : Env, c.frame = cenv.frame → wpAny M A (passOn "comprehension.variables-let-go" x c : Sem Value) (fun _ _ => False) E { s' with heap := h' }
theorem comprehension_freeX {e : Expr} {scope : Scope} {pos : Pos} {newAcc first : Sem Value} {g : Comprehension} {gs : List Comprehension} {cl : List (Str × Addr)} {Q : Value → Shared → Prop}
    (hcl : clausesOf e = g :: gs) (hs : ∀ x, foldedSetIterable g.iter env x = pure x) (hclos : closureFor scope env = pure cl)
    (hkind : scope.kind = .function) (hnames : ∀ x ∈ scope.names, x.2 = .local → scope.names.lookup x.1 = some .local)
    (h : wpAny M A first (fun x s₁ => wpAny M A (pyIter x) (fun it s₂ => wpAny M A newAcc (fun acc s₃ =>
      wpAny M A (newFunctionEnv scope env.globals cl [] env.qual none .none (some env)) (fun cenv s₄ =>
        codeAny M A (.compStart e 0 it acc { cenv with scope := relabel scope env }) (compPostX M A E Q acc cenv) s₄) E s₃) E s₂) E s₁) E s) :
    wpAny M A (comprehension e scope env pos newAcc false first none) Q E s := by
  unfold comprehension
  rw [hclos, hcl]
  refine wpAny_bind (wpAny_mono h (fun x s₁ h₁ => wpAny_bind (wpAny_standAt (wpAny_bind (wpAny_of_eq (hs x) (wpAny_bind (wpAny_holding (wpAny_mono h₁ (fun it s₂ h₂ =>
    wpAny_standIf (wpAny_bind (wpAny_mono h₂ (fun acc s₃ h₃ => wpAny_bind (wpAny_pure (wpAny_bind (wpAny_mono h₃ (fun cenv s₄ h₄ => ?_) fun _ _ h' => h')))) fun _ _ h' => h')))
      fun _ _ h' => h'))))))) fun _ _ h' => h')
  dsimp only
  have hv : ∀ x ∈ (scope.names.filter fun x => (x.2 == .local || x.2 == .cell) && x.1 != (".0" : Str)).reverse, x.2 = .local →
      Env.kindOf { cenv with scope := relabel scope env } x.1 = some .local := fun x hx hl => lookup_relabel_local (hnames x (List.mem_filter.mp (List.mem_reverse.mp hx)).1 hl)
  refine wpAny_holding (wpAny_bind (wpAny_attempt (wpAny_holding (wpAny_run (codeAny_mono h₄ fun r s' hr => ?_)))))
  cases r with
  | ok f =>
    obtain ⟨m, hn, hr⟩ := hr
    exact wpAny_bind (wpAny_holding (wpAny_comp_letGo (cenv := { cenv with scope := relabel scope env }) hkind _ s' m hv hn fun h' m' _ hs' => wpAny_pure (hr h' hs')))
  | error x =>
    obtain ⟨m, hn, hr⟩ := hr
    exact wpAny_bind (wpAny_holding (wpAny_comp_letGo (cenv := { cenv with scope := relabel scope env }) hkind _ s' m hv hn fun h' m' _ hs' => wpAny_mono (hr h' hs' { cenv with scope := relabel scope env } rfl) (fun _ _ f => f.elim) fun _ _ y => y))
end
/-- an exception that has come out of a call, within a comprehension's block -/
def XEf (X : Cx) (W : WX) (u : Value) (s' : Shared) : Prop :=
  ∃ (a : Addr) (B : Heap) (sI : Shared) (pins : List (Addr × Obj)) (σ : St) (H : Hp) (cls : Value) (d : Option Addr),
    u = .ref a ∧ Inv X pins σ H sI ∧ (∀ b o, sI.heap.get? b = some o → b ∉ frs X.stack → B.get? b = some o) ∧ sI.heap.UpToSlots s'.heap ∧
      HandSPX.FlyingZ B X.stack a (Zc cls d) s'.heap ∧ H a = none ∧ s'.os = sI.os ∧ AllBare s'.gens ∧ W cls d σ H
def TakesF (X : Cx) (W : WX) : Prop := ∀ u s', XEf X W u s' → X.xe u s'
section
variable {X : Cx} {pins : List (Addr × Obj)} {σ : St} {H : Hp} {sI s s' : Shared} {B : Heap} {W : WX} {E : XK}
theorem XEf.of_call (I : Inv X pins σ H s) (hW : ∀ cls d H', E cls d H' → W cls d σ H') {u : Value} (c : CX X.prog X.w X.stack H s E u s') : XEf X W u s' := by
  obtain ⟨a, B, H', cls, d, rfl, fl, hok, ub, na, os, ag, hE⟩ := c
  obtain ⟨G, g1, g2⟩ := restrict s'.heap fun b => (B.get? b).isSome || decide (b ∈ frs X.stack)
  have st : B.StaysIn s'.heap := fl.1
  have gB : ∀ b o, B.get? b = some o → G.get? b = some o := fun b o e => by
    rw [g1 b (by simp [e])]
    exact st b o e
  have gF : ∀ b, b ∈ frs X.stack → G.get? b = s'.heap.get? b := fun b hb => g1 b (by simp [hb])
  have og : ∀ b o, G.get? b = some o → s'.heap.get? b = some o ∧ ((B.get? b).isSome = true ∨ b ∈ frs X.stack) := fun b o e => by
    cases q : ((B.get? b).isSome || decide (b ∈ frs X.stack)) with
    | false => rw [g2 b q] at e; cases e
    | true =>
      rw [g1 b q] at e
      exact ⟨e, by simpa [Bool.or_eq_true] using q⟩
  refine ⟨a, B, { s with heap := G, gens := s'.gens, drawn := s'.drawn, toks := s'.toks }, pins, σ, H', cls, d, rfl, ?_, fun b o e hb => ?_, Heap.UpToSlots.of_keeps fun b o e => (og b o e).1, fl, na, os, ag, hW _ _ _ hE⟩
  · refine I.call (ch := []) ⟨fun b o e n hb _ => gB b o (ub.keep b o e n hb), fun b o e n hb _ => ?_, fun b o e n _ => ub.free b o e n, fun b o e _ => ?_, ub.tups, ub.frzs, ub.tbls⟩ (hok.kept gB) ag (fun _ z => nomatch z)
    · obtain ⟨sl, q⟩ := ub.slot b o e hb
      exact ⟨sl, by rw [gF b hb]; exact q⟩
    · by_cases hb : b ∈ frs X.stack
      · obtain ⟨sl, q⟩ := ub.slot b o e hb
        exact ⟨_, by rw [gF b hb]; exact q⟩
      · obtain ⟨o', q⟩ := ub.there b o e hb
        exact ⟨o', gB b o' q⟩
  · obtain ⟨e', h⟩ := og b o e
    rcases h with h | h
    · obtain ⟨o', q⟩ := Option.isSome_iff_exists.mp h
      have z := st b o' q
      rw [e'] at z; cases z
      exact q
    · exact absurd h hb
theorem passAtF (tk : TakesF X W) (σ : St) : PassesAt (L2.CX X.prog X.w) X σ (WE W σ) := fun _ _ _ e s' I c => tk e s' (XEf.of_call I (fun _ _ _ h => h) c)
theorem noteFrame_congr {e : Value} {env env' : Env} (h : env.frame = env'.frame) : noteFrame e env = noteFrame e env' := by
  unfold noteFrame PySem.frameOf
  rw [h]
theorem funFrames_but {base B2 h h2 : Heap} {C : Addr} (hb : ∀ b, base.get? b = none → B2.get? b = none) (sb : ∀ b, b ≠ C → h2.get? b = h.get? b) : ∀ {l : List Env}, h.FunFrames base l → (∀ L ∈ frs l, L ≠ C) → h2.FunFrames B2 l
  | [], _, _ => trivial
  | env :: l, h, hn => by
    obtain ⟨hk, ⟨L, o, hf, hL, ho, hd⟩, hr⟩ := h
    refine ⟨hk, ⟨L, o, hf, hb L hL, ?_, hd⟩, funFrames_but hb sb hr fun b hb' => ?_⟩
    · rw [sb L (hn L (List.mem_filterMap.mpr ⟨env, List.mem_cons_self, hf⟩))]
      exact ho
    · obtain ⟨e, he, q⟩ := List.mem_filterMap.mp hb'
      exact hn b (List.mem_filterMap.mpr ⟨e, List.mem_cons_of_mem _ he, q⟩)
/-- the block, what it raises -/
abbrev Cx.blkX (X : Cx) (s : Shared) (H : Hp) (scope : Scope) (cenv : Env) (fp : List Addr) (W : WX) : Cx := (X.blk s H scope cenv fp).wish (XEf (X.blk s H scope cenv fp) W)
theorem blkX_takes {scope : Scope} {cenv : Env} {fp : List Addr} : TakesF (X.blkX s H scope cenv fp W) W := fun _ _ ⟨a, B, sI, pins, σ, H, cls, d, e, I, nb, up, fl, na, os, ag, w⟩ => ⟨a, B, sI, pins, σ, H, cls, d, e, I.unwish, nb, up, fl, na, os, ag, w⟩
/-- it leaves the block: the variables let go, then on its way from the def's own frame -/
theorem XEf.leave {s3 : Shared} {H3 : Hp} {scope : Scope} {ce : Env} {fp : List Addr} {Wo : WX} (hst : X.stack = X.env :: X.outer) (hf : X.env.frame = some X.env.locals) (tk : Takes X Wo) (I3 : Inv X pins σ H3 s3) (hC : ce.locals = s3.heap.objs.size) (hfr : ce.frame = X.env.frame)
    (hfp : ∀ b ∈ fp, FpOk X pins H3 b) {u : Value} {Q : Value → Shared → Prop} {acc : Value} {c0 : Env} (hc0 : c0.locals = ce.locals) (hc1 : c0.frame = ce.frame) (x : XEf (X.blk s3 H3 scope ce fp) (fun cls d _ H => Wo cls d σ H) u s') :
    notedBy (model X.prog X.w) X.A ce (fun e s1 => compPostX (model X.prog X.w) X.A X.xe Q acc c0 (.error e) s1) u s' := by
  obtain ⟨a, B, sI, pins', σ', H', cls, d, rfl, I', nb, up, fl, na, os, ag, w⟩ := x
  have fl : HandSPX.FlyingZ B (X.env :: X.outer) a (Zc cls d) s'.heap := by rw [← hst]; exact fl
  have hA : X.A.frames = some (X.env :: X.outer) := by rw [I3.ok.frames, hst]
  unfold notedBy
  rw [noteFrame_congr hfr]
  refine HandSPX.looks_onZ Zc.steady hA hf fl fun h1 held up1 => ?_
  -- the block's variables
  obtain ⟨m, ⟨oC, es, ep, eC, dC, rC⟩, _⟩ := id I'.loc
  have eC : sI.heap.get? ce.locals = some oC := eC
  have ndC : ∀ vs, oC.data ≠ .fields vs := fun vs z => by rw [dC] at z; cases z
  obtain ⟨sl1, eC1⟩ := up _ _ eC ndC
  obtain ⟨sl2, eC2⟩ := up1 _ _ eC1 ndC
  refine ⟨m, ⟨{ oC with slots := sl2 }, es, ep, by rw [hc0]; exact eC2, dC, rC⟩, fun h2 sb c hc => ?_⟩
  rw [hc0] at sb
  have nC : H' ce.locals = none := I'.free
  have sb' : ∀ b, b ≠ ce.locals → h2.get? b = h1.get? b := fun b hb => sb.2 b hb
  obtain ⟨hB, hBn, hFF, oe, vs, T, oT, ts, he, hz, hd, h1', hnT, hTe, hT, hdT, h3⟩ := held
  have aC : a ≠ ce.locals := fun z => by
    rw [z, eC2] at he
    cases he
    exact ndC _ hd
  have TC : T ≠ ce.locals := fun z => by
    rw [z, eC2] at hT
    cases hT
    exact ndC _ hdT
  have frC : ∀ L ∈ frs X.stack, L ≠ ce.locals := fun L hL z => by
    obtain ⟨_, o, ho, _⟩ := I3.stack.mem hL
    have := Heap.lt_size ho
    rw [z, hC] at this
    exact Nat.lt_irrefl _ this
  obtain ⟨B2, b1, b2⟩ := restrict B fun b => decide (b ≠ ce.locals)
  obtain ⟨G, g1, g2⟩ := restrict sI.heap fun b => decide (b ≠ ce.locals)
  have B2s : ∀ b o, B2.get? b = some o → b ≠ ce.locals ∧ B.get? b = some o := fun b o e => by
    by_cases hb : b = ce.locals
    · rw [b2 b (decide_eq_false fun z => z hb)] at e
      cases e
    · exact ⟨hb, by rw [← b1 b (decide_eq_true hb)]; exact e⟩
  have Gs : ∀ b o, G.get? b = some o → b ≠ ce.locals ∧ sI.heap.get? b = some o := fun b o e => by
    by_cases hb : b = ce.locals
    · rw [g2 b (decide_eq_false fun z => z hb)] at e
      cases e
    · exact ⟨hb, by rw [← g1 b (decide_eq_true hb)]; exact e⟩
  have B2n : ∀ b, B.get? b = none → B2.get? b = none := fun b e => by
    cases q : B2.get? b with
    | none => rfl
    | some o => rw [(B2s b o q).2] at e; cases e
  have held2 : HandSPX.HeldZ B2 (X.env :: X.outer) a (Zc cls d) X.env.locals h2 := ⟨fun b o e => by rw [sb' b (B2s b o e).1]; exact hB b o (B2s b o e).2, B2n a hBn, funFrames_but B2n sb' hFF (by rw [← hst]; exact frC),
    oe, vs, T, oT, ts, by rw [sb' a aC]; exact he, hz, hd, h1', B2n T hnT, hTe, by rw [sb' T TC]; exact hT, hdT, h3⟩
  have J0 : Inv X pins σ H' sI := I3.call' (ch := fp) I'.os I'.base I'.hok I'.bare fun b hb => ⟨(hfp b hb).2.2.2.1, (hfp b hb).2.1, (hfp b hb).2.2.2.2.1, (hfp b hb).2.2.2.2.2⟩
  have J : Inv X pins σ H' { sI with heap := G } := by
    obtain ⟨f0, f1, f2, f3, f4, f5⟩ := I3.fpOk (b := ce.locals) (H' := H') (by rw [hC]; exact Nat.le_refl _) nC
    exact J0.turned (t' := sI.toks) (fun b o hb e => by rw [g1 b (decide_eq_true hb)]; exact e) f0 f1 f3 f4 f5
  unfold PySem.passOn
  refine wpAny_bind (wpAny_field (show h2.get? a = some oe by rw [sb' a aC]; exact he) hd h1' ?_)
  rw [if_neg (by simp)]
  have go : wpAny (model X.prog X.w) X.A (setFlight (.ref a) c.frame) (fun _ t => wpAny (model X.prog X.w) X.A (throw (.ref a) : Sem Value) (fun _ _ => False) X.xe t) X.xe { s' with heap := h2 } := by
    rw [hc, hc1, hfr, hf]
    refine HandSPX.setFlight_onZ (s := { s' with heap := h2 }) held2 fun h4 hh up4 => wpAny_throw (tk _ _ ⟨a, B2, { sI with heap := G }, pins, σ, H', cls, d, rfl, J, fun b o e hb => ?_, fun b o e hd => ?_, .inr (.inr ?_), na, os, ag, w⟩)
    · rw [b1 b (decide_eq_true (Gs b o e).1)]
      exact nb b o (Gs b o e).2 hb
    · obtain ⟨n, e⟩ := Gs b o e
      obtain ⟨sl, e⟩ := up b o e hd
      obtain ⟨sl', e⟩ := up1 b _ e hd
      rw [← sb' b n] at e
      obtain ⟨sl2, q⟩ := up4 b { o with slots := sl' } e hd
      exact ⟨sl2, q⟩
    · rw [hst]
      exact hh
  first
    | exact wpAny_bind go
    | exact wpAny_bind (wpAny_pure (wpAny_bind go))
end
section
variable {X : Cx}
/-- [e for x in it], the step may raise: Wo what is wished of what leaves -/
def tLcX (wi : TI) (g : TG) (te : WX → TE) (Wo : WX) (vs : List Nat) : TE := fun σ H Q => wi σ H fun J H1 => ∀ D, H1 D = none → ∃ W : Nat → Nat → Hp → Prop, (∃ m, W 0 m (upd H1 D (.lst []))) ∧ ∀ i m H, W i m H →
  (J.stop i H ∧ Q (.ref D) H) ∨ (J.go i H ∧ ∃ Nx : Hp → Prop, (∀ H', Nx H' → ∃ m', m' < m ∧ W (i + 1) m' H') ∧ ∀ x H', J.yld i H x H' → g x (wipe σ vs) H' fun σ2 H2 => wipe σ2 vs = wipe σ vs ∧
    te (fun cls d _ H => Wo cls d σ H) σ2 H2 fun y H4 => ∃ acc, H4 D = some (.lst acc) ∧ acc.length < sizeLine ∧ Nx (upd H4 D (.lst (acc ++ [y]))))
theorem pe_lcX {elt tg iter : Expr} {scope : Scope} {own : List (Str × Nat)} {pos : Pos} {wi : TI} {g : TG} {te : WX → TE} {Wo : WX} (hc : X.calm = true) (hN : X.N.Nodup) (hst : X.stack = X.env :: X.outer) (hf : X.env.frame = some X.env.locals) (tk : Takes X Wo) (hi : PI X tg iter wi) (ok : BlkOk X.N X.env.scope scope own)
    (hg : ∀ (s : Shared) (H : Hp) (C : Addr) (cl : List (Str × Addr)) (fp : List Addr) (W : WX), PG (X.blkX s H scope (compEnvC scope cl C X.env) fp W) tg g)
    (he : ∀ (s : Shared) (H : Hp) (C : Addr) (cl : List (Str × Addr)) (fp : List Addr) (W : WX), PE (X.blkX s H scope (compEnvC scope cl C X.env) fp W) elt (te W)) (hs : ∀ x, foldedSetIterable iter X.env x = pure x := by intro _; rfl) :
    PE X (.ListComp elt [⟨tg, iter, [], 0⟩] scope pos) (tLcX wi g te Wo (own.map (·.2))) := by
  refine ⟨fun pins s σ H Q I h => ?_⟩
  rw [eval_ListComp]
  have hfree : ∀ y ∈ scope.names, y.2 = .free → ∃ c, X.env.cells.lookup y.1 = some c := fun y hy e => by
    rcases ok.free y hy e with k | k
    · exact I.ok.has _ (.inl k)
    · exact I.ok.has _ (.inr k)
  refine comprehension_freeX rfl hs (closure_ok hfree) ok.kind (fun y hy e => by rw [ok.uniq y hy, e])
    (thn (hi.run pins s σ H _ I h) fun xv s1 hx => thn hx fun itv s2 h2 => ?_)
  obtain ⟨it, fp, tn, J, H2, e, I2, T, st2, f2, q⟩ := h2
  subst e
  refine wpAny_newObj_type (newEnv_comp ?_) (by show 0 ≤ sizeLine; decide)
  generalize hD : s2.heap.objs.size = D
  have hDn : H2 D = none := I2.hok.fresh (Nat.le_of_eq hD)
  obtain ⟨W, ⟨m0, w0⟩, turn⟩ := q D hDn
  generalize hs3 : ({ s2 with heap := s2.heap.push { cls := .type "list", data := .seq ([] : List Value).toArray } } : Shared) = s3
  have I3 : Inv X pins σ (upd H2 D (.lst [])) s3 := by
    rw [← hs3]
    refine I2.laid (t' := s2.toks) (fun b o e => Heap.get?_push_of_some _ e) (Nat.le_of_eq hD) ⟨Nat.zero_le _, [], 0, .nil, ?_⟩
    rw [← hD]
    exact Heap.get?_push_size _ rfl
  have h3 : s3.heap = s2.heap.push { cls := .type "list", data := .seq ([] : List Value).toArray } := by rw [← hs3]
  have sz : ∀ b ∈ fp, b < s2.heap.objs.size := fun b hb => by
    obtain ⟨o, e, _⟩ := T.obj _ _ st2 b hb
    exact Heap.lt_size e
  have f3 : ∀ b ∈ fp, FpOk X pins (upd H2 D (.lst [])) b ∧ b < s3.heap.objs.size := fun b hb => by
    have hlt := sz b hb
    refine ⟨⟨?_, (f2 b hb).2⟩, by rw [h3, Heap.size_push]; exact Nat.lt_succ_of_lt hlt⟩
    rw [upd_ne (by rw [← hD]; exact Nat.ne_of_lt hlt)]
    exact (f2 b hb).1
  have st3 : tn 0 s3.heap := T.keep _ _ _ st2 fun b _ o e => by rw [h3]; exact Heap.get?_push_of_some _ e
  have I4 := block_start I3 ok hN f3
  have pg := hg s3 (upd H2 D (.lst [])) s3.heap.objs.size (cellsFrom (s3.heap.objs.size + 1) scope.names (cloFrom X.env.cells scope.names [])) fp (fun cls d _ H => Wo cls d σ H)
  have pe := he s3 (upd H2 D (.lst [])) s3.heap.objs.size (cellsFrom (s3.heap.objs.size + 1) scope.names (cloFrom X.env.cells scope.names [])) fp (fun cls d _ H => Wo cls d σ H)
  have nfp : ∀ b ∈ fp, (upd H2 D (.lst [])) b = none := fun b hb => (f3 b hb).1.1
  generalize hc0 : newEnv scope s3.heap.objs.size X.env.globals (cellsFrom (s3.heap.objs.size + 1) scope.names (cloFrom X.env.cells scope.names [])) X.env.qual none .none (some X.env) _ = c0
  have c0L : c0.locals = s3.heap.objs.size := by rw [← hc0]; rfl
  have c0F : c0.frame = X.env.frame := by rw [← hc0]; rfl
  have c0E : ({ c0 with scope := relabel scope X.env } : Env) = compEnvC scope (cellsFrom (s3.heap.objs.size + 1) scope.names (cloFrom X.env.cells scope.names [])) s3.heap.objs.size X.env := by rw [← hc0]; rfl
  rw [c0E]
  generalize hce : compEnvC scope (cellsFrom (s3.heap.objs.size + 1) scope.names (cloFrom X.env.cells scope.names [])) s3.heap.objs.size X.env = ce at I4 pg pe ⊢
  have cL : ce.locals = s3.heap.objs.size := by subst hce; rfl
  have cF : ce.frame = X.env.frame := by subst hce; rfl
  generalize hH3 : upd H2 D (.lst []) = H3 at I3 I4 pg pe w0 nfp f3
  generalize hs4 : ({ s3 with heap := pushCells (s3.heap.push { cls := .type "dict", data := .dict #[] }) scope.names } : Shared) = s4 at I4 ⊢
  have st4 : tn 0 s4.heap := T.keep _ _ _ st3 fun b _ o e => by rw [← hs4]; exact pushCells_keeps _ _ _ _ (Heap.get?_push_of_some _ e)
  have stat : ∀ {σ' : St} {H' : Hp} {s' : Shared}, Inv (X.blk s3 H3 scope ce fp) [] σ' H' s' → (∀ b ∈ fp, H' b = none) → ∀ b ∈ fp, FpOk (X.blk s3 H3 scope ce fp) [] H' b := fun {σ' H' s'} I' hn b hb =>
    ⟨hn b hb, (I'.ok.exf b hb).1, I'.ok.exfs b hb, .inl hb, fun x c e => (I'.ok.exf b hb).2 x c e, fun p hp => absurd (show p ∈ ([] : List (Addr × Obj)) ++ [] from hp) (by simp)⟩
  have loop : codeAny (model X.prog X.w) X.A (.compLoop (.ListComp elt [⟨tg, iter, [], 0⟩] scope pos) 0 (.ref it) (.ref D) ce) (compPostX (model X.prog X.w) X.A X.xe (EP X pins σ Q) (.ref D) c0) s4 := by
    have err : ∀ (u : Value) (s' : Shared), XEf (X.blk s3 H3 scope ce fp) (fun cls d _ H => Wo cls d σ H) u s' → notedBy (model X.prog X.w) X.A ce (fun e s1 => compPostX (model X.prog X.w) X.A X.xe (EP X pins σ Q) (.ref D) c0 (.error e) s1) u s' := fun u s' x =>
      x.leave hst hf tk I3 cL cF (fun b hb => (f3 b hb).1) (c0L.trans cL.symm) (c0F.trans cF.symm)
    refine compLoop_any (fun n s' => ∃ i H', Inv (X.blk s3 H3 scope ce fp) [] (wipe σ (own.map (·.2))) H' s' ∧ tn i s'.heap ∧ (∀ b ∈ fp, H' b = none) ∧ W i n H') ?_ m0 ⟨0, H3, I4, st4, nfp, w0⟩
    rintro n s5 ⟨i, H5, I5, st5, n5, w5⟩
    rcases turn i n H5 w5 with ⟨stop, qq⟩ | ⟨go, Nx, hNx, step⟩
    · have td := T.done (X.blk s3 H3 scope ce fp) rfl rfl rfl hc i [] s5 _ H5 (fun _ _ => False) I5 (stat I5 n5) st5 stop
      refine thnF td fun r s6 ⟨hr, I6⟩ => ?_
      subst hr
      have I7 : Inv X pins σ H5 s6 := I3.call' (ch := fp) I6.os I6.base I6.hok I6.bare fun b hb => ⟨(f3 b hb).1.2.2.2.1, (f3 b hb).1.2.1, (f3 b hb).1.2.2.2.2.1, (f3 b hb).1.2.2.2.2.2⟩
      have nC : H5 s3.heap.objs.size = none := by
        have z : H5 ce.locals = none := I6.free
        rw [cL] at z
        exact z
      obtain ⟨m, hn, _⟩ := I6.loc
      have hn : s6.heap.Ns ce.locals m := hn
      obtain ⟨f0, f1, f2, f3, f4, f5⟩ := I3.fpOk (H' := H5) (Nat.le_refl _) nC
      refine ⟨m, by rw [c0L, ← cL]; exact hn, fun h'' sb => ?_⟩
      rw [c0L] at sb
      exact ⟨.ref D, H5, I7.turned (t' := s6.toks) (fun b o hb e => (sb.2 b hb).trans e) f0 f1 f3 f4 f5, rfl, qq⟩
    · have ti := T.item (X.blk s3 H3 scope ce fp) rfl rfl rfl hc i [] s5 _ H5 (fun _ _ => False) I5 (stat I5 n5) st5 go
      refine thnF ti fun r s6 ⟨u, hr, h6⟩ => ?_
      subst hr
      refine thnF h6 fun _ s7 ⟨x, H7, I7, r7, y7, st7, n7⟩ => ?_
      have I7' := I7.pinned (stat I7 n7) (T.obj _ _ st7)
      refine wpAny_mono (pg.run _ s7 _ H7 x u _ (I7'.wish _) r7 (step x H7 y7)) (fun _ s8 ⟨σ8, H8, I8, hw8, q8⟩ => ?_) err
      have fin : ∀ {s' : Shared} {H' : Hp}, Inv (X.blk s3 H3 scope ce fp) ([] ++ pinsAt fp s7.heap) σ8 H' s' → Nx H' → ∃ m, m < n ∧ ∃ i H', Inv (X.blk s3 H3 scope ce fp) [] (wipe σ (own.map (·.2))) H' s' ∧ tn i s'.heap ∧ (∀ b ∈ fp, H' b = none) ∧ W i m H' := fun {s' H'} I' nx => by
        obtain ⟨m', hm, w'⟩ := hNx H' nx
        have pin' : ∀ b ∈ fp, ∀ o, s7.heap.get? b = some o → s'.heap.get? b = some o ∧ H' b = none := fun b hb o e =>
          let z := I'.pin (b, o) (List.mem_append_right _ (List.mem_append_right _ (mem_pinsAt hb e)))
          ⟨z.1, z.2.1⟩
        have hl : (wipe σ (own.map (·.2))).length = σ8.length := by rw [← hw8, wipe_length]
        refine ⟨m', hm, i + 1, H', (I'.unpinned (pins := [])).weak hl (fun j v e => ?_), T.keep _ _ _ st7 fun b hb o e => (pin' b hb o e).1, fun b hb => ?_, w'⟩
        · rw [← hw8] at e
          exact (wipe_some e).1
        · obtain ⟨o, e, _⟩ := T.obj _ _ st7 b hb
          exact (pin' b hb o e).2
      rw [List.forIn_nil]
      refine wpAny_pure ?_
      simp only [if_true]
      refine wpAny_mono (pe.run _ s8 σ8 H8 _ I8 q8) (fun z s10 ⟨yv, H10, I10, r10, acc, hD10, hz10, nx⟩ => ?_) err
      exact app_ok (X := X.blk s3 H3 scope ce fp) I10.unwish hD10 hz10 r10 fun s11 I11 => fin I11 nx
  exact codeAny_compStart_list loop (T.self X.A 0 _ _ _ st4 loop)
end
end L2
namespace Toy
open PySem L2
/-! ### the data -/
/-- H' tells all that H tells, but for what stands at p -/
def But (p : Addr) (H H' : Hp) : Prop := ∀ b o, b ≠ p → H b = some o → H' b = some o
theorem But.refl (p : Addr) (H : Hp) : But p H H := fun _ _ _ h => h
theorem But.trans {p : Addr} {H H1 H2 : Hp} (a : But p H H1) (b : But p H1 H2) : But p H H2 := fun c o n h => b c o n (a c o n h)
theorem But.upd {p : Addr} {H H' : Hp} {o : HO} (a : But p H H') : But p H (upd H' p o) := fun c o n h => by rw [upd_ne n]; exact a c o n h
theorem Same.but {p : Addr} {H H' : Hp} (a : Same H H') : But p H H' := fun c o _ h => a c o h
theorem Same.new {H : Hp} {p : Addr} {o : HO} (h : H p = none) : Same H (upd H p o) := fun b o e => by rw [upd_ne (ne_of_none e h)]; exact e
/-- a source of draws at p, at most n drawn so far -/
def Src (H : Hp) (p : Addr) (n : Int) : Prop := ∃ g s c : Int, H p = some (.lst [.int g, .int s, .int c]) ∧ 0 ≤ s ∧ s < 2147483647 ∧ 0 ≤ c ∧ c ≤ n
theorem Src.same {H H' : Hp} {p : Addr} {n : Int} (h : Src H p n) (e : Same H H') : Src H' p n := by
  obtain ⟨g, s, c, h, q⟩ := h
  exact ⟨g, s, c, e _ _ h, q⟩
theorem Src.le {H : Hp} {p : Addr} {n m : Int} (h : Src H p n) (e : n ≤ m) : Src H p m := by
  obtain ⟨g, s, c, h, q1, q2, q3, q4⟩ := h
  exact ⟨g, s, c, h, q1, q2, q3, by omega⟩

theorem draw_pow {x c : Int} (x0 : 0 ≤ x) (x1 : x < 2147483629) (c0 : 0 ≤ c) (c1 : c ≤ 1000000) : CPow (x * 48271 + 16807 * c * c + 11) 3 := by
  refine ⟨by decide, by decide, ?_⟩
  have h1 : 0 ≤ c * c := Int.mul_nonneg c0 c0
  have h2 : c * c ≤ 1000000 * 1000000 := Int.mul_le_mul c1 c1 c0 (by decide)
  have e : 16807 * c * c = 16807 * (c * c) := Int.mul_assoc _ _ _
  rw [e]
  generalize c * c = y at h1 h2
  show _ < 18446744073709551616
  omega
theorem ix_of {K : PySem.W.Frag} {H : Hp} {p : Addr} {xs : List V} {i : Int} {v : V} {Q : VK} (h : SqL K H p xs) (h2 : atI xs i = some v) (h3 : Q v H) : rIxL K (.ref p) (.int i) H Q := ⟨p, xs, i, v, rfl, rfl, h, h2, h3⟩
theorem set_of {H : Hp} {p : Addr} {xs : List V} {k : Int} {j : Nat} {v : V} {Q : Hp → Prop} (h : H p = some (.lst xs)) (h2 : ixN xs.length k = some j) (h3 : Q (upd H p (.lst (xs.set j v)))) : rSetL (.ref p) (.int k) v H Q := ⟨p, xs, k, j, rfl, rfl, h, h2, h3⟩
theorem ifne {x y : V} {A B : Prop} (h : x = y) (k : B) : if (!decide (x = y)) = true then A else B := by
  rw [decide_eq_true h]
  exact iteF k
theorem ifd {c A B : Prop} {inst : Decidable c} (h1 : c → A) (h2 : ¬ c → B) : if (@decide c inst) = true then A else B := by
  by_cases h : c
  · rw [if_pos (decide_eq_true h)]
    exact h1 h
  · rw [if_neg (by rw [decide_eq_false h]; exact Bool.false_ne_true)]
    exact h2 h
local macro_rules | `(tactic| walk_at "rd") => `(tactic| repeat (first
  | refine ⟨_, rfl, ?_⟩
  | refine ⟨_, _, rfl, rfl, ?_⟩
  | refine ⟨_, _, rfl, ?_⟩
  | refine ⟨rfl, ?_⟩
  | refine ⟨_, _, _, _, rfl, rfl, SqL.of upd_same, rfl, ?_⟩
  | refine ⟨_, _, _, _, rfl, rfl, upd_same, rfl, ?_⟩
  | refine iteT ?_
  | refine iteF ?_))
theorem take_more {α : Type} : ∀ {l : List α} {i : Nat} {x : α}, l[i]? = some x → l.take (i + 1) = l.take i ++ [x]
  | [], i, x, h => by simp at h
  | a :: l, 0, x, h => by
    have e : a = x := Option.some.inj h
    subst e
    rfl
  | a :: l, i + 1, x, h => by
    have ih := take_more (l := l) (i := i) (x := x) h
    show a :: l.take (i + 1) = a :: l.take i ++ [x]
    rw [ih]
    rfl
/-- a new object, the heap behind it a letter: generalize hH : upd H l _ = H' ahead of it -/
theorem new_of {H H' : Hp} {l : Addr} {o o' : HO} (hH : upd H l o = H') (h : H l = none) (e : o = o') : Same H H' ∧ H' l = some o' := by
  subst e hH
  exact ⟨Same.new h, upd_same⟩
/-- a changed object -/
theorem chg_of {H H' : Hp} {l : Addr} {o o' : HO} (hH : upd H l o = H') (e : o = o') : But l H H' ∧ H' l = some o' := by
  subst e hH
  exact ⟨(But.refl l H).upd, upd_same⟩
theorem Src.but {H H' : Hp} {p q : Addr} {n : Int} (h : Src H p n) (e : But q H H') (hne : p ≠ q) : Src H' p n := by
  obtain ⟨g, s, c, h, r⟩ := h
  exact ⟨g, s, c, e _ _ hne h, r⟩
theorem Src.at {H : Hp} {p : Addr} {n : Int} (h : Src H p n) : ∃ xs, H p = some (.lst xs) := by
  obtain ⟨g, s, c, h, q⟩ := h
  exact ⟨_, h⟩
theorem Src.ne {H : Hp} {p q : Addr} {n : Int} (h : Src H p n) (hq : H q = none) : q ≠ p := fun z => by
  obtain ⟨_, _, _, e, _⟩ := h
  rw [z, e] at hq
  cases hq
theorem int_at {l : List Int} {i : Nat} {x : V} (h : (l.map V.int)[i]? = some x) : ∃ z, x = V.int z ∧ l[i]? = some z := by
  rw [List.getElem?_map] at h
  cases e : l[i]? with
  | none => rw [e] at h; cases h
  | some z => rw [e] at h; exact ⟨z, (Option.some.inj h).symm, rfl⟩
/-! ### the promises -/
def spSource (K : PySem.W.Frag) : Sp := fun vs H Q _ => ∃ (a : Addr) (ns : List Int), vs = [.ref a] ∧ SqL K H a (ns.map V.int) ∧ ∀ (p : Addr) (H' : Hp), H p = none → Same H H' → Src H' p 0 → Q (.ref p) H'
def spDraw : Sp := fun vs H Q _ => ∃ (p : Addr) (m n : Int), vs = [.ref p, .int m] ∧ Src H p n ∧ n < 1000000 ∧ 0 < m ∧ m < 2 ^ 64 ∧
  ∀ (d : Int) (H' : Hp), 0 ≤ d → d < m → But p H H' → Src H' p (n + 1) → Q (.int d) H'
def spLaw (K : PySem.W.Frag) : Sp := fun vs H Q _ => ∃ (a : Addr) (ns : List Int), vs = [.ref a] ∧ SqL K H a (ns.map V.int) ∧ ns.length ≤ 63 ∧ ∀ H', Q (.bl true) H'
/-! ### data: what a value stands for, whatever the addresses -/
/-- a tuple that is known to have no dict: its methods may be asked -/
def FzT (H : Hp) (a : Addr) (vs : List V) : Prop := ∃ o : Obj, H a = some (.frz o (.tup vs)) ∧ o.dict = none
theorem FzT.sq {K : PySem.W.Frag} {H : Hp} {a : Addr} {vs : List V} (h : FzT H a vs) : SqT K H a vs := let ⟨o, e, _⟩ := h; .inl (.inr ⟨o, e⟩)
theorem FzT.mono {H H' : Hp} {a : Addr} {vs : List V} (s : Same H H') (h : FzT H a vs) : FzT H' a vs := let ⟨o, e, d⟩ := h; ⟨o, s _ _ e, d⟩
inductive D where
  | v (x : V)
  | tup (ds : List D)
  | ctup (ds : List D)
  | ftup (ds : List D)
  | lst (ds : List D)
  | dK (kvs : List (Key × D))
  | dT (kvs : List (List Key × D))
  | ins (C : Addr) (fs : List (Str × D))
  | ob (φ : Hp → V → Prop)
section
variable (K : PySem.W.Frag) (H : Hp)
mutual
def Dat : D → V → Prop
  | .v x, y => y = x
  | .tup ds, y => ∃ a vs, y = .ref a ∧ H a = some (.tup vs) ∧ DatL ds vs
  | .ctup ds, y => ∃ a vs, y = .ref a ∧ SqT K H a vs ∧ DatL ds vs
  | .ftup ds, y => ∃ a vs, y = .ref a ∧ FzT H a vs ∧ DatL ds vs
  | .lst ds, y => ∃ a vs, y = .ref a ∧ H a = some (.lst vs) ∧ DatL ds vs
  | .dK kvs, y => ∃ a vs, y = .ref a ∧ H a = some (.dK vs) ∧ DatK kvs vs
  | .dT kvs, y => ∃ a vs, y = .ref a ∧ H a = some (.dT vs) ∧ DatT kvs vs
  | .ins C fs, y => ∃ a dx vs, y = .ref a ∧ H a = some (.ins C dx vs) ∧ DatS fs vs
  | .ob φ, y => ∃ H0, Same H0 H ∧ φ H0 y
def DatL : List D → List V → Prop
  | [], vs => vs = []
  | d :: ds, vs => ∃ v r, vs = v :: r ∧ Dat d v ∧ DatL ds r
def DatK : List (Key × D) → List (Key × V) → Prop
  | [], vs => vs = []
  | (k, d) :: ds, vs => ∃ v r, vs = (k, v) :: r ∧ Dat d v ∧ DatK ds r
def DatT : List (List Key × D) → List (List Key × V) → Prop
  | [], vs => vs = []
  | (k, d) :: ds, vs => ∃ v r, vs = (k, v) :: r ∧ Dat d v ∧ DatT ds r
def DatS : List (Str × D) → List (Str × V) → Prop
  | [], vs => vs = []
  | (k, d) :: ds, vs => ∃ v r, vs = (k, v) :: r ∧ Dat d v ∧ DatS ds r
end
/-- what stands at the address of a list, a dict that is one's own -/
def Rep : D → HO → Prop
  | .lst ds, ho => ∃ vs, ho = .lst vs ∧ DatL K H ds vs
  | .dK kvs, ho => ∃ vs, ho = .dK vs ∧ DatK K H kvs vs
  | .dT kvs, ho => ∃ vs, ho = .dT vs ∧ DatT K H kvs vs
  | .ins C fs, ho => ∃ dx vs, ho = .ins C dx vs ∧ DatS K H fs vs
  | _, _ => False
/-- pairs: the keys as they are -/
abbrev PK {κ : Type} (kvs : List (κ × D)) (vs : List (κ × V)) : Prop := Paired (fun p q => p.1 = q.1 ∧ Dat K H p.2 q.2) kvs vs
end
theorem same_seqT {K : PySem.W.Frag} {H H' : Hp} {a : Addr} {xs : List V} (e : Same H H') (h : SqT K H a xs) : SqT K H' a xs := by
  rcases h with (h | ⟨o, h⟩) | h
  · exact .inl (.inl (e _ _ h))
  · exact .inl (.inr ⟨o, e _ _ h⟩)
  · exact .inr h
section
variable {K : PySem.W.Frag} {H H' : Hp}
mutual
theorem Dat.mono (s : Same H H') : ∀ {d : D} {v : V}, Dat K H d v → Dat K H' d v
  | .v _, _, h => h
  | .tup _, _, ⟨a, vs, e, h, l⟩ => ⟨a, vs, e, s _ _ h, DatL.mono s l⟩
  | .ctup _, _, ⟨a, vs, e, h, l⟩ => ⟨a, vs, e, same_seqT s h, DatL.mono s l⟩
  | .ftup _, _, ⟨a, vs, e, h, l⟩ => ⟨a, vs, e, h.mono s, DatL.mono s l⟩
  | .lst _, _, ⟨a, vs, e, h, l⟩ => ⟨a, vs, e, s _ _ h, DatL.mono s l⟩
  | .dK _, _, ⟨a, vs, e, h, l⟩ => ⟨a, vs, e, s _ _ h, DatK.mono s l⟩
  | .dT _, _, ⟨a, vs, e, h, l⟩ => ⟨a, vs, e, s _ _ h, DatT.mono s l⟩
  | .ins _ _, _, ⟨a, dx, vs, e, h, l⟩ => ⟨a, dx, vs, e, s _ _ h, DatS.mono s l⟩
  | .ob _, _, ⟨H0, e, h⟩ => ⟨H0, e.trans s, h⟩
theorem DatL.mono (s : Same H H') : ∀ {ds : List D} {vs : List V}, DatL K H ds vs → DatL K H' ds vs
  | [], _, h => h
  | _ :: _, _, ⟨v, r, e, h, t⟩ => ⟨v, r, e, Dat.mono s h, DatL.mono s t⟩
theorem DatK.mono (s : Same H H') : ∀ {ds : List (Key × D)} {vs : List (Key × V)}, DatK K H ds vs → DatK K H' ds vs
  | [], _, h => h
  | (_, _) :: _, _, ⟨v, r, e, h, t⟩ => ⟨v, r, e, Dat.mono s h, DatK.mono s t⟩
theorem DatT.mono (s : Same H H') : ∀ {ds : List (List Key × D)} {vs : List (List Key × V)}, DatT K H ds vs → DatT K H' ds vs
  | [], _, h => h
  | (_, _) :: _, _, ⟨v, r, e, h, t⟩ => ⟨v, r, e, Dat.mono s h, DatT.mono s t⟩
theorem DatS.mono (s : Same H H') : ∀ {ds : List (Str × D)} {vs : List (Str × V)}, DatS K H ds vs → DatS K H' ds vs
  | [], _, h => h
  | (_, _) :: _, _, ⟨v, r, e, h, t⟩ => ⟨v, r, e, Dat.mono s h, DatS.mono s t⟩
end
theorem datK_pk : ∀ {ds : List (Key × D)} {vs : List (Key × V)}, DatK K H ds vs ↔ PK K H ds vs
  | [], _ => ⟨fun h => by rw [show _ = [] from h]; exact .nil, fun h => by cases h; rfl⟩
  | (_, _) :: _, _ => ⟨fun ⟨v, r, e, h, t⟩ => by rw [e]; exact .cons ⟨rfl, h⟩ (datK_pk.mp t), fun h => by
    cases h with
    | @cons _ q _ _ h t =>
      obtain ⟨q1, q2⟩ := q
      cases (show _ = q1 from h.1)
      exact ⟨_, _, rfl, h.2, datK_pk.mpr t⟩⟩
theorem datT_pk : ∀ {ds : List (List Key × D)} {vs : List (List Key × V)}, DatT K H ds vs ↔ PK K H ds vs
  | [], _ => ⟨fun h => by rw [show _ = [] from h]; exact .nil, fun h => by cases h; rfl⟩
  | (_, _) :: _, _ => ⟨fun ⟨v, r, e, h, t⟩ => by rw [e]; exact .cons ⟨rfl, h⟩ (datT_pk.mp t), fun h => by
    cases h with
    | @cons _ q _ _ h t =>
      obtain ⟨q1, q2⟩ := q
      cases (show _ = q1 from h.1)
      exact ⟨_, _, rfl, h.2, datT_pk.mpr t⟩⟩
theorem datS_pk : ∀ {ds : List (Str × D)} {vs : List (Str × V)}, DatS K H ds vs ↔ PK K H ds vs
  | [], _ => ⟨fun h => by rw [show _ = [] from h]; exact .nil, fun h => by cases h; rfl⟩
  | (_, _) :: _, _ => ⟨fun ⟨v, r, e, h, t⟩ => by rw [e]; exact .cons ⟨rfl, h⟩ (datS_pk.mp t), fun h => by
    cases h with
    | @cons _ q _ _ h t =>
      obtain ⟨q1, q2⟩ := q
      cases (show _ = q1 from h.1)
      exact ⟨_, _, rfl, h.2, datS_pk.mpr t⟩⟩
theorem Rep.mono (s : Same H H') : ∀ {d : D} {ho : HO}, Rep K H d ho → Rep K H' d ho
  | .lst _, _, ⟨vs, e, l⟩ => ⟨vs, e, l.mono s⟩
  | .dK _, _, ⟨vs, e, l⟩ => ⟨vs, e, l.mono s⟩
  | .dT _, _, ⟨vs, e, l⟩ => ⟨vs, e, l.mono s⟩
  | .ins _ _, _, ⟨dx, vs, e, l⟩ => ⟨dx, vs, e, l.mono s⟩
theorem Rep.dat {p : Addr} : ∀ {d : D} {ho : HO}, Rep K H d ho → H p = some ho → Dat K H d (.ref p)
  | .lst _, _, ⟨vs, e, l⟩, h => ⟨p, vs, rfl, by rw [← e]; exact h, l⟩
  | .dK _, _, ⟨vs, e, l⟩, h => ⟨p, vs, rfl, by rw [← e]; exact h, l⟩
  | .dT _, _, ⟨vs, e, l⟩, h => ⟨p, vs, rfl, by rw [← e]; exact h, l⟩
  | .ins _ _, _, ⟨dx, vs, e, l⟩, h => ⟨p, dx, vs, rfl, by rw [← e]; exact h, l⟩
theorem DatL.len : ∀ {ds : List D} {vs : List V}, DatL K H ds vs → vs.length = ds.length
  | [], _, h => by rw [show _ = [] from h]; rfl
  | _ :: _, _, ⟨v, r, e, _, t⟩ => by rw [e, List.length_cons, List.length_cons, t.len]
theorem DatL.nil : DatL K H [] [] := rfl
theorem DatL.cons {d : D} {ds : List D} {v : V} {vs : List V} (h : Dat K H d v) (t : DatL K H ds vs) : DatL K H (d :: ds) (v :: vs) := ⟨v, vs, rfl, h, t⟩
theorem DatL.app : ∀ {ds es : List D} {vs ws : List V}, DatL K H ds vs → DatL K H es ws → DatL K H (ds ++ es) (vs ++ ws)
  | [], _, _, _, h, t => by rw [show _ = [] from h]; exact t
  | _ :: _, _, _, _, ⟨v, r, e, h, t⟩, u => by rw [e]; exact ⟨v, _, rfl, h, t.app u⟩
theorem DatL.get : ∀ {ds : List D} {vs : List V} {i : Nat} {d : D}, DatL K H ds vs → ds[i]? = some d → ∃ v, vs[i]? = some v ∧ Dat K H d v
  | [], _, _, _, _, h => by simp at h
  | _ :: _, _, 0, _, ⟨v, r, e, h, _⟩, q => by rw [e]; exact ⟨v, rfl, by rw [← Option.some.inj q]; exact h⟩
  | _ :: _, _, i + 1, _, ⟨v, r, e, _, t⟩, q => by rw [e]; exact t.get (i := i) q
theorem DatL.getR : ∀ {ds : List D} {vs : List V} {i : Nat} {v : V}, DatL K H ds vs → vs[i]? = some v → ∃ d, ds[i]? = some d ∧ Dat K H d v
  | [], _, _, _, h, q => by rw [show _ = [] from h] at q; simp at q
  | d :: _, _, 0, _, ⟨v, r, e, h, _⟩, q => by rw [e] at q; exact ⟨d, rfl, by rw [← Option.some.inj q]; exact h⟩
  | _ :: _, _, i + 1, _, ⟨v, r, e, _, t⟩, q => by rw [e] at q; exact t.getR (i := i) q
theorem DatL.set : ∀ {ds : List D} {vs : List V} {i : Nat} {d : D} {v : V}, DatL K H ds vs → Dat K H d v → DatL K H (ds.set i d) (vs.set i v)
  | [], _, _, _, _, h, _ => by rw [show _ = [] from h]; rfl
  | _ :: _, _, 0, _, _, ⟨v, r, e, _, t⟩, q => by rw [e]; exact ⟨_, r, rfl, q, t⟩
  | _ :: _, _, i + 1, _, _, ⟨v, r, e, h, t⟩, q => by rw [e]; exact ⟨v, _, rfl, h, t.set q⟩
theorem DatL.drop : ∀ {ds : List D} {vs : List V} (n : Nat), DatL K H ds vs → DatL K H (ds.drop n) (vs.drop n)
  | _, _, 0, h => h
  | [], _, _ + 1, h => by rw [show _ = [] from h]; rfl
  | _ :: _, _, n + 1, ⟨v, r, e, _, t⟩ => by rw [e]; exact t.drop n
theorem DatL.take : ∀ {ds : List D} {vs : List V} (n : Nat), DatL K H ds vs → DatL K H (ds.take n) (vs.take n)
  | _, _, 0, _ => rfl
  | [], _, _ + 1, h => by rw [show _ = [] from h]; rfl
  | _ :: _, _, n + 1, ⟨v, r, e, h, t⟩ => by rw [e]; exact ⟨v, _, rfl, h, t.take n⟩
theorem DatL.rev {ds : List D} {vs : List V} (h : DatL K H ds vs) : DatL K H ds.reverse vs.reverse := by
  induction ds generalizing vs with
  | nil => rw [show vs = [] from h]; rfl
  | cons d ds ih =>
    obtain ⟨v, r, e, q, t⟩ := h
    rw [e, List.reverse_cons, List.reverse_cons]
    exact (ih t).app (.cons q .nil)
theorem DatL.mem : ∀ {ds : List D} {vs : List V} {v : V}, DatL K H ds vs → v ∈ vs → ∃ d ∈ ds, Dat K H d v := fun {ds vs v} h hv => by
  obtain ⟨i, hi⟩ := List.mem_iff_getElem?.mp hv
  obtain ⟨d, hd, q⟩ := h.getR hi
  exact ⟨d, List.mem_of_getElem? hd, q⟩
end
/-! ### the state as data -/
inductive Sl where
  | emp
  | val (d : D)
  | own (d : D)
structure AS where
  sl : List Sl
  n : Int
  sp : Option Addr
def AS.put (a : AS) (i : Nat) (s : Sl) : AS := ⟨a.sl.set i s, a.n, a.sp⟩
structure Bs (K : PySem.W.Frag) where
  sp : Option Addr
  H0 : Hp
  F0 : Hp
  self : Option Addr
/-- the heap without the source -/
def Hs (sp : Option Addr) (H : Hp) : Hp := fun b => if sp = some b then none else H b
theorem hs_some {sp : Option Addr} {H : Hp} {b : Addr} {o : HO} (h : Hs sp H b = some o) : H b = some o ∧ sp ≠ some b := by
  unfold Hs at h
  split at h
  · cases h
  · rename_i n
    exact ⟨h, n⟩
theorem hs_of {sp : Option Addr} {H : Hp} {b : Addr} {o : HO} (h : H b = some o) (n : sp ≠ some b) : Hs sp H b = some o := by
  unfold Hs
  rw [if_neg n]
  exact h
theorem hs_same {sp : Option Addr} {H : Hp} : Same (Hs sp H) H := fun _ _ h => (hs_some h).1
/-- what never changes wherever it stands -/
def imm : HO → Bool
  | .tup _ => true
  | .own _ => true
  | .frz _ (.tup _) => true
  | _ => false
def ImmA (F : Hp) (b : Addr) : Prop := ∃ o, F b = some o ∧ imm o = true
theorem ImmA.mono {F F' : Hp} {b : Addr} (h : ImmA F b) (s : Same F F') : ImmA F' b := let ⟨o, e, i⟩ := h; ⟨o, s _ _ e, i⟩
theorem Rep.imm {K : PySem.W.Frag} {H : Hp} : ∀ {d : D} {ho : HO}, Rep K H d ho → Toy.imm ho = false
  | .lst _, _, ⟨_, e, _⟩ => by rw [e]; rfl
  | .dK _, _, ⟨_, e, _⟩ => by rw [e]; rfl
  | .dT _, _, ⟨_, e, _⟩ => by rw [e]; rfl
  | .ins _ _, _, ⟨_, _, e, _⟩ => by rw [e]; rfl
/-- behind all: F what does not change, inside H -/
structure Fi {K : PySem.W.Frag} (B : Bs K) (F : Hp) (n : Int) (H : Hp) : Prop where
  fh : Same F H
  ff : Same B.F0 F
  fr : ∀ b, F b ≠ none → B.F0 b ≠ none ∨ B.H0 b = none ∨ ImmA F b
  fm : ∀ b o, B.H0 b = some o → B.sp ≠ some b → H b = some o
  sr : ∀ p, B.sp = some p → F p = none ∧ B.H0 p ≠ none ∧ Src H p n
structure Ok {K : PySem.W.Frag} (B : Bs K) (F : Hp) (a : AS) (σ : St) (H : Hp) : Prop where
  fi : Fi B F a.n H
  es : a.sp = B.sp
  len : σ.length = a.sl.length
  va : ∀ (i : Nat) (d : D), a.sl[i]? = some (Sl.val d) → ∃ v, σ[i]? = some (some v) ∧ Dat K F d v
  ow : ∀ (i : Nat) (d : D), a.sl[i]? = some (Sl.own d) → ∃ p ho, σ[i]? = some (some (V.ref p)) ∧ H p = some ho ∧ F p = none ∧ B.H0 p = none ∧ Rep K F d ho
  ds : ∀ (i j : Nat) (p : Addr) (d e : D), a.sl[i]? = some (Sl.own d) → a.sl[j]? = some (Sl.own e) → σ[i]? = some (some (V.ref p)) → σ[j]? = some (some (V.ref p)) → i = j
  fx : ∀ x, B.self = some x → σ[0]? = some (some (V.ref x))
/-- an exception's fields, off its own dict -/
def XRep (K : PySem.W.Frag) (F : Hp) (dd : Option Addr) (fs : List (Str × D)) : Prop := (dd = none ∧ fs = []) ∨ ∃ d vs, dd = some d ∧ F d = some (.xd vs) ∧ PK K F fs vs
/-- what is wanted of what is raised: W as the text has it, dW over data (the class, the fields, the slots, how many numbers are drawn) -/
structure Wp where
  W : Value → Option Addr → St → Hp → Prop
  dW : Addr → List (Str × D) → List Sl → Int → Prop
  bq : Hp → Prop
  sf : Bool
def WOk {K : PySem.W.Frag} (B : Bs K) (ω : Wp) : Prop := ω.bq B.F0 ∧ (ω.sf = false → B.self = none) ∧ ∀ (F : Hp) (a : AS) (σ : St) (H : Hp) (C : Addr) (dd : Option Addr) (fs : List (Str × D)), Ok B F a σ H → XRep K F dd fs → ω.dW C fs a.sl a.n → ω.W (.ref C) dd σ H
def OwnAt (a : AS) (σ : St) (b : Addr) : Prop := ∃ (i : Nat) (d : D), a.sl[i]? = some (Sl.own d) ∧ σ[i]? = some (some (V.ref b))
/-- an expression's way -/
structure Go {K : PySem.W.Frag} (B : Bs K) (σ : St) (F : Hp) (a : AS) (H : Hp) (F' : Hp) (a' : AS) (H' : Hp) : Prop where
  ok : Ok B F' a' σ H'
  ff : Same F F'
  hh : ∀ b o, B.sp ≠ some b → H b = some o → H' b = some o
  fr : ∀ b, F' b ≠ none → F b ≠ none ∨ H b = none ∨ OwnAt a σ b ∨ ImmA F' b
  oo : ∀ b, OwnAt a' σ b → OwnAt a σ b
section
variable {K : PySem.W.Frag} {B : Bs K} {F F' F1 F2 : Hp} {a a' a1 a2 : AS} {σ : St} {H H' H1 H2 : Hp} {n : Int}
theorem Fi.fs (f : Fi B F n H) : Same F (Hs B.sp H) := fun b o h => hs_of (f.fh b o h) fun e => by
  rw [(f.sr b e).1] at h
  cases h
theorem Go.refl (ok : Ok B F a σ H) : Go B σ F a H F a H := ⟨ok, Same.refl F, fun _ _ _ h => h, fun _ h => .inl h, fun _ h => h⟩
theorem Go.trans (ok : Ok B F a σ H) (g : Go B σ F a H F1 a1 H1) (g' : Go B σ F1 a1 H1 F2 a2 H2) : Go B σ F a H F2 a2 H2 where
  ok := g'.ok
  ff := g.ff.trans g'.ff
  hh := fun b o n h => g'.hh b o n (g.hh b o n h)
  fr := fun b h => by
    rcases g'.fr b h with q | q | q
    · exact (g.fr b q).imp id fun q => q.imp id fun q => q.imp id fun q => q.mono g'.ff
    · refine .inr (.inl ?_)
      cases e : H b with
      | none => rfl
      | some o =>
        by_cases z : B.sp = some b
        · exact absurd (g'.ok.fi.sr b z).1 h
        · rw [g.hh b o z e] at q
          cases q
    · exact .inr (.inr (q.imp (g.oo b) id))
  oo := fun b h => g.oo b (g'.oo b h)
theorem Go.bs (g : Go B σ F a H F' a' H') : Same (Hs B.sp H) (Hs B.sp H') := fun b o h => hs_of (g.hh b o (hs_some h).2 (hs_some h).1) (hs_some h).2
theorem Ok.here (ok : Ok B F a σ H) {p : Addr} (h : H p = none) : F p = none ∧ B.H0 p = none ∧ B.sp ≠ some p ∧ ¬ OwnAt a σ p := by
  have hs : B.sp ≠ some p := fun e => by
    obtain ⟨_, _, g, s, c, q, _⟩ := ok.fi.sr p e
    rw [h] at q
    cases q
  refine ⟨?_, ?_, hs, ?_⟩
  · cases e : F p with
    | none => rfl
    | some o => rw [ok.fi.fh p o e] at h; cases h
  · cases e : B.H0 p with
    | none => rfl
    | some o => rw [ok.fi.fm p o e hs] at h; cases h
  · rintro ⟨i, d, h1, h2⟩
    obtain ⟨q, ho, e, hq, _⟩ := ok.ow i d h1
    rw [e] at h2
    cases h2
    rw [h] at hq
    cases hq
/-- a new object that does not change any more -/
theorem Ok.new (ok : Ok B F a σ H) {p : Addr} {o : HO} (h : H p = none) : Go B σ F a H (upd F p o) a (upd H p o) := by
  obtain ⟨hF, h0, hs, ho⟩ := ok.here h
  have s1 : Same F (upd F p o) := Same.new hF
  have s2 : Same H (upd H p o) := Same.new h
  refine ⟨⟨⟨fun b u e => ?_, ok.fi.ff.trans s1, fun b e => ?_, fun b u e n => s2 _ _ (ok.fi.fm b u e n), fun q e => ?_⟩, ok.es, ok.len, fun i d e => ?_, fun i d e => ?_, ok.ds, ok.fx⟩, s1, fun b u _ e => s2 _ _ e, fun b e => ?_, fun _ h => h⟩
  · by_cases z : b = p
    · subst z
      rw [upd_same] at e ⊢
      exact e
    · rw [upd_ne z] at e ⊢
      exact ok.fi.fh _ _ e
  · by_cases z : b = p
    · exact .inr (.inl (z ▸ h0))
    · rw [upd_ne z] at e
      exact (ok.fi.fr b e).imp id fun q => q.imp id fun q => q.mono s1
  · obtain ⟨x1, x2, x3⟩ := ok.fi.sr q e
    have z : q ≠ p := fun z => hs (z ▸ e)
    exact ⟨by rw [upd_ne z]; exact x1, x2, x3.same s2⟩
  · obtain ⟨v, e1, e2⟩ := ok.va i d e
    exact ⟨v, e1, e2.mono s1⟩
  · obtain ⟨q, ho', e1, e2, e3, e4, e5⟩ := ok.ow i d e
    have z : q ≠ p := ne_of_none e2 h
    exact ⟨q, ho', e1, s2 _ _ e2, by rw [upd_ne z]; exact e3, e4, e5.mono s1⟩
  · by_cases z : b = p
    · exact .inr (.inl (z ▸ h))
    · rw [upd_ne z] at e
      exact .inl e
/-- a new object of one's own -/
theorem Ok.newO (ok : Ok B F a σ H) {p : Addr} {o : HO} (h : H p = none) : Go B σ F a H F a (upd H p o) := by
  obtain ⟨hF, h0, hs, ho⟩ := ok.here h
  have s2 : Same H (upd H p o) := Same.new h
  refine ⟨⟨⟨ok.fi.fh.trans s2, ok.fi.ff, ok.fi.fr, fun b u e n => s2 _ _ (ok.fi.fm b u e n), fun q e => ?_⟩, ok.es, ok.len, ok.va, fun i d e => ?_, ok.ds, ok.fx⟩, Same.refl F, fun b u _ e => s2 _ _ e, fun b e => .inl e, fun _ h => h⟩
  · obtain ⟨x1, x2, x3⟩ := ok.fi.sr q e
    exact ⟨x1, x2, x3.same s2⟩
  · obtain ⟨q, ho', e1, e2, e3, e4, e5⟩ := ok.ow i d e
    exact ⟨q, ho', e1, s2 _ _ e2, e3, e4, e5⟩
/-- what is F may grow by what stands there and is nobody's -/
theorem Ok.frz (ok : Ok B F a σ H) {p : Addr} {o : HO} (h : H p = some o) (hF : F p = none) (h0 : B.H0 p = none) (hs : B.sp ≠ some p) (no : ¬ OwnAt a σ p) : Ok B (upd F p o) a σ H := by
  have s1 : Same F (upd F p o) := Same.new hF
  refine ⟨⟨fun b u e => ?_, ok.fi.ff.trans s1, fun b e => ?_, ok.fi.fm, fun q e => ?_⟩, ok.es, ok.len, fun i d e => ?_, fun i d e => ?_, ok.ds, ok.fx⟩
  · by_cases z : b = p
    · subst z
      rw [upd_same] at e
      rw [h]
      exact e
    · rw [upd_ne z] at e
      exact ok.fi.fh _ _ e
  · by_cases z : b = p
    · exact .inr (.inl (z ▸ h0))
    · rw [upd_ne z] at e
      exact (ok.fi.fr b e).imp id fun q => q.imp id fun q => q.mono s1
  · obtain ⟨x1, x2, x3⟩ := ok.fi.sr q e
    have z : q ≠ p := fun z => hs (z ▸ e)
    exact ⟨by rw [upd_ne z]; exact x1, x2, x3⟩
  · obtain ⟨v, e1, e2⟩ := ok.va i d e
    exact ⟨v, e1, e2.mono s1⟩
  · obtain ⟨q, ho', e1, e2, e3, e4, e5⟩ := ok.ow i d e
    have z : q ≠ p := fun z => no ⟨i, d, e, by rw [← z]; exact e1⟩
    exact ⟨q, ho', e1, e2, by rw [upd_ne z]; exact e3, e4, e5.mono s1⟩
/-- a slot is forgotten, or said otherwise -/
theorem set_get {α : Type} {l : List α} {i j : Nat} {x y : α} (h : (l.set i x)[j]? = some y) : (j = i ∧ y = x ∧ i < l.length) ∨ (j ≠ i ∧ l[j]? = some y) := by
  by_cases z : j = i
  · subst z
    have hl : j < l.length := by
      have := (List.getElem?_eq_some_iff.mp h).1
      rw [List.length_set] at this
      exact this
    rw [List.getElem?_set_self hl] at h
    exact .inl ⟨rfl, (Option.some.inj h).symm, hl⟩
  · rw [List.getElem?_set_ne (Ne.symm z)] at h
    exact .inr ⟨z, h⟩
theorem set_fx {i : Nat} {o : Option V} (hi : i = 0 → B.self = none) (h : ∀ x, B.self = some x → σ[0]? = some (some (V.ref x))) : ∀ x, B.self = some x → (σ.set i o)[0]? = some (some (V.ref x)) := fun x e => by
  rw [List.getElem?_set_ne (fun z => by rw [hi z] at e; cases e)]
  exact h x e
theorem Ok.setV (ok : Ok B F a σ H) {i : Nat} {d : D} {v : V} (hi : i = 0 → B.self = none) (h : Dat K F d v) : Ok B F (a.put i (Sl.val d)) (σ.set i (some v)) H := by
  refine ⟨ok.fi, ok.es, by show (σ.set i _).length = (a.sl.set i _).length; rw [List.length_set, List.length_set, ok.len], fun j e q => ?_, fun j e q => ?_, fun j k p e f q1 q2 q3 q4 => ?_, set_fx hi ok.fx⟩
  · rcases set_get q with ⟨rfl, z, hl⟩ | ⟨n, q⟩
    · cases z
      exact ⟨v, List.getElem?_set_self (by rw [ok.len]; exact hl), h⟩
    · obtain ⟨u, e1, e2⟩ := ok.va j e q
      exact ⟨u, by rw [List.getElem?_set_ne (Ne.symm n)]; exact e1, e2⟩
  · rcases set_get q with ⟨rfl, z, hl⟩ | ⟨n, q⟩
    · cases z
    · obtain ⟨u, ho, e1, e2⟩ := ok.ow j e q
      exact ⟨u, ho, by rw [List.getElem?_set_ne (Ne.symm n)]; exact e1, e2⟩
  · rcases set_get q1 with ⟨rfl, z, hl⟩ | ⟨n1, q1⟩
    · cases z
    rcases set_get q2 with ⟨rfl, z, hl⟩ | ⟨n2, q2⟩
    · cases z
    rw [List.getElem?_set_ne (Ne.symm n1)] at q3
    rw [List.getElem?_set_ne (Ne.symm n2)] at q4
    exact ok.ds j k p e f q1 q2 q3 q4
theorem Ok.setO (ok : Ok B F a σ H) {i : Nat} {d : D} {p : Addr} {o : HO} (hi : i = 0 → B.self = none) (h : H p = some o) (hF : F p = none) (h0 : B.H0 p = none) (no : ¬ OwnAt a σ p) (r : Rep K F d o) : Ok B F (a.put i (Sl.own d)) (σ.set i (some (.ref p))) H := by
  refine ⟨ok.fi, ok.es, by show (σ.set i _).length = (a.sl.set i _).length; rw [List.length_set, List.length_set, ok.len], fun j e q => ?_, fun j e q => ?_, fun j k p' e f q1 q2 q3 q4 => ?_, set_fx hi ok.fx⟩
  · rcases set_get q with ⟨rfl, z, hl⟩ | ⟨n, q⟩
    · cases z
    · obtain ⟨u, e1, e2⟩ := ok.va j e q
      exact ⟨u, by rw [List.getElem?_set_ne (Ne.symm n)]; exact e1, e2⟩
  · rcases set_get q with ⟨rfl, z, hl⟩ | ⟨n, q⟩
    · cases z
      exact ⟨p, o, List.getElem?_set_self (by rw [ok.len]; exact hl), h, hF, h0, r⟩
    · obtain ⟨u, ho, e1, e2⟩ := ok.ow j e q
      exact ⟨u, ho, by rw [List.getElem?_set_ne (Ne.symm n)]; exact e1, e2⟩
  · rcases set_get q1 with ⟨rfl, z, hl⟩ | ⟨n1, q1'⟩
    · rcases set_get q2 with ⟨rfl, z2, hl2⟩ | ⟨n2, q2⟩
      · rfl
      · rw [List.getElem?_set_self (by rw [ok.len]; exact hl)] at q3
        cases q3
        rw [List.getElem?_set_ne (Ne.symm n2)] at q4
        exact absurd ⟨k, f, q2, q4⟩ no
    · rcases set_get q2 with ⟨w, z2, hl2⟩ | ⟨n2, q2'⟩
      · subst w
        rw [List.getElem?_set_self (by rw [ok.len]; exact hl2)] at q4
        cases q4
        rw [List.getElem?_set_ne (Ne.symm n1)] at q3
        exact absurd ⟨j, e, q1', q3⟩ no
      · rw [List.getElem?_set_ne (Ne.symm n1)] at q3
        rw [List.getElem?_set_ne (Ne.symm n2)] at q4
        exact ok.ds j k p' e f q1' q2' q3 q4
/-- what one's own slot holds is changed -/
theorem Ok.chg (ok : Ok B F a σ H) {i : Nat} {d e : D} {p : Addr} {o : HO} (hi : a.sl[i]? = some (Sl.own d)) (hp : σ[i]? = some (some (V.ref p))) (r : Rep K F e o) : Ok B F (a.put i (Sl.own e)) σ (upd H p o) := by
  obtain ⟨q, ho, e1, e2, e3, e4, e5⟩ := ok.ow i d hi
  rw [hp] at e1
  cases e1
  have hl : i < a.sl.length := (List.getElem?_eq_some_iff.mp hi).1
  have nF : ∀ b u, F b = some u → b ≠ p := fun b u h z => by rw [z, e3] at h; cases h
  refine ⟨⟨fun b u h => by rw [upd_ne (nF b u h)]; exact ok.fi.fh b u h, ok.fi.ff, ok.fi.fr, fun b u h n => ?_, fun b h => ?_⟩, ok.es, by show σ.length = (a.sl.set i _).length; rw [List.length_set, ok.len], fun j f q => ?_, fun j f q => ?_, fun j k p' f g q1 q2 q3 q4 => ?_, ok.fx⟩
  · rw [upd_ne (fun z => by rw [z, e4] at h; cases h)]
    exact ok.fi.fm b u h n
  · obtain ⟨x1, x2, x3⟩ := ok.fi.sr b h
    have z : b ≠ p := fun z => x2 (z ▸ e4)
    exact ⟨x1, x2, x3.but ((But.refl p H).upd) z⟩
  · rcases set_get q with ⟨rfl, z, hl⟩ | ⟨n, q⟩
    · cases z
    · exact ok.va j f q
  · rcases set_get q with ⟨rfl, z, hl⟩ | ⟨n, q⟩
    · cases z
      exact ⟨p, o, hp, upd_same, e3, e4, r⟩
    · obtain ⟨u, ho', f1, f2, f3, f4, f5⟩ := ok.ow j f q
      have z : u ≠ p := fun z => n (ok.ds j i p f d q hi (z ▸ f1) hp)
      exact ⟨u, ho', f1, by rw [upd_ne z]; exact f2, f3, f4, f5⟩
  · have o1 : ∃ f, a.sl[j]? = some (Sl.own f) := by
      rcases set_get q1 with ⟨rfl, z, _⟩ | ⟨_, q⟩
      · exact ⟨_, hi⟩
      · exact ⟨_, q⟩
    have o2 : ∃ f, a.sl[k]? = some (Sl.own f) := by
      rcases set_get q2 with ⟨rfl, z, _⟩ | ⟨_, q⟩
      · exact ⟨_, hi⟩
      · exact ⟨_, q⟩
    obtain ⟨f1, o1⟩ := o1
    obtain ⟨f2, o2⟩ := o2
    exact ok.ds j k p' f1 f2 o1 o2 q3 q4
/-- one's own becomes what does not change any more -/
theorem Ok.own (ok : Ok B F a σ H) {i : Nat} {d : D} (hi : a.sl[i]? = some (Sl.own d)) : ∃ p o, σ[i]? = some (some (V.ref p)) ∧ H p = some o ∧ Rep K F d o ∧ Go B σ F a H (upd F p o) (a.put i (Sl.val d)) H := by
  obtain ⟨p, o, e1, e2, e3, e4, e5⟩ := ok.ow i d hi
  have hl : i < a.sl.length := (List.getElem?_eq_some_iff.mp hi).1
  have s1 : Same F (upd F p o) := Same.new e3
  have hs : B.sp ≠ some p := fun z => (ok.fi.sr p z).2.1 e4
  have nO : ¬ OwnAt (a.put i (Sl.val d)) σ p := by
    rintro ⟨j, f, q1, q2⟩
    rcases set_get q1 with ⟨rfl, z, _⟩ | ⟨n, q1⟩
    · cases z
    · exact n (ok.ds j i p f d q1 hi q2 e1)
  have w : ∀ b, OwnAt (a.put i (Sl.val d)) σ b → OwnAt a σ b := by
    rintro b ⟨j, f, q1, q2⟩
    rcases set_get q1 with ⟨rfl, z, _⟩ | ⟨n, q1⟩
    · cases z
    · exact ⟨j, f, q1, q2⟩
  refine ⟨p, o, e1, e2, e5, ⟨⟨fun b u e => ?_, ok.fi.ff.trans s1, fun b e => ?_, ok.fi.fm, fun q e => ?_⟩, ok.es, by show σ.length = (a.sl.set i _).length; rw [List.length_set, ok.len], fun j f q => ?_, fun j f q => ?_, fun j k p' f g q1 q2 q3 q4 => ?_, ok.fx⟩, s1, fun b u _ e => e, fun b e => ?_, w⟩
  · by_cases z : b = p
    · subst z
      rw [upd_same] at e
      rw [e2]
      exact e
    · rw [upd_ne z] at e
      exact ok.fi.fh _ _ e
  · by_cases z : b = p
    · exact .inr (.inl (z ▸ e4))
    · rw [upd_ne z] at e
      exact (ok.fi.fr b e).imp id fun q => q.imp id fun q => q.mono s1
  · obtain ⟨x1, x2, x3⟩ := ok.fi.sr q e
    have z : q ≠ p := fun z => hs (z ▸ e)
    exact ⟨by rw [upd_ne z]; exact x1, x2, x3⟩
  · rcases set_get q with ⟨rfl, z, _⟩ | ⟨n, q⟩
    · cases z
      exact ⟨_, e1, (e5.mono s1).dat upd_same⟩
    · obtain ⟨u, f1, f2⟩ := ok.va j f q
      exact ⟨u, f1, f2.mono s1⟩
  · rcases set_get q with ⟨rfl, z, _⟩ | ⟨n, q⟩
    · cases z
    · obtain ⟨u, ho', f1, f2, f3, f4, f5⟩ := ok.ow j f q
      have z : u ≠ p := fun z => n (ok.ds j i p f d q hi (z ▸ f1) e1)
      exact ⟨u, ho', f1, f2, by rw [upd_ne z]; exact f3, f4, f5.mono s1⟩
  · rcases set_get q1 with ⟨rfl, z, _⟩ | ⟨n1, q1⟩
    · cases z
    rcases set_get q2 with ⟨rfl, z, _⟩ | ⟨n2, q2⟩
    · cases z
    exact ok.ds j k p' f g q1 q2 q3 q4
  · by_cases z : b = p
    · exact .inr (.inr (.inl ⟨i, d, hi, by rw [z]; exact e1⟩))
    · rw [upd_ne z] at e
      exact .inl e
end
/-! ### readings over data -/
abbrev DEt := AS → (D → AS → Prop) → Prop
abbrev DTt := AS → (Bool → AS → Prop) → Prop
abbrev DAt := AS → (List D → AS → Prop) → Prop
/-- borrowed: what H tells; LE: what stays; LO: a new object of one's own -/
def LB (K : PySem.W.Frag) (ω : Wp) (te : TE) (de : DEt) : Prop := ∀ (B : Bs K), WOk B ω → ∀ (F : Hp) (a : AS) (σ : St) (H : Hp) (Q : VK) (R : D → AS → Prop), Ok B F a σ H → de a R →
  (∀ v d F' a' H', Go B σ F a H F' a' H' → Dat K (Hs B.sp H') d v → R d a' → Q v H') → te σ H Q
def LE (K : PySem.W.Frag) (ω : Wp) (te : TE) (de : DEt) : Prop := ∀ (B : Bs K), WOk B ω → ∀ (F : Hp) (a : AS) (σ : St) (H : Hp) (Q : VK) (R : D → AS → Prop), Ok B F a σ H → de a R →
  (∀ v d F' a' H', Go B σ F a H F' a' H' → Dat K F' d v → R d a' → Q v H') → te σ H Q
def LO (K : PySem.W.Frag) (ω : Wp) (te : TE) (de : DEt) : Prop := ∀ (B : Bs K), WOk B ω → ∀ (F : Hp) (a : AS) (σ : St) (H : Hp) (Q : VK) (R : D → AS → Prop), Ok B F a σ H → de a R →
  (∀ p o d F' a' H', Go B σ F a H F' a' H' → H p = none → F' p = none → H' p = some o → Rep K F' d o → R d a' → Q (.ref p) H') → te σ H Q
def LC (K : PySem.W.Frag) (ω : Wp) (t : TT) (dt : DTt) : Prop := ∀ (B : Bs K), WOk B ω → ∀ (F : Hp) (a : AS) (σ : St) (H : Hp) (Q : Bool → Hp → Prop) (R : Bool → AS → Prop), Ok B F a σ H → dt a R →
  (∀ b F' a' H', Go B σ F a H F' a' H' → R b a' → Q b H') → t σ H Q
def LAE (K : PySem.W.Frag) (ω : Wp) (t : TA) (da : DAt) : Prop := ∀ (B : Bs K), WOk B ω → ∀ (F : Hp) (a : AS) (σ : St) (H : Hp) (Q : List V → Hp → Prop) (R : List D → AS → Prop), Ok B F a σ H → da a R →
  (∀ vs ds F' a' H', Go B σ F a H F' a' H' → DatL K F' ds vs → R ds a' → Q vs H') → t σ H Q
def LAB (K : PySem.W.Frag) (ω : Wp) (t : TA) (da : DAt) : Prop := ∀ (B : Bs K), WOk B ω → ∀ (F : Hp) (a : AS) (σ : St) (H : Hp) (Q : List V → Hp → Prop) (R : List D → AS → Prop), Ok B F a σ H → da a R →
  (∀ vs ds F' a' H', Go B σ F a H F' a' H' → DatL K (Hs B.sp H') ds vs → R ds a' → Q vs H') → t σ H Q
def DB {ι : Type} (X : ι → Cx) (K : PySem.W.Frag) (ω : Wp) (e : Expr) (de : DEt) : Prop := ∃ te, (∀ j, PE (X j) e te) ∧ LB K ω te de
def DX {ι : Type} (X : ι → Cx) (K : PySem.W.Frag) (ω : Wp) (e : Expr) (de : DEt) : Prop := ∃ te, (∀ j, PE (X j) e te) ∧ LE K ω te de
def DO {ι : Type} (X : ι → Cx) (K : PySem.W.Frag) (ω : Wp) (e : Expr) (de : DEt) : Prop := ∃ te, (∀ j, PE (X j) e te) ∧ LO K ω te de
def DT {ι : Type} (X : ι → Cx) (K : PySem.W.Frag) (ω : Wp) (e : Expr) (dt : DTt) : Prop := ∃ t, (∀ j, PT (X j) e t) ∧ LC K ω t dt
def DW {ι : Type} (X : ι → Cx) (K : PySem.W.Frag) (ω : Wp) (e : Expr) (dt : DTt) : Prop := ∃ t, (∀ j, PW (X j) e t) ∧ LC K ω t dt
def DAE {ι : Type} (X : ι → Cx) (K : PySem.W.Frag) (ω : Wp) (es : List Expr) (da : DAt) : Prop := ∃ t, (∀ j, PA (X j) es t) ∧ LAE K ω t da
def DAB {ι : Type} (X : ι → Cx) (K : PySem.W.Frag) (ω : Wp) (es : List Expr) (da : DAt) : Prop := ∃ t, (∀ j, PA (X j) es t) ∧ LAB K ω t da
section
variable {K : PySem.W.Frag} {ω : Wp} {B : Bs K} {F F' F1 F2 : Hp} {a a' a1 a2 : AS} {σ : St} {H H' H1 H2 : Hp} {n : Int} {te : TE} {de : DEt}
theorem Go.fs (g : Go B σ F a H F' a' H') : Same F' (Hs B.sp H') := g.ok.fi.fs
theorem LE.b (h : LE K ω te de) : LB K ω te de := fun B hω F a σ H Q R ok hd k => h B hω F a σ H Q R ok hd fun v d F' a' H' g q r => k v d F' a' H' g (q.mono g.fs) r
theorem LO.e (h : LO K ω te de) : LE K ω te de := fun B hω F a σ H Q R ok hd k => h B hω F a σ H Q R ok hd fun p o d F' a' H' g n1 n2 e q r => by
  obtain ⟨hF, h0, hs, no⟩ := ok.here n1
  have s1 : Same F' (upd F' p o) := Same.new n2
  refine k _ d (upd F' p o) a' H' ⟨g.ok.frz e n2 h0 hs fun z => no (g.oo p z), g.ff.trans s1, g.hh, fun b z => ?_, g.oo⟩ ((q.mono s1).dat upd_same) r
  by_cases w : b = p
  · exact .inr (.inl (w ▸ n1))
  · rw [upd_ne w] at z
    exact (g.fr b z).imp id fun q => q.imp id fun q => q.imp id fun q => q.mono s1
def isV : D → Bool
  | .v _ => true
  | _ => false
/-- a flat value is never borrowed -/
def dFlat (de : DEt) : DEt := fun a R => de a fun d a' => isV d = true ∧ R d a'
theorem LB.flat (h : LB K ω te de) : LE K ω te (dFlat de) := fun B hω F a σ H Q R ok hd k => h B hω F a σ H Q _ ok hd fun v d F' a' H' g q r => by
  obtain ⟨hv, r⟩ := r
  refine k v d F' a' H' g ?_ r
  cases d with
  | v x => exact q
  | _ => cases hv
variable {ι : Type} {X : ι → Cx} {e e1 e2 : Expr} {es : List Expr} {da db dc : DEt} {pos : Pos}
theorem DX.b (h : DX X K ω e de) : DB X K ω e de := let ⟨t, p, l⟩ := h; ⟨t, p, l.b⟩
theorem DO.x (h : DO X K ω e de) : DX X K ω e de := let ⟨t, p, l⟩ := h; ⟨t, p, l.e⟩
theorem DB.f (h : DB X K ω e de) : DX X K ω e (dFlat de) := let ⟨t, p, l⟩ := h; ⟨t, p, l.flat⟩
/-! names -/
def AS.at (a : AS) (i : Nat) : Sl := a.sl.getD i .emp
theorem at_of' {a : AS} {i : Nat} {s : Sl} (h : a.at i = s) (n : s ≠ .emp) : a.sl[i]? = some s := by
  unfold AS.at at h
  rw [List.getD_eq_getElem?_getD] at h
  cases q : a.sl[i]? with
  | none => rw [q] at h; exact absurd h.symm n
  | some z => rw [q] at h; rw [← h]; rfl
def dVarB (i : Nat) : DEt := fun a R => match a.at i with
  | .val d => R d a
  | .own d => R d a
  | .emp => False
/-- a name's value from now on stays -/
def dVar (i : Nat) : DEt := fun a R => match a.at i with
  | .val d => R d a
  | .own d => R d (a.put i (.val d))
  | .emp => False
theorem lb_var {i : Nat} : LB K ω (tVar i) (dVarB i) := fun B hω F a σ H Q R ok hd k => by
  unfold dVarB at hd
  cases e : a.at i with
  | emp => rw [e] at hd; exact hd.elim
  | val d =>
    rw [e] at hd
    obtain ⟨v, h1, h2⟩ := ok.va i d (at_of' e (fun z => nomatch z))
    exact ⟨v, h1, k v d F a H (.refl ok) (h2.mono ok.fi.fs) hd⟩
  | own d =>
    rw [e] at hd
    obtain ⟨p, o, h1, h2, h3, h4, h5⟩ := ok.ow i d (at_of' e (fun z => nomatch z))
    refine ⟨_, h1, k _ d F a H (.refl ok) ((h5.mono ok.fi.fs).dat (hs_of h2 fun z => ?_)) hd⟩
    exact (ok.fi.sr p z).2.1 h4
theorem le_var {i : Nat} : LE K ω (tVar i) (dVar i) := fun B hω F a σ H Q R ok hd k => by
  unfold dVar at hd
  cases e : a.at i with
  | emp => rw [e] at hd; exact hd.elim
  | val d =>
    rw [e] at hd
    obtain ⟨v, h1, h2⟩ := ok.va i d (at_of' e (fun z => nomatch z))
    exact ⟨v, h1, k v d F a H (.refl ok) h2 hd⟩
  | own d =>
    rw [e] at hd
    obtain ⟨p, o, h1, h2, h3, g⟩ := ok.own (at_of' e (fun z => nomatch z))
    exact ⟨_, h1, k _ d _ _ H g ((h3.mono g.ff).dat upd_same) hd⟩
theorem dbv (i : Nat) {x : Str} {pos : Pos} (hN : ∀ j, (X j).N[i]? = some x := by intro _; rfl) (hv : ∀ j, Vis (X j).env.scope x := by first | exact fun _ => Or.inl rfl | exact fun _ => Or.inr (Or.inl rfl) | exact fun _ => Or.inr (Or.inr rfl)) (hd : (x == ("__debug__" : Str)) = false := by decide)
    (hcd : (x == ("__classdict__" : Str)) = false := by decide) : DB X K ω (.Name x pos) (dVarB i) := ⟨_, fun j => pe_var (hN j) (hv j) hd hcd, lb_var⟩
theorem dv (i : Nat) {x : Str} {pos : Pos} (hN : ∀ j, (X j).N[i]? = some x := by intro _; rfl) (hv : ∀ j, Vis (X j).env.scope x := by first | exact fun _ => Or.inl rfl | exact fun _ => Or.inr (Or.inl rfl) | exact fun _ => Or.inr (Or.inr rfl)) (hd : (x == ("__debug__" : Str)) = false := by decide)
    (hcd : (x == ("__classdict__" : Str)) = false := by decide) : DX X K ω (.Name x pos) (dVar i) := ⟨_, fun j => pe_var (hN j) (hv j) hd hcd, le_var⟩
/-! constants -/
def dC (x : V) : DEt := fun a R => R (.v x) a
theorem le_c {x : V} : LE K ω (tC x) (dC x) := fun B hω F a σ H Q R ok hd k => k x (.v x) F a H (.refl ok) rfl hd
theorem de_int {i j pos} : DX X K ω (.Constant (.int i) j pos) (dC (.int i)) := ⟨_, fun _ => pe_int, le_c⟩
theorem de_bl {b j pos} : DX X K ω (.Constant (.bool b) j pos) (dC (.bl b)) := ⟨_, fun _ => pe_bl, le_c⟩
theorem de_non {j pos} : DX X K ω (.Constant .none j pos) (dC .non) := ⟨_, fun _ => pe_non, le_c⟩
theorem de_str {x j pos} : DX X K ω (.Constant (.str x) j pos) (dC (.str x)) := ⟨_, fun _ => pe_str, le_c⟩
theorem de_glob {x : Str} {v : V} {u : Value} {pos : Pos} (hg : ∀ j, Gl (X j) x) (hm : ∀ j, (X j).mg x = some u) (r : RelV v u) (hd : (x == ("__debug__" : Str)) = false := by decide) : DX X K ω (.Name x pos) (dC v) := ⟨_, fun j => pe_glob (hg j) (hm j) r hd, le_c⟩
theorem de_bltn {x : Str} {v : V} {u : Value} {pos : Pos} (hg : ∀ j, Gl (X j) x) (hm : ∀ j, (X j).mg x = none) (hv : bootBuiltins x = some u) (r : RelV v u) (hn : x ≠ "__name__" := by decide) (hd : (x == ("__debug__" : Str)) = false := by decide) : DX X K ω (.Name x pos) (dC v) := ⟨_, fun j => pe_bltn (hg j) (hm j) hv r hn hd, le_c⟩
/-- a module's name that stands for data which never changes -/
theorem de_globT {x : Str} {c : Addr} {d : D} {pos : Pos} (hg : ∀ j, Gl (X j) x) (hm : ∀ j, (X j).mg x = some (.ref c)) (h : ∀ H, Dat K H d (.ref c)) (hd : (x == ("__debug__" : Str)) = false := by decide) : DX X K ω (.Name x pos) (fun a R => R d a) :=
  ⟨_, fun j => pe_glob (v := .ref c) (hg j) (hm j) rfl hd, fun B hω F a σ H Q R ok hd k => k _ d F a H (.refl ok) (h F) hd⟩
/-! operators -/
abbrev DR := D → D → (D → Prop) → Prop
def dOp (dr : DR) (da db : DEt) : DEt := fun a R => da a fun x a1 => db a1 fun y a2 => dr x y fun d => R d a2
/-- what comes out stays (it is flat, or part of what went in) -/
def LR (K : PySem.W.Frag) (ω : Wp) (r : R2) (dr : DR) : Prop := ∀ (B : Bs K), WOk B ω → ∀ (F : Hp) (a : AS) (σ : St) (H : Hp) (x y : V) (d e : D) (Q : VK) (R : D → Prop), Ok B F a σ H → Dat K (Hs B.sp H) d x → Dat K (Hs B.sp H) e y → dr d e R →
  (∀ v f F' H', Go B σ F a H F' a H' → Dat K F' f v → R f → Q v H') → r x y H Q
theorem lr_flat {r : R2} {dr : DR} (h : ∀ d e R, dr d e R → ∃ x y w, d = .v x ∧ e = .v y ∧ R (.v w) ∧ ∀ H Q, Q w H → r x y H Q) : LR K ω r dr := fun B hω F a σ H x y d e Q R ok hx hy hd k => by
  obtain ⟨x', y', w, rfl, rfl, hR, q⟩ := h d e R hd
  rw [show x = x' from hx, show y = y' from hy]
  exact q H Q (k w (.v w) F H (.refl ok) rfl hR)
def dI (C : Int → Int → Prop) (g : Int → Int → V) : DR := fun d e R => match d, e with
  | .v (.int i), .v (.int j) => C i j ∧ R (.v (g i j))
  | _, _ => False
def dI0 (g : Int → Int → V) : DR := fun d e R => match d, e with
  | .v (.int i), .v (.int j) => R (.v (g i j))
  | _, _ => False
theorem lr_I {C : Int → Int → Prop} {g : Int → Int → V} : LR K ω (rI C g) (dI C g) := lr_flat fun d e R h => by
  unfold dI at h
  split at h
  · rename_i i j
    exact ⟨_, _, _, rfl, rfl, h.2, fun H Q q => ⟨i, j, rfl, rfl, h.1, q⟩⟩
  · exact h.elim
theorem lr_I0 {g : Int → Int → V} : LR K ω (rI0 g) (dI0 g) := lr_flat fun d e R h => by
  unfold dI0 at h
  split at h
  · rename_i i j
    exact ⟨_, _, _, rfl, rfl, h, fun H Q q => ⟨i, j, rfl, rfl, q⟩⟩
  · exact h.elim
def DOpR {ι : Type} (X : ι → Cx) (K : PySem.W.Frag) (ω : Wp) (f : Value → Value → Sem Value) (dr : DR) : Prop := ∃ r, (∀ j, OpR (X j) f r) ∧ LR K ω r dr
theorem dop_add : DOpR X K ω (binaryOp .Add) (dI0 fun i j => .int (i + j)) := ⟨_, fun _ => op_add, lr_I0⟩
theorem dop_sub : DOpR X K ω (binaryOp .Sub) (dI0 fun i j => .int (i - j)) := ⟨_, fun _ => op_sub, lr_I0⟩
theorem dop_mul : DOpR X K ω (binaryOp .Mult) (dI CMul fun i j => .int (i * j)) := ⟨_, fun _ => op_mul, lr_I⟩
theorem dop_mulW : DOpR X K ω (binaryOp .Mult) (dI CMulW fun i j => .int (i * j)) := ⟨_, fun _ => op_mulW, lr_I⟩
theorem dop_fdivW : DOpR X K ω (binaryOp .FloorDiv) (dI CDivW fun i j => .int (i / j)) := ⟨_, fun _ => op_fdivW, lr_I⟩
theorem dop_mod : DOpR X K ω (binaryOp .Mod) (dI (fun _ j => 0 < j) fun i j => .int (i % j)) := ⟨_, fun _ => op_mod, lr_I⟩
theorem dop_pow : DOpR X K ω (binaryOp .Pow) (dI CPow fun i j => .int (i ^ j.toNat)) := ⟨_, fun _ => op_pow, lr_I⟩
theorem dop_lt : DOpR X K ω (compareOp .Lt) (dI0 fun i j => .bl (decide (i < j))) := ⟨_, fun _ => op_lt, lr_I0⟩
theorem dop_le : DOpR X K ω (compareOp .LtE) (dI0 fun i j => .bl (decide (i ≤ j))) := ⟨_, fun _ => op_le, lr_I0⟩
theorem dop_gt : DOpR X K ω (compareOp .Gt) (dI0 fun i j => .bl (decide (j < i))) := ⟨_, fun _ => op_gt, lr_I0⟩
theorem dop_ge : DOpR X K ω (compareOp .GtE) (dI0 fun i j => .bl (decide (j ≤ i))) := ⟨_, fun _ => op_ge, lr_I0⟩
def dAddS : DR := fun d e R => match d, e with
  | .v (.str i), .v (.str j) => i.length + j.length ≤ sizeLine ∧ R (.v (.str (i ++ j)))
  | _, _ => False
theorem dop_addS : DOpR X K ω (binaryOp .Add) dAddS := ⟨_, fun _ => op_add_str, lr_flat fun d e R h => by
  unfold dAddS at h
  split at h
  · rename_i i j
    exact ⟨_, _, _, rfl, rfl, h.2, fun H Q q => ⟨i, j, rfl, rfl, h.1, q⟩⟩
  · exact h.elim⟩
theorem de_op {op : Operator} {dr : DR} (ho : DOpR X K ω (binaryOp op) dr) (ha : DB X K ω e1 da) (hb : DB X K ω e2 db) : DX X K ω (.BinOp e1 op e2 pos) (dOp dr da db) := by
  obtain ⟨r, h1, l1⟩ := ho
  obtain ⟨ta, h2, l2⟩ := ha
  obtain ⟨tb, h3, l3⟩ := hb
  refine ⟨_, fun j => pe_op (h1 j) (h2 j) (h3 j), fun B hω F a σ H Q R ok hd k => ?_⟩
  refine l2 B hω F a σ H _ _ ok hd fun x d F1 a1 H1 g1 q1 hd1 => ?_
  refine l3 B hω F1 a1 σ H1 _ _ g1.ok hd1 fun y e F2 a2 H2 g2 q2 hd2 => ?_
  refine l1 B hω F2 a2 σ H2 x y d e Q _ g2.ok (q1.mono g2.bs) q2 hd2 fun v f F3 H3 g3 q3 hR => ?_
  exact k v f F3 a2 H3 (.trans ok g1 (.trans g1.ok g2 g3)) q3 hR
theorem de_cmp {op : CmpOp} {dr : DR} (ho : DOpR X K ω (compareOp op) dr) (ha : DB X K ω e1 da) (hb : DB X K ω e2 db) (hm : behindInMarks op e2 = false) : DX X K ω (.Compare e1 [op] [e2] pos) (dOp dr da db) := by
  obtain ⟨r, h1, l1⟩ := ho
  obtain ⟨ta, h2, l2⟩ := ha
  obtain ⟨tb, h3, l3⟩ := hb
  refine ⟨_, fun j => pe_cmpR (h1 j) (h2 j) (h3 j) hm, fun B hω F a σ H Q R ok hd k => ?_⟩
  refine l2 B hω F a σ H _ _ ok hd fun x d F1 a1 H1 g1 q1 hd1 => ?_
  refine l3 B hω F1 a1 σ H1 _ _ g1.ok hd1 fun y e F2 a2 H2 g2 q2 hd2 => ?_
  refine l1 B hω F2 a2 σ H2 x y d e Q _ g2.ok (q1.mono g2.bs) q2 hd2 fun v f F3 H3 g3 q3 hR => ?_
  exact k v f F3 a2 H3 (.trans ok g1 (.trans g1.ok g2 g3)) q3 hR
/-- a value that is True or False -/
def asB (d : D) (R : Bool → Prop) : Prop := match d with
  | .v (.bl b) => R b
  | _ => False
theorem asB_of {d : D} {R : Bool → Prop} (h : asB d R) : ∃ b, d = .v (.bl b) ∧ R b := by
  unfold asB at h
  split at h
  · rename_i b
    exact ⟨b, rfl, h⟩
  · exact h.elim
def dTest (de : DEt) : DTt := fun a R => de a fun d a' => asB d fun b => R b a'
theorem dt_val {e : Expr} (h : DX X K ω e de) (he : ∀ j whole, isTrue e (X j).env whole = (do let v ← whole; standAt e.pos; holding [v] (truthy v)) := by intro _ _; rfl) : DT X K ω e (dTest de) := by
  obtain ⟨t, p, l⟩ := h
  refine ⟨_, fun j => pt_val (p j) (he j), fun B hω F a σ H Q R ok hd k => l B hω F a σ H _ _ ok hd fun v d F' a' H' g q hR => ?_⟩
  obtain ⟨b, rfl, hR⟩ := asB_of hR
  exact ⟨b, q, k b F' a' H' g hR⟩
theorem dt_cmp {op : CmpOp} {dr : DR} (ho : DOpR X K ω (compareOp op) dr) (ha : DB X K ω e1 da) (hb : DB X K ω e2 db) (hm : behindInMarks op e2 = false) : DT X K ω (.Compare e1 [op] [e2] pos) (dTest (dOp dr da db)) := by
  obtain ⟨r, h1, l1⟩ := ho
  obtain ⟨ta, h2, l2⟩ := ha
  obtain ⟨tb, h3, l3⟩ := hb
  refine ⟨_, fun j => pt_cmpR (h1 j) (h2 j) (h3 j) hm, fun B hω F a σ H Q R ok hd k => ?_⟩
  refine l2 B hω F a σ H _ _ ok hd fun x d F1 a1 H1 g1 q1 hd1 => ?_
  refine l3 B hω F1 a1 σ H1 _ _ g1.ok hd1 fun y e F2 a2 H2 g2 q2 hd2 => ?_
  refine l1 B hω F2 a2 σ H2 x y d e _ _ g2.ok (q1.mono g2.bs) q2 hd2 fun v f F3 H3 g3 q3 hR => ?_
  obtain ⟨b, rfl, hR⟩ := asB_of hR
  exact ⟨b, q3, k b F3 a2 H3 (.trans ok g1 (.trans g1.ok g2 g3)) hR⟩
def dUn (dr : D → (D → Prop) → Prop) (da : DEt) : DEt := fun a R => da a fun x a1 => dr x fun d => R d a1
def dNeg : D → (D → Prop) → Prop := fun d R => match d with
  | .v (.int i) => R (.v (.int (-i)))
  | _ => False
theorem de_neg (ha : DB X K ω e da) : DX X K ω (.UnaryOp .USub e pos) (dUn dNeg da) := by
  obtain ⟨t, p, l⟩ := ha
  refine ⟨_, fun j => pe_un un_neg (p j), fun B hω F a σ H Q R ok hd k => l B hω F a σ H _ _ ok hd fun v d F' a' H' g q hR => ?_⟩
  unfold dNeg at hR
  split at hR
  · rename_i i
    exact ⟨i, q, k _ (.v _) F' a' H' g rfl hR⟩
  · exact hR.elim
def dNotV (da : DEt) : DEt := fun a R => da a fun x a1 => asB x fun b => R (.v (.bl (!b))) a1
theorem de_not (ha : DX X K ω e da) : DX X K ω (.UnaryOp .Not e pos) (dNotV da) := by
  obtain ⟨t, p, l⟩ := ha
  refine ⟨_, fun j => pe_not (p j), fun B hω F a σ H Q R ok hd k => l B hω F a σ H _ _ ok hd fun v d F' a' H' g q hR => ?_⟩
  obtain ⟨b, rfl, hR⟩ := asB_of hR
  exact ⟨b, q, k _ (.v _) F' a' H' g rfl hR⟩
/-! and, or -/
def bIf (b : Bool) (A C : Prop) : Prop := match b with
  | true => A
  | false => C
theorem bIf_ite {b : Bool} {A C : Prop} (h : bIf b A C) : if b = true then A else C := by
  cases b with
  | true => exact iteT h
  | false => exact iteF h
theorem bIf.imp {b : Bool} {A C A' C' : Prop} (h : bIf b A C) (f : A → A') (g : C → C') : if b = true then A' else C' := by
  cases b with
  | true => exact iteT (f h)
  | false => exact iteF (g h)
def dAnd (t u : DTt) : DTt := fun a R => t a fun b a1 => bIf b (u a1 R) (R false a1)
def dOr (t u : DTt) : DTt := fun a R => t a fun b a1 => bIf b (R true a1) (u a1 R)
def dNot (t : DTt) : DTt := fun a R => t a fun b a1 => R (!b) a1
variable {dt du : DTt} {t u : TT}
theorem lt_and (l1 : LC K ω t dt) (l2 : LC K ω u du) : LC K ω (tAnd t u) (dAnd dt du) := fun B hω F a σ H Q R ok hd k => l1 B hω F a σ H _ _ ok hd fun b F1 a1 H1 g1 hR => hR.imp
  (fun hR => l2 B hω F1 a1 σ H1 _ _ g1.ok hR fun c F2 a2 H2 g2 hR => k c F2 a2 H2 (.trans ok g1 g2) hR) fun hR => k false F1 a1 H1 g1 hR
theorem lt_or (l1 : LC K ω t dt) (l2 : LC K ω u du) : LC K ω (tOr t u) (dOr dt du) := fun B hω F a σ H Q R ok hd k => l1 B hω F a σ H _ _ ok hd fun b F1 a1 H1 g1 hR => hR.imp
  (fun hR => k true F1 a1 H1 g1 hR) fun hR => l2 B hω F1 a1 σ H1 _ _ g1.ok hR fun c F2 a2 H2 g2 hR => k c F2 a2 H2 (.trans ok g1 g2) hR
theorem lt_not (l1 : LC K ω t dt) : LC K ω (tNot t) (dNot dt) := fun B hω F a σ H Q R ok hd k => l1 B hω F a σ H _ _ ok hd fun b F1 a1 H1 g1 hR => k _ F1 a1 H1 g1 hR
theorem dw_and1 {pos : Pos} (h : DT X K ω e1 dt) : DW X K ω (.BoolOp .And [e1] pos) dt := let ⟨t, p, l⟩ := h; ⟨t, fun j => pw_and1 (p j), l⟩
theorem dw_or1 {pos : Pos} (h : DT X K ω e1 dt) : DW X K ω (.BoolOp .Or [e1] pos) dt := let ⟨t, p, l⟩ := h; ⟨t, fun j => pw_or1 (p j), l⟩
theorem dw_and {pos : Pos} (h1 : DT X K ω e1 dt) (h2 : DW X K ω (.BoolOp .And (e2 :: es) pos) du) : DW X K ω (.BoolOp .And (e1 :: e2 :: es) pos) (dAnd dt du) := let ⟨_, p, l⟩ := h1; let ⟨_, p', l'⟩ := h2; ⟨_, fun j => pw_and (p j) (p' j), lt_and l l'⟩
theorem dw_or {pos : Pos} (h1 : DT X K ω e1 dt) (h2 : DW X K ω (.BoolOp .Or (e2 :: es) pos) du) : DW X K ω (.BoolOp .Or (e1 :: e2 :: es) pos) (dOr dt du) := let ⟨_, p, l⟩ := h1; let ⟨_, p', l'⟩ := h2; ⟨_, fun j => pw_or (p j) (p' j), lt_or l l'⟩
theorem DW.pt (h : DW X K ω e dt) : DT X K ω e dt := let ⟨t, p, l⟩ := h; ⟨t, fun j => (p j).pt, l⟩
theorem dt_not {pos : Pos} (h : DT X K ω e dt) : DT X K ω (.UnaryOp .Not e pos) (dNot dt) := let ⟨_, p, l⟩ := h; ⟨_, fun j => pt_not (p j), lt_not l⟩
def dAndV (da db : DEt) : DEt := fun a R => da a fun x a1 => asB x fun b => bIf b (db a1 R) (R (.v (.bl false)) a1)
def dOrV (da db : DEt) : DEt := fun a R => da a fun x a1 => asB x fun b => bIf b (R (.v (.bl true)) a1) (db a1 R)
theorem de_one {op} {pos : Pos} (h : DX X K ω e de) : DX X K ω (.BoolOp op [e] pos) de := let ⟨t, p, l⟩ := h; ⟨t, fun j => pe_one (p j), l⟩
theorem de_and {pos : Pos} (h1 : DX X K ω e1 da) (h2 : DX X K ω (.BoolOp .And (e2 :: es) pos) db) : DX X K ω (.BoolOp .And (e1 :: e2 :: es) pos) (dAndV da db) := by
  obtain ⟨_, p, l⟩ := h1
  obtain ⟨_, p', l'⟩ := h2
  refine ⟨_, fun j => pe_and (p j) (p' j), fun B hω F a σ H Q R ok hd k => l B hω F a σ H _ _ ok hd fun v d F' a' H' g q hR => ?_⟩
  obtain ⟨b, rfl, hR⟩ := asB_of hR
  exact ⟨b, q, hR.imp (fun hR => l' B hω F' a' σ H' _ _ g.ok hR fun v d F2 a2 H2 g2 q2 hR => k v d F2 a2 H2 (.trans ok g g2) q2 hR) fun hR => k _ (.v _) F' a' H' g rfl hR⟩
theorem de_or {pos : Pos} (h1 : DX X K ω e1 da) (h2 : DX X K ω (.BoolOp .Or (e2 :: es) pos) db) : DX X K ω (.BoolOp .Or (e1 :: e2 :: es) pos) (dOrV da db) := by
  obtain ⟨_, p, l⟩ := h1
  obtain ⟨_, p', l'⟩ := h2
  refine ⟨_, fun j => pe_or (p j) (p' j), fun B hω F a σ H Q R ok hd k => l B hω F a σ H _ _ ok hd fun v d F' a' H' g q hR => ?_⟩
  obtain ⟨b, rfl, hR⟩ := asB_of hR
  exact ⟨b, q, hR.imp (fun hR => k _ (.v _) F' a' H' g rfl hR) fun hR => l' B hω F' a' σ H' _ _ g.ok hR fun v d F2 a2 H2 g2 q2 hR => k v d F2 a2 H2 (.trans ok g g2) q2 hR⟩
def dIfE (dt : DTt) (da db : DEt) : DEt := fun a R => dt a fun b a1 => bIf b (da a1 R) (db a1 R)
theorem de_ifExp {c : Expr} {pos : Pos} (hc : DT X K ω c dt) (ha : DX X K ω e1 da) (hb : DX X K ω e2 db) : DX X K ω (.IfExp c e1 e2 pos) (dIfE dt da db) := by
  obtain ⟨_, p, l⟩ := hc
  obtain ⟨_, p1, l1⟩ := ha
  obtain ⟨_, p2, l2⟩ := hb
  refine ⟨_, fun j => pe_ifExp (p j) (p1 j) (p2 j), fun B hω F a σ H Q R ok hd k => l B hω F a σ H _ _ ok hd fun b F' a' H' g hR => hR.imp (fun hR => ?_) fun hR => ?_⟩
  · exact l1 B hω F' a' σ H' _ _ g.ok hR fun v d F2 a2 H2 g2 q2 hR => k v d F2 a2 H2 (.trans ok g g2) q2 hR
  · exact l2 B hω F' a' σ H' _ _ g.ok hR fun v d F2 a2 H2 g2 q2 hR => k v d F2 a2 H2 (.trans ok g g2) q2 hR
/-! a < b < c -/
def dChain (dr dr' : DR) (da db dc : DEt) : DEt := fun a R => da a fun x a1 => db a1 fun y a2 => dr x y fun z => asB z fun b => bIf b (dc a2 fun w a3 => dr' y w fun d => R d a3) (R (.v (.bl false)) a2)
theorem de_chain {op op' : CmpOp} {dr dr' : DR} {e3 : Expr} {pos : Pos} (ho : DOpR X K ω (compareOp op) dr) (ho' : DOpR X K ω (compareOp op') dr') (ha : DB X K ω e1 da) (hb : DB X K ω e2 db) (hc : DB X K ω e3 dc) (hm : lastMarks [op, op'] [e2, e3] = false := by with_unfolding_all rfl) : DX X K ω (.Compare e1 [op, op'] [e2, e3] pos) (dChain dr dr' da db dc) := by
  obtain ⟨r, h1, l1⟩ := ho
  obtain ⟨r', h1', l1'⟩ := ho'
  obtain ⟨ta, h2, l2⟩ := ha
  obtain ⟨tb, h3, l3⟩ := hb
  obtain ⟨tc, h4, l4⟩ := hc
  refine ⟨_, fun j => pe_chain (h1 j) (h1' j) (h2 j) (h3 j) (h4 j) hm, fun B hω F a σ H Q R ok hd k => ?_⟩
  refine l2 B hω F a σ H _ _ ok hd fun x d F1 a1 H1 g1 q1 hd1 => ?_
  refine l3 B hω F1 a1 σ H1 _ _ g1.ok hd1 fun y e F2 a2 H2 g2 q2 hd2 => ?_
  refine l1 B hω F2 a2 σ H2 x y d e _ _ g2.ok (q1.mono g2.bs) q2 hd2 fun v f F3 H3 g3 q3 hR => ?_
  obtain ⟨b, rfl, hR⟩ := asB_of hR
  have g13 := Go.trans ok g1 (.trans g1.ok g2 g3)
  refine ⟨b, q3, hR.imp (fun hR => ?_) fun hR => k _ (.v _) F3 a2 H3 g13 rfl hR⟩
  refine l4 B hω F3 a2 σ H3 _ _ g3.ok hR fun w f F4 a4 H4 g4 q4 hR => ?_
  refine l1' B hω F4 a4 σ H4 y w e f Q _ g4.ok ((q2.mono g3.bs).mono g4.bs) q4 hR fun v f F5 H5 g5 q5 hR => ?_
  exact k v f F5 a4 H5 (.trans ok g13 (.trans g3.ok g4 g5)) q5 hR
theorem dt_chain {op op' : CmpOp} {dr dr' : DR} {e3 : Expr} {pos : Pos} (ho : DOpR X K ω (compareOp op) dr) (ho' : DOpR X K ω (compareOp op') dr') (ha : DB X K ω e1 da) (hb : DB X K ω e2 db) (hc : DB X K ω e3 dc) (hm : lastMarks [op, op'] [e2, e3] = false := by with_unfolding_all rfl) : DT X K ω (.Compare e1 [op, op'] [e2, e3] pos) (dTest (dChain dr dr' da db dc)) := by
  obtain ⟨r, h1, l1⟩ := ho
  obtain ⟨r', h1', l1'⟩ := ho'
  obtain ⟨ta, h2, l2⟩ := ha
  obtain ⟨tb, h3, l3⟩ := hb
  obtain ⟨tc, h4, l4⟩ := hc
  refine ⟨_, fun j => pt_chain (h1 j) (h1' j) (h2 j) (h3 j) (h4 j) hm, fun B hω F a σ H Q R ok hd k => ?_⟩
  refine l2 B hω F a σ H _ _ ok hd fun x d F1 a1 H1 g1 q1 hd1 => ?_
  refine l3 B hω F1 a1 σ H1 _ _ g1.ok hd1 fun y e F2 a2 H2 g2 q2 hd2 => ?_
  refine l1 B hω F2 a2 σ H2 x y d e _ _ g2.ok (q1.mono g2.bs) q2 hd2 fun v f F3 H3 g3 q3 hR => ?_
  obtain ⟨b, rfl, hR⟩ := asB_of hR
  have g13 := Go.trans ok g1 (.trans g1.ok g2 g3)
  refine ⟨b, q3, hR.imp (fun hR => ?_) fun hR => ?_⟩
  · refine l4 B hω F3 a2 σ H3 _ _ g3.ok hR fun w f F4 a4 H4 g4 q4 hR => ?_
    refine l1' B hω F4 a4 σ H4 y w e f _ _ g4.ok ((q2.mono g3.bs).mono g4.bs) q4 hR fun v f F5 H5 g5 q5 hR => ?_
    obtain ⟨c, rfl, hR⟩ := asB_of hR
    exact ⟨c, q5, k c F5 a4 H5 (.trans ok g13 (.trans g3.ok g4 g5)) hR⟩
  · obtain ⟨c, e, hR⟩ := asB_of hR
    cases e
    exact ⟨false, rfl, k false F3 a2 H3 g13 hR⟩
end
/-! ### statements -/
structure DEnds where
  nx : AS → Prop
  rt : D → Int → Prop
  bk : AS → Prop := fun _ => False
  ct : AS → Prop := fun _ => False
abbrev DSt := DEnds → AS → Prop
structure EndsOk {K : PySem.W.Frag} (B : Bs K) (F : Hp) (DE : DEnds) (E : Ends) : Prop where
  nx : ∀ F' a' σ' H', Ok B F' a' σ' H' → Same F F' → DE.nx a' → E.nx σ' H'
  rt : ∀ v d n F' H', Fi B F' n H' → Same F F' → Dat K F' d v → DE.rt d n → E.rt v H'
  bk : ∀ F' a' σ' H', Ok B F' a' σ' H' → Same F F' → DE.bk a' → E.bk σ' H'
  ct : ∀ F' a' σ' H', Ok B F' a' σ' H' → Same F F' → DE.ct a' → E.ct σ' H'
def LS (K : PySem.W.Frag) (ω : Wp) (ts : TS) (ds : DSt) : Prop := ∀ (B : Bs K), WOk B ω → ∀ (E : Ends) (DE : DEnds) (F : Hp) (a : AS) (σ : St) (H : Hp), Ok B F a σ H → ds DE a → EndsOk B F DE E → ts E σ H
def DS {ι : Type} (X : ι → Cx) (K : PySem.W.Frag) (ω : Wp) (st : Stmt) (ds : DSt) : Prop := ∃ t, (∀ j, PS (X j) st t) ∧ LS K ω t ds
def DSs {ι : Type} (X : ι → Cx) (K : PySem.W.Frag) (ω : Wp) (st : List Stmt) (ds : DSt) : Prop := ∃ t, (∀ j, PSs (X j) st t) ∧ LS K ω t ds
abbrev DGt := D → AS → (AS → Prop) → Prop
abbrev DGts := List D → AS → (AS → Prop) → Prop
/-- a target: ws the slots that it writes -/
structure Sto {K : PySem.W.Frag} (B : Bs K) (ws : List Nat) (F : Hp) (a : AS) (σ : St) (H : Hp) (a' : AS) (σ' : St) : Prop where
  ok : Ok B F a' σ' H
  ln : σ'.length = σ.length
  kp : ∀ j, j ∉ ws → σ'[j]? = σ[j]?
  oo : ∀ b, OwnAt a' σ' b → OwnAt a σ b
def LG (K : PySem.W.Frag) (ω : Wp) (g : TG) (dg : DGt) (ws : List Nat) : Prop := ∀ (B : Bs K), WOk B ω → ∀ (F : Hp) (a : AS) (σ : St) (H : Hp) (v : V) (d : D) (Q : St → Hp → Prop) (R : AS → Prop), Ok B F a σ H → Dat K F d v → dg d a R →
  (∀ a' σ', Sto B ws F a σ H a' σ' → R a' → Q σ' H) → g v σ H Q
def LGs (K : PySem.W.Frag) (ω : Wp) (g : TGs) (dg : DGts) (ws : List Nat) : Prop := ∀ (B : Bs K), WOk B ω → ∀ (F : Hp) (a : AS) (σ : St) (H : Hp) (vs : List V) (ds : List D) (Q : St → Hp → Prop) (R : AS → Prop), Ok B F a σ H → DatL K F ds vs → dg ds a R →
  (∀ a' σ', Sto B ws F a σ H a' σ' → R a' → Q σ' H) → g vs σ H Q
def DG {ι : Type} (X : ι → Cx) (K : PySem.W.Frag) (ω : Wp) (tg : Expr) (dg : DGt) (ws : List Nat) : Prop := ∃ g, (∀ j, PG (X j) tg g) ∧ LG K ω g dg ws
def DGs {ι : Type} (X : ι → Cx) (K : PySem.W.Frag) (ω : Wp) (tgs : List Expr) (dg : DGts) (ws : List Nat) (m : Nat) : Prop := ∃ g, (∀ j, PGs (X j) tgs g) ∧ LGs K ω g dg ws ∧ ∀ ds a R, dg ds a R → ds.length = m
section
variable {K : PySem.W.Frag} {ω : Wp} {B : Bs K} {F F' F1 F2 : Hp} {a a' a1 a2 : AS} {σ σ' : St} {H H' H1 H2 : Hp} {n : Int} {te : TE} {de da db : DEt} {ι : Type} {X : ι → Cx} {e e1 e2 : Expr} {es : List Expr} {pos : Pos} {ts us : TS} {ds d1 d2 : DSt} {st : Stmt} {rest : List Stmt} {dt : DTt}
theorem EndsOk.mono {DE : DEnds} {E : Ends} (h : EndsOk B F DE E) (s : Same F F') : EndsOk B F' DE E := ⟨fun F1 a1 s1 H1 ok q r => h.nx F1 a1 s1 H1 ok (s.trans q) r, fun v d n F1 H1 f q r z => h.rt v d n F1 H1 f (s.trans q) r z, fun F1 a1 s1 H1 ok q r => h.bk F1 a1 s1 H1 ok (s.trans q) r, fun F1 a1 s1 H1 ok q r => h.ct F1 a1 s1 H1 ok (s.trans q) r⟩
theorem Sto.refl (ok : Ok B F a σ H) : Sto B [] F a σ H a σ := ⟨ok, rfl, fun _ _ => rfl, fun _ h => h⟩
theorem WOk.z {i : Nat} (hω : WOk B ω) (hz : ω.sf = false ∨ i ≠ 0) : i = 0 → B.self = none := fun z => hz.elim hω.2.1 fun n => absurd z n
theorem Ok.putV (ok : Ok B F a σ H) {i : Nat} {d : D} {v : V} (hi : i = 0 → B.self = none) (h : Dat K F d v) : Sto B [i] F a σ H (a.put i (.val d)) (σ.set i (some v)) := by
  refine ⟨ok.setV hi h, by rw [List.length_set], fun j hj => List.getElem?_set_ne (fun z => hj (by rw [← z]; exact List.mem_singleton.mpr rfl)), ?_⟩
  rintro b ⟨j, f, q1, q2⟩
  rcases set_get q1 with ⟨rfl, z, _⟩ | ⟨m, q1⟩
  · cases z
  · rw [List.getElem?_set_ne (Ne.symm m)] at q2
    exact ⟨j, f, q1, q2⟩
def dgName (i : Nat) : DGt := fun d a R => R (a.put i (.val d))
theorem dg_name {i : Nat} {x : Str} {pos : Pos} (hN : ∀ j, (X j).N.Nodup) (hi : ∀ j, (X j).N[i]? = some x) (hx : ∀ j, Loc (X j).env.scope x) (hf : ∀ j, (X j).fn x = true ∨ (X j).env.scope.names.lookup x = some .local := by first | exact fun _ => .inl rfl | exact fun _ => .inr rfl | assumption)  (hz : ω.sf = false ∨ i ≠ 0 := by first | exact Or.inl rfl | exact Or.inr (by decide)) : DG X K ω (.Name x pos) (dgName i) [i] :=
  ⟨_, fun j => pg_name (hN j) (hi j) (hx j) (hf j), fun B hω F a σ H v d Q R ok h hd k => k _ _ (ok.putV (hω.z hz) h) hd⟩
def dgNil : DGts := fun ds a R => ds = [] ∧ R a
def dgCons (g : DGt) (u : DGts) : DGts := fun ds a R => match ds with
  | d :: r => g d a fun a' => u r a' R
  | [] => False
theorem dgs_nil : DGs X K ω [] dgNil [] 0 := ⟨_, fun _ => pgs_nil, fun B hω F a σ H vs ds Q R ok h hd k => by
  obtain ⟨rfl, hR⟩ := hd
  exact ⟨h, k a σ (.refl ok) hR⟩, fun ds a R h => by rw [h.1]; rfl⟩
theorem dgs_cons {dg : DGt} {du : DGts} {w1 w2 : List Nat} {m : Nat} (h1 : DG X K ω e dg w1) (h2 : DGs X K ω es du w2 m) (hs : ∀ j, (assignEach (e :: es) (X j).env).map (·.2) = assign e (X j).env :: (assignEach es (X j).env).map (·.2) := by intro _; rfl)
    (hm : ∀ d a R, dg d a R → ∃ a', R a' := by exact fun _ _ _ h => ⟨_, h⟩) : DGs X K ω (e :: es) (dgCons dg du) (w1 ++ w2) (m + 1) := by
  obtain ⟨g, p, l⟩ := h1
  obtain ⟨u, p', l', hl⟩ := h2
  refine ⟨_, fun j => pgs_cons (p j) (p' j) (hs j), fun B hω F a σ H vs ds Q R ok h hd k => ?_, fun ds a R h => ?_⟩
  · cases ds with
    | nil => exact hd.elim
    | cons d r =>
      obtain ⟨v, w, rfl, h1, h2⟩ := h
      refine ⟨v, w, rfl, l B hω F a σ H v d _ _ ok h1 hd fun a1 σ1 s1 hR => ?_⟩
      refine l' B hω F a1 σ1 H w r Q R s1.ok h2 hR fun a2 σ2 s2 hR => k a2 σ2 ⟨s2.ok, s2.ln.trans s1.ln, fun j hj => ?_, fun b z => s1.oo b (s2.oo b z)⟩ hR
      rw [s2.kp j (fun z => hj (List.mem_append_right _ z)), s1.kp j (fun z => hj (List.mem_append_left _ z))]
  · cases ds with
    | nil => exact h.elim
    | cons d r =>
      obtain ⟨a', z⟩ := hm d a _ h
      rw [List.length_cons, hl r a' R z]
def dgTup (u : DGts) : DGt := fun d a R => match d with
  | .tup ds => u ds a R
  | _ => False
theorem dg_tup {k : Nat} {dg : DGts} {w : List Nat} {pos : Pos} {m : Nat} (hc : ∀ j, (X j).calm = true) (h : DGs X K ω es dg w m) (hn : ∀ j, (assignEach es (X j).env).length = m := by intro _; rfl) (hst : ∀ j, (assignEach es (X j).env).findIdx? (·.1) = none := by intro _; rfl) (hK : ∀ j, (X j).K = K := by intro _; rfl) : DG X K ω (.Tuple es k pos) (dgTup dg) w := by
  obtain ⟨g, p, l, hl⟩ := h
  refine ⟨gTup K m g, fun j => by rw [← hK j]; exact pg_tup (hc j) (p j) (hn j) (hst j), fun B hω F a σ H v d Q R ok h hd k => ?_⟩
  unfold dgTup at hd
  split at hd
  · rename_i ds
    obtain ⟨p, vs, rfl, hS, hL⟩ := h
    exact ⟨p, vs, rfl, SqT.of (ok.fi.fh _ _ hS), by rw [hL.len]; exact hl _ _ _ hd, l B hω F a σ H vs ds Q R ok hL hd k⟩
  · exact hd.elim
/-! blocks -/
def dNext : DSt := fun E a => E.nx a
def dSeq (t u : DSt) : DSt := fun E a => t { E with nx := u E } a
def dCut (t u : DSt) : DSt := fun E a => ∃ Mid : AS → Prop, t { E with nx := Mid } a ∧ ∀ a', Mid a' → u E a'
theorem dss_nil : DSs X K ω [] dNext := ⟨_, fun _ => pss_nil, fun B hω E DE F a σ H ok hd k => k.nx F a σ H ok (Same.refl F) hd⟩
theorem dss_cons (h1 : DS X K ω st d1) (h2 : DSs X K ω rest d2) : DSs X K ω (st :: rest) (dSeq d1 d2) := by
  obtain ⟨t, p, l⟩ := h1
  obtain ⟨u, p', l'⟩ := h2
  exact ⟨_, fun j => pss_cons (p j) (p' j), fun B hω E DE F a σ H ok hd k => l B hω _ _ F a σ H ok hd ⟨fun F' a' σ' H' ok' s hd => l' B hω E DE F' a' σ' H' ok' hd (k.mono s), k.rt, k.bk, k.ct⟩⟩
theorem dss_cut (h1 : DS X K ω st d1) (h2 : DSs X K ω rest d2) : DSs X K ω (st :: rest) (dCut d1 d2) := by
  obtain ⟨t, p, l⟩ := h1
  obtain ⟨u, p', l'⟩ := h2
  refine ⟨_, fun j => pss_cons (p j) (p' j), fun B hω E DE F a σ H ok hd k => ?_⟩
  obtain ⟨Mid, hd, hm⟩ := hd
  exact l B hω _ { DE with nx := Mid } F a σ H ok hd ⟨fun F' a' σ' H' ok' s z => l' B hω E DE F' a' σ' H' ok' (hm a' z) (k.mono s), k.rt, k.bk, k.ct⟩
theorem dss_one (h1 : DS X K ω st d1) : DSs X K ω [st] d1 := let ⟨_, p, l⟩ := h1; ⟨_, fun j => pss_one (p j), l⟩
theorem ds_pass {pos : Pos} : DS X K ω (.Pass pos) dNext := ⟨_, fun _ => ps_pass, fun B hω E DE F a σ H ok hd k => k.nx F a σ H ok (Same.refl F) hd⟩
theorem ds_break {pos : Pos} : DS X K ω (.Break pos) (fun E a => E.bk a) := ⟨_, fun _ => ps_break, fun B hω E DE F a σ H ok hd k => k.bk F a σ H ok (Same.refl F) hd⟩
theorem ds_continue {pos : Pos} : DS X K ω (.Continue pos) (fun E a => E.ct a) := ⟨_, fun _ => ps_continue, fun B hω E DE F a σ H ok hd k => k.ct F a σ H ok (Same.refl F) hd⟩
theorem ds_never : DS X K ω st (fun _ _ => False) := ⟨_, fun _ => ps_never, fun _ _ _ _ _ _ _ _ _ hd _ => hd⟩
theorem ds_doc {x j pos pos'} : DS X K ω (.Expr (.Constant (.str x) j pos) pos') dNext := ⟨_, fun _ => ps_doc, fun B hω E DE F a σ H ok hd k => k.nx F a σ H ok (Same.refl F) hd⟩
def dDrop (de : DEt) : DSt := fun E a => de a fun _ a' => E.nx a'
theorem ds_expr {pos : Pos} (he : DX X K ω e de) (hs : ∀ j, swapsWith e none pos.line (X j).env = pure false := by intro _; rfl) : DS X K ω (.Expr e pos) (dDrop de) := by
  obtain ⟨t, p, l⟩ := he
  exact ⟨_, fun j => ps_expr (p j) (hs j), fun B hω E DE F a σ H ok hd k => l B hω F a σ H _ _ ok hd fun v d F' a' H' g q r => k.nx F' a' σ H' g.ok g.ff r⟩
theorem Fi.le {m : Int} (f : Fi B F n H) (h : n ≤ m) : Fi B F m H := ⟨f.fh, f.ff, f.fr, f.fm, fun p e => ⟨(f.sr p e).1, (f.sr p e).2.1, (f.sr p e).2.2.le h⟩⟩
/-- at most so many numbers drawn -/
def dRet (de : DEt) : DSt := fun E a => de a fun d a' => ∃ m, a'.n ≤ m ∧ E.rt d m
theorem ds_ret {pos : Pos} (he : DX X K ω e de) : DS X K ω (.Return (some e) pos) (dRet de) := by
  obtain ⟨t, p, l⟩ := he
  exact ⟨_, fun j => ps_ret (p j), fun B hω E DE F a σ H ok hd k => l B hω F a σ H _ _ ok hd fun v d F' a' H' g q ⟨m, hm, r⟩ => k.rt v d m F' H' (g.ok.fi.le hm) g.ff q r⟩
theorem ds_retN {pos : Pos} : DS X K ω (.Return none pos) (fun E a => E.rt (.v .non) a.n) := ⟨_, fun _ => ps_retN, fun B hω E DE F a σ H ok hd k => k.rt _ (.v .non) a.n F H ok.fi (Same.refl F) rfl hd⟩
def dIfS (dt : DTt) (d1 d2 : DSt) : DSt := fun E a => dt a fun b a' => bIf b (d1 E a') (d2 E a')
theorem ds_if {c : Expr} {b1 b2 : List Stmt} {pos : Pos} (hc : DT X K ω c dt) (h1 : DSs X K ω b1 d1) (h2 : DSs X K ω b2 d2) : DS X K ω (.If c b1 b2 pos) (dIfS dt d1 d2) := by
  obtain ⟨t, p, l⟩ := hc
  obtain ⟨t1, p1, l1⟩ := h1
  obtain ⟨t2, p2, l2⟩ := h2
  exact ⟨_, fun j => ps_if (p j) (p1 j) (p2 j), fun B hω E DE F a σ H ok hd k => l B hω F a σ H _ _ ok hd fun b F' a' H' g r => r.imp (fun r => l1 B hω E DE F' a' σ H' g.ok r (k.mono g.ff)) fun r => l2 B hω E DE F' a' σ H' g.ok r (k.mono g.ff)⟩
/-! assignments -/
def dSet (i : Nat) (de : DEt) : DSt := fun E a => de a fun d a' => E.nx (a'.put i (.val d))
theorem ds_set {i : Nat} {x : Str} {pos' : Pos} (hN : ∀ j, (X j).N.Nodup) (hi : ∀ j, (X j).N[i]? = some x) (hx : ∀ j, Loc (X j).env.scope x) (he : DX X K ω e de) (hs : ∀ j, swapsWith e (some (.Name x pos')) pos.line (X j).env = pure false := by intro _; rfl)
    (hf : ∀ j, (X j).fn x = true ∨ (X j).env.scope.names.lookup x = some .local := by first | exact fun _ => .inl rfl | exact fun _ => .inr rfl | assumption) (hz : ω.sf = false ∨ i ≠ 0 := by first | exact Or.inl rfl | exact Or.inr (by decide)) : DS X K ω (.Assign [.Name x pos'] e pos) (dSet i de) := by
  obtain ⟨t, p, l⟩ := he
  exact ⟨_, fun j => ps_set (hN j) (hi j) (hx j) (p j) (hs j) (hf j), fun B hω E DE F a σ H ok hd k => l B hω F a σ H _ _ ok hd fun v d F' a' H' g q r => k.nx F' _ _ H' (g.ok.setV (hω.z hz) q) g.ff r⟩
/-- the name's object is one's own from now on -/
def dSetO (i : Nat) (de : DEt) : DSt := fun E a => de a fun d a' => E.nx (a'.put i (.own d))
theorem ds_setO {i : Nat} {x : Str} {pos' : Pos} (hN : ∀ j, (X j).N.Nodup) (hi : ∀ j, (X j).N[i]? = some x) (hx : ∀ j, Loc (X j).env.scope x) (he : DO X K ω e de) (hs : ∀ j, swapsWith e (some (.Name x pos')) pos.line (X j).env = pure false := by intro _; rfl)
    (hf : ∀ j, (X j).fn x = true ∨ (X j).env.scope.names.lookup x = some .local := by first | exact fun _ => .inl rfl | exact fun _ => .inr rfl | assumption) (hz : ω.sf = false ∨ i ≠ 0 := by first | exact Or.inl rfl | exact Or.inr (by decide)) : DS X K ω (.Assign [.Name x pos'] e pos) (dSetO i de) := by
  obtain ⟨t, p, l⟩ := he
  refine ⟨_, fun j => ps_set (hN j) (hi j) (hx j) (p j) (hs j) (hf j), fun B hω E DE F a σ H ok hd k => l B hω F a σ H _ _ ok hd fun p o d F' a' H' g n1 n2 h3 q r => ?_⟩
  obtain ⟨hF, h0, hs, no⟩ := ok.here n1
  exact k.nx F' _ _ H' (g.ok.setO (hω.z hz) h3 n2 h0 (fun z => no (g.oo p z)) q) g.ff r
def dAsg (de : DEt) (dg : DGt) : DSt := fun E a => de a fun d a' => dg d a' E.nx
theorem ds_asg {tg : Expr} {dg : DGt} {w : List Nat} (he : DX X K ω e de) (hg : DG X K ω tg dg w) (hs : ∀ j, swapsWithSole [tg] e pos.line (X j).env = pure false := by intro _; rfl) (hw : ∀ j, swappedStores [tg] e (X j).env = pure none := by intro _; rfl)
    (h1 : ∀ j, (assignEach [tg] (X j).env).map (·.2) = [assign tg (X j).env] := by intro _; rfl) : DS X K ω (.Assign [tg] e pos) (dAsg de dg) := by
  obtain ⟨t, p, l⟩ := he
  obtain ⟨g, p', l'⟩ := hg
  exact ⟨_, fun j => ps_asg (p j) (p' j) (hs j) (hw j) (h1 j), fun B hω E DE F a σ H ok hd k => l B hω F a σ H _ _ ok hd fun v d F' a' H' g q r => l' B hω F' a' σ H' v d _ _ g.ok q r fun a2 σ2 s r => k.nx F' a2 σ2 H' s.ok g.ff r⟩
/-! loops -/
def ItOk (K : PySem.W.Frag) (J : It) (F : Hp) (items : List D) : Prop := ∀ (i : Nat) (F1 H1 : Hp), Same F F1 → Same F1 H1 →
  (items.length ≤ i → J.stop i H1) ∧ ∀ d, items[i]? = some d → J.go i H1 ∧ ∀ x H', J.yld i H1 x H' → (H' = H1 ∧ Dat K F1 d x) ∨ ∃ p o, H1 p = none ∧ H' = upd H1 p o ∧ Dat K (upd F1 p o) d x
def LI (K : PySem.W.Frag) (ω : Wp) (wi : TI) (di : DAt) : Prop := ∀ (B : Bs K), WOk B ω → ∀ (F : Hp) (a : AS) (σ : St) (H : Hp) (Q : It → Hp → Prop) (R : List D → AS → Prop), Ok B F a σ H → di a R →
  (∀ J items F' a' H', Go B σ F a H F' a' H' → ItOk K J F' items → R items a' → Q J H') → wi σ H Q
def DI {ι : Type} (X : ι → Cx) (K : PySem.W.Frag) (ω : Wp) (tg iter : Expr) (di : DAt) : Prop := ∃ wi, (∀ j, PI (X j) tg iter wi) ∧ LI K ω wi di
theorem ItOk.mono {K : PySem.W.Frag} {J : It} {items : List D} (h : ItOk K J F items) (s : Same F F') : ItOk K J F' items := fun i F1 H1 s1 s2 => h i F1 H1 (s.trans s1) s2
/-- what comes out of an iterator at a turn -/
theorem ItOk.turn {J : It} {items : List D} {i : Nat} {d : D} {x : V} (h : ItOk K J F items) (ok : Ok B F1 a σ H) (s : Same F F1) (e : items[i]? = some d) (y : J.yld i H x H') : ∃ F', Go B σ F1 a H F' a H' ∧ Dat K F' d x := by
  rcases ((h i F1 H s ok.fi.fh).2 d e).2 x H' y with ⟨rfl, q⟩ | ⟨p, o, n, rfl, q⟩
  · exact ⟨F1, .refl ok, q⟩
  · exact ⟨_, ok.new n, q⟩
def dLoop (dg : DGt) (db : DSt) (E : DEnds) : List D → AS → Prop
  | [], a => E.nx a
  | d :: ds, a => dg d a fun a1 => db { E with nx := dLoop dg db E ds, ct := dLoop dg db E ds, bk := E.nx } a1
def dFor (di : DAt) (dg : DGt) (db : DSt) : DSt := fun E a => di a fun items a' => dLoop dg db E items a'
theorem ds_for {iter tg : Expr} {body : List Stmt} {di : DAt} {dg : DGt} {db : DSt} {w : List Nat} {pos : Pos} (hp : ∀ j, PassesOwn (model (X j).prog (X j).w) (X j).A (X j).env (X j).xe) (hc : ∀ j, (X j).calm = true) (hi : DI X K ω tg iter di) (hg : DG X K ω tg dg w) (hb : DSs X K ω body db)
    (hs : ∀ j x, foldedSetIterable iter (X j).env x = pure x := by intro _ _; rfl) : DS X K ω (.For tg iter body [] pos) (dFor di dg db) := by
  obtain ⟨wi, p1, l1⟩ := hi
  obtain ⟨g, p2, l2⟩ := hg
  obtain ⟨tb, p3, l3⟩ := hb
  refine ⟨_, fun j => ps_for (hp j) (hc j) (p1 j) (p2 j) (p3 j) (hs j), fun B hω E DE F a σ H ok hd k => l1 B hω F a σ H _ _ ok hd fun J items F' a' H' g it hR => ?_⟩
  refine ⟨fun i m σ1 H1 => ∃ F1 a1, Ok B F1 a1 σ1 H1 ∧ Same F' F1 ∧ i ≤ items.length ∧ m = items.length - i ∧ dLoop dg db DE (items.drop i) a1, ⟨_, F', a', g.ok, Same.refl F', Nat.zero_le _, rfl, hR⟩, ?_⟩
  rintro i m σ1 H1 ⟨F1, a1, ok1, s1, hi, rfl, hl⟩
  by_cases hlt : i < items.length
  · have e : items[i]? = some items[i] := List.getElem?_eq_getElem hlt
    rw [List.drop_eq_getElem_cons hlt] at hl
    refine .inr ⟨((it i F1 H1 s1 ok1.fi.fh).2 _ e).1, fun σ2 H2 => ∃ m', m' < items.length - i ∧ ∃ F2 a2, Ok B F2 a2 σ2 H2 ∧ Same F' F2 ∧ i + 1 ≤ items.length ∧ m' = items.length - (i + 1) ∧ dLoop dg db DE (items.drop (i + 1)) a2, fun σ2 H2 z => z, fun x H2 y => ?_⟩
    obtain ⟨F2, g2, q2⟩ := it.turn ok1 s1 e y
    refine l2 B hω F2 a1 σ1 H2 x _ _ _ g2.ok q2 hl fun a3 σ3 s3 hR => ?_
    have s03 : Same F' F2 := s1.trans g2.ff
    have nx : ∀ F4 a4 σ4 H4, Ok B F4 a4 σ4 H4 → Same F2 F4 → dLoop dg db DE (items.drop (i + 1)) a4 → ∃ m', m' < items.length - i ∧ ∃ F2 a2, Ok B F2 a2 σ4 H4 ∧ Same F' F2 ∧ i + 1 ≤ items.length ∧ m' = items.length - (i + 1) ∧ dLoop dg db DE (items.drop (i + 1)) a2 := fun F4 a4 σ4 H4 ok4 s4 z => ⟨items.length - (i + 1), by omega, F4, a4, ok4, s03.trans s4, hlt, rfl, z⟩
    exact l3 B hω _ _ F2 a3 σ3 H2 s3.ok hR ⟨nx, fun v d n F4 H4 f q r z => k.rt v d n F4 H4 f (g.ff.trans (s03.trans q)) r z, fun F4 a4 σ4 H4 ok4 s4 z => k.nx F4 a4 σ4 H4 ok4 (g.ff.trans (s03.trans s4)) z, nx⟩
  · have e : i = items.length := by omega
    subst e
    rw [List.drop_length] at hl
    exact .inl ⟨(it _ F1 H1 s1 ok1.fi.fh).1 (Nat.le_refl _), k.nx F1 a1 σ1 H1 ok1 (g.ff.trans s1) hl⟩
def dWhile (dt : DTt) (db : DSt) : DSt := fun E a => ∃ I : Nat → AS → Prop, (∃ m, I m a) ∧ ∀ m a, I m a → dt a fun b a1 => bIf b (db { E with nx := fun a' => ∃ m', m' < m ∧ I m' a', ct := fun a' => ∃ m', m' < m ∧ I m' a', bk := E.nx } a1) (E.nx a1)
theorem ds_while {c : Expr} {body : List Stmt} {db : DSt} {pos : Pos} (hp : ∀ j, PassesOwn (model (X j).prog (X j).w) (X j).A (X j).env (X j).xe) (hc : DT X K ω c dt) (hb : DSs X K ω body db) : DS X K ω (.While c body [] pos) (dWhile dt db) := by
  obtain ⟨t, p1, l1⟩ := hc
  obtain ⟨tb, p2, l2⟩ := hb
  refine ⟨_, fun j => ps_while (hp j) (p1 j) (p2 j), fun B hω E DE F a σ H ok hd k => ?_⟩
  obtain ⟨I, ⟨m0, i0⟩, turn⟩ := hd
  refine ⟨fun m σ1 H1 => ∃ F1 a1, Ok B F1 a1 σ1 H1 ∧ Same F F1 ∧ I m a1, ⟨m0, F, a, ok, Same.refl F, i0⟩, ?_⟩
  rintro m σ1 H1 ⟨F1, a1, ok1, s1, hI⟩
  refine l1 B hω F1 a1 σ1 H1 _ _ ok1 (turn m a1 hI) fun b F2 a2 H2 g hR => hR.imp (fun hR => ?_) fun hR => k.nx F2 a2 σ1 H2 g.ok (s1.trans g.ff) hR
  have s02 := s1.trans g.ff
  have nx : ∀ F4 a4 σ4 H4, Ok B F4 a4 σ4 H4 → Same F2 F4 → (∃ m', m' < m ∧ I m' a4) → ∃ m', m' < m ∧ ∃ F1 a1, Ok B F1 a1 σ4 H4 ∧ Same F F1 ∧ I m' a1 := fun F4 a4 σ4 H4 ok4 s4 ⟨m', h, z⟩ => ⟨m', h, F4, a4, ok4, s02.trans s4, z⟩
  exact ⟨fun σ4 H4 => ∃ m', m' < m ∧ ∃ F1 a1, Ok B F1 a1 σ4 H4 ∧ Same F F1 ∧ I m' a1, fun σ' H' z => z, l2 B hω _ _ F2 a2 σ1 H2 g.ok hR ⟨nx, fun v d n F4 H4 f q r z => k.rt v d n F4 H4 f (s02.trans q) r z, fun F4 a4 σ4 H4 ok4 s4 z => k.nx F4 a4 σ4 H4 ok4 (s02.trans s4) z, nx⟩⟩
end
section
variable {K : PySem.W.Frag} {ω : Wp} {B : Bs K} {F F' F1 F2 G : Hp} {a a' a1 a2 : AS} {σ σ' : St} {H H' H1 H2 : Hp} {n : Int} {te : TE} {de da db : DEt} {ι : Type} {X : ι → Cx} {e e1 e2 : Expr} {es : List Expr} {pos : Pos} {dt : DTt} {dl dm : DAt}
/-! argument lists -/
def dNil : DAt := fun a R => R [] a
def dCons (da : DEt) (dr : DAt) : DAt := fun a R => da a fun d a1 => dr a1 fun ds a2 => R (d :: ds) a2
theorem da_nil : DAE X K ω [] dNil := ⟨_, fun _ => pa_nil, fun B hω F a σ H Q R ok hd k => k [] [] F a H (.refl ok) rfl hd⟩
theorem dab_nil : DAB X K ω [] dNil := ⟨_, fun _ => pa_nil, fun B hω F a σ H Q R ok hd k => k [] [] F a H (.refl ok) rfl hd⟩
theorem da_cons (h : DX X K ω e de) (hr : DAE X K ω es dl) (hs : ∀ j, starEach (e :: es) (X j).env = (false, eval e (X j).env) :: starEach es (X j).env := by intro _; rfl) : DAE X K ω (e :: es) (dCons de dl) := by
  obtain ⟨t, p, l⟩ := h
  obtain ⟨t', p', l'⟩ := hr
  refine ⟨_, fun j => pa_cons (p j) (p' j) (hs j), fun B hω F a σ H Q R ok hd k => l B hω F a σ H _ _ ok hd fun v d F1 a1 H1 g1 q1 r1 => ?_⟩
  exact l' B hω F1 a1 σ H1 _ _ g1.ok r1 fun vs ds F2 a2 H2 g2 q2 r2 => k _ _ F2 a2 H2 (.trans ok g1 g2) (.cons (q1.mono g2.ff) q2) r2
theorem dab_cons (h : DB X K ω e de) (hr : DAB X K ω es dl) (hs : ∀ j, starEach (e :: es) (X j).env = (false, eval e (X j).env) :: starEach es (X j).env := by intro _; rfl) : DAB X K ω (e :: es) (dCons de dl) := by
  obtain ⟨t, p, l⟩ := h
  obtain ⟨t', p', l'⟩ := hr
  refine ⟨_, fun j => pa_cons (p j) (p' j) (hs j), fun B hω F a σ H Q R ok hd k => l B hω F a σ H _ _ ok hd fun v d F1 a1 H1 g1 q1 r1 => ?_⟩
  exact l' B hω F1 a1 σ H1 _ _ g1.ok r1 fun vs ds F2 a2 H2 g2 q2 r2 => k _ _ F2 a2 H2 (.trans ok g1 g2) (.cons (q1.mono g2.bs) q2) r2
/-! displays -/
def dTup (dl : DAt) : DEt := fun a R => dl a fun ds a' => ds.length ≤ sizeLine ∧ R (.tup ds) a'
def dLst (dl : DAt) : DEt := fun a R => dl a fun ds a' => ds.length ≤ sizeLine ∧ R (.lst ds) a'
theorem de_tup {x1} {pos : Pos} (h : DAE X K ω es dl) : DX X K ω (.Tuple es x1 pos) (dTup dl) := by
  obtain ⟨t, p, l⟩ := h
  refine ⟨_, fun j => pe_tup (p j), fun B hω F a σ H Q R ok hd k => l B hω F a σ H _ _ ok hd fun vs ds F1 a1 H1 g1 q1 r1 => ?_⟩
  refine ⟨by rw [q1.len]; exact r1.1, fun p hp => ?_⟩
  have g2 := g1.ok.new (o := .tup vs) hp
  exact k _ (.tup ds) _ _ _ (.trans ok g1 g2) ⟨p, vs, rfl, upd_same, q1.mono g2.ff⟩ r1.2
/-- a new list -/
theorem Go.list (ok : Ok B F a σ H) (g1 : Go B σ F a H F1 a1 H1) {p : Addr} {vs : List V} {ds : List D} (hp : H1 p = none) (q : DatL K F1 ds vs) {Q : VK} {R : D → AS → Prop} (r : R (.lst ds) a1)
    (k : ∀ p o d F' a' H', Go B σ F a H F' a' H' → H p = none → F' p = none → H' p = some o → Rep K F' d o → R d a' → Q (.ref p) H') : Q (.ref p) (upd H1 p (.lst vs)) := by
  have g2 := g1.ok.newO (o := .lst vs) hp
  have h0 : H p = none := by
    cases e : H p with
    | none => rfl
    | some o =>
      have n := (g1.ok.here hp).2.2.1
      rw [g1.hh p o n e] at hp
      cases hp
  exact k p (.lst vs) (.lst ds) F1 a1 _ (.trans ok g1 g2) h0 (g1.ok.here hp).1 upd_same ⟨vs, rfl, q⟩ r
theorem do_lst {pos : Pos} (h : DAE X K ω es dl) : DO X K ω (.List es pos) (dLst dl) := by
  obtain ⟨t, p, l⟩ := h
  refine ⟨_, fun j => pe_lst (p j), fun B hω F a σ H Q R ok hd k => l B hω F a σ H _ _ ok hd fun vs ds F1 a1 H1 g1 q1 r1 => ?_⟩
  exact ⟨by rw [q1.len]; exact r1.1, fun p hp => g1.list ok hp q1 r1.2 k⟩
def opt (o : Option D) (R : D → Prop) : Prop := match o with
  | some d => R d
  | none => False
theorem opt_of {o : Option D} {R : D → Prop} (h : opt o R) : ∃ d, o = some d ∧ R d := by
  cases o with
  | none => exact h.elim
  | some d => exact ⟨d, rfl, h⟩
/-! an item -/
def dIx : DR := fun d e R => match d, e with
  | .lst ds, .v (.int i) => opt (atI ds i) R
  | .tup ds, .v (.int i) => opt (atI ds i) R
  | .ctup ds, .v (.int i) => opt (atI ds i) R
  | .ftup ds, .v (.int i) => opt (atI ds i) R
  | .v (.str z), .v (.int i) => z.length ≤ sizeLine ∧ match atI z.cps.toList i with
    | some c => R (.v (.str ⟨#[c]⟩))
    | none => False
  | _, _ => False
theorem atI_dat {ds : List D} {vs : List V} {i : Int} {d : D} (q : DatL K H ds vs) (h : atI ds i = some d) : ∃ v, atI vs i = some v ∧ Dat K H d v := by
  unfold atI at h ⊢
  rw [q.len]
  cases e : ixN ds.length i with
  | none => rw [e] at h; cases h
  | some j =>
    rw [e] at h
    exact q.get h
theorem ix_dat {x y : V} {d f : D} {Q : VK} {R : D → Prop} (s : Same G H) (hx : Dat K G d x) (hy : Dat K G f y) (h : dIx d f R) (k : ∀ v g, Dat K G g v → R g → Q v H) : rIx K x y H Q := by
  unfold dIx at h
  split at h
  · rename_i ds i
    obtain ⟨p, vs, rfl, h1, h2⟩ := hx
    obtain ⟨g, e, r⟩ := opt_of h
    obtain ⟨v, e1, e2⟩ := atI_dat h2 e
    exact .inl ⟨p, vs, i, v, rfl, hy, SqL.of (s _ _ h1), e1, k v g e2 r⟩
  · rename_i ds i
    obtain ⟨p, vs, rfl, h1, h2⟩ := hx
    obtain ⟨g, e, r⟩ := opt_of h
    obtain ⟨v, e1, e2⟩ := atI_dat h2 e
    exact .inr (.inl ⟨p, vs, i, v, rfl, hy, SqT.of (s _ _ h1), e1, k v g e2 r⟩)
  · rename_i ds i
    obtain ⟨p, vs, rfl, h1, h2⟩ := hx
    obtain ⟨g, e, r⟩ := opt_of h
    obtain ⟨v, e1, e2⟩ := atI_dat h2 e
    exact .inr (.inl ⟨p, vs, i, v, rfl, hy, same_seqT s h1, e1, k v g e2 r⟩)
  · rename_i ds i
    obtain ⟨p, vs, rfl, h1, h2⟩ := hx
    obtain ⟨g, e, r⟩ := opt_of h
    obtain ⟨v, e1, e2⟩ := atI_dat h2 e
    exact .inr (.inl ⟨p, vs, i, v, rfl, hy, (h1.mono s).sq, e1, k v g e2 r⟩)
  · rename_i z i
    obtain ⟨h1, h2⟩ := h
    split at h2
    · rename_i c e
      exact .inr (.inr ⟨z, i, c, hx, hy, h1, e, k _ (.v _) rfl h2⟩)
    · exact h2.elim
  · exact h.elim
theorem de_ix (ha : DX X K ω e1 da) (hb : DB X K ω e2 db) (hs : PlainIx e2) (hK : ∀ j, (X j).K = K := by intro _; rfl) : DX X K ω (.Subscript e1 e2 pos) (dOp dIx da (dFlat db)) := by
  obtain ⟨ta, p1, l1⟩ := ha
  obtain ⟨tb, p2, l2⟩ := hb
  refine ⟨tOp (rIx K) ta tb, fun j => by rw [← hK j]; exact pe_ix ix_seq (p1 j) (p2 j) hs, fun B hω F a σ H Q R ok hd k => l1 B hω F a σ H _ _ ok hd fun v d F1 a1 H1 g1 q1 r1 => l2.flat B hω F1 a1 σ H1 _ _ g1.ok r1 fun w f F2 a2 H2 g2 q2 r2 => ?_⟩
  exact ix_dat g2.ok.fi.fh (q1.mono g2.ff) q2 r2 fun v g q r => k v g F2 a2 H2 (.trans ok g1 g2) q r
theorem db_ix (ha : DB X K ω e1 da) (hb : DB X K ω e2 db) (hs : PlainIx e2) (hK : ∀ j, (X j).K = K := by intro _; rfl) : DB X K ω (.Subscript e1 e2 pos) (dOp dIx da db) := by
  obtain ⟨ta, p1, l1⟩ := ha
  obtain ⟨tb, p2, l2⟩ := hb
  refine ⟨tOp (rIx K) ta tb, fun j => by rw [← hK j]; exact pe_ix ix_seq (p1 j) (p2 j) hs, fun B hω F a σ H Q R ok hd k => l1 B hω F a σ H _ _ ok hd fun v d F1 a1 H1 g1 q1 r1 => l2 B hω F1 a1 σ H1 _ _ g1.ok r1 fun w f F2 a2 H2 g2 q2 r2 => ?_⟩
  exact ix_dat hs_same (q1.mono g2.bs) q2 r2 fun v g q r => k v g F2 a2 H2 (.trans ok g1 g2) q r
/-- an item of what is one's own -/
def dIxO (i : Nat) (db : DEt) : DEt := fun a R => db a fun x a1 => match a1.at i, x with
  | .own (.lst ds), .v (.int j) => opt (atI ds j) fun d => R d a1
  | .val (.lst ds), .v (.int j) => opt (atI ds j) fun d => R d a1
  | .val (.tup ds), .v (.int j) => opt (atI ds j) fun d => R d a1
  | _, _ => False
/-! a slice -/
def dPart (db : DEt) : AS → (Option Int → AS → Prop) → Prop := fun a R => db a fun x a1 => match x with
  | .v (.int i) => R (some i) a1
  | _ => False
def dNoPart : AS → (Option Int → AS → Prop) → Prop := fun a R => R none a
def LPO (K : PySem.W.Frag) (ω : Wp) (t : TO) (dp : AS → (Option Int → AS → Prop) → Prop) : Prop := ∀ (B : Bs K), WOk B ω → ∀ (F : Hp) (a : AS) (σ : St) (H : Hp) (Q : Option Int → Hp → Prop) (R : Option Int → AS → Prop), Ok B F a σ H → dp a R → (∀ o F' a' H', Go B σ F a H F' a' H' → R o a' → Q o H') → t σ H Q
def DPO {ι : Type} (X : ι → Cx) (K : PySem.W.Frag) (ω : Wp) (e : Option Expr) (dp : AS → (Option Int → AS → Prop) → Prop) : Prop := ∃ t, (∀ j, PO (X j) e t) ∧ LPO K ω t dp
theorem dpo_none : DPO X K ω none dNoPart := ⟨_, fun _ => po_none, fun B hω F a σ H Q R ok hd k => k none F a H (.refl ok) hd⟩
theorem dpo_some (h : DB X K ω e db) : DPO X K ω (some e) (dPart db) := by
  obtain ⟨t, p, l⟩ := h
  refine ⟨_, fun j => po_some (p j), fun B hω F a σ H Q R ok hd k => l B hω F a σ H _ _ ok hd fun v d F1 a1 H1 g1 q1 r1 => ?_⟩
  split at r1
  · rename_i i
    exact ⟨i, q1, k _ F1 a1 H1 g1 r1⟩
  · exact r1.elim
def cutD (ds : List D) (lo hi : Option Int) : List D := (ds.drop (HT.sIx ds.length 0 lo)).take (HT.sIx ds.length ds.length hi - HT.sIx ds.length 0 lo)
theorem cut_dat {ds : List D} {vs : List V} {lo hi : Option Int} (q : DatL K H ds vs) : DatL K H (cutD ds lo hi) (cutV vs lo hi) := by
  unfold cutD cutV
  rw [q.len]
  exact (q.drop _).take _
variable {lo hi : Option Expr} {dlo dhi : AS → (Option Int → AS → Prop) → Prop} {p2 : Pos}
def dSlL (da : DEt) (dlo dhi : AS → (Option Int → AS → Prop) → Prop) : DEt := fun a R => da a fun x a1 => dlo a1 fun l a2 => dhi a2 fun h a3 => match x with
  | .lst ds => R (.lst (cutD ds l h)) a3
  | _ => False
theorem do_slL (ha : DX X K ω e1 da) (hl : DPO X K ω lo dlo) (hh : DPO X K ω hi dhi) (hK : ∀ j, (X j).K = K := by intro _; rfl) : DO X K ω (.Subscript e1 (.Slice lo hi none p2) pos) (dSlL da dlo dhi) := by
  obtain ⟨ta, p1, l1⟩ := ha
  obtain ⟨tl, p2, l2⟩ := hl
  obtain ⟨th, p3, l3⟩ := hh
  refine ⟨tSl (rSlL K) ta tl th, fun j => by rw [← hK j]; exact pe_slice sl_list (p1 j) (p2 j) (p3 j), fun B hω F a σ H Q R ok hd k => l1 B hω F a σ H _ _ ok hd fun v d F1 a1 H1 g1 q1 r1 => l2 B hω F1 a1 σ H1 _ _ g1.ok r1 fun l F2 a2 H2 g2 r2 => l3 B hω F2 a2 σ H2 _ _ g2.ok r2 fun h F3 a3 H3 g3 r3 => ?_⟩
  split at r3
  · rename_i ds
    obtain ⟨p, vs, rfl, h1, h2⟩ := q1
    have g := Go.trans ok g1 (.trans g1.ok g2 g3)
    have s13 : Same F1 F3 := g2.ff.trans g3.ff
    exact ⟨p, vs, rfl, SqL.of (g3.ok.fi.fh _ _ (s13 _ _ h1)), fun q hq => g.list ok hq (cut_dat (h2.mono s13)) r3 k⟩
  · exact r3.elim
def dSlT (da : DEt) (dlo dhi : AS → (Option Int → AS → Prop) → Prop) : DEt := fun a R => da a fun x a1 => dlo a1 fun l a2 => dhi a2 fun h a3 => match x with
  | .tup ds => ¬ (HT.sIx ds.length 0 l = 0 ∧ HT.sIx ds.length ds.length h = ds.length) ∧ R (.tup (cutD ds l h)) a3
  | _ => False
def dSlS (da : DEt) (dlo dhi : AS → (Option Int → AS → Prop) → Prop) : DEt := fun a R => da a fun x a1 => dlo a1 fun l a2 => dhi a2 fun h a3 => match x with
  | .v (.str z) => z.length ≤ sizeLine ∧ R (.v (.str (cutS z l h))) a3
  | _ => False
theorem de_slS (ha : DB X K ω e1 da) (hl : DPO X K ω lo dlo) (hh : DPO X K ω hi dhi) : DX X K ω (.Subscript e1 (.Slice lo hi none p2) pos) (dSlS da dlo dhi) := by
  obtain ⟨ta, p1, l1⟩ := ha
  obtain ⟨tl, p2, l2⟩ := hl
  obtain ⟨th, p3, l3⟩ := hh
  refine ⟨_, fun j => pe_slice sl_str (p1 j) (p2 j) (p3 j), fun B hω F a σ H Q R ok hd k => l1 B hω F a σ H _ _ ok hd fun v d F1 a1 H1 g1 q1 r1 => l2 B hω F1 a1 σ H1 _ _ g1.ok r1 fun l F2 a2 H2 g2 r2 => l3 B hω F2 a2 σ H2 _ _ g2.ok r2 fun h F3 a3 H3 g3 r3 => ?_⟩
  split at r3
  · rename_i z
    exact ⟨z, q1, r3.1, k _ (.v _) F3 a3 H3 (.trans ok g1 (.trans g1.ok g2 g3)) rfl r3.2⟩
  · exact r3.elim
/-! == and in -/
mutual
def pD : D → PyData
  | .v .non => .none
  | .v (.bl b) => .bool b
  | .v (.int i) => .int i
  | .v (.str x) => .str x
  | .tup ds => .tuple (pDs ds)
  | .ctup ds => .tuple (pDs ds)
  | .ftup ds => .tuple (pDs ds)
  | .lst ds => .list (pDs ds)
  | _ => .none
def pDs : List D → List PyData
  | [] => []
  | d :: ds => pD d :: pDs ds
end
mutual
/-- data that == compares: texts as they are written, no dicts, no objects -/
def isP : D → Bool
  | .v .non => true
  | .v (.bl _) => true
  | .v (.int _) => true
  | .v (.str x) => PyData.strOk x
  | .tup ds => isPs ds
  | .ctup ds => isPs ds
  | .ftup ds => isPs ds
  | .lst ds => isPs ds
  | _ => false
def isPs : List D → Bool
  | [] => true
  | d :: ds => isP d && isPs ds
end
mutual
theorem isP_lay : ∀ d : D, isP d = true → (pD d).canLay0 = true
  | .v .non, _ => rfl
  | .v (.bl _), _ => rfl
  | .v (.int _), _ => rfl
  | .v (.str _), h => h
  | .tup ds, h => isPs_lay ds h
  | .ctup ds, h => isPs_lay ds h
  | .ftup ds, h => isPs_lay ds h
  | .lst ds, h => isPs_lay ds h
  | .v (.byt _), h => nomatch h
  | .v (.flt _), h => nomatch h
  | .v (.ref _), h => nomatch h
  | .v (.ty _), h => nomatch h
  | .dK _, h => nomatch h
  | .dT _, h => nomatch h
  | .ins _ _, h => nomatch h
  | .ob _, h => nomatch h
theorem isPs_lay : ∀ ds : List D, isPs ds = true → PyData.canLayAll0 (pDs ds) = true
  | [], _ => rfl
  | d :: ds, h => by
    obtain ⟨h1, h2⟩ := Bool.and_eq_true_iff.mp (show (isP d && isPs ds) = true from h)
    exact Bool.and_eq_true_iff.mpr ⟨isP_lay d h1, isPs_lay ds h2⟩
end
mutual
theorem dat_dp (s : Same G H) : ∀ {d : D} {x : V}, isP d = true → Dat K G d x → Dp K H x (pD d)
  | .v .non, _, _, h => by cases (show _ = V.non from h); exact .non
  | .v (.bl _), _, _, h => by cases (show _ = V.bl _ from h); exact .bl _
  | .v (.int _), _, _, h => by cases (show _ = V.int _ from h); exact .int _
  | .v (.str _), _, _, h => by cases (show _ = V.str _ from h); exact .str _
  | .tup ds, _, p, ⟨_, _, e, h, l⟩ => by cases e; exact .tup (SqT.of (s _ _ h)) (datL_dp s p l)
  | .ctup ds, _, p, ⟨_, _, e, h, l⟩ => by cases e; exact .tup (same_seqT s h) (datL_dp s p l)
  | .ftup ds, _, p, ⟨_, _, e, h, l⟩ => by cases e; exact .tup (h.mono s).sq (datL_dp s p l)
  | .lst ds, _, p, ⟨_, _, e, h, l⟩ => by cases e; exact .lst (SqL.of (s _ _ h)) (datL_dp s p l)
  | .v (.byt _), _, h, _ => nomatch h
  | .v (.flt _), _, h, _ => nomatch h
  | .v (.ref _), _, h, _ => nomatch h
  | .v (.ty _), _, h, _ => nomatch h
  | .dK _, _, h, _ => nomatch h
  | .dT _, _, h, _ => nomatch h
  | .ins _ _, _, h, _ => nomatch h
  | .ob _, _, h, _ => nomatch h
theorem datL_dp (s : Same G H) : ∀ {ds : List D} {xs : List V}, isPs ds = true → DatL K G ds xs → DpAll K H xs (pDs ds)
  | [], _, _, h => by rw [show _ = [] from h]; exact .nil
  | d :: ds, _, p, ⟨v, r, e, h, l⟩ => by
    obtain ⟨h1, h2⟩ := Bool.and_eq_true_iff.mp (show (isP d && isPs ds) = true from p)
    rw [e]
    exact .cons (dat_dp s h1 h) (datL_dp s h2 l)
end
/-- data whose == is asked -/
def okP (d : D) : Prop := isP d = true ∧ (pD d).depth ≤ 64
theorem okP.shaped {d : D} (h : okP d) : SeqAt.shaped (pD d) = true := Bool.and_eq_true_iff.mpr ⟨isP_lay d h.1, decide_eq_true h.2⟩
def nb : Bool → Bool → Bool
  | false, b => b
  | true, b => !b
def dEqB (neg : Bool) : DR := fun d e R => match d, e with
  | .v x, .v y => scal x y = true ∧ R (.v (.bl (nb neg (decide (x = y)))))
  | d, e => okP d ∧ okP e ∧ R (.v (.bl (nb neg (PyData.eqv (pD d) (pD e)))))
theorem dop_eq (hu : ∀ j, (X j).A.units + 64 < cLine) (hK : ∀ j, (X j).K = K := by intro _; rfl) : DOpR X K ω (compareOp .Eq) (dEqB false) := by
  refine ⟨fun x y H Q => rEq x y H Q ∨ rEqD K x y H Q, fun j pins s σ H x y v u Q I rx ry h => ?_, fun B hω F a σ H x y d e Q R ok hx hy hd k => ?_⟩
  · rcases h with h | h
    · exact op_eq pins s σ H x y v u Q I rx ry h
    · rw [← hK j] at h
      exact op_eqD (hu j) pins s σ H x y v u Q I rx ry h
  · unfold dEqB at hd
    split at hd
    · rw [show x = _ from hx, show y = _ from hy]
      exact .inl ⟨hd.1, k _ (.v _) F H (.refl ok) rfl hd.2⟩
    · obtain ⟨p, q, r⟩ := hd
      exact .inr ⟨_, _, dat_dp hs_same p.1 hx, dat_dp hs_same q.1 hy, p.shaped, q.shaped, k _ (.v _) F H (.refl ok) rfl r⟩
theorem dop_ne (hu : ∀ j, (X j).A.units + 64 < cLine) (hK : ∀ j, (X j).K = K := by intro _; rfl) : DOpR X K ω (compareOp .NotEq) (dEqB true) := by
  refine ⟨fun x y H Q => rNe x y H Q ∨ rNeD K x y H Q, fun j pins s σ H x y v u Q I rx ry h => ?_, fun B hω F a σ H x y d e Q R ok hx hy hd k => ?_⟩
  · rcases h with h | h
    · exact op_ne pins s σ H x y v u Q I rx ry h
    · rw [← hK j] at h
      exact op_neD (hu j) pins s σ H x y v u Q I rx ry h
  · unfold dEqB at hd
    split at hd
    · rw [show x = _ from hx, show y = _ from hy]
      exact .inl ⟨hd.1, k _ (.v _) F H (.refl ok) rfl hd.2⟩
    · obtain ⟨p, q, r⟩ := hd
      exact .inr ⟨_, _, dat_dp hs_same p.1 hx, dat_dp hs_same q.1 hy, p.shaped, q.shaped, k _ (.v _) F H (.refl ok) rfl r⟩
/-- x in a list or tuple of flat things -/
def unV : List D → Option (List V)
  | [] => some []
  | .v x :: ds => (unV ds).map (x :: ·)
  | _ :: _ => none
theorem unV_of : ∀ {ds : List D} {xs : List V}, unV ds = some xs → ds = xs.map D.v
  | [], xs, h => by cases h; rfl
  | .v x :: ds, xs, h => by
    obtain ⟨ys, h1, rfl⟩ := Option.map_eq_some_iff.mp (show (unV ds).map (x :: ·) = some xs from h)
    rw [unV_of h1]
    rfl
theorem datL_flat : ∀ {xs vs : List V}, DatL K H (xs.map D.v) vs → vs = xs
  | [], _, h => h
  | x :: xs, _, ⟨v, r, e, h, l⟩ => by rw [e, show v = x from h, datL_flat l]
def seqD : D → Option (List D)
  | .lst ds => some ds
  | .tup ds => some ds
  | .ctup ds => some ds
  | .ftup ds => some ds
  | _ => none
def dIn (neg : Bool) : DR := fun d e R => match d, (seqD e).bind unV with
  | .v x, some ys => flatV x = true ∧ ys.all flatV = true ∧ R (.v (.bl (nb neg (inV x ys))))
  | d, _ => match e with
    | .lst es => okP d ∧ okP (.lst es) ∧ R (.v (.bl (nb neg ((pDs es).any fun z => PyData.eqv z (pD d)))))
    | _ => False
theorem seqD_dat {d : D} {ds : List D} {x : V} (e : seqD d = some ds) (s : Same G H) (h : Dat K G d x) : ∃ p vs, x = .ref p ∧ (SqL K H p vs ∨ SqT K H p vs) ∧ DatL K G ds vs := by
  cases d with
  | lst es =>
    cases e
    obtain ⟨p, vs, rfl, h1, h2⟩ := h
    exact ⟨p, vs, rfl, .inl (SqL.of (s _ _ h1)), h2⟩
  | tup es =>
    cases e
    obtain ⟨p, vs, rfl, h1, h2⟩ := h
    exact ⟨p, vs, rfl, .inr (SqT.of (s _ _ h1)), h2⟩
  | ctup es =>
    cases e
    obtain ⟨p, vs, rfl, h1, h2⟩ := h
    exact ⟨p, vs, rfl, .inr (same_seqT s h1), h2⟩
  | ftup es =>
    cases e
    obtain ⟨p, vs, rfl, h1, h2⟩ := h
    exact ⟨p, vs, rfl, .inr (h1.mono s).sq, h2⟩
  | _ => cases e
end
section
variable {K : PySem.W.Frag} {ω : Wp} {B : Bs K} {F F' F1 F2 G : Hp} {a a' a1 a2 : AS} {σ σ' : St} {H H' H1 H2 : Hp} {n : Int} {te : TE} {de da db : DEt} {ι : Type} {X : ι → Cx} {e e1 e2 : Expr} {es : List Expr} {pos : Pos} {dt : DTt} {dl dm : DAt}
theorem dop_in (hu : ∀ j, (X j).A.units + 65 < cLine) (hK : ∀ j, (X j).K = K := by intro _; rfl) : DOpR X K ω (compareOp .In) (dIn false) := by
  refine ⟨fun x y H Q => rIn K false x y H Q ∨ rInD K x y H Q, fun j pins s σ H x y v u Q I rx ry h => ?_, fun B hω F a σ H x y d e Q R ok hx hy hd k => ?_⟩
  · rcases h with h | h
    · rw [← hK j] at h
      exact op_in_seq pins s σ H x y v u Q I rx ry h
    · rw [← hK j] at h
      exact op_inD (hu j) pins s σ H x y v u Q I rx ry h
  · unfold dIn at hd
    split at hd
    · rename_i w ys e
      obtain ⟨ds, e1, e2⟩ := Option.bind_eq_some_iff.mp e
      obtain ⟨p, vs, rfl, h1, h2⟩ := seqD_dat e1 hs_same hy
      rw [unV_of e2] at h2
      cases datL_flat h2
      rw [show x = w from hx]
      exact .inl ⟨p, _, rfl, h1, hd.1, hd.2.1, k _ (.v _) F H (.refl ok) rfl hd.2.2⟩
    · split at hd
      · obtain ⟨p, q, r⟩ := hd
        exact .inr ⟨_, _, dat_dp hs_same p.1 hx, dat_dp (d := .lst _) hs_same q.1 hy, p.shaped, q.shaped, k _ (.v _) F H (.refl ok) rfl r⟩
      · exact hd.elim
theorem dop_notin (hu : ∀ j, (X j).A.units + 65 < cLine) (hK : ∀ j, (X j).K = K := by intro _; rfl) : DOpR X K ω (compareOp .NotIn) (dIn true) := by
  refine ⟨fun x y H Q => rIn K true x y H Q ∨ rNotInD K x y H Q, fun j pins s σ H x y v u Q I rx ry h => ?_, fun B hω F a σ H x y d e Q R ok hx hy hd k => ?_⟩
  · rcases h with h | h
    · rw [← hK j] at h
      exact op_notIn_seq pins s σ H x y v u Q I rx ry h
    · rw [← hK j] at h
      exact op_notInD (hu j) pins s σ H x y v u Q I rx ry h
  · unfold dIn at hd
    split at hd
    · rename_i w ys e
      obtain ⟨ds, e1, e2⟩ := Option.bind_eq_some_iff.mp e
      obtain ⟨p, vs, rfl, h1, h2⟩ := seqD_dat e1 hs_same hy
      rw [unV_of e2] at h2
      cases datL_flat h2
      rw [show x = w from hx]
      exact .inl ⟨p, _, rfl, h1, hd.1, hd.2.1, k _ (.v _) F H (.refl ok) rfl hd.2.2⟩
    · split at hd
      · obtain ⟨p, q, r⟩ := hd
        exact .inr ⟨_, _, dat_dp hs_same p.1 hx, dat_dp (d := .lst _) hs_same q.1 hy, p.shaped, q.shaped, k _ (.v _) F H (.refl ok) rfl r⟩
      · exact hd.elim
/-! is None -/
def dIsN (neg : Bool) : DR := fun d e R => match e with
  | .v .non => (match d with
    | .v .non => R (.v (.bl (nb neg true)))
    | .v (.ty _) => False
    | .ob _ => False
    | _ => R (.v (.bl (nb neg false))))
  | _ => False
theorem isN_dat {d : D} {x : V} {R : D → Prop} {neg : Bool} (hx : Dat K G d x) (h : dIsN neg d (.v .non) R) : R (.v (.bl (nb neg (decide (x = .non))))) := by
  cases d with
  | v y =>
    rw [show x = y from hx]
    cases y with
    | ty _ => exact h.elim
    | _ => exact h
  | tup ds => obtain ⟨_, _, rfl, _⟩ := hx; exact h
  | ctup ds => obtain ⟨_, _, rfl, _⟩ := hx; exact h
  | ftup ds => obtain ⟨_, _, rfl, _⟩ := hx; exact h
  | lst ds => obtain ⟨_, _, rfl, _⟩ := hx; exact h
  | dK _ => obtain ⟨_, _, rfl, _⟩ := hx; exact h
  | dT _ => obtain ⟨_, _, rfl, _⟩ := hx; exact h
  | ins _ _ => obtain ⟨_, _, _, rfl, _⟩ := hx; exact h
  | ob _ => exact h.elim
theorem isN_e {d e : D} {R : D → Prop} {neg : Bool} (h : dIsN neg d e R) : e = .v .non := by
  unfold dIsN at h
  split at h
  · rfl
  · exact h.elim
theorem dop_isN : DOpR X K ω (compareOp .Is) (dIsN false) := ⟨_, fun _ => op_isN, fun B hω F a σ H x y d e Q R ok hx hy hd k => by
  cases isN_e hd
  exact ⟨hy, k _ (.v _) F H (.refl ok) rfl (isN_dat hx hd)⟩⟩
theorem dop_notN : DOpR X K ω (compareOp .IsNot) (dIsN true) := ⟨_, fun _ => op_notN, fun B hω F a σ H x y d e Q R ok hx hy hd k => by
  cases isN_e hd
  exact ⟨hy, k _ (.v _) F H (.refl ok) rfl (isN_dat hx hd)⟩⟩
/-! list operators: what goes in stays -/
def LRO (K : PySem.W.Frag) (ω : Wp) (r : R2) (dr : DR) : Prop := ∀ (B : Bs K), WOk B ω → ∀ (F : Hp) (a : AS) (σ : St) (H : Hp) (x y : V) (d e : D) (Q : VK) (R : D → Prop), Ok B F a σ H → Dat K F d x → Dat K F e y → dr d e R →
  (∀ (p : Addr) (vs : List V) (ds : List D), H p = none → DatL K F ds vs → R (.lst ds) → Q (.ref p) (upd H p (.lst vs))) → r x y H Q
def dCat : DR := fun d e R => match d, e with
  | .lst ds, .lst es => ds.length + es.length ≤ sizeLine ∧ R (.lst (ds ++ es))
  | _, _ => False
theorem lr_cat : LRO K ω rCat dCat := fun B hω F a σ H x y d e Q R ok hx hy hd k => by
  unfold dCat at hd
  split at hd
  · obtain ⟨p, vs, rfl, h1, h2⟩ := hx
    obtain ⟨q, ws, rfl, h3, h4⟩ := hy
    exact ⟨p, q, vs, ws, rfl, rfl, ok.fi.fh _ _ h1, ok.fi.fh _ _ h3, by rw [h2.len, h4.len]; exact hd.1, fun u hu => k u _ _ hu (h2.app h4) hd.2⟩
  · exact hd.elim
def repD (ds : List D) : Nat → List D
  | 0 => []
  | n + 1 => ds ++ repD ds n
theorem do_op {op : Operator} {dr : DR} {r : R2} (ho : ∀ j, OpR (X j) (binaryOp op) r) (l : LRO K ω r dr) (ha : DX X K ω e1 da) (hb : DX X K ω e2 db) : DO X K ω (.BinOp e1 op e2 pos) (dOp dr da db) := by
  obtain ⟨ta, p1, l1⟩ := ha
  obtain ⟨tb, p2, l2⟩ := hb
  refine ⟨_, fun j => pe_op (ho j) (p1 j) (p2 j), fun B hω F a σ H Q R ok hd k => l1 B hω F a σ H _ _ ok hd fun x d F1 a1 H1 g1 q1 r1 => l2 B hω F1 a1 σ H1 _ _ g1.ok r1 fun y e F2 a2 H2 g2 q2 r2 => ?_⟩
  exact l B hω F2 a2 σ H2 x y d e Q _ g2.ok (q1.mono g2.ff) q2 r2 fun p vs ds hp hds hR => Go.list ok (.trans ok g1 g2) hp hds hR k
theorem do_cat (ha : DX X K ω e1 da) (hb : DX X K ω e2 db) : DO X K ω (.BinOp e1 .Add e2 pos) (dOp dCat da db) := do_op (fun _ => op_cat) lr_cat ha hb
def dCatT : DR := fun d e R => match d, e with
  | .tup ds, .tup es => ds ≠ [] ∧ es ≠ [] ∧ ds.length + es.length ≤ sizeLine ∧ R (.tup (ds ++ es))
  | _, _ => False
/-! built-in functions: what goes in may be borrowed, what comes out stays -/
abbrev DC := List D → (D → Prop) → Prop
def LCl (K : PySem.W.Frag) (ω : Wp) (r : List V → Hp → VK → Prop) (dc : DC) : Prop := ∀ (B : Bs K), WOk B ω → ∀ (F : Hp) (a : AS) (σ : St) (H : Hp) (xs : List V) (ds : List D) (Q : VK) (R : D → Prop), Ok B F a σ H → DatL K (Hs B.sp H) ds xs → dc ds R →
  (∀ v f F' H', Go B σ F a H F' a H' → Dat K F' f v → R f → Q v H') → r xs H Q
def DCl {ι : Type} (X : ι → Cx) (K : PySem.W.Frag) (ω : Wp) (f : Value) (dc : DC) : Prop := ∃ r, (∀ j, CallR (X j) f r) ∧ LCl K ω r dc
def dCB (dc : DC) (dl : DAt) : DEt := fun a R => dl a fun ds a' => dc ds fun d => R d a'
theorem de_callB {id : String} {x : Str} {p : Pos} {dc : DC} (hc : DCl X K ω (.builtin id) dc) (hg : ∀ j, Gl (X j) x) (hm : ∀ j, (X j).mg x = none) (hv : bootBuiltins x = some (.builtin id)) (ha : DAB X K ω (e :: es) dl) (hn : x ≠ "__name__" := by decide) (hdb : (x == ("__debug__" : Str)) = false := by decide)
    (he : ∀ j, starEach (e :: es) (X j).env = (false, eval e (X j).env) :: starEach es (X j).env := by intro _; rfl) (hpl : ∀ j, (backTo pos (starEach es (X j).env)).any (·.1) = false := by intro _; rfl) : DX X K ω (.Call (.Name x p) (e :: es) [] pos) (dCB dc dl) := by
  obtain ⟨r, h1, l1⟩ := hc
  obtain ⟨t, h2, l2⟩ := ha
  refine ⟨_, fun j => pe_callB (h1 j) (hg j) (hm j) hv (h2 j) hn hdb (he j) (hpl j), fun B hω F a σ H Q R ok hd k => l2 B hω F a σ H _ _ ok hd fun vs ds F1 a1 H1 g1 q1 r1 => ?_⟩
  exact l1 B hω F1 a1 σ H1 vs ds Q _ g1.ok q1 r1 fun v f F2 H2 g2 q2 r2 => k v f F2 a1 H2 (.trans ok g1 g2) q2 r2
theorem de_callTy {T : String} {x : Str} {p : Pos} {dc : DC} (hc : DCl X K ω (.type T) dc) (hg : ∀ j, Gl (X j) x) (hm : ∀ j, (X j).mg x = none) (hv : bootBuiltins x = some (.type T)) (ha : DAB X K ω (e :: es) dl) (hn : x ≠ "__name__" := by decide) (hdb : (x == ("__debug__" : Str)) = false := by decide)
    (he : ∀ j, starEach (e :: es) (X j).env = (false, eval e (X j).env) :: starEach es (X j).env := by intro _; rfl) (hpl : ∀ j, (backTo pos (starEach es (X j).env)).any (·.1) = false := by intro _; rfl) : DX X K ω (.Call (.Name x p) (e :: es) [] pos) (dCB dc dl) := by
  obtain ⟨r, h1, l1⟩ := hc
  obtain ⟨t, h2, l2⟩ := ha
  refine ⟨_, fun j => pe_callTy (h1 j) (hg j) (hm j) hv (h2 j) hn hdb (he j) (hpl j), fun B hω F a σ H Q R ok hd k => l2 B hω F a σ H _ _ ok hd fun vs ds F1 a1 H1 g1 q1 r1 => ?_⟩
  exact l1 B hω F1 a1 σ H1 vs ds Q _ g1.ok q1 r1 fun v f F2 H2 g2 q2 r2 => k v f F2 a1 H2 (.trans ok g1 g2) q2 r2
/-! a new list out of what stays -/
def LClO (K : PySem.W.Frag) (ω : Wp) (r : List V → Hp → VK → Prop) (dc : DC) : Prop := ∀ (B : Bs K), WOk B ω → ∀ (F : Hp) (a : AS) (σ : St) (H : Hp) (xs : List V) (ds : List D) (Q : VK) (R : D → Prop), Ok B F a σ H → DatL K F ds xs → dc ds R →
  (∀ (p : Addr) (vs : List V) (ds : List D), H p = none → DatL K F ds vs → R (.lst ds) → Q (.ref p) (upd H p (.lst vs))) → r xs H Q
theorem do_callTy {T : String} {x : Str} {p : Pos} {dc : DC} {r : List V → Hp → VK → Prop} (h1 : ∀ j, CallR (X j) (.type T) r) (l1 : LClO K ω r dc) (hg : ∀ j, Gl (X j) x) (hm : ∀ j, (X j).mg x = none) (hv : bootBuiltins x = some (.type T)) (ha : DAE X K ω (e :: es) dl) (hn : x ≠ "__name__" := by decide) (hdb : (x == ("__debug__" : Str)) = false := by decide)
    (he : ∀ j, starEach (e :: es) (X j).env = (false, eval e (X j).env) :: starEach es (X j).env := by intro _; rfl) (hpl : ∀ j, (backTo pos (starEach es (X j).env)).any (·.1) = false := by intro _; rfl) : DO X K ω (.Call (.Name x p) (e :: es) [] pos) (dCB dc dl) := by
  obtain ⟨t, h2, l2⟩ := ha
  refine ⟨_, fun j => pe_callTy (h1 j) (hg j) (hm j) hv (h2 j) hn hdb (he j) (hpl j), fun B hω F a σ H Q R ok hd k => l2 B hω F a σ H _ _ ok hd fun vs ds F1 a1 H1 g1 q1 r1 => ?_⟩
  exact l1 B hω F1 a1 σ H1 vs ds Q _ g1.ok q1 r1 fun p ws fs hp hds hR => Go.list ok g1 hp hds hR k
def dListOf : DC := fun ds R => match ds with
  | [d] => (match seqD d with
    | some es => R (.lst es)
    | none => False)
  | _ => False
theorem do_list {x : Str} {p : Pos} (hg : ∀ j, Gl (X j) x) (hm : ∀ j, (X j).mg x = none) (hv : bootBuiltins x = some (.type "list")) (ha : DAE X K ω (e :: es) dl) (hn : x ≠ "__name__" := by decide) (hdb : (x == ("__debug__" : Str)) = false := by decide)
    (he : ∀ j, starEach (e :: es) (X j).env = (false, eval e (X j).env) :: starEach es (X j).env := by intro _; rfl) (hpl : ∀ j, (backTo pos (starEach es (X j).env)).any (·.1) = false := by intro _; rfl) (hK : ∀ j, (X j).K = K := by intro _; rfl) : DO X K ω (.Call (.Name x p) (e :: es) [] pos) (dCB dListOf dl) := by
  refine do_callTy (r := fun xs H Q => ∃ p ys, xs = [.ref p] ∧ (SqL K H p ys ∨ SqT K H p ys) ∧ ∀ l, H l = none → Q (.ref l) (upd H l (.lst ys))) (fun j => by rw [← hK j]; exact call_list_of) (fun B hω F a σ H xs ds Q R ok hx hd k => ?_) hg hm hv ha hn hdb he hpl
  unfold dListOf at hd
  split at hd
  · rename_i d
    split at hd
    · rename_i es e
      obtain ⟨v, r, rfl, h1, h2⟩ := hx
      cases (show r = [] from h2)
      obtain ⟨q, vs, rfl, h3, h4⟩ := seqD_dat e ok.fi.fh h1
      exact ⟨q, vs, rfl, h3, fun l hl => k l vs es hl h4 hd⟩
    · exact hd.elim
  · exact hd.elim
/-- tuple(list), tuple(tuple): what goes in stays -/
def dTupOf (dl : DAt) : DEt := fun a R => dl a fun ds a' => match ds with
  | [.lst es] => R (.tup es) a'
  | [.tup es] => R (.tup es) a'
  | [.ctup es] => R (.ctup es) a'
  | [.ftup es] => R (.ftup es) a'
  | _ => False
theorem de_tuple {x : Str} {p : Pos} (hg : ∀ j, Gl (X j) x) (hm : ∀ j, (X j).mg x = none) (hv : bootBuiltins x = some (.type "tuple")) (ha : DAE X K ω (e :: es) dl) (hn : x ≠ "__name__" := by decide) (hdb : (x == ("__debug__" : Str)) = false := by decide)
    (he : ∀ j, starEach (e :: es) (X j).env = (false, eval e (X j).env) :: starEach es (X j).env := by intro _; rfl) (hpl : ∀ j, (backTo pos (starEach es (X j).env)).any (·.1) = false := by intro _; rfl) (hK : ∀ j, (X j).K = K := by intro _; rfl) : DX X K ω (.Call (.Name x p) (e :: es) [] pos) (dTupOf dl) := by
  obtain ⟨t, h2, l2⟩ := ha
  refine ⟨tCB (fun xs H Q => ∃ p ys, xs = [.ref p] ∧ ((SqL K H p ys ∧ ∀ l, H l = none → Q (.ref l) (upd H l (.tup ys))) ∨ (SqT K H p ys ∧ Q (.ref p) H))) t, fun j => by rw [← hK j]; exact pe_callTy call_tuple_of (hg j) (hm j) hv (h2 j) hn hdb (he j) (hpl j), fun B hω F a σ H Q R ok hd k => l2 B hω F a σ H _ _ ok hd fun vs ds F1 a1 H1 g1 q1 r1 => ?_⟩
  split at r1
  · rename_i es
    obtain ⟨v, r, rfl, h1, h2⟩ := q1
    cases (show r = [] from h2)
    obtain ⟨q, ws, rfl, h3, h4⟩ := h1
    refine ⟨q, ws, rfl, .inl ⟨SqL.of (g1.ok.fi.fh _ _ h3), fun l hl => ?_⟩⟩
    have g2 := g1.ok.new (o := .tup ws) hl
    exact k _ (.tup es) _ _ _ (.trans ok g1 g2) ⟨l, ws, rfl, upd_same, h4.mono g2.ff⟩ r1
  · rename_i es
    obtain ⟨v, r, rfl, h1, h2⟩ := q1
    cases (show r = [] from h2)
    obtain ⟨q, ws, rfl, h3, h4⟩ := h1
    exact ⟨q, ws, rfl, .inr ⟨SqT.of (g1.ok.fi.fh _ _ h3), k _ (.tup es) F1 a1 H1 g1 ⟨q, ws, rfl, h3, h4⟩ r1⟩⟩
  · rename_i es
    obtain ⟨v, r, rfl, h1, h2⟩ := q1
    cases (show r = [] from h2)
    obtain ⟨q, ws, rfl, h3, h4⟩ := h1
    exact ⟨q, ws, rfl, .inr ⟨same_seqT g1.ok.fi.fh h3, k _ (.ctup es) F1 a1 H1 g1 ⟨q, ws, rfl, h3, h4⟩ r1⟩⟩
  · rename_i es
    obtain ⟨v, r, rfl, h1, h2⟩ := q1
    cases (show r = [] from h2)
    obtain ⟨q, ws, rfl, h3, h4⟩ := h1
    exact ⟨q, ws, rfl, .inr ⟨(h3.mono g1.ok.fi.fh).sq, k _ (.ftup es) F1 a1 H1 g1 ⟨q, ws, rfl, h3, h4⟩ r1⟩⟩
  · exact r1.elim
def dLen : DC := fun ds R => match ds with
  | [.lst es] => R (.v (.int (es.length : Nat)))
  | [.tup es] => R (.v (.int (es.length : Nat)))
  | [.ctup es] => R (.v (.int (es.length : Nat)))
  | [.ftup es] => R (.v (.int (es.length : Nat)))
  | [.v (.str z)] => z.length ≤ sizeLine ∧ R (.v (.int (z.length : Nat)))
  | [.dK kvs] => R (.v (.int (kvs.length : Nat)))
  | _ => False
theorem dc_len (hK : ∀ j, (X j).K = K := by intro _; rfl) : DCl X K ω (.builtin "len") dLen := by
  refine ⟨fun xs H Q => (∃ x n, xs = [x] ∧ LenV K x H n ∧ Q (.int n) H) ∨ ∃ a kvs, xs = [V.ref a] ∧ H a = some (.dK kvs) ∧ Q (.int kvs.length) H, fun j pins s σ H xs us Q I r h => h.elim (fun h => call_len pins s σ H xs us Q I r (by rw [hK j]; exact h)) fun h => call_lenD pins s σ H xs us Q I r h, fun B hω F a σ H xs ds Q R ok hx hd k => ?_⟩
  unfold dLen at hd
  split at hd
  · obtain ⟨v, r, rfl, h1, h2⟩ := hx
    cases (show r = [] from h2)
    obtain ⟨q, ws, rfl, h3, h4⟩ := h1
    exact .inl ⟨_, ws.length, rfl, .inl ⟨ws, SqL.of (hs_same _ _ h3), rfl⟩, k _ (.v _) F H (.refl ok) rfl (by rw [h4.len]; exact hd)⟩
  · obtain ⟨v, r, rfl, h1, h2⟩ := hx
    cases (show r = [] from h2)
    obtain ⟨q, ws, rfl, h3, h4⟩ := h1
    exact .inl ⟨_, ws.length, rfl, .inr ⟨ws, SqT.of (hs_same _ _ h3), rfl⟩, k _ (.v _) F H (.refl ok) rfl (by rw [h4.len]; exact hd)⟩
  · obtain ⟨v, r, rfl, h1, h2⟩ := hx
    cases (show r = [] from h2)
    obtain ⟨q, ws, rfl, h3, h4⟩ := h1
    exact .inl ⟨_, ws.length, rfl, .inr ⟨ws, same_seqT hs_same h3, rfl⟩, k _ (.v _) F H (.refl ok) rfl (by rw [h4.len]; exact hd)⟩
  · obtain ⟨v, r, rfl, h1, h2⟩ := hx
    cases (show r = [] from h2)
    obtain ⟨q, ws, rfl, h3, h4⟩ := h1
    exact .inl ⟨_, ws.length, rfl, .inr ⟨ws, (h3.mono hs_same).sq, rfl⟩, k _ (.v _) F H (.refl ok) rfl (by rw [h4.len]; exact hd)⟩
  · obtain ⟨v, r, rfl, h1, h2⟩ := hx
    cases (show r = [] from h2)
    exact .inl ⟨_, _, rfl, by rw [show v = _ from h1]; exact ⟨hd.1, rfl⟩, k _ (.v _) F H (.refl ok) rfl hd.2⟩
  · obtain ⟨v, r, rfl, h1, h2⟩ := hx
    cases (show r = [] from h2)
    obtain ⟨q, ws, rfl, h3, h4⟩ := h1
    exact .inr ⟨q, _, rfl, hs_same _ _ h3, k _ (.v _) F H (.refl ok) rfl (by rw [← (datK_pk.mp h4).length]; exact hd)⟩
  · exact hd.elim
/-- a built-in on flat things -/
theorem dc_flat {f : Value} {r : List V → Hp → VK → Prop} {dc : DC} (h : ∀ j, CallR (X j) f r) (q : ∀ ds R, dc ds R → ∃ xs w, ds = xs.map D.v ∧ R (.v w) ∧ ∀ H Q, Q w H → r xs H Q) : DCl X K ω f dc := ⟨r, h, fun B hω F a σ H xs ds Q R ok hx hd k => by
  obtain ⟨ys, w, rfl, hR, z⟩ := q ds R hd
  cases datL_flat hx
  exact z H Q (k w (.v w) F H (.refl ok) rfl hR)⟩
def dI1 (g : Int → V) : DC := fun ds R => match ds with
  | [.v (.int i)] => R (.v (g i))
  | _ => False
def dI2 (g : Int → Int → V) : DC := fun ds R => match ds with
  | [.v (.int i), .v (.int j)] => R (.v (g i j))
  | _ => False
theorem dc_abs : DCl X K ω (.builtin "abs") (dI1 fun i => .int (if i < 0 then -i else i)) := dc_flat (fun _ => call_abs) fun ds R h => by
  unfold dI1 at h
  split at h
  · exact ⟨[.int _], _, rfl, h, fun H Q q => ⟨_, rfl, q⟩⟩
  · exact h.elim
theorem dc_max2 (hc : ∀ j, (X j).calm = true) : DCl X K ω (.builtin "max") (dI2 fun i j => .int (if j > i then j else i)) := dc_flat (fun j => call_max2 (hc j)) fun ds R h => by
  unfold dI2 at h
  split at h
  · exact ⟨[.int _, .int _], _, rfl, h, fun H Q q => ⟨_, _, rfl, q⟩⟩
  · exact h.elim
theorem dc_min2 (hc : ∀ j, (X j).calm = true) : DCl X K ω (.builtin "min") (dI2 fun i j => .int (if j < i then j else i)) := dc_flat (fun j => call_min2 (hc j)) fun ds R h => by
  unfold dI2 at h
  split at h
  · exact ⟨[.int _, .int _], _, rfl, h, fun H Q q => ⟨_, _, rfl, q⟩⟩
  · exact h.elim
def dInt1 : DC := fun ds R => match ds with
  | [.v (.int i)] => R (.v (.int i))
  | [.v (.bl b)] => R (.v (.int (if b then 1 else 0)))
  | _ => False
theorem dc_int : DCl X K ω (.type "int") dInt1 := dc_flat (fun _ => call_int1) fun ds R h => by
  unfold dInt1 at h
  split at h
  · exact ⟨[.int _], _, rfl, h, fun H Q q => .inl ⟨_, rfl, q⟩⟩
  · exact ⟨[.bl _], _, rfl, h, fun H Q q => .inr ⟨_, rfl, q⟩⟩
  · exact h.elim
/-- any, all: of a list of truths -/
def unB : List D → Option (List Bool)
  | [] => some []
  | .v (.bl b) :: ds => (unB ds).map (b :: ·)
  | _ :: _ => none
theorem unB_of : ∀ {ds : List D} {xs : List Bool}, unB ds = some xs → ds = (xs.map V.bl).map D.v
  | [], xs, h => by cases h; rfl
  | .v (.bl b) :: ds, xs, h => by
    obtain ⟨ys, h1, rfl⟩ := Option.map_eq_some_iff.mp (show (unB ds).map (b :: ·) = some xs from h)
    rw [unB_of h1]
    rfl
def dBs (g : List Bool → Bool) : DC := fun ds R => match ds with
  | [.lst es] => (match unB es with
    | some bs => R (.v (.bl (g bs)))
    | none => False)
  | _ => False
theorem bs_of {r : List V → Hp → VK → Prop} {g : List Bool → Bool} (h : ∀ a bs H Q, SqL K H a (bs.map V.bl) → Q (V.bl (g bs)) H → r [.ref a] H Q) : LCl K ω r (dBs g) := fun B hω F a σ H xs ds Q R ok hx hd k => by
  unfold dBs at hd
  split at hd
  · rename_i es
    split at hd
    · rename_i bs e
      obtain ⟨v, r, rfl, h1, h2⟩ := hx
      cases (show r = [] from h2)
      obtain ⟨q, ws, rfl, h3, h4⟩ := h1
      rw [unB_of e] at h4
      cases datL_flat h4
      exact h q bs H Q (SqL.of (hs_same _ _ h3)) (k _ (.v _) F H (.refl ok) rfl hd)
    · exact hd.elim
  · exact hd.elim
theorem dc_any (hc : ∀ j, (X j).calm = true) (hK : ∀ j, (X j).K = K := by intro _; rfl) : DCl X K ω (.builtin "any") (dBs fun bs => bs.any id) := ⟨rAny K, fun j => by rw [← hK j]; exact cr_any (hc j), bs_of fun a bs H Q h q => ⟨a, bs, rfl, h, q⟩⟩
theorem dc_all (hc : ∀ j, (X j).calm = true) (hK : ∀ j, (X j).K = K := by intro _; rfl) : DCl X K ω (.builtin "all") (dBs fun bs => bs.all id) := ⟨rAll K, fun j => by rw [← hK j]; exact cr_all (hc j), bs_of fun a bs H Q h q => ⟨a, bs, rfl, h, q⟩⟩
/-- a list of ints -/
def unI : List D → Option (List Int)
  | [] => some []
  | .v (.int i) :: ds => (unI ds).map (i :: ·)
  | _ :: _ => none
theorem unI_of : ∀ {ds : List D} {xs : List Int}, unI ds = some xs → ds = (xs.map V.int).map D.v
  | [], xs, h => by cases h; rfl
  | .v (.int i) :: ds, xs, h => by
    obtain ⟨ys, h1, rfl⟩ := Option.map_eq_some_iff.mp (show (unI ds).map (i :: ·) = some xs from h)
    rw [unI_of h1]
    rfl
end
/-! ### a def over data -/
abbrev DSp := Option Addr → List D → Int → (D → Int → Prop) → Prop
/-- behind a call -/
def Post (K : PySem.W.Frag) (sp : Option Addr) (F H : Hp) (Q : VK) (d : D) (n' : Int) : Prop := ∀ (v : V) (F' H' : Hp), Same F F' → Same F' H' → (∀ b o, sp ≠ some b → H b = some o → H' b = some o) → (∀ b, F' b ≠ none → F b ≠ none ∨ H b = none ∨ ImmA F' b) →
  (∀ p, sp = some p → F' p = none ∧ Src H' p n') → Dat K F' d v → Q v H'
def up (K : PySem.W.Frag) (dsp : DSp) : Sp := fun vs H Q _ => ∃ (sp : Option Addr) (F : Hp) (ds : List D) (n : Int), Same F H ∧ (∀ p, sp = some p → F p = none ∧ Src H p n) ∧ DatL K F ds vs ∧ dsp sp ds n (Post K sp F H Q)
def dstart (N : List Str) (ds : List D) (n : Int) (sp : Option Addr) : AS := ⟨ds.map Sl.val ++ List.replicate (N.length - ds.length) .emp, n, sp⟩
theorem ok_start {K : PySem.W.Frag} {sp : Option Addr} {F H : Hp} {ds : List D} {vs : List V} {n : Int} (N : List Str) (s : Same F H) (src : ∀ p, sp = some p → F p = none ∧ Src H p n) (L : DatL K F ds vs) : Ok (K := K) ⟨sp, H, F, none⟩ F (dstart N ds n sp) (L2.start N vs) H := by
  have hl := L.len
  have own : ∀ {i : Nat} {d : D}, ¬ (dstart N ds n sp).sl[i]? = some (Sl.own d) := fun {i d} e => by
    unfold dstart at e
    rcases List.mem_append.mp (List.mem_of_getElem? e) with q | q
    · obtain ⟨x, _, z⟩ := List.mem_map.mp q
      cases z
    · cases (List.mem_replicate.mp q).2
  refine ⟨⟨s, Same.refl F, fun b h => .inl h, fun b o h _ => h, fun p e => ?_⟩, rfl, ?_, fun i d e => ?_, fun i d e => (own e).elim, fun i j p d e h _ _ _ => (own h).elim, fun _ e => nomatch e⟩
  · obtain ⟨h1, h2⟩ := src p e
    obtain ⟨xs, q⟩ := h2.at
    exact ⟨h1, by show H p ≠ none; rw [q]; exact fun z => (nomatch z), h2⟩
  · unfold dstart L2.start
    rw [List.length_append, List.length_append, List.length_map, List.length_map, List.length_replicate, List.length_replicate, hl]
  · unfold dstart at e
    by_cases hi : i < ds.length
    · rw [List.getElem?_append_left (by rw [List.length_map]; exact hi), List.getElem?_map] at e
      obtain ⟨x, h1, h2⟩ := Option.map_eq_some_iff.mp e
      cases h2
      obtain ⟨v, h3, h4⟩ := L.get h1
      refine ⟨v, ?_, h4⟩
      unfold L2.start
      rw [List.getElem?_append_left (by rw [List.length_map, hl]; exact hi), List.getElem?_map, h3]
      rfl
    · rw [List.getElem?_append_right (by rw [List.length_map]; omega)] at e
      cases (List.mem_replicate.mp (List.mem_of_getElem? e)).2
def wp0 : Wp := ⟨fun _ _ _ _ => False, fun _ _ _ _ => False, fun _ => True, false⟩
theorem wok0 {K : PySem.W.Frag} {B : Bs K} (h : B.self = none) : WOk B wp0 := ⟨trivial, fun _ => h, fun _ _ _ _ _ _ _ _ _ z => z.elim⟩
theorem d_run {K : PySem.W.Frag} {sp : Option Addr} {F H : Hp} {ds : List D} {vs : List V} {n : Int} {Q : VK} {X : Cx} {body : List Stmt} {N : List Str} {d : DSt} (h : DSs (fun _ : Unit => X) K wp0 body d) (s : Same F H) (src : ∀ p, sp = some p → F p = none ∧ Src H p n) (L : DatL K F ds vs)
    {sl : List Sl} (hsl : sl = (dstart N ds n sp).sl) (hd : d { nx := fun a => Post K sp F H Q (.v .non) a.n, rt := Post K sp F H Q } ⟨sl, n, sp⟩) : ∃ t, PSs X body t ∧ t { nx := fun _ H' => Q .non H', rt := Q } (L2.start N vs) H := by
  obtain ⟨t, p, l⟩ := h
  subst hsl
  refine ⟨t, p (), l ⟨sp, H, F, none⟩ (wok0 rfl) _ _ F _ _ H (ok_start N s src L) hd ⟨fun F' a' σ' H' ok s h => ?_, fun v d n F' H' f s q h => ?_, fun _ _ _ _ _ _ h => h.elim, fun _ _ _ _ _ _ h => h.elim⟩⟩
  · exact h .non F' H' s ok.fi.fh (fun b o n h => ok.fi.fm b o h n) (fun b h => ok.fi.fr b h) (fun p e => ⟨(ok.fi.sr p e).1, (ok.fi.sr p e).2.2⟩) rfl
  · exact h v F' H' s f.fh (fun b o n h => f.fm b o h n) (fun b h => f.fr b h) (fun p e => ⟨(f.sr p e).1, (f.sr p e).2.2⟩) q
theorem up_len {K : PySem.W.Frag} {dsp : DSp} {m : Nat} (h : ∀ sp ds n R, dsp sp ds n R → ds.length = m) (vs : List V) (H : Hp) (Q : VK) (E : XK) : up K dsp vs H Q E → vs.length = m := fun ⟨sp, F, ds, n, _, _, L, q⟩ => by
  rw [L.len]
  exact h sp ds n _ q
section
variable {K : PySem.W.Frag} {ω : Wp} {B : Bs K} {F F' F1 F2 G : Hp} {a a' a1 a2 : AS} {σ σ' : St} {H H' H1 H2 : Hp} {n : Int} {te : TE} {de da db : DEt} {ι : Type} {X : ι → Cx} {e e1 e2 : Expr} {es : List Expr} {pos : Pos} {dt : DTt} {dl dm : DAt}
/-- what follows a call: with the caller's source -/
theorem Go.call (ok : Ok B F a σ H) {n' : Int} (h1 : Same F F') (h2 : Same F' H') (h3 : ∀ b o, B.sp ≠ some b → H b = some o → H' b = some o) (h4 : ∀ b, F' b ≠ none → F b ≠ none ∨ H b = none ∨ ImmA F' b) (h5 : ∀ p, B.sp = some p → F' p = none ∧ Src H' p n') : Go B σ F a H F' ⟨a.sl, n', a.sp⟩ H' := by
  refine ⟨⟨⟨h2, ok.fi.ff.trans h1, fun b z => ?_, fun b o z w => h3 b o w (ok.fi.fm b o z w), fun p e => ⟨(h5 p e).1, (ok.fi.sr p e).2.1, (h5 p e).2⟩⟩, ok.es, ok.len, fun i d e => ?_, fun i d e => ?_, ok.ds, ok.fx⟩, h1, h3, fun b z => (h4 b z).imp id fun q => q.imp id .inr, fun b z => z⟩
  · rcases h4 b z with q | q | q
    · exact (ok.fi.fr b q).imp id fun q => q.imp id fun q => q.mono h1
    · exact .inr (.inl (ok.here q).2.1)
    · exact .inr (.inr q)
  · obtain ⟨v, e1, e2⟩ := ok.va i d e
    exact ⟨v, e1, e2.mono h1⟩
  · obtain ⟨p, o, e1, e2, e3, e4, e5⟩ := ok.ow i d e
    refine ⟨p, o, e1, h3 p o (fun z => (ok.fi.sr p z).2.1 e4) e2, ?_, e4, e5.mono h1⟩
    cases q : F' p with
    | none => rfl
    | some u =>
      rcases h4 p (by rw [q]; exact fun z => (nomatch z)) with w | w | ⟨o', w1, w2⟩
      · exact absurd e3 w
      · rw [e2] at w
        cases w
      · have z := h3 p o (fun z => (ok.fi.sr p z).2.1 e4) e2
        rw [h2 p o' w1] at z
        cases z
        rw [e5.imm] at w2
        cases w2
def dCall (dsp : DSp) (dl : DAt) : DEt := fun a R => dl a fun ds a' => dsp a'.sp ds a'.n fun d n' => R d ⟨a'.sl, n', a'.sp⟩
/-- a def that has no source -/
def dCall0 (dsp : DSp) (dl : DAt) : DEt := fun a R => dl a fun ds a' => dsp none ds 0 fun d _ => R d a'
/-- what comes out is flat: the arguments may be borrowed -/
def dCallF (dsp : DSp) (dl : DAt) : DEt := fun a R => dl a fun ds a' => dsp a'.sp ds a'.n fun d n' => isV d = true ∧ R d ⟨a'.sl, n', a'.sp⟩
def dCallF0 (dsp : DSp) (dl : DAt) : DEt := fun a R => dl a fun ds a' => dsp none ds 0 fun d _ => isV d = true ∧ R d a'
/-- sp: the promise as it stands; up dsp is at least as much -/
def Ups (K : PySem.W.Frag) (sp : Sp) (dsp : DSp) : Prop := ∀ vs H Q E, up K dsp vs H Q E → sp vs H Q E
theorem Ups.rfl {dsp : DSp} : Ups K (up K dsp) dsp := fun _ _ _ _ h => h
/-- dsp's wish may be weakened -/
def Mon (dsp : DSp) : Prop := ∀ sp ds n (R R' : D → Int → Prop), (∀ d n', R d n' → R' d n') → dsp sp ds n R → dsp sp ds n R'
theorem le_call {dsp : DSp} {s : Sp} {E : XK} {ta : TA} (m : Mon dsp) (u : Ups K s dsp) (l : LAE K ω ta dl) : LE K ω (tCall s [] E ta) (dCall dsp dl) := fun B hω F a σ H Q R ok hd k => l B hω F a σ H _ _ ok hd fun vs ds F1 a1 H1 g1 q1 r1 => by
  rw [List.append_nil]
  rw [g1.ok.es] at r1
  refine u _ _ _ _ ⟨B.sp, F1, ds, a1.n, g1.ok.fi.fh, fun p e => ⟨(g1.ok.fi.sr p e).1, (g1.ok.fi.sr p e).2.2⟩, q1, m _ _ _ _ _ (fun d n' r => ?_) r1⟩
  intro v F' H' x1 x2 x3 x4 x5 x6
  exact k v d F' _ H' (.trans ok g1 (Go.call g1.ok x1 x2 x3 x4 x5)) x6 (by rw [← g1.ok.es] at r; exact r)
theorem le_call0 {dsp : DSp} {s : Sp} {E : XK} {ta : TA} (m : Mon dsp) (u : Ups K s dsp) (l : LAE K ω ta dl) : LE K ω (tCall s [] E ta) (dCall0 dsp dl) := fun B hω F a σ H Q R ok hd k => l B hω F a σ H _ _ ok hd fun vs ds F1 a1 H1 g1 q1 r1 => by
  rw [List.append_nil]
  refine u _ _ _ _ ⟨none, F1, ds, 0, g1.ok.fi.fh, (fun p e => nomatch e), q1, m _ _ _ _ _ (fun d n' r => ?_) r1⟩
  intro v F' H' x1 x2 x3 x4 x5 x6
  have hh : Same H1 H' := fun b o h => x3 b o (fun z => nomatch z) h
  refine k v d F' a1 H' (.trans ok g1 (Go.call g1.ok x1 x2 (fun b o _ h => hh b o h) x4 fun p e => ?_)) x6 r
  obtain ⟨y1, y2, y3⟩ := g1.ok.fi.sr p e
  refine ⟨?_, y3.same hh⟩
  cases q : F' p with
  | none => rfl
  | some u =>
    rcases x4 p (by rw [q]; exact fun z => (nomatch z)) with w | w | ⟨o', w1, w2⟩
    · exact absurd y1 w
    · obtain ⟨xs, z⟩ := y3.at
      rw [z] at w
      cases w
    · obtain ⟨xs, z⟩ := (y3.same hh).at
      rw [x2 p o' w1] at z
      cases z
      cases w2
theorem le_callF {dsp : DSp} {s : Sp} {E : XK} {ta : TA} (m : Mon dsp) (u : Ups K s dsp) (l : LAB K ω ta dl) : LE K ω (tCall s [] E ta) (dCallF dsp dl) := fun B hω F a σ H Q R ok hd k => l B hω F a σ H _ _ ok hd fun vs ds F1 a1 H1 g1 q1 r1 => by
  rw [List.append_nil]
  rw [g1.ok.es] at r1
  refine u _ _ _ _ ⟨B.sp, Hs B.sp H1, ds, a1.n, hs_same, fun p e => ⟨?_, (g1.ok.fi.sr p e).2.2⟩, q1, m _ _ _ _ _ (fun d n' r => ?_) r1⟩
  · unfold Hs
    rw [if_pos e]
  intro v F' H' x1 x2 x3 x4 x5 x6
  refine k v d F1 _ H' (.trans ok g1 (Go.call g1.ok (Same.refl F1) (fun b o h => x2 _ _ (x1 _ _ (g1.ok.fi.fs b o h))) x3 (fun b z => .inl z) fun p e => ⟨(g1.ok.fi.sr p e).1, (x5 p e).2⟩)) ?_ (by rw [← g1.ok.es] at r; exact r.2)
  cases d with
  | v x => exact x6
  | _ => exact absurd r.1 Bool.false_ne_true
theorem le_callF0 {dsp : DSp} {s : Sp} {E : XK} {ta : TA} (m : Mon dsp) (u : Ups K s dsp) (l : LAB K ω ta dl) : LE K ω (tCall s [] E ta) (dCallF0 dsp dl) := fun B hω F a σ H Q R ok hd k => l B hω F a σ H _ _ ok hd fun vs ds F1 a1 H1 g1 q1 r1 => by
  rw [List.append_nil]
  refine u _ _ _ _ ⟨none, Hs B.sp H1, ds, 0, hs_same, (fun p e => nomatch e), q1, m _ _ _ _ _ (fun d n' r => ?_) r1⟩
  intro v F' H' x1 x2 x3 x4 x5 x6
  have hh : Same H1 H' := fun b o h => x3 b o (fun z => nomatch z) h
  refine k v d F1 a1 H' (.trans ok g1 (Go.call g1.ok (Same.refl F1) (fun b o h => hh _ _ (g1.ok.fi.fh b o h)) (fun b o _ h => hh b o h) (fun b z => .inl z) fun p e => ⟨(g1.ok.fi.sr p e).1, (g1.ok.fi.sr p e).2.2.same hh⟩)) ?_ r.2
  cases d with
  | v x => exact x6
  | _ => exact absurd r.1 Bool.false_ne_true
section
variable {CX : CXT} {k : Nat} {f : Addr} {fd : FuncData} {ps : List Str} {s : Sp} {dsp : DSp} {E : XK} {x : Str} {p : Pos}
theorem de_call (m : Mon dsp) (u : Ups K s dsp) (G : ∀ j, FnOk (X j).prog (X j).w (X j).K (X j).mg (X j).base CX k f fd ps s) (hr : ∀ j, Room k (X j).A) (hg : ∀ j, Gl (X j) x) (hm : ∀ j, (X j).mg x = some (.ref f)) (hk : ∀ j, PySem.W.keepIn (X j).K (.ref f) = true) (hb : ∀ j, Binds (X j).K fd ps []) (hx : ∀ j, Passes CX (X j) E) (ha : DAE X K ω (e :: es) dl)
    (hdb : (x == ("__debug__" : Str)) = false := by decide) (he : ∀ j, starEach (e :: es) (X j).env = (false, eval e (X j).env) :: starEach es (X j).env := by intro _; rfl) (hpl : ∀ j, (backTo pos (starEach es (X j).env)).any (·.1) = false := by intro _; rfl) : DX X K ω (.Call (.Name x p) (e :: es) [] pos) (dCall dsp dl) := by
  obtain ⟨t, h, l⟩ := ha
  exact ⟨_, fun j => pe_call (G j) (hr j) (hg j) (hm j) (hk j) (hb j) .nil (hx j) (h j) hdb (he j) (hpl j), le_call m u l⟩
theorem de_call0 (m : Mon dsp) (u : Ups K s dsp) (G : ∀ j, FnOk (X j).prog (X j).w (X j).K (X j).mg (X j).base CX k f fd ps s) (hr : ∀ j, Room k (X j).A) (hg : ∀ j, Gl (X j) x) (hm : ∀ j, (X j).mg x = some (.ref f)) (hk : ∀ j, PySem.W.keepIn (X j).K (.ref f) = true) (hb : ∀ j, Binds (X j).K fd ps []) (hx : ∀ j, Passes CX (X j) E) (ha : DAE X K ω (e :: es) dl)
    (hdb : (x == ("__debug__" : Str)) = false := by decide) (he : ∀ j, starEach (e :: es) (X j).env = (false, eval e (X j).env) :: starEach es (X j).env := by intro _; rfl) (hpl : ∀ j, (backTo pos (starEach es (X j).env)).any (·.1) = false := by intro _; rfl) : DX X K ω (.Call (.Name x p) (e :: es) [] pos) (dCall0 dsp dl) := by
  obtain ⟨t, h, l⟩ := ha
  exact ⟨_, fun j => pe_call (G j) (hr j) (hg j) (hm j) (hk j) (hb j) .nil (hx j) (h j) hdb (he j) (hpl j), le_call0 m u l⟩
theorem de_callF (m : Mon dsp) (u : Ups K s dsp) (G : ∀ j, FnOk (X j).prog (X j).w (X j).K (X j).mg (X j).base CX k f fd ps s) (hr : ∀ j, Room k (X j).A) (hg : ∀ j, Gl (X j) x) (hm : ∀ j, (X j).mg x = some (.ref f)) (hk : ∀ j, PySem.W.keepIn (X j).K (.ref f) = true) (hb : ∀ j, Binds (X j).K fd ps []) (hx : ∀ j, Passes CX (X j) E) (ha : DAB X K ω (e :: es) dl)
    (hdb : (x == ("__debug__" : Str)) = false := by decide) (he : ∀ j, starEach (e :: es) (X j).env = (false, eval e (X j).env) :: starEach es (X j).env := by intro _; rfl) (hpl : ∀ j, (backTo pos (starEach es (X j).env)).any (·.1) = false := by intro _; rfl) : DX X K ω (.Call (.Name x p) (e :: es) [] pos) (dCallF dsp dl) := by
  obtain ⟨t, h, l⟩ := ha
  exact ⟨_, fun j => pe_call (G j) (hr j) (hg j) (hm j) (hk j) (hb j) .nil (hx j) (h j) hdb (he j) (hpl j), le_callF m u l⟩
theorem de_callF0 (m : Mon dsp) (u : Ups K s dsp) (G : ∀ j, FnOk (X j).prog (X j).w (X j).K (X j).mg (X j).base CX k f fd ps s) (hr : ∀ j, Room k (X j).A) (hg : ∀ j, Gl (X j) x) (hm : ∀ j, (X j).mg x = some (.ref f)) (hk : ∀ j, PySem.W.keepIn (X j).K (.ref f) = true) (hb : ∀ j, Binds (X j).K fd ps []) (hx : ∀ j, Passes CX (X j) E) (ha : DAB X K ω (e :: es) dl)
    (hdb : (x == ("__debug__" : Str)) = false := by decide) (he : ∀ j, starEach (e :: es) (X j).env = (false, eval e (X j).env) :: starEach es (X j).env := by intro _; rfl) (hpl : ∀ j, (backTo pos (starEach es (X j).env)).any (·.1) = false := by intro _; rfl) : DX X K ω (.Call (.Name x p) (e :: es) [] pos) (dCallF0 dsp dl) := by
  obtain ⟨t, h, l⟩ := ha
  exact ⟨_, fun j => pe_call (G j) (hr j) (hg j) (hm j) (hk j) (hb j) .nil (hx j) (h j) hdb (he j) (hpl j), le_callF0 m u l⟩
theorem de_call00 (m : Mon dsp) (u : Ups K s dsp) (G : ∀ j, FnOk (X j).prog (X j).w (X j).K (X j).mg (X j).base CX k f fd ps s) (hr : ∀ j, Room k (X j).A) (hg : ∀ j, Gl (X j) x) (hm : ∀ j, (X j).mg x = some (.ref f)) (hk : ∀ j, PySem.W.keepIn (X j).K (.ref f) = true) (hb : ∀ j, Binds (X j).K fd ps []) (hx : ∀ j, Passes CX (X j) E)
    (hdb : (x == ("__debug__" : Str)) = false := by decide) : DX X K ω (.Call (.Name x p) [] [] pos) (dCall0 dsp dNil) :=
  ⟨_, fun j => pe_call0 (G j) (hr j) (hg j) (hm j) (hk j) (hb j) .nil (hx j) hdb, le_call0 m u fun B hω F a σ H Q R ok hd k => k [] [] F a H (.refl ok) rfl hd⟩
end
/-! what a for walks -/
def dItSeq (da : DEt) : DAt := fun a R => da a fun d a' => match seqD d with
  | some ds => R ds a'
  | none => False
def iSeq (K : PySem.W.Frag) (tl : TE) : TI := fun σ H R => tl σ H fun x H1 => ∃ a, x = .ref a ∧ ((∃ xs, SqL K H1 a xs ∧ R (Itl K a) H1) ∨ ∃ xs, SqT K H1 a xs ∧ R (Itt K a) H1)
theorem pi_seq {X : Cx} {tg l : Expr} {tl : TE} (hl : PE X l tl) : PI X tg l (iSeq X.K tl) := by
  refine ⟨fun pins s σ H R I h => ?_⟩
  refine thn (hl.run pins s σ H _ I h) fun v s1 ⟨x, H1, I1, r1, q1⟩ => ?_
  obtain ⟨a, e, ⟨xs, hq, q⟩ | ⟨xs, hq, q⟩⟩ := q1
  · subst e
    cases r1
    obtain ⟨its, rv, p, hz⟩ := I1.list hq
    refine wpAny_pyIter_list p.isList ?_
    refine ⟨s1.heap.objs.size, [s1.heap.objs.size], _, _, H1, rfl, I1.kept (t' := s1.toks) fun b o e => Heap.get?_push_of_some _ e, turn_list a _, ⟨_, Heap.get?_push_size _ rfl, rfl, rfl⟩, fun b hb => ?_, q⟩
    have e : b = s1.heap.objs.size := by simpa using hb
    subst e
    exact I1.fpOk (Nat.le_refl _) (I1.hok.fresh (Nat.le_refl _))
  · subst e
    cases r1
    obtain ⟨its, rv, p, hz⟩ := I1.tuple hq
    refine wpAny_pyIter_tuple (show s1.heap.IsTuple a its.toArray from p) ?_
    refine ⟨s1.heap.objs.size, [s1.heap.objs.size], _, _, H1, rfl, I1.kept (t' := s1.toks) fun b o e => Heap.get?_push_of_some _ e, turn_tuple a _, ⟨_, Heap.get?_push_size _ rfl, rfl, rfl⟩, fun b hb => ?_, q⟩
    have e : b = s1.heap.objs.size := by simpa using hb
    subst e
    exact I1.fpOk (Nat.le_refl _) (I1.hok.fresh (Nat.le_refl _))
theorem di_seq {tg : Expr} (h : DX X K ω e da) (hK : ∀ j, (X j).K = K := by intro _; rfl) : DI X K ω tg e (dItSeq da) := by
  obtain ⟨t, p, l⟩ := h
  refine ⟨iSeq K t, fun j => by rw [← hK j]; exact pi_seq (p j), fun B hω F a σ H Q R ok hd k => l B hω F a σ H _ _ ok hd fun v d F' a' H' g q r => ?_⟩
  cases d with
  | lst ds =>
    obtain ⟨x, vs, rfl, h1, h2⟩ := q
    refine ⟨x, rfl, .inl ⟨vs, SqL.of (g.ok.fi.fh _ _ h1), k (Itl K x) ds F' a' H' g (fun i F1 H1 s1 s2 => ?_) r⟩⟩
    have S : SqL K H1 x vs := SqL.of (s2 _ _ (s1 _ _ h1))
    refine ⟨fun hi => ⟨vs, S, by rw [h2.len]; exact hi⟩, fun d e => ?_⟩
    obtain ⟨v, e1, e2⟩ := h2.get e
    exact ⟨⟨vs, v, S, e1⟩, fun y H2 z => .inl ⟨z.1, by have := z.2 vs S; rw [e1] at this; rw [← Option.some.inj this]; exact e2.mono s1⟩⟩
  | tup ds =>
    obtain ⟨x, vs, rfl, h1, h2⟩ := q
    refine ⟨x, rfl, .inr ⟨vs, SqT.of (g.ok.fi.fh _ _ h1), k (Itt K x) ds F' a' H' g (fun i F1 H1 s1 s2 => ?_) r⟩⟩
    have S : SqT K H1 x vs := SqT.of (s2 _ _ (s1 _ _ h1))
    refine ⟨fun hi => ⟨vs, S, by rw [h2.len]; exact hi⟩, fun d e => ?_⟩
    obtain ⟨v, e1, e2⟩ := h2.get e
    exact ⟨⟨vs, v, S, e1⟩, fun y H2 z => .inl ⟨z.1, by have := z.2 vs S; rw [e1] at this; rw [← Option.some.inj this]; exact e2.mono s1⟩⟩
  | ctup ds =>
    obtain ⟨x, vs, rfl, h1, h2⟩ := q
    refine ⟨x, rfl, .inr ⟨vs, same_seqT g.ok.fi.fh h1, k (Itt K x) ds F' a' H' g (fun i F1 H1 s1 s2 => ?_) r⟩⟩
    have S : SqT K H1 x vs := same_seqT (s1.trans s2) h1
    refine ⟨fun hi => ⟨vs, S, by rw [h2.len]; exact hi⟩, fun d e => ?_⟩
    obtain ⟨v, e1, e2⟩ := h2.get e
    exact ⟨⟨vs, v, S, e1⟩, fun y H2 z => .inl ⟨z.1, by have := z.2 vs S; rw [e1] at this; rw [← Option.some.inj this]; exact e2.mono s1⟩⟩
  | ftup ds =>
    obtain ⟨x, vs, rfl, h1, h2⟩ := q
    refine ⟨x, rfl, .inr ⟨vs, (h1.mono g.ok.fi.fh).sq, k (Itt K x) ds F' a' H' g (fun i F1 H1 s1 s2 => ?_) r⟩⟩
    have S : SqT K H1 x vs := (h1.mono (s1.trans s2)).sq
    refine ⟨fun hi => ⟨vs, S, by rw [h2.len]; exact hi⟩, fun d e => ?_⟩
    obtain ⟨v, e1, e2⟩ := h2.get e
    exact ⟨⟨vs, v, S, e1⟩, fun y H2 z => .inl ⟨z.1, by have := z.2 vs S; rw [e1] at this; rw [← Option.some.inj this]; exact e2.mono s1⟩⟩
  | _ => exact r.elim
/-- range -/
def rngD (lo : Int) (n : Nat) : List D := (List.range n).map fun i => .v (.int (lo + (i : Nat)))
theorem rng_at {lo : Int} {n i : Nat} {d : D} (h : (rngD lo n)[i]? = some d) : i < n ∧ d = .v (.int (lo + (i : Nat))) := by
  unfold rngD at h
  rw [List.getElem?_map] at h
  obtain ⟨j, h1, h2⟩ := Option.map_eq_some_iff.mp h
  obtain ⟨h3, h4⟩ := List.getElem?_eq_some_iff.mp h1
  rw [List.getElem_range] at h4
  rw [List.length_range] at h3
  rw [← h2, ← h4]
  exact ⟨h3, rfl⟩
theorem it_rng {lo : Int} {n : Nat} : ItOk K (Itr lo n) F (rngD lo n) := fun i F1 H1 s1 s2 => by
  refine ⟨fun hi => ?_, fun d e => ?_⟩
  · unfold rngD at hi
    rw [List.length_map, List.length_range] at hi
    exact hi
  · obtain ⟨h1, rfl⟩ := rng_at e
    exact ⟨h1, fun x H' z => .inl ⟨z.1, z.2⟩⟩
def dRng1 (dl : DAt) : DAt := fun a R => dl a fun ds a' => match ds with
  | [.v (.int j)] => (-(2 ^ 62) ≤ j ∧ j < 2 ^ 62) ∧ R (rngD 0 j.toNat) a'
  | _ => False
def dRng2 (dl : DAt) : DAt := fun a R => dl a fun ds a' => match ds with
  | [.v (.int i), .v (.int j)] => (-(2 ^ 62) ≤ i ∧ i < 2 ^ 62 ∧ -(2 ^ 62) ≤ j ∧ j < 2 ^ 62) ∧ R (rngD i (j - i).toNat) a'
  | _ => False
theorem di_range1 {tg x : Expr} {p pos : Pos} (hg : ∀ j, Gl (X j) "range") (hm : ∀ j, (X j).mg "range" = none) (ha : DAB X K ω [x] dl) (hs : ∀ j, starEach [x] (X j).env = [(false, eval x (X j).env)] := by intro _; rfl) : DI X K ω tg (.Call (.Name "range" p) [x] [] pos) (dRng1 dl) := by
  obtain ⟨t, p, l⟩ := ha
  refine ⟨_, fun j => pi_range1 (hg j) (hm j) (p j) (hs j), fun B hω F a σ H Q R ok hd k => l B hω F a σ H _ _ ok hd fun vs ds F' a' H' g q r => ?_⟩
  split at r
  · rename_i j
    cases datL_flat (xs := [.int j]) q
    exact ⟨j, rfl, r.1.1, r.1.2, k _ _ F' a' H' g it_rng r.2⟩
  · exact r.elim
theorem di_range2 {tg x y : Expr} {p pos : Pos} (hg : ∀ j, Gl (X j) "range") (hm : ∀ j, (X j).mg "range" = none) (ha : DAB X K ω [x, y] dl) (hs : ∀ j, starEach [x, y] (X j).env = [(false, eval x (X j).env), (false, eval y (X j).env)] := by intro _; rfl) (hs2 : ∀ j, starEach [y] (X j).env = [(false, eval y (X j).env)] := by intro _; rfl) : DI X K ω tg (.Call (.Name "range" p) [x, y] [] pos) (dRng2 dl) := by
  obtain ⟨t, p, l⟩ := ha
  refine ⟨_, fun j => pi_range2 (hg j) (hm j) (p j) (hs j) (hs2 j), fun B hω F a σ H Q R ok hd k => l B hω F a σ H _ _ ok hd fun vs ds F' a' H' g q r => ?_⟩
  split at r
  · rename_i i j
    cases datL_flat (xs := [.int i, .int j]) q
    exact ⟨i, j, rfl, r.1, k _ _ F' a' H' g it_rng r.2⟩
  · exact r.elim
end
/-! ### comprehensions -/
def dWipe (a : AS) : List Nat → AS
  | [] => a
  | v :: vs => (dWipe a vs).put v .emp
theorem dWipe_n (a : AS) : ∀ vs, (dWipe a vs).n = a.n
  | [] => rfl
  | _ :: vs => dWipe_n a vs
theorem dWipe_sp (a : AS) : ∀ vs, (dWipe a vs).sp = a.sp
  | [] => rfl
  | _ :: vs => dWipe_sp a vs
section
variable {K : PySem.W.Frag} {ω : Wp} {B : Bs K} {F F' F1 F2 G : Hp} {a a' a1 a2 : AS} {σ σ' : St} {H H' H1 H2 : Hp} {n : Int} {te : TE} {de da db : DEt} {ι : Type} {X : ι → Cx} {e e1 e2 : Expr} {es : List Expr} {pos : Pos} {dt : DTt} {dl dm : DAt}
theorem Ok.forget (ok : Ok B F a σ H) (i : Nat) (o : Option V) (hi : i = 0 → B.self = none) : Ok B F (a.put i .emp) (σ.set i o) H := by
  refine ⟨ok.fi, ok.es, by show (σ.set i _).length = (a.sl.set i _).length; rw [List.length_set, List.length_set, ok.len], fun j e q => ?_, fun j e q => ?_, fun j k p e f q1 q2 q3 q4 => ?_, set_fx hi ok.fx⟩
  · rcases set_get q with ⟨rfl, z, hl⟩ | ⟨n, q⟩
    · cases z
    · obtain ⟨u, e1, e2⟩ := ok.va j e q
      exact ⟨u, by rw [List.getElem?_set_ne (Ne.symm n)]; exact e1, e2⟩
  · rcases set_get q with ⟨rfl, z, hl⟩ | ⟨n, q⟩
    · cases z
    · obtain ⟨u, ho, e1, e2⟩ := ok.ow j e q
      exact ⟨u, ho, by rw [List.getElem?_set_ne (Ne.symm n)]; exact e1, e2⟩
  · rcases set_get q1 with ⟨rfl, z, hl⟩ | ⟨n1, q1⟩
    · cases z
    rcases set_get q2 with ⟨rfl, z, hl⟩ | ⟨n2, q2⟩
    · cases z
    rw [List.getElem?_set_ne (Ne.symm n1)] at q3
    rw [List.getElem?_set_ne (Ne.symm n2)] at q4
    exact ok.ds j k p e f q1 q2 q3 q4
theorem own_forget {i : Nat} {o : Option V} {b : Addr} (h : OwnAt (a.put i .emp) (σ.set i o) b) : OwnAt a σ b := by
  obtain ⟨j, f, q1, q2⟩ := h
  rcases set_get q1 with ⟨rfl, z, _⟩ | ⟨m, q1⟩
  · cases z
  · rw [List.getElem?_set_ne (Ne.symm m)] at q2
    exact ⟨j, f, q1, q2⟩
theorem Ok.wipe (ok : Ok B F a σ H) : ∀ vs, (0 ∈ vs → B.self = none) → Ok B F (dWipe a vs) (wipe σ vs) H
  | [], _ => ok
  | v :: vs, h => (Ok.wipe ok vs fun z => h (List.mem_cons_of_mem _ z)).forget v none fun z => h (by rw [z]; exact List.mem_cons_self)
theorem own_wipe {b : Addr} : ∀ {vs : List Nat}, OwnAt (dWipe a vs) (wipe σ vs) b → OwnAt a σ b
  | [], h => h
  | _ :: _, h => own_wipe (own_forget h)
theorem wipe_out : ∀ {vs : List Nat} {j : Nat}, j ∉ vs → (wipe σ vs)[j]? = σ[j]?
  | [], _, _ => rfl
  | v :: vs, j, h => by
    rw [show wipe σ (v :: vs) = (wipe σ vs).set v none from rfl, List.getElem?_set_ne (fun z => h (by rw [z]; exact List.mem_cons_self))]
    exact wipe_out fun z => h (List.mem_cons_of_mem _ z)
theorem wipe_in : ∀ {vs : List Nat} {j : Nat}, j ∈ vs → (wipe σ vs)[j]? = if j < σ.length then some none else none
  | [], _, h => nomatch h
  | v :: vs, j, h => by
    rw [show wipe σ (v :: vs) = (wipe σ vs).set v none from rfl]
    by_cases z : v = j
    · subst z
      rw [List.getElem?_set]
      rw [if_pos rfl, wipe_length]
    · rw [List.getElem?_set_ne z]
      exact wipe_in ((List.mem_cons.mp h).resolve_left fun w => z w.symm)
theorem wipe_ext {vs : List Nat} (hl : σ'.length = σ.length) (h : ∀ j, j ∉ vs → σ'[j]? = σ[j]?) : wipe σ' vs = wipe σ vs := by
  refine List.ext_getElem? fun j => ?_
  by_cases hj : j ∈ vs
  · rw [wipe_in hj, wipe_in hj, hl]
  · rw [wipe_out hj, wipe_out hj, h j hj]
/-- what is nobody's is changed -/
theorem Ok.ext (ok : Ok B F a σ H) {p : Addr} {o : HO} (hF : F p = none) (h0 : B.H0 p = none) (hs : B.sp ≠ some p) (no : ¬ OwnAt a σ p) : Ok B F a σ (upd H p o) := by
  refine ⟨⟨fun b u h => ?_, ok.fi.ff, ok.fi.fr, fun b u h n => ?_, fun b h => ?_⟩, ok.es, ok.len, ok.va, fun j f q => ?_, ok.ds, ok.fx⟩
  · rw [upd_ne (fun z => by rw [z, hF] at h; cases h)]
    exact ok.fi.fh b u h
  · rw [upd_ne (fun z => by rw [z, h0] at h; cases h)]
    exact ok.fi.fm b u h n
  · obtain ⟨x1, x2, x3⟩ := ok.fi.sr b h
    have z : b ≠ p := fun z => hs (z ▸ h)
    exact ⟨x1, x2, x3.but ((But.refl p H).upd) z⟩
  · obtain ⟨u, ho', f1, f2, f3, f4, f5⟩ := ok.ow j f q
    have z : u ≠ p := fun z => no ⟨j, f, q, by rw [← z]; exact f1⟩
    exact ⟨u, ho', f1, by rw [upd_ne z]; exact f2, f3, f4, f5⟩
theorem unwipe {vs : List Nat} {n1 : Int} (ok : Ok B F' a' σ H') (g : Go B (wipe σ vs) F' (dWipe a' vs) H' F1 ⟨(dWipe a' vs).sl, n1, a'.sp⟩ H) : Go B σ F' a' H' F1 ⟨a'.sl, n1, a'.sp⟩ H := by
  refine ⟨⟨g.ok.fi, ok.es, ok.len, fun i d e => ?_, fun i d e => ?_, ok.ds, ok.fx⟩, g.ff, g.hh, fun b z => ?_, fun b z => z⟩
  · obtain ⟨v, e1, e2⟩ := ok.va i d e
    exact ⟨v, e1, e2.mono g.ff⟩
  · obtain ⟨p, o, e1, e2, e3, e4, e5⟩ := ok.ow i d e
    have hs : B.sp ≠ some p := fun z => (ok.fi.sr p z).2.1 e4
    refine ⟨p, o, e1, g.hh p o hs e2, ?_, e4, e5.mono g.ff⟩
    cases q : F1 p with
    | none => rfl
    | some u =>
      rcases g.fr p (by rw [q]; exact fun z => (nomatch z)) with w | w | ⟨j, f, w1, w2⟩ | ⟨o', w1, w2⟩
      · exact absurd e3 w
      · rw [e2] at w
        cases w
      · obtain ⟨p', o', x1, x2, x3, _⟩ := g.ok.ow j f w1
        rw [w2] at x1
        cases x1
        rw [x3] at q
        cases q
      · have z := g.hh p o hs e2
        rw [g.ok.fi.fh p o' w1] at z
        cases z
        rw [e5.imm] at w2
        cases w2
  · rcases g.fr b z with q | q | q
    · exact .inl q
    · exact .inr (.inl q)
    · exact .inr (.inr (q.imp own_wipe id))
/-- a clause's tests -/
def DTs (X : ι → Cx) (K : PySem.W.Frag) (ω : Wp) (ifs : List Expr) (dt : DTt) : Prop := ∃ t, (∀ j, PTs (X j) ifs t) ∧ LC K ω t dt
theorem dts_nil : DTs X K ω [] (fun a R => R true a) := ⟨_, fun _ => pts_nil, fun B hω F a σ H Q R ok hd k => k true F a H (.refl ok) hd⟩
theorem dts_one {c : Expr} (h : DT X K ω c dt) : DTs X K ω [c] dt := let ⟨_, p, l⟩ := h; ⟨_, fun j => pts_one (p j), l⟩
def dLcGo (w : List Sl) (vs : List Nat) (dg : DGt) (dt : DTt) (de : DEt) (sp : Option Addr) (R : List D → Int → Prop) : List D → List D → Int → Prop
  | [], acc, n => R acc n
  | d :: ds, acc, n => dg d ⟨w, n, sp⟩ fun a1 => dt a1 fun b a2 => bIf b (de a2 fun x a3 => (dWipe a3 vs).sl = w ∧ acc.length < sizeLine ∧ dLcGo w vs dg dt de sp R ds (acc ++ [x]) a3.n) ((dWipe a2 vs).sl = w ∧ dLcGo w vs dg dt de sp R ds acc a2.n)
def dLc (vs : List Nat) (di : DAt) (dg : DGt) (dt : DTt) (de : DEt) : DEt := fun a R => di a fun items a' => dLcGo (dWipe a' vs).sl vs dg dt de a'.sp (fun acc n => R (.lst acc) ⟨a'.sl, n, a'.sp⟩) items [] a'.n
theorem lo_lc {wi : TI} {di : DAt} {g : TG} {dg : DGt} {ws vs : List Nat} {tt : TT} {te : TE} (l1 : LI K ω wi di) (l2 : LG K ω g dg ws) (l3 : LC K ω tt dt) (l4 : LE K ω te de) (hw : ∀ i ∈ ws, i ∈ vs) (hz : ω.sf = false ∨ 0 ∉ vs) : LO K ω (tLc wi g tt te vs) (dLc vs di dg dt de) := fun B hω F a σ H Q R ok hd k => by
  refine l1 B hω F a σ H _ _ ok hd fun J items F0 a0 H0 g0 it hR => ?_
  intro D hD
  obtain ⟨nF, n0, ns, nO⟩ := g0.ok.here hD
  have hz' : 0 ∈ vs → B.self = none := fun z => hz.elim hω.2.1 fun n => absurd z n
  have okw := g0.ok.wipe vs hz'
  have ew : dWipe a0 vs = ⟨(dWipe a0 vs).sl, a0.n, a0.sp⟩ := by rw [← dWipe_n a0 vs, ← dWipe_sp a0 vs]
  have nOw : ¬ OwnAt (dWipe a0 vs) (wipe σ vs) D := fun z => nO (own_wipe z)
  have hDne : ∀ {b : Addr} {o : HO}, H0 b = some o → b ≠ D := fun h z => by rw [z, hD] at h; cases h
  generalize ew' : (dWipe a0 vs).sl = w at *
  refine ⟨fun i m H1 => ∃ F1 n1 acc ds, Go B (wipe σ vs) F0 (dWipe a0 vs) H0 F1 ⟨w, n1, a0.sp⟩ H1 ∧ F1 D = none ∧ H1 D = some (.lst acc) ∧ DatL K F1 ds acc ∧ i ≤ items.length ∧ m = items.length - i ∧ dLcGo w vs dg dt de a0.sp (fun acc n => R (.lst acc) ⟨a0.sl, n, a0.sp⟩) (items.drop i) ds n1,
    ⟨_, F0, a0.n, [], [], by rw [← ew]; exact okw.newO hD, nF, upd_same, rfl, Nat.zero_le _, rfl, hR⟩, ?_⟩
  rintro i m H1 ⟨F1, n1, acc, ds, g1, f1, h1, q1, hi, rfl, hl⟩
  by_cases hlt : i < items.length
  · have e : items[i]? = some items[i] := List.getElem?_eq_getElem hlt
    rw [List.drop_eq_getElem_cons hlt] at hl
    refine .inr ⟨((it i F1 H1 g1.ff g1.ok.fi.fh).2 _ e).1, fun H9 => ∃ m', m' < items.length - i ∧ ∃ F1 n1 acc ds, Go B (wipe σ vs) F0 (dWipe a0 vs) H0 F1 ⟨w, n1, a0.sp⟩ H9 ∧ F1 D = none ∧ H9 D = some (.lst acc) ∧ DatL K F1 ds acc ∧ i + 1 ≤ items.length ∧ m' = items.length - (i + 1) ∧ dLcGo w vs dg dt de a0.sp (fun acc n => R (.lst acc) ⟨a0.sl, n, a0.sp⟩) (items.drop (i + 1)) ds n1, fun H9 z => z, fun x H2 y => ?_⟩
    obtain ⟨F2, g2, q2⟩ := it.turn g1.ok g1.ff e y
    refine l2 B hω F2 ⟨w, n1, a0.sp⟩ (wipe σ vs) H2 x _ _ _ g2.ok q2 hl fun a3 σ3 s3 hR => ?_
    have es : wipe σ3 vs = wipe σ vs := wipe_ext (s3.ln.trans (wipe_length σ vs)) fun j hj => by rw [s3.kp j (fun z => hj (hw j z)), wipe_out hj]
    refine ⟨es, l3 B hω F2 a3 σ3 H2 _ _ s3.ok hR fun b F3 a4 H3 g3 hR => ?_⟩
    -- a way within the turn, seen from the wiped state
    have back : ∀ {F5 a5 H5}, Go B σ3 F2 a3 H2 F5 a5 H5 → (dWipe a5 vs).sl = w → Go B (wipe σ vs) F1 ⟨w, n1, a0.sp⟩ H1 F5 ⟨w, a5.n, a0.sp⟩ H5 := fun {F5 a5 H5} g5 ew5 => by
      have o5 := g5.ok.wipe vs hz'
      have e5 : dWipe a5 vs = ⟨w, a5.n, a0.sp⟩ := by rw [← ew5, ← dWipe_n a5 vs, g0.ok.es, ← g5.ok.es, ← dWipe_sp a5 vs]
      rw [es, e5] at o5
      have g2' : Go B (wipe σ vs) F2 ⟨w, n1, a0.sp⟩ H2 F5 ⟨w, a5.n, a0.sp⟩ H5 := ⟨o5, g5.ff, g5.hh, fun b z => (g5.fr b z).imp id fun z => z.imp id fun z => z.imp (s3.oo b) id, fun b z => s3.oo b (g5.oo b (own_wipe (vs := vs) (by rw [es, e5]; exact z)))⟩
      exact .trans g1.ok g2 g2'
    have still : ∀ {F5 n5 H5}, Go B (wipe σ vs) F1 ⟨w, n1, a0.sp⟩ H1 F5 ⟨w, n5, a0.sp⟩ H5 → F5 D = none ∧ H5 D = some (.lst acc) := fun {F5 n5 H5} g5 => by
      refine ⟨?_, g5.hh D _ ns h1⟩
      cases q : F5 D with
      | none => rfl
      | some u =>
        rcases g5.fr D (by rw [q]; exact fun z => (nomatch z)) with z | z | z | ⟨o', w1, w2⟩
        · exact absurd f1 z
        · rw [h1] at z
          cases z
        · exact absurd (g1.oo D z) nOw
        · have z := g5.hh D _ ns h1
          rw [g5.ok.fi.fh D o' w1] at z
          cases z
          cases w2
    refine hR.imp (fun hR => ?_) fun hR => ?_
    · refine l4 B hω F3 a4 σ3 H3 _ _ g3.ok hR fun v d F5 a5 H5 g5 q5 hR => ?_
      obtain ⟨ew5, hz, hR⟩ := hR
      have g15 := back (Go.trans s3.ok g3 g5) ew5
      obtain ⟨f5, h5⟩ := still g15
      refine ⟨acc, h5, by rw [q1.len]; exact hz, items.length - (i + 1), by omega, F5, a5.n, acc ++ [v], ds ++ [d], ?_, f5, upd_same, (q1.mono g15.ff).app (.cons q5 .nil), hlt, rfl, hR⟩
      have g05 := Go.trans okw g1 g15
      have nO5 : ¬ OwnAt ⟨w, a5.n, a0.sp⟩ (wipe σ vs) D := fun z => nOw (g05.oo D z)
      exact ⟨g05.ok.ext f5 n0 ns nO5, g05.ff, fun b o hb h => by rw [upd_ne (hDne h)]; exact g05.hh b o hb h, g05.fr, g05.oo⟩
    · obtain ⟨ew5, hR⟩ := hR
      have g15 := back g3 ew5
      obtain ⟨f5, h5⟩ := still g15
      exact ⟨items.length - (i + 1), by omega, F3, a4.n, acc, ds, .trans okw g1 g15, f5, h5, q1.mono g15.ff, hlt, rfl, hR⟩
  · have e : i = items.length := by omega
    subst e
    rw [List.drop_length] at hl
    refine .inl ⟨(it _ F1 H1 g1.ff g1.ok.fi.fh).1 (Nat.le_refl _), ?_⟩
    subst ew'
    have gu := unwipe g0.ok g1
    have hH : H D = none := by
      cases q : H D with
      | none => rfl
      | some o =>
        rw [g0.hh D o ns q] at hD
        cases hD
    exact k D _ (.lst ds) F1 _ H1 (.trans ok g0 gu) hH f1 h1 ⟨acc, rfl, q1⟩ hl
/-- the family of a comprehension's blocks -/
def blkF (X : ι → Cx) (scope : Scope) : (ι × Shared × Hp × Addr × List (Str × Addr) × List Addr) → Cx := fun q => (X q.1).blk q.2.1 q.2.2.1 scope (compEnvC scope q.2.2.2.2.1 q.2.2.2.1 (X q.1).env) q.2.2.2.2.2
theorem do_lc {elt tg iter : Expr} {ifs : List Expr} {scope : Scope} {own : List (Str × Nat)} {pos : Pos} {di : DAt} {dg : DGt} {ws : List Nat} (hc : ∀ j, (X j).calm = true) (hN : ∀ j, (X j).N.Nodup) (hi : DI X K ω tg iter di) (ok : ∀ j, BlkOk (X j).N (X j).env.scope scope own)
    (hg : DG (blkF X scope) K ω tg dg ws) (ht : DTs (blkF X scope) K ω ifs dt) (he : DX (blkF X scope) K ω elt de) (hw : ∀ i ∈ ws, i ∈ own.map (·.2) := by decide) (hs : ∀ j x, foldedSetIterable iter (X j).env x = pure x := by intro _ _; rfl) (hz : ω.sf = false ∨ 0 ∉ own.map (·.2) := by first | exact Or.inl rfl | exact Or.inr (by decide)) :
    DO X K ω (.ListComp elt [⟨tg, iter, ifs, 0⟩] scope pos) (dLc (own.map (·.2)) di dg dt de) := by
  obtain ⟨wi, p1, l1⟩ := hi
  obtain ⟨g, p2, l2⟩ := hg
  obtain ⟨tt, p3, l3⟩ := ht
  obtain ⟨te, p4, l4⟩ := he
  exact ⟨_, fun j => pe_lc (hc j) (hN j) (p1 j) (ok j) (fun s H C cl fp => p2 (j, s, H, C, cl, fp)) (fun s H C cl fp => p3 (j, s, H, C, cl, fp)) (fun s H C cl fp => p4 (j, s, H, C, cl, fp)) (hs j), lo_lc l1 l2 l3 l4 hw hz⟩
/-- name = [..], the name a local -/
theorem ds_setLcO {i : Nat} {y : Str} {py : Pos} {elt tg iter : Expr} {ifs : List Expr} {scope : Scope} {own : List (Str × Nat)} {pos spos : Pos} {di : DAt} {dg : DGt} {ws : List Nat} (hc : ∀ j, (X j).calm = true) (hN : ∀ j, (X j).N.Nodup) (hy : ∀ j, (X j).N[i]? = some y) (hyl : ∀ j, (X j).env.scope.names.lookup y = some .local)
    (hsw : ∀ j, swapsWith (.ListComp elt [⟨tg, iter, ifs, 0⟩] scope pos) (some (.Name y py)) spos.line (X j).env = pure true) (hi : DI X K ω tg iter di) (ok : ∀ j, BlkOk (X j).N (X j).env.scope scope own)
    (hg : DG (blkF X scope) K ω tg dg ws) (ht : DTs (blkF X scope) K ω ifs dt) (he : DX (blkF X scope) K ω elt de) (hw : ∀ i ∈ ws, i ∈ own.map (·.2) := by decide) (hs : ∀ j x, foldedSetIterable iter (X j).env x = pure x := by intro _ _; rfl) (hz : ω.sf = false ∨ 0 ∉ own.map (·.2) := by first | exact Or.inl rfl | exact Or.inr (by decide)) (hz0 : ω.sf = false ∨ i ≠ 0 := by first | exact Or.inl rfl | exact Or.inr (by decide)) :
    DS X K ω (.Assign [.Name y py] (.ListComp elt [⟨tg, iter, ifs, 0⟩] scope pos) spos) (dSetO i (dLc (own.map (·.2)) di dg dt de)) := by
  obtain ⟨wi, p1, l1⟩ := hi
  obtain ⟨g, p2, l2⟩ := hg
  obtain ⟨tt, p3, l3⟩ := ht
  obtain ⟨te, p4, l4⟩ := he
  refine ⟨_, fun j => ps_setLc (hc j) (hN j) (hy j) (hyl j) (hsw j) (p1 j) (ok j) (fun s H C cl fp => p2 (j, s, H, C, cl, fp)) (fun s H C cl fp => p3 (j, s, H, C, cl, fp)) (fun s H C cl fp => p4 (j, s, H, C, cl, fp)) (hs j), ?_⟩
  refine fun B hω E DE F a σ H ok hd k => lo_lc l1 l2 l3 l4 hw hz B hω F a σ H _ _ ok hd fun p o d F' a' H' g n1 n2 h3 q r => ?_
  obtain ⟨hF, h0, hs, no⟩ := ok.here n1
  exact k.nx F' _ _ H' (g.ok.setO (hω.z hz0) h3 n2 h0 (fun z => no (g.oo p z)) q) g.ff r
theorem ds_setLc {i : Nat} {y : Str} {py : Pos} {elt tg iter : Expr} {ifs : List Expr} {scope : Scope} {own : List (Str × Nat)} {pos spos : Pos} {di : DAt} {dg : DGt} {ws : List Nat} (hc : ∀ j, (X j).calm = true) (hN : ∀ j, (X j).N.Nodup) (hy : ∀ j, (X j).N[i]? = some y) (hyl : ∀ j, (X j).env.scope.names.lookup y = some .local)
    (hsw : ∀ j, swapsWith (.ListComp elt [⟨tg, iter, ifs, 0⟩] scope pos) (some (.Name y py)) spos.line (X j).env = pure true) (hi : DI X K ω tg iter di) (ok : ∀ j, BlkOk (X j).N (X j).env.scope scope own)
    (hg : DG (blkF X scope) K ω tg dg ws) (ht : DTs (blkF X scope) K ω ifs dt) (he : DX (blkF X scope) K ω elt de) (hw : ∀ i ∈ ws, i ∈ own.map (·.2) := by decide) (hs : ∀ j x, foldedSetIterable iter (X j).env x = pure x := by intro _ _; rfl) (hz : ω.sf = false ∨ 0 ∉ own.map (·.2) := by first | exact Or.inl rfl | exact Or.inr (by decide)) (hz0 : ω.sf = false ∨ i ≠ 0 := by first | exact Or.inl rfl | exact Or.inr (by decide)) :
    DS X K ω (.Assign [.Name y py] (.ListComp elt [⟨tg, iter, ifs, 0⟩] scope pos) spos) (dSet i (dLc (own.map (·.2)) di dg dt de)) := by
  obtain ⟨wi, p1, l1⟩ := hi
  obtain ⟨g, p2, l2⟩ := hg
  obtain ⟨tt, p3, l3⟩ := ht
  obtain ⟨te, p4, l4⟩ := he
  refine ⟨_, fun j => ps_setLc (hc j) (hN j) (hy j) (hyl j) (hsw j) (p1 j) (ok j) (fun s H C cl fp => p2 (j, s, H, C, cl, fp)) (fun s H C cl fp => p3 (j, s, H, C, cl, fp)) (fun s H C cl fp => p4 (j, s, H, C, cl, fp)) (hs j), ?_⟩
  exact fun B hω E DE F a σ H ok hd k => (lo_lc l1 l2 l3 l4 hw hz).e B hω F a σ H _ _ ok hd fun v d F' a' H' g q r => k.nx F' _ _ H' (g.ok.setV (hω.z hz0) q) g.ff r
end
/-! ### one's own lists -/
section
variable {K : PySem.W.Frag} {ω : Wp} {B : Bs K} {F F' F1 F2 G : Hp} {a a' a1 a2 : AS} {σ σ' : St} {H H' H1 H2 : Hp} {n : Int} {te : TE} {de da db : DEt} {ι : Type} {X : ι → Cx} {e e1 e2 o : Expr} {es : List Expr} {pos : Pos} {dt : DTt} {dl dm : DAt}
abbrev DM := List D → List D → (List D → D → Prop) → Prop
def LM (K : PySem.W.Frag) (r : V → List V → Hp → VK → Prop) (f : DM) : Prop := ∀ (F H : Hp) (p : Addr) (vs : List V) (ds : List D) (xs : List V) (es : List D) (Q : VK) (R : List D → D → Prop), Same F H → H p = some (.lst vs) → DatL K F ds vs → DatL K F es xs → f ds es R →
  (∀ vs' ds' w d, DatL K F ds' vs' → Dat K F d w → R ds' d → Q w (upd H p (.lst vs'))) → r (.ref p) xs H Q
def asL (s : Sl) (R : List D → Prop) : Prop := match s with
  | .own (.lst ds) => R ds
  | _ => False
theorem asL_of {s : Sl} {R : List D → Prop} (h : asL s R) : ∃ ds, s = .own (.lst ds) ∧ R ds := by
  unfold asL at h
  split at h
  · exact ⟨_, rfl, h⟩
  · exact h.elim
theorem Ok.lst (ok : Ok B F a σ H) {i : Nat} {ds : List D} (h : a.at i = .own (.lst ds)) : ∃ p vs, σ[i]? = some (some (.ref p)) ∧ H p = some (.lst vs) ∧ DatL K F ds vs ∧ a.sl[i]? = some (.own (.lst ds)) := by
  have h' := at_of' h (fun z => nomatch z)
  obtain ⟨p, ho, e1, e2, e3, e4, vs, rfl, q⟩ := ok.ow i _ h'
  exact ⟨p, vs, e1, e2, q, h'⟩
/-- o.m(..), o one's own list: what the expression gives, what the list is then -/
def dOwnE (i : Nat) (f : DM) (dl : DAt) (k : D → AS → Prop) : AS → Prop := fun a => asL (a.at i) fun _ => dl a fun es a' => asL (a'.at i) fun ds => f ds es fun ds' d => k d (a'.put i (.own (.lst ds')))
theorem own_run {r : V → List V → Hp → VK → Prop} {f : DM} {ta : TA} {i : Nat} (l : LM K r f) (la : LAE K ω ta dl) (hω : WOk B ω) (ok : Ok B F a σ H) {Q : VK} {R : D → AS → Prop} (hd : dOwnE i f dl R a)
    (k : ∀ w d F' a' H', Ok B F' a' σ H' → Same F F' → Dat K F' d w → R d a' → Q w H') : tBM K "list" r (tVar i) ta σ H Q := by
  obtain ⟨ds0, e0, hd⟩ := asL_of hd
  obtain ⟨p, vs0, s0, h0, q0, _⟩ := ok.lst e0
  refine ⟨_, s0, .inl ⟨rfl, vs0, SqL.of h0⟩, la B hω F a σ H _ _ ok hd fun xs es F1 a1 H1 g1 q1 r1 => ?_⟩
  obtain ⟨ds1, e1, hd1⟩ := asL_of r1
  obtain ⟨p', vs1, s1, h1, q2, e2⟩ := g1.ok.lst e1
  rw [s0] at s1
  cases s1
  exact l F1 H1 p vs1 ds1 xs es Q _ g1.ok.fi.fh h1 q2 q1 hd1 fun vs' ds' w d q3 q4 r => k w d F1 _ _ (g1.ok.chg (e := .lst ds') e2 s0 ⟨vs', rfl, q3⟩) g1.ff q4 r
theorem own_run0 {r : V → List V → Hp → VK → Prop} {f : DM} {i : Nat} (l : LM K r f) (ok : Ok B F a σ H) {Q : VK} {R : D → AS → Prop} (hd : dOwnE i f dNil R a)
    (k : ∀ w d F' a' H', Ok B F' a' σ H' → Same F F' → Dat K F' d w → R d a' → Q w H') : tBM0 K "list" r (tVar i) σ H Q := by
  obtain ⟨ds0, e0, hd⟩ := asL_of hd
  obtain ⟨p, vs0, s0, h0, q0, _⟩ := ok.lst e0
  refine ⟨_, s0, .inl ⟨rfl, vs0, SqL.of h0⟩, ?_⟩
  obtain ⟨ds1, e1, hd1⟩ := asL_of hd
  obtain ⟨p', vs1, s1, h1, q2, e2⟩ := ok.lst e1
  rw [s0] at s1
  cases s1
  exact l F H p vs1 ds1 [] [] Q _ ok.fi.fh h1 q2 rfl hd1 fun vs' ds' w d q3 q4 r => k w d F _ _ (ok.chg (e := .lst ds') e2 s0 ⟨vs', rfl, q3⟩) (Same.refl F) q4 r
variable {name : Str} {apos cpos : Pos} {T id : String} {r : V → List V → Hp → VK → Prop} {f : DM} {i : Nat}
def dOwn (i : Nat) (f : DM) (dl : DAt) : DSt := fun E => dOwnE i f dl fun _ a => E.nx a
theorem ds_own (pa : PlainAttrs "list") (slot : Slot "list" name id) (hty : typeOf (.builtin id) = pure (.type "method_descriptor")) (hm : ∀ j, MtR (X j) id r) (l : LM K r f) (ho : ∀ j, PE (X j) o (tVar i)) (ha : DAE X K ω (e :: es) dl)
    (hs : ∀ j, swapsWith (.Call (.Attribute o name apos) (e :: es) [] cpos) none pos.line (X j).env = pure false := by intro _; rfl)
    (hbase : ∀ j, attributeBase o name (X j).env (eval o (X j).env) = eval o (X j).env := by intro _; rfl)
    (hfew : ∀ j, ((backTo cpos (starEach (e :: es) (X j).env)).all (fun x => !x.1) && (backToKw cpos (keywordEach [] (X j).env)).all (fun x => x.1.isSome)
      && decide ((e :: es).length + ([] : List Keyword).length + (if ([] : List Keyword).isEmpty then 0 else 1) < 30)) = true := by intro _; rfl)
    (hline : (apos.endLine == cpos.line) = true := by rfl) (hst : ∀ j, starEach (e :: es) (X j).env = (false, eval e (X j).env) :: starEach es (X j).env := by intro _; rfl) (hplain : ∀ j, (backTo cpos (starEach es (X j).env)).any (·.1) = false := by intro _; rfl) (hK : ∀ j, (X j).K = K := by intro _; rfl) :
    DS X K ω (.Expr (.Call (.Attribute o name apos) (e :: es) [] cpos) pos) (dOwn i f dl) := by
  obtain ⟨t, p, la⟩ := ha
  exact ⟨tDrop (tBM K "list" r (tVar i) t), fun j => by rw [← hK j]; exact ps_expr (pe_bm pa slot hty (hm j) (ho j) (p j) (hbase j) (hfew j) hline (hst j) (hplain j)) (hs j), fun B hω E DE F a σ H ok hd k => own_run l la hω ok hd fun w d F' a' H' ok' s _ r => k.nx F' a' σ H' ok' s r⟩
theorem ds_own0 (pa : PlainAttrs "list") (slot : Slot "list" name id) (hty : typeOf (.builtin id) = pure (.type "method_descriptor")) (hm : ∀ j, MtR (X j) id r) (l : LM K r f) (ho : ∀ j, PE (X j) o (tVar i))
    (hs : ∀ j, swapsWith (.Call (.Attribute o name apos) [] [] cpos) none pos.line (X j).env = pure false := by intro _; rfl)
    (hbase : ∀ j, attributeBase o name (X j).env (eval o (X j).env) = eval o (X j).env := by intro _; rfl) (hline : (apos.endLine == cpos.line) = true := by rfl) (hK : ∀ j, (X j).K = K := by intro _; rfl) :
    DS X K ω (.Expr (.Call (.Attribute o name apos) [] [] cpos) pos) (dOwn i f dNil) :=
  ⟨tDrop (tBM0 K "list" r (tVar i)), fun j => by rw [← hK j]; exact ps_expr (pe_bm0 pa slot hty (hm j) (ho j) (hbase j) hline) (hs j), fun B hω E DE F a σ H ok hd k => own_run0 l ok hd fun w d F' a' H' ok' s _ r => k.nx F' a' σ H' ok' s r⟩
/-- x = o.m(..) -/
def dSetOwn (x i : Nat) (f : DM) (dl : DAt) : DSt := fun E => dOwnE i f dl fun d a => E.nx (a.put x (.val d))
theorem ds_setOwn {x : Nat} {y : Str} {py : Pos} (hN : ∀ j, (X j).N.Nodup) (hi : ∀ j, (X j).N[x]? = some y) (hx : ∀ j, Loc (X j).env.scope y) (pa : PlainAttrs "list") (slot : Slot "list" name id) (hty : typeOf (.builtin id) = pure (.type "method_descriptor")) (hm : ∀ j, MtR (X j) id r) (l : LM K r f) (ho : ∀ j, PE (X j) o (tVar i)) (ha : DAE X K ω (e :: es) dl)
    (hs : ∀ j, swapsWith (.Call (.Attribute o name apos) (e :: es) [] cpos) (some (.Name y py)) pos.line (X j).env = pure false := by intro _; rfl)
    (hbase : ∀ j, attributeBase o name (X j).env (eval o (X j).env) = eval o (X j).env := by intro _; rfl)
    (hfew : ∀ j, ((backTo cpos (starEach (e :: es) (X j).env)).all (fun x => !x.1) && (backToKw cpos (keywordEach [] (X j).env)).all (fun x => x.1.isSome)
      && decide ((e :: es).length + ([] : List Keyword).length + (if ([] : List Keyword).isEmpty then 0 else 1) < 30)) = true := by intro _; rfl)
    (hline : (apos.endLine == cpos.line) = true := by rfl) (hst : ∀ j, starEach (e :: es) (X j).env = (false, eval e (X j).env) :: starEach es (X j).env := by intro _; rfl) (hplain : ∀ j, (backTo cpos (starEach es (X j).env)).any (·.1) = false := by intro _; rfl) (hK : ∀ j, (X j).K = K := by intro _; rfl)
    (hf : ∀ j, (X j).fn y = true ∨ (X j).env.scope.names.lookup y = some .local := by first | exact fun _ => .inl rfl | exact fun _ => .inr rfl | assumption) (hz : ω.sf = false ∨ x ≠ 0 := by first | exact Or.inl rfl | exact Or.inr (by decide)) :
    DS X K ω (.Assign [.Name y py] (.Call (.Attribute o name apos) (e :: es) [] cpos) pos) (dSetOwn x i f dl) := by
  obtain ⟨t, p, la⟩ := ha
  exact ⟨tAsg (tBM K "list" r (tVar i) t) (gName x), fun j => by rw [← hK j]; exact ps_set (hN j) (hi j) (hx j) (pe_bm pa slot hty (hm j) (ho j) (p j) (hbase j) (hfew j) hline (hst j) (hplain j)) (hs j) (hf j), fun B hω E DE F a σ H ok hd k => own_run l la hω ok hd fun w d F' a' H' ok' s q r => k.nx F' _ _ H' (ok'.setV (hω.z hz) q) s r⟩
theorem ds_setOwn0 {x : Nat} {y : Str} {py : Pos} (hN : ∀ j, (X j).N.Nodup) (hi : ∀ j, (X j).N[x]? = some y) (hx : ∀ j, Loc (X j).env.scope y) (pa : PlainAttrs "list") (slot : Slot "list" name id) (hty : typeOf (.builtin id) = pure (.type "method_descriptor")) (hm : ∀ j, MtR (X j) id r) (l : LM K r f) (ho : ∀ j, PE (X j) o (tVar i))
    (hs : ∀ j, swapsWith (.Call (.Attribute o name apos) [] [] cpos) (some (.Name y py)) pos.line (X j).env = pure false := by intro _; rfl)
    (hbase : ∀ j, attributeBase o name (X j).env (eval o (X j).env) = eval o (X j).env := by intro _; rfl) (hline : (apos.endLine == cpos.line) = true := by rfl) (hK : ∀ j, (X j).K = K := by intro _; rfl)
    (hf : ∀ j, (X j).fn y = true ∨ (X j).env.scope.names.lookup y = some .local := by first | exact fun _ => .inl rfl | exact fun _ => .inr rfl | assumption) (hz : ω.sf = false ∨ x ≠ 0 := by first | exact Or.inl rfl | exact Or.inr (by decide)) :
    DS X K ω (.Assign [.Name y py] (.Call (.Attribute o name apos) [] [] cpos) pos) (dSetOwn x i f dNil) :=
  ⟨tAsg (tBM0 K "list" r (tVar i)) (gName x), fun j => by rw [← hK j]; exact ps_set (hN j) (hi j) (hx j) (pe_bm0 pa slot hty (hm j) (ho j) (hbase j) hline) (hs j) (hf j), fun B hω E DE F a σ H ok hd k => own_run0 l ok hd fun w d F' a' H' ok' s q r => k.nx F' _ _ H' (ok'.setV (hω.z hz) q) s r⟩
/-! the methods -/
def mAppend : DM := fun ds es R => match es with
  | [d] => ds.length < sizeLine ∧ R (ds ++ [d]) (.v .non)
  | _ => False
theorem lm_append : LM K rAppend mAppend := fun F H p vs ds xs es Q R s h q1 q2 hd k => by
  unfold mAppend at hd
  split at hd
  · obtain ⟨v, r, rfl, h1, h2⟩ := q2
    cases (show r = [] from h2)
    exact ⟨p, vs, v, rfl, rfl, h, by rw [q1.len]; exact hd.1, k _ _ _ (.v _) (q1.app (.cons h1 .nil)) rfl hd.2⟩
  · exact hd.elim
def mExtend : DM := fun ds es R => match es with
  | [.lst fs] => ds.length + fs.length ≤ sizeLine ∧ R (ds ++ fs) (.v .non)
  | _ => False
theorem lm_extend : LM K rExtend mExtend := fun F H p vs ds xs es Q R s h q1 q2 hd k => by
  unfold mExtend at hd
  split at hd
  · obtain ⟨v, r, rfl, h1, h2⟩ := q2
    cases (show r = [] from h2)
    obtain ⟨b, ws, rfl, h3, h4⟩ := h1
    exact ⟨p, b, vs, ws, rfl, rfl, h, s _ _ h3, by rw [q1.len, h4.len]; exact hd.1, k _ _ _ (.v _) (q1.app h4) rfl hd.2⟩
  · exact hd.elim
def mInsert : DM := fun ds es R => match es with
  | [.v (.int i), d] => ds.length < sizeLine ∧ (0 ≤ i ∧ i < 2 ^ 63) ∧ R (ds.take i.toNat ++ [d] ++ ds.drop i.toNat) (.v .non)
  | _ => False
theorem lm_insert : LM K (fun x vs H Q => ∃ (l : Addr) (xs : List V) (i : Int) (y : V), x = .ref l ∧ vs = [.int i, y] ∧ H l = some (.lst xs) ∧ xs.length < sizeLine ∧ 0 ≤ i ∧ i < 2 ^ 63 ∧ Q .non (upd H l (.lst (xs.take i.toNat ++ [y] ++ xs.drop i.toNat)))) mInsert := fun F H p vs ds xs es Q R s h q1 q2 hd k => by
  unfold mInsert at hd
  split at hd
  · rename_i i d
    obtain ⟨v, r, rfl, h1, w, r', rfl, h2, h3⟩ := q2
    cases (show r' = [] from h3)
    cases (show v = _ from h1)
    exact ⟨p, vs, i, w, rfl, rfl, h, by rw [q1.len]; exact hd.1, hd.2.1.1, hd.2.1.2, k _ _ _ (.v _) (((q1.take _).app (.cons h2 .nil)).app (q1.drop _)) rfl hd.2.2⟩
  · exact hd.elim
def mPop : DM := fun ds es R => match es, ds[ds.length - 1]? with
  | [], some d => R ds.dropLast d
  | _, _ => False
theorem datL_dropLast {ds : List D} {vs : List V} (q : DatL K H ds vs) : DatL K H ds.dropLast vs.dropLast := by
  rw [List.dropLast_eq_take, List.dropLast_eq_take, q.len]
  exact q.take _
theorem lm_pop : LM K rPop mPop := fun F H p vs ds xs es Q R s h q1 q2 hd k => by
  unfold mPop at hd
  split at hd
  · rename_i d e
    obtain ⟨v, e1, e2⟩ := q1.get e
    cases (show xs = [] from q2)
    exact ⟨p, vs, v, rfl, rfl, h, by rw [q1.len]; exact e1, k _ _ _ _ (datL_dropLast q1) e2 hd⟩
  · exact hd.elim
def mPopAt : DM := fun ds es R => match es with
  | [.v (.int i)] => (-(2 ^ 63) ≤ i ∧ i < 2 ^ 63) ∧ (match seqIndex? i ds.length with
    | some k => opt ds[k]? fun d => R (ds.eraseIdx k) d
    | none => False)
  | _ => False
theorem DatL.erase : ∀ {ds : List D} {vs : List V} (i : Nat), DatL K H ds vs → DatL K H (ds.eraseIdx i) (vs.eraseIdx i)
  | [], _, _, h => by rw [show _ = [] from h]; rfl
  | _ :: _, _, 0, ⟨v, r, e, _, t⟩ => by rw [e]; exact t
  | _ :: _, _, i + 1, ⟨v, r, e, h, t⟩ => by rw [e]; exact ⟨v, _, rfl, h, t.erase i⟩
theorem lm_popAt : LM K rPopAt mPopAt := fun F H p vs ds xs es Q R s h q1 q2 hd k => by
  unfold mPopAt at hd
  split at hd
  · rename_i i
    obtain ⟨v, r, rfl, h1, h2⟩ := q2
    cases (show r = [] from h2)
    cases (show v = _ from h1)
    obtain ⟨hb, hd⟩ := hd
    split at hd
    · rename_i j e
      obtain ⟨d, e1, hd⟩ := opt_of hd
      obtain ⟨w, e2, e3⟩ := q1.get e1
      exact ⟨p, vs, i, j, w, rfl, rfl, h, hb.1, hb.2, by rw [q1.len]; exact e, e2, k _ _ _ _ (q1.erase j) e3 hd⟩
    · exact hd.elim
  · exact hd.elim
/-- o[k] = e, o one's own list -/
def dSetIx (i : Nat) (de dk : DEt) : DSt := fun E a => de a fun d a1 => asL (a1.at i) fun _ => dk a1 fun x a2 => asL (a2.at i) fun ds => match x with
  | .v (.int k) => (match ixN ds.length k with
    | some j => E.nx (a2.put i (.own (.lst (ds.set j d))))
    | none => False)
  | _ => False
theorem ds_setIx {ix : Expr} {p3 : Pos} {dk : DEt} (he : DX X K ω e de) (ho : ∀ j, PE (X j) o (tVar i)) (hi : DX X K ω ix dk) (hs : ∀ j, swapsWithSole [.Subscript o ix p3] e pos.line (X j).env = pure false := by intro _; rfl) (hw : ∀ j, swappedStores [.Subscript o ix p3] e (X j).env = pure none := by intro _; rfl)
    (h1 : ∀ j, (assignEach [.Subscript o ix p3] (X j).env).map (·.2) = [assign (.Subscript o ix p3) (X j).env] := by intro _; rfl)
    (h2 : ∀ j v, assign (.Subscript o ix p3) (X j).env v = (do let ov ← holding [v] (eval o (X j).env); let iv ← holding [v, ov] (eval ix (X j).env); standAt p3; holding [v, ov, iv] (setItem ov iv v); release [v, ov, iv] []) := by intro _ _; rfl) : DS X K ω (.Assign [.Subscript o ix p3] e pos) (dSetIx i de dk) := by
  obtain ⟨t, p, l⟩ := he
  obtain ⟨t2, p2, l2⟩ := hi
  refine ⟨_, fun j => ps_asg (p j) (pg_sub (ho j) (p2 j) set_list (h2 j)) (hs j) (hw j) (h1 j), fun B hω E DE F a σ H ok hd k => l B hω F a σ H _ _ ok hd fun v d F1 a1 H1 g1 q1 r1 => ?_⟩
  obtain ⟨ds0, e0, hd⟩ := asL_of r1
  obtain ⟨p, vs0, s0, h0, q0, _⟩ := g1.ok.lst e0
  refine ⟨_, s0, l2 B hω F1 a1 σ H1 _ _ g1.ok hd fun x f F2 a2 H2 g2 q2 r2 => ?_⟩
  obtain ⟨ds1, e1, hd1⟩ := asL_of r2
  obtain ⟨p', vs1, s1, h1, q3, e2⟩ := g2.ok.lst e1
  rw [s0] at s1
  cases s1
  split at hd1
  · rename_i z
    split at hd1
    · rename_i j e
      cases (show x = _ from q2)
      exact ⟨p, vs1, z, j, rfl, rfl, h1, by rw [q3.len]; exact e, k.nx F2 _ _ _ (g2.ok.chg (e := .lst (ds1.set j d)) e2 s0 ⟨_, rfl, q3.set (q1.mono g2.ff)⟩) (g1.ff.trans g2.ff) hd1⟩
    · exact hd1.elim
  · exact hd1.elim
end
local macro_rules | `(tactic| walk_at "om") => `(tactic| ((try dsimp only [AS.put]); omega))
/-! ### a law's own defs: with a source, with none -/
/-- C: how many numbers are drawn at most -/
def fsp {α β : Type} (C : α → Int) (A : Addr → α → List D) (P : α → Prop) (Po : α → β → Prop) (O : β → D) : DSp := fun sp ds n R => ∃ p x, sp = some p ∧ ds = A p x ∧ P x ∧ n + C x ≤ 800000 ∧ ∀ y, Po x y → R (O y) (n + C x)
def fsp0 {α β : Type} (A : α → List D) (P : α → Prop) (Po : α → β → Prop) (O : β → D) : DSp := fun _ ds n R => ∃ x, ds = A x ∧ P x ∧ ∀ y, Po x y → R (O y) n
theorem fsp.mon {α β : Type} {C : α → Int} {A : Addr → α → List D} {P : α → Prop} {Po : α → β → Prop} {O : β → D} : Mon (fsp C A P Po O) := fun sp ds n R R' h ⟨p, x, h1, h2, h3, h4, h5⟩ => ⟨p, x, h1, h2, h3, h4, fun y hy => h _ _ (h5 y hy)⟩
theorem fsp0.mon {α β : Type} {A : α → List D} {P : α → Prop} {Po : α → β → Prop} {O : β → D} : Mon (fsp0 A P Po O) := fun sp ds n R R' h ⟨x, h2, h3, h5⟩ => ⟨x, h2, h3, fun y hy => h _ _ (h5 y hy)⟩
abbrev sD (p : Addr) : D := .v (.ref p)
abbrev eI (i : Int) : D := .v (.int i)
abbrev eS (x : Str) : D := .v (.str x)
abbrev eB (b : Bool) : D := .v (.bl b)
abbrev eN : D := .v .non
abbrev eLS (l : List Str) : D := .lst (l.map eS)
abbrev eLI (l : List Int) : D := .lst (l.map eI)
/-! loops by an invariant -/
theorem dLoop_inv {dg : DGt} {db : DSt} {E : DEnds} : ∀ {items : List D} {a : AS} (J : Nat → AS → Prop), J 0 a →
    (∀ i d a (N : AS → Prop), items[i]? = some d → J i a → (∀ a', J (i + 1) a' → N a') → dg d a fun a1 => db { E with nx := N, ct := N, bk := E.nx } a1) → (∀ a, J items.length a → E.nx a) → dLoop dg db E items a
  | [], a, J, h0, _, hd => hd a h0
  | d :: ds, a, J, h0, hs, hd => hs 0 d a _ rfl h0 fun a' h => dLoop_inv (fun i => J (i + 1)) h (fun i d a N e => hs (i + 1) d a N e) hd
theorem rng_len {lo : Int} {n : Nat} : (rngD lo n).length = n := by
  unfold rngD
  rw [List.length_map, List.length_range]
theorem dLoop_rng {dg : DGt} {db : DSt} {E : DEnds} {lo : Int} {n : Nat} {a : AS} (J : Nat → AS → Prop) (h0 : J 0 a)
    (hs : ∀ i a (N : AS → Prop), i < n → J i a → (∀ a', J (i + 1) a' → N a') → dg (eI (lo + (i : Nat))) a fun a1 => db { E with nx := N, ct := N, bk := E.nx } a1) (hd : ∀ a, J n a → E.nx a) : dLoop dg db E (rngD lo n) a :=
  dLoop_inv J h0 (fun i d a N e h k => by
    obtain ⟨hi, rfl⟩ := rng_at e
    exact hs i a N hi h k) fun a h => hd a (by rw [rng_len] at h; exact h)
/-- over coded things -/
theorem dLoop_map {α : Type} {f : α → D} {xs : List α} {dg : DGt} {db : DSt} {E : DEnds} {a : AS} (J : Nat → AS → Prop) (h0 : J 0 a)
    (hs : ∀ i x a (N : AS → Prop), xs[i]? = some x → J i a → (∀ a', J (i + 1) a' → N a') → dg (f x) a fun a1 => db { E with nx := N, ct := N, bk := E.nx } a1) (hd : ∀ a, J xs.length a → E.nx a) : dLoop dg db E (xs.map f) a :=
  dLoop_inv J h0 (fun i d a N e h k => by
    rw [List.getElem?_map] at e
    obtain ⟨x, h1, rfl⟩ := Option.map_eq_some_iff.mp e
    exact hs i x a N h1 h k) fun a h => hd a (by rw [List.length_map] at h; exact h)
/-- a comprehension by an invariant over its list and the draws -/
theorem dLc_inv {w : List Sl} {vs : List Nat} {dg : DGt} {dt : DTt} {de : DEt} {sp : Option Addr} {R : List D → Int → Prop} : ∀ {items acc : List D} {n : Int} (J : Nat → List D → Int → Prop), J 0 acc n →
    (∀ i d acc n (N : List D → Int → Prop), items[i]? = some d → J i acc n → (∀ acc' n', J (i + 1) acc' n' → N acc' n') → dg d ⟨w, n, sp⟩ fun a1 => dt a1 fun b a2 => bIf b (de a2 fun x a3 => (dWipe a3 vs).sl = w ∧ acc.length < sizeLine ∧ N (acc ++ [x]) a3.n) ((dWipe a2 vs).sl = w ∧ N acc a2.n)) →
    (∀ acc n, J items.length acc n → R acc n) → dLcGo w vs dg dt de sp R items acc n
  | [], acc, n, J, h0, _, hd => hd acc n h0
  | d :: ds, acc, n, J, h0, hs, hd => hs 0 d acc n _ rfl h0 fun acc' n' h => dLc_inv (fun i => J (i + 1)) h (fun i d acc n N e => hs (i + 1) d acc n N e) hd
theorem as_n {sl sl' : List Sl} {n n' : Int} {sp : Option Addr} (h1 : sl = sl') (h : n = n') : (⟨sl, n, sp⟩ : AS) = ⟨sl', n', sp⟩ := by rw [h1, h]
theorem eLS_snoc (zs : List Str) (z : Str) : D.lst (zs.map eS ++ [eS z]) = eLS (zs ++ [z]) := by
  rw [eLS, List.map_append]
  rfl
theorem hr65 {k : Nat} {A : Around} (hr : Room k A) : A.units + 65 < cLine := by
  have := hr.un
  omega
/-- the law: its first statement makes the source -/
theorem law_run {K : PySem.W.Frag} {X : Cx} {st : Stmt} {rest : List Stmt} {N : List Str} {E : XK} {d : DSt} {a : Addr} {ns : List Int} {H : Hp} {Q : VK} (h1 : PS X st (tAsg (tCall (spSource K) [] E (tCons (tVar 0) tNil)) (gName 1))) (h : DSs (fun _ : Unit => X) K wp0 rest d) (hS : SqL K H a (ns.map V.int)) (hN : 2 ≤ N.length)
    (k : ∀ H', Q (.bl true) H') (hd : ∀ p, d { nx := fun _ => False, rt := fun d _ => d = .v (.bl true) } ⟨(List.replicate N.length .emp).set 1 (.val (sD p)), 0, some p⟩) : ∃ t, PSs X (st :: rest) t ∧ t { nx := fun _ H' => Q .non H', rt := Q } (L2.start N [.ref a]) H := by
  obtain ⟨t, p, l⟩ := h
  refine ⟨_, pss_cons h1 (p ()), ?_⟩
  refine ⟨.ref a, rfl, a, ns, rfl, hS, fun q H' hq s S => ?_⟩
  obtain ⟨xs, hx⟩ := S.at
  have own : ∀ {i : Nat} {d : D}, ¬ ((List.replicate N.length Sl.emp).set 1 (.val (sD q)))[i]? = some (Sl.own d) := fun {i d} e => by
    rcases set_get e with ⟨_, z, _⟩ | ⟨_, z⟩
    · cases z
    · cases (List.mem_replicate.mp (List.mem_of_getElem? z)).2
  refine l ⟨some q, H', Hs (some q) H', none⟩ (wok0 rfl) _ _ (Hs (some q) H') _ _ H' ⟨⟨hs_same, Same.refl _, fun b h => .inl h, fun b o h _ => h, fun b e => ?_⟩, rfl, ?_, fun i d e => ?_, fun i d e => (own e).elim, fun i j p d e h _ _ _ => (own h).elim, fun _ e => nomatch e⟩ (hd q) ⟨fun _ _ _ _ _ _ h => h.elim, fun v d n F' H'' _ _ hv e => ?_, fun _ _ _ _ _ _ h => h.elim, fun _ _ _ _ _ _ h => h.elim⟩
  · cases e
    refine ⟨?_, by show H' q ≠ none; rw [hx]; exact fun z => (nomatch z), S⟩
    unfold Hs
    rw [if_pos rfl]
  · unfold L2.start
    rw [List.length_set, List.length_append, List.length_replicate, List.length_set, List.length_replicate]
    show 1 + (N.length - 1) = N.length
    omega
  · rcases set_get e with ⟨rfl, z, hl⟩ | ⟨_, z⟩
    · cases z
      refine ⟨.ref q, List.getElem?_set_self ?_, rfl⟩
      unfold L2.start
      rw [List.length_append, List.length_replicate]
      show 1 < 1 + (N.length - 1)
      omega
    · cases (List.mem_replicate.mp (List.mem_of_getElem? z)).2
  · subst e
    rw [show v = .bl true from hv]
    exact k H''
section
variable {K : PySem.W.Frag} {ω : Wp} {B : Bs K} {F F' F1 F2 G : Hp} {a a' a1 a2 : AS} {σ σ' : St} {H H' H1 H2 : Hp} {n : Int} {te : TE} {de da db dc : DEt} {ι : Type} {X : ι → Cx} {e e1 e2 o : Expr} {es : List Expr} {pos : Pos} {dt : DTt} {dl dm : DAt}
/-! tuples put together, cut -/
def dCatTE (da db : DEt) : DEt := fun a R => da a fun x a1 => db a1 fun y a2 => match x, y with
  | .tup ds, .tup es => ds ≠ [] ∧ es ≠ [] ∧ ds.length + es.length ≤ sizeLine ∧ R (.tup (ds ++ es)) a2
  | _, _ => False
theorem datL_ne {ds : List D} {vs : List V} (q : DatL K H ds vs) (h : ds ≠ []) : vs ≠ [] := fun z => h (List.length_eq_zero_iff.mp (by rw [← q.len, z]; rfl))
theorem de_catT (ha : DX X K ω e1 da) (hb : DX X K ω e2 db) (hK : ∀ j, (X j).K = K := by intro _; rfl) : DX X K ω (.BinOp e1 .Add e2 pos) (dCatTE da db) := by
  obtain ⟨ta, p1, l1⟩ := ha
  obtain ⟨tb, p2, l2⟩ := hb
  refine ⟨tOp (rCatT K) ta tb, fun j => by rw [← hK j]; exact pe_op op_catT (p1 j) (p2 j), fun B hω F a σ H Q R ok hd k => l1 B hω F a σ H _ _ ok hd fun x d F1 a1 H1 g1 q1 r1 => l2 B hω F1 a1 σ H1 _ _ g1.ok r1 fun y e F2 a2 H2 g2 q2 r2 => ?_⟩
  split at r2
  · rename_i ds es
    obtain ⟨p, vs, rfl, h1, h2⟩ := q1
    obtain ⟨q, ws, rfl, h3, h4⟩ := q2
    refine ⟨p, q, vs, ws, rfl, rfl, SqT.of (g2.ok.fi.fh _ _ (g2.ff _ _ h1)), SqT.of (g2.ok.fi.fh _ _ h3), datL_ne h2 r2.1, by rw [h2.len, h4.len]; exact r2.2.2.1, fun z => absurd z (datL_ne h4 r2.2.1), fun _ u hu => ?_⟩
    have g3 := g2.ok.new (o := .tup (vs ++ ws)) hu
    exact k _ (.tup (ds ++ es)) _ _ _ (.trans ok g1 (.trans g1.ok g2 g3)) ⟨u, _, rfl, upd_same, (h2.mono (g2.ff.trans g3.ff)).app (h4.mono g3.ff)⟩ r2.2.2.2
  · exact r2.elim
variable {lo hi : Option Expr} {dlo dhi : AS → (Option Int → AS → Prop) → Prop} {p2 : Pos}
theorem de_slT (ha : DX X K ω e1 da) (hl : DPO X K ω lo dlo) (hh : DPO X K ω hi dhi) (hK : ∀ j, (X j).K = K := by intro _; rfl) : DX X K ω (.Subscript e1 (.Slice lo hi none p2) pos) (dSlT da dlo dhi) := by
  obtain ⟨ta, p1, l1⟩ := ha
  obtain ⟨tl, p2, l2⟩ := hl
  obtain ⟨th, p3, l3⟩ := hh
  refine ⟨tSl (rSlT K) ta tl th, fun j => by rw [← hK j]; exact pe_slice sl_tup (p1 j) (p2 j) (p3 j), fun B hω F a σ H Q R ok hd k => l1 B hω F a σ H _ _ ok hd fun v d F1 a1 H1 g1 q1 r1 => l2 B hω F1 a1 σ H1 _ _ g1.ok r1 fun l F2 a2 H2 g2 r2 => l3 B hω F2 a2 σ H2 _ _ g2.ok r2 fun h F3 a3 H3 g3 r3 => ?_⟩
  split at r3
  · rename_i ds
    obtain ⟨p, vs, rfl, h1, h2⟩ := q1
    have g := Go.trans ok g1 (.trans g1.ok g2 g3)
    have s13 : Same F1 F3 := g2.ff.trans g3.ff
    refine ⟨p, vs, rfl, SqT.of (g3.ok.fi.fh _ _ (s13 _ _ h1)), by rw [h2.len]; exact r3.1, fun q hq => ?_⟩
    have g4 := g3.ok.new (o := .tup (cutV vs l h)) hq
    exact k _ (.tup (cutD ds l h)) _ _ _ (.trans ok g g4) ⟨q, _, rfl, upd_same, cut_dat (h2.mono (s13.trans g4.ff))⟩ r3.2
  · exact r3.elim
/-- a list, many times -/
def dRep : DR := fun d e R => match d, e with
  | .lst ds, .v (.int k) => (-(2 ^ 63) ≤ k ∧ k < 2 ^ 63 ∧ ds.length * k.toNat ≤ sizeLine) ∧ R (.lst (List.replicate k.toNat ds).flatten)
  | _, _ => False
theorem rep_dat {ds : List D} {vs : List V} (q : DatL K H ds vs) : ∀ n : Nat, DatL K H (List.replicate n ds).flatten (List.replicate n vs).flatten
  | 0 => rfl
  | n + 1 => by
    rw [List.replicate_succ, List.replicate_succ, List.flatten_cons, List.flatten_cons]
    exact q.app (rep_dat q n)
theorem lr_rep : LRO K ω rRep dRep := fun B hω F a σ H x y d e Q R ok hx hy hd k => by
  unfold dRep at hd
  split at hd
  · rename_i ds i
    obtain ⟨p, vs, rfl, h1, h2⟩ := hx
    exact ⟨p, i, vs, rfl, hy, ok.fi.fh _ _ h1, hd.1.1, hd.1.2.1, by rw [h2.len]; exact hd.1.2.2, fun u hu => k u _ _ hu (rep_dat h2 _) hd.2⟩
  · exact hd.elim
theorem do_rep (ha : DX X K ω e1 da) (hb : DX X K ω e2 db) : DO X K ω (.BinOp e1 .Mult e2 pos) (dOp dRep da db) := do_op (fun _ => op_rep) lr_rep ha hb
/-! what a for walks: enumerate, zip, the signs of a text -/
def enumD (ds : List D) (i : Nat) : List D := (ds.zipIdx i).map fun p => .tup [.v (.int (p.2 : Nat)), p.1]
def dEnum (dl : DAt) : DAt := fun a R => dl a fun xs a' => match xs with
  | [.lst ds] => R (enumD ds 0) a'
  | _ => False
theorem enum_at {ds : List D} {i j : Nat} {d : D} (h : (enumD ds j)[i]? = some d) : ∃ x, ds[i]? = some x ∧ d = .tup [.v (.int ((j + i : Nat))), x] := by
  unfold enumD at h
  rw [List.getElem?_map, List.getElem?_zipIdx] at h
  cases e : ds[i]? with
  | none => rw [e] at h; cases h
  | some x =>
    rw [e] at h
    exact ⟨x, rfl, (Option.some.inj h).symm⟩
theorem enum_len {ds : List D} {j : Nat} : (enumD ds j).length = ds.length := by
  unfold enumD
  rw [List.length_map, List.length_zipIdx]
theorem di_enum {x : Expr} {p pos tpos : Pos} {elts : List Expr} {kk : Nat} (hg : ∀ j, Gl (X j) "enumerate") (hm : ∀ j, (X j).mg "enumerate" = none) (ha : DAE X K ω [x] dl) (hs : ∀ j, starEach [x] (X j).env = [(false, eval x (X j).env)] := by intro _; rfl) (hK : ∀ j, (X j).K = K := by intro _; rfl) :
    DI X K ω (.Tuple elts kk tpos) (.Call (.Name "enumerate" p) [x] [] pos) (dEnum dl) := by
  obtain ⟨t, p1, l⟩ := ha
  refine ⟨iEnum K t, fun j => by rw [← hK j]; exact pi_enum (hg j) (hm j) (p1 j) (hs j), fun B hω F a σ H Q R ok hd k => l B hω F a σ H _ _ ok hd fun vs ds F' a' H' g q r => ?_⟩
  split at r
  · rename_i ds
    obtain ⟨v, r', rfl, ⟨p, ws, rfl, h1, h2⟩, h3⟩ := q
    cases (show r' = [] from h3)
    refine ⟨p, ws, rfl, SqL.of (g.ok.fi.fh _ _ h1), k (Ite K p) _ F' a' H' g (fun i F1 H1 s1 s2 => ?_) r⟩
    have S : SqL K H1 p ws := SqL.of (s2 _ _ (s1 _ _ h1))
    refine ⟨fun hi => ⟨ws, S, by rw [enum_len] at hi; rw [h2.len]; exact hi⟩, fun d e => ?_⟩
    obtain ⟨x, e1, rfl⟩ := enum_at e
    obtain ⟨v, e2, e3⟩ := h2.get e1
    refine ⟨⟨ws, v, S, e2⟩, fun y H2 ⟨T, x', h4, h5, h6, h7⟩ => .inr ⟨T, _, h5, h6, ?_⟩⟩
    have ex := h7 ws S
    rw [e2] at ex
    cases ex
    have hF : F1 T = none := by
      cases z : F1 T with
      | none => rfl
      | some u => rw [s2 _ _ z] at h5; cases h5
    rw [Nat.zero_add]
    exact ⟨T, _, h4, upd_same, .cons rfl (.cons ((e3.mono s1).mono (Same.new hF)) .nil)⟩
  · exact r.elim
def zipD : List D → List D → List D
  | x :: xs, y :: ys => .tup [x, y] :: zipD xs ys
  | _, _ => []
theorem zip_at : ∀ {xs ys : List D} {i : Nat} {d : D}, (zipD xs ys)[i]? = some d → ∃ x y, xs[i]? = some x ∧ ys[i]? = some y ∧ d = .tup [x, y]
  | x :: xs, y :: ys, 0, d, h => ⟨x, y, rfl, rfl, (Option.some.inj h).symm⟩
  | x :: xs, y :: ys, i + 1, d, h => zip_at (xs := xs) (ys := ys) (i := i) h
  | [], _, _, _, h => by unfold zipD at h; simp at h
  | _ :: _, [], _, _, h => by unfold zipD at h; simp at h
theorem zip_end : ∀ {xs ys : List D} {i : Nat}, (zipD xs ys).length ≤ i → xs.length ≤ i ∨ ys.length ≤ i
  | x :: xs, y :: ys, 0, h => by
    have h : (zipD xs ys).length + 1 ≤ 0 := h
    omega
  | x :: xs, y :: ys, i + 1, h => by
    have h : (zipD xs ys).length + 1 ≤ i + 1 := h
    rcases zip_end (xs := xs) (ys := ys) (i := i) (by omega) with q | q
    · exact .inl (by rw [List.length_cons]; omega)
    · exact .inr (by rw [List.length_cons]; omega)
  | [], _, _, _ => .inl (Nat.zero_le _)
  | _ :: _, [], _, _ => .inr (Nat.zero_le _)
def dZip (dl : DAt) : DAt := fun a R => dl a fun xs a' => match xs with
  | [.lst ds, .lst es] => R (zipD ds es) a'
  | _ => False
theorem di_zip {x y : Expr} {p pos tpos : Pos} {elts : List Expr} {kk : Nat} (hg : ∀ j, Gl (X j) "zip") (hm : ∀ j, (X j).mg "zip" = none) (ha : DAE X K ω [x, y] dl) (hs : ∀ j, starEach [x, y] (X j).env = (false, eval x (X j).env) :: starEach [y] (X j).env := by intro _; rfl) (hpl : ∀ j, (backTo pos (starEach [y] (X j).env)).any (·.1) = false := by intro _; rfl) (hK : ∀ j, (X j).K = K := by intro _; rfl) :
    DI X K ω (.Tuple elts kk tpos) (.Call (.Name "zip" p) [x, y] [] pos) (dZip dl) := by
  obtain ⟨t, p1, l⟩ := ha
  refine ⟨iZip K t, fun j => by rw [← hK j]; exact pi_zip (hg j) (hm j) (p1 j) (hs j) (hpl j), fun B hω F a σ H Q R ok hd k => l B hω F a σ H _ _ ok hd fun vs ds F' a' H' g q r => ?_⟩
  split at r
  · rename_i ds es
    obtain ⟨v, r', rfl, ⟨p, ws, rfl, h1, h2⟩, w, r'', rfl, ⟨q, us, rfl, h3, h4⟩, h5⟩ := q
    cases (show r'' = [] from h5)
    refine ⟨p, q, ws, us, rfl, SqL.of (g.ok.fi.fh _ _ h1), SqL.of (g.ok.fi.fh _ _ h3), k (Itz K p q) _ F' a' H' g (fun i F1 H1 s1 s2 => ?_) r⟩
    have S : SqL K H1 p ws := SqL.of (s2 _ _ (s1 _ _ h1))
    have S' : SqL K H1 q us := SqL.of (s2 _ _ (s1 _ _ h3))
    refine ⟨fun hi => ⟨ws, us, S, S', by rw [h2.len, h4.len]; exact zip_end hi⟩, fun d e => ?_⟩
    obtain ⟨x, y, e1, e1', rfl⟩ := zip_at e
    obtain ⟨v, e2, e3⟩ := h2.get e1
    obtain ⟨v', e2', e3'⟩ := h4.get e1'
    refine ⟨⟨ws, us, v, v', S, S', e2, e2'⟩, fun z H2 ⟨T, x', y', h4, h5, h6, h7, h8⟩ => .inr ⟨T, _, h5, h6, ?_⟩⟩
    have ex := h7 ws S
    have ey := h8 us S'
    rw [e2] at ex
    rw [e2'] at ey
    cases ex
    cases ey
    have hF : F1 T = none := by
      cases z : F1 T with
      | none => rfl
      | some u => rw [s2 _ _ z] at h5; cases h5
    exact ⟨T, _, h4, upd_same, .cons ((e3.mono s1).mono (Same.new hF)) (.cons ((e3'.mono s1).mono (Same.new hF)) .nil)⟩
  · exact r.elim
def signsD (z : Str) : List D := z.cps.toList.map fun c => .v (.str ⟨#[c]⟩)
def dStr (de : DEt) : DAt := fun a R => de a fun d a' => match d with
  | .v (.str z) => R (signsD z) a'
  | _ => False
theorem di_str {tg : Expr} (h : DX X K ω e de) : DI X K ω tg e (dStr de) := by
  obtain ⟨t, p, l⟩ := h
  refine ⟨_, fun j => pi_str (p j), fun B hω F a σ H Q R ok hd k => l B hω F a σ H _ _ ok hd fun v d F' a' H' g q r => ?_⟩
  split at r
  · rename_i z
    refine ⟨z, q, k (Its z) _ F' a' H' g (fun i F1 H1 s1 s2 => ⟨fun hi => ?_, fun d e => ?_⟩) r⟩
    · unfold signsD at hi
      rw [List.length_map, Array.length_toList] at hi
      exact hi
    · unfold signsD at e
      rw [List.getElem?_map] at e
      obtain ⟨c, h1, rfl⟩ := Option.map_eq_some_iff.mp e
      rw [Array.getElem?_toList] at h1
      refine ⟨(Array.getElem?_eq_some_iff.mp h1).1, fun x H2 ⟨h2, c', h3, h4⟩ => .inl ⟨h2, ?_⟩⟩
      rw [h1] at h3
      cases h3
      exact h4
  · exact r.elim
/-! texts -/
def unS : List D → Option (List Str)
  | [] => some []
  | .v (.str x) :: ds => (unS ds).map (x :: ·)
  | _ :: _ => none
theorem unS_of : ∀ {ds : List D} {xs : List Str}, unS ds = some xs → ds = (xs.map V.str).map D.v
  | [], xs, h => by cases h; rfl
  | .v (.str x) :: ds, xs, h => by
    obtain ⟨ys, h1, rfl⟩ := Option.map_eq_some_iff.mp (show (unS ds).map (x :: ·) = some xs from h)
    rw [unS_of h1]
    rfl
theorem unS_map : ∀ xs : List Str, unS (xs.map fun x => D.v (V.str x)) = some xs
  | [] => rfl
  | x :: xs => by
    show (unS (xs.map fun x => D.v (V.str x))).map (x :: ·) = _
    rw [unS_map xs]
    rfl
def dJoin (da db : DEt) : DEt := fun a R => da a fun x a1 => match x with
  | .v (.str z) => db a1 fun y a2 => (match (seqD y).bind unS with
    | some ys => (ys.map (·.length)).sum + ys.length * z.length ≤ 16777216 ∧ R (.v (.str (Txt.join z ys))) a2
    | none => False)
  | _ => False
theorem de_join {apos pos : Pos} (ho : DB X K ω o da) (he : DB X K ω e db) (hs : ∀ j, starEach [e] (X j).env = [(false, eval e (X j).env)] := by intro _; rfl) (hbase : ∀ j, attributeBase o "join" (X j).env (eval o (X j).env) = eval o (X j).env := by intro _; rfl) (hline : (apos.endLine == pos.line) = true := by rfl) (hK : ∀ j, (X j).K = K := by intro _; rfl) :
    DX X K ω (.Call (.Attribute o "join" apos) [e] [] pos) (dJoin da db) := by
  obtain ⟨ta, p1, l1⟩ := ho
  obtain ⟨tb, p2, l2⟩ := he
  refine ⟨tM1 (fun x xs H Q => ∃ a p, ∃ ys : List Str, x = .str a ∧ xs = [.ref p] ∧ (SqL K H p (ys.map V.str) ∨ SqT K H p (ys.map V.str)) ∧ (ys.map (·.length)).sum + ys.length * a.length ≤ 16777216 ∧ Q (.str (Txt.join a ys)) H) ta tb, fun j => by rw [← hK j]; exact pe_join (p1 j) (p2 j) (hs j) (hbase j) hline, fun B hω F a σ H Q R ok hd k => l1 B hω F a σ H _ _ ok hd fun x d F1 a1 H1 g1 q1 r1 => ?_⟩
  split at r1
  · rename_i z
    refine ⟨⟨z, q1⟩, l2 B hω F1 a1 σ H1 _ _ g1.ok r1 fun y f F2 a2 H2 g2 q2 r2 => ?_⟩
    split at r2
    · rename_i ys e2
      obtain ⟨fs, e3, e4⟩ := Option.bind_eq_some_iff.mp e2
      obtain ⟨p, vs, rfl, h1, h2⟩ := seqD_dat e3 hs_same q2
      rw [unS_of e4] at h2
      cases datL_flat h2
      exact ⟨z, p, ys, q1, rfl, h1, r2.1, k _ (.v _) F2 a2 H2 (.trans ok g1 g2) rfl r2.2⟩
    · exact r2.elim
  · exact r1.elim
def dSplit (da db : DEt) : DEt := fun a R => da a fun x a1 => match x with
  | .v (.str z) => db a1 fun y a2 => (match y with
    | .v (.str s) => ((s.length == 0) = false ∧ z.length + 2 ≤ sizeLine) ∧ R (.lst ((Txt.split z s).map fun w => D.v (V.str w))) a2
    | _ => False)
  | _ => False
theorem datS {G : Hp} : ∀ (l : List Str), DatL K G (l.map fun w => D.v (V.str w)) (l.map V.str)
  | [] => rfl
  | _ :: l => ⟨_, _, rfl, rfl, datS l⟩
theorem do_split {apos pos : Pos} (ho : DB X K ω o da) (he : DB X K ω e db) (hs : ∀ j, starEach [e] (X j).env = [(false, eval e (X j).env)] := by intro _; rfl) (hbase : ∀ j, attributeBase o "split" (X j).env (eval o (X j).env) = eval o (X j).env := by intro _; rfl) (hline : (apos.endLine == pos.line) = true := by rfl) :
    DO X K ω (.Call (.Attribute o "split" apos) [e] [] pos) (dSplit da db) := by
  obtain ⟨ta, p1, l1⟩ := ho
  obtain ⟨tb, p2, l2⟩ := he
  refine ⟨_, fun j => pe_split (p1 j) (p2 j) (hs j) (hbase j) hline, fun B hω F a σ H Q R ok hd k => l1 B hω F a σ H _ _ ok hd fun x d F1 a1 H1 g1 q1 r1 => ?_⟩
  split at r1
  · rename_i z
    refine ⟨⟨z, q1⟩, l2 B hω F1 a1 σ H1 _ _ g1.ok r1 fun y f F2 a2 H2 g2 q2 r2 => ?_⟩
    split at r2
    · rename_i s
      rw [show y = V.str s from q2]
      exact ⟨z, s, q1, rfl, r2.1.1, r2.1.2, fun p hp => Go.list ok (.trans ok g1 g2) hp (datS _) r2.2 k⟩
    · exact r2.elim
  · exact r1.elim
/-! isinstance with written classes -/
inductive Ty where
  | non | bl | int | str | lst | tup | dic
deriving DecidableEq
def Ty.nm : Ty → String
  | .non => "NoneType"
  | .bl => "bool"
  | .int => "int"
  | .str => "str"
  | .lst => "list"
  | .tup => "tuple"
  | .dic => "dict"
def Ty.sub : Ty → Ty → Bool
  | .non, .non => true
  | .bl, .bl => true
  | .bl, .int => true
  | .int, .int => true
  | .str, .str => true
  | .lst, .lst => true
  | .tup, .tup => true
  | .dic, .dic => true
  | _, _ => false
theorem kit_tab (t u : Ty) (h : u ≠ .non) : kitB t.nm u.nm = some (t.sub u) := by
  cases u with
  | non => exact absurd rfl h
  | _ => cases t <;> decide +kernel
/-- a thing's built-in class -/
def tyD : D → Option Ty
  | .v .non => some .non
  | .v (.bl _) => some .bl
  | .v (.int _) => some .int
  | .v (.str _) => some .str
  | .lst _ => some .lst
  | .tup _ => some .tup
  | .ctup _ => some .tup
  | .ftup _ => some .tup
  | .dK _ => some .dic
  | .dT _ => some .dic
  | _ => none
theorem tyD_of {d : D} {x : V} {t : Ty} (s : Same G H) (h : Dat K G d x) (e : tyD d = some t) : TyX K H x (.type t.nm) := by
  cases d with
  | v y =>
    rw [show x = y from h]
    cases y with
    | non => cases e; exact .base .non
    | bl b => cases e; exact .base (.bl b)
    | int b => cases e; exact .base (.int b)
    | str b => cases e; exact .base (.str b)
    | _ => cases e
  | tup ds =>
    cases e
    obtain ⟨a, vs, rfl, h1, _⟩ := h
    exact .base (.tup (s _ _ h1))
  | ctup ds =>
    cases e
    obtain ⟨a, vs, rfl, h1, _⟩ := h
    rcases h1 with (h1 | ⟨o, h1⟩) | ⟨o, its, n, h1, h2, _⟩
    · exact .base (.tup (s _ _ h1))
    · exact .fTuple (s _ _ h1)
    · exact .kTuple h1 h2
  | ftup ds =>
    cases e
    obtain ⟨a, vs, rfl, ⟨o, h1, _⟩, _⟩ := h
    exact .fTuple (s _ _ h1)
  | lst ds =>
    cases e
    obtain ⟨a, vs, rfl, h1, _⟩ := h
    exact .base (.lst (s _ _ h1))
  | dK ds =>
    cases e
    obtain ⟨a, vs, rfl, h1, _⟩ := h
    exact .base (.dK (s _ _ h1))
  | dT ds =>
    cases e
    obtain ⟨a, vs, rfl, h1, _⟩ := h
    exact .base (.dT (s _ _ h1))
  | ins _ _ => cases e
  | ob _ => cases e
def dIsi (u : Ty) (de : DEt) : DEt := fun a R => de a fun d a' => match tyD d with
  | some t => R (.v (.bl (t.sub u))) a'
  | none => False
theorem de_isi (u : Ty) {x y : Str} {p p' : Pos} (hu : u ≠ .non) (hg : ∀ j, Gl (X j) x) (hm : ∀ j, (X j).mg x = none) (hx : x = "isinstance") (hg' : ∀ j, Gl (X j) y) (hm' : ∀ j, (X j).mg y = none) (hy : bootBuiltins y = some (.type u.nm)) (ha : DB X K ω e de)
    (hn : y ≠ "__name__" := by decide) (hd : (y == ("__debug__" : Str)) = false := by decide) (hs1 : ∀ j, starEach [e, .Name y p'] (X j).env = (false, eval e (X j).env) :: starEach [.Name y p'] (X j).env := by intro _; rfl) (hs2 : ∀ j, starEach [.Name y p'] (X j).env = (false, eval (.Name y p') (X j).env) :: starEach [] (X j).env := by intro _; rfl)
    (hpl : ∀ j, (backTo pos (starEach [.Name y p'] (X j).env)).any (·.1) = false := by intro _; rfl) (hK : ∀ j, (X j).K = K := by intro _; rfl) : DX X K ω (.Call (.Name x p) [e, .Name y p'] [] pos) (dIsi u de) := by
  obtain ⟨t, p1, l⟩ := ha
  subst hx
  refine ⟨tCB (rIsi K) (tCons t (tCons (tC (.ty u.nm)) tNil)), fun j => by rw [← hK j]; exact pe_callB call_isi (hg j) (hm j) (by decide +kernel) (pa_cons (p1 j) (pa_cons (pe_bltn (hg' j) (hm' j) hy rfl hn hd) pa_nil (hs2 j)) (hs1 j)) (by decide) (by decide) (hs1 j) (hpl j), fun B hω F a σ H Q R ok hd k => l B hω F a σ H _ _ ok hd fun v d F1 a1 H1 g1 q1 r1 => ?_⟩
  split at r1
  · rename_i t e
    exact ⟨v, _, _, _, _, rfl, .ty _, tyD_of hs_same q1 e, by rw [kit_ty]; exact kit_tab t u hu, k _ (.v _) F1 a1 H1 g1 rfl r1⟩
  · exact r1.elim
def dIsi2 (u u' : Ty) (de : DEt) : DEt := fun a R => de a fun d a' => match tyD d with
  | some t => R (.v (.bl (t.sub u || t.sub u'))) a'
  | none => False
theorem de_isi2 (u u' : Ty) {x y z : Str} {p p1 p2 p3 : Pos} {k0} (hu : u ≠ .non) (hu' : u' ≠ .non) (hg : ∀ j, Gl (X j) x) (hm : ∀ j, (X j).mg x = none) (hx : x = "isinstance") (hg' : ∀ j, Gl (X j) y) (hm' : ∀ j, (X j).mg y = none) (hy : bootBuiltins y = some (.type u.nm)) (hg'' : ∀ j, Gl (X j) z) (hm'' : ∀ j, (X j).mg z = none) (hz : bootBuiltins z = some (.type u'.nm)) (ha : DB X K ω e de)
    (hn : y ≠ "__name__" := by decide) (hd : (y == ("__debug__" : Str)) = false := by decide) (hn' : z ≠ "__name__" := by decide) (hd' : (z == ("__debug__" : Str)) = false := by decide)
    (hs1 : ∀ j, starEach [e, .Tuple [.Name y p1, .Name z p2] k0 p3] (X j).env = (false, eval e (X j).env) :: starEach [.Tuple [.Name y p1, .Name z p2] k0 p3] (X j).env := by intro _; rfl) (hs2 : ∀ j, starEach [.Tuple [.Name y p1, .Name z p2] k0 p3] (X j).env = (false, eval (.Tuple [.Name y p1, .Name z p2] k0 p3) (X j).env) :: starEach [] (X j).env := by intro _; rfl)
    (hs3 : ∀ j, starEach [.Name y p1, .Name z p2] (X j).env = (false, eval (.Name y p1) (X j).env) :: starEach [.Name z p2] (X j).env := by intro _; rfl) (hs4 : ∀ j, starEach [.Name z p2] (X j).env = (false, eval (.Name z p2) (X j).env) :: starEach [] (X j).env := by intro _; rfl)
    (hpl : ∀ j, (backTo pos (starEach [.Tuple [.Name y p1, .Name z p2] k0 p3] (X j).env)).any (·.1) = false := by intro _; rfl) (hK : ∀ j, (X j).K = K := by intro _; rfl) : DX X K ω (.Call (.Name x p) [e, .Tuple [.Name y p1, .Name z p2] k0 p3] [] pos) (dIsi2 u u' de) := by
  obtain ⟨t, q, l⟩ := ha
  subst hx
  refine ⟨tCB (rIsiT K) (tCons t (tCons (tTup (tCons (tC (.ty u.nm)) (tCons (tC (.ty u'.nm)) tNil))) tNil)), fun j => by rw [← hK j]; exact pe_callB call_isiT (hg j) (hm j) (by decide +kernel) (pa_cons (q j) (pa_cons (pe_tup (pa_cons (pe_bltn (hg' j) (hm' j) hy rfl hn hd) (pa_cons (pe_bltn (hg'' j) (hm'' j) hz rfl hn' hd') pa_nil (hs4 j)) (hs3 j))) pa_nil (hs2 j)) (hs1 j)) (by decide) (by decide) (hs1 j) (hpl j), fun B hω F a σ H Q R ok hd k => l B hω F a σ H _ _ ok hd fun v d F1 a1 H1 g1 q1 r1 => ?_⟩
  split at r1
  · rename_i t e
    refine ⟨by show 2 ≤ sizeLine; decide, fun u0 hu0 => ?_⟩
    have g2 := g1.ok.new (o := .tup [.ty u.nm, .ty u'.nm]) hu0
    refine ⟨v, u0, _, _, _, t.sub u || t.sub u', rfl, upd_same, .cons (.ty _) (.cons (.ty _) .nil), tyD_of hs_same (q1.mono g2.bs) e, ?_, k _ (.v _) _ a1 _ (.trans ok g1 g2) rfl r1⟩
    refine kitAny_cons (by rw [kit_ty]; exact kit_tab t u hu) (fun h => ?_) fun h => by rw [h]; rfl
    rw [h]
    refine kitAny_cons (by rw [kit_ty]; exact kit_tab t u' hu') (fun h => ?_) fun h => by rw [h]; rfl
    rw [h]
    exact kitAny_nil
  · exact r1.elim
end
/-! ### dicts, and what parts of one's own tell -/
section
variable {K : PySem.W.Frag} {ω : Wp} {B : Bs K} {F F' F1 F2 G : Hp} {a a' a1 a2 : AS} {σ σ' : St} {H H' H1 H2 : Hp} {n : Int} {te : TE} {de da db dc : DEt} {ι : Type} {X : ι → Cx} {e e1 e2 e3 o : Expr} {es : List Expr} {pos : Pos} {dt : DTt} {dl dm : DAt}
/-- what stays, or one's own with parts that stay -/
def PrtS (K : PySem.W.Frag) (sp : Option Addr) (F H : Hp) (d : D) (v : V) : Prop := Dat K F d v ∨ ∃ p o, v = .ref p ∧ H p = some o ∧ sp ≠ some p ∧ Rep K F d o
def LPS (K : PySem.W.Frag) (ω : Wp) (te : TE) (de : DEt) : Prop := ∀ (B : Bs K), WOk B ω → ∀ (F : Hp) (a : AS) (σ : St) (H : Hp) (Q : VK) (R : D → AS → Prop), Ok B F a σ H → de a R →
  (∀ v d F' a' H', Go B σ F a H F' a' H' → PrtS K B.sp F' H' d v → R d a' → Q v H') → te σ H Q
def DPS {ι : Type} (X : ι → Cx) (K : PySem.W.Frag) (ω : Wp) (e : Expr) (de : DEt) : Prop := ∃ te, (∀ j, PE (X j) e te) ∧ LPS K ω te de
theorem PrtS.go {d : D} {v : V} (h : PrtS K B.sp F H d v) (g : Go B σ F a H F' a' H') : PrtS K B.sp F' H' d v := by
  rcases h with h | ⟨p, o, rfl, h1, h2, h3⟩
  · exact .inl (h.mono g.ff)
  · exact .inr ⟨p, o, rfl, g.hh p o h2 h1, h2, h3.mono g.ff⟩
theorem LE.p (h : LE K ω te de) : LPS K ω te de := fun B hω F a σ H Q R ok hd k => h B hω F a σ H Q R ok hd fun v d F' a' H' g q r => k v d F' a' H' g (.inl q) r
theorem DX.p (h : DX X K ω e de) : DPS X K ω e de := let ⟨t, p, l⟩ := h; ⟨t, p, l.p⟩
theorem lp_var {i : Nat} : LPS K ω (tVar i) (dVarB i) := fun B hω F a σ H Q R ok hd k => by
  unfold dVarB at hd
  cases e : a.at i with
  | emp => rw [e] at hd; exact hd.elim
  | val d =>
    rw [e] at hd
    obtain ⟨v, h1, h2⟩ := ok.va i d (at_of' e (fun z => nomatch z))
    exact ⟨v, h1, k v d F a H (.refl ok) (.inl h2) hd⟩
  | own d =>
    rw [e] at hd
    obtain ⟨p, o, h1, h2, h3, h4, h5⟩ := ok.ow i d (at_of' e (fun z => nomatch z))
    exact ⟨_, h1, k _ d F a H (.refl ok) (.inr ⟨p, o, rfl, h2, (fun z => (ok.fi.sr p z).2.1 h4), h5⟩) hd⟩
theorem dpv (i : Nat) {x : Str} {pos : Pos} (hN : ∀ j, (X j).N[i]? = some x := by intro _; rfl) (hv : ∀ j, Vis (X j).env.scope x := by first | exact fun _ => Or.inl rfl | exact fun _ => Or.inr (Or.inl rfl) | exact fun _ => Or.inr (Or.inr rfl)) (hd : (x == ("__debug__" : Str)) = false := by decide)
    (hcd : (x == ("__classdict__" : Str)) = false := by decide) : DPS X K ω (.Name x pos) (dVarB i) := ⟨_, fun j => pe_var (hN j) (hv j) hd hcd, lp_var⟩
/-! an item of a part -/
theorem ix_prt {sp : Option Addr} {x y : V} {d f : D} {Q : VK} {R : D → Prop} (s : Same F H) (hx : PrtS K sp F H d x) (hy : Dat K G f y) (hf : isV f = true) (h : dIx d f R) (k : ∀ v g, Dat K F g v → R g → Q v H) : rIx K x y H Q := by
  have hy' : Dat K F f y := by
    cases f with
    | v z => exact hy
    | _ => cases hf
  rcases hx with hx | ⟨p, o, rfl, h1, _, h3⟩
  · exact ix_dat s hx hy' h k
  · cases d with
    | lst ds =>
      obtain ⟨vs, rfl, h4⟩ := h3
      unfold dIx at h
      split at h
      · rename_i ds' i e
        cases e
        obtain ⟨g, e, r⟩ := opt_of h
        obtain ⟨v, e1, e2⟩ := atI_dat h4 e
        exact .inl ⟨p, vs, i, v, rfl, hy', SqL.of h1, e1, k v g e2 r⟩
      · rename_i e; cases e
      · rename_i e; cases e
      · rename_i e; cases e
      · rename_i e; cases e
      · exact h.elim
    | _ => first | exact h3.elim | exact h.elim
theorem de_ixP (ha : DPS X K ω e1 da) (hb : DB X K ω e2 db) (hs : PlainIx e2) (hK : ∀ j, (X j).K = K := by intro _; rfl) : DX X K ω (.Subscript e1 e2 pos) (dOp dIx da (dFlat db)) := by
  obtain ⟨ta, p1, l1⟩ := ha
  obtain ⟨tb, p2, l2⟩ := hb
  refine ⟨tOp (rIx K) ta tb, fun j => by rw [← hK j]; exact pe_ix ix_seq (p1 j) (p2 j) hs, fun B hω F a σ H Q R ok hd k => l1 B hω F a σ H _ _ ok hd fun v d F1 a1 H1 g1 q1 r1 => l2 B hω F1 a1 σ H1 _ _ g1.ok r1 fun w f F2 a2 H2 g2 q2 r2 => ?_⟩
  exact ix_prt g2.ok.fi.fh (q1.go g2) q2 r2.1 r2.2 fun v g q r => k v g F2 a2 H2 (.trans ok g1 g2) q r
/-! keys -/
def keyD : D → Option Key
  | .v (.int i) => some (.inl i)
  | .v (.str x) => some (.inr x)
  | _ => none
def keysD : List D → Option (List Key)
  | [] => some []
  | d :: ds => (keyD d).bind fun k => (keysD ds).map (k :: ·)
theorem keyD_of {d : D} {v : V} {k : Key} (h : Dat K H d v) (e : keyD d = some k) : v = kV k := by
  unfold keyD at e
  split at e
  · cases e; exact h
  · cases e; exact h
  · cases e
theorem keysD_of : ∀ {ds : List D} {vs : List V} {ks : List Key}, DatL K H ds vs → keysD ds = some ks → vs = ks.map kV
  | [], _, _, h, e => by cases e; exact h
  | d :: ds, _, _, ⟨v, r, rfl, h, t⟩, e => by
    obtain ⟨k, e1, e2⟩ := Option.bind_eq_some_iff.mp e
    obtain ⟨ks, e3, rfl⟩ := Option.map_eq_some_iff.mp e2
    rw [keyD_of h e1, keysD_of t e3]
    rfl
def getA {κ : Type} [DecidableEq κ] (kvs : List (κ × D)) (k : κ) : Option D := (kvs.find? fun kv => decide (kv.1 = k)).map (·.2)
def putA {κ : Type} [DecidableEq κ] (kvs : List (κ × D)) (k : κ) (d : D) : List (κ × D) := if (kvs.any fun kv => decide (kv.1 = k)) = true then kvs.map (fun kv => if kv.1 = k then (kv.1, d) else kv) else kvs ++ [(k, d)]
def mergeA (kvs more : List (Key × D)) : List (Key × D) := more.foldl (fun acc kv => putA acc kv.1 kv.2) kvs
section
variable {κ : Type} [DecidableEq κ] {kvs : List (κ × D)} {vs : List (κ × V)}
theorem pk_get (h : PK K H kvs vs) (k : κ) : match getA kvs k with
    | none => valV vs k = none
    | some d => ∃ v, valV vs k = some v ∧ Dat K H d v := by
  induction h with
  | nil => rfl
  | @cons p q l m h t ih =>
    obtain ⟨p1, p2⟩ := p
    obtain ⟨q1, q2⟩ := q
    obtain ⟨h1, h2⟩ := h
    cases (show p1 = q1 from h1)
    unfold getA valV at ih ⊢
    rw [List.find?_cons, List.find?_cons]
    by_cases z : p1 = k
    · simp only [decide_eq_true z]
      exact ⟨q2, rfl, h2⟩
    · simp only [decide_eq_false z]
      exact ih
theorem pk_any (h : PK K H kvs vs) (k : κ) : (vs.any fun kv => decide (kv.1 = k)) = (kvs.any fun kv => decide (kv.1 = k)) := by
  induction h with
  | nil => rfl
  | @cons p q l m h t ih => rw [List.any_cons, List.any_cons, ih, show p.1 = q.1 from h.1]
theorem pk_app {kvs' : List (κ × D)} {vs' : List (κ × V)} (h : PK K H kvs vs) (h' : PK K H kvs' vs') : PK K H (kvs ++ kvs') (vs ++ vs') := by
  induction h with
  | nil => exact h'
  | cons h t ih => exact .cons h ih
theorem pk_put {k : κ} {d : D} {v : V} (h : PK K H kvs vs) (hv : Dat K H d v) : PK K H (putA kvs k d) (putK vs k v) := by
  unfold putA putK
  rw [pk_any h k]
  split
  · rename_i z
    clear z
    induction h with
    | nil => exact .nil
    | @cons p q l m h t ih =>
      refine .cons ?_ ih
      obtain ⟨p1, p2⟩ := p
      obtain ⟨q1, q2⟩ := q
      obtain ⟨h1, h2⟩ := h
      cases (show p1 = q1 from h1)
      by_cases z : p1 = k
      · simp only [if_pos z]
        exact ⟨trivial, hv⟩
      · simp only [if_neg z]
        exact ⟨trivial, h2⟩
  · exact pk_app h (.cons ⟨rfl, hv⟩ .nil)
theorem pk_len (h : PK K H kvs vs) : vs.length = kvs.length := by
  induction h with
  | nil => rfl
  | cons h t ih => rw [List.length_cons, List.length_cons, ih]
theorem pk_mono (s : Same H H') (h : PK K H kvs vs) : PK K H' kvs vs := by
  induction h with
  | nil => exact .nil
  | cons h t ih => exact .cons ⟨h.1, h.2.mono s⟩ ih
theorem pk_keys (h : PK K H kvs vs) : vs.map (·.1) = kvs.map (·.1) := by
  induction h with
  | nil => rfl
  | cons h t ih => rw [List.map_cons, List.map_cons, ih, show _ = _ from h.1]
end
theorem pk_merge {more : List (Key × D)} {vs : List (Key × V)} (h : PK K H more vs) : ∀ {kvs : List (Key × D)} {us : List (Key × V)}, PK K H kvs us → PK K H (mergeA kvs more) (mergeK us vs) := by
  induction h with
  | nil => exact fun h => h
  | @cons p q l m h t ih =>
    intro kvs us h'
    obtain ⟨p1, p2⟩ := p
    obtain ⟨q1, q2⟩ := q
    obtain ⟨h1, h2⟩ := h
    cases (show p1 = q1 from h1)
    exact ih (pk_put h' h2)
/-! a look -/
def dGetR (d e : D) (R : Option D → Prop) : Prop := match d with
  | .dK kvs => (match keyD e with
    | some k => R (getA kvs k)
    | none => False)
  | .dT kvs => (match e with
    | .tup ds => (match keysD ds with
      | some k => R (getA kvs k)
      | none => False)
    | _ => False)
  | _ => False
def isDk : D → Bool
  | .dK _ => true
  | .dT _ => true
  | _ => false
theorem prt_isD {sp : Option Addr} {d : D} {x : V} (s : Same F H) (h : PrtS K sp F H d x) (hd : isDk d = true) : ∃ p, x = .ref p ∧ IsD H p := by
  rcases h with h | ⟨p, o, rfl, h1, _, h3⟩
  · cases d with
    | dK kvs =>
      obtain ⟨p, vs, rfl, h1, _⟩ := h
      exact ⟨p, rfl, .inl ⟨vs, .inl (s _ _ h1)⟩⟩
    | dT kvs =>
      obtain ⟨p, vs, rfl, h1, _⟩ := h
      exact ⟨p, rfl, .inr ⟨vs, .inl (s _ _ h1)⟩⟩
    | _ => cases hd
  · cases d with
    | dK kvs =>
      obtain ⟨vs, rfl, _⟩ := h3
      exact ⟨p, rfl, .inl ⟨vs, .inl h1⟩⟩
    | dT kvs =>
      obtain ⟨vs, rfl, _⟩ := h3
      exact ⟨p, rfl, .inr ⟨vs, .inl h1⟩⟩
    | _ => cases hd
theorem prt_dK {sp : Option Addr} {kvs : List (Key × D)} {x : V} (s : Same F H) (h : PrtS K sp F H (.dK kvs) x) : ∃ p vs, x = .ref p ∧ H p = some (.dK vs) ∧ PK K F kvs vs := by
  rcases h with ⟨p, vs, rfl, h1, h2⟩ | ⟨p, o, rfl, h1, _, vs, rfl, h2⟩
  · exact ⟨p, vs, rfl, s _ _ h1, datK_pk.mp h2⟩
  · exact ⟨p, vs, rfl, h1, datK_pk.mp h2⟩
theorem prt_dT {sp : Option Addr} {kvs : List (List Key × D)} {x : V} (s : Same F H) (h : PrtS K sp F H (.dT kvs) x) : ∃ p vs, x = .ref p ∧ H p = some (.dT vs) ∧ PK K F kvs vs := by
  rcases h with ⟨p, vs, rfl, h1, h2⟩ | ⟨p, o, rfl, h1, _, vs, rfl, h2⟩
  · exact ⟨p, vs, rfl, s _ _ h1, datT_pk.mp h2⟩
  · exact ⟨p, vs, rfl, h1, datT_pk.mp h2⟩
theorem prt_lst {sp : Option Addr} {ds : List D} {x : V} (s : Same F H) (h : PrtS K sp F H (.lst ds) x) : ∃ p vs, x = .ref p ∧ H p = some (.lst vs) ∧ DatL K F ds vs := by
  rcases h with ⟨p, vs, rfl, h1, h2⟩ | ⟨p, o, rfl, h1, _, vs, rfl, h2⟩
  · exact ⟨p, vs, rfl, s _ _ h1, h2⟩
  · exact ⟨p, vs, rfl, h1, h2⟩
theorem dget_of {sp : Option Addr} {d f : D} {x y : V} {R : Option D → Prop} (s : Same F H) (s' : Same G H) (hx : PrtS K sp F H d x) (hy : Dat K G f y) (h : dGetR d f R) : ∃ p ov od, x = .ref p ∧ DGet H p y ov ∧ R od ∧ match od with
    | none => ov = none
    | some g => ∃ v, ov = some v ∧ Dat K F g v := by
  unfold dGetR at h
  split at h
  · rename_i kvs
    split at h
    · rename_i k e
      obtain ⟨p, vs, rfl, h1, h2⟩ := prt_dK s hx
      refine ⟨p, _, _, rfl, .inl ⟨vs, k, .inl h1, keyD_of hy e, rfl⟩, h, ?_⟩
      have := pk_get h2 k
      cases z : getA kvs k with
      | none => rw [z] at this; exact this
      | some g => rw [z] at this; exact this
    · exact h.elim
  · rename_i kvs
    split at h
    · rename_i ds
      split at h
      · rename_i k e
        obtain ⟨p, vs, rfl, h1, h2⟩ := prt_dT s hx
        obtain ⟨b, us, rfl, h3, h4⟩ := hy
        rw [keysD_of h4 e] at h3
        refine ⟨p, _, _, rfl, .inr ⟨vs, k, b, .inl h1, rfl, s' _ _ h3, rfl⟩, h, ?_⟩
        have := pk_get h2 k
        cases z : getA kvs k with
        | none => rw [z] at this; exact this
        | some g => rw [z] at this; exact this
      · exact h.elim
    · exact h.elim
  · exact h.elim
def dDGet (da db : DEt) : DEt := fun a R => da a fun x a1 => db a1 fun y a2 => dGetR x y fun o => opt o fun d => R d a2
theorem de_dget (hu : ∀ j, (X j).A.units + 1 < cLine) (ha : DPS X K ω e1 da) (hb : DB X K ω e2 db) (hs : NoSl e2) : DX X K ω (.Subscript e1 e2 pos) (dDGet da db) := by
  obtain ⟨ta, p1, l1⟩ := ha
  obtain ⟨tb, p2, l2⟩ := hb
  refine ⟨_, fun j => pe_dget (hu j) (p1 j) (p2 j) hs, fun B hω F a σ H Q R ok hd k => l1 B hω F a σ H _ _ ok hd fun v d F1 a1 H1 g1 q1 r1 => l2 B hω F1 a1 σ H1 _ _ g1.ok r1 fun w f F2 a2 H2 g2 q2 r2 => ?_⟩
  obtain ⟨p, ov, od, rfl, h1, h2, h3⟩ := dget_of g2.ok.fi.fh hs_same (q1.go g2) q2 r2
  obtain ⟨g, rfl, r⟩ := opt_of h2
  obtain ⟨v, rfl, h4⟩ := h3
  exact ⟨p, v, rfl, h1, k v g F2 a2 H2 (.trans ok g1 g2) h4 r⟩
def dDGet1 (da db : DEt) : DEt := fun a R => da a fun x a1 => isDk x = true ∧ db a1 fun y a2 => dGetR x y fun o => R (o.getD (.v .non)) a2
theorem de_dget1 {apos cpos : Pos} (hu : ∀ j, (X j).A.units + 1 < cLine) (ha : DPS X K ω o da) (hb : DB X K ω e db) (m : ∀ j, M1 (X j) o "get" apos e cpos) : DX X K ω (.Call (.Attribute o "get" apos) [e] [] cpos) (dDGet1 da db) := by
  obtain ⟨ta, p1, l1⟩ := ha
  obtain ⟨tb, p2, l2⟩ := hb
  refine ⟨_, fun j => pe_dget1 (hu j) (p1 j) (p2 j) (m j), fun B hω F a σ H Q R ok hd k => l1 B hω F a σ H _ _ ok hd fun v d F1 a1 H1 g1 q1 r1 => ?_⟩
  obtain ⟨p, rfl, hD⟩ := prt_isD g1.ok.fi.fh q1 r1.1
  refine ⟨p, rfl, hD, l2 B hω F1 a1 σ H1 _ _ g1.ok r1.2 fun w f F2 a2 H2 g2 q2 r2 => ?_⟩
  obtain ⟨p', ov, od, e, h1, h2, h3⟩ := dget_of g2.ok.fi.fh hs_same (q1.go g2) q2 r2
  cases e
  refine ⟨ov, h1, ?_⟩
  cases od with
  | none => rw [show ov = none from h3]; exact k .non (.v .non) F2 a2 H2 (.trans ok g1 g2) rfl h2
  | some g =>
    obtain ⟨v, rfl, h4⟩ := h3
    exact k v g F2 a2 H2 (.trans ok g1 g2) h4 h2
def dDGet2 (da db dc : DEt) : DEt := fun a R => da a fun x a1 => isDk x = true ∧ db a1 fun y a2 => dc a2 fun z a3 => dGetR x y fun o => R (o.getD z) a3
theorem de_dget2 {apos cpos : Pos} {f : Expr} (hu : ∀ j, (X j).A.units + 1 < cLine) (ha : DPS X K ω o da) (hb : DB X K ω e db) (hc : DX X K ω f dc) (m : ∀ j, M2 (X j) o "get" apos e f cpos) : DX X K ω (.Call (.Attribute o "get" apos) [e, f] [] cpos) (dDGet2 da db dc) := by
  obtain ⟨ta, p1, l1⟩ := ha
  obtain ⟨tb, p2, l2⟩ := hb
  obtain ⟨tc, p3, l3⟩ := hc
  refine ⟨_, fun j => pe_dget2 (hu j) (p1 j) (p2 j) (p3 j) (m j), fun B hω F a σ H Q R ok hd k => l1 B hω F a σ H _ _ ok hd fun v d F1 a1 H1 g1 q1 r1 => ?_⟩
  obtain ⟨p, rfl, hD⟩ := prt_isD g1.ok.fi.fh q1 r1.1
  refine ⟨p, rfl, hD, l2 B hω F1 a1 σ H1 _ _ g1.ok r1.2 fun w f F2 a2 H2 g2 q2 r2 => l3 B hω F2 a2 σ H2 _ _ g2.ok r2 fun z dz F3 a3 H3 g3 q3 r3 => ?_⟩
  obtain ⟨p', ov, od, e, h1, h2, h3⟩ := dget_of g3.ok.fi.fh hs_same ((q1.go g2).go g3) (q2.mono g3.bs) r3
  cases e
  refine ⟨ov, h1, ?_⟩
  have g := Go.trans ok g1 (.trans g1.ok g2 g3)
  cases od with
  | none => rw [show ov = none from h3]; exact k z dz F3 a3 H3 g q3 h2
  | some g' =>
    obtain ⟨v, rfl, h4⟩ := h3
    exact k v g' F3 a3 H3 g h4 h2
def dDIn (neg : Bool) (da db : DEt) : DEt := fun a R => da a fun y a1 => db a1 fun x a2 => dGetR x y fun o => R (.v (.bl (nb neg o.isSome))) a2
theorem le_din {ta tb : TE} (l1 : LB K ω ta da) (l2 : LPS K ω tb db) : LE K ω (tDIn ta tb) (dDIn false da db) := fun B hω F a σ H Q R ok hd k => l1 B hω F a σ H _ _ ok hd fun w f F1 a1 H1 g1 q1 r1 => l2 B hω F1 a1 σ H1 _ _ g1.ok r1 fun v d F2 a2 H2 g2 q2 r2 => by
  obtain ⟨p, ov, od, rfl, h1, h2, h3⟩ := dget_of g2.ok.fi.fh hs_same q2 (q1.mono g2.bs) r2
  refine ⟨p, ov, rfl, h1, k _ _ F2 a2 H2 (.trans ok g1 g2) ?_ h2⟩
  cases od with
  | none => rw [show ov = none from h3]; rfl
  | some g =>
    obtain ⟨v, rfl, _⟩ := h3
    rfl
theorem le_dnotin {ta tb : TE} (l1 : LB K ω ta da) (l2 : LPS K ω tb db) : LE K ω (tDNotIn ta tb) (dDIn true da db) := fun B hω F a σ H Q R ok hd k => l1 B hω F a σ H _ _ ok hd fun w f F1 a1 H1 g1 q1 r1 => l2 B hω F1 a1 σ H1 _ _ g1.ok r1 fun v d F2 a2 H2 g2 q2 r2 => by
  obtain ⟨p, ov, od, rfl, h1, h2, h3⟩ := dget_of g2.ok.fi.fh hs_same q2 (q1.mono g2.bs) r2
  refine ⟨p, ov, rfl, h1, k _ _ F2 a2 H2 (.trans ok g1 g2) ?_ h2⟩
  cases od with
  | none => rw [show ov = none from h3]; rfl
  | some g =>
    obtain ⟨v, rfl, _⟩ := h3
    rfl
theorem de_din (hu : ∀ j, (X j).A.units + 1 < cLine) (ha : DB X K ω e1 da) (hb : DPS X K ω e2 db) (hm : behindInMarks .In e2 = false := by rfl) : DX X K ω (.Compare e1 [.In] [e2] pos) (dDIn false da db) := by
  obtain ⟨ta, p1, l1⟩ := ha
  obtain ⟨tb, p2, l2⟩ := hb
  exact ⟨_, fun j => pe_cmp (pc_din (hu j) (p1 j) (p2 j)) hm, le_din l1 l2⟩
theorem de_dnotin (hu : ∀ j, (X j).A.units + 1 < cLine) (ha : DB X K ω e1 da) (hb : DPS X K ω e2 db) (hm : behindInMarks .NotIn e2 = false := by rfl) : DX X K ω (.Compare e1 [.NotIn] [e2] pos) (dDIn true da db) := by
  obtain ⟨ta, p1, l1⟩ := ha
  obtain ⟨tb, p2, l2⟩ := hb
  exact ⟨_, fun j => pe_cmp (pc_dnotin (hu j) (p1 j) (p2 j)) hm, le_dnotin l1 l2⟩
theorem lc_b {te : TE} (l : LE K ω te de) : LC K ω (tB te) (dTest de) := fun B hω F a σ H Q R ok hd k => l B hω F a σ H _ _ ok hd fun v d F' a' H' g q hR => by
  obtain ⟨b, rfl, hR⟩ := asB_of hR
  exact ⟨b, q, k b F' a' H' g hR⟩
theorem dt_din (hu : ∀ j, (X j).A.units + 1 < cLine) (ha : DB X K ω e1 da) (hb : DPS X K ω e2 db) (hm : behindInMarks .In e2 = false := by rfl) : DT X K ω (.Compare e1 [.In] [e2] pos) (dTest (dDIn false da db)) := by
  obtain ⟨ta, p1, l1⟩ := ha
  obtain ⟨tb, p2, l2⟩ := hb
  exact ⟨_, fun j => pt_cmp (pc_din (hu j) (p1 j) (p2 j)) hm, lc_b (le_din l1 l2)⟩
theorem dt_dnotin (hu : ∀ j, (X j).A.units + 1 < cLine) (ha : DB X K ω e1 da) (hb : DPS X K ω e2 db) (hm : behindInMarks .NotIn e2 = false := by rfl) : DT X K ω (.Compare e1 [.NotIn] [e2] pos) (dTest (dDIn true da db)) := by
  obtain ⟨ta, p1, l1⟩ := ha
  obtain ⟨tb, p2, l2⟩ := hb
  exact ⟨_, fun j => pt_cmp (pc_dnotin (hu j) (p1 j) (p2 j)) hm, lc_b (le_dnotin l1 l2)⟩
/-! a new dict -/
theorem Go.newD (ok : Ok B F a σ H) (g1 : Go B σ F a H F1 a1 H1) {p : Addr} {d : D} {ho : HO} (hp : H1 p = none) (q : Rep K F1 d ho) {Q : VK} {R : D → AS → Prop} (r : R d a1)
    (k : ∀ p o d F' a' H', Go B σ F a H F' a' H' → H p = none → F' p = none → H' p = some o → Rep K F' d o → R d a' → Q (.ref p) H') : Q (.ref p) (upd H1 p ho) := by
  have g2 := g1.ok.newO (o := ho) hp
  have h0 : H p = none := by
    cases e : H p with
    | none => rfl
    | some o =>
      have n := (g1.ok.here hp).2.2.1
      rw [g1.hh p o n e] at hp
      cases hp
  exact k p ho d F1 a1 _ (.trans ok g1 g2) h0 (g1.ok.here hp).1 upd_same q r
theorem do_dnewK {pos : Pos} : DO X K ω (.Dict [] [] pos) (fun a R => R (.dK []) a) := ⟨_, fun _ => pe_dnewK, fun B hω F a σ H Q R ok hd k => fun p hp => Go.newD ok (.refl ok) hp (d := .dK []) ⟨[], rfl, rfl⟩ hd k⟩
theorem do_dnewT {pos : Pos} : DO X K ω (.Dict [] [] pos) (fun a R => R (.dT []) a) := ⟨_, fun _ => pe_dnewT, fun B hω F a σ H Q R ok hd k => fun p hp => Go.newD ok (.refl ok) hp (d := .dT []) ⟨[], rfl, rfl⟩ hd k⟩
/-! a display -/
abbrev DPt := AS → (List (Key × D) → AS → Prop) → Prop
def LPs (K : PySem.W.Frag) (ω : Wp) (trs : List (TE × TE)) (dp : DPt) : Prop := ∀ (B : Bs K), WOk B ω → ∀ (F : Hp) (a : AS) (σ : St) (H : Hp) (Q : List (V × V) → Hp → Prop) (R : List (Key × D) → AS → Prop), Ok B F a σ H → dp a R →
  (∀ (kvs : List (Key × V)) ds F' a' H', Go B σ F a H F' a' H' → PK K F' ds kvs → R ds a' → Q (kvs.map fun kv => (kV kv.1, kv.2)) H') → tPairs trs σ H Q
def DPs {ι : Type} (X : ι → Cx) (K : PySem.W.Frag) (ω : Wp) (pos : Pos) (keys : List (Option Expr)) (values : List Expr) (dp : DPt) : Prop := ∃ trs, (∀ j, PPs (X j) pos keys values trs) ∧ LPs K ω trs dp
def dpNil : DPt := fun a R => R [] a
def dpCons (dk dv : DEt) (dp : DPt) : DPt := fun a R => dk a fun x a1 => dv a1 fun y a2 => dp a2 fun kvs a3 => match keyD x with
  | some k => R ((k, y) :: kvs) a3
  | none => False
theorem dps_nil {pos : Pos} : DPs X K ω pos [] [] dpNil := ⟨_, fun _ => pps_nil, fun B hω F a σ H Q R ok hd k => k [] [] F a H (.refl ok) .nil hd⟩
theorem dps_cons {pos : Pos} {ks : List (Option Expr)} {vs : List Expr} {dk dv : DEt} {dp : DPt} (h1 : DX X K ω e1 dk) (h2 : DX X K ω e2 dv) (h3 : DPs X K ω pos ks vs dp) : DPs X K ω pos (some e1 :: ks) (e2 :: vs) (dpCons dk dv dp) := by
  obtain ⟨t1, p1, l1⟩ := h1
  obtain ⟨t2, p2, l2⟩ := h2
  obtain ⟨t3, p3, l3⟩ := h3
  refine ⟨_, fun j => pps_cons (p1 j) (p2 j) (p3 j), fun B hω F a σ H Q R ok hd k => l1 B hω F a σ H _ _ ok hd fun x d F1 a1 H1 g1 q1 r1 => l2 B hω F1 a1 σ H1 _ _ g1.ok r1 fun y f F2 a2 H2 g2 q2 r2 => l3 B hω F2 a2 σ H2 _ _ g2.ok r2 fun kvs ds F3 a3 H3 g3 q3 r3 => ?_⟩
  split at r3
  · rename_i kk e
    rw [keyD_of q1 e]
    exact k ((kk, y) :: kvs) ((kk, f) :: ds) F3 a3 H3 (.trans ok g1 (.trans g1.ok g2 g3)) (.cons ⟨rfl, q2.mono g3.ff⟩ q3) r3
  · exact r3.elim
def dDisp (dp : DPt) : DEt := fun a R => dp a fun kvs a' => kvs.length ≤ 15 ∧ R (.dK (mergeA [] kvs)) a'
theorem do_disp {pos : Pos} {keys : List (Option Expr)} {values : List Expr} {dp : DPt} (h : DPs X K ω pos keys values dp) (h1 : keys.all (fun x => x.isSome) = true) (h2 : keys.length = values.length) (h3 : keys ≠ []) (h4 : keys.length ≤ 15) : DO X K ω (.Dict keys values pos) (dDisp dp) := by
  obtain ⟨t, p1, l⟩ := h
  refine ⟨_, fun j => pe_disp (p1 j) h1 h2 h3 h4, fun B hω F a σ H Q R ok hd k => fun p hp => ?_⟩
  obtain ⟨nF, n0, ns, nO⟩ := ok.here hp
  have g0 := ok.newO (o := .dK []) hp
  refine l B hω F a σ _ _ _ g0.ok hd fun kvs ds F1 a1 H1 g1 q1 r1 => ?_
  have hH1 : H1 p = some (.dK []) := g1.hh p _ ns upd_same
  have f1 : F1 p = none := by
    cases q : F1 p with
    | none => rfl
    | some u =>
      rcases g1.fr p (by rw [q]; exact fun z => (nomatch z)) with z | z | z | ⟨o', w1, w2⟩
      · exact absurd nF z
      · rw [upd_same] at z
        cases z
      · exact absurd z nO
      · rw [g1.ok.fi.fh p o' w1] at hH1
        cases hH1
        cases w2
  have g01 := Go.trans ok g0 g1
  have nO1 : ¬ OwnAt a1 σ p := fun z => nO (g01.oo p z)
  refine ⟨hH1, kvs, rfl, by rw [pk_len q1]; exact r1.1, k p _ (.dK (mergeA [] ds)) F1 a1 _ ⟨g1.ok.ext f1 n0 ns nO1, g01.ff, fun b u hb hh => ?_, g01.fr, g01.oo⟩ hp f1 upd_same ⟨_, rfl, datK_pk.mpr (pk_merge q1 .nil)⟩ r1.2⟩
  rw [upd_ne (fun z => by rw [z, hp] at hh; cases hh)]
  exact g01.hh b u hb hh
/-! what one's own dict is given -/
def dPutR (s : Sl) (e d : D) (R : D → Prop) : Prop := match s with
  | .own (.dK kvs) => (match keyD e with
    | some k => kvs.length < sizeLine ∧ R (.dK (putA kvs k d))
    | none => False)
  | .own (.dT kvs) => (match e with
    | .tup ds => (match keysD ds with
      | some k => kvs.length < sizeLine ∧ R (.dT (putA kvs k d))
      | none => False)
    | _ => False)
  | _ => False
def dDPut (i : Nat) (dk dv : DEt) : DSt := fun E a => dv a fun d a1 => a1.at i ≠ .emp ∧ dk a1 fun e a2 => dPutR (a2.at i) e d fun f => E.nx (a2.put i (.own f))
theorem Ok.slot (ok : Ok B F a σ H) {i : Nat} (h : a.at i ≠ .emp) : ∃ v, σ[i]? = some (some v) := by
  cases e : a.at i with
  | emp => exact absurd e h
  | val d =>
    obtain ⟨v, h1, _⟩ := ok.va i d (at_of' e (fun z => nomatch z))
    exact ⟨v, h1⟩
  | own d =>
    obtain ⟨p, o, h1, _⟩ := ok.ow i d (at_of' e (fun z => nomatch z))
    exact ⟨_, h1⟩
theorem ds_dput {i : Nat} {x : Str} {px pos' : Pos} {ix value : Expr} {dk dv : DEt} (hu : ∀ j, (X j).A.units + 1 < cLine) (ho : ∀ j, PE (X j) (.Name x px) (tVar i)) (hk : DB X K ω ix dk) (hv : DX X K ω value dv) (hs : ∀ j, swapsWith value (some (.Subscript (.Name x px) ix pos')) pos.line (X j).env = pure false := by intro _; rfl) :
    DS X K ω (.Assign [.Subscript (.Name x px) ix pos'] value pos) (dDPut i dk dv) := by
  obtain ⟨tk, p1, l1⟩ := hk
  obtain ⟨tv, p2, l2⟩ := hv
  refine ⟨_, fun j => ps_dput (hu j) (ho j) (p1 j) (p2 j) (hs j), fun B hω E DE F a σ H ok hd k => l2 B hω F a σ H _ _ ok hd fun v d F1 a1 H1 g1 q1 r1 => ?_⟩
  obtain ⟨u, hu'⟩ := g1.ok.slot r1.1
  refine ⟨u, hu', l1 B hω F1 a1 σ H1 _ _ g1.ok r1.2 fun y e F2 a2 H2 g2 q2 r2 => ?_⟩
  unfold dPutR at r2
  split at r2
  · rename_i kvs es
    split at r2
    · rename_i kk ek
      have es' := at_of' es (fun z => nomatch z)
      obtain ⟨p, o, h1, h2, h3, h4, vs, rfl, h5⟩ := g2.ok.ow i _ es'
      rw [hu'] at h1
      cases h1
      have q1' := q1.mono g2.ff
      refine ⟨p, _, rfl, by rw [keyD_of q2 ek]; exact .k h2 (by rw [pk_len (datK_pk.mp h5)]; exact r2.1), k.nx F2 _ σ _ (g2.ok.chg (e := .dK (putA kvs kk d)) es' hu' ⟨_, rfl, datK_pk.mpr (pk_put (datK_pk.mp h5) q1')⟩) (g1.ff.trans g2.ff) r2.2⟩
    · exact r2.elim
  · rename_i kvs es
    split at r2
    · rename_i ds
      split at r2
      · rename_i kk ek
        have es' := at_of' es (fun z => nomatch z)
        obtain ⟨p, o, h1, h2, h3, h4, vs, rfl, h5⟩ := g2.ok.ow i _ es'
        rw [hu'] at h1
        cases h1
        have q1' := q1.mono g2.ff
        obtain ⟨b, us, rfl, h6, h7⟩ := q2
        rw [keysD_of h7 ek] at h6
        refine ⟨p, _, rfl, .t h2 (hs_same _ _ h6) (by rw [pk_len (datT_pk.mp h5)]; exact r2.1), k.nx F2 _ σ _ (g2.ok.chg (e := .dT (putA kvs kk d)) es' hu' ⟨_, rfl, datT_pk.mpr (pk_put (datT_pk.mp h5) q1')⟩) (g1.ff.trans g2.ff) r2.2⟩
      · exact r2.elim
    · exact r2.elim
  · exact r2.elim
/-- d.update(e), d one's own -/
def dDUpd (i : Nat) (de : DEt) : DSt := fun E a => isOwnK (a.at i) = true ∧ de a fun d a1 => match a1.at i, d with
  | .own (.dK kvs), .dK more => kvs.length + more.length ≤ sizeLine ∧ E.nx (a1.put i (.own (.dK (mergeA kvs more))))
  | _, _ => False
where isOwnK : Sl → Bool
  | .own (.dK _) => true
  | _ => false
theorem ds_dupd {i : Nat} {x : Str} {px apos cpos : Pos} (ho : ∀ j, PE (X j) (.Name x px) (tVar i)) (he : DX X K ω e de) (m : ∀ j, M1 (X j) (.Name x px) "update" apos e cpos) (hs : ∀ j, swapsWith (.Call (.Attribute (.Name x px) "update" apos) [e] [] cpos) none pos.line (X j).env = pure false := by intro _; rfl) :
    DS X K ω (.Expr (.Call (.Attribute (.Name x px) "update" apos) [e] [] cpos) pos) (dDUpd i de) := by
  obtain ⟨t, p1, l1⟩ := he
  refine ⟨tDrop (tDUpd (tVar i) t), fun j => ps_expr (pe_dupd (ho j) (p1 j) (m j)) (hs j), fun B hω E DE F a σ H ok hd k => ?_⟩
  obtain ⟨h0, hd⟩ := hd
  have h0' : ∃ kvs, a.at i = .own (.dK kvs) := by
    unfold dDUpd.isOwnK at h0
    split at h0
    · exact ⟨_, by assumption⟩
    · cases h0
  obtain ⟨kvs0, e0⟩ := h0'
  obtain ⟨p, o, h1, h2, _, _, vs0, rfl, _⟩ := ok.ow i _ (at_of' e0 (fun z => nomatch z))
  refine ⟨_, h1, p, rfl, .inl ⟨vs0, .inl h2⟩, l1 B hω F a σ H _ _ ok hd fun v d F1 a1 H1 g1 q1 r1 => ?_⟩
  split at r1
  · rename_i kvs more es
    have es' := at_of' es (fun z => nomatch z)
    obtain ⟨p', o, h1', h3, h4, h5, vs, rfl, h6⟩ := g1.ok.ow i _ es'
    rw [h1] at h1'
    cases h1'
    obtain ⟨b, us, rfl, h7, h8⟩ := q1
    refine ⟨b, vs, us, rfl, h3, g1.ok.fi.fh _ _ h7, fun z => (by rw [z, h7] at h4; cases h4), by rw [pk_len (datK_pk.mp h6), pk_len (datK_pk.mp h8)]; exact r1.1, ?_⟩
    exact k.nx F1 _ σ _ (g1.ok.chg (e := .dK (mergeA kvs more)) es' h1 ⟨_, rfl, datK_pk.mpr (pk_merge (datK_pk.mp h8) (datK_pk.mp h6))⟩) g1.ff r1.2
  · exact r1.elim
end
/-! ### errors -/
theorem XRep.mono {K : PySem.W.Frag} {F F' : Hp} {dd : Option Addr} {fs : List (Str × D)} (s : Same F F') (h : XRep K F dd fs) : XRep K F' dd fs := h.imp id fun ⟨d, vs, e, h1, h2⟩ => ⟨d, vs, e, s _ _ h1, pk_mono s h2⟩
abbrev DSpX := Option Addr → List D → Int → (D → Int → Prop) → (Addr → List (Str × D) → Int → Prop) → Prop
/-- behind a call that fails -/
def PostX (K : PySem.W.Frag) (sp : Option Addr) (F H : Hp) (E : XK) (C : Addr) (fs : List (Str × D)) (n' : Int) : Prop := ∀ (dd : Option Addr) (F' H' : Hp), Same F F' → Same F' H' → (∀ b o, sp ≠ some b → H b = some o → H' b = some o) → (∀ b, F' b ≠ none → F b ≠ none ∨ H b = none ∨ ImmA F' b) →
  (∀ p, sp = some p → F' p = none ∧ Src H' p n') → XRep K F' dd fs → E (.ref C) dd H'
def upX (K : PySem.W.Frag) (dsp : DSpX) : Sp := fun vs H Q E => ∃ (sp : Option Addr) (F : Hp) (ds : List D) (n : Int), Same F H ∧ (∀ p, sp = some p → F p = none ∧ Src H p n) ∧ DatL K F ds vs ∧ dsp sp ds n (Post K sp F H Q) (PostX K sp F H E)
theorem upX_len {K : PySem.W.Frag} {dsp : DSpX} {m : Nat} (h : ∀ sp ds n R RX, dsp sp ds n R RX → ds.length = m) (vs : List V) (H : Hp) (Q : VK) (E : XK) : upX K dsp vs H Q E → vs.length = m := fun ⟨sp, F, ds, n, _, _, L, q⟩ => by
  rw [L.len]
  exact h sp ds n _ _ q
/-- the wish of a def that may fail -/
def wpX (K : PySem.W.Frag) (sp : Option Addr) (F H : Hp) (E : XK) : Wp := ⟨fun cls dd _ H' => E cls dd H', fun C fs _ n => PostX K sp F H E C fs n, fun _ => True, false⟩
theorem d_runX {K : PySem.W.Frag} {sp : Option Addr} {F H : Hp} {ds : List D} {vs : List V} {n : Int} {Q : VK} {E : XK} {X : Cx} {body : List Stmt} {N : List Str} {d : DSt} (h : DSs (fun _ : Unit => X) K (wpX K sp F H E) body d) (s : Same F H) (src : ∀ p, sp = some p → F p = none ∧ Src H p n) (L : DatL K F ds vs)
    {sl : List Sl} (hsl : sl = (dstart N ds n sp).sl) (hd : d { nx := fun a => Post K sp F H Q (.v .non) a.n, rt := Post K sp F H Q } ⟨sl, n, sp⟩) : ∃ t, PSs X body t ∧ t { nx := fun _ H' => Q .non H', rt := Q } (L2.start N vs) H := by
  obtain ⟨t, p, l⟩ := h
  subst hsl
  refine ⟨t, p (), l ⟨sp, H, F, none⟩ ⟨trivial, fun _ => rfl, fun F' a σ' H' C dd fs ok x w => ?_⟩ _ _ F _ _ H (ok_start N s src L) hd ⟨fun F' a' σ' H' ok s h => ?_, fun v d n F' H' f s q h => ?_, fun _ _ _ _ _ _ h => h.elim, fun _ _ _ _ _ _ h => h.elim⟩⟩
  · exact w dd F' H' ok.fi.ff ok.fi.fh (fun b o n h => ok.fi.fm b o h n) (fun b h => ok.fi.fr b h) (fun p e => ⟨(ok.fi.sr p e).1, (ok.fi.sr p e).2.2⟩) x
  · exact h .non F' H' s ok.fi.fh (fun b o n h => ok.fi.fm b o h n) (fun b h => ok.fi.fr b h) (fun p e => ⟨(ok.fi.sr p e).1, (ok.fi.sr p e).2.2⟩) rfl
  · exact h v F' H' s f.fh (fun b o n h => f.fm b o h n) (fun b h => f.fr b h) (fun p e => ⟨(f.sr p e).1, (f.sr p e).2.2⟩) q
def UpsX (K : PySem.W.Frag) (sp : Sp) (dsp : DSpX) : Prop := ∀ vs H Q E, upX K dsp vs H Q E → sp vs H Q E
theorem UpsX.rfl {K : PySem.W.Frag} {dsp : DSpX} : UpsX K (upX K dsp) dsp := fun _ _ _ _ h => h
def MonX (dsp : DSpX) : Prop := ∀ sp ds n (R R' : D → Int → Prop) (S S' : Addr → List (Str × D) → Int → Prop), (∀ d n', R d n' → R' d n') → (∀ C fs n', S C fs n' → S' C fs n') → dsp sp ds n R S → dsp sp ds n R' S'
abbrev DWt := Addr → List (Str × D) → List Sl → Int → Prop
section
variable {K : PySem.W.Frag} {ω : Wp} {B : Bs K} {F F' F1 F2 G : Hp} {a a' a1 a2 : AS} {σ σ' : St} {H H' H1 H2 : Hp} {n : Int} {te : TE} {de da db : DEt} {ι : Type} {X : ι → Cx} {e e1 e2 : Expr} {es : List Expr} {pos : Pos} {dt : DTt} {dl dm : DAt}
def dCallX (W : DWt) (dsp : DSpX) (dl : DAt) : DEt := fun a R => dl a fun ds a' => dsp a'.sp ds a'.n (fun d n' => R d ⟨a'.sl, n', a'.sp⟩) fun C fs n' => W C fs a'.sl n'
def dCallX0 (W : DWt) (dsp : DSpX) (dl : DAt) : DEt := fun a R => dl a fun ds a' => dsp none ds 0 (fun d _ => R d a') fun C fs _ => W C fs a'.sl a'.n
theorem le_callX {dsp : DSpX} {s : Sp} {ta : TA} (m : MonX dsp) (u : UpsX K s dsp) (l : LAE K ω ta dl) : LE K ω (tCallS s (fun σ => WE ω.W σ) ta) (dCallX ω.dW dsp dl) := fun B hω F a σ H Q R ok hd k => l B hω F a σ H _ _ ok hd fun vs ds F1 a1 H1 g1 q1 r1 => by
  rw [g1.ok.es] at r1
  refine u _ _ _ _ ⟨B.sp, F1, ds, a1.n, g1.ok.fi.fh, fun p e => ⟨(g1.ok.fi.sr p e).1, (g1.ok.fi.sr p e).2.2⟩, q1, m _ _ _ _ _ _ _ (fun d n' r => ?_) (fun C fs n' r => ?_) r1⟩
  · intro v F' H' x1 x2 x3 x4 x5 x6
    exact k v d F' _ H' (.trans ok g1 (Go.call g1.ok x1 x2 x3 x4 x5)) x6 (by rw [← g1.ok.es] at r; exact r)
  · intro dd F' H' x1 x2 x3 x4 x5 x6
    exact hω.2.2 F' ⟨a1.sl, n', a1.sp⟩ σ H' C dd fs (Go.call g1.ok x1 x2 x3 x4 x5).ok x6 r
theorem le_callX0 {dsp : DSpX} {s : Sp} {ta : TA} (m : MonX dsp) (u : UpsX K s dsp) (l : LAE K ω ta dl) : LE K ω (tCallS s (fun σ => WE ω.W σ) ta) (dCallX0 ω.dW dsp dl) := fun B hω F a σ H Q R ok hd k => l B hω F a σ H _ _ ok hd fun vs ds F1 a1 H1 g1 q1 r1 => by
  have go : ∀ F' H', Same F1 F' → Same F' H' → (∀ b o, none ≠ some b → H1 b = some o → H' b = some o) → (∀ b, F' b ≠ none → F1 b ≠ none ∨ H1 b = none ∨ ImmA F' b) → Go B σ F1 a1 H1 F' a1 H' := fun F' H' x1 x2 x3 x4 => by
    have hh : Same H1 H' := fun b o h => x3 b o (fun z => nomatch z) h
    refine Go.call g1.ok x1 x2 (fun b o _ h => hh b o h) x4 fun p e => ?_
    obtain ⟨y1, y2, y3⟩ := g1.ok.fi.sr p e
    refine ⟨?_, y3.same hh⟩
    cases q : F' p with
    | none => rfl
    | some u =>
      rcases x4 p (by rw [q]; exact fun z => (nomatch z)) with w | w | ⟨o', w1, w2⟩
      · exact absurd y1 w
      · obtain ⟨xs, z⟩ := y3.at
        rw [z] at w
        cases w
      · obtain ⟨xs, z⟩ := (y3.same hh).at
        rw [x2 p o' w1] at z
        cases z
        cases w2
  refine u _ _ _ _ ⟨none, F1, ds, 0, g1.ok.fi.fh, (fun p e => nomatch e), q1, m _ _ _ _ _ _ _ (fun d n' r => ?_) (fun C fs n' r => ?_) r1⟩
  · intro v F' H' x1 x2 x3 x4 x5 x6
    exact k v d F' a1 H' (.trans ok g1 (go F' H' x1 x2 x3 x4)) x6 r
  · intro dd F' H' x1 x2 x3 x4 x5 x6
    exact hω.2.2 F' a1 σ H' C dd fs (go F' H' x1 x2 x3 x4).ok x6 r
/-- the same with borrowed values, where nothing fails and what comes out is flat -/
def dCallXF0 (dsp : DSpX) (dl : DAt) : DEt := fun a R => dl a fun ds a' => dsp none ds 0 (fun d _ => isV d = true ∧ R d a') fun _ _ _ => False
theorem le_callXF0 {dsp : DSpX} {s : Sp} {ta : TA} (m : MonX dsp) (u : UpsX K s dsp) (l : LAB K ω ta dl) : LE K ω (tCallS s (fun σ => WE ω.W σ) ta) (dCallXF0 dsp dl) := fun B hω F a σ H Q R ok hd k => l B hω F a σ H _ _ ok hd fun vs ds F1 a1 H1 g1 q1 r1 => by
  refine u _ _ _ _ ⟨none, Hs B.sp H1, ds, 0, hs_same, (fun p e => nomatch e), q1, m _ _ _ _ _ _ _ (fun d n' r => ?_) (fun C fs n' r => r.elim) r1⟩
  intro v F' H' x1 x2 x3 x4 x5 x6
  have hh : Same H1 H' := fun b o h => x3 b o (fun z => nomatch z) h
  refine k v d F1 a1 H' (.trans ok g1 (Go.call g1.ok (Same.refl F1) (fun b o h => hh _ _ (g1.ok.fi.fh b o h)) (fun b o _ h => hh b o h) (fun b z => .inl z) fun p e => ⟨(g1.ok.fi.sr p e).1, (g1.ok.fi.sr p e).2.2.same hh⟩)) ?_ r.2
  cases d with
  | v x => exact x6
  | _ => exact absurd r.1 Bool.false_ne_true
section
variable {k : Nat} {f : Addr} {fd : FuncData} {ps : List Str} {s : Sp} {dsp : DSpX} {x : Str} {p : Pos}
theorem de_callX (m : MonX dsp) (u : UpsX K s dsp) (G : ∀ j, FnOk (X j).prog (X j).w (X j).K (X j).mg (X j).base (L2.CX (X j).prog (X j).w) k f fd ps s) (hr : ∀ j, Room k (X j).A) (hg : ∀ j, Gl (X j) x) (hm : ∀ j, (X j).mg x = some (.ref f)) (hk : ∀ j, PySem.W.keepIn (X j).K (.ref f) = true) (hb : ∀ j, Binds (X j).K fd ps []) (tk : ∀ j, Takes (X j) ω.W) (ha : DAE X K ω (e :: es) dl)
    (hdb : (x == ("__debug__" : Str)) = false := by decide) (he : ∀ j, starEach (e :: es) (X j).env = (false, eval e (X j).env) :: starEach es (X j).env := by intro _; rfl) (hpl : ∀ j, (backTo pos (starEach es (X j).env)).any (·.1) = false := by intro _; rfl) : DX X K ω (.Call (.Name x p) (e :: es) [] pos) (dCallX ω.dW dsp dl) := by
  obtain ⟨t, h, l⟩ := ha
  exact ⟨_, fun j => pe_callS (G j) (hr j) (hg j) (hm j) (hk j) (hb j) (passAt (tk j)) (h j) hdb (he j) (hpl j), le_callX m u l⟩
theorem de_callX0 (m : MonX dsp) (u : UpsX K s dsp) (G : ∀ j, FnOk (X j).prog (X j).w (X j).K (X j).mg (X j).base (L2.CX (X j).prog (X j).w) k f fd ps s) (hr : ∀ j, Room k (X j).A) (hg : ∀ j, Gl (X j) x) (hm : ∀ j, (X j).mg x = some (.ref f)) (hk : ∀ j, PySem.W.keepIn (X j).K (.ref f) = true) (hb : ∀ j, Binds (X j).K fd ps []) (tk : ∀ j, Takes (X j) ω.W) (ha : DAE X K ω (e :: es) dl)
    (hdb : (x == ("__debug__" : Str)) = false := by decide) (he : ∀ j, starEach (e :: es) (X j).env = (false, eval e (X j).env) :: starEach es (X j).env := by intro _; rfl) (hpl : ∀ j, (backTo pos (starEach es (X j).env)).any (·.1) = false := by intro _; rfl) : DX X K ω (.Call (.Name x p) (e :: es) [] pos) (dCallX0 ω.dW dsp dl) := by
  obtain ⟨t, h, l⟩ := ha
  exact ⟨_, fun j => pe_callS (G j) (hr j) (hg j) (hm j) (hk j) (hb j) (passAt (tk j)) (h j) hdb (he j) (hpl j), le_callX0 m u l⟩
theorem de_callXF0 (m : MonX dsp) (u : UpsX K s dsp) (G : ∀ j, FnOk (X j).prog (X j).w (X j).K (X j).mg (X j).base (L2.CX (X j).prog (X j).w) k f fd ps s) (hr : ∀ j, Room k (X j).A) (hg : ∀ j, Gl (X j) x) (hm : ∀ j, (X j).mg x = some (.ref f)) (hk : ∀ j, PySem.W.keepIn (X j).K (.ref f) = true) (hb : ∀ j, Binds (X j).K fd ps []) (tk : ∀ j, Takes (X j) ω.W) (ha : DAB X K ω (e :: es) dl)
    (hdb : (x == ("__debug__" : Str)) = false := by decide) (he : ∀ j, starEach (e :: es) (X j).env = (false, eval e (X j).env) :: starEach es (X j).env := by intro _; rfl) (hpl : ∀ j, (backTo pos (starEach es (X j).env)).any (·.1) = false := by intro _; rfl) : DX X K ω (.Call (.Name x p) (e :: es) [] pos) (dCallXF0 dsp dl) := by
  obtain ⟨t, h, l⟩ := ha
  exact ⟨_, fun j => pe_callS (G j) (hr j) (hg j) (hm j) (hk j) (hb j) (passAt (tk j)) (h j) hdb (he j) (hpl j), le_callXF0 m u l⟩
end
/-! raise C(e) -/
def dRaise (W : DWt) (C : Addr) (f : Str) (dl : DAt) : DSt := fun _ a => dl a fun ds a' => match ds with
  | [d] => W C [(f, d)] a'.sl a'.n
  | _ => False
theorem ds_raise {C fI : Addr} {x f : Str} {p pos2 : Pos} {k : Nat} (hc : ∀ j, (X j).calm = true) (T : ∀ j, PySem.SupX.ClsTxt (X j).prog (X j).K (X j).mg C fI x) (Tf : ∀ j, PySem.SupX.FnTxt (X j).prog (X j).K C fI f) (hr : ∀ j, Room k (X j).A) (tk : ∀ j, Takes (X j) ω.W) (ha : DAE X K ω [e] dl) (hg : ∀ j, Gl (X j) x)
    (hd : (x == ("__debug__" : Str)) = false := by decide) (he : ∀ j, starEach (e :: []) (X j).env = (false, eval e (X j).env) :: starEach [] (X j).env := by intro _; rfl) (hpl : ∀ j, (backTo pos (starEach [] (X j).env)).any (·.1) = false := by intro _; rfl) :
    DS X K ω (.Raise (some (.Call (.Name x p) [e] [] pos)) none pos2) (dRaise ω.dW C f dl) := by
  obtain ⟨t, h, l⟩ := ha
  refine ⟨_, fun j => ps_raiseSup (hc j) (T j) (Tf j) (hr j) (tk j) (h j) (hg j) hd (he j) (hpl j), fun B hω E DE F a σ H ok hd k => l B hω F a σ H _ _ ok hd fun vs ds F1 a1 H1 g1 q1 r1 => ?_⟩
  split at r1
  · rename_i d
    obtain ⟨v, r, rfl, h1, h2⟩ := q1
    cases (show r = [] from h2)
    refine ⟨v, rfl, fun dd hdd => ?_⟩
    have g2 := g1.ok.new (o := .xd [(f, v)]) hdd
    exact hω.2.2 _ a1 σ _ C (some dd) [(f, d)] g2.ok (.inr ⟨dd, _, rfl, upd_same, .cons ⟨rfl, h1.mono g2.ff⟩ .nil⟩) r1
  · exact r1.elim
/-- raise C() -/
def dRaise0 (W : DWt) (C : Addr) : DSt := fun _ a => W C [] a.sl a.n
theorem ds_raise0 {C fI : Addr} {x : Str} {p pos2 : Pos} {k : Nat} (hc : ∀ j, (X j).calm = true) (T : ∀ j, PySem.SupX.ClsTxt (X j).prog (X j).K (X j).mg C fI x) (Tf : ∀ j, PySem.SupX.FnTxt0 (X j).prog (X j).K C fI) (hr : ∀ j, Room k (X j).A) (tk : ∀ j, Takes (X j) ω.W) (hg : ∀ j, Gl (X j) x)
    (hd : (x == ("__debug__" : Str)) = false := by decide) : DS X K ω (.Raise (some (.Call (.Name x p) [] [] pos)) none pos2) (dRaise0 ω.dW C) :=
  ⟨_, fun j => ps_raiseSup0 (hc j) (T j) (Tf j) (hr j) (tk j) (hg j) hd, fun B hω E DE F a σ H ok hd k => hω.2.2 F a σ H C none [] ok (.inl ⟨rfl, rfl⟩) hd⟩
/-! try with clauses -/
theorem Fi.re (f : Fi B F n H) : Fi (K := K) ⟨B.sp, B.H0, F, B.self⟩ F n H := ⟨f.fh, Same.refl F, fun _ h => .inl h, f.fm, f.sr⟩
theorem Ok.re (ok : Ok B F a σ H) : Ok (K := K) ⟨B.sp, B.H0, F, B.self⟩ F a σ H := ⟨ok.fi.re, ok.es, ok.len, ok.va, ok.ow, ok.ds, ok.fx⟩
theorem Fi.un {n' : Int} (ok : Fi B F n H) (f : Fi (K := K) ⟨B.sp, B.H0, F, B.self⟩ F' n' H') : Fi B F' n' H' := ⟨f.fh, ok.ff.trans f.ff, fun b h => (f.fr b h).elim (fun z => (ok.fr b z).imp id fun z => z.imp id fun z => z.mono f.ff) .inr, f.fm, f.sr⟩
theorem Ok.un (ok : Ok B F a σ H) (f : Ok (K := K) ⟨B.sp, B.H0, F, B.self⟩ F' a' σ' H') : Ok B F' a' σ' H' := ⟨ok.fi.un f.fi, f.es, f.len, f.va, f.ow, f.ds, f.fx⟩
/-- within a suite: what was caught is known -/
def wpS (K : PySem.W.Frag) (dd : Option Addr) (fs : List (Str × D)) : Wp := ⟨fun _ _ _ _ => True, fun _ _ _ _ => True, fun F => XRep K F dd fs, true⟩
def sufI (ι : Type) (cls : Value) (dd : Option Addr) : Type := { q : ι × Obj × List (Addr × Obj) // Zc cls dd q.2.1 ∧ ∃ vs, q.2.1.data = .fields vs }
def sufF {ι : Type} (X : ι → Cx) (xa : Addr) (cls : Value) (dd : Option Addr) : sufI ι cls dd → Cx := fun q => (X q.1.1).suite xa ((xa, q.1.2.1) :: q.1.2.2)
structure XClause where
  cls : Value
  slot : Option Nat
  oks : Addr → Prop
  run : Addr → Addr → List (Str × D) → DSt
def XClause.off (c : XClause) (a : AS) : AS := match c.slot with | none => a | some i => a.put i .emp
def XClause.ends (c : XClause) (E : DEnds) : DEnds := ⟨fun a => E.nx (c.off a), E.rt, fun a => E.bk (c.off a), fun a => E.ct (c.off a)⟩
def XClause.slots (c : XClause) (a : AS) (xa : Addr) : AS := match c.slot with | none => a | some i => a.put i (.val (.v (.ref xa)))
/-- the first clause that fits -/
def dFirst (K : PySem.W.Frag) (out : DWt) (E : DEnds) (sp : Option Addr) : List XClause → DWt
  | [] => out
  | c :: r => fun C fs sl n => (PySem.W.exmOne K (.ref C) c.cls = some true ∧ c.oks C ∧ ∀ xa : Addr, c.run C xa fs (c.ends E) (c.slots ⟨sl, n, sp⟩ xa)) ∨ (PySem.W.exmOne K (.ref C) c.cls = some false ∧ dFirst K out E sp r C fs sl n)
inductive XClauses {ι : Type} (X : ι → Cx) (K : PySem.W.Frag) : List ExceptHandler → List XClause → Prop
  | nil : XClauses X K [] []
  | cons {x : Str} {np pos : Pos} {b : Stmt} {bs : List Stmt} {n : Option Str} {hs : List ExceptHandler} {c : XClause} {cs : List XClause} :
      (∀ j, Names (X j) x c.cls) → (∀ xa C dd fs, c.oks C → DSs (sufF X xa (.ref C) dd) K (wpS K dd fs) (b :: bs) (c.run C xa fs)) →
      ((n = none ∧ c.slot = none) ∨ ∃ y i, n = some y ∧ c.slot = some i ∧ i ≠ 0 ∧ ∀ j, (X j).N[i]? = some y ∧ (X j).env.kindOf y = some .local) → XClauses X K hs cs →
      XClauses X K (.ExceptHandler (some (.Name x np)) n (b :: bs) pos :: hs) (c :: cs)
/-- the clause of the text -/
def XClause.tr {ι : Type} (X : ι → Cx) (c : XClause) (body : List Stmt) : Clause := ⟨c.cls, c.slot, fun xa cls dd D σ H => ∃ t, (∀ q : sufI ι cls dd, PSs (sufF X xa cls dd q) body t) ∧ t D σ H⟩
def hBody : ExceptHandler → List Stmt
  | .ExceptHandler _ _ b _ => b
def xtrs {ι : Type} (X : ι → Cx) : List ExceptHandler → List XClause → List Clause
  | h :: hs, c :: cs => c.tr X (hBody h) :: xtrs X hs cs
  | _, _ => []
theorem XClauses.of {hds : List ExceptHandler} {cs : List XClause} (h : XClauses X K hds cs) (j : ι) : ClausesOf (X j) hds (xtrs X hds cs) := by
  induction h with
  | nil => exact .nil
  | @cons x np pos b bs n hs c cs hn hr hsl _ ih =>
    refine .cons ⟨x, np, pos, b, bs, n, rfl, hn j, fun xa o cls dd pn hz hf => ?_, ?_⟩ ih
    · exact ⟨fun pins s σ H D I ⟨t, ht, hd⟩ => (ht ⟨(j, o, pn), hz, hf⟩).run pins s σ H D I hd⟩
    · rcases hsl with ⟨h1, h2⟩ | ⟨y, i, h1, h2, _, h3⟩
      · exact .inl ⟨h1, h2⟩
      · exact .inr ⟨y, i, h1, h2, (h3 j).1, (h3 j).2⟩
theorem dfirst_ok {hds : List ExceptHandler} {cs : List XClause} {out : Wp} {E : Ends} {DE : DEnds} (h : XClauses X K hds cs) (hout : WOk B out) (ok : Ok B F a σ H) (k : EndsOk B F DE E) :
    ∀ (F1 : Hp) (a1 : AS) (σ1 : St) (H1 : Hp) (C : Addr) (dd : Option Addr) (fs : List (Str × D)), Ok (K := K) ⟨B.sp, B.H0, F, B.self⟩ F1 a1 σ1 H1 → XRep K F1 dd fs → dFirst K out.dW DE B.sp cs C fs a1.sl a1.n → firstOf K out.W E (xtrs X hds cs) (.ref C) dd σ1 H1 := by
  intro F1 a1 σ1 H1 C dd fs ok1 x w
  induction h with
  | nil => exact hout.2.2 F1 a1 σ1 H1 C dd fs (ok.un ok1) x w
  | @cons y np pos b bs n hs c cs hn hr hsl _ ih =>
    rcases w with ⟨h1, h2, w⟩ | ⟨h1, w⟩
    · refine .inl ⟨h1, fun xa hxa => ?_⟩
      obtain ⟨t, p, l⟩ := hr xa C dd fs h2
      have hi : ∀ i, c.slot = some i → i ≠ 0 := fun i q => by
        rcases hsl with ⟨_, z⟩ | ⟨_, i', _, z, n, _⟩
        · rw [z] at q
          cases q
        · rw [z] at q
          cases q
          exact n
      refine ⟨t, p, ?_⟩
      have e1 : a1 = ⟨a1.sl, a1.n, B.sp⟩ := by rw [← ok1.es]
      have s01 : Same F F1 := ok1.fi.ff
      have okS : Ok (K := K) ⟨B.sp, B.H0, F1, B.self⟩ F1 (c.slots ⟨a1.sl, a1.n, B.sp⟩ xa) ((c.tr X (b :: bs)).slots σ1 xa) H1 := by
        have o := (ok.un ok1).re
        rw [e1] at o
        unfold XClause.slots Clause.slots XClause.tr
        cases hci : c.slot with
        | none => exact o
        | some i => exact o.setV (d := .v (.ref xa)) (fun z => absurd z (hi i hci)) rfl
      have off : ∀ {F2 a2 σ2 H2}, Ok (K := K) ⟨B.sp, B.H0, F1, B.self⟩ F2 a2 σ2 H2 → Ok B F2 (c.off a2) (match (c.tr X (b :: bs)).slot with | none => σ2 | some i => σ2.set i none) H2 := fun {F2 a2 σ2 H2} o2 => by
        have o := (ok.un ok1).un o2
        unfold XClause.off XClause.tr
        cases hci : c.slot with
        | none => exact o
        | some i => exact o.forget i none fun z => absurd z (hi i hci)
      refine l ⟨B.sp, B.H0, F1, B.self⟩ ⟨x, (fun z => nomatch z), fun _ _ _ _ _ _ _ _ _ _ => trivial⟩ _ (c.ends DE) F1 _ _ H1 okS (w xa) ⟨fun F2 a2 σ2 H2 o2 s2 r => ?_, fun v d n F2 H2 f2 s2 q r => ?_, fun F2 a2 σ2 H2 o2 s2 r => ?_, fun F2 a2 σ2 H2 o2 s2 r => ?_⟩
      · exact k.nx F2 _ _ H2 (off o2) (s01.trans s2) r
      · exact k.rt v d n F2 H2 ((ok.un ok1).fi.un f2) (s01.trans s2) q r
      · exact k.bk F2 _ _ H2 (off o2) (s01.trans s2) r
      · exact k.ct F2 _ _ H2 (off o2) (s01.trans s2) r
    · exact .inr ⟨h1, ih w⟩
/-- the body's contexts -/
def tryI (X : ι → Cx) (W : WX) : Type := { q : ι × List (Addr × Obj) × (Value → Shared → Prop) // Takes ((X q.1).tr q.2.1 q.2.2) W ∧ PassesOwn (model (X q.1).prog (X q.1).w) (X q.1).A (X q.1).env q.2.2 }
def tryF (X : ι → Cx) (W : WX) : tryI X W → Cx := fun q => (X q.1.1).tr q.1.2.1 q.1.2.2
theorem tryF_takes {W : WX} (q : tryI X W) : Takes (tryF X W q) W := q.2.1
theorem tryF_own {W : WX} (q : tryI X W) : PassesOwn (model (tryF X W q).prog (tryF X W q).w) (tryF X W q).A (tryF X W q).env (tryF X W q).xe := q.2.2
def dTry (K : PySem.W.Frag) (sf : Bool) (db : Wp → DSt) (out : DWt) (cs : List XClause) : DSt := fun E a => ∀ W : Value → Option Addr → St → Hp → Prop, db ⟨W, dFirst K out E a.sp cs, fun _ => True, sf⟩ E a
theorem ds_try {body : List Stmt} {h₀ : ExceptHandler} {hds : List ExceptHandler} {cs : List XClause} {db : Wp → DSt} {out : Wp} (hs : ∀ j, (X j).stack = (X j).env :: (X j).outer) (hf : ∀ j, (X j).env.frame = some (X j).env.locals) (hN : ∀ j, (X j).N.Nodup) (tk : ∀ j, Takes (X j) out.W) (ho : ∀ B : Bs K, WOk B ω → WOk B out)
    (hb : ∀ ω' : Wp, DSs (tryF X ω'.W) K ω' body (db ω')) (C : XClauses X K (h₀ :: hds) cs) (hK : ∀ j, (X j).K = K := by intro _; rfl) : DS X K ω (.Try body (h₀ :: hds) [] [] pos) (dTry K ω.sf db out.dW cs) := by
  refine ⟨fun E σ H => (fun W : WX => fun E σ H => ∃ t, (∀ q : tryI X W, PSs (tryF X W q) body t) ∧ t E σ H) (firstOf K out.W E (xtrs X (h₀ :: hds) cs)) E σ H, fun j => ?_, fun B hω E DE F a σ H ok hd k => ?_⟩
  · rw [← hK j]
    exact ps_clauses (hs j) (hf j) (hN j) (tk j) (tb := fun W E σ H => ∃ t, (∀ q : tryI X W, PSs (tryF X W q) body t) ∧ t E σ H) (fun W pn xe tk po => ⟨fun pins s σ H D I ⟨t, ht, hd⟩ => (ht ⟨(j, pn, xe), tk, po⟩).run pins s σ H D I hd⟩) (C.of j)
  · obtain ⟨t, p, l⟩ := hb ⟨firstOf K out.W E (xtrs X (h₀ :: hds) cs), dFirst K out.dW DE a.sp cs, fun _ => True, ω.sf⟩
    refine ⟨t, p, l ⟨B.sp, B.H0, F, B.self⟩ ⟨trivial, hω.2.1, ?_⟩ E DE F a σ H ok.re (hd _) ⟨fun F' a' σ' H' o s r => k.nx F' a' σ' H' (ok.un o) s r, fun v d n F' H' f s q r => k.rt v d n F' H' (ok.fi.un f) s q r, fun F' a' σ' H' o s r => k.bk F' a' σ' H' (ok.un o) s r, fun F' a' σ' H' o s r => k.ct F' a' σ' H' (ok.un o) s r⟩⟩
    rw [ok.es]
    exact dfirst_ok C (ho B hω) ok k
def wpN (sf : Bool) : Wp := ⟨fun _ _ _ _ => False, fun _ _ _ _ => False, fun _ => True, sf⟩
theorem ds_try0 {body : List Stmt} {h₀ : ExceptHandler} {hds : List ExceptHandler} {cs : List XClause} {db : Wp → DSt} (hs : ∀ j, (X j).stack = (X j).env :: (X j).outer) (hf : ∀ j, (X j).env.frame = some (X j).env.locals) (hN : ∀ j, (X j).N.Nodup)
    (hb : ∀ ω' : Wp, DSs (tryF X ω'.W) K ω' body (db ω')) (C : XClauses X K (h₀ :: hds) cs) (hK : ∀ j, (X j).K = K := by intro _; rfl) : DS X K ω (.Try body (h₀ :: hds) [] [] pos) (dTry K ω.sf db (fun _ _ _ _ => False) cs) :=
  ds_try (out := wpN ω.sf) hs hf hN (fun _ => takes0) (fun B h => ⟨trivial, h.2.1, fun _ _ _ _ _ _ _ _ _ z => z.elim⟩) hb C hK
theorem ds_tryX {body : List Stmt} {h₀ : ExceptHandler} {hds : List ExceptHandler} {cs : List XClause} {db : Wp → DSt} (hs : ∀ j, (X j).stack = (X j).env :: (X j).outer) (hf : ∀ j, (X j).env.frame = some (X j).env.locals) (hN : ∀ j, (X j).N.Nodup) (tk : ∀ j, Takes (X j) ω.W)
    (hb : ∀ ω' : Wp, DSs (tryF X ω'.W) K ω' body (db ω')) (C : XClauses X K (h₀ :: hds) cs) (hK : ∀ j, (X j).K = K := by intro _; rfl) : DS X K ω (.Try body (h₀ :: hds) [] [] pos) (dTry K ω.sf db ω.dW cs) :=
  ds_try (out := ω) hs hf hN tk (fun _ h => h) hb C hK
theorem XClauses.one (i : Nat) {C0 : Addr} {x y : Str} {np pos : Pos} {b : Stmt} {bs : List Stmt} {hs : List ExceptHandler} {cs : List XClause} {f : Addr → List (Str × D) → DSt} (hn : ∀ j, Names (X j) x (.ref C0)) (hr : ∀ xa dd fs, DSs (sufF X xa (.ref C0) dd) K (wpS K dd fs) (b :: bs) (f xa fs)) (hi : ∀ j, (X j).N[i]? = some y ∧ (X j).env.kindOf y = some .local) (C : XClauses X K hs cs) (h0 : i ≠ 0 := by decide) :
    XClauses X K (.ExceptHandler (some (.Name x np)) (some y) (b :: bs) pos :: hs) (⟨.ref C0, some i, fun C => C = C0, fun _ => f⟩ :: cs) :=
  .cons hn (fun xa C dd fs h => by cases h; exact hr xa dd fs) (.inr ⟨y, i, rfl, rfl, h0, hi⟩) C
theorem XClauses.one0 {C0 : Addr} {x : Str} {np pos : Pos} {b : Stmt} {bs : List Stmt} {hs : List ExceptHandler} {cs : List XClause} {f : Addr → List (Str × D) → DSt} (hn : ∀ j, Names (X j) x (.ref C0)) (hr : ∀ xa dd fs, DSs (sufF X xa (.ref C0) dd) K (wpS K dd fs) (b :: bs) (f xa fs)) (C : XClauses X K hs cs) :
    XClauses X K (.ExceptHandler (some (.Name x np)) none (b :: bs) pos :: hs) (⟨.ref C0, none, fun C => C = C0, fun _ => f⟩ :: cs) :=
  .cons hn (fun xa C dd fs h => by cases h; exact hr xa dd fs) (.inl ⟨rfl, rfl⟩) C
/-- a clause for more classes than one -/
theorem XClauses.oneX (i : Nat) {C0 : Addr} (okC : Addr → Prop) {x y : Str} {np pos : Pos} {b : Stmt} {bs : List Stmt} {hs : List ExceptHandler} {cs : List XClause} {f : Addr → Addr → List (Str × D) → DSt} (hn : ∀ j, Names (X j) x (.ref C0)) (hr : ∀ xa C dd fs, okC C → DSs (sufF X xa (.ref C) dd) K (wpS K dd fs) (b :: bs) (f C xa fs)) (hi : ∀ j, (X j).N[i]? = some y ∧ (X j).env.kindOf y = some .local) (C : XClauses X K hs cs) (h0 : i ≠ 0 := by decide) :
    XClauses X K (.ExceptHandler (some (.Name x np)) (some y) (b :: bs) pos :: hs) (⟨.ref C0, some i, okC, f⟩ :: cs) :=
  .cons hn hr (.inr ⟨y, i, rfl, rfl, h0, hi⟩) C
/-- e.f of what was caught -/
def dXf (i : Nat) (xa : Addr) (n : Str) (fs : List (Str × D)) : DEt := fun a R => a.at i = .val (.v (.ref xa)) ∧ opt (fs.lookup n) fun d => R d a
theorem pk_lookup {κ : Type} [BEq κ] {kvs : List (κ × D)} {vs : List (κ × V)} (h : PK K H kvs vs) {k : κ} {d : D} (e : kvs.lookup k = some d) : ∃ v, vs.lookup k = some v ∧ Dat K H d v := by
  induction h with
  | nil => cases e
  | @cons p q l m h t ih =>
    obtain ⟨p1, p2⟩ := p
    obtain ⟨q1, q2⟩ := q
    obtain ⟨h1, h2⟩ := h
    cases (show p1 = q1 from h1)
    rw [List.lookup_cons] at e ⊢
    cases z : k == p1 with
    | true =>
      rw [z] at e
      cases e
      exact ⟨q2, rfl, h2⟩
    | false =>
      rw [z] at e
      exact ih e
theorem de_xf {C : Addr} {dd : Option Addr} {fs : List (Str × D)} {xa : Addr} {y n : Str} {py : Pos} (i : Nat) (hC : ∀ j, XfC (X j).K C) (hn : ∀ j, PySem.W.findIn (X j).K (.ref C) n = some none) (hN : ∀ j, (X j).N[i]? = some y := by intro _; rfl) (hv : ∀ j, Vis (X j).env.scope y := by first | exact fun _ => Or.inl rfl | exact fun _ => Or.inr (Or.inl rfl) | exact fun _ => Or.inr (Or.inr rfl)) (hd : (y == ("__debug__" : Str)) = false := by decide)
    (hcd : (y == ("__classdict__" : Str)) = false := by decide) (hb : ∀ q : sufI ι (.ref C) dd, attributeBase (.Name y py) n (sufF X xa (.ref C) dd q).env (eval (.Name y py) (sufF X xa (.ref C) dd q).env) = eval (.Name y py) (sufF X xa (.ref C) dd q).env := by intro _; rfl) : DX (sufF X xa (.ref C) dd) K (wpS K dd fs) (.Attribute (.Name y py) n pos) (dXf i xa n fs) := by
  refine ⟨tXf xa (.ref C) dd C n (tVar i), fun q => pe_xf (hC q.1.1) (hn q.1.1) q.2.1 q.2.2 (pe_var (hN q.1.1) (hv q.1.1) hd hcd) (hb q), fun B hω F a σ H Q R ok hd k => ?_⟩
  obtain ⟨h0, hd⟩ := hd
  obtain ⟨v, h1, h2⟩ := ok.va i _ (at_of' h0 (fun z => nomatch z))
  cases (show v = .ref xa from h2)
  obtain ⟨d, e, r⟩ := opt_of hd
  rcases hω.1 with ⟨_, z⟩ | ⟨ad, vs, e1, h3, h4⟩
  · rw [z] at e
    cases e
  · obtain ⟨v, e2, h5⟩ := pk_lookup h4 e
    exact ⟨_, h1, rfl, rfl, ad, vs, v, e1, ok.fi.fh _ _ (ok.fi.ff _ _ h3), e2, k v d F a H (.refl ok) (h5.mono ok.fi.ff) r⟩
end
/-! ### classes of the text -/
def putFA (f : Str) (d : D) : List (Str × D) → List (Str × D)
  | [] => [(f, d)]
  | (g, e) :: r => if g = f then (g, d) :: r else (g, e) :: putFA f d r
section
variable {K : PySem.W.Frag} {ω : Wp} {B : Bs K} {F F' F1 F2 G : Hp} {a a' a1 a2 : AS} {σ σ' : St} {H H' H1 H2 : Hp} {n : Int} {te : TE} {de da db dc : DEt} {ι : Type} {X : ι → Cx} {e e1 e2 e3 o : Expr} {es : List Expr} {pos : Pos} {dt : DTt} {dl dm : DAt}
theorem pk_putF {f : Str} {d : D} {v : V} {fs : List (Str × D)} {vs : List (Str × V)} (h : PK K H fs vs) (hv : Dat K H d v) : PK K H (putFA f d fs) (putF f v vs) := by
  induction h with
  | nil => rw [L2.putF.eq_1]; exact .cons ⟨rfl, hv⟩ .nil
  | @cons p q l m h t ih =>
    obtain ⟨p1, p2⟩ := p
    obtain ⟨q1, q2⟩ := q
    obtain ⟨h1, h2⟩ := h
    cases (show p1 = q1 from h1)
    rw [L2.putF.eq_2]
    unfold putFA
    by_cases z : p1 = f
    · rw [if_pos z, if_pos z]
      exact .cons ⟨rfl, hv⟩ t
    · rw [if_neg z, if_neg z]
      exact .cons ⟨rfl, h2⟩ ih
theorem pk_lookup0 {κ : Type} [BEq κ] {kvs : List (κ × D)} {vs : List (κ × V)} (h : PK K H kvs vs) {k : κ} (e : kvs.lookup k = none) : vs.lookup k = none := by
  induction h with
  | nil => rfl
  | @cons p q l m h t ih =>
    obtain ⟨p1, p2⟩ := p
    obtain ⟨q1, q2⟩ := q
    obtain ⟨h1, h2⟩ := h
    cases (show p1 = q1 from h1)
    rw [List.lookup_cons] at e ⊢
    cases z : k == p1 with
    | true => rw [z] at e; cases e
    | false => rw [z] at e; exact ih e
theorem prt_ins {sp : Option Addr} {C : Addr} {fs : List (Str × D)} {x : V} (s : Same F H) (h : PrtS K sp F H (.ins C fs) x) : ∃ p dx vs, x = .ref p ∧ H p = some (.ins C dx vs) ∧ PK K F fs vs := by
  rcases h with ⟨p, dx, vs, rfl, h1, h2⟩ | ⟨p, o, rfl, h1, _, dx, vs, rfl, h2⟩
  · exact ⟨p, dx, vs, rfl, s _ _ h1, datS_pk.mp h2⟩
  · exact ⟨p, dx, vs, rfl, h1, datS_pk.mp h2⟩
/-- e.f -/
def dFld (C : Addr) (f : Str) (de : DEt) : DEt := fun a R => de a fun d a' => match d with
  | .ins C' fs => C' = C ∧ opt (fs.lookup f) fun v => R v a'
  | _ => False
theorem de_fld {C : Addr} {f : Str} (hC : Cls K C) (hn : NoAttr K C f) (h : DPS X K ω e de) (hb : ∀ j, attributeBase e f (X j).env (eval e (X j).env) = eval e (X j).env := by intro _; rfl) (hK : ∀ j, (X j).K = K := by intro _; rfl) : DX X K ω (.Attribute e f pos) (dFld C f de) := by
  obtain ⟨t, p, l⟩ := h
  refine ⟨tFld K t f, fun j => by rw [← hK j]; exact pe_fld (p j) (hb j), fun B hω F a σ H Q R ok hd k => l B hω F a σ H _ _ ok hd fun v d F1 a1 H1 g1 q1 r1 => ?_⟩
  cases d with
  | ins C' fs =>
    obtain ⟨rfl, r⟩ := r1
    obtain ⟨p, dx, vs, rfl, h1, h2⟩ := prt_ins g1.ok.fi.fh q1
    obtain ⟨d, e1, r⟩ := opt_of r
    obtain ⟨v, e2, h3⟩ := pk_lookup h2 e1
    exact ⟨p, C', dx, vs, v, rfl, h1, hC, hn, e2, k v d F1 a1 H1 g1 h3 r⟩
  | _ => exact r1.elim
/-- self.f = e, self one's own -/
def dFldO (C : Addr) (i : Nat) (f : Str) (de : DEt) : DSt := fun E a => de a fun d a1 => match a1.at i with
  | .own (.ins C' fs) => C' = C ∧ fs.length < 1000 ∧ E.nx (a1.put i (.own (.ins C (putFA f d fs))))
  | _ => False
theorem ds_fldO {C : Addr} {i : Nat} {x f : Str} {px pos' : Pos} {value : Expr} (hC : Cls K C) (hn : NoAttr K C f) (ho : ∀ j, PE (X j) (.Name x px) (tVar i)) (hv : DX X K ω value de) (hs : ∀ j, swapsWith value (some (.Attribute (.Name x px) f pos')) pos.line (X j).env = pure false := by intro _; rfl) (hK : ∀ j, (X j).K = K := by intro _; rfl) :
    DS X K ω (.Assign [.Attribute (.Name x px) f pos'] value pos) (dFldO C i f de) := by
  obtain ⟨t, p, l⟩ := hv
  refine ⟨sFld K (tVar i) t f, fun j => by rw [← hK j]; exact ps_fld (ho j) (p j) (hs j), fun B hω E DE F a σ H ok hd k => l B hω F a σ H _ _ ok hd fun v d F1 a1 H1 g1 q1 r1 => ?_⟩
  split at r1
  · rename_i C' fs es
    obtain ⟨rfl, hl, r⟩ := r1
    have es' := at_of' es (fun z => nomatch z)
    obtain ⟨p, o, h1, h2, h3, h4, dx, vs, rfl, h5⟩ := g1.ok.ow i _ es'
    have h6 := datS_pk.mp h5
    exact ⟨_, h1, p, C', dx, vs, rfl, h2, hC, hn, by rw [pk_len h6]; exact hl, k.nx F1 _ σ _ (g1.ok.chg (e := .ins C' (putFA f d fs)) es' h1 ⟨dx, _, rfl, datS_pk.mpr (pk_putF h6 q1)⟩) g1.ff r⟩
  · exact r1.elim
/-- an object of the class whose own dict has no m -/
def isI (C : Addr) (m : Str) : D → Prop
  | .ins C' fs => C' = C ∧ fs.lookup m = none
  | _ => False
theorem isI_dat {C : Addr} {m : Str} {d : D} {x : V} (s : Same F H) (h : Dat K F d x) (i : isI C m d) : ∃ p dx vs, x = .ref p ∧ H p = some (.ins C dx vs) ∧ vs.lookup m = none := by
  cases d with
  | ins C' fs =>
    obtain ⟨rfl, e⟩ := i
    obtain ⟨p, dx, vs, rfl, h1, h2⟩ := h
    exact ⟨p, dx, vs, rfl, s _ _ h1, pk_lookup0 (datS_pk.mp h2) e⟩
  | _ => exact i.elim
def dMeth (C : Addr) (m : Str) (dsp : DSp) (de : DEt) (dl : DAt) : DEt := fun a R => de a fun d a1 => isI C m d ∧ dl a1 fun ds a2 => dsp none (d :: ds) 0 fun x _ => R x a2
def dMethX (W : DWt) (C : Addr) (m : Str) (dsp : DSpX) (de : DEt) (dl : DAt) : DEt := fun a R => de a fun d a1 => isI C m d ∧ dl a1 fun ds a2 => dsp none (d :: ds) 0 (fun x _ => R x a2) fun C fs _ => W C fs a2.sl a2.n
/-- what is behind a call without the source, seen from here -/
theorem Go.call0 (ok : Ok B F a σ H) (x1 : Same F F') (x2 : Same F' H') (x3 : ∀ b o, none ≠ some b → H b = some o → H' b = some o) (x4 : ∀ b, F' b ≠ none → F b ≠ none ∨ H b = none ∨ ImmA F' b) : Go B σ F a H F' a H' := by
  have hh : Same H H' := fun b o h => x3 b o (fun z => nomatch z) h
  refine Go.call ok x1 x2 (fun b o _ h => hh b o h) x4 fun p e => ?_
  obtain ⟨y1, y2, y3⟩ := ok.fi.sr p e
  refine ⟨?_, y3.same hh⟩
  cases q : F' p with
  | none => rfl
  | some u =>
    rcases x4 p (by rw [q]; exact fun z => (nomatch z)) with w | w | ⟨o', w1, w2⟩
    · exact absurd y1 w
    · obtain ⟨xs, z⟩ := y3.at
      rw [z] at w
      cases w
    · obtain ⟨xs, z⟩ := (y3.same hh).at
      rw [x2 p o' w1] at z
      cases z
      cases w2
section
variable {CX : CXT} {k : Nat} {f C : Addr} {fd : FuncData} {ps : List Str} {s : Sp} {dsp : DSp} {dspX : DSpX} {E : XK} {m : Str} {apos : Pos} {pl : ι → Sem Bool}
theorem le_meth {te : TE} {ta : TA} (mo : Mon dsp) (u : Ups K s dsp) (l1 : LE K ω te de) (l2 : LAE K ω ta dl) : LE K ω (tMeth C m s [] E te ta) (dMeth C m dsp de dl) := fun B hω F a σ H Q R ok hd k => l1 B hω F a σ H _ _ ok hd fun v d F1 a1 H1 g1 q1 r1 => by
  obtain ⟨p, dx, vs0, rfl, h1, h2⟩ := isI_dat g1.ok.fi.fh q1 r1.1
  refine ⟨p, dx, vs0, rfl, h1, h2, l2 B hω F1 a1 σ H1 _ _ g1.ok r1.2 fun vs ds F2 a2 H2 g2 q2 r2 => ?_⟩
  rw [List.append_nil]
  refine u _ _ _ _ ⟨none, F2, d :: ds, 0, g2.ok.fi.fh, (fun p e => nomatch e), .cons (q1.mono g2.ff) q2, mo _ _ _ _ _ (fun d n' r => ?_) r2⟩
  intro v F' H' x1 x2 x3 x4 x5 x6
  exact k v d F' a2 H' (.trans ok g1 (.trans g1.ok g2 (Go.call0 g2.ok x1 x2 x3 x4))) x6 r
theorem de_meth (mo : Mon dsp) (u : Ups K s dsp) (ho : DX X K ω o de) (hC : Cls K C) (hm : Meth K C m f) (G : ∀ j, FnOk (X j).prog (X j).w (X j).K (X j).mg (X j).base CX k f fd ps s) (hr : ∀ j, Room k (X j).A) (hb : Binds K fd ps []) (hx : ∀ j, Passes CX (X j) E) (ha : DAE X K ω (e :: es) dl)
    (hK : ∀ j, (X j).K = K := by intro _; rfl) (hst : ∀ j, starEach (e :: es) (X j).env = (false, eval e (X j).env) :: starEach es (X j).env := by intro _; rfl) (hpl : ∀ j, (backTo pos (starEach es (X j).env)).any (·.1) = false := by intro _; rfl)
    (ht : ∀ j, eval (.Call (.Attribute o m apos) (e :: es) [] pos) (X j).env = (do
      let ov ← eval o (X j).env
      standAt apos.atName
      let (fv, first) ← holding [ov] (getMethod ov m (pl j))
      callWith pos fv first (backTo pos (starEach (e :: es) (X j).env)) (backToKw pos (keywordEach [] (X j).env))) := by intro _; rfl) :
    DX X K ω (.Call (.Attribute o m apos) (e :: es) [] pos) (dMeth C m dsp de dl) := by
  obtain ⟨te, p1, l1⟩ := ho
  obtain ⟨ta, p2, l2⟩ := ha
  exact ⟨_, fun j => pe_meth (p1 j) (by rw [hK j]; exact hC) (by rw [hK j]; exact hm) (G j) (hr j) (by rw [hK j]; exact hb) .nil (hx j) (p2 j) (hst j) (hpl j) (ht j), le_meth mo u l1 l2⟩
theorem de_meth0 (mo : Mon dsp) (u : Ups K s dsp) (ho : DX X K ω o de) (hC : Cls K C) (hm : Meth K C m f) (G : ∀ j, FnOk (X j).prog (X j).w (X j).K (X j).mg (X j).base CX k f fd ps s) (hr : ∀ j, Room k (X j).A) (hb : Binds K fd ps []) (hx : ∀ j, Passes CX (X j) E)
    (hK : ∀ j, (X j).K = K := by intro _; rfl)
    (ht : ∀ j, eval (.Call (.Attribute o m apos) [] [] pos) (X j).env = (do
      let ov ← eval o (X j).env
      standAt apos.atName
      let (fv, first) ← holding [ov] (getMethod ov m (pl j))
      callWith pos fv first (backTo pos (starEach [] (X j).env)) (backToKw pos (keywordEach [] (X j).env))) := by intro _; rfl) :
    DX X K ω (.Call (.Attribute o m apos) [] [] pos) (dMeth C m dsp de dNil) := by
  obtain ⟨te, p1, l1⟩ := ho
  exact ⟨_, fun j => pe_meth0 (p1 j) (by rw [hK j]; exact hC) (by rw [hK j]; exact hm) (G j) (hr j) (by rw [hK j]; exact hb) .nil (hx j) (ht j), le_meth mo u l1 fun B hω F a σ H Q R ok hd k => k [] [] F a H (.refl ok) rfl hd⟩
theorem de_methX (mo : MonX dspX) (u : UpsX K s dspX) (ho : DX X K ω o de) (hC : Cls K C) (hm : Meth K C m f) (G : ∀ j, FnOk (X j).prog (X j).w (X j).K (X j).mg (X j).base (L2.CX (X j).prog (X j).w) k f fd ps s) (hr : ∀ j, Room k (X j).A) (hb : Binds K fd ps []) (tk : ∀ j, Takes (X j) ω.W) (ha : DAE X K ω (e :: es) dl)
    (hK : ∀ j, (X j).K = K := by intro _; rfl) (hst : ∀ j, starEach (e :: es) (X j).env = (false, eval e (X j).env) :: starEach es (X j).env := by intro _; rfl) (hpl : ∀ j, (backTo pos (starEach es (X j).env)).any (·.1) = false := by intro _; rfl)
    (ht : ∀ j, eval (.Call (.Attribute o m apos) (e :: es) [] pos) (X j).env = (do
      let ov ← eval o (X j).env
      standAt apos.atName
      let (fv, first) ← holding [ov] (getMethod ov m (pl j))
      callWith pos fv first (backTo pos (starEach (e :: es) (X j).env)) (backToKw pos (keywordEach [] (X j).env))) := by intro _; rfl) :
    DX X K ω (.Call (.Attribute o m apos) (e :: es) [] pos) (dMethX ω.dW C m dspX de dl) := by
  obtain ⟨te, p1, l1⟩ := ho
  obtain ⟨ta, p2, l2⟩ := ha
  refine ⟨_, fun j => pe_methE (p1 j) (by rw [hK j]; exact hC) (by rw [hK j]; exact hm) (G j) (hr j) (by rw [hK j]; exact hb) (passAt (tk j)) (p2 j) (hst j) (hpl j) (ht j), fun B hω F a σ H Q R ok hd k => l1 B hω F a σ H _ _ ok hd fun v d F1 a1 H1 g1 q1 r1 => ?_⟩
  obtain ⟨p, dx, vs0, rfl, h1, h2⟩ := isI_dat g1.ok.fi.fh q1 r1.1
  refine ⟨p, dx, vs0, rfl, h1, h2, l2 B hω F1 a1 σ H1 _ _ g1.ok r1.2 fun vs ds F2 a2 H2 g2 q2 r2 => ?_⟩
  refine u _ _ _ _ ⟨none, F2, d :: ds, 0, g2.ok.fi.fh, (fun p e => nomatch e), .cons (q1.mono g2.ff) q2, mo _ _ _ _ _ _ _ (fun d n' r => ?_) (fun C fs n' r => ?_) r2⟩
  · intro v F' H' x1 x2 x3 x4 x5 x6
    exact k v d F' a2 H' (.trans ok g1 (.trans g1.ok g2 (Go.call0 g2.ok x1 x2 x3 x4))) x6 r
  · intro dd F' H' x1 x2 x3 x4 x5 x6
    exact hω.2.2 F' a2 σ H' C dd fs (Go.call0 g2.ok x1 x2 x3 x4).ok x6 r
/-- a property -/
def dProp (C : Addr) (dsp : DSp) (de : DEt) : DEt := fun a R => de a fun d a1 => isC C d ∧ dsp none [d] 0 fun x _ => R x a1
where isC (C : Addr) : D → Prop
  | .ins C' _ => C' = C
  | _ => False
theorem de_prop {p g : Addr} {f : Str} (mo : Mon dsp) (u : Ups K s dsp) (ho : DX X K ω e de) (hC : Cls K C) (hp : PropOf K C f p g) (G : ∀ j, FnOk (X j).prog (X j).w (X j).K (X j).mg (X j).base CX k g fd ps s) (hr : ∀ j, Room (k + 1) (X j).A) (hb : Binds K fd ps []) (hx : ∀ j, Passes CX (Cx.nox (X j)) E)
    (hba : ∀ j, attributeBase e f (X j).env (eval e (X j).env) = eval e (X j).env := by intro _; rfl) (hK : ∀ j, (X j).K = K := by intro _; rfl) : DX X K ω (.Attribute e f pos) (dProp C dsp de) := by
  obtain ⟨te, p1, l1⟩ := ho
  refine ⟨_, fun j => pe_prop (p1 j) (by rw [hK j]; exact hC) (by rw [hK j]; exact hp) (G j) (hr j) (by rw [hK j]; exact hb) .nil (hx j) (hba j), fun B hω F a σ H Q R ok hd k => l1 B hω F a σ H _ _ ok hd fun v d F1 a1 H1 g1 q1 r1 => ?_⟩
  cases d with
  | ins C' fs =>
    obtain ⟨hc, r1⟩ := r1
    have hc : C' = C := hc
    subst hc
    obtain ⟨p, dx, vs, rfl, h1, h2⟩ := q1
    refine ⟨p, dx, vs, rfl, g1.ok.fi.fh _ _ h1, u _ _ _ _ ⟨none, F1, [.ins C' fs], 0, g1.ok.fi.fh, (fun p e => nomatch e), .cons ⟨p, dx, vs, rfl, h1, h2⟩ .nil, mo _ _ _ _ _ (fun d n' r => ?_) r1⟩⟩
    intro v F' H' x1 x2 x3 x4 x5 x6
    exact k v d F' a1 H' (.trans ok g1 (Go.call0 g1.ok x1 x2 x3 x4)) x6 r
  | _ => exact r1.1.elim
end
end
/-! making an object: the promise of an __init__ -/
/-- behind an __init__ that ends: the object at x -/
def PostI (K : PySem.W.Frag) (F H : Hp) (x : Addr) (Q : VK) (d : D) (_ : Int) : Prop := ∀ (F' H' : Hp), Same F F' → Same F' H' → Same H H' → (∀ b, F' b ≠ none → F b ≠ none ∨ H b = none ∨ ImmA F' b) → Dat K F' d (.ref x) → Q .non H'
def upI (K : PySem.W.Frag) (C : Addr) (dsp : DSpX) : Sp := fun vs H Q E => ∃ (x dx : Addr) (us : List V) (H1 F : Hp) (ds : List D), vs = .ref x :: us ∧ H = upd (upd H1 dx (.own x)) x (.ins C dx []) ∧ H1 x = none ∧ H1 dx = none ∧ dx ≠ x ∧ Same F H1 ∧ DatL K F ds us ∧ dsp none ds 0 (PostI K F H1 x Q) (PostX K none F H1 E)
theorem upI_len {K : PySem.W.Frag} {C : Addr} {dsp : DSpX} {m : Nat} (h : ∀ sp ds n R RX, dsp sp ds n R RX → ds.length = m) (vs : List V) (H : Hp) (Q : VK) (E : XK) : upI K C dsp vs H Q E → vs.length = m + 1 := fun ⟨x, dx, us, H1, F, ds, e, _, _, _, _, _, L, q⟩ => by
  rw [e, List.length_cons, L.len, h _ _ _ _ _ q]
def wpI (K : PySem.W.Frag) (F H : Hp) (E : XK) : Wp := ⟨fun cls dd _ H' => E cls dd H', fun C fs _ n => PostX K none F H E C fs n, fun _ => True, true⟩
def dstartI (N : List Str) (C : Addr) (ds : List D) : List Sl := .own (.ins C []) :: ds.map Sl.val ++ List.replicate (N.length - (ds.length + 1)) .emp
theorem d_runI {K : PySem.W.Frag} {C x dx : Addr} {F H1 H : Hp} {ds : List D} {us : List V} {Q : VK} {E : XK} {X : Cx} {body : List Stmt} {N : List Str} {d : DSt} (h : DSs (fun _ : Unit => X) K (wpI K F H1 E) body d) (hH : H = upd (upd H1 dx (.own x)) x (.ins C dx [])) (hx : H1 x = none) (hdx : H1 dx = none) (hne : dx ≠ x) (s : Same F H1) (L : DatL K F ds us)
    {sl : List Sl} (hsl : sl = dstartI N C ds) (hd : d { nx := fun a => ∃ fs, a.at 0 = .own (.ins C fs) ∧ PostI K F H1 x Q (.ins C fs) 0, rt := fun _ _ => False } ⟨sl, 0, none⟩) : ∃ t, PSs X body t ∧ t { nx := fun _ H' => Q .non H', rt := Q } (L2.start N (.ref x :: us)) H := by
  obtain ⟨t, p, l⟩ := h
  subst hsl hH
  have sH : Same H1 (upd (upd H1 dx (.own x)) x (.ins C dx [])) := (Same.new hdx).trans (Same.new (by rw [upd_ne (Ne.symm hne)]; exact hx))
  have hl := L.len
  have ok : Ok (K := K) ⟨none, H1, F, some x⟩ F ⟨dstartI N C ds, 0, none⟩ (L2.start N (.ref x :: us)) (upd (upd H1 dx (.own x)) x (.ins C dx [])) := by
    have own : ∀ {i : Nat} {d : D}, (dstartI N C ds)[i]? = some (Sl.own d) → i = 0 ∧ d = .ins C [] := fun {i d} e => by
      unfold dstartI at e
      cases i with
      | zero => exact ⟨rfl, by cases e; rfl⟩
      | succ i =>
        rw [List.cons_append, List.getElem?_cons_succ] at e
        rcases List.mem_append.mp (List.mem_of_getElem? e) with q | q
        · obtain ⟨y, _, z⟩ := List.mem_map.mp q
          cases z
        · cases (List.mem_replicate.mp q).2
    have hF : F x = none := by
      cases e : F x with
      | none => rfl
      | some u => rw [s _ _ e] at hx; cases hx
    refine ⟨⟨s.trans sH, Same.refl F, fun b h => .inl h, fun b o h _ => sH _ _ h, (fun p e => nomatch e)⟩, rfl, ?_, fun i d e => ?_, fun i d e => ?_, fun i j p d e h1 h2 _ _ => ?_, fun y e => ?_⟩
    · unfold dstartI L2.start
      simp only [List.length_append, List.length_map, List.length_replicate, List.length_cons, hl]
    · unfold dstartI at e
      cases i with
      | zero => cases e
      | succ i =>
        rw [List.cons_append, List.getElem?_cons_succ] at e
        by_cases hi : i < ds.length
        · rw [List.getElem?_append_left (by rw [List.length_map]; exact hi), List.getElem?_map] at e
          obtain ⟨y, h1, h2⟩ := Option.map_eq_some_iff.mp e
          cases h2
          obtain ⟨v, h3, h4⟩ := L.get h1
          refine ⟨v, ?_, h4⟩
          unfold L2.start
          rw [List.map_cons, List.cons_append, List.getElem?_cons_succ, List.getElem?_append_left (by rw [List.length_map, hl]; exact hi), List.getElem?_map, h3]
          rfl
        · rw [List.getElem?_append_right (by rw [List.length_map]; omega)] at e
          cases (List.mem_replicate.mp (List.mem_of_getElem? e)).2
    · obtain ⟨rfl, rfl⟩ := own e
      exact ⟨x, _, rfl, upd_same, hF, hx, dx, [], rfl, rfl⟩
    · rw [(own h1).1, (own h2).1]
    · cases e
      rfl
  refine ⟨t, p (), l ⟨none, H1, F, some x⟩ ⟨trivial, (fun z => nomatch z), fun F' a σ' H' C dd fs ok x w => ?_⟩ _ _ F _ _ _ ok hd ⟨fun F' a' σ' H' ok s h => ?_, fun v d n F' H' f s q h => h.elim, fun _ _ _ _ _ _ h => h.elim, fun _ _ _ _ _ _ h => h.elim⟩⟩
  · exact w dd F' H' ok.fi.ff ok.fi.fh (fun b o n h => ok.fi.fm b o h n) (fun b h => ok.fi.fr b h) (fun p e => nomatch e) x
  · obtain ⟨fs, e, k⟩ := h
    obtain ⟨p, o, h1, h2, h3, g⟩ := ok.own (at_of' e (fun z => nomatch z))
    have h4 := ok.fx x rfl
    rw [h4] at h1
    cases h1
    exact k _ H' (s.trans g.ff) g.ok.fi.fh (fun b o h => ok.fi.fm b o h (fun z => nomatch z)) (fun b h => g.ok.fi.fr b h) ((h3.mono g.ff).dat upd_same)
section
variable {K : PySem.W.Frag} {ω : Wp} {B : Bs K} {F F' F1 F2 G : Hp} {a a' a1 a2 : AS} {σ σ' : St} {H H' H1 H2 : Hp} {n : Int} {te : TE} {de da db dc : DEt} {ι : Type} {X : ι → Cx} {e e1 e2 e3 o : Expr} {es : List Expr} {pos : Pos} {dt : DTt} {dl dm : DAt} {k : Nat} {f C : Addr} {fd : FuncData} {ps : List Str} {s : Sp} {dsp : DSpX} {E : XK} {m x : Str} {p : Pos} {dvs : List V} {dds : List D} {bs : List Value}
def UpsI (K : PySem.W.Frag) (C : Addr) (sp : Sp) (dsp : DSpX) : Prop := ∀ vs H Q E, upI K C dsp vs H Q E → sp vs H Q E
theorem UpsI.rfl : UpsI K C (upI K C dsp) dsp := fun _ _ _ _ h => h
/-- C(..); dds the defaults -/
theorem le_make {ta : TA} (mo : MonX dsp) (u : UpsI K C s dsp) (l : LAE K ω ta dl) (hd0 : ∀ H, DatL K H dds dvs) : LE K ω (tMakeS C s dvs (fun σ => WE ω.W σ) ta) (dCallX0 ω.dW (fun sp ds n R RX => dsp sp (ds ++ dds) n R RX) dl) := fun B hω F a σ H Q R ok hd k => l B hω F a σ H _ _ ok hd fun vs ds F1 a1 H1 g1 q1 r1 => by
  intro x dx hx hdx hne
  refine u _ _ _ _ ⟨x, dx, vs ++ dvs, H1, F1, ds ++ dds, rfl, rfl, hx, hdx, hne, g1.ok.fi.fh, q1.app (hd0 _), mo _ _ _ _ _ _ _ (fun d n' r => ?_) (fun C fs n' r => ?_) r1⟩
  · intro F' H' x1 x2 x3 x4 x5
    exact ⟨rfl, k _ d F' a1 H' (.trans ok g1 (Go.call0 g1.ok x1 x2 (fun b o _ h => x3 b o h) x4)) x5 r⟩
  · intro dd F' H' x1 x2 x3 x4 x5 x6
    exact hω.2.2 F' a1 σ H' C dd fs (Go.call0 g1.ok x1 x2 x3 x4).ok x6 r
theorem de_make (mo : MonX dsp) (u : UpsI K C s dsp) (M : Mk K C f) (G : ∀ j, FnOk (X j).prog (X j).w (X j).K (X j).mg (X j).base (L2.CX (X j).prog (X j).w) k f fd ps s) (hr : ∀ j, Room (k + 1) (X j).A) (hg : ∀ j, Gl (X j) x) (hm : ∀ j, (X j).mg x = some (.ref C)) (hb : Binds K fd ps bs) (hv : Vals dvs bs) (hd0 : ∀ H, DatL K H dds dvs) (tk : ∀ j, Takes (X j) ω.W) (ha : DAE X K ω (e :: es) dl)
    (hdb : (x == ("__debug__" : Str)) = false := by decide) (he : ∀ j, starEach (e :: es) (X j).env = (false, eval e (X j).env) :: starEach es (X j).env := by intro _; rfl) (hpl : ∀ j, (backTo pos (starEach es (X j).env)).any (·.1) = false := by intro _; rfl) (hK : ∀ j, (X j).K = K := by intro _; rfl) :
    DX X K ω (.Call (.Name x p) (e :: es) [] pos) (dCallX0 ω.dW (fun sp ds n R RX => dsp sp (ds ++ dds) n R RX) dl) := by
  obtain ⟨t, h, l⟩ := ha
  exact ⟨_, fun j => pe_makeS (by rw [hK j]; exact M) (G j) (hr j) (hg j) (hm j) (by rw [hK j]; exact hb) hv (passAt (tk j)) (h j) hdb (he j) (hpl j), le_make mo u l hd0⟩
end
section
variable {K : PySem.W.Frag} {ω : Wp} {B : Bs K} {F F' F1 F2 G : Hp} {a a' a1 a2 : AS} {σ σ' : St} {H H' H1 H2 : Hp} {n : Int} {te : TE} {de da db dc : DEt} {ι : Type} {X : ι → Cx} {e e1 e2 o : Expr} {es : List Expr} {pos : Pos} {dt : DTt} {dl dm : DAt}
/-! more built-ins -/
/-- a sign in a text -/
def dInS : DR := fun d e R => match d, e with
  | .v (.str x), .v (.str z) => ∃ c, x = ⟨#[c]⟩ ∧ R (.v (.bl (decide (c ∈ z.cps.toList))))
  | _, _ => False
theorem dop_inS : DOpR X K ω (compareOp .In) dInS := ⟨_, fun _ => op_in_sign, lr_flat fun d e R h => by
  unfold dInS at h
  split at h
  · obtain ⟨c, rfl, h⟩ := h
    exact ⟨_, _, _, rfl, rfl, h, fun H Q q => ⟨c, _, rfl, rfl, q⟩⟩
  · exact h.elim⟩
def dDivmod : DC := fun ds R => match ds with
  | [.v (.int i), .v (.int j)] => CDivP i j ∧ R (.tup [.v (.int (i / j)), .v (.int (i % j))])
  | _ => False
theorem dc_divmod : DCl X K ω (.builtin "divmod") dDivmod := ⟨_, fun _ => call_divmodW, fun B hω F a σ H xs ds Q R ok hx hd k => by
  unfold dDivmod at hd
  split at hd
  · rename_i i j
    cases datL_flat (xs := [.int i, .int j]) hx
    refine ⟨i, j, rfl, hd.1, fun p hp => ?_⟩
    have g := ok.new (o := .tup [.int (i / j), .int (i % j)]) hp
    exact k _ (.tup [.v (.int (i / j)), .v (.int (i % j))]) _ _ g ⟨p, _, rfl, upd_same, .cons rfl (.cons rfl .nil)⟩ hd.2
  · exact hd.elim⟩
def kD : Key → D
  | .inl i => .v (.int i)
  | .inr x => .v (.str x)
theorem dat_kD {k : Key} : Dat K H (kD k) (kV k) := by
  cases k <;> rfl
theorem dat_keys : ∀ {kvs : List (Key × D)}, DatL K H (kvs.map fun p => kD p.1) (kvs.map fun p => kV p.1)
  | [] => rfl
  | _ :: _ => .cons dat_kD dat_keys
/-- tuple(d): its keys -/
def dTupD : DC := fun ds R => match ds with
  | [.dK kvs] => R (.ftup (kvs.map fun p => kD p.1))
  | _ => False
theorem dc_tupleD (hc : ∀ j, (X j).calm = true) : DCl X K ω (.type "tuple") dTupD := ⟨_, fun j => call_tupleD (hc j), fun B hω F a σ H xs ds Q R ok hx hd k => by
  unfold dTupD at hd
  split at hd
  · rename_i kvs
    obtain ⟨v, r, rfl, ⟨p, vs, rfl, h1, h2⟩, h3⟩ := hx
    cases (show r = [] from h3)
    refine ⟨p, vs, rfl, .inl (hs_same _ _ h1), fun q o hq hod => ?_⟩
    have e : vs.map (fun kv => kV kv.1) = kvs.map fun kv => kV kv.1 := by
      have := pk_keys (datK_pk.mp h2)
      have e2 := congrArg (List.map kV) this
      rw [List.map_map, List.map_map] at e2
      exact e2
    rw [e]
    have g := ok.new (o := .frz o (.tup (kvs.map fun kv => kV kv.1))) hq
    exact k _ (.ftup (kvs.map fun p => kD p.1)) _ _ g ⟨q, _, rfl, ⟨o, upd_same, hod⟩, dat_keys⟩ hd
  · exact hd.elim⟩
/-- str(i) -/
def dStrI : DC := fun ds R => match ds with
  | [.v (.int i)] => Nat.log2 i.natAbs < 1920 ∧ R (.v (.str (Str.ofString (toString i))))
  | _ => False
theorem dc_str : DCl X K ω (.type "str") dStrI := dc_flat (fun _ => call_str_int) fun ds R h => by
  unfold dStrI at h
  split at h
  · exact ⟨[.int _], _, rfl, h.2, fun H Q q => ⟨_, rfl, h.1, q⟩⟩
  · exact h.elim
def dBool1 : DC := fun ds R => match ds with
  | [.v (.int i)] => R (.v (.bl (i != 0)))
  | [.v (.bl b)] => R (.v (.bl b))
  | _ => False
theorem dc_bool : DCl X K ω (.type "bool") dBool1 := dc_flat (fun _ => call_bool1) fun ds R h => by
  unfold dBool1 at h
  split at h
  · exact ⟨[.int _], _, rfl, h, fun H Q q => .inl ⟨_, rfl, q⟩⟩
  · exact ⟨[.bl _], _, rfl, h, fun H Q q => .inr ⟨_, rfl, q⟩⟩
  · exact h.elim
/-- min, max, sum of a list of ints -/
def dIs (P : List Int → Prop) (Po : List Int → Int → Prop) : DC := fun ds R => match ds with
  | [.lst es] => (match unI es with
    | some xs => P xs ∧ ∀ m, Po xs m → R (.v (.int m))
    | none => False)
  | _ => False
theorem is_of {r : List V → Hp → VK → Prop} {P : List Int → Prop} {Po : List Int → Int → Prop} (h : ∀ a xs H Q, SqL K H a (xs.map V.int) → P xs → (∀ m, Po xs m → Q (V.int m) H) → r [.ref a] H Q) : LCl K ω r (dIs P Po) := fun B hω F a σ H xs ds Q R ok hx hd k => by
  unfold dIs at hd
  split at hd
  · rename_i es
    split at hd
    · rename_i ys e
      obtain ⟨v, r, rfl, h1, h2⟩ := hx
      cases (show r = [] from h2)
      obtain ⟨q, ws, rfl, h3, h4⟩ := h1
      rw [unI_of e] at h4
      cases datL_flat h4
      exact h q ys H Q (SqL.of (hs_same _ _ h3)) hd.1 fun m hm => k _ (.v _) F H (.refl ok) rfl (hd.2 m hm)
    · exact hd.elim
  · exact hd.elim
theorem dc_min (hc : ∀ j, (X j).calm = true) (hK : ∀ j, (X j).K = K := by intro _; rfl) : DCl X K ω (.builtin "min") (dIs (fun xs => 0 < xs.length) fun xs m => m ∈ xs ∧ ∀ y ∈ xs, m ≤ y) := ⟨rMin K, fun j => by rw [← hK j]; exact cr_min (hc j), is_of fun a xs H Q h p q => ⟨a, xs, rfl, h, p, fun m h1 h2 => q m ⟨h1, h2⟩⟩⟩
theorem dc_max (hc : ∀ j, (X j).calm = true) (hK : ∀ j, (X j).K = K := by intro _; rfl) : DCl X K ω (.builtin "max") (dIs (fun xs => 0 < xs.length) fun xs m => m ∈ xs ∧ ∀ y ∈ xs, y ≤ m) := ⟨rMax K, fun j => by rw [← hK j]; exact cr_max (hc j), is_of fun a xs H Q h p q => ⟨a, xs, rfl, h, p, fun m h1 h2 => q m ⟨h1, h2⟩⟩⟩
theorem dc_sum (hc : ∀ j, (X j).calm = true) (hK : ∀ j, (X j).K = K := by intro _; rfl) : DCl X K ω (.builtin "sum") (dIs (fun _ => True) fun xs m => m = xs.sum) := ⟨rSum K, fun j => by rw [← hK j]; exact cr_sum (hc j), is_of fun a xs H Q h p q => ⟨a, xs, rfl, h, q _ rfl⟩⟩
/-- sorted(texts): a list, or a dict's keys -/
def dSortS : DC := fun ds R => match ds with
  | [.lst es] => (match unS es with
    | some xs => xs.length < 64 ∧ ∀ ys : List Str, ys.Perm xs → PyProof.Rows.sortedS ys = true → R (.lst (ys.map fun y => D.v (V.str y)))
    | none => False)
  | [.dK kvs] => (match unS (kvs.map fun p => kD p.1) with
    | some xs => xs.length < 64 ∧ ∀ ys : List Str, ys.Perm xs → PyProof.Rows.sortedS ys = true → R (.lst (ys.map fun y => D.v (V.str y)))
    | none => False)
  | _ => False
theorem kD_str : ∀ {kvs : List (Key × D)} {xs : List Str}, unS (kvs.map fun p => kD p.1) = some xs → kvs.map (·.1) = xs.map Sum.inr
  | [], xs, h => by cases h; rfl
  | (.inl i, d) :: kvs, xs, h => nomatch h
  | (.inr x, d) :: kvs, xs, h => by
    obtain ⟨ys, h1, rfl⟩ := Option.map_eq_some_iff.mp (show (unS (kvs.map fun p => kD p.1)).map (x :: ·) = some xs from h)
    rw [List.map_cons, List.map_cons, kD_str h1]
theorem do_sorted {x : Str} {p : Pos} (hc : ∀ j, (X j).calm = true) (hg : ∀ j, Gl (X j) x) (hm : ∀ j, (X j).mg x = none) (hv : bootBuiltins x = some (.builtin "sorted")) (ha : DAB X K ω (e :: es) dl) (hn : x ≠ "__name__" := by decide) (hdb : (x == ("__debug__" : Str)) = false := by decide)
    (he : ∀ j, starEach (e :: es) (X j).env = (false, eval e (X j).env) :: starEach es (X j).env := by intro _; rfl) (hpl : ∀ j, (backTo pos (starEach es (X j).env)).any (·.1) = false := by intro _; rfl) (hK : ∀ j, (X j).K = K := by intro _; rfl) : DO X K ω (.Call (.Name x p) (e :: es) [] pos) (dCB dSortS dl) := by
  obtain ⟨t, h2, l2⟩ := ha
  refine ⟨tCB (fun xs H Q => rSortedS K xs H Q ∨ ∃ (a : Addr) (kvs : List (Key × V)) (ks : List Str), xs = [.ref a] ∧ Rd H a (.dK kvs) ∧ kvs.map (·.1) = ks.map Sum.inr ∧ ks.length < 64 ∧ ∀ (ys : List Str) (p : Addr), ys.Perm ks → PyProof.Rows.sortedS ys = true → H p = none → Q (.ref p) (upd H p (.lst (ys.map V.str)))) t, fun j => pe_callB (fun pins s σ H xs us Q I r h => h.elim (fun h => cr_sortedS pins s σ H xs us Q I r (by rw [hK j]; exact h)) fun h => call_sortedD (hc j) pins s σ H xs us Q I r h) (hg j) (hm j) hv (h2 j) hn hdb (he j) (hpl j), fun B hω F a σ H Q R ok hd k => l2 B hω F a σ H _ _ ok hd fun vs ds F1 a1 H1 g1 q1 r1 => ?_⟩
  unfold dSortS at r1
  split at r1
  · rename_i es
    split at r1
    · rename_i ys e
      obtain ⟨v, r, rfl, h1, h2⟩ := q1
      cases (show r = [] from h2)
      obtain ⟨q, ws, rfl, h3, h4⟩ := h1
      rw [unS_of e] at h4
      cases datL_flat h4
      exact .inl ⟨q, ys, rfl, SqL.of (hs_same _ _ h3), r1.1, fun zs p pm hs hp => Go.list ok g1 hp (datS zs) (r1.2 zs pm hs) k⟩
    · exact r1.elim
  · rename_i kvs
    split at r1
    · rename_i ys e
      obtain ⟨v, r, rfl, h1, h2⟩ := q1
      cases (show r = [] from h2)
      obtain ⟨q, ws, rfl, h3, h4⟩ := h1
      exact .inr ⟨q, ws, ys, rfl, .inl (hs_same _ _ h3), by rw [pk_keys (datK_pk.mp h4)]; exact kD_str e, r1.1, fun zs p pm hs hp => Go.list ok g1 hp (datS zs) (r1.2 zs pm hs) k⟩
    · exact r1.elim
  · exact r1.elim
/-! enumerate over lists and tuples, from any number on -/
def enumI (c : Int) (ds : List D) : List D := ds.zipIdx.map fun p => .tup [.v (.int (c + (p.2 : Nat))), p.1]
theorem enumI_at {ds : List D} {c : Int} {i : Nat} {d : D} (h : (enumI c ds)[i]? = some d) : ∃ x, ds[i]? = some x ∧ d = .tup [.v (.int (c + (i : Nat))), x] := by
  unfold enumI at h
  rw [List.getElem?_map, List.getElem?_zipIdx] at h
  cases e : ds[i]? with
  | none => rw [e] at h; cases h
  | some x =>
    rw [e] at h
    refine ⟨x, rfl, (Option.some.inj h).symm.trans ?_⟩
    show D.tup [.v (.int (c + ((0 + i : Nat)))), x] = _
    rw [Nat.zero_add]
theorem enumI_len {ds : List D} {c : Int} : (enumI c ds).length = ds.length := by
  unfold enumI
  rw [List.length_map, List.length_zipIdx]
theorem seqB_of {d : D} {x : V} {es : List D} (e : seqD d = some es) (s : Same G H) (h : Dat K G d x) : ∃ b p vs, x = .ref p ∧ SqB K b H p vs ∧ DatL K G es vs := by
  obtain ⟨p, vs, rfl, h1 | h1, h2⟩ := seqD_dat e s h
  · exact ⟨true, p, vs, rfl, h1, h2⟩
  · exact ⟨false, p, vs, rfl, h1, h2⟩
theorem sqB_same {b : Bool} {p : Addr} {vs : List V} (s : Same H H') (h : SqB K b H p vs) : SqB K b H' p vs := by
  cases b with
  | true => exact s.seq h
  | false => exact same_seqT s h
theorem it_enumB {b : Bool} {p : Addr} {vs : List V} {ds : List D} {c : Int} (h : SqB K b F p vs) (q : DatL K F ds vs) : ItOk K (IteB K b p c) F (enumI c ds) := fun i F1 H1 s1 s2 => by
  have S : SqB K b H1 p vs := sqB_same (s1.trans s2) h
  refine ⟨fun hi => ⟨vs, S, by rw [enumI_len] at hi; rw [q.len]; exact hi⟩, fun d e => ?_⟩
  obtain ⟨x, e1, rfl⟩ := enumI_at e
  obtain ⟨v, e2, e3⟩ := q.get e1
  refine ⟨⟨vs, v, S, e2⟩, fun y H2 ⟨T, x', h4, h5, h6, h7⟩ => .inr ⟨T, _, h5, h6, ?_⟩⟩
  have ex := h7 vs S
  rw [e2] at ex
  cases ex
  have hF : F1 T = none := by
    cases z : F1 T with
    | none => rfl
    | some u => rw [s2 _ _ z] at h5; cases h5
  exact ⟨T, _, h4, upd_same, .cons rfl (.cons ((e3.mono s1).mono (Same.new hF)) .nil)⟩
def dEnumB (dl : DAt) : DAt := fun a R => dl a fun xs a' => match xs with
  | [d] => (match seqD d with
    | some ds => R (enumI 0 ds) a'
    | none => False)
  | _ => False
theorem di_enumB {x : Expr} {p pos tpos : Pos} {elts : List Expr} {kk : Nat} (hg : ∀ j, Gl (X j) "enumerate") (hm : ∀ j, (X j).mg "enumerate" = none) (ha : DAE X K ω [x] dl) (hs : ∀ j, starEach [x] (X j).env = [(false, eval x (X j).env)] := by intro _; rfl) (hK : ∀ j, (X j).K = K := by intro _; rfl) :
    DI X K ω (.Tuple elts kk tpos) (.Call (.Name "enumerate" p) [x] [] pos) (dEnumB dl) := by
  obtain ⟨t, p1, l⟩ := ha
  refine ⟨iEnumB K t, fun j => by rw [← hK j]; exact pi_enumB (hg j) (hm j) (p1 j) (hs j), fun B hω F a σ H Q R ok hd k => l B hω F a σ H _ _ ok hd fun vs ds F' a' H' g q r => ?_⟩
  split at r
  · rename_i d
    split at r
    · rename_i ds e
      obtain ⟨v, r', rfl, h1, h2⟩ := q
      cases (show r' = [] from h2)
      obtain ⟨b, p, ws, rfl, h3, h4⟩ := seqB_of e (Same.refl F') h1
      exact ⟨b, p, ws, rfl, sqB_same g.ok.fi.fh h3, k _ _ F' a' H' g (it_enumB h3 h4) r⟩
    · exact r.elim
  · exact r.elim
/-- enumerate(x, start=k) -/
def dEnumS (dl : DAt) (dk : DEt) : DAt := fun a R => dl a fun xs a1 => dk a1 fun k a' => match xs, k with
  | [d], .v (.int c) => (match seqD d with
    | some ds => (-2 ^ 63 ≤ c ∧ c < 2 ^ 63) ∧ R (enumI c ds) a'
    | none => False)
  | _, _ => False
theorem di_enumS {x : Expr} {p pos tpos kpos : Pos} {elts : List Expr} {kk : Nat} (hg : ∀ j, Gl (X j) "enumerate") (hm : ∀ j, (X j).mg "enumerate" = none) (ha : DAE X K ω [x] dl) (hk : DX X K ω e de)
    (he : ∀ j, backTo pos (starEach [x] (X j).env) = (false, eval x (X j).env) :: backTo pos (starEach [] (X j).env) := by intro _; rfl) (hpl : ∀ j, (backTo pos (starEach [x] (X j).env)).any (fun x => x.1) = false := by intro _; rfl)
    (h1 : ∀ j, (backToKw pos (keywordEach [⟨some "start", e, kpos⟩] (X j).env)).all (fun x => x.1.isSome) = true := by intro _; rfl) (h2 : ∀ j, (backToKw pos (keywordEach [⟨some "start", e, kpos⟩] (X j).env)).any (fun x => x.1.isNone) = false := by intro _; rfl)
    (h3 : ∀ j, (backToKw pos (keywordEach [⟨some "start", e, kpos⟩] (X j).env)).filterMap (fun x => x.1) = [("start" : Str)] := by intro _; rfl) (hK : ∀ j, (X j).K = K := by intro _; rfl) :
    DI X K ω (.Tuple elts kk tpos) (.Call (.Name "enumerate" p) [x] [⟨some "start", e, kpos⟩] pos) (dEnumS dl de) := by
  obtain ⟨t, p1, l⟩ := ha
  obtain ⟨tk, p2, l2⟩ := hk
  refine ⟨iEnumS K t (tCons tk tNil), fun j => by rw [← hK j]; exact pi_enumS (hg j) (hm j) (p1 j) (pk_cons (p2 j) pk_nil) (he j) (hpl j) (h1 j) (h2 j) (h3 j), fun B hω F a σ H Q R ok hd k => l B hω F a σ H _ _ ok hd fun vs ds F1 a1 H1 g1 q1 r1 => l2 B hω F1 a1 σ H1 _ _ g1.ok r1 fun v d F2 a2 H2 g2 q2 r2 => ?_⟩
  split at r2
  · rename_i d c
    split at r2
    · rename_i ds e
      obtain ⟨v, r', rfl, h1, h2⟩ := q1
      cases (show r' = [] from h2)
      obtain ⟨b, p, ws, rfl, h3, h4⟩ := seqB_of e (Same.refl F1) h1
      have g := Go.trans ok g1 g2
      exact ⟨b, p, ws, c, rfl, by rw [show _ = _ from q2], r2.1.1, r2.1.2, sqB_same (g2.ff.trans g2.ok.fi.fh) h3, k _ _ F2 a2 H2 g (it_enumB (sqB_same g2.ff h3) (h4.mono g2.ff)) r2.2⟩
    · exact r2.elim
  · exact r2.elim
/-! dict(zip(texts, things)) -/
def dDictZip (dl : DAt) : DEt := fun a R => dl a fun ds a' => match ds with
  | [.tup xs, .tup ys] => (match unS xs with
    | some zs => zs.length ≤ 1000 ∧ R (.dK (mergeA [] ((zs.map Sum.inr).zip ys))) a'
    | none => False)
  | [.ftup xs, .tup ys] => (match unS xs with
    | some zs => zs.length ≤ 1000 ∧ R (.dK (mergeA [] ((zs.map Sum.inr).zip ys))) a'
    | none => False)
  | _ => False
theorem pk_zip : ∀ {zs : List Key} {ys : List D} {vs : List V}, DatL K H ys vs → PK K H (zs.zip ys) (zs.zip vs)
  | [], _, _, _ => by rw [List.zip_nil_left, List.zip_nil_left]; exact .nil
  | _ :: _, [], _, h => by rw [show _ = [] from h]; exact .nil
  | z :: zs, y :: ys, _, ⟨v, r, rfl, h, t⟩ => .cons ⟨rfl, h⟩ (pk_zip t)
theorem do_dictZip {p p2 q : Pos} (hg : ∀ j, Gl (X j) "dict") (hm : ∀ j, (X j).mg "dict" = none) (hg2 : ∀ j, Gl (X j) "zip") (hm2 : ∀ j, (X j).mg "zip" = none) (ha : DAE X K ω [e, e2] dl) (hc : ∀ j, (X j).calm = true := by intro _; rfl)
    (h1 : ∀ j, starEach [e, e2] (X j).env = (false, eval e (X j).env) :: starEach [e2] (X j).env := by intro _; rfl) (h2 : ∀ j, (backTo q (starEach [e2] (X j).env)).any (fun x => x.1) = false := by intro _; rfl)
    (h3 : ∀ j, starEach [.Call (.Name "zip" p2) [e, e2] [] q] (X j).env = (false, eval (.Call (.Name "zip" p2) [e, e2] [] q) (X j).env) :: starEach [] (X j).env := by intro _; rfl) (hK : ∀ j, (X j).K = K := by intro _; rfl) :
    DO X K ω (.Call (.Name "dict" p) [.Call (.Name "zip" p2) [e, e2] [] q] [] pos) (dDictZip dl) := by
  obtain ⟨t, p1, l⟩ := ha
  refine ⟨tDictZip K t, fun j => by rw [← hK j]; exact pe_dictZip (hg j) (hm j) (hg2 j) (hm2 j) (p1 j) (hc j) (h1 j) (h2 j) (h3 j), fun B hω F a σ H Q R ok hd k => l B hω F a σ H _ _ ok hd fun vs ds F1 a1 H1 g1 q1 r1 => ?_⟩
  split at r1
  · rename_i xs ys
    split at r1
    · rename_i zs ez
      obtain ⟨v, r, rfl, ⟨p, us, rfl, h1, h2⟩, w, r', rfl, ⟨p', ws, rfl, h3, h4⟩, h5⟩ := q1
      cases (show r' = [] from h5)
      rw [unS_of ez] at h2
      cases datL_flat h2
      refine ⟨p, p', zs, ws, rfl, SqT.of (g1.ok.fi.fh _ _ h1), SqT.of (g1.ok.fi.fh _ _ h3), r1.1, fun q hq => Go.newD ok g1 hq (d := .dK (mergeA [] ((zs.map Sum.inr).zip ys))) ⟨_, rfl, datK_pk.mpr (pk_merge (pk_zip h4) .nil)⟩ r1.2 k⟩
    · exact r1.elim
  · rename_i xs ys
    split at r1
    · rename_i zs ez
      obtain ⟨v, r, rfl, ⟨p, us, rfl, h1, h2⟩, w, r', rfl, ⟨p', ws, rfl, h3, h4⟩, h5⟩ := q1
      cases (show r' = [] from h5)
      rw [unS_of ez] at h2
      cases datL_flat h2
      refine ⟨p, p', zs, ws, rfl, (h1.mono g1.ok.fi.fh).sq, SqT.of (g1.ok.fi.fh _ _ h3), r1.1, fun q hq => Go.newD ok g1 hq (d := .dK (mergeA [] ((zs.map Sum.inr).zip ys))) ⟨_, rfl, datK_pk.mpr (pk_merge (pk_zip h4) .nil)⟩ r1.2 k⟩
    · exact r1.elim
  · exact r1.elim
/-! a written dict of texts to tuples of texts -/
structure TabD (K : PySem.W.Frag) (w : World) (c : Addr) (l : List (Str × List Str)) : Prop where
  at_ : ∃ es n, KDict K w c es n
  yes : ∀ (j : Nat) (nm : Str) (ps : List Str), l[j]? = some (nm, ps) → ∃ u : Addr, PySem.W.nsIn K c nm = some (some (.ref u)) ∧ ∀ H : Hp, SqT K H u (ps.map V.str)
  no : ∀ z : Str, z ∉ l.map (·.1) → PySem.W.nsIn K c z = some none
def dInG (l : List (Str × List Str)) (de : DEt) : DEt := fun a R => de a fun d a' => match d with
  | .v (.str z) => R (.v (.bl (decide (z ∈ l.map (·.1))))) a'
  | _ => False
theorem mem_map_at {l : List (Str × List Str)} {z : Str} (h : z ∈ l.map (·.1)) : ∃ (j : Nat) (ps : List Str), l[j]? = some (z, ps) := by
  obtain ⟨q, h1, rfl⟩ := List.mem_map.mp h
  obtain ⟨j, h2⟩ := List.mem_iff_getElem?.mp h1
  exact ⟨j, q.2, h2⟩
theorem le_inG {w : World} {c : Addr} {l : List (Str × List Str)} (T : TabD K w c l) {ta : TE} (h : LB K ω ta de) : LE K ω (tOp (fun x y H Q => ∃ z r, x = .str z ∧ y = .ref c ∧ PySem.W.nsIn K c z = some r ∧ Q (.bl r.isSome) H) ta (tC (.ref c))) (dInG l de) := fun B hω F a σ H Q R ok hd k => h B hω F a σ H _ _ ok hd fun x d F1 a1 H1 g1 q1 r1 => by
  split at r1
  · rename_i z
    by_cases hz : z ∈ l.map (·.1)
    · obtain ⟨j, ps, e⟩ := mem_map_at hz
      obtain ⟨u, hu, _⟩ := T.yes j z ps e
      refine ⟨z, _, q1, rfl, hu, k _ (.v _) F1 a1 H1 g1 rfl ?_⟩
      rw [decide_eq_true hz] at r1
      exact r1
    · refine ⟨z, _, q1, rfl, T.no z hz, k _ (.v _) F1 a1 H1 g1 rfl ?_⟩
      rw [decide_eq_false hz] at r1
      exact r1
  · exact r1.elim
theorem de_inG {w : World} {x : Str} {p : Pos} {c : Addr} {l : List (Str × List Str)} (T : TabD K w c l) (hw : ∀ j, (X j).w = w) (hg : ∀ j, Gl (X j) x) (hm : ∀ j, (X j).mg x = some (.ref c)) (ha : DB X K ω e de) (hd : (x == ("__debug__" : Str)) = false := by decide) (hb : behindInMarks .In (.Name x p) = false := by rfl) (hK : ∀ j, (X j).K = K := by intro _; rfl) : DX X K ω (.Compare e [.In] [.Name x p] pos) (dInG l de) := by
  obtain ⟨t, p1, l1⟩ := ha
  obtain ⟨es, n, kd⟩ := T.at_
  exact ⟨_, fun j => pe_cmpR (by have := op_in_kd (X := X j) (d := c) (es := es) (n := n) (by rw [hK j, hw j]; exact kd); rw [hK j] at this; exact this) (p1 j) (pe_glob (v := .ref c) (hg j) (hm j) rfl hd) hb, le_inG T l1⟩
theorem dt_inG {w : World} {x : Str} {p : Pos} {c : Addr} {l : List (Str × List Str)} (T : TabD K w c l) (hw : ∀ j, (X j).w = w) (hg : ∀ j, Gl (X j) x) (hm : ∀ j, (X j).mg x = some (.ref c)) (ha : DB X K ω e de) (hd : (x == ("__debug__" : Str)) = false := by decide) (hb : behindInMarks .In (.Name x p) = false := by rfl) (hK : ∀ j, (X j).K = K := by intro _; rfl) : DT X K ω (.Compare e [.In] [.Name x p] pos) (dTest (dInG l de)) := by
  obtain ⟨t, p1, l1⟩ := ha
  obtain ⟨es, n, kd⟩ := T.at_
  exact ⟨_, fun j => pt_cmpR (by have := op_in_kd (X := X j) (d := c) (es := es) (n := n) (by rw [hK j, hw j]; exact kd); rw [hK j] at this; exact this) (p1 j) (pe_glob (v := .ref c) (hg j) (hm j) rfl hd) hb, lc_b (le_inG T l1)⟩
def dIxG (l : List (Str × List Str)) (de : DEt) : DEt := fun a R => de a fun d a' => match d with
  | .v (.str z) => ∃ ps, (z, ps) ∈ l ∧ R (.ctup (ps.map fun y => D.v (V.str y))) a'
  | _ => False
theorem de_ixG {w : World} {x : Str} {p : Pos} {c : Addr} {l : List (Str × List Str)} (T : TabD K w c l) (hw : ∀ j, (X j).w = w) (hg : ∀ j, Gl (X j) x) (hm : ∀ j, (X j).mg x = some (.ref c)) (ha : DB X K ω e de) (hs : PlainIx e) (hd : (x == ("__debug__" : Str)) = false := by decide) (hK : ∀ j, (X j).K = K := by intro _; rfl) : DX X K ω (.Subscript (.Name x p) e pos) (dIxG l de) := by
  obtain ⟨t, p1, l1⟩ := ha
  obtain ⟨es, n, kd⟩ := T.at_
  refine ⟨tOp (rIxD K w) (tC (.ref c)) t, fun j => by rw [← hK j, ← hw j]; exact pe_ix ix_kdict (pe_glob (v := .ref c) (hg j) (hm j) rfl hd) (p1 j) hs, fun B hω F a σ H Q R ok hd k => l1 B hω F a σ H _ _ ok hd fun y d F1 a1 H1 g1 q1 r1 => ?_⟩
  split at r1
  · rename_i z
    obtain ⟨ps, hp, r⟩ := r1
    obtain ⟨j, ej⟩ := List.mem_iff_getElem?.mp hp
    obtain ⟨u, hu, hs⟩ := T.yes j z ps ej
    refine ⟨c, z, .ref u, rfl, q1, ⟨es, n, _, kd.at_, kd.lit, hu, rfl⟩, k _ (.ctup _) F1 a1 H1 g1 ⟨u, _, rfl, hs _, datS ps⟩ r⟩
  · exact r1.elim
/-! x += e -/
def dAug (i : Nat) (g : Int → Int → Int) (de : DEt) : DSt := fun E a => match a.at i with
  | .val (.v (.int x)) => de a fun d a' => match d with
    | .v (.int y) => E.nx (a'.put i (.val (.v (.int (g x y)))))
    | _ => False
  | _ => False
theorem ds_augAdd {i : Nat} {x : Str} {pos' : Pos} (hN : ∀ j, (X j).N.Nodup) (hi : ∀ j, (X j).N[i]? = some x) (hx : ∀ j, Loc (X j).env.scope x) (he : DX X K ω e de) (hf : ∀ j, (X j).fn x = true ∨ (X j).env.scope.names.lookup x = some .local := by first | exact fun _ => .inl rfl | exact fun _ => .inr rfl | assumption)
    (hz : ω.sf = false ∨ i ≠ 0 := by first | exact Or.inl rfl | exact Or.inr (by decide)) : DS X K ω (.AugAssign (.Name x pos') .Add e pos) (dAug i (· + ·) de) := by
  obtain ⟨t, p, l⟩ := he
  refine ⟨_, fun j => ps_aug (hN j) (hi j) (hx j) (p j) ip_add (hf j), fun B hω E DE F a σ H ok hd k => ?_⟩
  unfold dAug at hd
  split at hd
  · rename_i x es
    obtain ⟨v, h1, h2⟩ := ok.va i _ (at_of' es (fun z => nomatch z))
    cases (show v = .int x from h2)
    refine ⟨_, h1, l B hω F a σ H _ _ ok hd fun v d F' a' H' g q r => ?_⟩
    split at r
    · rename_i y
      exact ⟨x, y, rfl, q, k.nx F' _ _ H' (g.ok.setV (d := .v _) (hω.z hz) rfl) g.ff r⟩
    · exact r.elim
  · exact hd.elim
theorem ds_augSub {i : Nat} {x : Str} {pos' : Pos} (hN : ∀ j, (X j).N.Nodup) (hi : ∀ j, (X j).N[i]? = some x) (hx : ∀ j, Loc (X j).env.scope x) (he : DX X K ω e de) (hf : ∀ j, (X j).fn x = true ∨ (X j).env.scope.names.lookup x = some .local := by first | exact fun _ => .inl rfl | exact fun _ => .inr rfl | assumption)
    (hz : ω.sf = false ∨ i ≠ 0 := by first | exact Or.inl rfl | exact Or.inr (by decide)) : DS X K ω (.AugAssign (.Name x pos') .Sub e pos) (dAug i (· - ·) de) := by
  obtain ⟨t, p, l⟩ := he
  refine ⟨_, fun j => ps_aug (hN j) (hi j) (hx j) (p j) ip_sub (hf j), fun B hω E DE F a σ H ok hd k => ?_⟩
  unfold dAug at hd
  split at hd
  · rename_i x es
    obtain ⟨v, h1, h2⟩ := ok.va i _ (at_of' es (fun z => nomatch z))
    cases (show v = .int x from h2)
    refine ⟨_, h1, l B hω F a σ H _ _ ok hd fun v d F' a' H' g q r => ?_⟩
    split at r
    · rename_i y
      exact ⟨x, y, rfl, q, k.nx F' _ _ H' (g.ok.setV (d := .v _) (hω.z hz) rfl) g.ff r⟩
    · exact r.elim
  · exact hd.elim
/-! a, b = e: a list or a tuple -/
def dgSeq (u : DGts) : DGt := fun d a R => match seqD d with
  | some ds => u ds a R
  | none => False
theorem dg_seq {k : Nat} {dg : DGts} {w : List Nat} {m : Nat} (hc : ∀ j, (X j).calm = true) (h : DGs X K ω es dg w m) (hn : ∀ j, (assignEach es (X j).env).length = m := by intro _; rfl) (hst : ∀ j, (assignEach es (X j).env).findIdx? (fun x => x.1) = none := by intro _; rfl) (hK : ∀ j, (X j).K = K := by intro _; rfl) : DG X K ω (.Tuple es k pos) (dgSeq dg) w := by
  obtain ⟨g, p, l, hl⟩ := h
  refine ⟨fun v σ H Q => gTup K m g v σ H Q ∨ gUnl K m g v σ H Q, fun j => ⟨fun pins s σ H v u Q I r hw => hw.elim (fun hw => (pg_tup (hc j) (p j) (hn j) (hst j)).run pins s σ H v u Q I r (by rw [hK j]; exact hw)) fun hw => (pg_unl (hc j) (p j) (hn j) (hst j)).run pins s σ H v u Q I r (by rw [hK j]; exact hw)⟩, fun B hω F a σ H v d Q R ok h hd k => ?_⟩
  unfold dgSeq at hd
  split at hd
  · rename_i ds e
    obtain ⟨p, vs, rfl, h1, h2⟩ := seqD_dat e ok.fi.fh h
    rcases h1 with h1 | h1
    · exact .inr ⟨p, vs, rfl, h1, by rw [h2.len]; exact hl _ _ _ hd, l B hω F a σ H vs ds Q R ok h2 hd k⟩
    · exact .inl ⟨p, vs, rfl, h1, by rw [h2.len]; exact hl _ _ _ hd, l B hω F a σ H vs ds Q R ok h2 hd k⟩
  · exact hd.elim
theorem set_id {α : Type} {l : List α} {i : Nat} {x : α} (h : l[i]? = some x) : l.set i x = l := by
  obtain ⟨hi, rfl⟩ := List.getElem?_eq_some_iff.mp h
  exact List.set_getElem_self hi
/-! d.setdefault((..), v): one's own dict with tuple keys -/
def dDSetT (i : Nat) (dk dv : DEt) : DSt := fun E a => isOwnT (a.at i) = true ∧ dk a fun e a1 => dv a1 fun d a2 => match a2.at i, e with
  | .own (.dT kvs), .tup ds => (match keysD ds with
    | some k => kvs.length < sizeLine ∧ E.nx (a2.put i (.own (.dT (match getA kvs k with | some _ => kvs | none => putA kvs k d))))
    | none => False)
  | _, _ => False
where isOwnT : Sl → Bool
  | .own (.dT _) => true
  | _ => false
theorem ds_dsetT {i : Nat} {x : Str} {px apos cpos : Pos} {f : Expr} {dk dv : DEt} (hu : ∀ j, (X j).A.units + 1 < cLine) (ho : ∀ j, PE (X j) (.Name x px) (tVar i)) (hk : DX X K ω e dk) (hv : DX X K ω f dv) (m : ∀ j, M2 (X j) (.Name x px) "setdefault" apos e f cpos) (hs : ∀ j, swapsWith (.Call (.Attribute (.Name x px) "setdefault" apos) [e, f] [] cpos) none pos.line (X j).env = pure false := by intro _; rfl) :
    DS X K ω (.Expr (.Call (.Attribute (.Name x px) "setdefault" apos) [e, f] [] cpos) pos) (dDSetT i dk dv) := by
  obtain ⟨tk, p1, l1⟩ := hk
  obtain ⟨tv, p2, l2⟩ := hv
  refine ⟨tDrop (tDSetdT (tVar i) tk tv), fun j => ps_expr (pe_dsetdT (hu j) (ho j) (p1 j) (p2 j) (m j)) (hs j), fun B hω E DE F a σ H ok hd k => ?_⟩
  obtain ⟨h0, hd⟩ := hd
  have h0' : ∃ kvs, a.at i = .own (.dT kvs) := by
    unfold dDSetT.isOwnT at h0
    split at h0
    · exact ⟨_, by assumption⟩
    · cases h0
  obtain ⟨kvs0, e0⟩ := h0'
  obtain ⟨p, o, h1, h2, _, _, vs0, rfl, _⟩ := ok.ow i _ (at_of' e0 (fun z => nomatch z))
  refine ⟨_, h1, p, rfl, .inr ⟨vs0, .inl h2⟩, l1 B hω F a σ H _ _ ok hd fun y d F1 a1 H1 g1 q1 r1 => l2 B hω F1 a1 σ H1 _ _ g1.ok r1 fun z dz F2 a2 H2 g2 q2 r2 => ?_⟩
  split at r2
  · rename_i kvs ds es
    split at r2
    · rename_i kk ek
      have es' := at_of' es (fun z => nomatch z)
      obtain ⟨p', o, h1', h3, h4, h5, vs, rfl, h6⟩ := g2.ok.ow i _ es'
      rw [h1] at h1'
      cases h1'
      obtain ⟨b, us, rfl, h7, h8⟩ := q1.mono g2.ff
      rw [keysD_of h8 ek] at h7
      have h9 := datT_pk.mp h6
      have h10 := pk_get h9 kk
      refine ⟨vs, kk, b, h3, rfl, g2.ok.fi.fh _ _ h7, by rw [pk_len h9]; exact r2.1, fun v hv => ?_, fun hn => ?_⟩
      · cases eg : getA kvs kk with
        | none => rw [eg] at h10; rw [show valV vs kk = none from h10] at hv; cases hv
        | some dg =>
          have r := r2.2
          rw [eg] at r
          have e : a2.put i (.own (.dT kvs)) = a2 := by
            obtain ⟨sl, n, sp⟩ := a2
            show AS.mk _ _ _ = _
            rw [set_id es']
          exact k.nx F2 _ σ H2 g2.ok (g1.ff.trans g2.ff) (by rw [← e]; exact r)
      · cases eg : getA kvs kk with
        | some dg =>
          rw [eg] at h10
          obtain ⟨v, hv, _⟩ := h10
          rw [hn] at hv
          cases hv
        | none =>
          have r := r2.2
          rw [eg] at r
          exact k.nx F2 _ σ _ (g2.ok.chg (e := .dT (putA kvs kk dz)) es' h1 ⟨_, rfl, datT_pk.mpr (pk_put h9 q2)⟩) (g1.ff.trans g2.ff) r
    · exact r2.elim
  · exact r2.elim
/-! a, b = x, y and a, b, c = x, y, z -/
def dPar (i j : Nat) (dl : DAt) : DSt := fun E a => dl a fun ds a' => match ds with
  | [d, e] => E.nx ((a'.put i (.val d)).put j (.val e))
  | _ => False
theorem ds_par {i j : Nat} {x y : Str} {px py pt : Pos} {kt k2 pt2} (hc : ∀ q, (X q).calm = true) (hN : ∀ q, (X q).N.Nodup) (hi : ∀ q, (X q).N[i]? = some x) (hj : ∀ q, (X q).N[j]? = some y) (hij : i ≠ j) (hx : ∀ q, (X q).env.scope.names.lookup x = some .local) (hy : ∀ q, (X q).env.scope.names.lookup y = some .local) (ha : DAE X K ω [e1, e2] dl)
    (hw : ∀ q, swappedStores [.Tuple [.Name x px, .Name y py] kt pt] (.Tuple [e1, e2] k2 pt2) (X q).env = pure (some [x, y])) (hs : ∀ q, swapsWithSole [.Tuple [.Name x px, .Name y py] kt pt] (.Tuple [e1, e2] k2 pt2) pos.line (X q).env = pure false := by intro _; rfl)
    (hzi : ω.sf = false ∨ i ≠ 0 := by first | exact Or.inl rfl | exact Or.inr (by decide)) (hzj : ω.sf = false ∨ j ≠ 0 := by first | exact Or.inl rfl | exact Or.inr (by decide)) :
    DS X K ω (.Assign [.Tuple [.Name x px, .Name y py] kt pt] (.Tuple [e1, e2] k2 pt2) pos) (dPar i j dl) := by
  obtain ⟨t, p, l⟩ := ha
  refine ⟨_, fun q => ps_par (hc q) (hN q) (hi q) (hj q) hij (hx q) (hy q) (p q) (hw q) (hs q), fun B hω E DE F a σ H ok hd k => l B hω F a σ H _ _ ok hd fun vs ds F' a' H' g q r => ?_⟩
  split at r
  · obtain ⟨v, r', rfl, h1, w, r'', rfl, h2, h3⟩ := q
    cases (show r'' = [] from h3)
    exact ⟨v, w, rfl, k.nx F' _ _ H' ((g.ok.setV (hω.z hzi) h1).setV (hω.z hzj) h2) g.ff r⟩
  · exact r.elim
def dPar3 (i j m : Nat) (dl : DAt) : DSt := fun E a => dl a fun ds a' => match ds with
  | [d, e, f] => E.nx (((a'.put i (.val d)).put j (.val e)).put m (.val f))
  | _ => False
theorem ds_par3 {i j m : Nat} {x y z : Str} {e3 : Expr} {px py pz pt : Pos} {kt k2 pt2} (hc : ∀ q, (X q).calm = true) (hN : ∀ q, (X q).N.Nodup) (hi : ∀ q, (X q).N[i]? = some x) (hj : ∀ q, (X q).N[j]? = some y) (hm : ∀ q, (X q).N[m]? = some z) (hij : i ≠ j) (him : i ≠ m) (hjm : j ≠ m)
    (hx : ∀ q, (X q).env.scope.names.lookup x = some .local) (hy : ∀ q, (X q).env.scope.names.lookup y = some .local) (hz : ∀ q, (X q).env.scope.names.lookup z = some .local) (ha : DAE X K ω [e1, e2, e3] dl)
    (hw : ∀ q, swappedStores [.Tuple [.Name x px, .Name y py, .Name z pz] kt pt] (.Tuple [e1, e2, e3] k2 pt2) (X q).env = pure (some [x, y, z])) (hs : ∀ q, swapsWithSole [.Tuple [.Name x px, .Name y py, .Name z pz] kt pt] (.Tuple [e1, e2, e3] k2 pt2) pos.line (X q).env = pure false := by intro _; rfl)
    (hzi : ω.sf = false ∨ i ≠ 0 := by first | exact Or.inl rfl | exact Or.inr (by decide)) (hzj : ω.sf = false ∨ j ≠ 0 := by first | exact Or.inl rfl | exact Or.inr (by decide)) (hzm : ω.sf = false ∨ m ≠ 0 := by first | exact Or.inl rfl | exact Or.inr (by decide)) :
    DS X K ω (.Assign [.Tuple [.Name x px, .Name y py, .Name z pz] kt pt] (.Tuple [e1, e2, e3] k2 pt2) pos) (dPar3 i j m dl) := by
  obtain ⟨t, p, l⟩ := ha
  refine ⟨_, fun q => ps_par3 (hc q) (hN q) (hi q) (hj q) (hm q) hij him hjm (hx q) (hy q) (hz q) (p q) (hw q) (hs q), fun B hω E DE F a σ H ok hd k => l B hω F a σ H _ _ ok hd fun vs ds F' a' H' g q r => ?_⟩
  split at r
  · obtain ⟨v, r', rfl, h1, w, r'', rfl, h2, u, r3, rfl, h3, h4⟩ := q
    cases (show r3 = [] from h4)
    exact ⟨v, w, u, rfl, k.nx F' _ _ H' (((g.ok.setV (hω.z hzi) h1).setV (hω.z hzj) h2).setV (hω.z hzm) h3) g.ff r⟩
  · exact r.elim
end
section
variable {P : Program} {w : World} {K : PySem.W.Frag} {mg : Str → Option Value} {base : Heap}
--SPLIT
/-! ### reading, step by step -/
theorem bif_t {A C : Prop} (h : A) : bIf true A C := h
theorem bif_f {A C : Prop} (h : C) : bIf false A C := h
theorem bif_d {c A C : Prop} {inst : Decidable c} (h1 : c → A) (h2 : ¬ c → C) : bIf (@decide c inst) A C := by
  by_cases h : c
  · rw [decide_eq_true h]
    exact h1 h
  · rw [decide_eq_false h]
    exact h2 h
theorem bif_nd {c A C : Prop} {inst : Decidable c} (h1 : ¬ c → A) (h2 : c → C) : bIf (!@decide c inst) A C := by
  by_cases h : c
  · rw [decide_eq_true h]
    exact h2 h
  · rw [decide_eq_false h]
    exact h1 h
theorem bif_b {b : Bool} {A C : Prop} (h1 : b = true → A) (h2 : b = false → C) : bIf b A C := by
  cases b with
  | true => exact h1 rfl
  | false => exact h2 rfl
theorem bif_nb {b : Bool} {A C : Prop} (h1 : b = false → A) (h2 : b = true → C) : bIf (!b) A C := by
  cases b with
  | true => exact h2 rfl
  | false => exact h1 rfl
theorem bif_same {b : Bool} {A : Prop} (h : A) : bIf b A A := by
  cases b <;> exact h
theorem at_0 {x0 : Sl} {l : List Sl} {n : Int} {sp : Option Addr} : AS.at ⟨x0 :: l, n, sp⟩ 0 = x0 := rfl
theorem put_0 {x0 y : Sl} {l : List Sl} {n : Int} {sp : Option Addr} : AS.put ⟨x0 :: l, n, sp⟩ 0 y = ⟨y :: l, n, sp⟩ := rfl
theorem at_1 {x0 x1 : Sl} {l : List Sl} {n : Int} {sp : Option Addr} : AS.at ⟨x0 :: x1 :: l, n, sp⟩ 1 = x1 := rfl
theorem put_1 {x0 x1 y : Sl} {l : List Sl} {n : Int} {sp : Option Addr} : AS.put ⟨x0 :: x1 :: l, n, sp⟩ 1 y = ⟨x0 :: y :: l, n, sp⟩ := rfl
theorem at_2 {x0 x1 x2 : Sl} {l : List Sl} {n : Int} {sp : Option Addr} : AS.at ⟨x0 :: x1 :: x2 :: l, n, sp⟩ 2 = x2 := rfl
theorem put_2 {x0 x1 x2 y : Sl} {l : List Sl} {n : Int} {sp : Option Addr} : AS.put ⟨x0 :: x1 :: x2 :: l, n, sp⟩ 2 y = ⟨x0 :: x1 :: y :: l, n, sp⟩ := rfl
theorem at_3 {x0 x1 x2 x3 : Sl} {l : List Sl} {n : Int} {sp : Option Addr} : AS.at ⟨x0 :: x1 :: x2 :: x3 :: l, n, sp⟩ 3 = x3 := rfl
theorem put_3 {x0 x1 x2 x3 y : Sl} {l : List Sl} {n : Int} {sp : Option Addr} : AS.put ⟨x0 :: x1 :: x2 :: x3 :: l, n, sp⟩ 3 y = ⟨x0 :: x1 :: x2 :: y :: l, n, sp⟩ := rfl
theorem at_4 {x0 x1 x2 x3 x4 : Sl} {l : List Sl} {n : Int} {sp : Option Addr} : AS.at ⟨x0 :: x1 :: x2 :: x3 :: x4 :: l, n, sp⟩ 4 = x4 := rfl
theorem put_4 {x0 x1 x2 x3 x4 y : Sl} {l : List Sl} {n : Int} {sp : Option Addr} : AS.put ⟨x0 :: x1 :: x2 :: x3 :: x4 :: l, n, sp⟩ 4 y = ⟨x0 :: x1 :: x2 :: x3 :: y :: l, n, sp⟩ := rfl
theorem at_5 {x0 x1 x2 x3 x4 x5 : Sl} {l : List Sl} {n : Int} {sp : Option Addr} : AS.at ⟨x0 :: x1 :: x2 :: x3 :: x4 :: x5 :: l, n, sp⟩ 5 = x5 := rfl
theorem put_5 {x0 x1 x2 x3 x4 x5 y : Sl} {l : List Sl} {n : Int} {sp : Option Addr} : AS.put ⟨x0 :: x1 :: x2 :: x3 :: x4 :: x5 :: l, n, sp⟩ 5 y = ⟨x0 :: x1 :: x2 :: x3 :: x4 :: y :: l, n, sp⟩ := rfl
theorem at_6 {x0 x1 x2 x3 x4 x5 x6 : Sl} {l : List Sl} {n : Int} {sp : Option Addr} : AS.at ⟨x0 :: x1 :: x2 :: x3 :: x4 :: x5 :: x6 :: l, n, sp⟩ 6 = x6 := rfl
theorem put_6 {x0 x1 x2 x3 x4 x5 x6 y : Sl} {l : List Sl} {n : Int} {sp : Option Addr} : AS.put ⟨x0 :: x1 :: x2 :: x3 :: x4 :: x5 :: x6 :: l, n, sp⟩ 6 y = ⟨x0 :: x1 :: x2 :: x3 :: x4 :: x5 :: y :: l, n, sp⟩ := rfl
theorem at_7 {x0 x1 x2 x3 x4 x5 x6 x7 : Sl} {l : List Sl} {n : Int} {sp : Option Addr} : AS.at ⟨x0 :: x1 :: x2 :: x3 :: x4 :: x5 :: x6 :: x7 :: l, n, sp⟩ 7 = x7 := rfl
theorem put_7 {x0 x1 x2 x3 x4 x5 x6 x7 y : Sl} {l : List Sl} {n : Int} {sp : Option Addr} : AS.put ⟨x0 :: x1 :: x2 :: x3 :: x4 :: x5 :: x6 :: x7 :: l, n, sp⟩ 7 y = ⟨x0 :: x1 :: x2 :: x3 :: x4 :: x5 :: x6 :: y :: l, n, sp⟩ := rfl
theorem at_8 {x0 x1 x2 x3 x4 x5 x6 x7 x8 : Sl} {l : List Sl} {n : Int} {sp : Option Addr} : AS.at ⟨x0 :: x1 :: x2 :: x3 :: x4 :: x5 :: x6 :: x7 :: x8 :: l, n, sp⟩ 8 = x8 := rfl
theorem put_8 {x0 x1 x2 x3 x4 x5 x6 x7 x8 y : Sl} {l : List Sl} {n : Int} {sp : Option Addr} : AS.put ⟨x0 :: x1 :: x2 :: x3 :: x4 :: x5 :: x6 :: x7 :: x8 :: l, n, sp⟩ 8 y = ⟨x0 :: x1 :: x2 :: x3 :: x4 :: x5 :: x6 :: x7 :: y :: l, n, sp⟩ := rfl
theorem at_9 {x0 x1 x2 x3 x4 x5 x6 x7 x8 x9 : Sl} {l : List Sl} {n : Int} {sp : Option Addr} : AS.at ⟨x0 :: x1 :: x2 :: x3 :: x4 :: x5 :: x6 :: x7 :: x8 :: x9 :: l, n, sp⟩ 9 = x9 := rfl
theorem put_9 {x0 x1 x2 x3 x4 x5 x6 x7 x8 x9 y : Sl} {l : List Sl} {n : Int} {sp : Option Addr} : AS.put ⟨x0 :: x1 :: x2 :: x3 :: x4 :: x5 :: x6 :: x7 :: x8 :: x9 :: l, n, sp⟩ 9 y = ⟨x0 :: x1 :: x2 :: x3 :: x4 :: x5 :: x6 :: x7 :: x8 :: y :: l, n, sp⟩ := rfl
theorem at_10 {x0 x1 x2 x3 x4 x5 x6 x7 x8 x9 x10 : Sl} {l : List Sl} {n : Int} {sp : Option Addr} : AS.at ⟨x0 :: x1 :: x2 :: x3 :: x4 :: x5 :: x6 :: x7 :: x8 :: x9 :: x10 :: l, n, sp⟩ 10 = x10 := rfl
theorem put_10 {x0 x1 x2 x3 x4 x5 x6 x7 x8 x9 x10 y : Sl} {l : List Sl} {n : Int} {sp : Option Addr} : AS.put ⟨x0 :: x1 :: x2 :: x3 :: x4 :: x5 :: x6 :: x7 :: x8 :: x9 :: x10 :: l, n, sp⟩ 10 y = ⟨x0 :: x1 :: x2 :: x3 :: x4 :: x5 :: x6 :: x7 :: x8 :: x9 :: y :: l, n, sp⟩ := rfl
theorem at_11 {x0 x1 x2 x3 x4 x5 x6 x7 x8 x9 x10 x11 : Sl} {l : List Sl} {n : Int} {sp : Option Addr} : AS.at ⟨x0 :: x1 :: x2 :: x3 :: x4 :: x5 :: x6 :: x7 :: x8 :: x9 :: x10 :: x11 :: l, n, sp⟩ 11 = x11 := rfl
theorem put_11 {x0 x1 x2 x3 x4 x5 x6 x7 x8 x9 x10 x11 y : Sl} {l : List Sl} {n : Int} {sp : Option Addr} : AS.put ⟨x0 :: x1 :: x2 :: x3 :: x4 :: x5 :: x6 :: x7 :: x8 :: x9 :: x10 :: x11 :: l, n, sp⟩ 11 y = ⟨x0 :: x1 :: x2 :: x3 :: x4 :: x5 :: x6 :: x7 :: x8 :: x9 :: x10 :: y :: l, n, sp⟩ := rfl
theorem at_12 {x0 x1 x2 x3 x4 x5 x6 x7 x8 x9 x10 x11 x12 : Sl} {l : List Sl} {n : Int} {sp : Option Addr} : AS.at ⟨x0 :: x1 :: x2 :: x3 :: x4 :: x5 :: x6 :: x7 :: x8 :: x9 :: x10 :: x11 :: x12 :: l, n, sp⟩ 12 = x12 := rfl
theorem put_12 {x0 x1 x2 x3 x4 x5 x6 x7 x8 x9 x10 x11 x12 y : Sl} {l : List Sl} {n : Int} {sp : Option Addr} : AS.put ⟨x0 :: x1 :: x2 :: x3 :: x4 :: x5 :: x6 :: x7 :: x8 :: x9 :: x10 :: x11 :: x12 :: l, n, sp⟩ 12 y = ⟨x0 :: x1 :: x2 :: x3 :: x4 :: x5 :: x6 :: x7 :: x8 :: x9 :: x10 :: x11 :: y :: l, n, sp⟩ := rfl
theorem at_13 {x0 x1 x2 x3 x4 x5 x6 x7 x8 x9 x10 x11 x12 x13 : Sl} {l : List Sl} {n : Int} {sp : Option Addr} : AS.at ⟨x0 :: x1 :: x2 :: x3 :: x4 :: x5 :: x6 :: x7 :: x8 :: x9 :: x10 :: x11 :: x12 :: x13 :: l, n, sp⟩ 13 = x13 := rfl
theorem put_13 {x0 x1 x2 x3 x4 x5 x6 x7 x8 x9 x10 x11 x12 x13 y : Sl} {l : List Sl} {n : Int} {sp : Option Addr} : AS.put ⟨x0 :: x1 :: x2 :: x3 :: x4 :: x5 :: x6 :: x7 :: x8 :: x9 :: x10 :: x11 :: x12 :: x13 :: l, n, sp⟩ 13 y = ⟨x0 :: x1 :: x2 :: x3 :: x4 :: x5 :: x6 :: x7 :: x8 :: x9 :: x10 :: x11 :: x12 :: y :: l, n, sp⟩ := rfl
theorem at_14 {x0 x1 x2 x3 x4 x5 x6 x7 x8 x9 x10 x11 x12 x13 x14 : Sl} {l : List Sl} {n : Int} {sp : Option Addr} : AS.at ⟨x0 :: x1 :: x2 :: x3 :: x4 :: x5 :: x6 :: x7 :: x8 :: x9 :: x10 :: x11 :: x12 :: x13 :: x14 :: l, n, sp⟩ 14 = x14 := rfl
theorem put_14 {x0 x1 x2 x3 x4 x5 x6 x7 x8 x9 x10 x11 x12 x13 x14 y : Sl} {l : List Sl} {n : Int} {sp : Option Addr} : AS.put ⟨x0 :: x1 :: x2 :: x3 :: x4 :: x5 :: x6 :: x7 :: x8 :: x9 :: x10 :: x11 :: x12 :: x13 :: x14 :: l, n, sp⟩ 14 y = ⟨x0 :: x1 :: x2 :: x3 :: x4 :: x5 :: x6 :: x7 :: x8 :: x9 :: x10 :: x11 :: x12 :: x13 :: y :: l, n, sp⟩ := rfl
theorem at_15 {x0 x1 x2 x3 x4 x5 x6 x7 x8 x9 x10 x11 x12 x13 x14 x15 : Sl} {l : List Sl} {n : Int} {sp : Option Addr} : AS.at ⟨x0 :: x1 :: x2 :: x3 :: x4 :: x5 :: x6 :: x7 :: x8 :: x9 :: x10 :: x11 :: x12 :: x13 :: x14 :: x15 :: l, n, sp⟩ 15 = x15 := rfl
theorem put_15 {x0 x1 x2 x3 x4 x5 x6 x7 x8 x9 x10 x11 x12 x13 x14 x15 y : Sl} {l : List Sl} {n : Int} {sp : Option Addr} : AS.put ⟨x0 :: x1 :: x2 :: x3 :: x4 :: x5 :: x6 :: x7 :: x8 :: x9 :: x10 :: x11 :: x12 :: x13 :: x14 :: x15 :: l, n, sp⟩ 15 y = ⟨x0 :: x1 :: x2 :: x3 :: x4 :: x5 :: x6 :: x7 :: x8 :: x9 :: x10 :: x11 :: x12 :: x13 :: x14 :: y :: l, n, sp⟩ := rfl
theorem at_16 {x0 x1 x2 x3 x4 x5 x6 x7 x8 x9 x10 x11 x12 x13 x14 x15 x16 : Sl} {l : List Sl} {n : Int} {sp : Option Addr} : AS.at ⟨x0 :: x1 :: x2 :: x3 :: x4 :: x5 :: x6 :: x7 :: x8 :: x9 :: x10 :: x11 :: x12 :: x13 :: x14 :: x15 :: x16 :: l, n, sp⟩ 16 = x16 := rfl
theorem put_16 {x0 x1 x2 x3 x4 x5 x6 x7 x8 x9 x10 x11 x12 x13 x14 x15 x16 y : Sl} {l : List Sl} {n : Int} {sp : Option Addr} : AS.put ⟨x0 :: x1 :: x2 :: x3 :: x4 :: x5 :: x6 :: x7 :: x8 :: x9 :: x10 :: x11 :: x12 :: x13 :: x14 :: x15 :: x16 :: l, n, sp⟩ 16 y = ⟨x0 :: x1 :: x2 :: x3 :: x4 :: x5 :: x6 :: x7 :: x8 :: x9 :: x10 :: x11 :: x12 :: x13 :: x14 :: x15 :: y :: l, n, sp⟩ := rfl
theorem at_17 {x0 x1 x2 x3 x4 x5 x6 x7 x8 x9 x10 x11 x12 x13 x14 x15 x16 x17 : Sl} {l : List Sl} {n : Int} {sp : Option Addr} : AS.at ⟨x0 :: x1 :: x2 :: x3 :: x4 :: x5 :: x6 :: x7 :: x8 :: x9 :: x10 :: x11 :: x12 :: x13 :: x14 :: x15 :: x16 :: x17 :: l, n, sp⟩ 17 = x17 := rfl
theorem put_17 {x0 x1 x2 x3 x4 x5 x6 x7 x8 x9 x10 x11 x12 x13 x14 x15 x16 x17 y : Sl} {l : List Sl} {n : Int} {sp : Option Addr} : AS.put ⟨x0 :: x1 :: x2 :: x3 :: x4 :: x5 :: x6 :: x7 :: x8 :: x9 :: x10 :: x11 :: x12 :: x13 :: x14 :: x15 :: x16 :: x17 :: l, n, sp⟩ 17 y = ⟨x0 :: x1 :: x2 :: x3 :: x4 :: x5 :: x6 :: x7 :: x8 :: x9 :: x10 :: x11 :: x12 :: x13 :: x14 :: x15 :: x16 :: y :: l, n, sp⟩ := rfl
theorem at_18 {x0 x1 x2 x3 x4 x5 x6 x7 x8 x9 x10 x11 x12 x13 x14 x15 x16 x17 x18 : Sl} {l : List Sl} {n : Int} {sp : Option Addr} : AS.at ⟨x0 :: x1 :: x2 :: x3 :: x4 :: x5 :: x6 :: x7 :: x8 :: x9 :: x10 :: x11 :: x12 :: x13 :: x14 :: x15 :: x16 :: x17 :: x18 :: l, n, sp⟩ 18 = x18 := rfl
theorem put_18 {x0 x1 x2 x3 x4 x5 x6 x7 x8 x9 x10 x11 x12 x13 x14 x15 x16 x17 x18 y : Sl} {l : List Sl} {n : Int} {sp : Option Addr} : AS.put ⟨x0 :: x1 :: x2 :: x3 :: x4 :: x5 :: x6 :: x7 :: x8 :: x9 :: x10 :: x11 :: x12 :: x13 :: x14 :: x15 :: x16 :: x17 :: x18 :: l, n, sp⟩ 18 y = ⟨x0 :: x1 :: x2 :: x3 :: x4 :: x5 :: x6 :: x7 :: x8 :: x9 :: x10 :: x11 :: x12 :: x13 :: x14 :: x15 :: x16 :: x17 :: y :: l, n, sp⟩ := rfl
theorem at_19 {x0 x1 x2 x3 x4 x5 x6 x7 x8 x9 x10 x11 x12 x13 x14 x15 x16 x17 x18 x19 : Sl} {l : List Sl} {n : Int} {sp : Option Addr} : AS.at ⟨x0 :: x1 :: x2 :: x3 :: x4 :: x5 :: x6 :: x7 :: x8 :: x9 :: x10 :: x11 :: x12 :: x13 :: x14 :: x15 :: x16 :: x17 :: x18 :: x19 :: l, n, sp⟩ 19 = x19 := rfl
theorem put_19 {x0 x1 x2 x3 x4 x5 x6 x7 x8 x9 x10 x11 x12 x13 x14 x15 x16 x17 x18 x19 y : Sl} {l : List Sl} {n : Int} {sp : Option Addr} : AS.put ⟨x0 :: x1 :: x2 :: x3 :: x4 :: x5 :: x6 :: x7 :: x8 :: x9 :: x10 :: x11 :: x12 :: x13 :: x14 :: x15 :: x16 :: x17 :: x18 :: x19 :: l, n, sp⟩ 19 y = ⟨x0 :: x1 :: x2 :: x3 :: x4 :: x5 :: x6 :: x7 :: x8 :: x9 :: x10 :: x11 :: x12 :: x13 :: x14 :: x15 :: x16 :: x17 :: x18 :: y :: l, n, sp⟩ := rfl
theorem at_20 {x0 x1 x2 x3 x4 x5 x6 x7 x8 x9 x10 x11 x12 x13 x14 x15 x16 x17 x18 x19 x20 : Sl} {l : List Sl} {n : Int} {sp : Option Addr} : AS.at ⟨x0 :: x1 :: x2 :: x3 :: x4 :: x5 :: x6 :: x7 :: x8 :: x9 :: x10 :: x11 :: x12 :: x13 :: x14 :: x15 :: x16 :: x17 :: x18 :: x19 :: x20 :: l, n, sp⟩ 20 = x20 := rfl
theorem put_20 {x0 x1 x2 x3 x4 x5 x6 x7 x8 x9 x10 x11 x12 x13 x14 x15 x16 x17 x18 x19 x20 y : Sl} {l : List Sl} {n : Int} {sp : Option Addr} : AS.put ⟨x0 :: x1 :: x2 :: x3 :: x4 :: x5 :: x6 :: x7 :: x8 :: x9 :: x10 :: x11 :: x12 :: x13 :: x14 :: x15 :: x16 :: x17 :: x18 :: x19 :: x20 :: l, n, sp⟩ 20 y = ⟨x0 :: x1 :: x2 :: x3 :: x4 :: x5 :: x6 :: x7 :: x8 :: x9 :: x10 :: x11 :: x12 :: x13 :: x14 :: x15 :: x16 :: x17 :: x18 :: x19 :: y :: l, n, sp⟩ := rfl
theorem at_21 {x0 x1 x2 x3 x4 x5 x6 x7 x8 x9 x10 x11 x12 x13 x14 x15 x16 x17 x18 x19 x20 x21 : Sl} {l : List Sl} {n : Int} {sp : Option Addr} : AS.at ⟨x0 :: x1 :: x2 :: x3 :: x4 :: x5 :: x6 :: x7 :: x8 :: x9 :: x10 :: x11 :: x12 :: x13 :: x14 :: x15 :: x16 :: x17 :: x18 :: x19 :: x20 :: x21 :: l, n, sp⟩ 21 = x21 := rfl
theorem put_21 {x0 x1 x2 x3 x4 x5 x6 x7 x8 x9 x10 x11 x12 x13 x14 x15 x16 x17 x18 x19 x20 x21 y : Sl} {l : List Sl} {n : Int} {sp : Option Addr} : AS.put ⟨x0 :: x1 :: x2 :: x3 :: x4 :: x5 :: x6 :: x7 :: x8 :: x9 :: x10 :: x11 :: x12 :: x13 :: x14 :: x15 :: x16 :: x17 :: x18 :: x19 :: x20 :: x21 :: l, n, sp⟩ 21 y = ⟨x0 :: x1 :: x2 :: x3 :: x4 :: x5 :: x6 :: x7 :: x8 :: x9 :: x10 :: x11 :: x12 :: x13 :: x14 :: x15 :: x16 :: x17 :: x18 :: x19 :: x20 :: y :: l, n, sp⟩ := rfl
theorem at_22 {x0 x1 x2 x3 x4 x5 x6 x7 x8 x9 x10 x11 x12 x13 x14 x15 x16 x17 x18 x19 x20 x21 x22 : Sl} {l : List Sl} {n : Int} {sp : Option Addr} : AS.at ⟨x0 :: x1 :: x2 :: x3 :: x4 :: x5 :: x6 :: x7 :: x8 :: x9 :: x10 :: x11 :: x12 :: x13 :: x14 :: x15 :: x16 :: x17 :: x18 :: x19 :: x20 :: x21 :: x22 :: l, n, sp⟩ 22 = x22 := rfl
theorem put_22 {x0 x1 x2 x3 x4 x5 x6 x7 x8 x9 x10 x11 x12 x13 x14 x15 x16 x17 x18 x19 x20 x21 x22 y : Sl} {l : List Sl} {n : Int} {sp : Option Addr} : AS.put ⟨x0 :: x1 :: x2 :: x3 :: x4 :: x5 :: x6 :: x7 :: x8 :: x9 :: x10 :: x11 :: x12 :: x13 :: x14 :: x15 :: x16 :: x17 :: x18 :: x19 :: x20 :: x21 :: x22 :: l, n, sp⟩ 22 y = ⟨x0 :: x1 :: x2 :: x3 :: x4 :: x5 :: x6 :: x7 :: x8 :: x9 :: x10 :: x11 :: x12 :: x13 :: x14 :: x15 :: x16 :: x17 :: x18 :: x19 :: x20 :: x21 :: y :: l, n, sp⟩ := rfl
theorem at_23 {x0 x1 x2 x3 x4 x5 x6 x7 x8 x9 x10 x11 x12 x13 x14 x15 x16 x17 x18 x19 x20 x21 x22 x23 : Sl} {l : List Sl} {n : Int} {sp : Option Addr} : AS.at ⟨x0 :: x1 :: x2 :: x3 :: x4 :: x5 :: x6 :: x7 :: x8 :: x9 :: x10 :: x11 :: x12 :: x13 :: x14 :: x15 :: x16 :: x17 :: x18 :: x19 :: x20 :: x21 :: x22 :: x23 :: l, n, sp⟩ 23 = x23 := rfl
theorem put_23 {x0 x1 x2 x3 x4 x5 x6 x7 x8 x9 x10 x11 x12 x13 x14 x15 x16 x17 x18 x19 x20 x21 x22 x23 y : Sl} {l : List Sl} {n : Int} {sp : Option Addr} : AS.put ⟨x0 :: x1 :: x2 :: x3 :: x4 :: x5 :: x6 :: x7 :: x8 :: x9 :: x10 :: x11 :: x12 :: x13 :: x14 :: x15 :: x16 :: x17 :: x18 :: x19 :: x20 :: x21 :: x22 :: x23 :: l, n, sp⟩ 23 y = ⟨x0 :: x1 :: x2 :: x3 :: x4 :: x5 :: x6 :: x7 :: x8 :: x9 :: x10 :: x11 :: x12 :: x13 :: x14 :: x15 :: x16 :: x17 :: x18 :: x19 :: x20 :: x21 :: x22 :: y :: l, n, sp⟩ := rfl
theorem at_24 {x0 x1 x2 x3 x4 x5 x6 x7 x8 x9 x10 x11 x12 x13 x14 x15 x16 x17 x18 x19 x20 x21 x22 x23 x24 : Sl} {l : List Sl} {n : Int} {sp : Option Addr} : AS.at ⟨x0 :: x1 :: x2 :: x3 :: x4 :: x5 :: x6 :: x7 :: x8 :: x9 :: x10 :: x11 :: x12 :: x13 :: x14 :: x15 :: x16 :: x17 :: x18 :: x19 :: x20 :: x21 :: x22 :: x23 :: x24 :: l, n, sp⟩ 24 = x24 := rfl
theorem put_24 {x0 x1 x2 x3 x4 x5 x6 x7 x8 x9 x10 x11 x12 x13 x14 x15 x16 x17 x18 x19 x20 x21 x22 x23 x24 y : Sl} {l : List Sl} {n : Int} {sp : Option Addr} : AS.put ⟨x0 :: x1 :: x2 :: x3 :: x4 :: x5 :: x6 :: x7 :: x8 :: x9 :: x10 :: x11 :: x12 :: x13 :: x14 :: x15 :: x16 :: x17 :: x18 :: x19 :: x20 :: x21 :: x22 :: x23 :: x24 :: l, n, sp⟩ 24 y = ⟨x0 :: x1 :: x2 :: x3 :: x4 :: x5 :: x6 :: x7 :: x8 :: x9 :: x10 :: x11 :: x12 :: x13 :: x14 :: x15 :: x16 :: x17 :: x18 :: x19 :: x20 :: x21 :: x22 :: x23 :: y :: l, n, sp⟩ := rfl
theorem at_25 {x0 x1 x2 x3 x4 x5 x6 x7 x8 x9 x10 x11 x12 x13 x14 x15 x16 x17 x18 x19 x20 x21 x22 x23 x24 x25 : Sl} {l : List Sl} {n : Int} {sp : Option Addr} : AS.at ⟨x0 :: x1 :: x2 :: x3 :: x4 :: x5 :: x6 :: x7 :: x8 :: x9 :: x10 :: x11 :: x12 :: x13 :: x14 :: x15 :: x16 :: x17 :: x18 :: x19 :: x20 :: x21 :: x22 :: x23 :: x24 :: x25 :: l, n, sp⟩ 25 = x25 := rfl
theorem put_25 {x0 x1 x2 x3 x4 x5 x6 x7 x8 x9 x10 x11 x12 x13 x14 x15 x16 x17 x18 x19 x20 x21 x22 x23 x24 x25 y : Sl} {l : List Sl} {n : Int} {sp : Option Addr} : AS.put ⟨x0 :: x1 :: x2 :: x3 :: x4 :: x5 :: x6 :: x7 :: x8 :: x9 :: x10 :: x11 :: x12 :: x13 :: x14 :: x15 :: x16 :: x17 :: x18 :: x19 :: x20 :: x21 :: x22 :: x23 :: x24 :: x25 :: l, n, sp⟩ 25 y = ⟨x0 :: x1 :: x2 :: x3 :: x4 :: x5 :: x6 :: x7 :: x8 :: x9 :: x10 :: x11 :: x12 :: x13 :: x14 :: x15 :: x16 :: x17 :: x18 :: x19 :: x20 :: x21 :: x22 :: x23 :: x24 :: y :: l, n, sp⟩ := rfl
theorem not_t : (!true) = false := rfl
theorem not_f : (!false) = true := rfl
theorem bIf_t (A C : Prop) : bIf true A C = A := rfl
theorem bIf_f (A C : Prop) : bIf false A C = C := rfl
theorem mapc {α β : Type} {f : α → β} {x : α} {l : List α} : (x :: l).map f = f x :: l.map f := rfl
theorem mapn {α β : Type} {f : α → β} : ([] : List α).map f = [] := rfl
theorem wipe_1 {a : AS} {i : Nat} : dWipe a [i] = a.put i .emp := rfl
theorem wipe_2 {a : AS} {i j : Nat} : dWipe a [i, j] = (a.put j .emp).put i .emp := rfl
theorem wipe_3 {a : AS} {i j k : Nat} : dWipe a [i, j, k] = ((a.put k .emp).put j .emp).put i .emp := rfl
theorem wipe_4 {a : AS} {i j k l : Nat} : dWipe a [i, j, k, l] = (((a.put l .emp).put k .emp).put j .emp).put i .emp := rfl
theorem wipe_5 {a : AS} {i j k l m : Nat} : dWipe a [i, j, k, l, m] = ((((a.put m .emp).put l .emp).put k .emp).put j .emp).put i .emp := rfl
/-- a comprehension that draws nothing and takes all -/
theorem lc_map {w : List Sl} {vs : List Nat} {dg : DGt} {dt : DTt} {de : DEt} {sp : Option Addr} {R : List D → Int → Prop} {items : List D} {n : Int} (g : D → D) (hl : items.length ≤ sizeLine)
    (h : ∀ d ∈ items, ∀ S : D → AS → Prop, (∀ a, (dWipe a vs).sl = w → a.n = n → S (g d) a) → dg d ⟨w, n, sp⟩ fun a1 => dt a1 fun b a2 => bIf b (de a2 S) False) (hR : R (items.map g) n)
    (mt : ∀ a (S S' : Bool → AS → Prop), (∀ b a, S b a → S' b a) → dt a S → dt a S') (mg : ∀ d a (S S' : AS → Prop), (∀ a, S a → S' a) → dg d a S → dg d a S') : dLcGo w vs dg dt de sp R items [] n := by
  refine dLc_inv (fun i acc n' => acc = (items.take i).map g ∧ n' = n) ⟨rfl, rfl⟩ (fun i d acc n' N hi ⟨h1, h2⟩ hN => ?_) fun acc n' ⟨h1, h2⟩ => ?_
  · subst h1 h2
    have hlt : i < items.length := (List.getElem?_eq_some_iff.mp hi).1
    refine mg _ _ _ _ (fun a1 q => mt _ _ _ (fun b a2 q => ?_) q) (h d (List.mem_of_getElem? hi) (fun x a3 => (dWipe a3 vs).sl = w ∧ ((items.take i).map g).length < sizeLine ∧ N ((items.take i).map g ++ [x]) a3.n) fun a e1 e2 => ⟨e1, ?_, hN _ _ ⟨?_, e2⟩⟩)
    · cases b with
      | true => exact q
      | false => exact q.elim
    · rw [List.length_map, List.length_take]
      omega
    · rw [take_more hi, List.map_append]
      rfl
  · subst h1 h2
    rw [List.take_length]
    exact hR
theorem lc_map1 {w : List Sl} {vs : List Nat} {i : Nat} {de : DEt} {sp : Option Addr} {R : List D → Int → Prop} {items : List D} {n : Int} (g : D → D) (hl : items.length ≤ sizeLine)
    (h : ∀ d ∈ items, ∀ S : D → AS → Prop, (∀ a, (dWipe a vs).sl = w → a.n = n → S (g d) a) → de (AS.put ⟨w, n, sp⟩ i (.val d)) S) (hR : R (items.map g) n) : dLcGo w vs (dgName i) (fun a R => R true a) de sp R items [] n :=
  lc_map g hl h hR (fun _ _ _ f q => f _ _ q) fun _ _ _ _ f q => f _ q
/-- the same with a test: those that p tells -/
theorem lc_filt1 {w : List Sl} {vs : List Nat} {i : Nat} {dt : DTt} {de : DEt} {sp : Option Addr} {R : List D → Int → Prop} {items : List D} {n : Int} (p : D → Bool) (g : D → D) (hl : items.length ≤ sizeLine)
    (h : ∀ d ∈ items, ∀ (S : D → AS → Prop) (S' : AS → Prop), (∀ a, (dWipe a vs).sl = w → a.n = n → p d = true → S (g d) a) → (∀ a, (dWipe a vs).sl = w → a.n = n → p d = false → S' a) → dt (AS.put ⟨w, n, sp⟩ i (.val d)) fun b a2 => bIf b (de a2 S) (S' a2)) (hR : R ((items.filter p).map g) n) : dLcGo w vs (dgName i) dt de sp R items [] n := by
  refine dLc_inv (fun i acc n' => acc = ((items.take i).filter p).map g ∧ n' = n) ⟨rfl, rfl⟩ (fun i d acc n' N hi ⟨h1, h2⟩ hN => ?_) fun acc n' ⟨h1, h2⟩ => ?_
  · subst h1 h2
    have hlt : i < items.length := (List.getElem?_eq_some_iff.mp hi).1
    refine h d (List.mem_of_getElem? hi) _ _ (fun a e1 e2 e3 => ⟨e1, ?_, hN _ _ ⟨?_, e2⟩⟩) fun a e1 e2 e3 => ⟨e1, hN _ _ ⟨?_, e2⟩⟩
    · rw [List.length_map]
      have := List.length_filter_le p (items.take i)
      rw [List.length_take] at this
      omega
    · rw [take_more hi, List.filter_append, List.map_append, List.filter_cons_of_pos e3]
      rfl
    · rw [take_more hi, List.filter_append, List.filter_cons_of_neg (by rw [e3]; exact Bool.false_ne_true)]
      simp
  · subst h1 h2
    rw [List.take_length]
    exact hR
/-- over coded things -/
theorem lc_mapc {α : Type} {f : α → D} {xs : List α} {w : List Sl} {vs : List Nat} {dg : DGt} {dt : DTt} {de : DEt} {sp : Option Addr} {R : List D → Int → Prop} {n : Int} (g : α → D) (hl : xs.length ≤ sizeLine)
    (h : ∀ x ∈ xs, ∀ S : D → AS → Prop, (∀ a, (dWipe a vs).sl = w → a.n = n → S (g x) a) → dg (f x) ⟨w, n, sp⟩ fun a1 => dt a1 fun b a2 => bIf b (de a2 S) False) (hR : R (xs.map g) n)
    (mt : ∀ a (S S' : Bool → AS → Prop), (∀ b a, S b a → S' b a) → dt a S → dt a S') (mg : ∀ d a (S S' : AS → Prop), (∀ a, S a → S' a) → dg d a S → dg d a S') : dLcGo w vs dg dt de sp R (xs.map f) [] n := by
  refine dLc_inv (fun i acc n' => acc = (xs.take i).map g ∧ n' = n) ⟨rfl, rfl⟩ (fun i d acc n' N hi ⟨h1, h2⟩ hN => ?_) fun acc n' ⟨h1, h2⟩ => ?_
  · subst h1 h2
    rw [List.getElem?_map] at hi
    obtain ⟨x, hx, rfl⟩ := Option.map_eq_some_iff.mp hi
    have hlt : i < xs.length := (List.getElem?_eq_some_iff.mp hx).1
    refine mg _ _ _ _ (fun a1 q => mt _ _ _ (fun b a2 q => ?_) q) (h x (List.mem_of_getElem? hx) (fun x a3 => (dWipe a3 vs).sl = w ∧ ((xs.take i).map g).length < sizeLine ∧ N ((xs.take i).map g ++ [x]) a3.n) fun a e1 e2 => ⟨e1, ?_, hN _ _ ⟨?_, e2⟩⟩)
    · cases b with
      | true => exact q
      | false => exact q.elim
    · rw [List.length_map, List.length_take]
      omega
    · rw [take_more hx, List.map_append]
      rfl
  · subst h1 h2
    rw [List.length_map, List.take_length]
    exact hR
theorem lc_mapc1 {α : Type} {f : α → D} {xs : List α} {w : List Sl} {vs : List Nat} {i : Nat} {de : DEt} {sp : Option Addr} {R : List D → Int → Prop} {n : Int} (g : α → D) (hl : xs.length ≤ sizeLine)
    (h : ∀ x ∈ xs, ∀ S : D → AS → Prop, (∀ a, (dWipe a vs).sl = w → a.n = n → S (g x) a) → de (AS.put ⟨w, n, sp⟩ i (.val (f x))) S) (hR : R (xs.map g) n) : dLcGo w vs (dgName i) (fun a R => R true a) de sp R (xs.map f) [] n :=
  lc_mapc g hl h hR (fun _ _ _ f q => f _ _ q) fun _ _ _ _ f q => f _ q
theorem lc_filtc1 {α : Type} {f : α → D} {xs : List α} {w : List Sl} {vs : List Nat} {i : Nat} {dt : DTt} {de : DEt} {sp : Option Addr} {R : List D → Int → Prop} {n : Int} (p : α → Bool) (g : α → D) (hl : xs.length ≤ sizeLine)
    (h : ∀ x ∈ xs, ∀ (S : D → AS → Prop) (S' : AS → Prop), (∀ a, (dWipe a vs).sl = w → a.n = n → p x = true → S (g x) a) → (∀ a, (dWipe a vs).sl = w → a.n = n → p x = false → S' a) → dt (AS.put ⟨w, n, sp⟩ i (.val (f x))) fun b a2 => bIf b (de a2 S) (S' a2)) (hR : R ((xs.filter p).map g) n) : dLcGo w vs (dgName i) dt de sp R (xs.map f) [] n := by
  refine dLc_inv (fun i acc n' => acc = ((xs.take i).filter p).map g ∧ n' = n) ⟨rfl, rfl⟩ (fun i d acc n' N hi ⟨h1, h2⟩ hN => ?_) fun acc n' ⟨h1, h2⟩ => ?_
  · subst h1 h2
    rw [List.getElem?_map] at hi
    obtain ⟨x, hx, rfl⟩ := Option.map_eq_some_iff.mp hi
    have hlt : i < xs.length := (List.getElem?_eq_some_iff.mp hx).1
    refine h x (List.mem_of_getElem? hx) _ _ (fun a e1 e2 e3 => ⟨e1, ?_, hN _ _ ⟨?_, e2⟩⟩) fun a e1 e2 e3 => ⟨e1, hN _ _ ⟨?_, e2⟩⟩
    · rw [List.length_map]
      have := List.length_filter_le p (xs.take i)
      rw [List.length_take] at this
      omega
    · rw [take_more hx, List.filter_append, List.map_append, List.filter_cons_of_pos e3]
      rfl
    · rw [take_more hx, List.filter_append, List.filter_cons_of_neg (by rw [e3]; exact Bool.false_ne_true)]
      simp
  · subst h1 h2
    rw [List.length_map, List.take_length]
    exact hR
theorem unB_map {α : Type} (f : α → Bool) : ∀ xs : List α, unB (xs.map fun x => D.v (V.bl (f x))) = some (xs.map f)
  | [] => rfl
  | x :: xs => by
    show (unB (xs.map fun x => D.v (V.bl (f x)))).map (f x :: ·) = _
    rw [unB_map f xs]
    rfl
/-- one statement, with what holds behind it -/
theorem cutI {t : DSt} {E : DEnds} {a : AS} {u : DSt} (Mid : AS → Prop) (h1 : t { E with nx := Mid } a) (h2 : ∀ a', Mid a' → u E a') : dCut t u E a := ⟨Mid, h1, h2⟩
theorem ty_non  : tyD (.v .non) = some .non := rfl
theorem ty_bl {b : Bool} : tyD (.v (.bl b)) = some .bl := rfl
theorem ty_int {i : Int} : tyD (.v (.int i)) = some .int := rfl
theorem ty_str {x : Str} : tyD (.v (.str x)) = some .str := rfl
theorem ty_lst {ds : List D} : tyD (.lst ds) = some .lst := rfl
theorem ty_tup {ds : List D} : tyD (.tup ds) = some .tup := rfl
theorem ty_ctup {ds : List D} : tyD (.ctup ds) = some .tup := rfl
theorem ty_ftup {ds : List D} : tyD (.ftup ds) = some .tup := rfl
theorem ty_dK {ks : List (Key × D)} : tyD (.dK ks) = some .dic := rfl
theorem ty_dT {ks : List (List Key × D)} : tyD (.dT ks) = some .dic := rfl
theorem sub_non_non : Ty.sub .non .non = true := rfl
theorem sub_non_bl : Ty.sub .non .bl = false := rfl
theorem sub_non_int : Ty.sub .non .int = false := rfl
theorem sub_non_str : Ty.sub .non .str = false := rfl
theorem sub_non_lst : Ty.sub .non .lst = false := rfl
theorem sub_non_tup : Ty.sub .non .tup = false := rfl
theorem sub_non_dic : Ty.sub .non .dic = false := rfl
theorem sub_bl_non : Ty.sub .bl .non = false := rfl
theorem sub_bl_bl : Ty.sub .bl .bl = true := rfl
theorem sub_bl_int : Ty.sub .bl .int = true := rfl
theorem sub_bl_str : Ty.sub .bl .str = false := rfl
theorem sub_bl_lst : Ty.sub .bl .lst = false := rfl
theorem sub_bl_tup : Ty.sub .bl .tup = false := rfl
theorem sub_bl_dic : Ty.sub .bl .dic = false := rfl
theorem sub_int_non : Ty.sub .int .non = false := rfl
theorem sub_int_bl : Ty.sub .int .bl = false := rfl
theorem sub_int_int : Ty.sub .int .int = true := rfl
theorem sub_int_str : Ty.sub .int .str = false := rfl
theorem sub_int_lst : Ty.sub .int .lst = false := rfl
theorem sub_int_tup : Ty.sub .int .tup = false := rfl
theorem sub_int_dic : Ty.sub .int .dic = false := rfl
theorem sub_str_non : Ty.sub .str .non = false := rfl
theorem sub_str_bl : Ty.sub .str .bl = false := rfl
theorem sub_str_int : Ty.sub .str .int = false := rfl
theorem sub_str_str : Ty.sub .str .str = true := rfl
theorem sub_str_lst : Ty.sub .str .lst = false := rfl
theorem sub_str_tup : Ty.sub .str .tup = false := rfl
theorem sub_str_dic : Ty.sub .str .dic = false := rfl
theorem sub_lst_non : Ty.sub .lst .non = false := rfl
theorem sub_lst_bl : Ty.sub .lst .bl = false := rfl
theorem sub_lst_int : Ty.sub .lst .int = false := rfl
theorem sub_lst_str : Ty.sub .lst .str = false := rfl
theorem sub_lst_lst : Ty.sub .lst .lst = true := rfl
theorem sub_lst_tup : Ty.sub .lst .tup = false := rfl
theorem sub_lst_dic : Ty.sub .lst .dic = false := rfl
theorem sub_tup_non : Ty.sub .tup .non = false := rfl
theorem sub_tup_bl : Ty.sub .tup .bl = false := rfl
theorem sub_tup_int : Ty.sub .tup .int = false := rfl
theorem sub_tup_str : Ty.sub .tup .str = false := rfl
theorem sub_tup_lst : Ty.sub .tup .lst = false := rfl
theorem sub_tup_tup : Ty.sub .tup .tup = true := rfl
theorem sub_tup_dic : Ty.sub .tup .dic = false := rfl
theorem sub_dic_non : Ty.sub .dic .non = false := rfl
theorem sub_dic_bl : Ty.sub .dic .bl = false := rfl
theorem sub_dic_int : Ty.sub .dic .int = false := rfl
theorem sub_dic_str : Ty.sub .dic .str = false := rfl
theorem sub_dic_lst : Ty.sub .dic .lst = false := rfl
theorem sub_dic_tup : Ty.sub .dic .tup = false := rfl
theorem sub_dic_dic : Ty.sub .dic .dic = true := rfl
theorem seq_lst {ds : List D} : seqD (.lst ds) = some ds := rfl
theorem seq_tup {ds : List D} : seqD (.tup ds) = some ds := rfl
theorem seq_ctup {ds : List D} : seqD (.ctup ds) = some ds := rfl
theorem seq_ftup {ds : List D} : seqD (.ftup ds) = some ds := rfl
theorem seq_non  : seqD (.v .non) = none := rfl
theorem seq_bl {b : Bool} : seqD (.v (.bl b)) = none := rfl
theorem seq_int {i : Int} : seqD (.v (.int i)) = none := rfl
theorem seq_str {x : Str} : seqD (.v (.str x)) = none := rfl
theorem seq_dK {ks : List (Key × D)} : seqD (.dK ks) = none := rfl
theorem seq_dT {ks : List (List Key × D)} : seqD (.dT ks) = none := rfl
theorem key_int {i : Int} : keyD (.v (.int i)) = some (.inl i) := rfl
theorem key_str {x : Str} : keyD (.v (.str x)) = some (.inr x) := rfl
theorem or_tt {b : Bool} : (true || b) = true := rfl
theorem or_ft {b : Bool} : (false || b) = b := rfl
theorem aI_1_0 {x0 : D} : atI [x0] 0 = some x0 := rfl
theorem aI_1_l {x0 : D} : atI [x0] (-1) = some x0 := rfl
theorem aI_2_0 {x0 x1 : D} : atI [x0, x1] 0 = some x0 := rfl
theorem aI_2_1 {x0 x1 : D} : atI [x0, x1] 1 = some x1 := rfl
theorem aI_2_l {x0 x1 : D} : atI [x0, x1] (-1) = some x1 := rfl
theorem aI_3_0 {x0 x1 x2 : D} : atI [x0, x1, x2] 0 = some x0 := rfl
theorem aI_3_1 {x0 x1 x2 : D} : atI [x0, x1, x2] 1 = some x1 := rfl
theorem aI_3_2 {x0 x1 x2 : D} : atI [x0, x1, x2] 2 = some x2 := rfl
theorem aI_3_l {x0 x1 x2 : D} : atI [x0, x1, x2] (-1) = some x2 := rfl
theorem aI_4_0 {x0 x1 x2 x3 : D} : atI [x0, x1, x2, x3] 0 = some x0 := rfl
theorem aI_4_1 {x0 x1 x2 x3 : D} : atI [x0, x1, x2, x3] 1 = some x1 := rfl
theorem aI_4_2 {x0 x1 x2 x3 : D} : atI [x0, x1, x2, x3] 2 = some x2 := rfl
theorem aI_4_3 {x0 x1 x2 x3 : D} : atI [x0, x1, x2, x3] 3 = some x3 := rfl
theorem aI_4_l {x0 x1 x2 x3 : D} : atI [x0, x1, x2, x3] (-1) = some x3 := rfl
theorem aI_5_0 {x0 x1 x2 x3 x4 : D} : atI [x0, x1, x2, x3, x4] 0 = some x0 := rfl
theorem aI_5_1 {x0 x1 x2 x3 x4 : D} : atI [x0, x1, x2, x3, x4] 1 = some x1 := rfl
theorem aI_5_2 {x0 x1 x2 x3 x4 : D} : atI [x0, x1, x2, x3, x4] 2 = some x2 := rfl
theorem aI_5_3 {x0 x1 x2 x3 x4 : D} : atI [x0, x1, x2, x3, x4] 3 = some x3 := rfl
theorem aI_5_4 {x0 x1 x2 x3 x4 : D} : atI [x0, x1, x2, x3, x4] 4 = some x4 := rfl
theorem aI_5_l {x0 x1 x2 x3 x4 : D} : atI [x0, x1, x2, x3, x4] (-1) = some x4 := rfl
theorem aI_6_0 {x0 x1 x2 x3 x4 x5 : D} : atI [x0, x1, x2, x3, x4, x5] 0 = some x0 := rfl
theorem aI_6_1 {x0 x1 x2 x3 x4 x5 : D} : atI [x0, x1, x2, x3, x4, x5] 1 = some x1 := rfl
theorem aI_6_2 {x0 x1 x2 x3 x4 x5 : D} : atI [x0, x1, x2, x3, x4, x5] 2 = some x2 := rfl
theorem aI_6_3 {x0 x1 x2 x3 x4 x5 : D} : atI [x0, x1, x2, x3, x4, x5] 3 = some x3 := rfl
theorem aI_6_4 {x0 x1 x2 x3 x4 x5 : D} : atI [x0, x1, x2, x3, x4, x5] 4 = some x4 := rfl
theorem aI_6_5 {x0 x1 x2 x3 x4 x5 : D} : atI [x0, x1, x2, x3, x4, x5] 5 = some x5 := rfl
theorem aI_6_l {x0 x1 x2 x3 x4 x5 : D} : atI [x0, x1, x2, x3, x4, x5] (-1) = some x5 := rfl
local macro_rules | `(tactic| walk_at "dr") => `(tactic| try dsimp only [dSeq, dPar, dPar3, dTry, dIfS, dOr, dAnd, dNot, dTest, dIsi, dIsi2, dVar, dVarB, dC, dOp, dI0, dI, dCB, dCons, dNil, dLen, dLc, wipe_1, wipe_2, wipe_3, wipe_4, wipe_5, mapc, mapn, dRet, dSet, dSetO, dNext, dAsg, dDrop, dTup, dLst, dIx, dFlat, isV, dIfE, dAndV, dOrV, dNotV, dChain, dgName, dgCons, dgNil, dgTup, dItSeq, dStr, dDisp, dpCons, dpNil, dEqB, dIsN, dCat, dRep, dListOf, dTupOf, dBs, dI1, dI2, dInt1, dDivmod, dTupD, dStrI, dInG, dIxG, dFld, dCall, dCall0, dCallF, dCallF0, dCallX, dCallX0, dCallXF0, dMeth, dMethX, dProp, dProp.isC, isI, dAug, dNeg, dUn, dEnum, dEnumB, dEnumS, dZip, dRng1, dRng2, dDGet, dDGet1, dDGet2, dDIn, dGetR, isDk, asB, nb, opt, bIf_t, bIf_f, not_t, not_f, Option.getD_some, Option.getD_none, List.lookup, dRaise, dRaise0, dFor, dgSeq, dDPut, dPutR, dOwn, dOwnE, mAppend, mExtend, mInsert, mPop, mPopAt, asL, dSetOwn, dSetIx, dDUpd, dDUpd.isOwnK, dDSetT, dDSetT.isOwnT, dFldO, dSlL, dSlS, dSlT, dPart, dNoPart, dJoin, dSplit, dCatTE, dDictZip, dIs, dSortS, dBool1, at_0, put_0, at_1, put_1, at_2, put_2, at_3, put_3, at_4, put_4, at_5, put_5, at_6, put_6, at_7, put_7, at_8, put_8, at_9, put_9, at_10, put_10, at_11, put_11, at_12, put_12, at_13, put_13, at_14, put_14, at_15, put_15, at_16, put_16, at_17, put_17, at_18, put_18, at_19, put_19, at_20, put_20, at_21, put_21, at_22, put_22, at_23, put_23, at_24, put_24, at_25, put_25, ty_non, ty_bl, ty_int, ty_str, ty_lst, ty_tup, ty_ctup, ty_ftup, ty_dK, ty_dT, sub_non_non, sub_non_bl, sub_non_int, sub_non_str, sub_non_lst, sub_non_tup, sub_non_dic, sub_bl_non, sub_bl_bl, sub_bl_int, sub_bl_str, sub_bl_lst, sub_bl_tup, sub_bl_dic, sub_int_non, sub_int_bl, sub_int_int, sub_int_str, sub_int_lst, sub_int_tup, sub_int_dic, sub_str_non, sub_str_bl, sub_str_int, sub_str_str, sub_str_lst, sub_str_tup, sub_str_dic, sub_lst_non, sub_lst_bl, sub_lst_int, sub_lst_str, sub_lst_lst, sub_lst_tup, sub_lst_dic, sub_tup_non, sub_tup_bl, sub_tup_int, sub_tup_str, sub_tup_lst, sub_tup_tup, sub_tup_dic, sub_dic_non, sub_dic_bl, sub_dic_int, sub_dic_str, sub_dic_lst, sub_dic_tup, sub_dic_dic, seq_non, seq_bl, seq_int, seq_str, seq_lst, seq_tup, seq_ctup, seq_ftup, seq_dK, seq_dT, key_int, key_str, or_tt, or_ft, aI_1_0, aI_1_l, aI_2_0, aI_2_1, aI_2_l, aI_3_0, aI_3_1, aI_3_2, aI_3_l, aI_4_0, aI_4_1, aI_4_2, aI_4_3, aI_4_l, aI_5_0, aI_5_1, aI_5_2, aI_5_3, aI_5_4, aI_5_l, aI_6_0, aI_6_1, aI_6_2, aI_6_3, aI_6_4, aI_6_5, aI_6_l])
--SPLIT
/-! ### sorted(d) over data, d a dict whose keys are triples of texts -/
section
variable {K : PySem.W.Frag} {ω : Wp} {B : Bs K} {F F' F1 F2 G : Hp} {a a' a1 a2 : AS} {σ σ' : St} {H H' H1 H2 : Hp} {n : Int} {ι : Type} {X : ι → Cx} {e e1 e2 o : Expr} {es : List Expr} {pos p p2 q : Pos} {dl : DAt}
/-- a tuple that stands somewhere may be taken as what does not change -/
theorem Go.imm (ok : Ok B F a σ H) {p : Addr} {o : HO} (h : H p = some o) (hi : Toy.imm o = true) : ∃ F', Go B σ F a H F' a H ∧ F' p = some o := by
  cases hF : F p with
  | some o' =>
    have := ok.fi.fh _ _ hF
    rw [h] at this
    cases this
    exact ⟨F, .refl ok, hF⟩
  | none =>
    have s1 : Same F (upd F p o) := Same.new hF
    refine ⟨upd F p o, ⟨⟨⟨fun b u e => ?_, ok.fi.ff.trans s1, fun b e => ?_, ok.fi.fm, fun q e => ?_⟩, ok.es, ok.len, fun i d e => ?_, fun i d e => ?_, ok.ds, ok.fx⟩, s1, fun b u _ e => e, fun b e => ?_, fun _ h => h⟩, upd_same⟩
    · by_cases z : b = p
      · subst z
        rw [upd_same] at e
        rw [h]
        exact e
      · rw [upd_ne z] at e
        exact ok.fi.fh _ _ e
    · by_cases z : b = p
      · subst z
        exact .inr (.inr ⟨o, upd_same, hi⟩)
      · rw [upd_ne z] at e
        exact (ok.fi.fr b e).imp id fun q => q.imp id fun q => q.mono s1
    · obtain ⟨x1, x2, x3⟩ := ok.fi.sr q e
      have z : q ≠ p := fun z => by
        obtain ⟨xs, w⟩ := x3.at
        rw [z, h] at w
        cases w
        cases hi
      exact ⟨by rw [upd_ne z]; exact x1, x2, x3⟩
    · obtain ⟨v, e1, e2⟩ := ok.va i d e
      exact ⟨v, e1, e2.mono s1⟩
    · obtain ⟨q, ho', e1, e2, e3, e4, e5⟩ := ok.ow i d e
      have z : q ≠ p := fun z => by
        rw [z, h] at e2
        cases e2
        rw [e5.imm] at hi
        cases hi
      exact ⟨q, ho', e1, e2, by rw [upd_ne z]; exact e3, e4, e5.mono s1⟩
    · by_cases z : b = p
      · subst z
        exact .inr (.inr (.inr ⟨o, upd_same, hi⟩))
      · rw [upd_ne z] at e
        exact .inl e
def t3D (t : Str × Str × Str) : D := .tup [.v (.str t.1), .v (.str t.2.1), .v (.str t.2.2)]
theorem Go.tups : ∀ {ds : List Addr} {ts : List (Str × Str × Str)} {F : Hp}, PySem.Paired (fun d t => H d = some (.tup ((k3 t).map kV))) ds ts → Ok B F a σ H → ∃ F', Go B σ F a H F' a H ∧ DatL K F' (ts.map t3D) (ds.map V.ref)
  | _, _, F, .nil, ok => ⟨F, .refl ok, rfl⟩
  | d :: ds, t :: ts, F, .cons hd hr, ok => by
    obtain ⟨F1, g1, h1⟩ := Go.imm ok hd rfl
    obtain ⟨F2, g2, h2⟩ := Go.tups hr g1.ok
    exact ⟨F2, .trans ok g1 g2, .cons ⟨d, _, rfl, g2.ff _ _ h1, .cons rfl (.cons rfl (.cons rfl .nil))⟩ h2⟩
theorem datT_keys {H : Hp} : ∀ {kvs : List (List Key × D)} {vs : List (List Key × V)}, DatT K H kvs vs → vs.map (·.1) = kvs.map (·.1) := fun h => pk_keys (datT_pk.mp h)
def dSortT3 (dl : DAt) : DEt := fun a R => dl a fun ds a' => match ds with
  | [.dT kvs] => ∃ ts : List (Str × Str × Str), kvs.map (·.1) = ts.map k3 ∧ ∀ ts' : List (Str × Str × Str), ts'.Perm ts → R (.lst (ts'.map t3D)) a'
  | _ => False
theorem do_sortT3 (hc : ∀ j, (X j).calm = true) (hu : ∀ j, (X j).A.units + 64 < cLine) (hg : ∀ j, Gl (X j) "sorted") (hm : ∀ j, (X j).mg "sorted" = none) (hv : bootBuiltins "sorted" = some (.builtin "sorted")) (ha : DAB X K ω [e] dl)
    (he : ∀ j, starEach [e] (X j).env = (false, eval e (X j).env) :: starEach [] (X j).env := by intro _; rfl) (hpl : ∀ j, (backTo pos (starEach [] (X j).env)).any (·.1) = false := by intro _; rfl) : DO X K ω (.Call (.Name "sorted" p) [e] [] pos) (dSortT3 dl) := by
  obtain ⟨t, h2, l2⟩ := ha
  refine ⟨tCB rSortedT3 t, fun j => pe_callB (call_sortedT3 (hc j) (hu j)) (hg j) (hm j) hv (h2 j) (by decide) (by decide) (he j) (hpl j), fun B hω F a σ H Q R ok hd k => l2 B hω F a σ H _ _ ok hd fun vs ds F1 a1 H1 g1 q1 r1 => ?_⟩
  split at r1
  · rename_i kvs
    obtain ⟨ts, hk, r1⟩ := r1
    obtain ⟨v, r, rfl, h1, h2⟩ := q1
    cases (show r = [] from h2)
    obtain ⟨q, ws, rfl, h3, h4⟩ := h1
    refine ⟨q, ws, ts, rfl, .inl (hs_same _ _ h3), (datT_keys h4).trans hk, fun ts' ds p pm pr hp => ?_⟩
    obtain ⟨F2, g2, q2⟩ := Go.tups pr g1.ok
    exact Go.list ok (.trans ok g1 g2) hp q2 (r1 ts' pm) k
  · exact r1.elim
end
/-! ### a comprehension whose step may raise, over data -/
section
variable {K : PySem.W.Frag} {ω : Wp} {B : Bs K} {F F' F1 F2 G : Hp} {a a' a1 a2 : AS} {σ σ' : St} {H H' H1 H2 : Hp} {n : Int} {de da db : DEt} {ι : Type} {X : ι → Cx} {e e1 e2 : Expr} {es : List Expr} {pos : Pos} {dl dm : DAt}
def noOwn (sl : List Sl) : Prop := ∀ s ∈ sl, ∀ d, s ≠ Sl.own d
def dLcX (W : DWt) (sf : Bool) (vs : List Nat) (i : Nat) (di : DAt) (de : Wp → DEt) : DEt := fun a R => di a fun items a' => noOwn a'.sl ∧ ∀ Wt : L2.WX, dLcGo (dWipe a' vs).sl vs (dgName i) (fun a R => R true a) (de ⟨Wt, fun C fs _ n => W C fs a'.sl n, fun _ => True, sf⟩) a'.sp (fun acc n => R (.lst acc) ⟨a'.sl, n, a'.sp⟩) items [] a'.n
theorem lo_lcX {wi : TI} {di : DAt} {vs : List Nat} {i : Nat} {te : L2.WX → TE} {de : Wp → DEt} (l1 : LI K ω wi di) (l4 : ∀ ω' : Wp, LE K ω' (te ω'.W) (de ω')) (hv : i ∈ vs) (hz : ω.sf = false ∨ 0 ∉ vs) : LO K ω (tLcX wi (gName i) te ω.W vs) (dLcX ω.dW ω.sf vs i di de) := fun B hω F a σ H Q R ok hd k => by
  refine l1 B hω F a σ H _ _ ok hd fun J items F0 a0 H0 g0 it hR => ?_
  intro D hD
  obtain ⟨noO, hR⟩ := hR
  obtain ⟨nF, n0, ns, nO⟩ := g0.ok.here hD
  have hz' : 0 ∈ vs → B.self = none := fun z => hz.elim hω.2.1 fun n => absurd z n
  have okb := g0.ok.wipe vs hz'
  have okw := okb.re
  have ew : dWipe a0 vs = ⟨(dWipe a0 vs).sl, a0.n, a0.sp⟩ := by rw [← dWipe_n a0 vs, ← dWipe_sp a0 vs]
  have nOw : ¬ OwnAt (dWipe a0 vs) (wipe σ vs) D := fun z => nO (own_wipe z)
  have hDne : ∀ {b : Addr} {o : HO}, H0 b = some o → b ≠ D := fun h z => by rw [z, hD] at h; cases h
  have hR := hR (fun cls d _ H => ω.W cls d σ H)
  have hω1 : WOk (K := K) ⟨B.sp, B.H0, F0, B.self⟩ ⟨fun cls d _ H => ω.W cls d σ H, fun C fs _ n => ω.dW C fs a0.sl n, fun _ => True, ω.sf⟩ := by
    refine ⟨trivial, hω.2.1, fun F a σ' H C dd fs ok x w => hω.2.2 F ⟨a0.sl, a.n, a0.sp⟩ σ H C dd fs ?_ x w⟩
    exact ⟨g0.ok.fi.un ok.fi, g0.ok.es, g0.ok.len, fun j d e => let ⟨v, e1, e2⟩ := g0.ok.va j d e; ⟨v, e1, e2.mono ok.fi.ff⟩, fun j d e => absurd rfl (noO _ (List.mem_of_getElem? e) d), fun j k p d e h1 _ _ _ => absurd rfl (noO _ (List.mem_of_getElem? h1) d), g0.ok.fx⟩
  have l5 := l4 ⟨fun cls d _ H => ω.W cls d σ H, fun C fs _ n => ω.dW C fs a0.sl n, fun _ => True, ω.sf⟩
  generalize de ⟨fun cls d _ H => ω.W cls d σ H, fun C fs _ n => ω.dW C fs a0.sl n, fun _ => True, ω.sf⟩ = dE at hR l5
  generalize ew' : (dWipe a0 vs).sl = w at *
  refine ⟨fun i' m H1 => ∃ F1 n1 acc ds, Go (K := K) ⟨B.sp, B.H0, F0, B.self⟩ (wipe σ vs) F0 (dWipe a0 vs) H0 F1 ⟨w, n1, a0.sp⟩ H1 ∧ F1 D = none ∧ H1 D = some (.lst acc) ∧ DatL K F1 ds acc ∧ i' ≤ items.length ∧ m = items.length - i' ∧ dLcGo w vs (dgName i) (fun a R => R true a) dE a0.sp (fun acc n => R (.lst acc) ⟨a0.sl, n, a0.sp⟩) (items.drop i') ds n1,
    ⟨_, F0, a0.n, [], [], by rw [← ew]; exact okw.newO hD, nF, upd_same, rfl, Nat.zero_le _, rfl, hR⟩, ?_⟩
  rintro i' m H1 ⟨F1, n1, acc, ds, g1, f1, h1, q1, hi, rfl, hl⟩
  by_cases hlt : i' < items.length
  · have e : items[i']? = some items[i'] := List.getElem?_eq_getElem hlt
    rw [List.drop_eq_getElem_cons hlt] at hl
    refine .inr ⟨((it i' F1 H1 g1.ff g1.ok.fi.fh).2 _ e).1, fun H9 => ∃ m', m' < items.length - i' ∧ ∃ F1 n1 acc ds, Go (K := K) ⟨B.sp, B.H0, F0, B.self⟩ (wipe σ vs) F0 (dWipe a0 vs) H0 F1 ⟨w, n1, a0.sp⟩ H9 ∧ F1 D = none ∧ H9 D = some (.lst acc) ∧ DatL K F1 ds acc ∧ i' + 1 ≤ items.length ∧ m' = items.length - (i' + 1) ∧ dLcGo w vs (dgName i) (fun a R => R true a) dE a0.sp (fun acc n => R (.lst acc) ⟨a0.sl, n, a0.sp⟩) (items.drop (i' + 1)) ds n1, fun H9 z => z, fun x H2 y => ?_⟩
    obtain ⟨F2, g2, q2⟩ := it.turn g1.ok g1.ff e y
    have s3 := g2.ok.putV (i := i) (fun z => hz' (z ▸ hv)) q2
    have es : wipe ((wipe σ vs).set i (some x)) vs = wipe σ vs := wipe_ext (by rw [List.length_set, wipe_length]) fun j hj => by rw [List.getElem?_set_ne (fun z : i = j => hj (by rw [← z]; exact hv)), wipe_out hj]
    show wipe ((wipe σ vs).set i (some x)) vs = wipe σ vs ∧ _
    generalize (wipe σ vs).set i (some x) = σ3 at s3 es
    -- a way within the turn, seen from the wiped state
    have back : ∀ {F5 a5 H5}, Go (K := K) ⟨B.sp, B.H0, F0, B.self⟩ σ3 F2 (AS.put ⟨w, n1, a0.sp⟩ i (.val items[i'])) H2 F5 a5 H5 → (dWipe a5 vs).sl = w → Go (K := K) ⟨B.sp, B.H0, F0, B.self⟩ (wipe σ vs) F1 ⟨w, n1, a0.sp⟩ H1 F5 ⟨w, a5.n, a0.sp⟩ H5 := fun {F5 a5 H5} g5 ew5 => by
      have o5 := g5.ok.wipe vs hz'
      have e5 : dWipe a5 vs = ⟨w, a5.n, a0.sp⟩ := by rw [← ew5, ← dWipe_n a5 vs, g0.ok.es, ← (show a5.sp = B.sp from g5.ok.es), ← dWipe_sp a5 vs]
      rw [es, e5] at o5
      have g2' : Go (K := K) ⟨B.sp, B.H0, F0, B.self⟩ (wipe σ vs) F2 ⟨w, n1, a0.sp⟩ H2 F5 ⟨w, a5.n, a0.sp⟩ H5 := ⟨o5, g5.ff, g5.hh, fun b z => (g5.fr b z).imp id fun z => z.imp id fun z => z.imp (s3.oo b) id, fun b z => s3.oo b (g5.oo b (own_wipe (vs := vs) (by rw [es, e5]; exact z)))⟩
      exact .trans g1.ok g2 g2'
    have still : ∀ {F5 n5 H5}, Go (K := K) ⟨B.sp, B.H0, F0, B.self⟩ (wipe σ vs) F1 ⟨w, n1, a0.sp⟩ H1 F5 ⟨w, n5, a0.sp⟩ H5 → F5 D = none ∧ H5 D = some (.lst acc) := fun {F5 n5 H5} g5 => by
      refine ⟨?_, g5.hh D _ ns h1⟩
      cases q : F5 D with
      | none => rfl
      | some u =>
        rcases g5.fr D (by rw [q]; exact fun z => (nomatch z)) with z | z | z | ⟨o', w1, w2⟩
        · exact absurd f1 z
        · rw [h1] at z
          cases z
        · exact absurd (g1.oo D z) nOw
        · have z := g5.hh D _ ns h1
          rw [g5.ok.fi.fh D o' w1] at z
          cases z
          cases w2
    refine ⟨es, l5 _ hω1 F2 _ σ3 H2 _ _ s3.ok hl fun v d F5 a5 H5 g5 q5 hR => ?_⟩
    obtain ⟨ew5, hz, hR⟩ := hR
    have g15 := back g5 ew5
    obtain ⟨f5, h5⟩ := still g15
    refine ⟨acc, h5, by rw [q1.len]; exact hz, items.length - (i' + 1), by omega, F5, a5.n, acc ++ [v], ds ++ [d], ?_, f5, upd_same, (q1.mono g15.ff).app (.cons q5 .nil), hlt, rfl, hR⟩
    have g05 := Go.trans okw g1 g15
    have nO5 : ¬ OwnAt ⟨w, a5.n, a0.sp⟩ (wipe σ vs) D := fun z => nOw (g05.oo D z)
    exact ⟨g05.ok.ext f5 n0 ns nO5, g05.ff, fun b o hb h => by rw [upd_ne (hDne h)]; exact g05.hh b o hb h, g05.fr, g05.oo⟩
  · have e : i' = items.length := by omega
    subst e
    rw [List.drop_length] at hl
    refine .inl ⟨(it _ F1 H1 g1.ff g1.ok.fi.fh).1 (Nat.le_refl _), ?_⟩
    subst ew'
    have gB : Go B (wipe σ vs) F0 (dWipe a0 vs) H0 F1 ⟨(dWipe a0 vs).sl, n1, a0.sp⟩ H1 := ⟨okb.un g1.ok, g1.ff, g1.hh, g1.fr, g1.oo⟩
    have gu := unwipe g0.ok gB
    have hH : H D = none := by
      cases q : H D with
      | none => rfl
      | some o =>
        rw [g0.hh D o ns q] at hD
        cases hD
    exact k D _ (.lst ds) F1 _ H1 (.trans ok g0 gu) hH f1 h1 ⟨acc, rfl, q1⟩ hl
/-- the family of its blocks -/
def blkXF (X : ι → Cx) (scope : Scope) (W : L2.WX) : (ι × Shared × Hp × Addr × List (Str × Addr) × List Addr) → Cx := fun q => (X q.1).blkX q.2.1 q.2.2.1 scope (compEnvC scope q.2.2.2.2.1 q.2.2.2.1 (X q.1).env) q.2.2.2.2.2 W
theorem do_lcX {elt iter : Expr} {x : Str} {px : Pos} {scope : Scope} {own : List (Str × Nat)} {i : Nat} {di : DAt} {de : Wp → DEt} (hc : ∀ j, (X j).calm = true) (hN : ∀ j, (X j).N.Nodup) (hst : ∀ j, (X j).stack = (X j).env :: (X j).outer) (hf : ∀ j, (X j).env.frame = some (X j).env.locals) (tk : ∀ j, L2.Takes (X j) ω.W) (hi : DI X K ω (.Name x px) iter di) (ok : ∀ j, BlkOk (X j).N (X j).env.scope scope own)
    (hg : ∀ (W : L2.WX) q, PG (blkXF X scope W q) (.Name x px) (gName i)) (he : ∀ ω' : Wp, DX (blkXF X scope ω'.W) K ω' elt (de ω')) (hw : i ∈ own.map (·.2) := by decide) (hs : ∀ j x, foldedSetIterable iter (X j).env x = pure x := by intro _ _; rfl) (hz : ω.sf = false ∨ 0 ∉ own.map (·.2) := by first | exact Or.inl rfl | exact Or.inr (by decide)) :
    DO X K ω (.ListComp elt [⟨.Name x px, iter, [], 0⟩] scope pos) (dLcX ω.dW ω.sf (own.map (·.2)) i di de) := by
  obtain ⟨wi, p1, l1⟩ := hi
  refine ⟨tLcX wi (gName i) (fun W σ H Q => ∃ t, (∀ q, PE (blkXF X scope W q) elt t) ∧ t σ H Q) ω.W (own.map (·.2)), fun j => pe_lcX (hc j) (hN j) (hst j) (hf j) (tk j) (p1 j) (ok j) (fun s H C cl fp W => hg W (j, s, H, C, cl, fp)) (fun s H C cl fp W => ⟨fun pins s1 σ H1 Q I ⟨t, ht, hd⟩ => (ht (j, s, H, C, cl, fp)).run pins s1 σ H1 Q I hd⟩) (hs j), lo_lcX l1 (fun ω' => ?_) hw hz⟩
  obtain ⟨t, p, l⟩ := he ω'
  exact fun B hω F a σ H Q R ok hd k => ⟨t, p, l B hω F a σ H Q R ok hd k⟩
section
variable {k : Nat} {f : Addr} {fd : FuncData} {ps : List Str} {s : Sp} {dsp : DSpX} {x : Str} {p : Pos}
/-- a call that may raise, in such a block -/
theorem de_callXB0 (m : MonX dsp) (u : UpsX K s dsp) (G : ∀ j, FnOk (X j).prog (X j).w (X j).K (X j).mg (X j).base (L2.CX (X j).prog (X j).w) k f fd ps s) (hr : ∀ j, Room k (X j).A) (hg : ∀ j, Gl (X j) x) (hm : ∀ j, (X j).mg x = some (.ref f)) (hk : ∀ j, PySem.W.keepIn (X j).K (.ref f) = true) (hb : ∀ j, Binds (X j).K fd ps []) (tk : ∀ j, L2.TakesF (X j) ω.W) (ha : DAE X K ω (e :: es) dl)
    (hdb : (x == ("__debug__" : Str)) = false := by decide) (he : ∀ j, starEach (e :: es) (X j).env = (false, eval e (X j).env) :: starEach es (X j).env := by intro _; rfl) (hpl : ∀ j, (backTo pos (starEach es (X j).env)).any (·.1) = false := by intro _; rfl) : DX X K ω (.Call (.Name x p) (e :: es) [] pos) (dCallX0 ω.dW dsp dl) := by
  obtain ⟨t, h, l⟩ := ha
  exact ⟨_, fun j => pe_callS (G j) (hr j) (hg j) (hm j) (hk j) (hb j) (L2.passAtF (tk j)) (h j) hdb (he j) (hpl j), le_callX0 m u l⟩
end
end
/-! ### n & 1 -/
section
variable {K : PySem.W.Frag} {ω : Wp} {ι : Type} {X : ι → Cx}
def dOdd : DR := fun d e R => match d, e with
  | .v (.int i), .v (.int j) => 0 ≤ i ∧ j = 1 ∧ R (.v (.int (i % 2)))
  | _, _ => False
theorem dop_odd : DOpR X K ω (binaryOp .BitAnd) dOdd := ⟨_, fun _ => op_odd, lr_flat fun d e R h => by
  unfold dOdd at h
  split at h
  · rename_i i j
    obtain ⟨h0, rfl, h⟩ := h
    obtain ⟨n, rfl⟩ : ∃ n : Nat, i = n := ⟨i.toNat, by omega⟩
    exact ⟨_, _, _, rfl, rfl, h, fun H Q q => ⟨n, rfl, rfl, by rw [show ((n % 2 : Nat) : Int) = (n : Int) % 2 from rfl]; exact q⟩⟩
  · exact h.elim⟩
end
def top (i : Nat) : Stmt := PySem.Challenge.pw_nearloops_k51_bad_tables.main.body.getD i (.Pass ⟨0, 0, 0, 0⟩)
def c_SIGNS : List V := [.str "<", .str "=", .str ">"]
def c_LONE_GAPS : List V := [.str "none", .str "first", .str "second"]
abbrev s_is_name : Stmt := top 5
abbrev s_checked_states : Stmt := top 9
abbrev s_checked_levels : Stmt := top 10
abbrev s_checked_period : Stmt := top 11
abbrev s_Table__init : Stmt := inClass (top 12) 0
abbrev s_law_source : Stmt := top 14
abbrev s_law_draw : Stmt := top 15
abbrev s_law_pick : Stmt := top 16
abbrev s_law_told : Stmt := top 17
abbrev s_law : Stmt := top 18
theorem sc_is_name : FnScope ["thing", "letter"] ["thing"] (defScope s_is_name) := ⟨rfl, rfl, rfl, by decide +kernel, rfl, by decide +kernel, by decide +kernel⟩
theorem sc_checked_states : FnScope ["things", "words", "states", "thing"] ["things", "words"] (defScope s_checked_states) := ⟨rfl, rfl, rfl, by decide +kernel, rfl, by decide +kernel, by decide +kernel⟩
theorem sc_checked_levels : FnScope ["things", "thing"] ["things"] (defScope s_checked_levels) := ⟨rfl, rfl, rfl, by decide +kernel, rfl, by decide +kernel, by decide +kernel⟩
theorem sc_checked_period : FnScope ["thing", "most"] ["thing", "most"] (defScope s_checked_period) := ⟨rfl, rfl, rfl, by decide +kernel, rfl, by decide +kernel, by decide +kernel⟩
theorem sc_Table__init : FnScope ["self", "alone", "levels", "below", "above", "checked_alone", "checked_levels", "most", "checked_below", "checked_above"] ["self", "alone", "levels", "below", "above"] (defScope s_Table__init) := ⟨rfl, rfl, rfl, by decide +kernel, rfl, by decide +kernel, by decide +kernel⟩
theorem sc_law_source : FnScope ["_law_script", "_law_great", "_law_seed", "_law_cell"] ["_law_script"] (defScope s_law_source) := ⟨rfl, rfl, rfl, by decide +kernel, rfl, by decide +kernel, by decide +kernel⟩
theorem sc_law_draw : FnScope ["_law_source_here", "_law_many", "_law_digit", "_law_mixed"] ["_law_source_here", "_law_many"] (defScope s_law_draw) := ⟨rfl, rfl, rfl, by decide +kernel, rfl, by decide +kernel, by decide +kernel⟩
theorem sc_law_pick : FnScope ["_law_source_here", "_law_things"] ["_law_source_here", "_law_things"] (defScope s_law_pick) := ⟨rfl, rfl, rfl, by decide +kernel, rfl, by decide +kernel, by decide +kernel⟩
theorem sc_law_told : FnScope ["_law_alone", "_law_levels", "_law_below", "_law_above", "_law_found"] ["_law_alone", "_law_levels", "_law_below", "_law_above"] (defScope s_law_told) := ⟨rfl, rfl, rfl, by decide +kernel, rfl, by decide +kernel, by decide +kernel⟩
theorem sc_law : FnScope ["_law_script", "_law_source_here", "_law_alone", "_law_most", "_law_levels", "_law_odd_alone", "_law_odd_levels", "_law_odd", "_law_k"] ["_law_script"] (defScope s_law) := ⟨rfl, rfl, rfl, by decide +kernel, rfl, by decide +kernel, by decide +kernel⟩

/-! ### _law_pick, _law_name -/
theorem sql_but {K : PySem.W.Frag} {H H' : Hp} {p l : Addr} {xs : List V} (h : SqL K H l xs) (e : But p H H') (n : l ≠ p) : SqL K H' l xs := by
  rcases h with (h | ⟨o, h⟩) | h
  · exact .inl (.inl (e _ _ n h))
  · exact .inl (.inr ⟨o, e _ _ n h⟩)
  · exact .inr h
theorem but_new {p q : Addr} {H H' : Hp} {o : HO} (a : But p H H') (h : H q = none) : But p H (upd H' q o) := fun c u n z => by
  rw [upd_ne (fun e => by rw [e, h] at z; cases z)]
  exact a c u n z
theorem but_free {p q : Addr} {H H' : Hp} (a : But p H H') (n : q ≠ p) (h : H' q = none) : H q = none := by
  cases e : H q with
  | none => rfl
  | some o =>
    rw [a q o n e] at h
    cases h
theorem at_any {α : Type} {xs : List α} {j : Nat} {x : α} (h : xs[j]? = some x) : atI xs (j : Int) = some x := by
  have hj : j < xs.length := (List.getElem?_eq_some_iff.mp h).1
  unfold atI ixN
  rw [if_pos (by omega : (0 : Int) ≤ j), if_pos (by omega : (j : Int) < xs.length)]
  exact h
def spPick (K : PySem.W.Frag) : Sp := fun vs H Q _ => ∃ (p l : Addr) (xs : List V) (n : Int), vs = [.ref p, .ref l] ∧ Src H p n ∧ n < 1000000 ∧ l ≠ p ∧ SqL K H l xs ∧ 0 < xs.length ∧ xs.length ≤ 1000 ∧
  ∀ (j : Nat) (v : V) (H' : Hp), xs[j]? = some v → But p H H' → Src H' p (n + 1) → Q v H'
/-- a name of at most eight small letters -/
def one (c : Nat) : Str := ⟨#[c]⟩
def small (c : Nat) : Prop := 97 ≤ c ∧ c ≤ 122
structure IsName (z : Str) : Prop where
  pos : 1 ≤ z.cps.size
  len : z.cps.size ≤ 8
  low : ∀ c ∈ z.cps.toList, small c
theorem IsName.ok {z : Str} (h : IsName z) : PyData.strOk z = true := by
  show z.cps.all (· < 0x110000) = true
  rw [← Array.all_toList, List.all_eq_true]
  intro c hc
  have := (h.low c hc).2
  exact decide_eq_true (by omega)
theorem join_ones : ∀ cs : List Nat, Txt.join (Str.ofString "") (cs.map one) = ⟨cs.toArray⟩ := fun cs => by
  rw [TL.join_eq]
  have e : ∀ l : List Nat, TL.tl (Str.join (Str.ofString "") (l.map one)) = l := fun l => by
    rw [TL.tl_join, show TL.tl (Str.ofString "") = [] by decide +kernel]
    induction l with
    | nil => rfl
    | cons a r ih =>
      cases r with
      | nil => rfl
      | cons b r =>
        rw [List.map_cons, List.map_cons, List.map_cons, List.map_cons, TL.joinL]
        rw [List.map_cons, List.map_cons] at ih
        rw [List.nil_append, ih]
        rfl
  have q := e cs
  show (Str.join (Str.ofString "") (cs.map one)) = ⟨cs.toArray⟩
  have h : (Str.join (Str.ofString "") (cs.map one)).cps.toList = cs := q
  generalize Str.join (Str.ofString "") (cs.map one) = z at h
  obtain ⟨a⟩ := z
  obtain ⟨l⟩ := a
  have h' : l = cs := h
  rw [h']
theorem name_of {cs : List Nat} (h1 : 1 ≤ cs.length) (h8 : cs.length ≤ 8) (hl : ∀ c ∈ cs, small c) : IsName ⟨cs.toArray⟩ := ⟨by simpa using h1, by simpa using h8, by simpa using hl⟩
theorem name_q {z : Str} (h : IsName z) : IsName (Str.ofString "q" ++ cutS z (some 1) none) := by
  have hl := cutS_length z (some 1) none
  have e : (Str.ofString "q" ++ cutS z (some 1) none).cps = #[113] ++ (cutS z (some 1) none).cps := by
    show (Str.ofString "q").cps ++ _ = _
    rw [show (Str.ofString "q").cps = #[113] by decide +kernel]
  have hz : (cutS z (some 1) none).cps.size ≤ z.cps.size - 1 := by
    show (((z.cps.toList.drop (HT.sIx z.length 0 (some 1))).take (HT.sIx z.length z.length none - HT.sIx z.length 0 (some 1))).toArray).size ≤ _
    have p := h.pos
    have e1 : HT.sIx z.length 0 (some 1) = 1 := by
      show HT.sIx z.cps.size 0 (some 1) = 1
      unfold HT.sIx
      simp
      omega
    rw [e1, List.size_toArray, List.length_take, List.length_drop, Array.length_toList]
    omega
  have p := h.pos
  have p8 := h.len
  refine ⟨?_, ?_, ?_⟩
  · rw [e, Array.size_append]
    show 1 ≤ 1 + _
    omega
  · rw [e, Array.size_append]
    show 1 + _ ≤ 8
    omega
  · intro c hc
    rw [e, Array.toList_append] at hc
    rcases List.mem_append.mp hc with q | q
    · have : c = 113 := by simpa using q
      subst this
      exact ⟨by decide, by decide⟩
    · refine h.low c ?_
      have q' : c ∈ (((z.cps.toList.drop (HT.sIx z.length 0 (some 1))).take (HT.sIx z.length z.length none - HT.sIx z.length 0 (some 1))).toArray).toList := q
      rw [List.toList_toArray] at q'
      exact List.mem_of_mem_drop (List.mem_of_mem_take q')
/-- the names that are taken where all else is: z and one of seventeen letters -/
def zName (c : Nat) : Str := Str.ofString "z" ++ one c
theorem zName_is {c : Nat} (h : small c) : IsName (zName c) := by
  have e : (zName c).cps = #[122] ++ #[c] := by
    show (Str.ofString "z").cps ++ _ = _
    rw [show (Str.ofString "z").cps = #[122] by decide +kernel]
    rfl
  refine ⟨by rw [e]; exact (by omega : 1 ≤ 2), by rw [e]; exact (by omega : 2 ≤ 8), ?_⟩
  intro d hd
  rw [e] at hd
  have hd' : d = 122 ∨ d = c := by simpa using hd
  rcases hd' with rfl | rfl
  · exact ⟨by decide, by decide⟩
  · exact h
def zNames (i : Nat) : List Str := (List.range i).map fun k => zName (97 + k)
theorem zNames_more (i : Nat) : zNames (i + 1) = zNames i ++ [zName (97 + i)] := by
  unfold zNames
  rw [List.range_succ, List.map_append]
  rfl
theorem zNames_is {z : Str} (h : z ∈ zNames 17) : IsName z := by
  obtain ⟨k, hk, rfl⟩ := List.mem_map.mp h
  have := List.mem_range.mp hk
  exact zName_is ⟨by omega, by omega⟩
theorem zNames_has {c : Nat} (h1 : 97 ≤ c) (h2 : c ≤ 113) : zName c ∈ zNames 17 := List.mem_map.mpr ⟨c - 97, List.mem_range.mpr (by omega), by rw [show 97 + (c - 97) = c by omega]⟩
def spName (K : PySem.W.Frag) : Sp := fun vs H Q _ => ∃ (p l : Addr) (tk : List Str) (n : Int), vs = [.ref p, .ref l] ∧ Src H p n ∧ n < 900000 ∧ l ≠ p ∧ SqL K H l (tk.map V.str) ∧ (∃ c : Nat, 97 ≤ c ∧ c ≤ 113 ∧ zName c ∉ tk) ∧
  ∀ (z : Str) (H' : Hp), IsName z → z ∉ tk → But p H H' → Src H' p (n + 10) → Q (.str z) H'
/-! ### is_name -/
def nameB (z : Str) : Bool := decide (1 ≤ z.cps.size) && decide (z.cps.size ≤ 8) && z.cps.toList.all fun c => decide (c ∈ (Str.ofString "abcdefghijklmnopqrstuvwxyz").cps.toList)
theorem lettersC : (Str.ofString "abcdefghijklmnopqrstuvwxyz").cps.toList = (List.range 26).map (97 + ·) := by decide +kernel
theorem letter_small {c : Nat} : c ∈ (Str.ofString "abcdefghijklmnopqrstuvwxyz").cps.toList ↔ small c := by
  rw [lettersC, List.mem_map]
  constructor
  · rintro ⟨k, hk, rfl⟩
    have := List.mem_range.mp hk
    exact ⟨by omega, by omega⟩
  · intro h
    exact ⟨c - 97, List.mem_range.mpr (by have := h.2; have := h.1; omega), by have := h.1; omega⟩
theorem nameB_iff {z : Str} : nameB z = true ↔ IsName z := by
  unfold nameB
  rw [Bool.and_eq_true, Bool.and_eq_true, decide_eq_true_eq, decide_eq_true_eq, List.all_eq_true]
  constructor
  · rintro ⟨⟨h1, h2⟩, h3⟩
    exact ⟨h1, h2, fun c hc => letter_small.mp (of_decide_eq_true (h3 c hc))⟩
  · intro h
    exact ⟨⟨h.pos, h.len⟩, fun c hc => decide_eq_true (letter_small.mpr (h.low c hc))⟩
def spIsName (K : PySem.W.Frag) : Sp := fun vs H Q _ => ∃ v : V, vs = [v] ∧ ((∃ z : Str, v = .str z ∧ z.length ≤ sizeLine ∧ ∀ H', Same H H' → Q (.bl (nameB z)) H') ∨ (∃ t : String, TyX K H v (.type t) ∧ kitB t "str" = some false) ∧ Q (.bl false) H)
/-- what the top has written: each def at its address, the built-ins not hidden -/
structure Txt (P : Program) (w : World) (K : PySem.W.Frag) (mg : Str → Option Value) where
  C_Table : Addr
  m_Table : mg "Table" = some (.ref C_Table)
  cl_Table : Cls K C_Table
  na_Table_alone : NoAttr K C_Table "_alone"
  na_Table_levels : NoAttr K C_Table "_levels"
  na_Table_below : NoAttr K C_Table "_below"
  na_Table_above : NoAttr K C_Table "_above"
  f_Table__init : Addr
  d_Table__init : FuncData
  F_Table__init : Fun K "__init__" "Table.__init__" s_Table__init f_Table__init d_Table__init
  b_Table__init : Binds K d_Table__init ["self", "alone", "levels", "below", "above"] []
  mk_Table : Mk K C_Table f_Table__init
  t_LETTERS : Tok
  m_LETTERS : mg "LETTERS" = some (.str "abcdefghijklmnopqrstuvwxyz" t_LETTERS)
  f_is_name : Addr
  d_is_name : FuncData
  F_is_name : Fun K "is_name" "is_name" s_is_name f_is_name d_is_name
  b_is_name : Binds K d_is_name ["thing"] []
  m_is_name : mg "is_name" = some (.ref f_is_name)
  f_checked_states : Addr
  d_checked_states : FuncData
  F_checked_states : Fun K "_checked_states" "_checked_states" s_checked_states f_checked_states d_checked_states
  b_checked_states : Binds K d_checked_states ["things", "words"] []
  m_checked_states : mg "_checked_states" = some (.ref f_checked_states)
  f_checked_levels : Addr
  d_checked_levels : FuncData
  F_checked_levels : Fun K "_checked_levels" "_checked_levels" s_checked_levels f_checked_levels d_checked_levels
  b_checked_levels : Binds K d_checked_levels ["things"] []
  m_checked_levels : mg "_checked_levels" = some (.ref f_checked_levels)
  f_checked_period : Addr
  d_checked_period : FuncData
  F_checked_period : Fun K "_checked_period" "_checked_period" s_checked_period f_checked_period d_checked_period
  b_checked_period : Binds K d_checked_period ["thing", "most"] []
  m_checked_period : mg "_checked_period" = some (.ref f_checked_period)
  f_law_source : Addr
  d_law_source : FuncData
  F_law_source : Fun K "_law_source" "_law_source" s_law_source f_law_source d_law_source
  b_law_source : Binds K d_law_source ["_law_script"] []
  m_law_source : mg "_law_source" = some (.ref f_law_source)
  f_law_draw : Addr
  d_law_draw : FuncData
  F_law_draw : Fun K "_law_draw" "_law_draw" s_law_draw f_law_draw d_law_draw
  b_law_draw : Binds K d_law_draw ["_law_source_here", "_law_many"] []
  m_law_draw : mg "_law_draw" = some (.ref f_law_draw)
  f_law_pick : Addr
  d_law_pick : FuncData
  F_law_pick : Fun K "_law_pick" "_law_pick" s_law_pick f_law_pick d_law_pick
  b_law_pick : Binds K d_law_pick ["_law_source_here", "_law_things"] []
  m_law_pick : mg "_law_pick" = some (.ref f_law_pick)
  f_law_told : Addr
  d_law_told : FuncData
  F_law_told : Fun K "_law_told" "_law_told" s_law_told f_law_told d_law_told
  b_law_told : Binds K d_law_told ["_law_alone", "_law_levels", "_law_below", "_law_above"] []
  m_law_told : mg "_law_told" = some (.ref f_law_told)
  f_law : Addr
  d_law : FuncData
  F_law : Fun K "law" "law" s_law f_law d_law
  b_law : Binds K d_law ["_law_script"] []
  m_law : mg "law" = some (.ref f_law)
  m_int : mg "int" = none
  m_str : mg "str" = none
  m_bool : mg "bool" = none
  m_range : mg "range" = none
  m_len : mg "len" = none
  m_isinstance : mg "isinstance" = none
  m_all : mg "all" = none
  m_list : mg "list" = none
  m_tuple : mg "tuple" = none
  m_sorted : mg "sorted" = none
  a_SIGNS : Addr
  q_SIGNS : ∀ H : Hp, SqT K H a_SIGNS c_SIGNS
  o_SIGNS : ∃ o, K.lookup a_SIGNS = some o ∧ o.cls = .type "tuple" ∧ o.dict = none
  m_SIGNS : mg "SIGNS" = some (.ref a_SIGNS)
  a_LONE_GAPS : Addr
  q_LONE_GAPS : ∀ H : Hp, SqT K H a_LONE_GAPS c_LONE_GAPS
  o_LONE_GAPS : ∃ o, K.lookup a_LONE_GAPS = some o ∧ o.cls = .type "tuple" ∧ o.dict = none
  m_LONE_GAPS : mg "LONE_GAPS" = some (.ref a_LONE_GAPS)
  C_BadTable : Addr
  i_BadTable : Addr
  er_BadTable : PySem.SupX.ClsTxt P K mg C_BadTable i_BadTable "BadTable"
  fn_BadTable : PySem.SupX.FnTxt0 P K C_BadTable i_BadTable
  xf_BadTable : XfC K C_BadTable
  te_BadTable : PySem.W.exmOne K (.ref C_BadTable) (.ref C_BadTable) = some true

theorem ok_law_source (T : Txt P w K mg) : FnOk P w K mg base CX0 1 T.f_law_source T.d_law_source ["_law_script"] (spSource K) := by
  refine T.F_law_source.ok sc_law_source (fun vs H Q E h => ?_) (fun cdv A outer s H vs Q E hr h => ?_)
  · obtain ⟨a, ns, rfl, _⟩ := h
    rfl
  · obtain ⟨a, ns, rfl, hS, k⟩ := h
    refine ⟨_, (pss_cons (ps_asg (pe_tup (pa_cons pe_int (pa_cons pe_int pa_nil))) (pg_tup (by rfl) (pgs_cons (pg_name (i := 1) sc_law_source.nd rfl (Or.inl rfl)) (pgs_cons (pg_name (i := 2) sc_law_source.nd rfl (Or.inl rfl)) pgs_nil))))
      (pss_cons (ps_for PassesOwn.never rfl (pi_list (pv 0)) (pg_name (i := 3) sc_law_source.nd rfl (Or.inl rfl))
      (pss_cons (ps_if (PW.pt (pw_and (pt_cmpR op_eq (pv 1) pe_int (nomark _)) (pw_and1 (pt_cmpR op_ge (pv 3) (pe_op op_pow pe_int pe_int) (nomark _)))))
      (pss_one (ps_set (i := 1) sc_law_source.nd rfl (Or.inl rfl) (pv 3)))
      pss_nil)
      (pss_one (ps_set (i := 2) sc_law_source.nd rfl (Or.inl rfl) (pe_op op_mod (pe_callTy call_int1 (by rfl) T.m_int (by decide +kernel) (pa_cons (pe_op op_add (pe_op op_add (pe_op op_mul (pv 2) pe_int) (pv 3)) pe_int) pa_nil)) pe_int)))))
      (pss_one (ps_ret (pe_lst (pa_cons (pv 1) (pa_cons (pv 2) (pa_cons pe_int pa_nil)))))))), ?_⟩
    refine ⟨by decide, fun p hp => ?_⟩
    have s1 : Same H (upd H p (.tup [.int 0, .int 17])) := Same.new hp
    refine ⟨_, _, rfl, SqT.of upd_same, rfl, ?_⟩
    walk_at "rd"
    refine ⟨⟨_, s1.seq hS⟩, for_list (K := K) (a := a) (xs := ns.map V.int) (fun i σ H' => ∃ (g s : Int) (v : Option V), σ = [some (.ref a), some (.int g), some (.int s), v] ∧ 0 ≤ s ∧ s < 2147483647 ∧ Same H H')
      ⟨0, 17, none, rfl, by decide, by decide, s1⟩ (fun i σ H' _ ⟨_, _, _, _, _, _, z⟩ => z.seq hS) ?_ ?_⟩
    · rintro i y σ H' hi ⟨g, s, v, rfl, s0, s2, z⟩
      obtain ⟨u, rfl⟩ : ∃ u, y = V.int u := by
        rw [List.getElem?_map] at hi
        cases e : ns[i]? with
        | none => rw [e] at hi; cases hi
        | some u => rw [e] at hi; exact ⟨u, (Option.some.inj hi).symm⟩
      have fin : ∀ g' : Int, ∃ (g'' s'' : Int) (v'' : Option V), ([some (V.ref a), some (V.int g'), some (V.int ((s * 31 + u + 7) % 2147483647)), some (V.int u)] : St) = [some (.ref a), some (.int g''), some (.int s''), v''] ∧ 0 ≤ s'' ∧ s'' < 2147483647 ∧ Same H H' :=
        fun g' => ⟨g', _, _, rfl, Int.emod_nonneg _ (by decide), Int.emod_lt_of_pos _ (by decide), z⟩
      walk_at "rd"
      refine ifd (fun cg => ?_) (fun cg => ?_)
      · walk_at "rd"
        refine ⟨⟨by decide, by decide, by decide⟩, ?_⟩
        walk_at "rd"
        refine ifd (fun ch => ?_) (fun ch => ?_)
        · walk_at "rd"
          refine ⟨Or.inr ⟨by decide, by decide⟩, ?_⟩
          walk_at "rd"
          refine Or.inl ?_
          walk_at "rd"
          refine ⟨(by decide : (0 : Int) < 2147483647), ?_⟩
          exact fin u
        · walk_at "rd"
          refine ⟨Or.inr ⟨by decide, by decide⟩, ?_⟩
          walk_at "rd"
          refine Or.inl ?_
          walk_at "rd"
          refine ⟨(by decide : (0 : Int) < 2147483647), ?_⟩
          exact fin g
      · walk_at "rd"
        refine ⟨Or.inr ⟨by decide, by decide⟩, ?_⟩
        walk_at "rd"
        refine Or.inl ?_
        walk_at "rd"
        refine ⟨(by decide : (0 : Int) < 2147483647), ?_⟩
        exact fin g
    · rintro σ H' ⟨g, s, v, rfl, s0, s2, z⟩
      walk_at "rd"
      refine ⟨by show 3 ≤ sizeLine; decide, fun p2 hp2 => ?_⟩
      exact k p2 _ (z.free hp2) (z.trans (Same.new hp2)) ⟨g, s, 0, upd_same, s0, s2, by decide, by decide⟩
theorem ok_law_draw (T : Txt P w K mg) : FnOk P w K mg base CX0 1 T.f_law_draw T.d_law_draw ["_law_source_here", "_law_many"] spDraw := by
  refine T.F_law_draw.ok sc_law_draw (fun vs H Q E h => ?_) (fun cdv A outer s H vs Q E hr h => ?_)
  · obtain ⟨p, m, n, rfl, _⟩ := h
    rfl
  · obtain ⟨p, m, n, rfl, S, hn, m0, m1, k⟩ := h
    refine ⟨_, (pss_cons (ps_asg (pe_op op_add (pe_ix ix_list (pv 0) pe_int (fun _ _ => rfl)) pe_int) (pg_sub (pv 0) pe_int set_list))
      (pss_cons (ps_if (pt_cmpR op_gt (pe_ix ix_list (pv 0) pe_int (fun _ _ => rfl)) pe_int (nomark _))
      (pss_cons (ps_set (i := 2) sc_law_draw.nd rfl (Or.inl rfl) (pe_op op_mod (pe_callTy call_int1 (by rfl) T.m_int (by decide +kernel) (pa_cons (pe_ix ix_list (pv 0) pe_int (fun _ _ => rfl)) pa_nil)) (pv 1)))
      (pss_cons (ps_asg (pe_op op_fdivW (pe_ix ix_list (pv 0) pe_int (fun _ _ => rfl)) (pv 1)) (pg_sub (pv 0) pe_int set_list))
      (pss_one (ps_ret (pv 2)))))
      pss_nil)
      (pss_cons (ps_set (i := 3) sc_law_draw.nd rfl (Or.inl rfl) (pe_op op_mod (pe_op op_pow (pe_op op_add (pe_ix ix_list (pv 0) pe_int (fun _ _ => rfl)) (pe_op op_mul pe_int (pe_ix ix_list (pv 0) pe_int (fun _ _ => rfl)))) pe_int) pe_int))
      (pss_one (ps_ret (pe_op op_mod (pe_op op_mod (pe_op op_pow (pe_op op_add (pe_op op_add (pe_op op_mul (pv 3) pe_int) (pe_op op_mul (pe_op op_mul pe_int (pe_ix ix_list (pv 0) pe_int (fun _ _ => rfl))) (pe_ix ix_list (pv 0) pe_int (fun _ _ => rfl)))) pe_int) pe_int) pe_int) (pv 1))))))), ?_⟩
    obtain ⟨g, s, c, hp, s0, s1, c0, c1⟩ := S
    walk_at "rd"
    refine ⟨_, _, _, _, rfl, rfl, SqL.of hp, rfl, ?_⟩
    walk_at "rd"
    refine ⟨_, _, _, _, rfl, rfl, hp, rfl, ?_⟩
    walk_at "rd"
    refine ifd (fun cg => ?_) (fun cg => ?_)
    · walk_at "rd"
      refine Or.inl ?_
      walk_at "rd"
      refine ⟨m0, ?_⟩
      walk_at "rd"
      refine ⟨wide_div (b := 64) m0 (by omega) (by decide) (by decide), ?_⟩
      walk_at "rd"
      exact k _ _ (Int.emod_nonneg g (by omega)) (Int.emod_lt_of_pos g m0) (((But.refl p H).upd).upd) ⟨g / m, s, c + 1, upd_same, s0, s1, by omega, by omega⟩
    · walk_at "rd"
      refine ⟨Or.inl ⟨by decide, by decide⟩, ?_⟩
      walk_at "rd"
      refine ⟨⟨by decide, by decide, by omega⟩, ?_⟩
      walk_at "rd"
      refine ⟨(by decide : (0 : Int) < 2147483629), ?_⟩
      have x0 := Int.emod_nonneg ((s + 7919 * (c + 1)) ^ Int.toNat 5) (by decide : (2147483629 : Int) ≠ 0)
      have x1 := Int.emod_lt_of_pos ((s + 7919 * (c + 1)) ^ Int.toNat 5) (by decide : (0 : Int) < 2147483629)
      walk_at "rd"
      refine ⟨Or.inr ⟨by decide, by decide⟩, ?_⟩
      walk_at "rd"
      refine ⟨Or.inl ⟨by decide, by decide⟩, ?_⟩
      walk_at "rd"
      refine ⟨Or.inr ⟨by omega, by omega⟩, ?_⟩
      walk_at "rd"
      refine ⟨draw_pow x0 x1 (by omega) (by omega), ?_⟩
      walk_at "rd"
      refine ⟨(by decide : (0 : Int) < 1000000007), ?_⟩
      walk_at "rd"
      refine ⟨m0, ?_⟩
      exact k _ _ (Int.emod_nonneg _ (by omega)) (Int.emod_lt_of_pos _ m0) ((But.refl p H).upd) ⟨g, s, c + 1, upd_same, s0, s1, by omega, by omega⟩
--SPLIT
theorem dat_flatL {G : Hp} : ∀ (xs : List V), DatL K G (xs.map D.v) xs
  | [] => rfl
  | x :: xs => ⟨x, xs, rfl, rfl, dat_flatL xs⟩
theorem dat_tupS {c : Addr} {xs : List V} (h : ∀ H : Hp, SqT K H c xs) : ∀ H, Dat K H (.ctup (xs.map D.v)) (.ref c) := fun H => ⟨c, xs, rfl, h H, dat_flatL xs⟩
theorem unV_strs : ∀ l : List Str, unV (l.map fun x => D.v (V.str x)) = some (l.map V.str)
  | [] => rfl
  | x :: l => by
    show (unV (l.map fun x => D.v (V.str x))).map (V.str x :: ·) = _
    rw [unV_strs l]
    rfl
theorem inV_strs (z : Str) : ∀ l : List Str, inV (V.str z) (l.map V.str) = decide (z ∈ l)
  | [] => rfl
  | a :: r => by
    have ih := inV_strs z r
    unfold inV at ih ⊢
    rw [List.map_cons, List.any_cons, ih]
    by_cases e : a = z
    · subst e
      simp [eqV]
    · have e1 : eqV (V.str a) (V.str z) = false := by
        show (a == z) = false
        simpa using e
      have e2 : ¬ z = a := fun q => e q.symm
      simp [e1, e2]
/-- a text in a written list of texts -/
theorem in_strs {z : Str} {l : List Str} {neg : Bool} {R : D → Prop} {e : D} (he : seqD e = some (l.map fun x => D.v (V.str x))) (h : R (.v (.bl (nb neg (decide (z ∈ l)))))) : dIn neg (.v (.str z)) e R := by
  unfold dIn
  rw [he]
  show match D.v (V.str z), unV (l.map fun x => D.v (V.str x)) with
    | .v x, some ys => _
    | d, _ => _
  rw [unV_strs]
  exact ⟨rfl, flat_strs l, by rw [inV_strs]; exact h⟩
/-! ### the program's checks -/
def isNameD : D → Bool
  | .v (.str z) => nameB z
  | _ => false
/-- a thing whose class is known; a text that isn't too long -/
def okT (d : D) : Prop := tyD d ≠ none ∧ ∀ z, d = .v (.str z) → z.length ≤ sizeLine
def spIsNameD : DSp := fsp0 (fun d : D => [d]) okT (fun d b => b = isNameD d) eB
theorem mon_is_name : Mon spIsNameD := fsp0.mon
theorem ups_is_name (_ : Txt P w K mg) : Ups K (up K spIsNameD) spIsNameD := .rfl
theorem ok_is_name (T : Txt P w K mg) : FnOk P w K mg base CX0 1 T.f_is_name T.d_is_name ["thing"] (up K spIsNameD) := by
  refine T.F_is_name.ok sc_is_name (up_len fun sp ds n R h => ?_) (fun cdv A outer s H vs Q E hr h => ?_)
  · obtain ⟨_, rfl, _⟩ := h
    rfl
  obtain ⟨sp, F, ds, n, hs, src, L, d, rfl, ⟨h1, h2⟩, k⟩ := h
  refine d_run (N := ["thing", "letter"]) (sl := [Sl.val _, Sl.emp]) (dss_cons (ds_if (DW.pt (dw_or (dt_not (dt_val (de_isi .str (by decide) (fun _ => rfl) (fun _ => T.m_isinstance) rfl (fun _ => rfl) (fun _ => T.m_str) (by decide +kernel) (dbv 0)))) (dw_or1 (dt_not (dt_chain dop_le dop_le (DX.b de_int) (DX.b (de_callB dc_len (fun _ => by rfl) (fun _ => T.m_len) (by decide +kernel) (dab_cons (dbv 0) dab_nil))) (DX.b de_int))))))
      (dss_one (ds_ret de_bl))
      dss_nil)
      (dss_one (ds_ret (de_callB (dc_all (fun _ => rfl)) (fun _ => by rfl) (fun _ => T.m_all) (by decide +kernel) (dab_cons (DX.b (DO.x (do_lc (own := [("letter", 1)]) (fun _ => rfl) (fun _ => sc_is_name.nd) (di_str (dv 0)) (fun _ => blkOk_by (own := [("letter", 1)]) (N := ["thing", "letter"]) (sc := defScope s_is_name) (by decide +kernel)) (dg_name (i := 1) (fun _ => sc_is_name.nd) (fun _ => rfl) (fun _ => Or.inl rfl)) dts_nil (de_cmp dop_inS (dbv 1) (DX.b (de_glob (v := .str "abcdefghijklmnopqrstuvwxyz") (fun _ => rfl) (fun _ => T.m_LETTERS) ⟨_, rfl⟩)) (by rfl))))) dab_nil))))) hs src L rfl ?_
  have no : isNameD d = false → ∃ m, n ≤ m ∧ Post K sp F H Q (D.v (V.bl false)) m := fun e => ⟨n, Int.le_refl _, k false e.symm⟩
  cases d with
  | v x =>
    cases x with
    | str z =>
      walk_at "dr"
      refine ⟨h2 z rfl, bif_d (fun a1 => bif_nd (fun a2 => no ?_) fun a2 => ?_) fun a1 => no ?_⟩
      · have : ¬ z.cps.size ≤ 8 := fun h => a2 (Int.ofNat_le.mpr h)
        show nameB z = false
        unfold nameB
        rw [decide_eq_false this]
        simp
      · have h8 : z.cps.size ≤ 8 := Int.ofNat_le.mp a2
        refine lc_mapc1 (fun c => eB (decide (c ∈ (Str.ofString "abcdefghijklmnopqrstuvwxyz").cps.toList))) (by rw [Array.length_toList]; exact Nat.le_trans h8 (by decide)) (fun c _ S hS => ⟨c, rfl, hS _ rfl rfl⟩) ?_
        walk_at "dr"
        rw [unB_map]
        refine ⟨n, Int.le_refl _, k _ ?_⟩
        show _ = nameB z
        unfold nameB
        rw [decide_eq_true (show 1 ≤ z.cps.size from Int.ofNat_le.mp a1), decide_eq_true h8, List.all_map]
        rfl
      · have : ¬ 1 ≤ z.cps.size := fun h => a1 (Int.ofNat_le.mpr h)
        show nameB z = false
        unfold nameB
        rw [decide_eq_false this]
        simp
    | non => walk_at "dr"; exact no rfl
    | bl b => walk_at "dr"; exact no rfl
    | int b => walk_at "dr"; exact no rfl
    | byt b => exact absurd rfl h1
    | flt b => exact absurd rfl h1
    | ref b => exact absurd rfl h1
    | ty b => exact absurd rfl h1
  | ins C fs => exact absurd rfl h1
  | ob φ => exact absurd rfl h1
  | _ => walk_at "dr"; exact no rfl
/-! a promise with errors: what is told, or which error with which fields -/
def fspX0 {α β : Type} (A : α → List D) (Pr : α → Prop) (Po : α → β → Prop) (O : β → D) (PoX : α → Addr → List (Str × D) → Prop) : DSpX := fun _ ds n R RX => ∃ x, ds = A x ∧ Pr x ∧ (∀ y, Po x y → R (O y) n) ∧ ∀ C fs, PoX x C fs → RX C fs n
theorem fspX0.mon {α β : Type} {A : α → List D} {Pr : α → Prop} {Po : α → β → Prop} {O : β → D} {PoX : α → Addr → List (Str × D) → Prop} : MonX (fspX0 A Pr Po O PoX) := fun sp ds n R R' S S' h h' ⟨x, h2, h3, h5, h6⟩ => ⟨x, h2, h3, fun y hy => h _ _ (h5 y hy), fun C fs hc => h' _ _ _ (h6 C fs hc)⟩
theorem find_first {α : Type} {p : α → Bool} : ∀ {l : List α} {i : Nat} {x : α}, l[i]? = some x → p x = true → (∀ y ∈ l.take i, p y = false) → l.find? p = some x
  | [], i, x, h, _, _ => by simp at h
  | a :: l, 0, x, h, hp, _ => by
    cases Option.some.inj h
    rw [List.find?_cons, hp]
  | a :: l, i + 1, x, h, hp, ha => by
    rw [List.find?_cons, ha a (by rw [List.take_succ_cons]; exact List.mem_cons_self)]
    exact find_first (i := i) h hp fun y hy => ha y (by rw [List.take_succ_cons]; exact List.mem_cons_of_mem _ hy)
/-! ### small things -/
theorem putFA_len (f : Str) (d : D) : ∀ l : List (Str × D), (putFA f d l).length ≤ l.length + 1
  | [] => Nat.le_refl _
  | (g, e) :: r => by
    unfold putFA
    split
    · simp
    · have := putFA_len f d r
      simp only [List.length_cons]
      omega
theorem opt_some {o : Option D} {d : D} {R : D → Prop} (h : o = some d) (r : R d) : opt o R := by
  rw [h]
  exact r
theorem atI_0 {α : Type} (x : α) (l : List α) : atI (x :: l) 0 = some x := by
  unfold atI ixN
  rw [if_pos (by decide), if_pos (by rw [List.length_cons]; omega)]
  rfl
def isStD (zs : List Str) : D → Bool
  | .v (.str z) => decide (z ∈ zs)
  | _ => false
theorem cut_toD (xs : List D) (c : Nat) : cutD xs none (some ((c : Nat) : Int)) = xs.take c := by
  unfold cutD
  rw [HT.sIx_none, HT.sIx_nat, List.drop_zero, Nat.sub_zero]
  exact (List.take_eq_take_min).symm
theorem cut_fromD (xs : List D) (c : Nat) : cutD xs (some ((c : Nat) : Int)) none = xs.drop c := by
  unfold cutD
  rw [HT.sIx_none, HT.sIx_nat]
  by_cases h : c ≤ xs.length
  · rw [Nat.min_eq_left h]
    exact List.take_of_length_le (by rw [List.length_drop]; exact Nat.le_refl _)
  · rw [Nat.min_eq_right (by omega), Nat.sub_self, List.take_zero]
    exact (List.drop_eq_nil_of_le (by omega)).symm
/-! the same reading, where == and [] are left standing -/
local macro_rules | `(tactic| walk_at "drx") => `(tactic| try dsimp only [dSeq, dPar, dPar3, dTry, dIfS, dOr, dAnd, dNot, dTest, dIsi, dIsi2, dVar, dVarB, dC, dOp, dI0, dI, dCB, dCons, dNil,  dLc, wipe_1, wipe_2, wipe_3, wipe_4, wipe_5, mapc, mapn, dRet, dSet, dSetO, dNext, dAsg, dDrop, dTup, dLst,  dFlat, isV, dIfE, dAndV, dOrV, dNotV, dChain, dgName, dgCons, dgNil, dgTup, dItSeq, dStr, dDisp, dpCons, dpNil,  dIsN, dCat, dRep, dListOf, dTupOf, dBs, dI1, dI2, dInt1, dDivmod, dTupD, dStrI, dInG, dIxG, dFld, dCall, dCall0, dCallF, dCallF0, dCallX, dCallX0, dCallXF0, dMeth, dMethX, dProp, dProp.isC, isI, dAug, dNeg, dUn, dEnum, dEnumB, dEnumS, dZip, dRng1, dRng2, dDGet, dDGet1, dDGet2, dDIn, dGetR, isDk, asB, nb, opt, bIf_t, bIf_f, not_t, not_f, Option.getD_some, Option.getD_none, List.lookup, dRaise, dRaise0, dFor, dgSeq, dDPut, dPutR, dOwn, dOwnE, mAppend, mExtend, mInsert, mPop, mPopAt, asL, dSetOwn, dSetIx, dDUpd, dDUpd.isOwnK, dDSetT, dDSetT.isOwnT, dFldO, dSlL, dSlS, dSlT, dPart, dNoPart, dJoin, dSplit, dCatTE, dDictZip, dIs, dSortS, dBool1, at_0, put_0, at_1, put_1, at_2, put_2, at_3, put_3, at_4, put_4, at_5, put_5, at_6, put_6, at_7, put_7, at_8, put_8, at_9, put_9, at_10, put_10, at_11, put_11, at_12, put_12, at_13, put_13, at_14, put_14, at_15, put_15, at_16, put_16, at_17, put_17, at_18, put_18, at_19, put_19, at_20, put_20, at_21, put_21, at_22, put_22, at_23, put_23, at_24, put_24, at_25, put_25, ty_non, ty_bl, ty_int, ty_str, ty_lst, ty_tup, ty_ctup, ty_ftup, ty_dK, ty_dT, sub_non_non, sub_non_bl, sub_non_int, sub_non_str, sub_non_lst, sub_non_tup, sub_non_dic, sub_bl_non, sub_bl_bl, sub_bl_int, sub_bl_str, sub_bl_lst, sub_bl_tup, sub_bl_dic, sub_int_non, sub_int_bl, sub_int_int, sub_int_str, sub_int_lst, sub_int_tup, sub_int_dic, sub_str_non, sub_str_bl, sub_str_int, sub_str_str, sub_str_lst, sub_str_tup, sub_str_dic, sub_lst_non, sub_lst_bl, sub_lst_int, sub_lst_str, sub_lst_lst, sub_lst_tup, sub_lst_dic, sub_tup_non, sub_tup_bl, sub_tup_int, sub_tup_str, sub_tup_lst, sub_tup_tup, sub_tup_dic, sub_dic_non, sub_dic_bl, sub_dic_int, sub_dic_str, sub_dic_lst, sub_dic_tup, sub_dic_dic, seq_non, seq_bl, seq_int, seq_str, seq_lst, seq_tup, seq_ctup, seq_ftup, seq_dK, seq_dT, key_int, key_str, or_tt, or_ft, aI_1_0, aI_1_l, aI_2_0, aI_2_1, aI_2_l, aI_3_0, aI_3_1, aI_3_2, aI_3_l, aI_4_0, aI_4_1, aI_4_2, aI_4_3, aI_4_l, aI_5_0, aI_5_1, aI_5_2, aI_5_3, aI_5_4, aI_5_l, aI_6_0, aI_6_1, aI_6_2, aI_6_3, aI_6_4, aI_6_5, aI_6_l])
/-! ### the law's own defs, told over data -/
def newF (F H H' : Hp) : Hp := fun b => if H b = none then H' b else F b
theorem newF_in {F H H' : Hp} {b : Addr} {o : HO} (h : H b = none) (e : H' b = some o) : newF F H H' b = some o := by
  unfold newF
  rw [if_pos h]
  exact e
/-- a promise about one new thing, over the source alone -/
theorem post_new {sp : Option Addr} {p : Addr} {F H H' : Hp} {Q : VK} {d : D} {n n' : Int} {v : V} (hp : sp = some p) (s : Same F H) (S0 : Src H p n) (fp : F p = none) (k : Post K sp F H Q d n') (b : But p H H') (S : Src H' p n') (h : Dat K (newF F H H') d v) : Q v H' := by
  subst hp
  refine k v (newF F H H') H' (fun c o e => ?_) (fun c o e => ?_) (fun c o z e => b c o (fun q => z (by rw [q])) e) (fun c e => ?_) (fun q e => ?_) h
  · unfold newF
    rw [if_neg (by rw [s c o e]; exact fun z => nomatch z)]
    exact e
  · unfold newF at e
    split at e
    · exact e
    · exact b c o (fun z => by rw [z, fp] at e; cases e) (s c o e)
  · unfold newF at e
    split at e
    · rename_i z
      exact .inr (.inl z)
    · exact .inl e
  · cases e
    refine ⟨?_, S⟩
    unfold newF
    rw [if_neg, fp]
    obtain ⟨xs, z⟩ := S0.at
    rw [z]
    exact fun z => nomatch z
/-- the same, where nothing is drawn -/
theorem post_new0 {sp : Option Addr} {F H H' : Hp} {Q : VK} {d : D} {n : Int} {v : V} (s : Same F H) (src : ∀ p, sp = some p → F p = none ∧ Src H p n) (k : Post K sp F H Q d n) (b : Same H H') (h : Dat K (newF F H H') d v) : Q v H' := by
  refine k v (newF F H H') H' (fun c o e => ?_) (fun c o e => ?_) (fun c o z e => b c o e) (fun c e => ?_) (fun q e => ?_) h
  · unfold newF
    rw [if_neg (by rw [s c o e]; exact fun z => nomatch z)]
    exact e
  · unfold newF at e
    split at e
    · exact e
    · exact b c o (s c o e)
  · unfold newF at e
    split at e
    · rename_i z
      exact .inr (.inl z)
    · exact .inl e
  · obtain ⟨fp, S⟩ := src q e
    refine ⟨?_, S.same b⟩
    unfold newF
    rw [if_neg, fp]
    obtain ⟨xs, z⟩ := S.at
    rw [z]
    exact fun z => nomatch z
theorem dat_strs {H : Hp} : ∀ (l : List Str), DatL K H (l.map eS) (l.map V.str)
  | [] => rfl
  | _ :: l => ⟨_, _, rfl, rfl, dat_strs l⟩
theorem dat_ints {H : Hp} : ∀ (l : List Int), DatL K H (l.map eI) (l.map V.int)
  | [] => rfl
  | _ :: l => ⟨_, _, rfl, rfl, dat_ints l⟩
theorem dat_bls {H : Hp} : ∀ (l : List Bool), DatL K H (l.map eB) (l.map V.bl)
  | [] => rfl
  | _ :: l => ⟨_, _, rfl, rfl, dat_bls l⟩
theorem datL_strs {H : Hp} {l : List Str} {vs : List V} (h : DatL K H (l.map eS) vs) : vs = l.map V.str := datL_flat (xs := l.map V.str) (by rw [List.map_map]; exact h)
theorem datL_ints {H : Hp} {l : List Int} {vs : List V} (h : DatL K H (l.map eI) vs) : vs = l.map V.int := datL_flat (xs := l.map V.int) (by rw [List.map_map]; exact h)
/-- with a limit of its own -/
def fspN {α β : Type} (L : Int) (C : α → Int) (A : Addr → α → List D) (P : α → Prop) (Po : α → β → Prop) (O : β → D) : DSp := fun sp ds n R => ∃ p x, sp = some p ∧ ds = A p x ∧ P x ∧ n < L ∧ ∀ y, Po x y → R (O y) (n + C x)
theorem fspN.mon {α β : Type} {L : Int} {C : α → Int} {A : Addr → α → List D} {P : α → Prop} {Po : α → β → Prop} {O : β → D} : Mon (fspN L C A P Po O) := fun sp ds n R R' h ⟨p, x, h1, h2, h3, h4, h5⟩ => ⟨p, x, h1, h2, h3, h4, fun y hy => h _ _ (h5 y hy)⟩
def spDrawD : DSp := fspN 1000000 (fun _ => 1) (fun p (m : Int) => [sD p, eI m]) (fun m => 0 < m ∧ m < 2 ^ 64) (fun m d => 0 ≤ d ∧ d < m) eI
theorem mon_law_draw : Mon spDrawD := fspN.mon
theorem ups_law_draw (_ : Txt P w K mg) : Ups K spDraw spDrawD := by
  rintro vs H Q E ⟨sp, F, ds, n, s, src, L, p, m, rfl, rfl, ⟨m0, m1⟩, hn, k⟩
  obtain ⟨v, r, rfl, h1, w, r', rfl, h2, h3⟩ := L
  cases (show v = _ from h1)
  cases (show w = _ from h2)
  cases (show r' = [] from h3)
  obtain ⟨fp, S⟩ := src p rfl
  refine ⟨p, m, n, rfl, S, hn, m0, m1, fun d H' d0 d1 b S' => ?_⟩
  refine k d ⟨d0, d1⟩ (.int d) F H' (Same.refl F) (fun c o h => b c o (fun z => by rw [z, fp] at h; cases h) (s c o h)) (fun c o z h => b c o (fun e => z (by rw [e])) h) (fun c h => .inl h) (fun q e => ?_) rfl
  cases e
  exact ⟨fp, S'⟩
theorem st_eq {d : DSt} {E : DEnds} {sl sl' : List Sl} {n : Int} {sp : Option Addr} (h : sl = sl') (hd : d E ⟨sl', n, sp⟩) : d E ⟨sl, n, sp⟩ := by
  rw [h]
  exact hd
/-! ### picks, names, written tables -/
def spPickD : DSp := fspN 1000000 (fun _ => 1) (fun p (ds : List D) => [sD p, .lst ds]) (fun ds => ds ≠ [] ∧ ds.length < 16777216) (fun ds d => d ∈ ds) id
theorem mon_law_pick : Mon spPickD := fspN.mon
theorem ups_law_pick (_ : Txt P w K mg) : Ups K (up K spPickD) spPickD := .rfl
theorem atI_mem {α : Type} {ds : List α} {i : Int} (h0 : 0 ≤ i) (h1 : i < (ds.length : Nat)) : ∃ d, atI ds i = some d ∧ d ∈ ds := by
  unfold atI ixN
  rw [if_pos h0, if_pos h1]
  refine ⟨ds[i.toNat], List.getElem?_eq_getElem (by omega), List.getElem_mem _⟩
theorem ok_law_pick (T : Txt P w K mg) : FnOk P w K mg base CX0 2 T.f_law_pick T.d_law_pick ["_law_source_here", "_law_things"] (up K spPickD) := by
  refine T.F_law_pick.ok sc_law_pick (up_len fun sp ds n R h => ?_) (fun cdv A outer s H vs Q E hr h => ?_)
  · obtain ⟨_, _, _, rfl, _⟩ := h
    rfl
  obtain ⟨sp, F, ds, n, hs, src, L, p, xs, rfl, rfl, ⟨x0, x1⟩, hn, k⟩ := h
  refine d_run (N := ["_law_source_here", "_law_things"]) (sl := [Sl.val _, Sl.val _]) (dss_one (ds_ret (de_ix (dv 1) (DX.b (de_callF mon_law_draw (ups_law_draw T) (fun _ => ok_law_draw T) (fun _ => (hr.mono (by decide))) (fun _ => by rfl) (fun _ => T.m_law_draw) (fun _ => T.F_law_draw.kp) (fun _ => T.b_law_draw) (fun _ => pass0) (dab_cons (dbv 0) (dab_cons (DX.b (de_callB dc_len (fun _ => by rfl) (fun _ => T.m_len) (by decide +kernel) (dab_cons (dbv 1) dab_nil))) dab_nil)))) (fun _ _ => rfl)))) hs src L rfl ?_
  have hl := List.length_pos_iff.mpr x0
  refine ⟨p, _, rfl, rfl, ⟨by omega, by omega⟩, hn, fun d hd => ⟨rfl, rfl, ?_⟩⟩
  obtain ⟨y, e, hy⟩ := atI_mem hd.1 hd.2
  refine opt_some e ?_
  exact ⟨_, Int.le_refl _, k y hy⟩
/-! equal things -/
theorem eqv_self {d : D} (h : okP d) : PyData.eqv (pD d) (pD d) = true := SeqAt.eqv_refl _ (isP_lay d h.1)
theorem eq_same {d e : D} {R : D → Prop} {neg : Bool} (hd : okP d) (he : e = d) (hv : ∀ x, d ≠ .v x) (h : R (.v (.bl (!neg)))) : dEqB neg d e R := by
  subst he
  unfold dEqB
  split
  · rename_i x y q
    exact absurd rfl (hv _)
  · refine ⟨hd, hd, ?_⟩
    rw [eqv_self hd]
    cases neg <;> exact h
theorem pair_ok {a : Str} {d : D} (ha : PyData.strOk a = true) (hd : isP d = true) (hk : (pD d).depth ≤ 1) : okP (.tup [eS a, d]) := by
  refine ⟨?_, ?_⟩
  · show (PyData.strOk a && (isP d && true)) = true
    rw [ha, hd]
    rfl
  · show (PyData.tuple [.str a, pD d]).depth ≤ 64
    simp only [PyData.depth, PyData.depthAll]
    omega
--SPLIT
/-! ### tables: joint states or side states, levels, periods -/
abbrev Tri := Str × Str × Str
def strOf : D → Str
  | .v (.str z) => z
  | _ => ""
def triOf (d : D) : Tri := match seqD d with
  | some [a, b, c] => (strOf a, strOf b, strOf c)
  | _ => ("", "", "")
def isTriD (ws : List Str) (d : D) : Bool := match seqD d with
  | some [a, b, c] => isNameD a && isNameD b && isStD ws c
  | _ => false
/-- lists and tuples that are not of the written part -/
def okTri (d : D) : Prop := tyD d ≠ none ∧ (∀ ds, d ≠ .ctup ds) ∧ (∀ ds, d ≠ .ftup ds) ∧ ∀ es, seqD d = some es → ∀ e ∈ es, okT e
def okTris (d : D) : Prop := tyD d ≠ none ∧ ∀ es, seqD d = some es → es.length ≤ 1000 ∧ ∀ e ∈ es, okTri e
def trisBad (ws : List Str) (d : D) : Bool := match seqD d with
  | some es => !es.all (isTriD ws)
  | none => true
def addT (ts : List Tri) (t : Tri) : List Tri := if t ∈ ts then ts else ts ++ [t]
def trisOf (es : List D) : List Tri := (es.map triOf).foldl addT []
def triK (ts : List Tri) : List (List Key × D) := ts.map fun t => (k3 t, eB true)
theorem k3_inj {s t : Tri} (h : k3 s = k3 t) : s = t := by
  obtain ⟨a, b, c⟩ := s
  obtain ⟨a', b', c'⟩ := t
  unfold k3 at h
  injection h with h1 h
  injection h with h2 h
  injection h with h3 h
  injection h1 with h1
  injection h2 with h2
  injection h3 with h3
  replace h1 : a = a' := h1
  replace h2 : b = b' := h2
  replace h3 : c = c' := h3
  rw [h1, h2, h3]
theorem triK_put (ts : List Tri) (t : Tri) : putA (triK ts) (k3 t) (eB true) = triK (addT ts t) := by
  unfold putA addT
  have e : ((triK ts).any fun kv => decide (kv.1 = k3 t)) = decide (t ∈ ts) := by
    unfold triK
    induction ts with
    | nil => rfl
    | cons a r ih =>
      rw [List.map_cons, List.any_cons, ih]
      by_cases h : a = t
      · subst h
        simp
      · have h1 : ¬ k3 a = k3 t := fun q => h (k3_inj q)
        have h2 : ¬ t = a := fun q => h q.symm
        simp [h1, h2]
  rw [e]
  by_cases h : t ∈ ts
  · rw [decide_eq_true h, if_pos rfl, if_pos h]
    unfold triK
    rw [List.map_map]
    refine List.map_congr_left fun a _ => ?_
    show (if k3 a = k3 t then _ else _) = _
    split <;> rfl
  · rw [decide_eq_false h, if_neg Bool.false_ne_true, if_neg h]
    unfold triK
    rw [List.map_append]
    rfl
theorem addT_len (ts : List Tri) (t : Tri) : (addT ts t).length ≤ ts.length + 1 := by
  unfold addT
  split
  · omega
  · rw [List.length_append, List.length_singleton]
    exact Nat.le_refl _
theorem fold_len : ∀ (us ts : List Tri), (us.foldl addT ts).length ≤ ts.length + us.length
  | [], ts => by simp
  | u :: us, ts => by
    have h1 := fold_len us (addT ts u)
    have h2 := addT_len ts u
    rw [List.foldl_cons, List.length_cons]
    omega
theorem trisOf_len (es : List D) : (trisOf es).length ≤ es.length := by
  have := fold_len (es.map triOf) []
  rw [List.length_map, List.length_nil, Nat.zero_add] at this
  exact this
theorem triK_keys (ts : List Tri) : (triK ts).map (·.1) = ts.map k3 := by
  unfold triK
  rw [List.map_map]
  rfl
/-- what is kept of such a list -/
def trisP (es : List D) (y : D) : Prop := ∃ ts : List Tri, ts.Perm (trisOf es) ∧ y = .tup (ts.map t3D)
theorem isTriD_of {ws : List Str} {d : D} (h : isTriD ws d = true) : ∃ a b c, seqD d = some [eS a, eS b, eS c] ∧ nameB a = true ∧ nameB b = true ∧ c ∈ ws ∧ triOf d = (a, b, c) := by
  unfold isTriD at h
  split at h
  · rename_i x y z hs
    simp only [Bool.and_eq_true] at h
    obtain ⟨⟨h1, h2⟩, h3⟩ := h
    obtain ⟨a, rfl, n1⟩ : ∃ a, x = eS a ∧ nameB a = true := by
      unfold isNameD at h1
      split at h1
      · exact ⟨_, rfl, h1⟩
      · cases h1
    obtain ⟨b, rfl, n2⟩ : ∃ b, y = eS b ∧ nameB b = true := by
      unfold isNameD at h2
      split at h2
      · exact ⟨_, rfl, h2⟩
      · cases h2
    obtain ⟨c, rfl, n3⟩ : ∃ c, z = eS c ∧ c ∈ ws := by
      unfold isStD at h3
      split at h3
      · exact ⟨_, rfl, of_decide_eq_true h3⟩
      · cases h3
    exact ⟨a, b, c, hs, n1, n2, n3, by unfold triOf; rw [hs]; rfl⟩
  · cases h
theorem nmD_str {d : D} (h : isNameD d = true) : ∃ z, d = eS z := by
  unfold isNameD at h
  split at h
  · exact ⟨_, rfl⟩
  · cases h
theorem triD_no {ws : List Str} {d a b c : D} (e : seqD d = some [a, b, c]) (h : isNameD a = false ∨ isNameD b = false ∨ isStD ws c = false) : isTriD ws d = false := by
  unfold isTriD
  rw [e]
  show (isNameD a && isNameD b && isStD ws c) = false
  rcases h with h | h | h
  all_goals rw [h]
  all_goals simp
theorem triD_yes {ws : List Str} {d a b c : D} (e : seqD d = some [a, b, c]) (h1 : isNameD a = true) (h2 : isNameD b = true) (h3 : isStD ws c = true) : isTriD ws d = true := by
  unfold isTriD
  rw [e]
  show (isNameD a && isNameD b && isStD ws c) = true
  rw [h1, h2, h3]
  rfl
def spChkStD (C0 : Addr) : DSpX := fspX0 (fun p : D × List Str => [p.1, .ctup (p.2.map eS)]) (fun p => okTris p.1) (fun p y => trisBad p.2 p.1 = false ∧ trisP ((seqD p.1).getD []) y) id (fun p C fs => trisBad p.2 p.1 = true ∧ C = C0 ∧ fs = [])
theorem mon_checked_states {C : Addr} : MonX (spChkStD C) := fspX0.mon
theorem ups_checked_states (T : Txt P w K mg) : UpsX K (upX K (spChkStD T.C_BadTable)) (spChkStD T.C_BadTable) := .rfl
theorem ok_checked_states (T : Txt P w K mg) : FnOk P w K mg base (L2.CX P w) 3 T.f_checked_states T.d_checked_states ["things", "words"] (upX K (spChkStD T.C_BadTable)) := by
  refine T.F_checked_states.okX sc_checked_states (upX_len fun sp ds n R RX h => ?_) (fun cdv A outer s H vs Q E hr h => ?_)
  · obtain ⟨_, rfl, _⟩ := h
    rfl
  obtain ⟨sp, F, ds, n, hs, src, L, ⟨d, ws⟩, rfl, ⟨h1, h2⟩, k, kx⟩ := h
  refine d_runX (E := E) (N := ["things", "words", "states", "thing"]) (sl := [Sl.val _, Sl.val _, Sl.emp, Sl.emp]) (dss_cons (ds_if (dt_not (dt_val (de_isi2 .lst .tup (by decide) (by decide) (fun _ => rfl) (fun _ => T.m_isinstance) rfl (fun _ => rfl) (fun _ => T.m_list) (by decide +kernel) (fun _ => rfl) (fun _ => T.m_tuple) (by decide +kernel) (dbv 0))))
      (dss_one (ds_raise0 (fun _ => rfl) (fun _ => T.er_BadTable) (fun _ => T.fn_BadTable) (fun _ => hr) (fun _ => takes_of rfl rfl rfl rfl) (fun _ => by rfl)))
      dss_nil)
      (dss_cons (ds_setO (i := 2) (fun _ => sc_checked_states.nd) (fun _ => rfl) (fun _ => Or.inl rfl) do_dnewT)
      (dss_cons (ds_for (fun _ => PassesOwn.leaving) (fun _ => rfl) (di_seq (dv 0)) (dg_name (i := 3) (fun _ => sc_checked_states.nd) (fun _ => rfl) (fun _ => Or.inl rfl))
      (dss_cons (ds_if (DW.pt (dw_or (dt_not (dt_val (de_isi2 .lst .tup (by decide) (by decide) (fun _ => rfl) (fun _ => T.m_isinstance) rfl (fun _ => rfl) (fun _ => T.m_list) (by decide +kernel) (fun _ => rfl) (fun _ => T.m_tuple) (by decide +kernel) (dbv 3)))) (dw_or1 (dt_cmp (dop_ne (fun _ => hr.units)) (DX.b (de_callB dc_len (fun _ => by rfl) (fun _ => T.m_len) (by decide +kernel) (dab_cons (dbv 3) dab_nil))) (DX.b de_int) (nomark _)))))
      (dss_one (ds_raise0 (fun _ => rfl) (fun _ => T.er_BadTable) (fun _ => T.fn_BadTable) (fun _ => hr) (fun _ => takes_of rfl rfl rfl rfl) (fun _ => by rfl)))
      dss_nil)
      (dss_cons (ds_if (DW.pt (dw_or (dt_not (dt_val (de_call0 mon_is_name (ups_is_name T) (fun _ => ok_is_name T) (fun _ => (hr.mono (by decide))) (fun _ => by rfl) (fun _ => T.m_is_name) (fun _ => T.F_is_name.kp) (fun _ => T.b_is_name) (fun _ => pass0) (da_cons (de_ix (dv 3) (DX.b de_int) (fun _ _ => rfl)) da_nil)))) (dw_or1 (dt_not (dt_val (de_call0 mon_is_name (ups_is_name T) (fun _ => ok_is_name T) (fun _ => (hr.mono (by decide))) (fun _ => by rfl) (fun _ => T.m_is_name) (fun _ => T.F_is_name.kp) (fun _ => T.b_is_name) (fun _ => pass0) (da_cons (de_ix (dv 3) (DX.b de_int) (fun _ _ => rfl)) da_nil)))))))
      (dss_one (ds_raise0 (fun _ => rfl) (fun _ => T.er_BadTable) (fun _ => T.fn_BadTable) (fun _ => hr) (fun _ => takes_of rfl rfl rfl rfl) (fun _ => by rfl)))
      dss_nil)
      (dss_cons (ds_if (DW.pt (dw_or (dt_not (dt_val (de_isi .str (by decide) (fun _ => rfl) (fun _ => T.m_isinstance) rfl (fun _ => rfl) (fun _ => T.m_str) (by decide +kernel) (db_ix (dbv 3) (DX.b de_int) (fun _ _ => rfl))))) (dw_or1 (dt_cmp (dop_notin (fun _ => hr65 hr)) (db_ix (dbv 3) (DX.b de_int) (fun _ _ => rfl)) (dbv 1) (by rfl)))))
      (dss_one (ds_raise0 (fun _ => rfl) (fun _ => T.er_BadTable) (fun _ => T.fn_BadTable) (fun _ => hr) (fun _ => takes_of rfl rfl rfl rfl) (fun _ => by rfl)))
      dss_nil)
      (dss_one (ds_dput (i := 2) (fun _ => hu_of hr) (fun _ => pv 2) (DX.b (de_tuple (fun _ => by rfl) (fun _ => T.m_tuple) (by decide +kernel) (da_cons (dv 3) da_nil))) de_bl))))))
      (dss_one (ds_ret (de_tuple (fun _ => by rfl) (fun _ => T.m_tuple) (by decide +kernel) (da_cons (DO.x (do_sortT3 (fun _ => rfl) (fun _ => hr.units) (fun _ => by rfl) (fun _ => T.m_sorted) (by decide +kernel) (dab_cons (dbv 2) dab_nil))) da_nil))))))) hs src L rfl ?_
  replace h1 : tyD d ≠ none := h1
  replace h2 : ∀ es, seqD d = some es → es.length ≤ 1000 ∧ ∀ e ∈ es, okTri e := h2
  have bad : trisBad ws d = true → PostX K sp F H E T.C_BadTable [] n := fun e => kx _ _ ⟨e, rfl, rfl⟩
  have three : ∀ ds : List D, V.int (ds.length : Nat) = V.int 3 → ∃ a b c, ds = [a, b, c] := by
    intro ds hl
    injection hl with hl
    match ds, hl with
    | [a, b, c], _ => exact ⟨a, b, c, rfl⟩
    | [], hl => exact absurd hl (by simp)
    | [_], hl => exact absurd hl (by simp)
    | [_, _], hl => exact absurd hl (by simp)
    | _ :: _ :: _ :: _ :: r, hl => exact absurd hl (by simp only [List.length_cons]; omega)
  have sh : ∀ (x : D) (ds : List D), seqD x = some ds → V.int (ds.length : Nat) ≠ V.int 3 → isTriD ws x = false := by
    intro x ds e hl
    unfold isTriD
    rw [e]
    match ds, hl with
    | [], _ => rfl
    | [_], _ => rfl
    | [_, _], _ => rfl
    | [_, _, _], hl => exact absurd rfl hl
    | _ :: _ :: _ :: _ :: _, _ => rfl
  have badx : ∀ (es : List D) (x : D), seqD d = some es → x ∈ es → isTriD ws x = false → PostX K sp F H E T.C_BadTable [] n := fun es x e hx q => bad (by
    unfold trisBad
    rw [e]
    show (!es.all (isTriD ws)) = true
    rw [Bool.not_eq_true', List.all_eq_false]
    exact ⟨x, hx, by rw [q]; exact Bool.false_ne_true⟩)
  have good : ∀ es : List D, seqD d = some es → (∀ e ∈ es, isTriD ws e = true) → ∀ ts : List Tri, ts.Perm (trisOf es) → Post K sp F H Q (.tup (ts.map t3D)) n := fun es e hall ts ht => k _ ⟨by
    show trisBad ws d = false
    unfold trisBad
    rw [e]
    show (!es.all (isTriD ws)) = false
    rw [List.all_eq_true.mpr hall]
    rfl, ts, by show ts.Perm (trisOf ((seqD d).getD [])); rw [e]; exact ht, rfl⟩
  clear k kx
  have small : ∀ m : Nat, m ≤ 1000 → m < sizeLine := fun m h => Nat.lt_of_le_of_lt h (by decide)
  (rcases d with xTy | _ | _ | _ | _ | _ | ⟨_, _⟩ | _; (rcases xTy with _ | _ | _ | _ | _ | _ | _ | _); all_goals (try exact absurd rfl h1))
  all_goals walk_at "dr"
  all_goals first
    | exact bad rfl
    | skip
  all_goals
    rename_i es
    obtain ⟨hl, h2⟩ := h2 es rfl
    replace badx := fun x hx => badx es x rfl hx
    replace good := good es rfl
    refine dLoop_inv (fun i a => (∃ v0 v3, a = ⟨[v0, .val (.ctup (ws.map eS)), .own (.dT (triK (trisOf (es.take i)))), v3], n, sp⟩) ∧ ∀ e ∈ es.take i, isTriD ws e = true) ⟨⟨_, _, rfl⟩, fun _ h => nomatch h⟩ ?_ ?_
  all_goals first
    | (rintro i x a N hi ⟨⟨v0, v3, rfl⟩, hall⟩ hN
       have hm := List.mem_of_getElem? hi
       obtain ⟨x1, x2, x3, x4⟩ := h2 x hm
       have bx := badx x hm
       have gx : isTriD ws x = true → ∀ v0 v3, N ⟨[v0, .val (.ctup (ws.map eS)), .own (.dT (triK (addT (trisOf (es.take i)) (triOf x)))), v3], n, sp⟩ := fun e v0 v3 => hN _ ⟨⟨v0, v3, by rw [take_more hi]; unfold trisOf; rw [List.map_append, List.foldl_append]; rfl⟩, fun y hy => by
         rw [take_more hi] at hy
         rcases List.mem_append.mp hy with q | q
         · exact hall y q
         · rw [List.mem_singleton.mp q]
           exact e⟩
       clear hN
       (rcases x with xTy | _ | _ | _ | _ | _ | ⟨_, _⟩ | _; (rcases xTy with _ | _ | _ | _ | _ | _ | _ | _); all_goals (try exact absurd rfl x1))
       all_goals walk_at "dr"
       all_goals first
         | exact bx rfl
         | exact absurd rfl (x2 _)
         | exact absurd rfl (x3 _)
         | skip
       all_goals (refine ⟨rfl, bif_nd (fun a1 => bx (sh _ _ rfl a1)) fun a1 => ?_⟩)
       all_goals (obtain ⟨ea, eb, ec, rfl⟩ := three _ a1)
       all_goals (have oa := x4 _ rfl ea (by simp))
       all_goals (have ob := x4 _ rfl eb (by simp))
       all_goals (have oc := x4 _ rfl ec (by simp))
       all_goals walk_at "dr"
       all_goals (refine ⟨rfl, ea, rfl, oa, fun b1 hb1 => bif_nb (fun e1 => bx (triD_no rfl (.inl (hb1.symm.trans e1)))) fun e1 => ⟨rfl, eb, rfl, ob, fun b2 hb2 => bif_nb (fun e2 => bx (triD_no rfl (.inr (.inl (hb2.symm.trans e2))))) fun e2 => ?_⟩⟩)
       all_goals (obtain ⟨za, rfl⟩ := nmD_str (hb1.symm.trans e1))
       all_goals (obtain ⟨zb, rfl⟩ := nmD_str (hb2.symm.trans e2))
       all_goals (have oc1 := oc.1)
       all_goals ((rcases ec with xTy | _ | _ | _ | _ | _ | ⟨_, _⟩ | _; (rcases xTy with _ | _ | _ | _ | _ | _ | _ | _); all_goals (try exact absurd rfl oc1)))
       all_goals walk_at "dr"
       all_goals first
         | exact bx (triD_no rfl (.inr (.inr rfl)))
         | skip
       all_goals (rename_i zc)
       all_goals (refine in_strs (l := ws) rfl ?_)
       all_goals walk_at "dr"
       all_goals (refine bif_nd (fun a2 => bx (triD_no rfl (.inr (.inr (decide_eq_false a2))))) fun a2 => ?_)
       all_goals (replace gx := gx (triD_yes rfl (hb1.symm.trans e1) (hb2.symm.trans e2) (decide_eq_true a2)))
       all_goals (refine ⟨(fun q => nomatch q), ?_⟩)
       all_goals (show (triK (trisOf (es.take i))).length < sizeLine ∧ N ⟨[v0, .val (.ctup (ws.map eS)), .own (.dT (putA (triK (trisOf (es.take i))) (k3 (za, zb, zc)) (eB true))), _], n, sp⟩)
       all_goals (rw [triK_put])
       all_goals (refine ⟨?_, gx v0 _⟩)
       all_goals (unfold triK; rw [List.length_map]; refine small _ (Nat.le_trans (trisOf_len _) ?_); rw [List.length_take]; omega))
    | (rintro a ⟨⟨v0, v3, rfl⟩, hall⟩
       rw [List.take_length] at hall
       walk_at "dr"
       dsimp only [dSortT3]
       walk_at "dr"
       rw [List.take_length]
       exact ⟨trisOf es, triK_keys _, fun ts' pm => ⟨n, Int.le_refl _, good hall ts' pm⟩⟩)
/-! the levels -/
def signsL : List Str := ["<", "=", ">"]
def gapsL : List Str := ["none", "first", "second"]
def okLvls (d : D) : Prop := tyD d ≠ none ∧ ∀ es, seqD d = some es → es.length ≤ 1000 ∧ ∀ e ∈ es, okTris e
def lvlsBad (d : D) : Bool := match seqD d with
  | some es => decide (es.length < 3) || decide (es.length % 2 = 0) || es.any (trisBad signsL)
  | none => true
def lvlsP (es : List D) (y : D) : Prop := ∃ ls : List D, y = .tup ls ∧ ls.length = es.length ∧ ∀ (j : Nat) (e : D), es[j]? = some e → ∃ l, ls[j]? = some l ∧ trisP ((seqD e).getD []) l
def spChkLvD (C0 : Addr) : DSpX := fspX0 (fun d : D => [d]) okLvls (fun d y => lvlsBad d = false ∧ lvlsP ((seqD d).getD []) y) id (fun d C fs => lvlsBad d = true ∧ C = C0 ∧ fs = [])
theorem mon_checked_levels {C : Addr} : MonX (spChkLvD C) := fspX0.mon
theorem ups_checked_levels (T : Txt P w K mg) : UpsX K (upX K (spChkLvD T.C_BadTable)) (spChkLvD T.C_BadTable) := .rfl
theorem ok_checked_levels (T : Txt P w K mg) : FnOk P w K mg base (L2.CX P w) 4 T.f_checked_levels T.d_checked_levels ["things"] (upX K (spChkLvD T.C_BadTable)) := by
  refine T.F_checked_levels.okX sc_checked_levels (upX_len fun sp ds n R RX h => ?_) (fun cdv A outer s H vs Q E hr h => ?_)
  · obtain ⟨_, rfl, _⟩ := h
    rfl
  obtain ⟨sp, F, ds, n, hs, src, L, d, rfl, ⟨h1, h2⟩, k, kx⟩ := h
  refine d_runX (E := E) (N := ["things", "thing"]) (sl := [Sl.val _, Sl.emp]) (dss_cons (ds_if (DW.pt (dw_or (dt_not (dt_val (de_isi2 .lst .tup (by decide) (by decide) (fun _ => rfl) (fun _ => T.m_isinstance) rfl (fun _ => rfl) (fun _ => T.m_list) (by decide +kernel) (fun _ => rfl) (fun _ => T.m_tuple) (by decide +kernel) (dbv 0)))) (dw_or (dt_cmp dop_lt (DX.b (de_callB dc_len (fun _ => by rfl) (fun _ => T.m_len) (by decide +kernel) (dab_cons (dbv 0) dab_nil))) (DX.b de_int) (nomark _)) (dw_or1 (dt_cmp (dop_eq (fun _ => hr.units)) (DX.b (de_op dop_odd (DX.b (de_callB dc_len (fun _ => by rfl) (fun _ => T.m_len) (by decide +kernel) (dab_cons (dbv 0) dab_nil))) (DX.b de_int))) (DX.b de_int) (nomark _))))))
      (dss_one (ds_raise0 (fun _ => rfl) (fun _ => T.er_BadTable) (fun _ => T.fn_BadTable) (fun _ => hr) (fun _ => takes_of rfl rfl rfl rfl) (fun _ => by rfl)))
      dss_nil)
      (dss_one (ds_ret (de_tuple (fun _ => by rfl) (fun _ => T.m_tuple) (by decide +kernel) (da_cons (DO.x (do_lcX (i := 1) (own := [("thing", 1)]) (fun _ => rfl) (fun _ => sc_checked_levels.nd) (fun _ => rfl) (fun _ => rfl) (fun _ => takes_of rfl rfl rfl rfl) (di_seq (dv 0)) (fun _ => blkOk_by (own := [("thing", 1)]) (N := ["things", "thing"]) (sc := defScope s_checked_levels) (by decide +kernel)) (fun _ _ => pg_name (i := 1) sc_checked_levels.nd rfl (Or.inl rfl)) (fun _ => (de_callXB0 mon_checked_states (ups_checked_states T) (fun _ => ok_checked_states T) (fun _ => (hr.mono (by decide))) (fun _ => by rfl) (fun _ => T.m_checked_states) (fun _ => T.F_checked_states.kp) (fun _ => T.b_checked_states) (fun _ => L2.blkX_takes) (da_cons (dv 1) (da_cons (de_globT (fun _ => rfl) (fun _ => T.m_SIGNS) (dat_tupS T.q_SIGNS)) da_nil)))))) da_nil))))) hs src L rfl ?_
  have bad : lvlsBad d = true → PostX K sp F H E T.C_BadTable [] n := fun e => kx _ _ ⟨e, rfl, rfl⟩
  (rcases d with xTy | _ | _ | _ | _ | _ | ⟨_, _⟩ | _; (rcases xTy with _ | _ | _ | _ | _ | _ | _ | _); all_goals (try exact absurd rfl h1))
  all_goals walk_at "dr"
  all_goals first
    | exact bad rfl
    | skip
  all_goals
    rename_i es
    obtain ⟨hl, h2⟩ := h2 es rfl
    refine bif_d (fun a1 => bad ?_) fun a1 => ⟨by omega, rfl, rfl, bif_d (fun a2 => bad ?_) fun a2 => ?_⟩
    · unfold lvlsBad
      show (decide (es.length < 3) || _ || _) = true
      rw [decide_eq_true (by omega)]
      rfl
    · injection a2 with a2
      unfold lvlsBad
      show (_ || decide (es.length % 2 = 0) || _) = true
      rw [decide_eq_true (p := es.length % 2 = 0) (by omega)]
      simp
    replace a2 : ¬ es.length % 2 = 0 := fun q => a2 (by rw [show ((es.length : Nat) : Int) % 2 = 0 by omega])
    dsimp only [dLcX]
    walk_at "drx"
    refine ⟨fun s hs d => by
      simp only [List.mem_cons, List.not_mem_nil, or_false] at hs
      rcases hs with rfl | rfl
      · exact fun q => nomatch q
      · exact (fun q => nomatch q), fun Wt => ?_⟩
    refine dLc_inv (fun i acc n' => n' = n ∧ (∀ e ∈ es.take i, trisBad signsL e = false) ∧ acc.length = i ∧ ∀ (j : Nat) (e : D), j < i → es[j]? = some e → ∃ l, acc[j]? = some l ∧ trisP ((seqD e).getD []) l) ⟨rfl, (fun _ h => nomatch h), rfl, fun j e hj => absurd hj (Nat.not_lt_zero _)⟩ (fun i x acc n' N hi ⟨e1, e2, e3, e4⟩ hN => ?_) fun acc n' ⟨e1, e2, e3, e4⟩ => ?_
    · subst e1
      have hm := List.mem_of_getElem? hi
      have il := (List.getElem?_eq_some_iff.mp hi).1
      walk_at "drx"
      refine ⟨(x, signsL), rfl, h2 x hm, fun y ⟨q1, q2⟩ => ⟨rfl, by rw [e3]; exact Nat.lt_of_le_of_lt (Nat.le_trans (Nat.le_of_lt il) hl) (by decide), hN _ _ ⟨rfl, fun e he => ?_, ?_, fun j e hj he => ?_⟩⟩, fun C fs ⟨q1, q2, q3⟩ => ?_⟩
      · rw [take_more hi] at he
        rcases List.mem_append.mp he with q | q
        · exact e2 e q
        · rw [List.mem_singleton.mp q]
          exact q1
      · rw [List.length_append, List.length_singleton, e3]
      · by_cases z : j < i
        · obtain ⟨l, h3, h4⟩ := e4 j e z he
          exact ⟨l, by rw [List.getElem?_append_left (by omega)]; exact h3, h4⟩
        · obtain rfl : j = i := by omega
          rw [hi] at he
          cases he
          exact ⟨y, by rw [List.getElem?_append_right (by omega), e3, Nat.sub_self]; rfl, q2⟩
      · subst q2 q3
        refine bad ?_
        unfold lvlsBad
        show (_ || _ || es.any (trisBad signsL)) = true
        rw [List.any_eq_true.mpr ⟨x, hm, q1⟩]
        simp
    · subst e1
      rw [List.take_length] at e2
      refine ⟨_, Int.le_refl _, k _ ⟨?_, acc, rfl, e3, fun j e he => e4 j e (List.getElem?_eq_some_iff.mp he).1 he⟩⟩
      show lvlsBad _ = false
      unfold lvlsBad
      show (decide (es.length < 3) || decide (es.length % 2 = 0) || es.any (trisBad signsL)) = false
      rw [decide_eq_false (by omega), decide_eq_false a2, List.any_eq_false.mpr fun e he => by rw [e2 e he]; exact Bool.false_ne_true]
      rfl
/-! the periods -/
def perBad (m : Nat) : D → Bool
  | .v (.int i) => !decide (1 ≤ i) || !decide (i ≤ (m : Int))
  | _ => true
def spChkPeD (C0 : Addr) : DSpX := fspX0 (fun p : D × Nat => [p.1, eI (p.2 : Nat)]) (fun p => tyD p.1 ≠ none) (fun p y => perBad p.2 p.1 = false ∧ y = p.1) id (fun p C fs => perBad p.2 p.1 = true ∧ C = C0 ∧ fs = [])
theorem mon_checked_period {C : Addr} : MonX (spChkPeD C) := fspX0.mon
theorem ups_checked_period (T : Txt P w K mg) : UpsX K (upX K (spChkPeD T.C_BadTable)) (spChkPeD T.C_BadTable) := .rfl
theorem ok_checked_period (T : Txt P w K mg) : FnOk P w K mg base (L2.CX P w) 3 T.f_checked_period T.d_checked_period ["thing", "most"] (upX K (spChkPeD T.C_BadTable)) := by
  refine T.F_checked_period.okX sc_checked_period (upX_len fun sp ds n R RX h => ?_) (fun cdv A outer s H vs Q E hr h => ?_)
  · obtain ⟨_, rfl, _⟩ := h
    rfl
  obtain ⟨sp, F, ds, n, hs, src, L, ⟨d, m⟩, rfl, h1, k, kx⟩ := h
  refine d_runX (E := E) (N := ["thing", "most"]) (sl := [Sl.val _, Sl.val _]) (dss_cons (ds_if (DW.pt (dw_or (dt_not (dt_val (de_isi .int (by decide) (fun _ => rfl) (fun _ => T.m_isinstance) rfl (fun _ => rfl) (fun _ => T.m_int) (by decide +kernel) (dbv 0)))) (dw_or (dt_val (de_isi .bl (by decide) (fun _ => rfl) (fun _ => T.m_isinstance) rfl (fun _ => rfl) (fun _ => T.m_bool) (by decide +kernel) (dbv 0))) (dw_or1 (dt_not (dt_chain dop_le dop_le (DX.b de_int) (dbv 0) (dbv 1)))))))
      (dss_one (ds_raise0 (fun _ => rfl) (fun _ => T.er_BadTable) (fun _ => T.fn_BadTable) (fun _ => hr) (fun _ => takes_of rfl rfl rfl rfl) (fun _ => by rfl)))
      dss_nil)
      (dss_one (ds_ret (dv 0)))) hs src L rfl ?_
  have bad : perBad m d = true → PostX K sp F H E T.C_BadTable [] n := fun e => kx _ _ ⟨e, rfl, rfl⟩
  replace h1 : tyD d ≠ none := h1
  (rcases d with xTy | _ | _ | _ | _ | _ | ⟨_, _⟩ | _; (rcases xTy with _ | _ | _ | _ | _ | _ | _ | _); all_goals (try exact absurd rfl h1))
  all_goals walk_at "dr"
  all_goals first
    | exact bad rfl
    | skip
  rename_i i
  refine bif_d (fun a1 => bif_nd (fun a2 => bad ?_) fun a2 => ⟨n, Int.le_refl _, k _ ⟨?_, rfl⟩⟩) fun a1 => bad ?_
  · show (!decide (1 ≤ i) || !decide (i ≤ (m : Int))) = true
    rw [decide_eq_false a2]
    simp
  · show (!decide (1 ≤ i) || !decide (i ≤ (m : Int))) = false
    rw [decide_eq_true a1, decide_eq_true a2]
    rfl
  · show (!decide (1 ≤ i) || !decide (i ≤ (m : Int))) = true
    rw [decide_eq_false a1]
    rfl
--SPLIT
/-! ### Table -/
abbrev Tab4 := D × D × D × D
def tabBad (p : Tab4) : Bool := trisBad gapsL p.1 || lvlsBad p.2.1 || perBad (((seqD p.2.1).getD []).length / 2) p.2.2.1 || perBad (((seqD p.2.1).getD []).length / 2) p.2.2.2
def tableD (C : Addr) (al lv b c : D) : D := .ins C [(("_alone" : Str), al), (("_levels" : Str), lv), (("_below" : Str), b), (("_above" : Str), c)]
def spTableD (CC C0 : Addr) : DSpX := fspX0 (fun p : Tab4 => [p.1, p.2.1, p.2.2.1, p.2.2.2]) (fun p => okTris p.1 ∧ okLvls p.2.1 ∧ tyD p.2.2.1 ≠ none ∧ tyD p.2.2.2 ≠ none)
  (fun p y => tabBad p = false ∧ ∃ al lv, trisP ((seqD p.1).getD []) al ∧ lvlsP ((seqD p.2.1).getD []) lv ∧ y = tableD CC al lv p.2.2.1 p.2.2.2) id (fun p C fs => tabBad p = true ∧ C = C0 ∧ fs = [])
theorem mon_Table__init {C C1 : Addr} : MonX (spTableD C C1) := fspX0.mon
theorem ups_Table__init (T : Txt P w K mg) : UpsI K T.C_Table (upI K T.C_Table (spTableD T.C_Table T.C_BadTable)) (spTableD T.C_Table T.C_BadTable) := .rfl
theorem tabBad_of {p : Tab4} (h : trisBad gapsL p.1 = true ∨ lvlsBad p.2.1 = true ∨ perBad (((seqD p.2.1).getD []).length / 2) p.2.2.1 = true ∨ perBad (((seqD p.2.1).getD []).length / 2) p.2.2.2 = true) : tabBad p = true := by
  unfold tabBad
  rcases h with h | h | h | h
  all_goals rw [h]
  all_goals simp
theorem ok_Table__init (T : Txt P w K mg) : FnOk P w K mg base (L2.CX P w) 6 T.f_Table__init T.d_Table__init ["self", "alone", "levels", "below", "above"] (upI K T.C_Table (spTableD T.C_Table T.C_BadTable)) := by
  refine T.F_Table__init.okX sc_Table__init (upI_len (m := 4) fun sp ds n R RX h => ?_) (fun cdv A outer s H vs Q E hr h => ?_)
  · obtain ⟨_, rfl, _⟩ := h
    rfl
  obtain ⟨x, dx, us, H1, F, ds, rfl, hH, hx, hdx, hne, s, L, ⟨pa, pl, pb, pc⟩, rfl, ⟨h1, h2, h3, h4⟩, k, kx⟩ := h
  replace h3 : tyD pb ≠ none := h3
  replace h4 : tyD pc ≠ none := h4
  refine d_runI (E := E) (N := ["self", "alone", "levels", "below", "above", "checked_alone", "checked_levels", "most", "checked_below", "checked_above"]) (sl := [Sl.own _, Sl.val _, Sl.val _, Sl.val _, Sl.val _, Sl.emp, Sl.emp, Sl.emp, Sl.emp, Sl.emp]) (dss_cons (ds_set (i := 5) (fun _ => sc_Table__init.nd) (fun _ => rfl) (fun _ => Or.inl rfl) (de_callX0 mon_checked_states (ups_checked_states T) (fun _ => ok_checked_states T) (fun _ => (hr.mono (by decide))) (fun _ => by rfl) (fun _ => T.m_checked_states) (fun _ => T.F_checked_states.kp) (fun _ => T.b_checked_states) (fun _ => takes_of rfl rfl rfl rfl) (da_cons (dv 1) (da_cons (de_globT (fun _ => rfl) (fun _ => T.m_LONE_GAPS) (dat_tupS T.q_LONE_GAPS)) da_nil))))
      (dss_cons (ds_set (i := 6) (fun _ => sc_Table__init.nd) (fun _ => rfl) (fun _ => Or.inl rfl) (de_callX0 mon_checked_levels (ups_checked_levels T) (fun _ => ok_checked_levels T) (fun _ => (hr.mono (by decide))) (fun _ => by rfl) (fun _ => T.m_checked_levels) (fun _ => T.F_checked_levels.kp) (fun _ => T.b_checked_levels) (fun _ => takes_of rfl rfl rfl rfl) (da_cons (dv 2) da_nil)))
      (dss_cons (ds_set (i := 7) (fun _ => sc_Table__init.nd) (fun _ => rfl) (fun _ => Or.inl rfl) (de_op dop_fdivW (DX.b (de_callB dc_len (fun _ => by rfl) (fun _ => T.m_len) (by decide +kernel) (dab_cons (dbv 6) dab_nil))) (DX.b de_int)))
      (dss_cons (ds_set (i := 8) (fun _ => sc_Table__init.nd) (fun _ => rfl) (fun _ => Or.inl rfl) (de_callX0 mon_checked_period (ups_checked_period T) (fun _ => ok_checked_period T) (fun _ => (hr.mono (by decide))) (fun _ => by rfl) (fun _ => T.m_checked_period) (fun _ => T.F_checked_period.kp) (fun _ => T.b_checked_period) (fun _ => takes_of rfl rfl rfl rfl) (da_cons (dv 3) (da_cons (dv 7) da_nil))))
      (dss_cons (ds_set (i := 9) (fun _ => sc_Table__init.nd) (fun _ => rfl) (fun _ => Or.inl rfl) (de_callX0 mon_checked_period (ups_checked_period T) (fun _ => ok_checked_period T) (fun _ => (hr.mono (by decide))) (fun _ => by rfl) (fun _ => T.m_checked_period) (fun _ => T.F_checked_period.kp) (fun _ => T.b_checked_period) (fun _ => takes_of rfl rfl rfl rfl) (da_cons (dv 4) (da_cons (dv 7) da_nil))))
      (dss_cons (ds_fldO (i := 0) T.cl_Table T.na_Table_alone (fun _ => pv 0) (dv 5))
      (dss_cons (ds_fldO (i := 0) T.cl_Table T.na_Table_levels (fun _ => pv 0) (dv 6))
      (dss_cons (ds_fldO (i := 0) T.cl_Table T.na_Table_below (fun _ => pv 0) (dv 8))
      (dss_one (ds_fldO (i := 0) T.cl_Table T.na_Table_above (fun _ => pv 0) (dv 9))))))))))) hH hx hdx hne s L rfl ?_
  walk_at "dr"
  have lf : ∀ fs : List (Str × D), fs.length ≤ 4 → fs.length < 1000 := fun fs h => Nat.lt_of_le_of_lt h (by decide)
  refine ⟨(pa, gapsL), rfl, h1, fun y1 ⟨q1, q2⟩ => ?_, fun C fs ⟨q1, q2, q3⟩ => kx _ _ ⟨tabBad_of (.inl q1), q2, q3⟩⟩
  dsimp only [id]
  refine ⟨pl, rfl, h2, fun y2 ⟨q3, ls, q4, q5, q6⟩ => ?_, fun C fs ⟨q1, q2, q3⟩ => kx _ _ ⟨tabBad_of (.inr (.inl q1)), q2, q3⟩⟩
  subst q4
  dsimp only [id]
  walk_at "dr"
  have hn : ((seqD pl).getD []).length = ls.length := q5.symm
  have he : ∀ m : Int, m = (ls.length : Int) / 2 → m = ((ls.length / 2 : Nat) : Int) := fun m h => by rw [h]; rfl
  refine ⟨⟨by decide, by decide +kernel⟩, (pb, ls.length / 2), rfl, h3, fun y3 ⟨q7, q8⟩ => ?_, fun C fs ⟨q1, q2, q3⟩ => kx _ _ ⟨tabBad_of (.inr (.inr (.inl (by show perBad (((seqD pl).getD []).length / 2) pb = true; rw [hn]; exact q1)))), q2, q3⟩⟩
  subst q8
  dsimp only [id]
  refine ⟨(pc, ls.length / 2), rfl, h4, fun y4 ⟨q9, q10⟩ => ?_, fun C fs ⟨q1, q2, q3⟩ => kx _ _ ⟨tabBad_of (.inr (.inr (.inr (by show perBad (((seqD pl).getD []).length / 2) pc = true; rw [hn]; exact q1)))), q2, q3⟩⟩
  subst q10
  dsimp only [id]
  refine ⟨rfl, by decide, rfl, lf _ (by show 1 ≤ 4; decide), rfl, lf _ (by show 2 ≤ 4; decide), rfl, lf _ (by show 3 ≤ 4; decide), _, rfl, k _ ⟨?_, y1, .tup ls, q2, ⟨ls, rfl, q5, q6⟩, rfl⟩⟩
  show (trisBad gapsL pa || lvlsBad pl || perBad (((seqD pl).getD []).length / 2) _ || perBad (((seqD pl).getD []).length / 2) _) = false
  rw [hn, q1, q3, q7, q9]
  rfl
--SPLIT
/-! ### the law: what becomes of a table -/
def okTab (p : Tab4) : Prop := okTris p.1 ∧ okLvls p.2.1 ∧ tyD p.2.2.1 ≠ none ∧ tyD p.2.2.2 ≠ none
def spToldTD : DSp := fsp0 (fun p : Tab4 => [p.1, p.2.1, p.2.2.1, p.2.2.2]) okTab (fun p z => z = if tabBad p = true then ("bad" : Str) else "told") eS
theorem mon_law_told : Mon spToldTD := fsp0.mon
theorem ups_law_told (_ : Txt P w K mg) : Ups K (up K spToldTD) spToldTD := .rfl
theorem ok_law_told (T : Txt P w K mg) : FnOk P w K mg base CX0 8 T.f_law_told T.d_law_told ["_law_alone", "_law_levels", "_law_below", "_law_above"] (up K spToldTD) := by
  refine T.F_law_told.ok sc_law_told (up_len fun sp ds n R h => ?_) (fun cdv A outer s H vs Q E hr h => ?_)
  · obtain ⟨_, rfl, _⟩ := h
    rfl
  obtain ⟨sp, F, ds, n, hs, src, L, p, rfl, h1, k⟩ := h
  refine d_run (N := ["_law_alone", "_law_levels", "_law_below", "_law_above", "_law_found"]) (sl := [Sl.val _, Sl.val _, Sl.val _, Sl.val _, Sl.emp]) (dss_cons (ds_try0 (fun _ => rfl) (fun _ => rfl) (fun _ => sc_law_told.nd) 
      (fun ω' => (dss_cons (ds_expr (de_make mon_Table__init (ups_Table__init T) T.mk_Table (fun _ => ok_Table__init T) (fun _ => hr.mono (by decide)) (fun _ => by rfl) (fun _ => T.m_Table) T.b_Table__init .nil (dds := []) (fun _ => rfl) tryF_takes (da_cons (dv 0) (da_cons (dv 1) (da_cons (dv 2) (da_cons (dv 3) da_nil))))))
      (dss_one (ds_set (i := 4) (fun _ => sc_law_told.nd) (fun _ => rfl) (fun _ => Or.inl rfl) de_str))))
      (XClauses.one0 (fun _ => ⟨rfl, by decide, Or.inl T.er_BadTable.gC⟩) (fun xa dd fs => (dss_one (ds_set (i := 4) (fun _ => sc_law_told.nd) (fun _ => rfl) (fun _ => Or.inl rfl) de_str))) XClauses.nil))
      (dss_one (ds_ret (dv 4)))) hs src L rfl ?_
  walk_at "drx"
  intro W
  walk_at "drx"
  refine ⟨p, rfl, h1, fun y ⟨q1, al, lv, q2, q3, q4⟩ => ?_, fun C fs ⟨q1, q2, q3⟩ => ?_⟩
  · walk_at "drx"
    exact ⟨n, Int.le_refl _, k _ (if_neg (by rw [q1]; exact Bool.false_ne_true)).symm⟩
  · subst q2 q3
    refine .inl ⟨T.te_BadTable, rfl, fun xa => ?_⟩
    dsimp only [XClause.slots, XClause.ends, XClause.off]
    walk_at "drx"
    exact ⟨n, Int.le_refl _, k _ (if_pos q1).symm⟩
/-- good levels, as the law draws them -/
def LvG (m : Nat) (L : List D) : Prop := L.length = 2 * m + 1 ∧ ∀ e ∈ L, ∃ x ∈ signsL, e = .lst [.tup [eS "a", eS "b", eS x]]
/-! checked by counting -/
def okTB : D → Bool
  | .v (.str z) => decide (z.length ≤ 100)
  | d => (tyD d).isSome
def okTriB : D → Bool
  | .lst es => es.all okTB
  | .tup es => es.all okTB
  | .ctup _ => false
  | .ftup _ => false
  | d => (tyD d).isSome
def okTrisB (d : D) : Bool := (tyD d).isSome && match seqD d with
  | some es => decide (es.length ≤ 1000) && es.all okTriB
  | none => true
theorem isSome_ne {α : Type} {o : Option α} (h : o.isSome = true) : o ≠ none := fun q => by rw [q] at h; cases h
theorem okTB_of {d : D} (h : okTB d = true) : okT d := by
  unfold okTB at h
  split at h
  · rename_i z
    refine ⟨(fun q => nomatch q), fun y e => ?_⟩
    cases e
    exact Nat.le_trans (of_decide_eq_true h) (by decide)
  · rename_i n
    exact ⟨isSome_ne h, fun z e => absurd e (n z)⟩
theorem okTriB_of {d : D} (h : okTriB d = true) : okTri d := by
  unfold okTriB at h
  split at h
  · refine ⟨(fun q => nomatch q), (fun ds q => nomatch q), (fun ds q => nomatch q), fun es e x hx => ?_⟩
    cases e
    exact okTB_of (List.all_eq_true.mp h x hx)
  · refine ⟨(fun q => nomatch q), (fun ds q => nomatch q), (fun ds q => nomatch q), fun es e x hx => ?_⟩
    cases e
    exact okTB_of (List.all_eq_true.mp h x hx)
  · cases h
  · cases h
  · rename_i n1 n2 n3 n4
    refine ⟨isSome_ne h, n3, n4, fun es e x hx => ?_⟩
    cases d with
    | lst es => exact absurd rfl (n1 es)
    | tup es => exact absurd rfl (n2 es)
    | ctup es => exact absurd rfl (n3 es)
    | ftup es => exact absurd rfl (n4 es)
    | _ => cases e
theorem okTrisB_of {d : D} (h : okTrisB d = true) : okTris d := by
  unfold okTrisB at h
  rw [Bool.and_eq_true] at h
  refine ⟨isSome_ne h.1, fun es e => ?_⟩
  have h2 := h.2
  rw [e] at h2
  replace h2 : (decide (es.length ≤ 1000) && es.all okTriB) = true := h2
  rw [Bool.and_eq_true] at h2
  exact ⟨of_decide_eq_true h2.1, fun x hx => okTriB_of (List.all_eq_true.mp h2.2 x hx)⟩
theorem okLvls_of {d : D} {es : List D} (h : tyD d ≠ none) (e : seqD d = some es) (hl : es.length ≤ 1000) (he : ∀ x ∈ es, okTrisB x = true) : okLvls d := ⟨h, fun fs q => by
  rw [e] at q
  cases q
  exact ⟨hl, fun x hx => okTrisB_of (he x hx)⟩⟩
theorem okLvls_no {d : D} (h : tyD d ≠ none) (e : seqD d = none) : okLvls d := ⟨h, fun fs q => by rw [e] at q; cases q⟩
theorem lvlsBad_of {d : D} {es : List D} (e : seqD d = some es) (h : es.length < 3 ∨ es.length % 2 = 0 ∨ ∃ x ∈ es, trisBad signsL x = true) : lvlsBad d = true := by
  unfold lvlsBad
  rw [e]
  show (decide (es.length < 3) || decide (es.length % 2 = 0) || es.any (trisBad signsL)) = true
  rcases h with h | h | ⟨x, h1, h2⟩
  · rw [decide_eq_true h]
    rfl
  · rw [decide_eq_true h]
    simp
  · rw [List.any_eq_true.mpr ⟨x, h1, h2⟩]
    simp
def alG (g : Str) : D := .tup [eS "a", eS "b", eS g]
def oddA1 : List D := [eN, eI 5, eS "a", .lst [eS "a"], .lst [.tup [eS "a", eS "b"]], .lst [.tup [eS "a", eS "b", eS "<"]], .lst [.tup [eS "a", eS "", eS "none"]], .dK []]
def oddA2 (g : Str) : List D := [.lst [.tup [eS "a", eS "B", eS "none"]], .lst [.tup [eS "a", eS "b", eS "none", eI 1]], .lst ([alG g] ++ [eN])]
def oddA3 : List D := [.lst [.tup [eS "a", eS "b", .tup [eI 0, eS "<"]]], .lst [.tup [eS "a", eS "b", eS "both"]], .lst [.tup [eI 5, eS "b", eS "none"]]]
theorem oddA_bad {g : Str} (hg : g ∈ gapsL) : ∀ e ∈ oddA1 ++ oddA2 g ++ oddA3, trisBad gapsL e = true ∧ okTris e := by
  have key : ∀ g ∈ gapsL, ∀ e ∈ oddA1 ++ oddA2 g ++ oddA3, (trisBad gapsL e && okTrisB e) = true := by
    have h : (gapsL.all fun g => (oddA1 ++ oddA2 g ++ oddA3).all fun e => trisBad gapsL e && okTrisB e) = true := by decide +kernel
    exact fun g hg e he => List.all_eq_true.mp (List.all_eq_true.mp h g hg) e he
  intro e he
  have := key g hg e he
  rw [Bool.and_eq_true] at this
  exact ⟨this.1, okTrisB_of this.2⟩
theorem alone_good {g : Str} (hg : g ∈ gapsL) {d : D} (e : seqD d = some [alG g]) (h : tyD d ≠ none) : trisBad gapsL d = false ∧ okTris d := by
  have key : (gapsL.all fun g => isTriD gapsL (alG g) && okTriB (alG g)) = true := by decide +kernel
  have := List.all_eq_true.mp key g hg
  rw [Bool.and_eq_true] at this
  refine ⟨?_, h, fun es q => ?_⟩
  · unfold trisBad
    rw [e]
    show (!(isTriD gapsL (alG g) && true)) = false
    rw [this.1]
    rfl
  · rw [e] at q
    cases q
    exact ⟨by show 1 ≤ 1000; decide, fun x hx => by rw [List.mem_singleton.mp hx]; exact okTriB_of this.2⟩
theorem lv_el {x : Str} (hx : x ∈ signsL) : trisBad signsL (.lst [.tup [eS "a", eS "b", eS x]]) = false ∧ okTrisB (.lst [.tup [eS "a", eS "b", eS x]]) = true := by
  have key : (signsL.all fun x => !trisBad signsL (.lst [.tup [eS "a", eS "b", eS x]]) && okTrisB (.lst [.tup [eS "a", eS "b", eS x]])) = true := by decide +kernel
  have := List.all_eq_true.mp key x hx
  rw [Bool.and_eq_true, Bool.not_eq_true'] at this
  exact this
theorem lvls_good {m : Nat} {L : List D} (hL : LvG m L) (m1 : 1 ≤ m) (m3 : m ≤ 3) {d : D} (e : seqD d = some L) (h : tyD d ≠ none) : lvlsBad d = false ∧ okLvls d := by
  obtain ⟨h1, h2⟩ := hL
  refine ⟨?_, okLvls_of h e (by omega) fun x hx => ?_⟩
  · unfold lvlsBad
    rw [e]
    show (decide (L.length < 3) || decide (L.length % 2 = 0) || L.any (trisBad signsL)) = false
    rw [decide_eq_false (by omega), decide_eq_false (by omega), List.any_eq_false.mpr fun x hx => ?_]
    · rfl
    · obtain ⟨z, hz, rfl⟩ := h2 x hx
      rw [(lv_el hz).1]
      exact Bool.false_ne_true
  · obtain ⟨z, hz, rfl⟩ := h2 x hx
    exact (lv_el hz).2
theorem per_good {m : Nat} {i : Int} (h1 : 1 ≤ i) (h2 : i ≤ m) : perBad m (eI i) = false := by
  show (!decide (1 ≤ i) || !decide (i ≤ (m : Int))) = false
  rw [decide_eq_true h1, decide_eq_true h2]
  rfl
theorem cutD_mem {xs : List D} {a b : Option Int} {x : D} (h : x ∈ cutD xs a b) : x ∈ xs := by
  unfold cutD at h
  exact List.mem_of_mem_drop (List.mem_of_mem_take h)
theorem cutD_len {xs : List D} {a b : Option Int} : (cutD xs a b).length ≤ xs.length := by
  unfold cutD
  rw [List.length_take, List.length_drop]
  omega
theorem ne_same {a : Str} {R : D → Prop} (h : R (eB false)) : dEqB true (eS a) (eS a) R := by
  refine ⟨rfl, ?_⟩
  rw [decide_eq_true rfl]
  exact h
theorem told_good {p : Tab4} {R : D → Int → Prop} (o : okTab p) (t : tabBad p = false) (h : ∀ i, R (eS "told") i) : spToldTD none [p.1, p.2.1, p.2.2.1, p.2.2.2] 0 R := ⟨p, rfl, o, fun y hy => by
  have e : y = "told" := hy.trans (if_neg (by rw [t]; exact Bool.false_ne_true))
  subst e
  exact h _⟩
theorem told_bad {p : Tab4} {R : D → Int → Prop} (o : okTab p) (t : tabBad p = true) (h : ∀ i, R (eS "bad") i) : spToldTD none [p.1, p.2.1, p.2.2.1, p.2.2.2] 0 R := ⟨p, rfl, o, fun y hy => by
  have e : y = "bad" := hy.trans (if_pos t)
  subst e
  exact h _⟩
def oddP (m : Nat) : List D := [eI 0, eI ((m : Int) + 1), eB true, eN, eS "1", eI (0 - 1)]
def oddL1 (L : List D) : List D := [eN, eI 5, .lst [], .lst (cutD L none (some 1)), .lst (cutD L none (some 2)), .lst (L ++ [.lst []]), .lst (List.flatten (List.replicate 3 [eN])), .dK []]
def oddL2 : List D := [.lst [.lst [], .lst [], .lst [eI 5]], .lst [.lst [], .lst [.tup [eS "a", eS "b", eS "none"]], .lst []], .lst [.lst [], .lst [], eS "a"]]
def oddL3 (L : List D) : List D := [.lst (cutD L none (some (-1)) ++ [.lst [.tup [eS "a", eI 5, eS "<"]]]), .lst (cutD L none (some (-1)) ++ [.lst [.tup [eS "a", eS "b"]]])]
theorem oddP_bad {m : Nat} : ∀ x ∈ oddP m, perBad m x = true ∧ tyD x ≠ none := by
  intro x hx
  simp only [oddP, List.mem_cons, List.not_mem_nil, or_false] at hx
  rcases hx with rfl | rfl | rfl | rfl | rfl | rfl
  · exact ⟨rfl, fun q => nomatch q⟩
  · refine ⟨?_, fun q => nomatch q⟩
    show (!decide (1 ≤ (m : Int) + 1) || !decide ((m : Int) + 1 ≤ (m : Int))) = true
    rw [decide_eq_false (p := (m : Int) + 1 ≤ (m : Int)) (by omega)]
    simp
  · exact ⟨rfl, fun q => nomatch q⟩
  · exact ⟨rfl, fun q => nomatch q⟩
  · exact ⟨rfl, fun q => nomatch q⟩
  · exact ⟨rfl, fun q => nomatch q⟩
theorem oddL_bad {m : Nat} {L : List D} (hL : LvG m L) (m3 : m ≤ 3) : ∀ x ∈ oddL1 L ++ oddL2 ++ oddL3 L, lvlsBad x = true ∧ okLvls x := by
  obtain ⟨h1, h2⟩ := hL
  have okE : ∀ x ∈ L, okTrisB x = true := fun x hx => by
    obtain ⟨z, hz, rfl⟩ := h2 x hx
    exact (lv_el hz).2
  have lc : ∀ a b, (cutD L a b).length ≤ 7 := fun a b => Nat.le_trans cutD_len (by omega)
  have last : ∀ y, trisBad signsL y = true → okTrisB y = true → lvlsBad (.lst (cutD L none (some (-1)) ++ [y])) = true ∧ okLvls (.lst (cutD L none (some (-1)) ++ [y])) := fun y b o => by
    refine ⟨lvlsBad_of rfl (.inr (.inr ⟨y, by simp, b⟩)), okLvls_of (fun q => nomatch q) rfl (by have := lc none (some (-1)); rw [List.length_append, List.length_singleton]; omega) fun x hx => ?_⟩
    rcases List.mem_append.mp hx with q | q
    · exact okE x (cutD_mem q)
    · rw [List.mem_singleton.mp q]
      exact o
  intro x hx
  simp only [oddL1, oddL2, oddL3, List.cons_append, List.nil_append, List.mem_cons, List.not_mem_nil, or_false] at hx
  rcases hx with rfl | rfl | rfl | rfl | rfl | rfl | rfl | rfl | rfl | rfl | rfl | rfl | rfl
  · exact ⟨rfl, okLvls_no (fun q => nomatch q) rfl⟩
  · exact ⟨rfl, okLvls_no (fun q => nomatch q) rfl⟩
  · exact ⟨rfl, okLvls_of (fun q => nomatch q) rfl (by decide) fun x hx => nomatch hx⟩
  · exact ⟨lvlsBad_of rfl (.inl (by show (cutD L none (some ((1 : Nat) : Int))).length < 3; rw [cut_toD, List.length_take]; omega)), okLvls_of (fun q => nomatch q) rfl (by have := lc none (some 1); omega) fun x hx => okE x (cutD_mem hx)⟩
  · exact ⟨lvlsBad_of rfl (.inl (by show (cutD L none (some ((2 : Nat) : Int))).length < 3; rw [cut_toD, List.length_take]; omega)), okLvls_of (fun q => nomatch q) rfl (by have := lc none (some 2); omega) fun x hx => okE x (cutD_mem hx)⟩
  · refine ⟨lvlsBad_of rfl (.inr (.inl (by rw [List.length_append, List.length_singleton]; omega))), okLvls_of (fun q => nomatch q) rfl (by rw [List.length_append, List.length_singleton]; omega) fun x hx => ?_⟩
    rcases List.mem_append.mp hx with q | q
    · exact okE x q
    · rw [List.mem_singleton.mp q]
      decide +kernel
  · exact ⟨by decide +kernel, okLvls_of (fun q => nomatch q) rfl (by decide) (by decide +kernel)⟩
  · exact ⟨rfl, okLvls_no (fun q => nomatch q) rfl⟩
  · exact ⟨by decide +kernel, okLvls_of (fun q => nomatch q) rfl (by decide) (by decide +kernel)⟩
  · exact ⟨by decide +kernel, okLvls_of (fun q => nomatch q) rfl (by decide) (by decide +kernel)⟩
  · exact ⟨by decide +kernel, okLvls_of (fun q => nomatch q) rfl (by decide) (by decide +kernel)⟩
  · exact last _ (by decide +kernel) (by decide +kernel)
  · exact last _ (by decide +kernel) (by decide +kernel)
theorem ok_law (T : Txt P w K mg) : FnOk P w K mg base CX0 9 T.f_law T.d_law ["_law_script"] (spLaw K) := by
  refine T.F_law.ok sc_law (fun vs H Q E h => ?_) (fun cdv A outer s H vs Q E hr h => ?_)
  · obtain ⟨a, ns, rfl, _⟩ := h
    rfl
  obtain ⟨a, ns, rfl, hS, hlen, k⟩ := h
  refine law_run (ps_set (i := 1) sc_law.nd rfl (Or.inr rfl) (pe_call (ok_law_source T) (hr.mono (by decide)) (by rfl) T.m_law_source T.F_law_source.kp T.b_law_source .nil pass0 (pa_cons (pv 0) pa_nil))) (dss_cut (ds_set (i := 2) (fun _ => sc_law.nd) (fun _ => rfl) (fun _ => Or.inl rfl) (DO.x (do_lst (da_cons (de_tup (da_cons de_str (da_cons de_str (da_cons (de_call mon_law_pick (ups_law_pick T) (fun _ => ok_law_pick T) (fun _ => (hr.mono (by decide))) (fun _ => by rfl) (fun _ => T.m_law_pick) (fun _ => T.F_law_pick.kp) (fun _ => T.b_law_pick) (fun _ => pass0) (da_cons (dv 1) (da_cons (DO.x (do_lst (da_cons de_str (da_cons de_str (da_cons de_str da_nil))))) da_nil))) da_nil)))) da_nil))))
      (dss_cut (ds_set (i := 3) (fun _ => sc_law.nd) (fun _ => rfl) (fun _ => Or.inl rfl) (de_op dop_add (DX.b de_int) (DX.b (de_callF mon_law_draw (ups_law_draw T) (fun _ => ok_law_draw T) (fun _ => (hr.mono (by decide))) (fun _ => by rfl) (fun _ => T.m_law_draw) (fun _ => T.F_law_draw.kp) (fun _ => T.b_law_draw) (fun _ => pass0) (dab_cons (dbv 1) (dab_cons (DX.b de_int) dab_nil))))))
      (dss_cut (ds_setLc (i := 4) (own := [("_law_k", 8)]) (fun _ => rfl) (fun _ => sc_law.nd) (fun _ => rfl) (fun _ => rfl) (fun _ => sw_true rfl rfl rfl (by decide +kernel)) (di_range1 (fun _ => by rfl) (fun _ => T.m_range) (dab_cons (DX.b (de_op dop_add (DX.b (de_op dop_mul (DX.b de_int) (dbv 3))) (DX.b de_int))) dab_nil)) (fun _ => blkOk_by (own := [("_law_k", 8)]) (N := ["_law_script", "_law_source_here", "_law_alone", "_law_most", "_law_levels", "_law_odd_alone", "_law_odd_levels", "_law_odd", "_law_k"]) (sc := defScope s_law) (by decide +kernel)) (dg_name (i := 8) (fun _ => sc_law.nd) (fun _ => rfl) (fun _ => Or.inl rfl)) dts_nil (DO.x (do_lst (da_cons (de_tup (da_cons de_str (da_cons de_str (da_cons (de_call mon_law_pick (ups_law_pick T) (fun _ => ok_law_pick T) (fun _ => (hr.mono (by decide))) (fun _ => by rfl) (fun _ => T.m_law_pick) (fun _ => T.F_law_pick.kp) (fun _ => T.b_law_pick) (fun _ => pass0) (da_cons (dv 1) (da_cons (DO.x (do_lst (da_cons de_str (da_cons de_str (da_cons de_str da_nil))))) da_nil))) da_nil)))) da_nil))))
      (dss_cut (ds_if (DW.pt (dw_or (dt_cmp (dop_ne (fun _ => hr.units)) (DX.b (de_call0 mon_law_told (ups_law_told T) (fun _ => ok_law_told T) (fun _ => (hr.mono (by decide))) (fun _ => by rfl) (fun _ => T.m_law_told) (fun _ => T.F_law_told.kp) (fun _ => T.b_law_told) (fun _ => pass0) (da_cons (dv 2) (da_cons (dv 4) (da_cons (dv 3) (da_cons (dv 3) da_nil)))))) (DX.b de_str) (nomark _)) (dw_or1 (dt_cmp (dop_ne (fun _ => hr.units)) (DX.b (de_call0 mon_law_told (ups_law_told T) (fun _ => ok_law_told T) (fun _ => (hr.mono (by decide))) (fun _ => by rfl) (fun _ => T.m_law_told) (fun _ => T.F_law_told.kp) (fun _ => T.b_law_told) (fun _ => pass0) (da_cons (DO.x (do_lst da_nil)) (da_cons (DO.x (do_lst (da_cons (de_tup da_nil) (da_cons (DO.x (do_lst da_nil)) (da_cons (de_tup da_nil) da_nil))))) (da_cons de_int (da_cons de_int da_nil)))))) (DX.b de_str) (nomark _)))))
      (dss_one (ds_ret de_bl))
      dss_nil)
      (dss_cut (ds_if (dt_cmp (dop_ne (fun _ => hr.units)) (DX.b (de_call0 mon_law_told (ups_law_told T) (fun _ => ok_law_told T) (fun _ => (hr.mono (by decide))) (fun _ => by rfl) (fun _ => T.m_law_told) (fun _ => T.F_law_told.kp) (fun _ => T.b_law_told) (fun _ => pass0) (da_cons (de_tuple (fun _ => by rfl) (fun _ => T.m_tuple) (by decide +kernel) (da_cons (dv 2) da_nil)) (da_cons (de_tuple (fun _ => by rfl) (fun _ => T.m_tuple) (by decide +kernel) (da_cons (dv 4) da_nil)) (da_cons de_int (da_cons de_int da_nil)))))) (DX.b de_str) (nomark _))
      (dss_one (ds_ret de_bl))
      dss_nil)
      (dss_cut (ds_set (i := 5) (fun _ => sc_law.nd) (fun _ => rfl) (fun _ => Or.inl rfl) (DO.x (do_lst (da_cons de_non (da_cons de_int (da_cons de_str (da_cons (DO.x (do_lst (da_cons de_str da_nil))) (da_cons (DO.x (do_lst (da_cons (de_tup (da_cons de_str (da_cons de_str da_nil))) da_nil))) (da_cons (DO.x (do_lst (da_cons (de_tup (da_cons de_str (da_cons de_str (da_cons de_str da_nil)))) da_nil))) (da_cons (DO.x (do_lst (da_cons (de_tup (da_cons de_str (da_cons de_str (da_cons de_str da_nil)))) da_nil))) (da_cons (DO.x do_dnewK) da_nil)))))))))))
      (dss_cut (ds_set (i := 5) (fun _ => sc_law.nd) (fun _ => rfl) (fun _ => Or.inl rfl) (DO.x (do_cat (dv 5) (DO.x (do_lst (da_cons (DO.x (do_lst (da_cons (de_tup (da_cons de_str (da_cons de_str (da_cons de_str da_nil)))) da_nil))) (da_cons (DO.x (do_lst (da_cons (de_tup (da_cons de_str (da_cons de_str (da_cons de_str (da_cons de_int da_nil))))) da_nil))) (da_cons (DO.x (do_cat (dv 2) (DO.x (do_lst (da_cons de_non da_nil))))) da_nil))))))))
      (dss_cut (ds_set (i := 5) (fun _ => sc_law.nd) (fun _ => rfl) (fun _ => Or.inl rfl) (DO.x (do_cat (dv 5) (DO.x (do_lst (da_cons (DO.x (do_lst (da_cons (de_tup (da_cons de_str (da_cons de_str (da_cons (de_tup (da_cons de_int (da_cons de_str da_nil))) da_nil)))) da_nil))) (da_cons (DO.x (do_lst (da_cons (de_tup (da_cons de_str (da_cons de_str (da_cons de_str da_nil)))) da_nil))) (da_cons (DO.x (do_lst (da_cons (de_tup (da_cons de_int (da_cons de_str (da_cons de_str da_nil)))) da_nil))) da_nil))))))))
      (dss_cut (ds_set (i := 6) (fun _ => sc_law.nd) (fun _ => rfl) (fun _ => Or.inl rfl) (DO.x (do_lst (da_cons de_non (da_cons de_int (da_cons (DO.x (do_lst da_nil)) (da_cons (DO.x (do_slL (dv 4) dpo_none (dpo_some (DX.b de_int)))) (da_cons (DO.x (do_slL (dv 4) dpo_none (dpo_some (DX.b de_int)))) (da_cons (DO.x (do_cat (dv 4) (DO.x (do_lst (da_cons (DO.x (do_lst da_nil)) da_nil))))) (da_cons (DO.x (do_rep (DO.x (do_lst (da_cons de_non da_nil))) de_int)) (da_cons (DO.x do_dnewK) da_nil)))))))))))
      (dss_cut (ds_set (i := 6) (fun _ => sc_law.nd) (fun _ => rfl) (fun _ => Or.inl rfl) (DO.x (do_cat (dv 6) (DO.x (do_lst (da_cons (DO.x (do_lst (da_cons (DO.x (do_lst da_nil)) (da_cons (DO.x (do_lst da_nil)) (da_cons (DO.x (do_lst (da_cons de_int da_nil))) da_nil))))) (da_cons (DO.x (do_lst (da_cons (DO.x (do_lst da_nil)) (da_cons (DO.x (do_lst (da_cons (de_tup (da_cons de_str (da_cons de_str (da_cons de_str da_nil)))) da_nil))) (da_cons (DO.x (do_lst da_nil)) da_nil))))) (da_cons (DO.x (do_lst (da_cons (DO.x (do_lst da_nil)) (da_cons (DO.x (do_lst da_nil)) (da_cons de_str da_nil))))) da_nil))))))))
      (dss_cut (ds_set (i := 6) (fun _ => sc_law.nd) (fun _ => rfl) (fun _ => Or.inl rfl) (DO.x (do_cat (dv 6) (DO.x (do_lst (da_cons (DO.x (do_cat (DO.x (do_slL (dv 4) dpo_none (dpo_some (DX.b (de_neg (DX.b de_int)))))) (DO.x (do_lst (da_cons (DO.x (do_lst (da_cons (de_tup (da_cons de_str (da_cons de_int (da_cons de_str da_nil)))) da_nil))) da_nil))))) (da_cons (DO.x (do_cat (DO.x (do_slL (dv 4) dpo_none (dpo_some (DX.b (de_neg (DX.b de_int)))))) (DO.x (do_lst (da_cons (DO.x (do_lst (da_cons (de_tup (da_cons de_str (da_cons de_str da_nil))) da_nil))) da_nil))))) da_nil)))))))
      (dss_cut (ds_for (fun _ => PassesOwn.never) (fun _ => rfl) (di_seq (dv 5)) (dg_name (i := 7) (fun _ => sc_law.nd) (fun _ => rfl) (fun _ => Or.inl rfl))
      (dss_one (ds_if (dt_cmp (dop_ne (fun _ => hr.units)) (DX.b (de_call0 mon_law_told (ups_law_told T) (fun _ => ok_law_told T) (fun _ => (hr.mono (by decide))) (fun _ => by rfl) (fun _ => T.m_law_told) (fun _ => T.F_law_told.kp) (fun _ => T.b_law_told) (fun _ => pass0) (da_cons (dv 7) (da_cons (dv 4) (da_cons de_int (da_cons de_int da_nil)))))) (DX.b de_str) (nomark _))
      (dss_one (ds_ret de_bl))
      dss_nil)))
      (dss_cut (ds_for (fun _ => PassesOwn.never) (fun _ => rfl) (di_seq (dv 6)) (dg_name (i := 7) (fun _ => sc_law.nd) (fun _ => rfl) (fun _ => Or.inl rfl))
      (dss_one (ds_if (dt_cmp (dop_ne (fun _ => hr.units)) (DX.b (de_call0 mon_law_told (ups_law_told T) (fun _ => ok_law_told T) (fun _ => (hr.mono (by decide))) (fun _ => by rfl) (fun _ => T.m_law_told) (fun _ => T.F_law_told.kp) (fun _ => T.b_law_told) (fun _ => pass0) (da_cons (dv 2) (da_cons (dv 7) (da_cons de_int (da_cons de_int da_nil)))))) (DX.b de_str) (nomark _))
      (dss_one (ds_ret de_bl))
      dss_nil)))
      (dss_cut (ds_for (fun _ => PassesOwn.never) (fun _ => rfl) (di_seq (DO.x (do_lst (da_cons de_int (da_cons (de_op dop_add (dbv 3) (DX.b de_int)) (da_cons de_bl (da_cons de_non (da_cons de_str (da_cons (de_op dop_sub (DX.b de_int) (DX.b de_int)) da_nil))))))))) (dg_name (i := 7) (fun _ => sc_law.nd) (fun _ => rfl) (fun _ => Or.inl rfl))
      (dss_one (ds_if (DW.pt (dw_or (dt_cmp (dop_ne (fun _ => hr.units)) (DX.b (de_call0 mon_law_told (ups_law_told T) (fun _ => ok_law_told T) (fun _ => (hr.mono (by decide))) (fun _ => by rfl) (fun _ => T.m_law_told) (fun _ => T.F_law_told.kp) (fun _ => T.b_law_told) (fun _ => pass0) (da_cons (dv 2) (da_cons (dv 4) (da_cons (dv 7) (da_cons de_int da_nil)))))) (DX.b de_str) (nomark _)) (dw_or1 (dt_cmp (dop_ne (fun _ => hr.units)) (DX.b (de_call0 mon_law_told (ups_law_told T) (fun _ => ok_law_told T) (fun _ => (hr.mono (by decide))) (fun _ => by rfl) (fun _ => T.m_law_told) (fun _ => T.F_law_told.kp) (fun _ => T.b_law_told) (fun _ => pass0) (da_cons (dv 2) (da_cons (dv 4) (da_cons de_int (da_cons (dv 7) da_nil)))))) (DX.b de_str) (nomark _)))))
      (dss_one (ds_ret de_bl))
      dss_nil)))
      (dss_one (ds_ret de_bl)))))))))))))))) hS (by decide) k fun p => st_eq (sl' := [.emp, .val (sD p), .emp, .emp, .emp, .emp, .emp, .emp, .emp]) rfl ?_
  have ss : ∀ m : Nat, m ≤ 100 → m ≤ sizeLine := fun m h => Nat.le_trans h (by decide)
  refine cutI (fun a => ∃ g ∈ gapsL, a = ⟨[.emp, .val (sD p), .val (.lst [.tup [eS "a", eS "b", eS g]]), .emp, .emp, .emp, .emp, .emp, .emp], 1, some p⟩) ?_ ?_
  · walk_at "drx"
    refine ⟨ss 3 (by decide), p, gapsL.map eS, rfl, rfl, ⟨by decide, by decide⟩, by decide, fun d hd => ?_⟩
    obtain ⟨g, hg, rfl⟩ := List.mem_map.mp hd
    exact ⟨ss 3 (by decide), ss 1 (by decide), g, hg, rfl⟩
  rintro a ⟨g, hg, rfl⟩
  refine cutI (fun a => ∃ m : Nat, 1 ≤ m ∧ m ≤ 3 ∧ a = ⟨[.emp, .val (sD p), .val (.lst [.tup [eS "a", eS "b", eS g]]), .val (eI (m : Nat)), .emp, .emp, .emp, .emp, .emp], 2, some p⟩) ?_ ?_
  · walk_at "drx"
    refine ⟨p, 3, rfl, rfl, ⟨by decide, by decide⟩, by decide, fun d ⟨d0, d1⟩ => ⟨rfl, d.toNat + 1, by omega, by omega, ?_⟩⟩
    rw [show (1 : Int) + d = ((d.toNat + 1 : Nat) : Int) by omega]
    rfl
  rintro a ⟨m, m1, m3, rfl⟩
  refine cutI (fun a => ∃ L n, LvG m L ∧ n ≤ 20 ∧ a = ⟨[.emp, .val (sD p), .val (.lst [.tup [eS "a", eS "b", eS g]]), .val (eI (m : Nat)), .val (.lst L), .emp, .emp, .emp, .emp], n, some p⟩) ?_ ?_
  · walk_at "drx"
    refine ⟨?_, ?_, ?_⟩
    · rcases (by omega : m = 1 ∨ m = 2 ∨ m = 3) with rfl | rfl | rfl
      all_goals exact .inl (by decide)
    · constructor <;> omega
    refine dLc_inv (fun i acc n' => acc.length = i ∧ (∀ e ∈ acc, ∃ x ∈ signsL, e = .lst [.tup [eS "a", eS "b", eS x]]) ∧ n' = 2 + (i : Nat)) ⟨rfl, (fun _ h => nomatch h), rfl⟩ (fun i d acc n' N hi ⟨e1, e2, e3⟩ hN => ?_) fun acc n' ⟨e1, e2, e3⟩ => ?_
    · obtain ⟨il, rfl⟩ := rng_at hi
      subst e3
      walk_at "drx"
      refine ⟨ss 3 (by decide), p, signsL.map eS, rfl, rfl, ⟨by decide, by decide⟩, by omega, fun d hd => ?_⟩
      obtain ⟨x, hx, rfl⟩ := List.mem_map.mp hd
      refine ⟨ss 3 (by decide), ss 1 (by decide), rfl, Nat.lt_of_le_of_lt (show acc.length ≤ 100 by omega) (by decide), hN _ _ ⟨by rw [List.length_append, e1]; rfl, fun e he => ?_, by show (2 : Int) + (i : Nat) + 1 = 2 + ((i + 1 : Nat) : Int); omega⟩⟩
      rcases List.mem_append.mp he with q | q
      · exact e2 e q
      · exact ⟨x, hx, List.mem_singleton.mp q⟩
    · subst e3
      rw [rng_len] at e1
      exact ⟨acc, _, ⟨by omega, e2⟩, by rw [rng_len]; omega, rfl⟩
  rintro a ⟨L, n, hL, hn, rfl⟩
  obtain ⟨lL, eL⟩ := id hL
  have pg := fun (i : Int) (h1 : 1 ≤ i) (h2 : i ≤ (m : Int)) => per_good (m := m) h1 h2
  have hm2 : L.length / 2 = m := by omega
  -- what is told of four things
  have good : ∀ (da dl : D) (b c : Int), seqD da = some [alG g] → seqD dl = some L → tyD da ≠ none → tyD dl ≠ none → 1 ≤ b → b ≤ m → 1 ≤ c → c ≤ m → okTab (da, dl, eI b, eI c) ∧ tabBad (da, dl, eI b, eI c) = false := fun da dl b c ea el ta tl b1 b2 c1 c2 => by
    obtain ⟨x1, x2⟩ := alone_good hg ea ta
    obtain ⟨y1, y2⟩ := lvls_good hL m1 m3 el tl
    refine ⟨⟨x2, y2, (fun q => nomatch q), fun q => nomatch q⟩, ?_⟩
    unfold tabBad
    show (trisBad gapsL da || lvlsBad dl || perBad (((seqD dl).getD []).length / 2) (eI b) || perBad (((seqD dl).getD []).length / 2) (eI c)) = false
    rw [el]
    show (_ || _ || perBad (L.length / 2) (eI b) || perBad (L.length / 2) (eI c)) = false
    rw [hm2, x1, y1, pg b b1 b2, pg c c1 c2]
    rfl
  refine cutI (fun a => a = ⟨[.emp, .val (sD p), .val (.lst [alG g]), .val (eI (m : Nat)), .val (.lst L), .emp, .emp, .emp, .emp], n, some p⟩) ?_ ?_
  · walk_at "drx"
    obtain ⟨o1, t1⟩ := good (.lst [alG g]) (.lst L) m m rfl rfl (fun q => nomatch q) (fun q => nomatch q) (by omega) (by omega) (by omega) (by omega)
    refine told_good o1 t1 fun _ => ne_same ?_
    walk_at "drx"
    refine ⟨ss 0 (by decide), ss 0 (by decide), ss 0 (by decide), ss 0 (by decide), ss 3 (by decide), ?_⟩
    refine told_good (p := (.lst [], .lst [.tup [], .lst [], .tup []], eI 1, eI 1)) ⟨okTrisB_of (by decide +kernel), okLvls_of (fun q => nomatch q) rfl (by decide) (by decide +kernel), (fun q => nomatch q), fun q => nomatch q⟩ (by decide +kernel) fun _ => ne_same ?_
    walk_at "drx"
    rfl
  rintro a rfl
  refine cutI (fun a => a = ⟨[.emp, .val (sD p), .val (.lst [alG g]), .val (eI (m : Nat)), .val (.lst L), .emp, .emp, .emp, .emp], n, some p⟩) ?_ ?_
  · walk_at "drx"
    obtain ⟨o1, t1⟩ := good (.tup [alG g]) (.tup L) 1 1 rfl rfl (fun q => nomatch q) (fun q => nomatch q) (by omega) (by omega) (by omega) (by omega)
    refine told_good o1 t1 fun _ => ne_same ?_
    rfl
  rintro a rfl
  refine cutI (fun a => a = ⟨[.emp, .val (sD p), .val (.lst [alG g]), .val (eI (m : Nat)), .val (.lst L), .val (.lst oddA1), .emp, .emp, .emp], n, some p⟩) ?_ ?_
  · walk_at "drx"
    exact ⟨by decide, by decide, by decide, by decide, by decide, by decide, by decide, by decide, rfl⟩
  rintro a rfl
  refine cutI (fun a => a = ⟨[.emp, .val (sD p), .val (.lst [alG g]), .val (eI (m : Nat)), .val (.lst L), .val (.lst (oddA1 ++ oddA2 g)), .emp, .emp, .emp], n, some p⟩) ?_ ?_
  · walk_at "drx"
    exact ⟨by decide, by decide, by decide, by decide, by decide, by show 1 + 1 ≤ sizeLine; decide, by show 3 ≤ sizeLine; decide, by show 8 + 3 ≤ sizeLine; decide, rfl⟩
  rintro a rfl
  refine cutI (fun a => a = ⟨[.emp, .val (sD p), .val (.lst [alG g]), .val (eI (m : Nat)), .val (.lst L), .val (.lst (oddA1 ++ oddA2 g ++ oddA3)), .emp, .emp, .emp], n, some p⟩) ?_ ?_
  · walk_at "drx"
    exact ⟨by decide, by decide, by decide, by decide, by decide, by decide, by decide, by decide, by show 11 + 3 ≤ sizeLine; decide, rfl⟩
  rintro a rfl
  refine cutI (fun a => a = ⟨[.emp, .val (sD p), .val (.lst [alG g]), .val (eI (m : Nat)), .val (.lst L), .val (.lst (oddA1 ++ oddA2 g ++ oddA3)), .val (.lst (oddL1 L)), .emp, .emp], n, some p⟩) ?_ ?_
  · walk_at "drx"
    exact ⟨by decide, by decide, by decide, ss _ (by show L.length + 1 ≤ 100; omega), by decide, ⟨by decide, by decide, by decide⟩, by show 8 ≤ sizeLine; decide, rfl⟩
  rintro a rfl
  refine cutI (fun a => a = ⟨[.emp, .val (sD p), .val (.lst [alG g]), .val (eI (m : Nat)), .val (.lst L), .val (.lst (oddA1 ++ oddA2 g ++ oddA3)), .val (.lst (oddL1 L ++ oddL2)), .emp, .emp], n, some p⟩) ?_ ?_
  · walk_at "drx"
    repeat' (first | rfl | decide | apply And.intro)
    all_goals first
      | (show 8 + 3 ≤ sizeLine; decide)
      | (show 11 + 2 ≤ sizeLine; decide)
      | (show 2 ≤ sizeLine; decide)
      | (have := cutD_len (xs := L) (a := none) (b := some (-1)); exact ss _ (by show (cutD L none (some (-1))).length + 1 ≤ 100; omega))
  rintro a rfl
  refine cutI (fun a => a = ⟨[.emp, .val (sD p), .val (.lst [alG g]), .val (eI (m : Nat)), .val (.lst L), .val (.lst (oddA1 ++ oddA2 g ++ oddA3)), .val (.lst (oddL1 L ++ oddL2 ++ oddL3 L)), .emp, .emp], n, some p⟩) ?_ ?_
  · walk_at "drx"
    repeat' (first | rfl | decide | apply And.intro)
    all_goals first
      | (show 8 + 3 ≤ sizeLine; decide)
      | (show 11 + 2 ≤ sizeLine; decide)
      | (show 2 ≤ sizeLine; decide)
      | (have := cutD_len (xs := L) (a := none) (b := some (-1)); exact ss _ (by show (cutD L none (some (-1))).length + 1 ≤ 100; omega))
  rintro a rfl
  have oL : okLvls (.lst L) ∧ lvlsBad (.lst L) = false := let ⟨x1, x2⟩ := lvls_good hL m1 m3 (d := .lst L) rfl (fun q => nomatch q); ⟨x2, x1⟩
  have oA : okTris (.lst [alG g]) := (alone_good hg (d := .lst [alG g]) rfl (fun q => nomatch q)).2
  refine cutI (fun a => ∃ s7, a = ⟨[.emp, .val (sD p), .val (.lst [alG g]), .val (eI (m : Nat)), .val (.lst L), .val (.lst (oddA1 ++ oddA2 g ++ oddA3)), .val (.lst (oddL1 L ++ oddL2 ++ oddL3 L)), s7, .emp], n, some p⟩) ?_ ?_
  · walk_at "drx"
    refine dLoop_inv (fun i a => ∃ s7, a = ⟨[.emp, .val (sD p), .val (.lst [alG g]), .val (eI (m : Nat)), .val (.lst L), .val (.lst (oddA1 ++ oddA2 g ++ oddA3)), .val (.lst (oddL1 L ++ oddL2 ++ oddL3 L)), s7, .emp], n, some p⟩) ⟨_, rfl⟩ (fun i x a N hi ⟨s7, e⟩ hN => ?_) fun a h => h
    subst e
    obtain ⟨b1, b2⟩ := oddA_bad hg x (List.mem_of_getElem? hi)
    walk_at "drx"
    refine told_bad (p := (x, .lst L, eI 1, eI 1)) ⟨b2, oL.1, (fun q => nomatch q), fun q => nomatch q⟩ (tabBad_of (.inl b1)) fun _ => ne_same ?_
    exact hN _ ⟨_, rfl⟩
  rintro a ⟨s7, rfl⟩
  refine cutI (fun a => ∃ s7, a = ⟨[.emp, .val (sD p), .val (.lst [alG g]), .val (eI (m : Nat)), .val (.lst L), .val (.lst (oddA1 ++ oddA2 g ++ oddA3)), .val (.lst (oddL1 L ++ oddL2 ++ oddL3 L)), s7, .emp], n, some p⟩) ?_ ?_
  · walk_at "drx"
    refine dLoop_inv (fun i a => ∃ s7, a = ⟨[.emp, .val (sD p), .val (.lst [alG g]), .val (eI (m : Nat)), .val (.lst L), .val (.lst (oddA1 ++ oddA2 g ++ oddA3)), .val (.lst (oddL1 L ++ oddL2 ++ oddL3 L)), s7, .emp], n, some p⟩) ⟨_, rfl⟩ (fun i x a N hi ⟨s7, e⟩ hN => ?_) fun a h => h
    subst e
    obtain ⟨b1, b2⟩ := oddL_bad hL m3 x (List.mem_of_getElem? hi)
    walk_at "drx"
    refine told_bad (p := (.lst [alG g], x, eI 1, eI 1)) ⟨oA, b2, (fun q => nomatch q), fun q => nomatch q⟩ (tabBad_of (.inr (.inl b1))) fun _ => ne_same ?_
    exact hN _ ⟨_, rfl⟩
  rintro a ⟨s7, rfl⟩
  refine cutI (fun a => ∃ s7, a = ⟨[.emp, .val (sD p), .val (.lst [alG g]), .val (eI (m : Nat)), .val (.lst L), .val (.lst (oddA1 ++ oddA2 g ++ oddA3)), .val (.lst (oddL1 L ++ oddL2 ++ oddL3 L)), s7, .emp], n, some p⟩) ?_ ?_
  · walk_at "drx"
    refine ⟨by show 6 ≤ sizeLine; decide, dLoop_inv (fun i a => ∃ s7, a = ⟨[.emp, .val (sD p), .val (.lst [alG g]), .val (eI (m : Nat)), .val (.lst L), .val (.lst (oddA1 ++ oddA2 g ++ oddA3)), .val (.lst (oddL1 L ++ oddL2 ++ oddL3 L)), s7, .emp], n, some p⟩) ⟨_, rfl⟩ (fun i x a N hi ⟨s7, e⟩ hN => ?_) fun a h => h⟩
    subst e
    obtain ⟨b1, b2⟩ := oddP_bad (m := m) x (List.mem_of_getElem? hi)
    walk_at "drx"
    have hb : perBad (((seqD (.lst L)).getD []).length / 2) x = true := by show perBad (L.length / 2) x = true; rw [hm2]; exact b1
    refine told_bad (p := (.lst [alG g], .lst L, x, eI 1)) ⟨oA, oL.1, b2, fun q => nomatch q⟩ (tabBad_of (.inr (.inr (.inl hb)))) fun _ => ne_same ?_
    walk_at "drx"
    refine told_bad (p := (.lst [alG g], .lst L, eI 1, x)) ⟨oA, oL.1, (fun q => nomatch q), b2⟩ (tabBad_of (.inr (.inr (.inr hb)))) fun _ => ne_same ?_
    exact hN _ ⟨_, rfl⟩
  rintro a ⟨s7, rfl⟩
  walk_at "drx"
  exact ⟨n, Int.le_refl _, rfl⟩
--SPLIT
end
theorem all_mk {l : PySem.W.OpenLaw} {w : World} {K : PySem.W.Frag} {h : Heap} {mg : Str → Option Value} {fa : Addr} (X : K.In h) (G : h.Ns mainGlobals mg) (hfa : mg "law" = some (.ref fa))
    {f_is_name f_checked_states f_checked_levels f_checked_period f_Table__init f_law_source f_law_draw f_law_pick f_law_told f_law : Addr}
    {od_is_name an_is_name od_checked_states an_checked_states od_checked_levels an_checked_levels od_checked_period an_checked_period od_Table__init an_Table__init od_law_source an_law_source od_law_draw an_law_draw od_law_pick an_law_pick od_law_told an_law_told od_law an_law : Option Addr} {sl_is_name sl_checked_states sl_checked_levels sl_checked_period sl_Table__init sl_law_source sl_law_draw sl_law_pick sl_law_told sl_law : Array (Option Value)}
    {oc_is_name kV_is_name dc_is_name pm_is_name cd_is_name ct_is_name oc_checked_states kV_checked_states dc_checked_states pm_checked_states cd_checked_states ct_checked_states oc_checked_levels kV_checked_levels dc_checked_levels pm_checked_levels cd_checked_levels ct_checked_levels oc_checked_period kV_checked_period dc_checked_period pm_checked_period cd_checked_period ct_checked_period oc_Table__init kV_Table__init dc_Table__init pm_Table__init cd_Table__init ct_Table__init oc_law_source kV_law_source dc_law_source pm_law_source cd_law_source ct_law_source oc_law_draw kV_law_draw dc_law_draw pm_law_draw cd_law_draw ct_law_draw oc_law_pick kV_law_pick dc_law_pick pm_law_pick cd_law_pick ct_law_pick oc_law_told kV_law_told dc_law_told pm_law_told cd_law_told ct_law_told oc_law kV_law dc_law pm_law cd_law ct_law : Value}
    {a_SIGNS : Addr} {n_SIGNS : Nat} {sl_SIGNS : Array (Option Value)} {t_SIGNS_0 t_SIGNS_1 t_SIGNS_2 : Tok}
    {a_LONE_GAPS : Addr} {n_LONE_GAPS : Nat} {sl_LONE_GAPS : Array (Option Value)} {t_LONE_GAPS_0 t_LONE_GAPS_1 t_LONE_GAPS_2 : Tok}
    {t_LETTERS : Tok}
    {C_Table : Addr}
    {C_BadTable i_BadTable N_BadTable B_BadTable cda_BadTable cc_BadTable : Addr} {nm_BadTable q_BadTable : Str} {bs_BadTable : List Value} {sn_BadTable : List Str} {sub_BadTable : List Value} {ab_BadTable : Bool} {col_BadTable : Option Bool} {dd_BadTable od_BadTable an_BadTable cdd_BadTable cld_BadTable : Option Addr} {k0_BadTable k1_BadTable k2_BadTable k3_BadTable k5_BadTable : Option Value} {oc_BadTable doc_BadTable pm_BadTable kV_BadTable ct_BadTable ccl_BadTable cl_BadTable : Value} {osl_BadTable ccs_BadTable csl_BadTable : Array (Option Value)} {vs_BadTable : Array Value} {file_BadTable : Str} {tf_BadTable : Tok}
    (x_SIGNS : PySem.W.nsIn K mainGlobals "SIGNS" = some (some (.ref a_SIGNS)))
    (lk_SIGNS : K.lookup a_SIGNS = some ⟨.type "tuple", none, .seq #[.str "<" t_SIGNS_0, .str "=" t_SIGNS_1, .str ">" t_SIGNS_2] n_SIGNS, sl_SIGNS⟩)
    (x_LONE_GAPS : PySem.W.nsIn K mainGlobals "LONE_GAPS" = some (some (.ref a_LONE_GAPS)))
    (lk_LONE_GAPS : K.lookup a_LONE_GAPS = some ⟨.type "tuple", none, .seq #[.str "none" t_LONE_GAPS_0, .str "first" t_LONE_GAPS_1, .str "second" t_LONE_GAPS_2] n_LONE_GAPS, sl_LONE_GAPS⟩)
    (g_LETTERS : PySem.W.nsIn K mainGlobals "LETTERS" = some (some (.str "abcdefghijklmnopqrstuvwxyz" t_LETTERS)))
    (cg_Table : PySem.W.nsIn K mainGlobals "Table" = some (some (.ref C_Table)))
    (cpg_Table : PySem.W.plainGet K C_Table Str.empty = true)
    (chd_Table : PySem.W.hasDictIn K C_Table = true)
    (cpo_Table : PySem.W.plainOver K C_Table = true)
    (csa_Table : PySem.W.findIn K (.ref C_Table) "__setattr__" = some (some (.builtin "object.__setattr__")))
    (cmk_Table : PySem.W.makesIn K C_Table = true)
    (ckc_Table : PySem.W.keepIn K (.ref C_Table) = true)
    (cn_Table_alone : PySem.W.findIn K (.ref C_Table) "_alone" = some none)
    (cn_Table_levels : PySem.W.findIn K (.ref C_Table) "_levels" = some none)
    (cn_Table_below : PySem.W.findIn K (.ref C_Table) "_below" = some none)
    (cn_Table_above : PySem.W.findIn K (.ref C_Table) "_above" = some none)
    (a_Table__init : PySem.W.findIn K (.ref C_Table) "__init__" = some (some (.ref f_Table__init)))
    (i_Table__init : PySem.W.isFn K (.ref f_Table__init) = true)
    (l_Table__init : K.lookup f_Table__init = some ⟨oc_Table__init, od_Table__init, .func (PySem.W.fnOf "__init__" "Table.__init__" (defArgs s_Table__init) (defBody s_Table__init) (defScope s_Table__init) .none kV_Table__init dc_Table__init pm_Table__init an_Table__init cd_Table__init ct_Table__init), sl_Table__init⟩)
    (c_Table__init : PySem.W.codeIn K cd_Table__init "Table.__init__" = true)
    (k_Table__init : PySem.W.keepIn K (.ref f_Table__init) = true)
    (a_is_name : PySem.W.nsIn K mainGlobals "is_name" = some (some (.ref f_is_name)))
    (l_is_name : K.lookup f_is_name = some ⟨oc_is_name, od_is_name, .func (PySem.W.fnOf "is_name" "is_name" (defArgs s_is_name) (defBody s_is_name) (defScope s_is_name) .none kV_is_name dc_is_name pm_is_name an_is_name cd_is_name ct_is_name), sl_is_name⟩)
    (c_is_name : PySem.W.codeIn K cd_is_name "is_name" = true)
    (k_is_name : PySem.W.keepIn K (.ref f_is_name) = true)
    (a_checked_states : PySem.W.nsIn K mainGlobals "_checked_states" = some (some (.ref f_checked_states)))
    (l_checked_states : K.lookup f_checked_states = some ⟨oc_checked_states, od_checked_states, .func (PySem.W.fnOf "_checked_states" "_checked_states" (defArgs s_checked_states) (defBody s_checked_states) (defScope s_checked_states) .none kV_checked_states dc_checked_states pm_checked_states an_checked_states cd_checked_states ct_checked_states), sl_checked_states⟩)
    (c_checked_states : PySem.W.codeIn K cd_checked_states "_checked_states" = true)
    (k_checked_states : PySem.W.keepIn K (.ref f_checked_states) = true)
    (a_checked_levels : PySem.W.nsIn K mainGlobals "_checked_levels" = some (some (.ref f_checked_levels)))
    (l_checked_levels : K.lookup f_checked_levels = some ⟨oc_checked_levels, od_checked_levels, .func (PySem.W.fnOf "_checked_levels" "_checked_levels" (defArgs s_checked_levels) (defBody s_checked_levels) (defScope s_checked_levels) .none kV_checked_levels dc_checked_levels pm_checked_levels an_checked_levels cd_checked_levels ct_checked_levels), sl_checked_levels⟩)
    (c_checked_levels : PySem.W.codeIn K cd_checked_levels "_checked_levels" = true)
    (k_checked_levels : PySem.W.keepIn K (.ref f_checked_levels) = true)
    (a_checked_period : PySem.W.nsIn K mainGlobals "_checked_period" = some (some (.ref f_checked_period)))
    (l_checked_period : K.lookup f_checked_period = some ⟨oc_checked_period, od_checked_period, .func (PySem.W.fnOf "_checked_period" "_checked_period" (defArgs s_checked_period) (defBody s_checked_period) (defScope s_checked_period) .none kV_checked_period dc_checked_period pm_checked_period an_checked_period cd_checked_period ct_checked_period), sl_checked_period⟩)
    (c_checked_period : PySem.W.codeIn K cd_checked_period "_checked_period" = true)
    (k_checked_period : PySem.W.keepIn K (.ref f_checked_period) = true)
    (a_law_source : PySem.W.nsIn K mainGlobals "_law_source" = some (some (.ref f_law_source)))
    (l_law_source : K.lookup f_law_source = some ⟨oc_law_source, od_law_source, .func (PySem.W.fnOf "_law_source" "_law_source" (defArgs s_law_source) (defBody s_law_source) (defScope s_law_source) .none kV_law_source dc_law_source pm_law_source an_law_source cd_law_source ct_law_source), sl_law_source⟩)
    (c_law_source : PySem.W.codeIn K cd_law_source "_law_source" = true)
    (k_law_source : PySem.W.keepIn K (.ref f_law_source) = true)
    (a_law_draw : PySem.W.nsIn K mainGlobals "_law_draw" = some (some (.ref f_law_draw)))
    (l_law_draw : K.lookup f_law_draw = some ⟨oc_law_draw, od_law_draw, .func (PySem.W.fnOf "_law_draw" "_law_draw" (defArgs s_law_draw) (defBody s_law_draw) (defScope s_law_draw) .none kV_law_draw dc_law_draw pm_law_draw an_law_draw cd_law_draw ct_law_draw), sl_law_draw⟩)
    (c_law_draw : PySem.W.codeIn K cd_law_draw "_law_draw" = true)
    (k_law_draw : PySem.W.keepIn K (.ref f_law_draw) = true)
    (a_law_pick : PySem.W.nsIn K mainGlobals "_law_pick" = some (some (.ref f_law_pick)))
    (l_law_pick : K.lookup f_law_pick = some ⟨oc_law_pick, od_law_pick, .func (PySem.W.fnOf "_law_pick" "_law_pick" (defArgs s_law_pick) (defBody s_law_pick) (defScope s_law_pick) .none kV_law_pick dc_law_pick pm_law_pick an_law_pick cd_law_pick ct_law_pick), sl_law_pick⟩)
    (c_law_pick : PySem.W.codeIn K cd_law_pick "_law_pick" = true)
    (k_law_pick : PySem.W.keepIn K (.ref f_law_pick) = true)
    (a_law_told : PySem.W.nsIn K mainGlobals "_law_told" = some (some (.ref f_law_told)))
    (l_law_told : K.lookup f_law_told = some ⟨oc_law_told, od_law_told, .func (PySem.W.fnOf "_law_told" "_law_told" (defArgs s_law_told) (defBody s_law_told) (defScope s_law_told) .none kV_law_told dc_law_told pm_law_told an_law_told cd_law_told ct_law_told), sl_law_told⟩)
    (c_law_told : PySem.W.codeIn K cd_law_told "_law_told" = true)
    (k_law_told : PySem.W.keepIn K (.ref f_law_told) = true)
    (a_law : PySem.W.nsIn K mainGlobals "law" = some (some (.ref f_law)))
    (l_law : K.lookup f_law = some ⟨oc_law, od_law, .func (PySem.W.fnOf "law" "law" (defArgs s_law) (defBody s_law) (defScope s_law) .none kV_law dc_law pm_law an_law cd_law ct_law), sl_law⟩)
    (c_law : PySem.W.codeIn K cd_law "law" = true)
    (k_law : PySem.W.keepIn K (.ref f_law) = true)
    (z_int : PySem.W.nsIn K mainGlobals "int" = some none)
    (z_str : PySem.W.nsIn K mainGlobals "str" = some none)
    (z_bool : PySem.W.nsIn K mainGlobals "bool" = some none)
    (z_range : PySem.W.nsIn K mainGlobals "range" = some none)
    (z_len : PySem.W.nsIn K mainGlobals "len" = some none)
    (z_isinstance : PySem.W.nsIn K mainGlobals "isinstance" = some none)
    (z_all : PySem.W.nsIn K mainGlobals "all" = some none)
    (z_list : PySem.W.nsIn K mainGlobals "list" = some none)
    (z_tuple : PySem.W.nsIn K mainGlobals "tuple" = some none)
    (z_sorted : PySem.W.nsIn K mainGlobals "sorted" = some none)
    (xg_BadTable : PySem.W.nsIn K mainGlobals "BadTable" = some (some (.ref C_BadTable)))
    (xc_BadTable : K.lookup C_BadTable = some (excClassObj nm_BadTable q_BadTable C_BadTable N_BadTable bs_BadTable (.ref B_BadTable :: PySem.SupX.veTl) true sn_BadTable sub_BadTable ab_BadTable col_BadTable dd_BadTable k0_BadTable k1_BadTable k2_BadTable k3_BadTable k5_BadTable "ValueError.__new__"))
    (xsa_BadTable : PySem.W.findIn K (.ref C_BadTable) "__setattr__" = some (some (.builtin "object.__setattr__")))
    (xga_BadTable : PySem.W.findIn K (.ref C_BadTable) "__getattribute__" = some (some (.builtin "BaseException.__getattribute__")))
    (xgg_BadTable : PySem.W.findIn K (.ref C_BadTable) "__getattr__" = some none)
    (xic_BadTable : PySem.W.findIn K (.ref C_BadTable) "__init__" = some (some (.ref i_BadTable)))
    (xtc_BadTable : PySem.W.typeIn K (.ref i_BadTable) = some (.type "function"))
    (xkc_BadTable : PySem.W.keepIn K (.ref C_BadTable) = true)
    (xex_BadTable : PySem.W.subIn K (.ref C_BadTable) (.type "BaseException") = some true)
    (xty_BadTable : PySem.W.typeIn K (.ref C_BadTable) = some (.type "type"))
    (xhd_BadTable : PySem.W.hasDictIn K C_BadTable = true)
    (xsu_BadTable : PySem.W.ks_superIn K C_BadTable C_BadTable "__init__" = some (some (.builtin "ValueError.__init__")))
    (xsv_BadTable : PySem.W.subIn K (.ref C_BadTable) (.type "ValueError") = some true)
    (xmr_BadTable : PySem.W.mroIn K C_BadTable (.ref C_BadTable) = some true)
    (xst_BadTable : PySem.W.nsIn K PySem.cStatics "thirdparty.any" = some none)
    (xms_BadTable : PySem.W.nsIn K mainGlobals "super" = some none)
    (xht_BadTable : (l.prog.main.scope.names.lookup ("super" : Str)).isSome = false)
    (xli_BadTable : K.lookup i_BadTable = some ⟨oc_BadTable, od_BadTable, .func (PySem.W.ksFn "__init__" "BadTable.__init__" (defArgs (inClass (top 2) 0)) (defBody (inClass (top 2) 0)) (defScope (inClass (top 2) 0)) .none kV_BadTable doc_BadTable pm_BadTable an_BadTable (.ref cda_BadTable) ct_BadTable cc_BadTable), osl_BadTable⟩)
    (xci_BadTable : PySem.W.codeIn K (.ref cda_BadTable) "BadTable.__init__" = true)
    (xcd_BadTable : K.lookup cda_BadTable = some ⟨ccl_BadTable, cdd_BadTable, .fields vs_BadTable, ccs_BadTable⟩)
    (xv2_BadTable : vs_BadTable[2]? = some (.str file_BadTable tf_BadTable))
    (xfi_BadTable : ((l.prog.main.file : Str) == file_BadTable) = true)
    (xcc_BadTable : K.lookup cc_BadTable = some ⟨cl_BadTable, cld_BadTable, .cell (some (.ref C_BadTable)), csl_BadTable⟩)
    (xte_BadTable : PySem.W.exmOne K (.ref C_BadTable) (.ref C_BadTable) = some true)
    : ∃ fd : FuncData, (∀ (s : Shared) (v : Value), BindsTo s fd ⟨[v], []⟩ [("_law_script", v)]) ∧ ∀ base : Heap, K.In base → base.Ns mainGlobals mg → FnOk l.prog w K mg base CX0 9 fa fd ["_law_script"] (spLaw K) := by
  have e := hfa.symm.trans (PySem.W.mg_of X G a_law)
  cases e
  have F_is_name := fun_mk (st := s_is_name) l_is_name c_is_name k_is_name
  have F_checked_states := fun_mk (st := s_checked_states) l_checked_states c_checked_states k_checked_states
  have F_checked_levels := fun_mk (st := s_checked_levels) l_checked_levels c_checked_levels k_checked_levels
  have F_checked_period := fun_mk (st := s_checked_period) l_checked_period c_checked_period k_checked_period
  have F_Table__init := fun_mk (st := s_Table__init) l_Table__init c_Table__init k_Table__init
  have F_law_source := fun_mk (st := s_law_source) l_law_source c_law_source k_law_source
  have F_law_draw := fun_mk (st := s_law_draw) l_law_draw c_law_draw k_law_draw
  have F_law_pick := fun_mk (st := s_law_pick) l_law_pick c_law_pick k_law_pick
  have F_law_told := fun_mk (st := s_law_told) l_law_told c_law_told k_law_told
  have F_law := fun_mk (st := s_law) l_law c_law k_law
  have b_is_name := F_is_name.binds (ps := ["thing"]) fun _ _ _ _ _ _ us hl => match us, hl with | [_], _ => rfl
  have b_checked_states := F_checked_states.binds (ps := ["things", "words"]) fun _ _ _ _ _ _ us hl => match us, hl with | [_, _], _ => rfl
  have b_checked_levels := F_checked_levels.binds (ps := ["things"]) fun _ _ _ _ _ _ us hl => match us, hl with | [_], _ => rfl
  have b_checked_period := F_checked_period.binds (ps := ["thing", "most"]) fun _ _ _ _ _ _ us hl => match us, hl with | [_, _], _ => rfl
  have b_Table__init := F_Table__init.binds (ps := ["self", "alone", "levels", "below", "above"]) fun _ _ _ _ _ _ us hl => match us, hl with | [_, _, _, _, _], _ => rfl
  have b_law_source := F_law_source.binds (ps := ["_law_script"]) fun _ _ _ _ _ _ us hl => match us, hl with | [_], _ => rfl
  have b_law_draw := F_law_draw.binds (ps := ["_law_source_here", "_law_many"]) fun _ _ _ _ _ _ us hl => match us, hl with | [_, _], _ => rfl
  have b_law_pick := F_law_pick.binds (ps := ["_law_source_here", "_law_things"]) fun _ _ _ _ _ _ us hl => match us, hl with | [_, _], _ => rfl
  have b_law_told := F_law_told.binds (ps := ["_law_alone", "_law_levels", "_law_below", "_law_above"]) fun _ _ _ _ _ _ us hl => match us, hl with | [_, _, _, _], _ => rfl
  have b_law := F_law.binds (ps := ["_law_script"]) fun _ _ _ _ _ _ us hl => match us, hl with | [_], _ => rfl
  have er_BadTable : PySem.SupX.ClsTxt l.prog K mg C_BadTable i_BadTable "BadTable" := { gC := PySem.W.mg_of X G xg_BadTable, cls := ⟨nm_BadTable, q_BadTable, N_BadTable, bs_BadTable, _, sn_BadTable, sub_BadTable, ab_BadTable, col_BadTable, dd_BadTable, k0_BadTable, k1_BadTable, k2_BadTable, k3_BadTable, k5_BadTable, xc_BadTable, rfl⟩, sa := xsa_BadTable, ga := xga_BadTable, gg := xgg_BadTable, iC := xic_BadTable, tC := xtc_BadTable, kC := xkc_BadTable, exC := xex_BadTable, tyC := xty_BadTable, hdC := xhd_BadTable, msup := PySem.W.mg_none_of X G xms_BadTable, sup := xsu_BadTable, sve := xsv_BadTable, mro := xmr_BadTable, st := xst_BadTable, htop := xht_BadTable }
  have fn_BadTable : PySem.SupX.FnTxt0 l.prog K C_BadTable i_BadTable := { fn := ⟨oc_BadTable, doc_BadTable, pm_BadTable, kV_BadTable, ct_BadTable, od_BadTable, an_BadTable, osl_BadTable, _, _, _, _, _, _, _, cda_BadTable, cc_BadTable, vs_BadTable, file_BadTable, tf_BadTable, ccl_BadTable, cl_BadTable, cdd_BadTable, cld_BadTable, ccs_BadTable, csl_BadTable, _, rfl, xli_BadTable, xci_BadTable, fun _ => rfl, xcd_BadTable, xv2_BadTable, xfi_BadTable, xcc_BadTable, ⟨_, fun _ => rfl⟩, fun _ => rfl⟩ }
  let T : Txt l.prog w K mg := {
C_Table := C_Table, m_Table := PySem.W.mg_of X G cg_Table, cl_Table := ⟨cpg_Table, chd_Table, cpo_Table, csa_Table⟩,
    na_Table_alone := cn_Table_alone,
    na_Table_levels := cn_Table_levels,
    na_Table_below := cn_Table_below,
    na_Table_above := cn_Table_above,
    t_LETTERS := t_LETTERS, m_LETTERS := PySem.W.mg_of X G g_LETTERS,
    f_Table__init := f_Table__init, d_Table__init := _, F_Table__init := F_Table__init, b_Table__init := b_Table__init, mk_Table := ⟨cmk_Table, a_Table__init, i_Table__init, ckc_Table⟩,
    f_is_name := f_is_name, d_is_name := _, F_is_name := F_is_name, b_is_name := b_is_name, m_is_name := PySem.W.mg_of X G a_is_name,
    f_checked_states := f_checked_states, d_checked_states := _, F_checked_states := F_checked_states, b_checked_states := b_checked_states, m_checked_states := PySem.W.mg_of X G a_checked_states,
    f_checked_levels := f_checked_levels, d_checked_levels := _, F_checked_levels := F_checked_levels, b_checked_levels := b_checked_levels, m_checked_levels := PySem.W.mg_of X G a_checked_levels,
    f_checked_period := f_checked_period, d_checked_period := _, F_checked_period := F_checked_period, b_checked_period := b_checked_period, m_checked_period := PySem.W.mg_of X G a_checked_period,
    f_law_source := f_law_source, d_law_source := _, F_law_source := F_law_source, b_law_source := b_law_source, m_law_source := PySem.W.mg_of X G a_law_source,
    f_law_draw := f_law_draw, d_law_draw := _, F_law_draw := F_law_draw, b_law_draw := b_law_draw, m_law_draw := PySem.W.mg_of X G a_law_draw,
    f_law_pick := f_law_pick, d_law_pick := _, F_law_pick := F_law_pick, b_law_pick := b_law_pick, m_law_pick := PySem.W.mg_of X G a_law_pick,
    f_law_told := f_law_told, d_law_told := _, F_law_told := F_law_told, b_law_told := b_law_told, m_law_told := PySem.W.mg_of X G a_law_told,
    f_law := fa, d_law := _, F_law := F_law, b_law := b_law, m_law := hfa,
    m_int := PySem.W.mg_none_of X G z_int,
    m_str := PySem.W.mg_none_of X G z_str,
    m_bool := PySem.W.mg_none_of X G z_bool,
    m_range := PySem.W.mg_none_of X G z_range,
    m_len := PySem.W.mg_none_of X G z_len,
    m_isinstance := PySem.W.mg_none_of X G z_isinstance,
    m_all := PySem.W.mg_none_of X G z_all,
    m_list := PySem.W.mg_none_of X G z_list,
    m_tuple := PySem.W.mg_none_of X G z_tuple,
    m_sorted := PySem.W.mg_none_of X G z_sorted,
    a_SIGNS := a_SIGNS, q_SIGNS := fun H => .inr ⟨_, _, _, lk_SIGNS, rfl, rfl, (by show 3 ≤ sizeLine; decide), (.cons ⟨_, rfl⟩ (.cons ⟨_, rfl⟩ (.cons ⟨_, rfl⟩ .nil)))⟩, o_SIGNS := ⟨_, lk_SIGNS, rfl, rfl⟩, m_SIGNS := PySem.W.mg_of X G x_SIGNS,
    a_LONE_GAPS := a_LONE_GAPS, q_LONE_GAPS := fun H => .inr ⟨_, _, _, lk_LONE_GAPS, rfl, rfl, (by show 3 ≤ sizeLine; decide), (.cons ⟨_, rfl⟩ (.cons ⟨_, rfl⟩ (.cons ⟨_, rfl⟩ .nil)))⟩, o_LONE_GAPS := ⟨_, lk_LONE_GAPS, rfl, rfl⟩, m_LONE_GAPS := PySem.W.mg_of X G x_LONE_GAPS,
    C_BadTable := C_BadTable, i_BadTable := i_BadTable, er_BadTable := er_BadTable, fn_BadTable := fn_BadTable, xf_BadTable := ⟨xga_BadTable, xgg_BadTable, xex_BadTable, xhd_BadTable⟩, te_BadTable := xte_BadTable }
  exact ⟨PySem.W.fnOf "law" "law" (defArgs s_law) (defBody s_law) (defScope s_law) .none kV_law dc_law pm_law an_law cd_law ct_law, fun s v => .of_eq rfl, fun base _ _ => ok_law T⟩
theorem walk {l : PySem.W.OpenLaw} {q : Program} {loose : List Str} {XP : (Str → Option Value) → Heap → Prop} {YP : World → Heap → Prop} {d : DefRec} {K : Params → PySem.W.Frag} (hn : l.most = some 63) (hdf : d.params.defaults = [])
    (hY : ∀ (w : World) (h : Heap), YP w h → (K w.params).In h)
    (F : ∀ (w : World) (mg : Str → Option Value) (fa : Addr) (h : Heap), (K w.params).In h → h.Ns mainGlobals mg → mg d.name = some (.ref fa) →
      ∃ fd : FuncData, (∀ (s : Shared) (u : Value), BindsTo s fd ⟨[u], []⟩ [("_law_script", u)]) ∧ ∀ base : Heap, (K w.params).In base → base.Ns mainGlobals mg → FnOk l.prog w (K w.params) mg base CX0 9 fa fd ["_law_script"] (spLaw (K w.params))) :
    PySem.W.WalkO q loose XP YP l.row.toRowW d [] (fun f vs => PySem.call f vs) :=
  L2.walk_of (n := 63) (k := 9) (x := "_law_script") (CX := fun _ => CX0) (sp := fun w => spLaw (K w.params)) hn (by decide) hdf ⟨rfl, by decide, by decide⟩ hY F (fun _ _ a ns hl _ hS => ⟨a, ns, rfl, hS, hl, fun _ => rfl⟩) fun _ _ _ _ _ z => z
end Toy
open PySem PySem.W PyProof.Rows
set_option maxRecDepth 100000 in
set_option maxHeartbeats 0 in
theorem PySem.Challenge.cw_nearloops_k51_bad_tables_holds : PySem.Challenge.rw_nearloops_k51_bad_tables.Holds := by
  w_on; o_law; k_head; (case hw => w_witness2)
  k_fill
  refine Toy.walk (l := PySem.Challenge.rw_nearloops_k51_bad_tables) rfl rfl (fun w h Y => PySem.W.kIn_of Y) ?F
  case F =>
    intro w mg fa h KX G hmg
    refine' Toy.all_mk KX G hmg ?x_SIGNS ?lk_SIGNS ?x_LONE_GAPS ?lk_LONE_GAPS ?g_LETTERS ?cg_Table ?cpg_Table ?chd_Table ?cpo_Table ?csa_Table ?cmk_Table ?ckc_Table ?cn_Table_alone ?cn_Table_levels ?cn_Table_below ?cn_Table_above ?a_Table__init ?i_Table__init ?l_Table__init ?c_Table__init ?k_Table__init ?a_is_name ?l_is_name ?c_is_name ?k_is_name ?a_checked_states ?l_checked_states ?c_checked_states ?k_checked_states ?a_checked_levels ?l_checked_levels ?c_checked_levels ?k_checked_levels ?a_checked_period ?l_checked_period ?c_checked_period ?k_checked_period ?a_law_source ?l_law_source ?c_law_source ?k_law_source ?a_law_draw ?l_law_draw ?c_law_draw ?k_law_draw ?a_law_pick ?l_law_pick ?c_law_pick ?k_law_pick ?a_law_told ?l_law_told ?c_law_told ?k_law_told ?a_law ?l_law ?c_law ?k_law ?z_int ?z_str ?z_bool ?z_range ?z_len ?z_isinstance ?z_all ?z_list ?z_tuple ?z_sorted ?xg_BadTable ?xc_BadTable ?xsa_BadTable ?xga_BadTable ?xgg_BadTable ?xic_BadTable ?xtc_BadTable ?xkc_BadTable ?xex_BadTable ?xty_BadTable ?xhd_BadTable ?xsu_BadTable ?xsv_BadTable ?xmr_BadTable ?xst_BadTable ?xms_BadTable ?xht_BadTable ?xli_BadTable ?xci_BadTable ?xcd_BadTable ?xv2_BadTable ?xfi_BadTable ?xcc_BadTable ?xte_BadTable
    (case x_SIGNS => k_is)
    (case lk_SIGNS => k_is)
    (case x_LONE_GAPS => k_is)
    (case lk_LONE_GAPS => k_is)
    (case g_LETTERS => k_is)
    (case cg_Table => k_is)
    (case cpg_Table => k_is)
    (case chd_Table => k_is)
    (case cpo_Table => k_is)
    (case csa_Table => k_is)
    (case cmk_Table => k_is)
    (case ckc_Table => k_is)
    (case cn_Table_alone => k_is)
    (case cn_Table_levels => k_is)
    (case cn_Table_below => k_is)
    (case cn_Table_above => k_is)
    (case a_Table__init => k_is)
    (case i_Table__init => k_is)
    (case l_Table__init => k_is)
    (case c_Table__init => k_is)
    (case k_Table__init => k_is)
    (case a_is_name => k_is)
    (case l_is_name => k_is)
    (case c_is_name => k_is)
    (case k_is_name => k_is)
    (case a_checked_states => k_is)
    (case l_checked_states => k_is)
    (case c_checked_states => k_is)
    (case k_checked_states => k_is)
    (case a_checked_levels => k_is)
    (case l_checked_levels => k_is)
    (case c_checked_levels => k_is)
    (case k_checked_levels => k_is)
    (case a_checked_period => k_is)
    (case l_checked_period => k_is)
    (case c_checked_period => k_is)
    (case k_checked_period => k_is)
    (case a_law_source => k_is)
    (case l_law_source => k_is)
    (case c_law_source => k_is)
    (case k_law_source => k_is)
    (case a_law_draw => k_is)
    (case l_law_draw => k_is)
    (case c_law_draw => k_is)
    (case k_law_draw => k_is)
    (case a_law_pick => k_is)
    (case l_law_pick => k_is)
    (case c_law_pick => k_is)
    (case k_law_pick => k_is)
    (case a_law_told => k_is)
    (case l_law_told => k_is)
    (case c_law_told => k_is)
    (case k_law_told => k_is)
    (case a_law => k_is)
    (case l_law => k_is)
    (case c_law => k_is)
    (case k_law => k_is)
    (case z_int => k_is)
    (case z_str => k_is)
    (case z_bool => k_is)
    (case z_range => k_is)
    (case z_len => k_is)
    (case z_isinstance => k_is)
    (case z_all => k_is)
    (case z_list => k_is)
    (case z_tuple => k_is)
    (case z_sorted => k_is)
    (case xg_BadTable => k_is)
    (case xc_BadTable => k_is)
    (case xsa_BadTable => k_is)
    (case xga_BadTable => k_is)
    (case xgg_BadTable => k_is)
    (case xic_BadTable => k_is)
    (case xtc_BadTable => k_is)
    (case xkc_BadTable => k_is)
    (case xex_BadTable => k_is)
    (case xty_BadTable => k_is)
    (case xhd_BadTable => k_is)
    (case xsu_BadTable => first | ks_is | first | rfl | kernel_rfl | decide +kernel)
    (case xsv_BadTable => k_is)
    (case xmr_BadTable => k_is)
    (case xst_BadTable => k_is)
    (case xms_BadTable => k_is)
    (case xht_BadTable => first | rfl | kernel_rfl | decide +kernel)
    (case xli_BadTable => k_is)
    (case xci_BadTable => k_is)
    (case xcd_BadTable => k_is)
    (case xv2_BadTable => exact rfl)
    (case xfi_BadTable => first | rfl | kernel_rfl | decide +kernel)
    (case xcc_BadTable => k_is)
    (case xte_BadTable => first | rfl | kernel_rfl | decide +kernel)

