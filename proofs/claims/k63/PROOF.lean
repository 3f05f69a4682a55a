-- %%D%%
import PyProof.Rows.All
import Wide.All
import OpenK.AllK
import Wide.FinOn
import HandS.Base
import HandS.Call
import HandS.List
import HandS.Ends
import HandS.Words
import HandS.WordsList
import HandS.Wide
import HandS.WideBits
import HandS.IsInst
import HandS.Comp
import HandS.Strs
import HandS.Iter
import HandS.Zip
import HandS.Codes
import HandS.More
import HandS.Dict
import HandS.WordsDict
import HandS.Style
import HandS.Text
import HandS.Walk
import HandS.Exc
import HandS.ExcOwn
import HandS.ExcInit
import HandS.ExcSuper
import KE.KExcSuper
import HandS.ExcField
import HandS.WordsExc
import HandS.Lambda
import HandS.EndTab
import HandS.EndOwn
import PyProof.DictUpdate
import HandS.SetKeys
import PyProof.DictMoreH
import KE.GoesEnum
import KE.GoesEnumKw
import HandS.Conv
import KE.KDictSum
import HandS.NoneIn
import HandS.Defaults
import HandS.Property
import HandS.TryMany
import HandS.OwnEq
import HandS.Deep
import PyProof.FactsLen
import KE.KDictZip
import HandS.FStr
import HandS.Star
import KE.KUnpackStar
import PyProof.StrLawsTight
import PyProof.Rows.StrLawsPart
import PyProof.Rows.StrItems
import HandS.TupAny
import HandS.ClsMeth
import PyProof.InstEq
import HandS.DictComp
import HandS.SetFor
import HandS.ClsMeth
import PySem.Challenge.RW_nearloops_k63_watches_told
set_option Elab.async false
set_option maxRecDepth 100000
set_option maxHeartbeats 4000000

namespace L2
open PySem PySem.Spec PyProof.Rows
section
variable {X : Cx} {pins : List (Addr × Obj)} {σ : St} {H : Hp} {s : Shared} {a b : Addr} {kvs more : List (Key × V)} {A : Around} {E : Value → Shared → Prop}
/-- d.update(d2), two dicts with keys ints and texts -/
theorem d_update {Q : Value → Shared → Prop} (I : Inv X pins σ H s) (e : H a = some (.dK kvs)) (e2 : H b = some (.dK more)) (hne : a ≠ b) (hz : kvs.length + more.length ≤ sizeLine)
    (h : ∀ s', Inv X pins σ (upd H a (.dK (mergeK kvs more))) s' → Q .none s') : wpAny (model X.prog X.w) A (call (.builtin "dict.update") [.ref a, .ref b]) Q E s := by
  obtain ⟨z, hd, vs, rel, dd⟩ := dk_of I.hok e
  obtain ⟨z2, hd2, vs2, rel2, dd2⟩ := dk_of I.hok e2
  refine call_meetsIn PySem.F.slot_dict_update dd.typeIs PySem.F.entry_dict_update (PySem.F.args_dict_update_2 _ _) (meets_dict_update (mixKind X.prog X.w) a b hne hd2)
    ⟨vs, vs2, dd, dd2, by rw [← rel.length, ← rel2.length]; exact hz, fun h' dd' _ hs => h _ ?_⟩
  have he : ∃ q, h'.get? a = some q := let ⟨q, _, _, hq, _⟩ := dd'; ⟨q, hq⟩
  exact d_write I (by rw [e]; exact True.intro) hs he (dk_new (Nat.le_trans (length_mergeK more kvs) hz) hd (rel2.merge rel) dd')
end
def tDUpd (td ty : TE) : TE := fun σ H Q => td σ H fun x H1 => ∃ a, x = .ref a ∧ IsD H1 a ∧ ty σ H1 fun y H2 => ∃ b kvs more, y = .ref b ∧ H2 a = some (.dK kvs) ∧ H2 b = some (.dK more) ∧ a ≠ b ∧ kvs.length + more.length ≤ sizeLine ∧ Q .non (upd H2 a (.dK (mergeK kvs more)))
section
variable {X : Cx} {o e : Expr} {apos cpos : Pos} {td ty : TE}
theorem pe_dupd (ho : PE X o td) (he : PE X e ty) (m : M1 X o "update" apos e cpos) : PE X (.Call (.Attribute o "update" apos) [e] [] cpos) (tDUpd td ty) := by
  refine ⟨fun pins s σ H Q I h => ?_⟩
  refine wpAny_Call_method m.base m.few m.line PySem.F.plainAttrs_dict PySem.F.slot_dict_update PySem.F.type_dict_update (thn (ho.run pins s σ H _ I h) fun u s1 ⟨x, H1, I1, rx, a, ex, d, q1⟩ => ?_)
  subst ex
  obtain rfl : u = Value.ref a := rx
  obtain ⟨t1, t2, _⟩ := isD_at I1 d
  refine ⟨t1, t2, ?_⟩
  rw [m.trees]
  refine Calls.callWith_builtin rfl (Calls.evalArgs_plain (Calls.spliced_cons (thn (he.run pins s1 σ H1 _ I1 q1) fun iv s2 ⟨y, H2, I2, ry, b, kvs, more, ey, ea, eb, hne, hz, q2⟩ => Calls.spliced_nil ?_)))
  subst ey
  obtain rfl : iv = Value.ref b := ry
  exact d_update I2 ea eb hne hz fun s3 I3 => ⟨.non, _, I3, rfl, q2⟩
end
end L2
namespace L2
open PySem PySem.Spec PyProof.Rows
section
variable {X : Cx} {pins : List (Addr × Obj)} {σ : St} {H : Hp} {s : Shared} {a b : Addr} {kvs : List (List Key × V)} {k : List Key} {d : V} {r : Value} {A : Around} {E : Value → Shared → Prop}
/-- d.setdefault((x, y), z), a dict with tuple keys -/
theorem d_setdT {Q : Value → Shared → Prop} (hu : A.units + 1 < cLine) (I : Inv X pins σ H s) (e : H a = some (.dT kvs)) (eb : H b = some (.tup (k.map kV))) (rd : RelV d r) (hl : kvs.length < sizeLine)
    (h1 : ∀ v, valV kvs k = some v → ∀ (w' : Value) (s' : Shared), Inv X pins σ H s' → RelV v w' → Q w' s') (h2 : valV kvs k = none → ∀ (w' : Value) (s' : Shared), Inv X pins σ (upd H a (.dT (putK kvs k d))) s' → RelV d w' → Q w' s') :
    wpAny (model X.prog X.w) A (call (.builtin "dict.setdefault") [.ref a, .ref b, r]) Q E s := by
  obtain ⟨z, hd, xs, rel, dd⟩ := dt_of I.hok e
  have hz : xs.length ≤ sizeLine := by rw [← Paired.length rel]; exact z
  refine call_setdefault_heap (hsz := hz) (tupleKind_room_in1 hu) (key_of I.hok eb) hd dd (fun p hp => ?_) fun hn h' dd' hs => ?_
  · have q := rel.val k
    rw [hp] at q
    cases q0 : valV kvs k with
    | none =>
      rw [q0] at q
      exact (show False from q).elim
    | some v0 =>
      rw [q0] at q
      exact h1 v0 q0 _ _ (I.tok _) q
  · have q := rel.val k
    rw [hn] at q
    cases q0 : valV kvs k with
    | some v0 =>
      rw [q0] at q
      exact (show False from q).elim
    | none =>
      have hl2 : (putK kvs k d).length ≤ sizeLine := by have := length_putK kvs k d; omega
      obtain ⟨q, es, ep, hq, g2, g3, g4, _, g5⟩ := dd'
      refine h2 q0 _ _ (d_write I (by rw [e]; exact True.intro) hs ⟨q, hq⟩ ⟨hl2, hd, _, (rel.put k eb rd).keeps fun c ys ec => ?_, q, es, ep, hq, g2, g3, g4, g5⟩) rd
      rw [upd_ne (ne_of ec e (fun z => nomatch z))]
      exact ec
end
def tDSetdT (td ty tx : TE) : TE := fun σ H Q => td σ H fun x H1 => ∃ a, x = .ref a ∧ IsD H1 a ∧ ty σ H1 fun y H2 => tx σ H2 fun z H3 => ∃ (kvs : List (List Key × V)) (k : List Key) (b : Addr), H3 a = some (.dT kvs) ∧ y = .ref b ∧ H3 b = some (.tup (k.map kV)) ∧ kvs.length < sizeLine ∧
  (∀ v, valV kvs k = some v → Q v H3) ∧ (valV kvs k = none → Q z (upd H3 a (.dT (putK kvs k z))))
section
variable {X : Cx} {o e f : Expr} {td ty tx : TE} {apos cpos : Pos}
theorem pe_dsetdT (hu : X.A.units + 1 < cLine) (ho : PE X o td) (he : PE X e ty) (hf : PE X f tx) (m : M2 X o "setdefault" apos e f cpos) : PE X (.Call (.Attribute o "setdefault" apos) [e, f] [] cpos) (tDSetdT td ty tx) := by
  refine ⟨fun pins s σ H Q I h => ?_⟩
  refine wpAny_Call_method m.base m.few m.line PySem.F.plainAttrs_dict PySem.F.slot_dict_setdefault PySem.F.type_dict_setdefault (thn (ho.run pins s σ H _ I h) fun u s1 ⟨x, H1, I1, rx, a, ex, d, q1⟩ => ?_)
  subst ex
  obtain rfl : u = Value.ref a := rx
  obtain ⟨t1, t2, _⟩ := isD_at I1 d
  refine ⟨t1, t2, ?_⟩
  rw [m.trees]
  refine Calls.callWith_builtin rfl (Calls.evalArgs_plain (Calls.spliced_cons (thn (he.run pins s1 σ H1 _ I1 q1) fun iv s2 ⟨y, H2, I2, ry, q2⟩ =>
    Calls.spliced_cons (thn (hf.run pins s2 σ H2 _ I2 q2) fun fv s3 ⟨z, H3, I3, rz, kvs, k, b, ea, ey, eb, hl, q3, q4⟩ => Calls.spliced_nil ?_))))
  subst ey
  obtain rfl : iv = Value.ref b := ry
  exact d_setdT hu I3 ea eb rz hl (fun v hv w' s4 I4 rw' => ⟨v, _, I4, rw', q3 v hv⟩) fun hn w' s4 I4 rw' => ⟨z, _, I4, rw', q4 hn⟩
end
end L2
namespace L2
open PySem PySem.Spec PyProof.Rows
/-! ### enumerate(list or tuple), enumerate(list or tuple, start=k) -/
/-- a list (b = true) or a tuple of xs is to be read at a -/
def SqB (K : PySem.W.Frag) (b : Bool) (H : Hp) (a : Addr) (xs : List V) : Prop := match b with
  | true => SqL K H a xs
  | false => SqT K H a xs
def IsB (b : Bool) (h : Heap) (a : Addr) (its : Array Value) : Prop := match b with
  | true => h.IsList a its
  | false => h.IsTuple a its
def ItB (b : Bool) (h : Heap) (it a : Addr) (i : Nat) : Prop := match b with
  | true => h.IsListIter it a i
  | false => h.IsTupleIter it a i
theorem ItB.ob {b : Bool} {h : Heap} {it a : Addr} {i : Nat} (st : ItB b h it a i) : ∃ o, h.get? it = some o ∧ ∀ v, o.data ≠ .cell v := by
  cases b with
  | true =>
    obtain ⟨o, ho, hc, hd⟩ := st
    exact ⟨o, ho, fun v q => by rw [hd] at q; cases q⟩
  | false =>
    obtain ⟨o, ho, hc, hd⟩ := st
    exact ⟨o, ho, fun v q => by rw [hd] at q; cases q⟩
theorem ItB.at {b : Bool} {h h' : Heap} {it a : Addr} {i : Nat} (st : ItB b h it a i) (k : ∀ o, h.get? it = some o → h'.get? it = some o) : ItB b h' it a i := by
  cases b with
  | true => exact Heap.IsListIter.at st k
  | false => exact Heap.IsTupleIter.at st k
theorem drawsB {prog : Program} {w : World} {A : Around} (b : Bool) (hh : A.handled = none) (it l : Addr) (hne : l ≠ it) (items : Array Value) :
    Draws prog w A it [it, l] items.size (fun i v => items[i]? = some v) (fun i h => ItB b h it l i ∧ IsB b h l items) := by
  cases b with
  | true => exact Draws.list hh it l hne items
  | false => exact Draws.tuple hh it l hne items
/-- at the end -/
theorem drawsEnd {prog : Program} {w : World} {A : Around} (b : Bool) (hh : A.handled = none) (it l : Addr) (items : Array Value) {i : Nat} (hn : items[i]? = none) :
    Draws prog w A it [it, l] i (fun _ _ => True) (fun j h => j = i ∧ ItB b h it l i ∧ IsB b h l items) where
  live := fun _ _ st => let ⟨o, ho, _⟩ := st.2.1.ob; ⟨o, ho⟩
  frame := fun _ h h' st hk => ⟨st.1, st.2.1.at fun o e => hk it (by simp) o e, by
    obtain ⟨_, _, p⟩ := st
    cases b with
    | true => exact Heap.IsList.at p fun o e => hk l (by simp) o e
    | false => exact Heap.IsTuple.at p fun o e => hk l (by simp) o e⟩
  item := fun j s Q E hj st hQ => absurd st.1 (Nat.ne_of_lt hj)
  done := fun s Q E st hE => by
    obtain ⟨_, hit, p⟩ := st
    cases b with
    | true => exact wpAny_nextOf_list_end hh hit p hn hE
    | false => exact wpAny_nextOf_tuple_end hh hit p hn hE
section
variable {X : Cx} {pins : List (Addr × Obj)} {σ : St} {H : Hp} {s : Shared} {a : Addr} {xs ys : List V} {b : Bool}
theorem Inv.seqB (I : Inv X pins σ H s) (h : SqB X.K b H a xs) : ∃ its : List Value, Vals xs its ∧ IsB b s.heap a its.toArray := by
  cases b with
  | true =>
    obtain ⟨its, r, p, _⟩ := I.list h
    exact ⟨its, r, p.isList⟩
  | false =>
    obtain ⟨its, r, p, _⟩ := I.tuple h
    exact ⟨its, r, p⟩
theorem Inv.seqB_inj (I : Inv X pins σ H s) (h : SqB X.K b H a xs) (h' : SqB X.K b H a ys) : xs = ys := by
  cases b with
  | true => exact I.list_inj h h'
  | false => exact I.tuple_inj h h'
theorem IsB.ne {h : Heap} {its : Array Value} {it l a : Addr} {i : Nat} (st : IsB b h a its) (t : ItB b h it l i) : a ≠ it := fun e => by
  subst e
  cases b with
  | true =>
    obtain ⟨o, ho, hc, n, hd⟩ := st
    obtain ⟨o', ho', hc', hd'⟩ := t
    rw [ho] at ho'
    cases ho'
    rw [hd] at hd'
    cases hd'
  | false =>
    obtain ⟨o, ho, hc, n, hd⟩ := st
    obtain ⟨o', ho', hc', hd'⟩ := t
    rw [ho] at ho'
    cases ho'
    rw [hd] at hd'
    cases hd'
theorem IsB.begins {h : Heap} {its : Array Value} (st : IsB b h a its) : ∃ o, Begins (.ref a) o (fun h => IsB b h a its) ∧ ∀ (h' : Heap) (it : Addr), h'.get? it = some o → ItB b h' it a 0 := by
  cases b with
  | true => exact ⟨_, begins_list a its, fun h' it e => ⟨_, e, rfl, rfl⟩⟩
  | false => exact ⟨_, begins_tuple a its, fun h' it e => ⟨_, e, rfl, rfl⟩⟩
end
def IteB (K : PySem.W.Frag) (b : Bool) (a : Addr) (c : Int) : It :=
  ⟨fun i H => ∃ (xs : List V) (x : V), SqB K b H a xs ∧ xs[i]? = some x, fun i H v H' => ∃ T x, v = .ref T ∧ H T = none ∧ H' = upd H T (.tup [.int (c + (i : Nat)), x]) ∧ ∀ xs, SqB K b H a xs → xs[i]? = some x, fun i H => ∃ xs : List V, SqB K b H a xs ∧ xs.length ≤ i⟩
theorem turn_enumB {P : Program} {w : World} {K : PySem.W.Frag} {elts : List Expr} {kk : Nat} {tpos : Pos} (b : Bool) (a e it : Addr) (c : Int) :
    Turn P w K (.Tuple elts kk tpos) (IteB K b a c) [e, it] e (fun i h => (∃ old, IsEnum h e it (c + (i : Nat)) old) ∧ ItB b h it a i ∧ e ≠ it) where
  mem := by simp
  obj := fun i h st d hd => by
    obtain ⟨⟨old, he⟩, hi, _⟩ := st
    have e' : d = e ∨ d = it := by simpa using hd
    rcases e' with z | z
    · rw [z]; exact ⟨_, he, fun v q => nomatch q⟩
    · rw [z]; exact hi.ob
  keep := fun i h h' st k => let ⟨⟨old, he⟩, hi, hne⟩ := st; ⟨⟨old, k e (by simp) _ he⟩, hi.at fun o q => k it (by simp) o q, hne⟩
  item := by
    intro X hP hw hK hc i pins s σ H E I hf st hg
    subst hP hw hK
    obtain ⟨⟨old, he⟩, hit, hne⟩ := st
    obtain ⟨xs, x, hq, hx⟩ := hg
    obtain ⟨its, rv, p⟩ := I.seqB hq
    obtain ⟨u, hu, ru⟩ := rv.get hx
    have hel : e < s.heap.objs.size := Heap.lt_size he
    have hil : it < s.heap.objs.size := by obtain ⟨_, q, _⟩ := hit.ob; exact Heap.lt_size q
    have hai := p.ne hit
    have hae : e ∉ [it, a] := fun q => by
      rcases List.mem_cons.mp q with z | z
      · exact hne z
      · have z := List.mem_singleton.mp z
        subst z
        cases b with
        | true =>
          obtain ⟨o, ho, hc, n, hd⟩ := p
          have q := ho.symm.trans he
          cases q
          cases hd
        | false =>
          obtain ⟨o, ho, hc, n, hd⟩ := p
          have q := ho.symm.trans he
          cases q
          cases hd
    have hlt : i < its.toArray.size := by
      rw [List.size_toArray]
      exact (List.getElem?_eq_some_iff.mp hu).1
    refine wpAny_pyNext_enum_itemC (drawsB (A := X.A.in1) b (I.ok.hd hc) it a hai its.toArray) he ⟨hit, p⟩ hlt hne hae fun y h' tk hy ho hst' hT hsz hk => ?_
    have ey : y = u := by
      have hy' : its[i]? = some y := by simpa using hy
      rw [hu] at hy'
      exact (Option.some.inj hy').symm
    subst ey
    refine ⟨_, rfl, wpAny_letOwnedTupleGo_enum (s := { s with heap := h', toks := tk + 1 }) ho fun h'' he' sb => ?_⟩
    have hT2 : h''.get? s.heap.objs.size = some { cls := .type "tuple", data := .seq #[.int (c + (i : Nat)) tk, y] } := (sb.2 _ (Nat.ne_of_gt hel)).trans hT
    have new : ObjOk X.prog X.w (upd H s.heap.objs.size (.tup [.int (c + (i : Nat)), x])) h'' s.heap.objs.size (.tup [.int (c + (i : Nat)), x]) :=
      ⟨by show 2 ≤ sizeLine; decide, [.int (c + (i : Nat)) tk, y], .cons ⟨_, rfl⟩ (.cons ru .nil), ⟨_, hT2, rfl, _, rfl⟩⟩
    have I1 : Inv X pins σ (upd H s.heap.objs.size (.tup [.int (c + (i : Nat)), x])) { s with heap := h'', toks := tk + 1 } :=
      I.turnedNew (ch := [e, it]) (fun b ob hb q => (sb.2 b (fun z => hb (by simp [z]))).trans (hk b ob (fun z => hb (by simp [z])) (fun z => hb (by simp [z])) q)) hf (Nat.le_refl _) new
    refine ⟨.ref s.heap.objs.size, _, I1, rfl, ⟨_, x, rfl, I.hok.fresh (Nat.le_refl _), rfl, fun ys hy => by rw [I.seqB_inj hy hq]; exact hx⟩, ⟨⟨y, ?_⟩, hst'.1.at fun o q => (sb.2 it (Ne.symm hne)).trans q, hne⟩, fun b hb => ?_⟩
    · have e1 : c + ((i + 1 : Nat) : Int) = c + (i : Nat) + 1 := by omega
      rw [e1]; exact he'
    · have hb' : b < s.heap.objs.size := by
        have e' : b = e ∨ b = it := by simpa using hb
        rcases e' with z | z
        · rw [z]; exact hel
        · rw [z]; exact hil
      rw [upd_ne (Nat.ne_of_lt hb')]
      exact (hf b hb).1
  done := by
    intro X hP hw hK hc i pins s σ H E I hf st hg
    subst hP hw hK
    obtain ⟨⟨old, he⟩, hit, hne⟩ := st
    obtain ⟨xs, hq, hx⟩ := hg
    obtain ⟨its, rv, p⟩ := I.seqB hq
    obtain ⟨f0, f1, f2, f3, f4, f5⟩ := hf it (by simp)
    have hl := rv.length
    have hn : its.toArray[i]? = none := by simp; omega
    exact wpAny_pyNext_enum_endD (drawsEnd (A := X.A.in1) b (I.ok.hd hc) it a its.toArray hn) he ⟨rfl, hit, p⟩ fun h' eb => ⟨rfl, I.turned (t' := s.toks) (fun b o hb q => eb b o hb q) f0 f1 f3 f4 f5⟩
  self := fun A i s Q E st h => let ⟨⟨_, he⟩, _⟩ := st; wpAny_pyIter_enum he h
section
open PySem.Sem
set_option maxHeartbeats 4000000 in
theorem enum_new1 {v : Value} {o : Obj} {G : Heap → Prop} (B : Begins v o G) :
    Meets (Builtin.«enumerate.__new__» ⟨[.type "enumerate", v], []⟩) (fun _ R s => G s.heap ∧
      R (.ok (.ret (.ref (s.heap.push o).objs.size))) { s with heap := (s.heap.push o).push { cls := .type "enumerate", data := .fields #[.none, .bool false, .ref s.heap.objs.size, rawInt 0, .none, .none] } }) :=
  .of_wp fun prog w A R s h => by
    obtain ⟨hp, g, d, tk, os⟩ := s
    obtain ⟨h1, h⟩ := h
    have hsub := sub_enumerate
    have walkIt : ∀ {A' : Around} {E : Value → Shared → Prop} {Q : Value → Shared → Prop}, Q (.ref hp.objs.size) ⟨hp.push o, g, d, tk, os⟩ → wpAny (model prog w) A' (pyIter v) Q E ⟨hp, g, d, tk, os⟩ :=
      fun q => B.iter prog w _ _ ⟨hp, g, d, tk, os⟩ _ h1 q
    wp_walk using walkIt
    refine wpAny_stack_any fun st => wpAny_pure ?_
    split
    · rename_i c _ _ _ _ _
      cases (c == Value.type "enumerate")
      all_goals
        wp_walk using walkIt
        exact ⟨_, rfl, h⟩
    · wp_walk using walkIt
      exact ⟨_, rfl, h⟩
theorem enum_begins0 {prog : Program} {w : World} {A : Around} {E : Value → Shared → Prop} {s : Shared} {v : Value} {o : Obj} {G : Heap → Prop} {Q : Value → Shared → Prop} (B : Begins v o G) (h1 : G s.heap)
    (h : ∀ h', IsEnum h' (s.heap.objs.size + 1) s.heap.objs.size 0 .none → h'.get? s.heap.objs.size = some o → h'.objs.size = s.heap.objs.size + 2 →
      (∀ b o, s.heap.get? b = some o → h'.get? b = some o) → Q (.ref (s.heap.objs.size + 1)) { s with heap := h' }) :
    wpAny (model prog w) A (call (.type "enumerate") [v]) Q E s := by
  refine callType_new F.called_enumerate (by decide) (F.typeCall_enumerate_1 _) (F.newCall_enumerate_1 _) (fun obj => F.args_object_init_2 obj _) F.entry_enumerate_new (enum_new1 B) ⟨h1, ?_⟩
  have hz : (s.heap.push o).objs.size = s.heap.objs.size + 1 := Heap.size_push ..
  show _ ∧ _
  rw [hz]
  have he : IsEnum ((s.heap.push o).push { cls := .type "enumerate", data := .fields #[.none, .bool false, .ref s.heap.objs.size, rawInt 0, .none, .none] }) (s.heap.objs.size + 1) s.heap.objs.size 0 .none := by
    have q := Heap.get?_push_size (s.heap.push o) (o := { cls := .type "enumerate", data := .fields #[.none, .bool false, .ref s.heap.objs.size, rawInt 0, .none, .none] }) rfl
    rw [hz] at q
    exact q
  exact ⟨⟨_, he, rfl⟩, h _ he (Heap.get?_push_of_some _ (Heap.get?_push_size _ B.free)) (by rw [Heap.size_push, hz]) fun b o x => Heap.get?_push_of_some _ (Heap.get?_push_of_some _ x)⟩
end
/-- enumerate(e) -/
def iEnumB (K : PySem.W.Frag) (ta : TA) : TI := fun σ H R => ta σ H fun vs H1 => ∃ b a xs, vs = [.ref a] ∧ SqB K b H1 a xs ∧ R (IteB K b a 0) H1
/-- enumerate(e, start=k) -/
def iEnumS (K : PySem.W.Frag) (ta tk : TA) : TI := fun σ H R => ta σ H fun vs H1 => tk σ H1 fun zs H2 => ∃ b a xs k, vs = [.ref a] ∧ zs = [.int k] ∧ -(2 ^ 63) ≤ k ∧ k < 2 ^ 63 ∧ SqB K b H2 a xs ∧ R (IteB K b a k) H2
section
variable {X : Cx} {e : Expr} {kws : List Keyword} {ta tk : TA} {p pos tpos : Pos} {elts : List Expr} {kk : Nat}
theorem enum_come {pins : List (Addr × Obj)} {σ : St} {H : Hp} {s : Shared} {R : It → Hp → Prop} {b : Bool} {a : Addr} {k : Int} {h' : Heap} {o : Obj} (I : Inv X pins σ H s) (he : IsEnum h' (s.heap.objs.size + 1) s.heap.objs.size k .none) (hit : ItB b h' s.heap.objs.size a 0)
    (hk : ∀ b o, s.heap.get? b = some o → h'.get? b = some o) (q : R (IteB X.K b a k) H) : PIE X pins σ (.Tuple elts kk tpos) R (.ref (s.heap.objs.size + 1)) { s with heap := h' } := by
  have I2 : Inv X pins σ H { s with heap := h' } := I.kept (t' := s.toks) hk
  refine ⟨s.heap.objs.size + 1, [s.heap.objs.size + 1, s.heap.objs.size], _, _, H, rfl, I2, turn_enumB b a (s.heap.objs.size + 1) s.heap.objs.size k, ⟨⟨.none, by simpa using he⟩, hit, Nat.succ_ne_self _⟩, fun c hc => ?_, q⟩
  have e' : c = s.heap.objs.size + 1 ∨ c = s.heap.objs.size := by simpa using hc
  have hle : s.heap.objs.size ≤ c := by
    rcases e' with z | z
    · rw [z]; exact Nat.le_add_right _ _
    · rw [z]; exact Nat.le_refl _
  exact I.fpOk hle (I.hok.fresh hle)
theorem pi_enumB (hg : Gl X "enumerate") (hm : X.mg "enumerate" = none) (ha : PA X [e] ta) (hs : starEach [e] X.env = [(false, eval e X.env)] := by rfl) :
    PI X (.Tuple elts kk tpos) (.Call (.Name "enumerate" p) [e] [] pos) (iEnumB X.K ta) := by
  refine ⟨fun pins s σ H R I h => ?_⟩
  refine Call_ (ld_blt I hg hm boot_enumerate (PyProof.Rows.callWith_type1 (thn (ha.run pos pins s σ H _ I h) fun us s1 ⟨vs, H1, I1, r1, q1⟩ => ?_) hs rfl))
  obtain ⟨b, a, xs, ex, hq, q⟩ := q1
  rw [ex] at r1
  rw [Vals.ref1 r1]
  obtain ⟨its, rv, p'⟩ := I1.seqB hq
  obtain ⟨o, B, hB⟩ := p'.begins
  refine enum_begins0 B p' fun h' he ho hsz hk => wpAny_pyIter_enum he ?_
  exact enum_come (o := o) I1 he (hB h' _ ho) hk q
theorem callWith_typeKw {M : Model} {env : Env} {A : Around} {E : Value → Shared → Prop} {s : Shared} {pos : Pos} {T : String} {e : Expr} {rest : List Expr} {kws : List Keyword} {Q : Value → Shared → Prop}
    (h : wpAny M A (spliced (backTo pos (starEach (e :: rest) env))) (fun vs s₁ => wpAny M A (evalAll ((backToKw pos (keywordEach kws env)).map (·.2)))
      (fun kvs s₂ => wpAny M A (call (.type T) vs (((backToKw pos (keywordEach kws env)).filterMap (·.1)).zip kvs)) Q E s₂) E s₁) E s)
    (he : backTo pos (starEach (e :: rest) env) = (false, eval e env) :: backTo pos (starEach rest env)) (hplain : (backTo pos (starEach (e :: rest) env)).any (·.1) = false)
    (hall : (backToKw pos (keywordEach kws env)).all (·.1.isSome) = true) (hkw : (backToKw pos (keywordEach kws env)).any (·.1.isNone) = false) :
    wpAny M A (callWith pos (.type T) [] (backTo pos (starEach (e :: rest) env)) (backToKw pos (keywordEach kws env))) Q E s := by
  have h2 : wpAny M A (evalArgs (.type T) true (backTo pos (starEach (e :: rest) env)) (backToKw pos (keywordEach kws env))) (fun a s₁ => wpAny M A (call (.type T) ([] ++ a.pos) a.kw) Q E s₁) E s := by
    rw [he] at h ⊢
    exact evalArgs_kwB hall h
  unfold callWith
  refine wpAny_bind (wpAny_holding (wpAny_mono h2 (fun a s₁ h₁ => wpAny_bind (wpAny_standAt ?_)) fun _ _ x => x))
  simp only [hplain, hkw, Bool.or_false]
  refine wpAny_bind (wpAny_pure ?_)
  exact wpAny_bind (wpAny_mono h₁ (fun r s₂ hr => wpAny_bind (wpAny_holding (wpAny_point (wpAny_pure hr)))) fun _ _ x => x)
theorem pi_enumS (hg : Gl X "enumerate") (hm : X.mg "enumerate" = none) (ha : PA X [e] ta) (hk : PK X kws tk) (he : backTo pos (starEach [e] X.env) = (false, eval e X.env) :: backTo pos (starEach [] X.env) := by rfl) (hpl : (backTo pos (starEach [e] X.env)).any (·.1) = false := by rfl)
    (hall : (backToKw pos (keywordEach kws X.env)).all (·.1.isSome) = true := by rfl) (hnone : (backToKw pos (keywordEach kws X.env)).any (·.1.isNone) = false := by rfl) (hks : (backToKw pos (keywordEach kws X.env)).filterMap (·.1) = [Str.ofString "start"] := by rfl) :
    PI X (.Tuple elts kk tpos) (.Call (.Name "enumerate" p) [e] kws pos) (iEnumS X.K ta tk) := by
  refine ⟨fun pins s σ H R I h => ?_⟩
  refine wpAny_Call_Name_kw (ld_blt I hg hm boot_enumerate ?_)
  refine callWith_typeKw (thn (ha.run pos pins s σ H _ I h) fun us s1 ⟨vs, H1, I1, r1, q1⟩ => thn (hk.run pos pins s1 σ H1 _ I1 q1) fun ws s2 ⟨zs, H2, I2, r2, q2⟩ => ?_) he hpl hall hnone
  obtain ⟨b, a, xs, k, ex, ez, k0, k1, hq, q⟩ := q2
  subst ex
  subst ez
  rw [Vals.ref1 r1, hks]
  cases r2 with
  | cons r rr =>
    cases rr
    obtain ⟨t, rfl⟩ := r
    obtain ⟨its, rv, p'⟩ := I2.seqB hq
    obtain ⟨o, B, hB⟩ := p'.begins
    refine enum_begins_start B p' k0 k1 fun h' he ho hsz hk => wpAny_pyIter_enum he ?_
    exact enum_come (o := o) I2 he (hB h' _ ho) hk q
end
/-- a for over it -/
theorem walk_enumB {K : PySem.W.Frag} {a : Addr} {xs : List V} {b : Bool} {c : Int} : Walk (IteB K b a c) xs.length (fun H => SqB K b H a xs) (YPair (fun i => some (.int (c + (i : Nat)))) (fun i => xs[i]?)) where
  goes := fun i H hi h => ⟨xs, xs[i], h, List.getElem?_eq_getElem hi⟩
  stops := fun H h => ⟨xs, h, Nat.le_refl _⟩
  yields := fun i H x H' hi h y => by
    obtain ⟨T, z, e, hT, e2, hx⟩ := y
    exact ⟨T, _, z, e, hT, e2, rfl, hx xs h⟩
end L2
namespace L2
open PySem PySem.Spec PyProof.Rows PySem.Calls
section
variable {prog : Program} {w : World} {A : Around} {E : Value → Shared → Prop} {s : Shared} {r d : Addr} {n : Nat} {P : Nat → Value → Prop} {OK : Heap → Prop}
/-- tuple(x), x a dict or a view of one -/
theorem codeTupD {Q₁ : Value → Shared → Prop} (Kd : PySem.W.KdlSrc prog w "dict" r d n P OK) (hT : s.TypeIs (.ref r) "dict") (hh : A.handled = none) (hok : OK s.heap) (hn : n ≤ sizeLine)
    (h : ∀ (h' : Heap) (tk : Nat) (acc : Array Value), (∀ b o, s.heap.get? b = some o → h'.get? b = some o) → ItemsOf P acc n →
      Q₁ (.ref h'.objs.size) { s with heap := h'.push { cls := .type "tuple", data := .seq acc }, toks := tk }) :
    codeAny (model prog w) A (.call (.builtin "tuple.__new__") ⟨[.type "tuple", .ref r], []⟩) (wants Q₁ E) s := by
  refine codeAny_of_tree ?_
  show wpAny _ A.in1 (do checkBuiltinCall "tuple.__new__" ⟨[.type "tuple", .ref r], []⟩; again (.builtin "tuple.__new__" ⟨[.type "tuple", .ref r], []⟩)) _ _ s
  refine wpAny_bind (wpAny_of_eq (F.newCall_tuple_1 _) (wpAny_pure ⟨plainId_quiet F.plain_tuple_new _, codeAny_builtin F.entry_tuple_new ?_⟩))
  rw [Around.under_plainId F.plain_tuple_new _]
  have hsub := sub_tuple_self
  have hinit := init_tuple_lookup
  have hmh := madeHere_tuple
  have hh1 : A.in1.handled = none := hh
  wp_walk using wpAny_typeOf hT, PySem.W.kdu_collect (A := A.in1) Kd hh1 hok hn
  intro h' tk acc hk hacc
  show wpAny _ _ (Builtin.Tuple.tupleExact acc.toList.toArray >>= fun v => ret v) _ _ _
  unfold Builtin.Tuple.tupleExact
  refine wpAny_bind (wpAny_newObj_type ?_ (by show acc.toList.toArray.size ≤ sizeLine; simp only [Array.toArray_toList]; rw [hacc.1]; exact hn))
  refine wpAny_pure ?_
  have e : acc.toList.toArray = acc := by simp
  rw [e]
  exact h h' tk acc hk hacc
end
section
variable {X : Cx}
/-- tuple(d): its keys -/
theorem call_tupleD (hcalm : X.calm = true) : CallR X (.type "tuple") (fun xs H Q => ∃ (a : Addr) (kvs : List (Key × V)), xs = [.ref a] ∧ Rd H a (.dK kvs) ∧ ∀ (p : Addr) (o : Obj), H p = none → o.dict = none → Q (.ref p) (upd H p (.frz o (.tup (kvs.map fun kv => kV kv.1))))) := by
  intro pins s σ H xs us Q I r q
  obtain ⟨a, kvs, ex, hd, q⟩ := q
  subst ex
  rw [Vals.ref1 r]
  obtain ⟨z, lo, vs, rel, dd⟩ := dk_rd I.hok hd
  obtain ⟨ep, hat⟩ := dd.dictAt
  have ek : (kvs.map fun kv => kV kv.1) = vs.map fun p => kV p.1 := by
    have e := congrArg (List.map kV) rel.keys
    rw [List.map_map, List.map_map] at e
    exact e
  have hz : vs.length ≤ sizeLine := by
    rw [← rel.length]
    exact z
  refine callType_codes (Q₁ := fun obj s₁ => s₁.TypeIs obj "tuple" ∧ EP X pins σ Q obj s₁) F.called_tuple (F.typeCall_tuple_1 _) F.entry_object_init
    (codeTupD (A := X.A.in1) (PySem.W.kdl_dict (knd := mixKind X.prog X.w) (kvs := vs) (ep := ep) lo) dd.typeIs (I.ok.hd hcalm) hat hz fun h' tk acc hk hacc => ⟨⟨_, Heap.get?_push_size _ rfl, rfl⟩, ?_⟩) fun obj s₁ h₁ => ?_
  · have hv : Vals (vs.map fun p => kV p.1) acc.toList := keys_at (by rw [Array.length_toList]; exact hacc.1) fun j v e => hacc.2 j v (by rw [← Array.getElem?_toList]; exact e)
    have I1 : Inv X pins σ H { s with heap := h', toks := tk } := I.kept hk
    have I2 : Inv X pins σ (upd H h'.objs.size (.frz { cls := .type "tuple", data := .seq acc } (.tup (kvs.map fun kv => kV kv.1)))) { s with heap := h'.push { cls := .type "tuple", data := .seq acc }, toks := tk } :=
      I1.laid (t' := tk) (fun b o e => Heap.get?_push_of_some _ e) (Nat.le_refl _) (show ObjOk X.prog X.w _ _ _ (.frz _ (.tup (kvs.map fun kv => kV kv.1))) from ⟨Heap.get?_push_size _ rfl, by rw [List.length_map]; exact z, acc.toList, by rw [ek]; exact hv, by
        have e : acc.toList.toArray = acc := by simp
        rw [e]
        exact IsTup.new _ _⟩)
    exact ⟨.ref h'.objs.size, _, I2, rfl, q _ _ (I1.hok.fresh (Nat.le_refl _)) rfl⟩
  · exact ⟨h₁.1, F.args_object_init_2 obj _, object_init_meets F.called_tuple.init.lookup F.called_tuple.made (by decide) X.prog X.w X.A.in1 _ s₁ ⟨h₁.1, rfl, h₁.2⟩⟩
end
end L2
namespace PySem
namespace SupX
open PySem.W PySem.Calls PyProof.Rows PySem.HandSPX
/-! ### an own error over an own error over ValueError: def __init__(self, f): super().__init__('..'); self.f = f -/
def iA (f : Str) (p1 p2 : Pos) : Arguments :=
  { posonlyargs := [], args := [{ arg := "self", annotation := none, pos := p1 }, { arg := f, annotation := none, pos := p2 }], vararg := none, kwonlyargs := [], kw_defaults := [], kwarg := none, defaults := [] }
def iB (f tx : Str) (k0 : Nat) (q1 q2 q3 q4 q5 q6 q7 q8 q9 q10 : Pos) : List Stmt :=
  [.Expr (.Call (.Attribute (.Call (.Name "super" q1) [] [] q2) "__init__" q3) [.Constant (.str tx) k0 q4] [] q5) q6, .Assign [.Attribute (.Name "self" q7) f q8] (.Name f q9) q10]
def iS (f : Str) : Scope := { kind := .function, names := [("self", .local), (f, .local), ("__class__", .free), ("super", .globalImplicit)], isGenerator := false, isCoroutine := false, more := [] }
abbrev veTl : List Value := [.type "ValueError", .type "Exception", .type "BaseException", .type "object"]
/-- what is the same for every such class -/
structure ClsTxt (P : Program) (K : Frag) (mg : Str → Option Value) (C fI : Addr) (x : Str) : Prop where
  gC : mg x = some (.ref C)
  cls : ∃ nm q N bs bm sn sub ab col dd k0 k1 k2 k3 k5, K.lookup C = some (excClassObj nm q C N bs bm true sn sub ab col dd k0 k1 k2 k3 k5 "ValueError.__new__") ∧ refsVE bm = true
  sa : findIn K (.ref C) "__setattr__" = some (some (.builtin "object.__setattr__"))
  ga : findIn K (.ref C) "__getattribute__" = some (some (.builtin "BaseException.__getattribute__"))
  gg : findIn K (.ref C) "__getattr__" = some none
  iC : findIn K (.ref C) "__init__" = some (some (.ref fI))
  tC : typeIn K (.ref fI) = some (.type "function")
  kC : keepIn K (.ref C) = true
  exC : subIn K (.ref C) (.type "BaseException") = some true
  tyC : typeIn K (.ref C) = some (.type "type")
  hdC : hasDictIn K C = true
  msup : mg "super" = none
  sup : ks_superIn K C C "__init__" = some (some (.builtin "ValueError.__init__"))
  sve : subIn K (.ref C) (.type "ValueError") = some true
  mro : mroIn K C (.ref C) = some true
  st : nsIn K cStatics "thirdparty.any" = some none
  htop : (P.main.scope.names.lookup ("super" : Str)).isSome = false
structure FnTxt (P : Program) (K : Frag) (C fI : Addr) (f : Str) : Prop where
  noN : findIn K (.ref C) f = some none
  nd : (f == ("__debug__" : Str)) = false
  sf : (("self" : Str) == f) = false
  lf : (iS f).names.lookup f = some .local
  lc : (iS f).names.lookup ("__class__" : Str) = some .free
  ls : (iS f).names.lookup ("super" : Str) = some .globalImplicit
  fn : ∃ (oc doc pm kV ct : Value) (od an : Option Addr) (osl : Array (Option Value)) (tx qual : Str) (k0 : Nat) (p1 p2 q1 q2 q3 q4 q5 q6 q7 q8 q9 q10 : Pos) (cda cc : Addr) (vs : Array Value) (file : Str) (tf : Tok)
      (ccl cl : Value) (cdd cld : Option Addr) (ccs csl : Array (Option Value)) (fd : FuncData),
    fd = ksFn "__init__" qual (iA f p1 p2) (iB f tx k0 q1 q2 q3 q4 q5 q6 q7 q8 q9 q10) (iS f) .none kV doc pm an (.ref cda) ct cc ∧
    K.lookup fI = some ⟨oc, od, .func fd, osl⟩ ∧ codeIn K (.ref cda) qual = true ∧ (∀ a v : Value, bindArgs fd ⟨[a, v], []⟩ = pure [(("self" : Str), a), (f, v)]) ∧
    K.lookup cda = some ⟨ccl, cdd, .fields vs, ccs⟩ ∧ vs[2]? = some (.str file tf) ∧ ((P.main.file : Str) == file) = true ∧ K.lookup cc = some ⟨cl, cld, .cell (some (.ref C)), csl⟩ ∧
    (∃ pl : Sem Bool, ∀ L : Addr, eval (.Call (.Attribute (.Call (.Name "super" q1) [] [] q2) "__init__" q3) [.Constant (.str tx) k0 q4] [] q5) (ksEnv qual (iS f) L fI (.ref cda) cc) = (do
      let ov ← attributeBase (.Call (.Name "super" q1) [] [] q2) "__init__" (ksEnv qual (iS f) L fI (.ref cda) cc) (eval (.Call (.Name "super" q1) [] [] q2) (ksEnv qual (iS f) L fI (.ref cda) cc))
      standAt q3.atName
      let (fv, first) ← holding [ov] (getMethod ov "__init__" pl)
      callWith q5 fv first (backTo q5 (starEach [.Constant (.str tx) k0 q4] (ksEnv qual (iS f) L fI (.ref cda) cc))) [])) ∧
    (∀ L : Addr, swapsWith (.Name f q9) (some (.Attribute (.Name "self" q7) f q8)) q10.line (ksEnv qual (iS f) L fI (.ref cda) cc) = pure false) ∧
    (∀ L : Addr, swapsWith (.Call (.Attribute (.Call (.Name "super" q1) [] [] q2) "__init__" q3) [.Constant (.str tx) k0 q4] [] q5) none q6.line (ksEnv qual (iS f) L fI (.ref cda) cc) = pure false)
theorem one_size (v : Value) : [v].length ≤ sizeLine := by
  rw [sizeLine_eq]
  exact (by decide : 1 ≤ 16777216)
/-- what __init__ leaves of a fresh exception at x: a new args tuple, the argument in its own dict -/
structure InitEnd (h h' : Heap) (x C dx t1 : Addr) (f : Str) (v : Value) : Prop where
  keep : ∀ b o, b ≠ x → h.get? b = some o → h'.get? b = some o
  obj : h'.get? x = some { cls := .ref C, dict := some dx, data := .fields #[.ref t1, .none, .none, .none, .bool false, .none] }
  dbig : h.objs.size ≤ dx
  dne : dx ≠ x
  ns : h'.Ns1 dx (fun y => if y = f then some v else none)
section
variable {prog : Program} {w : World} {A : Around} {E : Value → Shared → Prop} {R : Result → Shared → Prop} {s : Shared} {K : Frag} {mg : Str → Option Value} {C fI : Addr} {x f : Str}
/-- the bound ValueError.__init__ called -/
theorem ve_init {h : Heap} {g : Array GenState} {d : Drawn} {t : Nat} {os : OsState} {nm q : Str} {N : Addr} {bs bm : List Value} {sn : List Str} {sub : List Value} {ab : Bool} {col : Option Bool} {dd : Option Addr} {k0 k1 k2 k3 k5 : Option Value}
    {u e t0 : Addr} {us : List Value} {Q : Value → Shared → Prop}
    (hC : h.get? C = some (excClassObj nm q C N bs bm true sn sub ab col dd k0 k1 k2 k3 k5 "ValueError.__new__")) (he : h.get? e = some (excO C t0)) (hu : h.get? u = some (kxs_mw "ValueError.__init__" e)) (hus : us.length ≤ sizeLine)
    (hq : ∀ h' t1, (∀ b o, b ≠ e → h.get? b = some o → h'.get? b = some o) → h'.get? e = some (excO C t1) → Q .none ⟨h', g, d, t, os⟩) :
    wpAny (model prog w) A (call (.ref u) us) Q E ⟨h, g, d, t, os⟩ := by
  refine wpAny_call (codeAny_of_tree ?_)
  show wpAny _ A.in1 (callAny (.ref u) ⟨us, []⟩) _ _ _
  simp only [callAny]
  refine wpAny_bind (wpAny_load hu ?_)
  have z : (Value.type "method-wrapper" == Value.type "method" || Value.type "method-wrapper" == Value.type "builtin_function_or_method" || Value.type "method-wrapper" == Value.type "method-wrapper") = true := by decide
  simp only [kxs_mw, z, if_true]
  refine KFB.if_so (by decide) (wpAny_bind (check_bound_init F.excBase_ValueError.toExcCallFacts hC he rfl ?_))
  refine wpAny_bind (wpAny_pure (wpAny_pure ⟨plainId_quiet F.excBase_ValueError.init.plain _, codeAny_builtin F.excBase_ValueError.initEntry ?_⟩))
  rw [Around.under_plainId F.excBase_ValueError.init.plain _]
  exact exc_init_tree (cls := .ref C) (t0 := t0) (dv := none) (c2 := .none) (c3 := .none) (b4 := .bool false) he hus fun h' k e' _ => hq h' _ k e'
theorem cls_of {h : Heap} (T : ClsTxt prog K mg C fI x) (X : K.In h) : ∃ cd oD, clsIn K C = some cd ∧ h.get? C = some oD ∧ oD.data = .cls cd := by
  obtain ⟨nm, q, N, bs, bm, sn, sub, ab, col, dd, k0, k1, k2, k3, k5, hC, _⟩ := T.cls
  exact ⟨_, _, by unfold clsIn; rw [hC] <;> rfl, X _ _ hC, rfl⟩
theorem sup_init (T : ClsTxt prog K mg C fI x) (Tf : FnTxt prog K C fI f) {e t0 : Addr} {v : Value} (X : K.In s.heap) (G : s.heap.Ns mainGlobals mg) {mb : Str → Option Value} (B : s.heap.Ns builtinsNs mb) (hb : mb "super" = some (.type "super"))
    (hlim : s.heap.NoLimit) (hx : s.heap.get? e = some (excO C t0)) (hnx : K.lookup e = none) (hroom : A.depth < recursionLimit)
    (hq : ∀ h' tk dx t1, InitEnd s.heap h' e C dx t1 f v → R (.ok (.ret .none)) { s with heap := h', toks := tk }) :
    codeAny (model prog w) A (.call (.ref fI) ⟨[.ref e, v], []⟩) R s := by
  obtain ⟨oc, doc, pm, kV, ct, od, an, osl, tx, qual, k0, p1, p2, q1, q2, q3, q4, q5, q6, q7, q8, q9, q10, cda, cc, vs, file, tf, ccl, cl, cdd, cld, ccs, csl, fd, rfl, ho, hcd, hbind, hcode, hvs, hfile, hcell, ⟨pl, he⟩, hsw, hsw0⟩ := Tf.fn
  obtain ⟨nm, q, N, bs, bm, sn, sub, ab, col, dd, j0, j1, j2, j3, j5, hC, hbm⟩ := T.cls
  obtain ⟨cd, oD, hcl, hD1, hD2⟩ := cls_of T X
  refine ks_codeAny_call_defAt (body := iB f tx k0 q1 q2 q3 q4 q5 q6 q7 q8 q9 q10) hroom (X _ _ ho) rfl hlim (codeRec_of X hcd) rfl (BindsTo.of_eq (hbind (.ref e) v)) ?_ ?_ (fun h₁ hn hk => ?_) rfl rfl rfl
  · show ∀ y ∈ (iS f).names, y.2 ≠ .cell
    intro y hy
    unfold iS at hy
    simp only [List.mem_cons, List.not_mem_nil, or_false] at hy
    rcases hy with rfl | rfl | rfl | rfl <;> (intro z; cases z)
  · show ∀ y ∈ ([(("self" : Str), Value.ref e), (f, v)] : List (Str × Value)), (iS f).names.lookup y.1 = some .local
    intro y hy
    simp only [List.mem_cons, List.not_mem_nil, or_false] at hy
    rcases hy with rfl | rfl
    · rfl
    · exact Tf.lf
  have X1 : K.In h₁ := X.keeps hk
  have hx1 := hk _ _ hx
  have hD1' := hk _ _ hD1
  have vS : ([(("self" : Str), Value.ref e), (f, v)] : List (Str × Value)).reverse.lookup ("self" : Str) = some (.ref e) := by
    show List.lookup ("self" : Str) [(f, v), (("self" : Str), Value.ref e)] = some (.ref e)
    rw [List.lookup_cons, Tf.sf]
    rfl
  have vF : ([(("self" : Str), Value.ref e), (f, v)] : List (Str × Value)).reverse.lookup f = some v := by
    show List.lookup f [(f, v), (("self" : Str), Value.ref e)] = some v
    rw [List.lookup_cons, beq_self_eq_true]
  have hI1 : InstAt h₁ e (excO C t0) C none := ⟨hx1, rfl, rfl, trivial⟩
  refine ks_wpAt_execs_cons (ks_wpAt_Expr_any (ks_wpAt_MethodCall (pl := pl) (ks_wpAt_super_base Tf.ls Tf.lc rfl rfl (X1 _ _ ho) rfl rfl rfl (X1 _ _ hcode) rfl hvs hfile T.htop ?_) (he _)) rfl (hsw0 _))
  refine ks_loadName_global rfl Tf.ls (loadGlobal_builtin (G.keeps hk) T.msup (B.keeps hk) hb ⟨rfl, ?_⟩)
  refine wpAny_loadName_free rfl Tf.lc rfl ⟨_, X1 _ _ hcell, rfl⟩ ?_
  refine wpAny_loadName_local rfl rfl hn vS ?_
  refine ks_wpAny_isType_cls hD1' hD2 ⟨rfl, ?_⟩
  refine ks_wpAny_call_super hD1' hD2 hx1 rfl (fun c z => by cases z) (looks_mroIn X1 T.mro) (fun h₂ e2 k2 => ?_)
  have hk2 : ∀ b o, s.heap.get? b = some o → h₂.get? b = some o := fun b o z => k2 b o (hk b o z)
  have X2 : K.In h₂ := X.keeps hk2
  have hx2 := k2 _ _ hx1
  have hI2 : InstAt h₂ e (excO C t0) C none := ⟨hx2, rfl, rfl, trivial⟩
  have hsup := T.sup
  unfold ks_superIn at hsup
  rw [hcl] at hsup
  refine kxs_getMethod kxs_ValueError e2 (looks_opaque X2 T.st) (l₀ := cd.mro) (fun A Q E s k q => wpAny_bind ((looks_clsIn X2 hcl) A _ E s k (wpAny_pure q))) rfl X2 hsup (hI2.type.andThen (looks_subIn X2 T.sve)) (ks_ne X2 hI2 hcl) rfl ?_
  refine kxs_callWith (i := "ValueError.__init__") (x := e) rfl (evalArgs_plain ?_)
  refine spliced_cons (wpAny_Constant_str (k := k0) (pos := q4) (spliced_nil ?_))
  have hx3 : (h₂.push (kxs_mw "ValueError.__init__" e)).get? e = some (excO C t0) := Heap.get?_push_of_some _ hx2
  refine ⟨Heap.get?_push_size _ rfl, ?_⟩
  refine ve_init (t0 := t0) (Heap.get?_push_of_some _ (X2 _ _ hC)) hx3 (Heap.get?_push_size _ rfl) (one_size _) fun h₃ t1 k3 hx4 => ?_
  have hk3 : ∀ b o, b ≠ e → s.heap.get? b = some o → h₃.get? b = some o := fun b o hb z => k3 b o hb (Heap.get?_push_of_some _ (hk2 b o z))
  have X3 : K.In h₃ := fun a o z => hk3 a o (fun q => by rw [q, hnx] at z; cases z) (X a o z)
  have hL : e ≠ s.heap.objs.size := Nat.ne_of_lt (Heap.lt_size hx)
  have hn3 : h₃.Ns s.heap.objs.size fun y => ([(("self" : Str), Value.ref e), (f, v)] : List (Str × Value)).reverse.lookup y := by
    obtain ⟨oL, es, ep, q, r⟩ := hn
    exact ⟨oL, es, ep, k3 _ _ (Ne.symm hL) (Heap.get?_push_of_some _ (k2 _ _ q)), r⟩
  refine wpAt_of_wpAny ?_
  refine wpAny_execs_cons (plainObj_wpAny_Assign_Attribute ?_ (hsw _))
  refine ESX.ldL hn3 vF (ESX.ldL hn3 vS ?_ rfl rfl (by decide)) rfl Tf.lf Tf.nd
  refine set_plain X3 (ox := excO C t1) (od := none) ⟨hx4, rfl, rfl, trivial⟩ T.sa ?_
  have hcd2 : clsIn K C = some { name := nm, bases := bs, mro := .ref C :: bm, ns := N, qualname := q, hasDict := true, slotNames := sn, subclasses := sub, abstract := ab, collection := col, hasDel := false } := by unfold clsIn; rw [hC] <;> rfl
  refine exc_osa X3 hx4 hcd2 (show refsVE (.ref C :: bm) = true from hbm) rfl Tf.noN (fun h₄ tk₄ dx k₄ dn dne hx₄ hn₄ => ?_)
  refine wpAny_execs_nil (hq h₄ tk₄ dx t1 ⟨fun b o hb z => k₄ b o hb (hk3 b o hb z), hx₄, ?_, dne, hn₄⟩)
  have z1 : h₂.objs.size < h₃.objs.size := by
    have z := k3 h₂.objs.size _ (fun q => ?_) (Heap.get?_push_size (o := kxs_mw "ValueError.__init__" e) h₂ rfl)
    · exact Heap.lt_size z
    · exact Nat.lt_irrefl _ (Nat.lt_of_lt_of_eq (Heap.lt_size hx2) q)
  have z2 : s.heap.objs.size < h₂.objs.size := by
    obtain ⟨oL, es, ep, q, r⟩ := hn
    exact Heap.lt_size (k2 _ _ q)
  exact Nat.le_of_lt (Nat.lt_trans z2 (Nat.lt_of_lt_of_le z1 dn))
/-- a made error: e, its own dict d holds f = v -/
structure Made (h h' : Heap) (e C d : Addr) (f : Str) (v : Value) : Prop where
  keep : ∀ b o, h.get? b = some o → h'.get? b = some o
  new : h.objs.size ≤ e
  obj : ∃ oe vs, h'.get? e = some oe ∧ oe.cls = .ref C ∧ oe.dict = some d ∧ oe.data = .fields vs ∧ vs[1]? = some .none
  dbig : h.objs.size ≤ d
  dne : d ≠ e
  ns : h'.Ns1 d (fun y => if y = f then some v else none)
theorem sup_made (T : ClsTxt prog K mg C fI x) (Tf : FnTxt prog K C fI f) {v : Value} (X : K.In s.heap) (G : s.heap.Ns mainGlobals mg) {mb : Str → Option Value} (B : s.heap.Ns builtinsNs mb) (hb : mb "super" = some (.type "super"))
    (hlim : s.heap.NoLimit) (hroom : A.depth + 1 < recursionLimit)
    (hq : ∀ h' tk e d, Made s.heap h' e C d f v → R (.ok (.ret (.ref e))) { s with heap := h', toks := tk }) :
    codeAny (model prog w) A (.call (.ref C) ⟨[v], []⟩) R s := by
  obtain ⟨nm, q, N, bs, bm, sn, sub, ab, col, dd, k0, k1, k2, k3, k5, hC, hbm⟩ := T.cls
  obtain ⟨hp, g, dr, tk, os⟩ := s
  have k : ∀ b o, hp.get? b = some o → ((hp.push (kdv_tup [v])).push (excO C hp.objs.size)).get? b = some o := fun b o e => Heap.get?_push_of_some _ (Heap.get?_push_of_some _ e)
  have hget : ((hp.push (kdv_tup [v])).push (excO C hp.objs.size)).get? (hp.objs.size + 1) = some (excO C hp.objs.size) := by heap_get
  have hnx : K.lookup (hp.objs.size + 1) = none := by
    cases e : K.lookup (hp.objs.size + 1) with
    | none => rfl
    | some o => exact absurd (Nat.lt_of_succ_lt (Heap.lt_size (X _ _ e))) (Nat.lt_irrefl _)
  refine call_own F.excBase_ValueError (fun Y => refsVE_contains Y bm hbm) (X _ _ hC) (looks_findIn X T.iC) (fun self => bind_fn X self T.tC) (one_size v) ?_
  refine sup_init (s := ⟨(hp.push (kdv_tup [v])).push (excO C hp.objs.size), g, dr, tk, os⟩) T Tf (X.keeps k) (G.keeps k) (B.keeps k) hb (hlim.keeps k) hget hnx ?_ fun h' tk' dx t1 ⟨k', hx, dn, dne, hns⟩ => ?_
  · show A.depth + 1 < recursionLimit
    exact hroom
  have old : ∀ b o, hp.get? b = some o → h'.get? b = some o := fun b o e => k' b o (Nat.ne_of_lt (Nat.lt_succ_of_lt (Heap.lt_size e))) (k b o e)
  have z : hp.objs.size + 1 + 1 ≤ dx := by
    have q := dn
    rw [Heap.size_push, Heap.size_push] at q
    exact q
  exact ⟨rfl, hq h' tk' (hp.objs.size + 1) dx ⟨old, Nat.le_succ _, ⟨_, _, hx, rfl, rfl, rfl, rfl⟩, Nat.le_trans (Nat.le_trans (Nat.le_succ _) (Nat.le_succ _)) z, dne, hns⟩⟩
end
end SupX
end PySem
namespace L2
open PySem PySem.Spec PyProof.Rows
theorem relO_one {v : V} {v' : Value} {f : Str} (r : RelV v v') (g : Str) : RelO (List.lookup g [(f, v)]) (if g = f then some v' else none) := by
  by_cases hw : g = f
  · subst hw
    rw [if_pos rfl]
    have q : List.lookup g [(g, v)] = some v := by simp [List.lookup]
    rw [q]
    exact r
  · rw [if_neg hw]
    have qw : (g == f) = false := by simpa using hw
    have q2 : List.lookup g [(f, v)] = none := by simp [List.lookup, qw]
    rw [q2]
    trivial
section
variable {X : Cx} {C fI : Addr} {x f : Str}
/-- C(e) -/
def tMkSup (C : Addr) (f : Str) (ta : TA) : St → Hp → XK → Prop := fun σ H Q => ta σ H fun vs H1 => ∃ v, vs = [v] ∧ ∀ d, H1 d = none → Q (.ref C) (some d) (upd H1 d (.xd [(f, v)]))
theorem pmk_sup {a : Expr} {ta : TA} {p pos : Pos} {k : Nat} (T : PySem.SupX.ClsTxt X.prog X.K X.mg C fI x) (Tf : PySem.SupX.FnTxt X.prog X.K C fI f) (hr : Room k X.A) (ha : PA X [a] ta) (hg : Gl X x) (hd : (x == ("__debug__" : Str)) = false := by decide)
    (he : starEach (a :: []) X.env = (false, eval a X.env) :: starEach [] X.env := by rfl) (hpl : (backTo pos (starEach [] X.env)).any (·.1) = false := by rfl) :
    PMk X (.Call (.Name x p) [a] [] pos) (tMkSup C f ta) := by
  intro pins s σ H Q I h
  refine wpAny_Call_Name_kw (ld_glob I hg T.gC ?_ hd)
  refine PySem.W.callWith_K (h₀ := X.base) I.ok.mod.kin T.kC (thn (ha.run pos pins s σ H _ I h) fun us s1 hh => ?_) he hpl
  obtain ⟨vs, H1, I1, r1, v, ev, q1⟩ := hh
  subst ev
  refine ⟨I1.kIn, ?_⟩
  cases r1 with
  | cons rv rn =>
    rename_i v' us'
    cases rn
    show wpAny _ _ (call (.ref C) [v']) _ _ _
    have hlim := I1.nolimit
    obtain ⟨mb, hB1, hB2⟩ := I1.mod.blt
    have hB := hB1.keeps I1.bk
    have hG := I1.mod.glob.keeps I1.bk
    have hb : mb "super" = some (.type "super") := (hB2 _ (by decide)).trans (by decide +kernel)
    obtain ⟨hp, g, dr, tk, os⟩ := s1
    refine wpAny_call (PySem.SupX.sup_made T Tf I1.kIn hG hB hb hlim (by have := hr.dp; omega) fun h' tk' e d M => ?_)
    show MkP X pins σ Q (.ref e) ⟨h', g, dr, tk', os⟩
    obtain ⟨oe, fv, hoe, hc, hd, hdat, h1⟩ := M.obj
    have hns := M.ns
    obtain ⟨G', g1, g2⟩ := restrict h' fun b => decide (b ≠ e)
    have gk : ∀ b, b ≠ e → G'.get? b = h'.get? b := fun b hb => g1 b (decide_eq_true hb)
    have ge : G'.get? e = none := g2 e (by simp)
    have old : ∀ b o, hp.get? b = some o → G'.get? b = some o := fun b o q => (gk b (Nat.ne_of_lt (Nat.lt_of_lt_of_le (Heap.lt_size q) M.new))).trans (M.keep b o q)
    have ob : ObjOk X.prog X.w (upd H1 d (.xd [(f, v)])) G' d (.xd [(f, v)]) := ⟨_, hns.at (fun o q => (gk d M.dne).trans q), fun g => relO_one rv g⟩
    have J : Inv X pins σ (upd H1 d (.xd [(f, v)])) ⟨G', g, dr, tk', os⟩ := I1.laid (t' := tk') old M.dbig ob
    refine ⟨e, oe, fv, ⟨G', g, dr, tk', os⟩, _, .ref C, some d, rfl, J, fun b o q => ?_, ge, hoe, ⟨hc, hd⟩, hdat, h1, ?_, rfl, I1.bare, raises_own T.exC T.tyC, q1 d (I1.hok.fresh M.dbig)⟩
    · by_cases hb : b = e
      · have q' : G'.get? b = some o := q
        rw [hb, ge] at q'; cases q'
      · exact (gk b hb).symm.trans q
    · rw [upd_ne (Ne.symm M.dne)]
      exact I1.hok.fresh M.new
/-- raise C(e) -/
def tRaiseSup (C : Addr) (f : Str) (W : WX) (ta : TA) : TS := fun _ σ H => tMkSup C f ta σ H fun cls d H' => W cls d σ H'
theorem ps_raiseSup {a : Expr} {ta : TA} {W : WX} {p pos pos2 : Pos} {k : Nat} (hc : X.calm = true) (T : PySem.SupX.ClsTxt X.prog X.K X.mg C fI x) (Tf : PySem.SupX.FnTxt X.prog X.K C fI f) (hr : Room k X.A) (tk : Takes X W) (ha : PA X [a] ta) (hg : Gl X x)
    (hd : (x == ("__debug__" : Str)) = false := by decide)
    (he : starEach (a :: []) X.env = (false, eval a X.env) :: starEach [] X.env := by rfl) (hpl : (backTo pos (starEach [] X.env)).any (·.1) = false := by rfl) :
    PS X (.Raise (some (.Call (.Name x p) [a] [] pos)) none pos2) (tRaiseSup C f W ta) := ps_raise hc tk (pmk_sup T Tf hr ha hg hd he hpl)
end
end L2
namespace PySem
namespace SupX
open PySem.W PySem.Calls PyProof.Rows PySem.HandSPX
/-! ### the same without a field: def __init__(self): super().__init__() -/
def iA0 (p1 : Pos) : Arguments :=
  { posonlyargs := [], args := [{ arg := "self", annotation := none, pos := p1 }], vararg := none, kwonlyargs := [], kw_defaults := [], kwarg := none, defaults := [] }
def iB0 (q1 q2 q3 q5 q6 : Pos) : List Stmt :=
  [.Expr (.Call (.Attribute (.Call (.Name "super" q1) [] [] q2) "__init__" q3) [] [] q5) q6]
def iS0 : Scope := { kind := .function, names := [("self", .local), ("__class__", .free), ("super", .globalImplicit)], isGenerator := false, isCoroutine := false, more := [] }
structure FnTxt0 (P : Program) (K : Frag) (C fI : Addr) : Prop where
  fn : ∃ (oc doc pm kV ct : Value) (od an : Option Addr) (osl : Array (Option Value)) (qual : Str) (p1 q1 q2 q3 q5 q6 : Pos) (cda cc : Addr) (vs : Array Value) (file : Str) (tf : Tok)
      (ccl cl : Value) (cdd cld : Option Addr) (ccs csl : Array (Option Value)) (fd : FuncData),
    fd = ksFn "__init__" qual (iA0 p1) (iB0 q1 q2 q3 q5 q6) iS0 .none kV doc pm an (.ref cda) ct cc ∧
    K.lookup fI = some ⟨oc, od, .func fd, osl⟩ ∧ codeIn K (.ref cda) qual = true ∧ (∀ a : Value, bindArgs fd ⟨[a], []⟩ = pure [(("self" : Str), a)]) ∧
    K.lookup cda = some ⟨ccl, cdd, .fields vs, ccs⟩ ∧ vs[2]? = some (.str file tf) ∧ ((P.main.file : Str) == file) = true ∧ K.lookup cc = some ⟨cl, cld, .cell (some (.ref C)), csl⟩ ∧
    (∃ pl : Sem Bool, ∀ L : Addr, eval (.Call (.Attribute (.Call (.Name "super" q1) [] [] q2) "__init__" q3) [] [] q5) (ksEnv qual iS0 L fI (.ref cda) cc) = (do
      let ov ← attributeBase (.Call (.Name "super" q1) [] [] q2) "__init__" (ksEnv qual iS0 L fI (.ref cda) cc) (eval (.Call (.Name "super" q1) [] [] q2) (ksEnv qual iS0 L fI (.ref cda) cc))
      standAt q3.atName
      let (fv, first) ← holding [ov] (getMethod ov "__init__" pl)
      callWith q5 fv first (backTo q5 (starEach [] (ksEnv qual iS0 L fI (.ref cda) cc))) [])) ∧
    (∀ L : Addr, swapsWith (.Call (.Attribute (.Call (.Name "super" q1) [] [] q2) "__init__" q3) [] [] q5) none q6.line (ksEnv qual iS0 L fI (.ref cda) cc) = pure false)
theorem no_size : ([] : List Value).length ≤ sizeLine := Nat.zero_le _
/-- what __init__ leaves of a fresh exception at x: a new args tuple -/
structure InitEnd0 (h h' : Heap) (x C t1 : Addr) : Prop where
  keep : ∀ b o, b ≠ x → h.get? b = some o → h'.get? b = some o
  obj : h'.get? x = some (excO C t1)
section
variable {prog : Program} {w : World} {A : Around} {E : Value → Shared → Prop} {R : Result → Shared → Prop} {s : Shared} {K : Frag} {mg : Str → Option Value} {C fI : Addr} {x f : Str}
theorem sup_init0 (T : ClsTxt prog K mg C fI x) (Tf : FnTxt0 prog K C fI) {e t0 : Addr} (X : K.In s.heap) (G : s.heap.Ns mainGlobals mg) {mb : Str → Option Value} (B : s.heap.Ns builtinsNs mb) (hb : mb "super" = some (.type "super"))
    (hlim : s.heap.NoLimit) (hx : s.heap.get? e = some (excO C t0)) (hnx : K.lookup e = none) (hroom : A.depth < recursionLimit)
    (hq : ∀ h' tk t1, InitEnd0 s.heap h' e C t1 → R (.ok (.ret .none)) { s with heap := h', toks := tk }) :
    codeAny (model prog w) A (.call (.ref fI) ⟨[.ref e], []⟩) R s := by
  obtain ⟨oc, doc, pm, kV, ct, od, an, osl, qual, p1, q1, q2, q3, q5, q6, cda, cc, vs, file, tf, ccl, cl, cdd, cld, ccs, csl, fd, rfl, ho, hcd, hbind, hcode, hvs, hfile, hcell, ⟨pl, he⟩, hsw0⟩ := Tf.fn
  obtain ⟨nm, q, N, bs, bm, sn, sub, ab, col, dd, j0, j1, j2, j3, j5, hC, hbm⟩ := T.cls
  obtain ⟨cd, oD, hcl, hD1, hD2⟩ := cls_of T X
  have ls : iS0.names.lookup ("super" : Str) = some .globalImplicit := by decide
  have lc : iS0.names.lookup ("__class__" : Str) = some .free := by decide
  refine ks_codeAny_call_defAt (body := iB0 q1 q2 q3 q5 q6) hroom (X _ _ ho) rfl hlim (codeRec_of X hcd) rfl (BindsTo.of_eq (hbind (.ref e))) ?_ ?_ (fun h₁ hn hk => ?_) rfl rfl rfl
  · show ∀ y ∈ iS0.names, y.2 ≠ .cell
    intro y hy
    unfold iS0 at hy
    simp only [List.mem_cons, List.not_mem_nil, or_false] at hy
    rcases hy with rfl | rfl | rfl <;> (intro z; cases z)
  · show ∀ y ∈ ([(("self" : Str), Value.ref e)] : List (Str × Value)), iS0.names.lookup y.1 = some .local
    intro y hy
    simp only [List.mem_cons, List.not_mem_nil, or_false] at hy
    rcases hy with rfl
    rfl
  have X1 : K.In h₁ := X.keeps hk
  have hx1 := hk _ _ hx
  have hD1' := hk _ _ hD1
  have vS : ([(("self" : Str), Value.ref e)] : List (Str × Value)).reverse.lookup ("self" : Str) = some (.ref e) := rfl
  have hI1 : InstAt h₁ e (excO C t0) C none := ⟨hx1, rfl, rfl, trivial⟩
  refine ks_wpAt_execs_cons (ks_wpAt_Expr_any (ks_wpAt_MethodCall (pl := pl) (ks_wpAt_super_base ls lc rfl rfl (X1 _ _ ho) rfl rfl rfl (X1 _ _ hcode) rfl hvs hfile T.htop ?_) (he _)) rfl (hsw0 _))
  refine ks_loadName_global rfl ls (loadGlobal_builtin (G.keeps hk) T.msup (B.keeps hk) hb ⟨rfl, ?_⟩)
  refine wpAny_loadName_free rfl lc rfl ⟨_, X1 _ _ hcell, rfl⟩ ?_
  refine wpAny_loadName_local rfl rfl hn vS ?_
  refine ks_wpAny_isType_cls hD1' hD2 ⟨rfl, ?_⟩
  refine ks_wpAny_call_super hD1' hD2 hx1 rfl (fun c z => by cases z) (looks_mroIn X1 T.mro) (fun h₂ e2 k2 => ?_)
  have hk2 : ∀ b o, s.heap.get? b = some o → h₂.get? b = some o := fun b o z => k2 b o (hk b o z)
  have X2 : K.In h₂ := X.keeps hk2
  have hx2 := k2 _ _ hx1
  have hI2 : InstAt h₂ e (excO C t0) C none := ⟨hx2, rfl, rfl, trivial⟩
  have hsup := T.sup
  unfold ks_superIn at hsup
  rw [hcl] at hsup
  refine kxs_getMethod kxs_ValueError e2 (looks_opaque X2 T.st) (l₀ := cd.mro) (fun A Q E s k q => wpAny_bind ((looks_clsIn X2 hcl) A _ E s k (wpAny_pure q))) rfl X2 hsup (hI2.type.andThen (looks_subIn X2 T.sve)) (ks_ne X2 hI2 hcl) rfl ?_
  refine kxs_callWith (i := "ValueError.__init__") (x := e) rfl ?_
  show wpAny _ _ (evalArgs _ true [] []) _ _ _
  refine PyProof.Rows.evalArgs_empty ?_
  have hx3 : (h₂.push (kxs_mw "ValueError.__init__" e)).get? e = some (excO C t0) := Heap.get?_push_of_some _ hx2
  refine ⟨Heap.get?_push_size _ rfl, ?_⟩
  refine ve_init (t0 := t0) (Heap.get?_push_of_some _ (X2 _ _ hC)) hx3 (Heap.get?_push_size _ rfl) no_size fun h₃ t1 k3 hx4 => ?_
  have hk3 : ∀ b o, b ≠ e → s.heap.get? b = some o → h₃.get? b = some o := fun b o hb z => k3 b o hb (Heap.get?_push_of_some _ (hk2 b o z))
  refine wpAt_of_wpAny ?_
  exact wpAny_execs_nil (hq h₃ _ t1 ⟨hk3, hx4⟩)
/-- a made error without a field -/
structure Made0 (h h' : Heap) (e C : Addr) : Prop where
  keep : ∀ b o, h.get? b = some o → h'.get? b = some o
  new : h.objs.size ≤ e
  obj : ∃ oe vs, h'.get? e = some oe ∧ oe.cls = .ref C ∧ oe.dict = none ∧ oe.data = .fields vs ∧ vs[1]? = some .none
theorem sup_made0 (T : ClsTxt prog K mg C fI x) (Tf : FnTxt0 prog K C fI) (X : K.In s.heap) (G : s.heap.Ns mainGlobals mg) {mb : Str → Option Value} (B : s.heap.Ns builtinsNs mb) (hb : mb "super" = some (.type "super"))
    (hlim : s.heap.NoLimit) (hroom : A.depth + 1 < recursionLimit)
    (hq : ∀ h' tk e, Made0 s.heap h' e C → R (.ok (.ret (.ref e))) { s with heap := h', toks := tk }) :
    codeAny (model prog w) A (.call (.ref C) ⟨[], []⟩) R s := by
  obtain ⟨nm, q, N, bs, bm, sn, sub, ab, col, dd, k0, k1, k2, k3, k5, hC, hbm⟩ := T.cls
  obtain ⟨hp, g, dr, tk, os⟩ := s
  have k : ∀ b o, hp.get? b = some o → ((hp.push (kdv_tup [])).push (excO C hp.objs.size)).get? b = some o := fun b o e => Heap.get?_push_of_some _ (Heap.get?_push_of_some _ e)
  have hget : ((hp.push (kdv_tup [])).push (excO C hp.objs.size)).get? (hp.objs.size + 1) = some (excO C hp.objs.size) := by heap_get
  have hnx : K.lookup (hp.objs.size + 1) = none := by
    cases e : K.lookup (hp.objs.size + 1) with
    | none => rfl
    | some o => exact absurd (Nat.lt_of_succ_lt (Heap.lt_size (X _ _ e))) (Nat.lt_irrefl _)
  refine call_own F.excBase_ValueError (fun Y => refsVE_contains Y bm hbm) (X _ _ hC) (looks_findIn X T.iC) (fun self => bind_fn X self T.tC) no_size ?_
  refine sup_init0 (s := ⟨(hp.push (kdv_tup [])).push (excO C hp.objs.size), g, dr, tk, os⟩) T Tf (X.keeps k) (G.keeps k) (B.keeps k) hb (hlim.keeps k) hget hnx ?_ fun h' tk' t1 ⟨k', hx⟩ => ?_
  · show A.depth + 1 < recursionLimit
    exact hroom
  have old : ∀ b o, hp.get? b = some o → h'.get? b = some o := fun b o e => k' b o (Nat.ne_of_lt (Nat.lt_succ_of_lt (Heap.lt_size e))) (k b o e)
  exact ⟨rfl, hq h' tk' (hp.objs.size + 1) ⟨old, Nat.le_succ _, ⟨_, _, hx, rfl, rfl, rfl, rfl⟩⟩⟩
end
end SupX
end PySem
namespace L2
open PySem PySem.Spec PyProof.Rows
section
variable {X : Cx} {C fI : Addr} {x : Str}
/-- C() -/
def tMkSup0 (C : Addr) : St → Hp → XK → Prop := fun _ H Q => Q (.ref C) none H
theorem pmk_sup0 {p pos : Pos} {k : Nat} (T : PySem.SupX.ClsTxt X.prog X.K X.mg C fI x) (Tf : PySem.SupX.FnTxt0 X.prog X.K C fI) (hr : Room k X.A) (hg : Gl X x) (hd : (x == ("__debug__" : Str)) = false := by decide) :
    PMk X (.Call (.Name x p) [] [] pos) (tMkSup0 C) := by
  intro pins s σ H Q I h
  refine wpAny_Call_Name_kw (ld_glob I hg T.gC ?_ hd)
  refine PySem.W.callWith_K0 I.kIn T.kC ?_
  show wpAny _ _ (call (.ref C) []) _ _ _
  have hlim := I.nolimit
  obtain ⟨mb, hB1, hB2⟩ := I.ok.mod.blt
  have hB := hB1.keeps I.bk
  have hG := I.ok.mod.glob.keeps I.bk
  have hb : mb "super" = some (.type "super") := (hB2 _ (by decide)).trans (by decide +kernel)
  obtain ⟨hp, g, dr, tk, os⟩ := s
  refine wpAny_call (PySem.SupX.sup_made0 T Tf I.kIn hG hB hb hlim (by have := hr.dp; omega) fun h' tk' e M => ?_)
  show MkP X pins σ Q (.ref e) ⟨h', g, dr, tk', os⟩
  obtain ⟨oe, fv, hoe, hc, hd, hdat, h1⟩ := M.obj
  obtain ⟨G', g1, g2⟩ := restrict h' fun b => decide (b ≠ e)
  have gk : ∀ b, b ≠ e → G'.get? b = h'.get? b := fun b hb => g1 b (decide_eq_true hb)
  have ge : G'.get? e = none := g2 e (by simp)
  have old : ∀ b o, hp.get? b = some o → G'.get? b = some o := fun b o q => (gk b (Nat.ne_of_lt (Nat.lt_of_lt_of_le (Heap.lt_size q) M.new))).trans (M.keep b o q)
  have J : Inv X pins σ H ⟨G', g, dr, tk', os⟩ := I.kept (t' := tk') old
  refine ⟨e, oe, fv, ⟨G', g, dr, tk', os⟩, _, .ref C, none, rfl, J, fun b o q => ?_, ge, hoe, ⟨hc, hd⟩, hdat, h1, ?_, rfl, I.bare, raises_own T.exC T.tyC, h⟩
  · by_cases hb : b = e
    · have q' : G'.get? b = some o := q
      rw [hb, ge] at q'; cases q'
    · exact (gk b hb).symm.trans q
  · exact I.hok.fresh M.new
/-- raise C() -/
def tRaiseSup0 (C : Addr) (W : WX) : TS := fun _ σ H => W (.ref C) none σ H
theorem ps_raiseSup0 {W : WX} {p pos pos2 : Pos} {k : Nat} (hc : X.calm = true) (T : PySem.SupX.ClsTxt X.prog X.K X.mg C fI x) (Tf : PySem.SupX.FnTxt0 X.prog X.K C fI) (hr : Room k X.A) (tk : Takes X W) (hg : Gl X x)
    (hd : (x == ("__debug__" : Str)) = false := by decide) :
    PS X (.Raise (some (.Call (.Name x p) [] [] pos)) none pos2) (tRaiseSup0 C W) := ps_raise hc tk (pmk_sup0 T Tf hr hg hd)
end
end L2
namespace L2
open PySem PySem.Spec PyProof.Rows
/-! ### try with any number of clauses, each with a name or without -/
/-- a clause: the class, the slot of its name, what its suite is read as -/
structure Clause where
  cls : Value
  slot : Option Nat
  run : Addr → Value → Option Addr → TS
/-- behind the suite the name is gone -/
def Clause.ends (c : Clause) (D : Ends) : Ends :=
  let off : St → St := fun σ => match c.slot with | none => σ | some i => σ.set i none
  ⟨fun σ H => D.nx (off σ) H, D.rt, fun σ H => D.bk (off σ) H, fun σ H => D.ct (off σ) H⟩
def Clause.slots (c : Clause) (σ : St) (a : Addr) : St := match c.slot with | none => σ | some i => σ.set i (some (.ref a))
/-- the first clause whose class fits, else the wish of those without -/
def firstOf (K : PySem.W.Frag) (out : WX) (D : Ends) : List Clause → WX
  | [] => out
  | c :: r => fun cls d σ H => (PySem.W.exmOne K cls c.cls = some true ∧ ∀ a, H a = none → c.run a cls d (c.ends D) (c.slots σ a) H) ∨ (PySem.W.exmOne K cls c.cls = some false ∧ firstOf K out D r cls d σ H)
/-- a clause of the text -/
structure ClauseOf (X : Cx) (h : ExceptHandler) (c : Clause) : Prop where
  is : ∃ (x : Str) (np pos : Pos) (b : Stmt) (bs : List Stmt) (n : Option Str), h = .ExceptHandler (some (.Name x np)) n (b :: bs) pos ∧ Names X x c.cls ∧
    (∀ (a : Addr) (o : Obj) (cls : Value) (d : Option Addr) (pn : List (Addr × Obj)), Zc cls d o → (∃ vs, o.data = .fields vs) → PSs (X.suite a ((a, o) :: pn)) (b :: bs) (c.run a cls d)) ∧
    ((n = none ∧ c.slot = none) ∨ ∃ (y : Str) (i : Nat), n = some y ∧ c.slot = some i ∧ X.N[i]? = some y ∧ X.env.kindOf y = some .local)
/-- an exception at a has come down in the frame, the heap being h -/
structure Fallen (X : Cx) (pins : List (Addr × Obj)) (σ : St) (H : Hp) (cls : Value) (d : Option Addr) (a : Addr) (s : Shared) : Prop where
  ex : ∃ (B : Heap) (sI : Shared), Inv X pins σ H sI ∧ (∀ b o, sI.heap.get? b = some o → b ∉ frs X.stack → B.get? b = some o) ∧ sI.heap.UpToSlots s.heap ∧ HandSPX.FlyingZ B X.stack a (Zc cls d) s.heap ∧ H a = none ∧ s.os = sI.os ∧ AllBare s.gens
section
variable {X : Cx} {pins : List (Addr × Obj)} {σ : St} {H : Hp} {cls : Value} {d : Option Addr} {a : Addr} {s : Shared}
theorem Fallen.inv (f : Fallen X pins σ H cls d a s) : Inv X pins σ H s := by
  obtain ⟨B, sI, J, nb, up, fl, _, os, ag⟩ := f.ex
  exact J.landed nb fl.1 up os ag
theorem Fallen.obj (f : Fallen X pins σ H cls d a s) : ∃ o vs, s.heap.get? a = some o ∧ Zc cls d o ∧ o.data = .fields vs := by
  obtain ⟨B, sI, _, _, _, fl, _⟩ := f.ex
  exact fl.there
/-- its suite begins -/
theorem Fallen.within (f : Fallen X pins σ H cls d a s) (hs : X.stack = X.env :: X.outer) (hf : X.env.frame = some X.env.locals) :
    ∃ o, Zc cls d o ∧ (∃ vs, o.data = .fields vs) ∧ Inv (X.suite a ((a, o) :: (X.pn ++ pins))) [] σ H s := by
  obtain ⟨o, vs, ho, hz, hd⟩ := f.obj
  have J := f.inv
  obtain ⟨B, sI, _, _, _, fl, na, _⟩ := f.ex
  have out : a ∉ frs X.stack := fun hm => by
    obtain ⟨_, o', e', hnf⟩ := fl.2.2.1.mem hm
    cases ho.symm.trans e'
    exact hnf _ hd
  rw [hs] at out
  exact ⟨o, hz, ⟨vs, hd⟩, J.suite ho hd na (fun z => out (List.mem_filterMap.mpr ⟨X.env, .head _, by rw [hf, z]⟩)) fun hm => out (by
    obtain ⟨e, he, q⟩ := List.mem_filterMap.mp hm
    exact List.mem_filterMap.mpr ⟨e, .tail _ he, q⟩)⟩
/-- its flight is set to none again -/
theorem Fallen.again {Q : Unit → Shared → Prop} {E : Value → Shared → Prop} {A : Around} (f : Fallen X pins σ H cls d a s) (h : ∀ s', Fallen X pins σ H cls d a s' → Q () s') : wpAny (model X.prog X.w) A (setFlight (.ref a) none) Q E s := by
  obtain ⟨B, sI, J, nb, up, fl, na, os, ag⟩ := f.ex
  exact HandSPX.lands_againZ fl fun h4 fl4 up4 => h _ ⟨B, sI, J, nb, up.trans up4, fl4, na, os, ag⟩
/-- no clause fits -/
theorem Fallen.leaves {D : Ends} {out : WX} (f : Fallen X pins σ H cls d a s) (hs : X.stack = X.env :: X.outer) (hf : X.env.frame = some X.env.locals) (tk : Takes X out) (w : out cls d σ H) :
    wpAny (model X.prog X.w) X.A (handleBy (.ref a) X.env []) (SP X pins D) X.xe s := by
  obtain ⟨B, sI, J, nb, up, fl, na, os, ag⟩ := f.ex
  refine wpAny_handleBy_nil ?_
  obtain ⟨_, _, _, o, vs, T, oT, _, ho, _, hd, h1, _⟩ := id fl
  have go : wpAny (model X.prog X.w) X.A (setFlight (.ref a) X.env.frame) (fun _ t => wpAny (model X.prog X.w) X.A (throw (.ref a) : Sem Flow) (SP X pins D) X.xe t) X.xe s := by
    rw [hf]
    exact HandSPX.setFlight_upZ fl fun h4 hh up4 => wpAny_throw (tk _ _ ⟨a, B, sI, pins, σ, H, cls, d, rfl, J, nb, up.trans up4, .inr (.inr hh), na, os, ag, w⟩)
  unfold PySem.passOn
  refine wpAny_bind (wpAny_field ho hd h1 ?_)
  rw [if_neg (by simp)]
  first
    | exact wpAny_bind go
    | exact wpAny_bind (wpAny_pure (wpAny_bind go))
/-- the test of a clause -/
theorem Fallen.test {x : Str} {np : Pos} {c : Value} {b : Bool} {Q : Bool → Shared → Prop} {E E' : Value → Shared → Prop} (f : Fallen X pins σ H cls d a s) (hs : X.stack = X.env :: X.outer) (hf : X.env.frame = some X.env.locals) (hc : Names X x c) (hb : PySem.W.exmOne X.K cls c = some b) (h : Q b s) :
    wpAny (model X.prog X.w) (X.A.mark (some (.ref a))) (eval (.Name x np) X.env) (fun c s₁ => wpAny (model X.prog X.w) (X.A.mark (some (.ref a))) (excMatches (.ref a) c) Q E s₁) E' s := by
  obtain ⟨o, vs, ho, hz, hd⟩ := f.obj
  obtain ⟨o2, _, _, S⟩ := f.within hs hf
  have cl : PySem.W.Looks (model X.prog X.w) s.heap (typeOf (.ref a)) cls := fun _ _ _ _ k q => wpAny_typeOf_ref (k _ _ ho) (by rw [hz.1]; exact q)
  have q := (PySem.W.exm_one (M := model X.prog X.w) f.inv.kIn cl hb).here (A := X.A.mark (some (.ref a))) (Q := Q) (E := E) h
  obtain ⟨hg, hdb, hm | ⟨hm, hv, hn⟩⟩ := hc
  · exact ld_glob (X := X.suite a ((a, o2) :: (X.pn ++ pins))) S hg hm q hdb
  · exact ld_blt (X := X.suite a ((a, o2) :: (X.pn ++ pins))) S hg hm hv q hn hdb
/-- what a suite ends with, told outside -/
theorem suiteEnds {o : Obj} {fw : Flow} {D D' : Ends} {off : St → St} {Q : Shared → Prop} (ok : X.Ok) (e : D' = ⟨fun σ H => D.nx (off σ) H, D.rt, fun σ H => D.bk (off σ) H, fun σ H => D.ct (off σ) H⟩)
    (h : SP (X.suite a ((a, o) :: (X.pn ++ pins))) [] D' fw s) (k : ∀ σ' H', Inv X pins σ' H' s → (∀ s', Inv X pins (off σ') H' s' → SP X pins D fw s') → Q s) : Q s := by
  subst e
  cases fw with
  | next => obtain ⟨σ', H', S, q⟩ := h; exact k _ _ (S.unsuite ok) fun s' J => ⟨_, _, J, q⟩
  | brk => obtain ⟨σ', H', S, q⟩ := h; exact k _ _ (S.unsuite ok) fun s' J => ⟨_, _, J, q⟩
  | cont => obtain ⟨σ', H', S, q⟩ := h; exact k _ _ (S.unsuite ok) fun s' J => ⟨_, _, J, q⟩
  | ret u => obtain ⟨v, σ', H', S, r, q⟩ := h; exact k _ _ (S.unsuite ok) fun s' J => ⟨_, _, _, J, r, q⟩
inductive ClausesOf (X : Cx) : List ExceptHandler → List Clause → Prop
  | nil : ClausesOf X [] []
  | cons {h : ExceptHandler} {hs : List ExceptHandler} {c : Clause} {cs : List Clause} : ClauseOf X h c → ClausesOf X hs cs → ClausesOf X (h :: hs) (c :: cs)
theorem Fallen.caught {D : Ends} {out : WX} (hs : X.stack = X.env :: X.outer) (hf : X.env.frame = some X.env.locals) (hN : X.N.Nodup) (tk : Takes X out) {hds : List ExceptHandler} {cs : List Clause} (C : ClausesOf X hds cs) (f : Fallen X pins σ H cls d a s) (w : firstOf X.K out D cs cls d σ H) :
    wpAny (model X.prog X.w) X.A (handleBy (.ref a) X.env hds) (SP X pins D) X.xe s := by
  induction C with
  | nil => exact f.leaves hs hf tk w
  | @cons h hs' c cs' hc _ ih =>
    obtain ⟨x, np, pos, b, bs, n, rfl, hn, hsu, hname⟩ := hc.is
    refine wpAny_handleBy_cons (codeAny_handlers_test ?_) (by intro q; cases q)
    rcases w with ⟨hb, w⟩ | ⟨hb, w⟩
    · refine f.test hs hf hn hb ?_
      rcases hname with ⟨rfl, hsl⟩ | ⟨y, i, rfl, hsl, hi, hl⟩
      · refine codeAny_handlers_suite (f.again fun s4 f4 => ?_)
        obtain ⟨o, hz, hd, S⟩ := f4.within hs hf
        have na : H a = none := let ⟨_, _, _, _, _, _, na, _⟩ := f4.ex; na
        have w' := w a na
        unfold Clause.slots at w'
        rw [hsl] at w'
        refine wpAny_mono ((hsu a o cls d (X.pn ++ pins) hz hd).run [] s4 _ H _ S w') (fun fw s6 q => ?_) (fun _ _ z => z.elim)
        exact suiteEnds (off := id) f.inv.ok (by unfold Clause.ends; rw [hsl]; rfl) q fun σ' H' J k => k s6 J
      · refine codeAny_handlers_suite_as (f.again fun s4 f4 => ?_)
        obtain ⟨o, hz, hd, S⟩ := f4.within hs hf
        have na : H a = none := let ⟨_, _, _, _, _, _, na, _⟩ := f4.ex; na
        have w' := w a na
        unfold Clause.slots at w'
        rw [hsl] at w'
        refine store_ok (X := X.suite a ((a, o) :: (X.pn ++ pins))) (v := .ref a) S hN hi (.inl hl) rfl (fun s5 S5 => ?_) (.inr hl)
        refine wpAny_mono ((hsu a o cls d (X.pn ++ pins) hz hd).run [] s5 _ H _ S5 w') (fun fw s6 q => ?_) (fun _ _ z => z.elim)
        exact suiteEnds (off := fun σ => σ.set i none) f.inv.ok (by unfold Clause.ends; rw [hsl]) q fun σ' H' J k => gone_ok J hN hi hl k
    · exact f.test hs hf hn hb (ih w)
end
section
variable {X : Cx} {body : List Stmt} {h₀ : ExceptHandler} {hds : List ExceptHandler} {cs : List Clause} {pos : Pos} {tb : WX → TS} {out : WX}
theorem ps_clauses (hs : X.stack = X.env :: X.outer) (hf : X.env.frame = some X.env.locals) (hN : X.N.Nodup) (tk : Takes X out)
    (hb : ∀ (W : WX) (pn : List (Addr × Obj)) (xe : Value → Shared → Prop), Takes (X.tr pn xe) W → PassesOwn (model X.prog X.w) X.A X.env xe → PSs (X.tr pn xe) body (tb W)) (C : ClausesOf X (h₀ :: hds) cs) :
    PS X (.Try body (h₀ :: hds) [] [] pos) (fun D σ H => tb (firstOf X.K out D cs) D σ H) := by
  refine ⟨fun pins s σ H D I h => wpAny_Try_except ?_⟩
  have ok := I.ok
  have main := (hb (firstOf X.K out D cs) (X.pn ++ pins) (fun e s₁ => wpAny (model X.prog X.w) X.A (noteFrame e X.env) (fun _ s₂ => wpAny (model X.prog X.w) X.A (setFlight e none) (fun _ s₃ => wpAny (model X.prog X.w) X.A (handleBy e X.env (h₀ :: hds)) (SP X pins D) X.xe s₃) X.xe s₂) X.xe s₁)
    (fun u s' x => by
      obtain ⟨a, B, sI, pn', σ', H', cls, d, rfl, J, nb, up, sky, na, os, ag, w⟩ := x
      have fr : X.A.frames = some (X.env :: X.outer) := by rw [ok.frames, hs]
      have sky2 : Sky B (X.env :: X.outer) a (Zc cls d) X.env.locals s'.heap := by rw [← hs]; exact sky
      exact Sky.land Zc.steady fr hf sky2 fun h3 fl up3 => Fallen.caught hs hf hN tk C ⟨B, sI, J.ofTry ok, nb, up.trans up3, by rw [hs]; exact fl, na, os, ag⟩ w) PassesOwn.looking).run [] s σ H D (I.toTry _) h
  refine wpAny_mono main (fun fw s1 q => ?_) (fun _ _ z => z)
  cases fw with
  | next => obtain ⟨σ', H', J, q⟩ := q; exact wpAny_execs_nil ⟨σ', H', J.ofTry ok, q⟩
  | brk => obtain ⟨σ', H', J, q⟩ := q; exact ⟨σ', H', J.ofTry ok, q⟩
  | cont => obtain ⟨σ', H', J, q⟩ := q; exact ⟨σ', H', J.ofTry ok, q⟩
  | ret u => obtain ⟨v, σ', H', J, r, q⟩ := q; exact ⟨v, σ', H', J.ofTry ok, r, q⟩
end
end L2
namespace L2
open PySem PySem.Spec PyProof.Rows
/-! ### methods and makings that may fail -/
section
variable {X : Cx} {CX : CXT} {k : Nat} {f C : Addr} {fd : FuncData} {ps : List Str} {sp : Sp} {dvs : List V} {ds : List Value} {m x : Str} {p pos apos : Pos} {e o : Expr} {es : List Expr} {ta : TE} {t : TA} {pl : Sem Bool}
def tMethS' (C : Addr) (m : Str) (sp : Sp) (E : St → XK) (ta : TE) (t : TA) : TE := fun σ H Q => ta σ H fun x H1 => ∃ a dx fs, x = .ref a ∧ H1 a = some (.ins C dx fs) ∧ fs.lookup m = none ∧ t σ H1 fun vs H2 => sp (x :: vs) H2 Q (E σ)
theorem pe_methE {E : St → XK} (he : PE X o ta) (c : Cls X.K C) (hm : Meth X.K C m f) (F : FnOk X.prog X.w X.K X.mg X.base CX k f fd ps sp) (hr : Room k X.A) (hb : Binds X.K fd ps []) (hx : ∀ σ, PassesAt CX X σ (E σ)) (ha : PA X (e :: es) t)
    (hst : starEach (e :: es) X.env = (false, eval e X.env) :: starEach es X.env := by rfl) (hpl : (backTo pos (starEach es X.env)).any (·.1) = false := by rfl)
    (ht : eval (.Call (.Attribute o m apos) (e :: es) [] pos) X.env = (do
      let ov ← eval o X.env
      standAt apos.atName
      let (fv, first) ← holding [ov] (getMethod ov m pl)
      callWith pos fv first (backTo pos (starEach (e :: es) X.env)) (backToKw pos (keywordEach [] X.env))) := by rfl) :
    PE X (.Call (.Attribute o m apos) (e :: es) [] pos) (tMethS' C m sp E ta t) := by
  refine ⟨fun pins s σ H Q I h => PySem.W.methodCall_KW (thn (he.run pins s σ H _ I h) fun u s1 ⟨x, H1, I1, rx, a, dx, fs, ex, ea, l, q⟩ => ?_) ht⟩
  subst ex
  obtain rfl : u = Value.ref a := rx
  refine getmeth_ok I1 ea c hm l (PySem.W.callWith_K I.ok.mod.kin hm.kp (thn (ha.run pos pins s1 σ H1 _ I1 q) fun us s2 ⟨vs, H2, I2, r, q2⟩ => ⟨I2.kIn, ?_⟩) hst hpl)
  exact run_fnS F hr hb (hx σ) I2 (.cons (show RelV (V.ref a) (Value.ref a) from rfl) r) q2
theorem run_makeE {E : XK} {pins : List (Addr × Obj)} {σ : St} {H : Hp} {s : Shared} {Q : VK} {us : List Value} {vs : List V} (M : Mk X.K C f) (F : FnOk X.prog X.w X.K X.mg X.base CX k f fd ps sp) (hr : Room (k + 1) X.A) (hb : Binds X.K fd ps ds) (hd : Vals dvs ds) (hx : PassesAt CX X σ E) (I : Inv X pins σ H s) (r : Vals vs us)
    (h : ∀ (x dx : Addr), H x = none → H dx = none → dx ≠ x → sp (.ref x :: (vs ++ dvs)) (upd (upd H dx (.own x)) x (.ins C dx [])) (fun v H2 => v = .non ∧ Q (.ref x) H2) E) : wpAny (model X.prog X.w) X.A (call (.ref C) us) (EP X pins σ Q) X.xe s := by
  have hq := h (s.heap.objs.size + 1) s.heap.objs.size (I.hok.fresh (Nat.le_succ _)) (I.hok.fresh (Nat.le_refl _)) (Nat.ne_of_lt (Nat.lt_succ_self _))
  have I2 := Inv.made (C := C) I
  have r2 : Vals (V.ref (s.heap.objs.size + 1) :: (vs ++ dvs)) (Value.ref (s.heap.objs.size + 1) :: (us ++ ds)) := .cons rfl (Vals.append r hd)
  have hl : (Value.ref (s.heap.objs.size + 1) :: (us ++ ds)).length = ps.length := (Vals.length r2).symm.trans (F.len _ _ _ _ hq)
  refine wpAny_call (make_map I.kIn M.makes M.init (beq_iff_eq.mp M.fn) (codeAny_mono (F.run _ X.stack _ _ ⟨Value.ref (s.heap.objs.size + 1) :: us, []⟩ _ _ _ E (Room.make hr C us []) (Env0.make I2.env0 C us []) (hb _ (Value.ref (s.heap.objs.size + 1) :: us) I2.kIn hl) r2 hq) fun r s' hq' => ?_))
  match r, hq' with
  | .error e, hq' => exact hx pins _ _ e s' I2 hq'
  | .ok (.ret u), hq' =>
    obtain ⟨v, H', I3, rv, ev, q3⟩ := I2.after hq'
    subst ev
    obtain rfl : u = Value.none := rv
    exact ⟨rfl, .ref (s.heap.objs.size + 1), H', I3, rfl, q3⟩
def tMakeS (C : Addr) (sp : Sp) (dvs : List V) (E : St → XK) (t : TA) : TE := fun σ H Q => tMake C sp dvs (E σ) t σ H Q
theorem pe_makeS {E : St → XK} (M : Mk X.K C f) (F : FnOk X.prog X.w X.K X.mg X.base CX k f fd ps sp) (hr : Room (k + 1) X.A) (hg : Gl X x) (hm : X.mg x = some (.ref C)) (hb : Binds X.K fd ps ds) (hd : Vals dvs ds) (hx : ∀ σ, PassesAt CX X σ (E σ)) (ha : PA X (e :: es) t)
    (hdb : (x == ("__debug__" : Str)) = false := by decide) (he : starEach (e :: es) X.env = (false, eval e X.env) :: starEach es X.env := by rfl) (hpl : (backTo pos (starEach es X.env)).any (·.1) = false := by rfl) : PE X (.Call (.Name x p) (e :: es) [] pos) (tMakeS C sp dvs E t) := by
  refine ⟨fun pins s σ H Q I h => wpAny_Call_Name_kw (ld_glob I hg hm (PySem.W.callWith_K I.ok.mod.kin M.kp (thn (ha.run pos pins s σ H _ I h) fun us s1 ⟨vs, H1, I1, r, q⟩ => ⟨I1.kIn, ?_⟩) he hpl) hdb)⟩
  exact run_makeE M F hr hb hd (hx σ) I1 r q
end
end L2
namespace L2
open PySem PySem.Spec PyProof.Rows
/-! ### len(x), x of a class of the text with an own __len__ -/
section
variable {X : Cx} {CX : CXT} {C f : Addr} {fd : FuncData} {ps : List Str} {sp : Sp} {E : XK} {k : Nat}
def rLenO (C : Addr) (sp : Sp) (E : XK) : List V → Hp → VK → Prop := fun xs H Q => ∃ (a dx : Addr) (fs : List (Str × V)), xs = [.ref a] ∧ H a = some (.ins C dx fs) ∧ sp [.ref a] H (fun v H' => ∃ n : Nat, v = .int (n : Nat) ∧ n < sizeLine ∧ Q (.int (n : Nat)) H') E
theorem call_lenO (F : FnOk X.prog X.w X.K X.mg X.base CX k f fd ps sp) (hs : PySem.W.findIn X.K (.ref C) "__len__" = some (some (.ref f))) (hf : PySem.W.isFn X.K (.ref f) = true) (hb : Binds X.K fd ps []) (hx : Passes CX X E) (hr : Room (k + 1) X.A) :
    CallR X (.builtin "len") (rLenO C sp E) := by
  intro pins s σ H xs us Q I r h
  obtain ⟨a, dx, fs, rfl, ha, hsp⟩ := h
  obtain ⟨u, rfl, ru⟩ := vals1 r
  cases ru
  have J := (ins_get I.hok ha).choose_spec.1.look.choose_spec.1
  have sb : Sub X k X.A.in1 := Sub.in1 ⟨hr, rfl⟩
  have e0 : Env0 X.prog X.w X.K X.mg X.base X.A.in1 X.stack s H := let e := I.env0; ⟨by rw [sb.fr, e.frames], e.mod, e.bs, e.bsz, e.funs, e.frf, e.hok, e.bare⟩
  have bnd := hb s [.ref a] I.kIn (by simpa using F.len _ _ _ _ hsp)
  have run := F.run X.A.in1 X.stack s H ⟨[.ref a], []⟩ [.ref a] [.ref a] _ E sb.room e0 (by simpa using bnd) (.cons rfl .nil) hsp
  have h24 : sizeLine = 16777216 := sizeLine_eq
  refine Calls.call_function_entry kind_len plain_len entry_len (args_len1 _) (show wpAny _ _ (Builtin.«len» _) _ _ _ from ?_)
  unfold Builtin.«len»
  refine wpAny_bind (m := oneArg "len" _) (wpAny_pure (wpAny_bind (m := callSpecial? (.ref a) (Str.ofString "__len__")) (PySem.W.special_fn I.kIn J hs (beq_iff_eq.mp hf) (wpAny_call (codeAny_mono run fun r s' hq => ?_)))))
  match r, hq with
  | .error e, hq => exact hx pins σ H s e s' I hq
  | .ok (.ret w), hq =>
    obtain ⟨z, H', I', rz, n, rfl, hn, q⟩ := I.after hq
    obtain ⟨t, rfl⟩ := rz
    refine wpAny_bind (wpAny_holding (wpAny_pure (wpAny_bind (wpAny_letGo (show wpAny _ _ (if ((n : Nat) : Int) < 0 then _ else _) _ _ _ from ?_)))))
    rw [if_neg (show ¬ ((n : Nat) : Int) < 0 by omega)]
    refine (show wpAny _ _ (if ((n : Nat) : Int) ≥ 2 ^ 63 then _ else _) _ _ _ from ?_)
    rw [if_neg (show ¬ ((n : Nat) : Int) ≥ 2 ^ 63 by omega)]
    exact wpAny_bind (wpAny_mkInt (wpAny_pure ⟨Value.int (n : Nat) s'.toks, rfl, V.int (n : Nat), H', I'.tok _, ⟨_, rfl⟩, q⟩))
  | .ok .next, hq | .ok .brk, hq | .ok .cont, hq => exact hq.elim
end
end L2
/-! ### dict(zip(a, b)) of two tuples -/
namespace DZ
open PySem
section
variable {P : Program} {w : World} {A : Around} {B : Value → Shared → Prop} {s : Shared} {z TI TO T i1 i2 l1 l2 : Addr} {f : Bool} {oT : Obj} {k1 k2 : Nat} {xs ys : Array Value}
/-- one step of a zip whose last pair is still out: its two iterators are asked in turn -/
theorem out_step {Q : Fin → Shared → Prop} (hz : IsZipHeld s.heap z TI TO T f) (hT : s.heap.get? T = some oT) (hTI : IsPair s.heap TI (.ref i1) (.ref i2))
    (k : ∀ h1, IsZipHeld h1 z TI TO T true → Heap.SameBut z s.heap h1 → wpAny (model P w) A (Builtin.SmallTypes.nextOf (.ref i1)) (fun x s2 => wpAny (model P w) A (Builtin.SmallTypes.nextOf (.ref i2)) (fun y s3 => wpAny (model P w) A (newTuple [x, y]) (fun v s4 => Q (.done (.ret v)) s4) B s3) B s2) B { s with heap := h1 }) :
    wpAny (model P w) A (Builtin.«zip.__next__» ⟨[.ref z], []⟩) Q B s := by
  refine (show wpAny _ _ (field (.ref z) 2 >>= _) _ _ _ from wpAny_bind (wpAny_field hz rfl (x := .bool false) rfl (show wpAny _ _ (field (.ref z) 3 >>= _) _ _ _ from wpAny_bind (wpAny_field hz rfl (x := .ref TI) rfl (wpAny_bind (wpAny_seqItems hTI rfl (show wpAny _ _ (Builtin.SmallTypes.ownedTupleIsFree (.ref z) >>= _) _ _ _ from wpAny_bind (wpAny_tupleHeld_zip hz hT fun h1 hz1 hs1 => ?_))))))))
  simp only [Bool.false_eq_true, if_false, ← Array.forIn_toList, List.forIn_cons, List.forIn_nil]
  refine wpAny_bind (wpAny_bind (wpAny_bind (wpAny_holding (show wpAny _ _ (Builtin.SmallTypes.nextOf (.ref i1) >>= _) _ _ _ from wpAny_bind (wpAny_mono (k h1 hz1 hs1) (fun x s2 h2 => wpAny_pure (wpAny_pure ?_)) fun _ _ e => e)))))
  refine wpAny_bind (wpAny_bind (wpAny_holding (show wpAny _ _ (Builtin.SmallTypes.nextOf (.ref i2) >>= _) _ _ _ from wpAny_bind (wpAny_mono h2 (fun y s3 h3 => wpAny_pure (wpAny_pure (wpAny_pure ?_))) fun _ _ e => e))))
  exact (show wpAny _ _ (newTuple [x, y] >>= _) _ _ _ from wpAny_bind (wpAny_mono h3 (fun v s4 h4 => wpAny_pure h4) fun _ _ e => e))
open RZ
theorem out_item {Q : Option Value → Shared → Prop} {x y : Value} (D : ZipApart z TI TO i1 i2 l1 l2) (hz : IsZipHeld s.heap z TI TO T f) (hT : s.heap.get? T = some oT) (hTI : IsPair s.heap TI (.ref i1) (.ref i2))
    (a1 : s.heap.IsTupleIter i1 l1 k1) (a2 : s.heap.IsTupleIter i2 l2 k2) (b1 : s.heap.IsTuple l1 xs) (b2 : s.heap.IsTuple l2 ys) (hx : xs[k1]? = some x) (hy : ys[k2]? = some y)
    (q : ∀ h', IsZipHeld h' z TI TO T true → h'.IsTupleIter i1 l1 (k1 + 1) → h'.IsTupleIter i2 l2 (k2 + 1) → IsPair h' s.heap.objs.size x y → (∀ c o, c ≠ z → c ≠ i1 → c ≠ i2 → s.heap.get? c = some o → h'.get? c = some o) → Q (some (.ref s.heap.objs.size)) { s with heap := h' }) :
    wpAny (model P w) A (pyNext (.ref z)) Q B s := by
  have ty : s.TypeIs (.ref z) "zip" := ⟨_, hz, rfl⟩
  unfold pyNext
  refine wpAny_bind (wpAny_attempt (wpAny_callSpecial?_slot (name := Str.ofString "__next__") ty F.slot_zip_next (wpAny_call_entry F.slot_zip_next ty F.entry_zip_next (out_step hz hT hTI fun h1 z1 s1 => ?_) (F.args_zip_next_1 _))))
  refine nextOf_tuple_item (s := { s with heap := h1 }) (a1.extBut s1.extBut D.i1z) (b1.extBut s1.extBut D.l1z) hx fun h2 c1 s2 => ?_
  refine nextOf_tuple_item (s := { s with heap := h2 }) ((a2.extBut s1.extBut D.i2z).extBut s2.extBut D.i12.symm) ((b2.extBut s1.extBut D.l2z).extBut s2.extBut D.l2i1) hy fun h3 c2 s3 => ?_
  refine wpAny_newTuple ⟨_, rfl, wpAny_pure ?_⟩
  have n : h3.objs.size = s.heap.objs.size := by rw [s3.1, s2.1, s1.1]
  have pr : IsPair (h3.push { cls := .type "tuple", data := .seq #[x, y] }) h3.objs.size x y := Heap.get?_push_size _ rfl
  show Q (some (.ref h3.objs.size)) _
  rw [n] at pr ⊢
  exact q _ (Heap.get?_push_of_some _ (s3.extBut _ _ D.i2z.symm (s2.extBut _ _ D.i1z.symm z1))) ((c1.extBut s3.extBut D.i12).at fun o e => Heap.get?_push_of_some _ e) (c2.at fun o e => Heap.get?_push_of_some _ e) pr
    fun c o n1 n2 n3 e => Heap.get?_push_of_some _ (s3.extBut _ _ n3 (s2.extBut _ _ n2 (s1.extBut _ _ n1 e)))
theorem out_end {Q : Option Value → Shared → Prop} (hh : A.handled = none) (D : ZipApart z TI TO i1 i2 l1 l2) (hz : IsZipHeld s.heap z TI TO T f) (hT : s.heap.get? T = some oT) (hTI : IsPair s.heap TI (.ref i1) (.ref i2))
    (a1 : s.heap.IsTupleIter i1 l1 k1) (a2 : s.heap.IsTupleIter i2 l2 k2) (b1 : s.heap.IsTuple l1 xs) (b2 : s.heap.IsTuple l2 ys) (he : xs[k1]? = none ∨ ys[k2]? = none)
    (q : ∀ h', (∀ c o, c ≠ z → c ≠ i1 → c ≠ i2 → s.heap.get? c = some o → h'.get? c = some o) → Q none { s with heap := h' }) : wpAny (model P w) A (pyNext (.ref z)) Q B s := by
  have ty : s.TypeIs (.ref z) "zip" := ⟨_, hz, rfl⟩
  have out : ∀ h' e, (∀ c o, c ≠ z → c ≠ i1 → c ≠ i2 → s.heap.get? c = some o → h'.get? c = some o) → (∃ o, h'.get? e = some o ∧ o.cls = .type "StopIteration") →
      wpAny (model P w) A (do if ← isInstance (.ref e) (.type "StopIteration") then pure none else throw (.ref e)) Q B { s with heap := h' } := fun h' e k ⟨o, ho, hc⟩ =>
    wpAny_bind (wpAny_isInstance (T := "StopIteration") (b := true) ⟨o, ho, hc⟩ isSubtype_stop (wpAny_pure (q _ k)))
  unfold pyNext
  refine wpAny_bind (wpAny_attempt (wpAny_callSpecial?_slot (name := Str.ofString "__next__") ty F.slot_zip_next (wpAny_call_entry F.slot_zip_next ty F.entry_zip_next (out_step hz hT hTI fun h1 z1 s1 => ?_) (F.args_zip_next_1 _))))
  cases hx : xs[k1]? with
  | none => exact nextOf_tuple_end (s := { s with heap := h1 }) hh (a1.extBut s1.extBut D.i1z) (b1.extBut s1.extBut D.l1z) hx fun h2 e s2 he => out h2 e (fun c o n1 n2 _ x => s2 _ _ n2 (s1.extBut _ _ n1 x)) he
  | some x =>
    have hy : ys[k2]? = none := he.resolve_left fun h => by rw [hx] at h; cases h
    refine nextOf_tuple_item (s := { s with heap := h1 }) (a1.extBut s1.extBut D.i1z) (b1.extBut s1.extBut D.l1z) hx fun h2 c1 s2 => ?_
    exact nextOf_tuple_end (s := { s with heap := h2 }) hh ((a2.extBut s1.extBut D.i2z).extBut s2.extBut D.i12.symm) ((b2.extBut s1.extBut D.l2z).extBut s2.extBut D.l2i1) hy fun h3 e s3 he => out h3 e (fun c o n1 n2 n3 x => s3 _ _ n3 (s2.extBut _ _ n2 (s1.extBut _ _ n1 x))) he
/-- the zip after k pairs, while a dict is filled at d: its last pair is out or not -/
structure At (h : Heap) (d z TI TO i1 i2 l1 l2 : Addr) (xs ys : Array Value) (k : Nat) : Prop where
  ti : IsPair h TI (.ref i1) (.ref i2)
  a1 : h.IsTupleIter i1 l1 k
  a2 : h.IsTupleIter i2 l2 k
  b1 : h.IsTuple l1 xs
  b2 : h.IsTuple l2 ys
  zz : (IsZip h z TI TO .none ∧ ∃ a b, IsPair h TO a b) ∨ ∃ T f oT, IsZipHeld h z TI TO T f ∧ h.get? T = some oT ∧ T ≠ z ∧ T ≠ i1 ∧ T ≠ i2 ∧ T ≠ d
theorem argZipT (D : ZipApart z TI TO i1 i2 l1 l2) (xs ys : Array Value) : PairArg P w "zip" z [z, TI, TO, i1, i2, l1, l2] [z, TO, i1, i2] (min xs.size ys.size) (fun i k v => xs[i]? = some k ∧ ys[i]? = some v)
    (fun h => (IsZip h z TI TO .none ∧ ∃ a b, IsPair h TO a b) ∧ IsPair h TI (.ref i1) (.ref i2) ∧ (h.IsTupleIter i1 l1 0 ∧ h.IsTupleIter i2 l2 0) ∧ h.IsTuple l1 xs ∧ h.IsTuple l2 ys) where
  type := fun s o => ⟨_, o.1.1, rfl⟩
  notDict := by decide
  keep := fun h h' ⟨⟨c1, a, b, c2⟩, c3, ⟨c4, c5⟩, c6, c7⟩ e => ⟨⟨e _ _ c1, a, b, e _ _ c2⟩, e _ _ c3, ⟨c4.at fun o q => e _ o q, c5.at fun o q => e _ o q⟩, c6.at fun o q => e _ o q, c7.at fun o q => e _ o q⟩
  there := fun h ⟨⟨c1, a, b, c2⟩, c3, ⟨⟨o4, c4, _⟩, o5, c5, _⟩, ⟨o6, c6, _⟩, o7, c7, _⟩ b hb => by
    simp only [List.mem_cons, List.not_mem_nil, or_false] at hb
    rcases hb with e | e | e | e | e | e | e
    all_goals (subst e; first | exact ⟨_, c1⟩ | exact ⟨_, c3⟩ | exact ⟨_, c2⟩ | exact ⟨_, c4⟩ | exact ⟨_, c5⟩ | exact ⟨_, c6⟩ | exact ⟨_, c7⟩)
  sub := fun b hb => by
    simp only [List.mem_cons, List.not_mem_nil, or_false] at hb ⊢
    rcases hb with e | e | e | e
    all_goals simp [e]
  noKeys := fun A s Q E hA o h => getAttrOr_miss_zip o.1.1 rfl rfl rfl zip_no_keys (by decide +kernel) hA h
  iter := fun A s d Q E hA o hd hdf h => by
    obtain ⟨c1, c3, ⟨c4, c5⟩, c6, c7⟩ := o
    simp only [List.mem_cons, List.not_mem_nil, or_false, not_or] at hdf
    obtain ⟨n1, n2, n3, n4, n5, n6, n7⟩ := hdf
    refine wpAny_pyIter_zip c1.1 (h z [z, TO, i1, i2] (fun i h => At h d z TI TO i1 i2 l1 l2 xs ys i) s.heap s.toks ?_ ⟨c3, c4, c5, c6, c7, .inl c1⟩ (fun _ _ e => e) fun b hb => .inl hb)
    refine { off := fun hm => ?_, frame := fun i h1 h2 st e => ?_, item := fun i s1 Q1 E1 hi st hds k => ?_, done := fun s1 Q1 E1 st k => ?_ }
    · simp only [List.mem_cons, List.not_mem_nil, or_false] at hm
      exact hm.elim n1 fun m => m.elim n3 fun m => m.elim n4 n5
    · refine ⟨e _ _ (Ne.symm n2) st.ti, st.a1.at fun o q => e _ o (Ne.symm n4) q, st.a2.at fun o q => e _ o (Ne.symm n5) q, st.b1.at fun o q => e _ o (Ne.symm n6) q, st.b2.at fun o q => e _ o (Ne.symm n7) q, st.zz.imp (fun ⟨m1, a, b, m2⟩ => ⟨e _ _ (Ne.symm n1) m1, a, b, e _ _ (Ne.symm n3) m2⟩) ?_⟩
      exact fun ⟨T, f, oT, m1, m2, m3, m4, m5, m6⟩ => ⟨T, f, oT, e _ _ (Ne.symm n1) m1, e _ _ m6 m2, m3, m4, m5, m6⟩
    · have ex := Array.getElem?_eq_getElem (xs := xs) (show i < xs.size by omega)
      have ey := Array.getElem?_eq_getElem (xs := ys) (show i < ys.size by omega)
      have lt : ∀ {c o}, s1.heap.get? c = some o → s1.heap.objs.size ≠ c := fun e => Nat.ne_of_gt (Heap.lt_size e)
      have m1 : s1.heap.objs.size ≠ i1 := lt st.a1.choose_spec.1
      have m2 : s1.heap.objs.size ≠ i2 := lt st.a2.choose_spec.1
      rcases st.zz with ⟨q1, a, b, q2⟩ | ⟨T, f, oT, q1, q2, q3, q4, q5, q6⟩
      · refine RZ.pyNext_zipT_item D q1 st.ti q2 st.a1 st.a2 st.b1 st.b2 ex ey fun h' r1 r2 r3 r4 r5 r6 e => k _ _ _ h' s1.toks ⟨ex, ey⟩ (.inl ⟨_, r5, rfl, _, rfl⟩) ?_ fun c o hc q => ?_
        · exact ⟨e _ _ D.TIz D.TITO D.TIi1 D.TIi2 st.ti, r3, r4, st.b1.at fun o q => e _ o D.l1z D.l1TO D.l1i1 D.l1i2 q, st.b2.at fun o q => e _ o D.l2z D.l2TO D.l2i1 D.l2i2 q, .inr ⟨_, false, _, r1, r5, lt q1, m1, m2, Nat.ne_of_gt hds⟩⟩
        · simp only [List.mem_cons, List.not_mem_nil, or_false, not_or] at hc
          exact e c o hc.1 hc.2.1 hc.2.2.1 hc.2.2.2 q
      · refine out_item D q1 q2 st.ti st.a1 st.a2 st.b1 st.b2 ex ey fun h' r1 r3 r4 r5 e => k _ _ _ h' s1.toks ⟨ex, ey⟩ (.inl ⟨_, r5, rfl, _, rfl⟩) ?_ fun c o hc q => ?_
        · exact ⟨e _ _ D.TIz D.TIi1 D.TIi2 st.ti, r3, r4, st.b1.at fun o q => e _ o D.l1z D.l1i1 D.l1i2 q, st.b2.at fun o q => e _ o D.l2z D.l2i1 D.l2i2 q, .inr ⟨T, true, oT, r1, e _ _ q3 q4 q5 q2, q3, q4, q5, q6⟩⟩
        · simp only [List.mem_cons, List.not_mem_nil, or_false, not_or] at hc
          exact e c o hc.1 hc.2.2.1 hc.2.2.2 q
    · have he : xs[min xs.size ys.size]? = none ∨ ys[min xs.size ys.size]? = none := (Nat.le_total xs.size ys.size).imp (fun h => Array.getElem?_eq_none (by omega)) fun h => Array.getElem?_eq_none (by omega)
      rcases st.zz with ⟨q1, a, b, q2⟩ | ⟨T, f, oT, q1, q2, q3, q4, q5, q6⟩
      · refine RZ.pyNext_zipT_end hA D q1 st.ti q2 st.a1 st.a2 st.b1 st.b2 he fun h' e => k h' s1.toks fun c o hc q => ?_
        simp only [List.mem_cons, List.not_mem_nil, or_false, not_or] at hc
        exact e c o hc.1 hc.2.1 hc.2.2.1 hc.2.2.2 q
      · refine out_end hA D q1 q2 st.ti st.a1 st.a2 st.b1 st.b2 he fun h' e => k h' s1.toks fun c o hc q => ?_
        simp only [List.mem_cons, List.not_mem_nil, or_false, not_or] at hc
        exact e c o hc.1 hc.2.2.1 hc.2.2.2 q
end
end DZ
namespace L2
open PySem PySem.Spec PyProof.Rows
theorem boot_dictT : bootBuiltins "dict" = some (.type "dict") := by decide +kernel
theorem kv_zip : ∀ {ks : List Key} {xs : List V} {us : List Value}, Vals xs us → KV (ks.zip xs) (ks.zip us)
  | [], _, _, _ => .nil
  | _ :: _, _, _, .nil => .nil
  | _ :: _, _, _, .cons r t => .cons ⟨rfl, r⟩ (kv_zip t)
/-- dict(zip(a, b)), a a tuple of texts, b a tuple -/
def tDictZip (K : PySem.W.Frag) (ta : TA) : TE := fun σ H Q => ta σ H fun vs H1 => ∃ (a b : Addr) (zs : List Str) (xs : List V), vs = [.ref a, .ref b] ∧ SqT K H1 a (zs.map V.str) ∧ SqT K H1 b xs ∧ zs.length ≤ 1000 ∧
  ∀ p, H1 p = none → Q (.ref p) (upd H1 p (.dK (mergeK [] ((zs.map (Sum.inr : Str → Key)).zip xs))))
theorem pe_dictZip {X : Cx} {e e2 : Expr} {ta : TA} {p p2 q pos : Pos} (hg : Gl X "dict") (hm : X.mg "dict" = none) (hg2 : Gl X "zip") (hm2 : X.mg "zip" = none) (ha : PA X [e, e2] ta) (hc : X.calm = true := by rfl)
    (hs : starEach [e, e2] X.env = (false, eval e X.env) :: starEach [e2] X.env := by rfl) (hpl : (backTo q (starEach [e2] X.env)).any (·.1) = false := by rfl)
    (hz : starEach [.Call (.Name "zip" p2) [e, e2] [] q] X.env = (false, eval (.Call (.Name "zip" p2) [e, e2] [] q) X.env) :: starEach [] X.env := by rfl) :
    PE X (.Call (.Name "dict" p) [.Call (.Name "zip" p2) [e, e2] [] q] [] pos) (tDictZip X.K ta) := by
  refine ⟨fun pins s σ H Q I h => ?_⟩
  refine Call_ (ld_blt I hg hm boot_dictT (callWith_type1 (args_cons (Call_ (ld_blt I hg2 hm2 boot_zip (callWith_type1 (thn (ha.run q pins s σ H _ I h) fun us s1 ⟨vs, H1, I1, r1, q1⟩ => ?_) hs hpl))) hz) hz rfl))
  obtain ⟨a, b, zs, xs, rfl, h1, h2, hl, q1⟩ := q1
  obtain ⟨u1, u2, rfl, e1, e2⟩ := vals2 r1
  cases e1
  cases e2
  obtain ⟨is1, v1, t1, _⟩ := I1.tuple h1
  obtain ⟨is2, v2, t2, _⟩ := I1.tuple h2
  have n1 : a < s1.heap.objs.size := Heap.lt_size t1.choose_spec.1
  have n2 : b < s1.heap.objs.size := Heap.lt_size t2.choose_spec.1
  have D := PySem.W.ktu_apart s1.heap.objs.size a b n1 n2
  have l1 : is1.length = zs.length := by rw [← v1.length, List.length_map]
  refine RZ.call_zipT (show s1.heap.IsTuple a is1.toArray from t1) (show s1.heap.IsTuple b is2.toArray from t2) fun h' hz hTI hTO g1 g2 hsz hk => args_nil ?_
  have I2 : Inv X pins σ H1 { s1 with heap := h' } := I1.kept (t' := s1.toks) hk
  have ln : ((zs.map (Sum.inr : Str → Key)).zip is2).length = min is1.toArray.size is2.toArray.size := by rw [List.length_zip, List.length_map, List.size_toArray, List.size_toArray, l1]
  refine PySem.call_dict_pairs (s := { s1 with heap := h' }) (knd := mixKind X.prog X.w) (kvs := (zs.map (Sum.inr : Str → Key)).zip is2) (DZ.argZipT D is1.toArray is2.toArray) (I1.ok.hd hc)
    ⟨⟨hz, _, _, hTO⟩, hTI, ⟨g1, g2⟩, (show s1.heap.IsTuple a is1.toArray from t1).at fun o e => hk _ o e, (show s1.heap.IsTuple b is2.toArray from t2).at fun o e => hk _ o e⟩ ⟨ln, fun i key v ⟨m1, m2⟩ => ?_⟩ ?_ fun h3 tk hd hk3 => ?_
  · have hi : i < zs.length := by
      have := (Array.getElem?_eq_some_iff.mp m1).1
      rw [List.size_toArray, l1] at this
      exact this
    obtain ⟨u, hu, ru⟩ := v1.get (i := i) (x := V.str zs[i]) (by rw [List.getElem?_map, List.getElem?_eq_getElem hi]; rfl)
    have ek : u = key := by
      have m1' : is1[i]? = some key := by simpa using m1
      rw [hu] at m1'
      exact Option.some.inj m1'
    have m2' : is2[i]? = some v := by simpa using m2
    refine ⟨Sum.inr zs[i], ?_, by rw [← ek]; exact kV_is (k := Sum.inr zs[i]) ru⟩
    rw [List.getElem?_zip_eq_some]
    exact ⟨by rw [List.getElem?_map, List.getElem?_eq_getElem hi]; rfl, m2'⟩
  · rw [← ln, List.length_zip, List.length_map]
    exact Nat.le_trans (Nat.min_le_left _ _) (Nat.le_trans hl (by decide))
  · have k3 : ∀ c o, s1.heap.get? c = some o → h3.get? c = some o := fun c o e => hk3 c o (fun m => by
      have lt := Heap.lt_size e
      simp only [List.mem_cons, List.not_mem_nil, or_false] at m
      rcases m with m | m | m | m <;> (rw [m] at lt; first | exact absurd lt (Nat.not_lt.mpr (Nat.le_add_right _ _)) | exact absurd lt (Nat.lt_irrefl _))) (hk c o e)
    have big : sysModules < h'.objs.size := I2.big
    have le : s1.heap.objs.size ≤ h'.objs.size := by rw [hsz]; exact Nat.le_add_right _ _
    have sz : (mergeK [] ((zs.map (Sum.inr : Str → Key)).zip xs)).length ≤ sizeLine := by
      refine Nat.le_trans (length_mergeK _ []) ?_
      rw [List.length_nil, Nat.zero_add, List.length_zip, List.length_map]
      exact Nat.le_trans (Nat.min_le_left _ _) (Nat.le_trans hl (by decide))
    have new : ObjOk X.prog X.w (upd H1 h'.objs.size (.dK (mergeK [] ((zs.map (Sum.inr : Str → Key)).zip xs)))) h3 h'.objs.size (.dK (mergeK [] ((zs.map (Sum.inr : Str → Key)).zip xs))) := ⟨sz, beq_eq_false_iff_ne.mpr (Nat.ne_of_gt big), _, KV.merge (kv_zip v2) .nil, hd⟩
    exact ⟨.ref h'.objs.size, _, I1.laid (t' := tk) k3 le new, rfl, q1 _ (I1.hok.fresh le)⟩
theorem putK_out {kvs : List (Key × V)} {k : Key} {v : V} (h : k ∉ kvs.map (·.1)) : putK kvs k v = kvs ++ [(k, v)] := by
  unfold putK
  rw [if_neg]
  rw [List.any_eq_true]
  rintro ⟨p, hp, e⟩
  exact h (List.mem_map.mpr ⟨p, hp, of_decide_eq_true e⟩)
theorem mergeK_nd : ∀ {more kvs : List (Key × V)}, ((kvs ++ more).map (·.1)).Nodup → mergeK kvs more = kvs ++ more
  | [], kvs, _ => by rw [List.append_nil]; rfl
  | (k, v) :: r, kvs, h => by
    have hk : k ∉ kvs.map (·.1) := fun m => by
      rw [List.map_append, List.nodup_append] at h
      exact h.2.2 k m k List.mem_cons_self rfl
    have e : mergeK kvs ((k, v) :: r) = mergeK (putK kvs k v) r := rfl
    rw [e, putK_out hk, mergeK_nd (kvs := kvs ++ [(k, v)]) (by rw [List.append_assoc]; exact h), List.append_assoc]
    rfl
end L2
namespace L2
open PySem PySem.Spec PyProof.Rows
/-! ### len(s), s a set of numbers -/
def rLenSet (w : World) : List V → Hp → VK → Prop := fun xs H Q => ∃ (a : Addr) (S : Int → Bool) (n : Nat), xs = [.ref a] ∧ H a = some (SetO w a S n) ∧ n < 1000 ∧ ∀ ks : List Int, ks.Nodup → (∀ k, S k = true ↔ k ∈ ks) → Q (.int (ks.length : Nat)) H
theorem call_lenSet {X : Cx} : CallR X (.builtin "len") (rLenSet X.w) := by
  intro pins s σ H xs us Q I r h
  obtain ⟨a, S, n, rfl, ha, n1, q⟩ := h
  have R := setO_get I ha
  rw [Vals.ref1 r]
  obtain ⟨o, es, ep, t, ho, hex, hd, g, nd, hm, hb, hf, hn, hr, hl⟩ := R
  exact call_len_set ho hex hd hf (by rw [hn] <;> omega) ⟨.int ((es.toList.map keyOf).length : Nat), H, I.tok _, ⟨_, by rw [List.length_map, Array.length_toList]⟩, q _ nd hm⟩
end L2
namespace L2
open PySem PySem.Spec PyProof.Rows
/-! ### x == y, x of a class of the text whose own __eq__ tells True or False -/
/-- the type of what stands on the right -/
inductive TyL (H : Hp) : V → Value → Prop where
  | non : TyL H .non (.type "NoneType")
  | int (i : Int) : TyL H (.int i) (.type "int")
  | str (x : Str) : TyL H (.str x) (.type "str")
  | tup {a : Addr} {xs : List V} (h : H a = some (.tup xs)) : TyL H (.ref a) (.type "tuple")
  | ins {a C dx : Addr} {fs : List (Str × V)} (h : H a = some (.ins C dx fs)) : TyL H (.ref a) (.ref C)
theorem TyL.looks {X : Cx} {pins : List (Addr × Obj)} {σ : St} {H : Hp} {s : Shared} {y : V} {u tb : Value} (ty : TyL H y tb) (I : Inv X pins σ H s) (r : RelV y u) : PySem.W.Looks (model X.prog X.w) s.heap (typeOf u) tb := by
  cases ty with
  | non =>
    cases r
    exact fun _ _ _ _ _ q => wpAny_of_eq rfl q
  | int i =>
    obtain ⟨t, rfl⟩ := r
    exact fun _ _ _ _ _ q => wpAny_of_eq rfl q
  | str x =>
    obtain ⟨t, rfl⟩ := r
    exact fun _ _ _ _ _ q => wpAny_of_eq rfl q
  | tup h =>
    cases r
    obtain ⟨its, _, tp, _⟩ := I.tuple (SqT.of h)
    obtain ⟨o, ho, hc, _⟩ := tp
    exact fun _ _ _ _ k q => wpAny_typeOf_ref (k _ _ ho) (by rw [hc]; exact q)
  | ins h =>
    cases r
    exact (ins_get I.hok h).choose_spec.1.look.choose_spec.1.type
section
variable {X : Cx} {CX : CXT} {C f : Addr} {fd : FuncData} {ps : List Str} {sp : Sp} {E : XK} {k : Nat}
def rEqO (K : PySem.W.Frag) (C : Addr) (sp : Sp) (E : XK) : R2 := fun x y H Q => ∃ (a dx : Addr) (fs : List (Str × V)) (tb : Value), x = .ref a ∧ H a = some (.ins C dx fs) ∧ TyL H y tb ∧ PySem.W.notFirst K C tb = true ∧ sp [.ref a, y] H (fun v H' => ∃ b, v = .bl b ∧ Q (.bl b) H') E
theorem op_eqO (F : FnOk X.prog X.w X.K X.mg X.base CX k f fd ps sp) (hs : PySem.W.findIn X.K (.ref C) "__eq__" = some (some (.ref f))) (hf : PySem.W.isFn X.K (.ref f) = true) (hb : Binds X.K fd ps []) (hx : Passes CX X E) (hr : Room k X.A) : OpR X (compareOp .Eq) (rEqO X.K C sp E) := by
  intro pins s σ H x y v u Q I rx ry h
  obtain ⟨a, dx, fs, tb, rfl, ha, ty, nf, hsp⟩ := h
  cases rx
  have J := (ins_get I.hok ha).choose_spec.1.look.choose_spec.1
  obtain ⟨m, hF⟩ := I.fr
  have sb : Sub X k X.A := ⟨hr, rfl⟩
  have e0 : Env0 X.prog X.w X.K X.mg X.base X.A X.stack s H := I.env0
  have bnd := hb s [.ref a, u] I.kIn (by simpa using F.len _ _ _ _ hsp)
  have run := F.run X.A X.stack s H ⟨[.ref a, u], []⟩ [.ref a, u] [.ref a, y] _ E sb.room e0 (by simpa using bnd) (.cons rfl (.cons ry .nil)) hsp
  refine (show wpAny (model X.prog X.w) X.A (richCompare .Eq (.ref a) u) (EP X pins σ Q) X.xe s from PySem.W.cmp_K (op := .Eq) (tb := tb) sb.room.units0 hF I.ok.mod.kin J (ty.looks I ry) nf hs hf (wpAny_call (codeAny_mono run fun r s' hq => ?_)))
  match r, hq with
  | .error e, hq => exact hx pins σ H s e s' I hq
  | .ok (.ret w), hq =>
    obtain ⟨z, H', I', rz, b, rfl, q⟩ := I.after hq
    cases rz
    exact ⟨.bl b, H', I', rfl, q⟩
  | .ok .next, hq | .ok .brk, hq | .ok .cont, hq => exact hq.elim
end
end L2
namespace L2
open PySem PySem.Spec PyProof.Rows
section
variable {P : Program} {w : World} {A : Around} {B : Value → Shared → Prop} {s : Shared} {K : PySem.W.Frag} {x C f : Addr} {u : Value} {ox : Obj} {od : Option Obj}
/-- object.__ne__ asks the own __eq__ -/
theorem ne_asks {Q : Value → Shared → Prop} (X : K.In s.heap) (J : PySem.W.InstAt s.heap x ox C od) (hu : A.in1.units < cLine) (hs : PySem.W.findIn K (.ref C) "__eq__" = some (some (.ref f))) (hf : PySem.W.isFn K (.ref f) = true) (hm : PySem.W.mroIn K C (.type "object") = some true)
    (h : wpAny (model P w) A.in1 (call (.ref f) [.ref x, u]) (fun v s' => ∃ b, v = .bool b ∧ Q (.bool (!b)) s') B s) : wpAny (model P w) A (call (.builtin "object.__ne__") [.ref x, u]) Q B s := by
  have inst : PySem.W.Looks (model P w) s.heap (isInstance (.ref x) (.type "object")) true := J.type.andThen (PySem.W.looks_mroIn X hm)
  refine wpAny_call (codeAny_call_builtin (F.cmp_object.ne.plain) F.cmpEntry_ne (PySem.W.check_slot F.cmpKind_ne F.cmpSplit_ne inst (F.cmpArgs_ne _ _) ?_))
  show wpAny (model P w) A.in1 (cRoomFor "comparison" [.ref x, u] >>= _) _ _ s
  refine wpAny_bind (wpAny_cRoomFor hu (wpAny_bind (PySem.W.ifBound_K X J hs hf (wpAny_mono h (fun v s' hv => ?_) fun _ _ e => e))))
  obtain ⟨b, rfl, q⟩ := hv
  exact wpAny_bind (wpAny_truthy_bool (wpAny_pure q))
/-- != of an instance whose class has object's __ne__ -/
theorem ne_bound {Q : Option Value → Shared → Prop} (X : K.In s.heap) (J : PySem.W.InstAt s.heap x ox C od) (hn : PySem.W.findIn K (.ref C) "__ne__" = some (some (.builtin "object.__ne__")))
    (h : wpAny (model P w) A (call (.builtin "object.__ne__") [.ref x, u]) (fun v => Q (some v)) B s) : wpAny (model P w) A (callSpecialIfBound? (.ref x) "__ne__" [u]) Q B s := by
  simp only [callSpecialIfBound?, bindSpecialIfBound?]
  have b : bindSpecial (.builtin "object.__ne__") (.ref x) = pure (.builtin "object.__ne__", [.ref x]) := F.cmp_object.ne.bind _
  have fin : wpAny (model P w) A (call (.builtin "object.__ne__") ([.ref x] ++ [u]) >>= fun v => pure (some v)) Q B s := wpAny_bind (wpAny_mono h (fun v s' h' => wpAny_pure h') fun _ _ e => e)
  refine wpAny_holding (wpAny_bind (wpAny_bind (wpAny_bind (J.type.here ((PySem.W.looks_findIn X hn).here ?_)))))
  simp only [b]
  refine wpAny_bind (wpAny_askSetting (wpAny_ite ?_))
  split
  · exact wpAny_bind (wpAny_pure (wpAny_pure fin))
  · exact wpAny_tryCatch (wpAny_bind (wpAny_pure (wpAny_pure fin)))
end
end L2
namespace L2
open PySem PySem.Spec PyProof.Rows
section
variable {X : Cx} {CX : CXT} {C f : Addr} {fd : FuncData} {ps : List Str} {sp : Sp} {E : XK} {k : Nat}
/-- x != y, x of a class of the text with an own __eq__ and object's __ne__ -/
def rNeO (K : PySem.W.Frag) (C : Addr) (sp : Sp) (E : XK) : R2 := fun x y H Q => ∃ (a dx : Addr) (fs : List (Str × V)) (tb : Value), x = .ref a ∧ H a = some (.ins C dx fs) ∧ TyL H y tb ∧ PySem.W.notFirst K C tb = true ∧ sp [.ref a, y] H (fun v H' => ∃ b, v = .bl b ∧ Q (.bl (!b)) H') E
theorem op_neO (F : FnOk X.prog X.w X.K X.mg X.base CX k f fd ps sp) (hs : PySem.W.findIn X.K (.ref C) "__eq__" = some (some (.ref f))) (hf : PySem.W.isFn X.K (.ref f) = true) (hn : PySem.W.findIn X.K (.ref C) "__ne__" = some (some (.builtin "object.__ne__"))) (hm : PySem.W.mroIn X.K C (.type "object") = some true)
    (hb : Binds X.K fd ps []) (hx : Passes CX X E) (hr : Room (k + 1) X.A) : OpR X (compareOp .NotEq) (rNeO X.K C sp E) := by
  intro pins s σ H x y v u Q I rx ry h
  obtain ⟨a, dx, fs, tb, rfl, ha, ty, nf, hsp⟩ := h
  cases rx
  have J := (ins_get I.hok ha).choose_spec.1.look.choose_spec.1
  have sb : Sub X k X.A.in1 := Sub.in1 ⟨hr, rfl⟩
  have s0 : Sub X (k + 1) X.A := ⟨hr, rfl⟩
  have e0 : Env0 X.prog X.w X.K X.mg X.base X.A.in1 X.stack s H := let e := I.env0; ⟨by rw [sb.fr, e.frames], e.mod, e.bs, e.bsz, e.funs, e.frf, e.hok, e.bare⟩
  have bnd := hb s [.ref a, u] I.kIn (by simpa using F.len _ _ _ _ hsp)
  have run := F.run X.A.in1 X.stack s H ⟨[.ref a, u], []⟩ [.ref a, u] [.ref a, y] _ E sb.room e0 (by simpa using bnd) (.cons rfl (.cons ry .nil)) hsp
  have one : wpAny (model X.prog X.w) X.A (tryCompare (.ref a) "__ne__" u) (fun r s' => ∃ v, r = some v ∧ EP X pins σ Q v s') X.xe s := by
    unfold tryCompare
    refine wpAny_bind (ne_bound I.kIn J hn (ne_asks I.kIn J sb.room.units0 hs hf hm (wpAny_call (codeAny_mono run fun r s' hq => ?_))))
    match r, hq with
    | .error e, hq => exact hx pins σ H s e s' I hq
    | .ok (.ret w), hq =>
      obtain ⟨z, H', I', rz, b, rfl, q⟩ := I.after hq
      cases rz
      exact ⟨b, rfl, wpAny_pure ⟨_, rfl, .bl (!b), H', I', rfl, q⟩⟩
    | .ok .next, hq | .ok .brk, hq | .ok .cont, hq => exact hq.elim
  refine (show wpAny (model X.prog X.w) X.A (richCompare .NotEq (.ref a) u) (EP X pins σ Q) X.xe s from ?_)
  unfold richCompare
  simp only [oneThing_ref]
  refine wpAny_holding (wpAny_bind (wpAny_cRoomFor s0.room.units0 (wpAny_bind (J.type.here (wpAny_bind ((ty.looks I ry).here ?_))))))
  have go : wpAny (model X.prog X.w) X.A (tryCompare (.ref a) "__ne__" u) (fun r s' => ∃ v, r = some v ∧ EP X pins σ Q v s') X.xe s := one
  split
  · rename_i q
    have e : PySem.W.subIn X.K tb (.ref C) = some false := (Bool.or_eq_true_iff.mp nf).elim (fun e => by rw [beq_iff_eq.mp e] at q; simp at q) fun e => beq_iff_eq.mp e
    refine wpAny_bind ((PySem.W.looks_subIn I.kIn e).here ?_)
    rw [if_neg Bool.false_ne_true]
    exact wpAny_bind (wpAny_mono go (fun r s' ⟨v, hv, hq⟩ => by subst hv; exact wpAny_pure hq) fun _ _ e => e)
  · refine wpAny_bind (wpAny_pure ?_)
    rw [if_neg Bool.false_ne_true]
    exact wpAny_bind (wpAny_mono go (fun r s' ⟨v, hv, hq⟩ => by subst hv; exact wpAny_pure hq) fun _ _ e => e)
end
end L2
namespace L2
open PySem PySem.Spec PyProof.Rows
/-! ### a, *b = a list of one item or more -/
section
variable {X : Cx} {pos : Pos}
theorem pgs_star {e : Expr} {p : Pos} {es : List Expr} {t : TG} {u : TGs} (h1 : PG X e t) (h2 : PGs X es u)
    (hs : (assignEach (.Starred e p :: es) X.env).map (·.2) = assign e X.env :: (assignEach es X.env).map (·.2) := by rfl) : PGs X (.Starred e p :: es) (gCons t u) := by
  refine ⟨fun pins s σ H vs us Q I r h => ?_⟩
  obtain ⟨v, vr, e1, h⟩ := h
  subst e1
  cases r with
  | cons r rr =>
    rw [hs]
    refine assignInOrder_cons (thn (h1.run pins s σ H _ _ _ I r h) fun _ s1 ⟨σ1, H1, I1, q1⟩ => ?_)
    exact h2.run pins s1 σ1 H1 _ _ Q I1 rr q1
def gUnS (K : PySem.W.Frag) (t : TGs) : TG := fun v σ H Q => ∃ a x xs, v = .ref a ∧ SqL K H a (x :: xs) ∧ ∀ D, H D = none → t [x, .ref D] σ (upd H D (.lst xs)) Q
theorem pg_unS {es : List Expr} {k : Nat} {t : TGs} (hc : X.calm = true) (h : PGs X es t)
    (hn : (assignEach es X.env).length = 2 := by rfl) (hst : (assignEach es X.env).findIdx? (·.1) = some 1 := by rfl) : PG X (.Tuple es k pos) (gUnS X.K t) := by
  refine ⟨fun pins s σ H v u Q I r hw => ?_⟩
  obtain ⟨a, x, xs, e1, hq, hw⟩ := hw
  subst e1
  cases r
  obtain ⟨its, rv, pl, hz⟩ := I.list hq
  have hl : s.heap.IsList a its.toArray := by
    obtain ⟨o, m, e, c, d, q⟩ := pl
    exact ⟨o, e, c, m, q⟩
  cases rv with
  | @cons _ y _ ys rx rr =>
    have hlen := rr.length
    have hz' : ys.length + 1 ≤ sizeLine := by
      rw [List.length_cons] at hz
      omega
    have hsz : (y :: ys).toArray.size = ys.length + 1 := by simp
    have hlt : a ≠ s.heap.objs.size := by obtain ⟨o, ho, _⟩ := hl; exact Nat.ne_of_lt (Heap.lt_size ho)
    rw [PyProof.Rows.assign_Tuple]
    refine wpAny_bind (wpAny_standAt ?_)
    unfold unpack
    rw [hn, hst]
    refine wpAny_bind (wpAny_holding ?_)
    unfold unpackItems
    refine wpAny_bind ?_
    unfold notIterableAtAll
    refine wpAny_bind (wpAny_specialOf hl.typeIs PySem.F.slot_list_iter.lookup ?_)
    refine wpAny_pure ?_
    simp only [Bool.false_eq_true, if_false]
    refine wpAny_bind (wpAny_holding (wpAny_pyIter_list hl ?_))
    refine wpAny_bind (wpAny_holding (PySem.W.kun_draw hlt 1 0 _ _ ⟨_, Heap.get?_push_size _ rfl, rfl, rfl⟩ (hl.push _) (by omega) fun h₁ hit₁ hs₁ => ?_))
    have hl₁ : h₁.IsList a (y :: ys).toArray := (hl.push _).extBut hs₁.extBut hlt
    have hit₂ := hit₁
    obtain ⟨oi, hoi, _⟩ := hit₂
    have hl₂ := hl₁
    obtain ⟨ol, hol, _⟩ := hl₂
    rw [List.drop_zero]
    have hf : ((y :: ys).toArray.toList.take 1) = [y] := by simp
    rw [hf, if_neg (by show ¬ (1 < 1); decide)]
    refine wpAny_bind (wpAny_holding (PySem.W.kun_collect (s := { s with heap := h₁ }) (T := "list_iterator") (.inr (.inr (.inl rfl))) (Walks.list (A := X.A.in1) (I.ok.hd hc) s.heap.objs.size a hlt (y :: ys).toArray) (fun j u st => st.1.typeIs) (k := 1) (by omega) ⟨hit₁, hl₁⟩ (Heap.lt_size hoi) (Heap.lt_size hol) (fun h₂ tk hk => ?_) (by omega)))
    have hd : ((y :: ys).toArray.toList.drop 1) = ys := by simp
    rw [hd]
    show wpAny _ _ (if ys.length < 2 - 1 - 1 then _ else _) _ _ _
    rw [if_neg (by omega)]
    show wpAny _ _ (newList (ys.take (ys.length - (2 - 1 - 1))) >>= fun d => pure ([y] ++ [d] ++ ys.drop (ys.length - (2 - 1 - 1)))) _ _ _
    rw [show ys.length - (2 - 1 - 1) = ys.length by omega, List.take_length, List.drop_length]
    have he : ∀ b o, s.heap.get? b = some o → h₂.get? b = some o := fun b o e => hk b o (Nat.ne_of_lt (Heap.lt_size e)) (hs₁.extBut b o (Nat.ne_of_lt (Heap.lt_size e)) (Heap.get?_push_of_some _ e))
    have I2 : Inv X pins σ H { s with heap := h₂, toks := tk } := I.kept (t' := tk) he
    refine wpAny_bind (wpAny_newList (wpAny_pure ?_) (by omega))
    have I1 : Inv X pins σ (upd H h₂.objs.size (.lst xs)) { s with heap := h₂.push { cls := .type "list", data := .seq ys.toArray }, toks := tk } := I2.laid (t' := tk) (fun b o e => Heap.get?_push_of_some _ e) (Nat.le_refl _) ⟨by omega, ys, 0, rr, Heap.get?_push_size _ rfl⟩
    exact h.run pins _ σ _ [x, .ref h₂.objs.size] [y, .ref h₂.objs.size] Q I1 (.cons rx (.cons rfl .nil)) (hw _ (I2.hok.fresh (Nat.le_refl _)))
end
end L2
namespace L2
open PySem PySem.Spec PyProof.Rows
/-! ### an instance made by a name of the def: cls(..) -/
section
variable {X : Cx} {CX : CXT} {C f : Addr} {fd : FuncData} {ps : List Str} {sp : Sp} {E : XK} {k : Nat} {x : Str} {e : Expr} {es : List Expr} {t : TA} {tf : TE} {p pos : Pos} {ds : List Value} {dvs : List V}
def tMakeC (C : Addr) (sp : Sp) (dvs : List V) (E : XK) (tf : TE) (t : TA) : TE := fun σ H Q => tf σ H fun y H1 => y = .ref C ∧ tMake C sp dvs E t σ H1 Q
theorem pe_makeC (hn : PE X (.Name x p) tf) (M : Mk X.K C f) (F : FnOk X.prog X.w X.K X.mg X.base CX k f fd ps sp) (hr : Room (k + 1) X.A) (hb : Binds X.K fd ps ds) (hd : Vals dvs ds) (hx : Passes CX X E)
    (ha : PA X (e :: es) t) (he : starEach (e :: es) X.env = (false, eval e X.env) :: starEach es X.env := by rfl) (hpl : (backTo pos (starEach es X.env)).any (·.1) = false := by rfl) :
    PE X (.Call (.Name x p) (e :: es) [] pos) (tMakeC C sp dvs E tf t) := by
  refine ⟨fun pins s σ H Q I h => ?_⟩
  refine wpAny_Call_Name_kw (thn (hn.run pins s σ H _ I h) fun u s1 ⟨y, H1, I1, ry, ey, q⟩ => ?_)
  subst ey
  obtain rfl : u = Value.ref C := ry
  refine PySem.W.callWith_K (h₀ := X.base) I1.ok.mod.kin M.kp (thn (ha.run pos pins s1 σ H1 _ I1 q) fun us s2 ⟨vs, H2, I2, r, q2⟩ => ⟨I2.kIn, ?_⟩) he hpl
  exact run_make M F hr hb hd hx I2 r q2
end
end L2
namespace L2
open PySem PySem.Spec PyProof.Rows RZ
/-! ### zip of two sequences, each a list (true) or a tuple (false) -/
def JtB (b : Bool) (h : Heap) (i l : Addr) (k : Nat) : Prop := if b = true then h.IsListIter i l k else h.IsTupleIter i l k
def SeqB (b : Bool) (h : Heap) (l : Addr) (xs : Array Value) : Prop := if b = true then h.IsList l xs else h.IsTuple l xs
theorem JtB.ext {b : Bool} {h g : Heap} {i l c : Addr} {k : Nat} (x : JtB b h i l k) (e : Heap.ExtBut c h g) (n : i ≠ c) : JtB b g i l k := by
  cases b
  · exact Heap.IsTupleIter.extBut (show h.IsTupleIter i l k from x) e n
  · exact Heap.IsListIter.extBut (show h.IsListIter i l k from x) e n
theorem JtB.at {b : Bool} {h g : Heap} {i l : Addr} {k : Nat} (x : JtB b h i l k) (e : ∀ o, h.get? i = some o → g.get? i = some o) : JtB b g i l k := by
  cases b
  · exact Heap.IsTupleIter.at (show h.IsTupleIter i l k from x) e
  · exact Heap.IsListIter.at (show h.IsListIter i l k from x) e
theorem JtB.ob {b : Bool} {h : Heap} {i l : Addr} {k : Nat} (x : JtB b h i l k) : ∃ o, h.get? i = some o ∧ ∀ v, o.data ≠ .cell v := by
  cases b
  · obtain ⟨o, e, _, d⟩ := (show h.IsTupleIter i l k from x)
    exact ⟨o, e, fun v q => by rw [d] at q; cases q⟩
  · obtain ⟨o, e, _, d⟩ := (show h.IsListIter i l k from x)
    exact ⟨o, e, fun v q => by rw [d] at q; cases q⟩
theorem SeqB.ext {b : Bool} {h g : Heap} {l c : Addr} {xs : Array Value} (x : SeqB b h l xs) (e : Heap.ExtBut c h g) (n : l ≠ c) : SeqB b g l xs := by
  cases b
  · exact Heap.IsTuple.extBut (show h.IsTuple l xs from x) e n
  · exact Heap.IsList.extBut (show h.IsList l xs from x) e n
theorem SeqB.lt {b : Bool} {h : Heap} {l : Addr} {xs : Array Value} (x : SeqB b h l xs) : l < h.objs.size := by
  cases b
  · obtain ⟨o, e, _⟩ := (show h.IsTuple l xs from x)
    exact Heap.lt_size e
  · obtain ⟨o, e, _⟩ := (show h.IsList l xs from x)
    exact Heap.lt_size e
section
variable {P : Program} {w : World} {A : Around} {E : Value → Shared → Prop} {s : Shared}
theorem nextB_item {b : Bool} {i l : Addr} {k : Nat} {xs : Array Value} {x : Value} {Q : Value → Shared → Prop} (hi : JtB b s.heap i l k) (hl : SeqB b s.heap l xs) (hx : xs[k]? = some x)
    (q : ∀ g, JtB b g i l (k + 1) → Heap.SameBut i s.heap g → Q x { s with heap := g }) : wpAny (model P w) A (Builtin.SmallTypes.nextOf (.ref i)) Q E s := by
  cases b
  · exact nextOf_tuple_item (show s.heap.IsTupleIter i l k from hi) (show s.heap.IsTuple l xs from hl) hx q
  · exact wpAny_nextOf_list_item (show s.heap.IsListIter i l k from hi) (show s.heap.IsList l xs from hl) hx q
theorem nextB_end {b : Bool} {i l : Addr} {k : Nat} {xs : Array Value} {Q : Value → Shared → Prop} (hh : A.handled = none) (hi : JtB b s.heap i l k) (hl : SeqB b s.heap l xs) (hx : xs[k]? = none)
    (q : ∀ g e, Heap.ExtBut i s.heap g → (∃ o, g.get? e = some o ∧ o.cls = .type "StopIteration") → E (.ref e) { s with heap := g }) : wpAny (model P w) A (Builtin.SmallTypes.nextOf (.ref i)) Q E s := by
  cases b
  · exact nextOf_tuple_end hh (show s.heap.IsTupleIter i l k from hi) (show s.heap.IsTuple l xs from hl) hx q
  · exact wpAny_nextOf_list_end hh (show s.heap.IsListIter i l k from hi) (show s.heap.IsList l xs from hl) hx q
variable {b c : Bool} {z U O i j l m : Addr} {p q : Nat} {xs ys : Array Value} {u v : Value}
/-- zip's step: both sides have an item -/
theorem zipB_item {x y : Value} {Q : Value → Shared → Prop} (D : ZipApart z U O i j l m) (hz : IsZip s.heap z U O .none) (hU : IsPair s.heap U (.ref i) (.ref j)) (hO : IsPair s.heap O u v)
    (hi : JtB b s.heap i l p) (hj : JtB c s.heap j m q) (hl : SeqB b s.heap l xs) (hm : SeqB c s.heap m ys) (hx : xs[p]? = some x) (hy : ys[q]? = some y)
    (kk : ∀ g, IsZip g z U O (rawInt s.heap.objs.size) → IsPair g O x y → JtB b g i l (p + 1) → JtB c g j m (q + 1) → IsPair g s.heap.objs.size x y → g.objs.size = s.heap.objs.size + 1 →
      (∀ a o, a ≠ z → a ≠ O → a ≠ i → a ≠ j → s.heap.get? a = some o → g.get? a = some o) → Q (.ref s.heap.objs.size) { s with heap := g }) :
    wpAny (model P w) A (Builtin.«zip.__next__» ⟨[.ref z], []⟩) (fun f t => ∃ v, f = .done (.ret v) ∧ Q v t) E s := by
  show wpAny _ _ (field (.ref z) 2 >>= _) _ E _
  refine wpAny_bind (wpAny_field hz rfl (x := .bool false) rfl (?_ : _))
  show wpAny _ _ (field (.ref z) 3 >>= _) _ E _
  refine wpAny_bind (wpAny_field hz rfl (x := .ref U) rfl ?_)
  refine wpAny_bind (wpAny_seqItems hU rfl ?_)
  show wpAny _ _ (Builtin.SmallTypes.ownedTupleIsFree (.ref z) >>= _) _ E _
  refine wpAny_bind ?_
  unfold Builtin.SmallTypes.ownedTupleIsFree
  refine wpAny_bind (wpAny_field hz rfl (x := .none) rfl (wpAny_pure (?_ : _)))
  simp only [if_true]
  refine wpAny_bind (wpAny_rule ?_)
  refine wpAny_bind (wpAny_field hz rfl (x := .ref O) rfl ?_)
  refine wpAny_bind (wpAny_setField_rec hz (by simp) fun g1 zg1 b1 => ?_)
  replace zg1 : IsZip g1 z U O .ellipsis := zg1
  refine wpAny_bind ?_
  simp only [List.zipIdx_cons, List.zipIdx_nil, List.forIn_nil, List.forIn_cons]
  refine wpAny_bind (wpAny_bind (wpAny_onRaise (?_ : _)))
  show wpAny _ _ (Builtin.SmallTypes.nextOf (.ref i) >>= _) _ _ _
  refine wpAny_bind (nextB_item (hi.ext b1.extBut D.i1z) (hl.ext b1.extBut D.l1z) hx fun g2 i2 b2 => wpAny_pure ?_)
  have O2 : IsPair g2 O u v := b2.extBut _ _ D.TOi1 (b1.extBut _ _ D.TOz hO)
  refine wpAny_bind (wpAny_seqItems O2 rfl ?_)
  refine wpAny_bind (wpAny_updateSeq_pair O2 fun g3 O3 b3 => ?_)
  replace O3 : IsPair g3 O x v := O3
  refine wpAny_bind (wpAny_letGo (wpAny_pure (?_ : _)))
  refine wpAny_bind (wpAny_bind (wpAny_onRaise (?_ : _)))
  show wpAny _ _ (Builtin.SmallTypes.nextOf (.ref j) >>= _) _ _ _
  refine wpAny_bind (nextB_item (((hj.ext b1.extBut D.i2z).ext b2.extBut D.i12.symm).ext b3.extBut D.TOi2.symm) (((hm.ext b1.extBut D.l2z).ext b2.extBut D.l2i1).ext b3.extBut D.l2TO) hy fun g4 j4 b4 => wpAny_pure ?_)
  have O4 : IsPair g4 O x v := b4.extBut _ _ D.TOi2 O3
  refine wpAny_bind (wpAny_seqItems O4 rfl ?_)
  refine wpAny_bind (wpAny_updateSeq_pair O4 fun g5 O5 b5 => ?_)
  replace O5 : IsPair g5 O x y := O5
  refine wpAny_bind (wpAny_letGo (wpAny_pure (wpAny_pure (?_ : _))))
  refine wpAny_bind (wpAny_seqItems O5 rfl ?_)
  refine wpAny_bind (wpAny_newTuple (?_ : _))
  have sz : g5.objs.size = s.heap.objs.size := by rw [b5.1, b4.1, b3.1, b2.1, b1.1]
  have z5 : IsZip g5 z U O .ellipsis := b5.extBut _ _ D.TOz.symm (b4.extBut _ _ D.i2z.symm (b3.extBut _ _ D.TOz.symm (b2.extBut _ _ D.i1z.symm zg1)))
  have k5 : ∀ a o, a ≠ z → a ≠ O → a ≠ i → a ≠ j → s.heap.get? a = some o → g5.get? a = some o := fun a o a1 a2 a3 a4 e =>
    b5.extBut _ _ a2 (b4.extBut _ _ a4 (b3.extBut _ _ a2 (b2.extBut _ _ a3 (b1.extBut _ _ a1 e))))
  have i5 : JtB b g5 i l (p + 1) := ((i2.ext b3.extBut D.TOi1.symm).ext b4.extBut D.i12).ext b5.extBut D.TOi1.symm
  have j5 : JtB c g5 j m (q + 1) := j4.ext b5.extBut D.TOi2.symm
  have zlt : z < g5.objs.size := Heap.lt_size z5
  show wpAny _ _ (Builtin.SmallTypes.ownedTupleHandOut (.ref z) (.ref g5.objs.size) >>= _) _ _ _
  refine wpAny_bind ?_
  unfold Builtin.SmallTypes.ownedTupleHandOut
  have z6 : IsZip (g5.push { cls := .type "tuple", data := .seq #[x, y] }) z U O .ellipsis := Heap.get?_push_of_some _ z5
  refine wpAny_bind (wpAny_setField_rec z6 (by simp) fun g7 z7 b7 => ?_)
  replace z7 : IsZip g7 z U O (rawInt g5.objs.size) := z7
  refine wpAny_setField_rec z7 (by simp) fun g8 z8 b8 => ?_
  replace z8 : IsZip g8 z U O (rawInt g5.objs.size) := z8
  have up : ∀ a o, a ≠ z → g5.get? a = some o → g8.get? a = some o := fun a o a1 e => b8.extBut _ _ a1 (b7.extBut _ _ a1 (Heap.get?_push_of_some _ e))
  have T8 : IsPair g8 g5.objs.size x y := b8.extBut _ _ (Nat.ne_of_gt zlt) (b7.extBut _ _ (Nat.ne_of_gt zlt) (Heap.get?_push_size _ rfl))
  have s8 : g8.objs.size = g5.objs.size + 1 := by rw [b8.1, b7.1, Heap.size_push]
  rw [sz] at z8 T8 s8
  refine wpAny_pure ⟨_, rfl, (?_ : _)⟩
  show Q (.ref g5.objs.size) _
  rw [sz]
  exact kk g8 z8 (up _ _ D.TOz O5) (i5.at fun o e => up _ o D.i1z e) (j5.at fun o e => up _ o D.i2z e) T8 s8 fun a o a1 a2 a3 a4 e => up a o a1 (k5 a o a1 a2 a3 a4 e)
/-- zip's step: one side has come to its end -/
theorem zipB_end {Q : Fin → Shared → Prop} (hh : A.handled = none) (D : ZipApart z U O i j l m) (hz : IsZip s.heap z U O .none) (hU : IsPair s.heap U (.ref i) (.ref j)) (hO : IsPair s.heap O u v)
    (hi : JtB b s.heap i l p) (hj : JtB c s.heap j m q) (hl : SeqB b s.heap l xs) (hm : SeqB c s.heap m ys) (he : xs[p]? = none ∨ ys[q]? = none)
    (kk : ∀ g e, (∀ a o, a ≠ z → a ≠ O → a ≠ i → a ≠ j → s.heap.get? a = some o → g.get? a = some o) → (∃ o, g.get? e = some o ∧ o.cls = .type "StopIteration") → E (.ref e) { s with heap := g }) :
    wpAny (model P w) A (Builtin.«zip.__next__» ⟨[.ref z], []⟩) Q E s := by
  show wpAny _ _ (field (.ref z) 2 >>= _) _ E _
  refine wpAny_bind (wpAny_field hz rfl (x := .bool false) rfl (?_ : _))
  show wpAny _ _ (field (.ref z) 3 >>= _) _ E _
  refine wpAny_bind (wpAny_field hz rfl (x := .ref U) rfl ?_)
  refine wpAny_bind (wpAny_seqItems hU rfl ?_)
  show wpAny _ _ (Builtin.SmallTypes.ownedTupleIsFree (.ref z) >>= _) _ E _
  refine wpAny_bind ?_
  unfold Builtin.SmallTypes.ownedTupleIsFree
  refine wpAny_bind (wpAny_field hz rfl (x := .none) rfl (wpAny_pure (?_ : _)))
  simp only [if_true]
  refine wpAny_bind (wpAny_rule ?_)
  refine wpAny_bind (wpAny_field hz rfl (x := .ref O) rfl ?_)
  refine wpAny_bind (wpAny_setField_rec hz (by simp) fun g1 zg1 b1 => ?_)
  replace zg1 : IsZip g1 z U O .ellipsis := zg1
  refine wpAny_bind ?_
  simp only [List.zipIdx_cons, List.zipIdx_nil, List.forIn_nil, List.forIn_cons]
  refine wpAny_bind (wpAny_bind (wpAny_onRaise (?_ : _)))
  show wpAny _ _ (Builtin.SmallTypes.nextOf (.ref i) >>= _) _ _ _
  cases hx : xs[p]? with
  | none =>
    refine wpAny_bind (nextB_end hh (hi.ext b1.extBut D.i1z) (hl.ext b1.extBut D.l1z) hx fun g2 e b2 st => ?_)
    obtain ⟨oe, he1, he2⟩ := st
    have z2 : IsZip g2 z U O .ellipsis := b2 _ _ D.i1z.symm zg1
    have ez : e ≠ z := fun x => by
      subst x
      rw [z2] at he1
      cases he1
      simp at he2
    exact wpAny_setField_rec z2 (by simp) fun g3 _ b3 => kk g3 e (fun a o a1 _ a3 _ x => b3.extBut _ _ a1 (b2 _ _ a3 (b1.extBut _ _ a1 x))) ⟨oe, b3.extBut _ _ ez he1, he2⟩
  | some x =>
    have hy : ys[q]? = none := he.resolve_left (by rw [hx]; exact fun n => nomatch n)
    refine wpAny_bind (nextB_item (hi.ext b1.extBut D.i1z) (hl.ext b1.extBut D.l1z) hx fun g2 i2 b2 => wpAny_pure ?_)
    have O2 : IsPair g2 O u v := b2.extBut _ _ D.TOi1 (b1.extBut _ _ D.TOz hO)
    refine wpAny_bind (wpAny_seqItems O2 rfl ?_)
    refine wpAny_bind (wpAny_updateSeq_pair O2 fun g3 O3 b3 => ?_)
    refine wpAny_bind (wpAny_letGo (wpAny_pure (?_ : _)))
    refine wpAny_bind (wpAny_bind (wpAny_onRaise (?_ : _)))
    show wpAny _ _ (Builtin.SmallTypes.nextOf (.ref j) >>= _) _ _ _
    refine wpAny_bind (nextB_end hh (((hj.ext b1.extBut D.i2z).ext b2.extBut D.i12.symm).ext b3.extBut D.TOi2.symm) (((hm.ext b1.extBut D.l2z).ext b2.extBut D.l2i1).ext b3.extBut D.l2TO) hy fun g4 e b4 st => ?_)
    obtain ⟨oe, he1, he2⟩ := st
    have z4 : IsZip g4 z U O .ellipsis := b4 _ _ D.i2z.symm (b3.extBut _ _ D.TOz.symm (b2.extBut _ _ D.i1z.symm zg1))
    have ez : e ≠ z := fun x => by
      subst x
      rw [z4] at he1
      cases he1
      simp at he2
    exact wpAny_setField_rec z4 (by simp) fun g5 _ b5 => kk g5 e (fun a o a1 a2 a3 a4 x => b5.extBut _ _ a1 (b4 _ _ a4 (b3.extBut _ _ a2 (b2.extBut _ _ a3 (b1.extBut _ _ a1 x))))) ⟨oe, b5.extBut _ _ ez he1, he2⟩
theorem nextZ_item {x y : Value} {Q : Option Value → Shared → Prop} (D : ZipApart z U O i j l m) (hz : IsZip s.heap z U O .none) (hU : IsPair s.heap U (.ref i) (.ref j)) (hO : IsPair s.heap O u v)
    (hi : JtB b s.heap i l p) (hj : JtB c s.heap j m q) (hl : SeqB b s.heap l xs) (hm : SeqB c s.heap m ys) (hx : xs[p]? = some x) (hy : ys[q]? = some y)
    (kk : ∀ g, IsZip g z U O (rawInt s.heap.objs.size) → IsPair g O x y → JtB b g i l (p + 1) → JtB c g j m (q + 1) → IsPair g s.heap.objs.size x y → g.objs.size = s.heap.objs.size + 1 →
      (∀ a o, a ≠ z → a ≠ O → a ≠ i → a ≠ j → s.heap.get? a = some o → g.get? a = some o) → Q (some (.ref s.heap.objs.size)) { s with heap := g }) :
    wpAny (model P w) A (pyNext (.ref z)) Q E s := by
  have ty : s.TypeIs (.ref z) "zip" := ⟨_, hz, rfl⟩
  unfold pyNext
  exact wpAny_bind (wpAny_attempt (wpAny_callSpecial?_slot (name := Str.ofString "__next__") ty F.slot_zip_next (wpAny_call_entry F.slot_zip_next ty F.entry_zip_next
    (zipB_item D hz hU hO hi hj hl hm hx hy fun g a1 a2 a3 a4 a5 a6 a7 => wpAny_pure (kk g a1 a2 a3 a4 a5 a6 a7)) (F.args_zip_next_1 _))))
theorem nextZ_end {Q : Option Value → Shared → Prop} (hh : A.handled = none) (D : ZipApart z U O i j l m) (hz : IsZip s.heap z U O .none) (hU : IsPair s.heap U (.ref i) (.ref j)) (hO : IsPair s.heap O u v)
    (hi : JtB b s.heap i l p) (hj : JtB c s.heap j m q) (hl : SeqB b s.heap l xs) (hm : SeqB c s.heap m ys) (he : xs[p]? = none ∨ ys[q]? = none)
    (kk : ∀ g, (∀ a o, a ≠ z → a ≠ O → a ≠ i → a ≠ j → s.heap.get? a = some o → g.get? a = some o) → Q none { s with heap := g }) : wpAny (model P w) A (pyNext (.ref z)) Q E s := by
  have ty : s.TypeIs (.ref z) "zip" := ⟨_, hz, rfl⟩
  unfold pyNext
  refine wpAny_bind (wpAny_attempt (wpAny_callSpecial?_slot (name := Str.ofString "__next__") ty F.slot_zip_next (wpAny_call_entry F.slot_zip_next ty F.entry_zip_next
    (zipB_end hh D hz hU hO hi hj hl hm he fun g e hk st => ?_) (F.args_zip_next_1 _))))
  obtain ⟨o, h1, h2⟩ := st
  refine wpAny_bind (wpAny_isInstance (T := "StopIteration") (b := true) ⟨o, h1, h2⟩ isSubtype_stop (?_ : _))
  exact wpAny_pure (kk _ hk)
end
/-! ### zip made -/
def itName (b : Bool) : String := if b = true then "list_iterator" else "tuple_iterator"
abbrev zb1 (b : Bool) (h : Heap) (l : Addr) : Heap := h.push { cls := .type (itName b), data := .fields #[.ref l, .int 0 0] }
abbrev zb2 (b c : Bool) (h : Heap) (l m : Addr) : Heap := (zb1 b h l).push { cls := .type (itName c), data := .fields #[.ref m, .int 0 0] }
abbrev zb3 (b c : Bool) (h : Heap) (l m : Addr) : Heap := (zb2 b c h l m).push { cls := .type "tuple", data := .seq #[.ref h.objs.size, .ref (zb1 b h l).objs.size] }
abbrev zb4 (b c : Bool) (h : Heap) (l m : Addr) : Heap := (zb3 b c h l m).push { cls := .type "tuple", data := .seq #[.none, .none] }
abbrev zb5 (b c : Bool) (h : Heap) (l m : Addr) : Heap := (zb4 b c h l m).push { cls := .type "zip", data := .fields #[.none, .bool false, .bool false, .ref (zb2 b c h l m).objs.size, .ref (zb3 b c h l m).objs.size] }
theorem zipB_new (b c : Bool) (l m : Addr) (xs ys : Array Value) :
    Meets (Builtin.«zip.__new__» ⟨[.type "zip", .ref l, .ref m], []⟩) (fun _ R s => SeqB b s.heap l xs ∧ SeqB c s.heap m ys ∧ R (.ok (.ret (.ref (zb4 b c s.heap l m).objs.size))) { s with heap := zb5 b c s.heap l m }) :=
  .of_wp fun prog w A R s h => by
    obtain ⟨hp, g, d, tk, os⟩ := s
    obtain ⟨hl, hm, k⟩ := h
    have sb := sub_zip
    cases b <;> cases c
    · have L : Heap.IsTuple (Shared.heap ⟨hp, g, d, tk, os⟩) l xs := hl
      have M : Heap.IsTuple (Shared.heap ⟨hp.push { cls := .type "tuple_iterator", data := .fields #[.ref l, .int 0 0] }, g, d, tk, os⟩) m ys := Heap.IsTuple.push (show Heap.IsTuple hp m ys from hm) _
      wp_walk using wpAny_pyIter_tuple L, wpAny_pyIter_tuple M
      exact ⟨_, rfl, k⟩
    · have L : Heap.IsTuple (Shared.heap ⟨hp, g, d, tk, os⟩) l xs := hl
      have M : Heap.IsList (Shared.heap ⟨hp.push { cls := .type "tuple_iterator", data := .fields #[.ref l, .int 0 0] }, g, d, tk, os⟩) m ys := Heap.IsList.push (show Heap.IsList hp m ys from hm) _
      wp_walk using wpAny_pyIter_tuple L, wpAny_pyIter_list M
      exact ⟨_, rfl, k⟩
    · have L : Heap.IsList (Shared.heap ⟨hp, g, d, tk, os⟩) l xs := hl
      have M : Heap.IsTuple (Shared.heap ⟨hp.push { cls := .type "list_iterator", data := .fields #[.ref l, .int 0 0] }, g, d, tk, os⟩) m ys := Heap.IsTuple.push (show Heap.IsTuple hp m ys from hm) _
      wp_walk using wpAny_pyIter_list L, wpAny_pyIter_tuple M
      exact ⟨_, rfl, k⟩
    · have L : Heap.IsList (Shared.heap ⟨hp, g, d, tk, os⟩) l xs := hl
      have M : Heap.IsList (Shared.heap ⟨hp.push { cls := .type "list_iterator", data := .fields #[.ref l, .int 0 0] }, g, d, tk, os⟩) m ys := Heap.IsList.push (show Heap.IsList hp m ys from hm) _
      wp_walk using wpAny_pyIter_list L, wpAny_pyIter_list M
      exact ⟨_, rfl, k⟩
theorem jtB_new {b : Bool} {h : Heap} {i l : Addr} (e : h.get? i = some { cls := .type (itName b), data := .fields #[.ref l, .int 0 0] }) : JtB b h i l 0 := by
  cases b
  · exact ⟨_, e, rfl, rfl⟩
  · exact ⟨_, e, rfl, rfl⟩
section
variable {P : Program} {w : World} {A : Around} {E : Value → Shared → Prop} {s : Shared}
theorem zipB_call {b c : Bool} {l m : Addr} {xs ys : Array Value} {Q : Value → Shared → Prop} (hl : SeqB b s.heap l xs) (hm : SeqB c s.heap m ys)
    (k : ∀ g, IsZip g (s.heap.objs.size + 4) (s.heap.objs.size + 2) (s.heap.objs.size + 3) .none → IsPair g (s.heap.objs.size + 2) (.ref s.heap.objs.size) (.ref (s.heap.objs.size + 1)) →
      IsPair g (s.heap.objs.size + 3) .none .none → JtB b g s.heap.objs.size l 0 → JtB c g (s.heap.objs.size + 1) m 0 → (∀ a o, s.heap.get? a = some o → g.get? a = some o) → Q (.ref (s.heap.objs.size + 4)) { s with heap := g }) :
    wpAny (model P w) A (call (.type "zip") [.ref l, .ref m]) Q E s := by
  refine callType_new F.called_zip (by decide) (F.typeCall_zip_2 _ _) (F.newCall_zip_2 _ _) (fun o => F.args_object_init_3 o _ _) F.entry_zip_new (zipB_new b c l m xs ys) ⟨hl, hm, ?_⟩
  have e1 : (zb1 b s.heap l).objs.size = s.heap.objs.size + 1 := Heap.size_push ..
  have e2 : (zb2 b c s.heap l m).objs.size = s.heap.objs.size + 2 := by rw [Heap.size_push, e1]
  have e3 : (zb3 b c s.heap l m).objs.size = s.heap.objs.size + 3 := by rw [Heap.size_push, e2]
  have e4 : (zb4 b c s.heap l m).objs.size = s.heap.objs.size + 4 := by rw [Heap.size_push, e3]
  have f5 : (zb5 b c s.heap l m).get? (zb4 b c s.heap l m).objs.size = some _ := Heap.get?_push_size _ rfl
  have f4 : (zb5 b c s.heap l m).get? (zb3 b c s.heap l m).objs.size = some _ := Heap.get?_push_of_some _ (Heap.get?_push_size _ rfl)
  have f3 : (zb5 b c s.heap l m).get? (zb2 b c s.heap l m).objs.size = some _ := Heap.get?_push_of_some _ (Heap.get?_push_of_some _ (Heap.get?_push_size _ rfl))
  have f2 : (zb5 b c s.heap l m).get? (zb1 b s.heap l).objs.size = some _ := Heap.get?_push_of_some _ (Heap.get?_push_of_some _ (Heap.get?_push_of_some _ (Heap.get?_push_size _ rfl)))
  have f1 : (zb5 b c s.heap l m).get? s.heap.objs.size = some _ := Heap.get?_push_of_some _ (Heap.get?_push_of_some _ (Heap.get?_push_of_some _ (Heap.get?_push_of_some _ (Heap.get?_push_size _ rfl))))
  show _ ∧ _
  rw [e2, e3, e4] at f5
  rw [e1, e2] at f3
  rw [e3] at f4
  rw [e1] at f2
  rw [e4]
  exact ⟨⟨_, f5, rfl⟩, k _ f5 f3 f4 (jtB_new f1) (jtB_new f2) fun a o x => Heap.get?_push_of_some _ (Heap.get?_push_of_some _ (Heap.get?_push_of_some _ (Heap.get?_push_of_some _ (Heap.get?_push_of_some _ x))))⟩
end
/-! ### the rule -/
def SqZ (K : PySem.W.Frag) (b : Bool) (H : Hp) (a : Addr) (xs : List V) : Prop := if b = true then SqL K H a xs else SqT K H a xs
def ItZ (K : PySem.W.Frag) (b c : Bool) (l m : Addr) : It :=
  ⟨fun i H => ∃ (xs ys : List V) (x y : V), SqZ K b H l xs ∧ SqZ K c H m ys ∧ xs[i]? = some x ∧ ys[i]? = some y,
    fun i H v H' => ∃ T x y, v = .ref T ∧ H T = none ∧ H' = upd H T (.tup [x, y]) ∧ (∀ xs, SqZ K b H l xs → xs[i]? = some x) ∧ ∀ ys, SqZ K c H m ys → ys[i]? = some y,
    fun i H => ∃ xs ys : List V, SqZ K b H l xs ∧ SqZ K c H m ys ∧ (xs.length ≤ i ∨ ys.length ≤ i)⟩
theorem Inv.sqZ {X : Cx} {pins : List (Addr × Obj)} {σ : St} {H : Hp} {s : Shared} {b : Bool} {a : Addr} {xs : List V} (I : Inv X pins σ H s) (h : SqZ X.K b H a xs) : ∃ its, Vals xs its ∧ SeqB b s.heap a its.toArray := by
  cases b
  · obtain ⟨its, rv, p, _⟩ := I.tuple (show SqT X.K H a xs from h)
    exact ⟨its, rv, p⟩
  · obtain ⟨its, rv, p, _⟩ := I.list (show SqL X.K H a xs from h)
    exact ⟨its, rv, p.isList⟩
theorem Inv.sqZ_inj {X : Cx} {pins : List (Addr × Obj)} {σ : St} {H : Hp} {s : Shared} {b : Bool} {a : Addr} {xs ys : List V} (I : Inv X pins σ H s) (h : SqZ X.K b H a xs) (h' : SqZ X.K b H a ys) : xs = ys := by
  cases b
  · exact I.tuple_inj (show SqT X.K H a xs from h) (show SqT X.K H a ys from h')
  · exact I.list_inj (show SqL X.K H a xs from h) (show SqL X.K H a ys from h')
theorem turnZ {P : Program} {w : World} {K : PySem.W.Frag} {elts : List Expr} {n : Nat} {tpos : Pos} {b c : Bool} {l m z U O i j : Addr} (D : ZipApart z U O i j l m) :
    Turn P w K (.Tuple elts n tpos) (ItZ K b c l m) [z, U, O, i, j] z (fun p h => IsZip h z U O .none ∧ IsPair h U (.ref i) (.ref j) ∧ (∃ x y, IsPair h O x y) ∧ JtB b h i l p ∧ JtB c h j m p) where
  mem := by simp
  obj := fun p h st a ha => by
    obtain ⟨hz, hU, ⟨x, y, hO⟩, hi, hj⟩ := st
    have e : a = z ∨ a = U ∨ a = O ∨ a = i ∨ a = j := by simpa using ha
    rcases e with e | e | e | e | e <;> subst e
    · exact ⟨_, hz, fun v q => nomatch q⟩
    · exact ⟨_, hU, fun v q => nomatch q⟩
    · exact ⟨_, hO, fun v q => nomatch q⟩
    · exact hi.ob
    · exact hj.ob
  keep := fun p h g st k => by
    obtain ⟨hz, hU, ⟨x, y, hO⟩, hi, hj⟩ := st
    exact ⟨k z (by simp) _ hz, k U (by simp) _ hU, ⟨x, y, k O (by simp) _ hO⟩, hi.at fun o q => k i (by simp) o q, hj.at fun o q => k j (by simp) o q⟩
  item := by
    intro X hP hw hK hc p pins s σ H E I hf st hg
    subst hP hw hK
    obtain ⟨hz, hU, ⟨x0, y0, hO⟩, hi, hj⟩ := st
    obtain ⟨xs, ys, x, y, qx, qy, hx, hy⟩ := hg
    obtain ⟨its, rv, px⟩ := I.sqZ qx
    obtain ⟨jts, rw', py⟩ := I.sqZ qy
    obtain ⟨a1, ha1, ra1⟩ := rv.get hx
    obtain ⟨a2, ha2, ra2⟩ := rw'.get hy
    have zl : z < s.heap.objs.size := Heap.lt_size hz
    refine nextZ_item D hz hU hO hi hj px py (x := a1) (y := a2) (by simpa using ha1) (by simpa using ha2) fun g z' O' i' j' hT sz hk => ?_
    refine ⟨_, rfl, wpAny_letOwnedTupleGo_zip (s := { s with heap := g }) z' fun g2 z2 sb => ?_⟩
    have T2 : g2.get? s.heap.objs.size = some { cls := .type "tuple", data := .seq #[a1, a2] } := (sb.2 _ (Nat.ne_of_gt zl)).trans hT
    have nw : ObjOk X.prog X.w (upd H s.heap.objs.size (.tup [x, y])) g2 s.heap.objs.size (.tup [x, y]) := ⟨by show 2 ≤ sizeLine; decide, [a1, a2], .cons ra1 (.cons ra2 .nil), ⟨_, T2, rfl, _, rfl⟩⟩
    have out : ∀ a o, a ∉ [z, U, O, i, j] → s.heap.get? a = some o → g2.get? a = some o := fun a o ha q =>
      (sb.2 a (fun r => ha (by simp [r]))).trans (hk a o (fun r => ha (by simp [r])) (fun r => ha (by simp [r])) (fun r => ha (by simp [r])) (fun r => ha (by simp [r])) q)
    have I1 : Inv X pins σ (upd H s.heap.objs.size (.tup [x, y])) { s with heap := g2 } := I.turnedNew (t' := s.toks) (ch := [z, U, O, i, j]) out hf (Nat.le_refl _) nw
    refine ⟨.ref s.heap.objs.size, _, I1, rfl, ⟨_, x, y, rfl, I.hok.fresh (Nat.le_refl _), rfl, fun l hl => by rw [I.sqZ_inj hl qx]; exact hx, fun l hl => by rw [I.sqZ_inj hl qy]; exact hy⟩, ⟨z2, ?_, ⟨a1, a2, ?_⟩, ?_, ?_⟩, fun a ha => ?_⟩
    · exact (sb.2 _ D.TIz).trans (hk _ _ D.TIz D.TITO D.TIi1 D.TIi2 hU)
    · exact (sb.2 _ D.TOz).trans O'
    · exact i'.at fun o q => (sb.2 _ D.i1z).trans q
    · exact j'.at fun o q => (sb.2 _ D.i2z).trans q
    · have lt : a < s.heap.objs.size := by
        have e : a = z ∨ a = U ∨ a = O ∨ a = i ∨ a = j := by simpa using ha
        rcases e with e | e | e | e | e <;> subst e
        · exact zl
        · exact Heap.lt_size hU
        · exact Heap.lt_size hO
        · obtain ⟨_, q, _⟩ := hi.ob
          exact Heap.lt_size q
        · obtain ⟨_, q, _⟩ := hj.ob
          exact Heap.lt_size q
      rw [upd_ne (Nat.ne_of_lt lt)]
      exact (hf a ha).1
  done := by
    intro X hP hw hK hc p pins s σ H E I hf st hg
    subst hP hw hK
    obtain ⟨hz, hU, ⟨x0, y0, hO⟩, hi, hj⟩ := st
    obtain ⟨xs, ys, qx, qy, he⟩ := hg
    obtain ⟨its, rv, px⟩ := I.sqZ qx
    obtain ⟨jts, rw', py⟩ := I.sqZ qy
    have n1 := rv.length
    have n2 := rw'.length
    have hh : its.toArray[p]? = none ∨ jts.toArray[p]? = none := by
      rcases he with q | q
      · exact .inl (by simp; omega)
      · exact .inr (by simp; omega)
    exact nextZ_end (I.ok.hd hc) D hz hU hO hi hj px py hh fun g hk => ⟨rfl, I.turnedL (t' := s.toks) (ch := [z, U, O, i, j]) (fun a o ha q =>
      hk a o (fun r => ha (by simp [r])) (fun r => ha (by simp [r])) (fun r => ha (by simp [r])) (fun r => ha (by simp [r])) q) hf⟩
  self := fun A p s Q E st h => wpAny_pyIter_zip st.1 h
def iZipZ (K : PySem.W.Frag) (ta : TA) : TI := fun σ H R => ta σ H fun vs H1 => ∃ (b c : Bool) (l m : Addr) (xs ys : List V), vs = [.ref l, .ref m] ∧ SqZ K b H1 l xs ∧ SqZ K c H1 m ys ∧ R (ItZ K b c l m) H1
theorem pi_zipZ {X : Cx} {e e2 : Expr} {ta : TA} {p pos tpos : Pos} {elts : List Expr} {n : Nat} (hg : Gl X "zip") (hm : X.mg "zip" = none) (ha : PA X [e, e2] ta)
    (hs : starEach [e, e2] X.env = (false, eval e X.env) :: starEach [e2] X.env := by rfl) (hp : (backTo pos (starEach [e2] X.env)).any (·.1) = false := by rfl) :
    PI X (.Tuple elts n tpos) (.Call (.Name "zip" p) [e, e2] [] pos) (iZipZ X.K ta) := by
  refine ⟨fun pins s σ H R I h => ?_⟩
  refine Call_ (ld_blt I hg hm PyProof.Rows.boot_zip (PyProof.Rows.callWith_type1 (thn (ha.run pos pins s σ H _ I h) fun us s1 ⟨vs, H1, I1, r1, q1⟩ => (?_ : _)) hs hp))
  obtain ⟨b, c, l, m, xs, ys, rfl, qx, qy, q⟩ := q1
  cases r1 with
  | cons r rr =>
    cases rr with
    | cons r' rr =>
      cases rr
      cases r
      cases r'
      have five : ∀ a, a ∈ [s1.heap.objs.size + 4, s1.heap.objs.size + 2, s1.heap.objs.size + 3, s1.heap.objs.size, s1.heap.objs.size + 1] → FpOk X pins H1 a := fun a ha => by
        have e : a = s1.heap.objs.size + 4 ∨ a = s1.heap.objs.size + 2 ∨ a = s1.heap.objs.size + 3 ∨ a = s1.heap.objs.size ∨ a = s1.heap.objs.size + 1 := by simpa using ha
        have le : s1.heap.objs.size ≤ a := by
          rcases e with e | e | e | e | e <;> subst e
          all_goals first | exact Nat.le_refl _ | exact Nat.le_add_right _ _
        exact I1.fpOk le (I1.hok.fresh le)
      obtain ⟨its, rv, px⟩ := I1.sqZ qx
      obtain ⟨jts, rw', py⟩ := I1.sqZ qy
      refine zipB_call px py fun g hz hU hO hi hj hk => wpAny_pyIter_zip hz ?_
      have I2 : Inv X pins σ H1 { s1 with heap := g } := I1.kept (t' := s1.toks) hk
      exact ⟨s1.heap.objs.size + 4, [s1.heap.objs.size + 4, s1.heap.objs.size + 2, s1.heap.objs.size + 3, s1.heap.objs.size, s1.heap.objs.size + 1], _, _, H1, rfl, I2, turnZ (PySem.W.ktu_apart s1.heap.objs.size l m px.lt py.lt), ⟨hz, hU, ⟨_, _, hO⟩, hi, hj⟩, five, q⟩
/-- a loop over zip of two sequences of one length -/
theorem for_zipZ {K : PySem.W.Frag} {b c : Bool} {l m : Addr} {xs ys : List V} {g : TG} {tb : TS} {D : Ends} {σ : L2.St} {H : Hp} (hl : xs.length = ys.length) (Pv : Nat → L2.St → Hp → Prop) (h0 : Pv 0 σ H) (hq : ∀ i σ H, Pv i σ H → SqZ K b H l xs ∧ SqZ K c H m ys)
    (one : ∀ (i : Nat) (x y : V) (T : Addr) (σ : L2.St) (H : Hp), xs[i]? = some x → ys[i]? = some y → Pv i σ H → H T = none → g (.ref T) σ (upd H T (.tup [x, y])) fun σ2 H2 => tb { D with nx := Pv (i + 1), ct := Pv (i + 1), bk := D.nx } σ2 H2) (fin : ∀ σ H, Pv xs.length σ H → D.nx σ H) :
    ∃ W : Nat → Nat → L2.St → Hp → Prop, (∃ n, W 0 n σ H) ∧ ∀ i n σ H, W i n σ H →
      ((ItZ K b c l m).stop i H ∧ D.nx σ H) ∨ ((ItZ K b c l m).go i H ∧ ∃ N : L2.St → Hp → Prop, (∀ σ' H', N σ' H' → ∃ n', n' < n ∧ W (i + 1) n' σ' H') ∧ ∀ v H', (ItZ K b c l m).yld i H v H' → g v σ H' fun σ2 H2 => tb { D with nx := N, ct := N, bk := D.nx } σ2 H2) := by
  refine ⟨fun i n σ H => n = xs.length - i ∧ i ≤ xs.length ∧ Pv i σ H, ⟨xs.length, rfl, Nat.zero_le _, h0⟩, ?_⟩
  rintro i n σ H ⟨rfl, hi, pp⟩
  obtain ⟨qx, qy⟩ := hq i σ H pp
  by_cases lt : i < xs.length
  · have lt2 : i < ys.length := by omega
    refine .inr ⟨⟨xs, ys, _, _, qx, qy, List.getElem?_eq_getElem lt, List.getElem?_eq_getElem lt2⟩, Pv (i + 1), fun σ' H' p' => ⟨xs.length - (i + 1), by omega, rfl, lt, p'⟩, fun v H' yl => ?_⟩
    obtain ⟨T, x', y', rfl, hT, rfl, f1, f2⟩ := yl
    exact one i x' y' T σ H (f1 xs qx) (f2 ys qy) pp hT
  · have e : i = xs.length := by omega
    subst e
    exact .inl ⟨⟨xs, ys, qx, qy, Or.inl (Nat.le_refl _)⟩, fin σ H pp⟩
theorem walk_zipZ {K : PySem.W.Frag} {b c : Bool} {l m : Addr} {xs ys : List V} {n : Nat} (hn : n = min xs.length ys.length) : Walk (ItZ K b c l m) n (fun H => SqZ K b H l xs ∧ SqZ K c H m ys) (YPair (fun i => xs[i]?) (fun i => ys[i]?)) := by
  subst hn
  refine ⟨fun i _ hi q => ?_, fun _ q => ⟨xs, ys, q.1, q.2, by omega⟩, fun i H v H' _ q y => ?_⟩
  · have h1 : i < xs.length := by omega
    have h2 : i < ys.length := by omega
    exact ⟨xs, ys, xs[i], ys[i], q.1, q.2, List.getElem?_eq_getElem h1, List.getElem?_eq_getElem h2⟩
  · obtain ⟨T, x, z, f1, f2, f3, f4, f5⟩ := y
    exact ⟨T, x, z, f1, f2, f3, f4 xs q.1, f5 ys q.2⟩
end L2
namespace Toy
open PySem L2
/-! ### the data -/
/-- H' tells all that H tells, but for what stands at p -/
def But (p : Addr) (H H' : Hp) : Prop := ∀ b o, b ≠ p → H b = some o → H' b = some o
theorem But.refl (p : Addr) (H : Hp) : But p H H := fun _ _ _ h => h
theorem But.trans {p : Addr} {H H1 H2 : Hp} (a : But p H H1) (b : But p H1 H2) : But p H H2 := fun c o n h => b c o n (a c o n h)
theorem But.upd {p : Addr} {H H' : Hp} {o : HO} (a : But p H H') : But p H (upd H' p o) := fun c o n h => by rw [upd_ne n]; exact a c o n h
theorem Same.but {p : Addr} {H H' : Hp} (a : Same H H') : But p H H' := fun c o _ h => a c o h
theorem Same.new {H : Hp} {p : Addr} {o : HO} (h : H p = none) : Same H (upd H p o) := fun b o e => by rw [upd_ne (ne_of_none e h)]; exact e
/-- a source of draws at p, at most n drawn so far -/
def Src (H : Hp) (p : Addr) (n : Int) : Prop := ∃ g s c : Int, H p = some (.lst [.int g, .int s, .int c]) ∧ 0 ≤ s ∧ s < 2147483647 ∧ 0 ≤ c ∧ c ≤ n
theorem Src.same {H H' : Hp} {p : Addr} {n : Int} (h : Src H p n) (e : Same H H') : Src H' p n := by
  obtain ⟨g, s, c, h, q⟩ := h
  exact ⟨g, s, c, e _ _ h, q⟩
theorem Src.le {H : Hp} {p : Addr} {n m : Int} (h : Src H p n) (e : n ≤ m) : Src H p m := by
  obtain ⟨g, s, c, h, q1, q2, q3, q4⟩ := h
  exact ⟨g, s, c, h, q1, q2, q3, by omega⟩

theorem draw_pow {x c : Int} (x0 : 0 ≤ x) (x1 : x < 2147483629) (c0 : 0 ≤ c) (c1 : c ≤ 1000000) : CPow (x * 48271 + 16807 * c * c + 11) 3 := by
  refine ⟨by decide, by decide, ?_⟩
  have h1 : 0 ≤ c * c := Int.mul_nonneg c0 c0
  have h2 : c * c ≤ 1000000 * 1000000 := Int.mul_le_mul c1 c1 c0 (by decide)
  have e : 16807 * c * c = 16807 * (c * c) := Int.mul_assoc _ _ _
  rw [e]
  generalize c * c = y at h1 h2
  show _ < 18446744073709551616
  omega
theorem ix_of {K : PySem.W.Frag} {H : Hp} {p : Addr} {xs : List V} {i : Int} {v : V} {Q : VK} (h : SqL K H p xs) (h2 : atI xs i = some v) (h3 : Q v H) : rIxL K (.ref p) (.int i) H Q := ⟨p, xs, i, v, rfl, rfl, h, h2, h3⟩
theorem set_of {H : Hp} {p : Addr} {xs : List V} {k : Int} {j : Nat} {v : V} {Q : Hp → Prop} (h : H p = some (.lst xs)) (h2 : ixN xs.length k = some j) (h3 : Q (upd H p (.lst (xs.set j v)))) : rSetL (.ref p) (.int k) v H Q := ⟨p, xs, k, j, rfl, rfl, h, h2, h3⟩
theorem ifne {x y : V} {A B : Prop} (h : x = y) (k : B) : if (!decide (x = y)) = true then A else B := by
  rw [decide_eq_true h]
  exact iteF k
theorem ifd {c A B : Prop} {inst : Decidable c} (h1 : c → A) (h2 : ¬ c → B) : if (@decide c inst) = true then A else B := by
  by_cases h : c
  · rw [if_pos (decide_eq_true h)]
    exact h1 h
  · rw [if_neg (by rw [decide_eq_false h]; exact Bool.false_ne_true)]
    exact h2 h
local macro_rules | `(tactic| walk_at "rd") => `(tactic| repeat (first
  | refine ⟨_, rfl, ?_⟩
  | refine ⟨_, _, rfl, rfl, ?_⟩
  | refine ⟨_, _, rfl, ?_⟩
  | refine ⟨rfl, ?_⟩
  | refine ⟨_, _, _, _, rfl, rfl, SqL.of upd_same, rfl, ?_⟩
  | refine ⟨_, _, _, _, rfl, rfl, upd_same, rfl, ?_⟩
  | refine iteT ?_
  | refine iteF ?_))
theorem take_more {α : Type} : ∀ {l : List α} {i : Nat} {x : α}, l[i]? = some x → l.take (i + 1) = l.take i ++ [x]
  | [], i, x, h => by simp at h
  | a :: l, 0, x, h => by
    have e : a = x := Option.some.inj h
    subst e
    rfl
  | a :: l, i + 1, x, h => by
    have ih := take_more (l := l) (i := i) (x := x) h
    show a :: l.take (i + 1) = a :: l.take i ++ [x]
    rw [ih]
    rfl
/-- a new object, the heap behind it a letter: generalize hH : upd H l _ = H' ahead of it -/
theorem new_of {H H' : Hp} {l : Addr} {o o' : HO} (hH : upd H l o = H') (h : H l = none) (e : o = o') : Same H H' ∧ H' l = some o' := by
  subst e hH
  exact ⟨Same.new h, upd_same⟩
/-- a changed object -/
theorem chg_of {H H' : Hp} {l : Addr} {o o' : HO} (hH : upd H l o = H') (e : o = o') : But l H H' ∧ H' l = some o' := by
  subst e hH
  exact ⟨(But.refl l H).upd, upd_same⟩
theorem Src.but {H H' : Hp} {p q : Addr} {n : Int} (h : Src H p n) (e : But q H H') (hne : p ≠ q) : Src H' p n := by
  obtain ⟨g, s, c, h, r⟩ := h
  exact ⟨g, s, c, e _ _ hne h, r⟩
theorem Src.at {H : Hp} {p : Addr} {n : Int} (h : Src H p n) : ∃ xs, H p = some (.lst xs) := by
  obtain ⟨g, s, c, h, q⟩ := h
  exact ⟨_, h⟩
theorem Src.ne {H : Hp} {p q : Addr} {n : Int} (h : Src H p n) (hq : H q = none) : q ≠ p := fun z => by
  obtain ⟨_, _, _, e, _⟩ := h
  rw [z, e] at hq
  cases hq
theorem int_at {l : List Int} {i : Nat} {x : V} (h : (l.map V.int)[i]? = some x) : ∃ z, x = V.int z ∧ l[i]? = some z := by
  rw [List.getElem?_map] at h
  cases e : l[i]? with
  | none => rw [e] at h; cases h
  | some z => rw [e] at h; exact ⟨z, (Option.some.inj h).symm, rfl⟩
/-! ### the promises -/
def spSource (K : PySem.W.Frag) : Sp := fun vs H Q _ => ∃ (a : Addr) (ns : List Int), vs = [.ref a] ∧ SqL K H a (ns.map V.int) ∧ ∀ (p : Addr) (H' : Hp), H p = none → Same H H' → Src H' p 0 → Q (.ref p) H'
def spDraw : Sp := fun vs H Q _ => ∃ (p : Addr) (m n : Int), vs = [.ref p, .int m] ∧ Src H p n ∧ n < 1000000 ∧ 0 < m ∧ m < 2 ^ 64 ∧
  ∀ (d : Int) (H' : Hp), 0 ≤ d → d < m → But p H H' → Src H' p (n + 1) → Q (.int d) H'
def spLaw (K : PySem.W.Frag) : Sp := fun vs H Q _ => ∃ (a : Addr) (ns : List Int), vs = [.ref a] ∧ SqL K H a (ns.map V.int) ∧ ns.length ≤ 63 ∧ ∀ H', Q (.bl true) H'
/-! ### data: what a value stands for, whatever the addresses -/
/-- a tuple that is known to have no dict: its methods may be asked -/
def FzT (H : Hp) (a : Addr) (vs : List V) : Prop := ∃ o : Obj, H a = some (.frz o (.tup vs)) ∧ o.dict = none
theorem FzT.sq {K : PySem.W.Frag} {H : Hp} {a : Addr} {vs : List V} (h : FzT H a vs) : SqT K H a vs := let ⟨o, e, _⟩ := h; .inl (.inr ⟨o, e⟩)
theorem FzT.mono {H H' : Hp} {a : Addr} {vs : List V} (s : Same H H') (h : FzT H a vs) : FzT H' a vs := let ⟨o, e, d⟩ := h; ⟨o, s _ _ e, d⟩
inductive D where
  | v (x : V)
  | tup (ds : List D)
  | ctup (ds : List D)
  | ftup (ds : List D)
  | lst (ds : List D)
  | dK (kvs : List (Key × D))
  | dT (kvs : List (List Key × D))
  | ins (C : Addr) (fs : List (Str × D))
  | ob (φ : Hp → V → Prop)
section
variable (K : PySem.W.Frag) (H : Hp)
mutual
def Dat : D → V → Prop
  | .v x, y => y = x
  | .tup ds, y => ∃ a vs, y = .ref a ∧ H a = some (.tup vs) ∧ DatL ds vs
  | .ctup ds, y => ∃ a vs, y = .ref a ∧ SqT K H a vs ∧ DatL ds vs
  | .ftup ds, y => ∃ a vs, y = .ref a ∧ FzT H a vs ∧ DatL ds vs
  | .lst ds, y => ∃ a vs, y = .ref a ∧ H a = some (.lst vs) ∧ DatL ds vs
  | .dK kvs, y => ∃ a vs, y = .ref a ∧ H a = some (.dK vs) ∧ DatK kvs vs
  | .dT kvs, y => ∃ a vs, y = .ref a ∧ H a = some (.dT vs) ∧ DatT kvs vs
  | .ins C fs, y => ∃ a dx vs, y = .ref a ∧ H a = some (.ins C dx vs) ∧ DatS fs vs
  | .ob φ, y => ∃ H0, Same H0 H ∧ φ H0 y
def DatL : List D → List V → Prop
  | [], vs => vs = []
  | d :: ds, vs => ∃ v r, vs = v :: r ∧ Dat d v ∧ DatL ds r
def DatK : List (Key × D) → List (Key × V) → Prop
  | [], vs => vs = []
  | (k, d) :: ds, vs => ∃ v r, vs = (k, v) :: r ∧ Dat d v ∧ DatK ds r
def DatT : List (List Key × D) → List (List Key × V) → Prop
  | [], vs => vs = []
  | (k, d) :: ds, vs => ∃ v r, vs = (k, v) :: r ∧ Dat d v ∧ DatT ds r
def DatS : List (Str × D) → List (Str × V) → Prop
  | [], vs => vs = []
  | (k, d) :: ds, vs => ∃ v r, vs = (k, v) :: r ∧ Dat d v ∧ DatS ds r
end
/-- what stands at the address of a list, a dict that is one's own -/
def Rep : D → HO → Prop
  | .lst ds, ho => ∃ vs, ho = .lst vs ∧ DatL K H ds vs
  | .dK kvs, ho => ∃ vs, ho = .dK vs ∧ DatK K H kvs vs
  | .dT kvs, ho => ∃ vs, ho = .dT vs ∧ DatT K H kvs vs
  | .ins C fs, ho => ∃ dx vs, ho = .ins C dx vs ∧ DatS K H fs vs
  | _, _ => False
/-- pairs: the keys as they are -/
abbrev PK {κ : Type} (kvs : List (κ × D)) (vs : List (κ × V)) : Prop := Paired (fun p q => p.1 = q.1 ∧ Dat K H p.2 q.2) kvs vs
end
theorem same_seqT {K : PySem.W.Frag} {H H' : Hp} {a : Addr} {xs : List V} (e : Same H H') (h : SqT K H a xs) : SqT K H' a xs := by
  rcases h with (h | ⟨o, h⟩) | h
  · exact .inl (.inl (e _ _ h))
  · exact .inl (.inr ⟨o, e _ _ h⟩)
  · exact .inr h
section
variable {K : PySem.W.Frag} {H H' : Hp}
mutual
theorem Dat.mono (s : Same H H') : ∀ {d : D} {v : V}, Dat K H d v → Dat K H' d v
  | .v _, _, h => h
  | .tup _, _, ⟨a, vs, e, h, l⟩ => ⟨a, vs, e, s _ _ h, DatL.mono s l⟩
  | .ctup _, _, ⟨a, vs, e, h, l⟩ => ⟨a, vs, e, same_seqT s h, DatL.mono s l⟩
  | .ftup _, _, ⟨a, vs, e, h, l⟩ => ⟨a, vs, e, h.mono s, DatL.mono s l⟩
  | .lst _, _, ⟨a, vs, e, h, l⟩ => ⟨a, vs, e, s _ _ h, DatL.mono s l⟩
  | .dK _, _, ⟨a, vs, e, h, l⟩ => ⟨a, vs, e, s _ _ h, DatK.mono s l⟩
  | .dT _, _, ⟨a, vs, e, h, l⟩ => ⟨a, vs, e, s _ _ h, DatT.mono s l⟩
  | .ins _ _, _, ⟨a, dx, vs, e, h, l⟩ => ⟨a, dx, vs, e, s _ _ h, DatS.mono s l⟩
  | .ob _, _, ⟨H0, e, h⟩ => ⟨H0, e.trans s, h⟩
theorem DatL.mono (s : Same H H') : ∀ {ds : List D} {vs : List V}, DatL K H ds vs → DatL K H' ds vs
  | [], _, h => h
  | _ :: _, _, ⟨v, r, e, h, t⟩ => ⟨v, r, e, Dat.mono s h, DatL.mono s t⟩
theorem DatK.mono (s : Same H H') : ∀ {ds : List (Key × D)} {vs : List (Key × V)}, DatK K H ds vs → DatK K H' ds vs
  | [], _, h => h
  | (_, _) :: _, _, ⟨v, r, e, h, t⟩ => ⟨v, r, e, Dat.mono s h, DatK.mono s t⟩
theorem DatT.mono (s : Same H H') : ∀ {ds : List (List Key × D)} {vs : List (List Key × V)}, DatT K H ds vs → DatT K H' ds vs
  | [], _, h => h
  | (_, _) :: _, _, ⟨v, r, e, h, t⟩ => ⟨v, r, e, Dat.mono s h, DatT.mono s t⟩
theorem DatS.mono (s : Same H H') : ∀ {ds : List (Str × D)} {vs : List (Str × V)}, DatS K H ds vs → DatS K H' ds vs
  | [], _, h => h
  | (_, _) :: _, _, ⟨v, r, e, h, t⟩ => ⟨v, r, e, Dat.mono s h, DatS.mono s t⟩
end
theorem datK_pk : ∀ {ds : List (Key × D)} {vs : List (Key × V)}, DatK K H ds vs ↔ PK K H ds vs
  | [], _ => ⟨fun h => by rw [show _ = [] from h]; exact .nil, fun h => by cases h; rfl⟩
  | (_, _) :: _, _ => ⟨fun ⟨v, r, e, h, t⟩ => by rw [e]; exact .cons ⟨rfl, h⟩ (datK_pk.mp t), fun h => by
    cases h with
    | @cons _ q _ _ h t =>
      obtain ⟨q1, q2⟩ := q
      cases (show _ = q1 from h.1)
      exact ⟨_, _, rfl, h.2, datK_pk.mpr t⟩⟩
theorem datT_pk : ∀ {ds : List (List Key × D)} {vs : List (List Key × V)}, DatT K H ds vs ↔ PK K H ds vs
  | [], _ => ⟨fun h => by rw [show _ = [] from h]; exact .nil, fun h => by cases h; rfl⟩
  | (_, _) :: _, _ => ⟨fun ⟨v, r, e, h, t⟩ => by rw [e]; exact .cons ⟨rfl, h⟩ (datT_pk.mp t), fun h => by
    cases h with
    | @cons _ q _ _ h t =>
      obtain ⟨q1, q2⟩ := q
      cases (show _ = q1 from h.1)
      exact ⟨_, _, rfl, h.2, datT_pk.mpr t⟩⟩
theorem datS_pk : ∀ {ds : List (Str × D)} {vs : List (Str × V)}, DatS K H ds vs ↔ PK K H ds vs
  | [], _ => ⟨fun h => by rw [show _ = [] from h]; exact .nil, fun h => by cases h; rfl⟩
  | (_, _) :: _, _ => ⟨fun ⟨v, r, e, h, t⟩ => by rw [e]; exact .cons ⟨rfl, h⟩ (datS_pk.mp t), fun h => by
    cases h with
    | @cons _ q _ _ h t =>
      obtain ⟨q1, q2⟩ := q
      cases (show _ = q1 from h.1)
      exact ⟨_, _, rfl, h.2, datS_pk.mpr t⟩⟩
theorem Rep.mono (s : Same H H') : ∀ {d : D} {ho : HO}, Rep K H d ho → Rep K H' d ho
  | .lst _, _, ⟨vs, e, l⟩ => ⟨vs, e, l.mono s⟩
  | .dK _, _, ⟨vs, e, l⟩ => ⟨vs, e, l.mono s⟩
  | .dT _, _, ⟨vs, e, l⟩ => ⟨vs, e, l.mono s⟩
  | .ins _ _, _, ⟨dx, vs, e, l⟩ => ⟨dx, vs, e, l.mono s⟩
theorem Rep.dat {p : Addr} : ∀ {d : D} {ho : HO}, Rep K H d ho → H p = some ho → Dat K H d (.ref p)
  | .lst _, _, ⟨vs, e, l⟩, h => ⟨p, vs, rfl, by rw [← e]; exact h, l⟩
  | .dK _, _, ⟨vs, e, l⟩, h => ⟨p, vs, rfl, by rw [← e]; exact h, l⟩
  | .dT _, _, ⟨vs, e, l⟩, h => ⟨p, vs, rfl, by rw [← e]; exact h, l⟩
  | .ins _ _, _, ⟨dx, vs, e, l⟩, h => ⟨p, dx, vs, rfl, by rw [← e]; exact h, l⟩
theorem DatL.len : ∀ {ds : List D} {vs : List V}, DatL K H ds vs → vs.length = ds.length
  | [], _, h => by rw [show _ = [] from h]; rfl
  | _ :: _, _, ⟨v, r, e, _, t⟩ => by rw [e, List.length_cons, List.length_cons, t.len]
theorem DatL.nil : DatL K H [] [] := rfl
theorem DatL.cons {d : D} {ds : List D} {v : V} {vs : List V} (h : Dat K H d v) (t : DatL K H ds vs) : DatL K H (d :: ds) (v :: vs) := ⟨v, vs, rfl, h, t⟩
theorem DatL.app : ∀ {ds es : List D} {vs ws : List V}, DatL K H ds vs → DatL K H es ws → DatL K H (ds ++ es) (vs ++ ws)
  | [], _, _, _, h, t => by rw [show _ = [] from h]; exact t
  | _ :: _, _, _, _, ⟨v, r, e, h, t⟩, u => by rw [e]; exact ⟨v, _, rfl, h, t.app u⟩
theorem DatL.get : ∀ {ds : List D} {vs : List V} {i : Nat} {d : D}, DatL K H ds vs → ds[i]? = some d → ∃ v, vs[i]? = some v ∧ Dat K H d v
  | [], _, _, _, _, h => by simp at h
  | _ :: _, _, 0, _, ⟨v, r, e, h, _⟩, q => by rw [e]; exact ⟨v, rfl, by rw [← Option.some.inj q]; exact h⟩
  | _ :: _, _, i + 1, _, ⟨v, r, e, _, t⟩, q => by rw [e]; exact t.get (i := i) q
theorem DatL.getR : ∀ {ds : List D} {vs : List V} {i : Nat} {v : V}, DatL K H ds vs → vs[i]? = some v → ∃ d, ds[i]? = some d ∧ Dat K H d v
  | [], _, _, _, h, q => by rw [show _ = [] from h] at q; simp at q
  | d :: _, _, 0, _, ⟨v, r, e, h, _⟩, q => by rw [e] at q; exact ⟨d, rfl, by rw [← Option.some.inj q]; exact h⟩
  | _ :: _, _, i + 1, _, ⟨v, r, e, _, t⟩, q => by rw [e] at q; exact t.getR (i := i) q
theorem DatL.set : ∀ {ds : List D} {vs : List V} {i : Nat} {d : D} {v : V}, DatL K H ds vs → Dat K H d v → DatL K H (ds.set i d) (vs.set i v)
  | [], _, _, _, _, h, _ => by rw [show _ = [] from h]; rfl
  | _ :: _, _, 0, _, _, ⟨v, r, e, _, t⟩, q => by rw [e]; exact ⟨_, r, rfl, q, t⟩
  | _ :: _, _, i + 1, _, _, ⟨v, r, e, h, t⟩, q => by rw [e]; exact ⟨v, _, rfl, h, t.set q⟩
theorem DatL.drop : ∀ {ds : List D} {vs : List V} (n : Nat), DatL K H ds vs → DatL K H (ds.drop n) (vs.drop n)
  | _, _, 0, h => h
  | [], _, _ + 1, h => by rw [show _ = [] from h]; rfl
  | _ :: _, _, n + 1, ⟨v, r, e, _, t⟩ => by rw [e]; exact t.drop n
theorem DatL.take : ∀ {ds : List D} {vs : List V} (n : Nat), DatL K H ds vs → DatL K H (ds.take n) (vs.take n)
  | _, _, 0, _ => rfl
  | [], _, _ + 1, h => by rw [show _ = [] from h]; rfl
  | _ :: _, _, n + 1, ⟨v, r, e, h, t⟩ => by rw [e]; exact ⟨v, _, rfl, h, t.take n⟩
theorem DatL.rev {ds : List D} {vs : List V} (h : DatL K H ds vs) : DatL K H ds.reverse vs.reverse := by
  induction ds generalizing vs with
  | nil => rw [show vs = [] from h]; rfl
  | cons d ds ih =>
    obtain ⟨v, r, e, q, t⟩ := h
    rw [e, List.reverse_cons, List.reverse_cons]
    exact (ih t).app (.cons q .nil)
theorem DatL.mem : ∀ {ds : List D} {vs : List V} {v : V}, DatL K H ds vs → v ∈ vs → ∃ d ∈ ds, Dat K H d v := fun {ds vs v} h hv => by
  obtain ⟨i, hi⟩ := List.mem_iff_getElem?.mp hv
  obtain ⟨d, hd, q⟩ := h.getR hi
  exact ⟨d, List.mem_of_getElem? hd, q⟩
end
/-! ### the state as data -/
inductive Sl where
  | emp
  | val (d : D)
  | own (d : D)
structure AS where
  sl : List Sl
  n : Int
  sp : Option Addr
def AS.put (a : AS) (i : Nat) (s : Sl) : AS := ⟨a.sl.set i s, a.n, a.sp⟩
structure Bs (K : PySem.W.Frag) where
  sp : Option Addr
  H0 : Hp
  F0 : Hp
  self : Option Addr
/-- the heap without the source -/
def Hs (sp : Option Addr) (H : Hp) : Hp := fun b => if sp = some b then none else H b
theorem hs_some {sp : Option Addr} {H : Hp} {b : Addr} {o : HO} (h : Hs sp H b = some o) : H b = some o ∧ sp ≠ some b := by
  unfold Hs at h
  split at h
  · cases h
  · rename_i n
    exact ⟨h, n⟩
theorem hs_of {sp : Option Addr} {H : Hp} {b : Addr} {o : HO} (h : H b = some o) (n : sp ≠ some b) : Hs sp H b = some o := by
  unfold Hs
  rw [if_neg n]
  exact h
theorem hs_same {sp : Option Addr} {H : Hp} : Same (Hs sp H) H := fun _ _ h => (hs_some h).1
/-- what never changes wherever it stands -/
def imm : HO → Bool
  | .tup _ => true
  | .own _ => true
  | .frz _ (.tup _) => true
  | _ => false
def ImmA (F : Hp) (b : Addr) : Prop := ∃ o, F b = some o ∧ imm o = true
theorem ImmA.mono {F F' : Hp} {b : Addr} (h : ImmA F b) (s : Same F F') : ImmA F' b := let ⟨o, e, i⟩ := h; ⟨o, s _ _ e, i⟩
theorem Rep.imm {K : PySem.W.Frag} {H : Hp} : ∀ {d : D} {ho : HO}, Rep K H d ho → Toy.imm ho = false
  | .lst _, _, ⟨_, e, _⟩ => by rw [e]; rfl
  | .dK _, _, ⟨_, e, _⟩ => by rw [e]; rfl
  | .dT _, _, ⟨_, e, _⟩ => by rw [e]; rfl
  | .ins _ _, _, ⟨_, _, e, _⟩ => by rw [e]; rfl
/-- behind all: F what does not change, inside H -/
structure Fi {K : PySem.W.Frag} (B : Bs K) (F : Hp) (n : Int) (H : Hp) : Prop where
  fh : Same F H
  ff : Same B.F0 F
  fr : ∀ b, F b ≠ none → B.F0 b ≠ none ∨ B.H0 b = none ∨ ImmA F b
  fm : ∀ b o, B.H0 b = some o → B.sp ≠ some b → H b = some o
  sr : ∀ p, B.sp = some p → F p = none ∧ B.H0 p ≠ none ∧ Src H p n
structure Ok {K : PySem.W.Frag} (B : Bs K) (F : Hp) (a : AS) (σ : St) (H : Hp) : Prop where
  fi : Fi B F a.n H
  es : a.sp = B.sp
  len : σ.length = a.sl.length
  va : ∀ (i : Nat) (d : D), a.sl[i]? = some (Sl.val d) → ∃ v, σ[i]? = some (some v) ∧ Dat K F d v
  ow : ∀ (i : Nat) (d : D), a.sl[i]? = some (Sl.own d) → ∃ p ho, σ[i]? = some (some (V.ref p)) ∧ H p = some ho ∧ F p = none ∧ B.H0 p = none ∧ Rep K F d ho
  ds : ∀ (i j : Nat) (p : Addr) (d e : D), a.sl[i]? = some (Sl.own d) → a.sl[j]? = some (Sl.own e) → σ[i]? = some (some (V.ref p)) → σ[j]? = some (some (V.ref p)) → i = j
  fx : ∀ x, B.self = some x → σ[0]? = some (some (V.ref x))
/-- an exception's fields, off its own dict -/
def XRep (K : PySem.W.Frag) (F : Hp) (dd : Option Addr) (fs : List (Str × D)) : Prop := (dd = none ∧ fs = []) ∨ ∃ d vs, dd = some d ∧ F d = some (.xd vs) ∧ PK K F fs vs
/-- what is wanted of what is raised: W as the text has it, dW over data (the class, the fields, the slots, how many numbers are drawn) -/
structure Wp where
  W : Value → Option Addr → St → Hp → Prop
  dW : Addr → List (Str × D) → List Sl → Int → Prop
  bq : Hp → Prop
  sf : Bool
def WOk {K : PySem.W.Frag} (B : Bs K) (ω : Wp) : Prop := ω.bq B.F0 ∧ (ω.sf = false → B.self = none) ∧ ∀ (F : Hp) (a : AS) (σ : St) (H : Hp) (C : Addr) (dd : Option Addr) (fs : List (Str × D)), Ok B F a σ H → XRep K F dd fs → ω.dW C fs a.sl a.n → ω.W (.ref C) dd σ H
def OwnAt (a : AS) (σ : St) (b : Addr) : Prop := ∃ (i : Nat) (d : D), a.sl[i]? = some (Sl.own d) ∧ σ[i]? = some (some (V.ref b))
/-- an expression's way -/
structure Go {K : PySem.W.Frag} (B : Bs K) (σ : St) (F : Hp) (a : AS) (H : Hp) (F' : Hp) (a' : AS) (H' : Hp) : Prop where
  ok : Ok B F' a' σ H'
  ff : Same F F'
  hh : ∀ b o, B.sp ≠ some b → H b = some o → H' b = some o
  fr : ∀ b, F' b ≠ none → F b ≠ none ∨ H b = none ∨ OwnAt a σ b ∨ ImmA F' b
  oo : ∀ b, OwnAt a' σ b → OwnAt a σ b
section
variable {K : PySem.W.Frag} {B : Bs K} {F F' F1 F2 : Hp} {a a' a1 a2 : AS} {σ : St} {H H' H1 H2 : Hp} {n : Int}
theorem Fi.fs (f : Fi B F n H) : Same F (Hs B.sp H) := fun b o h => hs_of (f.fh b o h) fun e => by
  rw [(f.sr b e).1] at h
  cases h
theorem Go.refl (ok : Ok B F a σ H) : Go B σ F a H F a H := ⟨ok, Same.refl F, fun _ _ _ h => h, fun _ h => .inl h, fun _ h => h⟩
theorem Go.trans (ok : Ok B F a σ H) (g : Go B σ F a H F1 a1 H1) (g' : Go B σ F1 a1 H1 F2 a2 H2) : Go B σ F a H F2 a2 H2 where
  ok := g'.ok
  ff := g.ff.trans g'.ff
  hh := fun b o n h => g'.hh b o n (g.hh b o n h)
  fr := fun b h => by
    rcases g'.fr b h with q | q | q
    · exact (g.fr b q).imp id fun q => q.imp id fun q => q.imp id fun q => q.mono g'.ff
    · refine .inr (.inl ?_)
      cases e : H b with
      | none => rfl
      | some o =>
        by_cases z : B.sp = some b
        · exact absurd (g'.ok.fi.sr b z).1 h
        · rw [g.hh b o z e] at q
          cases q
    · exact .inr (.inr (q.imp (g.oo b) id))
  oo := fun b h => g.oo b (g'.oo b h)
theorem Go.bs (g : Go B σ F a H F' a' H') : Same (Hs B.sp H) (Hs B.sp H') := fun b o h => hs_of (g.hh b o (hs_some h).2 (hs_some h).1) (hs_some h).2
theorem Ok.here (ok : Ok B F a σ H) {p : Addr} (h : H p = none) : F p = none ∧ B.H0 p = none ∧ B.sp ≠ some p ∧ ¬ OwnAt a σ p := by
  have hs : B.sp ≠ some p := fun e => by
    obtain ⟨_, _, g, s, c, q, _⟩ := ok.fi.sr p e
    rw [h] at q
    cases q
  refine ⟨?_, ?_, hs, ?_⟩
  · cases e : F p with
    | none => rfl
    | some o => rw [ok.fi.fh p o e] at h; cases h
  · cases e : B.H0 p with
    | none => rfl
    | some o => rw [ok.fi.fm p o e hs] at h; cases h
  · rintro ⟨i, d, h1, h2⟩
    obtain ⟨q, ho, e, hq, _⟩ := ok.ow i d h1
    rw [e] at h2
    cases h2
    rw [h] at hq
    cases hq
/-- a new object that does not change any more -/
theorem Ok.new (ok : Ok B F a σ H) {p : Addr} {o : HO} (h : H p = none) : Go B σ F a H (upd F p o) a (upd H p o) := by
  obtain ⟨hF, h0, hs, ho⟩ := ok.here h
  have s1 : Same F (upd F p o) := Same.new hF
  have s2 : Same H (upd H p o) := Same.new h
  refine ⟨⟨⟨fun b u e => ?_, ok.fi.ff.trans s1, fun b e => ?_, fun b u e n => s2 _ _ (ok.fi.fm b u e n), fun q e => ?_⟩, ok.es, ok.len, fun i d e => ?_, fun i d e => ?_, ok.ds, ok.fx⟩, s1, fun b u _ e => s2 _ _ e, fun b e => ?_, fun _ h => h⟩
  · by_cases z : b = p
    · subst z
      rw [upd_same] at e ⊢
      exact e
    · rw [upd_ne z] at e ⊢
      exact ok.fi.fh _ _ e
  · by_cases z : b = p
    · exact .inr (.inl (z ▸ h0))
    · rw [upd_ne z] at e
      exact (ok.fi.fr b e).imp id fun q => q.imp id fun q => q.mono s1
  · obtain ⟨x1, x2, x3⟩ := ok.fi.sr q e
    have z : q ≠ p := fun z => hs (z ▸ e)
    exact ⟨by rw [upd_ne z]; exact x1, x2, x3.same s2⟩
  · obtain ⟨v, e1, e2⟩ := ok.va i d e
    exact ⟨v, e1, e2.mono s1⟩
  · obtain ⟨q, ho', e1, e2, e3, e4, e5⟩ := ok.ow i d e
    have z : q ≠ p := ne_of_none e2 h
    exact ⟨q, ho', e1, s2 _ _ e2, by rw [upd_ne z]; exact e3, e4, e5.mono s1⟩
  · by_cases z : b = p
    · exact .inr (.inl (z ▸ h))
    · rw [upd_ne z] at e
      exact .inl e
/-- a new object of one's own -/
theorem Ok.newO (ok : Ok B F a σ H) {p : Addr} {o : HO} (h : H p = none) : Go B σ F a H F a (upd H p o) := by
  obtain ⟨hF, h0, hs, ho⟩ := ok.here h
  have s2 : Same H (upd H p o) := Same.new h
  refine ⟨⟨⟨ok.fi.fh.trans s2, ok.fi.ff, ok.fi.fr, fun b u e n => s2 _ _ (ok.fi.fm b u e n), fun q e => ?_⟩, ok.es, ok.len, ok.va, fun i d e => ?_, ok.ds, ok.fx⟩, Same.refl F, fun b u _ e => s2 _ _ e, fun b e => .inl e, fun _ h => h⟩
  · obtain ⟨x1, x2, x3⟩ := ok.fi.sr q e
    exact ⟨x1, x2, x3.same s2⟩
  · obtain ⟨q, ho', e1, e2, e3, e4, e5⟩ := ok.ow i d e
    exact ⟨q, ho', e1, s2 _ _ e2, e3, e4, e5⟩
/-- what is F may grow by what stands there and is nobody's -/
theorem Ok.frz (ok : Ok B F a σ H) {p : Addr} {o : HO} (h : H p = some o) (hF : F p = none) (h0 : B.H0 p = none) (hs : B.sp ≠ some p) (no : ¬ OwnAt a σ p) : Ok B (upd F p o) a σ H := by
  have s1 : Same F (upd F p o) := Same.new hF
  refine ⟨⟨fun b u e => ?_, ok.fi.ff.trans s1, fun b e => ?_, ok.fi.fm, fun q e => ?_⟩, ok.es, ok.len, fun i d e => ?_, fun i d e => ?_, ok.ds, ok.fx⟩
  · by_cases z : b = p
    · subst z
      rw [upd_same] at e
      rw [h]
      exact e
    · rw [upd_ne z] at e
      exact ok.fi.fh _ _ e
  · by_cases z : b = p
    · exact .inr (.inl (z ▸ h0))
    · rw [upd_ne z] at e
      exact (ok.fi.fr b e).imp id fun q => q.imp id fun q => q.mono s1
  · obtain ⟨x1, x2, x3⟩ := ok.fi.sr q e
    have z : q ≠ p := fun z => hs (z ▸ e)
    exact ⟨by rw [upd_ne z]; exact x1, x2, x3⟩
  · obtain ⟨v, e1, e2⟩ := ok.va i d e
    exact ⟨v, e1, e2.mono s1⟩
  · obtain ⟨q, ho', e1, e2, e3, e4, e5⟩ := ok.ow i d e
    have z : q ≠ p := fun z => no ⟨i, d, e, by rw [← z]; exact e1⟩
    exact ⟨q, ho', e1, e2, by rw [upd_ne z]; exact e3, e4, e5.mono s1⟩
/-- a slot is forgotten, or said otherwise -/
theorem set_get {α : Type} {l : List α} {i j : Nat} {x y : α} (h : (l.set i x)[j]? = some y) : (j = i ∧ y = x ∧ i < l.length) ∨ (j ≠ i ∧ l[j]? = some y) := by
  by_cases z : j = i
  · subst z
    have hl : j < l.length := by
      have := (List.getElem?_eq_some_iff.mp h).1
      rw [List.length_set] at this
      exact this
    rw [List.getElem?_set_self hl] at h
    exact .inl ⟨rfl, (Option.some.inj h).symm, hl⟩
  · rw [List.getElem?_set_ne (Ne.symm z)] at h
    exact .inr ⟨z, h⟩
theorem set_fx {i : Nat} {o : Option V} (hi : i = 0 → B.self = none) (h : ∀ x, B.self = some x → σ[0]? = some (some (V.ref x))) : ∀ x, B.self = some x → (σ.set i o)[0]? = some (some (V.ref x)) := fun x e => by
  rw [List.getElem?_set_ne (fun z => by rw [hi z] at e; cases e)]
  exact h x e
theorem Ok.setV (ok : Ok B F a σ H) {i : Nat} {d : D} {v : V} (hi : i = 0 → B.self = none) (h : Dat K F d v) : Ok B F (a.put i (Sl.val d)) (σ.set i (some v)) H := by
  refine ⟨ok.fi, ok.es, by show (σ.set i _).length = (a.sl.set i _).length; rw [List.length_set, List.length_set, ok.len], fun j e q => ?_, fun j e q => ?_, fun j k p e f q1 q2 q3 q4 => ?_, set_fx hi ok.fx⟩
  · rcases set_get q with ⟨rfl, z, hl⟩ | ⟨n, q⟩
    · cases z
      exact ⟨v, List.getElem?_set_self (by rw [ok.len]; exact hl), h⟩
    · obtain ⟨u, e1, e2⟩ := ok.va j e q
      exact ⟨u, by rw [List.getElem?_set_ne (Ne.symm n)]; exact e1, e2⟩
  · rcases set_get q with ⟨rfl, z, hl⟩ | ⟨n, q⟩
    · cases z
    · obtain ⟨u, ho, e1, e2⟩ := ok.ow j e q
      exact ⟨u, ho, by rw [List.getElem?_set_ne (Ne.symm n)]; exact e1, e2⟩
  · rcases set_get q1 with ⟨rfl, z, hl⟩ | ⟨n1, q1⟩
    · cases z
    rcases set_get q2 with ⟨rfl, z, hl⟩ | ⟨n2, q2⟩
    · cases z
    rw [List.getElem?_set_ne (Ne.symm n1)] at q3
    rw [List.getElem?_set_ne (Ne.symm n2)] at q4
    exact ok.ds j k p e f q1 q2 q3 q4
theorem Ok.setO (ok : Ok B F a σ H) {i : Nat} {d : D} {p : Addr} {o : HO} (hi : i = 0 → B.self = none) (h : H p = some o) (hF : F p = none) (h0 : B.H0 p = none) (no : ¬ OwnAt a σ p) (r : Rep K F d o) : Ok B F (a.put i (Sl.own d)) (σ.set i (some (.ref p))) H := by
  refine ⟨ok.fi, ok.es, by show (σ.set i _).length = (a.sl.set i _).length; rw [List.length_set, List.length_set, ok.len], fun j e q => ?_, fun j e q => ?_, fun j k p' e f q1 q2 q3 q4 => ?_, set_fx hi ok.fx⟩
  · rcases set_get q with ⟨rfl, z, hl⟩ | ⟨n, q⟩
    · cases z
    · obtain ⟨u, e1, e2⟩ := ok.va j e q
      exact ⟨u, by rw [List.getElem?_set_ne (Ne.symm n)]; exact e1, e2⟩
  · rcases set_get q with ⟨rfl, z, hl⟩ | ⟨n, q⟩
    · cases z
      exact ⟨p, o, List.getElem?_set_self (by rw [ok.len]; exact hl), h, hF, h0, r⟩
    · obtain ⟨u, ho, e1, e2⟩ := ok.ow j e q
      exact ⟨u, ho, by rw [List.getElem?_set_ne (Ne.symm n)]; exact e1, e2⟩
  · rcases set_get q1 with ⟨rfl, z, hl⟩ | ⟨n1, q1'⟩
    · rcases set_get q2 with ⟨rfl, z2, hl2⟩ | ⟨n2, q2⟩
      · rfl
      · rw [List.getElem?_set_self (by rw [ok.len]; exact hl)] at q3
        cases q3
        rw [List.getElem?_set_ne (Ne.symm n2)] at q4
        exact absurd ⟨k, f, q2, q4⟩ no
    · rcases set_get q2 with ⟨w, z2, hl2⟩ | ⟨n2, q2'⟩
      · subst w
        rw [List.getElem?_set_self (by rw [ok.len]; exact hl2)] at q4
        cases q4
        rw [List.getElem?_set_ne (Ne.symm n1)] at q3
        exact absurd ⟨j, e, q1', q3⟩ no
      · rw [List.getElem?_set_ne (Ne.symm n1)] at q3
        rw [List.getElem?_set_ne (Ne.symm n2)] at q4
        exact ok.ds j k p' e f q1' q2' q3 q4
/-- what one's own slot holds is changed -/
theorem Ok.chg (ok : Ok B F a σ H) {i : Nat} {d e : D} {p : Addr} {o : HO} (hi : a.sl[i]? = some (Sl.own d)) (hp : σ[i]? = some (some (V.ref p))) (r : Rep K F e o) : Ok B F (a.put i (Sl.own e)) σ (upd H p o) := by
  obtain ⟨q, ho, e1, e2, e3, e4, e5⟩ := ok.ow i d hi
  rw [hp] at e1
  cases e1
  have hl : i < a.sl.length := (List.getElem?_eq_some_iff.mp hi).1
  have nF : ∀ b u, F b = some u → b ≠ p := fun b u h z => by rw [z, e3] at h; cases h
  refine ⟨⟨fun b u h => by rw [upd_ne (nF b u h)]; exact ok.fi.fh b u h, ok.fi.ff, ok.fi.fr, fun b u h n => ?_, fun b h => ?_⟩, ok.es, by show σ.length = (a.sl.set i _).length; rw [List.length_set, ok.len], fun j f q => ?_, fun j f q => ?_, fun j k p' f g q1 q2 q3 q4 => ?_, ok.fx⟩
  · rw [upd_ne (fun z => by rw [z, e4] at h; cases h)]
    exact ok.fi.fm b u h n
  · obtain ⟨x1, x2, x3⟩ := ok.fi.sr b h
    have z : b ≠ p := fun z => x2 (z ▸ e4)
    exact ⟨x1, x2, x3.but ((But.refl p H).upd) z⟩
  · rcases set_get q with ⟨rfl, z, hl⟩ | ⟨n, q⟩
    · cases z
    · exact ok.va j f q
  · rcases set_get q with ⟨rfl, z, hl⟩ | ⟨n, q⟩
    · cases z
      exact ⟨p, o, hp, upd_same, e3, e4, r⟩
    · obtain ⟨u, ho', f1, f2, f3, f4, f5⟩ := ok.ow j f q
      have z : u ≠ p := fun z => n (ok.ds j i p f d q hi (z ▸ f1) hp)
      exact ⟨u, ho', f1, by rw [upd_ne z]; exact f2, f3, f4, f5⟩
  · have o1 : ∃ f, a.sl[j]? = some (Sl.own f) := by
      rcases set_get q1 with ⟨rfl, z, _⟩ | ⟨_, q⟩
      · exact ⟨_, hi⟩
      · exact ⟨_, q⟩
    have o2 : ∃ f, a.sl[k]? = some (Sl.own f) := by
      rcases set_get q2 with ⟨rfl, z, _⟩ | ⟨_, q⟩
      · exact ⟨_, hi⟩
      · exact ⟨_, q⟩
    obtain ⟨f1, o1⟩ := o1
    obtain ⟨f2, o2⟩ := o2
    exact ok.ds j k p' f1 f2 o1 o2 q3 q4
/-- one's own becomes what does not change any more -/
theorem Ok.own (ok : Ok B F a σ H) {i : Nat} {d : D} (hi : a.sl[i]? = some (Sl.own d)) : ∃ p o, σ[i]? = some (some (V.ref p)) ∧ H p = some o ∧ Rep K F d o ∧ Go B σ F a H (upd F p o) (a.put i (Sl.val d)) H := by
  obtain ⟨p, o, e1, e2, e3, e4, e5⟩ := ok.ow i d hi
  have hl : i < a.sl.length := (List.getElem?_eq_some_iff.mp hi).1
  have s1 : Same F (upd F p o) := Same.new e3
  have hs : B.sp ≠ some p := fun z => (ok.fi.sr p z).2.1 e4
  have nO : ¬ OwnAt (a.put i (Sl.val d)) σ p := by
    rintro ⟨j, f, q1, q2⟩
    rcases set_get q1 with ⟨rfl, z, _⟩ | ⟨n, q1⟩
    · cases z
    · exact n (ok.ds j i p f d q1 hi q2 e1)
  have w : ∀ b, OwnAt (a.put i (Sl.val d)) σ b → OwnAt a σ b := by
    rintro b ⟨j, f, q1, q2⟩
    rcases set_get q1 with ⟨rfl, z, _⟩ | ⟨n, q1⟩
    · cases z
    · exact ⟨j, f, q1, q2⟩
  refine ⟨p, o, e1, e2, e5, ⟨⟨fun b u e => ?_, ok.fi.ff.trans s1, fun b e => ?_, ok.fi.fm, fun q e => ?_⟩, ok.es, by show σ.length = (a.sl.set i _).length; rw [List.length_set, ok.len], fun j f q => ?_, fun j f q => ?_, fun j k p' f g q1 q2 q3 q4 => ?_, ok.fx⟩, s1, fun b u _ e => e, fun b e => ?_, w⟩
  · by_cases z : b = p
    · subst z
      rw [upd_same] at e
      rw [e2]
      exact e
    · rw [upd_ne z] at e
      exact ok.fi.fh _ _ e
  · by_cases z : b = p
    · exact .inr (.inl (z ▸ e4))
    · rw [upd_ne z] at e
      exact (ok.fi.fr b e).imp id fun q => q.imp id fun q => q.mono s1
  · obtain ⟨x1, x2, x3⟩ := ok.fi.sr q e
    have z : q ≠ p := fun z => hs (z ▸ e)
    exact ⟨by rw [upd_ne z]; exact x1, x2, x3⟩
  · rcases set_get q with ⟨rfl, z, _⟩ | ⟨n, q⟩
    · cases z
      exact ⟨_, e1, (e5.mono s1).dat upd_same⟩
    · obtain ⟨u, f1, f2⟩ := ok.va j f q
      exact ⟨u, f1, f2.mono s1⟩
  · rcases set_get q with ⟨rfl, z, _⟩ | ⟨n, q⟩
    · cases z
    · obtain ⟨u, ho', f1, f2, f3, f4, f5⟩ := ok.ow j f q
      have z : u ≠ p := fun z => n (ok.ds j i p f d q hi (z ▸ f1) e1)
      exact ⟨u, ho', f1, f2, by rw [upd_ne z]; exact f3, f4, f5.mono s1⟩
  · rcases set_get q1 with ⟨rfl, z, _⟩ | ⟨n1, q1⟩
    · cases z
    rcases set_get q2 with ⟨rfl, z, _⟩ | ⟨n2, q2⟩
    · cases z
    exact ok.ds j k p' f g q1 q2 q3 q4
  · by_cases z : b = p
    · exact .inr (.inr (.inl ⟨i, d, hi, by rw [z]; exact e1⟩))
    · rw [upd_ne z] at e
      exact .inl e
end
/-! ### readings over data -/
abbrev DEt := AS → (D → AS → Prop) → Prop
abbrev DTt := AS → (Bool → AS → Prop) → Prop
abbrev DAt := AS → (List D → AS → Prop) → Prop
/-- borrowed: what H tells; LE: what stays; LO: a new object of one's own -/
def LB (K : PySem.W.Frag) (ω : Wp) (te : TE) (de : DEt) : Prop := ∀ (B : Bs K), WOk B ω → ∀ (F : Hp) (a : AS) (σ : St) (H : Hp) (Q : VK) (R : D → AS → Prop), Ok B F a σ H → de a R →
  (∀ v d F' a' H', Go B σ F a H F' a' H' → Dat K (Hs B.sp H') d v → R d a' → Q v H') → te σ H Q
def LE (K : PySem.W.Frag) (ω : Wp) (te : TE) (de : DEt) : Prop := ∀ (B : Bs K), WOk B ω → ∀ (F : Hp) (a : AS) (σ : St) (H : Hp) (Q : VK) (R : D → AS → Prop), Ok B F a σ H → de a R →
  (∀ v d F' a' H', Go B σ F a H F' a' H' → Dat K F' d v → R d a' → Q v H') → te σ H Q
def LO (K : PySem.W.Frag) (ω : Wp) (te : TE) (de : DEt) : Prop := ∀ (B : Bs K), WOk B ω → ∀ (F : Hp) (a : AS) (σ : St) (H : Hp) (Q : VK) (R : D → AS → Prop), Ok B F a σ H → de a R →
  (∀ p o d F' a' H', Go B σ F a H F' a' H' → H p = none → F' p = none → H' p = some o → Rep K F' d o → R d a' → Q (.ref p) H') → te σ H Q
def LC (K : PySem.W.Frag) (ω : Wp) (t : TT) (dt : DTt) : Prop := ∀ (B : Bs K), WOk B ω → ∀ (F : Hp) (a : AS) (σ : St) (H : Hp) (Q : Bool → Hp → Prop) (R : Bool → AS → Prop), Ok B F a σ H → dt a R →
  (∀ b F' a' H', Go B σ F a H F' a' H' → R b a' → Q b H') → t σ H Q
def LAE (K : PySem.W.Frag) (ω : Wp) (t : TA) (da : DAt) : Prop := ∀ (B : Bs K), WOk B ω → ∀ (F : Hp) (a : AS) (σ : St) (H : Hp) (Q : List V → Hp → Prop) (R : List D → AS → Prop), Ok B F a σ H → da a R →
  (∀ vs ds F' a' H', Go B σ F a H F' a' H' → DatL K F' ds vs → R ds a' → Q vs H') → t σ H Q
def LAB (K : PySem.W.Frag) (ω : Wp) (t : TA) (da : DAt) : Prop := ∀ (B : Bs K), WOk B ω → ∀ (F : Hp) (a : AS) (σ : St) (H : Hp) (Q : List V → Hp → Prop) (R : List D → AS → Prop), Ok B F a σ H → da a R →
  (∀ vs ds F' a' H', Go B σ F a H F' a' H' → DatL K (Hs B.sp H') ds vs → R ds a' → Q vs H') → t σ H Q
def DB {ι : Type} (X : ι → Cx) (K : PySem.W.Frag) (ω : Wp) (e : Expr) (de : DEt) : Prop := ∃ te, (∀ j, PE (X j) e te) ∧ LB K ω te de
def DX {ι : Type} (X : ι → Cx) (K : PySem.W.Frag) (ω : Wp) (e : Expr) (de : DEt) : Prop := ∃ te, (∀ j, PE (X j) e te) ∧ LE K ω te de
def DO {ι : Type} (X : ι → Cx) (K : PySem.W.Frag) (ω : Wp) (e : Expr) (de : DEt) : Prop := ∃ te, (∀ j, PE (X j) e te) ∧ LO K ω te de
def DT {ι : Type} (X : ι → Cx) (K : PySem.W.Frag) (ω : Wp) (e : Expr) (dt : DTt) : Prop := ∃ t, (∀ j, PT (X j) e t) ∧ LC K ω t dt
def DW {ι : Type} (X : ι → Cx) (K : PySem.W.Frag) (ω : Wp) (e : Expr) (dt : DTt) : Prop := ∃ t, (∀ j, PW (X j) e t) ∧ LC K ω t dt
def DAE {ι : Type} (X : ι → Cx) (K : PySem.W.Frag) (ω : Wp) (es : List Expr) (da : DAt) : Prop := ∃ t, (∀ j, PA (X j) es t) ∧ LAE K ω t da
def DAB {ι : Type} (X : ι → Cx) (K : PySem.W.Frag) (ω : Wp) (es : List Expr) (da : DAt) : Prop := ∃ t, (∀ j, PA (X j) es t) ∧ LAB K ω t da
section
variable {K : PySem.W.Frag} {ω : Wp} {B : Bs K} {F F' F1 F2 : Hp} {a a' a1 a2 : AS} {σ : St} {H H' H1 H2 : Hp} {n : Int} {te : TE} {de : DEt}
theorem Go.fs (g : Go B σ F a H F' a' H') : Same F' (Hs B.sp H') := g.ok.fi.fs
theorem LE.b (h : LE K ω te de) : LB K ω te de := fun B hω F a σ H Q R ok hd k => h B hω F a σ H Q R ok hd fun v d F' a' H' g q r => k v d F' a' H' g (q.mono g.fs) r
theorem LO.e (h : LO K ω te de) : LE K ω te de := fun B hω F a σ H Q R ok hd k => h B hω F a σ H Q R ok hd fun p o d F' a' H' g n1 n2 e q r => by
  obtain ⟨hF, h0, hs, no⟩ := ok.here n1
  have s1 : Same F' (upd F' p o) := Same.new n2
  refine k _ d (upd F' p o) a' H' ⟨g.ok.frz e n2 h0 hs fun z => no (g.oo p z), g.ff.trans s1, g.hh, fun b z => ?_, g.oo⟩ ((q.mono s1).dat upd_same) r
  by_cases w : b = p
  · exact .inr (.inl (w ▸ n1))
  · rw [upd_ne w] at z
    exact (g.fr b z).imp id fun q => q.imp id fun q => q.imp id fun q => q.mono s1
def isV : D → Bool
  | .v _ => true
  | _ => false
/-- a flat value is never borrowed -/
def dFlat (de : DEt) : DEt := fun a R => de a fun d a' => isV d = true ∧ R d a'
theorem LB.flat (h : LB K ω te de) : LE K ω te (dFlat de) := fun B hω F a σ H Q R ok hd k => h B hω F a σ H Q _ ok hd fun v d F' a' H' g q r => by
  obtain ⟨hv, r⟩ := r
  refine k v d F' a' H' g ?_ r
  cases d with
  | v x => exact q
  | _ => cases hv
variable {ι : Type} {X : ι → Cx} {e e1 e2 : Expr} {es : List Expr} {da db dc : DEt} {pos : Pos}
theorem DX.b (h : DX X K ω e de) : DB X K ω e de := let ⟨t, p, l⟩ := h; ⟨t, p, l.b⟩
theorem DO.x (h : DO X K ω e de) : DX X K ω e de := let ⟨t, p, l⟩ := h; ⟨t, p, l.e⟩
theorem DB.f (h : DB X K ω e de) : DX X K ω e (dFlat de) := let ⟨t, p, l⟩ := h; ⟨t, p, l.flat⟩
/-! names -/
def AS.at (a : AS) (i : Nat) : Sl := a.sl.getD i .emp
theorem at_of' {a : AS} {i : Nat} {s : Sl} (h : a.at i = s) (n : s ≠ .emp) : a.sl[i]? = some s := by
  unfold AS.at at h
  rw [List.getD_eq_getElem?_getD] at h
  cases q : a.sl[i]? with
  | none => rw [q] at h; exact absurd h.symm n
  | some z => rw [q] at h; rw [← h]; rfl
def dVarB (i : Nat) : DEt := fun a R => match a.at i with
  | .val d => R d a
  | .own d => R d a
  | .emp => False
/-- a name's value from now on stays -/
def dVar (i : Nat) : DEt := fun a R => match a.at i with
  | .val d => R d a
  | .own d => R d (a.put i (.val d))
  | .emp => False
theorem lb_var {i : Nat} : LB K ω (tVar i) (dVarB i) := fun B hω F a σ H Q R ok hd k => by
  unfold dVarB at hd
  cases e : a.at i with
  | emp => rw [e] at hd; exact hd.elim
  | val d =>
    rw [e] at hd
    obtain ⟨v, h1, h2⟩ := ok.va i d (at_of' e (fun z => nomatch z))
    exact ⟨v, h1, k v d F a H (.refl ok) (h2.mono ok.fi.fs) hd⟩
  | own d =>
    rw [e] at hd
    obtain ⟨p, o, h1, h2, h3, h4, h5⟩ := ok.ow i d (at_of' e (fun z => nomatch z))
    refine ⟨_, h1, k _ d F a H (.refl ok) ((h5.mono ok.fi.fs).dat (hs_of h2 fun z => ?_)) hd⟩
    exact (ok.fi.sr p z).2.1 h4
theorem le_var {i : Nat} : LE K ω (tVar i) (dVar i) := fun B hω F a σ H Q R ok hd k => by
  unfold dVar at hd
  cases e : a.at i with
  | emp => rw [e] at hd; exact hd.elim
  | val d =>
    rw [e] at hd
    obtain ⟨v, h1, h2⟩ := ok.va i d (at_of' e (fun z => nomatch z))
    exact ⟨v, h1, k v d F a H (.refl ok) h2 hd⟩
  | own d =>
    rw [e] at hd
    obtain ⟨p, o, h1, h2, h3, g⟩ := ok.own (at_of' e (fun z => nomatch z))
    exact ⟨_, h1, k _ d _ _ H g ((h3.mono g.ff).dat upd_same) hd⟩
theorem dbv (i : Nat) {x : Str} {pos : Pos} (hN : ∀ j, (X j).N[i]? = some x := by intro _; rfl) (hv : ∀ j, Vis (X j).env.scope x := by first | exact fun _ => Or.inl rfl | exact fun _ => Or.inr (Or.inl rfl) | exact fun _ => Or.inr (Or.inr rfl)) (hd : (x == ("__debug__" : Str)) = false := by decide)
    (hcd : (x == ("__classdict__" : Str)) = false := by decide) : DB X K ω (.Name x pos) (dVarB i) := ⟨_, fun j => pe_var (hN j) (hv j) hd hcd, lb_var⟩
theorem dv (i : Nat) {x : Str} {pos : Pos} (hN : ∀ j, (X j).N[i]? = some x := by intro _; rfl) (hv : ∀ j, Vis (X j).env.scope x := by first | exact fun _ => Or.inl rfl | exact fun _ => Or.inr (Or.inl rfl) | exact fun _ => Or.inr (Or.inr rfl)) (hd : (x == ("__debug__" : Str)) = false := by decide)
    (hcd : (x == ("__classdict__" : Str)) = false := by decide) : DX X K ω (.Name x pos) (dVar i) := ⟨_, fun j => pe_var (hN j) (hv j) hd hcd, le_var⟩
/-! constants -/
def dC (x : V) : DEt := fun a R => R (.v x) a
theorem le_c {x : V} : LE K ω (tC x) (dC x) := fun B hω F a σ H Q R ok hd k => k x (.v x) F a H (.refl ok) rfl hd
theorem de_int {i j pos} : DX X K ω (.Constant (.int i) j pos) (dC (.int i)) := ⟨_, fun _ => pe_int, le_c⟩
theorem de_bl {b j pos} : DX X K ω (.Constant (.bool b) j pos) (dC (.bl b)) := ⟨_, fun _ => pe_bl, le_c⟩
theorem de_non {j pos} : DX X K ω (.Constant .none j pos) (dC .non) := ⟨_, fun _ => pe_non, le_c⟩
theorem de_str {x j pos} : DX X K ω (.Constant (.str x) j pos) (dC (.str x)) := ⟨_, fun _ => pe_str, le_c⟩
theorem de_glob {x : Str} {v : V} {u : Value} {pos : Pos} (hg : ∀ j, Gl (X j) x) (hm : ∀ j, (X j).mg x = some u) (r : RelV v u) (hd : (x == ("__debug__" : Str)) = false := by decide) : DX X K ω (.Name x pos) (dC v) := ⟨_, fun j => pe_glob (hg j) (hm j) r hd, le_c⟩
theorem de_bltn {x : Str} {v : V} {u : Value} {pos : Pos} (hg : ∀ j, Gl (X j) x) (hm : ∀ j, (X j).mg x = none) (hv : bootBuiltins x = some u) (r : RelV v u) (hn : x ≠ "__name__" := by decide) (hd : (x == ("__debug__" : Str)) = false := by decide) : DX X K ω (.Name x pos) (dC v) := ⟨_, fun j => pe_bltn (hg j) (hm j) hv r hn hd, le_c⟩
/-- a module's name that stands for data which never changes -/
theorem de_globT {x : Str} {c : Addr} {d : D} {pos : Pos} (hg : ∀ j, Gl (X j) x) (hm : ∀ j, (X j).mg x = some (.ref c)) (h : ∀ H, Dat K H d (.ref c)) (hd : (x == ("__debug__" : Str)) = false := by decide) : DX X K ω (.Name x pos) (fun a R => R d a) :=
  ⟨_, fun j => pe_glob (v := .ref c) (hg j) (hm j) rfl hd, fun B hω F a σ H Q R ok hd k => k _ d F a H (.refl ok) (h F) hd⟩
/-! operators -/
abbrev DR := D → D → (D → Prop) → Prop
def dOp (dr : DR) (da db : DEt) : DEt := fun a R => da a fun x a1 => db a1 fun y a2 => dr x y fun d => R d a2
/-- what comes out stays (it is flat, or part of what went in) -/
def LR (K : PySem.W.Frag) (ω : Wp) (r : R2) (dr : DR) : Prop := ∀ (B : Bs K), WOk B ω → ∀ (F : Hp) (a : AS) (σ : St) (H : Hp) (x y : V) (d e : D) (Q : VK) (R : D → Prop), Ok B F a σ H → Dat K (Hs B.sp H) d x → Dat K (Hs B.sp H) e y → dr d e R →
  (∀ v f F' H', Go B σ F a H F' a H' → Dat K F' f v → R f → Q v H') → r x y H Q
theorem lr_flat {r : R2} {dr : DR} (h : ∀ d e R, dr d e R → ∃ x y w, d = .v x ∧ e = .v y ∧ R (.v w) ∧ ∀ H Q, Q w H → r x y H Q) : LR K ω r dr := fun B hω F a σ H x y d e Q R ok hx hy hd k => by
  obtain ⟨x', y', w, rfl, rfl, hR, q⟩ := h d e R hd
  rw [show x = x' from hx, show y = y' from hy]
  exact q H Q (k w (.v w) F H (.refl ok) rfl hR)
def dI (C : Int → Int → Prop) (g : Int → Int → V) : DR := fun d e R => match d, e with
  | .v (.int i), .v (.int j) => C i j ∧ R (.v (g i j))
  | _, _ => False
def dI0 (g : Int → Int → V) : DR := fun d e R => match d, e with
  | .v (.int i), .v (.int j) => R (.v (g i j))
  | _, _ => False
theorem lr_I {C : Int → Int → Prop} {g : Int → Int → V} : LR K ω (rI C g) (dI C g) := lr_flat fun d e R h => by
  unfold dI at h
  split at h
  · rename_i i j
    exact ⟨_, _, _, rfl, rfl, h.2, fun H Q q => ⟨i, j, rfl, rfl, h.1, q⟩⟩
  · exact h.elim
theorem lr_I0 {g : Int → Int → V} : LR K ω (rI0 g) (dI0 g) := lr_flat fun d e R h => by
  unfold dI0 at h
  split at h
  · rename_i i j
    exact ⟨_, _, _, rfl, rfl, h, fun H Q q => ⟨i, j, rfl, rfl, q⟩⟩
  · exact h.elim
def DOpR {ι : Type} (X : ι → Cx) (K : PySem.W.Frag) (ω : Wp) (f : Value → Value → Sem Value) (dr : DR) : Prop := ∃ r, (∀ j, OpR (X j) f r) ∧ LR K ω r dr
theorem dop_add : DOpR X K ω (binaryOp .Add) (dI0 fun i j => .int (i + j)) := ⟨_, fun _ => op_add, lr_I0⟩
theorem dop_sub : DOpR X K ω (binaryOp .Sub) (dI0 fun i j => .int (i - j)) := ⟨_, fun _ => op_sub, lr_I0⟩
theorem dop_mul : DOpR X K ω (binaryOp .Mult) (dI CMul fun i j => .int (i * j)) := ⟨_, fun _ => op_mul, lr_I⟩
theorem dop_mulW : DOpR X K ω (binaryOp .Mult) (dI CMulW fun i j => .int (i * j)) := ⟨_, fun _ => op_mulW, lr_I⟩
theorem dop_fdivW : DOpR X K ω (binaryOp .FloorDiv) (dI CDivW fun i j => .int (i / j)) := ⟨_, fun _ => op_fdivW, lr_I⟩
theorem dop_mod : DOpR X K ω (binaryOp .Mod) (dI (fun _ j => 0 < j) fun i j => .int (i % j)) := ⟨_, fun _ => op_mod, lr_I⟩
theorem dop_pow : DOpR X K ω (binaryOp .Pow) (dI CPow fun i j => .int (i ^ j.toNat)) := ⟨_, fun _ => op_pow, lr_I⟩
theorem dop_lt : DOpR X K ω (compareOp .Lt) (dI0 fun i j => .bl (decide (i < j))) := ⟨_, fun _ => op_lt, lr_I0⟩
theorem dop_le : DOpR X K ω (compareOp .LtE) (dI0 fun i j => .bl (decide (i ≤ j))) := ⟨_, fun _ => op_le, lr_I0⟩
theorem dop_gt : DOpR X K ω (compareOp .Gt) (dI0 fun i j => .bl (decide (j < i))) := ⟨_, fun _ => op_gt, lr_I0⟩
theorem dop_ge : DOpR X K ω (compareOp .GtE) (dI0 fun i j => .bl (decide (j ≤ i))) := ⟨_, fun _ => op_ge, lr_I0⟩
def dAddS : DR := fun d e R => match d, e with
  | .v (.str i), .v (.str j) => i.length + j.length ≤ sizeLine ∧ R (.v (.str (i ++ j)))
  | _, _ => False
theorem dop_addS : DOpR X K ω (binaryOp .Add) dAddS := ⟨_, fun _ => op_add_str, lr_flat fun d e R h => by
  unfold dAddS at h
  split at h
  · rename_i i j
    exact ⟨_, _, _, rfl, rfl, h.2, fun H Q q => ⟨i, j, rfl, rfl, h.1, q⟩⟩
  · exact h.elim⟩
theorem de_op {op : Operator} {dr : DR} (ho : DOpR X K ω (binaryOp op) dr) (ha : DB X K ω e1 da) (hb : DB X K ω e2 db) : DX X K ω (.BinOp e1 op e2 pos) (dOp dr da db) := by
  obtain ⟨r, h1, l1⟩ := ho
  obtain ⟨ta, h2, l2⟩ := ha
  obtain ⟨tb, h3, l3⟩ := hb
  refine ⟨_, fun j => pe_op (h1 j) (h2 j) (h3 j), fun B hω F a σ H Q R ok hd k => ?_⟩
  refine l2 B hω F a σ H _ _ ok hd fun x d F1 a1 H1 g1 q1 hd1 => ?_
  refine l3 B hω F1 a1 σ H1 _ _ g1.ok hd1 fun y e F2 a2 H2 g2 q2 hd2 => ?_
  refine l1 B hω F2 a2 σ H2 x y d e Q _ g2.ok (q1.mono g2.bs) q2 hd2 fun v f F3 H3 g3 q3 hR => ?_
  exact k v f F3 a2 H3 (.trans ok g1 (.trans g1.ok g2 g3)) q3 hR
theorem de_cmp {op : CmpOp} {dr : DR} (ho : DOpR X K ω (compareOp op) dr) (ha : DB X K ω e1 da) (hb : DB X K ω e2 db) (hm : behindInMarks op e2 = false) : DX X K ω (.Compare e1 [op] [e2] pos) (dOp dr da db) := by
  obtain ⟨r, h1, l1⟩ := ho
  obtain ⟨ta, h2, l2⟩ := ha
  obtain ⟨tb, h3, l3⟩ := hb
  refine ⟨_, fun j => pe_cmpR (h1 j) (h2 j) (h3 j) hm, fun B hω F a σ H Q R ok hd k => ?_⟩
  refine l2 B hω F a σ H _ _ ok hd fun x d F1 a1 H1 g1 q1 hd1 => ?_
  refine l3 B hω F1 a1 σ H1 _ _ g1.ok hd1 fun y e F2 a2 H2 g2 q2 hd2 => ?_
  refine l1 B hω F2 a2 σ H2 x y d e Q _ g2.ok (q1.mono g2.bs) q2 hd2 fun v f F3 H3 g3 q3 hR => ?_
  exact k v f F3 a2 H3 (.trans ok g1 (.trans g1.ok g2 g3)) q3 hR
/-- a value that is True or False -/
def asB (d : D) (R : Bool → Prop) : Prop := match d with
  | .v (.bl b) => R b
  | _ => False
theorem asB_of {d : D} {R : Bool → Prop} (h : asB d R) : ∃ b, d = .v (.bl b) ∧ R b := by
  unfold asB at h
  split at h
  · rename_i b
    exact ⟨b, rfl, h⟩
  · exact h.elim
def dTest (de : DEt) : DTt := fun a R => de a fun d a' => asB d fun b => R b a'
theorem dt_val {e : Expr} (h : DX X K ω e de) (he : ∀ j whole, isTrue e (X j).env whole = (do let v ← whole; standAt e.pos; holding [v] (truthy v)) := by intro _ _; rfl) : DT X K ω e (dTest de) := by
  obtain ⟨t, p, l⟩ := h
  refine ⟨_, fun j => pt_val (p j) (he j), fun B hω F a σ H Q R ok hd k => l B hω F a σ H _ _ ok hd fun v d F' a' H' g q hR => ?_⟩
  obtain ⟨b, rfl, hR⟩ := asB_of hR
  exact ⟨b, q, k b F' a' H' g hR⟩
theorem dt_cmp {op : CmpOp} {dr : DR} (ho : DOpR X K ω (compareOp op) dr) (ha : DB X K ω e1 da) (hb : DB X K ω e2 db) (hm : behindInMarks op e2 = false) : DT X K ω (.Compare e1 [op] [e2] pos) (dTest (dOp dr da db)) := by
  obtain ⟨r, h1, l1⟩ := ho
  obtain ⟨ta, h2, l2⟩ := ha
  obtain ⟨tb, h3, l3⟩ := hb
  refine ⟨_, fun j => pt_cmpR (h1 j) (h2 j) (h3 j) hm, fun B hω F a σ H Q R ok hd k => ?_⟩
  refine l2 B hω F a σ H _ _ ok hd fun x d F1 a1 H1 g1 q1 hd1 => ?_
  refine l3 B hω F1 a1 σ H1 _ _ g1.ok hd1 fun y e F2 a2 H2 g2 q2 hd2 => ?_
  refine l1 B hω F2 a2 σ H2 x y d e _ _ g2.ok (q1.mono g2.bs) q2 hd2 fun v f F3 H3 g3 q3 hR => ?_
  obtain ⟨b, rfl, hR⟩ := asB_of hR
  exact ⟨b, q3, k b F3 a2 H3 (.trans ok g1 (.trans g1.ok g2 g3)) hR⟩
def dUn (dr : D → (D → Prop) → Prop) (da : DEt) : DEt := fun a R => da a fun x a1 => dr x fun d => R d a1
def dNeg : D → (D → Prop) → Prop := fun d R => match d with
  | .v (.int i) => R (.v (.int (-i)))
  | _ => False
theorem de_neg (ha : DB X K ω e da) : DX X K ω (.UnaryOp .USub e pos) (dUn dNeg da) := by
  obtain ⟨t, p, l⟩ := ha
  refine ⟨_, fun j => pe_un un_neg (p j), fun B hω F a σ H Q R ok hd k => l B hω F a σ H _ _ ok hd fun v d F' a' H' g q hR => ?_⟩
  unfold dNeg at hR
  split at hR
  · rename_i i
    exact ⟨i, q, k _ (.v _) F' a' H' g rfl hR⟩
  · exact hR.elim
def dNotV (da : DEt) : DEt := fun a R => da a fun x a1 => asB x fun b => R (.v (.bl (!b))) a1
theorem de_not (ha : DX X K ω e da) : DX X K ω (.UnaryOp .Not e pos) (dNotV da) := by
  obtain ⟨t, p, l⟩ := ha
  refine ⟨_, fun j => pe_not (p j), fun B hω F a σ H Q R ok hd k => l B hω F a σ H _ _ ok hd fun v d F' a' H' g q hR => ?_⟩
  obtain ⟨b, rfl, hR⟩ := asB_of hR
  exact ⟨b, q, k _ (.v _) F' a' H' g rfl hR⟩
/-! and, or -/
def bIf (b : Bool) (A C : Prop) : Prop := match b with
  | true => A
  | false => C
theorem bIf_ite {b : Bool} {A C : Prop} (h : bIf b A C) : if b = true then A else C := by
  cases b with
  | true => exact iteT h
  | false => exact iteF h
theorem bIf.imp {b : Bool} {A C A' C' : Prop} (h : bIf b A C) (f : A → A') (g : C → C') : if b = true then A' else C' := by
  cases b with
  | true => exact iteT (f h)
  | false => exact iteF (g h)
def dAnd (t u : DTt) : DTt := fun a R => t a fun b a1 => bIf b (u a1 R) (R false a1)
def dOr (t u : DTt) : DTt := fun a R => t a fun b a1 => bIf b (R true a1) (u a1 R)
def dNot (t : DTt) : DTt := fun a R => t a fun b a1 => R (!b) a1
variable {dt du : DTt} {t u : TT}
theorem lt_and (l1 : LC K ω t dt) (l2 : LC K ω u du) : LC K ω (tAnd t u) (dAnd dt du) := fun B hω F a σ H Q R ok hd k => l1 B hω F a σ H _ _ ok hd fun b F1 a1 H1 g1 hR => hR.imp
  (fun hR => l2 B hω F1 a1 σ H1 _ _ g1.ok hR fun c F2 a2 H2 g2 hR => k c F2 a2 H2 (.trans ok g1 g2) hR) fun hR => k false F1 a1 H1 g1 hR
theorem lt_or (l1 : LC K ω t dt) (l2 : LC K ω u du) : LC K ω (tOr t u) (dOr dt du) := fun B hω F a σ H Q R ok hd k => l1 B hω F a σ H _ _ ok hd fun b F1 a1 H1 g1 hR => hR.imp
  (fun hR => k true F1 a1 H1 g1 hR) fun hR => l2 B hω F1 a1 σ H1 _ _ g1.ok hR fun c F2 a2 H2 g2 hR => k c F2 a2 H2 (.trans ok g1 g2) hR
theorem lt_not (l1 : LC K ω t dt) : LC K ω (tNot t) (dNot dt) := fun B hω F a σ H Q R ok hd k => l1 B hω F a σ H _ _ ok hd fun b F1 a1 H1 g1 hR => k _ F1 a1 H1 g1 hR
theorem dw_and1 {pos : Pos} (h : DT X K ω e1 dt) : DW X K ω (.BoolOp .And [e1] pos) dt := let ⟨t, p, l⟩ := h; ⟨t, fun j => pw_and1 (p j), l⟩
theorem dw_or1 {pos : Pos} (h : DT X K ω e1 dt) : DW X K ω (.BoolOp .Or [e1] pos) dt := let ⟨t, p, l⟩ := h; ⟨t, fun j => pw_or1 (p j), l⟩
theorem dw_and {pos : Pos} (h1 : DT X K ω e1 dt) (h2 : DW X K ω (.BoolOp .And (e2 :: es) pos) du) : DW X K ω (.BoolOp .And (e1 :: e2 :: es) pos) (dAnd dt du) := let ⟨_, p, l⟩ := h1; let ⟨_, p', l'⟩ := h2; ⟨_, fun j => pw_and (p j) (p' j), lt_and l l'⟩
theorem dw_or {pos : Pos} (h1 : DT X K ω e1 dt) (h2 : DW X K ω (.BoolOp .Or (e2 :: es) pos) du) : DW X K ω (.BoolOp .Or (e1 :: e2 :: es) pos) (dOr dt du) := let ⟨_, p, l⟩ := h1; let ⟨_, p', l'⟩ := h2; ⟨_, fun j => pw_or (p j) (p' j), lt_or l l'⟩
theorem DW.pt (h : DW X K ω e dt) : DT X K ω e dt := let ⟨t, p, l⟩ := h; ⟨t, fun j => (p j).pt, l⟩
theorem dt_not {pos : Pos} (h : DT X K ω e dt) : DT X K ω (.UnaryOp .Not e pos) (dNot dt) := let ⟨_, p, l⟩ := h; ⟨_, fun j => pt_not (p j), lt_not l⟩
def dAndV (da db : DEt) : DEt := fun a R => da a fun x a1 => asB x fun b => bIf b (db a1 R) (R (.v (.bl false)) a1)
def dOrV (da db : DEt) : DEt := fun a R => da a fun x a1 => asB x fun b => bIf b (R (.v (.bl true)) a1) (db a1 R)
theorem de_one {op} {pos : Pos} (h : DX X K ω e de) : DX X K ω (.BoolOp op [e] pos) de := let ⟨t, p, l⟩ := h; ⟨t, fun j => pe_one (p j), l⟩
theorem de_and {pos : Pos} (h1 : DX X K ω e1 da) (h2 : DX X K ω (.BoolOp .And (e2 :: es) pos) db) : DX X K ω (.BoolOp .And (e1 :: e2 :: es) pos) (dAndV da db) := by
  obtain ⟨_, p, l⟩ := h1
  obtain ⟨_, p', l'⟩ := h2
  refine ⟨_, fun j => pe_and (p j) (p' j), fun B hω F a σ H Q R ok hd k => l B hω F a σ H _ _ ok hd fun v d F' a' H' g q hR => ?_⟩
  obtain ⟨b, rfl, hR⟩ := asB_of hR
  exact ⟨b, q, hR.imp (fun hR => l' B hω F' a' σ H' _ _ g.ok hR fun v d F2 a2 H2 g2 q2 hR => k v d F2 a2 H2 (.trans ok g g2) q2 hR) fun hR => k _ (.v _) F' a' H' g rfl hR⟩
theorem de_or {pos : Pos} (h1 : DX X K ω e1 da) (h2 : DX X K ω (.BoolOp .Or (e2 :: es) pos) db) : DX X K ω (.BoolOp .Or (e1 :: e2 :: es) pos) (dOrV da db) := by
  obtain ⟨_, p, l⟩ := h1
  obtain ⟨_, p', l'⟩ := h2
  refine ⟨_, fun j => pe_or (p j) (p' j), fun B hω F a σ H Q R ok hd k => l B hω F a σ H _ _ ok hd fun v d F' a' H' g q hR => ?_⟩
  obtain ⟨b, rfl, hR⟩ := asB_of hR
  exact ⟨b, q, hR.imp (fun hR => k _ (.v _) F' a' H' g rfl hR) fun hR => l' B hω F' a' σ H' _ _ g.ok hR fun v d F2 a2 H2 g2 q2 hR => k v d F2 a2 H2 (.trans ok g g2) q2 hR⟩
def dIfE (dt : DTt) (da db : DEt) : DEt := fun a R => dt a fun b a1 => bIf b (da a1 R) (db a1 R)
theorem de_ifExp {c : Expr} {pos : Pos} (hc : DT X K ω c dt) (ha : DX X K ω e1 da) (hb : DX X K ω e2 db) : DX X K ω (.IfExp c e1 e2 pos) (dIfE dt da db) := by
  obtain ⟨_, p, l⟩ := hc
  obtain ⟨_, p1, l1⟩ := ha
  obtain ⟨_, p2, l2⟩ := hb
  refine ⟨_, fun j => pe_ifExp (p j) (p1 j) (p2 j), fun B hω F a σ H Q R ok hd k => l B hω F a σ H _ _ ok hd fun b F' a' H' g hR => hR.imp (fun hR => ?_) fun hR => ?_⟩
  · exact l1 B hω F' a' σ H' _ _ g.ok hR fun v d F2 a2 H2 g2 q2 hR => k v d F2 a2 H2 (.trans ok g g2) q2 hR
  · exact l2 B hω F' a' σ H' _ _ g.ok hR fun v d F2 a2 H2 g2 q2 hR => k v d F2 a2 H2 (.trans ok g g2) q2 hR
/-! a < b < c -/
def dChain (dr dr' : DR) (da db dc : DEt) : DEt := fun a R => da a fun x a1 => db a1 fun y a2 => dr x y fun z => asB z fun b => bIf b (dc a2 fun w a3 => dr' y w fun d => R d a3) (R (.v (.bl false)) a2)
theorem de_chain {op op' : CmpOp} {dr dr' : DR} {e3 : Expr} {pos : Pos} (ho : DOpR X K ω (compareOp op) dr) (ho' : DOpR X K ω (compareOp op') dr') (ha : DB X K ω e1 da) (hb : DB X K ω e2 db) (hc : DB X K ω e3 dc) (hm : lastMarks [op, op'] [e2, e3] = false := by with_unfolding_all rfl) : DX X K ω (.Compare e1 [op, op'] [e2, e3] pos) (dChain dr dr' da db dc) := by
  obtain ⟨r, h1, l1⟩ := ho
  obtain ⟨r', h1', l1'⟩ := ho'
  obtain ⟨ta, h2, l2⟩ := ha
  obtain ⟨tb, h3, l3⟩ := hb
  obtain ⟨tc, h4, l4⟩ := hc
  refine ⟨_, fun j => pe_chain (h1 j) (h1' j) (h2 j) (h3 j) (h4 j) hm, fun B hω F a σ H Q R ok hd k => ?_⟩
  refine l2 B hω F a σ H _ _ ok hd fun x d F1 a1 H1 g1 q1 hd1 => ?_
  refine l3 B hω F1 a1 σ H1 _ _ g1.ok hd1 fun y e F2 a2 H2 g2 q2 hd2 => ?_
  refine l1 B hω F2 a2 σ H2 x y d e _ _ g2.ok (q1.mono g2.bs) q2 hd2 fun v f F3 H3 g3 q3 hR => ?_
  obtain ⟨b, rfl, hR⟩ := asB_of hR
  have g13 := Go.trans ok g1 (.trans g1.ok g2 g3)
  refine ⟨b, q3, hR.imp (fun hR => ?_) fun hR => k _ (.v _) F3 a2 H3 g13 rfl hR⟩
  refine l4 B hω F3 a2 σ H3 _ _ g3.ok hR fun w f F4 a4 H4 g4 q4 hR => ?_
  refine l1' B hω F4 a4 σ H4 y w e f Q _ g4.ok ((q2.mono g3.bs).mono g4.bs) q4 hR fun v f F5 H5 g5 q5 hR => ?_
  exact k v f F5 a4 H5 (.trans ok g13 (.trans g3.ok g4 g5)) q5 hR
theorem dt_chain {op op' : CmpOp} {dr dr' : DR} {e3 : Expr} {pos : Pos} (ho : DOpR X K ω (compareOp op) dr) (ho' : DOpR X K ω (compareOp op') dr') (ha : DB X K ω e1 da) (hb : DB X K ω e2 db) (hc : DB X K ω e3 dc) (hm : lastMarks [op, op'] [e2, e3] = false := by with_unfolding_all rfl) : DT X K ω (.Compare e1 [op, op'] [e2, e3] pos) (dTest (dChain dr dr' da db dc)) := by
  obtain ⟨r, h1, l1⟩ := ho
  obtain ⟨r', h1', l1'⟩ := ho'
  obtain ⟨ta, h2, l2⟩ := ha
  obtain ⟨tb, h3, l3⟩ := hb
  obtain ⟨tc, h4, l4⟩ := hc
  refine ⟨_, fun j => pt_chain (h1 j) (h1' j) (h2 j) (h3 j) (h4 j) hm, fun B hω F a σ H Q R ok hd k => ?_⟩
  refine l2 B hω F a σ H _ _ ok hd fun x d F1 a1 H1 g1 q1 hd1 => ?_
  refine l3 B hω F1 a1 σ H1 _ _ g1.ok hd1 fun y e F2 a2 H2 g2 q2 hd2 => ?_
  refine l1 B hω F2 a2 σ H2 x y d e _ _ g2.ok (q1.mono g2.bs) q2 hd2 fun v f F3 H3 g3 q3 hR => ?_
  obtain ⟨b, rfl, hR⟩ := asB_of hR
  have g13 := Go.trans ok g1 (.trans g1.ok g2 g3)
  refine ⟨b, q3, hR.imp (fun hR => ?_) fun hR => ?_⟩
  · refine l4 B hω F3 a2 σ H3 _ _ g3.ok hR fun w f F4 a4 H4 g4 q4 hR => ?_
    refine l1' B hω F4 a4 σ H4 y w e f _ _ g4.ok ((q2.mono g3.bs).mono g4.bs) q4 hR fun v f F5 H5 g5 q5 hR => ?_
    obtain ⟨c, rfl, hR⟩ := asB_of hR
    exact ⟨c, q5, k c F5 a4 H5 (.trans ok g13 (.trans g3.ok g4 g5)) hR⟩
  · obtain ⟨c, e, hR⟩ := asB_of hR
    cases e
    exact ⟨false, rfl, k false F3 a2 H3 g13 hR⟩
end
/-! ### statements -/
structure DEnds where
  nx : AS → Prop
  rt : D → Int → Prop
  bk : AS → Prop := fun _ => False
  ct : AS → Prop := fun _ => False
abbrev DSt := DEnds → AS → Prop
structure EndsOk {K : PySem.W.Frag} (B : Bs K) (F : Hp) (DE : DEnds) (E : Ends) : Prop where
  nx : ∀ F' a' σ' H', Ok B F' a' σ' H' → Same F F' → DE.nx a' → E.nx σ' H'
  rt : ∀ v d n F' H', Fi B F' n H' → Same F F' → Dat K F' d v → DE.rt d n → E.rt v H'
  bk : ∀ F' a' σ' H', Ok B F' a' σ' H' → Same F F' → DE.bk a' → E.bk σ' H'
  ct : ∀ F' a' σ' H', Ok B F' a' σ' H' → Same F F' → DE.ct a' → E.ct σ' H'
def LS (K : PySem.W.Frag) (ω : Wp) (ts : TS) (ds : DSt) : Prop := ∀ (B : Bs K), WOk B ω → ∀ (E : Ends) (DE : DEnds) (F : Hp) (a : AS) (σ : St) (H : Hp), Ok B F a σ H → ds DE a → EndsOk B F DE E → ts E σ H
def DS {ι : Type} (X : ι → Cx) (K : PySem.W.Frag) (ω : Wp) (st : Stmt) (ds : DSt) : Prop := ∃ t, (∀ j, PS (X j) st t) ∧ LS K ω t ds
def DSs {ι : Type} (X : ι → Cx) (K : PySem.W.Frag) (ω : Wp) (st : List Stmt) (ds : DSt) : Prop := ∃ t, (∀ j, PSs (X j) st t) ∧ LS K ω t ds
abbrev DGt := D → AS → (AS → Prop) → Prop
abbrev DGts := List D → AS → (AS → Prop) → Prop
/-- a target: ws the slots that it writes -/
structure Sto {K : PySem.W.Frag} (B : Bs K) (ws : List Nat) (F : Hp) (a : AS) (σ : St) (H : Hp) (a' : AS) (σ' : St) : Prop where
  ok : Ok B F a' σ' H
  ln : σ'.length = σ.length
  kp : ∀ j, j ∉ ws → σ'[j]? = σ[j]?
  oo : ∀ b, OwnAt a' σ' b → OwnAt a σ b
def LG (K : PySem.W.Frag) (ω : Wp) (g : TG) (dg : DGt) (ws : List Nat) : Prop := ∀ (B : Bs K), WOk B ω → ∀ (F : Hp) (a : AS) (σ : St) (H : Hp) (v : V) (d : D) (Q : St → Hp → Prop) (R : AS → Prop), Ok B F a σ H → Dat K F d v → dg d a R →
  (∀ a' σ', Sto B ws F a σ H a' σ' → R a' → Q σ' H) → g v σ H Q
def LGs (K : PySem.W.Frag) (ω : Wp) (g : TGs) (dg : DGts) (ws : List Nat) : Prop := ∀ (B : Bs K), WOk B ω → ∀ (F : Hp) (a : AS) (σ : St) (H : Hp) (vs : List V) (ds : List D) (Q : St → Hp → Prop) (R : AS → Prop), Ok B F a σ H → DatL K F ds vs → dg ds a R →
  (∀ a' σ', Sto B ws F a σ H a' σ' → R a' → Q σ' H) → g vs σ H Q
def DG {ι : Type} (X : ι → Cx) (K : PySem.W.Frag) (ω : Wp) (tg : Expr) (dg : DGt) (ws : List Nat) : Prop := ∃ g, (∀ j, PG (X j) tg g) ∧ LG K ω g dg ws
def DGs {ι : Type} (X : ι → Cx) (K : PySem.W.Frag) (ω : Wp) (tgs : List Expr) (dg : DGts) (ws : List Nat) (m : Nat) : Prop := ∃ g, (∀ j, PGs (X j) tgs g) ∧ LGs K ω g dg ws ∧ ∀ ds a R, dg ds a R → ds.length = m
section
variable {K : PySem.W.Frag} {ω : Wp} {B : Bs K} {F F' F1 F2 : Hp} {a a' a1 a2 : AS} {σ σ' : St} {H H' H1 H2 : Hp} {n : Int} {te : TE} {de da db : DEt} {ι : Type} {X : ι → Cx} {e e1 e2 : Expr} {es : List Expr} {pos : Pos} {ts us : TS} {ds d1 d2 : DSt} {st : Stmt} {rest : List Stmt} {dt : DTt}
theorem EndsOk.mono {DE : DEnds} {E : Ends} (h : EndsOk B F DE E) (s : Same F F') : EndsOk B F' DE E := ⟨fun F1 a1 s1 H1 ok q r => h.nx F1 a1 s1 H1 ok (s.trans q) r, fun v d n F1 H1 f q r z => h.rt v d n F1 H1 f (s.trans q) r z, fun F1 a1 s1 H1 ok q r => h.bk F1 a1 s1 H1 ok (s.trans q) r, fun F1 a1 s1 H1 ok q r => h.ct F1 a1 s1 H1 ok (s.trans q) r⟩
theorem Sto.refl (ok : Ok B F a σ H) : Sto B [] F a σ H a σ := ⟨ok, rfl, fun _ _ => rfl, fun _ h => h⟩
theorem WOk.z {i : Nat} (hω : WOk B ω) (hz : ω.sf = false ∨ i ≠ 0) : i = 0 → B.self = none := fun z => hz.elim hω.2.1 fun n => absurd z n
theorem Ok.putV (ok : Ok B F a σ H) {i : Nat} {d : D} {v : V} (hi : i = 0 → B.self = none) (h : Dat K F d v) : Sto B [i] F a σ H (a.put i (.val d)) (σ.set i (some v)) := by
  refine ⟨ok.setV hi h, by rw [List.length_set], fun j hj => List.getElem?_set_ne (fun z => hj (by rw [← z]; exact List.mem_singleton.mpr rfl)), ?_⟩
  rintro b ⟨j, f, q1, q2⟩
  rcases set_get q1 with ⟨rfl, z, _⟩ | ⟨m, q1⟩
  · cases z
  · rw [List.getElem?_set_ne (Ne.symm m)] at q2
    exact ⟨j, f, q1, q2⟩
def dgName (i : Nat) : DGt := fun d a R => R (a.put i (.val d))
theorem dg_name {i : Nat} {x : Str} {pos : Pos} (hN : ∀ j, (X j).N.Nodup) (hi : ∀ j, (X j).N[i]? = some x) (hx : ∀ j, Loc (X j).env.scope x) (hf : ∀ j, (X j).fn x = true ∨ (X j).env.scope.names.lookup x = some .local := by first | exact fun _ => .inl rfl | exact fun _ => .inr rfl | assumption)  (hz : ω.sf = false ∨ i ≠ 0 := by first | exact Or.inl rfl | exact Or.inr (by decide)) : DG X K ω (.Name x pos) (dgName i) [i] :=
  ⟨_, fun j => pg_name (hN j) (hi j) (hx j) (hf j), fun B hω F a σ H v d Q R ok h hd k => k _ _ (ok.putV (hω.z hz) h) hd⟩
def dgNil : DGts := fun ds a R => ds = [] ∧ R a
def dgCons (g : DGt) (u : DGts) : DGts := fun ds a R => match ds with
  | d :: r => g d a fun a' => u r a' R
  | [] => False
theorem dgs_nil : DGs X K ω [] dgNil [] 0 := ⟨_, fun _ => pgs_nil, fun B hω F a σ H vs ds Q R ok h hd k => by
  obtain ⟨rfl, hR⟩ := hd
  exact ⟨h, k a σ (.refl ok) hR⟩, fun ds a R h => by rw [h.1]; rfl⟩
theorem dgs_cons {dg : DGt} {du : DGts} {w1 w2 : List Nat} {m : Nat} (h1 : DG X K ω e dg w1) (h2 : DGs X K ω es du w2 m) (hs : ∀ j, (assignEach (e :: es) (X j).env).map (·.2) = assign e (X j).env :: (assignEach es (X j).env).map (·.2) := by intro _; rfl)
    (hm : ∀ d a R, dg d a R → ∃ a', R a' := by exact fun _ _ _ h => ⟨_, h⟩) : DGs X K ω (e :: es) (dgCons dg du) (w1 ++ w2) (m + 1) := by
  obtain ⟨g, p, l⟩ := h1
  obtain ⟨u, p', l', hl⟩ := h2
  refine ⟨_, fun j => pgs_cons (p j) (p' j) (hs j), fun B hω F a σ H vs ds Q R ok h hd k => ?_, fun ds a R h => ?_⟩
  · cases ds with
    | nil => exact hd.elim
    | cons d r =>
      obtain ⟨v, w, rfl, h1, h2⟩ := h
      refine ⟨v, w, rfl, l B hω F a σ H v d _ _ ok h1 hd fun a1 σ1 s1 hR => ?_⟩
      refine l' B hω F a1 σ1 H w r Q R s1.ok h2 hR fun a2 σ2 s2 hR => k a2 σ2 ⟨s2.ok, s2.ln.trans s1.ln, fun j hj => ?_, fun b z => s1.oo b (s2.oo b z)⟩ hR
      rw [s2.kp j (fun z => hj (List.mem_append_right _ z)), s1.kp j (fun z => hj (List.mem_append_left _ z))]
  · cases ds with
    | nil => exact h.elim
    | cons d r =>
      obtain ⟨a', z⟩ := hm d a _ h
      rw [List.length_cons, hl r a' R z]
def dgTup (u : DGts) : DGt := fun d a R => match d with
  | .tup ds => u ds a R
  | _ => False
theorem dg_tup {k : Nat} {dg : DGts} {w : List Nat} {pos : Pos} {m : Nat} (hc : ∀ j, (X j).calm = true) (h : DGs X K ω es dg w m) (hn : ∀ j, (assignEach es (X j).env).length = m := by intro _; rfl) (hst : ∀ j, (assignEach es (X j).env).findIdx? (·.1) = none := by intro _; rfl) (hK : ∀ j, (X j).K = K := by intro _; rfl) : DG X K ω (.Tuple es k pos) (dgTup dg) w := by
  obtain ⟨g, p, l, hl⟩ := h
  refine ⟨gTup K m g, fun j => by rw [← hK j]; exact pg_tup (hc j) (p j) (hn j) (hst j), fun B hω F a σ H v d Q R ok h hd k => ?_⟩
  unfold dgTup at hd
  split at hd
  · rename_i ds
    obtain ⟨p, vs, rfl, hS, hL⟩ := h
    exact ⟨p, vs, rfl, SqT.of (ok.fi.fh _ _ hS), by rw [hL.len]; exact hl _ _ _ hd, l B hω F a σ H vs ds Q R ok hL hd k⟩
  · exact hd.elim
/-! blocks -/
def dNext : DSt := fun E a => E.nx a
def dSeq (t u : DSt) : DSt := fun E a => t { E with nx := u E } a
def dCut (t u : DSt) : DSt := fun E a => ∃ Mid : AS → Prop, t { E with nx := Mid } a ∧ ∀ a', Mid a' → u E a'
theorem dss_nil : DSs X K ω [] dNext := ⟨_, fun _ => pss_nil, fun B hω E DE F a σ H ok hd k => k.nx F a σ H ok (Same.refl F) hd⟩
theorem dss_cons (h1 : DS X K ω st d1) (h2 : DSs X K ω rest d2) : DSs X K ω (st :: rest) (dSeq d1 d2) := by
  obtain ⟨t, p, l⟩ := h1
  obtain ⟨u, p', l'⟩ := h2
  exact ⟨_, fun j => pss_cons (p j) (p' j), fun B hω E DE F a σ H ok hd k => l B hω _ _ F a σ H ok hd ⟨fun F' a' σ' H' ok' s hd => l' B hω E DE F' a' σ' H' ok' hd (k.mono s), k.rt, k.bk, k.ct⟩⟩
theorem dss_cut (h1 : DS X K ω st d1) (h2 : DSs X K ω rest d2) : DSs X K ω (st :: rest) (dCut d1 d2) := by
  obtain ⟨t, p, l⟩ := h1
  obtain ⟨u, p', l'⟩ := h2
  refine ⟨_, fun j => pss_cons (p j) (p' j), fun B hω E DE F a σ H ok hd k => ?_⟩
  obtain ⟨Mid, hd, hm⟩ := hd
  exact l B hω _ { DE with nx := Mid } F a σ H ok hd ⟨fun F' a' σ' H' ok' s z => l' B hω E DE F' a' σ' H' ok' (hm a' z) (k.mono s), k.rt, k.bk, k.ct⟩
theorem dss_one (h1 : DS X K ω st d1) : DSs X K ω [st] d1 := let ⟨_, p, l⟩ := h1; ⟨_, fun j => pss_one (p j), l⟩
theorem ds_pass {pos : Pos} : DS X K ω (.Pass pos) dNext := ⟨_, fun _ => ps_pass, fun B hω E DE F a σ H ok hd k => k.nx F a σ H ok (Same.refl F) hd⟩
theorem ds_break {pos : Pos} : DS X K ω (.Break pos) (fun E a => E.bk a) := ⟨_, fun _ => ps_break, fun B hω E DE F a σ H ok hd k => k.bk F a σ H ok (Same.refl F) hd⟩
theorem ds_continue {pos : Pos} : DS X K ω (.Continue pos) (fun E a => E.ct a) := ⟨_, fun _ => ps_continue, fun B hω E DE F a σ H ok hd k => k.ct F a σ H ok (Same.refl F) hd⟩
theorem ds_never : DS X K ω st (fun _ _ => False) := ⟨_, fun _ => ps_never, fun _ _ _ _ _ _ _ _ _ hd _ => hd⟩
theorem ds_doc {x j pos pos'} : DS X K ω (.Expr (.Constant (.str x) j pos) pos') dNext := ⟨_, fun _ => ps_doc, fun B hω E DE F a σ H ok hd k => k.nx F a σ H ok (Same.refl F) hd⟩
def dDrop (de : DEt) : DSt := fun E a => de a fun _ a' => E.nx a'
theorem ds_expr {pos : Pos} (he : DX X K ω e de) (hs : ∀ j, swapsWith e none pos.line (X j).env = pure false := by intro _; rfl) : DS X K ω (.Expr e pos) (dDrop de) := by
  obtain ⟨t, p, l⟩ := he
  exact ⟨_, fun j => ps_expr (p j) (hs j), fun B hω E DE F a σ H ok hd k => l B hω F a σ H _ _ ok hd fun v d F' a' H' g q r => k.nx F' a' σ H' g.ok g.ff r⟩
theorem Fi.le {m : Int} (f : Fi B F n H) (h : n ≤ m) : Fi B F m H := ⟨f.fh, f.ff, f.fr, f.fm, fun p e => ⟨(f.sr p e).1, (f.sr p e).2.1, (f.sr p e).2.2.le h⟩⟩
/-- at most so many numbers drawn -/
def dRet (de : DEt) : DSt := fun E a => de a fun d a' => ∃ m, a'.n ≤ m ∧ E.rt d m
theorem ds_ret {pos : Pos} (he : DX X K ω e de) : DS X K ω (.Return (some e) pos) (dRet de) := by
  obtain ⟨t, p, l⟩ := he
  exact ⟨_, fun j => ps_ret (p j), fun B hω E DE F a σ H ok hd k => l B hω F a σ H _ _ ok hd fun v d F' a' H' g q ⟨m, hm, r⟩ => k.rt v d m F' H' (g.ok.fi.le hm) g.ff q r⟩
theorem ds_retN {pos : Pos} : DS X K ω (.Return none pos) (fun E a => E.rt (.v .non) a.n) := ⟨_, fun _ => ps_retN, fun B hω E DE F a σ H ok hd k => k.rt _ (.v .non) a.n F H ok.fi (Same.refl F) rfl hd⟩
def dIfS (dt : DTt) (d1 d2 : DSt) : DSt := fun E a => dt a fun b a' => bIf b (d1 E a') (d2 E a')
theorem ds_if {c : Expr} {b1 b2 : List Stmt} {pos : Pos} (hc : DT X K ω c dt) (h1 : DSs X K ω b1 d1) (h2 : DSs X K ω b2 d2) : DS X K ω (.If c b1 b2 pos) (dIfS dt d1 d2) := by
  obtain ⟨t, p, l⟩ := hc
  obtain ⟨t1, p1, l1⟩ := h1
  obtain ⟨t2, p2, l2⟩ := h2
  exact ⟨_, fun j => ps_if (p j) (p1 j) (p2 j), fun B hω E DE F a σ H ok hd k => l B hω F a σ H _ _ ok hd fun b F' a' H' g r => r.imp (fun r => l1 B hω E DE F' a' σ H' g.ok r (k.mono g.ff)) fun r => l2 B hω E DE F' a' σ H' g.ok r (k.mono g.ff)⟩
/-! assignments -/
def dSet (i : Nat) (de : DEt) : DSt := fun E a => de a fun d a' => E.nx (a'.put i (.val d))
theorem ds_set {i : Nat} {x : Str} {pos' : Pos} (hN : ∀ j, (X j).N.Nodup) (hi : ∀ j, (X j).N[i]? = some x) (hx : ∀ j, Loc (X j).env.scope x) (he : DX X K ω e de) (hs : ∀ j, swapsWith e (some (.Name x pos')) pos.line (X j).env = pure false := by intro _; rfl)
    (hf : ∀ j, (X j).fn x = true ∨ (X j).env.scope.names.lookup x = some .local := by first | exact fun _ => .inl rfl | exact fun _ => .inr rfl | assumption) (hz : ω.sf = false ∨ i ≠ 0 := by first | exact Or.inl rfl | exact Or.inr (by decide)) : DS X K ω (.Assign [.Name x pos'] e pos) (dSet i de) := by
  obtain ⟨t, p, l⟩ := he
  exact ⟨_, fun j => ps_set (hN j) (hi j) (hx j) (p j) (hs j) (hf j), fun B hω E DE F a σ H ok hd k => l B hω F a σ H _ _ ok hd fun v d F' a' H' g q r => k.nx F' _ _ H' (g.ok.setV (hω.z hz) q) g.ff r⟩
/-- the name's object is one's own from now on -/
def dSetO (i : Nat) (de : DEt) : DSt := fun E a => de a fun d a' => E.nx (a'.put i (.own d))
theorem ds_setO {i : Nat} {x : Str} {pos' : Pos} (hN : ∀ j, (X j).N.Nodup) (hi : ∀ j, (X j).N[i]? = some x) (hx : ∀ j, Loc (X j).env.scope x) (he : DO X K ω e de) (hs : ∀ j, swapsWith e (some (.Name x pos')) pos.line (X j).env = pure false := by intro _; rfl)
    (hf : ∀ j, (X j).fn x = true ∨ (X j).env.scope.names.lookup x = some .local := by first | exact fun _ => .inl rfl | exact fun _ => .inr rfl | assumption) (hz : ω.sf = false ∨ i ≠ 0 := by first | exact Or.inl rfl | exact Or.inr (by decide)) : DS X K ω (.Assign [.Name x pos'] e pos) (dSetO i de) := by
  obtain ⟨t, p, l⟩ := he
  refine ⟨_, fun j => ps_set (hN j) (hi j) (hx j) (p j) (hs j) (hf j), fun B hω E DE F a σ H ok hd k => l B hω F a σ H _ _ ok hd fun p o d F' a' H' g n1 n2 h3 q r => ?_⟩
  obtain ⟨hF, h0, hs, no⟩ := ok.here n1
  exact k.nx F' _ _ H' (g.ok.setO (hω.z hz) h3 n2 h0 (fun z => no (g.oo p z)) q) g.ff r
def dAsg (de : DEt) (dg : DGt) : DSt := fun E a => de a fun d a' => dg d a' E.nx
theorem ds_asg {tg : Expr} {dg : DGt} {w : List Nat} (he : DX X K ω e de) (hg : DG X K ω tg dg w) (hs : ∀ j, swapsWithSole [tg] e pos.line (X j).env = pure false := by intro _; rfl) (hw : ∀ j, swappedStores [tg] e (X j).env = pure none := by intro _; rfl)
    (h1 : ∀ j, (assignEach [tg] (X j).env).map (·.2) = [assign tg (X j).env] := by intro _; rfl) : DS X K ω (.Assign [tg] e pos) (dAsg de dg) := by
  obtain ⟨t, p, l⟩ := he
  obtain ⟨g, p', l'⟩ := hg
  exact ⟨_, fun j => ps_asg (p j) (p' j) (hs j) (hw j) (h1 j), fun B hω E DE F a σ H ok hd k => l B hω F a σ H _ _ ok hd fun v d F' a' H' g q r => l' B hω F' a' σ H' v d _ _ g.ok q r fun a2 σ2 s r => k.nx F' a2 σ2 H' s.ok g.ff r⟩
/-! loops -/
def ItOk (K : PySem.W.Frag) (J : It) (F : Hp) (items : List D) : Prop := ∀ (i : Nat) (F1 H1 : Hp), Same F F1 → Same F1 H1 →
  (items.length ≤ i → J.stop i H1) ∧ ∀ d, items[i]? = some d → J.go i H1 ∧ ∀ x H', J.yld i H1 x H' → (H' = H1 ∧ Dat K F1 d x) ∨ ∃ p o, H1 p = none ∧ H' = upd H1 p o ∧ Dat K (upd F1 p o) d x
def LI (K : PySem.W.Frag) (ω : Wp) (wi : TI) (di : DAt) : Prop := ∀ (B : Bs K), WOk B ω → ∀ (F : Hp) (a : AS) (σ : St) (H : Hp) (Q : It → Hp → Prop) (R : List D → AS → Prop), Ok B F a σ H → di a R →
  (∀ J items F' a' H', Go B σ F a H F' a' H' → ItOk K J F' items → R items a' → Q J H') → wi σ H Q
def DI {ι : Type} (X : ι → Cx) (K : PySem.W.Frag) (ω : Wp) (tg iter : Expr) (di : DAt) : Prop := ∃ wi, (∀ j, PI (X j) tg iter wi) ∧ LI K ω wi di
theorem ItOk.mono {K : PySem.W.Frag} {J : It} {items : List D} (h : ItOk K J F items) (s : Same F F') : ItOk K J F' items := fun i F1 H1 s1 s2 => h i F1 H1 (s.trans s1) s2
/-- what comes out of an iterator at a turn -/
theorem ItOk.turn {J : It} {items : List D} {i : Nat} {d : D} {x : V} (h : ItOk K J F items) (ok : Ok B F1 a σ H) (s : Same F F1) (e : items[i]? = some d) (y : J.yld i H x H') : ∃ F', Go B σ F1 a H F' a H' ∧ Dat K F' d x := by
  rcases ((h i F1 H s ok.fi.fh).2 d e).2 x H' y with ⟨rfl, q⟩ | ⟨p, o, n, rfl, q⟩
  · exact ⟨F1, .refl ok, q⟩
  · exact ⟨_, ok.new n, q⟩
def dLoop (dg : DGt) (db : DSt) (E : DEnds) : List D → AS → Prop
  | [], a => E.nx a
  | d :: ds, a => dg d a fun a1 => db { E with nx := dLoop dg db E ds, ct := dLoop dg db E ds, bk := E.nx } a1
def dFor (di : DAt) (dg : DGt) (db : DSt) : DSt := fun E a => di a fun items a' => dLoop dg db E items a'
theorem ds_for {iter tg : Expr} {body : List Stmt} {di : DAt} {dg : DGt} {db : DSt} {w : List Nat} {pos : Pos} (hp : ∀ j, PassesOwn (model (X j).prog (X j).w) (X j).A (X j).env (X j).xe) (hc : ∀ j, (X j).calm = true) (hi : DI X K ω tg iter di) (hg : DG X K ω tg dg w) (hb : DSs X K ω body db)
    (hs : ∀ j x, foldedSetIterable iter (X j).env x = pure x := by intro _ _; rfl) : DS X K ω (.For tg iter body [] pos) (dFor di dg db) := by
  obtain ⟨wi, p1, l1⟩ := hi
  obtain ⟨g, p2, l2⟩ := hg
  obtain ⟨tb, p3, l3⟩ := hb
  refine ⟨_, fun j => ps_for (hp j) (hc j) (p1 j) (p2 j) (p3 j) (hs j), fun B hω E DE F a σ H ok hd k => l1 B hω F a σ H _ _ ok hd fun J items F' a' H' g it hR => ?_⟩
  refine ⟨fun i m σ1 H1 => ∃ F1 a1, Ok B F1 a1 σ1 H1 ∧ Same F' F1 ∧ i ≤ items.length ∧ m = items.length - i ∧ dLoop dg db DE (items.drop i) a1, ⟨_, F', a', g.ok, Same.refl F', Nat.zero_le _, rfl, hR⟩, ?_⟩
  rintro i m σ1 H1 ⟨F1, a1, ok1, s1, hi, rfl, hl⟩
  by_cases hlt : i < items.length
  · have e : items[i]? = some items[i] := List.getElem?_eq_getElem hlt
    rw [List.drop_eq_getElem_cons hlt] at hl
    refine .inr ⟨((it i F1 H1 s1 ok1.fi.fh).2 _ e).1, fun σ2 H2 => ∃ m', m' < items.length - i ∧ ∃ F2 a2, Ok B F2 a2 σ2 H2 ∧ Same F' F2 ∧ i + 1 ≤ items.length ∧ m' = items.length - (i + 1) ∧ dLoop dg db DE (items.drop (i + 1)) a2, fun σ2 H2 z => z, fun x H2 y => ?_⟩
    obtain ⟨F2, g2, q2⟩ := it.turn ok1 s1 e y
    refine l2 B hω F2 a1 σ1 H2 x _ _ _ g2.ok q2 hl fun a3 σ3 s3 hR => ?_
    have s03 : Same F' F2 := s1.trans g2.ff
    have nx : ∀ F4 a4 σ4 H4, Ok B F4 a4 σ4 H4 → Same F2 F4 → dLoop dg db DE (items.drop (i + 1)) a4 → ∃ m', m' < items.length - i ∧ ∃ F2 a2, Ok B F2 a2 σ4 H4 ∧ Same F' F2 ∧ i + 1 ≤ items.length ∧ m' = items.length - (i + 1) ∧ dLoop dg db DE (items.drop (i + 1)) a2 := fun F4 a4 σ4 H4 ok4 s4 z => ⟨items.length - (i + 1), by omega, F4, a4, ok4, s03.trans s4, hlt, rfl, z⟩
    exact l3 B hω _ _ F2 a3 σ3 H2 s3.ok hR ⟨nx, fun v d n F4 H4 f q r z => k.rt v d n F4 H4 f (g.ff.trans (s03.trans q)) r z, fun F4 a4 σ4 H4 ok4 s4 z => k.nx F4 a4 σ4 H4 ok4 (g.ff.trans (s03.trans s4)) z, nx⟩
  · have e : i = items.length := by omega
    subst e
    rw [List.drop_length] at hl
    exact .inl ⟨(it _ F1 H1 s1 ok1.fi.fh).1 (Nat.le_refl _), k.nx F1 a1 σ1 H1 ok1 (g.ff.trans s1) hl⟩
def dWhile (dt : DTt) (db : DSt) : DSt := fun E a => ∃ I : Nat → AS → Prop, (∃ m, I m a) ∧ ∀ m a, I m a → dt a fun b a1 => bIf b (db { E with nx := fun a' => ∃ m', m' < m ∧ I m' a', ct := fun a' => ∃ m', m' < m ∧ I m' a', bk := E.nx } a1) (E.nx a1)
theorem ds_while {c : Expr} {body : List Stmt} {db : DSt} {pos : Pos} (hp : ∀ j, PassesOwn (model (X j).prog (X j).w) (X j).A (X j).env (X j).xe) (hc : DT X K ω c dt) (hb : DSs X K ω body db) : DS X K ω (.While c body [] pos) (dWhile dt db) := by
  obtain ⟨t, p1, l1⟩ := hc
  obtain ⟨tb, p2, l2⟩ := hb
  refine ⟨_, fun j => ps_while (hp j) (p1 j) (p2 j), fun B hω E DE F a σ H ok hd k => ?_⟩
  obtain ⟨I, ⟨m0, i0⟩, turn⟩ := hd
  refine ⟨fun m σ1 H1 => ∃ F1 a1, Ok B F1 a1 σ1 H1 ∧ Same F F1 ∧ I m a1, ⟨m0, F, a, ok, Same.refl F, i0⟩, ?_⟩
  rintro m σ1 H1 ⟨F1, a1, ok1, s1, hI⟩
  refine l1 B hω F1 a1 σ1 H1 _ _ ok1 (turn m a1 hI) fun b F2 a2 H2 g hR => hR.imp (fun hR => ?_) fun hR => k.nx F2 a2 σ1 H2 g.ok (s1.trans g.ff) hR
  have s02 := s1.trans g.ff
  have nx : ∀ F4 a4 σ4 H4, Ok B F4 a4 σ4 H4 → Same F2 F4 → (∃ m', m' < m ∧ I m' a4) → ∃ m', m' < m ∧ ∃ F1 a1, Ok B F1 a1 σ4 H4 ∧ Same F F1 ∧ I m' a1 := fun F4 a4 σ4 H4 ok4 s4 ⟨m', h, z⟩ => ⟨m', h, F4, a4, ok4, s02.trans s4, z⟩
  exact ⟨fun σ4 H4 => ∃ m', m' < m ∧ ∃ F1 a1, Ok B F1 a1 σ4 H4 ∧ Same F F1 ∧ I m' a1, fun σ' H' z => z, l2 B hω _ _ F2 a2 σ1 H2 g.ok hR ⟨nx, fun v d n F4 H4 f q r z => k.rt v d n F4 H4 f (s02.trans q) r z, fun F4 a4 σ4 H4 ok4 s4 z => k.nx F4 a4 σ4 H4 ok4 (s02.trans s4) z, nx⟩⟩
end
section
variable {K : PySem.W.Frag} {ω : Wp} {B : Bs K} {F F' F1 F2 G : Hp} {a a' a1 a2 : AS} {σ σ' : St} {H H' H1 H2 : Hp} {n : Int} {te : TE} {de da db : DEt} {ι : Type} {X : ι → Cx} {e e1 e2 : Expr} {es : List Expr} {pos : Pos} {dt : DTt} {dl dm : DAt}
/-! argument lists -/
def dNil : DAt := fun a R => R [] a
def dCons (da : DEt) (dr : DAt) : DAt := fun a R => da a fun d a1 => dr a1 fun ds a2 => R (d :: ds) a2
theorem da_nil : DAE X K ω [] dNil := ⟨_, fun _ => pa_nil, fun B hω F a σ H Q R ok hd k => k [] [] F a H (.refl ok) rfl hd⟩
theorem dab_nil : DAB X K ω [] dNil := ⟨_, fun _ => pa_nil, fun B hω F a σ H Q R ok hd k => k [] [] F a H (.refl ok) rfl hd⟩
theorem da_cons (h : DX X K ω e de) (hr : DAE X K ω es dl) (hs : ∀ j, starEach (e :: es) (X j).env = (false, eval e (X j).env) :: starEach es (X j).env := by intro _; rfl) : DAE X K ω (e :: es) (dCons de dl) := by
  obtain ⟨t, p, l⟩ := h
  obtain ⟨t', p', l'⟩ := hr
  refine ⟨_, fun j => pa_cons (p j) (p' j) (hs j), fun B hω F a σ H Q R ok hd k => l B hω F a σ H _ _ ok hd fun v d F1 a1 H1 g1 q1 r1 => ?_⟩
  exact l' B hω F1 a1 σ H1 _ _ g1.ok r1 fun vs ds F2 a2 H2 g2 q2 r2 => k _ _ F2 a2 H2 (.trans ok g1 g2) (.cons (q1.mono g2.ff) q2) r2
theorem dab_cons (h : DB X K ω e de) (hr : DAB X K ω es dl) (hs : ∀ j, starEach (e :: es) (X j).env = (false, eval e (X j).env) :: starEach es (X j).env := by intro _; rfl) : DAB X K ω (e :: es) (dCons de dl) := by
  obtain ⟨t, p, l⟩ := h
  obtain ⟨t', p', l'⟩ := hr
  refine ⟨_, fun j => pa_cons (p j) (p' j) (hs j), fun B hω F a σ H Q R ok hd k => l B hω F a σ H _ _ ok hd fun v d F1 a1 H1 g1 q1 r1 => ?_⟩
  exact l' B hω F1 a1 σ H1 _ _ g1.ok r1 fun vs ds F2 a2 H2 g2 q2 r2 => k _ _ F2 a2 H2 (.trans ok g1 g2) (.cons (q1.mono g2.bs) q2) r2
/-! displays -/
def dTup (dl : DAt) : DEt := fun a R => dl a fun ds a' => ds.length ≤ sizeLine ∧ R (.tup ds) a'
def dLst (dl : DAt) : DEt := fun a R => dl a fun ds a' => ds.length ≤ sizeLine ∧ R (.lst ds) a'
theorem de_tup {x1} {pos : Pos} (h : DAE X K ω es dl) : DX X K ω (.Tuple es x1 pos) (dTup dl) := by
  obtain ⟨t, p, l⟩ := h
  refine ⟨_, fun j => pe_tup (p j), fun B hω F a σ H Q R ok hd k => l B hω F a σ H _ _ ok hd fun vs ds F1 a1 H1 g1 q1 r1 => ?_⟩
  refine ⟨by rw [q1.len]; exact r1.1, fun p hp => ?_⟩
  have g2 := g1.ok.new (o := .tup vs) hp
  exact k _ (.tup ds) _ _ _ (.trans ok g1 g2) ⟨p, vs, rfl, upd_same, q1.mono g2.ff⟩ r1.2
/-- a new list -/
theorem Go.list (ok : Ok B F a σ H) (g1 : Go B σ F a H F1 a1 H1) {p : Addr} {vs : List V} {ds : List D} (hp : H1 p = none) (q : DatL K F1 ds vs) {Q : VK} {R : D → AS → Prop} (r : R (.lst ds) a1)
    (k : ∀ p o d F' a' H', Go B σ F a H F' a' H' → H p = none → F' p = none → H' p = some o → Rep K F' d o → R d a' → Q (.ref p) H') : Q (.ref p) (upd H1 p (.lst vs)) := by
  have g2 := g1.ok.newO (o := .lst vs) hp
  have h0 : H p = none := by
    cases e : H p with
    | none => rfl
    | some o =>
      have n := (g1.ok.here hp).2.2.1
      rw [g1.hh p o n e] at hp
      cases hp
  exact k p (.lst vs) (.lst ds) F1 a1 _ (.trans ok g1 g2) h0 (g1.ok.here hp).1 upd_same ⟨vs, rfl, q⟩ r
theorem do_lst {pos : Pos} (h : DAE X K ω es dl) : DO X K ω (.List es pos) (dLst dl) := by
  obtain ⟨t, p, l⟩ := h
  refine ⟨_, fun j => pe_lst (p j), fun B hω F a σ H Q R ok hd k => l B hω F a σ H _ _ ok hd fun vs ds F1 a1 H1 g1 q1 r1 => ?_⟩
  exact ⟨by rw [q1.len]; exact r1.1, fun p hp => g1.list ok hp q1 r1.2 k⟩
def opt (o : Option D) (R : D → Prop) : Prop := match o with
  | some d => R d
  | none => False
theorem opt_of {o : Option D} {R : D → Prop} (h : opt o R) : ∃ d, o = some d ∧ R d := by
  cases o with
  | none => exact h.elim
  | some d => exact ⟨d, rfl, h⟩
/-! an item -/
def dIx : DR := fun d e R => match d, e with
  | .lst ds, .v (.int i) => opt (atI ds i) R
  | .tup ds, .v (.int i) => opt (atI ds i) R
  | .ctup ds, .v (.int i) => opt (atI ds i) R
  | .ftup ds, .v (.int i) => opt (atI ds i) R
  | .v (.str z), .v (.int i) => z.length ≤ sizeLine ∧ match atI z.cps.toList i with
    | some c => R (.v (.str ⟨#[c]⟩))
    | none => False
  | _, _ => False
theorem atI_dat {ds : List D} {vs : List V} {i : Int} {d : D} (q : DatL K H ds vs) (h : atI ds i = some d) : ∃ v, atI vs i = some v ∧ Dat K H d v := by
  unfold atI at h ⊢
  rw [q.len]
  cases e : ixN ds.length i with
  | none => rw [e] at h; cases h
  | some j =>
    rw [e] at h
    exact q.get h
theorem ix_dat {x y : V} {d f : D} {Q : VK} {R : D → Prop} (s : Same G H) (hx : Dat K G d x) (hy : Dat K G f y) (h : dIx d f R) (k : ∀ v g, Dat K G g v → R g → Q v H) : rIx K x y H Q := by
  unfold dIx at h
  split at h
  · rename_i ds i
    obtain ⟨p, vs, rfl, h1, h2⟩ := hx
    obtain ⟨g, e, r⟩ := opt_of h
    obtain ⟨v, e1, e2⟩ := atI_dat h2 e
    exact .inl ⟨p, vs, i, v, rfl, hy, SqL.of (s _ _ h1), e1, k v g e2 r⟩
  · rename_i ds i
    obtain ⟨p, vs, rfl, h1, h2⟩ := hx
    obtain ⟨g, e, r⟩ := opt_of h
    obtain ⟨v, e1, e2⟩ := atI_dat h2 e
    exact .inr (.inl ⟨p, vs, i, v, rfl, hy, SqT.of (s _ _ h1), e1, k v g e2 r⟩)
  · rename_i ds i
    obtain ⟨p, vs, rfl, h1, h2⟩ := hx
    obtain ⟨g, e, r⟩ := opt_of h
    obtain ⟨v, e1, e2⟩ := atI_dat h2 e
    exact .inr (.inl ⟨p, vs, i, v, rfl, hy, same_seqT s h1, e1, k v g e2 r⟩)
  · rename_i ds i
    obtain ⟨p, vs, rfl, h1, h2⟩ := hx
    obtain ⟨g, e, r⟩ := opt_of h
    obtain ⟨v, e1, e2⟩ := atI_dat h2 e
    exact .inr (.inl ⟨p, vs, i, v, rfl, hy, (h1.mono s).sq, e1, k v g e2 r⟩)
  · rename_i z i
    obtain ⟨h1, h2⟩ := h
    split at h2
    · rename_i c e
      exact .inr (.inr ⟨z, i, c, hx, hy, h1, e, k _ (.v _) rfl h2⟩)
    · exact h2.elim
  · exact h.elim
theorem de_ix (ha : DX X K ω e1 da) (hb : DB X K ω e2 db) (hs : PlainIx e2) (hK : ∀ j, (X j).K = K := by intro _; rfl) : DX X K ω (.Subscript e1 e2 pos) (dOp dIx da (dFlat db)) := by
  obtain ⟨ta, p1, l1⟩ := ha
  obtain ⟨tb, p2, l2⟩ := hb
  refine ⟨tOp (rIx K) ta tb, fun j => by rw [← hK j]; exact pe_ix ix_seq (p1 j) (p2 j) hs, fun B hω F a σ H Q R ok hd k => l1 B hω F a σ H _ _ ok hd fun v d F1 a1 H1 g1 q1 r1 => l2.flat B hω F1 a1 σ H1 _ _ g1.ok r1 fun w f F2 a2 H2 g2 q2 r2 => ?_⟩
  exact ix_dat g2.ok.fi.fh (q1.mono g2.ff) q2 r2 fun v g q r => k v g F2 a2 H2 (.trans ok g1 g2) q r
theorem db_ix (ha : DB X K ω e1 da) (hb : DB X K ω e2 db) (hs : PlainIx e2) (hK : ∀ j, (X j).K = K := by intro _; rfl) : DB X K ω (.Subscript e1 e2 pos) (dOp dIx da db) := by
  obtain ⟨ta, p1, l1⟩ := ha
  obtain ⟨tb, p2, l2⟩ := hb
  refine ⟨tOp (rIx K) ta tb, fun j => by rw [← hK j]; exact pe_ix ix_seq (p1 j) (p2 j) hs, fun B hω F a σ H Q R ok hd k => l1 B hω F a σ H _ _ ok hd fun v d F1 a1 H1 g1 q1 r1 => l2 B hω F1 a1 σ H1 _ _ g1.ok r1 fun w f F2 a2 H2 g2 q2 r2 => ?_⟩
  exact ix_dat hs_same (q1.mono g2.bs) q2 r2 fun v g q r => k v g F2 a2 H2 (.trans ok g1 g2) q r
/-- an item of what is one's own -/
def dIxO (i : Nat) (db : DEt) : DEt := fun a R => db a fun x a1 => match a1.at i, x with
  | .own (.lst ds), .v (.int j) => opt (atI ds j) fun d => R d a1
  | .val (.lst ds), .v (.int j) => opt (atI ds j) fun d => R d a1
  | .val (.tup ds), .v (.int j) => opt (atI ds j) fun d => R d a1
  | _, _ => False
/-! a slice -/
def dPart (db : DEt) : AS → (Option Int → AS → Prop) → Prop := fun a R => db a fun x a1 => match x with
  | .v (.int i) => R (some i) a1
  | _ => False
def dNoPart : AS → (Option Int → AS → Prop) → Prop := fun a R => R none a
def LPO (K : PySem.W.Frag) (ω : Wp) (t : TO) (dp : AS → (Option Int → AS → Prop) → Prop) : Prop := ∀ (B : Bs K), WOk B ω → ∀ (F : Hp) (a : AS) (σ : St) (H : Hp) (Q : Option Int → Hp → Prop) (R : Option Int → AS → Prop), Ok B F a σ H → dp a R → (∀ o F' a' H', Go B σ F a H F' a' H' → R o a' → Q o H') → t σ H Q
def DPO {ι : Type} (X : ι → Cx) (K : PySem.W.Frag) (ω : Wp) (e : Option Expr) (dp : AS → (Option Int → AS → Prop) → Prop) : Prop := ∃ t, (∀ j, PO (X j) e t) ∧ LPO K ω t dp
theorem dpo_none : DPO X K ω none dNoPart := ⟨_, fun _ => po_none, fun B hω F a σ H Q R ok hd k => k none F a H (.refl ok) hd⟩
theorem dpo_some (h : DB X K ω e db) : DPO X K ω (some e) (dPart db) := by
  obtain ⟨t, p, l⟩ := h
  refine ⟨_, fun j => po_some (p j), fun B hω F a σ H Q R ok hd k => l B hω F a σ H _ _ ok hd fun v d F1 a1 H1 g1 q1 r1 => ?_⟩
  split at r1
  · rename_i i
    exact ⟨i, q1, k _ F1 a1 H1 g1 r1⟩
  · exact r1.elim
def cutD (ds : List D) (lo hi : Option Int) : List D := (ds.drop (HT.sIx ds.length 0 lo)).take (HT.sIx ds.length ds.length hi - HT.sIx ds.length 0 lo)
theorem cut_dat {ds : List D} {vs : List V} {lo hi : Option Int} (q : DatL K H ds vs) : DatL K H (cutD ds lo hi) (cutV vs lo hi) := by
  unfold cutD cutV
  rw [q.len]
  exact (q.drop _).take _
variable {lo hi : Option Expr} {dlo dhi : AS → (Option Int → AS → Prop) → Prop} {p2 : Pos}
def dSlL (da : DEt) (dlo dhi : AS → (Option Int → AS → Prop) → Prop) : DEt := fun a R => da a fun x a1 => dlo a1 fun l a2 => dhi a2 fun h a3 => match x with
  | .lst ds => R (.lst (cutD ds l h)) a3
  | _ => False
theorem do_slL (ha : DX X K ω e1 da) (hl : DPO X K ω lo dlo) (hh : DPO X K ω hi dhi) (hK : ∀ j, (X j).K = K := by intro _; rfl) : DO X K ω (.Subscript e1 (.Slice lo hi none p2) pos) (dSlL da dlo dhi) := by
  obtain ⟨ta, p1, l1⟩ := ha
  obtain ⟨tl, p2, l2⟩ := hl
  obtain ⟨th, p3, l3⟩ := hh
  refine ⟨tSl (rSlL K) ta tl th, fun j => by rw [← hK j]; exact pe_slice sl_list (p1 j) (p2 j) (p3 j), fun B hω F a σ H Q R ok hd k => l1 B hω F a σ H _ _ ok hd fun v d F1 a1 H1 g1 q1 r1 => l2 B hω F1 a1 σ H1 _ _ g1.ok r1 fun l F2 a2 H2 g2 r2 => l3 B hω F2 a2 σ H2 _ _ g2.ok r2 fun h F3 a3 H3 g3 r3 => ?_⟩
  split at r3
  · rename_i ds
    obtain ⟨p, vs, rfl, h1, h2⟩ := q1
    have g := Go.trans ok g1 (.trans g1.ok g2 g3)
    have s13 : Same F1 F3 := g2.ff.trans g3.ff
    exact ⟨p, vs, rfl, SqL.of (g3.ok.fi.fh _ _ (s13 _ _ h1)), fun q hq => g.list ok hq (cut_dat (h2.mono s13)) r3 k⟩
  · exact r3.elim
def dSlT (da : DEt) (dlo dhi : AS → (Option Int → AS → Prop) → Prop) : DEt := fun a R => da a fun x a1 => dlo a1 fun l a2 => dhi a2 fun h a3 => match x with
  | .tup ds => ¬ (HT.sIx ds.length 0 l = 0 ∧ HT.sIx ds.length ds.length h = ds.length) ∧ R (.tup (cutD ds l h)) a3
  | _ => False
def dSlS (da : DEt) (dlo dhi : AS → (Option Int → AS → Prop) → Prop) : DEt := fun a R => da a fun x a1 => dlo a1 fun l a2 => dhi a2 fun h a3 => match x with
  | .v (.str z) => z.length ≤ sizeLine ∧ R (.v (.str (cutS z l h))) a3
  | _ => False
theorem de_slS (ha : DB X K ω e1 da) (hl : DPO X K ω lo dlo) (hh : DPO X K ω hi dhi) : DX X K ω (.Subscript e1 (.Slice lo hi none p2) pos) (dSlS da dlo dhi) := by
  obtain ⟨ta, p1, l1⟩ := ha
  obtain ⟨tl, p2, l2⟩ := hl
  obtain ⟨th, p3, l3⟩ := hh
  refine ⟨_, fun j => pe_slice sl_str (p1 j) (p2 j) (p3 j), fun B hω F a σ H Q R ok hd k => l1 B hω F a σ H _ _ ok hd fun v d F1 a1 H1 g1 q1 r1 => l2 B hω F1 a1 σ H1 _ _ g1.ok r1 fun l F2 a2 H2 g2 r2 => l3 B hω F2 a2 σ H2 _ _ g2.ok r2 fun h F3 a3 H3 g3 r3 => ?_⟩
  split at r3
  · rename_i z
    exact ⟨z, q1, r3.1, k _ (.v _) F3 a3 H3 (.trans ok g1 (.trans g1.ok g2 g3)) rfl r3.2⟩
  · exact r3.elim
/-! == and in -/
mutual
def pD : D → PyData
  | .v .non => .none
  | .v (.bl b) => .bool b
  | .v (.int i) => .int i
  | .v (.str x) => .str x
  | .tup ds => .tuple (pDs ds)
  | .ctup ds => .tuple (pDs ds)
  | .ftup ds => .tuple (pDs ds)
  | .lst ds => .list (pDs ds)
  | _ => .none
def pDs : List D → List PyData
  | [] => []
  | d :: ds => pD d :: pDs ds
end
mutual
/-- data that == compares: texts as they are written, no dicts, no objects -/
def isP : D → Bool
  | .v .non => true
  | .v (.bl _) => true
  | .v (.int _) => true
  | .v (.str x) => PyData.strOk x
  | .tup ds => isPs ds
  | .ctup ds => isPs ds
  | .ftup ds => isPs ds
  | .lst ds => isPs ds
  | _ => false
def isPs : List D → Bool
  | [] => true
  | d :: ds => isP d && isPs ds
end
mutual
theorem isP_lay : ∀ d : D, isP d = true → (pD d).canLay0 = true
  | .v .non, _ => rfl
  | .v (.bl _), _ => rfl
  | .v (.int _), _ => rfl
  | .v (.str _), h => h
  | .tup ds, h => isPs_lay ds h
  | .ctup ds, h => isPs_lay ds h
  | .ftup ds, h => isPs_lay ds h
  | .lst ds, h => isPs_lay ds h
  | .v (.byt _), h => nomatch h
  | .v (.flt _), h => nomatch h
  | .v (.ref _), h => nomatch h
  | .v (.ty _), h => nomatch h
  | .dK _, h => nomatch h
  | .dT _, h => nomatch h
  | .ins _ _, h => nomatch h
  | .ob _, h => nomatch h
theorem isPs_lay : ∀ ds : List D, isPs ds = true → PyData.canLayAll0 (pDs ds) = true
  | [], _ => rfl
  | d :: ds, h => by
    obtain ⟨h1, h2⟩ := Bool.and_eq_true_iff.mp (show (isP d && isPs ds) = true from h)
    exact Bool.and_eq_true_iff.mpr ⟨isP_lay d h1, isPs_lay ds h2⟩
end
mutual
theorem dat_dp (s : Same G H) : ∀ {d : D} {x : V}, isP d = true → Dat K G d x → Dp K H x (pD d)
  | .v .non, _, _, h => by cases (show _ = V.non from h); exact .non
  | .v (.bl _), _, _, h => by cases (show _ = V.bl _ from h); exact .bl _
  | .v (.int _), _, _, h => by cases (show _ = V.int _ from h); exact .int _
  | .v (.str _), _, _, h => by cases (show _ = V.str _ from h); exact .str _
  | .tup ds, _, p, ⟨_, _, e, h, l⟩ => by cases e; exact .tup (SqT.of (s _ _ h)) (datL_dp s p l)
  | .ctup ds, _, p, ⟨_, _, e, h, l⟩ => by cases e; exact .tup (same_seqT s h) (datL_dp s p l)
  | .ftup ds, _, p, ⟨_, _, e, h, l⟩ => by cases e; exact .tup (h.mono s).sq (datL_dp s p l)
  | .lst ds, _, p, ⟨_, _, e, h, l⟩ => by cases e; exact .lst (SqL.of (s _ _ h)) (datL_dp s p l)
  | .v (.byt _), _, h, _ => nomatch h
  | .v (.flt _), _, h, _ => nomatch h
  | .v (.ref _), _, h, _ => nomatch h
  | .v (.ty _), _, h, _ => nomatch h
  | .dK _, _, h, _ => nomatch h
  | .dT _, _, h, _ => nomatch h
  | .ins _ _, _, h, _ => nomatch h
  | .ob _, _, h, _ => nomatch h
theorem datL_dp (s : Same G H) : ∀ {ds : List D} {xs : List V}, isPs ds = true → DatL K G ds xs → DpAll K H xs (pDs ds)
  | [], _, _, h => by rw [show _ = [] from h]; exact .nil
  | d :: ds, _, p, ⟨v, r, e, h, l⟩ => by
    obtain ⟨h1, h2⟩ := Bool.and_eq_true_iff.mp (show (isP d && isPs ds) = true from p)
    rw [e]
    exact .cons (dat_dp s h1 h) (datL_dp s h2 l)
end
/-- data whose == is asked -/
def okP (d : D) : Prop := isP d = true ∧ (pD d).depth ≤ 64
theorem okP.shaped {d : D} (h : okP d) : SeqAt.shaped (pD d) = true := Bool.and_eq_true_iff.mpr ⟨isP_lay d h.1, decide_eq_true h.2⟩
def nb : Bool → Bool → Bool
  | false, b => b
  | true, b => !b
def dEqB (neg : Bool) : DR := fun d e R => match d, e with
  | .v x, .v y => scal x y = true ∧ R (.v (.bl (nb neg (decide (x = y)))))
  | d, e => okP d ∧ okP e ∧ R (.v (.bl (nb neg (PyData.eqv (pD d) (pD e)))))
theorem dop_eq (hu : ∀ j, (X j).A.units + 64 < cLine) (hK : ∀ j, (X j).K = K := by intro _; rfl) : DOpR X K ω (compareOp .Eq) (dEqB false) := by
  refine ⟨fun x y H Q => rEq x y H Q ∨ rEqD K x y H Q, fun j pins s σ H x y v u Q I rx ry h => ?_, fun B hω F a σ H x y d e Q R ok hx hy hd k => ?_⟩
  · rcases h with h | h
    · exact op_eq pins s σ H x y v u Q I rx ry h
    · rw [← hK j] at h
      exact op_eqD (hu j) pins s σ H x y v u Q I rx ry h
  · unfold dEqB at hd
    split at hd
    · rw [show x = _ from hx, show y = _ from hy]
      exact .inl ⟨hd.1, k _ (.v _) F H (.refl ok) rfl hd.2⟩
    · obtain ⟨p, q, r⟩ := hd
      exact .inr ⟨_, _, dat_dp hs_same p.1 hx, dat_dp hs_same q.1 hy, p.shaped, q.shaped, k _ (.v _) F H (.refl ok) rfl r⟩
theorem dop_ne (hu : ∀ j, (X j).A.units + 64 < cLine) (hK : ∀ j, (X j).K = K := by intro _; rfl) : DOpR X K ω (compareOp .NotEq) (dEqB true) := by
  refine ⟨fun x y H Q => rNe x y H Q ∨ rNeD K x y H Q, fun j pins s σ H x y v u Q I rx ry h => ?_, fun B hω F a σ H x y d e Q R ok hx hy hd k => ?_⟩
  · rcases h with h | h
    · exact op_ne pins s σ H x y v u Q I rx ry h
    · rw [← hK j] at h
      exact op_neD (hu j) pins s σ H x y v u Q I rx ry h
  · unfold dEqB at hd
    split at hd
    · rw [show x = _ from hx, show y = _ from hy]
      exact .inl ⟨hd.1, k _ (.v _) F H (.refl ok) rfl hd.2⟩
    · obtain ⟨p, q, r⟩ := hd
      exact .inr ⟨_, _, dat_dp hs_same p.1 hx, dat_dp hs_same q.1 hy, p.shaped, q.shaped, k _ (.v _) F H (.refl ok) rfl r⟩
/-- x in a list or tuple of flat things -/
def unV : List D → Option (List V)
  | [] => some []
  | .v x :: ds => (unV ds).map (x :: ·)
  | _ :: _ => none
theorem unV_of : ∀ {ds : List D} {xs : List V}, unV ds = some xs → ds = xs.map D.v
  | [], xs, h => by cases h; rfl
  | .v x :: ds, xs, h => by
    obtain ⟨ys, h1, rfl⟩ := Option.map_eq_some_iff.mp (show (unV ds).map (x :: ·) = some xs from h)
    rw [unV_of h1]
    rfl
theorem datL_flat : ∀ {xs vs : List V}, DatL K H (xs.map D.v) vs → vs = xs
  | [], _, h => h
  | x :: xs, _, ⟨v, r, e, h, l⟩ => by rw [e, show v = x from h, datL_flat l]
def seqD : D → Option (List D)
  | .lst ds => some ds
  | .tup ds => some ds
  | .ctup ds => some ds
  | .ftup ds => some ds
  | _ => none
def dIn (neg : Bool) : DR := fun d e R => match d, (seqD e).bind unV with
  | .v x, some ys => flatV x = true ∧ ys.all flatV = true ∧ R (.v (.bl (nb neg (inV x ys))))
  | d, _ => match e with
    | .lst es => okP d ∧ okP (.lst es) ∧ R (.v (.bl (nb neg ((pDs es).any fun z => PyData.eqv z (pD d)))))
    | _ => False
theorem seqD_dat {d : D} {ds : List D} {x : V} (e : seqD d = some ds) (s : Same G H) (h : Dat K G d x) : ∃ p vs, x = .ref p ∧ (SqL K H p vs ∨ SqT K H p vs) ∧ DatL K G ds vs := by
  cases d with
  | lst es =>
    cases e
    obtain ⟨p, vs, rfl, h1, h2⟩ := h
    exact ⟨p, vs, rfl, .inl (SqL.of (s _ _ h1)), h2⟩
  | tup es =>
    cases e
    obtain ⟨p, vs, rfl, h1, h2⟩ := h
    exact ⟨p, vs, rfl, .inr (SqT.of (s _ _ h1)), h2⟩
  | ctup es =>
    cases e
    obtain ⟨p, vs, rfl, h1, h2⟩ := h
    exact ⟨p, vs, rfl, .inr (same_seqT s h1), h2⟩
  | ftup es =>
    cases e
    obtain ⟨p, vs, rfl, h1, h2⟩ := h
    exact ⟨p, vs, rfl, .inr (h1.mono s).sq, h2⟩
  | _ => cases e
end
section
variable {K : PySem.W.Frag} {ω : Wp} {B : Bs K} {F F' F1 F2 G : Hp} {a a' a1 a2 : AS} {σ σ' : St} {H H' H1 H2 : Hp} {n : Int} {te : TE} {de da db : DEt} {ι : Type} {X : ι → Cx} {e e1 e2 : Expr} {es : List Expr} {pos : Pos} {dt : DTt} {dl dm : DAt}
theorem dop_in (hu : ∀ j, (X j).A.units + 65 < cLine) (hK : ∀ j, (X j).K = K := by intro _; rfl) : DOpR X K ω (compareOp .In) (dIn false) := by
  refine ⟨fun x y H Q => rIn K false x y H Q ∨ rInD K x y H Q, fun j pins s σ H x y v u Q I rx ry h => ?_, fun B hω F a σ H x y d e Q R ok hx hy hd k => ?_⟩
  · rcases h with h | h
    · rw [← hK j] at h
      exact op_in_seq pins s σ H x y v u Q I rx ry h
    · rw [← hK j] at h
      exact op_inD (hu j) pins s σ H x y v u Q I rx ry h
  · unfold dIn at hd
    split at hd
    · rename_i w ys e
      obtain ⟨ds, e1, e2⟩ := Option.bind_eq_some_iff.mp e
      obtain ⟨p, vs, rfl, h1, h2⟩ := seqD_dat e1 hs_same hy
      rw [unV_of e2] at h2
      cases datL_flat h2
      rw [show x = w from hx]
      exact .inl ⟨p, _, rfl, h1, hd.1, hd.2.1, k _ (.v _) F H (.refl ok) rfl hd.2.2⟩
    · split at hd
      · obtain ⟨p, q, r⟩ := hd
        exact .inr ⟨_, _, dat_dp hs_same p.1 hx, dat_dp (d := .lst _) hs_same q.1 hy, p.shaped, q.shaped, k _ (.v _) F H (.refl ok) rfl r⟩
      · exact hd.elim
theorem dop_notin (hu : ∀ j, (X j).A.units + 65 < cLine) (hK : ∀ j, (X j).K = K := by intro _; rfl) : DOpR X K ω (compareOp .NotIn) (dIn true) := by
  refine ⟨fun x y H Q => rIn K true x y H Q ∨ rNotInD K x y H Q, fun j pins s σ H x y v u Q I rx ry h => ?_, fun B hω F a σ H x y d e Q R ok hx hy hd k => ?_⟩
  · rcases h with h | h
    · rw [← hK j] at h
      exact op_notIn_seq pins s σ H x y v u Q I rx ry h
    · rw [← hK j] at h
      exact op_notInD (hu j) pins s σ H x y v u Q I rx ry h
  · unfold dIn at hd
    split at hd
    · rename_i w ys e
      obtain ⟨ds, e1, e2⟩ := Option.bind_eq_some_iff.mp e
      obtain ⟨p, vs, rfl, h1, h2⟩ := seqD_dat e1 hs_same hy
      rw [unV_of e2] at h2
      cases datL_flat h2
      rw [show x = w from hx]
      exact .inl ⟨p, _, rfl, h1, hd.1, hd.2.1, k _ (.v _) F H (.refl ok) rfl hd.2.2⟩
    · split at hd
      · obtain ⟨p, q, r⟩ := hd
        exact .inr ⟨_, _, dat_dp hs_same p.1 hx, dat_dp (d := .lst _) hs_same q.1 hy, p.shaped, q.shaped, k _ (.v _) F H (.refl ok) rfl r⟩
      · exact hd.elim
/-! is None -/
def dIsN (neg : Bool) : DR := fun d e R => match e with
  | .v .non => (match d with
    | .v .non => R (.v (.bl (nb neg true)))
    | .v (.ty _) => False
    | .ob _ => False
    | _ => R (.v (.bl (nb neg false))))
  | _ => False
theorem isN_dat {d : D} {x : V} {R : D → Prop} {neg : Bool} (hx : Dat K G d x) (h : dIsN neg d (.v .non) R) : R (.v (.bl (nb neg (decide (x = .non))))) := by
  cases d with
  | v y =>
    rw [show x = y from hx]
    cases y with
    | ty _ => exact h.elim
    | _ => exact h
  | tup ds => obtain ⟨_, _, rfl, _⟩ := hx; exact h
  | ctup ds => obtain ⟨_, _, rfl, _⟩ := hx; exact h
  | ftup ds => obtain ⟨_, _, rfl, _⟩ := hx; exact h
  | lst ds => obtain ⟨_, _, rfl, _⟩ := hx; exact h
  | dK _ => obtain ⟨_, _, rfl, _⟩ := hx; exact h
  | dT _ => obtain ⟨_, _, rfl, _⟩ := hx; exact h
  | ins _ _ => obtain ⟨_, _, _, rfl, _⟩ := hx; exact h
  | ob _ => exact h.elim
theorem isN_e {d e : D} {R : D → Prop} {neg : Bool} (h : dIsN neg d e R) : e = .v .non := by
  unfold dIsN at h
  split at h
  · rfl
  · exact h.elim
theorem dop_isN : DOpR X K ω (compareOp .Is) (dIsN false) := ⟨_, fun _ => op_isN, fun B hω F a σ H x y d e Q R ok hx hy hd k => by
  cases isN_e hd
  exact ⟨hy, k _ (.v _) F H (.refl ok) rfl (isN_dat hx hd)⟩⟩
theorem dop_notN : DOpR X K ω (compareOp .IsNot) (dIsN true) := ⟨_, fun _ => op_notN, fun B hω F a σ H x y d e Q R ok hx hy hd k => by
  cases isN_e hd
  exact ⟨hy, k _ (.v _) F H (.refl ok) rfl (isN_dat hx hd)⟩⟩
/-! list operators: what goes in stays -/
def LRO (K : PySem.W.Frag) (ω : Wp) (r : R2) (dr : DR) : Prop := ∀ (B : Bs K), WOk B ω → ∀ (F : Hp) (a : AS) (σ : St) (H : Hp) (x y : V) (d e : D) (Q : VK) (R : D → Prop), Ok B F a σ H → Dat K F d x → Dat K F e y → dr d e R →
  (∀ (p : Addr) (vs : List V) (ds : List D), H p = none → DatL K F ds vs → R (.lst ds) → Q (.ref p) (upd H p (.lst vs))) → r x y H Q
def dCat : DR := fun d e R => match d, e with
  | .lst ds, .lst es => ds.length + es.length ≤ sizeLine ∧ R (.lst (ds ++ es))
  | _, _ => False
theorem lr_cat : LRO K ω rCat dCat := fun B hω F a σ H x y d e Q R ok hx hy hd k => by
  unfold dCat at hd
  split at hd
  · obtain ⟨p, vs, rfl, h1, h2⟩ := hx
    obtain ⟨q, ws, rfl, h3, h4⟩ := hy
    exact ⟨p, q, vs, ws, rfl, rfl, ok.fi.fh _ _ h1, ok.fi.fh _ _ h3, by rw [h2.len, h4.len]; exact hd.1, fun u hu => k u _ _ hu (h2.app h4) hd.2⟩
  · exact hd.elim
def repD (ds : List D) : Nat → List D
  | 0 => []
  | n + 1 => ds ++ repD ds n
theorem do_op {op : Operator} {dr : DR} {r : R2} (ho : ∀ j, OpR (X j) (binaryOp op) r) (l : LRO K ω r dr) (ha : DX X K ω e1 da) (hb : DX X K ω e2 db) : DO X K ω (.BinOp e1 op e2 pos) (dOp dr da db) := by
  obtain ⟨ta, p1, l1⟩ := ha
  obtain ⟨tb, p2, l2⟩ := hb
  refine ⟨_, fun j => pe_op (ho j) (p1 j) (p2 j), fun B hω F a σ H Q R ok hd k => l1 B hω F a σ H _ _ ok hd fun x d F1 a1 H1 g1 q1 r1 => l2 B hω F1 a1 σ H1 _ _ g1.ok r1 fun y e F2 a2 H2 g2 q2 r2 => ?_⟩
  exact l B hω F2 a2 σ H2 x y d e Q _ g2.ok (q1.mono g2.ff) q2 r2 fun p vs ds hp hds hR => Go.list ok (.trans ok g1 g2) hp hds hR k
theorem do_cat (ha : DX X K ω e1 da) (hb : DX X K ω e2 db) : DO X K ω (.BinOp e1 .Add e2 pos) (dOp dCat da db) := do_op (fun _ => op_cat) lr_cat ha hb
def dCatT : DR := fun d e R => match d, e with
  | .tup ds, .tup es => ds ≠ [] ∧ es ≠ [] ∧ ds.length + es.length ≤ sizeLine ∧ R (.tup (ds ++ es))
  | _, _ => False
/-! built-in functions: what goes in may be borrowed, what comes out stays -/
abbrev DC := List D → (D → Prop) → Prop
def LCl (K : PySem.W.Frag) (ω : Wp) (r : List V → Hp → VK → Prop) (dc : DC) : Prop := ∀ (B : Bs K), WOk B ω → ∀ (F : Hp) (a : AS) (σ : St) (H : Hp) (xs : List V) (ds : List D) (Q : VK) (R : D → Prop), Ok B F a σ H → DatL K (Hs B.sp H) ds xs → dc ds R →
  (∀ v f F' H', Go B σ F a H F' a H' → Dat K F' f v → R f → Q v H') → r xs H Q
def DCl {ι : Type} (X : ι → Cx) (K : PySem.W.Frag) (ω : Wp) (f : Value) (dc : DC) : Prop := ∃ r, (∀ j, CallR (X j) f r) ∧ LCl K ω r dc
def dCB (dc : DC) (dl : DAt) : DEt := fun a R => dl a fun ds a' => dc ds fun d => R d a'
theorem de_callB {id : String} {x : Str} {p : Pos} {dc : DC} (hc : DCl X K ω (.builtin id) dc) (hg : ∀ j, Gl (X j) x) (hm : ∀ j, (X j).mg x = none) (hv : bootBuiltins x = some (.builtin id)) (ha : DAB X K ω (e :: es) dl) (hn : x ≠ "__name__" := by decide) (hdb : (x == ("__debug__" : Str)) = false := by decide)
    (he : ∀ j, starEach (e :: es) (X j).env = (false, eval e (X j).env) :: starEach es (X j).env := by intro _; rfl) (hpl : ∀ j, (backTo pos (starEach es (X j).env)).any (·.1) = false := by intro _; rfl) : DX X K ω (.Call (.Name x p) (e :: es) [] pos) (dCB dc dl) := by
  obtain ⟨r, h1, l1⟩ := hc
  obtain ⟨t, h2, l2⟩ := ha
  refine ⟨_, fun j => pe_callB (h1 j) (hg j) (hm j) hv (h2 j) hn hdb (he j) (hpl j), fun B hω F a σ H Q R ok hd k => l2 B hω F a σ H _ _ ok hd fun vs ds F1 a1 H1 g1 q1 r1 => ?_⟩
  exact l1 B hω F1 a1 σ H1 vs ds Q _ g1.ok q1 r1 fun v f F2 H2 g2 q2 r2 => k v f F2 a1 H2 (.trans ok g1 g2) q2 r2
theorem de_callTy {T : String} {x : Str} {p : Pos} {dc : DC} (hc : DCl X K ω (.type T) dc) (hg : ∀ j, Gl (X j) x) (hm : ∀ j, (X j).mg x = none) (hv : bootBuiltins x = some (.type T)) (ha : DAB X K ω (e :: es) dl) (hn : x ≠ "__name__" := by decide) (hdb : (x == ("__debug__" : Str)) = false := by decide)
    (he : ∀ j, starEach (e :: es) (X j).env = (false, eval e (X j).env) :: starEach es (X j).env := by intro _; rfl) (hpl : ∀ j, (backTo pos (starEach es (X j).env)).any (·.1) = false := by intro _; rfl) : DX X K ω (.Call (.Name x p) (e :: es) [] pos) (dCB dc dl) := by
  obtain ⟨r, h1, l1⟩ := hc
  obtain ⟨t, h2, l2⟩ := ha
  refine ⟨_, fun j => pe_callTy (h1 j) (hg j) (hm j) hv (h2 j) hn hdb (he j) (hpl j), fun B hω F a σ H Q R ok hd k => l2 B hω F a σ H _ _ ok hd fun vs ds F1 a1 H1 g1 q1 r1 => ?_⟩
  exact l1 B hω F1 a1 σ H1 vs ds Q _ g1.ok q1 r1 fun v f F2 H2 g2 q2 r2 => k v f F2 a1 H2 (.trans ok g1 g2) q2 r2
/-! a new list out of what stays -/
def LClO (K : PySem.W.Frag) (ω : Wp) (r : List V → Hp → VK → Prop) (dc : DC) : Prop := ∀ (B : Bs K), WOk B ω → ∀ (F : Hp) (a : AS) (σ : St) (H : Hp) (xs : List V) (ds : List D) (Q : VK) (R : D → Prop), Ok B F a σ H → DatL K F ds xs → dc ds R →
  (∀ (p : Addr) (vs : List V) (ds : List D), H p = none → DatL K F ds vs → R (.lst ds) → Q (.ref p) (upd H p (.lst vs))) → r xs H Q
theorem do_callTy {T : String} {x : Str} {p : Pos} {dc : DC} {r : List V → Hp → VK → Prop} (h1 : ∀ j, CallR (X j) (.type T) r) (l1 : LClO K ω r dc) (hg : ∀ j, Gl (X j) x) (hm : ∀ j, (X j).mg x = none) (hv : bootBuiltins x = some (.type T)) (ha : DAE X K ω (e :: es) dl) (hn : x ≠ "__name__" := by decide) (hdb : (x == ("__debug__" : Str)) = false := by decide)
    (he : ∀ j, starEach (e :: es) (X j).env = (false, eval e (X j).env) :: starEach es (X j).env := by intro _; rfl) (hpl : ∀ j, (backTo pos (starEach es (X j).env)).any (·.1) = false := by intro _; rfl) : DO X K ω (.Call (.Name x p) (e :: es) [] pos) (dCB dc dl) := by
  obtain ⟨t, h2, l2⟩ := ha
  refine ⟨_, fun j => pe_callTy (h1 j) (hg j) (hm j) hv (h2 j) hn hdb (he j) (hpl j), fun B hω F a σ H Q R ok hd k => l2 B hω F a σ H _ _ ok hd fun vs ds F1 a1 H1 g1 q1 r1 => ?_⟩
  exact l1 B hω F1 a1 σ H1 vs ds Q _ g1.ok q1 r1 fun p ws fs hp hds hR => Go.list ok g1 hp hds hR k
def dListOf : DC := fun ds R => match ds with
  | [d] => (match seqD d with
    | some es => R (.lst es)
    | none => False)
  | _ => False
theorem do_list {x : Str} {p : Pos} (hg : ∀ j, Gl (X j) x) (hm : ∀ j, (X j).mg x = none) (hv : bootBuiltins x = some (.type "list")) (ha : DAE X K ω (e :: es) dl) (hn : x ≠ "__name__" := by decide) (hdb : (x == ("__debug__" : Str)) = false := by decide)
    (he : ∀ j, starEach (e :: es) (X j).env = (false, eval e (X j).env) :: starEach es (X j).env := by intro _; rfl) (hpl : ∀ j, (backTo pos (starEach es (X j).env)).any (·.1) = false := by intro _; rfl) (hK : ∀ j, (X j).K = K := by intro _; rfl) : DO X K ω (.Call (.Name x p) (e :: es) [] pos) (dCB dListOf dl) := by
  refine do_callTy (r := fun xs H Q => ∃ p ys, xs = [.ref p] ∧ (SqL K H p ys ∨ SqT K H p ys) ∧ ∀ l, H l = none → Q (.ref l) (upd H l (.lst ys))) (fun j => by rw [← hK j]; exact call_list_of) (fun B hω F a σ H xs ds Q R ok hx hd k => ?_) hg hm hv ha hn hdb he hpl
  unfold dListOf at hd
  split at hd
  · rename_i d
    split at hd
    · rename_i es e
      obtain ⟨v, r, rfl, h1, h2⟩ := hx
      cases (show r = [] from h2)
      obtain ⟨q, vs, rfl, h3, h4⟩ := seqD_dat e ok.fi.fh h1
      exact ⟨q, vs, rfl, h3, fun l hl => k l vs es hl h4 hd⟩
    · exact hd.elim
  · exact hd.elim
/-- tuple(list), tuple(tuple): what goes in stays -/
def dTupOf (dl : DAt) : DEt := fun a R => dl a fun ds a' => match ds with
  | [.lst es] => R (.tup es) a'
  | [.tup es] => R (.tup es) a'
  | [.ctup es] => R (.ctup es) a'
  | [.ftup es] => R (.ftup es) a'
  | _ => False
theorem de_tuple {x : Str} {p : Pos} (hg : ∀ j, Gl (X j) x) (hm : ∀ j, (X j).mg x = none) (hv : bootBuiltins x = some (.type "tuple")) (ha : DAE X K ω (e :: es) dl) (hn : x ≠ "__name__" := by decide) (hdb : (x == ("__debug__" : Str)) = false := by decide)
    (he : ∀ j, starEach (e :: es) (X j).env = (false, eval e (X j).env) :: starEach es (X j).env := by intro _; rfl) (hpl : ∀ j, (backTo pos (starEach es (X j).env)).any (·.1) = false := by intro _; rfl) (hK : ∀ j, (X j).K = K := by intro _; rfl) : DX X K ω (.Call (.Name x p) (e :: es) [] pos) (dTupOf dl) := by
  obtain ⟨t, h2, l2⟩ := ha
  refine ⟨tCB (fun xs H Q => ∃ p ys, xs = [.ref p] ∧ ((SqL K H p ys ∧ ∀ l, H l = none → Q (.ref l) (upd H l (.tup ys))) ∨ (SqT K H p ys ∧ Q (.ref p) H))) t, fun j => by rw [← hK j]; exact pe_callTy call_tuple_of (hg j) (hm j) hv (h2 j) hn hdb (he j) (hpl j), fun B hω F a σ H Q R ok hd k => l2 B hω F a σ H _ _ ok hd fun vs ds F1 a1 H1 g1 q1 r1 => ?_⟩
  split at r1
  · rename_i es
    obtain ⟨v, r, rfl, h1, h2⟩ := q1
    cases (show r = [] from h2)
    obtain ⟨q, ws, rfl, h3, h4⟩ := h1
    refine ⟨q, ws, rfl, .inl ⟨SqL.of (g1.ok.fi.fh _ _ h3), fun l hl => ?_⟩⟩
    have g2 := g1.ok.new (o := .tup ws) hl
    exact k _ (.tup es) _ _ _ (.trans ok g1 g2) ⟨l, ws, rfl, upd_same, h4.mono g2.ff⟩ r1
  · rename_i es
    obtain ⟨v, r, rfl, h1, h2⟩ := q1
    cases (show r = [] from h2)
    obtain ⟨q, ws, rfl, h3, h4⟩ := h1
    exact ⟨q, ws, rfl, .inr ⟨SqT.of (g1.ok.fi.fh _ _ h3), k _ (.tup es) F1 a1 H1 g1 ⟨q, ws, rfl, h3, h4⟩ r1⟩⟩
  · rename_i es
    obtain ⟨v, r, rfl, h1, h2⟩ := q1
    cases (show r = [] from h2)
    obtain ⟨q, ws, rfl, h3, h4⟩ := h1
    exact ⟨q, ws, rfl, .inr ⟨same_seqT g1.ok.fi.fh h3, k _ (.ctup es) F1 a1 H1 g1 ⟨q, ws, rfl, h3, h4⟩ r1⟩⟩
  · rename_i es
    obtain ⟨v, r, rfl, h1, h2⟩ := q1
    cases (show r = [] from h2)
    obtain ⟨q, ws, rfl, h3, h4⟩ := h1
    exact ⟨q, ws, rfl, .inr ⟨(h3.mono g1.ok.fi.fh).sq, k _ (.ftup es) F1 a1 H1 g1 ⟨q, ws, rfl, h3, h4⟩ r1⟩⟩
  · exact r1.elim
def dLen : DC := fun ds R => match ds with
  | [.lst es] => R (.v (.int (es.length : Nat)))
  | [.tup es] => R (.v (.int (es.length : Nat)))
  | [.ctup es] => R (.v (.int (es.length : Nat)))
  | [.ftup es] => R (.v (.int (es.length : Nat)))
  | [.v (.str z)] => z.length ≤ sizeLine ∧ R (.v (.int (z.length : Nat)))
  | [.dK kvs] => R (.v (.int (kvs.length : Nat)))
  | _ => False
theorem dc_len (hK : ∀ j, (X j).K = K := by intro _; rfl) : DCl X K ω (.builtin "len") dLen := by
  refine ⟨fun xs H Q => (∃ x n, xs = [x] ∧ LenV K x H n ∧ Q (.int n) H) ∨ ∃ a kvs, xs = [V.ref a] ∧ H a = some (.dK kvs) ∧ Q (.int kvs.length) H, fun j pins s σ H xs us Q I r h => h.elim (fun h => call_len pins s σ H xs us Q I r (by rw [hK j]; exact h)) fun h => call_lenD pins s σ H xs us Q I r h, fun B hω F a σ H xs ds Q R ok hx hd k => ?_⟩
  unfold dLen at hd
  split at hd
  · obtain ⟨v, r, rfl, h1, h2⟩ := hx
    cases (show r = [] from h2)
    obtain ⟨q, ws, rfl, h3, h4⟩ := h1
    exact .inl ⟨_, ws.length, rfl, .inl ⟨ws, SqL.of (hs_same _ _ h3), rfl⟩, k _ (.v _) F H (.refl ok) rfl (by rw [h4.len]; exact hd)⟩
  · obtain ⟨v, r, rfl, h1, h2⟩ := hx
    cases (show r = [] from h2)
    obtain ⟨q, ws, rfl, h3, h4⟩ := h1
    exact .inl ⟨_, ws.length, rfl, .inr ⟨ws, SqT.of (hs_same _ _ h3), rfl⟩, k _ (.v _) F H (.refl ok) rfl (by rw [h4.len]; exact hd)⟩
  · obtain ⟨v, r, rfl, h1, h2⟩ := hx
    cases (show r = [] from h2)
    obtain ⟨q, ws, rfl, h3, h4⟩ := h1
    exact .inl ⟨_, ws.length, rfl, .inr ⟨ws, same_seqT hs_same h3, rfl⟩, k _ (.v _) F H (.refl ok) rfl (by rw [h4.len]; exact hd)⟩
  · obtain ⟨v, r, rfl, h1, h2⟩ := hx
    cases (show r = [] from h2)
    obtain ⟨q, ws, rfl, h3, h4⟩ := h1
    exact .inl ⟨_, ws.length, rfl, .inr ⟨ws, (h3.mono hs_same).sq, rfl⟩, k _ (.v _) F H (.refl ok) rfl (by rw [h4.len]; exact hd)⟩
  · obtain ⟨v, r, rfl, h1, h2⟩ := hx
    cases (show r = [] from h2)
    exact .inl ⟨_, _, rfl, by rw [show v = _ from h1]; exact ⟨hd.1, rfl⟩, k _ (.v _) F H (.refl ok) rfl hd.2⟩
  · obtain ⟨v, r, rfl, h1, h2⟩ := hx
    cases (show r = [] from h2)
    obtain ⟨q, ws, rfl, h3, h4⟩ := h1
    exact .inr ⟨q, _, rfl, hs_same _ _ h3, k _ (.v _) F H (.refl ok) rfl (by rw [← (datK_pk.mp h4).length]; exact hd)⟩
  · exact hd.elim
/-- a built-in on flat things -/
theorem dc_flat {f : Value} {r : List V → Hp → VK → Prop} {dc : DC} (h : ∀ j, CallR (X j) f r) (q : ∀ ds R, dc ds R → ∃ xs w, ds = xs.map D.v ∧ R (.v w) ∧ ∀ H Q, Q w H → r xs H Q) : DCl X K ω f dc := ⟨r, h, fun B hω F a σ H xs ds Q R ok hx hd k => by
  obtain ⟨ys, w, rfl, hR, z⟩ := q ds R hd
  cases datL_flat hx
  exact z H Q (k w (.v w) F H (.refl ok) rfl hR)⟩
def dI1 (g : Int → V) : DC := fun ds R => match ds with
  | [.v (.int i)] => R (.v (g i))
  | _ => False
def dI2 (g : Int → Int → V) : DC := fun ds R => match ds with
  | [.v (.int i), .v (.int j)] => R (.v (g i j))
  | _ => False
theorem dc_abs : DCl X K ω (.builtin "abs") (dI1 fun i => .int (if i < 0 then -i else i)) := dc_flat (fun _ => call_abs) fun ds R h => by
  unfold dI1 at h
  split at h
  · exact ⟨[.int _], _, rfl, h, fun H Q q => ⟨_, rfl, q⟩⟩
  · exact h.elim
theorem dc_max2 (hc : ∀ j, (X j).calm = true) : DCl X K ω (.builtin "max") (dI2 fun i j => .int (if j > i then j else i)) := dc_flat (fun j => call_max2 (hc j)) fun ds R h => by
  unfold dI2 at h
  split at h
  · exact ⟨[.int _, .int _], _, rfl, h, fun H Q q => ⟨_, _, rfl, q⟩⟩
  · exact h.elim
theorem dc_min2 (hc : ∀ j, (X j).calm = true) : DCl X K ω (.builtin "min") (dI2 fun i j => .int (if j < i then j else i)) := dc_flat (fun j => call_min2 (hc j)) fun ds R h => by
  unfold dI2 at h
  split at h
  · exact ⟨[.int _, .int _], _, rfl, h, fun H Q q => ⟨_, _, rfl, q⟩⟩
  · exact h.elim
def dInt1 : DC := fun ds R => match ds with
  | [.v (.int i)] => R (.v (.int i))
  | [.v (.bl b)] => R (.v (.int (if b then 1 else 0)))
  | _ => False
theorem dc_int : DCl X K ω (.type "int") dInt1 := dc_flat (fun _ => call_int1) fun ds R h => by
  unfold dInt1 at h
  split at h
  · exact ⟨[.int _], _, rfl, h, fun H Q q => .inl ⟨_, rfl, q⟩⟩
  · exact ⟨[.bl _], _, rfl, h, fun H Q q => .inr ⟨_, rfl, q⟩⟩
  · exact h.elim
/-- any, all: of a list of truths -/
def unB : List D → Option (List Bool)
  | [] => some []
  | .v (.bl b) :: ds => (unB ds).map (b :: ·)
  | _ :: _ => none
theorem unB_of : ∀ {ds : List D} {xs : List Bool}, unB ds = some xs → ds = (xs.map V.bl).map D.v
  | [], xs, h => by cases h; rfl
  | .v (.bl b) :: ds, xs, h => by
    obtain ⟨ys, h1, rfl⟩ := Option.map_eq_some_iff.mp (show (unB ds).map (b :: ·) = some xs from h)
    rw [unB_of h1]
    rfl
def dBs (g : List Bool → Bool) : DC := fun ds R => match ds with
  | [.lst es] => (match unB es with
    | some bs => R (.v (.bl (g bs)))
    | none => False)
  | _ => False
theorem bs_of {r : List V → Hp → VK → Prop} {g : List Bool → Bool} (h : ∀ a bs H Q, SqL K H a (bs.map V.bl) → Q (V.bl (g bs)) H → r [.ref a] H Q) : LCl K ω r (dBs g) := fun B hω F a σ H xs ds Q R ok hx hd k => by
  unfold dBs at hd
  split at hd
  · rename_i es
    split at hd
    · rename_i bs e
      obtain ⟨v, r, rfl, h1, h2⟩ := hx
      cases (show r = [] from h2)
      obtain ⟨q, ws, rfl, h3, h4⟩ := h1
      rw [unB_of e] at h4
      cases datL_flat h4
      exact h q bs H Q (SqL.of (hs_same _ _ h3)) (k _ (.v _) F H (.refl ok) rfl hd)
    · exact hd.elim
  · exact hd.elim
theorem dc_any (hc : ∀ j, (X j).calm = true) (hK : ∀ j, (X j).K = K := by intro _; rfl) : DCl X K ω (.builtin "any") (dBs fun bs => bs.any id) := ⟨rAny K, fun j => by rw [← hK j]; exact cr_any (hc j), bs_of fun a bs H Q h q => ⟨a, bs, rfl, h, q⟩⟩
theorem dc_all (hc : ∀ j, (X j).calm = true) (hK : ∀ j, (X j).K = K := by intro _; rfl) : DCl X K ω (.builtin "all") (dBs fun bs => bs.all id) := ⟨rAll K, fun j => by rw [← hK j]; exact cr_all (hc j), bs_of fun a bs H Q h q => ⟨a, bs, rfl, h, q⟩⟩
/-- a list of ints -/
def unI : List D → Option (List Int)
  | [] => some []
  | .v (.int i) :: ds => (unI ds).map (i :: ·)
  | _ :: _ => none
theorem unI_of : ∀ {ds : List D} {xs : List Int}, unI ds = some xs → ds = (xs.map V.int).map D.v
  | [], xs, h => by cases h; rfl
  | .v (.int i) :: ds, xs, h => by
    obtain ⟨ys, h1, rfl⟩ := Option.map_eq_some_iff.mp (show (unI ds).map (i :: ·) = some xs from h)
    rw [unI_of h1]
    rfl
end
/-! ### a def over data -/
abbrev DSp := Option Addr → List D → Int → (D → Int → Prop) → Prop
/-- behind a call -/
def Post (K : PySem.W.Frag) (sp : Option Addr) (F H : Hp) (Q : VK) (d : D) (n' : Int) : Prop := ∀ (v : V) (F' H' : Hp), Same F F' → Same F' H' → (∀ b o, sp ≠ some b → H b = some o → H' b = some o) → (∀ b, F' b ≠ none → F b ≠ none ∨ H b = none ∨ ImmA F' b) →
  (∀ p, sp = some p → F' p = none ∧ Src H' p n') → Dat K F' d v → Q v H'
def up (K : PySem.W.Frag) (dsp : DSp) : Sp := fun vs H Q _ => ∃ (sp : Option Addr) (F : Hp) (ds : List D) (n : Int), Same F H ∧ (∀ p, sp = some p → F p = none ∧ Src H p n) ∧ DatL K F ds vs ∧ dsp sp ds n (Post K sp F H Q)
def dstart (N : List Str) (ds : List D) (n : Int) (sp : Option Addr) : AS := ⟨ds.map Sl.val ++ List.replicate (N.length - ds.length) .emp, n, sp⟩
theorem ok_start {K : PySem.W.Frag} {sp : Option Addr} {F H : Hp} {ds : List D} {vs : List V} {n : Int} (N : List Str) (s : Same F H) (src : ∀ p, sp = some p → F p = none ∧ Src H p n) (L : DatL K F ds vs) : Ok (K := K) ⟨sp, H, F, none⟩ F (dstart N ds n sp) (L2.start N vs) H := by
  have hl := L.len
  have own : ∀ {i : Nat} {d : D}, ¬ (dstart N ds n sp).sl[i]? = some (Sl.own d) := fun {i d} e => by
    unfold dstart at e
    rcases List.mem_append.mp (List.mem_of_getElem? e) with q | q
    · obtain ⟨x, _, z⟩ := List.mem_map.mp q
      cases z
    · cases (List.mem_replicate.mp q).2
  refine ⟨⟨s, Same.refl F, fun b h => .inl h, fun b o h _ => h, fun p e => ?_⟩, rfl, ?_, fun i d e => ?_, fun i d e => (own e).elim, fun i j p d e h _ _ _ => (own h).elim, fun _ e => nomatch e⟩
  · obtain ⟨h1, h2⟩ := src p e
    obtain ⟨xs, q⟩ := h2.at
    exact ⟨h1, by show H p ≠ none; rw [q]; exact fun z => (nomatch z), h2⟩
  · unfold dstart L2.start
    rw [List.length_append, List.length_append, List.length_map, List.length_map, List.length_replicate, List.length_replicate, hl]
  · unfold dstart at e
    by_cases hi : i < ds.length
    · rw [List.getElem?_append_left (by rw [List.length_map]; exact hi), List.getElem?_map] at e
      obtain ⟨x, h1, h2⟩ := Option.map_eq_some_iff.mp e
      cases h2
      obtain ⟨v, h3, h4⟩ := L.get h1
      refine ⟨v, ?_, h4⟩
      unfold L2.start
      rw [List.getElem?_append_left (by rw [List.length_map, hl]; exact hi), List.getElem?_map, h3]
      rfl
    · rw [List.getElem?_append_right (by rw [List.length_map]; omega)] at e
      cases (List.mem_replicate.mp (List.mem_of_getElem? e)).2
def wp0 : Wp := ⟨fun _ _ _ _ => False, fun _ _ _ _ => False, fun _ => True, false⟩
theorem wok0 {K : PySem.W.Frag} {B : Bs K} (h : B.self = none) : WOk B wp0 := ⟨trivial, fun _ => h, fun _ _ _ _ _ _ _ _ _ z => z.elim⟩
theorem d_run {K : PySem.W.Frag} {sp : Option Addr} {F H : Hp} {ds : List D} {vs : List V} {n : Int} {Q : VK} {X : Cx} {body : List Stmt} {N : List Str} {d : DSt} (h : DSs (fun _ : Unit => X) K wp0 body d) (s : Same F H) (src : ∀ p, sp = some p → F p = none ∧ Src H p n) (L : DatL K F ds vs)
    {sl : List Sl} (hsl : sl = (dstart N ds n sp).sl) (hd : d { nx := fun a => Post K sp F H Q (.v .non) a.n, rt := Post K sp F H Q } ⟨sl, n, sp⟩) : ∃ t, PSs X body t ∧ t { nx := fun _ H' => Q .non H', rt := Q } (L2.start N vs) H := by
  obtain ⟨t, p, l⟩ := h
  subst hsl
  refine ⟨t, p (), l ⟨sp, H, F, none⟩ (wok0 rfl) _ _ F _ _ H (ok_start N s src L) hd ⟨fun F' a' σ' H' ok s h => ?_, fun v d n F' H' f s q h => ?_, fun _ _ _ _ _ _ h => h.elim, fun _ _ _ _ _ _ h => h.elim⟩⟩
  · exact h .non F' H' s ok.fi.fh (fun b o n h => ok.fi.fm b o h n) (fun b h => ok.fi.fr b h) (fun p e => ⟨(ok.fi.sr p e).1, (ok.fi.sr p e).2.2⟩) rfl
  · exact h v F' H' s f.fh (fun b o n h => f.fm b o h n) (fun b h => f.fr b h) (fun p e => ⟨(f.sr p e).1, (f.sr p e).2.2⟩) q
theorem up_len {K : PySem.W.Frag} {dsp : DSp} {m : Nat} (h : ∀ sp ds n R, dsp sp ds n R → ds.length = m) (vs : List V) (H : Hp) (Q : VK) (E : XK) : up K dsp vs H Q E → vs.length = m := fun ⟨sp, F, ds, n, _, _, L, q⟩ => by
  rw [L.len]
  exact h sp ds n _ q
section
variable {K : PySem.W.Frag} {ω : Wp} {B : Bs K} {F F' F1 F2 G : Hp} {a a' a1 a2 : AS} {σ σ' : St} {H H' H1 H2 : Hp} {n : Int} {te : TE} {de da db : DEt} {ι : Type} {X : ι → Cx} {e e1 e2 : Expr} {es : List Expr} {pos : Pos} {dt : DTt} {dl dm : DAt}
/-- what follows a call: with the caller's source -/
theorem Go.call (ok : Ok B F a σ H) {n' : Int} (h1 : Same F F') (h2 : Same F' H') (h3 : ∀ b o, B.sp ≠ some b → H b = some o → H' b = some o) (h4 : ∀ b, F' b ≠ none → F b ≠ none ∨ H b = none ∨ ImmA F' b) (h5 : ∀ p, B.sp = some p → F' p = none ∧ Src H' p n') : Go B σ F a H F' ⟨a.sl, n', a.sp⟩ H' := by
  refine ⟨⟨⟨h2, ok.fi.ff.trans h1, fun b z => ?_, fun b o z w => h3 b o w (ok.fi.fm b o z w), fun p e => ⟨(h5 p e).1, (ok.fi.sr p e).2.1, (h5 p e).2⟩⟩, ok.es, ok.len, fun i d e => ?_, fun i d e => ?_, ok.ds, ok.fx⟩, h1, h3, fun b z => (h4 b z).imp id fun q => q.imp id .inr, fun b z => z⟩
  · rcases h4 b z with q | q | q
    · exact (ok.fi.fr b q).imp id fun q => q.imp id fun q => q.mono h1
    · exact .inr (.inl (ok.here q).2.1)
    · exact .inr (.inr q)
  · obtain ⟨v, e1, e2⟩ := ok.va i d e
    exact ⟨v, e1, e2.mono h1⟩
  · obtain ⟨p, o, e1, e2, e3, e4, e5⟩ := ok.ow i d e
    refine ⟨p, o, e1, h3 p o (fun z => (ok.fi.sr p z).2.1 e4) e2, ?_, e4, e5.mono h1⟩
    cases q : F' p with
    | none => rfl
    | some u =>
      rcases h4 p (by rw [q]; exact fun z => (nomatch z)) with w | w | ⟨o', w1, w2⟩
      · exact absurd e3 w
      · rw [e2] at w
        cases w
      · have z := h3 p o (fun z => (ok.fi.sr p z).2.1 e4) e2
        rw [h2 p o' w1] at z
        cases z
        rw [e5.imm] at w2
        cases w2
def dCall (dsp : DSp) (dl : DAt) : DEt := fun a R => dl a fun ds a' => dsp a'.sp ds a'.n fun d n' => R d ⟨a'.sl, n', a'.sp⟩
/-- a def that has no source -/
def dCall0 (dsp : DSp) (dl : DAt) : DEt := fun a R => dl a fun ds a' => dsp none ds 0 fun d _ => R d a'
/-- what comes out is flat: the arguments may be borrowed -/
def dCallF (dsp : DSp) (dl : DAt) : DEt := fun a R => dl a fun ds a' => dsp a'.sp ds a'.n fun d n' => isV d = true ∧ R d ⟨a'.sl, n', a'.sp⟩
def dCallF0 (dsp : DSp) (dl : DAt) : DEt := fun a R => dl a fun ds a' => dsp none ds 0 fun d _ => isV d = true ∧ R d a'
/-- sp: the promise as it stands; up dsp is at least as much -/
def Ups (K : PySem.W.Frag) (sp : Sp) (dsp : DSp) : Prop := ∀ vs H Q E, up K dsp vs H Q E → sp vs H Q E
theorem Ups.rfl {dsp : DSp} : Ups K (up K dsp) dsp := fun _ _ _ _ h => h
/-- dsp's wish may be weakened -/
def Mon (dsp : DSp) : Prop := ∀ sp ds n (R R' : D → Int → Prop), (∀ d n', R d n' → R' d n') → dsp sp ds n R → dsp sp ds n R'
theorem le_call {dsp : DSp} {s : Sp} {E : XK} {ta : TA} (m : Mon dsp) (u : Ups K s dsp) (l : LAE K ω ta dl) : LE K ω (tCall s [] E ta) (dCall dsp dl) := fun B hω F a σ H Q R ok hd k => l B hω F a σ H _ _ ok hd fun vs ds F1 a1 H1 g1 q1 r1 => by
  rw [List.append_nil]
  rw [g1.ok.es] at r1
  refine u _ _ _ _ ⟨B.sp, F1, ds, a1.n, g1.ok.fi.fh, fun p e => ⟨(g1.ok.fi.sr p e).1, (g1.ok.fi.sr p e).2.2⟩, q1, m _ _ _ _ _ (fun d n' r => ?_) r1⟩
  intro v F' H' x1 x2 x3 x4 x5 x6
  exact k v d F' _ H' (.trans ok g1 (Go.call g1.ok x1 x2 x3 x4 x5)) x6 (by rw [← g1.ok.es] at r; exact r)
theorem le_call0 {dsp : DSp} {s : Sp} {E : XK} {ta : TA} (m : Mon dsp) (u : Ups K s dsp) (l : LAE K ω ta dl) : LE K ω (tCall s [] E ta) (dCall0 dsp dl) := fun B hω F a σ H Q R ok hd k => l B hω F a σ H _ _ ok hd fun vs ds F1 a1 H1 g1 q1 r1 => by
  rw [List.append_nil]
  refine u _ _ _ _ ⟨none, F1, ds, 0, g1.ok.fi.fh, (fun p e => nomatch e), q1, m _ _ _ _ _ (fun d n' r => ?_) r1⟩
  intro v F' H' x1 x2 x3 x4 x5 x6
  have hh : Same H1 H' := fun b o h => x3 b o (fun z => nomatch z) h
  refine k v d F' a1 H' (.trans ok g1 (Go.call g1.ok x1 x2 (fun b o _ h => hh b o h) x4 fun p e => ?_)) x6 r
  obtain ⟨y1, y2, y3⟩ := g1.ok.fi.sr p e
  refine ⟨?_, y3.same hh⟩
  cases q : F' p with
  | none => rfl
  | some u =>
    rcases x4 p (by rw [q]; exact fun z => (nomatch z)) with w | w | ⟨o', w1, w2⟩
    · exact absurd y1 w
    · obtain ⟨xs, z⟩ := y3.at
      rw [z] at w
      cases w
    · obtain ⟨xs, z⟩ := (y3.same hh).at
      rw [x2 p o' w1] at z
      cases z
      cases w2
theorem le_callF {dsp : DSp} {s : Sp} {E : XK} {ta : TA} (m : Mon dsp) (u : Ups K s dsp) (l : LAB K ω ta dl) : LE K ω (tCall s [] E ta) (dCallF dsp dl) := fun B hω F a σ H Q R ok hd k => l B hω F a σ H _ _ ok hd fun vs ds F1 a1 H1 g1 q1 r1 => by
  rw [List.append_nil]
  rw [g1.ok.es] at r1
  refine u _ _ _ _ ⟨B.sp, Hs B.sp H1, ds, a1.n, hs_same, fun p e => ⟨?_, (g1.ok.fi.sr p e).2.2⟩, q1, m _ _ _ _ _ (fun d n' r => ?_) r1⟩
  · unfold Hs
    rw [if_pos e]
  intro v F' H' x1 x2 x3 x4 x5 x6
  refine k v d F1 _ H' (.trans ok g1 (Go.call g1.ok (Same.refl F1) (fun b o h => x2 _ _ (x1 _ _ (g1.ok.fi.fs b o h))) x3 (fun b z => .inl z) fun p e => ⟨(g1.ok.fi.sr p e).1, (x5 p e).2⟩)) ?_ (by rw [← g1.ok.es] at r; exact r.2)
  cases d with
  | v x => exact x6
  | _ => exact absurd r.1 Bool.false_ne_true
theorem le_callF0 {dsp : DSp} {s : Sp} {E : XK} {ta : TA} (m : Mon dsp) (u : Ups K s dsp) (l : LAB K ω ta dl) : LE K ω (tCall s [] E ta) (dCallF0 dsp dl) := fun B hω F a σ H Q R ok hd k => l B hω F a σ H _ _ ok hd fun vs ds F1 a1 H1 g1 q1 r1 => by
  rw [List.append_nil]
  refine u _ _ _ _ ⟨none, Hs B.sp H1, ds, 0, hs_same, (fun p e => nomatch e), q1, m _ _ _ _ _ (fun d n' r => ?_) r1⟩
  intro v F' H' x1 x2 x3 x4 x5 x6
  have hh : Same H1 H' := fun b o h => x3 b o (fun z => nomatch z) h
  refine k v d F1 a1 H' (.trans ok g1 (Go.call g1.ok (Same.refl F1) (fun b o h => hh _ _ (g1.ok.fi.fh b o h)) (fun b o _ h => hh b o h) (fun b z => .inl z) fun p e => ⟨(g1.ok.fi.sr p e).1, (g1.ok.fi.sr p e).2.2.same hh⟩)) ?_ r.2
  cases d with
  | v x => exact x6
  | _ => exact absurd r.1 Bool.false_ne_true
section
variable {CX : CXT} {k : Nat} {f : Addr} {fd : FuncData} {ps : List Str} {s : Sp} {dsp : DSp} {E : XK} {x : Str} {p : Pos}
theorem de_call (m : Mon dsp) (u : Ups K s dsp) (G : ∀ j, FnOk (X j).prog (X j).w (X j).K (X j).mg (X j).base CX k f fd ps s) (hr : ∀ j, Room k (X j).A) (hg : ∀ j, Gl (X j) x) (hm : ∀ j, (X j).mg x = some (.ref f)) (hk : ∀ j, PySem.W.keepIn (X j).K (.ref f) = true) (hb : ∀ j, Binds (X j).K fd ps []) (hx : ∀ j, Passes CX (X j) E) (ha : DAE X K ω (e :: es) dl)
    (hdb : (x == ("__debug__" : Str)) = false := by decide) (he : ∀ j, starEach (e :: es) (X j).env = (false, eval e (X j).env) :: starEach es (X j).env := by intro _; rfl) (hpl : ∀ j, (backTo pos (starEach es (X j).env)).any (·.1) = false := by intro _; rfl) : DX X K ω (.Call (.Name x p) (e :: es) [] pos) (dCall dsp dl) := by
  obtain ⟨t, h, l⟩ := ha
  exact ⟨_, fun j => pe_call (G j) (hr j) (hg j) (hm j) (hk j) (hb j) .nil (hx j) (h j) hdb (he j) (hpl j), le_call m u l⟩
theorem de_call0 (m : Mon dsp) (u : Ups K s dsp) (G : ∀ j, FnOk (X j).prog (X j).w (X j).K (X j).mg (X j).base CX k f fd ps s) (hr : ∀ j, Room k (X j).A) (hg : ∀ j, Gl (X j) x) (hm : ∀ j, (X j).mg x = some (.ref f)) (hk : ∀ j, PySem.W.keepIn (X j).K (.ref f) = true) (hb : ∀ j, Binds (X j).K fd ps []) (hx : ∀ j, Passes CX (X j) E) (ha : DAE X K ω (e :: es) dl)
    (hdb : (x == ("__debug__" : Str)) = false := by decide) (he : ∀ j, starEach (e :: es) (X j).env = (false, eval e (X j).env) :: starEach es (X j).env := by intro _; rfl) (hpl : ∀ j, (backTo pos (starEach es (X j).env)).any (·.1) = false := by intro _; rfl) : DX X K ω (.Call (.Name x p) (e :: es) [] pos) (dCall0 dsp dl) := by
  obtain ⟨t, h, l⟩ := ha
  exact ⟨_, fun j => pe_call (G j) (hr j) (hg j) (hm j) (hk j) (hb j) .nil (hx j) (h j) hdb (he j) (hpl j), le_call0 m u l⟩
theorem de_callF (m : Mon dsp) (u : Ups K s dsp) (G : ∀ j, FnOk (X j).prog (X j).w (X j).K (X j).mg (X j).base CX k f fd ps s) (hr : ∀ j, Room k (X j).A) (hg : ∀ j, Gl (X j) x) (hm : ∀ j, (X j).mg x = some (.ref f)) (hk : ∀ j, PySem.W.keepIn (X j).K (.ref f) = true) (hb : ∀ j, Binds (X j).K fd ps []) (hx : ∀ j, Passes CX (X j) E) (ha : DAB X K ω (e :: es) dl)
    (hdb : (x == ("__debug__" : Str)) = false := by decide) (he : ∀ j, starEach (e :: es) (X j).env = (false, eval e (X j).env) :: starEach es (X j).env := by intro _; rfl) (hpl : ∀ j, (backTo pos (starEach es (X j).env)).any (·.1) = false := by intro _; rfl) : DX X K ω (.Call (.Name x p) (e :: es) [] pos) (dCallF dsp dl) := by
  obtain ⟨t, h, l⟩ := ha
  exact ⟨_, fun j => pe_call (G j) (hr j) (hg j) (hm j) (hk j) (hb j) .nil (hx j) (h j) hdb (he j) (hpl j), le_callF m u l⟩
theorem de_callF0 (m : Mon dsp) (u : Ups K s dsp) (G : ∀ j, FnOk (X j).prog (X j).w (X j).K (X j).mg (X j).base CX k f fd ps s) (hr : ∀ j, Room k (X j).A) (hg : ∀ j, Gl (X j) x) (hm : ∀ j, (X j).mg x = some (.ref f)) (hk : ∀ j, PySem.W.keepIn (X j).K (.ref f) = true) (hb : ∀ j, Binds (X j).K fd ps []) (hx : ∀ j, Passes CX (X j) E) (ha : DAB X K ω (e :: es) dl)
    (hdb : (x == ("__debug__" : Str)) = false := by decide) (he : ∀ j, starEach (e :: es) (X j).env = (false, eval e (X j).env) :: starEach es (X j).env := by intro _; rfl) (hpl : ∀ j, (backTo pos (starEach es (X j).env)).any (·.1) = false := by intro _; rfl) : DX X K ω (.Call (.Name x p) (e :: es) [] pos) (dCallF0 dsp dl) := by
  obtain ⟨t, h, l⟩ := ha
  exact ⟨_, fun j => pe_call (G j) (hr j) (hg j) (hm j) (hk j) (hb j) .nil (hx j) (h j) hdb (he j) (hpl j), le_callF0 m u l⟩
theorem de_call00 (m : Mon dsp) (u : Ups K s dsp) (G : ∀ j, FnOk (X j).prog (X j).w (X j).K (X j).mg (X j).base CX k f fd ps s) (hr : ∀ j, Room k (X j).A) (hg : ∀ j, Gl (X j) x) (hm : ∀ j, (X j).mg x = some (.ref f)) (hk : ∀ j, PySem.W.keepIn (X j).K (.ref f) = true) (hb : ∀ j, Binds (X j).K fd ps []) (hx : ∀ j, Passes CX (X j) E)
    (hdb : (x == ("__debug__" : Str)) = false := by decide) : DX X K ω (.Call (.Name x p) [] [] pos) (dCall0 dsp dNil) :=
  ⟨_, fun j => pe_call0 (G j) (hr j) (hg j) (hm j) (hk j) (hb j) .nil (hx j) hdb, le_call0 m u fun B hω F a σ H Q R ok hd k => k [] [] F a H (.refl ok) rfl hd⟩
end
/-! what a for walks -/
def dItSeq (da : DEt) : DAt := fun a R => da a fun d a' => match seqD d with
  | some ds => R ds a'
  | none => False
def iSeq (K : PySem.W.Frag) (tl : TE) : TI := fun σ H R => tl σ H fun x H1 => ∃ a, x = .ref a ∧ ((∃ xs, SqL K H1 a xs ∧ R (Itl K a) H1) ∨ ∃ xs, SqT K H1 a xs ∧ R (Itt K a) H1)
theorem pi_seq {X : Cx} {tg l : Expr} {tl : TE} (hl : PE X l tl) : PI X tg l (iSeq X.K tl) := by
  refine ⟨fun pins s σ H R I h => ?_⟩
  refine thn (hl.run pins s σ H _ I h) fun v s1 ⟨x, H1, I1, r1, q1⟩ => ?_
  obtain ⟨a, e, ⟨xs, hq, q⟩ | ⟨xs, hq, q⟩⟩ := q1
  · subst e
    cases r1
    obtain ⟨its, rv, p, hz⟩ := I1.list hq
    refine wpAny_pyIter_list p.isList ?_
    refine ⟨s1.heap.objs.size, [s1.heap.objs.size], _, _, H1, rfl, I1.kept (t' := s1.toks) fun b o e => Heap.get?_push_of_some _ e, turn_list a _, ⟨_, Heap.get?_push_size _ rfl, rfl, rfl⟩, fun b hb => ?_, q⟩
    have e : b = s1.heap.objs.size := by simpa using hb
    subst e
    exact I1.fpOk (Nat.le_refl _) (I1.hok.fresh (Nat.le_refl _))
  · subst e
    cases r1
    obtain ⟨its, rv, p, hz⟩ := I1.tuple hq
    refine wpAny_pyIter_tuple (show s1.heap.IsTuple a its.toArray from p) ?_
    refine ⟨s1.heap.objs.size, [s1.heap.objs.size], _, _, H1, rfl, I1.kept (t' := s1.toks) fun b o e => Heap.get?_push_of_some _ e, turn_tuple a _, ⟨_, Heap.get?_push_size _ rfl, rfl, rfl⟩, fun b hb => ?_, q⟩
    have e : b = s1.heap.objs.size := by simpa using hb
    subst e
    exact I1.fpOk (Nat.le_refl _) (I1.hok.fresh (Nat.le_refl _))
theorem di_seq {tg : Expr} (h : DX X K ω e da) (hK : ∀ j, (X j).K = K := by intro _; rfl) : DI X K ω tg e (dItSeq da) := by
  obtain ⟨t, p, l⟩ := h
  refine ⟨iSeq K t, fun j => by rw [← hK j]; exact pi_seq (p j), fun B hω F a σ H Q R ok hd k => l B hω F a σ H _ _ ok hd fun v d F' a' H' g q r => ?_⟩
  cases d with
  | lst ds =>
    obtain ⟨x, vs, rfl, h1, h2⟩ := q
    refine ⟨x, rfl, .inl ⟨vs, SqL.of (g.ok.fi.fh _ _ h1), k (Itl K x) ds F' a' H' g (fun i F1 H1 s1 s2 => ?_) r⟩⟩
    have S : SqL K H1 x vs := SqL.of (s2 _ _ (s1 _ _ h1))
    refine ⟨fun hi => ⟨vs, S, by rw [h2.len]; exact hi⟩, fun d e => ?_⟩
    obtain ⟨v, e1, e2⟩ := h2.get e
    exact ⟨⟨vs, v, S, e1⟩, fun y H2 z => .inl ⟨z.1, by have := z.2 vs S; rw [e1] at this; rw [← Option.some.inj this]; exact e2.mono s1⟩⟩
  | tup ds =>
    obtain ⟨x, vs, rfl, h1, h2⟩ := q
    refine ⟨x, rfl, .inr ⟨vs, SqT.of (g.ok.fi.fh _ _ h1), k (Itt K x) ds F' a' H' g (fun i F1 H1 s1 s2 => ?_) r⟩⟩
    have S : SqT K H1 x vs := SqT.of (s2 _ _ (s1 _ _ h1))
    refine ⟨fun hi => ⟨vs, S, by rw [h2.len]; exact hi⟩, fun d e => ?_⟩
    obtain ⟨v, e1, e2⟩ := h2.get e
    exact ⟨⟨vs, v, S, e1⟩, fun y H2 z => .inl ⟨z.1, by have := z.2 vs S; rw [e1] at this; rw [← Option.some.inj this]; exact e2.mono s1⟩⟩
  | ctup ds =>
    obtain ⟨x, vs, rfl, h1, h2⟩ := q
    refine ⟨x, rfl, .inr ⟨vs, same_seqT g.ok.fi.fh h1, k (Itt K x) ds F' a' H' g (fun i F1 H1 s1 s2 => ?_) r⟩⟩
    have S : SqT K H1 x vs := same_seqT (s1.trans s2) h1
    refine ⟨fun hi => ⟨vs, S, by rw [h2.len]; exact hi⟩, fun d e => ?_⟩
    obtain ⟨v, e1, e2⟩ := h2.get e
    exact ⟨⟨vs, v, S, e1⟩, fun y H2 z => .inl ⟨z.1, by have := z.2 vs S; rw [e1] at this; rw [← Option.some.inj this]; exact e2.mono s1⟩⟩
  | ftup ds =>
    obtain ⟨x, vs, rfl, h1, h2⟩ := q
    refine ⟨x, rfl, .inr ⟨vs, (h1.mono g.ok.fi.fh).sq, k (Itt K x) ds F' a' H' g (fun i F1 H1 s1 s2 => ?_) r⟩⟩
    have S : SqT K H1 x vs := (h1.mono (s1.trans s2)).sq
    refine ⟨fun hi => ⟨vs, S, by rw [h2.len]; exact hi⟩, fun d e => ?_⟩
    obtain ⟨v, e1, e2⟩ := h2.get e
    exact ⟨⟨vs, v, S, e1⟩, fun y H2 z => .inl ⟨z.1, by have := z.2 vs S; rw [e1] at this; rw [← Option.some.inj this]; exact e2.mono s1⟩⟩
  | _ => exact r.elim
/-- range -/
def rngD (lo : Int) (n : Nat) : List D := (List.range n).map fun i => .v (.int (lo + (i : Nat)))
theorem rng_at {lo : Int} {n i : Nat} {d : D} (h : (rngD lo n)[i]? = some d) : i < n ∧ d = .v (.int (lo + (i : Nat))) := by
  unfold rngD at h
  rw [List.getElem?_map] at h
  obtain ⟨j, h1, h2⟩ := Option.map_eq_some_iff.mp h
  obtain ⟨h3, h4⟩ := List.getElem?_eq_some_iff.mp h1
  rw [List.getElem_range] at h4
  rw [List.length_range] at h3
  rw [← h2, ← h4]
  exact ⟨h3, rfl⟩
theorem it_rng {lo : Int} {n : Nat} : ItOk K (Itr lo n) F (rngD lo n) := fun i F1 H1 s1 s2 => by
  refine ⟨fun hi => ?_, fun d e => ?_⟩
  · unfold rngD at hi
    rw [List.length_map, List.length_range] at hi
    exact hi
  · obtain ⟨h1, rfl⟩ := rng_at e
    exact ⟨h1, fun x H' z => .inl ⟨z.1, z.2⟩⟩
def dRng1 (dl : DAt) : DAt := fun a R => dl a fun ds a' => match ds with
  | [.v (.int j)] => (-(2 ^ 62) ≤ j ∧ j < 2 ^ 62) ∧ R (rngD 0 j.toNat) a'
  | _ => False
def dRng2 (dl : DAt) : DAt := fun a R => dl a fun ds a' => match ds with
  | [.v (.int i), .v (.int j)] => (-(2 ^ 62) ≤ i ∧ i < 2 ^ 62 ∧ -(2 ^ 62) ≤ j ∧ j < 2 ^ 62) ∧ R (rngD i (j - i).toNat) a'
  | _ => False
theorem di_range1 {tg x : Expr} {p pos : Pos} (hg : ∀ j, Gl (X j) "range") (hm : ∀ j, (X j).mg "range" = none) (ha : DAB X K ω [x] dl) (hs : ∀ j, starEach [x] (X j).env = [(false, eval x (X j).env)] := by intro _; rfl) : DI X K ω tg (.Call (.Name "range" p) [x] [] pos) (dRng1 dl) := by
  obtain ⟨t, p, l⟩ := ha
  refine ⟨_, fun j => pi_range1 (hg j) (hm j) (p j) (hs j), fun B hω F a σ H Q R ok hd k => l B hω F a σ H _ _ ok hd fun vs ds F' a' H' g q r => ?_⟩
  split at r
  · rename_i j
    cases datL_flat (xs := [.int j]) q
    exact ⟨j, rfl, r.1.1, r.1.2, k _ _ F' a' H' g it_rng r.2⟩
  · exact r.elim
theorem di_range2 {tg x y : Expr} {p pos : Pos} (hg : ∀ j, Gl (X j) "range") (hm : ∀ j, (X j).mg "range" = none) (ha : DAB X K ω [x, y] dl) (hs : ∀ j, starEach [x, y] (X j).env = [(false, eval x (X j).env), (false, eval y (X j).env)] := by intro _; rfl) (hs2 : ∀ j, starEach [y] (X j).env = [(false, eval y (X j).env)] := by intro _; rfl) : DI X K ω tg (.Call (.Name "range" p) [x, y] [] pos) (dRng2 dl) := by
  obtain ⟨t, p, l⟩ := ha
  refine ⟨_, fun j => pi_range2 (hg j) (hm j) (p j) (hs j) (hs2 j), fun B hω F a σ H Q R ok hd k => l B hω F a σ H _ _ ok hd fun vs ds F' a' H' g q r => ?_⟩
  split at r
  · rename_i i j
    cases datL_flat (xs := [.int i, .int j]) q
    exact ⟨i, j, rfl, r.1, k _ _ F' a' H' g it_rng r.2⟩
  · exact r.elim
end
/-! ### comprehensions -/
def dWipe (a : AS) : List Nat → AS
  | [] => a
  | v :: vs => (dWipe a vs).put v .emp
theorem dWipe_n (a : AS) : ∀ vs, (dWipe a vs).n = a.n
  | [] => rfl
  | _ :: vs => dWipe_n a vs
theorem dWipe_sp (a : AS) : ∀ vs, (dWipe a vs).sp = a.sp
  | [] => rfl
  | _ :: vs => dWipe_sp a vs
section
variable {K : PySem.W.Frag} {ω : Wp} {B : Bs K} {F F' F1 F2 G : Hp} {a a' a1 a2 : AS} {σ σ' : St} {H H' H1 H2 : Hp} {n : Int} {te : TE} {de da db : DEt} {ι : Type} {X : ι → Cx} {e e1 e2 : Expr} {es : List Expr} {pos : Pos} {dt : DTt} {dl dm : DAt}
theorem Ok.forget (ok : Ok B F a σ H) (i : Nat) (o : Option V) (hi : i = 0 → B.self = none) : Ok B F (a.put i .emp) (σ.set i o) H := by
  refine ⟨ok.fi, ok.es, by show (σ.set i _).length = (a.sl.set i _).length; rw [List.length_set, List.length_set, ok.len], fun j e q => ?_, fun j e q => ?_, fun j k p e f q1 q2 q3 q4 => ?_, set_fx hi ok.fx⟩
  · rcases set_get q with ⟨rfl, z, hl⟩ | ⟨n, q⟩
    · cases z
    · obtain ⟨u, e1, e2⟩ := ok.va j e q
      exact ⟨u, by rw [List.getElem?_set_ne (Ne.symm n)]; exact e1, e2⟩
  · rcases set_get q with ⟨rfl, z, hl⟩ | ⟨n, q⟩
    · cases z
    · obtain ⟨u, ho, e1, e2⟩ := ok.ow j e q
      exact ⟨u, ho, by rw [List.getElem?_set_ne (Ne.symm n)]; exact e1, e2⟩
  · rcases set_get q1 with ⟨rfl, z, hl⟩ | ⟨n1, q1⟩
    · cases z
    rcases set_get q2 with ⟨rfl, z, hl⟩ | ⟨n2, q2⟩
    · cases z
    rw [List.getElem?_set_ne (Ne.symm n1)] at q3
    rw [List.getElem?_set_ne (Ne.symm n2)] at q4
    exact ok.ds j k p e f q1 q2 q3 q4
theorem own_forget {i : Nat} {o : Option V} {b : Addr} (h : OwnAt (a.put i .emp) (σ.set i o) b) : OwnAt a σ b := by
  obtain ⟨j, f, q1, q2⟩ := h
  rcases set_get q1 with ⟨rfl, z, _⟩ | ⟨m, q1⟩
  · cases z
  · rw [List.getElem?_set_ne (Ne.symm m)] at q2
    exact ⟨j, f, q1, q2⟩
theorem Ok.wipe (ok : Ok B F a σ H) : ∀ vs, (0 ∈ vs → B.self = none) → Ok B F (dWipe a vs) (wipe σ vs) H
  | [], _ => ok
  | v :: vs, h => (Ok.wipe ok vs fun z => h (List.mem_cons_of_mem _ z)).forget v none fun z => h (by rw [z]; exact List.mem_cons_self)
theorem own_wipe {b : Addr} : ∀ {vs : List Nat}, OwnAt (dWipe a vs) (wipe σ vs) b → OwnAt a σ b
  | [], h => h
  | _ :: _, h => own_wipe (own_forget h)
theorem wipe_out : ∀ {vs : List Nat} {j : Nat}, j ∉ vs → (wipe σ vs)[j]? = σ[j]?
  | [], _, _ => rfl
  | v :: vs, j, h => by
    rw [show wipe σ (v :: vs) = (wipe σ vs).set v none from rfl, List.getElem?_set_ne (fun z => h (by rw [z]; exact List.mem_cons_self))]
    exact wipe_out fun z => h (List.mem_cons_of_mem _ z)
theorem wipe_in : ∀ {vs : List Nat} {j : Nat}, j ∈ vs → (wipe σ vs)[j]? = if j < σ.length then some none else none
  | [], _, h => nomatch h
  | v :: vs, j, h => by
    rw [show wipe σ (v :: vs) = (wipe σ vs).set v none from rfl]
    by_cases z : v = j
    · subst z
      rw [List.getElem?_set]
      rw [if_pos rfl, wipe_length]
    · rw [List.getElem?_set_ne z]
      exact wipe_in ((List.mem_cons.mp h).resolve_left fun w => z w.symm)
theorem wipe_ext {vs : List Nat} (hl : σ'.length = σ.length) (h : ∀ j, j ∉ vs → σ'[j]? = σ[j]?) : wipe σ' vs = wipe σ vs := by
  refine List.ext_getElem? fun j => ?_
  by_cases hj : j ∈ vs
  · rw [wipe_in hj, wipe_in hj, hl]
  · rw [wipe_out hj, wipe_out hj, h j hj]
/-- what is nobody's is changed -/
theorem Ok.ext (ok : Ok B F a σ H) {p : Addr} {o : HO} (hF : F p = none) (h0 : B.H0 p = none) (hs : B.sp ≠ some p) (no : ¬ OwnAt a σ p) : Ok B F a σ (upd H p o) := by
  refine ⟨⟨fun b u h => ?_, ok.fi.ff, ok.fi.fr, fun b u h n => ?_, fun b h => ?_⟩, ok.es, ok.len, ok.va, fun j f q => ?_, ok.ds, ok.fx⟩
  · rw [upd_ne (fun z => by rw [z, hF] at h; cases h)]
    exact ok.fi.fh b u h
  · rw [upd_ne (fun z => by rw [z, h0] at h; cases h)]
    exact ok.fi.fm b u h n
  · obtain ⟨x1, x2, x3⟩ := ok.fi.sr b h
    have z : b ≠ p := fun z => hs (z ▸ h)
    exact ⟨x1, x2, x3.but ((But.refl p H).upd) z⟩
  · obtain ⟨u, ho', f1, f2, f3, f4, f5⟩ := ok.ow j f q
    have z : u ≠ p := fun z => no ⟨j, f, q, by rw [← z]; exact f1⟩
    exact ⟨u, ho', f1, by rw [upd_ne z]; exact f2, f3, f4, f5⟩
theorem unwipe {vs : List Nat} {n1 : Int} (ok : Ok B F' a' σ H') (g : Go B (wipe σ vs) F' (dWipe a' vs) H' F1 ⟨(dWipe a' vs).sl, n1, a'.sp⟩ H) : Go B σ F' a' H' F1 ⟨a'.sl, n1, a'.sp⟩ H := by
  refine ⟨⟨g.ok.fi, ok.es, ok.len, fun i d e => ?_, fun i d e => ?_, ok.ds, ok.fx⟩, g.ff, g.hh, fun b z => ?_, fun b z => z⟩
  · obtain ⟨v, e1, e2⟩ := ok.va i d e
    exact ⟨v, e1, e2.mono g.ff⟩
  · obtain ⟨p, o, e1, e2, e3, e4, e5⟩ := ok.ow i d e
    have hs : B.sp ≠ some p := fun z => (ok.fi.sr p z).2.1 e4
    refine ⟨p, o, e1, g.hh p o hs e2, ?_, e4, e5.mono g.ff⟩
    cases q : F1 p with
    | none => rfl
    | some u =>
      rcases g.fr p (by rw [q]; exact fun z => (nomatch z)) with w | w | ⟨j, f, w1, w2⟩ | ⟨o', w1, w2⟩
      · exact absurd e3 w
      · rw [e2] at w
        cases w
      · obtain ⟨p', o', x1, x2, x3, _⟩ := g.ok.ow j f w1
        rw [w2] at x1
        cases x1
        rw [x3] at q
        cases q
      · have z := g.hh p o hs e2
        rw [g.ok.fi.fh p o' w1] at z
        cases z
        rw [e5.imm] at w2
        cases w2
  · rcases g.fr b z with q | q | q
    · exact .inl q
    · exact .inr (.inl q)
    · exact .inr (.inr (q.imp own_wipe id))
/-- a clause's tests -/
def DTs (X : ι → Cx) (K : PySem.W.Frag) (ω : Wp) (ifs : List Expr) (dt : DTt) : Prop := ∃ t, (∀ j, PTs (X j) ifs t) ∧ LC K ω t dt
theorem dts_nil : DTs X K ω [] (fun a R => R true a) := ⟨_, fun _ => pts_nil, fun B hω F a σ H Q R ok hd k => k true F a H (.refl ok) hd⟩
theorem dts_one {c : Expr} (h : DT X K ω c dt) : DTs X K ω [c] dt := let ⟨_, p, l⟩ := h; ⟨_, fun j => pts_one (p j), l⟩
def dLcGo (w : List Sl) (vs : List Nat) (dg : DGt) (dt : DTt) (de : DEt) (sp : Option Addr) (R : List D → Int → Prop) : List D → List D → Int → Prop
  | [], acc, n => R acc n
  | d :: ds, acc, n => dg d ⟨w, n, sp⟩ fun a1 => dt a1 fun b a2 => bIf b (de a2 fun x a3 => (dWipe a3 vs).sl = w ∧ acc.length < sizeLine ∧ dLcGo w vs dg dt de sp R ds (acc ++ [x]) a3.n) ((dWipe a2 vs).sl = w ∧ dLcGo w vs dg dt de sp R ds acc a2.n)
def dLc (vs : List Nat) (di : DAt) (dg : DGt) (dt : DTt) (de : DEt) : DEt := fun a R => di a fun items a' => dLcGo (dWipe a' vs).sl vs dg dt de a'.sp (fun acc n => R (.lst acc) ⟨a'.sl, n, a'.sp⟩) items [] a'.n
theorem lo_lc {wi : TI} {di : DAt} {g : TG} {dg : DGt} {ws vs : List Nat} {tt : TT} {te : TE} (l1 : LI K ω wi di) (l2 : LG K ω g dg ws) (l3 : LC K ω tt dt) (l4 : LE K ω te de) (hw : ∀ i ∈ ws, i ∈ vs) (hz : ω.sf = false ∨ 0 ∉ vs) : LO K ω (tLc wi g tt te vs) (dLc vs di dg dt de) := fun B hω F a σ H Q R ok hd k => by
  refine l1 B hω F a σ H _ _ ok hd fun J items F0 a0 H0 g0 it hR => ?_
  intro D hD
  obtain ⟨nF, n0, ns, nO⟩ := g0.ok.here hD
  have hz' : 0 ∈ vs → B.self = none := fun z => hz.elim hω.2.1 fun n => absurd z n
  have okw := g0.ok.wipe vs hz'
  have ew : dWipe a0 vs = ⟨(dWipe a0 vs).sl, a0.n, a0.sp⟩ := by rw [← dWipe_n a0 vs, ← dWipe_sp a0 vs]
  have nOw : ¬ OwnAt (dWipe a0 vs) (wipe σ vs) D := fun z => nO (own_wipe z)
  have hDne : ∀ {b : Addr} {o : HO}, H0 b = some o → b ≠ D := fun h z => by rw [z, hD] at h; cases h
  generalize ew' : (dWipe a0 vs).sl = w at *
  refine ⟨fun i m H1 => ∃ F1 n1 acc ds, Go B (wipe σ vs) F0 (dWipe a0 vs) H0 F1 ⟨w, n1, a0.sp⟩ H1 ∧ F1 D = none ∧ H1 D = some (.lst acc) ∧ DatL K F1 ds acc ∧ i ≤ items.length ∧ m = items.length - i ∧ dLcGo w vs dg dt de a0.sp (fun acc n => R (.lst acc) ⟨a0.sl, n, a0.sp⟩) (items.drop i) ds n1,
    ⟨_, F0, a0.n, [], [], by rw [← ew]; exact okw.newO hD, nF, upd_same, rfl, Nat.zero_le _, rfl, hR⟩, ?_⟩
  rintro i m H1 ⟨F1, n1, acc, ds, g1, f1, h1, q1, hi, rfl, hl⟩
  by_cases hlt : i < items.length
  · have e : items[i]? = some items[i] := List.getElem?_eq_getElem hlt
    rw [List.drop_eq_getElem_cons hlt] at hl
    refine .inr ⟨((it i F1 H1 g1.ff g1.ok.fi.fh).2 _ e).1, fun H9 => ∃ m', m' < items.length - i ∧ ∃ F1 n1 acc ds, Go B (wipe σ vs) F0 (dWipe a0 vs) H0 F1 ⟨w, n1, a0.sp⟩ H9 ∧ F1 D = none ∧ H9 D = some (.lst acc) ∧ DatL K F1 ds acc ∧ i + 1 ≤ items.length ∧ m' = items.length - (i + 1) ∧ dLcGo w vs dg dt de a0.sp (fun acc n => R (.lst acc) ⟨a0.sl, n, a0.sp⟩) (items.drop (i + 1)) ds n1, fun H9 z => z, fun x H2 y => ?_⟩
    obtain ⟨F2, g2, q2⟩ := it.turn g1.ok g1.ff e y
    refine l2 B hω F2 ⟨w, n1, a0.sp⟩ (wipe σ vs) H2 x _ _ _ g2.ok q2 hl fun a3 σ3 s3 hR => ?_
    have es : wipe σ3 vs = wipe σ vs := wipe_ext (s3.ln.trans (wipe_length σ vs)) fun j hj => by rw [s3.kp j (fun z => hj (hw j z)), wipe_out hj]
    refine ⟨es, l3 B hω F2 a3 σ3 H2 _ _ s3.ok hR fun b F3 a4 H3 g3 hR => ?_⟩
    -- a way within the turn, seen from the wiped state
    have back : ∀ {F5 a5 H5}, Go B σ3 F2 a3 H2 F5 a5 H5 → (dWipe a5 vs).sl = w → Go B (wipe σ vs) F1 ⟨w, n1, a0.sp⟩ H1 F5 ⟨w, a5.n, a0.sp⟩ H5 := fun {F5 a5 H5} g5 ew5 => by
      have o5 := g5.ok.wipe vs hz'
      have e5 : dWipe a5 vs = ⟨w, a5.n, a0.sp⟩ := by rw [← ew5, ← dWipe_n a5 vs, g0.ok.es, ← g5.ok.es, ← dWipe_sp a5 vs]
      rw [es, e5] at o5
      have g2' : Go B (wipe σ vs) F2 ⟨w, n1, a0.sp⟩ H2 F5 ⟨w, a5.n, a0.sp⟩ H5 := ⟨o5, g5.ff, g5.hh, fun b z => (g5.fr b z).imp id fun z => z.imp id fun z => z.imp (s3.oo b) id, fun b z => s3.oo b (g5.oo b (own_wipe (vs := vs) (by rw [es, e5]; exact z)))⟩
      exact .trans g1.ok g2 g2'
    have still : ∀ {F5 n5 H5}, Go B (wipe σ vs) F1 ⟨w, n1, a0.sp⟩ H1 F5 ⟨w, n5, a0.sp⟩ H5 → F5 D = none ∧ H5 D = some (.lst acc) := fun {F5 n5 H5} g5 => by
      refine ⟨?_, g5.hh D _ ns h1⟩
      cases q : F5 D with
      | none => rfl
      | some u =>
        rcases g5.fr D (by rw [q]; exact fun z => (nomatch z)) with z | z | z | ⟨o', w1, w2⟩
        · exact absurd f1 z
        · rw [h1] at z
          cases z
        · exact absurd (g1.oo D z) nOw
        · have z := g5.hh D _ ns h1
          rw [g5.ok.fi.fh D o' w1] at z
          cases z
          cases w2
    refine hR.imp (fun hR => ?_) fun hR => ?_
    · refine l4 B hω F3 a4 σ3 H3 _ _ g3.ok hR fun v d F5 a5 H5 g5 q5 hR => ?_
      obtain ⟨ew5, hz, hR⟩ := hR
      have g15 := back (Go.trans s3.ok g3 g5) ew5
      obtain ⟨f5, h5⟩ := still g15
      refine ⟨acc, h5, by rw [q1.len]; exact hz, items.length - (i + 1), by omega, F5, a5.n, acc ++ [v], ds ++ [d], ?_, f5, upd_same, (q1.mono g15.ff).app (.cons q5 .nil), hlt, rfl, hR⟩
      have g05 := Go.trans okw g1 g15
      have nO5 : ¬ OwnAt ⟨w, a5.n, a0.sp⟩ (wipe σ vs) D := fun z => nOw (g05.oo D z)
      exact ⟨g05.ok.ext f5 n0 ns nO5, g05.ff, fun b o hb h => by rw [upd_ne (hDne h)]; exact g05.hh b o hb h, g05.fr, g05.oo⟩
    · obtain ⟨ew5, hR⟩ := hR
      have g15 := back g3 ew5
      obtain ⟨f5, h5⟩ := still g15
      exact ⟨items.length - (i + 1), by omega, F3, a4.n, acc, ds, .trans okw g1 g15, f5, h5, q1.mono g15.ff, hlt, rfl, hR⟩
  · have e : i = items.length := by omega
    subst e
    rw [List.drop_length] at hl
    refine .inl ⟨(it _ F1 H1 g1.ff g1.ok.fi.fh).1 (Nat.le_refl _), ?_⟩
    subst ew'
    have gu := unwipe g0.ok g1
    have hH : H D = none := by
      cases q : H D with
      | none => rfl
      | some o =>
        rw [g0.hh D o ns q] at hD
        cases hD
    exact k D _ (.lst ds) F1 _ H1 (.trans ok g0 gu) hH f1 h1 ⟨acc, rfl, q1⟩ hl
/-- the family of a comprehension's blocks -/
def blkF (X : ι → Cx) (scope : Scope) : (ι × Shared × Hp × Addr × List (Str × Addr) × List Addr) → Cx := fun q => (X q.1).blk q.2.1 q.2.2.1 scope (compEnvC scope q.2.2.2.2.1 q.2.2.2.1 (X q.1).env) q.2.2.2.2.2
theorem do_lc {elt tg iter : Expr} {ifs : List Expr} {scope : Scope} {own : List (Str × Nat)} {pos : Pos} {di : DAt} {dg : DGt} {ws : List Nat} (hc : ∀ j, (X j).calm = true) (hN : ∀ j, (X j).N.Nodup) (hi : DI X K ω tg iter di) (ok : ∀ j, BlkOk (X j).N (X j).env.scope scope own)
    (hg : DG (blkF X scope) K ω tg dg ws) (ht : DTs (blkF X scope) K ω ifs dt) (he : DX (blkF X scope) K ω elt de) (hw : ∀ i ∈ ws, i ∈ own.map (·.2) := by decide) (hs : ∀ j x, foldedSetIterable iter (X j).env x = pure x := by intro _ _; rfl) (hz : ω.sf = false ∨ 0 ∉ own.map (·.2) := by first | exact Or.inl rfl | exact Or.inr (by decide)) :
    DO X K ω (.ListComp elt [⟨tg, iter, ifs, 0⟩] scope pos) (dLc (own.map (·.2)) di dg dt de) := by
  obtain ⟨wi, p1, l1⟩ := hi
  obtain ⟨g, p2, l2⟩ := hg
  obtain ⟨tt, p3, l3⟩ := ht
  obtain ⟨te, p4, l4⟩ := he
  exact ⟨_, fun j => pe_lc (hc j) (hN j) (p1 j) (ok j) (fun s H C cl fp => p2 (j, s, H, C, cl, fp)) (fun s H C cl fp => p3 (j, s, H, C, cl, fp)) (fun s H C cl fp => p4 (j, s, H, C, cl, fp)) (hs j), lo_lc l1 l2 l3 l4 hw hz⟩
/-- name = [..], the name a local -/
theorem ds_setLcO {i : Nat} {y : Str} {py : Pos} {elt tg iter : Expr} {ifs : List Expr} {scope : Scope} {own : List (Str × Nat)} {pos spos : Pos} {di : DAt} {dg : DGt} {ws : List Nat} (hc : ∀ j, (X j).calm = true) (hN : ∀ j, (X j).N.Nodup) (hy : ∀ j, (X j).N[i]? = some y) (hyl : ∀ j, (X j).env.scope.names.lookup y = some .local)
    (hsw : ∀ j, swapsWith (.ListComp elt [⟨tg, iter, ifs, 0⟩] scope pos) (some (.Name y py)) spos.line (X j).env = pure true) (hi : DI X K ω tg iter di) (ok : ∀ j, BlkOk (X j).N (X j).env.scope scope own)
    (hg : DG (blkF X scope) K ω tg dg ws) (ht : DTs (blkF X scope) K ω ifs dt) (he : DX (blkF X scope) K ω elt de) (hw : ∀ i ∈ ws, i ∈ own.map (·.2) := by decide) (hs : ∀ j x, foldedSetIterable iter (X j).env x = pure x := by intro _ _; rfl) (hz : ω.sf = false ∨ 0 ∉ own.map (·.2) := by first | exact Or.inl rfl | exact Or.inr (by decide)) (hz0 : ω.sf = false ∨ i ≠ 0 := by first | exact Or.inl rfl | exact Or.inr (by decide)) :
    DS X K ω (.Assign [.Name y py] (.ListComp elt [⟨tg, iter, ifs, 0⟩] scope pos) spos) (dSetO i (dLc (own.map (·.2)) di dg dt de)) := by
  obtain ⟨wi, p1, l1⟩ := hi
  obtain ⟨g, p2, l2⟩ := hg
  obtain ⟨tt, p3, l3⟩ := ht
  obtain ⟨te, p4, l4⟩ := he
  refine ⟨_, fun j => ps_setLc (hc j) (hN j) (hy j) (hyl j) (hsw j) (p1 j) (ok j) (fun s H C cl fp => p2 (j, s, H, C, cl, fp)) (fun s H C cl fp => p3 (j, s, H, C, cl, fp)) (fun s H C cl fp => p4 (j, s, H, C, cl, fp)) (hs j), ?_⟩
  refine fun B hω E DE F a σ H ok hd k => lo_lc l1 l2 l3 l4 hw hz B hω F a σ H _ _ ok hd fun p o d F' a' H' g n1 n2 h3 q r => ?_
  obtain ⟨hF, h0, hs, no⟩ := ok.here n1
  exact k.nx F' _ _ H' (g.ok.setO (hω.z hz0) h3 n2 h0 (fun z => no (g.oo p z)) q) g.ff r
theorem ds_setLc {i : Nat} {y : Str} {py : Pos} {elt tg iter : Expr} {ifs : List Expr} {scope : Scope} {own : List (Str × Nat)} {pos spos : Pos} {di : DAt} {dg : DGt} {ws : List Nat} (hc : ∀ j, (X j).calm = true) (hN : ∀ j, (X j).N.Nodup) (hy : ∀ j, (X j).N[i]? = some y) (hyl : ∀ j, (X j).env.scope.names.lookup y = some .local)
    (hsw : ∀ j, swapsWith (.ListComp elt [⟨tg, iter, ifs, 0⟩] scope pos) (some (.Name y py)) spos.line (X j).env = pure true) (hi : DI X K ω tg iter di) (ok : ∀ j, BlkOk (X j).N (X j).env.scope scope own)
    (hg : DG (blkF X scope) K ω tg dg ws) (ht : DTs (blkF X scope) K ω ifs dt) (he : DX (blkF X scope) K ω elt de) (hw : ∀ i ∈ ws, i ∈ own.map (·.2) := by decide) (hs : ∀ j x, foldedSetIterable iter (X j).env x = pure x := by intro _ _; rfl) (hz : ω.sf = false ∨ 0 ∉ own.map (·.2) := by first | exact Or.inl rfl | exact Or.inr (by decide)) (hz0 : ω.sf = false ∨ i ≠ 0 := by first | exact Or.inl rfl | exact Or.inr (by decide)) :
    DS X K ω (.Assign [.Name y py] (.ListComp elt [⟨tg, iter, ifs, 0⟩] scope pos) spos) (dSet i (dLc (own.map (·.2)) di dg dt de)) := by
  obtain ⟨wi, p1, l1⟩ := hi
  obtain ⟨g, p2, l2⟩ := hg
  obtain ⟨tt, p3, l3⟩ := ht
  obtain ⟨te, p4, l4⟩ := he
  refine ⟨_, fun j => ps_setLc (hc j) (hN j) (hy j) (hyl j) (hsw j) (p1 j) (ok j) (fun s H C cl fp => p2 (j, s, H, C, cl, fp)) (fun s H C cl fp => p3 (j, s, H, C, cl, fp)) (fun s H C cl fp => p4 (j, s, H, C, cl, fp)) (hs j), ?_⟩
  exact fun B hω E DE F a σ H ok hd k => (lo_lc l1 l2 l3 l4 hw hz).e B hω F a σ H _ _ ok hd fun v d F' a' H' g q r => k.nx F' _ _ H' (g.ok.setV (hω.z hz0) q) g.ff r
end
/-! ### one's own lists -/
section
variable {K : PySem.W.Frag} {ω : Wp} {B : Bs K} {F F' F1 F2 G : Hp} {a a' a1 a2 : AS} {σ σ' : St} {H H' H1 H2 : Hp} {n : Int} {te : TE} {de da db : DEt} {ι : Type} {X : ι → Cx} {e e1 e2 o : Expr} {es : List Expr} {pos : Pos} {dt : DTt} {dl dm : DAt}
abbrev DM := List D → List D → (List D → D → Prop) → Prop
def LM (K : PySem.W.Frag) (r : V → List V → Hp → VK → Prop) (f : DM) : Prop := ∀ (F H : Hp) (p : Addr) (vs : List V) (ds : List D) (xs : List V) (es : List D) (Q : VK) (R : List D → D → Prop), Same F H → H p = some (.lst vs) → DatL K F ds vs → DatL K F es xs → f ds es R →
  (∀ vs' ds' w d, DatL K F ds' vs' → Dat K F d w → R ds' d → Q w (upd H p (.lst vs'))) → r (.ref p) xs H Q
def asL (s : Sl) (R : List D → Prop) : Prop := match s with
  | .own (.lst ds) => R ds
  | _ => False
theorem asL_of {s : Sl} {R : List D → Prop} (h : asL s R) : ∃ ds, s = .own (.lst ds) ∧ R ds := by
  unfold asL at h
  split at h
  · exact ⟨_, rfl, h⟩
  · exact h.elim
theorem Ok.lst (ok : Ok B F a σ H) {i : Nat} {ds : List D} (h : a.at i = .own (.lst ds)) : ∃ p vs, σ[i]? = some (some (.ref p)) ∧ H p = some (.lst vs) ∧ DatL K F ds vs ∧ a.sl[i]? = some (.own (.lst ds)) := by
  have h' := at_of' h (fun z => nomatch z)
  obtain ⟨p, ho, e1, e2, e3, e4, vs, rfl, q⟩ := ok.ow i _ h'
  exact ⟨p, vs, e1, e2, q, h'⟩
/-- o.m(..), o one's own list: what the expression gives, what the list is then -/
def dOwnE (i : Nat) (f : DM) (dl : DAt) (k : D → AS → Prop) : AS → Prop := fun a => asL (a.at i) fun _ => dl a fun es a' => asL (a'.at i) fun ds => f ds es fun ds' d => k d (a'.put i (.own (.lst ds')))
theorem own_run {r : V → List V → Hp → VK → Prop} {f : DM} {ta : TA} {i : Nat} (l : LM K r f) (la : LAE K ω ta dl) (hω : WOk B ω) (ok : Ok B F a σ H) {Q : VK} {R : D → AS → Prop} (hd : dOwnE i f dl R a)
    (k : ∀ w d F' a' H', Ok B F' a' σ H' → Same F F' → Dat K F' d w → R d a' → Q w H') : tBM K "list" r (tVar i) ta σ H Q := by
  obtain ⟨ds0, e0, hd⟩ := asL_of hd
  obtain ⟨p, vs0, s0, h0, q0, _⟩ := ok.lst e0
  refine ⟨_, s0, .inl ⟨rfl, vs0, SqL.of h0⟩, la B hω F a σ H _ _ ok hd fun xs es F1 a1 H1 g1 q1 r1 => ?_⟩
  obtain ⟨ds1, e1, hd1⟩ := asL_of r1
  obtain ⟨p', vs1, s1, h1, q2, e2⟩ := g1.ok.lst e1
  rw [s0] at s1
  cases s1
  exact l F1 H1 p vs1 ds1 xs es Q _ g1.ok.fi.fh h1 q2 q1 hd1 fun vs' ds' w d q3 q4 r => k w d F1 _ _ (g1.ok.chg (e := .lst ds') e2 s0 ⟨vs', rfl, q3⟩) g1.ff q4 r
theorem own_run0 {r : V → List V → Hp → VK → Prop} {f : DM} {i : Nat} (l : LM K r f) (ok : Ok B F a σ H) {Q : VK} {R : D → AS → Prop} (hd : dOwnE i f dNil R a)
    (k : ∀ w d F' a' H', Ok B F' a' σ H' → Same F F' → Dat K F' d w → R d a' → Q w H') : tBM0 K "list" r (tVar i) σ H Q := by
  obtain ⟨ds0, e0, hd⟩ := asL_of hd
  obtain ⟨p, vs0, s0, h0, q0, _⟩ := ok.lst e0
  refine ⟨_, s0, .inl ⟨rfl, vs0, SqL.of h0⟩, ?_⟩
  obtain ⟨ds1, e1, hd1⟩ := asL_of hd
  obtain ⟨p', vs1, s1, h1, q2, e2⟩ := ok.lst e1
  rw [s0] at s1
  cases s1
  exact l F H p vs1 ds1 [] [] Q _ ok.fi.fh h1 q2 rfl hd1 fun vs' ds' w d q3 q4 r => k w d F _ _ (ok.chg (e := .lst ds') e2 s0 ⟨vs', rfl, q3⟩) (Same.refl F) q4 r
variable {name : Str} {apos cpos : Pos} {T id : String} {r : V → List V → Hp → VK → Prop} {f : DM} {i : Nat}
def dOwn (i : Nat) (f : DM) (dl : DAt) : DSt := fun E => dOwnE i f dl fun _ a => E.nx a
theorem ds_own (pa : PlainAttrs "list") (slot : Slot "list" name id) (hty : typeOf (.builtin id) = pure (.type "method_descriptor")) (hm : ∀ j, MtR (X j) id r) (l : LM K r f) (ho : ∀ j, PE (X j) o (tVar i)) (ha : DAE X K ω (e :: es) dl)
    (hs : ∀ j, swapsWith (.Call (.Attribute o name apos) (e :: es) [] cpos) none pos.line (X j).env = pure false := by intro _; rfl)
    (hbase : ∀ j, attributeBase o name (X j).env (eval o (X j).env) = eval o (X j).env := by intro _; rfl)
    (hfew : ∀ j, ((backTo cpos (starEach (e :: es) (X j).env)).all (fun x => !x.1) && (backToKw cpos (keywordEach [] (X j).env)).all (fun x => x.1.isSome)
      && decide ((e :: es).length + ([] : List Keyword).length + (if ([] : List Keyword).isEmpty then 0 else 1) < 30)) = true := by intro _; rfl)
    (hline : (apos.endLine == cpos.line) = true := by rfl) (hst : ∀ j, starEach (e :: es) (X j).env = (false, eval e (X j).env) :: starEach es (X j).env := by intro _; rfl) (hplain : ∀ j, (backTo cpos (starEach es (X j).env)).any (·.1) = false := by intro _; rfl) (hK : ∀ j, (X j).K = K := by intro _; rfl) :
    DS X K ω (.Expr (.Call (.Attribute o name apos) (e :: es) [] cpos) pos) (dOwn i f dl) := by
  obtain ⟨t, p, la⟩ := ha
  exact ⟨tDrop (tBM K "list" r (tVar i) t), fun j => by rw [← hK j]; exact ps_expr (pe_bm pa slot hty (hm j) (ho j) (p j) (hbase j) (hfew j) hline (hst j) (hplain j)) (hs j), fun B hω E DE F a σ H ok hd k => own_run l la hω ok hd fun w d F' a' H' ok' s _ r => k.nx F' a' σ H' ok' s r⟩
theorem ds_own0 (pa : PlainAttrs "list") (slot : Slot "list" name id) (hty : typeOf (.builtin id) = pure (.type "method_descriptor")) (hm : ∀ j, MtR (X j) id r) (l : LM K r f) (ho : ∀ j, PE (X j) o (tVar i))
    (hs : ∀ j, swapsWith (.Call (.Attribute o name apos) [] [] cpos) none pos.line (X j).env = pure false := by intro _; rfl)
    (hbase : ∀ j, attributeBase o name (X j).env (eval o (X j).env) = eval o (X j).env := by intro _; rfl) (hline : (apos.endLine == cpos.line) = true := by rfl) (hK : ∀ j, (X j).K = K := by intro _; rfl) :
    DS X K ω (.Expr (.Call (.Attribute o name apos) [] [] cpos) pos) (dOwn i f dNil) :=
  ⟨tDrop (tBM0 K "list" r (tVar i)), fun j => by rw [← hK j]; exact ps_expr (pe_bm0 pa slot hty (hm j) (ho j) (hbase j) hline) (hs j), fun B hω E DE F a σ H ok hd k => own_run0 l ok hd fun w d F' a' H' ok' s _ r => k.nx F' a' σ H' ok' s r⟩
/-- x = o.m(..) -/
def dSetOwn (x i : Nat) (f : DM) (dl : DAt) : DSt := fun E => dOwnE i f dl fun d a => E.nx (a.put x (.val d))
theorem ds_setOwn {x : Nat} {y : Str} {py : Pos} (hN : ∀ j, (X j).N.Nodup) (hi : ∀ j, (X j).N[x]? = some y) (hx : ∀ j, Loc (X j).env.scope y) (pa : PlainAttrs "list") (slot : Slot "list" name id) (hty : typeOf (.builtin id) = pure (.type "method_descriptor")) (hm : ∀ j, MtR (X j) id r) (l : LM K r f) (ho : ∀ j, PE (X j) o (tVar i)) (ha : DAE X K ω (e :: es) dl)
    (hs : ∀ j, swapsWith (.Call (.Attribute o name apos) (e :: es) [] cpos) (some (.Name y py)) pos.line (X j).env = pure false := by intro _; rfl)
    (hbase : ∀ j, attributeBase o name (X j).env (eval o (X j).env) = eval o (X j).env := by intro _; rfl)
    (hfew : ∀ j, ((backTo cpos (starEach (e :: es) (X j).env)).all (fun x => !x.1) && (backToKw cpos (keywordEach [] (X j).env)).all (fun x => x.1.isSome)
      && decide ((e :: es).length + ([] : List Keyword).length + (if ([] : List Keyword).isEmpty then 0 else 1) < 30)) = true := by intro _; rfl)
    (hline : (apos.endLine == cpos.line) = true := by rfl) (hst : ∀ j, starEach (e :: es) (X j).env = (false, eval e (X j).env) :: starEach es (X j).env := by intro _; rfl) (hplain : ∀ j, (backTo cpos (starEach es (X j).env)).any (·.1) = false := by intro _; rfl) (hK : ∀ j, (X j).K = K := by intro _; rfl)
    (hf : ∀ j, (X j).fn y = true ∨ (X j).env.scope.names.lookup y = some .local := by first | exact fun _ => .inl rfl | exact fun _ => .inr rfl | assumption) (hz : ω.sf = false ∨ x ≠ 0 := by first | exact Or.inl rfl | exact Or.inr (by decide)) :
    DS X K ω (.Assign [.Name y py] (.Call (.Attribute o name apos) (e :: es) [] cpos) pos) (dSetOwn x i f dl) := by
  obtain ⟨t, p, la⟩ := ha
  exact ⟨tAsg (tBM K "list" r (tVar i) t) (gName x), fun j => by rw [← hK j]; exact ps_set (hN j) (hi j) (hx j) (pe_bm pa slot hty (hm j) (ho j) (p j) (hbase j) (hfew j) hline (hst j) (hplain j)) (hs j) (hf j), fun B hω E DE F a σ H ok hd k => own_run l la hω ok hd fun w d F' a' H' ok' s q r => k.nx F' _ _ H' (ok'.setV (hω.z hz) q) s r⟩
theorem ds_setOwn0 {x : Nat} {y : Str} {py : Pos} (hN : ∀ j, (X j).N.Nodup) (hi : ∀ j, (X j).N[x]? = some y) (hx : ∀ j, Loc (X j).env.scope y) (pa : PlainAttrs "list") (slot : Slot "list" name id) (hty : typeOf (.builtin id) = pure (.type "method_descriptor")) (hm : ∀ j, MtR (X j) id r) (l : LM K r f) (ho : ∀ j, PE (X j) o (tVar i))
    (hs : ∀ j, swapsWith (.Call (.Attribute o name apos) [] [] cpos) (some (.Name y py)) pos.line (X j).env = pure false := by intro _; rfl)
    (hbase : ∀ j, attributeBase o name (X j).env (eval o (X j).env) = eval o (X j).env := by intro _; rfl) (hline : (apos.endLine == cpos.line) = true := by rfl) (hK : ∀ j, (X j).K = K := by intro _; rfl)
    (hf : ∀ j, (X j).fn y = true ∨ (X j).env.scope.names.lookup y = some .local := by first | exact fun _ => .inl rfl | exact fun _ => .inr rfl | assumption) (hz : ω.sf = false ∨ x ≠ 0 := by first | exact Or.inl rfl | exact Or.inr (by decide)) :
    DS X K ω (.Assign [.Name y py] (.Call (.Attribute o name apos) [] [] cpos) pos) (dSetOwn x i f dNil) :=
  ⟨tAsg (tBM0 K "list" r (tVar i)) (gName x), fun j => by rw [← hK j]; exact ps_set (hN j) (hi j) (hx j) (pe_bm0 pa slot hty (hm j) (ho j) (hbase j) hline) (hs j) (hf j), fun B hω E DE F a σ H ok hd k => own_run0 l ok hd fun w d F' a' H' ok' s q r => k.nx F' _ _ H' (ok'.setV (hω.z hz) q) s r⟩
/-! the methods -/
def mAppend : DM := fun ds es R => match es with
  | [d] => ds.length < sizeLine ∧ R (ds ++ [d]) (.v .non)
  | _ => False
theorem lm_append : LM K rAppend mAppend := fun F H p vs ds xs es Q R s h q1 q2 hd k => by
  unfold mAppend at hd
  split at hd
  · obtain ⟨v, r, rfl, h1, h2⟩ := q2
    cases (show r = [] from h2)
    exact ⟨p, vs, v, rfl, rfl, h, by rw [q1.len]; exact hd.1, k _ _ _ (.v _) (q1.app (.cons h1 .nil)) rfl hd.2⟩
  · exact hd.elim
def mExtend : DM := fun ds es R => match es with
  | [.lst fs] => ds.length + fs.length ≤ sizeLine ∧ R (ds ++ fs) (.v .non)
  | _ => False
theorem lm_extend : LM K rExtend mExtend := fun F H p vs ds xs es Q R s h q1 q2 hd k => by
  unfold mExtend at hd
  split at hd
  · obtain ⟨v, r, rfl, h1, h2⟩ := q2
    cases (show r = [] from h2)
    obtain ⟨b, ws, rfl, h3, h4⟩ := h1
    exact ⟨p, b, vs, ws, rfl, rfl, h, s _ _ h3, by rw [q1.len, h4.len]; exact hd.1, k _ _ _ (.v _) (q1.app h4) rfl hd.2⟩
  · exact hd.elim
def mInsert : DM := fun ds es R => match es with
  | [.v (.int i), d] => ds.length < sizeLine ∧ (0 ≤ i ∧ i < 2 ^ 63) ∧ R (ds.take i.toNat ++ [d] ++ ds.drop i.toNat) (.v .non)
  | _ => False
theorem lm_insert : LM K (fun x vs H Q => ∃ (l : Addr) (xs : List V) (i : Int) (y : V), x = .ref l ∧ vs = [.int i, y] ∧ H l = some (.lst xs) ∧ xs.length < sizeLine ∧ 0 ≤ i ∧ i < 2 ^ 63 ∧ Q .non (upd H l (.lst (xs.take i.toNat ++ [y] ++ xs.drop i.toNat)))) mInsert := fun F H p vs ds xs es Q R s h q1 q2 hd k => by
  unfold mInsert at hd
  split at hd
  · rename_i i d
    obtain ⟨v, r, rfl, h1, w, r', rfl, h2, h3⟩ := q2
    cases (show r' = [] from h3)
    cases (show v = _ from h1)
    exact ⟨p, vs, i, w, rfl, rfl, h, by rw [q1.len]; exact hd.1, hd.2.1.1, hd.2.1.2, k _ _ _ (.v _) (((q1.take _).app (.cons h2 .nil)).app (q1.drop _)) rfl hd.2.2⟩
  · exact hd.elim
def mPop : DM := fun ds es R => match es, ds[ds.length - 1]? with
  | [], some d => R ds.dropLast d
  | _, _ => False
theorem datL_dropLast {ds : List D} {vs : List V} (q : DatL K H ds vs) : DatL K H ds.dropLast vs.dropLast := by
  rw [List.dropLast_eq_take, List.dropLast_eq_take, q.len]
  exact q.take _
theorem lm_pop : LM K rPop mPop := fun F H p vs ds xs es Q R s h q1 q2 hd k => by
  unfold mPop at hd
  split at hd
  · rename_i d e
    obtain ⟨v, e1, e2⟩ := q1.get e
    cases (show xs = [] from q2)
    exact ⟨p, vs, v, rfl, rfl, h, by rw [q1.len]; exact e1, k _ _ _ _ (datL_dropLast q1) e2 hd⟩
  · exact hd.elim
def mPopAt : DM := fun ds es R => match es with
  | [.v (.int i)] => (-(2 ^ 63) ≤ i ∧ i < 2 ^ 63) ∧ (match seqIndex? i ds.length with
    | some k => opt ds[k]? fun d => R (ds.eraseIdx k) d
    | none => False)
  | _ => False
theorem DatL.erase : ∀ {ds : List D} {vs : List V} (i : Nat), DatL K H ds vs → DatL K H (ds.eraseIdx i) (vs.eraseIdx i)
  | [], _, _, h => by rw [show _ = [] from h]; rfl
  | _ :: _, _, 0, ⟨v, r, e, _, t⟩ => by rw [e]; exact t
  | _ :: _, _, i + 1, ⟨v, r, e, h, t⟩ => by rw [e]; exact ⟨v, _, rfl, h, t.erase i⟩
theorem lm_popAt : LM K rPopAt mPopAt := fun F H p vs ds xs es Q R s h q1 q2 hd k => by
  unfold mPopAt at hd
  split at hd
  · rename_i i
    obtain ⟨v, r, rfl, h1, h2⟩ := q2
    cases (show r = [] from h2)
    cases (show v = _ from h1)
    obtain ⟨hb, hd⟩ := hd
    split at hd
    · rename_i j e
      obtain ⟨d, e1, hd⟩ := opt_of hd
      obtain ⟨w, e2, e3⟩ := q1.get e1
      exact ⟨p, vs, i, j, w, rfl, rfl, h, hb.1, hb.2, by rw [q1.len]; exact e, e2, k _ _ _ _ (q1.erase j) e3 hd⟩
    · exact hd.elim
  · exact hd.elim
/-- o[k] = e, o one's own list -/
def dSetIx (i : Nat) (de dk : DEt) : DSt := fun E a => de a fun d a1 => asL (a1.at i) fun _ => dk a1 fun x a2 => asL (a2.at i) fun ds => match x with
  | .v (.int k) => (match ixN ds.length k with
    | some j => E.nx (a2.put i (.own (.lst (ds.set j d))))
    | none => False)
  | _ => False
theorem ds_setIx {ix : Expr} {p3 : Pos} {dk : DEt} (he : DX X K ω e de) (ho : ∀ j, PE (X j) o (tVar i)) (hi : DX X K ω ix dk) (hs : ∀ j, swapsWithSole [.Subscript o ix p3] e pos.line (X j).env = pure false := by intro _; rfl) (hw : ∀ j, swappedStores [.Subscript o ix p3] e (X j).env = pure none := by intro _; rfl)
    (h1 : ∀ j, (assignEach [.Subscript o ix p3] (X j).env).map (·.2) = [assign (.Subscript o ix p3) (X j).env] := by intro _; rfl)
    (h2 : ∀ j v, assign (.Subscript o ix p3) (X j).env v = (do let ov ← holding [v] (eval o (X j).env); let iv ← holding [v, ov] (eval ix (X j).env); standAt p3; holding [v, ov, iv] (setItem ov iv v); release [v, ov, iv] []) := by intro _ _; rfl) : DS X K ω (.Assign [.Subscript o ix p3] e pos) (dSetIx i de dk) := by
  obtain ⟨t, p, l⟩ := he
  obtain ⟨t2, p2, l2⟩ := hi
  refine ⟨_, fun j => ps_asg (p j) (pg_sub (ho j) (p2 j) set_list (h2 j)) (hs j) (hw j) (h1 j), fun B hω E DE F a σ H ok hd k => l B hω F a σ H _ _ ok hd fun v d F1 a1 H1 g1 q1 r1 => ?_⟩
  obtain ⟨ds0, e0, hd⟩ := asL_of r1
  obtain ⟨p, vs0, s0, h0, q0, _⟩ := g1.ok.lst e0
  refine ⟨_, s0, l2 B hω F1 a1 σ H1 _ _ g1.ok hd fun x f F2 a2 H2 g2 q2 r2 => ?_⟩
  obtain ⟨ds1, e1, hd1⟩ := asL_of r2
  obtain ⟨p', vs1, s1, h1, q3, e2⟩ := g2.ok.lst e1
  rw [s0] at s1
  cases s1
  split at hd1
  · rename_i z
    split at hd1
    · rename_i j e
      cases (show x = _ from q2)
      exact ⟨p, vs1, z, j, rfl, rfl, h1, by rw [q3.len]; exact e, k.nx F2 _ _ _ (g2.ok.chg (e := .lst (ds1.set j d)) e2 s0 ⟨_, rfl, q3.set (q1.mono g2.ff)⟩) (g1.ff.trans g2.ff) hd1⟩
    · exact hd1.elim
  · exact hd1.elim
end
local macro_rules | `(tactic| walk_at "om") => `(tactic| ((try dsimp only [AS.put]); omega))
/-! ### a law's own defs: with a source, with none -/
/-- C: how many numbers are drawn at most -/
def fsp {α β : Type} (C : α → Int) (A : Addr → α → List D) (P : α → Prop) (Po : α → β → Prop) (O : β → D) : DSp := fun sp ds n R => ∃ p x, sp = some p ∧ ds = A p x ∧ P x ∧ n + C x ≤ 800000 ∧ ∀ y, Po x y → R (O y) (n + C x)
def fsp0 {α β : Type} (A : α → List D) (P : α → Prop) (Po : α → β → Prop) (O : β → D) : DSp := fun _ ds n R => ∃ x, ds = A x ∧ P x ∧ ∀ y, Po x y → R (O y) n
theorem fsp.mon {α β : Type} {C : α → Int} {A : Addr → α → List D} {P : α → Prop} {Po : α → β → Prop} {O : β → D} : Mon (fsp C A P Po O) := fun sp ds n R R' h ⟨p, x, h1, h2, h3, h4, h5⟩ => ⟨p, x, h1, h2, h3, h4, fun y hy => h _ _ (h5 y hy)⟩
theorem fsp0.mon {α β : Type} {A : α → List D} {P : α → Prop} {Po : α → β → Prop} {O : β → D} : Mon (fsp0 A P Po O) := fun sp ds n R R' h ⟨x, h2, h3, h5⟩ => ⟨x, h2, h3, fun y hy => h _ _ (h5 y hy)⟩
abbrev sD (p : Addr) : D := .v (.ref p)
abbrev eI (i : Int) : D := .v (.int i)
abbrev eS (x : Str) : D := .v (.str x)
abbrev eB (b : Bool) : D := .v (.bl b)
abbrev eN : D := .v .non
abbrev eLS (l : List Str) : D := .lst (l.map eS)
abbrev eLI (l : List Int) : D := .lst (l.map eI)
/-! loops by an invariant -/
theorem dLoop_inv {dg : DGt} {db : DSt} {E : DEnds} : ∀ {items : List D} {a : AS} (J : Nat → AS → Prop), J 0 a →
    (∀ i d a (N : AS → Prop), items[i]? = some d → J i a → (∀ a', J (i + 1) a' → N a') → dg d a fun a1 => db { E with nx := N, ct := N, bk := E.nx } a1) → (∀ a, J items.length a → E.nx a) → dLoop dg db E items a
  | [], a, J, h0, _, hd => hd a h0
  | d :: ds, a, J, h0, hs, hd => hs 0 d a _ rfl h0 fun a' h => dLoop_inv (fun i => J (i + 1)) h (fun i d a N e => hs (i + 1) d a N e) hd
theorem rng_len {lo : Int} {n : Nat} : (rngD lo n).length = n := by
  unfold rngD
  rw [List.length_map, List.length_range]
theorem dLoop_rng {dg : DGt} {db : DSt} {E : DEnds} {lo : Int} {n : Nat} {a : AS} (J : Nat → AS → Prop) (h0 : J 0 a)
    (hs : ∀ i a (N : AS → Prop), i < n → J i a → (∀ a', J (i + 1) a' → N a') → dg (eI (lo + (i : Nat))) a fun a1 => db { E with nx := N, ct := N, bk := E.nx } a1) (hd : ∀ a, J n a → E.nx a) : dLoop dg db E (rngD lo n) a :=
  dLoop_inv J h0 (fun i d a N e h k => by
    obtain ⟨hi, rfl⟩ := rng_at e
    exact hs i a N hi h k) fun a h => hd a (by rw [rng_len] at h; exact h)
/-- over coded things -/
theorem dLoop_map {α : Type} {f : α → D} {xs : List α} {dg : DGt} {db : DSt} {E : DEnds} {a : AS} (J : Nat → AS → Prop) (h0 : J 0 a)
    (hs : ∀ i x a (N : AS → Prop), xs[i]? = some x → J i a → (∀ a', J (i + 1) a' → N a') → dg (f x) a fun a1 => db { E with nx := N, ct := N, bk := E.nx } a1) (hd : ∀ a, J xs.length a → E.nx a) : dLoop dg db E (xs.map f) a :=
  dLoop_inv J h0 (fun i d a N e h k => by
    rw [List.getElem?_map] at e
    obtain ⟨x, h1, rfl⟩ := Option.map_eq_some_iff.mp e
    exact hs i x a N h1 h k) fun a h => hd a (by rw [List.length_map] at h; exact h)
/-- a comprehension by an invariant over its list and the draws -/
theorem dLc_inv {w : List Sl} {vs : List Nat} {dg : DGt} {dt : DTt} {de : DEt} {sp : Option Addr} {R : List D → Int → Prop} : ∀ {items acc : List D} {n : Int} (J : Nat → List D → Int → Prop), J 0 acc n →
    (∀ i d acc n (N : List D → Int → Prop), items[i]? = some d → J i acc n → (∀ acc' n', J (i + 1) acc' n' → N acc' n') → dg d ⟨w, n, sp⟩ fun a1 => dt a1 fun b a2 => bIf b (de a2 fun x a3 => (dWipe a3 vs).sl = w ∧ acc.length < sizeLine ∧ N (acc ++ [x]) a3.n) ((dWipe a2 vs).sl = w ∧ N acc a2.n)) →
    (∀ acc n, J items.length acc n → R acc n) → dLcGo w vs dg dt de sp R items acc n
  | [], acc, n, J, h0, _, hd => hd acc n h0
  | d :: ds, acc, n, J, h0, hs, hd => hs 0 d acc n _ rfl h0 fun acc' n' h => dLc_inv (fun i => J (i + 1)) h (fun i d acc n N e => hs (i + 1) d acc n N e) hd
theorem as_n {sl sl' : List Sl} {n n' : Int} {sp : Option Addr} (h1 : sl = sl') (h : n = n') : (⟨sl, n, sp⟩ : AS) = ⟨sl', n', sp⟩ := by rw [h1, h]
theorem eLS_snoc (zs : List Str) (z : Str) : D.lst (zs.map eS ++ [eS z]) = eLS (zs ++ [z]) := by
  rw [eLS, List.map_append]
  rfl
theorem hr65 {k : Nat} {A : Around} (hr : Room k A) : A.units + 65 < cLine := by
  have := hr.un
  omega
/-- the law: its first statement makes the source -/
theorem law_run {K : PySem.W.Frag} {X : Cx} {st : Stmt} {rest : List Stmt} {N : List Str} {E : XK} {d : DSt} {a : Addr} {ns : List Int} {H : Hp} {Q : VK} (h1 : PS X st (tAsg (tCall (spSource K) [] E (tCons (tVar 0) tNil)) (gName 1))) (h : DSs (fun _ : Unit => X) K wp0 rest d) (hS : SqL K H a (ns.map V.int)) (hN : 2 ≤ N.length)
    (k : ∀ H', Q (.bl true) H') (hd : ∀ p, d { nx := fun _ => False, rt := fun d _ => d = .v (.bl true) } ⟨(List.replicate N.length .emp).set 1 (.val (sD p)), 0, some p⟩) : ∃ t, PSs X (st :: rest) t ∧ t { nx := fun _ H' => Q .non H', rt := Q } (L2.start N [.ref a]) H := by
  obtain ⟨t, p, l⟩ := h
  refine ⟨_, pss_cons h1 (p ()), ?_⟩
  refine ⟨.ref a, rfl, a, ns, rfl, hS, fun q H' hq s S => ?_⟩
  obtain ⟨xs, hx⟩ := S.at
  have own : ∀ {i : Nat} {d : D}, ¬ ((List.replicate N.length Sl.emp).set 1 (.val (sD q)))[i]? = some (Sl.own d) := fun {i d} e => by
    rcases set_get e with ⟨_, z, _⟩ | ⟨_, z⟩
    · cases z
    · cases (List.mem_replicate.mp (List.mem_of_getElem? z)).2
  refine l ⟨some q, H', Hs (some q) H', none⟩ (wok0 rfl) _ _ (Hs (some q) H') _ _ H' ⟨⟨hs_same, Same.refl _, fun b h => .inl h, fun b o h _ => h, fun b e => ?_⟩, rfl, ?_, fun i d e => ?_, fun i d e => (own e).elim, fun i j p d e h _ _ _ => (own h).elim, fun _ e => nomatch e⟩ (hd q) ⟨fun _ _ _ _ _ _ h => h.elim, fun v d n F' H'' _ _ hv e => ?_, fun _ _ _ _ _ _ h => h.elim, fun _ _ _ _ _ _ h => h.elim⟩
  · cases e
    refine ⟨?_, by show H' q ≠ none; rw [hx]; exact fun z => (nomatch z), S⟩
    unfold Hs
    rw [if_pos rfl]
  · unfold L2.start
    rw [List.length_set, List.length_append, List.length_replicate, List.length_set, List.length_replicate]
    show 1 + (N.length - 1) = N.length
    omega
  · rcases set_get e with ⟨rfl, z, hl⟩ | ⟨_, z⟩
    · cases z
      refine ⟨.ref q, List.getElem?_set_self ?_, rfl⟩
      unfold L2.start
      rw [List.length_append, List.length_replicate]
      show 1 < 1 + (N.length - 1)
      omega
    · cases (List.mem_replicate.mp (List.mem_of_getElem? z)).2
  · subst e
    rw [show v = .bl true from hv]
    exact k H''
section
variable {K : PySem.W.Frag} {ω : Wp} {B : Bs K} {F F' F1 F2 G : Hp} {a a' a1 a2 : AS} {σ σ' : St} {H H' H1 H2 : Hp} {n : Int} {te : TE} {de da db dc : DEt} {ι : Type} {X : ι → Cx} {e e1 e2 o : Expr} {es : List Expr} {pos : Pos} {dt : DTt} {dl dm : DAt}
/-! tuples put together, cut -/
def dCatTE (da db : DEt) : DEt := fun a R => da a fun x a1 => db a1 fun y a2 => match x, y with
  | .tup ds, .tup es => ds ≠ [] ∧ es ≠ [] ∧ ds.length + es.length ≤ sizeLine ∧ R (.tup (ds ++ es)) a2
  | _, _ => False
theorem datL_ne {ds : List D} {vs : List V} (q : DatL K H ds vs) (h : ds ≠ []) : vs ≠ [] := fun z => h (List.length_eq_zero_iff.mp (by rw [← q.len, z]; rfl))
theorem de_catT (ha : DX X K ω e1 da) (hb : DX X K ω e2 db) (hK : ∀ j, (X j).K = K := by intro _; rfl) : DX X K ω (.BinOp e1 .Add e2 pos) (dCatTE da db) := by
  obtain ⟨ta, p1, l1⟩ := ha
  obtain ⟨tb, p2, l2⟩ := hb
  refine ⟨tOp (rCatT K) ta tb, fun j => by rw [← hK j]; exact pe_op op_catT (p1 j) (p2 j), fun B hω F a σ H Q R ok hd k => l1 B hω F a σ H _ _ ok hd fun x d F1 a1 H1 g1 q1 r1 => l2 B hω F1 a1 σ H1 _ _ g1.ok r1 fun y e F2 a2 H2 g2 q2 r2 => ?_⟩
  split at r2
  · rename_i ds es
    obtain ⟨p, vs, rfl, h1, h2⟩ := q1
    obtain ⟨q, ws, rfl, h3, h4⟩ := q2
    refine ⟨p, q, vs, ws, rfl, rfl, SqT.of (g2.ok.fi.fh _ _ (g2.ff _ _ h1)), SqT.of (g2.ok.fi.fh _ _ h3), datL_ne h2 r2.1, by rw [h2.len, h4.len]; exact r2.2.2.1, fun z => absurd z (datL_ne h4 r2.2.1), fun _ u hu => ?_⟩
    have g3 := g2.ok.new (o := .tup (vs ++ ws)) hu
    exact k _ (.tup (ds ++ es)) _ _ _ (.trans ok g1 (.trans g1.ok g2 g3)) ⟨u, _, rfl, upd_same, (h2.mono (g2.ff.trans g3.ff)).app (h4.mono g3.ff)⟩ r2.2.2.2
  · exact r2.elim
variable {lo hi : Option Expr} {dlo dhi : AS → (Option Int → AS → Prop) → Prop} {p2 : Pos}
theorem de_slT (ha : DX X K ω e1 da) (hl : DPO X K ω lo dlo) (hh : DPO X K ω hi dhi) (hK : ∀ j, (X j).K = K := by intro _; rfl) : DX X K ω (.Subscript e1 (.Slice lo hi none p2) pos) (dSlT da dlo dhi) := by
  obtain ⟨ta, p1, l1⟩ := ha
  obtain ⟨tl, p2, l2⟩ := hl
  obtain ⟨th, p3, l3⟩ := hh
  refine ⟨tSl (rSlT K) ta tl th, fun j => by rw [← hK j]; exact pe_slice sl_tup (p1 j) (p2 j) (p3 j), fun B hω F a σ H Q R ok hd k => l1 B hω F a σ H _ _ ok hd fun v d F1 a1 H1 g1 q1 r1 => l2 B hω F1 a1 σ H1 _ _ g1.ok r1 fun l F2 a2 H2 g2 r2 => l3 B hω F2 a2 σ H2 _ _ g2.ok r2 fun h F3 a3 H3 g3 r3 => ?_⟩
  split at r3
  · rename_i ds
    obtain ⟨p, vs, rfl, h1, h2⟩ := q1
    have g := Go.trans ok g1 (.trans g1.ok g2 g3)
    have s13 : Same F1 F3 := g2.ff.trans g3.ff
    refine ⟨p, vs, rfl, SqT.of (g3.ok.fi.fh _ _ (s13 _ _ h1)), by rw [h2.len]; exact r3.1, fun q hq => ?_⟩
    have g4 := g3.ok.new (o := .tup (cutV vs l h)) hq
    exact k _ (.tup (cutD ds l h)) _ _ _ (.trans ok g g4) ⟨q, _, rfl, upd_same, cut_dat (h2.mono (s13.trans g4.ff))⟩ r3.2
  · exact r3.elim
/-- a list, many times -/
def dRep : DR := fun d e R => match d, e with
  | .lst ds, .v (.int k) => (-(2 ^ 63) ≤ k ∧ k < 2 ^ 63 ∧ ds.length * k.toNat ≤ sizeLine) ∧ R (.lst (List.replicate k.toNat ds).flatten)
  | _, _ => False
theorem rep_dat {ds : List D} {vs : List V} (q : DatL K H ds vs) : ∀ n : Nat, DatL K H (List.replicate n ds).flatten (List.replicate n vs).flatten
  | 0 => rfl
  | n + 1 => by
    rw [List.replicate_succ, List.replicate_succ, List.flatten_cons, List.flatten_cons]
    exact q.app (rep_dat q n)
theorem lr_rep : LRO K ω rRep dRep := fun B hω F a σ H x y d e Q R ok hx hy hd k => by
  unfold dRep at hd
  split at hd
  · rename_i ds i
    obtain ⟨p, vs, rfl, h1, h2⟩ := hx
    exact ⟨p, i, vs, rfl, hy, ok.fi.fh _ _ h1, hd.1.1, hd.1.2.1, by rw [h2.len]; exact hd.1.2.2, fun u hu => k u _ _ hu (rep_dat h2 _) hd.2⟩
  · exact hd.elim
theorem do_rep (ha : DX X K ω e1 da) (hb : DX X K ω e2 db) : DO X K ω (.BinOp e1 .Mult e2 pos) (dOp dRep da db) := do_op (fun _ => op_rep) lr_rep ha hb
/-! what a for walks: enumerate, zip, the signs of a text -/
def enumD (ds : List D) (i : Nat) : List D := (ds.zipIdx i).map fun p => .tup [.v (.int (p.2 : Nat)), p.1]
def dEnum (dl : DAt) : DAt := fun a R => dl a fun xs a' => match xs with
  | [.lst ds] => R (enumD ds 0) a'
  | _ => False
theorem enum_at {ds : List D} {i j : Nat} {d : D} (h : (enumD ds j)[i]? = some d) : ∃ x, ds[i]? = some x ∧ d = .tup [.v (.int ((j + i : Nat))), x] := by
  unfold enumD at h
  rw [List.getElem?_map, List.getElem?_zipIdx] at h
  cases e : ds[i]? with
  | none => rw [e] at h; cases h
  | some x =>
    rw [e] at h
    exact ⟨x, rfl, (Option.some.inj h).symm⟩
theorem enum_len {ds : List D} {j : Nat} : (enumD ds j).length = ds.length := by
  unfold enumD
  rw [List.length_map, List.length_zipIdx]
theorem di_enum {x : Expr} {p pos tpos : Pos} {elts : List Expr} {kk : Nat} (hg : ∀ j, Gl (X j) "enumerate") (hm : ∀ j, (X j).mg "enumerate" = none) (ha : DAE X K ω [x] dl) (hs : ∀ j, starEach [x] (X j).env = [(false, eval x (X j).env)] := by intro _; rfl) (hK : ∀ j, (X j).K = K := by intro _; rfl) :
    DI X K ω (.Tuple elts kk tpos) (.Call (.Name "enumerate" p) [x] [] pos) (dEnum dl) := by
  obtain ⟨t, p1, l⟩ := ha
  refine ⟨iEnum K t, fun j => by rw [← hK j]; exact pi_enum (hg j) (hm j) (p1 j) (hs j), fun B hω F a σ H Q R ok hd k => l B hω F a σ H _ _ ok hd fun vs ds F' a' H' g q r => ?_⟩
  split at r
  · rename_i ds
    obtain ⟨v, r', rfl, ⟨p, ws, rfl, h1, h2⟩, h3⟩ := q
    cases (show r' = [] from h3)
    refine ⟨p, ws, rfl, SqL.of (g.ok.fi.fh _ _ h1), k (Ite K p) _ F' a' H' g (fun i F1 H1 s1 s2 => ?_) r⟩
    have S : SqL K H1 p ws := SqL.of (s2 _ _ (s1 _ _ h1))
    refine ⟨fun hi => ⟨ws, S, by rw [enum_len] at hi; rw [h2.len]; exact hi⟩, fun d e => ?_⟩
    obtain ⟨x, e1, rfl⟩ := enum_at e
    obtain ⟨v, e2, e3⟩ := h2.get e1
    refine ⟨⟨ws, v, S, e2⟩, fun y H2 ⟨T, x', h4, h5, h6, h7⟩ => .inr ⟨T, _, h5, h6, ?_⟩⟩
    have ex := h7 ws S
    rw [e2] at ex
    cases ex
    have hF : F1 T = none := by
      cases z : F1 T with
      | none => rfl
      | some u => rw [s2 _ _ z] at h5; cases h5
    rw [Nat.zero_add]
    exact ⟨T, _, h4, upd_same, .cons rfl (.cons ((e3.mono s1).mono (Same.new hF)) .nil)⟩
  · exact r.elim
def zipD : List D → List D → List D
  | x :: xs, y :: ys => .tup [x, y] :: zipD xs ys
  | _, _ => []
theorem zip_at : ∀ {xs ys : List D} {i : Nat} {d : D}, (zipD xs ys)[i]? = some d → ∃ x y, xs[i]? = some x ∧ ys[i]? = some y ∧ d = .tup [x, y]
  | x :: xs, y :: ys, 0, d, h => ⟨x, y, rfl, rfl, (Option.some.inj h).symm⟩
  | x :: xs, y :: ys, i + 1, d, h => zip_at (xs := xs) (ys := ys) (i := i) h
  | [], _, _, _, h => by unfold zipD at h; simp at h
  | _ :: _, [], _, _, h => by unfold zipD at h; simp at h
theorem zip_end : ∀ {xs ys : List D} {i : Nat}, (zipD xs ys).length ≤ i → xs.length ≤ i ∨ ys.length ≤ i
  | x :: xs, y :: ys, 0, h => by
    have h : (zipD xs ys).length + 1 ≤ 0 := h
    omega
  | x :: xs, y :: ys, i + 1, h => by
    have h : (zipD xs ys).length + 1 ≤ i + 1 := h
    rcases zip_end (xs := xs) (ys := ys) (i := i) (by omega) with q | q
    · exact .inl (by rw [List.length_cons]; omega)
    · exact .inr (by rw [List.length_cons]; omega)
  | [], _, _, _ => .inl (Nat.zero_le _)
  | _ :: _, [], _, _ => .inr (Nat.zero_le _)
def dZip (dl : DAt) : DAt := fun a R => dl a fun xs a' => match xs with
  | [.lst ds, .lst es] => R (zipD ds es) a'
  | _ => False
theorem di_zip {x y : Expr} {p pos tpos : Pos} {elts : List Expr} {kk : Nat} (hg : ∀ j, Gl (X j) "zip") (hm : ∀ j, (X j).mg "zip" = none) (ha : DAE X K ω [x, y] dl) (hs : ∀ j, starEach [x, y] (X j).env = (false, eval x (X j).env) :: starEach [y] (X j).env := by intro _; rfl) (hpl : ∀ j, (backTo pos (starEach [y] (X j).env)).any (·.1) = false := by intro _; rfl) (hK : ∀ j, (X j).K = K := by intro _; rfl) :
    DI X K ω (.Tuple elts kk tpos) (.Call (.Name "zip" p) [x, y] [] pos) (dZip dl) := by
  obtain ⟨t, p1, l⟩ := ha
  refine ⟨iZip K t, fun j => by rw [← hK j]; exact pi_zip (hg j) (hm j) (p1 j) (hs j) (hpl j), fun B hω F a σ H Q R ok hd k => l B hω F a σ H _ _ ok hd fun vs ds F' a' H' g q r => ?_⟩
  split at r
  · rename_i ds es
    obtain ⟨v, r', rfl, ⟨p, ws, rfl, h1, h2⟩, w, r'', rfl, ⟨q, us, rfl, h3, h4⟩, h5⟩ := q
    cases (show r'' = [] from h5)
    refine ⟨p, q, ws, us, rfl, SqL.of (g.ok.fi.fh _ _ h1), SqL.of (g.ok.fi.fh _ _ h3), k (Itz K p q) _ F' a' H' g (fun i F1 H1 s1 s2 => ?_) r⟩
    have S : SqL K H1 p ws := SqL.of (s2 _ _ (s1 _ _ h1))
    have S' : SqL K H1 q us := SqL.of (s2 _ _ (s1 _ _ h3))
    refine ⟨fun hi => ⟨ws, us, S, S', by rw [h2.len, h4.len]; exact zip_end hi⟩, fun d e => ?_⟩
    obtain ⟨x, y, e1, e1', rfl⟩ := zip_at e
    obtain ⟨v, e2, e3⟩ := h2.get e1
    obtain ⟨v', e2', e3'⟩ := h4.get e1'
    refine ⟨⟨ws, us, v, v', S, S', e2, e2'⟩, fun z H2 ⟨T, x', y', h4, h5, h6, h7, h8⟩ => .inr ⟨T, _, h5, h6, ?_⟩⟩
    have ex := h7 ws S
    have ey := h8 us S'
    rw [e2] at ex
    rw [e2'] at ey
    cases ex
    cases ey
    have hF : F1 T = none := by
      cases z : F1 T with
      | none => rfl
      | some u => rw [s2 _ _ z] at h5; cases h5
    exact ⟨T, _, h4, upd_same, .cons ((e3.mono s1).mono (Same.new hF)) (.cons ((e3'.mono s1).mono (Same.new hF)) .nil)⟩
  · exact r.elim
def signsD (z : Str) : List D := z.cps.toList.map fun c => .v (.str ⟨#[c]⟩)
def dStr (de : DEt) : DAt := fun a R => de a fun d a' => match d with
  | .v (.str z) => R (signsD z) a'
  | _ => False
theorem di_str {tg : Expr} (h : DX X K ω e de) : DI X K ω tg e (dStr de) := by
  obtain ⟨t, p, l⟩ := h
  refine ⟨_, fun j => pi_str (p j), fun B hω F a σ H Q R ok hd k => l B hω F a σ H _ _ ok hd fun v d F' a' H' g q r => ?_⟩
  split at r
  · rename_i z
    refine ⟨z, q, k (Its z) _ F' a' H' g (fun i F1 H1 s1 s2 => ⟨fun hi => ?_, fun d e => ?_⟩) r⟩
    · unfold signsD at hi
      rw [List.length_map, Array.length_toList] at hi
      exact hi
    · unfold signsD at e
      rw [List.getElem?_map] at e
      obtain ⟨c, h1, rfl⟩ := Option.map_eq_some_iff.mp e
      rw [Array.getElem?_toList] at h1
      refine ⟨(Array.getElem?_eq_some_iff.mp h1).1, fun x H2 ⟨h2, c', h3, h4⟩ => .inl ⟨h2, ?_⟩⟩
      rw [h1] at h3
      cases h3
      exact h4
  · exact r.elim
/-! texts -/
def unS : List D → Option (List Str)
  | [] => some []
  | .v (.str x) :: ds => (unS ds).map (x :: ·)
  | _ :: _ => none
theorem unS_of : ∀ {ds : List D} {xs : List Str}, unS ds = some xs → ds = (xs.map V.str).map D.v
  | [], xs, h => by cases h; rfl
  | .v (.str x) :: ds, xs, h => by
    obtain ⟨ys, h1, rfl⟩ := Option.map_eq_some_iff.mp (show (unS ds).map (x :: ·) = some xs from h)
    rw [unS_of h1]
    rfl
theorem unS_map : ∀ xs : List Str, unS (xs.map fun x => D.v (V.str x)) = some xs
  | [] => rfl
  | x :: xs => by
    show (unS (xs.map fun x => D.v (V.str x))).map (x :: ·) = _
    rw [unS_map xs]
    rfl
def dJoin (da db : DEt) : DEt := fun a R => da a fun x a1 => match x with
  | .v (.str z) => db a1 fun y a2 => (match (seqD y).bind unS with
    | some ys => (ys.map (·.length)).sum + ys.length * z.length ≤ 16777216 ∧ R (.v (.str (Txt.join z ys))) a2
    | none => False)
  | _ => False
theorem de_join {apos pos : Pos} (ho : DB X K ω o da) (he : DB X K ω e db) (hs : ∀ j, starEach [e] (X j).env = [(false, eval e (X j).env)] := by intro _; rfl) (hbase : ∀ j, attributeBase o "join" (X j).env (eval o (X j).env) = eval o (X j).env := by intro _; rfl) (hline : (apos.endLine == pos.line) = true := by rfl) (hK : ∀ j, (X j).K = K := by intro _; rfl) :
    DX X K ω (.Call (.Attribute o "join" apos) [e] [] pos) (dJoin da db) := by
  obtain ⟨ta, p1, l1⟩ := ho
  obtain ⟨tb, p2, l2⟩ := he
  refine ⟨tM1 (fun x xs H Q => ∃ a p, ∃ ys : List Str, x = .str a ∧ xs = [.ref p] ∧ (SqL K H p (ys.map V.str) ∨ SqT K H p (ys.map V.str)) ∧ (ys.map (·.length)).sum + ys.length * a.length ≤ 16777216 ∧ Q (.str (Txt.join a ys)) H) ta tb, fun j => by rw [← hK j]; exact pe_join (p1 j) (p2 j) (hs j) (hbase j) hline, fun B hω F a σ H Q R ok hd k => l1 B hω F a σ H _ _ ok hd fun x d F1 a1 H1 g1 q1 r1 => ?_⟩
  split at r1
  · rename_i z
    refine ⟨⟨z, q1⟩, l2 B hω F1 a1 σ H1 _ _ g1.ok r1 fun y f F2 a2 H2 g2 q2 r2 => ?_⟩
    split at r2
    · rename_i ys e2
      obtain ⟨fs, e3, e4⟩ := Option.bind_eq_some_iff.mp e2
      obtain ⟨p, vs, rfl, h1, h2⟩ := seqD_dat e3 hs_same q2
      rw [unS_of e4] at h2
      cases datL_flat h2
      exact ⟨z, p, ys, q1, rfl, h1, r2.1, k _ (.v _) F2 a2 H2 (.trans ok g1 g2) rfl r2.2⟩
    · exact r2.elim
  · exact r1.elim
def dSplit (da db : DEt) : DEt := fun a R => da a fun x a1 => match x with
  | .v (.str z) => db a1 fun y a2 => (match y with
    | .v (.str s) => ((s.length == 0) = false ∧ z.length + 2 ≤ sizeLine) ∧ R (.lst ((Txt.split z s).map fun w => D.v (V.str w))) a2
    | _ => False)
  | _ => False
theorem datS {G : Hp} : ∀ (l : List Str), DatL K G (l.map fun w => D.v (V.str w)) (l.map V.str)
  | [] => rfl
  | _ :: l => ⟨_, _, rfl, rfl, datS l⟩
theorem do_split {apos pos : Pos} (ho : DB X K ω o da) (he : DB X K ω e db) (hs : ∀ j, starEach [e] (X j).env = [(false, eval e (X j).env)] := by intro _; rfl) (hbase : ∀ j, attributeBase o "split" (X j).env (eval o (X j).env) = eval o (X j).env := by intro _; rfl) (hline : (apos.endLine == pos.line) = true := by rfl) :
    DO X K ω (.Call (.Attribute o "split" apos) [e] [] pos) (dSplit da db) := by
  obtain ⟨ta, p1, l1⟩ := ho
  obtain ⟨tb, p2, l2⟩ := he
  refine ⟨_, fun j => pe_split (p1 j) (p2 j) (hs j) (hbase j) hline, fun B hω F a σ H Q R ok hd k => l1 B hω F a σ H _ _ ok hd fun x d F1 a1 H1 g1 q1 r1 => ?_⟩
  split at r1
  · rename_i z
    refine ⟨⟨z, q1⟩, l2 B hω F1 a1 σ H1 _ _ g1.ok r1 fun y f F2 a2 H2 g2 q2 r2 => ?_⟩
    split at r2
    · rename_i s
      rw [show y = V.str s from q2]
      exact ⟨z, s, q1, rfl, r2.1.1, r2.1.2, fun p hp => Go.list ok (.trans ok g1 g2) hp (datS _) r2.2 k⟩
    · exact r2.elim
  · exact r1.elim
/-! isinstance with written classes -/
inductive Ty where
  | non | bl | int | str | lst | tup | dic
deriving DecidableEq
def Ty.nm : Ty → String
  | .non => "NoneType"
  | .bl => "bool"
  | .int => "int"
  | .str => "str"
  | .lst => "list"
  | .tup => "tuple"
  | .dic => "dict"
def Ty.sub : Ty → Ty → Bool
  | .non, .non => true
  | .bl, .bl => true
  | .bl, .int => true
  | .int, .int => true
  | .str, .str => true
  | .lst, .lst => true
  | .tup, .tup => true
  | .dic, .dic => true
  | _, _ => false
theorem kit_tab (t u : Ty) (h : u ≠ .non) : kitB t.nm u.nm = some (t.sub u) := by
  cases u with
  | non => exact absurd rfl h
  | _ => cases t <;> decide +kernel
/-- a thing's built-in class -/
def tyD : D → Option Ty
  | .v .non => some .non
  | .v (.bl _) => some .bl
  | .v (.int _) => some .int
  | .v (.str _) => some .str
  | .lst _ => some .lst
  | .tup _ => some .tup
  | .ctup _ => some .tup
  | .ftup _ => some .tup
  | .dK _ => some .dic
  | .dT _ => some .dic
  | _ => none
theorem tyD_of {d : D} {x : V} {t : Ty} (s : Same G H) (h : Dat K G d x) (e : tyD d = some t) : TyX K H x (.type t.nm) := by
  cases d with
  | v y =>
    rw [show x = y from h]
    cases y with
    | non => cases e; exact .base .non
    | bl b => cases e; exact .base (.bl b)
    | int b => cases e; exact .base (.int b)
    | str b => cases e; exact .base (.str b)
    | _ => cases e
  | tup ds =>
    cases e
    obtain ⟨a, vs, rfl, h1, _⟩ := h
    exact .base (.tup (s _ _ h1))
  | ctup ds =>
    cases e
    obtain ⟨a, vs, rfl, h1, _⟩ := h
    rcases h1 with (h1 | ⟨o, h1⟩) | ⟨o, its, n, h1, h2, _⟩
    · exact .base (.tup (s _ _ h1))
    · exact .fTuple (s _ _ h1)
    · exact .kTuple h1 h2
  | ftup ds =>
    cases e
    obtain ⟨a, vs, rfl, ⟨o, h1, _⟩, _⟩ := h
    exact .fTuple (s _ _ h1)
  | lst ds =>
    cases e
    obtain ⟨a, vs, rfl, h1, _⟩ := h
    exact .base (.lst (s _ _ h1))
  | dK ds =>
    cases e
    obtain ⟨a, vs, rfl, h1, _⟩ := h
    exact .base (.dK (s _ _ h1))
  | dT ds =>
    cases e
    obtain ⟨a, vs, rfl, h1, _⟩ := h
    exact .base (.dT (s _ _ h1))
  | ins _ _ => cases e
  | ob _ => cases e
def dIsi (u : Ty) (de : DEt) : DEt := fun a R => de a fun d a' => match tyD d with
  | some t => R (.v (.bl (t.sub u))) a'
  | none => False
theorem de_isi (u : Ty) {x y : Str} {p p' : Pos} (hu : u ≠ .non) (hg : ∀ j, Gl (X j) x) (hm : ∀ j, (X j).mg x = none) (hx : x = "isinstance") (hg' : ∀ j, Gl (X j) y) (hm' : ∀ j, (X j).mg y = none) (hy : bootBuiltins y = some (.type u.nm)) (ha : DB X K ω e de)
    (hn : y ≠ "__name__" := by decide) (hd : (y == ("__debug__" : Str)) = false := by decide) (hs1 : ∀ j, starEach [e, .Name y p'] (X j).env = (false, eval e (X j).env) :: starEach [.Name y p'] (X j).env := by intro _; rfl) (hs2 : ∀ j, starEach [.Name y p'] (X j).env = (false, eval (.Name y p') (X j).env) :: starEach [] (X j).env := by intro _; rfl)
    (hpl : ∀ j, (backTo pos (starEach [.Name y p'] (X j).env)).any (·.1) = false := by intro _; rfl) (hK : ∀ j, (X j).K = K := by intro _; rfl) : DX X K ω (.Call (.Name x p) [e, .Name y p'] [] pos) (dIsi u de) := by
  obtain ⟨t, p1, l⟩ := ha
  subst hx
  refine ⟨tCB (rIsi K) (tCons t (tCons (tC (.ty u.nm)) tNil)), fun j => by rw [← hK j]; exact pe_callB call_isi (hg j) (hm j) (by decide +kernel) (pa_cons (p1 j) (pa_cons (pe_bltn (hg' j) (hm' j) hy rfl hn hd) pa_nil (hs2 j)) (hs1 j)) (by decide) (by decide) (hs1 j) (hpl j), fun B hω F a σ H Q R ok hd k => l B hω F a σ H _ _ ok hd fun v d F1 a1 H1 g1 q1 r1 => ?_⟩
  split at r1
  · rename_i t e
    exact ⟨v, _, _, _, _, rfl, .ty _, tyD_of hs_same q1 e, by rw [kit_ty]; exact kit_tab t u hu, k _ (.v _) F1 a1 H1 g1 rfl r1⟩
  · exact r1.elim
def dIsi2 (u u' : Ty) (de : DEt) : DEt := fun a R => de a fun d a' => match tyD d with
  | some t => R (.v (.bl (t.sub u || t.sub u'))) a'
  | none => False
theorem de_isi2 (u u' : Ty) {x y z : Str} {p p1 p2 p3 : Pos} {k0} (hu : u ≠ .non) (hu' : u' ≠ .non) (hg : ∀ j, Gl (X j) x) (hm : ∀ j, (X j).mg x = none) (hx : x = "isinstance") (hg' : ∀ j, Gl (X j) y) (hm' : ∀ j, (X j).mg y = none) (hy : bootBuiltins y = some (.type u.nm)) (hg'' : ∀ j, Gl (X j) z) (hm'' : ∀ j, (X j).mg z = none) (hz : bootBuiltins z = some (.type u'.nm)) (ha : DB X K ω e de)
    (hn : y ≠ "__name__" := by decide) (hd : (y == ("__debug__" : Str)) = false := by decide) (hn' : z ≠ "__name__" := by decide) (hd' : (z == ("__debug__" : Str)) = false := by decide)
    (hs1 : ∀ j, starEach [e, .Tuple [.Name y p1, .Name z p2] k0 p3] (X j).env = (false, eval e (X j).env) :: starEach [.Tuple [.Name y p1, .Name z p2] k0 p3] (X j).env := by intro _; rfl) (hs2 : ∀ j, starEach [.Tuple [.Name y p1, .Name z p2] k0 p3] (X j).env = (false, eval (.Tuple [.Name y p1, .Name z p2] k0 p3) (X j).env) :: starEach [] (X j).env := by intro _; rfl)
    (hs3 : ∀ j, starEach [.Name y p1, .Name z p2] (X j).env = (false, eval (.Name y p1) (X j).env) :: starEach [.Name z p2] (X j).env := by intro _; rfl) (hs4 : ∀ j, starEach [.Name z p2] (X j).env = (false, eval (.Name z p2) (X j).env) :: starEach [] (X j).env := by intro _; rfl)
    (hpl : ∀ j, (backTo pos (starEach [.Tuple [.Name y p1, .Name z p2] k0 p3] (X j).env)).any (·.1) = false := by intro _; rfl) (hK : ∀ j, (X j).K = K := by intro _; rfl) : DX X K ω (.Call (.Name x p) [e, .Tuple [.Name y p1, .Name z p2] k0 p3] [] pos) (dIsi2 u u' de) := by
  obtain ⟨t, q, l⟩ := ha
  subst hx
  refine ⟨tCB (rIsiT K) (tCons t (tCons (tTup (tCons (tC (.ty u.nm)) (tCons (tC (.ty u'.nm)) tNil))) tNil)), fun j => by rw [← hK j]; exact pe_callB call_isiT (hg j) (hm j) (by decide +kernel) (pa_cons (q j) (pa_cons (pe_tup (pa_cons (pe_bltn (hg' j) (hm' j) hy rfl hn hd) (pa_cons (pe_bltn (hg'' j) (hm'' j) hz rfl hn' hd') pa_nil (hs4 j)) (hs3 j))) pa_nil (hs2 j)) (hs1 j)) (by decide) (by decide) (hs1 j) (hpl j), fun B hω F a σ H Q R ok hd k => l B hω F a σ H _ _ ok hd fun v d F1 a1 H1 g1 q1 r1 => ?_⟩
  split at r1
  · rename_i t e
    refine ⟨by show 2 ≤ sizeLine; decide, fun u0 hu0 => ?_⟩
    have g2 := g1.ok.new (o := .tup [.ty u.nm, .ty u'.nm]) hu0
    refine ⟨v, u0, _, _, _, t.sub u || t.sub u', rfl, upd_same, .cons (.ty _) (.cons (.ty _) .nil), tyD_of hs_same (q1.mono g2.bs) e, ?_, k _ (.v _) _ a1 _ (.trans ok g1 g2) rfl r1⟩
    refine kitAny_cons (by rw [kit_ty]; exact kit_tab t u hu) (fun h => ?_) fun h => by rw [h]; rfl
    rw [h]
    refine kitAny_cons (by rw [kit_ty]; exact kit_tab t u' hu') (fun h => ?_) fun h => by rw [h]; rfl
    rw [h]
    exact kitAny_nil
  · exact r1.elim
end
/-! ### dicts, and what parts of one's own tell -/
section
variable {K : PySem.W.Frag} {ω : Wp} {B : Bs K} {F F' F1 F2 G : Hp} {a a' a1 a2 : AS} {σ σ' : St} {H H' H1 H2 : Hp} {n : Int} {te : TE} {de da db dc : DEt} {ι : Type} {X : ι → Cx} {e e1 e2 e3 o : Expr} {es : List Expr} {pos : Pos} {dt : DTt} {dl dm : DAt}
/-- what stays, or one's own with parts that stay -/
def PrtS (K : PySem.W.Frag) (sp : Option Addr) (F H : Hp) (d : D) (v : V) : Prop := Dat K F d v ∨ ∃ p o, v = .ref p ∧ H p = some o ∧ sp ≠ some p ∧ Rep K F d o
def LPS (K : PySem.W.Frag) (ω : Wp) (te : TE) (de : DEt) : Prop := ∀ (B : Bs K), WOk B ω → ∀ (F : Hp) (a : AS) (σ : St) (H : Hp) (Q : VK) (R : D → AS → Prop), Ok B F a σ H → de a R →
  (∀ v d F' a' H', Go B σ F a H F' a' H' → PrtS K B.sp F' H' d v → R d a' → Q v H') → te σ H Q
def DPS {ι : Type} (X : ι → Cx) (K : PySem.W.Frag) (ω : Wp) (e : Expr) (de : DEt) : Prop := ∃ te, (∀ j, PE (X j) e te) ∧ LPS K ω te de
theorem PrtS.go {d : D} {v : V} (h : PrtS K B.sp F H d v) (g : Go B σ F a H F' a' H') : PrtS K B.sp F' H' d v := by
  rcases h with h | ⟨p, o, rfl, h1, h2, h3⟩
  · exact .inl (h.mono g.ff)
  · exact .inr ⟨p, o, rfl, g.hh p o h2 h1, h2, h3.mono g.ff⟩
theorem LE.p (h : LE K ω te de) : LPS K ω te de := fun B hω F a σ H Q R ok hd k => h B hω F a σ H Q R ok hd fun v d F' a' H' g q r => k v d F' a' H' g (.inl q) r
theorem DX.p (h : DX X K ω e de) : DPS X K ω e de := let ⟨t, p, l⟩ := h; ⟨t, p, l.p⟩
theorem lp_var {i : Nat} : LPS K ω (tVar i) (dVarB i) := fun B hω F a σ H Q R ok hd k => by
  unfold dVarB at hd
  cases e : a.at i with
  | emp => rw [e] at hd; exact hd.elim
  | val d =>
    rw [e] at hd
    obtain ⟨v, h1, h2⟩ := ok.va i d (at_of' e (fun z => nomatch z))
    exact ⟨v, h1, k v d F a H (.refl ok) (.inl h2) hd⟩
  | own d =>
    rw [e] at hd
    obtain ⟨p, o, h1, h2, h3, h4, h5⟩ := ok.ow i d (at_of' e (fun z => nomatch z))
    exact ⟨_, h1, k _ d F a H (.refl ok) (.inr ⟨p, o, rfl, h2, (fun z => (ok.fi.sr p z).2.1 h4), h5⟩) hd⟩
theorem dpv (i : Nat) {x : Str} {pos : Pos} (hN : ∀ j, (X j).N[i]? = some x := by intro _; rfl) (hv : ∀ j, Vis (X j).env.scope x := by first | exact fun _ => Or.inl rfl | exact fun _ => Or.inr (Or.inl rfl) | exact fun _ => Or.inr (Or.inr rfl)) (hd : (x == ("__debug__" : Str)) = false := by decide)
    (hcd : (x == ("__classdict__" : Str)) = false := by decide) : DPS X K ω (.Name x pos) (dVarB i) := ⟨_, fun j => pe_var (hN j) (hv j) hd hcd, lp_var⟩
/-! an item of a part -/
theorem ix_prt {sp : Option Addr} {x y : V} {d f : D} {Q : VK} {R : D → Prop} (s : Same F H) (hx : PrtS K sp F H d x) (hy : Dat K G f y) (hf : isV f = true) (h : dIx d f R) (k : ∀ v g, Dat K F g v → R g → Q v H) : rIx K x y H Q := by
  have hy' : Dat K F f y := by
    cases f with
    | v z => exact hy
    | _ => cases hf
  rcases hx with hx | ⟨p, o, rfl, h1, _, h3⟩
  · exact ix_dat s hx hy' h k
  · cases d with
    | lst ds =>
      obtain ⟨vs, rfl, h4⟩ := h3
      unfold dIx at h
      split at h
      · rename_i ds' i e
        cases e
        obtain ⟨g, e, r⟩ := opt_of h
        obtain ⟨v, e1, e2⟩ := atI_dat h4 e
        exact .inl ⟨p, vs, i, v, rfl, hy', SqL.of h1, e1, k v g e2 r⟩
      · rename_i e; cases e
      · rename_i e; cases e
      · rename_i e; cases e
      · rename_i e; cases e
      · exact h.elim
    | _ => first | exact h3.elim | exact h.elim
theorem de_ixP (ha : DPS X K ω e1 da) (hb : DB X K ω e2 db) (hs : PlainIx e2) (hK : ∀ j, (X j).K = K := by intro _; rfl) : DX X K ω (.Subscript e1 e2 pos) (dOp dIx da (dFlat db)) := by
  obtain ⟨ta, p1, l1⟩ := ha
  obtain ⟨tb, p2, l2⟩ := hb
  refine ⟨tOp (rIx K) ta tb, fun j => by rw [← hK j]; exact pe_ix ix_seq (p1 j) (p2 j) hs, fun B hω F a σ H Q R ok hd k => l1 B hω F a σ H _ _ ok hd fun v d F1 a1 H1 g1 q1 r1 => l2 B hω F1 a1 σ H1 _ _ g1.ok r1 fun w f F2 a2 H2 g2 q2 r2 => ?_⟩
  exact ix_prt g2.ok.fi.fh (q1.go g2) q2 r2.1 r2.2 fun v g q r => k v g F2 a2 H2 (.trans ok g1 g2) q r
/-! keys -/
def keyD : D → Option Key
  | .v (.int i) => some (.inl i)
  | .v (.str x) => some (.inr x)
  | _ => none
def keysD : List D → Option (List Key)
  | [] => some []
  | d :: ds => (keyD d).bind fun k => (keysD ds).map (k :: ·)
theorem keyD_of {d : D} {v : V} {k : Key} (h : Dat K H d v) (e : keyD d = some k) : v = kV k := by
  unfold keyD at e
  split at e
  · cases e; exact h
  · cases e; exact h
  · cases e
theorem keysD_of : ∀ {ds : List D} {vs : List V} {ks : List Key}, DatL K H ds vs → keysD ds = some ks → vs = ks.map kV
  | [], _, _, h, e => by cases e; exact h
  | d :: ds, _, _, ⟨v, r, rfl, h, t⟩, e => by
    obtain ⟨k, e1, e2⟩ := Option.bind_eq_some_iff.mp e
    obtain ⟨ks, e3, rfl⟩ := Option.map_eq_some_iff.mp e2
    rw [keyD_of h e1, keysD_of t e3]
    rfl
def getA {κ : Type} [DecidableEq κ] (kvs : List (κ × D)) (k : κ) : Option D := (kvs.find? fun kv => decide (kv.1 = k)).map (·.2)
def putA {κ : Type} [DecidableEq κ] (kvs : List (κ × D)) (k : κ) (d : D) : List (κ × D) := if (kvs.any fun kv => decide (kv.1 = k)) = true then kvs.map (fun kv => if kv.1 = k then (kv.1, d) else kv) else kvs ++ [(k, d)]
def mergeA (kvs more : List (Key × D)) : List (Key × D) := more.foldl (fun acc kv => putA acc kv.1 kv.2) kvs
section
variable {κ : Type} [DecidableEq κ] {kvs : List (κ × D)} {vs : List (κ × V)}
theorem pk_get (h : PK K H kvs vs) (k : κ) : match getA kvs k with
    | none => valV vs k = none
    | some d => ∃ v, valV vs k = some v ∧ Dat K H d v := by
  induction h with
  | nil => rfl
  | @cons p q l m h t ih =>
    obtain ⟨p1, p2⟩ := p
    obtain ⟨q1, q2⟩ := q
    obtain ⟨h1, h2⟩ := h
    cases (show p1 = q1 from h1)
    unfold getA valV at ih ⊢
    rw [List.find?_cons, List.find?_cons]
    by_cases z : p1 = k
    · simp only [decide_eq_true z]
      exact ⟨q2, rfl, h2⟩
    · simp only [decide_eq_false z]
      exact ih
theorem pk_any (h : PK K H kvs vs) (k : κ) : (vs.any fun kv => decide (kv.1 = k)) = (kvs.any fun kv => decide (kv.1 = k)) := by
  induction h with
  | nil => rfl
  | @cons p q l m h t ih => rw [List.any_cons, List.any_cons, ih, show p.1 = q.1 from h.1]
theorem pk_app {kvs' : List (κ × D)} {vs' : List (κ × V)} (h : PK K H kvs vs) (h' : PK K H kvs' vs') : PK K H (kvs ++ kvs') (vs ++ vs') := by
  induction h with
  | nil => exact h'
  | cons h t ih => exact .cons h ih
theorem pk_put {k : κ} {d : D} {v : V} (h : PK K H kvs vs) (hv : Dat K H d v) : PK K H (putA kvs k d) (putK vs k v) := by
  unfold putA putK
  rw [pk_any h k]
  split
  · rename_i z
    clear z
    induction h with
    | nil => exact .nil
    | @cons p q l m h t ih =>
      refine .cons ?_ ih
      obtain ⟨p1, p2⟩ := p
      obtain ⟨q1, q2⟩ := q
      obtain ⟨h1, h2⟩ := h
      cases (show p1 = q1 from h1)
      by_cases z : p1 = k
      · simp only [if_pos z]
        exact ⟨trivial, hv⟩
      · simp only [if_neg z]
        exact ⟨trivial, h2⟩
  · exact pk_app h (.cons ⟨rfl, hv⟩ .nil)
theorem pk_len (h : PK K H kvs vs) : vs.length = kvs.length := by
  induction h with
  | nil => rfl
  | cons h t ih => rw [List.length_cons, List.length_cons, ih]
theorem pk_mono (s : Same H H') (h : PK K H kvs vs) : PK K H' kvs vs := by
  induction h with
  | nil => exact .nil
  | cons h t ih => exact .cons ⟨h.1, h.2.mono s⟩ ih
theorem pk_keys (h : PK K H kvs vs) : vs.map (·.1) = kvs.map (·.1) := by
  induction h with
  | nil => rfl
  | cons h t ih => rw [List.map_cons, List.map_cons, ih, show _ = _ from h.1]
end
theorem pk_merge {more : List (Key × D)} {vs : List (Key × V)} (h : PK K H more vs) : ∀ {kvs : List (Key × D)} {us : List (Key × V)}, PK K H kvs us → PK K H (mergeA kvs more) (mergeK us vs) := by
  induction h with
  | nil => exact fun h => h
  | @cons p q l m h t ih =>
    intro kvs us h'
    obtain ⟨p1, p2⟩ := p
    obtain ⟨q1, q2⟩ := q
    obtain ⟨h1, h2⟩ := h
    cases (show p1 = q1 from h1)
    exact ih (pk_put h' h2)
/-! a look -/
def dGetR (d e : D) (R : Option D → Prop) : Prop := match d with
  | .dK kvs => (match keyD e with
    | some k => R (getA kvs k)
    | none => False)
  | .dT kvs => (match e with
    | .tup ds => (match keysD ds with
      | some k => R (getA kvs k)
      | none => False)
    | _ => False)
  | _ => False
def isDk : D → Bool
  | .dK _ => true
  | .dT _ => true
  | _ => false
theorem prt_isD {sp : Option Addr} {d : D} {x : V} (s : Same F H) (h : PrtS K sp F H d x) (hd : isDk d = true) : ∃ p, x = .ref p ∧ IsD H p := by
  rcases h with h | ⟨p, o, rfl, h1, _, h3⟩
  · cases d with
    | dK kvs =>
      obtain ⟨p, vs, rfl, h1, _⟩ := h
      exact ⟨p, rfl, .inl ⟨vs, .inl (s _ _ h1)⟩⟩
    | dT kvs =>
      obtain ⟨p, vs, rfl, h1, _⟩ := h
      exact ⟨p, rfl, .inr ⟨vs, .inl (s _ _ h1)⟩⟩
    | _ => cases hd
  · cases d with
    | dK kvs =>
      obtain ⟨vs, rfl, _⟩ := h3
      exact ⟨p, rfl, .inl ⟨vs, .inl h1⟩⟩
    | dT kvs =>
      obtain ⟨vs, rfl, _⟩ := h3
      exact ⟨p, rfl, .inr ⟨vs, .inl h1⟩⟩
    | _ => cases hd
theorem prt_dK {sp : Option Addr} {kvs : List (Key × D)} {x : V} (s : Same F H) (h : PrtS K sp F H (.dK kvs) x) : ∃ p vs, x = .ref p ∧ H p = some (.dK vs) ∧ PK K F kvs vs := by
  rcases h with ⟨p, vs, rfl, h1, h2⟩ | ⟨p, o, rfl, h1, _, vs, rfl, h2⟩
  · exact ⟨p, vs, rfl, s _ _ h1, datK_pk.mp h2⟩
  · exact ⟨p, vs, rfl, h1, datK_pk.mp h2⟩
theorem prt_dT {sp : Option Addr} {kvs : List (List Key × D)} {x : V} (s : Same F H) (h : PrtS K sp F H (.dT kvs) x) : ∃ p vs, x = .ref p ∧ H p = some (.dT vs) ∧ PK K F kvs vs := by
  rcases h with ⟨p, vs, rfl, h1, h2⟩ | ⟨p, o, rfl, h1, _, vs, rfl, h2⟩
  · exact ⟨p, vs, rfl, s _ _ h1, datT_pk.mp h2⟩
  · exact ⟨p, vs, rfl, h1, datT_pk.mp h2⟩
theorem prt_lst {sp : Option Addr} {ds : List D} {x : V} (s : Same F H) (h : PrtS K sp F H (.lst ds) x) : ∃ p vs, x = .ref p ∧ H p = some (.lst vs) ∧ DatL K F ds vs := by
  rcases h with ⟨p, vs, rfl, h1, h2⟩ | ⟨p, o, rfl, h1, _, vs, rfl, h2⟩
  · exact ⟨p, vs, rfl, s _ _ h1, h2⟩
  · exact ⟨p, vs, rfl, h1, h2⟩
theorem dget_of {sp : Option Addr} {d f : D} {x y : V} {R : Option D → Prop} (s : Same F H) (s' : Same G H) (hx : PrtS K sp F H d x) (hy : Dat K G f y) (h : dGetR d f R) : ∃ p ov od, x = .ref p ∧ DGet H p y ov ∧ R od ∧ match od with
    | none => ov = none
    | some g => ∃ v, ov = some v ∧ Dat K F g v := by
  unfold dGetR at h
  split at h
  · rename_i kvs
    split at h
    · rename_i k e
      obtain ⟨p, vs, rfl, h1, h2⟩ := prt_dK s hx
      refine ⟨p, _, _, rfl, .inl ⟨vs, k, .inl h1, keyD_of hy e, rfl⟩, h, ?_⟩
      have := pk_get h2 k
      cases z : getA kvs k with
      | none => rw [z] at this; exact this
      | some g => rw [z] at this; exact this
    · exact h.elim
  · rename_i kvs
    split at h
    · rename_i ds
      split at h
      · rename_i k e
        obtain ⟨p, vs, rfl, h1, h2⟩ := prt_dT s hx
        obtain ⟨b, us, rfl, h3, h4⟩ := hy
        rw [keysD_of h4 e] at h3
        refine ⟨p, _, _, rfl, .inr ⟨vs, k, b, .inl h1, rfl, s' _ _ h3, rfl⟩, h, ?_⟩
        have := pk_get h2 k
        cases z : getA kvs k with
        | none => rw [z] at this; exact this
        | some g => rw [z] at this; exact this
      · exact h.elim
    · exact h.elim
  · exact h.elim
def dDGet (da db : DEt) : DEt := fun a R => da a fun x a1 => db a1 fun y a2 => dGetR x y fun o => opt o fun d => R d a2
theorem de_dget (hu : ∀ j, (X j).A.units + 1 < cLine) (ha : DPS X K ω e1 da) (hb : DB X K ω e2 db) (hs : NoSl e2) : DX X K ω (.Subscript e1 e2 pos) (dDGet da db) := by
  obtain ⟨ta, p1, l1⟩ := ha
  obtain ⟨tb, p2, l2⟩ := hb
  refine ⟨_, fun j => pe_dget (hu j) (p1 j) (p2 j) hs, fun B hω F a σ H Q R ok hd k => l1 B hω F a σ H _ _ ok hd fun v d F1 a1 H1 g1 q1 r1 => l2 B hω F1 a1 σ H1 _ _ g1.ok r1 fun w f F2 a2 H2 g2 q2 r2 => ?_⟩
  obtain ⟨p, ov, od, rfl, h1, h2, h3⟩ := dget_of g2.ok.fi.fh hs_same (q1.go g2) q2 r2
  obtain ⟨g, rfl, r⟩ := opt_of h2
  obtain ⟨v, rfl, h4⟩ := h3
  exact ⟨p, v, rfl, h1, k v g F2 a2 H2 (.trans ok g1 g2) h4 r⟩
def dDGet1 (da db : DEt) : DEt := fun a R => da a fun x a1 => isDk x = true ∧ db a1 fun y a2 => dGetR x y fun o => R (o.getD (.v .non)) a2
theorem de_dget1 {apos cpos : Pos} (hu : ∀ j, (X j).A.units + 1 < cLine) (ha : DPS X K ω o da) (hb : DB X K ω e db) (m : ∀ j, M1 (X j) o "get" apos e cpos) : DX X K ω (.Call (.Attribute o "get" apos) [e] [] cpos) (dDGet1 da db) := by
  obtain ⟨ta, p1, l1⟩ := ha
  obtain ⟨tb, p2, l2⟩ := hb
  refine ⟨_, fun j => pe_dget1 (hu j) (p1 j) (p2 j) (m j), fun B hω F a σ H Q R ok hd k => l1 B hω F a σ H _ _ ok hd fun v d F1 a1 H1 g1 q1 r1 => ?_⟩
  obtain ⟨p, rfl, hD⟩ := prt_isD g1.ok.fi.fh q1 r1.1
  refine ⟨p, rfl, hD, l2 B hω F1 a1 σ H1 _ _ g1.ok r1.2 fun w f F2 a2 H2 g2 q2 r2 => ?_⟩
  obtain ⟨p', ov, od, e, h1, h2, h3⟩ := dget_of g2.ok.fi.fh hs_same (q1.go g2) q2 r2
  cases e
  refine ⟨ov, h1, ?_⟩
  cases od with
  | none => rw [show ov = none from h3]; exact k .non (.v .non) F2 a2 H2 (.trans ok g1 g2) rfl h2
  | some g =>
    obtain ⟨v, rfl, h4⟩ := h3
    exact k v g F2 a2 H2 (.trans ok g1 g2) h4 h2
def dDGet2 (da db dc : DEt) : DEt := fun a R => da a fun x a1 => isDk x = true ∧ db a1 fun y a2 => dc a2 fun z a3 => dGetR x y fun o => R (o.getD z) a3
theorem de_dget2 {apos cpos : Pos} {f : Expr} (hu : ∀ j, (X j).A.units + 1 < cLine) (ha : DPS X K ω o da) (hb : DB X K ω e db) (hc : DX X K ω f dc) (m : ∀ j, M2 (X j) o "get" apos e f cpos) : DX X K ω (.Call (.Attribute o "get" apos) [e, f] [] cpos) (dDGet2 da db dc) := by
  obtain ⟨ta, p1, l1⟩ := ha
  obtain ⟨tb, p2, l2⟩ := hb
  obtain ⟨tc, p3, l3⟩ := hc
  refine ⟨_, fun j => pe_dget2 (hu j) (p1 j) (p2 j) (p3 j) (m j), fun B hω F a σ H Q R ok hd k => l1 B hω F a σ H _ _ ok hd fun v d F1 a1 H1 g1 q1 r1 => ?_⟩
  obtain ⟨p, rfl, hD⟩ := prt_isD g1.ok.fi.fh q1 r1.1
  refine ⟨p, rfl, hD, l2 B hω F1 a1 σ H1 _ _ g1.ok r1.2 fun w f F2 a2 H2 g2 q2 r2 => l3 B hω F2 a2 σ H2 _ _ g2.ok r2 fun z dz F3 a3 H3 g3 q3 r3 => ?_⟩
  obtain ⟨p', ov, od, e, h1, h2, h3⟩ := dget_of g3.ok.fi.fh hs_same ((q1.go g2).go g3) (q2.mono g3.bs) r3
  cases e
  refine ⟨ov, h1, ?_⟩
  have g := Go.trans ok g1 (.trans g1.ok g2 g3)
  cases od with
  | none => rw [show ov = none from h3]; exact k z dz F3 a3 H3 g q3 h2
  | some g' =>
    obtain ⟨v, rfl, h4⟩ := h3
    exact k v g' F3 a3 H3 g h4 h2
def dDIn (neg : Bool) (da db : DEt) : DEt := fun a R => da a fun y a1 => db a1 fun x a2 => dGetR x y fun o => R (.v (.bl (nb neg o.isSome))) a2
theorem le_din {ta tb : TE} (l1 : LB K ω ta da) (l2 : LPS K ω tb db) : LE K ω (tDIn ta tb) (dDIn false da db) := fun B hω F a σ H Q R ok hd k => l1 B hω F a σ H _ _ ok hd fun w f F1 a1 H1 g1 q1 r1 => l2 B hω F1 a1 σ H1 _ _ g1.ok r1 fun v d F2 a2 H2 g2 q2 r2 => by
  obtain ⟨p, ov, od, rfl, h1, h2, h3⟩ := dget_of g2.ok.fi.fh hs_same q2 (q1.mono g2.bs) r2
  refine ⟨p, ov, rfl, h1, k _ _ F2 a2 H2 (.trans ok g1 g2) ?_ h2⟩
  cases od with
  | none => rw [show ov = none from h3]; rfl
  | some g =>
    obtain ⟨v, rfl, _⟩ := h3
    rfl
theorem le_dnotin {ta tb : TE} (l1 : LB K ω ta da) (l2 : LPS K ω tb db) : LE K ω (tDNotIn ta tb) (dDIn true da db) := fun B hω F a σ H Q R ok hd k => l1 B hω F a σ H _ _ ok hd fun w f F1 a1 H1 g1 q1 r1 => l2 B hω F1 a1 σ H1 _ _ g1.ok r1 fun v d F2 a2 H2 g2 q2 r2 => by
  obtain ⟨p, ov, od, rfl, h1, h2, h3⟩ := dget_of g2.ok.fi.fh hs_same q2 (q1.mono g2.bs) r2
  refine ⟨p, ov, rfl, h1, k _ _ F2 a2 H2 (.trans ok g1 g2) ?_ h2⟩
  cases od with
  | none => rw [show ov = none from h3]; rfl
  | some g =>
    obtain ⟨v, rfl, _⟩ := h3
    rfl
theorem de_din (hu : ∀ j, (X j).A.units + 1 < cLine) (ha : DB X K ω e1 da) (hb : DPS X K ω e2 db) (hm : behindInMarks .In e2 = false := by rfl) : DX X K ω (.Compare e1 [.In] [e2] pos) (dDIn false da db) := by
  obtain ⟨ta, p1, l1⟩ := ha
  obtain ⟨tb, p2, l2⟩ := hb
  exact ⟨_, fun j => pe_cmp (pc_din (hu j) (p1 j) (p2 j)) hm, le_din l1 l2⟩
theorem de_dnotin (hu : ∀ j, (X j).A.units + 1 < cLine) (ha : DB X K ω e1 da) (hb : DPS X K ω e2 db) (hm : behindInMarks .NotIn e2 = false := by rfl) : DX X K ω (.Compare e1 [.NotIn] [e2] pos) (dDIn true da db) := by
  obtain ⟨ta, p1, l1⟩ := ha
  obtain ⟨tb, p2, l2⟩ := hb
  exact ⟨_, fun j => pe_cmp (pc_dnotin (hu j) (p1 j) (p2 j)) hm, le_dnotin l1 l2⟩
theorem lc_b {te : TE} (l : LE K ω te de) : LC K ω (tB te) (dTest de) := fun B hω F a σ H Q R ok hd k => l B hω F a σ H _ _ ok hd fun v d F' a' H' g q hR => by
  obtain ⟨b, rfl, hR⟩ := asB_of hR
  exact ⟨b, q, k b F' a' H' g hR⟩
theorem dt_din (hu : ∀ j, (X j).A.units + 1 < cLine) (ha : DB X K ω e1 da) (hb : DPS X K ω e2 db) (hm : behindInMarks .In e2 = false := by rfl) : DT X K ω (.Compare e1 [.In] [e2] pos) (dTest (dDIn false da db)) := by
  obtain ⟨ta, p1, l1⟩ := ha
  obtain ⟨tb, p2, l2⟩ := hb
  exact ⟨_, fun j => pt_cmp (pc_din (hu j) (p1 j) (p2 j)) hm, lc_b (le_din l1 l2)⟩
theorem dt_dnotin (hu : ∀ j, (X j).A.units + 1 < cLine) (ha : DB X K ω e1 da) (hb : DPS X K ω e2 db) (hm : behindInMarks .NotIn e2 = false := by rfl) : DT X K ω (.Compare e1 [.NotIn] [e2] pos) (dTest (dDIn true da db)) := by
  obtain ⟨ta, p1, l1⟩ := ha
  obtain ⟨tb, p2, l2⟩ := hb
  exact ⟨_, fun j => pt_cmp (pc_dnotin (hu j) (p1 j) (p2 j)) hm, lc_b (le_dnotin l1 l2)⟩
/-! a new dict -/
theorem Go.newD (ok : Ok B F a σ H) (g1 : Go B σ F a H F1 a1 H1) {p : Addr} {d : D} {ho : HO} (hp : H1 p = none) (q : Rep K F1 d ho) {Q : VK} {R : D → AS → Prop} (r : R d a1)
    (k : ∀ p o d F' a' H', Go B σ F a H F' a' H' → H p = none → F' p = none → H' p = some o → Rep K F' d o → R d a' → Q (.ref p) H') : Q (.ref p) (upd H1 p ho) := by
  have g2 := g1.ok.newO (o := ho) hp
  have h0 : H p = none := by
    cases e : H p with
    | none => rfl
    | some o =>
      have n := (g1.ok.here hp).2.2.1
      rw [g1.hh p o n e] at hp
      cases hp
  exact k p ho d F1 a1 _ (.trans ok g1 g2) h0 (g1.ok.here hp).1 upd_same q r
theorem do_dnewK {pos : Pos} : DO X K ω (.Dict [] [] pos) (fun a R => R (.dK []) a) := ⟨_, fun _ => pe_dnewK, fun B hω F a σ H Q R ok hd k => fun p hp => Go.newD ok (.refl ok) hp (d := .dK []) ⟨[], rfl, rfl⟩ hd k⟩
theorem do_dnewT {pos : Pos} : DO X K ω (.Dict [] [] pos) (fun a R => R (.dT []) a) := ⟨_, fun _ => pe_dnewT, fun B hω F a σ H Q R ok hd k => fun p hp => Go.newD ok (.refl ok) hp (d := .dT []) ⟨[], rfl, rfl⟩ hd k⟩
/-! a display -/
abbrev DPt := AS → (List (Key × D) → AS → Prop) → Prop
def LPs (K : PySem.W.Frag) (ω : Wp) (trs : List (TE × TE)) (dp : DPt) : Prop := ∀ (B : Bs K), WOk B ω → ∀ (F : Hp) (a : AS) (σ : St) (H : Hp) (Q : List (V × V) → Hp → Prop) (R : List (Key × D) → AS → Prop), Ok B F a σ H → dp a R →
  (∀ (kvs : List (Key × V)) ds F' a' H', Go B σ F a H F' a' H' → PK K F' ds kvs → R ds a' → Q (kvs.map fun kv => (kV kv.1, kv.2)) H') → tPairs trs σ H Q
def DPs {ι : Type} (X : ι → Cx) (K : PySem.W.Frag) (ω : Wp) (pos : Pos) (keys : List (Option Expr)) (values : List Expr) (dp : DPt) : Prop := ∃ trs, (∀ j, PPs (X j) pos keys values trs) ∧ LPs K ω trs dp
def dpNil : DPt := fun a R => R [] a
def dpCons (dk dv : DEt) (dp : DPt) : DPt := fun a R => dk a fun x a1 => dv a1 fun y a2 => dp a2 fun kvs a3 => match keyD x with
  | some k => R ((k, y) :: kvs) a3
  | none => False
theorem dps_nil {pos : Pos} : DPs X K ω pos [] [] dpNil := ⟨_, fun _ => pps_nil, fun B hω F a σ H Q R ok hd k => k [] [] F a H (.refl ok) .nil hd⟩
theorem dps_cons {pos : Pos} {ks : List (Option Expr)} {vs : List Expr} {dk dv : DEt} {dp : DPt} (h1 : DX X K ω e1 dk) (h2 : DX X K ω e2 dv) (h3 : DPs X K ω pos ks vs dp) : DPs X K ω pos (some e1 :: ks) (e2 :: vs) (dpCons dk dv dp) := by
  obtain ⟨t1, p1, l1⟩ := h1
  obtain ⟨t2, p2, l2⟩ := h2
  obtain ⟨t3, p3, l3⟩ := h3
  refine ⟨_, fun j => pps_cons (p1 j) (p2 j) (p3 j), fun B hω F a σ H Q R ok hd k => l1 B hω F a σ H _ _ ok hd fun x d F1 a1 H1 g1 q1 r1 => l2 B hω F1 a1 σ H1 _ _ g1.ok r1 fun y f F2 a2 H2 g2 q2 r2 => l3 B hω F2 a2 σ H2 _ _ g2.ok r2 fun kvs ds F3 a3 H3 g3 q3 r3 => ?_⟩
  split at r3
  · rename_i kk e
    rw [keyD_of q1 e]
    exact k ((kk, y) :: kvs) ((kk, f) :: ds) F3 a3 H3 (.trans ok g1 (.trans g1.ok g2 g3)) (.cons ⟨rfl, q2.mono g3.ff⟩ q3) r3
  · exact r3.elim
def dDisp (dp : DPt) : DEt := fun a R => dp a fun kvs a' => kvs.length ≤ 15 ∧ R (.dK (mergeA [] kvs)) a'
theorem do_disp {pos : Pos} {keys : List (Option Expr)} {values : List Expr} {dp : DPt} (h : DPs X K ω pos keys values dp) (h1 : keys.all (fun x => x.isSome) = true) (h2 : keys.length = values.length) (h3 : keys ≠ []) (h4 : keys.length ≤ 15) : DO X K ω (.Dict keys values pos) (dDisp dp) := by
  obtain ⟨t, p1, l⟩ := h
  refine ⟨_, fun j => pe_disp (p1 j) h1 h2 h3 h4, fun B hω F a σ H Q R ok hd k => fun p hp => ?_⟩
  obtain ⟨nF, n0, ns, nO⟩ := ok.here hp
  have g0 := ok.newO (o := .dK []) hp
  refine l B hω F a σ _ _ _ g0.ok hd fun kvs ds F1 a1 H1 g1 q1 r1 => ?_
  have hH1 : H1 p = some (.dK []) := g1.hh p _ ns upd_same
  have f1 : F1 p = none := by
    cases q : F1 p with
    | none => rfl
    | some u =>
      rcases g1.fr p (by rw [q]; exact fun z => (nomatch z)) with z | z | z | ⟨o', w1, w2⟩
      · exact absurd nF z
      · rw [upd_same] at z
        cases z
      · exact absurd z nO
      · rw [g1.ok.fi.fh p o' w1] at hH1
        cases hH1
        cases w2
  have g01 := Go.trans ok g0 g1
  have nO1 : ¬ OwnAt a1 σ p := fun z => nO (g01.oo p z)
  refine ⟨hH1, kvs, rfl, by rw [pk_len q1]; exact r1.1, k p _ (.dK (mergeA [] ds)) F1 a1 _ ⟨g1.ok.ext f1 n0 ns nO1, g01.ff, fun b u hb hh => ?_, g01.fr, g01.oo⟩ hp f1 upd_same ⟨_, rfl, datK_pk.mpr (pk_merge q1 .nil)⟩ r1.2⟩
  rw [upd_ne (fun z => by rw [z, hp] at hh; cases hh)]
  exact g01.hh b u hb hh
/-! what one's own dict is given -/
def dPutR (s : Sl) (e d : D) (R : D → Prop) : Prop := match s with
  | .own (.dK kvs) => (match keyD e with
    | some k => kvs.length < sizeLine ∧ R (.dK (putA kvs k d))
    | none => False)
  | .own (.dT kvs) => (match e with
    | .tup ds => (match keysD ds with
      | some k => kvs.length < sizeLine ∧ R (.dT (putA kvs k d))
      | none => False)
    | _ => False)
  | _ => False
def dDPut (i : Nat) (dk dv : DEt) : DSt := fun E a => dv a fun d a1 => a1.at i ≠ .emp ∧ dk a1 fun e a2 => dPutR (a2.at i) e d fun f => E.nx (a2.put i (.own f))
theorem Ok.slot (ok : Ok B F a σ H) {i : Nat} (h : a.at i ≠ .emp) : ∃ v, σ[i]? = some (some v) := by
  cases e : a.at i with
  | emp => exact absurd e h
  | val d =>
    obtain ⟨v, h1, _⟩ := ok.va i d (at_of' e (fun z => nomatch z))
    exact ⟨v, h1⟩
  | own d =>
    obtain ⟨p, o, h1, _⟩ := ok.ow i d (at_of' e (fun z => nomatch z))
    exact ⟨_, h1⟩
theorem ds_dput {i : Nat} {x : Str} {px pos' : Pos} {ix value : Expr} {dk dv : DEt} (hu : ∀ j, (X j).A.units + 1 < cLine) (ho : ∀ j, PE (X j) (.Name x px) (tVar i)) (hk : DB X K ω ix dk) (hv : DX X K ω value dv) (hs : ∀ j, swapsWith value (some (.Subscript (.Name x px) ix pos')) pos.line (X j).env = pure false := by intro _; rfl) :
    DS X K ω (.Assign [.Subscript (.Name x px) ix pos'] value pos) (dDPut i dk dv) := by
  obtain ⟨tk, p1, l1⟩ := hk
  obtain ⟨tv, p2, l2⟩ := hv
  refine ⟨_, fun j => ps_dput (hu j) (ho j) (p1 j) (p2 j) (hs j), fun B hω E DE F a σ H ok hd k => l2 B hω F a σ H _ _ ok hd fun v d F1 a1 H1 g1 q1 r1 => ?_⟩
  obtain ⟨u, hu'⟩ := g1.ok.slot r1.1
  refine ⟨u, hu', l1 B hω F1 a1 σ H1 _ _ g1.ok r1.2 fun y e F2 a2 H2 g2 q2 r2 => ?_⟩
  unfold dPutR at r2
  split at r2
  · rename_i kvs es
    split at r2
    · rename_i kk ek
      have es' := at_of' es (fun z => nomatch z)
      obtain ⟨p, o, h1, h2, h3, h4, vs, rfl, h5⟩ := g2.ok.ow i _ es'
      rw [hu'] at h1
      cases h1
      have q1' := q1.mono g2.ff
      refine ⟨p, _, rfl, by rw [keyD_of q2 ek]; exact .k h2 (by rw [pk_len (datK_pk.mp h5)]; exact r2.1), k.nx F2 _ σ _ (g2.ok.chg (e := .dK (putA kvs kk d)) es' hu' ⟨_, rfl, datK_pk.mpr (pk_put (datK_pk.mp h5) q1')⟩) (g1.ff.trans g2.ff) r2.2⟩
    · exact r2.elim
  · rename_i kvs es
    split at r2
    · rename_i ds
      split at r2
      · rename_i kk ek
        have es' := at_of' es (fun z => nomatch z)
        obtain ⟨p, o, h1, h2, h3, h4, vs, rfl, h5⟩ := g2.ok.ow i _ es'
        rw [hu'] at h1
        cases h1
        have q1' := q1.mono g2.ff
        obtain ⟨b, us, rfl, h6, h7⟩ := q2
        rw [keysD_of h7 ek] at h6
        refine ⟨p, _, rfl, .t h2 (hs_same _ _ h6) (by rw [pk_len (datT_pk.mp h5)]; exact r2.1), k.nx F2 _ σ _ (g2.ok.chg (e := .dT (putA kvs kk d)) es' hu' ⟨_, rfl, datT_pk.mpr (pk_put (datT_pk.mp h5) q1')⟩) (g1.ff.trans g2.ff) r2.2⟩
      · exact r2.elim
    · exact r2.elim
  · exact r2.elim
/-- d.update(e), d one's own -/
def dDUpd (i : Nat) (de : DEt) : DSt := fun E a => isOwnK (a.at i) = true ∧ de a fun d a1 => match a1.at i, d with
  | .own (.dK kvs), .dK more => kvs.length + more.length ≤ sizeLine ∧ E.nx (a1.put i (.own (.dK (mergeA kvs more))))
  | _, _ => False
where isOwnK : Sl → Bool
  | .own (.dK _) => true
  | _ => false
theorem ds_dupd {i : Nat} {x : Str} {px apos cpos : Pos} (ho : ∀ j, PE (X j) (.Name x px) (tVar i)) (he : DX X K ω e de) (m : ∀ j, M1 (X j) (.Name x px) "update" apos e cpos) (hs : ∀ j, swapsWith (.Call (.Attribute (.Name x px) "update" apos) [e] [] cpos) none pos.line (X j).env = pure false := by intro _; rfl) :
    DS X K ω (.Expr (.Call (.Attribute (.Name x px) "update" apos) [e] [] cpos) pos) (dDUpd i de) := by
  obtain ⟨t, p1, l1⟩ := he
  refine ⟨tDrop (tDUpd (tVar i) t), fun j => ps_expr (pe_dupd (ho j) (p1 j) (m j)) (hs j), fun B hω E DE F a σ H ok hd k => ?_⟩
  obtain ⟨h0, hd⟩ := hd
  have h0' : ∃ kvs, a.at i = .own (.dK kvs) := by
    unfold dDUpd.isOwnK at h0
    split at h0
    · exact ⟨_, by assumption⟩
    · cases h0
  obtain ⟨kvs0, e0⟩ := h0'
  obtain ⟨p, o, h1, h2, _, _, vs0, rfl, _⟩ := ok.ow i _ (at_of' e0 (fun z => nomatch z))
  refine ⟨_, h1, p, rfl, .inl ⟨vs0, .inl h2⟩, l1 B hω F a σ H _ _ ok hd fun v d F1 a1 H1 g1 q1 r1 => ?_⟩
  split at r1
  · rename_i kvs more es
    have es' := at_of' es (fun z => nomatch z)
    obtain ⟨p', o, h1', h3, h4, h5, vs, rfl, h6⟩ := g1.ok.ow i _ es'
    rw [h1] at h1'
    cases h1'
    obtain ⟨b, us, rfl, h7, h8⟩ := q1
    refine ⟨b, vs, us, rfl, h3, g1.ok.fi.fh _ _ h7, fun z => (by rw [z, h7] at h4; cases h4), by rw [pk_len (datK_pk.mp h6), pk_len (datK_pk.mp h8)]; exact r1.1, ?_⟩
    exact k.nx F1 _ σ _ (g1.ok.chg (e := .dK (mergeA kvs more)) es' h1 ⟨_, rfl, datK_pk.mpr (pk_merge (datK_pk.mp h8) (datK_pk.mp h6))⟩) g1.ff r1.2
  · exact r1.elim
end
/-! ### errors -/
theorem XRep.mono {K : PySem.W.Frag} {F F' : Hp} {dd : Option Addr} {fs : List (Str × D)} (s : Same F F') (h : XRep K F dd fs) : XRep K F' dd fs := h.imp id fun ⟨d, vs, e, h1, h2⟩ => ⟨d, vs, e, s _ _ h1, pk_mono s h2⟩
abbrev DSpX := Option Addr → List D → Int → (D → Int → Prop) → (Addr → List (Str × D) → Int → Prop) → Prop
/-- behind a call that fails -/
def PostX (K : PySem.W.Frag) (sp : Option Addr) (F H : Hp) (E : XK) (C : Addr) (fs : List (Str × D)) (n' : Int) : Prop := ∀ (dd : Option Addr) (F' H' : Hp), Same F F' → Same F' H' → (∀ b o, sp ≠ some b → H b = some o → H' b = some o) → (∀ b, F' b ≠ none → F b ≠ none ∨ H b = none ∨ ImmA F' b) →
  (∀ p, sp = some p → F' p = none ∧ Src H' p n') → XRep K F' dd fs → E (.ref C) dd H'
def upX (K : PySem.W.Frag) (dsp : DSpX) : Sp := fun vs H Q E => ∃ (sp : Option Addr) (F : Hp) (ds : List D) (n : Int), Same F H ∧ (∀ p, sp = some p → F p = none ∧ Src H p n) ∧ DatL K F ds vs ∧ dsp sp ds n (Post K sp F H Q) (PostX K sp F H E)
theorem upX_len {K : PySem.W.Frag} {dsp : DSpX} {m : Nat} (h : ∀ sp ds n R RX, dsp sp ds n R RX → ds.length = m) (vs : List V) (H : Hp) (Q : VK) (E : XK) : upX K dsp vs H Q E → vs.length = m := fun ⟨sp, F, ds, n, _, _, L, q⟩ => by
  rw [L.len]
  exact h sp ds n _ _ q
/-- the wish of a def that may fail -/
def wpX (K : PySem.W.Frag) (sp : Option Addr) (F H : Hp) (E : XK) : Wp := ⟨fun cls dd _ H' => E cls dd H', fun C fs _ n => PostX K sp F H E C fs n, fun _ => True, false⟩
theorem d_runX {K : PySem.W.Frag} {sp : Option Addr} {F H : Hp} {ds : List D} {vs : List V} {n : Int} {Q : VK} {E : XK} {X : Cx} {body : List Stmt} {N : List Str} {d : DSt} (h : DSs (fun _ : Unit => X) K (wpX K sp F H E) body d) (s : Same F H) (src : ∀ p, sp = some p → F p = none ∧ Src H p n) (L : DatL K F ds vs)
    {sl : List Sl} (hsl : sl = (dstart N ds n sp).sl) (hd : d { nx := fun a => Post K sp F H Q (.v .non) a.n, rt := Post K sp F H Q } ⟨sl, n, sp⟩) : ∃ t, PSs X body t ∧ t { nx := fun _ H' => Q .non H', rt := Q } (L2.start N vs) H := by
  obtain ⟨t, p, l⟩ := h
  subst hsl
  refine ⟨t, p (), l ⟨sp, H, F, none⟩ ⟨trivial, fun _ => rfl, fun F' a σ' H' C dd fs ok x w => ?_⟩ _ _ F _ _ H (ok_start N s src L) hd ⟨fun F' a' σ' H' ok s h => ?_, fun v d n F' H' f s q h => ?_, fun _ _ _ _ _ _ h => h.elim, fun _ _ _ _ _ _ h => h.elim⟩⟩
  · exact w dd F' H' ok.fi.ff ok.fi.fh (fun b o n h => ok.fi.fm b o h n) (fun b h => ok.fi.fr b h) (fun p e => ⟨(ok.fi.sr p e).1, (ok.fi.sr p e).2.2⟩) x
  · exact h .non F' H' s ok.fi.fh (fun b o n h => ok.fi.fm b o h n) (fun b h => ok.fi.fr b h) (fun p e => ⟨(ok.fi.sr p e).1, (ok.fi.sr p e).2.2⟩) rfl
  · exact h v F' H' s f.fh (fun b o n h => f.fm b o h n) (fun b h => f.fr b h) (fun p e => ⟨(f.sr p e).1, (f.sr p e).2.2⟩) q
def UpsX (K : PySem.W.Frag) (sp : Sp) (dsp : DSpX) : Prop := ∀ vs H Q E, upX K dsp vs H Q E → sp vs H Q E
theorem UpsX.rfl {K : PySem.W.Frag} {dsp : DSpX} : UpsX K (upX K dsp) dsp := fun _ _ _ _ h => h
def MonX (dsp : DSpX) : Prop := ∀ sp ds n (R R' : D → Int → Prop) (S S' : Addr → List (Str × D) → Int → Prop), (∀ d n', R d n' → R' d n') → (∀ C fs n', S C fs n' → S' C fs n') → dsp sp ds n R S → dsp sp ds n R' S'
abbrev DWt := Addr → List (Str × D) → List Sl → Int → Prop
section
variable {K : PySem.W.Frag} {ω : Wp} {B : Bs K} {F F' F1 F2 G : Hp} {a a' a1 a2 : AS} {σ σ' : St} {H H' H1 H2 : Hp} {n : Int} {te : TE} {de da db : DEt} {ι : Type} {X : ι → Cx} {e e1 e2 : Expr} {es : List Expr} {pos : Pos} {dt : DTt} {dl dm : DAt}
def dCallX (W : DWt) (dsp : DSpX) (dl : DAt) : DEt := fun a R => dl a fun ds a' => dsp a'.sp ds a'.n (fun d n' => R d ⟨a'.sl, n', a'.sp⟩) fun C fs n' => W C fs a'.sl n'
def dCallX0 (W : DWt) (dsp : DSpX) (dl : DAt) : DEt := fun a R => dl a fun ds a' => dsp none ds 0 (fun d _ => R d a') fun C fs _ => W C fs a'.sl a'.n
theorem le_callX {dsp : DSpX} {s : Sp} {ta : TA} (m : MonX dsp) (u : UpsX K s dsp) (l : LAE K ω ta dl) : LE K ω (tCallS s (fun σ => WE ω.W σ) ta) (dCallX ω.dW dsp dl) := fun B hω F a σ H Q R ok hd k => l B hω F a σ H _ _ ok hd fun vs ds F1 a1 H1 g1 q1 r1 => by
  rw [g1.ok.es] at r1
  refine u _ _ _ _ ⟨B.sp, F1, ds, a1.n, g1.ok.fi.fh, fun p e => ⟨(g1.ok.fi.sr p e).1, (g1.ok.fi.sr p e).2.2⟩, q1, m _ _ _ _ _ _ _ (fun d n' r => ?_) (fun C fs n' r => ?_) r1⟩
  · intro v F' H' x1 x2 x3 x4 x5 x6
    exact k v d F' _ H' (.trans ok g1 (Go.call g1.ok x1 x2 x3 x4 x5)) x6 (by rw [← g1.ok.es] at r; exact r)
  · intro dd F' H' x1 x2 x3 x4 x5 x6
    exact hω.2.2 F' ⟨a1.sl, n', a1.sp⟩ σ H' C dd fs (Go.call g1.ok x1 x2 x3 x4 x5).ok x6 r
theorem le_callX0 {dsp : DSpX} {s : Sp} {ta : TA} (m : MonX dsp) (u : UpsX K s dsp) (l : LAE K ω ta dl) : LE K ω (tCallS s (fun σ => WE ω.W σ) ta) (dCallX0 ω.dW dsp dl) := fun B hω F a σ H Q R ok hd k => l B hω F a σ H _ _ ok hd fun vs ds F1 a1 H1 g1 q1 r1 => by
  have go : ∀ F' H', Same F1 F' → Same F' H' → (∀ b o, none ≠ some b → H1 b = some o → H' b = some o) → (∀ b, F' b ≠ none → F1 b ≠ none ∨ H1 b = none ∨ ImmA F' b) → Go B σ F1 a1 H1 F' a1 H' := fun F' H' x1 x2 x3 x4 => by
    have hh : Same H1 H' := fun b o h => x3 b o (fun z => nomatch z) h
    refine Go.call g1.ok x1 x2 (fun b o _ h => hh b o h) x4 fun p e => ?_
    obtain ⟨y1, y2, y3⟩ := g1.ok.fi.sr p e
    refine ⟨?_, y3.same hh⟩
    cases q : F' p with
    | none => rfl
    | some u =>
      rcases x4 p (by rw [q]; exact fun z => (nomatch z)) with w | w | ⟨o', w1, w2⟩
      · exact absurd y1 w
      · obtain ⟨xs, z⟩ := y3.at
        rw [z] at w
        cases w
      · obtain ⟨xs, z⟩ := (y3.same hh).at
        rw [x2 p o' w1] at z
        cases z
        cases w2
  refine u _ _ _ _ ⟨none, F1, ds, 0, g1.ok.fi.fh, (fun p e => nomatch e), q1, m _ _ _ _ _ _ _ (fun d n' r => ?_) (fun C fs n' r => ?_) r1⟩
  · intro v F' H' x1 x2 x3 x4 x5 x6
    exact k v d F' a1 H' (.trans ok g1 (go F' H' x1 x2 x3 x4)) x6 r
  · intro dd F' H' x1 x2 x3 x4 x5 x6
    exact hω.2.2 F' a1 σ H' C dd fs (go F' H' x1 x2 x3 x4).ok x6 r
/-- the same with borrowed values, where nothing fails and what comes out is flat -/
def dCallXF0 (dsp : DSpX) (dl : DAt) : DEt := fun a R => dl a fun ds a' => dsp none ds 0 (fun d _ => isV d = true ∧ R d a') fun _ _ _ => False
theorem le_callXF0 {dsp : DSpX} {s : Sp} {ta : TA} (m : MonX dsp) (u : UpsX K s dsp) (l : LAB K ω ta dl) : LE K ω (tCallS s (fun σ => WE ω.W σ) ta) (dCallXF0 dsp dl) := fun B hω F a σ H Q R ok hd k => l B hω F a σ H _ _ ok hd fun vs ds F1 a1 H1 g1 q1 r1 => by
  refine u _ _ _ _ ⟨none, Hs B.sp H1, ds, 0, hs_same, (fun p e => nomatch e), q1, m _ _ _ _ _ _ _ (fun d n' r => ?_) (fun C fs n' r => r.elim) r1⟩
  intro v F' H' x1 x2 x3 x4 x5 x6
  have hh : Same H1 H' := fun b o h => x3 b o (fun z => nomatch z) h
  refine k v d F1 a1 H' (.trans ok g1 (Go.call g1.ok (Same.refl F1) (fun b o h => hh _ _ (g1.ok.fi.fh b o h)) (fun b o _ h => hh b o h) (fun b z => .inl z) fun p e => ⟨(g1.ok.fi.sr p e).1, (g1.ok.fi.sr p e).2.2.same hh⟩)) ?_ r.2
  cases d with
  | v x => exact x6
  | _ => exact absurd r.1 Bool.false_ne_true
section
variable {k : Nat} {f : Addr} {fd : FuncData} {ps : List Str} {s : Sp} {dsp : DSpX} {x : Str} {p : Pos}
theorem de_callX (m : MonX dsp) (u : UpsX K s dsp) (G : ∀ j, FnOk (X j).prog (X j).w (X j).K (X j).mg (X j).base (L2.CX (X j).prog (X j).w) k f fd ps s) (hr : ∀ j, Room k (X j).A) (hg : ∀ j, Gl (X j) x) (hm : ∀ j, (X j).mg x = some (.ref f)) (hk : ∀ j, PySem.W.keepIn (X j).K (.ref f) = true) (hb : ∀ j, Binds (X j).K fd ps []) (tk : ∀ j, Takes (X j) ω.W) (ha : DAE X K ω (e :: es) dl)
    (hdb : (x == ("__debug__" : Str)) = false := by decide) (he : ∀ j, starEach (e :: es) (X j).env = (false, eval e (X j).env) :: starEach es (X j).env := by intro _; rfl) (hpl : ∀ j, (backTo pos (starEach es (X j).env)).any (·.1) = false := by intro _; rfl) : DX X K ω (.Call (.Name x p) (e :: es) [] pos) (dCallX ω.dW dsp dl) := by
  obtain ⟨t, h, l⟩ := ha
  exact ⟨_, fun j => pe_callS (G j) (hr j) (hg j) (hm j) (hk j) (hb j) (passAt (tk j)) (h j) hdb (he j) (hpl j), le_callX m u l⟩
theorem de_callX0 (m : MonX dsp) (u : UpsX K s dsp) (G : ∀ j, FnOk (X j).prog (X j).w (X j).K (X j).mg (X j).base (L2.CX (X j).prog (X j).w) k f fd ps s) (hr : ∀ j, Room k (X j).A) (hg : ∀ j, Gl (X j) x) (hm : ∀ j, (X j).mg x = some (.ref f)) (hk : ∀ j, PySem.W.keepIn (X j).K (.ref f) = true) (hb : ∀ j, Binds (X j).K fd ps []) (tk : ∀ j, Takes (X j) ω.W) (ha : DAE X K ω (e :: es) dl)
    (hdb : (x == ("__debug__" : Str)) = false := by decide) (he : ∀ j, starEach (e :: es) (X j).env = (false, eval e (X j).env) :: starEach es (X j).env := by intro _; rfl) (hpl : ∀ j, (backTo pos (starEach es (X j).env)).any (·.1) = false := by intro _; rfl) : DX X K ω (.Call (.Name x p) (e :: es) [] pos) (dCallX0 ω.dW dsp dl) := by
  obtain ⟨t, h, l⟩ := ha
  exact ⟨_, fun j => pe_callS (G j) (hr j) (hg j) (hm j) (hk j) (hb j) (passAt (tk j)) (h j) hdb (he j) (hpl j), le_callX0 m u l⟩
theorem de_callXF0 (m : MonX dsp) (u : UpsX K s dsp) (G : ∀ j, FnOk (X j).prog (X j).w (X j).K (X j).mg (X j).base (L2.CX (X j).prog (X j).w) k f fd ps s) (hr : ∀ j, Room k (X j).A) (hg : ∀ j, Gl (X j) x) (hm : ∀ j, (X j).mg x = some (.ref f)) (hk : ∀ j, PySem.W.keepIn (X j).K (.ref f) = true) (hb : ∀ j, Binds (X j).K fd ps []) (tk : ∀ j, Takes (X j) ω.W) (ha : DAB X K ω (e :: es) dl)
    (hdb : (x == ("__debug__" : Str)) = false := by decide) (he : ∀ j, starEach (e :: es) (X j).env = (false, eval e (X j).env) :: starEach es (X j).env := by intro _; rfl) (hpl : ∀ j, (backTo pos (starEach es (X j).env)).any (·.1) = false := by intro _; rfl) : DX X K ω (.Call (.Name x p) (e :: es) [] pos) (dCallXF0 dsp dl) := by
  obtain ⟨t, h, l⟩ := ha
  exact ⟨_, fun j => pe_callS (G j) (hr j) (hg j) (hm j) (hk j) (hb j) (passAt (tk j)) (h j) hdb (he j) (hpl j), le_callXF0 m u l⟩
end
/-! raise C(e) -/
def dRaise (W : DWt) (C : Addr) (f : Str) (dl : DAt) : DSt := fun _ a => dl a fun ds a' => match ds with
  | [d] => W C [(f, d)] a'.sl a'.n
  | _ => False
theorem ds_raise {C fI : Addr} {x f : Str} {p pos2 : Pos} {k : Nat} (hc : ∀ j, (X j).calm = true) (T : ∀ j, PySem.SupX.ClsTxt (X j).prog (X j).K (X j).mg C fI x) (Tf : ∀ j, PySem.SupX.FnTxt (X j).prog (X j).K C fI f) (hr : ∀ j, Room k (X j).A) (tk : ∀ j, Takes (X j) ω.W) (ha : DAE X K ω [e] dl) (hg : ∀ j, Gl (X j) x)
    (hd : (x == ("__debug__" : Str)) = false := by decide) (he : ∀ j, starEach (e :: []) (X j).env = (false, eval e (X j).env) :: starEach [] (X j).env := by intro _; rfl) (hpl : ∀ j, (backTo pos (starEach [] (X j).env)).any (·.1) = false := by intro _; rfl) :
    DS X K ω (.Raise (some (.Call (.Name x p) [e] [] pos)) none pos2) (dRaise ω.dW C f dl) := by
  obtain ⟨t, h, l⟩ := ha
  refine ⟨_, fun j => ps_raiseSup (hc j) (T j) (Tf j) (hr j) (tk j) (h j) (hg j) hd (he j) (hpl j), fun B hω E DE F a σ H ok hd k => l B hω F a σ H _ _ ok hd fun vs ds F1 a1 H1 g1 q1 r1 => ?_⟩
  split at r1
  · rename_i d
    obtain ⟨v, r, rfl, h1, h2⟩ := q1
    cases (show r = [] from h2)
    refine ⟨v, rfl, fun dd hdd => ?_⟩
    have g2 := g1.ok.new (o := .xd [(f, v)]) hdd
    exact hω.2.2 _ a1 σ _ C (some dd) [(f, d)] g2.ok (.inr ⟨dd, _, rfl, upd_same, .cons ⟨rfl, h1.mono g2.ff⟩ .nil⟩) r1
  · exact r1.elim
/-- raise C() -/
def dRaise0 (W : DWt) (C : Addr) : DSt := fun _ a => W C [] a.sl a.n
theorem ds_raise0 {C fI : Addr} {x : Str} {p pos2 : Pos} {k : Nat} (hc : ∀ j, (X j).calm = true) (T : ∀ j, PySem.SupX.ClsTxt (X j).prog (X j).K (X j).mg C fI x) (Tf : ∀ j, PySem.SupX.FnTxt0 (X j).prog (X j).K C fI) (hr : ∀ j, Room k (X j).A) (tk : ∀ j, Takes (X j) ω.W) (hg : ∀ j, Gl (X j) x)
    (hd : (x == ("__debug__" : Str)) = false := by decide) : DS X K ω (.Raise (some (.Call (.Name x p) [] [] pos)) none pos2) (dRaise0 ω.dW C) :=
  ⟨_, fun j => ps_raiseSup0 (hc j) (T j) (Tf j) (hr j) (tk j) (hg j) hd, fun B hω E DE F a σ H ok hd k => hω.2.2 F a σ H C none [] ok (.inl ⟨rfl, rfl⟩) hd⟩
/-! try with clauses -/
theorem Fi.re (f : Fi B F n H) : Fi (K := K) ⟨B.sp, B.H0, F, B.self⟩ F n H := ⟨f.fh, Same.refl F, fun _ h => .inl h, f.fm, f.sr⟩
theorem Ok.re (ok : Ok B F a σ H) : Ok (K := K) ⟨B.sp, B.H0, F, B.self⟩ F a σ H := ⟨ok.fi.re, ok.es, ok.len, ok.va, ok.ow, ok.ds, ok.fx⟩
theorem Fi.un {n' : Int} (ok : Fi B F n H) (f : Fi (K := K) ⟨B.sp, B.H0, F, B.self⟩ F' n' H') : Fi B F' n' H' := ⟨f.fh, ok.ff.trans f.ff, fun b h => (f.fr b h).elim (fun z => (ok.fr b z).imp id fun z => z.imp id fun z => z.mono f.ff) .inr, f.fm, f.sr⟩
theorem Ok.un (ok : Ok B F a σ H) (f : Ok (K := K) ⟨B.sp, B.H0, F, B.self⟩ F' a' σ' H') : Ok B F' a' σ' H' := ⟨ok.fi.un f.fi, f.es, f.len, f.va, f.ow, f.ds, f.fx⟩
/-- within a suite: what was caught is known -/
def wpS (K : PySem.W.Frag) (dd : Option Addr) (fs : List (Str × D)) : Wp := ⟨fun _ _ _ _ => True, fun _ _ _ _ => True, fun F => XRep K F dd fs, true⟩
def sufI (ι : Type) (cls : Value) (dd : Option Addr) : Type := { q : ι × Obj × List (Addr × Obj) // Zc cls dd q.2.1 ∧ ∃ vs, q.2.1.data = .fields vs }
def sufF {ι : Type} (X : ι → Cx) (xa : Addr) (cls : Value) (dd : Option Addr) : sufI ι cls dd → Cx := fun q => (X q.1.1).suite xa ((xa, q.1.2.1) :: q.1.2.2)
structure XClause where
  cls : Value
  slot : Option Nat
  oks : Addr → Prop
  run : Addr → Addr → List (Str × D) → DSt
def XClause.off (c : XClause) (a : AS) : AS := match c.slot with | none => a | some i => a.put i .emp
def XClause.ends (c : XClause) (E : DEnds) : DEnds := ⟨fun a => E.nx (c.off a), E.rt, fun a => E.bk (c.off a), fun a => E.ct (c.off a)⟩
def XClause.slots (c : XClause) (a : AS) (xa : Addr) : AS := match c.slot with | none => a | some i => a.put i (.val (.v (.ref xa)))
/-- the first clause that fits -/
def dFirst (K : PySem.W.Frag) (out : DWt) (E : DEnds) (sp : Option Addr) : List XClause → DWt
  | [] => out
  | c :: r => fun C fs sl n => (PySem.W.exmOne K (.ref C) c.cls = some true ∧ c.oks C ∧ ∀ xa : Addr, c.run C xa fs (c.ends E) (c.slots ⟨sl, n, sp⟩ xa)) ∨ (PySem.W.exmOne K (.ref C) c.cls = some false ∧ dFirst K out E sp r C fs sl n)
inductive XClauses {ι : Type} (X : ι → Cx) (K : PySem.W.Frag) : List ExceptHandler → List XClause → Prop
  | nil : XClauses X K [] []
  | cons {x : Str} {np pos : Pos} {b : Stmt} {bs : List Stmt} {n : Option Str} {hs : List ExceptHandler} {c : XClause} {cs : List XClause} :
      (∀ j, Names (X j) x c.cls) → (∀ xa C dd fs, c.oks C → DSs (sufF X xa (.ref C) dd) K (wpS K dd fs) (b :: bs) (c.run C xa fs)) →
      ((n = none ∧ c.slot = none) ∨ ∃ y i, n = some y ∧ c.slot = some i ∧ i ≠ 0 ∧ ∀ j, (X j).N[i]? = some y ∧ (X j).env.kindOf y = some .local) → XClauses X K hs cs →
      XClauses X K (.ExceptHandler (some (.Name x np)) n (b :: bs) pos :: hs) (c :: cs)
/-- the clause of the text -/
def XClause.tr {ι : Type} (X : ι → Cx) (c : XClause) (body : List Stmt) : Clause := ⟨c.cls, c.slot, fun xa cls dd D σ H => ∃ t, (∀ q : sufI ι cls dd, PSs (sufF X xa cls dd q) body t) ∧ t D σ H⟩
def hBody : ExceptHandler → List Stmt
  | .ExceptHandler _ _ b _ => b
def xtrs {ι : Type} (X : ι → Cx) : List ExceptHandler → List XClause → List Clause
  | h :: hs, c :: cs => c.tr X (hBody h) :: xtrs X hs cs
  | _, _ => []
theorem XClauses.of {hds : List ExceptHandler} {cs : List XClause} (h : XClauses X K hds cs) (j : ι) : ClausesOf (X j) hds (xtrs X hds cs) := by
  induction h with
  | nil => exact .nil
  | @cons x np pos b bs n hs c cs hn hr hsl _ ih =>
    refine .cons ⟨x, np, pos, b, bs, n, rfl, hn j, fun xa o cls dd pn hz hf => ?_, ?_⟩ ih
    · exact ⟨fun pins s σ H D I ⟨t, ht, hd⟩ => (ht ⟨(j, o, pn), hz, hf⟩).run pins s σ H D I hd⟩
    · rcases hsl with ⟨h1, h2⟩ | ⟨y, i, h1, h2, _, h3⟩
      · exact .inl ⟨h1, h2⟩
      · exact .inr ⟨y, i, h1, h2, (h3 j).1, (h3 j).2⟩
theorem dfirst_ok {hds : List ExceptHandler} {cs : List XClause} {out : Wp} {E : Ends} {DE : DEnds} (h : XClauses X K hds cs) (hout : WOk B out) (ok : Ok B F a σ H) (k : EndsOk B F DE E) :
    ∀ (F1 : Hp) (a1 : AS) (σ1 : St) (H1 : Hp) (C : Addr) (dd : Option Addr) (fs : List (Str × D)), Ok (K := K) ⟨B.sp, B.H0, F, B.self⟩ F1 a1 σ1 H1 → XRep K F1 dd fs → dFirst K out.dW DE B.sp cs C fs a1.sl a1.n → firstOf K out.W E (xtrs X hds cs) (.ref C) dd σ1 H1 := by
  intro F1 a1 σ1 H1 C dd fs ok1 x w
  induction h with
  | nil => exact hout.2.2 F1 a1 σ1 H1 C dd fs (ok.un ok1) x w
  | @cons y np pos b bs n hs c cs hn hr hsl _ ih =>
    rcases w with ⟨h1, h2, w⟩ | ⟨h1, w⟩
    · refine .inl ⟨h1, fun xa hxa => ?_⟩
      obtain ⟨t, p, l⟩ := hr xa C dd fs h2
      have hi : ∀ i, c.slot = some i → i ≠ 0 := fun i q => by
        rcases hsl with ⟨_, z⟩ | ⟨_, i', _, z, n, _⟩
        · rw [z] at q
          cases q
        · rw [z] at q
          cases q
          exact n
      refine ⟨t, p, ?_⟩
      have e1 : a1 = ⟨a1.sl, a1.n, B.sp⟩ := by rw [← ok1.es]
      have s01 : Same F F1 := ok1.fi.ff
      have okS : Ok (K := K) ⟨B.sp, B.H0, F1, B.self⟩ F1 (c.slots ⟨a1.sl, a1.n, B.sp⟩ xa) ((c.tr X (b :: bs)).slots σ1 xa) H1 := by
        have o := (ok.un ok1).re
        rw [e1] at o
        unfold XClause.slots Clause.slots XClause.tr
        cases hci : c.slot with
        | none => exact o
        | some i => exact o.setV (d := .v (.ref xa)) (fun z => absurd z (hi i hci)) rfl
      have off : ∀ {F2 a2 σ2 H2}, Ok (K := K) ⟨B.sp, B.H0, F1, B.self⟩ F2 a2 σ2 H2 → Ok B F2 (c.off a2) (match (c.tr X (b :: bs)).slot with | none => σ2 | some i => σ2.set i none) H2 := fun {F2 a2 σ2 H2} o2 => by
        have o := (ok.un ok1).un o2
        unfold XClause.off XClause.tr
        cases hci : c.slot with
        | none => exact o
        | some i => exact o.forget i none fun z => absurd z (hi i hci)
      refine l ⟨B.sp, B.H0, F1, B.self⟩ ⟨x, (fun z => nomatch z), fun _ _ _ _ _ _ _ _ _ _ => trivial⟩ _ (c.ends DE) F1 _ _ H1 okS (w xa) ⟨fun F2 a2 σ2 H2 o2 s2 r => ?_, fun v d n F2 H2 f2 s2 q r => ?_, fun F2 a2 σ2 H2 o2 s2 r => ?_, fun F2 a2 σ2 H2 o2 s2 r => ?_⟩
      · exact k.nx F2 _ _ H2 (off o2) (s01.trans s2) r
      · exact k.rt v d n F2 H2 ((ok.un ok1).fi.un f2) (s01.trans s2) q r
      · exact k.bk F2 _ _ H2 (off o2) (s01.trans s2) r
      · exact k.ct F2 _ _ H2 (off o2) (s01.trans s2) r
    · exact .inr ⟨h1, ih w⟩
/-- the body's contexts -/
def tryI (X : ι → Cx) (W : WX) : Type := { q : ι × List (Addr × Obj) × (Value → Shared → Prop) // Takes ((X q.1).tr q.2.1 q.2.2) W ∧ PassesOwn (model (X q.1).prog (X q.1).w) (X q.1).A (X q.1).env q.2.2 }
def tryF (X : ι → Cx) (W : WX) : tryI X W → Cx := fun q => (X q.1.1).tr q.1.2.1 q.1.2.2
theorem tryF_takes {W : WX} (q : tryI X W) : Takes (tryF X W q) W := q.2.1
theorem tryF_own {W : WX} (q : tryI X W) : PassesOwn (model (tryF X W q).prog (tryF X W q).w) (tryF X W q).A (tryF X W q).env (tryF X W q).xe := q.2.2
def dTry (K : PySem.W.Frag) (sf : Bool) (db : Wp → DSt) (out : DWt) (cs : List XClause) : DSt := fun E a => ∀ W : Value → Option Addr → St → Hp → Prop, db ⟨W, dFirst K out E a.sp cs, fun _ => True, sf⟩ E a
theorem ds_try {body : List Stmt} {h₀ : ExceptHandler} {hds : List ExceptHandler} {cs : List XClause} {db : Wp → DSt} {out : Wp} (hs : ∀ j, (X j).stack = (X j).env :: (X j).outer) (hf : ∀ j, (X j).env.frame = some (X j).env.locals) (hN : ∀ j, (X j).N.Nodup) (tk : ∀ j, Takes (X j) out.W) (ho : ∀ B : Bs K, WOk B ω → WOk B out)
    (hb : ∀ ω' : Wp, DSs (tryF X ω'.W) K ω' body (db ω')) (C : XClauses X K (h₀ :: hds) cs) (hK : ∀ j, (X j).K = K := by intro _; rfl) : DS X K ω (.Try body (h₀ :: hds) [] [] pos) (dTry K ω.sf db out.dW cs) := by
  refine ⟨fun E σ H => (fun W : WX => fun E σ H => ∃ t, (∀ q : tryI X W, PSs (tryF X W q) body t) ∧ t E σ H) (firstOf K out.W E (xtrs X (h₀ :: hds) cs)) E σ H, fun j => ?_, fun B hω E DE F a σ H ok hd k => ?_⟩
  · rw [← hK j]
    exact ps_clauses (hs j) (hf j) (hN j) (tk j) (tb := fun W E σ H => ∃ t, (∀ q : tryI X W, PSs (tryF X W q) body t) ∧ t E σ H) (fun W pn xe tk po => ⟨fun pins s σ H D I ⟨t, ht, hd⟩ => (ht ⟨(j, pn, xe), tk, po⟩).run pins s σ H D I hd⟩) (C.of j)
  · obtain ⟨t, p, l⟩ := hb ⟨firstOf K out.W E (xtrs X (h₀ :: hds) cs), dFirst K out.dW DE a.sp cs, fun _ => True, ω.sf⟩
    refine ⟨t, p, l ⟨B.sp, B.H0, F, B.self⟩ ⟨trivial, hω.2.1, ?_⟩ E DE F a σ H ok.re (hd _) ⟨fun F' a' σ' H' o s r => k.nx F' a' σ' H' (ok.un o) s r, fun v d n F' H' f s q r => k.rt v d n F' H' (ok.fi.un f) s q r, fun F' a' σ' H' o s r => k.bk F' a' σ' H' (ok.un o) s r, fun F' a' σ' H' o s r => k.ct F' a' σ' H' (ok.un o) s r⟩⟩
    rw [ok.es]
    exact dfirst_ok C (ho B hω) ok k
def wpN (sf : Bool) : Wp := ⟨fun _ _ _ _ => False, fun _ _ _ _ => False, fun _ => True, sf⟩
theorem ds_try0 {body : List Stmt} {h₀ : ExceptHandler} {hds : List ExceptHandler} {cs : List XClause} {db : Wp → DSt} (hs : ∀ j, (X j).stack = (X j).env :: (X j).outer) (hf : ∀ j, (X j).env.frame = some (X j).env.locals) (hN : ∀ j, (X j).N.Nodup)
    (hb : ∀ ω' : Wp, DSs (tryF X ω'.W) K ω' body (db ω')) (C : XClauses X K (h₀ :: hds) cs) (hK : ∀ j, (X j).K = K := by intro _; rfl) : DS X K ω (.Try body (h₀ :: hds) [] [] pos) (dTry K ω.sf db (fun _ _ _ _ => False) cs) :=
  ds_try (out := wpN ω.sf) hs hf hN (fun _ => takes0) (fun B h => ⟨trivial, h.2.1, fun _ _ _ _ _ _ _ _ _ z => z.elim⟩) hb C hK
theorem ds_tryX {body : List Stmt} {h₀ : ExceptHandler} {hds : List ExceptHandler} {cs : List XClause} {db : Wp → DSt} (hs : ∀ j, (X j).stack = (X j).env :: (X j).outer) (hf : ∀ j, (X j).env.frame = some (X j).env.locals) (hN : ∀ j, (X j).N.Nodup) (tk : ∀ j, Takes (X j) ω.W)
    (hb : ∀ ω' : Wp, DSs (tryF X ω'.W) K ω' body (db ω')) (C : XClauses X K (h₀ :: hds) cs) (hK : ∀ j, (X j).K = K := by intro _; rfl) : DS X K ω (.Try body (h₀ :: hds) [] [] pos) (dTry K ω.sf db ω.dW cs) :=
  ds_try (out := ω) hs hf hN tk (fun _ h => h) hb C hK
theorem XClauses.one (i : Nat) {C0 : Addr} {x y : Str} {np pos : Pos} {b : Stmt} {bs : List Stmt} {hs : List ExceptHandler} {cs : List XClause} {f : Addr → List (Str × D) → DSt} (hn : ∀ j, Names (X j) x (.ref C0)) (hr : ∀ xa dd fs, DSs (sufF X xa (.ref C0) dd) K (wpS K dd fs) (b :: bs) (f xa fs)) (hi : ∀ j, (X j).N[i]? = some y ∧ (X j).env.kindOf y = some .local) (C : XClauses X K hs cs) (h0 : i ≠ 0 := by decide) :
    XClauses X K (.ExceptHandler (some (.Name x np)) (some y) (b :: bs) pos :: hs) (⟨.ref C0, some i, fun C => C = C0, fun _ => f⟩ :: cs) :=
  .cons hn (fun xa C dd fs h => by cases h; exact hr xa dd fs) (.inr ⟨y, i, rfl, rfl, h0, hi⟩) C
theorem XClauses.one0 {C0 : Addr} {x : Str} {np pos : Pos} {b : Stmt} {bs : List Stmt} {hs : List ExceptHandler} {cs : List XClause} {f : Addr → List (Str × D) → DSt} (hn : ∀ j, Names (X j) x (.ref C0)) (hr : ∀ xa dd fs, DSs (sufF X xa (.ref C0) dd) K (wpS K dd fs) (b :: bs) (f xa fs)) (C : XClauses X K hs cs) :
    XClauses X K (.ExceptHandler (some (.Name x np)) none (b :: bs) pos :: hs) (⟨.ref C0, none, fun C => C = C0, fun _ => f⟩ :: cs) :=
  .cons hn (fun xa C dd fs h => by cases h; exact hr xa dd fs) (.inl ⟨rfl, rfl⟩) C
/-- a clause for more classes than one -/
theorem XClauses.oneX (i : Nat) {C0 : Addr} (okC : Addr → Prop) {x y : Str} {np pos : Pos} {b : Stmt} {bs : List Stmt} {hs : List ExceptHandler} {cs : List XClause} {f : Addr → Addr → List (Str × D) → DSt} (hn : ∀ j, Names (X j) x (.ref C0)) (hr : ∀ xa C dd fs, okC C → DSs (sufF X xa (.ref C) dd) K (wpS K dd fs) (b :: bs) (f C xa fs)) (hi : ∀ j, (X j).N[i]? = some y ∧ (X j).env.kindOf y = some .local) (C : XClauses X K hs cs) (h0 : i ≠ 0 := by decide) :
    XClauses X K (.ExceptHandler (some (.Name x np)) (some y) (b :: bs) pos :: hs) (⟨.ref C0, some i, okC, f⟩ :: cs) :=
  .cons hn hr (.inr ⟨y, i, rfl, rfl, h0, hi⟩) C
/-- e.f of what was caught -/
def dXf (i : Nat) (xa : Addr) (n : Str) (fs : List (Str × D)) : DEt := fun a R => a.at i = .val (.v (.ref xa)) ∧ opt (fs.lookup n) fun d => R d a
theorem pk_lookup {κ : Type} [BEq κ] {kvs : List (κ × D)} {vs : List (κ × V)} (h : PK K H kvs vs) {k : κ} {d : D} (e : kvs.lookup k = some d) : ∃ v, vs.lookup k = some v ∧ Dat K H d v := by
  induction h with
  | nil => cases e
  | @cons p q l m h t ih =>
    obtain ⟨p1, p2⟩ := p
    obtain ⟨q1, q2⟩ := q
    obtain ⟨h1, h2⟩ := h
    cases (show p1 = q1 from h1)
    rw [List.lookup_cons] at e ⊢
    cases z : k == p1 with
    | true =>
      rw [z] at e
      cases e
      exact ⟨q2, rfl, h2⟩
    | false =>
      rw [z] at e
      exact ih e
theorem de_xf {C : Addr} {dd : Option Addr} {fs : List (Str × D)} {xa : Addr} {y n : Str} {py : Pos} (i : Nat) (hC : ∀ j, XfC (X j).K C) (hn : ∀ j, PySem.W.findIn (X j).K (.ref C) n = some none) (hN : ∀ j, (X j).N[i]? = some y := by intro _; rfl) (hv : ∀ j, Vis (X j).env.scope y := by first | exact fun _ => Or.inl rfl | exact fun _ => Or.inr (Or.inl rfl) | exact fun _ => Or.inr (Or.inr rfl)) (hd : (y == ("__debug__" : Str)) = false := by decide)
    (hcd : (y == ("__classdict__" : Str)) = false := by decide) (hb : ∀ q : sufI ι (.ref C) dd, attributeBase (.Name y py) n (sufF X xa (.ref C) dd q).env (eval (.Name y py) (sufF X xa (.ref C) dd q).env) = eval (.Name y py) (sufF X xa (.ref C) dd q).env := by intro _; rfl) : DX (sufF X xa (.ref C) dd) K (wpS K dd fs) (.Attribute (.Name y py) n pos) (dXf i xa n fs) := by
  refine ⟨tXf xa (.ref C) dd C n (tVar i), fun q => pe_xf (hC q.1.1) (hn q.1.1) q.2.1 q.2.2 (pe_var (hN q.1.1) (hv q.1.1) hd hcd) (hb q), fun B hω F a σ H Q R ok hd k => ?_⟩
  obtain ⟨h0, hd⟩ := hd
  obtain ⟨v, h1, h2⟩ := ok.va i _ (at_of' h0 (fun z => nomatch z))
  cases (show v = .ref xa from h2)
  obtain ⟨d, e, r⟩ := opt_of hd
  rcases hω.1 with ⟨_, z⟩ | ⟨ad, vs, e1, h3, h4⟩
  · rw [z] at e
    cases e
  · obtain ⟨v, e2, h5⟩ := pk_lookup h4 e
    exact ⟨_, h1, rfl, rfl, ad, vs, v, e1, ok.fi.fh _ _ (ok.fi.ff _ _ h3), e2, k v d F a H (.refl ok) (h5.mono ok.fi.ff) r⟩
end
/-! ### classes of the text -/
def putFA (f : Str) (d : D) : List (Str × D) → List (Str × D)
  | [] => [(f, d)]
  | (g, e) :: r => if g = f then (g, d) :: r else (g, e) :: putFA f d r
section
variable {K : PySem.W.Frag} {ω : Wp} {B : Bs K} {F F' F1 F2 G : Hp} {a a' a1 a2 : AS} {σ σ' : St} {H H' H1 H2 : Hp} {n : Int} {te : TE} {de da db dc : DEt} {ι : Type} {X : ι → Cx} {e e1 e2 e3 o : Expr} {es : List Expr} {pos : Pos} {dt : DTt} {dl dm : DAt}
theorem pk_putF {f : Str} {d : D} {v : V} {fs : List (Str × D)} {vs : List (Str × V)} (h : PK K H fs vs) (hv : Dat K H d v) : PK K H (putFA f d fs) (putF f v vs) := by
  induction h with
  | nil => rw [L2.putF.eq_1]; exact .cons ⟨rfl, hv⟩ .nil
  | @cons p q l m h t ih =>
    obtain ⟨p1, p2⟩ := p
    obtain ⟨q1, q2⟩ := q
    obtain ⟨h1, h2⟩ := h
    cases (show p1 = q1 from h1)
    rw [L2.putF.eq_2]
    unfold putFA
    by_cases z : p1 = f
    · rw [if_pos z, if_pos z]
      exact .cons ⟨rfl, hv⟩ t
    · rw [if_neg z, if_neg z]
      exact .cons ⟨rfl, h2⟩ ih
theorem pk_lookup0 {κ : Type} [BEq κ] {kvs : List (κ × D)} {vs : List (κ × V)} (h : PK K H kvs vs) {k : κ} (e : kvs.lookup k = none) : vs.lookup k = none := by
  induction h with
  | nil => rfl
  | @cons p q l m h t ih =>
    obtain ⟨p1, p2⟩ := p
    obtain ⟨q1, q2⟩ := q
    obtain ⟨h1, h2⟩ := h
    cases (show p1 = q1 from h1)
    rw [List.lookup_cons] at e ⊢
    cases z : k == p1 with
    | true => rw [z] at e; cases e
    | false => rw [z] at e; exact ih e
theorem prt_ins {sp : Option Addr} {C : Addr} {fs : List (Str × D)} {x : V} (s : Same F H) (h : PrtS K sp F H (.ins C fs) x) : ∃ p dx vs, x = .ref p ∧ H p = some (.ins C dx vs) ∧ PK K F fs vs := by
  rcases h with ⟨p, dx, vs, rfl, h1, h2⟩ | ⟨p, o, rfl, h1, _, dx, vs, rfl, h2⟩
  · exact ⟨p, dx, vs, rfl, s _ _ h1, datS_pk.mp h2⟩
  · exact ⟨p, dx, vs, rfl, h1, datS_pk.mp h2⟩
/-- e.f -/
def dFld (C : Addr) (f : Str) (de : DEt) : DEt := fun a R => de a fun d a' => match d with
  | .ins C' fs => C' = C ∧ opt (fs.lookup f) fun v => R v a'
  | _ => False
theorem de_fld {C : Addr} {f : Str} (hC : Cls K C) (hn : NoAttr K C f) (h : DPS X K ω e de) (hb : ∀ j, attributeBase e f (X j).env (eval e (X j).env) = eval e (X j).env := by intro _; rfl) (hK : ∀ j, (X j).K = K := by intro _; rfl) : DX X K ω (.Attribute e f pos) (dFld C f de) := by
  obtain ⟨t, p, l⟩ := h
  refine ⟨tFld K t f, fun j => by rw [← hK j]; exact pe_fld (p j) (hb j), fun B hω F a σ H Q R ok hd k => l B hω F a σ H _ _ ok hd fun v d F1 a1 H1 g1 q1 r1 => ?_⟩
  cases d with
  | ins C' fs =>
    obtain ⟨rfl, r⟩ := r1
    obtain ⟨p, dx, vs, rfl, h1, h2⟩ := prt_ins g1.ok.fi.fh q1
    obtain ⟨d, e1, r⟩ := opt_of r
    obtain ⟨v, e2, h3⟩ := pk_lookup h2 e1
    exact ⟨p, C', dx, vs, v, rfl, h1, hC, hn, e2, k v d F1 a1 H1 g1 h3 r⟩
  | _ => exact r1.elim
/-- self.f = e, self one's own -/
def dFldO (C : Addr) (i : Nat) (f : Str) (de : DEt) : DSt := fun E a => de a fun d a1 => match a1.at i with
  | .own (.ins C' fs) => C' = C ∧ fs.length < 1000 ∧ E.nx (a1.put i (.own (.ins C (putFA f d fs))))
  | _ => False
theorem ds_fldO {C : Addr} {i : Nat} {x f : Str} {px pos' : Pos} {value : Expr} (hC : Cls K C) (hn : NoAttr K C f) (ho : ∀ j, PE (X j) (.Name x px) (tVar i)) (hv : DX X K ω value de) (hs : ∀ j, swapsWith value (some (.Attribute (.Name x px) f pos')) pos.line (X j).env = pure false := by intro _; rfl) (hK : ∀ j, (X j).K = K := by intro _; rfl) :
    DS X K ω (.Assign [.Attribute (.Name x px) f pos'] value pos) (dFldO C i f de) := by
  obtain ⟨t, p, l⟩ := hv
  refine ⟨sFld K (tVar i) t f, fun j => by rw [← hK j]; exact ps_fld (ho j) (p j) (hs j), fun B hω E DE F a σ H ok hd k => l B hω F a σ H _ _ ok hd fun v d F1 a1 H1 g1 q1 r1 => ?_⟩
  split at r1
  · rename_i C' fs es
    obtain ⟨rfl, hl, r⟩ := r1
    have es' := at_of' es (fun z => nomatch z)
    obtain ⟨p, o, h1, h2, h3, h4, dx, vs, rfl, h5⟩ := g1.ok.ow i _ es'
    have h6 := datS_pk.mp h5
    exact ⟨_, h1, p, C', dx, vs, rfl, h2, hC, hn, by rw [pk_len h6]; exact hl, k.nx F1 _ σ _ (g1.ok.chg (e := .ins C' (putFA f d fs)) es' h1 ⟨dx, _, rfl, datS_pk.mpr (pk_putF h6 q1)⟩) g1.ff r⟩
  · exact r1.elim
/-- an object of the class whose own dict has no m -/
def isI (C : Addr) (m : Str) : D → Prop
  | .ins C' fs => C' = C ∧ fs.lookup m = none
  | _ => False
theorem isI_dat {C : Addr} {m : Str} {d : D} {x : V} (s : Same F H) (h : Dat K F d x) (i : isI C m d) : ∃ p dx vs, x = .ref p ∧ H p = some (.ins C dx vs) ∧ vs.lookup m = none := by
  cases d with
  | ins C' fs =>
    obtain ⟨rfl, e⟩ := i
    obtain ⟨p, dx, vs, rfl, h1, h2⟩ := h
    exact ⟨p, dx, vs, rfl, s _ _ h1, pk_lookup0 (datS_pk.mp h2) e⟩
  | _ => exact i.elim
def dMeth (C : Addr) (m : Str) (dsp : DSp) (de : DEt) (dl : DAt) : DEt := fun a R => de a fun d a1 => isI C m d ∧ dl a1 fun ds a2 => dsp none (d :: ds) 0 fun x _ => R x a2
def dMethX (W : DWt) (C : Addr) (m : Str) (dsp : DSpX) (de : DEt) (dl : DAt) : DEt := fun a R => de a fun d a1 => isI C m d ∧ dl a1 fun ds a2 => dsp none (d :: ds) 0 (fun x _ => R x a2) fun C fs _ => W C fs a2.sl a2.n
/-- what is behind a call without the source, seen from here -/
theorem Go.call0 (ok : Ok B F a σ H) (x1 : Same F F') (x2 : Same F' H') (x3 : ∀ b o, none ≠ some b → H b = some o → H' b = some o) (x4 : ∀ b, F' b ≠ none → F b ≠ none ∨ H b = none ∨ ImmA F' b) : Go B σ F a H F' a H' := by
  have hh : Same H H' := fun b o h => x3 b o (fun z => nomatch z) h
  refine Go.call ok x1 x2 (fun b o _ h => hh b o h) x4 fun p e => ?_
  obtain ⟨y1, y2, y3⟩ := ok.fi.sr p e
  refine ⟨?_, y3.same hh⟩
  cases q : F' p with
  | none => rfl
  | some u =>
    rcases x4 p (by rw [q]; exact fun z => (nomatch z)) with w | w | ⟨o', w1, w2⟩
    · exact absurd y1 w
    · obtain ⟨xs, z⟩ := y3.at
      rw [z] at w
      cases w
    · obtain ⟨xs, z⟩ := (y3.same hh).at
      rw [x2 p o' w1] at z
      cases z
      cases w2
section
variable {CX : CXT} {k : Nat} {f C : Addr} {fd : FuncData} {ps : List Str} {s : Sp} {dsp : DSp} {dspX : DSpX} {E : XK} {m : Str} {apos : Pos} {pl : ι → Sem Bool}
theorem le_meth {te : TE} {ta : TA} (mo : Mon dsp) (u : Ups K s dsp) (l1 : LE K ω te de) (l2 : LAE K ω ta dl) : LE K ω (tMeth C m s [] E te ta) (dMeth C m dsp de dl) := fun B hω F a σ H Q R ok hd k => l1 B hω F a σ H _ _ ok hd fun v d F1 a1 H1 g1 q1 r1 => by
  obtain ⟨p, dx, vs0, rfl, h1, h2⟩ := isI_dat g1.ok.fi.fh q1 r1.1
  refine ⟨p, dx, vs0, rfl, h1, h2, l2 B hω F1 a1 σ H1 _ _ g1.ok r1.2 fun vs ds F2 a2 H2 g2 q2 r2 => ?_⟩
  rw [List.append_nil]
  refine u _ _ _ _ ⟨none, F2, d :: ds, 0, g2.ok.fi.fh, (fun p e => nomatch e), .cons (q1.mono g2.ff) q2, mo _ _ _ _ _ (fun d n' r => ?_) r2⟩
  intro v F' H' x1 x2 x3 x4 x5 x6
  exact k v d F' a2 H' (.trans ok g1 (.trans g1.ok g2 (Go.call0 g2.ok x1 x2 x3 x4))) x6 r
theorem de_meth (mo : Mon dsp) (u : Ups K s dsp) (ho : DX X K ω o de) (hC : Cls K C) (hm : Meth K C m f) (G : ∀ j, FnOk (X j).prog (X j).w (X j).K (X j).mg (X j).base CX k f fd ps s) (hr : ∀ j, Room k (X j).A) (hb : Binds K fd ps []) (hx : ∀ j, Passes CX (X j) E) (ha : DAE X K ω (e :: es) dl)
    (hK : ∀ j, (X j).K = K := by intro _; rfl) (hst : ∀ j, starEach (e :: es) (X j).env = (false, eval e (X j).env) :: starEach es (X j).env := by intro _; rfl) (hpl : ∀ j, (backTo pos (starEach es (X j).env)).any (·.1) = false := by intro _; rfl)
    (ht : ∀ j, eval (.Call (.Attribute o m apos) (e :: es) [] pos) (X j).env = (do
      let ov ← eval o (X j).env
      standAt apos.atName
      let (fv, first) ← holding [ov] (getMethod ov m (pl j))
      callWith pos fv first (backTo pos (starEach (e :: es) (X j).env)) (backToKw pos (keywordEach [] (X j).env))) := by intro _; rfl) :
    DX X K ω (.Call (.Attribute o m apos) (e :: es) [] pos) (dMeth C m dsp de dl) := by
  obtain ⟨te, p1, l1⟩ := ho
  obtain ⟨ta, p2, l2⟩ := ha
  exact ⟨_, fun j => pe_meth (p1 j) (by rw [hK j]; exact hC) (by rw [hK j]; exact hm) (G j) (hr j) (by rw [hK j]; exact hb) .nil (hx j) (p2 j) (hst j) (hpl j) (ht j), le_meth mo u l1 l2⟩
theorem de_meth0 (mo : Mon dsp) (u : Ups K s dsp) (ho : DX X K ω o de) (hC : Cls K C) (hm : Meth K C m f) (G : ∀ j, FnOk (X j).prog (X j).w (X j).K (X j).mg (X j).base CX k f fd ps s) (hr : ∀ j, Room k (X j).A) (hb : Binds K fd ps []) (hx : ∀ j, Passes CX (X j) E)
    (hK : ∀ j, (X j).K = K := by intro _; rfl)
    (ht : ∀ j, eval (.Call (.Attribute o m apos) [] [] pos) (X j).env = (do
      let ov ← eval o (X j).env
      standAt apos.atName
      let (fv, first) ← holding [ov] (getMethod ov m (pl j))
      callWith pos fv first (backTo pos (starEach [] (X j).env)) (backToKw pos (keywordEach [] (X j).env))) := by intro _; rfl) :
    DX X K ω (.Call (.Attribute o m apos) [] [] pos) (dMeth C m dsp de dNil) := by
  obtain ⟨te, p1, l1⟩ := ho
  exact ⟨_, fun j => pe_meth0 (p1 j) (by rw [hK j]; exact hC) (by rw [hK j]; exact hm) (G j) (hr j) (by rw [hK j]; exact hb) .nil (hx j) (ht j), le_meth mo u l1 fun B hω F a σ H Q R ok hd k => k [] [] F a H (.refl ok) rfl hd⟩
theorem de_methX (mo : MonX dspX) (u : UpsX K s dspX) (ho : DX X K ω o de) (hC : Cls K C) (hm : Meth K C m f) (G : ∀ j, FnOk (X j).prog (X j).w (X j).K (X j).mg (X j).base (L2.CX (X j).prog (X j).w) k f fd ps s) (hr : ∀ j, Room k (X j).A) (hb : Binds K fd ps []) (tk : ∀ j, Takes (X j) ω.W) (ha : DAE X K ω (e :: es) dl)
    (hK : ∀ j, (X j).K = K := by intro _; rfl) (hst : ∀ j, starEach (e :: es) (X j).env = (false, eval e (X j).env) :: starEach es (X j).env := by intro _; rfl) (hpl : ∀ j, (backTo pos (starEach es (X j).env)).any (·.1) = false := by intro _; rfl)
    (ht : ∀ j, eval (.Call (.Attribute o m apos) (e :: es) [] pos) (X j).env = (do
      let ov ← eval o (X j).env
      standAt apos.atName
      let (fv, first) ← holding [ov] (getMethod ov m (pl j))
      callWith pos fv first (backTo pos (starEach (e :: es) (X j).env)) (backToKw pos (keywordEach [] (X j).env))) := by intro _; rfl) :
    DX X K ω (.Call (.Attribute o m apos) (e :: es) [] pos) (dMethX ω.dW C m dspX de dl) := by
  obtain ⟨te, p1, l1⟩ := ho
  obtain ⟨ta, p2, l2⟩ := ha
  refine ⟨_, fun j => pe_methE (p1 j) (by rw [hK j]; exact hC) (by rw [hK j]; exact hm) (G j) (hr j) (by rw [hK j]; exact hb) (passAt (tk j)) (p2 j) (hst j) (hpl j) (ht j), fun B hω F a σ H Q R ok hd k => l1 B hω F a σ H _ _ ok hd fun v d F1 a1 H1 g1 q1 r1 => ?_⟩
  obtain ⟨p, dx, vs0, rfl, h1, h2⟩ := isI_dat g1.ok.fi.fh q1 r1.1
  refine ⟨p, dx, vs0, rfl, h1, h2, l2 B hω F1 a1 σ H1 _ _ g1.ok r1.2 fun vs ds F2 a2 H2 g2 q2 r2 => ?_⟩
  refine u _ _ _ _ ⟨none, F2, d :: ds, 0, g2.ok.fi.fh, (fun p e => nomatch e), .cons (q1.mono g2.ff) q2, mo _ _ _ _ _ _ _ (fun d n' r => ?_) (fun C fs n' r => ?_) r2⟩
  · intro v F' H' x1 x2 x3 x4 x5 x6
    exact k v d F' a2 H' (.trans ok g1 (.trans g1.ok g2 (Go.call0 g2.ok x1 x2 x3 x4))) x6 r
  · intro dd F' H' x1 x2 x3 x4 x5 x6
    exact hω.2.2 F' a2 σ H' C dd fs (Go.call0 g2.ok x1 x2 x3 x4).ok x6 r
/-- a property -/
def dProp (C : Addr) (dsp : DSp) (de : DEt) : DEt := fun a R => de a fun d a1 => isC C d ∧ dsp none [d] 0 fun x _ => R x a1
where isC (C : Addr) : D → Prop
  | .ins C' _ => C' = C
  | _ => False
theorem de_prop {p g : Addr} {f : Str} (mo : Mon dsp) (u : Ups K s dsp) (ho : DX X K ω e de) (hC : Cls K C) (hp : PropOf K C f p g) (G : ∀ j, FnOk (X j).prog (X j).w (X j).K (X j).mg (X j).base CX k g fd ps s) (hr : ∀ j, Room (k + 1) (X j).A) (hb : Binds K fd ps []) (hx : ∀ j, Passes CX (Cx.nox (X j)) E)
    (hba : ∀ j, attributeBase e f (X j).env (eval e (X j).env) = eval e (X j).env := by intro _; rfl) (hK : ∀ j, (X j).K = K := by intro _; rfl) : DX X K ω (.Attribute e f pos) (dProp C dsp de) := by
  obtain ⟨te, p1, l1⟩ := ho
  refine ⟨_, fun j => pe_prop (p1 j) (by rw [hK j]; exact hC) (by rw [hK j]; exact hp) (G j) (hr j) (by rw [hK j]; exact hb) .nil (hx j) (hba j), fun B hω F a σ H Q R ok hd k => l1 B hω F a σ H _ _ ok hd fun v d F1 a1 H1 g1 q1 r1 => ?_⟩
  cases d with
  | ins C' fs =>
    obtain ⟨hc, r1⟩ := r1
    have hc : C' = C := hc
    subst hc
    obtain ⟨p, dx, vs, rfl, h1, h2⟩ := q1
    refine ⟨p, dx, vs, rfl, g1.ok.fi.fh _ _ h1, u _ _ _ _ ⟨none, F1, [.ins C' fs], 0, g1.ok.fi.fh, (fun p e => nomatch e), .cons ⟨p, dx, vs, rfl, h1, h2⟩ .nil, mo _ _ _ _ _ (fun d n' r => ?_) r1⟩⟩
    intro v F' H' x1 x2 x3 x4 x5 x6
    exact k v d F' a1 H' (.trans ok g1 (Go.call0 g1.ok x1 x2 x3 x4)) x6 r
  | _ => exact r1.1.elim
end
end
/-! making an object: the promise of an __init__ -/
/-- behind an __init__ that ends: the object at x -/
def PostI (K : PySem.W.Frag) (F H : Hp) (x : Addr) (Q : VK) (d : D) (_ : Int) : Prop := ∀ (F' H' : Hp), Same F F' → Same F' H' → Same H H' → (∀ b, F' b ≠ none → F b ≠ none ∨ H b = none ∨ ImmA F' b) → Dat K F' d (.ref x) → Q .non H'
def upI (K : PySem.W.Frag) (C : Addr) (dsp : DSpX) : Sp := fun vs H Q E => ∃ (x dx : Addr) (us : List V) (H1 F : Hp) (ds : List D), vs = .ref x :: us ∧ H = upd (upd H1 dx (.own x)) x (.ins C dx []) ∧ H1 x = none ∧ H1 dx = none ∧ dx ≠ x ∧ Same F H1 ∧ DatL K F ds us ∧ dsp none ds 0 (PostI K F H1 x Q) (PostX K none F H1 E)
theorem upI_len {K : PySem.W.Frag} {C : Addr} {dsp : DSpX} {m : Nat} (h : ∀ sp ds n R RX, dsp sp ds n R RX → ds.length = m) (vs : List V) (H : Hp) (Q : VK) (E : XK) : upI K C dsp vs H Q E → vs.length = m + 1 := fun ⟨x, dx, us, H1, F, ds, e, _, _, _, _, _, L, q⟩ => by
  rw [e, List.length_cons, L.len, h _ _ _ _ _ q]
def wpI (K : PySem.W.Frag) (F H : Hp) (E : XK) : Wp := ⟨fun cls dd _ H' => E cls dd H', fun C fs _ n => PostX K none F H E C fs n, fun _ => True, true⟩
def dstartI (N : List Str) (C : Addr) (ds : List D) : List Sl := .own (.ins C []) :: ds.map Sl.val ++ List.replicate (N.length - (ds.length + 1)) .emp
theorem d_runI {K : PySem.W.Frag} {C x dx : Addr} {F H1 H : Hp} {ds : List D} {us : List V} {Q : VK} {E : XK} {X : Cx} {body : List Stmt} {N : List Str} {d : DSt} (h : DSs (fun _ : Unit => X) K (wpI K F H1 E) body d) (hH : H = upd (upd H1 dx (.own x)) x (.ins C dx [])) (hx : H1 x = none) (hdx : H1 dx = none) (hne : dx ≠ x) (s : Same F H1) (L : DatL K F ds us)
    {sl : List Sl} (hsl : sl = dstartI N C ds) (hd : d { nx := fun a => ∃ fs, a.at 0 = .own (.ins C fs) ∧ PostI K F H1 x Q (.ins C fs) 0, rt := fun _ _ => False } ⟨sl, 0, none⟩) : ∃ t, PSs X body t ∧ t { nx := fun _ H' => Q .non H', rt := Q } (L2.start N (.ref x :: us)) H := by
  obtain ⟨t, p, l⟩ := h
  subst hsl hH
  have sH : Same H1 (upd (upd H1 dx (.own x)) x (.ins C dx [])) := (Same.new hdx).trans (Same.new (by rw [upd_ne (Ne.symm hne)]; exact hx))
  have hl := L.len
  have ok : Ok (K := K) ⟨none, H1, F, some x⟩ F ⟨dstartI N C ds, 0, none⟩ (L2.start N (.ref x :: us)) (upd (upd H1 dx (.own x)) x (.ins C dx [])) := by
    have own : ∀ {i : Nat} {d : D}, (dstartI N C ds)[i]? = some (Sl.own d) → i = 0 ∧ d = .ins C [] := fun {i d} e => by
      unfold dstartI at e
      cases i with
      | zero => exact ⟨rfl, by cases e; rfl⟩
      | succ i =>
        rw [List.cons_append, List.getElem?_cons_succ] at e
        rcases List.mem_append.mp (List.mem_of_getElem? e) with q | q
        · obtain ⟨y, _, z⟩ := List.mem_map.mp q
          cases z
        · cases (List.mem_replicate.mp q).2
    have hF : F x = none := by
      cases e : F x with
      | none => rfl
      | some u => rw [s _ _ e] at hx; cases hx
    refine ⟨⟨s.trans sH, Same.refl F, fun b h => .inl h, fun b o h _ => sH _ _ h, (fun p e => nomatch e)⟩, rfl, ?_, fun i d e => ?_, fun i d e => ?_, fun i j p d e h1 h2 _ _ => ?_, fun y e => ?_⟩
    · unfold dstartI L2.start
      simp only [List.length_append, List.length_map, List.length_replicate, List.length_cons, hl]
    · unfold dstartI at e
      cases i with
      | zero => cases e
      | succ i =>
        rw [List.cons_append, List.getElem?_cons_succ] at e
        by_cases hi : i < ds.length
        · rw [List.getElem?_append_left (by rw [List.length_map]; exact hi), List.getElem?_map] at e
          obtain ⟨y, h1, h2⟩ := Option.map_eq_some_iff.mp e
          cases h2
          obtain ⟨v, h3, h4⟩ := L.get h1
          refine ⟨v, ?_, h4⟩
          unfold L2.start
          rw [List.map_cons, List.cons_append, List.getElem?_cons_succ, List.getElem?_append_left (by rw [List.length_map, hl]; exact hi), List.getElem?_map, h3]
          rfl
        · rw [List.getElem?_append_right (by rw [List.length_map]; omega)] at e
          cases (List.mem_replicate.mp (List.mem_of_getElem? e)).2
    · obtain ⟨rfl, rfl⟩ := own e
      exact ⟨x, _, rfl, upd_same, hF, hx, dx, [], rfl, rfl⟩
    · rw [(own h1).1, (own h2).1]
    · cases e
      rfl
  refine ⟨t, p (), l ⟨none, H1, F, some x⟩ ⟨trivial, (fun z => nomatch z), fun F' a σ' H' C dd fs ok x w => ?_⟩ _ _ F _ _ _ ok hd ⟨fun F' a' σ' H' ok s h => ?_, fun v d n F' H' f s q h => h.elim, fun _ _ _ _ _ _ h => h.elim, fun _ _ _ _ _ _ h => h.elim⟩⟩
  · exact w dd F' H' ok.fi.ff ok.fi.fh (fun b o n h => ok.fi.fm b o h n) (fun b h => ok.fi.fr b h) (fun p e => nomatch e) x
  · obtain ⟨fs, e, k⟩ := h
    obtain ⟨p, o, h1, h2, h3, g⟩ := ok.own (at_of' e (fun z => nomatch z))
    have h4 := ok.fx x rfl
    rw [h4] at h1
    cases h1
    exact k _ H' (s.trans g.ff) g.ok.fi.fh (fun b o h => ok.fi.fm b o h (fun z => nomatch z)) (fun b h => g.ok.fi.fr b h) ((h3.mono g.ff).dat upd_same)
section
variable {K : PySem.W.Frag} {ω : Wp} {B : Bs K} {F F' F1 F2 G : Hp} {a a' a1 a2 : AS} {σ σ' : St} {H H' H1 H2 : Hp} {n : Int} {te : TE} {de da db dc : DEt} {ι : Type} {X : ι → Cx} {e e1 e2 e3 o : Expr} {es : List Expr} {pos : Pos} {dt : DTt} {dl dm : DAt} {k : Nat} {f C : Addr} {fd : FuncData} {ps : List Str} {s : Sp} {dsp : DSpX} {E : XK} {m x : Str} {p : Pos} {dvs : List V} {dds : List D} {bs : List Value}
def UpsI (K : PySem.W.Frag) (C : Addr) (sp : Sp) (dsp : DSpX) : Prop := ∀ vs H Q E, upI K C dsp vs H Q E → sp vs H Q E
theorem UpsI.rfl : UpsI K C (upI K C dsp) dsp := fun _ _ _ _ h => h
/-- C(..); dds the defaults -/
theorem le_make {ta : TA} (mo : MonX dsp) (u : UpsI K C s dsp) (l : LAE K ω ta dl) (hd0 : ∀ H, DatL K H dds dvs) : LE K ω (tMakeS C s dvs (fun σ => WE ω.W σ) ta) (dCallX0 ω.dW (fun sp ds n R RX => dsp sp (ds ++ dds) n R RX) dl) := fun B hω F a σ H Q R ok hd k => l B hω F a σ H _ _ ok hd fun vs ds F1 a1 H1 g1 q1 r1 => by
  intro x dx hx hdx hne
  refine u _ _ _ _ ⟨x, dx, vs ++ dvs, H1, F1, ds ++ dds, rfl, rfl, hx, hdx, hne, g1.ok.fi.fh, q1.app (hd0 _), mo _ _ _ _ _ _ _ (fun d n' r => ?_) (fun C fs n' r => ?_) r1⟩
  · intro F' H' x1 x2 x3 x4 x5
    exact ⟨rfl, k _ d F' a1 H' (.trans ok g1 (Go.call0 g1.ok x1 x2 (fun b o _ h => x3 b o h) x4)) x5 r⟩
  · intro dd F' H' x1 x2 x3 x4 x5 x6
    exact hω.2.2 F' a1 σ H' C dd fs (Go.call0 g1.ok x1 x2 x3 x4).ok x6 r
theorem de_make (mo : MonX dsp) (u : UpsI K C s dsp) (M : Mk K C f) (G : ∀ j, FnOk (X j).prog (X j).w (X j).K (X j).mg (X j).base (L2.CX (X j).prog (X j).w) k f fd ps s) (hr : ∀ j, Room (k + 1) (X j).A) (hg : ∀ j, Gl (X j) x) (hm : ∀ j, (X j).mg x = some (.ref C)) (hb : Binds K fd ps bs) (hv : Vals dvs bs) (hd0 : ∀ H, DatL K H dds dvs) (tk : ∀ j, Takes (X j) ω.W) (ha : DAE X K ω (e :: es) dl)
    (hdb : (x == ("__debug__" : Str)) = false := by decide) (he : ∀ j, starEach (e :: es) (X j).env = (false, eval e (X j).env) :: starEach es (X j).env := by intro _; rfl) (hpl : ∀ j, (backTo pos (starEach es (X j).env)).any (·.1) = false := by intro _; rfl) (hK : ∀ j, (X j).K = K := by intro _; rfl) :
    DX X K ω (.Call (.Name x p) (e :: es) [] pos) (dCallX0 ω.dW (fun sp ds n R RX => dsp sp (ds ++ dds) n R RX) dl) := by
  obtain ⟨t, h, l⟩ := ha
  exact ⟨_, fun j => pe_makeS (by rw [hK j]; exact M) (G j) (hr j) (hg j) (hm j) (by rw [hK j]; exact hb) hv (passAt (tk j)) (h j) hdb (he j) (hpl j), le_make mo u l hd0⟩
end
section
variable {K : PySem.W.Frag} {ω : Wp} {B : Bs K} {F F' F1 F2 G : Hp} {a a' a1 a2 : AS} {σ σ' : St} {H H' H1 H2 : Hp} {n : Int} {te : TE} {de da db dc : DEt} {ι : Type} {X : ι → Cx} {e e1 e2 o : Expr} {es : List Expr} {pos : Pos} {dt : DTt} {dl dm : DAt}
/-! more built-ins -/
/-- a sign in a text -/
def dInS : DR := fun d e R => match d, e with
  | .v (.str x), .v (.str z) => ∃ c, x = ⟨#[c]⟩ ∧ R (.v (.bl (decide (c ∈ z.cps.toList))))
  | _, _ => False
theorem dop_inS : DOpR X K ω (compareOp .In) dInS := ⟨_, fun _ => op_in_sign, lr_flat fun d e R h => by
  unfold dInS at h
  split at h
  · obtain ⟨c, rfl, h⟩ := h
    exact ⟨_, _, _, rfl, rfl, h, fun H Q q => ⟨c, _, rfl, rfl, q⟩⟩
  · exact h.elim⟩
def dDivmod : DC := fun ds R => match ds with
  | [.v (.int i), .v (.int j)] => CDivP i j ∧ R (.tup [.v (.int (i / j)), .v (.int (i % j))])
  | _ => False
theorem dc_divmod : DCl X K ω (.builtin "divmod") dDivmod := ⟨_, fun _ => call_divmodW, fun B hω F a σ H xs ds Q R ok hx hd k => by
  unfold dDivmod at hd
  split at hd
  · rename_i i j
    cases datL_flat (xs := [.int i, .int j]) hx
    refine ⟨i, j, rfl, hd.1, fun p hp => ?_⟩
    have g := ok.new (o := .tup [.int (i / j), .int (i % j)]) hp
    exact k _ (.tup [.v (.int (i / j)), .v (.int (i % j))]) _ _ g ⟨p, _, rfl, upd_same, .cons rfl (.cons rfl .nil)⟩ hd.2
  · exact hd.elim⟩
def kD : Key → D
  | .inl i => .v (.int i)
  | .inr x => .v (.str x)
theorem dat_kD {k : Key} : Dat K H (kD k) (kV k) := by
  cases k <;> rfl
theorem dat_keys : ∀ {kvs : List (Key × D)}, DatL K H (kvs.map fun p => kD p.1) (kvs.map fun p => kV p.1)
  | [] => rfl
  | _ :: _ => .cons dat_kD dat_keys
/-- tuple(d): its keys -/
def dTupD : DC := fun ds R => match ds with
  | [.dK kvs] => R (.ftup (kvs.map fun p => kD p.1))
  | _ => False
theorem dc_tupleD (hc : ∀ j, (X j).calm = true) : DCl X K ω (.type "tuple") dTupD := ⟨_, fun j => call_tupleD (hc j), fun B hω F a σ H xs ds Q R ok hx hd k => by
  unfold dTupD at hd
  split at hd
  · rename_i kvs
    obtain ⟨v, r, rfl, ⟨p, vs, rfl, h1, h2⟩, h3⟩ := hx
    cases (show r = [] from h3)
    refine ⟨p, vs, rfl, .inl (hs_same _ _ h1), fun q o hq hod => ?_⟩
    have e : vs.map (fun kv => kV kv.1) = kvs.map fun kv => kV kv.1 := by
      have := pk_keys (datK_pk.mp h2)
      have e2 := congrArg (List.map kV) this
      rw [List.map_map, List.map_map] at e2
      exact e2
    rw [e]
    have g := ok.new (o := .frz o (.tup (kvs.map fun kv => kV kv.1))) hq
    exact k _ (.ftup (kvs.map fun p => kD p.1)) _ _ g ⟨q, _, rfl, ⟨o, upd_same, hod⟩, dat_keys⟩ hd
  · exact hd.elim⟩
/-- str(i) -/
def dStrI : DC := fun ds R => match ds with
  | [.v (.int i)] => Nat.log2 i.natAbs < 1920 ∧ R (.v (.str (Str.ofString (toString i))))
  | _ => False
theorem dc_str : DCl X K ω (.type "str") dStrI := dc_flat (fun _ => call_str_int) fun ds R h => by
  unfold dStrI at h
  split at h
  · exact ⟨[.int _], _, rfl, h.2, fun H Q q => ⟨_, rfl, h.1, q⟩⟩
  · exact h.elim
def dBool1 : DC := fun ds R => match ds with
  | [.v (.int i)] => R (.v (.bl (i != 0)))
  | [.v (.bl b)] => R (.v (.bl b))
  | _ => False
theorem dc_bool : DCl X K ω (.type "bool") dBool1 := dc_flat (fun _ => call_bool1) fun ds R h => by
  unfold dBool1 at h
  split at h
  · exact ⟨[.int _], _, rfl, h, fun H Q q => .inl ⟨_, rfl, q⟩⟩
  · exact ⟨[.bl _], _, rfl, h, fun H Q q => .inr ⟨_, rfl, q⟩⟩
  · exact h.elim
/-- min, max, sum of a list of ints -/
def dIs (P : List Int → Prop) (Po : List Int → Int → Prop) : DC := fun ds R => match ds with
  | [.lst es] => (match unI es with
    | some xs => P xs ∧ ∀ m, Po xs m → R (.v (.int m))
    | none => False)
  | _ => False
theorem is_of {r : List V → Hp → VK → Prop} {P : List Int → Prop} {Po : List Int → Int → Prop} (h : ∀ a xs H Q, SqL K H a (xs.map V.int) → P xs → (∀ m, Po xs m → Q (V.int m) H) → r [.ref a] H Q) : LCl K ω r (dIs P Po) := fun B hω F a σ H xs ds Q R ok hx hd k => by
  unfold dIs at hd
  split at hd
  · rename_i es
    split at hd
    · rename_i ys e
      obtain ⟨v, r, rfl, h1, h2⟩ := hx
      cases (show r = [] from h2)
      obtain ⟨q, ws, rfl, h3, h4⟩ := h1
      rw [unI_of e] at h4
      cases datL_flat h4
      exact h q ys H Q (SqL.of (hs_same _ _ h3)) hd.1 fun m hm => k _ (.v _) F H (.refl ok) rfl (hd.2 m hm)
    · exact hd.elim
  · exact hd.elim
theorem dc_min (hc : ∀ j, (X j).calm = true) (hK : ∀ j, (X j).K = K := by intro _; rfl) : DCl X K ω (.builtin "min") (dIs (fun xs => 0 < xs.length) fun xs m => m ∈ xs ∧ ∀ y ∈ xs, m ≤ y) := ⟨rMin K, fun j => by rw [← hK j]; exact cr_min (hc j), is_of fun a xs H Q h p q => ⟨a, xs, rfl, h, p, fun m h1 h2 => q m ⟨h1, h2⟩⟩⟩
theorem dc_max (hc : ∀ j, (X j).calm = true) (hK : ∀ j, (X j).K = K := by intro _; rfl) : DCl X K ω (.builtin "max") (dIs (fun xs => 0 < xs.length) fun xs m => m ∈ xs ∧ ∀ y ∈ xs, y ≤ m) := ⟨rMax K, fun j => by rw [← hK j]; exact cr_max (hc j), is_of fun a xs H Q h p q => ⟨a, xs, rfl, h, p, fun m h1 h2 => q m ⟨h1, h2⟩⟩⟩
theorem dc_sum (hc : ∀ j, (X j).calm = true) (hK : ∀ j, (X j).K = K := by intro _; rfl) : DCl X K ω (.builtin "sum") (dIs (fun _ => True) fun xs m => m = xs.sum) := ⟨rSum K, fun j => by rw [← hK j]; exact cr_sum (hc j), is_of fun a xs H Q h p q => ⟨a, xs, rfl, h, q _ rfl⟩⟩
/-- sorted(texts): a list, or a dict's keys -/
def dSortS : DC := fun ds R => match ds with
  | [.lst es] => (match unS es with
    | some xs => xs.length < 64 ∧ ∀ ys : List Str, ys.Perm xs → PyProof.Rows.sortedS ys = true → R (.lst (ys.map fun y => D.v (V.str y)))
    | none => False)
  | [.dK kvs] => (match unS (kvs.map fun p => kD p.1) with
    | some xs => xs.length < 64 ∧ ∀ ys : List Str, ys.Perm xs → PyProof.Rows.sortedS ys = true → R (.lst (ys.map fun y => D.v (V.str y)))
    | none => False)
  | _ => False
theorem kD_str : ∀ {kvs : List (Key × D)} {xs : List Str}, unS (kvs.map fun p => kD p.1) = some xs → kvs.map (·.1) = xs.map Sum.inr
  | [], xs, h => by cases h; rfl
  | (.inl i, d) :: kvs, xs, h => nomatch h
  | (.inr x, d) :: kvs, xs, h => by
    obtain ⟨ys, h1, rfl⟩ := Option.map_eq_some_iff.mp (show (unS (kvs.map fun p => kD p.1)).map (x :: ·) = some xs from h)
    rw [List.map_cons, List.map_cons, kD_str h1]
theorem do_sorted {x : Str} {p : Pos} (hc : ∀ j, (X j).calm = true) (hg : ∀ j, Gl (X j) x) (hm : ∀ j, (X j).mg x = none) (hv : bootBuiltins x = some (.builtin "sorted")) (ha : DAB X K ω (e :: es) dl) (hn : x ≠ "__name__" := by decide) (hdb : (x == ("__debug__" : Str)) = false := by decide)
    (he : ∀ j, starEach (e :: es) (X j).env = (false, eval e (X j).env) :: starEach es (X j).env := by intro _; rfl) (hpl : ∀ j, (backTo pos (starEach es (X j).env)).any (·.1) = false := by intro _; rfl) (hK : ∀ j, (X j).K = K := by intro _; rfl) : DO X K ω (.Call (.Name x p) (e :: es) [] pos) (dCB dSortS dl) := by
  obtain ⟨t, h2, l2⟩ := ha
  refine ⟨tCB (fun xs H Q => rSortedS K xs H Q ∨ ∃ (a : Addr) (kvs : List (Key × V)) (ks : List Str), xs = [.ref a] ∧ Rd H a (.dK kvs) ∧ kvs.map (·.1) = ks.map Sum.inr ∧ ks.length < 64 ∧ ∀ (ys : List Str) (p : Addr), ys.Perm ks → PyProof.Rows.sortedS ys = true → H p = none → Q (.ref p) (upd H p (.lst (ys.map V.str)))) t, fun j => pe_callB (fun pins s σ H xs us Q I r h => h.elim (fun h => cr_sortedS pins s σ H xs us Q I r (by rw [hK j]; exact h)) fun h => call_sortedD (hc j) pins s σ H xs us Q I r h) (hg j) (hm j) hv (h2 j) hn hdb (he j) (hpl j), fun B hω F a σ H Q R ok hd k => l2 B hω F a σ H _ _ ok hd fun vs ds F1 a1 H1 g1 q1 r1 => ?_⟩
  unfold dSortS at r1
  split at r1
  · rename_i es
    split at r1
    · rename_i ys e
      obtain ⟨v, r, rfl, h1, h2⟩ := q1
      cases (show r = [] from h2)
      obtain ⟨q, ws, rfl, h3, h4⟩ := h1
      rw [unS_of e] at h4
      cases datL_flat h4
      exact .inl ⟨q, ys, rfl, SqL.of (hs_same _ _ h3), r1.1, fun zs p pm hs hp => Go.list ok g1 hp (datS zs) (r1.2 zs pm hs) k⟩
    · exact r1.elim
  · rename_i kvs
    split at r1
    · rename_i ys e
      obtain ⟨v, r, rfl, h1, h2⟩ := q1
      cases (show r = [] from h2)
      obtain ⟨q, ws, rfl, h3, h4⟩ := h1
      exact .inr ⟨q, ws, ys, rfl, .inl (hs_same _ _ h3), by rw [pk_keys (datK_pk.mp h4)]; exact kD_str e, r1.1, fun zs p pm hs hp => Go.list ok g1 hp (datS zs) (r1.2 zs pm hs) k⟩
    · exact r1.elim
  · exact r1.elim
/-! enumerate over lists and tuples, from any number on -/
def enumI (c : Int) (ds : List D) : List D := ds.zipIdx.map fun p => .tup [.v (.int (c + (p.2 : Nat))), p.1]
theorem enumI_at {ds : List D} {c : Int} {i : Nat} {d : D} (h : (enumI c ds)[i]? = some d) : ∃ x, ds[i]? = some x ∧ d = .tup [.v (.int (c + (i : Nat))), x] := by
  unfold enumI at h
  rw [List.getElem?_map, List.getElem?_zipIdx] at h
  cases e : ds[i]? with
  | none => rw [e] at h; cases h
  | some x =>
    rw [e] at h
    refine ⟨x, rfl, (Option.some.inj h).symm.trans ?_⟩
    show D.tup [.v (.int (c + ((0 + i : Nat)))), x] = _
    rw [Nat.zero_add]
theorem enumI_len {ds : List D} {c : Int} : (enumI c ds).length = ds.length := by
  unfold enumI
  rw [List.length_map, List.length_zipIdx]
theorem seqB_of {d : D} {x : V} {es : List D} (e : seqD d = some es) (s : Same G H) (h : Dat K G d x) : ∃ b p vs, x = .ref p ∧ SqB K b H p vs ∧ DatL K G es vs := by
  obtain ⟨p, vs, rfl, h1 | h1, h2⟩ := seqD_dat e s h
  · exact ⟨true, p, vs, rfl, h1, h2⟩
  · exact ⟨false, p, vs, rfl, h1, h2⟩
theorem sqB_same {b : Bool} {p : Addr} {vs : List V} (s : Same H H') (h : SqB K b H p vs) : SqB K b H' p vs := by
  cases b with
  | true => exact s.seq h
  | false => exact same_seqT s h
theorem it_enumB {b : Bool} {p : Addr} {vs : List V} {ds : List D} {c : Int} (h : SqB K b F p vs) (q : DatL K F ds vs) : ItOk K (IteB K b p c) F (enumI c ds) := fun i F1 H1 s1 s2 => by
  have S : SqB K b H1 p vs := sqB_same (s1.trans s2) h
  refine ⟨fun hi => ⟨vs, S, by rw [enumI_len] at hi; rw [q.len]; exact hi⟩, fun d e => ?_⟩
  obtain ⟨x, e1, rfl⟩ := enumI_at e
  obtain ⟨v, e2, e3⟩ := q.get e1
  refine ⟨⟨vs, v, S, e2⟩, fun y H2 ⟨T, x', h4, h5, h6, h7⟩ => .inr ⟨T, _, h5, h6, ?_⟩⟩
  have ex := h7 vs S
  rw [e2] at ex
  cases ex
  have hF : F1 T = none := by
    cases z : F1 T with
    | none => rfl
    | some u => rw [s2 _ _ z] at h5; cases h5
  exact ⟨T, _, h4, upd_same, .cons rfl (.cons ((e3.mono s1).mono (Same.new hF)) .nil)⟩
def dEnumB (dl : DAt) : DAt := fun a R => dl a fun xs a' => match xs with
  | [d] => (match seqD d with
    | some ds => R (enumI 0 ds) a'
    | none => False)
  | _ => False
theorem di_enumB {x : Expr} {p pos tpos : Pos} {elts : List Expr} {kk : Nat} (hg : ∀ j, Gl (X j) "enumerate") (hm : ∀ j, (X j).mg "enumerate" = none) (ha : DAE X K ω [x] dl) (hs : ∀ j, starEach [x] (X j).env = [(false, eval x (X j).env)] := by intro _; rfl) (hK : ∀ j, (X j).K = K := by intro _; rfl) :
    DI X K ω (.Tuple elts kk tpos) (.Call (.Name "enumerate" p) [x] [] pos) (dEnumB dl) := by
  obtain ⟨t, p1, l⟩ := ha
  refine ⟨iEnumB K t, fun j => by rw [← hK j]; exact pi_enumB (hg j) (hm j) (p1 j) (hs j), fun B hω F a σ H Q R ok hd k => l B hω F a σ H _ _ ok hd fun vs ds F' a' H' g q r => ?_⟩
  split at r
  · rename_i d
    split at r
    · rename_i ds e
      obtain ⟨v, r', rfl, h1, h2⟩ := q
      cases (show r' = [] from h2)
      obtain ⟨b, p, ws, rfl, h3, h4⟩ := seqB_of e (Same.refl F') h1
      exact ⟨b, p, ws, rfl, sqB_same g.ok.fi.fh h3, k _ _ F' a' H' g (it_enumB h3 h4) r⟩
    · exact r.elim
  · exact r.elim
/-- enumerate(x, start=k) -/
def dEnumS (dl : DAt) (dk : DEt) : DAt := fun a R => dl a fun xs a1 => dk a1 fun k a' => match xs, k with
  | [d], .v (.int c) => (match seqD d with
    | some ds => (-2 ^ 63 ≤ c ∧ c < 2 ^ 63) ∧ R (enumI c ds) a'
    | none => False)
  | _, _ => False
theorem di_enumS {x : Expr} {p pos tpos kpos : Pos} {elts : List Expr} {kk : Nat} (hg : ∀ j, Gl (X j) "enumerate") (hm : ∀ j, (X j).mg "enumerate" = none) (ha : DAE X K ω [x] dl) (hk : DX X K ω e de)
    (he : ∀ j, backTo pos (starEach [x] (X j).env) = (false, eval x (X j).env) :: backTo pos (starEach [] (X j).env) := by intro _; rfl) (hpl : ∀ j, (backTo pos (starEach [x] (X j).env)).any (fun x => x.1) = false := by intro _; rfl)
    (h1 : ∀ j, (backToKw pos (keywordEach [⟨some "start", e, kpos⟩] (X j).env)).all (fun x => x.1.isSome) = true := by intro _; rfl) (h2 : ∀ j, (backToKw pos (keywordEach [⟨some "start", e, kpos⟩] (X j).env)).any (fun x => x.1.isNone) = false := by intro _; rfl)
    (h3 : ∀ j, (backToKw pos (keywordEach [⟨some "start", e, kpos⟩] (X j).env)).filterMap (fun x => x.1) = [("start" : Str)] := by intro _; rfl) (hK : ∀ j, (X j).K = K := by intro _; rfl) :
    DI X K ω (.Tuple elts kk tpos) (.Call (.Name "enumerate" p) [x] [⟨some "start", e, kpos⟩] pos) (dEnumS dl de) := by
  obtain ⟨t, p1, l⟩ := ha
  obtain ⟨tk, p2, l2⟩ := hk
  refine ⟨iEnumS K t (tCons tk tNil), fun j => by rw [← hK j]; exact pi_enumS (hg j) (hm j) (p1 j) (pk_cons (p2 j) pk_nil) (he j) (hpl j) (h1 j) (h2 j) (h3 j), fun B hω F a σ H Q R ok hd k => l B hω F a σ H _ _ ok hd fun vs ds F1 a1 H1 g1 q1 r1 => l2 B hω F1 a1 σ H1 _ _ g1.ok r1 fun v d F2 a2 H2 g2 q2 r2 => ?_⟩
  split at r2
  · rename_i d c
    split at r2
    · rename_i ds e
      obtain ⟨v, r', rfl, h1, h2⟩ := q1
      cases (show r' = [] from h2)
      obtain ⟨b, p, ws, rfl, h3, h4⟩ := seqB_of e (Same.refl F1) h1
      have g := Go.trans ok g1 g2
      exact ⟨b, p, ws, c, rfl, by rw [show _ = _ from q2], r2.1.1, r2.1.2, sqB_same (g2.ff.trans g2.ok.fi.fh) h3, k _ _ F2 a2 H2 g (it_enumB (sqB_same g2.ff h3) (h4.mono g2.ff)) r2.2⟩
    · exact r2.elim
  · exact r2.elim
/-! dict(zip(texts, things)) -/
def dDictZip (dl : DAt) : DEt := fun a R => dl a fun ds a' => match ds with
  | [.tup xs, .tup ys] => (match unS xs with
    | some zs => zs.length ≤ 1000 ∧ R (.dK (mergeA [] ((zs.map Sum.inr).zip ys))) a'
    | none => False)
  | [.ftup xs, .tup ys] => (match unS xs with
    | some zs => zs.length ≤ 1000 ∧ R (.dK (mergeA [] ((zs.map Sum.inr).zip ys))) a'
    | none => False)
  | _ => False
theorem pk_zip : ∀ {zs : List Key} {ys : List D} {vs : List V}, DatL K H ys vs → PK K H (zs.zip ys) (zs.zip vs)
  | [], _, _, _ => by rw [List.zip_nil_left, List.zip_nil_left]; exact .nil
  | _ :: _, [], _, h => by rw [show _ = [] from h]; exact .nil
  | z :: zs, y :: ys, _, ⟨v, r, rfl, h, t⟩ => .cons ⟨rfl, h⟩ (pk_zip t)
theorem do_dictZip {p p2 q : Pos} (hg : ∀ j, Gl (X j) "dict") (hm : ∀ j, (X j).mg "dict" = none) (hg2 : ∀ j, Gl (X j) "zip") (hm2 : ∀ j, (X j).mg "zip" = none) (ha : DAE X K ω [e, e2] dl) (hc : ∀ j, (X j).calm = true := by intro _; rfl)
    (h1 : ∀ j, starEach [e, e2] (X j).env = (false, eval e (X j).env) :: starEach [e2] (X j).env := by intro _; rfl) (h2 : ∀ j, (backTo q (starEach [e2] (X j).env)).any (fun x => x.1) = false := by intro _; rfl)
    (h3 : ∀ j, starEach [.Call (.Name "zip" p2) [e, e2] [] q] (X j).env = (false, eval (.Call (.Name "zip" p2) [e, e2] [] q) (X j).env) :: starEach [] (X j).env := by intro _; rfl) (hK : ∀ j, (X j).K = K := by intro _; rfl) :
    DO X K ω (.Call (.Name "dict" p) [.Call (.Name "zip" p2) [e, e2] [] q] [] pos) (dDictZip dl) := by
  obtain ⟨t, p1, l⟩ := ha
  refine ⟨tDictZip K t, fun j => by rw [← hK j]; exact pe_dictZip (hg j) (hm j) (hg2 j) (hm2 j) (p1 j) (hc j) (h1 j) (h2 j) (h3 j), fun B hω F a σ H Q R ok hd k => l B hω F a σ H _ _ ok hd fun vs ds F1 a1 H1 g1 q1 r1 => ?_⟩
  split at r1
  · rename_i xs ys
    split at r1
    · rename_i zs ez
      obtain ⟨v, r, rfl, ⟨p, us, rfl, h1, h2⟩, w, r', rfl, ⟨p', ws, rfl, h3, h4⟩, h5⟩ := q1
      cases (show r' = [] from h5)
      rw [unS_of ez] at h2
      cases datL_flat h2
      refine ⟨p, p', zs, ws, rfl, SqT.of (g1.ok.fi.fh _ _ h1), SqT.of (g1.ok.fi.fh _ _ h3), r1.1, fun q hq => Go.newD ok g1 hq (d := .dK (mergeA [] ((zs.map Sum.inr).zip ys))) ⟨_, rfl, datK_pk.mpr (pk_merge (pk_zip h4) .nil)⟩ r1.2 k⟩
    · exact r1.elim
  · rename_i xs ys
    split at r1
    · rename_i zs ez
      obtain ⟨v, r, rfl, ⟨p, us, rfl, h1, h2⟩, w, r', rfl, ⟨p', ws, rfl, h3, h4⟩, h5⟩ := q1
      cases (show r' = [] from h5)
      rw [unS_of ez] at h2
      cases datL_flat h2
      refine ⟨p, p', zs, ws, rfl, (h1.mono g1.ok.fi.fh).sq, SqT.of (g1.ok.fi.fh _ _ h3), r1.1, fun q hq => Go.newD ok g1 hq (d := .dK (mergeA [] ((zs.map Sum.inr).zip ys))) ⟨_, rfl, datK_pk.mpr (pk_merge (pk_zip h4) .nil)⟩ r1.2 k⟩
    · exact r1.elim
  · exact r1.elim
/-! a written dict of texts to tuples of texts -/
structure TabD (K : PySem.W.Frag) (w : World) (c : Addr) (l : List (Str × List Str)) : Prop where
  at_ : ∃ es n, KDict K w c es n
  yes : ∀ (j : Nat) (nm : Str) (ps : List Str), l[j]? = some (nm, ps) → ∃ u : Addr, PySem.W.nsIn K c nm = some (some (.ref u)) ∧ ∀ H : Hp, SqT K H u (ps.map V.str)
  no : ∀ z : Str, z ∉ l.map (·.1) → PySem.W.nsIn K c z = some none
def dInG (l : List (Str × List Str)) (de : DEt) : DEt := fun a R => de a fun d a' => match d with
  | .v (.str z) => R (.v (.bl (decide (z ∈ l.map (·.1))))) a'
  | _ => False
theorem mem_map_at {l : List (Str × List Str)} {z : Str} (h : z ∈ l.map (·.1)) : ∃ (j : Nat) (ps : List Str), l[j]? = some (z, ps) := by
  obtain ⟨q, h1, rfl⟩ := List.mem_map.mp h
  obtain ⟨j, h2⟩ := List.mem_iff_getElem?.mp h1
  exact ⟨j, q.2, h2⟩
theorem le_inG {w : World} {c : Addr} {l : List (Str × List Str)} (T : TabD K w c l) {ta : TE} (h : LB K ω ta de) : LE K ω (tOp (fun x y H Q => ∃ z r, x = .str z ∧ y = .ref c ∧ PySem.W.nsIn K c z = some r ∧ Q (.bl r.isSome) H) ta (tC (.ref c))) (dInG l de) := fun B hω F a σ H Q R ok hd k => h B hω F a σ H _ _ ok hd fun x d F1 a1 H1 g1 q1 r1 => by
  split at r1
  · rename_i z
    by_cases hz : z ∈ l.map (·.1)
    · obtain ⟨j, ps, e⟩ := mem_map_at hz
      obtain ⟨u, hu, _⟩ := T.yes j z ps e
      refine ⟨z, _, q1, rfl, hu, k _ (.v _) F1 a1 H1 g1 rfl ?_⟩
      rw [decide_eq_true hz] at r1
      exact r1
    · refine ⟨z, _, q1, rfl, T.no z hz, k _ (.v _) F1 a1 H1 g1 rfl ?_⟩
      rw [decide_eq_false hz] at r1
      exact r1
  · exact r1.elim
theorem de_inG {w : World} {x : Str} {p : Pos} {c : Addr} {l : List (Str × List Str)} (T : TabD K w c l) (hw : ∀ j, (X j).w = w) (hg : ∀ j, Gl (X j) x) (hm : ∀ j, (X j).mg x = some (.ref c)) (ha : DB X K ω e de) (hd : (x == ("__debug__" : Str)) = false := by decide) (hb : behindInMarks .In (.Name x p) = false := by rfl) (hK : ∀ j, (X j).K = K := by intro _; rfl) : DX X K ω (.Compare e [.In] [.Name x p] pos) (dInG l de) := by
  obtain ⟨t, p1, l1⟩ := ha
  obtain ⟨es, n, kd⟩ := T.at_
  exact ⟨_, fun j => pe_cmpR (by have := op_in_kd (X := X j) (d := c) (es := es) (n := n) (by rw [hK j, hw j]; exact kd); rw [hK j] at this; exact this) (p1 j) (pe_glob (v := .ref c) (hg j) (hm j) rfl hd) hb, le_inG T l1⟩
theorem dt_inG {w : World} {x : Str} {p : Pos} {c : Addr} {l : List (Str × List Str)} (T : TabD K w c l) (hw : ∀ j, (X j).w = w) (hg : ∀ j, Gl (X j) x) (hm : ∀ j, (X j).mg x = some (.ref c)) (ha : DB X K ω e de) (hd : (x == ("__debug__" : Str)) = false := by decide) (hb : behindInMarks .In (.Name x p) = false := by rfl) (hK : ∀ j, (X j).K = K := by intro _; rfl) : DT X K ω (.Compare e [.In] [.Name x p] pos) (dTest (dInG l de)) := by
  obtain ⟨t, p1, l1⟩ := ha
  obtain ⟨es, n, kd⟩ := T.at_
  exact ⟨_, fun j => pt_cmpR (by have := op_in_kd (X := X j) (d := c) (es := es) (n := n) (by rw [hK j, hw j]; exact kd); rw [hK j] at this; exact this) (p1 j) (pe_glob (v := .ref c) (hg j) (hm j) rfl hd) hb, lc_b (le_inG T l1)⟩
def dIxG (l : List (Str × List Str)) (de : DEt) : DEt := fun a R => de a fun d a' => match d with
  | .v (.str z) => ∃ ps, (z, ps) ∈ l ∧ R (.ctup (ps.map fun y => D.v (V.str y))) a'
  | _ => False
theorem de_ixG {w : World} {x : Str} {p : Pos} {c : Addr} {l : List (Str × List Str)} (T : TabD K w c l) (hw : ∀ j, (X j).w = w) (hg : ∀ j, Gl (X j) x) (hm : ∀ j, (X j).mg x = some (.ref c)) (ha : DB X K ω e de) (hs : PlainIx e) (hd : (x == ("__debug__" : Str)) = false := by decide) (hK : ∀ j, (X j).K = K := by intro _; rfl) : DX X K ω (.Subscript (.Name x p) e pos) (dIxG l de) := by
  obtain ⟨t, p1, l1⟩ := ha
  obtain ⟨es, n, kd⟩ := T.at_
  refine ⟨tOp (rIxD K w) (tC (.ref c)) t, fun j => by rw [← hK j, ← hw j]; exact pe_ix ix_kdict (pe_glob (v := .ref c) (hg j) (hm j) rfl hd) (p1 j) hs, fun B hω F a σ H Q R ok hd k => l1 B hω F a σ H _ _ ok hd fun y d F1 a1 H1 g1 q1 r1 => ?_⟩
  split at r1
  · rename_i z
    obtain ⟨ps, hp, r⟩ := r1
    obtain ⟨j, ej⟩ := List.mem_iff_getElem?.mp hp
    obtain ⟨u, hu, hs⟩ := T.yes j z ps ej
    refine ⟨c, z, .ref u, rfl, q1, ⟨es, n, _, kd.at_, kd.lit, hu, rfl⟩, k _ (.ctup _) F1 a1 H1 g1 ⟨u, _, rfl, hs _, datS ps⟩ r⟩
  · exact r1.elim
/-! x += e -/
def dAug (i : Nat) (g : Int → Int → Int) (de : DEt) : DSt := fun E a => match a.at i with
  | .val (.v (.int x)) => de a fun d a' => match d with
    | .v (.int y) => E.nx (a'.put i (.val (.v (.int (g x y)))))
    | _ => False
  | _ => False
theorem ds_augAdd {i : Nat} {x : Str} {pos' : Pos} (hN : ∀ j, (X j).N.Nodup) (hi : ∀ j, (X j).N[i]? = some x) (hx : ∀ j, Loc (X j).env.scope x) (he : DX X K ω e de) (hf : ∀ j, (X j).fn x = true ∨ (X j).env.scope.names.lookup x = some .local := by first | exact fun _ => .inl rfl | exact fun _ => .inr rfl | assumption)
    (hz : ω.sf = false ∨ i ≠ 0 := by first | exact Or.inl rfl | exact Or.inr (by decide)) : DS X K ω (.AugAssign (.Name x pos') .Add e pos) (dAug i (· + ·) de) := by
  obtain ⟨t, p, l⟩ := he
  refine ⟨_, fun j => ps_aug (hN j) (hi j) (hx j) (p j) ip_add (hf j), fun B hω E DE F a σ H ok hd k => ?_⟩
  unfold dAug at hd
  split at hd
  · rename_i x es
    obtain ⟨v, h1, h2⟩ := ok.va i _ (at_of' es (fun z => nomatch z))
    cases (show v = .int x from h2)
    refine ⟨_, h1, l B hω F a σ H _ _ ok hd fun v d F' a' H' g q r => ?_⟩
    split at r
    · rename_i y
      exact ⟨x, y, rfl, q, k.nx F' _ _ H' (g.ok.setV (d := .v _) (hω.z hz) rfl) g.ff r⟩
    · exact r.elim
  · exact hd.elim
theorem ds_augSub {i : Nat} {x : Str} {pos' : Pos} (hN : ∀ j, (X j).N.Nodup) (hi : ∀ j, (X j).N[i]? = some x) (hx : ∀ j, Loc (X j).env.scope x) (he : DX X K ω e de) (hf : ∀ j, (X j).fn x = true ∨ (X j).env.scope.names.lookup x = some .local := by first | exact fun _ => .inl rfl | exact fun _ => .inr rfl | assumption)
    (hz : ω.sf = false ∨ i ≠ 0 := by first | exact Or.inl rfl | exact Or.inr (by decide)) : DS X K ω (.AugAssign (.Name x pos') .Sub e pos) (dAug i (· - ·) de) := by
  obtain ⟨t, p, l⟩ := he
  refine ⟨_, fun j => ps_aug (hN j) (hi j) (hx j) (p j) ip_sub (hf j), fun B hω E DE F a σ H ok hd k => ?_⟩
  unfold dAug at hd
  split at hd
  · rename_i x es
    obtain ⟨v, h1, h2⟩ := ok.va i _ (at_of' es (fun z => nomatch z))
    cases (show v = .int x from h2)
    refine ⟨_, h1, l B hω F a σ H _ _ ok hd fun v d F' a' H' g q r => ?_⟩
    split at r
    · rename_i y
      exact ⟨x, y, rfl, q, k.nx F' _ _ H' (g.ok.setV (d := .v _) (hω.z hz) rfl) g.ff r⟩
    · exact r.elim
  · exact hd.elim
/-! a, b = e: a list or a tuple -/
def dgSeq (u : DGts) : DGt := fun d a R => match seqD d with
  | some ds => u ds a R
  | none => False
theorem dg_seq {k : Nat} {dg : DGts} {w : List Nat} {m : Nat} (hc : ∀ j, (X j).calm = true) (h : DGs X K ω es dg w m) (hn : ∀ j, (assignEach es (X j).env).length = m := by intro _; rfl) (hst : ∀ j, (assignEach es (X j).env).findIdx? (fun x => x.1) = none := by intro _; rfl) (hK : ∀ j, (X j).K = K := by intro _; rfl) : DG X K ω (.Tuple es k pos) (dgSeq dg) w := by
  obtain ⟨g, p, l, hl⟩ := h
  refine ⟨fun v σ H Q => gTup K m g v σ H Q ∨ gUnl K m g v σ H Q, fun j => ⟨fun pins s σ H v u Q I r hw => hw.elim (fun hw => (pg_tup (hc j) (p j) (hn j) (hst j)).run pins s σ H v u Q I r (by rw [hK j]; exact hw)) fun hw => (pg_unl (hc j) (p j) (hn j) (hst j)).run pins s σ H v u Q I r (by rw [hK j]; exact hw)⟩, fun B hω F a σ H v d Q R ok h hd k => ?_⟩
  unfold dgSeq at hd
  split at hd
  · rename_i ds e
    obtain ⟨p, vs, rfl, h1, h2⟩ := seqD_dat e ok.fi.fh h
    rcases h1 with h1 | h1
    · exact .inr ⟨p, vs, rfl, h1, by rw [h2.len]; exact hl _ _ _ hd, l B hω F a σ H vs ds Q R ok h2 hd k⟩
    · exact .inl ⟨p, vs, rfl, h1, by rw [h2.len]; exact hl _ _ _ hd, l B hω F a σ H vs ds Q R ok h2 hd k⟩
  · exact hd.elim
theorem set_id {α : Type} {l : List α} {i : Nat} {x : α} (h : l[i]? = some x) : l.set i x = l := by
  obtain ⟨hi, rfl⟩ := List.getElem?_eq_some_iff.mp h
  exact List.set_getElem_self hi
/-! d.setdefault((..), v): one's own dict with tuple keys -/
def dDSetT (i : Nat) (dk dv : DEt) : DSt := fun E a => isOwnT (a.at i) = true ∧ dk a fun e a1 => dv a1 fun d a2 => match a2.at i, e with
  | .own (.dT kvs), .tup ds => (match keysD ds with
    | some k => kvs.length < sizeLine ∧ E.nx (a2.put i (.own (.dT (match getA kvs k with | some _ => kvs | none => putA kvs k d))))
    | none => False)
  | _, _ => False
where isOwnT : Sl → Bool
  | .own (.dT _) => true
  | _ => false
theorem ds_dsetT {i : Nat} {x : Str} {px apos cpos : Pos} {f : Expr} {dk dv : DEt} (hu : ∀ j, (X j).A.units + 1 < cLine) (ho : ∀ j, PE (X j) (.Name x px) (tVar i)) (hk : DX X K ω e dk) (hv : DX X K ω f dv) (m : ∀ j, M2 (X j) (.Name x px) "setdefault" apos e f cpos) (hs : ∀ j, swapsWith (.Call (.Attribute (.Name x px) "setdefault" apos) [e, f] [] cpos) none pos.line (X j).env = pure false := by intro _; rfl) :
    DS X K ω (.Expr (.Call (.Attribute (.Name x px) "setdefault" apos) [e, f] [] cpos) pos) (dDSetT i dk dv) := by
  obtain ⟨tk, p1, l1⟩ := hk
  obtain ⟨tv, p2, l2⟩ := hv
  refine ⟨tDrop (tDSetdT (tVar i) tk tv), fun j => ps_expr (pe_dsetdT (hu j) (ho j) (p1 j) (p2 j) (m j)) (hs j), fun B hω E DE F a σ H ok hd k => ?_⟩
  obtain ⟨h0, hd⟩ := hd
  have h0' : ∃ kvs, a.at i = .own (.dT kvs) := by
    unfold dDSetT.isOwnT at h0
    split at h0
    · exact ⟨_, by assumption⟩
    · cases h0
  obtain ⟨kvs0, e0⟩ := h0'
  obtain ⟨p, o, h1, h2, _, _, vs0, rfl, _⟩ := ok.ow i _ (at_of' e0 (fun z => nomatch z))
  refine ⟨_, h1, p, rfl, .inr ⟨vs0, .inl h2⟩, l1 B hω F a σ H _ _ ok hd fun y d F1 a1 H1 g1 q1 r1 => l2 B hω F1 a1 σ H1 _ _ g1.ok r1 fun z dz F2 a2 H2 g2 q2 r2 => ?_⟩
  split at r2
  · rename_i kvs ds es
    split at r2
    · rename_i kk ek
      have es' := at_of' es (fun z => nomatch z)
      obtain ⟨p', o, h1', h3, h4, h5, vs, rfl, h6⟩ := g2.ok.ow i _ es'
      rw [h1] at h1'
      cases h1'
      obtain ⟨b, us, rfl, h7, h8⟩ := q1.mono g2.ff
      rw [keysD_of h8 ek] at h7
      have h9 := datT_pk.mp h6
      have h10 := pk_get h9 kk
      refine ⟨vs, kk, b, h3, rfl, g2.ok.fi.fh _ _ h7, by rw [pk_len h9]; exact r2.1, fun v hv => ?_, fun hn => ?_⟩
      · cases eg : getA kvs kk with
        | none => rw [eg] at h10; rw [show valV vs kk = none from h10] at hv; cases hv
        | some dg =>
          have r := r2.2
          rw [eg] at r
          have e : a2.put i (.own (.dT kvs)) = a2 := by
            obtain ⟨sl, n, sp⟩ := a2
            show AS.mk _ _ _ = _
            rw [set_id es']
          exact k.nx F2 _ σ H2 g2.ok (g1.ff.trans g2.ff) (by rw [← e]; exact r)
      · cases eg : getA kvs kk with
        | some dg =>
          rw [eg] at h10
          obtain ⟨v, hv, _⟩ := h10
          rw [hn] at hv
          cases hv
        | none =>
          have r := r2.2
          rw [eg] at r
          exact k.nx F2 _ σ _ (g2.ok.chg (e := .dT (putA kvs kk dz)) es' h1 ⟨_, rfl, datT_pk.mpr (pk_put h9 q2)⟩) (g1.ff.trans g2.ff) r
    · exact r2.elim
  · exact r2.elim
/-! a, b = x, y and a, b, c = x, y, z -/
def dPar (i j : Nat) (dl : DAt) : DSt := fun E a => dl a fun ds a' => match ds with
  | [d, e] => E.nx ((a'.put i (.val d)).put j (.val e))
  | _ => False
theorem ds_par {i j : Nat} {x y : Str} {px py pt : Pos} {kt k2 pt2} (hc : ∀ q, (X q).calm = true) (hN : ∀ q, (X q).N.Nodup) (hi : ∀ q, (X q).N[i]? = some x) (hj : ∀ q, (X q).N[j]? = some y) (hij : i ≠ j) (hx : ∀ q, (X q).env.scope.names.lookup x = some .local) (hy : ∀ q, (X q).env.scope.names.lookup y = some .local) (ha : DAE X K ω [e1, e2] dl)
    (hw : ∀ q, swappedStores [.Tuple [.Name x px, .Name y py] kt pt] (.Tuple [e1, e2] k2 pt2) (X q).env = pure (some [x, y])) (hs : ∀ q, swapsWithSole [.Tuple [.Name x px, .Name y py] kt pt] (.Tuple [e1, e2] k2 pt2) pos.line (X q).env = pure false := by intro _; rfl)
    (hzi : ω.sf = false ∨ i ≠ 0 := by first | exact Or.inl rfl | exact Or.inr (by decide)) (hzj : ω.sf = false ∨ j ≠ 0 := by first | exact Or.inl rfl | exact Or.inr (by decide)) :
    DS X K ω (.Assign [.Tuple [.Name x px, .Name y py] kt pt] (.Tuple [e1, e2] k2 pt2) pos) (dPar i j dl) := by
  obtain ⟨t, p, l⟩ := ha
  refine ⟨_, fun q => ps_par (hc q) (hN q) (hi q) (hj q) hij (hx q) (hy q) (p q) (hw q) (hs q), fun B hω E DE F a σ H ok hd k => l B hω F a σ H _ _ ok hd fun vs ds F' a' H' g q r => ?_⟩
  split at r
  · obtain ⟨v, r', rfl, h1, w, r'', rfl, h2, h3⟩ := q
    cases (show r'' = [] from h3)
    exact ⟨v, w, rfl, k.nx F' _ _ H' ((g.ok.setV (hω.z hzi) h1).setV (hω.z hzj) h2) g.ff r⟩
  · exact r.elim
def dPar3 (i j m : Nat) (dl : DAt) : DSt := fun E a => dl a fun ds a' => match ds with
  | [d, e, f] => E.nx (((a'.put i (.val d)).put j (.val e)).put m (.val f))
  | _ => False
theorem ds_par3 {i j m : Nat} {x y z : Str} {e3 : Expr} {px py pz pt : Pos} {kt k2 pt2} (hc : ∀ q, (X q).calm = true) (hN : ∀ q, (X q).N.Nodup) (hi : ∀ q, (X q).N[i]? = some x) (hj : ∀ q, (X q).N[j]? = some y) (hm : ∀ q, (X q).N[m]? = some z) (hij : i ≠ j) (him : i ≠ m) (hjm : j ≠ m)
    (hx : ∀ q, (X q).env.scope.names.lookup x = some .local) (hy : ∀ q, (X q).env.scope.names.lookup y = some .local) (hz : ∀ q, (X q).env.scope.names.lookup z = some .local) (ha : DAE X K ω [e1, e2, e3] dl)
    (hw : ∀ q, swappedStores [.Tuple [.Name x px, .Name y py, .Name z pz] kt pt] (.Tuple [e1, e2, e3] k2 pt2) (X q).env = pure (some [x, y, z])) (hs : ∀ q, swapsWithSole [.Tuple [.Name x px, .Name y py, .Name z pz] kt pt] (.Tuple [e1, e2, e3] k2 pt2) pos.line (X q).env = pure false := by intro _; rfl)
    (hzi : ω.sf = false ∨ i ≠ 0 := by first | exact Or.inl rfl | exact Or.inr (by decide)) (hzj : ω.sf = false ∨ j ≠ 0 := by first | exact Or.inl rfl | exact Or.inr (by decide)) (hzm : ω.sf = false ∨ m ≠ 0 := by first | exact Or.inl rfl | exact Or.inr (by decide)) :
    DS X K ω (.Assign [.Tuple [.Name x px, .Name y py, .Name z pz] kt pt] (.Tuple [e1, e2, e3] k2 pt2) pos) (dPar3 i j m dl) := by
  obtain ⟨t, p, l⟩ := ha
  refine ⟨_, fun q => ps_par3 (hc q) (hN q) (hi q) (hj q) (hm q) hij him hjm (hx q) (hy q) (hz q) (p q) (hw q) (hs q), fun B hω E DE F a σ H ok hd k => l B hω F a σ H _ _ ok hd fun vs ds F' a' H' g q r => ?_⟩
  split at r
  · obtain ⟨v, r', rfl, h1, w, r'', rfl, h2, u, r3, rfl, h3, h4⟩ := q
    cases (show r3 = [] from h4)
    exact ⟨v, w, u, rfl, k.nx F' _ _ H' (((g.ok.setV (hω.z hzi) h1).setV (hω.z hzj) h2).setV (hω.z hzm) h3) g.ff r⟩
  · exact r.elim
end
section
variable {P : Program} {w : World} {K : PySem.W.Frag} {mg : Str → Option Value} {base : Heap}
--SPLIT
/-! ### reading, step by step -/
theorem bif_t {A C : Prop} (h : A) : bIf true A C := h
theorem bif_f {A C : Prop} (h : C) : bIf false A C := h
theorem bif_d {c A C : Prop} {inst : Decidable c} (h1 : c → A) (h2 : ¬ c → C) : bIf (@decide c inst) A C := by
  by_cases h : c
  · rw [decide_eq_true h]
    exact h1 h
  · rw [decide_eq_false h]
    exact h2 h
theorem bif_nd {c A C : Prop} {inst : Decidable c} (h1 : ¬ c → A) (h2 : c → C) : bIf (!@decide c inst) A C := by
  by_cases h : c
  · rw [decide_eq_true h]
    exact h2 h
  · rw [decide_eq_false h]
    exact h1 h
theorem bif_b {b : Bool} {A C : Prop} (h1 : b = true → A) (h2 : b = false → C) : bIf b A C := by
  cases b with
  | true => exact h1 rfl
  | false => exact h2 rfl
theorem bif_nb {b : Bool} {A C : Prop} (h1 : b = false → A) (h2 : b = true → C) : bIf (!b) A C := by
  cases b with
  | true => exact h2 rfl
  | false => exact h1 rfl
theorem bif_same {b : Bool} {A : Prop} (h : A) : bIf b A A := by
  cases b <;> exact h
theorem at_0 {x0 : Sl} {l : List Sl} {n : Int} {sp : Option Addr} : AS.at ⟨x0 :: l, n, sp⟩ 0 = x0 := rfl
theorem put_0 {x0 y : Sl} {l : List Sl} {n : Int} {sp : Option Addr} : AS.put ⟨x0 :: l, n, sp⟩ 0 y = ⟨y :: l, n, sp⟩ := rfl
theorem at_1 {x0 x1 : Sl} {l : List Sl} {n : Int} {sp : Option Addr} : AS.at ⟨x0 :: x1 :: l, n, sp⟩ 1 = x1 := rfl
theorem put_1 {x0 x1 y : Sl} {l : List Sl} {n : Int} {sp : Option Addr} : AS.put ⟨x0 :: x1 :: l, n, sp⟩ 1 y = ⟨x0 :: y :: l, n, sp⟩ := rfl
theorem at_2 {x0 x1 x2 : Sl} {l : List Sl} {n : Int} {sp : Option Addr} : AS.at ⟨x0 :: x1 :: x2 :: l, n, sp⟩ 2 = x2 := rfl
theorem put_2 {x0 x1 x2 y : Sl} {l : List Sl} {n : Int} {sp : Option Addr} : AS.put ⟨x0 :: x1 :: x2 :: l, n, sp⟩ 2 y = ⟨x0 :: x1 :: y :: l, n, sp⟩ := rfl
theorem at_3 {x0 x1 x2 x3 : Sl} {l : List Sl} {n : Int} {sp : Option Addr} : AS.at ⟨x0 :: x1 :: x2 :: x3 :: l, n, sp⟩ 3 = x3 := rfl
theorem put_3 {x0 x1 x2 x3 y : Sl} {l : List Sl} {n : Int} {sp : Option Addr} : AS.put ⟨x0 :: x1 :: x2 :: x3 :: l, n, sp⟩ 3 y = ⟨x0 :: x1 :: x2 :: y :: l, n, sp⟩ := rfl
theorem at_4 {x0 x1 x2 x3 x4 : Sl} {l : List Sl} {n : Int} {sp : Option Addr} : AS.at ⟨x0 :: x1 :: x2 :: x3 :: x4 :: l, n, sp⟩ 4 = x4 := rfl
theorem put_4 {x0 x1 x2 x3 x4 y : Sl} {l : List Sl} {n : Int} {sp : Option Addr} : AS.put ⟨x0 :: x1 :: x2 :: x3 :: x4 :: l, n, sp⟩ 4 y = ⟨x0 :: x1 :: x2 :: x3 :: y :: l, n, sp⟩ := rfl
theorem at_5 {x0 x1 x2 x3 x4 x5 : Sl} {l : List Sl} {n : Int} {sp : Option Addr} : AS.at ⟨x0 :: x1 :: x2 :: x3 :: x4 :: x5 :: l, n, sp⟩ 5 = x5 := rfl
theorem put_5 {x0 x1 x2 x3 x4 x5 y : Sl} {l : List Sl} {n : Int} {sp : Option Addr} : AS.put ⟨x0 :: x1 :: x2 :: x3 :: x4 :: x5 :: l, n, sp⟩ 5 y = ⟨x0 :: x1 :: x2 :: x3 :: x4 :: y :: l, n, sp⟩ := rfl
theorem at_6 {x0 x1 x2 x3 x4 x5 x6 : Sl} {l : List Sl} {n : Int} {sp : Option Addr} : AS.at ⟨x0 :: x1 :: x2 :: x3 :: x4 :: x5 :: x6 :: l, n, sp⟩ 6 = x6 := rfl
theorem put_6 {x0 x1 x2 x3 x4 x5 x6 y : Sl} {l : List Sl} {n : Int} {sp : Option Addr} : AS.put ⟨x0 :: x1 :: x2 :: x3 :: x4 :: x5 :: x6 :: l, n, sp⟩ 6 y = ⟨x0 :: x1 :: x2 :: x3 :: x4 :: x5 :: y :: l, n, sp⟩ := rfl
theorem at_7 {x0 x1 x2 x3 x4 x5 x6 x7 : Sl} {l : List Sl} {n : Int} {sp : Option Addr} : AS.at ⟨x0 :: x1 :: x2 :: x3 :: x4 :: x5 :: x6 :: x7 :: l, n, sp⟩ 7 = x7 := rfl
theorem put_7 {x0 x1 x2 x3 x4 x5 x6 x7 y : Sl} {l : List Sl} {n : Int} {sp : Option Addr} : AS.put ⟨x0 :: x1 :: x2 :: x3 :: x4 :: x5 :: x6 :: x7 :: l, n, sp⟩ 7 y = ⟨x0 :: x1 :: x2 :: x3 :: x4 :: x5 :: x6 :: y :: l, n, sp⟩ := rfl
theorem at_8 {x0 x1 x2 x3 x4 x5 x6 x7 x8 : Sl} {l : List Sl} {n : Int} {sp : Option Addr} : AS.at ⟨x0 :: x1 :: x2 :: x3 :: x4 :: x5 :: x6 :: x7 :: x8 :: l, n, sp⟩ 8 = x8 := rfl
theorem put_8 {x0 x1 x2 x3 x4 x5 x6 x7 x8 y : Sl} {l : List Sl} {n : Int} {sp : Option Addr} : AS.put ⟨x0 :: x1 :: x2 :: x3 :: x4 :: x5 :: x6 :: x7 :: x8 :: l, n, sp⟩ 8 y = ⟨x0 :: x1 :: x2 :: x3 :: x4 :: x5 :: x6 :: x7 :: y :: l, n, sp⟩ := rfl
theorem at_9 {x0 x1 x2 x3 x4 x5 x6 x7 x8 x9 : Sl} {l : List Sl} {n : Int} {sp : Option Addr} : AS.at ⟨x0 :: x1 :: x2 :: x3 :: x4 :: x5 :: x6 :: x7 :: x8 :: x9 :: l, n, sp⟩ 9 = x9 := rfl
theorem put_9 {x0 x1 x2 x3 x4 x5 x6 x7 x8 x9 y : Sl} {l : List Sl} {n : Int} {sp : Option Addr} : AS.put ⟨x0 :: x1 :: x2 :: x3 :: x4 :: x5 :: x6 :: x7 :: x8 :: x9 :: l, n, sp⟩ 9 y = ⟨x0 :: x1 :: x2 :: x3 :: x4 :: x5 :: x6 :: x7 :: x8 :: y :: l, n, sp⟩ := rfl
theorem at_10 {x0 x1 x2 x3 x4 x5 x6 x7 x8 x9 x10 : Sl} {l : List Sl} {n : Int} {sp : Option Addr} : AS.at ⟨x0 :: x1 :: x2 :: x3 :: x4 :: x5 :: x6 :: x7 :: x8 :: x9 :: x10 :: l, n, sp⟩ 10 = x10 := rfl
theorem put_10 {x0 x1 x2 x3 x4 x5 x6 x7 x8 x9 x10 y : Sl} {l : List Sl} {n : Int} {sp : Option Addr} : AS.put ⟨x0 :: x1 :: x2 :: x3 :: x4 :: x5 :: x6 :: x7 :: x8 :: x9 :: x10 :: l, n, sp⟩ 10 y = ⟨x0 :: x1 :: x2 :: x3 :: x4 :: x5 :: x6 :: x7 :: x8 :: x9 :: y :: l, n, sp⟩ := rfl
theorem at_11 {x0 x1 x2 x3 x4 x5 x6 x7 x8 x9 x10 x11 : Sl} {l : List Sl} {n : Int} {sp : Option Addr} : AS.at ⟨x0 :: x1 :: x2 :: x3 :: x4 :: x5 :: x6 :: x7 :: x8 :: x9 :: x10 :: x11 :: l, n, sp⟩ 11 = x11 := rfl
theorem put_11 {x0 x1 x2 x3 x4 x5 x6 x7 x8 x9 x10 x11 y : Sl} {l : List Sl} {n : Int} {sp : Option Addr} : AS.put ⟨x0 :: x1 :: x2 :: x3 :: x4 :: x5 :: x6 :: x7 :: x8 :: x9 :: x10 :: x11 :: l, n, sp⟩ 11 y = ⟨x0 :: x1 :: x2 :: x3 :: x4 :: x5 :: x6 :: x7 :: x8 :: x9 :: x10 :: y :: l, n, sp⟩ := rfl
theorem at_12 {x0 x1 x2 x3 x4 x5 x6 x7 x8 x9 x10 x11 x12 : Sl} {l : List Sl} {n : Int} {sp : Option Addr} : AS.at ⟨x0 :: x1 :: x2 :: x3 :: x4 :: x5 :: x6 :: x7 :: x8 :: x9 :: x10 :: x11 :: x12 :: l, n, sp⟩ 12 = x12 := rfl
theorem put_12 {x0 x1 x2 x3 x4 x5 x6 x7 x8 x9 x10 x11 x12 y : Sl} {l : List Sl} {n : Int} {sp : Option Addr} : AS.put ⟨x0 :: x1 :: x2 :: x3 :: x4 :: x5 :: x6 :: x7 :: x8 :: x9 :: x10 :: x11 :: x12 :: l, n, sp⟩ 12 y = ⟨x0 :: x1 :: x2 :: x3 :: x4 :: x5 :: x6 :: x7 :: x8 :: x9 :: x10 :: x11 :: y :: l, n, sp⟩ := rfl
theorem at_13 {x0 x1 x2 x3 x4 x5 x6 x7 x8 x9 x10 x11 x12 x13 : Sl} {l : List Sl} {n : Int} {sp : Option Addr} : AS.at ⟨x0 :: x1 :: x2 :: x3 :: x4 :: x5 :: x6 :: x7 :: x8 :: x9 :: x10 :: x11 :: x12 :: x13 :: l, n, sp⟩ 13 = x13 := rfl
theorem put_13 {x0 x1 x2 x3 x4 x5 x6 x7 x8 x9 x10 x11 x12 x13 y : Sl} {l : List Sl} {n : Int} {sp : Option Addr} : AS.put ⟨x0 :: x1 :: x2 :: x3 :: x4 :: x5 :: x6 :: x7 :: x8 :: x9 :: x10 :: x11 :: x12 :: x13 :: l, n, sp⟩ 13 y = ⟨x0 :: x1 :: x2 :: x3 :: x4 :: x5 :: x6 :: x7 :: x8 :: x9 :: x10 :: x11 :: x12 :: y :: l, n, sp⟩ := rfl
theorem at_14 {x0 x1 x2 x3 x4 x5 x6 x7 x8 x9 x10 x11 x12 x13 x14 : Sl} {l : List Sl} {n : Int} {sp : Option Addr} : AS.at ⟨x0 :: x1 :: x2 :: x3 :: x4 :: x5 :: x6 :: x7 :: x8 :: x9 :: x10 :: x11 :: x12 :: x13 :: x14 :: l, n, sp⟩ 14 = x14 := rfl
theorem put_14 {x0 x1 x2 x3 x4 x5 x6 x7 x8 x9 x10 x11 x12 x13 x14 y : Sl} {l : List Sl} {n : Int} {sp : Option Addr} : AS.put ⟨x0 :: x1 :: x2 :: x3 :: x4 :: x5 :: x6 :: x7 :: x8 :: x9 :: x10 :: x11 :: x12 :: x13 :: x14 :: l, n, sp⟩ 14 y = ⟨x0 :: x1 :: x2 :: x3 :: x4 :: x5 :: x6 :: x7 :: x8 :: x9 :: x10 :: x11 :: x12 :: x13 :: y :: l, n, sp⟩ := rfl
theorem at_15 {x0 x1 x2 x3 x4 x5 x6 x7 x8 x9 x10 x11 x12 x13 x14 x15 : Sl} {l : List Sl} {n : Int} {sp : Option Addr} : AS.at ⟨x0 :: x1 :: x2 :: x3 :: x4 :: x5 :: x6 :: x7 :: x8 :: x9 :: x10 :: x11 :: x12 :: x13 :: x14 :: x15 :: l, n, sp⟩ 15 = x15 := rfl
theorem put_15 {x0 x1 x2 x3 x4 x5 x6 x7 x8 x9 x10 x11 x12 x13 x14 x15 y : Sl} {l : List Sl} {n : Int} {sp : Option Addr} : AS.put ⟨x0 :: x1 :: x2 :: x3 :: x4 :: x5 :: x6 :: x7 :: x8 :: x9 :: x10 :: x11 :: x12 :: x13 :: x14 :: x15 :: l, n, sp⟩ 15 y = ⟨x0 :: x1 :: x2 :: x3 :: x4 :: x5 :: x6 :: x7 :: x8 :: x9 :: x10 :: x11 :: x12 :: x13 :: x14 :: y :: l, n, sp⟩ := rfl
theorem at_16 {x0 x1 x2 x3 x4 x5 x6 x7 x8 x9 x10 x11 x12 x13 x14 x15 x16 : Sl} {l : List Sl} {n : Int} {sp : Option Addr} : AS.at ⟨x0 :: x1 :: x2 :: x3 :: x4 :: x5 :: x6 :: x7 :: x8 :: x9 :: x10 :: x11 :: x12 :: x13 :: x14 :: x15 :: x16 :: l, n, sp⟩ 16 = x16 := rfl
theorem put_16 {x0 x1 x2 x3 x4 x5 x6 x7 x8 x9 x10 x11 x12 x13 x14 x15 x16 y : Sl} {l : List Sl} {n : Int} {sp : Option Addr} : AS.put ⟨x0 :: x1 :: x2 :: x3 :: x4 :: x5 :: x6 :: x7 :: x8 :: x9 :: x10 :: x11 :: x12 :: x13 :: x14 :: x15 :: x16 :: l, n, sp⟩ 16 y = ⟨x0 :: x1 :: x2 :: x3 :: x4 :: x5 :: x6 :: x7 :: x8 :: x9 :: x10 :: x11 :: x12 :: x13 :: x14 :: x15 :: y :: l, n, sp⟩ := rfl
theorem at_17 {x0 x1 x2 x3 x4 x5 x6 x7 x8 x9 x10 x11 x12 x13 x14 x15 x16 x17 : Sl} {l : List Sl} {n : Int} {sp : Option Addr} : AS.at ⟨x0 :: x1 :: x2 :: x3 :: x4 :: x5 :: x6 :: x7 :: x8 :: x9 :: x10 :: x11 :: x12 :: x13 :: x14 :: x15 :: x16 :: x17 :: l, n, sp⟩ 17 = x17 := rfl
theorem put_17 {x0 x1 x2 x3 x4 x5 x6 x7 x8 x9 x10 x11 x12 x13 x14 x15 x16 x17 y : Sl} {l : List Sl} {n : Int} {sp : Option Addr} : AS.put ⟨x0 :: x1 :: x2 :: x3 :: x4 :: x5 :: x6 :: x7 :: x8 :: x9 :: x10 :: x11 :: x12 :: x13 :: x14 :: x15 :: x16 :: x17 :: l, n, sp⟩ 17 y = ⟨x0 :: x1 :: x2 :: x3 :: x4 :: x5 :: x6 :: x7 :: x8 :: x9 :: x10 :: x11 :: x12 :: x13 :: x14 :: x15 :: x16 :: y :: l, n, sp⟩ := rfl
theorem at_18 {x0 x1 x2 x3 x4 x5 x6 x7 x8 x9 x10 x11 x12 x13 x14 x15 x16 x17 x18 : Sl} {l : List Sl} {n : Int} {sp : Option Addr} : AS.at ⟨x0 :: x1 :: x2 :: x3 :: x4 :: x5 :: x6 :: x7 :: x8 :: x9 :: x10 :: x11 :: x12 :: x13 :: x14 :: x15 :: x16 :: x17 :: x18 :: l, n, sp⟩ 18 = x18 := rfl
theorem put_18 {x0 x1 x2 x3 x4 x5 x6 x7 x8 x9 x10 x11 x12 x13 x14 x15 x16 x17 x18 y : Sl} {l : List Sl} {n : Int} {sp : Option Addr} : AS.put ⟨x0 :: x1 :: x2 :: x3 :: x4 :: x5 :: x6 :: x7 :: x8 :: x9 :: x10 :: x11 :: x12 :: x13 :: x14 :: x15 :: x16 :: x17 :: x18 :: l, n, sp⟩ 18 y = ⟨x0 :: x1 :: x2 :: x3 :: x4 :: x5 :: x6 :: x7 :: x8 :: x9 :: x10 :: x11 :: x12 :: x13 :: x14 :: x15 :: x16 :: x17 :: y :: l, n, sp⟩ := rfl
theorem at_19 {x0 x1 x2 x3 x4 x5 x6 x7 x8 x9 x10 x11 x12 x13 x14 x15 x16 x17 x18 x19 : Sl} {l : List Sl} {n : Int} {sp : Option Addr} : AS.at ⟨x0 :: x1 :: x2 :: x3 :: x4 :: x5 :: x6 :: x7 :: x8 :: x9 :: x10 :: x11 :: x12 :: x13 :: x14 :: x15 :: x16 :: x17 :: x18 :: x19 :: l, n, sp⟩ 19 = x19 := rfl
theorem put_19 {x0 x1 x2 x3 x4 x5 x6 x7 x8 x9 x10 x11 x12 x13 x14 x15 x16 x17 x18 x19 y : Sl} {l : List Sl} {n : Int} {sp : Option Addr} : AS.put ⟨x0 :: x1 :: x2 :: x3 :: x4 :: x5 :: x6 :: x7 :: x8 :: x9 :: x10 :: x11 :: x12 :: x13 :: x14 :: x15 :: x16 :: x17 :: x18 :: x19 :: l, n, sp⟩ 19 y = ⟨x0 :: x1 :: x2 :: x3 :: x4 :: x5 :: x6 :: x7 :: x8 :: x9 :: x10 :: x11 :: x12 :: x13 :: x14 :: x15 :: x16 :: x17 :: x18 :: y :: l, n, sp⟩ := rfl
theorem at_20 {x0 x1 x2 x3 x4 x5 x6 x7 x8 x9 x10 x11 x12 x13 x14 x15 x16 x17 x18 x19 x20 : Sl} {l : List Sl} {n : Int} {sp : Option Addr} : AS.at ⟨x0 :: x1 :: x2 :: x3 :: x4 :: x5 :: x6 :: x7 :: x8 :: x9 :: x10 :: x11 :: x12 :: x13 :: x14 :: x15 :: x16 :: x17 :: x18 :: x19 :: x20 :: l, n, sp⟩ 20 = x20 := rfl
theorem put_20 {x0 x1 x2 x3 x4 x5 x6 x7 x8 x9 x10 x11 x12 x13 x14 x15 x16 x17 x18 x19 x20 y : Sl} {l : List Sl} {n : Int} {sp : Option Addr} : AS.put ⟨x0 :: x1 :: x2 :: x3 :: x4 :: x5 :: x6 :: x7 :: x8 :: x9 :: x10 :: x11 :: x12 :: x13 :: x14 :: x15 :: x16 :: x17 :: x18 :: x19 :: x20 :: l, n, sp⟩ 20 y = ⟨x0 :: x1 :: x2 :: x3 :: x4 :: x5 :: x6 :: x7 :: x8 :: x9 :: x10 :: x11 :: x12 :: x13 :: x14 :: x15 :: x16 :: x17 :: x18 :: x19 :: y :: l, n, sp⟩ := rfl
theorem at_21 {x0 x1 x2 x3 x4 x5 x6 x7 x8 x9 x10 x11 x12 x13 x14 x15 x16 x17 x18 x19 x20 x21 : Sl} {l : List Sl} {n : Int} {sp : Option Addr} : AS.at ⟨x0 :: x1 :: x2 :: x3 :: x4 :: x5 :: x6 :: x7 :: x8 :: x9 :: x10 :: x11 :: x12 :: x13 :: x14 :: x15 :: x16 :: x17 :: x18 :: x19 :: x20 :: x21 :: l, n, sp⟩ 21 = x21 := rfl
theorem put_21 {x0 x1 x2 x3 x4 x5 x6 x7 x8 x9 x10 x11 x12 x13 x14 x15 x16 x17 x18 x19 x20 x21 y : Sl} {l : List Sl} {n : Int} {sp : Option Addr} : AS.put ⟨x0 :: x1 :: x2 :: x3 :: x4 :: x5 :: x6 :: x7 :: x8 :: x9 :: x10 :: x11 :: x12 :: x13 :: x14 :: x15 :: x16 :: x17 :: x18 :: x19 :: x20 :: x21 :: l, n, sp⟩ 21 y = ⟨x0 :: x1 :: x2 :: x3 :: x4 :: x5 :: x6 :: x7 :: x8 :: x9 :: x10 :: x11 :: x12 :: x13 :: x14 :: x15 :: x16 :: x17 :: x18 :: x19 :: x20 :: y :: l, n, sp⟩ := rfl
theorem at_22 {x0 x1 x2 x3 x4 x5 x6 x7 x8 x9 x10 x11 x12 x13 x14 x15 x16 x17 x18 x19 x20 x21 x22 : Sl} {l : List Sl} {n : Int} {sp : Option Addr} : AS.at ⟨x0 :: x1 :: x2 :: x3 :: x4 :: x5 :: x6 :: x7 :: x8 :: x9 :: x10 :: x11 :: x12 :: x13 :: x14 :: x15 :: x16 :: x17 :: x18 :: x19 :: x20 :: x21 :: x22 :: l, n, sp⟩ 22 = x22 := rfl
theorem put_22 {x0 x1 x2 x3 x4 x5 x6 x7 x8 x9 x10 x11 x12 x13 x14 x15 x16 x17 x18 x19 x20 x21 x22 y : Sl} {l : List Sl} {n : Int} {sp : Option Addr} : AS.put ⟨x0 :: x1 :: x2 :: x3 :: x4 :: x5 :: x6 :: x7 :: x8 :: x9 :: x10 :: x11 :: x12 :: x13 :: x14 :: x15 :: x16 :: x17 :: x18 :: x19 :: x20 :: x21 :: x22 :: l, n, sp⟩ 22 y = ⟨x0 :: x1 :: x2 :: x3 :: x4 :: x5 :: x6 :: x7 :: x8 :: x9 :: x10 :: x11 :: x12 :: x13 :: x14 :: x15 :: x16 :: x17 :: x18 :: x19 :: x20 :: x21 :: y :: l, n, sp⟩ := rfl
theorem at_23 {x0 x1 x2 x3 x4 x5 x6 x7 x8 x9 x10 x11 x12 x13 x14 x15 x16 x17 x18 x19 x20 x21 x22 x23 : Sl} {l : List Sl} {n : Int} {sp : Option Addr} : AS.at ⟨x0 :: x1 :: x2 :: x3 :: x4 :: x5 :: x6 :: x7 :: x8 :: x9 :: x10 :: x11 :: x12 :: x13 :: x14 :: x15 :: x16 :: x17 :: x18 :: x19 :: x20 :: x21 :: x22 :: x23 :: l, n, sp⟩ 23 = x23 := rfl
theorem put_23 {x0 x1 x2 x3 x4 x5 x6 x7 x8 x9 x10 x11 x12 x13 x14 x15 x16 x17 x18 x19 x20 x21 x22 x23 y : Sl} {l : List Sl} {n : Int} {sp : Option Addr} : AS.put ⟨x0 :: x1 :: x2 :: x3 :: x4 :: x5 :: x6 :: x7 :: x8 :: x9 :: x10 :: x11 :: x12 :: x13 :: x14 :: x15 :: x16 :: x17 :: x18 :: x19 :: x20 :: x21 :: x22 :: x23 :: l, n, sp⟩ 23 y = ⟨x0 :: x1 :: x2 :: x3 :: x4 :: x5 :: x6 :: x7 :: x8 :: x9 :: x10 :: x11 :: x12 :: x13 :: x14 :: x15 :: x16 :: x17 :: x18 :: x19 :: x20 :: x21 :: x22 :: y :: l, n, sp⟩ := rfl
theorem at_24 {x0 x1 x2 x3 x4 x5 x6 x7 x8 x9 x10 x11 x12 x13 x14 x15 x16 x17 x18 x19 x20 x21 x22 x23 x24 : Sl} {l : List Sl} {n : Int} {sp : Option Addr} : AS.at ⟨x0 :: x1 :: x2 :: x3 :: x4 :: x5 :: x6 :: x7 :: x8 :: x9 :: x10 :: x11 :: x12 :: x13 :: x14 :: x15 :: x16 :: x17 :: x18 :: x19 :: x20 :: x21 :: x22 :: x23 :: x24 :: l, n, sp⟩ 24 = x24 := rfl
theorem put_24 {x0 x1 x2 x3 x4 x5 x6 x7 x8 x9 x10 x11 x12 x13 x14 x15 x16 x17 x18 x19 x20 x21 x22 x23 x24 y : Sl} {l : List Sl} {n : Int} {sp : Option Addr} : AS.put ⟨x0 :: x1 :: x2 :: x3 :: x4 :: x5 :: x6 :: x7 :: x8 :: x9 :: x10 :: x11 :: x12 :: x13 :: x14 :: x15 :: x16 :: x17 :: x18 :: x19 :: x20 :: x21 :: x22 :: x23 :: x24 :: l, n, sp⟩ 24 y = ⟨x0 :: x1 :: x2 :: x3 :: x4 :: x5 :: x6 :: x7 :: x8 :: x9 :: x10 :: x11 :: x12 :: x13 :: x14 :: x15 :: x16 :: x17 :: x18 :: x19 :: x20 :: x21 :: x22 :: x23 :: y :: l, n, sp⟩ := rfl
theorem at_25 {x0 x1 x2 x3 x4 x5 x6 x7 x8 x9 x10 x11 x12 x13 x14 x15 x16 x17 x18 x19 x20 x21 x22 x23 x24 x25 : Sl} {l : List Sl} {n : Int} {sp : Option Addr} : AS.at ⟨x0 :: x1 :: x2 :: x3 :: x4 :: x5 :: x6 :: x7 :: x8 :: x9 :: x10 :: x11 :: x12 :: x13 :: x14 :: x15 :: x16 :: x17 :: x18 :: x19 :: x20 :: x21 :: x22 :: x23 :: x24 :: x25 :: l, n, sp⟩ 25 = x25 := rfl
theorem put_25 {x0 x1 x2 x3 x4 x5 x6 x7 x8 x9 x10 x11 x12 x13 x14 x15 x16 x17 x18 x19 x20 x21 x22 x23 x24 x25 y : Sl} {l : List Sl} {n : Int} {sp : Option Addr} : AS.put ⟨x0 :: x1 :: x2 :: x3 :: x4 :: x5 :: x6 :: x7 :: x8 :: x9 :: x10 :: x11 :: x12 :: x13 :: x14 :: x15 :: x16 :: x17 :: x18 :: x19 :: x20 :: x21 :: x22 :: x23 :: x24 :: x25 :: l, n, sp⟩ 25 y = ⟨x0 :: x1 :: x2 :: x3 :: x4 :: x5 :: x6 :: x7 :: x8 :: x9 :: x10 :: x11 :: x12 :: x13 :: x14 :: x15 :: x16 :: x17 :: x18 :: x19 :: x20 :: x21 :: x22 :: x23 :: x24 :: y :: l, n, sp⟩ := rfl
theorem not_t : (!true) = false := rfl
theorem not_f : (!false) = true := rfl
theorem bIf_t (A C : Prop) : bIf true A C = A := rfl
theorem bIf_f (A C : Prop) : bIf false A C = C := rfl
theorem mapc {α β : Type} {f : α → β} {x : α} {l : List α} : (x :: l).map f = f x :: l.map f := rfl
theorem mapn {α β : Type} {f : α → β} : ([] : List α).map f = [] := rfl
theorem wipe_1 {a : AS} {i : Nat} : dWipe a [i] = a.put i .emp := rfl
theorem wipe_2 {a : AS} {i j : Nat} : dWipe a [i, j] = (a.put j .emp).put i .emp := rfl
theorem wipe_3 {a : AS} {i j k : Nat} : dWipe a [i, j, k] = ((a.put k .emp).put j .emp).put i .emp := rfl
theorem wipe_4 {a : AS} {i j k l : Nat} : dWipe a [i, j, k, l] = (((a.put l .emp).put k .emp).put j .emp).put i .emp := rfl
theorem wipe_5 {a : AS} {i j k l m : Nat} : dWipe a [i, j, k, l, m] = ((((a.put m .emp).put l .emp).put k .emp).put j .emp).put i .emp := rfl
/-- a comprehension that draws nothing and takes all -/
theorem lc_map {w : List Sl} {vs : List Nat} {dg : DGt} {dt : DTt} {de : DEt} {sp : Option Addr} {R : List D → Int → Prop} {items : List D} {n : Int} (g : D → D) (hl : items.length ≤ sizeLine)
    (h : ∀ d ∈ items, ∀ S : D → AS → Prop, (∀ a, (dWipe a vs).sl = w → a.n = n → S (g d) a) → dg d ⟨w, n, sp⟩ fun a1 => dt a1 fun b a2 => bIf b (de a2 S) False) (hR : R (items.map g) n)
    (mt : ∀ a (S S' : Bool → AS → Prop), (∀ b a, S b a → S' b a) → dt a S → dt a S') (mg : ∀ d a (S S' : AS → Prop), (∀ a, S a → S' a) → dg d a S → dg d a S') : dLcGo w vs dg dt de sp R items [] n := by
  refine dLc_inv (fun i acc n' => acc = (items.take i).map g ∧ n' = n) ⟨rfl, rfl⟩ (fun i d acc n' N hi ⟨h1, h2⟩ hN => ?_) fun acc n' ⟨h1, h2⟩ => ?_
  · subst h1 h2
    have hlt : i < items.length := (List.getElem?_eq_some_iff.mp hi).1
    refine mg _ _ _ _ (fun a1 q => mt _ _ _ (fun b a2 q => ?_) q) (h d (List.mem_of_getElem? hi) (fun x a3 => (dWipe a3 vs).sl = w ∧ ((items.take i).map g).length < sizeLine ∧ N ((items.take i).map g ++ [x]) a3.n) fun a e1 e2 => ⟨e1, ?_, hN _ _ ⟨?_, e2⟩⟩)
    · cases b with
      | true => exact q
      | false => exact q.elim
    · rw [List.length_map, List.length_take]
      omega
    · rw [take_more hi, List.map_append]
      rfl
  · subst h1 h2
    rw [List.take_length]
    exact hR
theorem lc_map1 {w : List Sl} {vs : List Nat} {i : Nat} {de : DEt} {sp : Option Addr} {R : List D → Int → Prop} {items : List D} {n : Int} (g : D → D) (hl : items.length ≤ sizeLine)
    (h : ∀ d ∈ items, ∀ S : D → AS → Prop, (∀ a, (dWipe a vs).sl = w → a.n = n → S (g d) a) → de (AS.put ⟨w, n, sp⟩ i (.val d)) S) (hR : R (items.map g) n) : dLcGo w vs (dgName i) (fun a R => R true a) de sp R items [] n :=
  lc_map g hl h hR (fun _ _ _ f q => f _ _ q) fun _ _ _ _ f q => f _ q
/-- the same with a test: those that p tells -/
theorem lc_filt1 {w : List Sl} {vs : List Nat} {i : Nat} {dt : DTt} {de : DEt} {sp : Option Addr} {R : List D → Int → Prop} {items : List D} {n : Int} (p : D → Bool) (g : D → D) (hl : items.length ≤ sizeLine)
    (h : ∀ d ∈ items, ∀ (S : D → AS → Prop) (S' : AS → Prop), (∀ a, (dWipe a vs).sl = w → a.n = n → p d = true → S (g d) a) → (∀ a, (dWipe a vs).sl = w → a.n = n → p d = false → S' a) → dt (AS.put ⟨w, n, sp⟩ i (.val d)) fun b a2 => bIf b (de a2 S) (S' a2)) (hR : R ((items.filter p).map g) n) : dLcGo w vs (dgName i) dt de sp R items [] n := by
  refine dLc_inv (fun i acc n' => acc = ((items.take i).filter p).map g ∧ n' = n) ⟨rfl, rfl⟩ (fun i d acc n' N hi ⟨h1, h2⟩ hN => ?_) fun acc n' ⟨h1, h2⟩ => ?_
  · subst h1 h2
    have hlt : i < items.length := (List.getElem?_eq_some_iff.mp hi).1
    refine h d (List.mem_of_getElem? hi) _ _ (fun a e1 e2 e3 => ⟨e1, ?_, hN _ _ ⟨?_, e2⟩⟩) fun a e1 e2 e3 => ⟨e1, hN _ _ ⟨?_, e2⟩⟩
    · rw [List.length_map]
      have := List.length_filter_le p (items.take i)
      rw [List.length_take] at this
      omega
    · rw [take_more hi, List.filter_append, List.map_append, List.filter_cons_of_pos e3]
      rfl
    · rw [take_more hi, List.filter_append, List.filter_cons_of_neg (by rw [e3]; exact Bool.false_ne_true)]
      simp
  · subst h1 h2
    rw [List.take_length]
    exact hR
/-- over coded things -/
theorem lc_mapc {α : Type} {f : α → D} {xs : List α} {w : List Sl} {vs : List Nat} {dg : DGt} {dt : DTt} {de : DEt} {sp : Option Addr} {R : List D → Int → Prop} {n : Int} (g : α → D) (hl : xs.length ≤ sizeLine)
    (h : ∀ x ∈ xs, ∀ S : D → AS → Prop, (∀ a, (dWipe a vs).sl = w → a.n = n → S (g x) a) → dg (f x) ⟨w, n, sp⟩ fun a1 => dt a1 fun b a2 => bIf b (de a2 S) False) (hR : R (xs.map g) n)
    (mt : ∀ a (S S' : Bool → AS → Prop), (∀ b a, S b a → S' b a) → dt a S → dt a S') (mg : ∀ d a (S S' : AS → Prop), (∀ a, S a → S' a) → dg d a S → dg d a S') : dLcGo w vs dg dt de sp R (xs.map f) [] n := by
  refine dLc_inv (fun i acc n' => acc = (xs.take i).map g ∧ n' = n) ⟨rfl, rfl⟩ (fun i d acc n' N hi ⟨h1, h2⟩ hN => ?_) fun acc n' ⟨h1, h2⟩ => ?_
  · subst h1 h2
    rw [List.getElem?_map] at hi
    obtain ⟨x, hx, rfl⟩ := Option.map_eq_some_iff.mp hi
    have hlt : i < xs.length := (List.getElem?_eq_some_iff.mp hx).1
    refine mg _ _ _ _ (fun a1 q => mt _ _ _ (fun b a2 q => ?_) q) (h x (List.mem_of_getElem? hx) (fun x a3 => (dWipe a3 vs).sl = w ∧ ((xs.take i).map g).length < sizeLine ∧ N ((xs.take i).map g ++ [x]) a3.n) fun a e1 e2 => ⟨e1, ?_, hN _ _ ⟨?_, e2⟩⟩)
    · cases b with
      | true => exact q
      | false => exact q.elim
    · rw [List.length_map, List.length_take]
      omega
    · rw [take_more hx, List.map_append]
      rfl
  · subst h1 h2
    rw [List.length_map, List.take_length]
    exact hR
theorem lc_mapc1 {α : Type} {f : α → D} {xs : List α} {w : List Sl} {vs : List Nat} {i : Nat} {de : DEt} {sp : Option Addr} {R : List D → Int → Prop} {n : Int} (g : α → D) (hl : xs.length ≤ sizeLine)
    (h : ∀ x ∈ xs, ∀ S : D → AS → Prop, (∀ a, (dWipe a vs).sl = w → a.n = n → S (g x) a) → de (AS.put ⟨w, n, sp⟩ i (.val (f x))) S) (hR : R (xs.map g) n) : dLcGo w vs (dgName i) (fun a R => R true a) de sp R (xs.map f) [] n :=
  lc_mapc g hl h hR (fun _ _ _ f q => f _ _ q) fun _ _ _ _ f q => f _ q
theorem lc_filtc1 {α : Type} {f : α → D} {xs : List α} {w : List Sl} {vs : List Nat} {i : Nat} {dt : DTt} {de : DEt} {sp : Option Addr} {R : List D → Int → Prop} {n : Int} (p : α → Bool) (g : α → D) (hl : xs.length ≤ sizeLine)
    (h : ∀ x ∈ xs, ∀ (S : D → AS → Prop) (S' : AS → Prop), (∀ a, (dWipe a vs).sl = w → a.n = n → p x = true → S (g x) a) → (∀ a, (dWipe a vs).sl = w → a.n = n → p x = false → S' a) → dt (AS.put ⟨w, n, sp⟩ i (.val (f x))) fun b a2 => bIf b (de a2 S) (S' a2)) (hR : R ((xs.filter p).map g) n) : dLcGo w vs (dgName i) dt de sp R (xs.map f) [] n := by
  refine dLc_inv (fun i acc n' => acc = ((xs.take i).filter p).map g ∧ n' = n) ⟨rfl, rfl⟩ (fun i d acc n' N hi ⟨h1, h2⟩ hN => ?_) fun acc n' ⟨h1, h2⟩ => ?_
  · subst h1 h2
    rw [List.getElem?_map] at hi
    obtain ⟨x, hx, rfl⟩ := Option.map_eq_some_iff.mp hi
    have hlt : i < xs.length := (List.getElem?_eq_some_iff.mp hx).1
    refine h x (List.mem_of_getElem? hx) _ _ (fun a e1 e2 e3 => ⟨e1, ?_, hN _ _ ⟨?_, e2⟩⟩) fun a e1 e2 e3 => ⟨e1, hN _ _ ⟨?_, e2⟩⟩
    · rw [List.length_map]
      have := List.length_filter_le p (xs.take i)
      rw [List.length_take] at this
      omega
    · rw [take_more hx, List.filter_append, List.map_append, List.filter_cons_of_pos e3]
      rfl
    · rw [take_more hx, List.filter_append, List.filter_cons_of_neg (by rw [e3]; exact Bool.false_ne_true)]
      simp
  · subst h1 h2
    rw [List.length_map, List.take_length]
    exact hR
theorem unB_map {α : Type} (f : α → Bool) : ∀ xs : List α, unB (xs.map fun x => D.v (V.bl (f x))) = some (xs.map f)
  | [] => rfl
  | x :: xs => by
    show (unB (xs.map fun x => D.v (V.bl (f x)))).map (f x :: ·) = _
    rw [unB_map f xs]
    rfl
/-- one statement, with what holds behind it -/
theorem cutI {t : DSt} {E : DEnds} {a : AS} {u : DSt} (Mid : AS → Prop) (h1 : t { E with nx := Mid } a) (h2 : ∀ a', Mid a' → u E a') : dCut t u E a := ⟨Mid, h1, h2⟩
theorem ty_non  : tyD (.v .non) = some .non := rfl
theorem ty_bl {b : Bool} : tyD (.v (.bl b)) = some .bl := rfl
theorem ty_int {i : Int} : tyD (.v (.int i)) = some .int := rfl
theorem ty_str {x : Str} : tyD (.v (.str x)) = some .str := rfl
theorem ty_lst {ds : List D} : tyD (.lst ds) = some .lst := rfl
theorem ty_tup {ds : List D} : tyD (.tup ds) = some .tup := rfl
theorem ty_ctup {ds : List D} : tyD (.ctup ds) = some .tup := rfl
theorem ty_ftup {ds : List D} : tyD (.ftup ds) = some .tup := rfl
theorem ty_dK {ks : List (Key × D)} : tyD (.dK ks) = some .dic := rfl
theorem ty_dT {ks : List (List Key × D)} : tyD (.dT ks) = some .dic := rfl
theorem sub_non_non : Ty.sub .non .non = true := rfl
theorem sub_non_bl : Ty.sub .non .bl = false := rfl
theorem sub_non_int : Ty.sub .non .int = false := rfl
theorem sub_non_str : Ty.sub .non .str = false := rfl
theorem sub_non_lst : Ty.sub .non .lst = false := rfl
theorem sub_non_tup : Ty.sub .non .tup = false := rfl
theorem sub_non_dic : Ty.sub .non .dic = false := rfl
theorem sub_bl_non : Ty.sub .bl .non = false := rfl
theorem sub_bl_bl : Ty.sub .bl .bl = true := rfl
theorem sub_bl_int : Ty.sub .bl .int = true := rfl
theorem sub_bl_str : Ty.sub .bl .str = false := rfl
theorem sub_bl_lst : Ty.sub .bl .lst = false := rfl
theorem sub_bl_tup : Ty.sub .bl .tup = false := rfl
theorem sub_bl_dic : Ty.sub .bl .dic = false := rfl
theorem sub_int_non : Ty.sub .int .non = false := rfl
theorem sub_int_bl : Ty.sub .int .bl = false := rfl
theorem sub_int_int : Ty.sub .int .int = true := rfl
theorem sub_int_str : Ty.sub .int .str = false := rfl
theorem sub_int_lst : Ty.sub .int .lst = false := rfl
theorem sub_int_tup : Ty.sub .int .tup = false := rfl
theorem sub_int_dic : Ty.sub .int .dic = false := rfl
theorem sub_str_non : Ty.sub .str .non = false := rfl
theorem sub_str_bl : Ty.sub .str .bl = false := rfl
theorem sub_str_int : Ty.sub .str .int = false := rfl
theorem sub_str_str : Ty.sub .str .str = true := rfl
theorem sub_str_lst : Ty.sub .str .lst = false := rfl
theorem sub_str_tup : Ty.sub .str .tup = false := rfl
theorem sub_str_dic : Ty.sub .str .dic = false := rfl
theorem sub_lst_non : Ty.sub .lst .non = false := rfl
theorem sub_lst_bl : Ty.sub .lst .bl = false := rfl
theorem sub_lst_int : Ty.sub .lst .int = false := rfl
theorem sub_lst_str : Ty.sub .lst .str = false := rfl
theorem sub_lst_lst : Ty.sub .lst .lst = true := rfl
theorem sub_lst_tup : Ty.sub .lst .tup = false := rfl
theorem sub_lst_dic : Ty.sub .lst .dic = false := rfl
theorem sub_tup_non : Ty.sub .tup .non = false := rfl
theorem sub_tup_bl : Ty.sub .tup .bl = false := rfl
theorem sub_tup_int : Ty.sub .tup .int = false := rfl
theorem sub_tup_str : Ty.sub .tup .str = false := rfl
theorem sub_tup_lst : Ty.sub .tup .lst = false := rfl
theorem sub_tup_tup : Ty.sub .tup .tup = true := rfl
theorem sub_tup_dic : Ty.sub .tup .dic = false := rfl
theorem sub_dic_non : Ty.sub .dic .non = false := rfl
theorem sub_dic_bl : Ty.sub .dic .bl = false := rfl
theorem sub_dic_int : Ty.sub .dic .int = false := rfl
theorem sub_dic_str : Ty.sub .dic .str = false := rfl
theorem sub_dic_lst : Ty.sub .dic .lst = false := rfl
theorem sub_dic_tup : Ty.sub .dic .tup = false := rfl
theorem sub_dic_dic : Ty.sub .dic .dic = true := rfl
theorem seq_lst {ds : List D} : seqD (.lst ds) = some ds := rfl
theorem seq_tup {ds : List D} : seqD (.tup ds) = some ds := rfl
theorem seq_ctup {ds : List D} : seqD (.ctup ds) = some ds := rfl
theorem seq_ftup {ds : List D} : seqD (.ftup ds) = some ds := rfl
theorem seq_non  : seqD (.v .non) = none := rfl
theorem seq_bl {b : Bool} : seqD (.v (.bl b)) = none := rfl
theorem seq_int {i : Int} : seqD (.v (.int i)) = none := rfl
theorem seq_str {x : Str} : seqD (.v (.str x)) = none := rfl
theorem seq_dK {ks : List (Key × D)} : seqD (.dK ks) = none := rfl
theorem seq_dT {ks : List (List Key × D)} : seqD (.dT ks) = none := rfl
theorem key_int {i : Int} : keyD (.v (.int i)) = some (.inl i) := rfl
theorem key_str {x : Str} : keyD (.v (.str x)) = some (.inr x) := rfl
theorem or_tt {b : Bool} : (true || b) = true := rfl
theorem or_ft {b : Bool} : (false || b) = b := rfl
theorem aI_1_0 {x0 : D} : atI [x0] 0 = some x0 := rfl
theorem aI_1_l {x0 : D} : atI [x0] (-1) = some x0 := rfl
theorem aI_2_0 {x0 x1 : D} : atI [x0, x1] 0 = some x0 := rfl
theorem aI_2_1 {x0 x1 : D} : atI [x0, x1] 1 = some x1 := rfl
theorem aI_2_l {x0 x1 : D} : atI [x0, x1] (-1) = some x1 := rfl
theorem aI_3_0 {x0 x1 x2 : D} : atI [x0, x1, x2] 0 = some x0 := rfl
theorem aI_3_1 {x0 x1 x2 : D} : atI [x0, x1, x2] 1 = some x1 := rfl
theorem aI_3_2 {x0 x1 x2 : D} : atI [x0, x1, x2] 2 = some x2 := rfl
theorem aI_3_l {x0 x1 x2 : D} : atI [x0, x1, x2] (-1) = some x2 := rfl
theorem aI_4_0 {x0 x1 x2 x3 : D} : atI [x0, x1, x2, x3] 0 = some x0 := rfl
theorem aI_4_1 {x0 x1 x2 x3 : D} : atI [x0, x1, x2, x3] 1 = some x1 := rfl
theorem aI_4_2 {x0 x1 x2 x3 : D} : atI [x0, x1, x2, x3] 2 = some x2 := rfl
theorem aI_4_3 {x0 x1 x2 x3 : D} : atI [x0, x1, x2, x3] 3 = some x3 := rfl
theorem aI_4_l {x0 x1 x2 x3 : D} : atI [x0, x1, x2, x3] (-1) = some x3 := rfl
theorem aI_5_0 {x0 x1 x2 x3 x4 : D} : atI [x0, x1, x2, x3, x4] 0 = some x0 := rfl
theorem aI_5_1 {x0 x1 x2 x3 x4 : D} : atI [x0, x1, x2, x3, x4] 1 = some x1 := rfl
theorem aI_5_2 {x0 x1 x2 x3 x4 : D} : atI [x0, x1, x2, x3, x4] 2 = some x2 := rfl
theorem aI_5_3 {x0 x1 x2 x3 x4 : D} : atI [x0, x1, x2, x3, x4] 3 = some x3 := rfl
theorem aI_5_4 {x0 x1 x2 x3 x4 : D} : atI [x0, x1, x2, x3, x4] 4 = some x4 := rfl
theorem aI_5_l {x0 x1 x2 x3 x4 : D} : atI [x0, x1, x2, x3, x4] (-1) = some x4 := rfl
theorem aI_6_0 {x0 x1 x2 x3 x4 x5 : D} : atI [x0, x1, x2, x3, x4, x5] 0 = some x0 := rfl
theorem aI_6_1 {x0 x1 x2 x3 x4 x5 : D} : atI [x0, x1, x2, x3, x4, x5] 1 = some x1 := rfl
theorem aI_6_2 {x0 x1 x2 x3 x4 x5 : D} : atI [x0, x1, x2, x3, x4, x5] 2 = some x2 := rfl
theorem aI_6_3 {x0 x1 x2 x3 x4 x5 : D} : atI [x0, x1, x2, x3, x4, x5] 3 = some x3 := rfl
theorem aI_6_4 {x0 x1 x2 x3 x4 x5 : D} : atI [x0, x1, x2, x3, x4, x5] 4 = some x4 := rfl
theorem aI_6_5 {x0 x1 x2 x3 x4 x5 : D} : atI [x0, x1, x2, x3, x4, x5] 5 = some x5 := rfl
theorem aI_6_l {x0 x1 x2 x3 x4 x5 : D} : atI [x0, x1, x2, x3, x4, x5] (-1) = some x5 := rfl
local macro_rules | `(tactic| walk_at "dr") => `(tactic| try dsimp only [dSeq, dPar, dPar3, dTry, dIfS, dOr, dAnd, dNot, dTest, dIsi, dIsi2, dVar, dVarB, dC, dOp, dI0, dI, dCB, dCons, dNil, dLen, dLc, wipe_1, wipe_2, wipe_3, wipe_4, wipe_5, mapc, mapn, dRet, dSet, dSetO, dNext, dAsg, dDrop, dTup, dLst, dIx, dFlat, isV, dIfE, dAndV, dOrV, dNotV, dChain, dgName, dgCons, dgNil, dgTup, dItSeq, dStr, dDisp, dpCons, dpNil, dEqB, dIsN, dCat, dRep, dListOf, dTupOf, dBs, dI1, dI2, dInt1, dDivmod, dTupD, dStrI, dInG, dIxG, dFld, dCall, dCall0, dCallF, dCallF0, dCallX, dCallX0, dCallXF0, dMeth, dMethX, dProp, dProp.isC, isI, dAug, dNeg, dUn, dEnum, dEnumB, dEnumS, dZip, dRng1, dRng2, dDGet, dDGet1, dDGet2, dDIn, dGetR, isDk, asB, nb, opt, bIf_t, bIf_f, not_t, not_f, Option.getD_some, Option.getD_none, List.lookup, dRaise, dRaise0, dFor, dgSeq, dDPut, dPutR, dOwn, dOwnE, mAppend, mExtend, mInsert, mPop, mPopAt, asL, dSetOwn, dSetIx, dDUpd, dDUpd.isOwnK, dDSetT, dDSetT.isOwnT, dFldO, dSlL, dSlS, dSlT, dPart, dNoPart, dJoin, dSplit, dCatTE, dDictZip, dIs, dSortS, dBool1, at_0, put_0, at_1, put_1, at_2, put_2, at_3, put_3, at_4, put_4, at_5, put_5, at_6, put_6, at_7, put_7, at_8, put_8, at_9, put_9, at_10, put_10, at_11, put_11, at_12, put_12, at_13, put_13, at_14, put_14, at_15, put_15, at_16, put_16, at_17, put_17, at_18, put_18, at_19, put_19, at_20, put_20, at_21, put_21, at_22, put_22, at_23, put_23, at_24, put_24, at_25, put_25, ty_non, ty_bl, ty_int, ty_str, ty_lst, ty_tup, ty_ctup, ty_ftup, ty_dK, ty_dT, sub_non_non, sub_non_bl, sub_non_int, sub_non_str, sub_non_lst, sub_non_tup, sub_non_dic, sub_bl_non, sub_bl_bl, sub_bl_int, sub_bl_str, sub_bl_lst, sub_bl_tup, sub_bl_dic, sub_int_non, sub_int_bl, sub_int_int, sub_int_str, sub_int_lst, sub_int_tup, sub_int_dic, sub_str_non, sub_str_bl, sub_str_int, sub_str_str, sub_str_lst, sub_str_tup, sub_str_dic, sub_lst_non, sub_lst_bl, sub_lst_int, sub_lst_str, sub_lst_lst, sub_lst_tup, sub_lst_dic, sub_tup_non, sub_tup_bl, sub_tup_int, sub_tup_str, sub_tup_lst, sub_tup_tup, sub_tup_dic, sub_dic_non, sub_dic_bl, sub_dic_int, sub_dic_str, sub_dic_lst, sub_dic_tup, sub_dic_dic, seq_non, seq_bl, seq_int, seq_str, seq_lst, seq_tup, seq_ctup, seq_ftup, seq_dK, seq_dT, key_int, key_str, or_tt, or_ft, aI_1_0, aI_1_l, aI_2_0, aI_2_1, aI_2_l, aI_3_0, aI_3_1, aI_3_2, aI_3_l, aI_4_0, aI_4_1, aI_4_2, aI_4_3, aI_4_l, aI_5_0, aI_5_1, aI_5_2, aI_5_3, aI_5_4, aI_5_l, aI_6_0, aI_6_1, aI_6_2, aI_6_3, aI_6_4, aI_6_5, aI_6_l])
--SPLIT
def top (i : Nat) : Stmt := PySem.Challenge.pw_nearloops_k63_watches_told.main.body.getD i (.Pass ⟨0, 0, 0, 0⟩)
def l_GROUPS : List (Str × List Str) := [("any", ["below", "-<", "-=", "->", "<", "=", ">", "+<", "+=", "+>", "above"]), ("near", ["-=", "->", "<", "=", ">", "+<", "+="]), ("far", ["below", "-<", "+>", "above"]), ("less", ["below", "-<", "-=", "->", "<"]), ("more", [">", "+<", "+=", "+>", "above"]), ("under", ["below", "-<"]), ("over", ["+>", "above"]), ("cell", ["<", "=", ">"]), ("none", [])]
def c_PLACES : List V := [.str "below", .str "-<", .str "-=", .str "->", .str "<", .str "=", .str ">", .str "+<", .str "+=", .str "+>", .str "above"]
abbrev s_is_name : Stmt := top 6
abbrev s_is_group : Stmt := top 10
abbrev s_are_groups : Stmt := top 11
abbrev s_are_words : Stmt := top 16
abbrev s_is_rule : Stmt := top 17
abbrev s_checked_rules : Stmt := top 18
abbrev s_checked_alarms : Stmt := top 19
abbrev s_Watch__init : Stmt := inClass (top 20) 0
abbrev s_Watch_rules : Stmt := inClass (top 20) 1
abbrev s_Watch_states : Stmt := inClass (top 20) 2
abbrev s_Watch_start : Stmt := inClass (top 20) 3
abbrev s_Watch_alarms : Stmt := inClass (top 20) 4
abbrev s_Watch__eq : Stmt := inClass (top 20) 5
abbrev s_law_source : Stmt := top 22
abbrev s_law_draw : Stmt := top 23
abbrev s_law_pick : Stmt := top 24
abbrev s_law_order : Stmt := top 25
abbrev s_law_subset : Stmt := top 26
abbrev s_law_name : Stmt := top 27
abbrev s_law_names : Stmt := top 28
abbrev s_law_places : Stmt := top 29
abbrev s_law_group_names : Stmt := top 30
abbrev s_law_watch_rules : Stmt := top 31
abbrev s_law_watch_states : Stmt := top 32
abbrev s_law_tuples : Stmt := top 33
abbrev s_law : Stmt := top 34
theorem sc_is_name : FnScope ["thing", "letter"] ["thing"] (defScope s_is_name) := ⟨rfl, rfl, rfl, by decide +kernel, rfl, by decide +kernel, by decide +kernel⟩
theorem sc_is_group : FnScope ["thing"] ["thing"] (defScope s_is_group) := ⟨rfl, rfl, rfl, by decide +kernel, rfl, by decide +kernel, by decide +kernel⟩
theorem sc_are_groups : FnScope ["things", "thing"] ["things"] (defScope s_are_groups) := ⟨rfl, rfl, rfl, by decide +kernel, rfl, by decide +kernel, by decide +kernel⟩
theorem sc_are_words : FnScope ["things", "thing"] ["things"] (defScope s_are_words) := ⟨rfl, rfl, rfl, by decide +kernel, rfl, by decide +kernel, by decide +kernel⟩
theorem sc_is_rule : FnScope ["thing", "state", "groups", "words", "later"] ["thing"] (defScope s_is_rule) := ⟨rfl, rfl, rfl, by decide +kernel, rfl, by decide +kernel, by decide +kernel⟩
theorem sc_checked_rules : FnScope ["rules", "checked", "states", "line", "rule", "state", "groups", "words", "later"] ["rules"] (defScope s_checked_rules) := ⟨rfl, rfl, rfl, by decide +kernel, rfl, by decide +kernel, by decide +kernel⟩
theorem sc_checked_alarms : FnScope ["states", "alarms", "alarm", "state"] ["states", "alarms"] (defScope s_checked_alarms) := ⟨rfl, rfl, rfl, by decide +kernel, rfl, by decide +kernel, by decide +kernel⟩
theorem sc_Watch__init : FnScope ["self", "rules", "alarms", "checked", "states", "rung"] ["self", "rules", "alarms"] (defScope s_Watch__init) := ⟨rfl, rfl, rfl, by decide +kernel, rfl, by decide +kernel, by decide +kernel⟩
theorem sc_Watch_rules : FnScope ["self"] ["self"] (defScope s_Watch_rules) := ⟨rfl, rfl, rfl, by decide +kernel, rfl, by decide +kernel, by decide +kernel⟩
theorem sc_Watch_states : FnScope ["self"] ["self"] (defScope s_Watch_states) := ⟨rfl, rfl, rfl, by decide +kernel, rfl, by decide +kernel, by decide +kernel⟩
theorem sc_Watch_start : FnScope ["self"] ["self"] (defScope s_Watch_start) := ⟨rfl, rfl, rfl, by decide +kernel, rfl, by decide +kernel, by decide +kernel⟩
theorem sc_Watch_alarms : FnScope ["self"] ["self"] (defScope s_Watch_alarms) := ⟨rfl, rfl, rfl, by decide +kernel, rfl, by decide +kernel, by decide +kernel⟩
theorem sc_Watch__eq : FnScope ["self", "other"] ["self", "other"] (defScope s_Watch__eq) := ⟨rfl, rfl, rfl, by decide +kernel, rfl, by decide +kernel, by decide +kernel⟩
theorem sc_law_source : FnScope ["_law_script", "_law_great", "_law_seed", "_law_cell"] ["_law_script"] (defScope s_law_source) := ⟨rfl, rfl, rfl, by decide +kernel, rfl, by decide +kernel, by decide +kernel⟩
theorem sc_law_draw : FnScope ["_law_source_here", "_law_many", "_law_digit", "_law_mixed"] ["_law_source_here", "_law_many"] (defScope s_law_draw) := ⟨rfl, rfl, rfl, by decide +kernel, rfl, by decide +kernel, by decide +kernel⟩
theorem sc_law_pick : FnScope ["_law_source_here", "_law_things"] ["_law_source_here", "_law_things"] (defScope s_law_pick) := ⟨rfl, rfl, rfl, by decide +kernel, rfl, by decide +kernel, by decide +kernel⟩
theorem sc_law_order : FnScope ["_law_source_here", "_law_many", "_law_left", "_law_k"] ["_law_source_here", "_law_many"] (defScope s_law_order) := ⟨rfl, rfl, rfl, by decide +kernel, rfl, by decide +kernel, by decide +kernel⟩
theorem sc_law_subset : FnScope ["_law_source_here", "_law_row", "_law_one"] ["_law_source_here", "_law_row"] (defScope s_law_subset) := ⟨rfl, rfl, rfl, by decide +kernel, rfl, by decide +kernel, by decide +kernel⟩
theorem sc_law_name : FnScope ["_law_source_here", "_law_taken", "_law_size", "_law_name_here", "_law_k", "_law_one", "_law_letter"] ["_law_source_here", "_law_taken"] (defScope s_law_name) := ⟨rfl, rfl, rfl, by decide +kernel, rfl, by decide +kernel, by decide +kernel⟩
theorem sc_law_names : FnScope ["_law_source_here", "_law_many", "_law_names_here", "_law_k"] ["_law_source_here", "_law_many"] (defScope s_law_names) := ⟨rfl, rfl, rfl, by decide +kernel, rfl, by decide +kernel, by decide +kernel⟩
theorem sc_law_places : FnScope [] [] (defScope s_law_places) := ⟨rfl, rfl, rfl, by decide +kernel, rfl, by decide +kernel, by decide +kernel⟩
theorem sc_law_group_names : FnScope [] [] (defScope s_law_group_names) := ⟨rfl, rfl, rfl, by decide +kernel, rfl, by decide +kernel, by decide +kernel⟩
theorem sc_law_watch_rules : FnScope ["_law_source_here", "_law_many", "_law_most", "_law_words", "_law_states", "_law_rules", "_law_k", "_law_state", "_law_names_here", "_law_groups", "_law_some", "_law_j"] ["_law_source_here", "_law_many", "_law_most", "_law_words"] (defScope s_law_watch_rules) := ⟨rfl, rfl, rfl, by decide +kernel, rfl, by decide +kernel, by decide +kernel⟩
theorem sc_law_watch_states : FnScope ["_law_rules", "_law_found", "_law_rule", "_law_k", "_law_state"] ["_law_rules"] (defScope s_law_watch_states) := ⟨rfl, rfl, rfl, by decide +kernel, rfl, by decide +kernel, by decide +kernel⟩
theorem sc_law_tuples : FnScope ["_law_rules", "_law_state", "_law_groups", "_law_words", "_law_after"] ["_law_rules"] (defScope s_law_tuples) := ⟨rfl, rfl, rfl, by decide +kernel, rfl, by decide +kernel, by decide +kernel⟩
theorem sc_law : FnScope ["_law_script", "_law_source_here", "_law_rules", "_law_states", "_law_alarms", "_law_passed", "_law_given", "_law_watch", "_law_twin", "_law_due", "_law_left", "_law_state", "_law_groups", "_law_words", "_law_after", "_law_k"] ["_law_script"] (defScope s_law) := ⟨rfl, rfl, rfl, by decide +kernel, rfl, by decide +kernel, by decide +kernel⟩

def spTol : Sp := fun vs H Q _ => ∃ (p : Addr) (n : Int), vs = [.ref p] ∧ Src H p n ∧ n < 1000000 ∧
  ∀ (d : Int) (H' : Hp), 1 ≤ d → d ≤ 1000000 → But p H H' → Src H' p (n + 1) → Q (.int d) H'
def big : Int := 1000000000000000000000000000000
theorem div_ok {x e : Int} (h1 : -big < x) (h2 : x < big) (h : 1 ≤ e) : CDivP x e := by
  refine divp_ok h ?_
  have b := PyProof.Rows.intBits_le (k := 100) (a := x) (by unfold big at *; show _ < 1267650600228229401496703205376; omega)
  omega
theorem big_eq : (10 : Int) ^ (30 : Int).toNat = big := by decide +kernel
def spIsNum : Sp := fun vs H Q _ => ∃ x : Int, vs = [.int x] ∧ -big < x ∧ x < big ∧ Q (.bl true) H
def spIsTol : Sp := fun vs H Q _ => ∃ x : Int, vs = [.int x] ∧ 1 ≤ x ∧ x < big ∧ Q (.bl true) H
def spChkNum : Sp := fun vs H Q _ => ∃ x : Int, vs = [.int x] ∧ -big < x ∧ x < big ∧ Q .non H
def spChkTol : Sp := fun vs H Q _ => ∃ x : Int, vs = [.int x] ∧ 1 ≤ x ∧ x < big ∧ Q .non H
def sgn (r s : Int) : Str := if r < s then "<" else if s < r then ">" else "="
theorem sgn_len (r s : Int) : 1 + (sgn r s).length ≤ sizeLine := by
  unfold sgn
  split
  · decide
  · split <;> decide
def plcD (d r s : Int) : Str := if d ≤ -2 then "below" else if 2 ≤ d then "above" else if d = -1 then "-" ++ sgn r s else if d = 1 then "+" ++ sgn r s else sgn r s
def plc (x k e : Int) : Str := plcD (x / e - k / e) (x % e) (k % e)
def spSign : Sp := fun vs H Q _ => ∃ r s : Int, vs = [.int r, .int s] ∧ Q (.str (sgn r s)) H
def spPlaceAt : Sp := fun vs H Q _ => ∃ d r s : Int, vs = [.int d, .str (sgn r s)] ∧ Q (.str (plcD d r s)) H
def spPlace : Sp := fun vs H Q _ => ∃ x k e : Int, vs = [.int x, .int k, .int e] ∧ -big < x ∧ x < big ∧ -big < k ∧ k < big ∧ 1 ≤ e ∧ e < big ∧ ∀ H', Same H H' → Q (.str (plc x k e)) H'
/-! ### the places by their numbers -/
def placesL : List Str := ["below", "-<", "-=", "->", "<", "=", ">", "+<", "+=", "+>", "above"]
theorem c_places : c_PLACES = placesL.map V.str := rfl
theorem inV_strs (z : Str) : ∀ l : List Str, inV (V.str z) (l.map V.str) = decide (z ∈ l)
  | [] => rfl
  | a :: r => by
    have ih := inV_strs z r
    unfold inV at ih ⊢
    rw [List.map_cons, List.any_cons, ih]
    by_cases e : a = z
    · subst e
      simp [eqV]
    · have e1 : eqV (V.str a) (V.str z) = false := by
        show (a == z) = false
        simpa using e
      have e2 : ¬ z = a := fun q => e q.symm
      simp [e1, e2]
theorem flat_strs : ∀ l : List Str, (l.map V.str).all flatV = true
  | [] => rfl
  | a :: r => by
    rw [List.map_cons, List.all_cons, flat_strs r]
    rfl
theorem dp_strs {K : PySem.W.Frag} {H : Hp} : ∀ l : List Str, DpAll K H (l.map V.str) (l.map PyData.str)
  | [] => .nil
  | a :: r => .cons (.str a) (dp_strs r)
theorem str_at {l : List Str} {i : Nat} {x : V} (h : (l.map V.str)[i]? = some x) : ∃ z, x = V.str z ∧ l[i]? = some z := by
  rw [List.getElem?_map] at h
  cases e : l[i]? with
  | none => rw [e] at h; cases h
  | some z => rw [e] at h; exact ⟨z, (Option.some.inj h).symm, rfl⟩
theorem places_nd : placesL.Nodup := by decide +kernel
theorem places_lt {j : Nat} {z : Str} (h : placesL[j]? = some z) : j < 11 := (List.getElem?_eq_some_iff.mp h).1
theorem places_first {j m : Nat} {z : Str} (h : placesL[j]? = some z) (hm : m < j) : placesL[m]? ≠ some z := fun e => by
  have q := nd_ix places_nd e h
  omega
theorem shaped_of {d : PyData} (h1 : d.canLay0 = true) (h2 : d.depth ≤ 64) : SeqAt.shaped d = true := by
  unfold SeqAt.shaped
  rw [h1, decide_eq_true h2]
  rfl
theorem lay_strs : ∀ l : List Str, (∀ z ∈ l, PyData.strOk z = true) → PyData.canLayAll0 (l.map PyData.str) = true
  | [], _ => rfl
  | a :: r, h => by
    rw [List.map_cons, PyData.canLayAll0, lay_strs r fun z hz => h z (List.mem_cons_of_mem _ hz), PyData.canLay0, h a List.mem_cons_self]
    rfl
theorem depth_strs : ∀ l : List Str, PyData.depthAll (l.map PyData.str) ≤ 1
  | [] => by simp [PyData.depthAll]
  | a :: r => by
    have ih := depth_strs r
    rw [List.map_cons, PyData.depthAll]
    have e : (PyData.str a).depth ≤ 1 := by simp [PyData.depth]
    omega
theorem shaped_strs {l : List Str} (h : ∀ z ∈ l, PyData.strOk z = true) : SeqAt.shaped (.list (l.map PyData.str)) = true :=
  shaped_of (by rw [PyData.canLay0]; exact lay_strs l h) (by rw [PyData.depth]; have := depth_strs l; omega)
theorem eqv_strs {l : List Str} (h : ∀ z ∈ l, PyData.strOk z = true) : PyData.eqv (.list (l.map PyData.str)) (.list (l.map PyData.str)) = true :=
  SeqAt.eqv_refl _ (by rw [PyData.canLay0]; exact lay_strs l h)
theorem places_ok : ∀ z ∈ placesL, PyData.strOk z = true := by decide +kernel
/-- the number of the place -/
def plcN (d r s : Int) : Nat := if d ≤ -2 then 0 else if 2 ≤ d then 10 else (if d = -1 then 1 else if d = 1 then 7 else 4) + (if r < s then 0 else if s < r then 2 else 1)
theorem plc_at (d r s : Int) : placesL[plcN d r s]? = some (plcD d r s) := by
  unfold plcN plcD sgn
  by_cases a : d ≤ -2
  · rw [if_pos a, if_pos a]; rfl
  by_cases b : 2 ≤ d
  · rw [if_neg a, if_pos b, if_neg a, if_pos b]; rfl
  rw [if_neg a, if_neg b, if_neg a, if_neg b]
  rcases (by omega : d = -1 ∨ d = 1 ∨ d = 0) with e | e | e
  all_goals subst e
  all_goals rcases (by omega : r < s ∨ s < r ∨ r = s) with c | c | c
  all_goals first
    | (rw [if_pos c, if_pos c]; rfl)
    | (rw [if_neg (by omega : ¬ r < s), if_pos c, if_neg (by omega : ¬ r < s), if_pos c]; rfl)
    | (subst c; rw [if_neg (Int.lt_irrefl r), if_neg (Int.lt_irrefl r), if_neg (Int.lt_irrefl r), if_neg (Int.lt_irrefl r)]; rfl)
    | (subst c; rw [if_neg (Int.lt_irrefl r), if_neg (Int.lt_irrefl r)]; rfl)
theorem plc_ok (x k e : Int) : PyData.strOk (plc x k e) = true := places_ok _ (List.mem_of_getElem? (plc_at _ _ _))
/-! ### is_place, turned -/
def spIsPlace : Sp := fun vs H Q _ => ∃ z : Str, vs = [.str z] ∧ Q (.bl (decide (z ∈ placesL))) H
/-! ### the groups -/
theorem isStr_ne {x z : Str} {t : Tok} (h : x ≠ z) : (Value.str x t).isStr z = false := by
  show (x == z) = false
  simpa using h
theorem groups_at : ∀ {l : List (Str × List Str)} {z : Str}, z ∈ l.map (·.1) → ∃ (j : Nat) (ps : List Str), l[j]? = some (z, ps)
  | (a, q) :: r, z, h => by
    rw [List.map_cons] at h
    rcases List.mem_cons.mp h with e | e
    · exact ⟨0, q, by rw [e]; rfl⟩
    · obtain ⟨j, ps, h'⟩ := groups_at e
      exact ⟨j + 1, ps, h'⟩
theorem names_in {j : Nat} {z : Str} {ps : List Str} (h : l_GROUPS[j]? = some (z, ps)) : z ∈ l_GROUPS.map (·.1) := List.mem_map.mpr ⟨_, List.mem_of_getElem? h, rfl⟩
theorem names_no : ∀ z ∈ l_GROUPS.map (·.1), z ∉ placesL := by decide +kernel
/-- group: of a name of the table, that is no place; of a place -/
def spIsGroup : Sp := fun vs H Q _ => ∃ z : Str, vs = [.str z] ∧ Q (.bl (decide (z ∈ placesL ∨ z ∈ l_GROUPS.map (·.1)))) H
def spGroup (K : PySem.W.Frag) : Sp := fun vs H Q _ => ∃ z : Str, vs = [.str z] ∧
  ((∃ (j : Nat) (ps : List Str), l_GROUPS[j]? = some (z, ps) ∧ ∀ u : Addr, (∀ H' : Hp, SqT K H' u (ps.map V.str)) → Q (.ref u) H) ∨
   (z ∈ placesL ∧ ∀ p : Addr, H p = none → Q (.ref p) (upd H p (.tup [.str z]))))
/-! ### _law_pick, _law_name -/
theorem sql_but {K : PySem.W.Frag} {H H' : Hp} {p l : Addr} {xs : List V} (h : SqL K H l xs) (e : But p H H') (n : l ≠ p) : SqL K H' l xs := by
  rcases h with (h | ⟨o, h⟩) | h
  · exact .inl (.inl (e _ _ n h))
  · exact .inl (.inr ⟨o, e _ _ n h⟩)
  · exact .inr h
theorem but_new {p q : Addr} {H H' : Hp} {o : HO} (a : But p H H') (h : H q = none) : But p H (upd H' q o) := fun c u n z => by
  rw [upd_ne (fun e => by rw [e, h] at z; cases z)]
  exact a c u n z
theorem but_free {p q : Addr} {H H' : Hp} (a : But p H H') (n : q ≠ p) (h : H' q = none) : H q = none := by
  cases e : H q with
  | none => rfl
  | some o =>
    rw [a q o n e] at h
    cases h
theorem at_any {α : Type} {xs : List α} {j : Nat} {x : α} (h : xs[j]? = some x) : atI xs (j : Int) = some x := by
  have hj : j < xs.length := (List.getElem?_eq_some_iff.mp h).1
  unfold atI ixN
  rw [if_pos (by omega : (0 : Int) ≤ j), if_pos (by omega : (j : Int) < xs.length)]
  exact h
def spPick (K : PySem.W.Frag) : Sp := fun vs H Q _ => ∃ (p l : Addr) (xs : List V) (n : Int), vs = [.ref p, .ref l] ∧ Src H p n ∧ n < 1000000 ∧ l ≠ p ∧ SqL K H l xs ∧ 0 < xs.length ∧ xs.length ≤ 1000 ∧
  ∀ (j : Nat) (v : V) (H' : Hp), xs[j]? = some v → But p H H' → Src H' p (n + 1) → Q v H'
/-- a name of at most eight small letters -/
def one (c : Nat) : Str := ⟨#[c]⟩
def small (c : Nat) : Prop := 97 ≤ c ∧ c ≤ 122
structure IsName (z : Str) : Prop where
  pos : 1 ≤ z.cps.size
  len : z.cps.size ≤ 8
  low : ∀ c ∈ z.cps.toList, small c
theorem IsName.ok {z : Str} (h : IsName z) : PyData.strOk z = true := by
  show z.cps.all (· < 0x110000) = true
  rw [← Array.all_toList, List.all_eq_true]
  intro c hc
  have := (h.low c hc).2
  exact decide_eq_true (by omega)
theorem join_ones : ∀ cs : List Nat, Txt.join (Str.ofString "") (cs.map one) = ⟨cs.toArray⟩ := fun cs => by
  rw [TL.join_eq]
  have e : ∀ l : List Nat, TL.tl (Str.join (Str.ofString "") (l.map one)) = l := fun l => by
    rw [TL.tl_join, show TL.tl (Str.ofString "") = [] by decide +kernel]
    induction l with
    | nil => rfl
    | cons a r ih =>
      cases r with
      | nil => rfl
      | cons b r =>
        rw [List.map_cons, List.map_cons, List.map_cons, List.map_cons, TL.joinL]
        rw [List.map_cons, List.map_cons] at ih
        rw [List.nil_append, ih]
        rfl
  have q := e cs
  show (Str.join (Str.ofString "") (cs.map one)) = ⟨cs.toArray⟩
  have h : (Str.join (Str.ofString "") (cs.map one)).cps.toList = cs := q
  generalize Str.join (Str.ofString "") (cs.map one) = z at h
  obtain ⟨a⟩ := z
  obtain ⟨l⟩ := a
  have h' : l = cs := h
  rw [h']
theorem name_of {cs : List Nat} (h1 : 1 ≤ cs.length) (h8 : cs.length ≤ 8) (hl : ∀ c ∈ cs, small c) : IsName ⟨cs.toArray⟩ := ⟨by simpa using h1, by simpa using h8, by simpa using hl⟩
theorem name_q {z : Str} (h : IsName z) : IsName (Str.ofString "q" ++ cutS z (some 1) none) := by
  have hl := cutS_length z (some 1) none
  have e : (Str.ofString "q" ++ cutS z (some 1) none).cps = #[113] ++ (cutS z (some 1) none).cps := by
    show (Str.ofString "q").cps ++ _ = _
    rw [show (Str.ofString "q").cps = #[113] by decide +kernel]
  have hz : (cutS z (some 1) none).cps.size ≤ z.cps.size - 1 := by
    show (((z.cps.toList.drop (HT.sIx z.length 0 (some 1))).take (HT.sIx z.length z.length none - HT.sIx z.length 0 (some 1))).toArray).size ≤ _
    have p := h.pos
    have e1 : HT.sIx z.length 0 (some 1) = 1 := by
      show HT.sIx z.cps.size 0 (some 1) = 1
      unfold HT.sIx
      simp
      omega
    rw [e1, List.size_toArray, List.length_take, List.length_drop, Array.length_toList]
    omega
  have p := h.pos
  have p8 := h.len
  refine ⟨?_, ?_, ?_⟩
  · rw [e, Array.size_append]
    show 1 ≤ 1 + _
    omega
  · rw [e, Array.size_append]
    show 1 + _ ≤ 8
    omega
  · intro c hc
    rw [e, Array.toList_append] at hc
    rcases List.mem_append.mp hc with q | q
    · have : c = 113 := by simpa using q
      subst this
      exact ⟨by decide, by decide⟩
    · refine h.low c ?_
      have q' : c ∈ (((z.cps.toList.drop (HT.sIx z.length 0 (some 1))).take (HT.sIx z.length z.length none - HT.sIx z.length 0 (some 1))).toArray).toList := q
      rw [List.toList_toArray] at q'
      exact List.mem_of_mem_drop (List.mem_of_mem_take q')
/-- the names that are taken where all else is: z and one of seventeen letters -/
def zName (c : Nat) : Str := Str.ofString "z" ++ one c
theorem zName_is {c : Nat} (h : small c) : IsName (zName c) := by
  have e : (zName c).cps = #[122] ++ #[c] := by
    show (Str.ofString "z").cps ++ _ = _
    rw [show (Str.ofString "z").cps = #[122] by decide +kernel]
    rfl
  refine ⟨by rw [e]; exact (by omega : 1 ≤ 2), by rw [e]; exact (by omega : 2 ≤ 8), ?_⟩
  intro d hd
  rw [e] at hd
  have hd' : d = 122 ∨ d = c := by simpa using hd
  rcases hd' with rfl | rfl
  · exact ⟨by decide, by decide⟩
  · exact h
def zNames (i : Nat) : List Str := (List.range i).map fun k => zName (97 + k)
theorem zNames_more (i : Nat) : zNames (i + 1) = zNames i ++ [zName (97 + i)] := by
  unfold zNames
  rw [List.range_succ, List.map_append]
  rfl
theorem zNames_is {z : Str} (h : z ∈ zNames 17) : IsName z := by
  obtain ⟨k, hk, rfl⟩ := List.mem_map.mp h
  have := List.mem_range.mp hk
  exact zName_is ⟨by omega, by omega⟩
theorem zNames_has {c : Nat} (h1 : 97 ≤ c) (h2 : c ≤ 113) : zName c ∈ zNames 17 := List.mem_map.mpr ⟨c - 97, List.mem_range.mpr (by omega), by rw [show 97 + (c - 97) = c by omega]⟩
def spName (K : PySem.W.Frag) : Sp := fun vs H Q _ => ∃ (p l : Addr) (tk : List Str) (n : Int), vs = [.ref p, .ref l] ∧ Src H p n ∧ n < 900000 ∧ l ≠ p ∧ SqL K H l (tk.map V.str) ∧ (∃ c : Nat, 97 ≤ c ∧ c ≤ 113 ∧ zName c ∉ tk) ∧
  ∀ (z : Str) (H' : Hp), IsName z → z ∉ tk → But p H H' → Src H' p (n + 10) → Q (.str z) H'
/-! ### _law_names -/
theorem sub_length : ∀ {xs ys : List Str}, xs.Nodup → (∀ z ∈ xs, z ∈ ys) → xs.length ≤ ys.length
  | [], _, _, _ => Nat.zero_le _
  | x :: r, ys, h, s => by
    have hx := s x List.mem_cons_self
    obtain ⟨h1, h2⟩ := List.nodup_cons.mp h
    have q := sub_length (xs := r) (ys := ys.erase x) h2 fun z hz => (List.mem_erase_of_ne (fun e => h1 (by rw [← e]; exact hz))).mpr (s z (List.mem_cons_of_mem _ hz))
    rw [List.length_erase_of_mem hx] at q
    have : 0 < ys.length := List.length_pos_of_mem hx
    rw [List.length_cons]
    omega
theorem zNames_nd : (zNames 17).Nodup := by decide +kernel
theorem z_left {zs : List Str} (h : zs.length < 17) : ∃ c : Nat, 97 ≤ c ∧ c ≤ 113 ∧ zName c ∉ zs := by
  apply Classical.byContradiction
  intro hn
  have q := sub_length zNames_nd (ys := zs) fun z hz => by
    obtain ⟨k, hk, rfl⟩ := List.mem_map.mp hz
    have := List.mem_range.mp hk
    exact Classical.byContradiction fun h2 => hn ⟨97 + k, by omega, by omega, h2⟩
  have e : (zNames 17).length = 17 := by simp [zNames]
  omega
theorem nd_snoc : ∀ {zs : List Str} {z : Str}, zs.Nodup → z ∉ zs → (zs ++ [z]).Nodup
  | [], z, _, _ => List.nodup_cons.mpr ⟨(fun h => nomatch h), List.nodup_nil⟩
  | a :: r, z, h, hz => by
    obtain ⟨h1, h2⟩ := List.nodup_cons.mp h
    refine List.nodup_cons.mpr ⟨fun q => ?_, nd_snoc h2 fun q => hz (List.mem_cons_of_mem _ q)⟩
    rcases List.mem_append.mp q with q | q
    · exact h1 q
    · exact hz (by rw [← List.mem_singleton.mp q]; exact List.mem_cons_self)
def spNames : Sp := fun vs H Q _ => ∃ (p : Addr) (m : Nat) (n : Int), vs = [.ref p, .int m] ∧ Src H p n ∧ m ≤ 17 ∧ n < 800000 ∧
  ∀ (l : Addr) (zs : List Str) (H' : Hp), zs.length = m → (∀ z ∈ zs, IsName z) → zs.Nodup → H l = none → H' l = some (.lst (zs.map V.str)) → But p H H' → Src H' p (n + 10 * (m : Int)) → Q (.ref l) H'
/-! ### _law_places, _law_group_names, _law_group -/
def namesL : List Str := ["any", "near", "far", "less", "more", "under", "over", "cell", "none"]
def spPlaces : Sp := fun vs H Q _ => vs = [] ∧ ∀ p : Addr, H p = none → Q (.ref p) (upd H p (.lst (placesL.map V.str)))
def spGroupNames : Sp := fun vs H Q _ => vs = [] ∧ ∀ p : Addr, H p = none → Q (.ref p) (upd H p (.lst (namesL.map V.str)))
def grpL (z : Str) : List Str := (l_GROUPS.lookup z).getD [z]
def spLawGroup : Sp := fun vs H Q _ => ∃ z : Str, vs = [.str z] ∧ ∀ (a : Addr) (H' : Hp), Same H H' → H' a = some (.lst ((grpL z).map V.str)) → Q (.ref a) H'
theorem same_but {D : Addr} {H H1 H2 : Hp} (s : Same H H1) (u : But D H1 H2) (hD : H D = none) : Same H H2 := fun b o e => u b o (ne_of_none e hD) (s b o e)
def underL : List Str := ["below", "-<"]
def overL : List Str := ["+>", "above"]
def nearL : List Str := ["-=", "->", "<", "=", ">", "+<", "+="]
def lessL : List Str := ["below", "-<", "-=", "->", "<"]
def moreL : List Str := [">", "+<", "+=", "+>", "above"]
def cellL : List Str := ["<", "=", ">"]
theorem valV_out : ∀ {kvs : List (Key × V)} {k : Key}, (∀ q ∈ kvs, q.1 ≠ k) → valV kvs k = none
  | [], _, _ => rfl
  | (j, v) :: r, k, h => by
    have ih := valV_out (kvs := r) (k := k) fun q hq => h q (List.mem_cons_of_mem _ hq)
    have hj : j ≠ k := h _ List.mem_cons_self
    unfold valV at ih ⊢
    simp [List.find?, hj]
    simpa using ih
theorem grp_out {z : Str} (h : z ∉ namesL) : grpL z = [z] := by
  have key : ∀ l : List (Str × List Str), z ∉ l.map (·.1) → l.lookup z = none := fun l => by
    induction l with
    | nil => exact fun _ => rfl
    | cons a r ih =>
      intro hn
      rw [List.map_cons, List.mem_cons, not_or] at hn
      rw [List.lookup_cons, show (z == a.1) = false by simpa using hn.1]
      exact ih hn.2
  unfold grpL
  rw [key l_GROUPS (show z ∉ l_GROUPS.map (·.1) from h)]
  rfl
def gdK (r a3 a6 a7 a8 b1 b2 b3 b4 : Addr) : List (Key × V) := [(.inr "any", .ref r), (.inr "near", .ref a3), (.inr "far", .ref a6), (.inr "less", .ref a7), (.inr "more", .ref a8), (.inr "under", .ref b1), (.inr "over", .ref b2), (.inr "cell", .ref b3), (.inr "none", .ref b4)]
/-! ### is_place, is_group, group, turned of any value that a law hands in -/
inductive OddV (H : Hp) : V → PyData → Prop
  | non : OddV H .non .none
  | int (i : Int) : OddV H (.int i) (.int i)
  | lst {a : Addr} {z : Str} (h : H a = some (.lst [.str z])) (ok : PyData.strOk z = true) : OddV H (.ref a) (.list [.str z])
  | tup {a : Addr} {z : Str} (h : H a = some (.tup [.str z])) (ok : PyData.strOk z = true) : OddV H (.ref a) (.tuple [.str z])
theorem OddV.mv {H H' : Hp} {v : V} {d : PyData} (o : OddV H v d) (e : ∀ b u, (∀ ps, u ≠ .tbl ps) → H b = some u → H' b = some u) : OddV H' v d := by
  cases o with
  | non => exact .non
  | int i => exact .int i
  | lst h ok => exact .lst (e _ _ (fun ps z => by cases z) h) ok
  | tup h ok => exact .tup (e _ _ (fun ps z => by cases z) h) ok
theorem OddV.ty {K : PySem.W.Frag} {H : Hp} {v : V} {d : PyData} (o : OddV H v d) : ∃ t : String, TyX K H v (.type t) ∧ kitB t "str" = some false := by
  cases o with
  | non => exact ⟨_, .base .non, by decide +kernel⟩
  | int i => exact ⟨_, .base (.int i), by decide +kernel⟩
  | lst h ok => exact ⟨_, .base (.lst h), by decide +kernel⟩
  | tup h ok => exact ⟨_, .base (.tup h), by decide +kernel⟩
def spIsPlaceA : Sp := fun vs H Q _ => ∃ v : V, vs = [v] ∧ ((∃ z : Str, v = .str z ∧ Q (.bl (decide (z ∈ placesL))) H) ∨ (∃ d, OddV H v d) ∧ Q (.bl false) H)
def spIsGroupA : Sp := fun vs H Q _ => ∃ v : V, vs = [v] ∧ ((∃ z : Str, v = .str z ∧ Q (.bl (decide (z ∈ placesL ∨ z ∈ l_GROUPS.map (·.1)))) H) ∨ (∃ d, OddV H v d) ∧ Q (.bl false) H)
/-! ### are_groups, of a list or a tuple of texts -/
def iLT (K : PySem.W.Frag) (tl : TE) : TI := fun σ H R => iList K tl σ H R ∨ iTup K tl σ H R
theorem pi_lt {X : Cx} {tg l : Expr} {tl : TE} (hl : PE X l tl) : PI X tg l (iLT X.K tl) := ⟨fun pins s σ H R I h => h.elim (fun h => (pi_list hl).run pins s σ H R I h) (fun h => (pi_tup hl).run pins s σ H R I h)⟩
def grpB (z : Str) : Bool := decide (z ∈ placesL ∨ z ∈ l_GROUPS.map (·.1))
def LT (H : Hp) (a : Addr) (xs : List V) : Prop := H a = some (.lst xs) ∨ H a = some (.tup xs)
theorem LT.same {H H' : Hp} {a : Addr} {xs : List V} (h : LT H a xs) (e : Same H H') : LT H' a xs := h.imp (e _ _) (e _ _)
theorem LT.sq {K : PySem.W.Frag} {H : Hp} {a : Addr} {xs : List V} (h : LT H a xs) : SqL K H a xs ∨ SqT K H a xs := h.imp SqL.of SqT.of
theorem LT.ty {K : PySem.W.Frag} {H : Hp} {a : Addr} {xs : List V} (h : LT H a xs) : ∃ t : String, TyX K H (.ref a) (.type t) ∧ PySem.W.kitAny K (.type t) [.type "list", .type "tuple"] = some true := by
  rcases h with h | h
  · exact ⟨_, .base (.lst h), by rw [PySem.W.kitAny]; rfl⟩
  · exact ⟨_, .base (.tup h), by rw [PySem.W.kitAny]; rfl⟩
def spAreGroups : Sp := fun vs H Q _ => ∃ (a : Addr) (gs : List Str), vs = [.ref a] ∧ LT H a (gs.map V.str) ∧ gs.length ≤ 1000 ∧ ∀ H', Same H H' → Q (.bl (!gs.isEmpty && gs.all grpB)) H'
/-! ### _law_groups: one to four names of groups; with "none" among them if so asked -/
def grpNames : List Str := (namesL.take 8) ++ placesL
structure IsGroups (first : Bool) (gs : List Str) : Prop where
  pos : 1 ≤ gs.length
  len : gs.length ≤ 4
  mem : ∀ g ∈ gs, g ∈ namesL ++ placesL
  non : first = true → (Str.ofString "none") ∈ gs
theorem groups_plain {gs : List Str} (h1 : 1 ≤ gs.length) (h3 : gs.length ≤ 3) (hm : ∀ g ∈ gs, g ∈ namesL ++ placesL) : IsGroups false gs := ⟨h1, by omega, hm, fun h => nomatch h⟩
theorem groups_ins {gs : List Str} {first : Bool} (i : Nat) (h3 : gs.length ≤ 3) (hm : ∀ g ∈ gs, g ∈ namesL ++ placesL) : IsGroups first (gs.take i ++ [Str.ofString "none"] ++ gs.drop i) := by
  have hl : (gs.take i ++ [Str.ofString "none"] ++ gs.drop i).length = gs.length + 1 := by
    rw [List.length_append, List.length_append, List.length_take, List.length_drop, List.length_singleton]
    omega
  refine ⟨by omega, by omega, fun g hg => ?_, fun _ => List.mem_append_left _ (List.mem_append_right _ (List.mem_singleton.mpr rfl))⟩
  rcases List.mem_append.mp hg with q | q
  · rcases List.mem_append.mp q with q | q
    · exact hm g (List.mem_of_mem_take q)
    · rw [List.mem_singleton.mp q]
      exact List.mem_append_left _ (by decide +kernel)
  · exact hm g (List.mem_of_mem_drop q)
def spGroups (K : PySem.W.Frag) : Sp := fun vs H Q _ => ∃ (p : Addr) (first : Bool) (n : Int), vs = [.ref p, .bl first] ∧ Src H p n ∧ n < 900000 ∧
  ∀ (l : Addr) (gs : List Str) (H' : Hp), IsGroups first gs → H l = none → H' l = some (.lst (gs.map V.str)) → But p H H' → Src H' p (n + 10) → Q (.ref l) H'
/-! ### the rules that _law_rules makes -/
structure Rul where
  st : Str
  gs : List Str
  wd : Str
  kp : Bool
  nx : Str
def wordsL : List Str := ["new", "old", "pass"]
structure RuleOk (zs : List Str) (first : Bool) (r : Rul) : Prop where
  st : r.st ∈ zs
  nx : r.nx ∈ zs
  gs : IsGroups first r.gs
  wd : r.wd ∈ wordsL
theorem IsGroups.ne {b : Bool} {gs : List Str} (h : IsGroups b gs) : gs ≠ [] := fun q => by
  have := h.pos
  rw [q] at this
  cases this
theorem IsGroups.any {b : Bool} {gs : List Str} (h : IsGroups b gs) : IsGroups false gs := ⟨h.pos, h.len, h.mem, fun q => nomatch q⟩
theorem RuleOk.any {zs : List Str} {b : Bool} {r : Rul} (h : RuleOk zs b r) : RuleOk zs false r := ⟨h.st, h.nx, h.gs.any, h.wd⟩
/-- the value is a tuple, new since H0, that tells the rule; its groups are a list, new too -/
def RuleAt (H0 H : Hp) (v : V) (r : Rul) : Prop := ∃ t g : Addr, v = .ref t ∧ H t = some (.tup [.str r.st, .ref g, .str r.wd, .bl r.kp, .str r.nx]) ∧ H g = some (.lst (r.gs.map V.str)) ∧ r.gs ≠ [] ∧ H0 t = none ∧ H0 g = none
theorem Src.strs {H : Hp} {p g : Addr} {n : Int} {l : List Str} (S : Src H p n) (h : H g = some (.lst (l.map V.str))) : g ≠ p := fun q => by
  obtain ⟨a, b, c, e, _⟩ := S
  rw [q, e] at h
  cases l with
  | nil => cases h
  | cons x r => cases h
theorem Src.tups {H : Hp} {p g : Addr} {n : Int} {l : List V} (S : Src H p n) (h : H g = some (.tup l)) : g ≠ p := fun q => by
  obtain ⟨a, b, c, e, _⟩ := S
  rw [q, e] at h
  cases h
theorem RuleAt.same {H0 H H' : Hp} {v : V} {r : Rul} (h : RuleAt H0 H v r) (e : Same H H') : RuleAt H0 H' v r := by
  obtain ⟨t, g, h1, h2, h3, h4⟩ := h
  exact ⟨t, g, h1, e _ _ h2, e _ _ h3, h4⟩
theorem RuleAt.src {H0 H H' : Hp} {p : Addr} {n : Int} {v : V} {r : Rul} (h : RuleAt H0 H v r) (S : Src H p n) (e : But p H H') : RuleAt H0 H' v r := by
  obtain ⟨t, g, h1, h2, h3, h4⟩ := h
  exact ⟨t, g, h1, e _ _ (S.tups h2) h2, e _ _ (S.strs h3) h3, h4⟩
/-- a list of no texts is changed -/
theorem RuleAt.lst {H0 H H' : Hp} {l : Addr} {xs : List V} {v : V} {r : Rul} (h : RuleAt H0 H v r) (hl : H l = some (.lst xs)) (hx : ∀ x ∈ xs, ∃ a, x = .ref a) (e : But l H H') : RuleAt H0 H' v r := by
  obtain ⟨t, g, h1, h2, h3, h4, h5⟩ := h
  refine ⟨t, g, h1, e _ _ (fun q => by rw [q, hl] at h2; cases h2) h2, e _ _ (fun q => ?_) h3, h4, h5⟩
  rw [q, hl] at h3
  have e3 : xs = r.gs.map V.str := by
    have z := Option.some.inj h3
    cases z
    rfl
  cases hg : r.gs with
  | nil => exact h4 hg
  | cons a b =>
    obtain ⟨c, hc⟩ := hx (.str a) (by rw [e3, hg]; exact List.mem_cons_self)
    cases hc
def RulesAt (H0 H : Hp) (xs : List V) (rs : List Rul) : Prop := Paired (RuleAt H0 H) xs rs
theorem paired_map {α β : Type} {R S : α → β → Prop} (f : ∀ a b, R a b → S a b) : ∀ {xs : List α} {ys : List β}, Paired R xs ys → Paired S xs ys
  | _, _, .nil => .nil
  | _, _, .cons h t => .cons (f _ _ h) (paired_map f t)
theorem paired_snoc {α β : Type} {R : α → β → Prop} {a : α} {b : β} (h : R a b) : ∀ {xs : List α} {ys : List β}, Paired R xs ys → Paired R (xs ++ [a]) (ys ++ [b])
  | _, _, .nil => .cons h .nil
  | _, _, .cons h' t => .cons h' (paired_snoc h t)
theorem rules_refs {H0 H : Hp} : ∀ {xs : List V} {rs : List Rul}, RulesAt H0 H xs rs → ∀ x ∈ xs, ∃ a, x = .ref a
  | _, _, .nil, _, h => nomatch h
  | _, _, .cons h t, x, hx => by
    rcases List.mem_cons.mp hx with q | q
    · obtain ⟨a, g, e, _⟩ := h
      exact ⟨a, q.trans e⟩
    · exact rules_refs t x q
/-- what _law_rules makes: the first rule is of the first state and has none; the states are names, each once -/
structure RulesOk (zs : List Str) (r0 : Rul) (rs : List Rul) : Prop where
  name : ∀ z ∈ zs, IsName z
  nd : zs.Nodup
  head : RuleOk zs true r0
  at0 : zs[0]? = some r0.st
  all : ∀ r ∈ rs, RuleOk zs false r
def spRules : Sp := fun vs H Q _ => ∃ (p : Addr) (m most : Nat) (n : Int), vs = [.ref p, .int m, .int most] ∧ Src H p n ∧ 1 ≤ m ∧ m ≤ 16 ∧ 1 ≤ most ∧ most ≤ 100 ∧ n < 100000 ∧
  ∀ (l : Addr) (xs : List V) (zs : List Str) (r0 : Rul) (rs : List Rul) (H' : Hp), RulesOk zs r0 rs → zs.length ≤ m → rs.length < most → RulesAt H H' xs (r0 :: rs) → H l = none → H' l = some (.lst xs) → But p H H' → Src H' p (n + 10000) → Q (.ref l) H'
theorem rules_same {H0 H H' : Hp} {xs : List V} {rs : List Rul} (h : RulesAt H0 H xs rs) (e : Same H H') : RulesAt H0 H' xs rs := paired_map (fun _ _ h => h.same e) h
theorem rules_src {H0 H H' : Hp} {p : Addr} {n : Int} {xs : List V} {rs : List Rul} (h : RulesAt H0 H xs rs) (S : Src H p n) (e : But p H H') : RulesAt H0 H' xs rs := paired_map (fun _ _ h => h.src S e) h
theorem rules_lst {H0 H H' : Hp} {l : Addr} {ys xs : List V} {rs : List Rul} (h : RulesAt H0 H xs rs) (hl : H l = some (.lst ys)) (hx : ∀ x ∈ ys, ∃ a, x = .ref a) (e : But l H H') : RulesAt H0 H' xs rs := paired_map (fun _ _ h => h.lst hl hx e) h
/-! ### _law_states -/
def addS (acc : List Str) (z : Str) : List Str := if z ∈ acc then acc else acc ++ [z]
def statesOf (rs : List Rul) : List Str := rs.foldl (fun acc r => addS (addS acc r.st) r.nx) []
theorem states_more {rs : List Rul} {i : Nat} {r : Rul} (h : rs[i]? = some r) : statesOf (rs.take (i + 1)) = addS (addS (statesOf (rs.take i)) r.st) r.nx := by
  unfold statesOf
  rw [take_more h, List.foldl_append]
  rfl
theorem addS_len (acc : List Str) (z : Str) : (addS acc z).length ≤ acc.length + 1 := by
  unfold addS
  split
  · omega
  · rw [List.length_append]
    exact Nat.le_refl _
theorem states_len : ∀ (rs : List Rul), (statesOf rs).length ≤ 2 * rs.length := by
  have key : ∀ (rs : List Rul) (acc : List Str), (rs.foldl (fun acc r => addS (addS acc r.st) r.nx) acc).length ≤ acc.length + 2 * rs.length := by
    intro rs
    induction rs with
    | nil => intro acc; exact Nat.le_refl _
    | cons r rs ih =>
      intro acc
      rw [List.foldl_cons, List.length_cons]
      have h1 := ih (addS (addS acc r.st) r.nx)
      have h2 := addS_len acc r.st
      have h3 := addS_len (addS acc r.st) r.nx
      omega
  intro rs
  have := key rs []
  rw [List.length_nil] at this
  unfold statesOf
  omega
theorem paired_at {α β : Type} {R : α → β → Prop} : ∀ {xs : List α} {ys : List β}, Paired R xs ys → ∀ {i : Nat} {x : α}, xs[i]? = some x → ∃ y, ys[i]? = some y ∧ R x y
  | _, _, .nil, i, x, h => nomatch h
  | _, _, .cons (b := b) h t, 0, x, hx => ⟨b, rfl, by rw [← Option.some.inj hx]; exact h⟩
  | _, _, .cons h t, i + 1, x, hx => paired_at t (i := i) hx
def spStates (K : PySem.W.Frag) : Sp := fun vs H Q _ => ∃ (l : Addr) (xs : List V) (rs : List Rul) (H0 : Hp), vs = [.ref l] ∧ SqL K H l xs ∧ RulesAt H0 H xs rs ∧ rs.length ≤ 1000 ∧
  ∀ (p : Addr) (H' : Hp), H p = none → Same H H' → H' p = some (.lst ((statesOf rs).map V.str)) → Q (.ref p) H'
/-! ### is_name -/
def nameB (z : Str) : Bool := decide (1 ≤ z.cps.size) && decide (z.cps.size ≤ 8) && z.cps.toList.all fun c => decide (c ∈ (Str.ofString "abcdefghijklmnopqrstuvwxyz").cps.toList)
theorem lettersC : (Str.ofString "abcdefghijklmnopqrstuvwxyz").cps.toList = (List.range 26).map (97 + ·) := by decide +kernel
theorem letter_small {c : Nat} : c ∈ (Str.ofString "abcdefghijklmnopqrstuvwxyz").cps.toList ↔ small c := by
  rw [lettersC, List.mem_map]
  constructor
  · rintro ⟨k, hk, rfl⟩
    have := List.mem_range.mp hk
    exact ⟨by omega, by omega⟩
  · intro h
    exact ⟨c - 97, List.mem_range.mpr (by have := h.2; have := h.1; omega), by have := h.1; omega⟩
theorem nameB_iff {z : Str} : nameB z = true ↔ IsName z := by
  unfold nameB
  rw [Bool.and_eq_true, Bool.and_eq_true, decide_eq_true_eq, decide_eq_true_eq, List.all_eq_true]
  constructor
  · rintro ⟨⟨h1, h2⟩, h3⟩
    exact ⟨h1, h2, fun c hc => letter_small.mp (of_decide_eq_true (h3 c hc))⟩
  · intro h
    exact ⟨⟨h.pos, h.len⟩, fun c hc => decide_eq_true (letter_small.mpr (h.low c hc))⟩
def spIsName (K : PySem.W.Frag) : Sp := fun vs H Q _ => ∃ v : V, vs = [v] ∧ ((∃ z : Str, v = .str z ∧ z.length ≤ sizeLine ∧ ∀ H', Same H H' → Q (.bl (nameB z)) H') ∨ (∃ t : String, TyX K H v (.type t) ∧ kitB t "str" = some false) ∧ Q (.bl false) H)
/-! ### loops: _is_rule, _checked_rules, _checked_answers, _used_rules, Loop -/
theorem sameT {K : PySem.W.Frag} {H H' : Hp} {a : Addr} {xs : List V} (e : Same H H') (h : SqT K H a xs) : SqT K H' a xs := by
  rcases h with (h | ⟨o, h⟩) | h
  · exact .inl (.inl (e _ _ h))
  · exact .inl (.inr ⟨o, e _ _ h⟩)
  · exact .inr h
def gSeqU (K : PySem.W.Frag) (n : Nat) (t : TGs) : TG := fun v σ H Q => gTup K n t v σ H Q ∨ gUnl K n t v σ H Q
theorem pg_seqU {X : Cx} {es : List Expr} {k : Nat} {pos : Pos} {t : TGs} {n : Nat} (hc : X.calm = true) (h : PGs X es t)
    (hn : (assignEach es X.env).length = n := by rfl) (hst : (assignEach es X.env).findIdx? (·.1) = none := by rfl) : PG X (.Tuple es k pos) (gSeqU X.K n t) :=
  ⟨fun pins s σ H v u Q I r hw => hw.elim (fun hw => (pg_tup hc h hn hst).run pins s σ H v u Q I r hw) (fun hw => (pg_unl hc h hn hst).run pins s σ H v u Q I r hw)⟩
theorem IsName.line {z : Str} (h : IsName z) : z.length ≤ sizeLine := Nat.le_trans h.len (by decide)
/-- a rule that has the form of one -/
structure RulV (r : Rul) : Prop where
  st : IsName r.st
  wd : IsName r.wd
  nx : IsName r.nx
  ne : r.gs ≠ []
  len : r.gs.length ≤ 1000
  gs : ∀ g ∈ r.gs, grpB g = true
theorem RulV.grp {r : Rul} (h : RulV r) : (!r.gs.isEmpty && r.gs.all grpB) = true := by
  rw [List.all_eq_true.mpr h.gs]
  cases e : r.gs with
  | nil => exact absurd e h.ne
  | cons a b => rfl
/-- a tuple or list that tells a rule, its groups a tuple or list -/
def RuleIn (H : Hp) (v : V) (r : Rul) : Prop := ∃ t g : Addr, v = .ref t ∧ LT H t [.str r.st, .ref g, .str r.wd, .bl r.kp, .str r.nx] ∧ LT H g (r.gs.map V.str)
theorem RuleIn.same {H H' : Hp} {v : V} {r : Rul} (h : RuleIn H v r) (e : Same H H') : RuleIn H' v r := by
  obtain ⟨t, g, h1, h2, h3⟩ := h
  exact ⟨t, g, h1, h2.same e, h3.same e⟩
theorem RuleAt.ruleIn {H0 H : Hp} {v : V} {r : Rul} (h : RuleAt H0 H v r) : RuleIn H v r := by
  obtain ⟨t, g, h1, h2, h3, _⟩ := h
  exact ⟨t, g, h1, .inr h2, .inl h3⟩
/-- a tuple that tells a rule, its groups a tuple -/
def RuleT (H : Hp) (v : V) (r : Rul) : Prop := ∃ t g : Addr, v = .ref t ∧ H t = some (.tup [.str r.st, .ref g, .str r.wd, .bl r.kp, .str r.nx]) ∧ H g = some (.tup (r.gs.map V.str))
theorem RuleT.same {H H' : Hp} {v : V} {r : Rul} (h : RuleT H v r) (e : Same H H') : RuleT H' v r := by
  obtain ⟨t, g, h1, h2, h3⟩ := h
  exact ⟨t, g, h1, e _ _ h2, e _ _ h3⟩
theorem RuleT.but {l : Addr} {H H' : Hp} {v : V} {r : Rul} (h : RuleT H v r) (hl : ∀ ys, H l ≠ some (.tup ys)) (e : But l H H') : RuleT H' v r := by
  obtain ⟨t, g, h1, h2, h3⟩ := h
  exact ⟨t, g, h1, e _ _ (fun q => hl _ (q ▸ h2)) h2, e _ _ (fun q => hl _ (q ▸ h3)) h3⟩
theorem RuleT.ruleIn {H : Hp} {v : V} {r : Rul} (h : RuleT H v r) : RuleIn H v r := by
  obtain ⟨t, g, h1, h2, h3⟩ := h
  exact ⟨t, g, h1, .inr h2, .inr h3⟩
def RulesIn (H : Hp) (xs : List V) (rs : List Rul) : Prop := Paired (RuleIn H) xs rs
def RulesT (H : Hp) (xs : List V) (rs : List Rul) : Prop := Paired (RuleT H) xs rs
def spIsRule : Sp := fun vs H Q _ => ∃ (v : V) (r : Rul), vs = [v] ∧ RuleIn H v r ∧ RulV r ∧ ∀ H', Same H H' → Q (.bl true) H'
structure RulsV (rs : List Rul) : Prop where
  all : ∀ r ∈ rs, RulV r
  pos : 1 ≤ rs.length
  len : rs.length ≤ 40
  sts : (statesOf rs).length ≤ 6
theorem addS_ge (acc : List Str) (z : Str) : acc.length ≤ (addS acc z).length := by
  unfold addS
  split
  · exact Nat.le_refl _
  · rw [List.length_append]
    exact Nat.le_add_right _ _
theorem states_fold_ge : ∀ (rs : List Rul) (acc : List Str), acc.length ≤ (rs.foldl (fun acc r => addS (addS acc r.st) r.nx) acc).length
  | [], _ => Nat.le_refl _
  | r :: rs, acc => by
    rw [List.foldl_cons]
    exact Nat.le_trans (Nat.le_trans (addS_ge acc r.st) (addS_ge _ r.nx)) (states_fold_ge rs _)
theorem states_mono (rs : List Rul) (i : Nat) : (statesOf (rs.take i)).length ≤ (statesOf rs).length := by
  have h := states_fold_ge (rs.drop i) (statesOf (rs.take i))
  have e : statesOf rs = (rs.drop i).foldl (fun acc r => addS (addS acc r.st) r.nx) (statesOf (rs.take i)) := by
    unfold statesOf
    rw [← List.foldl_append, List.take_append_drop]
  rw [e]
  exact h
/-- a dict of these keys, all True -/
def trues (l : List Str) : List (Key × V) := l.map fun z => (Sum.inr z, V.bl true)
theorem trues_put (l : List Str) (z : Str) : putK (trues l) (Sum.inr z : Key) (V.bl true) = trues (addS l z) := by
  have hany : ((trues l).any fun kv => decide (kv.1 = (Sum.inr z : Key))) = decide (z ∈ l) := by
    unfold trues
    rw [List.any_map, Bool.eq_iff_iff, List.any_eq_true, decide_eq_true_eq]
    constructor
    · rintro ⟨x, hx, h⟩
      have h : (Sum.inr x : Key) = Sum.inr z := of_decide_eq_true h
      cases h
      exact hx
    · intro h
      exact ⟨z, h, decide_eq_true rfl⟩
  unfold putK addS
  rw [hany]
  by_cases h : z ∈ l
  · rw [if_pos (decide_eq_true h), if_pos h]
    unfold trues
    rw [List.map_map]
    refine List.map_congr_left fun x hx => ?_
    show (if (Sum.inr x : Key) = Sum.inr z then ((Sum.inr x : Key), V.bl true) else (Sum.inr x, V.bl true)) = (Sum.inr x, V.bl true)
    split <;> rfl
  · rw [if_neg (by rw [decide_eq_false h]; exact Bool.false_ne_true), if_neg h]
    unfold trues
    rw [List.map_append]
    rfl
theorem trues_keys (l : List Str) : ((trues l).map fun kv => kV kv.1) = l.map V.str := by
  unfold trues
  rw [List.map_map]
  rfl
def spCheckedRules (K : PySem.W.Frag) : Sp := fun vs H Q _ => ∃ (b : Bool) (l : Addr) (xs : List V) (rs : List Rul), vs = [.ref l] ∧ SqB K b H l xs ∧ RulesIn H xs rs ∧ RulsV rs ∧
  ∀ (p c s : Addr) (ys : List V) (H' : Hp), Same H H' → H' p = some (.tup [.ref c, .ref s]) → H' c = some (.tup ys) → RulesT H' ys rs → H' s = some (.tup ((statesOf rs).map V.str)) → Q (.ref p) H'
theorem SqB.same {K : PySem.W.Frag} {b : Bool} {H H' : Hp} {a : Addr} {xs : List V} (h : SqB K b H a xs) (e : Same H H') : SqB K b H' a xs := by
  cases b with
  | true => exact e.seq h
  | false => exact sameT e h
/-- what the top has written: each def at its address, the built-ins not hidden -/
structure Txt (P : Program) (w : World) (K : PySem.W.Frag) (mg : Str → Option Value) where
  C_Watch : Addr
  m_Watch : mg "Watch" = some (.ref C_Watch)
  cl_Watch : Cls K C_Watch
  na_Watch_rules : NoAttr K C_Watch "_rules"
  na_Watch_states : NoAttr K C_Watch "_states"
  na_Watch_alarms : NoAttr K C_Watch "_alarms"
  f_Watch__init : Addr
  d_Watch__init : FuncData
  F_Watch__init : Fun K "__init__" "Watch.__init__" s_Watch__init f_Watch__init d_Watch__init
  b_Watch__init : Binds K d_Watch__init ["self", "rules", "alarms"] []
  mk_Watch : Mk K C_Watch f_Watch__init
  f_Watch_rules : Addr
  d_Watch_rules : FuncData
  F_Watch_rules : Fun K "rules" "Watch.rules" s_Watch_rules f_Watch_rules d_Watch_rules
  b_Watch_rules : Binds K d_Watch_rules ["self"] []
  p_Watch_rules : Addr
  pr_Watch_rules : PropOf K C_Watch "rules" p_Watch_rules f_Watch_rules
  f_Watch_states : Addr
  d_Watch_states : FuncData
  F_Watch_states : Fun K "states" "Watch.states" s_Watch_states f_Watch_states d_Watch_states
  b_Watch_states : Binds K d_Watch_states ["self"] []
  p_Watch_states : Addr
  pr_Watch_states : PropOf K C_Watch "states" p_Watch_states f_Watch_states
  f_Watch_start : Addr
  d_Watch_start : FuncData
  F_Watch_start : Fun K "start" "Watch.start" s_Watch_start f_Watch_start d_Watch_start
  b_Watch_start : Binds K d_Watch_start ["self"] []
  p_Watch_start : Addr
  pr_Watch_start : PropOf K C_Watch "start" p_Watch_start f_Watch_start
  f_Watch_alarms : Addr
  d_Watch_alarms : FuncData
  F_Watch_alarms : Fun K "alarms" "Watch.alarms" s_Watch_alarms f_Watch_alarms d_Watch_alarms
  b_Watch_alarms : Binds K d_Watch_alarms ["self"] []
  p_Watch_alarms : Addr
  pr_Watch_alarms : PropOf K C_Watch "alarms" p_Watch_alarms f_Watch_alarms
  f_Watch__eq : Addr
  d_Watch__eq : FuncData
  F_Watch__eq : Fun K "__eq__" "Watch.__eq__" s_Watch__eq f_Watch__eq d_Watch__eq
  b_Watch__eq : Binds K d_Watch__eq ["self", "other"] []
  mt_Watch__eq : Meth K C_Watch "__eq__" f_Watch__eq
  t_LETTERS : Tok
  m_LETTERS : mg "LETTERS" = some (.str "abcdefghijklmnopqrstuvwxyz" t_LETTERS)
  t_MOST_RULES : Tok
  m_MOST_RULES : mg "MOST_RULES" = some (.int 20 t_MOST_RULES)
  t_MOST_STATES : Tok
  m_MOST_STATES : mg "MOST_STATES" = some (.int 6 t_MOST_STATES)
  t_ANY_WORD : Tok
  m_ANY_WORD : mg "ANY_WORD" = some (.str "*" t_ANY_WORD)
  f_is_name : Addr
  d_is_name : FuncData
  F_is_name : Fun K "is_name" "is_name" s_is_name f_is_name d_is_name
  b_is_name : Binds K d_is_name ["thing"] []
  m_is_name : mg "is_name" = some (.ref f_is_name)
  f_is_group : Addr
  d_is_group : FuncData
  F_is_group : Fun K "is_group" "is_group" s_is_group f_is_group d_is_group
  b_is_group : Binds K d_is_group ["thing"] []
  m_is_group : mg "is_group" = some (.ref f_is_group)
  f_are_groups : Addr
  d_are_groups : FuncData
  F_are_groups : Fun K "are_groups" "are_groups" s_are_groups f_are_groups d_are_groups
  b_are_groups : Binds K d_are_groups ["things"] []
  m_are_groups : mg "are_groups" = some (.ref f_are_groups)
  f_are_words : Addr
  d_are_words : FuncData
  F_are_words : Fun K "_are_words" "_are_words" s_are_words f_are_words d_are_words
  b_are_words : Binds K d_are_words ["things"] []
  m_are_words : mg "_are_words" = some (.ref f_are_words)
  f_is_rule : Addr
  d_is_rule : FuncData
  F_is_rule : Fun K "_is_rule" "_is_rule" s_is_rule f_is_rule d_is_rule
  b_is_rule : Binds K d_is_rule ["thing"] []
  m_is_rule : mg "_is_rule" = some (.ref f_is_rule)
  f_checked_rules : Addr
  d_checked_rules : FuncData
  F_checked_rules : Fun K "_checked_rules" "_checked_rules" s_checked_rules f_checked_rules d_checked_rules
  b_checked_rules : Binds K d_checked_rules ["rules"] []
  m_checked_rules : mg "_checked_rules" = some (.ref f_checked_rules)
  f_checked_alarms : Addr
  d_checked_alarms : FuncData
  F_checked_alarms : Fun K "_checked_alarms" "_checked_alarms" s_checked_alarms f_checked_alarms d_checked_alarms
  b_checked_alarms : Binds K d_checked_alarms ["states", "alarms"] []
  m_checked_alarms : mg "_checked_alarms" = some (.ref f_checked_alarms)
  f_law_source : Addr
  d_law_source : FuncData
  F_law_source : Fun K "_law_source" "_law_source" s_law_source f_law_source d_law_source
  b_law_source : Binds K d_law_source ["_law_script"] []
  m_law_source : mg "_law_source" = some (.ref f_law_source)
  f_law_draw : Addr
  d_law_draw : FuncData
  F_law_draw : Fun K "_law_draw" "_law_draw" s_law_draw f_law_draw d_law_draw
  b_law_draw : Binds K d_law_draw ["_law_source_here", "_law_many"] []
  m_law_draw : mg "_law_draw" = some (.ref f_law_draw)
  f_law_pick : Addr
  d_law_pick : FuncData
  F_law_pick : Fun K "_law_pick" "_law_pick" s_law_pick f_law_pick d_law_pick
  b_law_pick : Binds K d_law_pick ["_law_source_here", "_law_things"] []
  m_law_pick : mg "_law_pick" = some (.ref f_law_pick)
  f_law_order : Addr
  d_law_order : FuncData
  F_law_order : Fun K "_law_order" "_law_order" s_law_order f_law_order d_law_order
  b_law_order : Binds K d_law_order ["_law_source_here", "_law_many"] []
  m_law_order : mg "_law_order" = some (.ref f_law_order)
  f_law_subset : Addr
  d_law_subset : FuncData
  F_law_subset : Fun K "_law_subset" "_law_subset" s_law_subset f_law_subset d_law_subset
  b_law_subset : Binds K d_law_subset ["_law_source_here", "_law_row"] []
  m_law_subset : mg "_law_subset" = some (.ref f_law_subset)
  f_law_name : Addr
  d_law_name : FuncData
  F_law_name : Fun K "_law_name" "_law_name" s_law_name f_law_name d_law_name
  b_law_name : Binds K d_law_name ["_law_source_here", "_law_taken"] []
  m_law_name : mg "_law_name" = some (.ref f_law_name)
  f_law_names : Addr
  d_law_names : FuncData
  F_law_names : Fun K "_law_names" "_law_names" s_law_names f_law_names d_law_names
  b_law_names : Binds K d_law_names ["_law_source_here", "_law_many"] []
  m_law_names : mg "_law_names" = some (.ref f_law_names)
  f_law_places : Addr
  d_law_places : FuncData
  F_law_places : Fun K "_law_places" "_law_places" s_law_places f_law_places d_law_places
  b_law_places : Binds K d_law_places [] []
  m_law_places : mg "_law_places" = some (.ref f_law_places)
  f_law_group_names : Addr
  d_law_group_names : FuncData
  F_law_group_names : Fun K "_law_group_names" "_law_group_names" s_law_group_names f_law_group_names d_law_group_names
  b_law_group_names : Binds K d_law_group_names [] []
  m_law_group_names : mg "_law_group_names" = some (.ref f_law_group_names)
  f_law_watch_rules : Addr
  d_law_watch_rules : FuncData
  F_law_watch_rules : Fun K "_law_watch_rules" "_law_watch_rules" s_law_watch_rules f_law_watch_rules d_law_watch_rules
  b_law_watch_rules : Binds K d_law_watch_rules ["_law_source_here", "_law_many", "_law_most", "_law_words"] []
  m_law_watch_rules : mg "_law_watch_rules" = some (.ref f_law_watch_rules)
  f_law_watch_states : Addr
  d_law_watch_states : FuncData
  F_law_watch_states : Fun K "_law_watch_states" "_law_watch_states" s_law_watch_states f_law_watch_states d_law_watch_states
  b_law_watch_states : Binds K d_law_watch_states ["_law_rules"] []
  m_law_watch_states : mg "_law_watch_states" = some (.ref f_law_watch_states)
  f_law_tuples : Addr
  d_law_tuples : FuncData
  F_law_tuples : Fun K "_law_tuples" "_law_tuples" s_law_tuples f_law_tuples d_law_tuples
  b_law_tuples : Binds K d_law_tuples ["_law_rules"] []
  m_law_tuples : mg "_law_tuples" = some (.ref f_law_tuples)
  f_law : Addr
  d_law : FuncData
  F_law : Fun K "law" "law" s_law f_law d_law
  b_law : Binds K d_law ["_law_script"] []
  m_law : mg "law" = some (.ref f_law)
  m_int : mg "int" = none
  m_str : mg "str" = none
  m_bool : mg "bool" = none
  m_range : mg "range" = none
  m_len : mg "len" = none
  m_isinstance : mg "isinstance" = none
  m_all : mg "all" = none
  m_list : mg "list" = none
  m_tuple : mg "tuple" = none
  m_enumerate : mg "enumerate" = none
  a_GROUPS : Addr
  m_GROUPS : mg "GROUPS" = some (.ref a_GROUPS)
  e_GROUPS : Array DictEntry
  n_GROUPS : Nat
  kd_GROUPS : KDict K w a_GROUPS e_GROUPS n_GROUPS
  y_GROUPS : ∀ (j : Nat) (nm : Str) (ps : List Str), l_GROUPS[j]? = some (nm, ps) → ∃ u : Addr, PySem.W.nsIn K a_GROUPS nm = some (some (.ref u)) ∧ ∀ H : Hp, SqT K H u (ps.map V.str)
  z_GROUPS : ∀ z : Str, z ∉ l_GROUPS.map (·.1) → PySem.W.nsIn K a_GROUPS z = some none
  a_PLACES : Addr
  q_PLACES : ∀ H : Hp, SqT K H a_PLACES c_PLACES
  o_PLACES : ∃ o, K.lookup a_PLACES = some o ∧ o.cls = .type "tuple" ∧ o.dict = none
  m_PLACES : mg "PLACES" = some (.ref a_PLACES)
  C_BadWatch : Addr
  i_BadWatch : Addr
  er_BadWatch : PySem.SupX.ClsTxt P K mg C_BadWatch i_BadWatch "BadWatch"
  fn_BadWatch : PySem.SupX.FnTxt P K C_BadWatch i_BadWatch "line"
  xf_BadWatch : XfC K C_BadWatch
  te_BadWatch : PySem.W.exmOne K (.ref C_BadWatch) (.ref C_BadWatch) = some true
  C_UnknownState : Addr
  i_UnknownState : Addr
  er_UnknownState : PySem.SupX.ClsTxt P K mg C_UnknownState i_UnknownState "UnknownState"
  fn_UnknownState : PySem.SupX.FnTxt P K C_UnknownState i_UnknownState "state"
  xf_UnknownState : XfC K C_UnknownState
  te_UnknownState : PySem.W.exmOne K (.ref C_UnknownState) (.ref C_UnknownState) = some true
  ne_BadWatch_UnknownState : PySem.W.exmOne K (.ref C_BadWatch) (.ref C_UnknownState) = some false
  ne_UnknownState_BadWatch : PySem.W.exmOne K (.ref C_UnknownState) (.ref C_BadWatch) = some false
  ck_Watch : PySem.W.findIn K (.ref C_Watch) "__class__" = some (some (.builtin "object.__class__"))
  cg_Watch : PySem.W.specialIn K (.builtin "object.__class__") "__get__" = some (some (.builtin "getset_descriptor.__get__"))
  ct_Watch : PySem.W.takesIn K (.builtin "object.__class__") = some true
  co_Watch : PySem.W.mroIn K C_Watch (.type "object") = some true
  cn_Watch : PySem.W.findIn K (.ref C_Watch) "__ne__" = some (some (.builtin "object.__ne__"))
  nf_Watch : PySem.W.notFirst K C_Watch (.ref C_Watch) = true
  n1_Watch : PySem.W.notFirst K C_Watch (.type "tuple") = true
  c1_Watch : PySem.W.kitOne K (.type "tuple") (.ref C_Watch) = some false

theorem ok_law_source (T : Txt P w K mg) : FnOk P w K mg base CX0 1 T.f_law_source T.d_law_source ["_law_script"] (spSource K) := by
  refine T.F_law_source.ok sc_law_source (fun vs H Q E h => ?_) (fun cdv A outer s H vs Q E hr h => ?_)
  · obtain ⟨a, ns, rfl, _⟩ := h
    rfl
  · obtain ⟨a, ns, rfl, hS, k⟩ := h
    refine ⟨_, (pss_cons (ps_asg (pe_tup (pa_cons pe_int (pa_cons pe_int pa_nil))) (pg_tup (by rfl) (pgs_cons (pg_name (i := 1) sc_law_source.nd rfl (Or.inl rfl)) (pgs_cons (pg_name (i := 2) sc_law_source.nd rfl (Or.inl rfl)) pgs_nil))))
      (pss_cons (ps_for PassesOwn.never rfl (pi_list (pv 0)) (pg_name (i := 3) sc_law_source.nd rfl (Or.inl rfl))
      (pss_cons (ps_if (PW.pt (pw_and (pt_cmpR op_eq (pv 1) pe_int (nomark _)) (pw_and1 (pt_cmpR op_ge (pv 3) (pe_op op_pow pe_int pe_int) (nomark _)))))
      (pss_one (ps_set (i := 1) sc_law_source.nd rfl (Or.inl rfl) (pv 3)))
      pss_nil)
      (pss_one (ps_set (i := 2) sc_law_source.nd rfl (Or.inl rfl) (pe_op op_mod (pe_callTy call_int1 (by rfl) T.m_int (by decide +kernel) (pa_cons (pe_op op_add (pe_op op_add (pe_op op_mul (pv 2) pe_int) (pv 3)) pe_int) pa_nil)) pe_int)))))
      (pss_one (ps_ret (pe_lst (pa_cons (pv 1) (pa_cons (pv 2) (pa_cons pe_int pa_nil)))))))), ?_⟩
    refine ⟨by decide, fun p hp => ?_⟩
    have s1 : Same H (upd H p (.tup [.int 0, .int 17])) := Same.new hp
    refine ⟨_, _, rfl, SqT.of upd_same, rfl, ?_⟩
    walk_at "rd"
    refine ⟨⟨_, s1.seq hS⟩, for_list (K := K) (a := a) (xs := ns.map V.int) (fun i σ H' => ∃ (g s : Int) (v : Option V), σ = [some (.ref a), some (.int g), some (.int s), v] ∧ 0 ≤ s ∧ s < 2147483647 ∧ Same H H')
      ⟨0, 17, none, rfl, by decide, by decide, s1⟩ (fun i σ H' _ ⟨_, _, _, _, _, _, z⟩ => z.seq hS) ?_ ?_⟩
    · rintro i y σ H' hi ⟨g, s, v, rfl, s0, s2, z⟩
      obtain ⟨u, rfl⟩ : ∃ u, y = V.int u := by
        rw [List.getElem?_map] at hi
        cases e : ns[i]? with
        | none => rw [e] at hi; cases hi
        | some u => rw [e] at hi; exact ⟨u, (Option.some.inj hi).symm⟩
      have fin : ∀ g' : Int, ∃ (g'' s'' : Int) (v'' : Option V), ([some (V.ref a), some (V.int g'), some (V.int ((s * 31 + u + 7) % 2147483647)), some (V.int u)] : St) = [some (.ref a), some (.int g''), some (.int s''), v''] ∧ 0 ≤ s'' ∧ s'' < 2147483647 ∧ Same H H' :=
        fun g' => ⟨g', _, _, rfl, Int.emod_nonneg _ (by decide), Int.emod_lt_of_pos _ (by decide), z⟩
      walk_at "rd"
      refine ifd (fun cg => ?_) (fun cg => ?_)
      · walk_at "rd"
        refine ⟨⟨by decide, by decide, by decide⟩, ?_⟩
        walk_at "rd"
        refine ifd (fun ch => ?_) (fun ch => ?_)
        · walk_at "rd"
          refine ⟨Or.inr ⟨by decide, by decide⟩, ?_⟩
          walk_at "rd"
          refine Or.inl ?_
          walk_at "rd"
          refine ⟨(by decide : (0 : Int) < 2147483647), ?_⟩
          exact fin u
        · walk_at "rd"
          refine ⟨Or.inr ⟨by decide, by decide⟩, ?_⟩
          walk_at "rd"
          refine Or.inl ?_
          walk_at "rd"
          refine ⟨(by decide : (0 : Int) < 2147483647), ?_⟩
          exact fin g
      · walk_at "rd"
        refine ⟨Or.inr ⟨by decide, by decide⟩, ?_⟩
        walk_at "rd"
        refine Or.inl ?_
        walk_at "rd"
        refine ⟨(by decide : (0 : Int) < 2147483647), ?_⟩
        exact fin g
    · rintro σ H' ⟨g, s, v, rfl, s0, s2, z⟩
      walk_at "rd"
      refine ⟨by show 3 ≤ sizeLine; decide, fun p2 hp2 => ?_⟩
      exact k p2 _ (z.free hp2) (z.trans (Same.new hp2)) ⟨g, s, 0, upd_same, s0, s2, by decide, by decide⟩
theorem ok_law_draw (T : Txt P w K mg) : FnOk P w K mg base CX0 1 T.f_law_draw T.d_law_draw ["_law_source_here", "_law_many"] spDraw := by
  refine T.F_law_draw.ok sc_law_draw (fun vs H Q E h => ?_) (fun cdv A outer s H vs Q E hr h => ?_)
  · obtain ⟨p, m, n, rfl, _⟩ := h
    rfl
  · obtain ⟨p, m, n, rfl, S, hn, m0, m1, k⟩ := h
    refine ⟨_, (pss_cons (ps_asg (pe_op op_add (pe_ix ix_list (pv 0) pe_int (fun _ _ => rfl)) pe_int) (pg_sub (pv 0) pe_int set_list))
      (pss_cons (ps_if (pt_cmpR op_gt (pe_ix ix_list (pv 0) pe_int (fun _ _ => rfl)) pe_int (nomark _))
      (pss_cons (ps_set (i := 2) sc_law_draw.nd rfl (Or.inl rfl) (pe_op op_mod (pe_callTy call_int1 (by rfl) T.m_int (by decide +kernel) (pa_cons (pe_ix ix_list (pv 0) pe_int (fun _ _ => rfl)) pa_nil)) (pv 1)))
      (pss_cons (ps_asg (pe_op op_fdivW (pe_ix ix_list (pv 0) pe_int (fun _ _ => rfl)) (pv 1)) (pg_sub (pv 0) pe_int set_list))
      (pss_one (ps_ret (pv 2)))))
      pss_nil)
      (pss_cons (ps_set (i := 3) sc_law_draw.nd rfl (Or.inl rfl) (pe_op op_mod (pe_op op_pow (pe_op op_add (pe_ix ix_list (pv 0) pe_int (fun _ _ => rfl)) (pe_op op_mul pe_int (pe_ix ix_list (pv 0) pe_int (fun _ _ => rfl)))) pe_int) pe_int))
      (pss_one (ps_ret (pe_op op_mod (pe_op op_mod (pe_op op_pow (pe_op op_add (pe_op op_add (pe_op op_mul (pv 3) pe_int) (pe_op op_mul (pe_op op_mul pe_int (pe_ix ix_list (pv 0) pe_int (fun _ _ => rfl))) (pe_ix ix_list (pv 0) pe_int (fun _ _ => rfl)))) pe_int) pe_int) pe_int) (pv 1))))))), ?_⟩
    obtain ⟨g, s, c, hp, s0, s1, c0, c1⟩ := S
    walk_at "rd"
    refine ⟨_, _, _, _, rfl, rfl, SqL.of hp, rfl, ?_⟩
    walk_at "rd"
    refine ⟨_, _, _, _, rfl, rfl, hp, rfl, ?_⟩
    walk_at "rd"
    refine ifd (fun cg => ?_) (fun cg => ?_)
    · walk_at "rd"
      refine Or.inl ?_
      walk_at "rd"
      refine ⟨m0, ?_⟩
      walk_at "rd"
      refine ⟨wide_div (b := 64) m0 (by omega) (by decide) (by decide), ?_⟩
      walk_at "rd"
      exact k _ _ (Int.emod_nonneg g (by omega)) (Int.emod_lt_of_pos g m0) (((But.refl p H).upd).upd) ⟨g / m, s, c + 1, upd_same, s0, s1, by omega, by omega⟩
    · walk_at "rd"
      refine ⟨Or.inl ⟨by decide, by decide⟩, ?_⟩
      walk_at "rd"
      refine ⟨⟨by decide, by decide, by omega⟩, ?_⟩
      walk_at "rd"
      refine ⟨(by decide : (0 : Int) < 2147483629), ?_⟩
      have x0 := Int.emod_nonneg ((s + 7919 * (c + 1)) ^ Int.toNat 5) (by decide : (2147483629 : Int) ≠ 0)
      have x1 := Int.emod_lt_of_pos ((s + 7919 * (c + 1)) ^ Int.toNat 5) (by decide : (0 : Int) < 2147483629)
      walk_at "rd"
      refine ⟨Or.inr ⟨by decide, by decide⟩, ?_⟩
      walk_at "rd"
      refine ⟨Or.inl ⟨by decide, by decide⟩, ?_⟩
      walk_at "rd"
      refine ⟨Or.inr ⟨by omega, by omega⟩, ?_⟩
      walk_at "rd"
      refine ⟨draw_pow x0 x1 (by omega) (by omega), ?_⟩
      walk_at "rd"
      refine ⟨(by decide : (0 : Int) < 1000000007), ?_⟩
      walk_at "rd"
      refine ⟨m0, ?_⟩
      exact k _ _ (Int.emod_nonneg _ (by omega)) (Int.emod_lt_of_pos _ m0) ((But.refl p H).upd) ⟨g, s, c + 1, upd_same, s0, s1, by omega, by omega⟩
--SPLIT
/-! ### the program's checks -/
def isNameD : D → Bool
  | .v (.str z) => nameB z
  | _ => false
/-- a thing whose class is known; a text that isn't too long -/
def okT (d : D) : Prop := tyD d ≠ none ∧ ∀ z, d = .v (.str z) → z.length ≤ sizeLine
def spIsNameD : DSp := fsp0 (fun d : D => [d]) okT (fun d b => b = isNameD d) eB
theorem mon_is_name : Mon spIsNameD := fsp0.mon
theorem ups_is_name (_ : Txt P w K mg) : Ups K (up K spIsNameD) spIsNameD := .rfl
theorem ok_is_name (T : Txt P w K mg) : FnOk P w K mg base CX0 1 T.f_is_name T.d_is_name ["thing"] (up K spIsNameD) := by
  refine T.F_is_name.ok sc_is_name (up_len fun sp ds n R h => ?_) (fun cdv A outer s H vs Q E hr h => ?_)
  · obtain ⟨_, rfl, _⟩ := h
    rfl
  obtain ⟨sp, F, ds, n, hs, src, L, d, rfl, ⟨h1, h2⟩, k⟩ := h
  refine d_run (N := ["thing", "letter"]) (sl := [Sl.val _, Sl.emp]) (dss_cons (ds_if (DW.pt (dw_or (dt_not (dt_val (de_isi .str (by decide) (fun _ => rfl) (fun _ => T.m_isinstance) rfl (fun _ => rfl) (fun _ => T.m_str) (by decide +kernel) (dbv 0)))) (dw_or1 (dt_not (dt_chain dop_le dop_le (DX.b de_int) (DX.b (de_callB dc_len (fun _ => by rfl) (fun _ => T.m_len) (by decide +kernel) (dab_cons (dbv 0) dab_nil))) (DX.b de_int))))))
      (dss_one (ds_ret de_bl))
      dss_nil)
      (dss_one (ds_ret (de_callB (dc_all (fun _ => rfl)) (fun _ => by rfl) (fun _ => T.m_all) (by decide +kernel) (dab_cons (DX.b (DO.x (do_lc (own := [("letter", 1)]) (fun _ => rfl) (fun _ => sc_is_name.nd) (di_str (dv 0)) (fun _ => blkOk_by (own := [("letter", 1)]) (N := ["thing", "letter"]) (sc := defScope s_is_name) (by decide +kernel)) (dg_name (i := 1) (fun _ => sc_is_name.nd) (fun _ => rfl) (fun _ => Or.inl rfl)) dts_nil (de_cmp dop_inS (dbv 1) (DX.b (de_glob (v := .str "abcdefghijklmnopqrstuvwxyz") (fun _ => rfl) (fun _ => T.m_LETTERS) ⟨_, rfl⟩)) (by rfl))))) dab_nil))))) hs src L rfl ?_
  have no : isNameD d = false → ∃ m, n ≤ m ∧ Post K sp F H Q (D.v (V.bl false)) m := fun e => ⟨n, Int.le_refl _, k false e.symm⟩
  cases d with
  | v x =>
    cases x with
    | str z =>
      walk_at "dr"
      refine ⟨h2 z rfl, bif_d (fun a1 => bif_nd (fun a2 => no ?_) fun a2 => ?_) fun a1 => no ?_⟩
      · have : ¬ z.cps.size ≤ 8 := fun h => a2 (Int.ofNat_le.mpr h)
        show nameB z = false
        unfold nameB
        rw [decide_eq_false this]
        simp
      · have h8 : z.cps.size ≤ 8 := Int.ofNat_le.mp a2
        refine lc_mapc1 (fun c => eB (decide (c ∈ (Str.ofString "abcdefghijklmnopqrstuvwxyz").cps.toList))) (by rw [Array.length_toList]; exact Nat.le_trans h8 (by decide)) (fun c _ S hS => ⟨c, rfl, hS _ rfl rfl⟩) ?_
        walk_at "dr"
        rw [unB_map]
        refine ⟨n, Int.le_refl _, k _ ?_⟩
        show _ = nameB z
        unfold nameB
        rw [decide_eq_true (show 1 ≤ z.cps.size from Int.ofNat_le.mp a1), decide_eq_true h8, List.all_map]
        rfl
      · have : ¬ 1 ≤ z.cps.size := fun h => a1 (Int.ofNat_le.mpr h)
        show nameB z = false
        unfold nameB
        rw [decide_eq_false this]
        simp
    | non => walk_at "dr"; exact no rfl
    | bl b => walk_at "dr"; exact no rfl
    | int b => walk_at "dr"; exact no rfl
    | byt b => exact absurd rfl h1
    | flt b => exact absurd rfl h1
    | ref b => exact absurd rfl h1
    | ty b => exact absurd rfl h1
  | ins C fs => exact absurd rfl h1
  | ob φ => exact absurd rfl h1
  | _ => walk_at "dr"; exact no rfl
/-! a promise with errors: what is told, or which error with which fields -/
def fspX0 {α β : Type} (A : α → List D) (Pr : α → Prop) (Po : α → β → Prop) (O : β → D) (PoX : α → Addr → List (Str × D) → Prop) : DSpX := fun _ ds n R RX => ∃ x, ds = A x ∧ Pr x ∧ (∀ y, Po x y → R (O y) n) ∧ ∀ C fs, PoX x C fs → RX C fs n
theorem fspX0.mon {α β : Type} {A : α → List D} {Pr : α → Prop} {Po : α → β → Prop} {O : β → D} {PoX : α → Addr → List (Str × D) → Prop} : MonX (fspX0 A Pr Po O PoX) := fun sp ds n R R' S S' h h' ⟨x, h2, h3, h5, h6⟩ => ⟨x, h2, h3, fun y hy => h _ _ (h5 y hy), fun C fs hc => h' _ _ _ (h6 C fs hc)⟩
theorem find_first {α : Type} {p : α → Bool} : ∀ {l : List α} {i : Nat} {x : α}, l[i]? = some x → p x = true → (∀ y ∈ l.take i, p y = false) → l.find? p = some x
  | [], i, x, h, _, _ => by simp at h
  | a :: l, 0, x, h, hp, _ => by
    cases Option.some.inj h
    rw [List.find?_cons, hp]
  | a :: l, i + 1, x, h, hp, ha => by
    rw [List.find?_cons, ha a (by rw [List.take_succ_cons]; exact List.mem_cons_self)]
    exact find_first (i := i) h hp fun y hy => ha y (by rw [List.take_succ_cons]; exact List.mem_cons_of_mem _ hy)
/-! ### small things -/
theorem putFA_len (f : Str) (d : D) : ∀ l : List (Str × D), (putFA f d l).length ≤ l.length + 1
  | [] => Nat.le_refl _
  | (g, e) :: r => by
    unfold putFA
    split
    · simp
    · have := putFA_len f d r
      simp only [List.length_cons]
      omega
theorem opt_some {o : Option D} {d : D} {R : D → Prop} (h : o = some d) (r : R d) : opt o R := by
  rw [h]
  exact r
theorem atI_0 {α : Type} (x : α) (l : List α) : atI (x :: l) 0 = some x := by
  unfold atI ixN
  rw [if_pos (by decide), if_pos (by rw [List.length_cons]; omega)]
  rfl
def isStD (zs : List Str) : D → Bool
  | .v (.str z) => decide (z ∈ zs)
  | _ => false
theorem cut_toD (xs : List D) (c : Nat) : cutD xs none (some ((c : Nat) : Int)) = xs.take c := by
  unfold cutD
  rw [HT.sIx_none, HT.sIx_nat, List.drop_zero, Nat.sub_zero]
  exact (List.take_eq_take_min).symm
theorem cut_fromD (xs : List D) (c : Nat) : cutD xs (some ((c : Nat) : Int)) none = xs.drop c := by
  unfold cutD
  rw [HT.sIx_none, HT.sIx_nat]
  by_cases h : c ≤ xs.length
  · rw [Nat.min_eq_left h]
    exact List.take_of_length_le (by rw [List.length_drop]; exact Nat.le_refl _)
  · rw [Nat.min_eq_right (by omega), Nat.sub_self, List.take_zero]
    exact (List.drop_eq_nil_of_le (by omega)).symm
/-! ### places and groups -/
theorem dat_flatL {G : Hp} : ∀ (xs : List V), DatL K G (xs.map D.v) xs
  | [] => rfl
  | x :: xs => ⟨x, xs, rfl, rfl, dat_flatL xs⟩
theorem dat_tupS {c : Addr} {xs : List V} (h : ∀ H : Hp, SqT K H c xs) : ∀ H, Dat K H (.ctup (xs.map D.v)) (.ref c) := fun H => ⟨c, xs, rfl, h H, dat_flatL xs⟩
theorem tab_GROUPS (T : Txt P w K mg) : TabD K w T.a_GROUPS l_GROUPS := ⟨⟨_, _, T.kd_GROUPS⟩, T.y_GROUPS, T.z_GROUPS⟩
def isPlcD : D → Bool
  | .v (.str z) => decide (z ∈ placesL)
  | _ => false
def isGrpD : D → Bool
  | .v (.str z) => grpB z
  | _ => false
theorem unV_strs : ∀ l : List Str, unV (l.map fun x => D.v (V.str x)) = some (l.map V.str)
  | [] => rfl
  | x :: l => by
    show (unV (l.map fun x => D.v (V.str x))).map (V.str x :: ·) = _
    rw [unV_strs l]
    rfl
theorem unV_places : unV [D.v (V.str "below"), .v (.str "-<"), .v (.str "-="), .v (.str "->"), .v (.str "<"), .v (.str "="), .v (.str ">"), .v (.str "+<"), .v (.str "+="), .v (.str "+>"), .v (.str "above")] = some (placesL.map V.str) := unV_strs placesL
/-- a text in a written list of texts -/
theorem in_strs {z : Str} {l : List Str} {neg : Bool} {R : D → Prop} {e : D} (he : seqD e = some (l.map fun x => D.v (V.str x))) (h : R (.v (.bl (nb neg (decide (z ∈ l)))))) : dIn neg (.v (.str z)) e R := by
  unfold dIn
  rw [he]
  show match D.v (V.str z), unV (l.map fun x => D.v (V.str x)) with
    | .v x, some ys => _
    | d, _ => _
  rw [unV_strs]
  exact ⟨rfl, flat_strs l, by rw [inV_strs]; exact h⟩
def spIsGroupD : DSp := fsp0 (fun d : D => [d]) (fun d => tyD d ≠ none) (fun d b => b = isGrpD d) eB
theorem mon_is_group : Mon spIsGroupD := fsp0.mon
theorem ups_is_group (_ : Txt P w K mg) : Ups K (up K spIsGroupD) spIsGroupD := .rfl
theorem ok_is_group (T : Txt P w K mg) : FnOk P w K mg base CX0 1 T.f_is_group T.d_is_group ["thing"] (up K spIsGroupD) := by
  refine T.F_is_group.ok sc_is_group (up_len fun sp ds n R h => ?_) (fun cdv A outer s H vs Q E hr h => ?_)
  · obtain ⟨_, rfl, _⟩ := h
    rfl
  obtain ⟨sp, F, ds, n, hs, src, L, d, rfl, h1, k⟩ := h
  refine d_run (N := ["thing"]) (sl := [Sl.val _]) (dss_one (ds_ret (de_and (de_isi .str (by decide) (fun _ => rfl) (fun _ => T.m_isinstance) rfl (fun _ => rfl) (fun _ => T.m_str) (by decide +kernel) (dbv 0)) (de_one (de_or (de_cmp (dop_in (fun _ => hr65 hr)) (dbv 0) (DX.b (de_globT (fun _ => rfl) (fun _ => T.m_PLACES) (dat_tupS T.q_PLACES))) (by rfl)) (de_one (de_inG (tab_GROUPS T) (fun _ => rfl) (fun _ => rfl) (fun _ => T.m_GROUPS) (dbv 0)))))))) hs src L rfl ?_
  (rcases d with xTy | _ | _ | _ | _ | _ | ⟨_, _⟩ | _; (rcases xTy with _ | _ | _ | _ | _ | _ | _ | _); all_goals (try exact absurd rfl h1))
  case v.str z =>
    walk_at "dr"
    refine in_strs (l := placesL) rfl (bif_d (fun a1 => ⟨n, Int.le_refl _, k _ ?_⟩) fun a1 => ⟨n, Int.le_refl _, k _ ?_⟩)
    · exact (decide_eq_true (Or.inl a1)).symm
    · exact decide_eq_decide.mpr ⟨Or.inr, fun q => q.resolve_left a1⟩
  all_goals walk_at "dr"
  all_goals exact ⟨n, Int.le_refl _, k _ rfl⟩
/-- of a list or tuple -/
def areGrpD (d : D) : Bool := match seqD d with
  | some es => !es.isEmpty && es.all isGrpD
  | none => false
def okSeq (d : D) : Prop := tyD d ≠ none ∧ ∀ es, seqD d = some es → es.length ≤ sizeLine ∧ ∀ e ∈ es, tyD e ≠ none
def spAreGroupsD : DSp := fsp0 (fun d : D => [d]) okSeq (fun d b => b = areGrpD d) eB
theorem mon_are_groups : Mon spAreGroupsD := fsp0.mon
theorem ups_are_groups (_ : Txt P w K mg) : Ups K (up K spAreGroupsD) spAreGroupsD := .rfl
theorem ok_are_groups (T : Txt P w K mg) : FnOk P w K mg base CX0 2 T.f_are_groups T.d_are_groups ["things"] (up K spAreGroupsD) := by
  refine T.F_are_groups.ok sc_are_groups (up_len fun sp ds n R h => ?_) (fun cdv A outer s H vs Q E hr h => ?_)
  · obtain ⟨_, rfl, _⟩ := h
    rfl
  obtain ⟨sp, F, ds, n, hs, src, L, d, rfl, ⟨h1, h2⟩, k⟩ := h
  refine d_run (N := ["things", "thing"]) (sl := [Sl.val _, Sl.emp]) (dss_cons (ds_if (DW.pt (dw_or (dt_not (dt_val (de_isi2 .lst .tup (by decide) (by decide) (fun _ => rfl) (fun _ => T.m_isinstance) rfl (fun _ => rfl) (fun _ => T.m_list) (by decide +kernel) (fun _ => rfl) (fun _ => T.m_tuple) (by decide +kernel) (dbv 0)))) (dw_or1 (dt_cmp (dop_eq (fun _ => hr.units)) (DX.b (de_callB dc_len (fun _ => by rfl) (fun _ => T.m_len) (by decide +kernel) (dab_cons (dbv 0) dab_nil))) (DX.b de_int) (nomark _)))))
      (dss_one (ds_ret de_bl))
      dss_nil)
      (dss_one (ds_ret (de_callB (dc_all (fun _ => rfl)) (fun _ => by rfl) (fun _ => T.m_all) (by decide +kernel) (dab_cons (DX.b (DO.x (do_lc (own := [("thing", 1)]) (fun _ => rfl) (fun _ => sc_are_groups.nd) (di_seq (dv 0)) (fun _ => blkOk_by (own := [("thing", 1)]) (N := ["things", "thing"]) (sc := defScope s_are_groups) (by decide +kernel)) (dg_name (i := 1) (fun _ => sc_are_groups.nd) (fun _ => rfl) (fun _ => Or.inl rfl)) dts_nil (de_call0 mon_is_group (ups_is_group T) (fun _ => ok_is_group T) (fun _ => (hr.mono (by decide))) (fun _ => by rfl) (fun _ => T.m_is_group) (fun _ => T.F_is_group.kp) (fun _ => T.b_is_group) (fun _ => pass0) (da_cons (dv 1) da_nil))))) dab_nil))))) hs src L rfl ?_
  have no : areGrpD d = false → ∃ m, n ≤ m ∧ Post K sp F H Q (D.v (V.bl false)) m := fun e => ⟨n, Int.le_refl _, k false e.symm⟩
  have emp : ∀ {d es}, seqD d = some es → V.int (es.length : Nat) = V.int 0 → areGrpD d = false := fun {d es} e q => by
    unfold areGrpD
    rw [e]
    injection q with q
    rw [List.length_eq_zero_iff.mp (by omega : es.length = 0)]
    rfl
  have fin : ∀ {d es}, seqD d = some es → V.int (es.length : Nat) ≠ V.int 0 → es.all isGrpD = areGrpD d := fun {d es} e q => by
    unfold areGrpD
    rw [e]
    cases es with
    | nil => exact absurd rfl q
    | cons a r => rfl
  (rcases d with xTy | _ | _ | _ | _ | _ | ⟨_, _⟩ | _; (rcases xTy with _ | _ | _ | _ | _ | _ | _ | _); all_goals (try exact absurd rfl h1))
  all_goals walk_at "dr"
  all_goals first
    | exact no rfl
    | skip
  all_goals
    refine ⟨rfl, bif_d (fun a1 => no (emp rfl a1)) fun a1 => ?_⟩
    refine lc_map1 (fun d => eB (isGrpD d)) (h2 _ rfl).1 (fun d hd S hS => ⟨d, rfl, (h2 _ rfl).2 d hd, fun b hb => ?_⟩) ?_
    · rw [hb]
      exact hS _ rfl rfl
    · rw [unB_map]
      refine ⟨n, Int.le_refl _, k _ ?_⟩
      rw [List.all_map]
      exact fin rfl a1
/-! ### things of use -/
/-- a thing that may be asked for anything -/
def okA (d : D) : Prop := okT d ∧ okSeq d
def strsOf (g : D) : List Str := match seqD g with
  | some es => (unS es).getD []
  | none => []
def tupOf : D → D
  | .lst es => .tup es
  | d => d
theorem isNameD_str {d : D} (h : isNameD d = true) : ∃ z, d = eS z ∧ nameB z = true := by
  unfold isNameD at h
  split at h
  · exact ⟨_, rfl, h⟩
  · cases h
theorem grp_strs : ∀ {es : List D}, es.all isGrpD = true → ∃ gs : List Str, es = gs.map eS ∧ ∀ g ∈ gs, grpB g = true
  | [], _ => ⟨[], rfl, fun _ h => nomatch h⟩
  | d :: es, h => by
    rw [List.all_cons, Bool.and_eq_true] at h
    obtain ⟨gs, e, hg⟩ := grp_strs h.2
    have h1 := h.1
    unfold isGrpD at h1
    split at h1
    · rename_i z
      exact ⟨z :: gs, by rw [e]; rfl, fun g hg' => (List.mem_cons.mp hg').elim (fun q => by rw [q]; exact h1) (hg g)⟩
    · cases h1
/-- the keys of a dict of states -/
def stK (zs : List Str) : List (Key × D) := zs.map fun z => (Sum.inr z, eB true)
theorem stK_put (zs : List Str) (z : Str) : putA (stK zs) (Sum.inr z) (eB true) = stK (addS zs z) := by
  unfold putA addS
  have e : ((stK zs).any fun kv => decide (kv.1 = (Sum.inr z : Key))) = decide (z ∈ zs) := by
    unfold stK
    induction zs with
    | nil => rfl
    | cons a r ih =>
      rw [List.map_cons, List.any_cons, ih]
      by_cases h : a = z
      · subst h
        simp
      · have h1 : ¬ (Sum.inr a : Key) = Sum.inr z := fun q => h (by injection q)
        have h2 : ¬ z = a := fun q => h q.symm
        simp [h1, h2]
  rw [e]
  by_cases h : z ∈ zs
  · rw [decide_eq_true h, if_pos rfl, if_pos h]
    unfold stK
    rw [List.map_map]
    refine List.map_congr_left fun a _ => ?_
    show (if (Sum.inr a : Key) = Sum.inr z then _ else _) = _
    split <;> rfl
  · rw [decide_eq_false h, if_neg Bool.false_ne_true, if_neg h]
    unfold stK
    rw [List.map_append]
    rfl
theorem stK_len (zs : List Str) : (stK zs).length = zs.length := by
  unfold stK
  rw [List.length_map]
theorem stK_keys (zs : List Str) : ((stK zs).map fun p => kD p.1) = zs.map eS := by
  unfold stK
  rw [List.map_map]
  rfl
def rulesD (d : D) : List D := (seqD d).getD []
--SPLIT
/-! ### watches -/
def isStarD : D → Bool
  | .v (.str z) => decide (z = "*")
  | _ => false
def isWordD (d : D) : Bool := isNameD d || isStarD d
def areWordsD (d : D) : Bool := match seqD d with
  | some es => !es.isEmpty && es.all isWordD
  | none => false
def okSeqT (d : D) : Prop := tyD d ≠ none ∧ ∀ es, seqD d = some es → es.length ≤ sizeLine ∧ ∀ e ∈ es, okT e
def spAreWordsD : DSp := fsp0 (fun d : D => [d]) okSeqT (fun d b => b = areWordsD d) eB
theorem mon_are_words : Mon spAreWordsD := fsp0.mon
theorem ups_are_words (_ : Txt P w K mg) : Ups K (up K spAreWordsD) spAreWordsD := .rfl
theorem ok_are_words (T : Txt P w K mg) : FnOk P w K mg base CX0 2 T.f_are_words T.d_are_words ["things"] (up K spAreWordsD) := by
  refine T.F_are_words.ok sc_are_words (up_len fun sp ds n R h => ?_) (fun cdv A outer s H vs Q E hr h => ?_)
  · obtain ⟨_, rfl, _⟩ := h
    rfl
  obtain ⟨sp, F, ds, n, hs, src, L, d, rfl, ⟨h1, h2⟩, k⟩ := h
  refine d_run (N := ["things", "thing"]) (sl := [Sl.val _, Sl.emp]) (dss_cons (ds_if (DW.pt (dw_or (dt_not (dt_val (de_isi2 .lst .tup (by decide) (by decide) (fun _ => rfl) (fun _ => T.m_isinstance) rfl (fun _ => rfl) (fun _ => T.m_list) (by decide +kernel) (fun _ => rfl) (fun _ => T.m_tuple) (by decide +kernel) (dbv 0)))) (dw_or1 (dt_cmp (dop_eq (fun _ => hr.units)) (DX.b (de_callB dc_len (fun _ => by rfl) (fun _ => T.m_len) (by decide +kernel) (dab_cons (dbv 0) dab_nil))) (DX.b de_int) (nomark _)))))
      (dss_one (ds_ret de_bl))
      dss_nil)
      (dss_one (ds_ret (de_callB (dc_all (fun _ => rfl)) (fun _ => by rfl) (fun _ => T.m_all) (by decide +kernel) (dab_cons (DX.b (DO.x (do_lc (own := [("thing", 1)]) (fun _ => rfl) (fun _ => sc_are_words.nd) (di_seq (dv 0)) (fun _ => blkOk_by (own := [("thing", 1)]) (N := ["things", "thing"]) (sc := defScope s_are_words) (by decide +kernel)) (dg_name (i := 1) (fun _ => sc_are_words.nd) (fun _ => rfl) (fun _ => Or.inl rfl)) dts_nil (de_or (de_call0 mon_is_name (ups_is_name T) (fun _ => ok_is_name T) (fun _ => (hr.mono (by decide))) (fun _ => by rfl) (fun _ => T.m_is_name) (fun _ => T.F_is_name.kp) (fun _ => T.b_is_name) (fun _ => pass0) (da_cons (dv 1) da_nil)) (de_one (de_and (de_isi .str (by decide) (fun _ => rfl) (fun _ => T.m_isinstance) rfl (fun _ => rfl) (fun _ => T.m_str) (by decide +kernel) (dbv 1)) (de_one (de_cmp (dop_eq (fun _ => hr.units)) (dbv 1) (DX.b (de_glob (v := .str "*") (fun _ => rfl) (fun _ => T.m_ANY_WORD) ⟨_, rfl⟩)) (nomark _))))))))) dab_nil))))) hs src L rfl ?_
  have no : areWordsD d = false → ∃ m, n ≤ m ∧ Post K sp F H Q (D.v (V.bl false)) m := fun e => ⟨n, Int.le_refl _, k false e.symm⟩
  have emp : ∀ {d es}, seqD d = some es → V.int (es.length : Nat) = V.int 0 → areWordsD d = false := fun {d es} e q => by
    unfold areWordsD
    rw [e]
    injection q with q
    rw [List.length_eq_zero_iff.mp (by omega : es.length = 0)]
    rfl
  have fin : ∀ {d es}, seqD d = some es → V.int (es.length : Nat) ≠ V.int 0 → es.all isWordD = areWordsD d := fun {d es} e q => by
    unfold areWordsD
    rw [e]
    cases es with
    | nil => exact absurd rfl q
    | cons a r => rfl
  have one : ∀ d, okT d → ∀ S : D → AS → Prop, ∀ a, S (eB (isWordD d)) a → spIsNameD none [d] 0 fun x _ => asB x fun b => bIf b (S (eB true) a) (match tyD d with | some t => bIf (t.sub .str) (dEqB false d (eS "*") fun d => S d a) (S (eB false) a) | none => False) := fun d hd S a hS => by
    refine ⟨d, rfl, hd, fun b hb => bif_b (fun e => ?_) fun e => ?_⟩
    · have : isWordD d = true := by
        unfold isWordD
        rw [← hb, e]
        rfl
      rw [this] at hS
      exact hS
    · have un : isWordD d = isStarD d := by
        unfold isWordD
        rw [← hb, e]
        rfl
      rw [un] at hS
      have h2 := hd.1
      (rcases d with xTy | _ | _ | _ | _ | _ | ⟨_, _⟩ | _; (rcases xTy with _ | _ | _ | _ | _ | _ | _ | _); all_goals (try exact absurd rfl h2))
      case v.str z =>
        walk_at "dr"
        refine ⟨rfl, ?_⟩
        have : decide (V.str z = V.str "*") = isStarD (eS z) := decide_eq_decide.mpr ⟨fun q => by injection q, fun q => by rw [q]⟩
        rw [this]
        exact hS
      all_goals exact hS
  (rcases d with xTy | _ | _ | _ | _ | _ | ⟨_, _⟩ | _; (rcases xTy with _ | _ | _ | _ | _ | _ | _ | _); all_goals (try exact absurd rfl h1))
  all_goals walk_at "dr"
  all_goals first
    | exact no rfl
    | skip
  all_goals
    refine ⟨rfl, bif_d (fun a1 => no (emp rfl a1)) fun a1 => ?_⟩
    refine lc_map1 (fun d => eB (isWordD d)) (h2 _ rfl).1 (fun d hd S hS => ?_) ?_
    · exact one d ((h2 _ rfl).2 d hd) S ⟨[.val _, .val d], n, sp⟩ (hS _ rfl rfl)
    · walk_at "dr"
      rw [unB_map]
      refine ⟨n, Int.le_refl _, k _ ?_⟩
      rw [List.all_map]
      exact fin rfl a1
def isWRule (d : D) : Bool := match seqD d with
  | some [st, gs, ws, nx] => isNameD st && areGrpD gs && areWordsD ws && isNameD nx
  | _ => false
/-- a thing that may be asked for anything -/
def okW (d : D) : Prop := okT d ∧ ∀ es, seqD d = some es → es.length ≤ sizeLine ∧ ∀ e ∈ es, okT e
def okWRule (d : D) : Prop := tyD d ≠ none ∧ ∀ es, seqD d = some es → ∀ e ∈ es, okW e
def spIsWRuleD : DSp := fsp0 (fun d : D => [d]) okWRule (fun d b => b = isWRule d) eB
theorem mon_is_rule : Mon spIsWRuleD := fsp0.mon
theorem ups_is_rule (_ : Txt P w K mg) : Ups K (up K spIsWRuleD) spIsWRuleD := .rfl
theorem ok_is_rule (T : Txt P w K mg) : FnOk P w K mg base CX0 3 T.f_is_rule T.d_is_rule ["thing"] (up K spIsWRuleD) := by
  refine T.F_is_rule.ok sc_is_rule (up_len fun sp ds n R h => ?_) (fun cdv A outer s H vs Q E hr h => ?_)
  · obtain ⟨_, rfl, _⟩ := h
    rfl
  obtain ⟨sp, F, ds, n, hs, src, L, d, rfl, ⟨h1, h2⟩, k⟩ := h
  refine d_run (N := ["thing", "state", "groups", "words", "later"]) (sl := [Sl.val _, Sl.emp, Sl.emp, Sl.emp, Sl.emp]) (dss_cons (ds_if (DW.pt (dw_or (dt_not (dt_val (de_isi2 .lst .tup (by decide) (by decide) (fun _ => rfl) (fun _ => T.m_isinstance) rfl (fun _ => rfl) (fun _ => T.m_list) (by decide +kernel) (fun _ => rfl) (fun _ => T.m_tuple) (by decide +kernel) (dbv 0)))) (dw_or1 (dt_cmp (dop_ne (fun _ => hr.units)) (DX.b (de_callB dc_len (fun _ => by rfl) (fun _ => T.m_len) (by decide +kernel) (dab_cons (dbv 0) dab_nil))) (DX.b de_int) (nomark _)))))
      (dss_one (ds_ret de_bl))
      dss_nil)
      (dss_cons (ds_asg (dv 0) (dg_seq (fun _ => rfl) (dgs_cons (dg_name (i := 1) (fun _ => sc_is_rule.nd) (fun _ => rfl) (fun _ => Or.inl rfl)) (dgs_cons (dg_name (i := 2) (fun _ => sc_is_rule.nd) (fun _ => rfl) (fun _ => Or.inl rfl)) (dgs_cons (dg_name (i := 3) (fun _ => sc_is_rule.nd) (fun _ => rfl) (fun _ => Or.inl rfl)) (dgs_cons (dg_name (i := 4) (fun _ => sc_is_rule.nd) (fun _ => rfl) (fun _ => Or.inl rfl)) dgs_nil))))))
      (dss_one (ds_ret (de_and (de_call0 mon_is_name (ups_is_name T) (fun _ => ok_is_name T) (fun _ => (hr.mono (by decide))) (fun _ => by rfl) (fun _ => T.m_is_name) (fun _ => T.F_is_name.kp) (fun _ => T.b_is_name) (fun _ => pass0) (da_cons (dv 1) da_nil)) (de_and (de_call0 mon_are_groups (ups_are_groups T) (fun _ => ok_are_groups T) (fun _ => (hr.mono (by decide))) (fun _ => by rfl) (fun _ => T.m_are_groups) (fun _ => T.F_are_groups.kp) (fun _ => T.b_are_groups) (fun _ => pass0) (da_cons (dv 2) da_nil)) (de_and (de_call0 mon_are_words (ups_are_words T) (fun _ => ok_are_words T) (fun _ => (hr.mono (by decide))) (fun _ => by rfl) (fun _ => T.m_are_words) (fun _ => T.F_are_words.kp) (fun _ => T.b_are_words) (fun _ => pass0) (da_cons (dv 3) da_nil)) (de_one (de_call0 mon_is_name (ups_is_name T) (fun _ => ok_is_name T) (fun _ => (hr.mono (by decide))) (fun _ => by rfl) (fun _ => T.m_is_name) (fun _ => T.F_is_name.kp) (fun _ => T.b_is_name) (fun _ => pass0) (da_cons (dv 4) da_nil)))))))))) hs src L rfl ?_
  have no : isWRule d = false → ∃ m, n ≤ m ∧ Post K sp F H Q (D.v (V.bl false)) m := fun e => ⟨n, Int.le_refl _, k false e.symm⟩
  have yes : ∀ b, b = isWRule d → ∃ m, n ≤ m ∧ Post K sp F H Q (D.v (V.bl b)) m := fun b e => ⟨n, Int.le_refl _, k b e⟩
  have sh : ∀ ds : List D, seqD d = some ds → V.int (ds.length : Nat) ≠ V.int 4 → isWRule d = false := by
    intro ds e hl
    unfold isWRule
    rw [e]
    match ds, hl with
    | [], _ => rfl
    | [_], _ => rfl
    | [_, _], _ => rfl
    | [_, _, _], _ => rfl
    | [_, _, _, _], hl => exact absurd rfl hl
    | _ :: _ :: _ :: _ :: _ :: _, _ => rfl
  have four : ∀ ds : List D, V.int (ds.length : Nat) = V.int 4 → ∃ a b c d, ds = [a, b, c, d] := by
    intro ds hl
    injection hl with hl
    match ds, hl with
    | [a, b, c, d], _ => exact ⟨a, b, c, d, rfl⟩
    | [], hl => exact absurd hl (by simp)
    | [_], hl => exact absurd hl (by simp)
    | [_, _], hl => exact absurd hl (by simp)
    | [_, _, _], hl => exact absurd hl (by simp)
    | _ :: _ :: _ :: _ :: _ :: r, hl => exact absurd hl (by simp only [List.length_cons]; omega)
  (rcases d with xTy | _ | _ | _ | _ | _ | ⟨_, _⟩ | _; (rcases xTy with _ | _ | _ | _ | _ | _ | _ | _); all_goals (try exact absurd rfl h1))
  all_goals walk_at "dr"
  all_goals first
    | exact no rfl
    | skip
  all_goals
    refine ⟨rfl, bif_nd (fun a1 => no (sh _ rfl a1)) fun a1 => ?_⟩
    obtain ⟨a, b, c, d, rfl⟩ := four _ a1
    have a0 := h2 _ rfl a (by simp)
    have a1 := h2 _ rfl b (by simp)
    have a2 := h2 _ rfl c (by simp)
    have a3 := h2 _ rfl d (by simp)
    have un := fun (x y : D) (e : x = y) => congrArg isWRule e
    refine ⟨rfl, a, rfl, a0.1, fun b1 e1 => bif_b (fun t1 => ⟨b, rfl, ⟨a1.1.1, fun es he => ⟨(a1.2 es he).1, fun e hh => ((a1.2 es he).2 e hh).1⟩⟩, fun b2 e2 => bif_b (fun t2 => ⟨c, rfl, ⟨a2.1.1, a2.2⟩, fun b3 e3 => bif_b (fun t3 => ⟨d, rfl, a3.1, fun b4 e4 => yes _ ?_⟩) fun t3 => no ?_⟩) fun t2 => no ?_⟩) fun t1 => no ?_⟩
    all_goals first
      | show b4 = (isNameD a && areGrpD b && areWordsD c && isNameD d)
      | show (isNameD a && areGrpD b && areWordsD c && isNameD d) = false
    all_goals simp_all
structure WRul where
  st : Str
  gs : List Str
  ws : List Str
  nx : Str
def wRulD (d : D) : WRul := match seqD d with
  | some [.v (.str st), g, ws, .v (.str nx)] => ⟨st, strsOf g, strsOf ws, nx⟩
  | _ => ⟨"", [], [], ""⟩
def asRul (r : WRul) : Rul := ⟨r.st, r.gs, "", false, r.nx⟩
def wStates (rs : List WRul) : List Str := statesOf (rs.map asRul)
/-- a rule as it is kept -/
def chkW (d : D) : D := match seqD d with
  | some [st, g, ws, nx] => .tup [st, tupOf g, tupOf ws, nx]
  | _ => .tup []
def errAtW (rds : List D) (i : Nat) : Bool := decide (20 ≤ i) || !isWRule (rds.getD i (.v .non)) || decide (6 < (wStates ((rds.take (i + 1)).map wRulD)).length)
def watchErr (rds : List D) : Option Nat := if rds = [] then some 1 else ((List.range rds.length).find? (errAtW rds)).map (· + 1)
theorem word_strs : ∀ {es : List D}, es.all isWordD = true → ∃ gs : List Str, es = gs.map eS
  | [], _ => ⟨[], rfl⟩
  | d :: es, h => by
    rw [List.all_cons, Bool.and_eq_true] at h
    obtain ⟨gs, e⟩ := word_strs h.2
    have h1 := h.1
    unfold isWordD at h1
    rw [Bool.or_eq_true] at h1
    rcases h1 with h1 | h1
    · obtain ⟨z, rfl, _⟩ := isNameD_str h1
      exact ⟨z :: gs, by rw [e]; rfl⟩
    · unfold isStarD at h1
      split at h1
      · rename_i z
        exact ⟨z :: gs, by rw [e]; rfl⟩
      · cases h1
/-- a right rule, in parts -/
theorem isWRule_of {d : D} (h : isWRule d = true) : ∃ (st nx : Str) (g v : D) (gs ws : List Str), seqD d = some [eS st, g, v, eS nx] ∧ seqD g = some (gs.map eS) ∧ seqD v = some (ws.map eS) ∧ nameB st = true ∧ nameB nx = true ∧ wRulD d = ⟨st, gs, ws, nx⟩ := by
  unfold isWRule at h
  split at h
  · rename_i a b c f hs
    simp only [Bool.and_eq_true] at h
    obtain ⟨⟨⟨h1, h2⟩, h3⟩, h5⟩ := h
    obtain ⟨st, rfl, n1⟩ := isNameD_str h1
    obtain ⟨nx, rfl, n3⟩ := isNameD_str h5
    unfold areGrpD at h2
    split at h2
    · rename_i es hg
      rw [Bool.and_eq_true] at h2
      obtain ⟨gs, rfl, hgs⟩ := grp_strs h2.2
      unfold areWordsD at h3
      split at h3
      · rename_i fs hw
        rw [Bool.and_eq_true] at h3
        obtain ⟨ws, rfl⟩ := word_strs h3.2
        refine ⟨st, nx, b, c, gs, ws, hs, hg, hw, n1, n3, ?_⟩
        unfold wRulD
        rw [hs]
        show WRul.mk st (strsOf b) (strsOf c) nx = _
        unfold strsOf
        rw [hg, hw]
        show WRul.mk st ((unS (gs.map eS)).getD []) ((unS (ws.map eS)).getD []) nx = _
        rw [unS_map, unS_map]
        rfl
      · cases h3
    · cases h2
  · cases h
def okWRules (d : D) : Prop := ∃ rds, seqD d = some rds ∧ ∀ r ∈ rds, okWRule r
def spCheckedWD (C : Addr) : DSpX := fspX0 (fun d : D => [d]) okWRules (fun d y => watchErr (rulesD d) = none ∧ y = .tup [.tup ((rulesD d).map chkW), .ftup ((wStates ((rulesD d).map wRulD)).map eS)]) id (fun d C' fs => ∃ i, watchErr (rulesD d) = some i ∧ C' = C ∧ fs = [(("line" : Str), eI (i : Nat))])
theorem mon_checked_rules {C : Addr} : MonX (spCheckedWD C) := fspX0.mon
theorem ups_checked_rules (T : Txt P w K mg) : UpsX K (upX K (spCheckedWD T.C_BadWatch)) (spCheckedWD T.C_BadWatch) := .rfl
theorem wStates_more {rds : List D} {i : Nat} {x : D} (hx : rds[i]? = some x) : wStates ((rds.take (i + 1)).map wRulD) = addS (addS (wStates ((rds.take i).map wRulD)) (wRulD x).st) (wRulD x).nx := by
  unfold wStates statesOf
  rw [take_more hx, List.map_append, List.map_append, List.foldl_append]
  rfl
theorem ok_checked_rules (T : Txt P w K mg) : FnOk P w K mg base (L2.CX P w) 4 T.f_checked_rules T.d_checked_rules ["rules"] (upX K (spCheckedWD T.C_BadWatch)) := by
  refine T.F_checked_rules.okX sc_checked_rules (upX_len fun sp ds n R RX h => ?_) (fun cdv A outer s H vs Q E hr h => ?_)
  · obtain ⟨_, rfl, _⟩ := h
    rfl
  obtain ⟨sp, F, ds, n, hs, src, L, d, rfl, ⟨rds, h1, h2⟩, k, kx⟩ := h
  refine d_runX (E := E) (N := ["rules", "checked", "states", "line", "rule", "state", "groups", "words", "later"]) (sl := [Sl.val _, Sl.emp, Sl.emp, Sl.emp, Sl.emp, Sl.emp, Sl.emp, Sl.emp, Sl.emp]) (dss_cons (ds_setO (i := 1) (fun _ => sc_checked_rules.nd) (fun _ => rfl) (fun _ => Or.inl rfl) (do_lst da_nil))
      (dss_cons (ds_setO (i := 2) (fun _ => sc_checked_rules.nd) (fun _ => rfl) (fun _ => Or.inl rfl) do_dnewK)
      (dss_cons (ds_for (fun _ => PassesOwn.leaving) (fun _ => rfl) (di_enumS (fun _ => by rfl) (fun _ => T.m_enumerate) (da_cons (dv 0) da_nil) de_int) (dg_tup (fun _ => rfl) (dgs_cons (dg_name (i := 3) (fun _ => sc_checked_rules.nd) (fun _ => rfl) (fun _ => Or.inl rfl)) (dgs_cons (dg_name (i := 4) (fun _ => sc_checked_rules.nd) (fun _ => rfl) (fun _ => Or.inl rfl)) dgs_nil)))
      (dss_cons (ds_if (DW.pt (dw_or (dt_cmp dop_gt (dbv 3) (DX.b (de_glob (v := .int 20) (fun _ => rfl) (fun _ => T.m_MOST_RULES) ⟨_, rfl⟩)) (nomark _)) (dw_or1 (dt_not (dt_val (de_call0 mon_is_rule (ups_is_rule T) (fun _ => ok_is_rule T) (fun _ => (hr.mono (by decide))) (fun _ => by rfl) (fun _ => T.m_is_rule) (fun _ => T.F_is_rule.kp) (fun _ => T.b_is_rule) (fun _ => pass0) (da_cons (dv 4) da_nil)))))))
      (dss_one (ds_raise (fun _ => rfl) (fun _ => T.er_BadWatch) (fun _ => T.fn_BadWatch) (fun _ => hr) (fun _ => takes_of rfl rfl rfl rfl) (da_cons (dv 3) da_nil) (fun _ => by rfl)))
      dss_nil)
      (dss_cons (ds_asg (dv 4) (dg_seq (fun _ => rfl) (dgs_cons (dg_name (i := 5) (fun _ => sc_checked_rules.nd) (fun _ => rfl) (fun _ => Or.inl rfl)) (dgs_cons (dg_name (i := 6) (fun _ => sc_checked_rules.nd) (fun _ => rfl) (fun _ => Or.inl rfl)) (dgs_cons (dg_name (i := 7) (fun _ => sc_checked_rules.nd) (fun _ => rfl) (fun _ => Or.inl rfl)) (dgs_cons (dg_name (i := 8) (fun _ => sc_checked_rules.nd) (fun _ => rfl) (fun _ => Or.inl rfl)) dgs_nil))))))
      (dss_cons (ds_dput (i := 2) (fun _ => hu_of hr) (fun _ => pv 2) (dbv 5) de_bl)
      (dss_cons (ds_dput (i := 2) (fun _ => hu_of hr) (fun _ => pv 2) (dbv 8) de_bl)
      (dss_cons (ds_if (dt_cmp dop_gt (DX.b (de_callB dc_len (fun _ => by rfl) (fun _ => T.m_len) (by decide +kernel) (dab_cons (dbv 2) dab_nil))) (DX.b (de_glob (v := .int 6) (fun _ => rfl) (fun _ => T.m_MOST_STATES) ⟨_, rfl⟩)) (nomark _))
      (dss_one (ds_raise (fun _ => rfl) (fun _ => T.er_BadWatch) (fun _ => T.fn_BadWatch) (fun _ => hr) (fun _ => takes_of rfl rfl rfl rfl) (da_cons (dv 3) da_nil) (fun _ => by rfl)))
      dss_nil)
      (dss_one (ds_own (i := 1) PySem.F.plainAttrs_list PySem.F.slot_list_append PySem.F.type_list_append (fun _ => mt_append) lm_append (fun _ => pv 1) (da_cons (de_tup (da_cons (dv 5) (da_cons (de_tuple (fun _ => by rfl) (fun _ => T.m_tuple) (by decide +kernel) (da_cons (dv 6) da_nil)) (da_cons (de_tuple (fun _ => by rfl) (fun _ => T.m_tuple) (by decide +kernel) (da_cons (dv 7) da_nil)) (da_cons (dv 8) da_nil))))) da_nil)))))))))
      (dss_cons (ds_if (dt_cmp (dop_eq (fun _ => hr.units)) (DX.b (de_callB dc_len (fun _ => by rfl) (fun _ => T.m_len) (by decide +kernel) (dab_cons (dbv 1) dab_nil))) (DX.b de_int) (nomark _))
      (dss_one (ds_raise (fun _ => rfl) (fun _ => T.er_BadWatch) (fun _ => T.fn_BadWatch) (fun _ => hr) (fun _ => takes_of rfl rfl rfl rfl) (da_cons de_int da_nil) (fun _ => by rfl)))
      dss_nil)
      (dss_one (ds_ret (de_tup (da_cons (de_tuple (fun _ => by rfl) (fun _ => T.m_tuple) (by decide +kernel) (da_cons (dv 1) da_nil)) (da_cons (de_callTy (dc_tupleD (fun _ => rfl)) (fun _ => by rfl) (fun _ => T.m_tuple) (by decide +kernel) (dab_cons (dbv 2) dab_nil)) da_nil))))))))) hs src L rfl ?_
  have er : rulesD d = rds := by unfold rulesD; rw [h1]; rfl
  have kk : watchErr rds = none → Post K sp F H Q (.tup [.tup (rds.map chkW), .ftup ((wStates (rds.map wRulD)).map eS)]) n := fun h => k _ ⟨by rw [er]; exact h, by rw [er]⟩
  have kb : ∀ i : Nat, watchErr rds = some i → PostX K sp F H E T.C_BadWatch [("line", eI i)] n := fun i h => kx _ _ ⟨i, by rw [er]; exact h, rfl, rfl⟩
  clear k kx
  walk_at "dr"
  rw [h1]
  refine ⟨by decide, ⟨by decide, by decide⟩, dLoop_inv (fun i a => (∃ v3 v4 v5 v6 v7 v8, a = ⟨[.val d, .own (.lst ((rds.take i).map chkW)), .own (.dK (stK (wStates ((rds.take i).map wRulD)))), v3, v4, v5, v6, v7, v8], n, sp⟩) ∧ ∀ j < i, errAtW rds j = false) ⟨⟨_, _, _, _, _, _, rfl⟩, fun _ h => absurd h (Nat.not_lt_zero _)⟩ ?_ ?_⟩
  · rintro i x a N hi ⟨⟨v3, v4, v5, v6, v7, v8, rfl⟩, hall⟩ hN
    obtain ⟨x, hx, rfl⟩ := enumI_at hi
    have hil : i < rds.length := (List.getElem?_eq_some_iff.mp hx).1
    have hg : rds.getD i (.v .non) = x := by rw [List.getD_eq_getElem?_getD, hx]; rfl
    have bad : errAtW rds i = true → PostX K sp F H E T.C_BadWatch [(("line" : Str), D.v (V.int (1 + (i : Nat))))] n := fun e => by
      have := kb (i + 1) (by
        unfold watchErr
        rw [if_neg (fun z => by rw [z] at hil; cases hil), find_first (i := i) (by rw [List.getElem?_range hil]) e fun j hj => hall j (by rw [List.take_range] at hj; have := List.mem_range.mp hj; omega)]
        rfl)
      rw [show ((i + 1 : Nat) : Int) = 1 + (i : Nat) by omega] at this
      exact this
    walk_at "dr"
    refine ⟨rfl, bif_d (fun a1 => bad ?_) fun a1 => ⟨x, rfl, h2 x (List.mem_of_getElem? hx), fun b hb => bif_nb (fun e => bad ?_) fun e => ?_⟩⟩
    · unfold errAtW
      rw [decide_eq_true (by omega)]
      rfl
    · unfold errAtW
      rw [hg, ← hb, e]
      simp
    · obtain ⟨st, nx, g, v, gs, ws, q1, q2, q3, q4, q5, q6⟩ := isWRule_of (hb.symm.trans e)
      rw [q1]
      walk_at "dr"
      rw [stK_put]
      walk_at "dr"
      rw [stK_put, stK_len, stK_len, stK_len]
      have mo := wStates_more hx
      rw [q6] at mo
      replace mo : wStates ((rds.take (i + 1)).map wRulD) = addS (addS (wStates ((rds.take i).map wRulD)) st) nx := mo
      have small : ∀ m : Nat, m ≤ 100 → m < sizeLine := fun m h => Nat.lt_of_le_of_lt h (by decide)
      have hst : (wStates ((rds.take i).map wRulD)).length ≤ 6 := by
        by_cases hi0 : i = 0
        · subst hi0
          exact Nat.zero_le _
        · have := hall (i - 1) (by omega)
          unfold errAtW at this
          rw [Bool.or_eq_false_iff] at this
          have := of_decide_eq_false this.2
          rw [show i - 1 + 1 = i by omega] at this
          omega
      have l1 := addS_len (wStates ((rds.take i).map wRulD)) st
      have l2 := addS_len (addS (wStates ((rds.take i).map wRulD)) st) nx
      have i40 : i < 20 := by omega
      have ck : chkW x = .tup [eS st, tupOf g, tupOf v, eS nx] := by unfold chkW; rw [q1]
      have more : (rds.take (i + 1)).map chkW = (rds.take i).map chkW ++ [.tup [eS st, tupOf g, tupOf v, eS nx]] := by rw [take_more hx, List.map_append, ← ck]; rfl
      have l3 : ((rds.take i).map chkW).length < sizeLine := small _ (by rw [List.length_map, List.length_take]; omega)
      refine ⟨rfl, by simp, small _ (by omega), by simp, small _ (by omega), bif_d (fun a1 => bad ?_) fun a1 => ?_⟩
      · unfold errAtW
        rw [mo, decide_eq_true (p := 6 < _) (by omega)]
        simp
      · have hJ : ∀ j < i + 1, errAtW rds j = false := fun j hj => by
          by_cases h : j < i
          · exact hall j h
          · obtain rfl : j = i := by omega
            unfold errAtW
            rw [hg, ← hb, e, mo, decide_eq_false (by omega), decide_eq_false (by omega)]
            rfl
        have fin : ∀ v3 v4 v5 v6 v7 v8, N ⟨[.val d, .own (.lst ((rds.take i).map chkW ++ [.tup [eS st, tupOf g, tupOf v, eS nx]])), .own (.dK (stK (addS (addS (wStates ((rds.take i).map wRulD)) st) nx))), v3, v4, v5, v6, v7, v8], n, sp⟩ := fun v3 v4 v5 v6 v7 v8 => hN _ ⟨⟨v3, v4, v5, v6, v7, v8, by rw [more, mo]⟩, hJ⟩
        cases g with
        | lst es =>
          cases v with
          | lst fs => exact ⟨by show 4 ≤ sizeLine; decide, l3, fin _ _ _ _ _ _⟩
          | tup fs => exact ⟨by show 4 ≤ sizeLine; decide, l3, fin _ _ _ _ _ _⟩
          | ctup fs => exact ⟨by show 4 ≤ sizeLine; decide, l3, fin _ _ _ _ _ _⟩
          | ftup fs => exact ⟨by show 4 ≤ sizeLine; decide, l3, fin _ _ _ _ _ _⟩
          | _ => cases q3
        | tup es =>
          cases v with
          | lst fs => exact ⟨by show 4 ≤ sizeLine; decide, l3, fin _ _ _ _ _ _⟩
          | tup fs => exact ⟨by show 4 ≤ sizeLine; decide, l3, fin _ _ _ _ _ _⟩
          | ctup fs => exact ⟨by show 4 ≤ sizeLine; decide, l3, fin _ _ _ _ _ _⟩
          | ftup fs => exact ⟨by show 4 ≤ sizeLine; decide, l3, fin _ _ _ _ _ _⟩
          | _ => cases q3
        | ctup es =>
          cases v with
          | lst fs => exact ⟨by show 4 ≤ sizeLine; decide, l3, fin _ _ _ _ _ _⟩
          | tup fs => exact ⟨by show 4 ≤ sizeLine; decide, l3, fin _ _ _ _ _ _⟩
          | ctup fs => exact ⟨by show 4 ≤ sizeLine; decide, l3, fin _ _ _ _ _ _⟩
          | ftup fs => exact ⟨by show 4 ≤ sizeLine; decide, l3, fin _ _ _ _ _ _⟩
          | _ => cases q3
        | ftup es =>
          cases v with
          | lst fs => exact ⟨by show 4 ≤ sizeLine; decide, l3, fin _ _ _ _ _ _⟩
          | tup fs => exact ⟨by show 4 ≤ sizeLine; decide, l3, fin _ _ _ _ _ _⟩
          | ctup fs => exact ⟨by show 4 ≤ sizeLine; decide, l3, fin _ _ _ _ _ _⟩
          | ftup fs => exact ⟨by show 4 ≤ sizeLine; decide, l3, fin _ _ _ _ _ _⟩
          | _ => cases q3
        | _ => cases q2
  · rintro a ⟨⟨v3, v4, v5, v6, v7, v8, rfl⟩, hall⟩
    rw [enumI_len, List.take_length] at *
    walk_at "dr"
    rw [List.length_map, stK_keys]
    refine ⟨rfl, bif_d (fun a1 => ?_) fun a1 => ⟨by show 2 ≤ sizeLine; decide, n, Int.le_refl _, kk ?_⟩⟩
    · injection a1 with a1
      refine kb 1 ?_
      unfold watchErr
      rw [if_pos (List.length_eq_zero_iff.mp (by omega))]
    · unfold watchErr
      rw [if_neg (fun z => a1 (by rw [z]; rfl)), List.find?_eq_none.mpr fun j hj => by rw [hall j (List.mem_range.mp hj)]; exact Bool.false_ne_true]
      rfl
--SPLIT
/-! ### alarms, Watch -/
def okAlarms (d : D) : Prop := ∃ as, seqD d = some as ∧ as.length ≤ sizeLine ∧ ∀ a ∈ as, tyD a ≠ none
def alarmErr (zs : List Str) (d : D) : Option D := (rulesD d).find? fun a => !isStD zs a
def rungD (zs : List Str) (d : D) : List Str := zs.filter fun z => decide (z ∈ strsOf d)
def spAlarmsD (CU : Addr) : DSpX := fspX0 (fun p : List Str × D => [.ftup (p.1.map eS), p.2]) (fun p => p.1.length ≤ 6 ∧ okAlarms p.2) (fun p y => alarmErr p.1 p.2 = none ∧ y = .tup ((rungD p.1 p.2).map eS)) id
  (fun p C fs => ∃ x, alarmErr p.1 p.2 = some x ∧ C = CU ∧ fs = [(("state" : Str), x)])
theorem mon_checked_alarms {C : Addr} : MonX (spAlarmsD C) := fspX0.mon
theorem ups_checked_alarms (T : Txt P w K mg) : UpsX K (upX K (spAlarmsD T.C_UnknownState)) (spAlarmsD T.C_UnknownState) := .rfl
theorem isStD_str {zs : List Str} {d : D} (h : isStD zs d = true) : ∃ z, d = eS z ∧ z ∈ zs := by
  unfold isStD at h
  split at h
  · exact ⟨_, rfl, of_decide_eq_true h⟩
  · cases h
theorem alarm_strs {zs : List Str} : ∀ {as : List D}, (∀ a ∈ as, isStD zs a = true) → ∃ l : List Str, as = l.map eS
  | [], _ => ⟨[], rfl⟩
  | a :: as, h => by
    obtain ⟨l, rfl⟩ := alarm_strs fun x hx => h x (List.mem_cons_of_mem _ hx)
    obtain ⟨z, rfl, _⟩ := isStD_str (h a List.mem_cons_self)
    exact ⟨z :: l, rfl⟩
theorem ok_checked_alarms (T : Txt P w K mg) : FnOk P w K mg base (L2.CX P w) 4 T.f_checked_alarms T.d_checked_alarms ["states", "alarms"] (upX K (spAlarmsD T.C_UnknownState)) := by
  refine T.F_checked_alarms.okX sc_checked_alarms (upX_len fun sp ds n R RX h => ?_) (fun cdv A outer s H vs Q E hr h => ?_)
  · obtain ⟨_, rfl, _⟩ := h
    rfl
  obtain ⟨sp, F, ds, n, hs, src, L, ⟨zs, d⟩, rfl, ⟨h1, as, h2, h3, h4⟩, k, kx⟩ := h
  replace h1 : zs.length ≤ 6 := h1
  replace h2 : seqD d = some as := h2
  refine d_runX (E := E) (N := ["states", "alarms", "alarm", "state"]) (sl := [Sl.val _, Sl.val _, Sl.emp, Sl.emp]) (dss_cons (ds_for (fun _ => PassesOwn.leaving) (fun _ => rfl) (di_seq (dv 1)) (dg_name (i := 2) (fun _ => sc_checked_alarms.nd) (fun _ => rfl) (fun _ => Or.inl rfl))
      (dss_one (ds_if (DW.pt (dw_or (dt_not (dt_val (de_isi .str (by decide) (fun _ => rfl) (fun _ => T.m_isinstance) rfl (fun _ => rfl) (fun _ => T.m_str) (by decide +kernel) (dbv 2)))) (dw_or1 (dt_cmp (dop_notin (fun _ => hr65 hr)) (dbv 2) (dbv 0) (by rfl)))))
      (dss_one (ds_raise (fun _ => rfl) (fun _ => T.er_UnknownState) (fun _ => T.fn_UnknownState) (fun _ => hr) (fun _ => takes_of rfl rfl rfl rfl) (da_cons (dv 2) da_nil) (fun _ => by rfl)))
      dss_nil)))
      (dss_one (ds_ret (de_tuple (fun _ => by rfl) (fun _ => T.m_tuple) (by decide +kernel) (da_cons (DO.x (do_lc (own := [("state", 3)]) (fun _ => rfl) (fun _ => sc_checked_alarms.nd) (di_seq (dv 0)) (fun _ => blkOk_by (own := [("state", 3)]) (N := ["states", "alarms", "alarm", "state"]) (sc := defScope s_checked_alarms) (by decide +kernel)) (dg_name (i := 3) (fun _ => sc_checked_alarms.nd) (fun _ => rfl) (fun _ => Or.inl rfl)) (dts_one (dt_cmp (dop_in (fun _ => hr65 hr)) (dbv 3) (dbv 1) (by rfl))) (dv 3))) da_nil))))) hs src L rfl ?_
  have er : rulesD d = as := by unfold rulesD; rw [h2]; rfl
  have kb : ∀ x, as.find? (fun a => !isStD zs a) = some x → PostX K sp F H E T.C_UnknownState [("state", x)] n := fun x h => kx _ _ ⟨x, by show (rulesD d).find? _ = _; rw [er]; exact h, rfl, rfl⟩
  walk_at "dr"
  rw [h2]
  refine dLoop_inv (fun i a => (∃ v3 v4, a = ⟨[.val (.ftup (zs.map eS)), .val d, v3, v4], n, sp⟩) ∧ ∀ a ∈ as.take i, isStD zs a = true) ⟨⟨_, _, rfl⟩, fun _ h => nomatch h⟩ ?_ ?_
  · rintro i x a N hi ⟨⟨v3, v4, rfl⟩, hall⟩ hN
    have hx := h4 x (List.mem_of_getElem? hi)
    have bad : isStD zs x = false → PostX K sp F H E T.C_UnknownState [("state", x)] n := fun e => kb x (find_first hi (by rw [e]; rfl) fun y hy => by rw [hall y hy]; rfl)
    have good : isStD zs x = true → N ⟨[.val (.ftup (zs.map eS)), .val d, .val x, v4], n, sp⟩ := fun e => hN _ ⟨⟨_, _, rfl⟩, fun y hy => by
      rw [take_more hi] at hy
      rcases List.mem_append.mp hy with q | q
      · exact hall y q
      · rw [List.mem_singleton.mp q]
        exact e⟩
    (rcases x with xTy | _ | _ | _ | _ | _ | ⟨_, _⟩ | _; (rcases xTy with _ | _ | _ | _ | _ | _ | _ | _); all_goals (try exact absurd rfl hx))
    case v.str z =>
      walk_at "dr"
      refine in_strs (l := zs) rfl ?_
      walk_at "dr"
      exact bif_nd (fun a1 => bad (decide_eq_false a1)) fun a1 => good (decide_eq_true a1)
    all_goals walk_at "dr"
    all_goals exact bad rfl
  · rintro a ⟨⟨v3, v4, rfl⟩, hall⟩
    rw [List.take_length] at hall
    obtain ⟨l, rfl⟩ := alarm_strs hall
    have sd : strsOf d = l := by
      unfold strsOf
      rw [h2]
      show (unS (l.map eS)).getD [] = l
      rw [unS_map]
      rfl
    walk_at "dr"
    refine lc_filtc1 (fun z => decide (z ∈ l)) eS (Nat.le_trans h1 (by decide)) (fun z _ S S' hS hS' => ?_) ?_
    · walk_at "dr"
      refine in_strs (l := l) h2 ?_
      walk_at "dr"
      exact bif_d (fun a1 => hS _ rfl rfl (decide_eq_true a1)) fun a1 => hS' _ rfl rfl (decide_eq_false a1)
    · walk_at "dr"
      refine ⟨n, Int.le_refl _, k _ ⟨?_, ?_⟩⟩
      · show (rulesD d).find? _ = none
        rw [er]
        exact List.find?_eq_none.mpr fun x hx => by rw [hall x hx]; exact Bool.false_ne_true
      · show _ = D.tup ((zs.filter fun z => decide (z ∈ strsOf d)).map eS)
        rw [sd]
/-- a watch as an object -/
def watchD (C : Addr) (ds : List D) (zs : List Str) (as : List Str) : D := .ins C [(("_rules" : Str), .tup ds), (("_states" : Str), .ftup (zs.map eS)), (("_alarms" : Str), .tup (as.map eS))]
def watchX (CW CU : Addr) (p : D × D) (C : Addr) (fs : List (Str × D)) : Prop :=
  (∃ i, watchErr (rulesD p.1) = some i ∧ C = CW ∧ fs = [(("line" : Str), eI (i : Nat))]) ∨ (watchErr (rulesD p.1) = none ∧ ∃ x, alarmErr (wStates ((rulesD p.1).map wRulD)) p.2 = some x ∧ C = CU ∧ fs = [(("state" : Str), x)])
def spWatchD (CC CW CU : Addr) : DSpX := fspX0 (fun p : D × D => [p.1, p.2]) (fun p => okWRules p.1 ∧ okAlarms p.2)
  (fun p y => watchErr (rulesD p.1) = none ∧ alarmErr (wStates ((rulesD p.1).map wRulD)) p.2 = none ∧ y = watchD CC ((rulesD p.1).map chkW) (wStates ((rulesD p.1).map wRulD)) (rungD (wStates ((rulesD p.1).map wRulD)) p.2)) id (watchX CW CU)
theorem mon_Watch__init {C C1 C2 : Addr} : MonX (spWatchD C C1 C2) := fspX0.mon
theorem ups_Watch__init (T : Txt P w K mg) : UpsI K T.C_Watch (upI K T.C_Watch (spWatchD T.C_Watch T.C_BadWatch T.C_UnknownState)) (spWatchD T.C_Watch T.C_BadWatch T.C_UnknownState) := .rfl
theorem watchErr_none {rds : List D} (h : watchErr rds = none) : rds ≠ [] ∧ rds.length ≤ 20 ∧ (∀ d ∈ rds, isWRule d = true) ∧ (wStates (rds.map wRulD)).length ≤ 6 := by
  unfold watchErr at h
  split at h
  · cases h
  · rename_i ne
    rw [Option.map_eq_none_iff, List.find?_eq_none] at h
    have key : ∀ i, i < rds.length → i < 20 ∧ isWRule (rds.getD i (.v .non)) = true ∧ (wStates ((rds.take (i + 1)).map wRulD)).length ≤ 6 := fun i hi => by
      have := h i (List.mem_range.mpr hi)
      unfold errAtW at this
      rw [Bool.not_eq_true, Bool.or_eq_false_iff, Bool.or_eq_false_iff] at this
      obtain ⟨⟨q1, q2⟩, q3⟩ := this
      have q1 := of_decide_eq_false q1
      have q3 := of_decide_eq_false q3
      refine ⟨by omega, ?_, by omega⟩
      cases e : isWRule (rds.getD i (.v .non)) with
      | true => rfl
      | false => rw [e] at q2; cases q2
    have hp := List.length_pos_iff.mpr ne
    refine ⟨ne, by have := (key (rds.length - 1) (by omega)).1; omega, fun d hd => ?_, ?_⟩
    · obtain ⟨i, hi⟩ := List.mem_iff_getElem?.mp hd
      have hl := (List.getElem?_eq_some_iff.mp hi).1
      have := (key i hl).2.1
      rw [List.getD_eq_getElem?_getD, hi] at this
      exact this
    · have := (key (rds.length - 1) (by omega)).2.2
      rw [show rds.length - 1 + 1 = rds.length by omega, List.take_length] at this
      exact this
theorem ok_Watch__init (T : Txt P w K mg) : FnOk P w K mg base (L2.CX P w) 5 T.f_Watch__init T.d_Watch__init ["self", "rules", "alarms"] (upI K T.C_Watch (spWatchD T.C_Watch T.C_BadWatch T.C_UnknownState)) := by
  refine T.F_Watch__init.okX sc_Watch__init (upI_len (m := 2) fun sp ds n R RX h => ?_) (fun cdv A outer s H vs Q E hr h => ?_)
  · obtain ⟨_, rfl, _⟩ := h
    rfl
  obtain ⟨x, dx, us, H1, F, ds, rfl, hH, hx, hdx, hne, s, L, ⟨rd, ad⟩, rfl, ⟨h1, h2⟩, k, kx⟩ := h
  refine d_runI (E := E) (N := ["self", "rules", "alarms", "checked", "states", "rung"]) (sl := [Sl.own _, Sl.val _, Sl.val _, Sl.emp, Sl.emp, Sl.emp]) (dss_cons (ds_asg (de_callX0 mon_checked_rules (ups_checked_rules T) (fun _ => ok_checked_rules T) (fun _ => (hr.mono (by decide))) (fun _ => by rfl) (fun _ => T.m_checked_rules) (fun _ => T.F_checked_rules.kp) (fun _ => T.b_checked_rules) (fun _ => takes_of rfl rfl rfl rfl) (da_cons (dv 1) da_nil)) (dg_tup (fun _ => rfl) (dgs_cons (dg_name (i := 3) (fun _ => sc_Watch__init.nd) (fun _ => rfl) (fun _ => Or.inl rfl)) (dgs_cons (dg_name (i := 4) (fun _ => sc_Watch__init.nd) (fun _ => rfl) (fun _ => Or.inl rfl)) dgs_nil))))
      (dss_cons (ds_set (i := 5) (fun _ => sc_Watch__init.nd) (fun _ => rfl) (fun _ => Or.inl rfl) (de_callX0 mon_checked_alarms (ups_checked_alarms T) (fun _ => ok_checked_alarms T) (fun _ => (hr.mono (by decide))) (fun _ => by rfl) (fun _ => T.m_checked_alarms) (fun _ => T.F_checked_alarms.kp) (fun _ => T.b_checked_alarms) (fun _ => takes_of rfl rfl rfl rfl) (da_cons (dv 4) (da_cons (dv 2) da_nil))))
      (dss_cons (ds_fldO (i := 0) T.cl_Watch T.na_Watch_rules (fun _ => pv 0) (dv 3))
      (dss_cons (ds_fldO (i := 0) T.cl_Watch T.na_Watch_states (fun _ => pv 0) (dv 4))
      (dss_one (ds_fldO (i := 0) T.cl_Watch T.na_Watch_alarms (fun _ => pv 0) (dv 5))))))) hH hx hdx hne s L rfl ?_
  walk_at "dr"
  have l1 : ∀ (f : Str) (d : D), (putFA f d []).length < 1000 := fun f d => Nat.lt_of_le_of_lt (putFA_len f d []) (by decide)
  have l2 : ∀ (f g : Str) (d e : D), (putFA f d (putFA g e [])).length < 1000 := fun f g d e => by
    have h1 := putFA_len g e []
    have h2 := putFA_len f d (putFA g e [])
    have h3 : ([] : List (Str × D)).length = 0 := rfl
    omega
  refine ⟨rd, rfl, h1, fun y ⟨q1, q2⟩ => ?_, fun C fs ⟨i, q1, q2, q3⟩ => kx _ _ (.inl ⟨i, q1, q2, q3⟩)⟩
  subst q2
  obtain ⟨r1, r2, r3, r4⟩ := watchErr_none q1
  dsimp only [id]
  refine ⟨rfl, (wStates ((rulesD rd).map wRulD), ad), rfl, ⟨r4, h2⟩, fun y2 ⟨q3, q4⟩ => ?_, fun C fs q => kx _ _ (.inr ⟨q1, q⟩)⟩
  subst q4
  dsimp only [id]
  exact ⟨rfl, by decide, rfl, l1 _ _, rfl, l2 _ _ _ _, _, rfl, k _ ⟨q1, q3, rfl⟩⟩
--SPLIT
def sizesL : List Int := [8, 4, 5, 6, 7, 1, 2, 3, 1, 2, 3, 1, 2]
theorem sizes_ok : ∀ j : _root_.Fin 13, 1 ≤ sizesL.getD j.val 0 ∧ sizesL.getD j.val 0 ≤ 8 := by decide +kernel
theorem letter_ok : ∀ j : _root_.Fin 26, (Str.ofString "abcdefghijklmnopqrstuvwxyz").cps.toList[j.val]? = some (97 + j.val) := by decide +kernel
theorem zletter_ok : ∀ j : _root_.Fin 17, (Str.ofString "abcdefghijklmnopq").cps[j.val]? = some (97 + j.val) := by decide +kernel
theorem zletter_size : (Str.ofString "abcdefghijklmnopq").cps.size = 17 := by decide +kernel
theorem five_ok : ∀ z ∈ ([Str.ofString "keep", "pass", "none", "near", "answer"] : List Str), (decide (1 ≤ z.cps.size) && decide (z.cps.size ≤ 8) && z.cps.toList.all fun c => decide (97 ≤ c) && decide (c ≤ 122)) = true := by decide +kernel
theorem five_name {z : Str} (h : z ∈ ([Str.ofString "keep", "pass", "none", "near", "answer"] : List Str)) : IsName z := by
  have q := five_ok z h
  rw [Bool.and_eq_true, Bool.and_eq_true, List.all_eq_true] at q
  obtain ⟨⟨q1, q2⟩, q3⟩ := q
  refine ⟨of_decide_eq_true q1, of_decide_eq_true q2, fun c hc => ?_⟩
  have q := q3 c hc
  rw [Bool.and_eq_true] at q
  exact ⟨of_decide_eq_true q.1, of_decide_eq_true q.2⟩
theorem ok_law_name (T : Txt P w K mg) : FnOk P w K mg base CX0 2 T.f_law_name T.d_law_name ["_law_source_here", "_law_taken"] (spName K) := by
  refine T.F_law_name.ok sc_law_name (fun vs H Q E h => ?_) (fun cdv A outer s H vs Q E hr h => ?_)
  · obtain ⟨p, l, xs, n, rfl, _⟩ := h
    rfl
  · obtain ⟨p, l, tk, n, rfl, S, hn, hne, hS, hc, k⟩ := h
    refine ⟨_, (pss_cons (ps_set (i := 2) sc_law_name.nd rfl (Or.inl rfl) (pe_ix ix_list (pe_lst (pa_cons pe_int (pa_cons pe_int (pa_cons pe_int (pa_cons pe_int (pa_cons pe_int (pa_cons pe_int (pa_cons pe_int (pa_cons pe_int (pa_cons pe_int (pa_cons pe_int (pa_cons pe_int (pa_cons pe_int (pa_cons pe_int pa_nil)))))))))))))) (pe_call (ok_law_draw T) (hr.mono (by decide)) (by rfl) T.m_law_draw T.F_law_draw.kp T.b_law_draw .nil pass0 (pa_cons (pv 0) (pa_cons pe_int pa_nil))) (fun _ _ => rfl)))
      (pss_cons (ps_set (i := 3) sc_law_name.nd rfl (Or.inl rfl) (pe_join pe_str (pe_lc (own := [("_law_k", 4)]) (by rfl) sc_law_name.nd (pi_range1 (by rfl) T.m_range (pa_cons (pv 2) pa_nil)) (blkOk_by (own := [("_law_k", 4)]) (N := ["_law_source_here", "_law_taken", "_law_size", "_law_name_here", "_law_k", "_law_one", "_law_letter"]) (sc := defScope s_law_name) (by decide +kernel)) (fun _ _ _ _ _ => (pg_name (i := 4) sc_law_name.nd rfl (Or.inl rfl))) (fun _ _ _ _ _ => pts_nil) (fun _ _ _ _ _ => (pe_ix ix_str pe_str (pe_call (ok_law_draw T) (hr.mono (by decide)) (by rfl) T.m_law_draw T.F_law_draw.kp T.b_law_draw .nil pass0 (pa_cons (pv 0) (pa_cons pe_int pa_nil))) (fun _ _ => rfl))))))
      (C8.pss_cut (ps_if (pt_chain op_lt op_lt pe_int (pv 2) pe_int)
      (pss_one (ps_set (i := 3) sc_law_name.nd rfl (Or.inl rfl) (pe_ix ix_list (pe_lst (pa_cons pe_str (pa_cons pe_str (pa_cons pe_str (pa_cons pe_str (pa_cons pe_str (pa_cons (pe_op op_add_str pe_str (pe_slice sl_str (pv 3) (po_some pe_int) po_none)) pa_nil))))))) (pe_call (ok_law_draw T) (hr.mono (by decide)) (by rfl) T.m_law_draw T.F_law_draw.kp T.b_law_draw .nil pass0 (pa_cons (pv 0) (pa_cons pe_int pa_nil))) (fun _ _ => rfl))))
      pss_nil)
      (pss_cons (ps_if (pt_cmpR op_notIn_seq (pv 3) (pv 1) (by rfl))
      (pss_one (ps_ret (pv 3)))
      pss_nil)
      (pss_one (ps_ret (pe_ix ix_list (pe_lc (own := [("_law_one", 5)]) (by rfl) sc_law_name.nd (pi_list (pe_lc (own := [("_law_letter", 6)]) (by rfl) sc_law_name.nd (pi_str pe_str) (blkOk_by (own := [("_law_letter", 6)]) (N := ["_law_source_here", "_law_taken", "_law_size", "_law_name_here", "_law_k", "_law_one", "_law_letter"]) (sc := defScope s_law_name) (by decide +kernel)) (fun _ _ _ _ _ => (pg_name (i := 6) sc_law_name.nd rfl (Or.inl rfl))) (fun _ _ _ _ _ => pts_nil) (fun _ _ _ _ _ => (pe_op op_add_str pe_str (pv 6))))) (blkOk_by (own := [("_law_one", 5)]) (N := ["_law_source_here", "_law_taken", "_law_size", "_law_name_here", "_law_k", "_law_one", "_law_letter"]) (sc := defScope s_law_name) (by decide +kernel)) (fun _ _ _ _ _ => (pg_name (i := 5) sc_law_name.nd rfl (Or.inl rfl))) (fun _ _ _ _ _ => (pts_one (pt_cmpR (show OpR _ _ (rIn K true) from op_notIn_seq) (pv 5) (pv 1) (by rfl)))) (fun _ _ _ _ _ => (pv 5))) pe_int (fun _ _ => rfl)))))))), ?_⟩
    refine ⟨by show 13 ≤ sizeLine; decide, fun l0 hl0 => ?_⟩
    generalize hH : upd _ l0 _ = H1
    obtain ⟨s1, d1⟩ := new_of (o' := .lst (sizesL.map V.int)) hH hl0 rfl
    clear hH
    have pl : l0 ≠ p := S.ne hl0
    walk_at "rd"
    refine ⟨_, _, _, rfl, S.same s1, by omega, by omega, by omega, fun d H2 a b u2 S2 => ?_⟩
    obtain ⟨j, rfl⟩ : ∃ j : Nat, d = j := ⟨d.toNat, by omega⟩
    have hj : (sizesL.map V.int)[j]? = some (V.int (sizesL.getD j 0)) := by
      rw [List.getElem?_map, List.getElem?_eq_getElem (show j < sizesL.length by show j < 13; omega)]
      rw [List.getD_eq_getElem?_getD, List.getElem?_eq_getElem (show j < sizesL.length by show j < 13; omega)]
      rfl
    have sz := sizes_ok ⟨j, by omega⟩
    have sz1 : 1 ≤ sizesL.getD j 0 := sz.1
    have sz8 : sizesL.getD j 0 ≤ 8 := sz.2
    generalize sizesL.getD j 0 = sz at hj sz1 sz8
    refine ⟨_, _, _, _, rfl, rfl, SqL.of (u2 _ _ pl d1), at_of rfl hj, ?_⟩
    walk_at "rd"
    refine ⟨⟨_, rfl⟩, ?_⟩
    walk_at "rd"
    refine ⟨by omega, by omega, fun D hD => ?_⟩
    have pD : D ≠ p := S2.ne hD
    have u02 : But p H H2 := (Same.but s1).trans u2
    have hD0 : H D = none := but_free u02 pD hD
    refine lc_range (lo := 0) (n := sz.toNat) (fun i H' => ∃ cs : List Nat, cs.length = i ∧ (∀ c ∈ cs, small c) ∧ But p H H' ∧ H' D = some (.lst ((cs.map one).map V.str)) ∧ Src H' p (n + 1 + (i : Int)))
      ⟨[], rfl, (fun c hc => nomatch hc), but_new u02 hD0, upd_same, (S2.same (Same.new hD)).le (by omega)⟩ ?_ ?_
    · rintro i H' hi ⟨cs, rfl, hl, u', hD', S'⟩
      refine ⟨rfl, ?_⟩
      walk_at "rd"
      refine ⟨_, _, _, rfl, S', by omega, by omega, by omega, fun d' H4 a' b' u4 S4 => ?_⟩
      obtain ⟨j', rfl⟩ : ∃ j : Nat, d' = j := ⟨d'.toNat, by omega⟩
      have hl' := letter_ok ⟨j', by omega⟩
      refine ⟨_, _, _, rfl, rfl, by decide +kernel, at_any hl', ?_⟩
      refine ⟨_, u4 _ _ pD hD', ?_, ⟨cs ++ [97 + j'], by simp, ?_, ?_, ?_, ?_⟩⟩
      · rw [List.length_map, List.length_map]
        exact Nat.lt_of_lt_of_le (by omega : cs.length < 8) (by decide)
      · intro c hc
        rcases List.mem_append.mp hc with q | q
        · exact hl c q
        · have : c = 97 + j' := by simpa using q
          subst this
          exact ⟨by omega, by omega⟩
      · exact but_new (u'.trans u4) hD0
      · rw [upd_same, List.map_append, List.map_append]
        rfl
      · refine (S4.but (q := D) ?_ pD.symm).le ?_
        · exact (But.refl D _).upd
        · show _ ≤ n + 1 + ((cs.length + 1 : Nat) : Int)
          omega
    rintro H3 ⟨cs, hlen, hl, u3, hD3, S3⟩
    refine ⟨_, _, cs.map one, rfl, rfl, .inl (SqL.of hD3), ?_, ?_⟩
    · have e : ((cs.map one).map (·.length)).sum = cs.length := by
        clear hl hlen hD3
        induction cs with
        | nil => rfl
        | cons c r ih =>
          rw [List.map_cons, List.map_cons, List.sum_cons, ih, List.length_cons]
          show 1 + r.length = _
          omega
      rw [e]
      show cs.length + (cs.map one).length * 0 ≤ _
      omega
    rw [join_ones]
    have nm := name_of (cs := cs) (by omega) (by omega) hl
    generalize (⟨cs.toArray⟩ : Str) = z at nm
    have S3' := S3.le (show _ ≤ n + 9 by omega)
    clear S3 hD3 hl hlen
    walk_at "rd"
    have v456 : ∃ v4 v5 v6 : Option V, ([some (.ref p), some (.ref l), some (.int sz), some (.str z), none, none, none] : St) = [some (.ref p), some (.ref l), some (.int sz), some (.str z), v4, v5, v6] := ⟨_, _, _, rfl⟩
    refine ⟨fun σ H' => ∃ (y : Str) (v4 v5 v6 : Option V), σ = [some (.ref p), some (.ref l), some (.int sz), some (.str y), v4, v5, v6] ∧ IsName y ∧ But p H H' ∧ Src H' p (n + 10), ?_, ?_⟩
    · have stay : ∃ (y : Str) (v4 v5 v6 : Option V), ([some (.ref p), some (.ref l), some (.int sz), some (.str z), none, none, none] : St) = [some (.ref p), some (.ref l), some (.int sz), some (.str y), v4, v5, v6] ∧ IsName y ∧ But p H H3 ∧ Src H3 p (n + 10) :=
        ⟨z, none, none, none, rfl, nm, u3, S3'.le (by omega)⟩
      walk_at "rd"
      refine ifd (fun _ => ?_) (fun _ => ?_)
      · walk_at "rd"
        refine ifd (fun _ => ?_) (fun _ => ?_)
        · walk_at "rd"
          refine ⟨Nat.le_trans nm.len (by decide), _, _, rfl, rfl, ?_, ?_⟩
          · have q := cutS_length z (some 1) none
            have q8 : z.length ≤ 8 := nm.len
            show 1 + _ ≤ _
            exact Nat.le_trans (by omega : 1 + (cutS z (some 1) none).length ≤ 9) (by decide)
          have nq := name_q nm
          generalize (Str.ofString "q" ++ cutS z (some 1) none) = zq at nq
          refine ⟨by show 6 ≤ sizeLine; decide, fun l1 hl1 => ?_⟩
          generalize hH : upd _ l1 _ = H4
          obtain ⟨s4, d4⟩ := new_of (o' := .lst (([Str.ofString "keep", "pass", "none", "near", "answer", zq] : List Str).map V.str)) hH hl1 rfl
          clear hH
          have p1 : l1 ≠ p := S3'.ne hl1
          walk_at "rd"
          refine ⟨_, _, _, rfl, S3'.same s4, by omega, by omega, by omega, fun d' H5 a' b' u5 S5 => ?_⟩
          obtain ⟨j', rfl⟩ : ∃ j : Nat, d' = j := ⟨d'.toNat, by omega⟩
          have hj' : j' < ([Str.ofString "keep", "pass", "none", "near", "answer", zq] : List Str).length := by show j' < 6; omega
          have hy := List.getElem?_eq_getElem hj'
          have ny : IsName ([Str.ofString "keep", "pass", "none", "near", "answer", zq] : List Str)[j'] := by
            have q : ([Str.ofString "keep", "pass", "none", "near", "answer", zq] : List Str)[j'] ∈ ([Str.ofString "keep", "pass", "none", "near", "answer"] : List Str) ++ [zq] := List.getElem_mem hj'
            rcases List.mem_append.mp q with q | q
            · exact five_name q
            · rw [List.mem_singleton.mp q]
              exact nq
          generalize ([Str.ofString "keep", "pass", "none", "near", "answer", zq] : List Str)[j'] = y at hy ny
          refine ⟨_, _, _, _, rfl, rfl, SqL.of (u5 _ _ p1 d4), at_any (by rw [List.getElem?_map, hy]; rfl), ?_⟩
          exact ⟨y, none, none, none, rfl, ny, (u3.trans (Same.but s4)).trans u5, S5.le (by omega)⟩
        · exact stay
      · walk_at "rd"
        exact stay
    rintro σ H5 ⟨y, v4, v5, v6, rfl, nm', u5, S5⟩
    walk_at "rd"
    refine ⟨_, _, rfl, .inl (sql_but hS u5 hne), rfl, flat_strs tk, ?_⟩
    refine ⟨!decide (y ∈ tk), congrArg (fun b => V.bl (!b)) (inV_strs y tk), ?_⟩
    by_cases hin : y ∈ tk
    · rw [decide_eq_true hin]
      refine iteF ?_
      clear u2 S2 d1 s1 hD pD hD0 u02 S3' u3 nm v456
      walk_at "rd"
      refine fun D1 hD1 => ?_
      refine lc_it (walk_str (z := Str.ofString "abcdefghijklmnopq")) (fun i H' => Same H5 H' ∧ H' D1 = some (.lst ((zNames i).map V.str))) ⟨Same.new hD1, upd_same⟩ (fun _ _ _ _ => trivial) ?_ ?_
      · rintro i x H6 H7 hi ⟨s6, d6⟩ ⟨rfl, c, hc', rfl⟩
        rw [zletter_size] at hi
        have q := zletter_ok ⟨i, hi⟩
        have q' : c = 97 + i := Option.some.inj (hc'.symm.trans q)
        subst q'
        refine ⟨rfl, ?_⟩
        walk_at "rd"
        refine ⟨by show 1 + 1 ≤ sizeLine; decide, ?_⟩
        refine ⟨_, d6, ?_, ?_, ?_⟩
        · rw [List.length_map, zNames, List.length_map, List.length_range]
          exact Nat.lt_of_lt_of_le hi (by decide)
        · exact fun b o e => by
            rw [upd_ne (fun q => by rw [q, hD1] at e; cases e)]
            exact s6 b o e
        · rw [upd_same, zNames_more, List.map_append]
          rfl
      rintro H6 ⟨s6, d6⟩
      rw [zletter_size] at d6
      refine ⟨D1, rfl, ⟨_, SqL.of d6⟩, fun D2 hD2 => ?_⟩
      have hS6 : SqL K H6 l (tk.map V.str) := s6.seq (sql_but hS u5 hne)
      refine lc_list (K := K) (a := D1) (xs := (zNames 17).map V.str) (fun i H' => Same H6 H' ∧ H' D2 = some (.lst ((((zNames 17).take i).filter fun z => !decide (z ∈ tk)).map V.str))) ⟨Same.new hD2, upd_same⟩ (fun i H' _ h => h.1.seq (SqL.of d6)) ?_ ?_
      · rintro i x H7 hx ⟨s7, d7⟩
        obtain ⟨z', rfl, hz⟩ := str_at hx
        have hi : i < 17 := by
          have := (List.getElem?_eq_some_iff.mp hz).1
          simpa [zNames] using this
        refine ⟨rfl, ?_⟩
        walk_at "rd"
        refine ⟨_, _, rfl, s7.seq hS6 |> .inl, rfl, flat_strs tk, ?_⟩
        refine ⟨!decide (z' ∈ tk), congrArg (fun b => V.bl (!b)) (inV_strs z' tk), ?_⟩
        rw [take_more hz, List.filter_append]
        by_cases hin' : z' ∈ tk
        · rw [decide_eq_true hin']
          refine iteF ⟨s7, ?_⟩
          rw [List.filter_cons, decide_eq_true hin', if_neg (by decide), List.filter_nil, List.append_nil]
          exact d7
        · rw [decide_eq_false hin']
          refine iteT ?_
          walk_at "rd"
          refine ⟨_, d7, ?_, ?_, ?_⟩
          · rw [List.length_map]
            refine Nat.lt_of_le_of_lt (List.length_filter_le _ _) ?_
            rw [List.length_take]
            exact Nat.lt_of_le_of_lt (Nat.min_le_left _ _) (Nat.lt_of_lt_of_le hi (by decide))
          · exact fun b o e => by
              rw [upd_ne (fun q => by rw [q, hD2] at e; cases e)]
              exact s7 b o e
          · rw [upd_same, List.filter_cons, decide_eq_false hin', if_pos (by decide), List.filter_nil, List.map_append]
            rfl
      rintro H7 ⟨s7, d7⟩
      rw [List.length_map, List.take_length] at d7
      obtain ⟨c, c1, c2, c3⟩ := hc
      have hne' : zName c ∈ (zNames 17).filter fun z => !decide (z ∈ tk) := List.mem_filter.mpr ⟨zNames_has c1 c2, by rw [decide_eq_false c3]; rfl⟩
      generalize hF : ((zNames 17).filter fun z => !decide (z ∈ tk)) = F at d7 hne'
      cases F with
      | nil => cases hne'
      | cons z0 r =>
        have hz0 : z0 ∈ (zNames 17).filter fun z => !decide (z ∈ tk) := by rw [hF]; exact List.mem_cons_self
        obtain ⟨h1, h2⟩ := List.mem_filter.mp hz0
        have h3 : z0 ∉ tk := fun q => by rw [decide_eq_true q] at h2; cases h2
        walk_at "rd"
        refine ⟨_, _, _, _, rfl, rfl, SqL.of d7, at_any (j := 0) rfl, ?_⟩
        exact k z0 H7 (zNames_is h1) h3 ((u5.trans (Same.but s6)).trans (Same.but s7)) ((S5.same s6).same s7)
    · rw [decide_eq_false hin]
      refine iteT ?_
      walk_at "rd"
      exact k y H5 nm' hin u5 S5
theorem ok_law_names (T : Txt P w K mg) : FnOk P w K mg base CX0 3 T.f_law_names T.d_law_names ["_law_source_here", "_law_many"] spNames := by
  refine T.F_law_names.ok sc_law_names (fun vs H Q E h => ?_) (fun cdv A outer s H vs Q E hr h => ?_)
  · obtain ⟨p, m, n, rfl, _⟩ := h
    rfl
  · obtain ⟨p, m, n, rfl, S, hm, hn, k⟩ := h
    refine ⟨_, (pss_cons (ps_set (i := 2) sc_law_names.nd rfl (Or.inl rfl) (pe_lst pa_nil))
      (pss_cons (ps_for PassesOwn.never rfl (pi_range1 (by rfl) T.m_range (pa_cons (pv 1) pa_nil)) (pg_name (i := 3) sc_law_names.nd rfl (Or.inl rfl))
      (pss_one (ps_expr (pe_bm PySem.F.plainAttrs_list PySem.F.slot_list_append PySem.F.type_list_append mt_append (pv 2) (pa_cons (pe_call (ok_law_name T) (hr.mono (by decide)) (by rfl) T.m_law_name T.F_law_name.kp T.b_law_name .nil pass0 (pa_cons (pv 0) (pa_cons (pv 2) pa_nil))) pa_nil)))))
      (pss_one (ps_ret (pv 2))))), ?_⟩
    refine ⟨by show 0 ≤ sizeLine; decide, fun l hl => ?_⟩
    have lp := S.ne hl
    generalize hH : upd _ l _ = H1
    obtain ⟨s1, d1⟩ := new_of (o' := .lst (([] : List Str).map V.str)) hH hl rfl
    clear hH
    walk_at "rd"
    refine ⟨by omega, by omega, ?_⟩
    refine for_range (lo := 0) (n := m) (fun i σ H' => ∃ (zs : List Str) (v : Option V), σ = [some (.ref p), some (.int m), some (.ref l), v] ∧ zs.length = i ∧ (∀ z ∈ zs, IsName z) ∧ zs.Nodup ∧ H' l = some (.lst (zs.map V.str)) ∧ But p H H' ∧ Src H' p (n + 10 * (i : Int)))
      ⟨[], none, rfl, rfl, (fun z hz => nomatch hz), List.nodup_nil, d1, Same.but s1, (S.same s1).le (by omega)⟩ ?_ ?_
    · rintro i σ H2 hi ⟨zs, v, rfl, rfl, nz, nd, dl, u2, S2⟩
      walk_at "rd"
      refine ⟨.inl ⟨rfl, _, SqL.of dl⟩, ?_⟩
      walk_at "rd"
      refine ⟨p, l, zs, _, rfl, S2, by omega, lp, SqL.of dl, z_left (by omega), fun z H3 nz' hz u3 S3 => ?_⟩
      refine ⟨_, _, _, rfl, rfl, u3 _ _ lp dl, ?_, ?_⟩
      · rw [List.length_map]
        exact Nat.lt_of_lt_of_le (by omega : zs.length < 17) (by decide)
      refine ⟨zs ++ [z], _, rfl, by simp, ?_, nd_snoc nd hz, ?_, but_new (u2.trans u3) hl, ?_⟩
      · intro y hy
        rcases List.mem_append.mp hy with q | q
        · exact nz y q
        · rw [List.mem_singleton.mp q]
          exact nz'
      · rw [upd_same, List.map_append]
        rfl
      · exact (S3.but (q := l) ((But.refl l H3).upd) lp.symm).le (by omega)
    · rintro σ H2 ⟨zs, v, rfl, e, nz, nd, dl, u2, S2⟩
      walk_at "rd"
      exact k l zs H2 e nz nd hl dl u2 S2
--SPLIT
def spSubset (K : PySem.W.Frag) : Sp := fun vs H Q _ => ∃ (p l : Addr) (zs : List Str) (n : Int), vs = [.ref p, .ref l] ∧ Src H p n ∧ n < 100000 ∧ H l = some (.lst (zs.map V.str)) ∧ l ≠ p ∧ zs.length ≤ 100 ∧
  ∀ (q : Addr) (ys : List Str) (H' : Hp), (∀ y ∈ ys, y ∈ zs) → ys.length ≤ zs.length → H q = none → H' q = some (.lst (ys.map V.str)) → But p H H' → Src H' p (n + 100) → Q (.ref q) H'
theorem ok_law_subset (T : Txt P w K mg) : FnOk P w K mg base CX0 2 T.f_law_subset T.d_law_subset ["_law_source_here", "_law_row"] (spSubset K) := by
  refine T.F_law_subset.ok sc_law_subset (fun vs H Q E h => ?_) (fun cdv A outer s H vs Q E hr h => ?_)
  · obtain ⟨p, l, zs, n, rfl, _⟩ := h
    rfl
  · obtain ⟨p, l, zs, n, rfl, S, hn, hl, lp, hz, k⟩ := h
    refine ⟨_, (pss_one (ps_ret (pe_lc (own := [("_law_one", 2)]) (by rfl) sc_law_subset.nd (pi_list (pv 1)) (blkOk_by (own := [("_law_one", 2)]) (N := ["_law_source_here", "_law_row", "_law_one"]) (sc := defScope s_law_subset) (by decide +kernel)) (fun _ _ _ _ _ => (pg_name (i := 2) sc_law_subset.nd rfl (Or.inl rfl))) (fun _ _ _ _ _ => (pts_one (pt_cmpR op_eq (pe_call (ok_law_draw T) (hr.mono (by decide)) (by rfl) T.m_law_draw T.F_law_draw.kp T.b_law_draw .nil pass0 (pa_cons (pv 0) (pa_cons pe_int pa_nil))) pe_int (nomark _)))) (fun _ _ _ _ _ => (pv 2))))), ?_⟩
    refine ⟨_, rfl, l, rfl, ⟨_, SqL.of hl⟩, fun D hD => ?_⟩
    have Dp := S.ne hD
    have lD : l ≠ D := ne_of_none hl hD
    refine lc_list (K := K) (a := l) (xs := zs.map V.str) (fun i H' => ∃ ys : List Str, (∀ y ∈ ys, y ∈ zs) ∧ ys.length ≤ i ∧ H' D = some (.lst (ys.map V.str)) ∧ H' l = some (.lst (zs.map V.str)) ∧ But p H H' ∧ Src H' p (n + (i : Int)))
      ⟨[], (fun y h => nomatch h), Nat.le_refl _, upd_same, by rw [upd_ne lD]; exact hl, but_new (But.refl p H) hD, (S.same (Same.new hD)).le (by omega)⟩ (fun i H' _ ⟨_, _, _, _, z, _⟩ => SqL.of z) ?_ ?_
    · rintro i x H1 hx ⟨ys, hy, hlen, d1, l1, u1, S1⟩
      obtain ⟨z, rfl, hz'⟩ := str_at hx
      have hi : i < zs.length := (List.getElem?_eq_some_iff.mp hz').1
      refine ⟨rfl, ?_⟩
      walk_at "rd"
      refine ⟨p, 2, _, rfl, S1, by omega, by decide, by decide, fun v H2 a b u2 S2 => ?_⟩
      have d2 := u2 _ _ Dp d1
      have l2 := u2 _ _ lp l1
      walk_at "rd"
      refine ifd (fun c => ?_) (fun c => ?_)
      · walk_at "rd"
        refine ⟨_, d2, ?_, ys ++ [z], ?_, by rw [List.length_append, List.length_singleton]; omega, by rw [upd_same, List.map_append]; rfl, by rw [upd_ne lD]; exact l2, but_new (u1.trans u2) hD, (S2.but (q := D) ((But.refl D H2).upd) Dp.symm).le (by omega)⟩
        · rw [List.length_map]
          exact Nat.lt_of_le_of_lt (by omega : _ ≤ 100) (by decide)
        · intro y hm
          rcases List.mem_append.mp hm with q | q
          · exact hy y q
          · rw [List.mem_singleton.mp q]
            exact List.mem_of_getElem? hz'
      · exact ⟨ys, hy, by omega, d2, l2, u1.trans u2, S2.le (by omega)⟩
    · rintro H1 ⟨ys, hy, hlen, d1, l1, u1, S1⟩
      rw [List.length_map] at hlen S1
      walk_at "rd"
      exact k D ys H1 hy hlen hD d1 u1 (S1.le (by omega))
/-! ### the law's own defs, told over data -/
def newF (F H H' : Hp) : Hp := fun b => if H b = none then H' b else F b
theorem newF_in {F H H' : Hp} {b : Addr} {o : HO} (h : H b = none) (e : H' b = some o) : newF F H H' b = some o := by
  unfold newF
  rw [if_pos h]
  exact e
/-- a promise about one new thing, over the source alone -/
theorem post_new {sp : Option Addr} {p : Addr} {F H H' : Hp} {Q : VK} {d : D} {n n' : Int} {v : V} (hp : sp = some p) (s : Same F H) (S0 : Src H p n) (fp : F p = none) (k : Post K sp F H Q d n') (b : But p H H') (S : Src H' p n') (h : Dat K (newF F H H') d v) : Q v H' := by
  subst hp
  refine k v (newF F H H') H' (fun c o e => ?_) (fun c o e => ?_) (fun c o z e => b c o (fun q => z (by rw [q])) e) (fun c e => ?_) (fun q e => ?_) h
  · unfold newF
    rw [if_neg (by rw [s c o e]; exact fun z => nomatch z)]
    exact e
  · unfold newF at e
    split at e
    · exact e
    · exact b c o (fun z => by rw [z, fp] at e; cases e) (s c o e)
  · unfold newF at e
    split at e
    · rename_i z
      exact .inr (.inl z)
    · exact .inl e
  · cases e
    refine ⟨?_, S⟩
    unfold newF
    rw [if_neg, fp]
    obtain ⟨xs, z⟩ := S0.at
    rw [z]
    exact fun z => nomatch z
/-- the same, where nothing is drawn -/
theorem post_new0 {sp : Option Addr} {F H H' : Hp} {Q : VK} {d : D} {n : Int} {v : V} (s : Same F H) (src : ∀ p, sp = some p → F p = none ∧ Src H p n) (k : Post K sp F H Q d n) (b : Same H H') (h : Dat K (newF F H H') d v) : Q v H' := by
  refine k v (newF F H H') H' (fun c o e => ?_) (fun c o e => ?_) (fun c o z e => b c o e) (fun c e => ?_) (fun q e => ?_) h
  · unfold newF
    rw [if_neg (by rw [s c o e]; exact fun z => nomatch z)]
    exact e
  · unfold newF at e
    split at e
    · exact e
    · exact b c o (s c o e)
  · unfold newF at e
    split at e
    · rename_i z
      exact .inr (.inl z)
    · exact .inl e
  · obtain ⟨fp, S⟩ := src q e
    refine ⟨?_, S.same b⟩
    unfold newF
    rw [if_neg, fp]
    obtain ⟨xs, z⟩ := S.at
    rw [z]
    exact fun z => nomatch z
theorem dat_strs {H : Hp} : ∀ (l : List Str), DatL K H (l.map eS) (l.map V.str)
  | [] => rfl
  | _ :: l => ⟨_, _, rfl, rfl, dat_strs l⟩
theorem dat_ints {H : Hp} : ∀ (l : List Int), DatL K H (l.map eI) (l.map V.int)
  | [] => rfl
  | _ :: l => ⟨_, _, rfl, rfl, dat_ints l⟩
theorem dat_bls {H : Hp} : ∀ (l : List Bool), DatL K H (l.map eB) (l.map V.bl)
  | [] => rfl
  | _ :: l => ⟨_, _, rfl, rfl, dat_bls l⟩
theorem datL_strs {H : Hp} {l : List Str} {vs : List V} (h : DatL K H (l.map eS) vs) : vs = l.map V.str := datL_flat (xs := l.map V.str) (by rw [List.map_map]; exact h)
theorem datL_ints {H : Hp} {l : List Int} {vs : List V} (h : DatL K H (l.map eI) vs) : vs = l.map V.int := datL_flat (xs := l.map V.int) (by rw [List.map_map]; exact h)
/-- with a limit of its own -/
def fspN {α β : Type} (L : Int) (C : α → Int) (A : Addr → α → List D) (P : α → Prop) (Po : α → β → Prop) (O : β → D) : DSp := fun sp ds n R => ∃ p x, sp = some p ∧ ds = A p x ∧ P x ∧ n < L ∧ ∀ y, Po x y → R (O y) (n + C x)
theorem fspN.mon {α β : Type} {L : Int} {C : α → Int} {A : Addr → α → List D} {P : α → Prop} {Po : α → β → Prop} {O : β → D} : Mon (fspN L C A P Po O) := fun sp ds n R R' h ⟨p, x, h1, h2, h3, h4, h5⟩ => ⟨p, x, h1, h2, h3, h4, fun y hy => h _ _ (h5 y hy)⟩
def spDrawD : DSp := fspN 1000000 (fun _ => 1) (fun p (m : Int) => [sD p, eI m]) (fun m => 0 < m ∧ m < 2 ^ 64) (fun m d => 0 ≤ d ∧ d < m) eI
theorem mon_law_draw : Mon spDrawD := fspN.mon
theorem ups_law_draw (_ : Txt P w K mg) : Ups K spDraw spDrawD := by
  rintro vs H Q E ⟨sp, F, ds, n, s, src, L, p, m, rfl, rfl, ⟨m0, m1⟩, hn, k⟩
  obtain ⟨v, r, rfl, h1, w, r', rfl, h2, h3⟩ := L
  cases (show v = _ from h1)
  cases (show w = _ from h2)
  cases (show r' = [] from h3)
  obtain ⟨fp, S⟩ := src p rfl
  refine ⟨p, m, n, rfl, S, hn, m0, m1, fun d H' d0 d1 b S' => ?_⟩
  refine k d ⟨d0, d1⟩ (.int d) F H' (Same.refl F) (fun c o h => b c o (fun z => by rw [z, fp] at h; cases h) (s c o h)) (fun c o z h => b c o (fun e => z (by rw [e])) h) (fun c h => .inl h) (fun q e => ?_) rfl
  cases e
  exact ⟨fp, S'⟩
theorem st_eq {d : DSt} {E : DEnds} {sl sl' : List Sl} {n : Int} {sp : Option Addr} (h : sl = sl') (hd : d E ⟨sl', n, sp⟩) : d E ⟨sl, n, sp⟩ := by
  rw [h]
  exact hd
/-! ### picks, names, written tables -/
def spPickD : DSp := fspN 1000000 (fun _ => 1) (fun p (ds : List D) => [sD p, .lst ds]) (fun ds => ds ≠ [] ∧ ds.length < 16777216) (fun ds d => d ∈ ds) id
theorem mon_law_pick : Mon spPickD := fspN.mon
theorem ups_law_pick (_ : Txt P w K mg) : Ups K (up K spPickD) spPickD := .rfl
theorem atI_mem {α : Type} {ds : List α} {i : Int} (h0 : 0 ≤ i) (h1 : i < (ds.length : Nat)) : ∃ d, atI ds i = some d ∧ d ∈ ds := by
  unfold atI ixN
  rw [if_pos h0, if_pos h1]
  refine ⟨ds[i.toNat], List.getElem?_eq_getElem (by omega), List.getElem_mem _⟩
theorem ok_law_pick (T : Txt P w K mg) : FnOk P w K mg base CX0 2 T.f_law_pick T.d_law_pick ["_law_source_here", "_law_things"] (up K spPickD) := by
  refine T.F_law_pick.ok sc_law_pick (up_len fun sp ds n R h => ?_) (fun cdv A outer s H vs Q E hr h => ?_)
  · obtain ⟨_, _, _, rfl, _⟩ := h
    rfl
  obtain ⟨sp, F, ds, n, hs, src, L, p, xs, rfl, rfl, ⟨x0, x1⟩, hn, k⟩ := h
  refine d_run (N := ["_law_source_here", "_law_things"]) (sl := [Sl.val _, Sl.val _]) (dss_one (ds_ret (de_ix (dv 1) (DX.b (de_callF mon_law_draw (ups_law_draw T) (fun _ => ok_law_draw T) (fun _ => (hr.mono (by decide))) (fun _ => by rfl) (fun _ => T.m_law_draw) (fun _ => T.F_law_draw.kp) (fun _ => T.b_law_draw) (fun _ => pass0) (dab_cons (dbv 0) (dab_cons (DX.b (de_callB dc_len (fun _ => by rfl) (fun _ => T.m_len) (by decide +kernel) (dab_cons (dbv 1) dab_nil))) dab_nil)))) (fun _ _ => rfl)))) hs src L rfl ?_
  have hl := List.length_pos_iff.mpr x0
  refine ⟨p, _, rfl, rfl, ⟨by omega, by omega⟩, hn, fun d hd => ⟨rfl, rfl, ?_⟩⟩
  obtain ⟨y, e, hy⟩ := atI_mem hd.1 hd.2
  refine opt_some e ?_
  exact ⟨_, Int.le_refl _, k y hy⟩
def spNamesD : DSp := fspN 800000 (fun m : Nat => 10 * (m : Int)) (fun p (m : Nat) => [sD p, eI m]) (fun m => m ≤ 17) (fun m zs => zs.length = m ∧ (∀ z ∈ zs, IsName z) ∧ zs.Nodup) eLS
theorem mon_law_names : Mon spNamesD := fspN.mon
theorem ups_law_names (_ : Txt P w K mg) : Ups K spNames spNamesD := by
  rintro vs H Q E ⟨sp, F, ds, n, s, src, L, p, m, rfl, rfl, hm, hn, k⟩
  obtain ⟨v, r, rfl, h1, w, r', rfl, h2, h3⟩ := L
  cases (show v = _ from h1)
  cases (show w = _ from h2)
  cases (show r' = [] from h3)
  obtain ⟨fp, S⟩ := src p rfl
  exact ⟨p, m, n, rfl, S, hm, hn, fun l zs H' q1 q2 q3 q4 q5 b S' => post_new rfl s S fp (k zs ⟨q1, q2, q3⟩) b S' ⟨l, _, rfl, newF_in q4 q5, dat_strs _⟩⟩
def spPlacesD : DSp := fsp0 (fun _ : Unit => []) (fun _ => True) (fun _ l => l = placesL) eLS
theorem mon_law_places : Mon spPlacesD := fsp0.mon
theorem ups_law_places (_ : Txt P w K mg) : Ups K (up K spPlacesD) spPlacesD := .rfl
theorem ok_law_places (T : Txt P w K mg) : FnOk P w K mg base CX0 1 T.f_law_places T.d_law_places [] (up K spPlacesD) := by
  refine T.F_law_places.ok sc_law_places (up_len fun sp ds n R h => ?_) (fun cdv A outer s H vs Q E hr h => ?_)
  · obtain ⟨_, rfl, _⟩ := h
    rfl
  obtain ⟨sp, F, ds, n, hs, src, L, _, rfl, _, k⟩ := h
  refine d_run (N := []) (sl := []) (dss_one (ds_ret (DO.x (do_lst (da_cons de_str (da_cons de_str (da_cons de_str (da_cons de_str (da_cons de_str (da_cons de_str (da_cons de_str (da_cons de_str (da_cons de_str (da_cons de_str (da_cons de_str da_nil))))))))))))))) hs src L rfl ?_
  exact ⟨by show 11 ≤ sizeLine; decide, _, Int.le_refl _, k _ rfl⟩
def spGroupNamesD : DSp := fsp0 (fun _ : Unit => []) (fun _ => True) (fun _ l => l = namesL) eLS
theorem mon_law_group_names : Mon spGroupNamesD := fsp0.mon
theorem ups_law_group_names (_ : Txt P w K mg) : Ups K (up K spGroupNamesD) spGroupNamesD := .rfl
theorem ok_law_group_names (T : Txt P w K mg) : FnOk P w K mg base CX0 1 T.f_law_group_names T.d_law_group_names [] (up K spGroupNamesD) := by
  refine T.F_law_group_names.ok sc_law_group_names (up_len fun sp ds n R h => ?_) (fun cdv A outer s H vs Q E hr h => ?_)
  · obtain ⟨_, rfl, _⟩ := h
    rfl
  obtain ⟨sp, F, ds, n, hs, src, L, _, rfl, _, k⟩ := h
  refine d_run (N := []) (sl := []) (dss_one (ds_ret (DO.x (do_lst (da_cons de_str (da_cons de_str (da_cons de_str (da_cons de_str (da_cons de_str (da_cons de_str (da_cons de_str (da_cons de_str (da_cons de_str da_nil))))))))))))) hs src L rfl ?_
  exact ⟨by show 9 ≤ sizeLine; decide, _, Int.le_refl _, k _ rfl⟩
theorem cut_names : cutD (namesL.map eS) none (some 8) = (namesL.take 8).map eS := rfl
--SPLIT
/-! the same reading, where == is left standing -/
local macro_rules | `(tactic| walk_at "dre") => `(tactic| try dsimp only [dSeq, dPar, dPar3, dTry, dIfS, dOr, dAnd, dNot, dTest, dIsi, dIsi2, dVar, dVarB, dC, dOp, dI0, dI, dCB, dCons, dNil, dLen, dLc, wipe_1, wipe_2, wipe_3, wipe_4, wipe_5, mapc, mapn, dRet, dSet, dSetO, dNext, dAsg, dDrop, dTup, dLst, dIx, dFlat, isV, dIfE, dAndV, dOrV, dNotV, dChain, dgName, dgCons, dgNil, dgTup, dItSeq, dStr, dDisp, dpCons, dpNil,  dIsN, dCat, dRep, dListOf, dTupOf, dBs, dI1, dI2, dInt1, dDivmod, dTupD, dStrI, dInG, dIxG, dFld, dCall, dCall0, dCallF, dCallF0, dCallX, dCallX0, dCallXF0, dMeth, dMethX, dProp, dProp.isC, isI, dAug, dNeg, dUn, dEnum, dEnumB, dEnumS, dZip, dRng1, dRng2, dDGet, dDGet1, dDGet2, dDIn, dGetR, isDk, asB, nb, opt, bIf_t, bIf_f, not_t, not_f, Option.getD_some, Option.getD_none, List.lookup, dRaise, dRaise0, dFor, dgSeq, dDPut, dPutR, dOwn, dOwnE, mAppend, mExtend, mInsert, mPop, mPopAt, asL, dSetOwn, dSetIx, dDUpd, dDUpd.isOwnK, dDSetT, dDSetT.isOwnT, dFldO, dSlL, dSlS, dSlT, dPart, dNoPart, dJoin, dSplit, dCatTE, dDictZip, dIs, dSortS, dBool1, at_0, put_0, at_1, put_1, at_2, put_2, at_3, put_3, at_4, put_4, at_5, put_5, at_6, put_6, at_7, put_7, at_8, put_8, at_9, put_9, at_10, put_10, at_11, put_11, at_12, put_12, at_13, put_13, at_14, put_14, at_15, put_15, at_16, put_16, at_17, put_17, at_18, put_18, at_19, put_19, at_20, put_20, at_21, put_21, at_22, put_22, at_23, put_23, at_24, put_24, at_25, put_25, ty_non, ty_bl, ty_int, ty_str, ty_lst, ty_tup, ty_ctup, ty_ftup, ty_dK, ty_dT, sub_non_non, sub_non_bl, sub_non_int, sub_non_str, sub_non_lst, sub_non_tup, sub_non_dic, sub_bl_non, sub_bl_bl, sub_bl_int, sub_bl_str, sub_bl_lst, sub_bl_tup, sub_bl_dic, sub_int_non, sub_int_bl, sub_int_int, sub_int_str, sub_int_lst, sub_int_tup, sub_int_dic, sub_str_non, sub_str_bl, sub_str_int, sub_str_str, sub_str_lst, sub_str_tup, sub_str_dic, sub_lst_non, sub_lst_bl, sub_lst_int, sub_lst_str, sub_lst_lst, sub_lst_tup, sub_lst_dic, sub_tup_non, sub_tup_bl, sub_tup_int, sub_tup_str, sub_tup_lst, sub_tup_tup, sub_tup_dic, sub_dic_non, sub_dic_bl, sub_dic_int, sub_dic_str, sub_dic_lst, sub_dic_tup, sub_dic_dic, seq_non, seq_bl, seq_int, seq_str, seq_lst, seq_tup, seq_ctup, seq_ftup, seq_dK, seq_dT, key_int, key_str, or_tt, or_ft, aI_1_0, aI_1_l, aI_2_0, aI_2_1, aI_2_l, aI_3_0, aI_3_1, aI_3_2, aI_3_l, aI_4_0, aI_4_1, aI_4_2, aI_4_3, aI_4_l, aI_5_0, aI_5_1, aI_5_2, aI_5_3, aI_5_4, aI_5_l, aI_6_0, aI_6_1, aI_6_2, aI_6_3, aI_6_4, aI_6_5, aI_6_l])
/-! the same reading, where == and [] are left standing -/
local macro_rules | `(tactic| walk_at "drx") => `(tactic| try dsimp only [dSeq, dPar, dPar3, dTry, dIfS, dOr, dAnd, dNot, dTest, dIsi, dIsi2, dVar, dVarB, dC, dOp, dI0, dI, dCB, dCons, dNil,  dLc, wipe_1, wipe_2, wipe_3, wipe_4, wipe_5, mapc, mapn, dRet, dSet, dSetO, dNext, dAsg, dDrop, dTup, dLst,  dFlat, isV, dIfE, dAndV, dOrV, dNotV, dChain, dgName, dgCons, dgNil, dgTup, dItSeq, dStr, dDisp, dpCons, dpNil,  dIsN, dCat, dRep, dListOf, dTupOf, dBs, dI1, dI2, dInt1, dDivmod, dTupD, dStrI, dInG, dIxG, dFld, dCall, dCall0, dCallF, dCallF0, dCallX, dCallX0, dCallXF0, dMeth, dMethX, dProp, dProp.isC, isI, dAug, dNeg, dUn, dEnum, dEnumB, dEnumS, dZip, dRng1, dRng2, dDGet, dDGet1, dDGet2, dDIn, dGetR, isDk, asB, nb, opt, bIf_t, bIf_f, not_t, not_f, Option.getD_some, Option.getD_none, List.lookup, dRaise, dRaise0, dFor, dgSeq, dDPut, dPutR, dOwn, dOwnE, mAppend, mExtend, mInsert, mPop, mPopAt, asL, dSetOwn, dSetIx, dDUpd, dDUpd.isOwnK, dDSetT, dDSetT.isOwnT, dFldO, dSlL, dSlS, dSlT, dPart, dNoPart, dJoin, dSplit, dCatTE, dDictZip, dIs, dSortS, dBool1, at_0, put_0, at_1, put_1, at_2, put_2, at_3, put_3, at_4, put_4, at_5, put_5, at_6, put_6, at_7, put_7, at_8, put_8, at_9, put_9, at_10, put_10, at_11, put_11, at_12, put_12, at_13, put_13, at_14, put_14, at_15, put_15, at_16, put_16, at_17, put_17, at_18, put_18, at_19, put_19, at_20, put_20, at_21, put_21, at_22, put_22, at_23, put_23, at_24, put_24, at_25, put_25, ty_non, ty_bl, ty_int, ty_str, ty_lst, ty_tup, ty_ctup, ty_ftup, ty_dK, ty_dT, sub_non_non, sub_non_bl, sub_non_int, sub_non_str, sub_non_lst, sub_non_tup, sub_non_dic, sub_bl_non, sub_bl_bl, sub_bl_int, sub_bl_str, sub_bl_lst, sub_bl_tup, sub_bl_dic, sub_int_non, sub_int_bl, sub_int_int, sub_int_str, sub_int_lst, sub_int_tup, sub_int_dic, sub_str_non, sub_str_bl, sub_str_int, sub_str_str, sub_str_lst, sub_str_tup, sub_str_dic, sub_lst_non, sub_lst_bl, sub_lst_int, sub_lst_str, sub_lst_lst, sub_lst_tup, sub_lst_dic, sub_tup_non, sub_tup_bl, sub_tup_int, sub_tup_str, sub_tup_lst, sub_tup_tup, sub_tup_dic, sub_dic_non, sub_dic_bl, sub_dic_int, sub_dic_str, sub_dic_lst, sub_dic_tup, sub_dic_dic, seq_non, seq_bl, seq_int, seq_str, seq_lst, seq_tup, seq_ctup, seq_ftup, seq_dK, seq_dT, key_int, key_str, or_tt, or_ft, aI_1_0, aI_1_l, aI_2_0, aI_2_1, aI_2_l, aI_3_0, aI_3_1, aI_3_2, aI_3_l, aI_4_0, aI_4_1, aI_4_2, aI_4_3, aI_4_l, aI_5_0, aI_5_1, aI_5_2, aI_5_3, aI_5_4, aI_5_l, aI_6_0, aI_6_1, aI_6_2, aI_6_3, aI_6_4, aI_6_5, aI_6_l])
theorem dIx_seq {d x : D} {es : List D} {i : Int} {R : D → Prop} (e : seqD d = some es) (h : atI es i = some x) (r : R x) : dIx d (eI i) R := by
  cases d with
  | lst ds => cases e; unfold dIx; exact opt_some h r
  | tup ds => cases e; unfold dIx; exact opt_some h r
  | ctup ds => cases e; unfold dIx; exact opt_some h r
  | ftup ds => cases e; unfold dIx; exact opt_some h r
  | _ => cases e
/-! ### the law's watches -/
def rulW (r : WRul) : D := .tup [eS r.st, .lst (r.gs.map eS), .lst (r.ws.map eS), eS r.nx]
structure WROk (zs ws : List Str) (r : WRul) : Prop where
  st : r.st ∈ zs
  nx : r.nx ∈ zs
  g1 : r.gs ≠ []
  g2 : r.gs.length ≤ 3
  g3 : ∀ g ∈ r.gs, g ∈ namesL ++ placesL
  w1 : r.ws ≠ []
  w2 : r.ws.length ≤ 2
  w3 : ∀ x ∈ r.ws, x ∈ ws ++ [("*" : Str)]
theorem lc_picks {w : List Sl} {vs : List Nat} {j : Nat} {de : DEt} {things : List Str} {c : Nat} {n lo : Int} {p : Addr} {R : List D → Int → Prop} (hc : c ≤ 100) (hT : things ≠ []) (hT2 : things.length < 1000000) (hn : n + c < 1000000)
    (h : ∀ (i n' : Int) (S : D → AS → Prop), (spPickD (some p) [sD p, .lst (things.map eS)] n' fun d n'' => S d (AS.put ⟨w, n'', some p⟩ j (.val (eI i)))) → de (AS.put ⟨w, n', some p⟩ j (.val (eI i))) S)
    (hw : ∀ i n' : Int, (dWipe (AS.put ⟨w, n', some p⟩ j (.val (eI i))) vs).sl = w) (k : ∀ gs : List Str, gs.length = c → (∀ g ∈ gs, g ∈ things) → R (gs.map eS) (n + c)) : dLcGo w vs (dgName j) (fun a R => R true a) de (some p) R (rngD lo c) [] n := by
  refine dLc_inv (fun i acc n' => ∃ gs : List Str, acc = gs.map eS ∧ gs.length = i ∧ (∀ g ∈ gs, g ∈ things) ∧ n' = n + i) ⟨[], rfl, rfl, (fun _ h => nomatch h), by show n = n + 0; omega⟩ ?_ ?_
  · rintro i d acc n' N hi ⟨gs, rfl, hl, hg, rfl⟩ hN
    obtain ⟨hi, rfl⟩ := rng_at hi
    refine h _ _ _ ⟨p, things.map eS, rfl, rfl, ⟨fun q => hT (List.map_eq_nil_iff.mp q), by rw [List.length_map]; exact Nat.lt_of_lt_of_le hT2 (by decide)⟩, by omega, fun g hg' => ?_⟩
    obtain ⟨g, hg'', rfl⟩ := List.mem_map.mp hg'
    refine ⟨hw _ _, by rw [List.length_map, hl]; exact Nat.lt_of_lt_of_le (by omega : i < 101) (by decide), hN _ _ ⟨gs ++ [g], by rw [List.map_append]; rfl, by rw [List.length_append, hl]; rfl, fun y hy => ?_, by show n + (i : Int) + 1 = n + ((i + 1 : Nat) : Int); omega⟩⟩
    rcases List.mem_append.mp hy with q | q
    · exact hg y q
    · rw [List.mem_singleton.mp q]
      exact hg''
  · rintro acc n' ⟨gs, rfl, hl, hg, rfl⟩
    rw [rng_len] at hl ⊢
    exact k gs hl hg
def spWRulesD : DSp := fspN 100000 (fun _ => 10000) (fun p (x : Nat × Nat × List Str) => [sD p, eI x.1, eI x.2.1, .lst (x.2.2.map eS)]) (fun x => 1 ≤ x.1 ∧ x.1 ≤ 16 ∧ 1 ≤ x.2.1 ∧ x.2.1 ≤ 100 ∧ x.2.2.length ≤ 100)
  (fun x y => ∃ zs rs, (∀ z ∈ zs, IsName z) ∧ zs.length ≤ x.1 ∧ rs ≠ [] ∧ rs.length ≤ x.2.1 ∧ (∀ r ∈ rs, WROk zs x.2.2 r) ∧ y = .lst (rs.map rulW)) id
theorem mon_law_watch_rules : Mon spWRulesD := fspN.mon
theorem ups_law_watch_rules (_ : Txt P w K mg) : Ups K (up K spWRulesD) spWRulesD := .rfl
theorem ok_law_watch_rules (T : Txt P w K mg) : FnOk P w K mg base CX0 4 T.f_law_watch_rules T.d_law_watch_rules ["_law_source_here", "_law_many", "_law_most", "_law_words"] (up K spWRulesD) := by
  refine T.F_law_watch_rules.ok sc_law_watch_rules (up_len fun sp ds n R h => ?_) (fun cdv A outer s H vs Q E hr h => ?_)
  · obtain ⟨_, _, _, rfl, _⟩ := h
    rfl
  obtain ⟨sp, F, ds, n, hs, src, L, p, ⟨many, most, ws⟩, rfl, rfl, ⟨m1, m2, m3, m4, m5⟩, hn, k⟩ := h
  refine d_run (N := ["_law_source_here", "_law_many", "_law_most", "_law_words", "_law_states", "_law_rules", "_law_k", "_law_state", "_law_names_here", "_law_groups", "_law_some", "_law_j"]) (sl := [Sl.val _, Sl.val _, Sl.val _, Sl.val _, Sl.emp, Sl.emp, Sl.emp, Sl.emp, Sl.emp, Sl.emp, Sl.emp, Sl.emp]) (dss_cons (ds_set (i := 4) (fun _ => sc_law_watch_rules.nd) (fun _ => rfl) (fun _ => Or.inl rfl) (de_call mon_law_names (ups_law_names T) (fun _ => ok_law_names T) (fun _ => (hr.mono (by decide))) (fun _ => by rfl) (fun _ => T.m_law_names) (fun _ => T.F_law_names.kp) (fun _ => T.b_law_names) (fun _ => pass0) (da_cons (dv 0) (da_cons (de_op dop_add (DX.b de_int) (DX.b (de_callF mon_law_draw (ups_law_draw T) (fun _ => ok_law_draw T) (fun _ => (hr.mono (by decide))) (fun _ => by rfl) (fun _ => T.m_law_draw) (fun _ => T.F_law_draw.kp) (fun _ => T.b_law_draw) (fun _ => pass0) (dab_cons (dbv 0) (dab_cons (dbv 1) dab_nil))))) da_nil))))
      (dss_cons (ds_setO (i := 5) (fun _ => sc_law_watch_rules.nd) (fun _ => rfl) (fun _ => Or.inl rfl) (do_lst da_nil))
      (dss_cons (ds_for (fun _ => PassesOwn.never) (fun _ => rfl) (di_range1 (fun _ => by rfl) (fun _ => T.m_range) (dab_cons (DX.b (de_op dop_add (DX.b de_int) (DX.b (de_callF mon_law_draw (ups_law_draw T) (fun _ => ok_law_draw T) (fun _ => (hr.mono (by decide))) (fun _ => by rfl) (fun _ => T.m_law_draw) (fun _ => T.F_law_draw.kp) (fun _ => T.b_law_draw) (fun _ => pass0) (dab_cons (dbv 0) (dab_cons (dbv 2) dab_nil)))))) dab_nil)) (dg_name (i := 6) (fun _ => sc_law_watch_rules.nd) (fun _ => rfl) (fun _ => Or.inl rfl))
      (dss_cut (ds_set (i := 7) (fun _ => sc_law_watch_rules.nd) (fun _ => rfl) (fun _ => Or.inl rfl) (de_ifExp (dt_cmp (dop_eq (fun _ => hr.units)) (dbv 6) (DX.b de_int) (nomark _)) (de_ix (dv 4) (DX.b de_int) (fun _ _ => rfl)) (de_call mon_law_pick (ups_law_pick T) (fun _ => ok_law_pick T) (fun _ => (hr.mono (by decide))) (fun _ => by rfl) (fun _ => T.m_law_pick) (fun _ => T.F_law_pick.kp) (fun _ => T.b_law_pick) (fun _ => pass0) (da_cons (dv 0) (da_cons (dv 4) da_nil)))))
      (dss_cons (ds_set (i := 8) (fun _ => sc_law_watch_rules.nd) (fun _ => rfl) (fun _ => Or.inr rfl) (DO.x (do_cat (DO.x (do_slL (de_call00 mon_law_group_names (ups_law_group_names T) (fun _ => ok_law_group_names T) (fun _ => (hr.mono (by decide))) (fun _ => by rfl) (fun _ => T.m_law_group_names) (fun _ => T.F_law_group_names.kp) (fun _ => T.b_law_group_names) (fun _ => pass0)) dpo_none (dpo_some (DX.b de_int)))) (de_call00 mon_law_places (ups_law_places T) (fun _ => ok_law_places T) (fun _ => (hr.mono (by decide))) (fun _ => by rfl) (fun _ => T.m_law_places) (fun _ => T.F_law_places.kp) (fun _ => T.b_law_places) (fun _ => pass0)))))
      (dss_cut (ds_setLc (i := 9) (own := [("_law_j", 11)]) (fun _ => rfl) (fun _ => sc_law_watch_rules.nd) (fun _ => rfl) (fun _ => rfl) (fun _ => sw_true rfl rfl rfl (by decide +kernel)) (di_range1 (fun _ => by rfl) (fun _ => T.m_range) (dab_cons (DX.b (de_op dop_add (DX.b de_int) (DX.b (de_callF mon_law_draw (ups_law_draw T) (fun _ => ok_law_draw T) (fun _ => (hr.mono (by decide))) (fun _ => by rfl) (fun _ => T.m_law_draw) (fun _ => T.F_law_draw.kp) (fun _ => T.b_law_draw) (fun _ => pass0) (dab_cons (dbv 0) (dab_cons (DX.b de_int) dab_nil)))))) dab_nil)) (fun _ => blkOk_by (own := [("_law_j", 11)]) (N := ["_law_source_here", "_law_many", "_law_most", "_law_words", "_law_states", "_law_rules", "_law_k", "_law_state", "_law_names_here", "_law_groups", "_law_some", "_law_j"]) (sc := defScope s_law_watch_rules) (by decide +kernel)) (dg_name (i := 11) (fun _ => sc_law_watch_rules.nd) (fun _ => rfl) (fun _ => Or.inl rfl)) dts_nil (de_call mon_law_pick (ups_law_pick T) (fun _ => ok_law_pick T) (fun _ => (hr.mono (by decide))) (fun _ => by rfl) (fun _ => T.m_law_pick) (fun _ => T.F_law_pick.kp) (fun _ => T.b_law_pick) (fun _ => pass0) (da_cons (dv 0) (da_cons (dv 8) da_nil))))
      (dss_cut (ds_if (dt_cmp (dop_eq (fun _ => hr.units)) (DX.b (de_callF mon_law_draw (ups_law_draw T) (fun _ => ok_law_draw T) (fun _ => (hr.mono (by decide))) (fun _ => by rfl) (fun _ => T.m_law_draw) (fun _ => T.F_law_draw.kp) (fun _ => T.b_law_draw) (fun _ => pass0) (dab_cons (dbv 0) (dab_cons (DX.b de_int) dab_nil)))) (DX.b de_int) (nomark _))
      (dss_one (ds_set (i := 9) (fun _ => sc_law_watch_rules.nd) (fun _ => rfl) (fun _ => Or.inl rfl) (de_ix (DO.x (do_lst (da_cons (DO.x (do_lst (da_cons de_str da_nil))) (da_cons (DO.x (do_cat (DO.x (do_lst (da_cons de_str da_nil))) (dv 9))) (da_cons (DO.x (do_cat (dv 9) (DO.x (do_lst (da_cons de_str da_nil))))) da_nil))))) (DX.b (de_callF mon_law_draw (ups_law_draw T) (fun _ => ok_law_draw T) (fun _ => (hr.mono (by decide))) (fun _ => by rfl) (fun _ => T.m_law_draw) (fun _ => T.F_law_draw.kp) (fun _ => T.b_law_draw) (fun _ => pass0) (dab_cons (dbv 0) (dab_cons (DX.b de_int) dab_nil)))) (fun _ _ => rfl))))
      dss_nil)
      (dss_cut (ds_setLc (i := 10) (own := [("_law_j", 11)]) (fun _ => rfl) (fun _ => sc_law_watch_rules.nd) (fun _ => rfl) (fun _ => rfl) (fun _ => sw_true rfl rfl rfl (by decide +kernel)) (di_range1 (fun _ => by rfl) (fun _ => T.m_range) (dab_cons (DX.b (de_op dop_add (DX.b de_int) (DX.b (de_callF mon_law_draw (ups_law_draw T) (fun _ => ok_law_draw T) (fun _ => (hr.mono (by decide))) (fun _ => by rfl) (fun _ => T.m_law_draw) (fun _ => T.F_law_draw.kp) (fun _ => T.b_law_draw) (fun _ => pass0) (dab_cons (dbv 0) (dab_cons (DX.b de_int) dab_nil)))))) dab_nil)) (fun _ => blkOk_by (own := [("_law_j", 11)]) (N := ["_law_source_here", "_law_many", "_law_most", "_law_words", "_law_states", "_law_rules", "_law_k", "_law_state", "_law_names_here", "_law_groups", "_law_some", "_law_j"]) (sc := defScope s_law_watch_rules) (by decide +kernel)) (dg_name (i := 11) (fun _ => sc_law_watch_rules.nd) (fun _ => rfl) (fun _ => Or.inl rfl)) dts_nil (de_call mon_law_pick (ups_law_pick T) (fun _ => ok_law_pick T) (fun _ => (hr.mono (by decide))) (fun _ => by rfl) (fun _ => T.m_law_pick) (fun _ => T.F_law_pick.kp) (fun _ => T.b_law_pick) (fun _ => pass0) (da_cons (dv 0) (da_cons (DO.x (do_cat (dv 3) (DO.x (do_lst (da_cons de_str da_nil))))) da_nil))))
      (dss_one (ds_own (i := 5) PySem.F.plainAttrs_list PySem.F.slot_list_append PySem.F.type_list_append (fun _ => mt_append) lm_append (fun _ => pv 5) (da_cons (de_tup (da_cons (dv 7) (da_cons (dv 9) (da_cons (dv 10) (da_cons (de_call mon_law_pick (ups_law_pick T) (fun _ => ok_law_pick T) (fun _ => (hr.mono (by decide))) (fun _ => by rfl) (fun _ => T.m_law_pick) (fun _ => T.F_law_pick.kp) (fun _ => T.b_law_pick) (fun _ => pass0) (da_cons (dv 0) (da_cons (dv 4) da_nil))) da_nil))))) da_nil)))))))))
      (dss_one (ds_ret (dv 5)))))) hs src L rfl ?_
  replace hn : n < 100000 := hn
  replace m1 : 1 ≤ many := m1
  replace m2 : many ≤ 16 := m2
  replace m3 : 1 ≤ most := m3
  replace m4 : most ≤ 100 := m4
  replace m5 : ws.length ≤ 100 := m5
  have fin : ∀ zs rs (m : Int), (∀ z ∈ zs, IsName z) → zs.length ≤ many → rs ≠ [] → rs.length ≤ most → (∀ r ∈ rs, WROk zs ws r) → m ≤ n + 10000 → ∃ m', m ≤ m' ∧ Post K (some p) F H Q (.lst (rs.map rulW)) m' := fun zs rs m a b c d e f => ⟨n + 10000, f, k _ ⟨zs, rs, a, b, c, d, e, rfl⟩⟩
  walk_at "dre"
  refine ⟨p, many, rfl, rfl, ⟨by omega, by omega⟩, by omega, fun d0 ⟨a0, a1⟩ => ⟨rfl, ?_⟩⟩
  walk_at "dre"
  refine ⟨p, (1 + d0).toNat, rfl, by show [sD p, eI (1 + d0)] = [sD p, eI ((1 + d0).toNat : Int)]; rw [show ((1 + d0).toNat : Int) = 1 + d0 by omega], by omega, by show n + 1 < 800000; omega, fun zs ⟨z1, z2, z3⟩ => ⟨by show 0 ≤ sizeLine; decide, p, most, rfl, rfl, ⟨by omega, by omega⟩, by show n + 1 + 10 * ((1 + d0).toNat : Int) < 1000000; omega, fun d1 ⟨b0, b1⟩ => ⟨rfl, ?_⟩⟩⟩
  walk_at "dre"
  have hz : zs ≠ [] := fun q => by rw [q] at z1; simp only [List.length_nil] at z1; omega
  have big : (1000000 : Nat) < 16777216 := by decide
  have gm : ∀ g ∈ grpNames, g ∈ namesL ++ placesL := fun g h => (List.mem_append.mp h).elim (fun z => List.mem_append_left _ (List.mem_of_mem_take z)) fun z => List.mem_append_right _ z
  refine ⟨⟨by omega, by omega⟩, dLoop_rng (fun i a => ∃ (rs : List WRul) (m : Int) (v6 v7 v8 v9 v10 : Sl), a = ⟨[.val (sD p), .val (eI many), .val (eI most), .val (.lst (ws.map eS)), .val (.lst (zs.map eS)), .own (.lst (rs.map rulW)), v6, v7, v8, v9, v10, .emp], m, some p⟩ ∧ rs.length = i ∧ m ≤ n + 200 + 20 * i ∧ ∀ r ∈ rs, WROk zs ws r) ⟨[], _, _, _, _, _, _, rfl, rfl, by show n + 1 + 10 * ((1 + d0).toNat : Int) + 1 ≤ n + 200 + 20 * ((0 : Nat) : Int); omega, fun _ h => nomatch h⟩ ?_ ?_⟩
  · rintro i a N hi ⟨rs, m, v6, v7, v8, v9, v10, rfl, hl, hm, hrs⟩ hN
    have hi' : i < 100 := by omega
    walk_at "dre"
    refine cutI (fun a => ∃ z m, z ∈ zs ∧ m ≤ n + 200 + 20 * (i : Int) + 1 ∧ a = ⟨[.val (sD p), .val (eI many), .val (eI most), .val (.lst (ws.map eS)), .val (.lst (zs.map eS)), .own (.lst (rs.map rulW)), .val (eI (0 + (i : Int))), .val (eS z), v8, v9, v10, .emp], m, some p⟩) ?_ ?_
    · walk_at "dr"
      refine ⟨rfl, bif_d (fun a1 => ⟨rfl, ?_⟩) fun a1 => ?_⟩
      · cases zs with
        | nil => exact absurd rfl hz
        | cons z zs => exact opt_some (atI_0 _ _) ⟨z, m, List.mem_cons_self, by omega, rfl⟩
      · refine ⟨p, zs.map eS, rfl, rfl, ⟨fun q => hz (List.map_eq_nil_iff.mp q), by rw [List.length_map]; omega⟩, by omega, fun y hy => ?_⟩
        obtain ⟨z, hz', rfl⟩ := List.mem_map.mp hy
        exact ⟨z, m + 1, hz', by omega, rfl⟩
    rintro _ ⟨z, m', hzz, hm', rfl⟩
    walk_at "dre"
    refine ⟨(), rfl, trivial, fun l1 e1 => ⟨(), rfl, trivial, fun l2 e2 => ?_⟩⟩
    subst e1 e2
    have el : D.lst (cutD (List.map eS namesL) none (some 8) ++ List.map eS placesL) = .lst (grpNames.map eS) := by
      rw [cut_names, ← List.map_append]
      rfl
    refine ⟨by decide, ?_⟩
    rw [el]
    refine cutI (fun a => ∃ gs m, gs ≠ [] ∧ gs.length ≤ 2 ∧ (∀ g ∈ gs, g ∈ grpNames) ∧ m ≤ n + 200 + 20 * (i : Int) + 5 ∧ a = ⟨[.val (sD p), .val (eI many), .val (eI most), .val (.lst (ws.map eS)), .val (.lst (zs.map eS)), .own (.lst (rs.map rulW)), .val (eI (0 + (i : Int))), .val (eS z), .val (.lst (grpNames.map eS)), .val (.lst (gs.map eS)), v10, .emp], m, some p⟩) ?_ ?_
    · walk_at "dr"
      refine ⟨p, 2, rfl, rfl, ⟨by decide, by decide⟩, by omega, fun d2 ⟨c0, c1⟩ => ⟨rfl, ⟨by omega, by omega⟩, ?_⟩⟩
      refine lc_picks (things := grpNames) (c := (1 + d2).toNat) (by omega) (by decide) (by decide) (by show m' + 1 + _ < _; omega) (fun i n' S h => h) (fun _ _ => rfl) fun gs g1 g2 => ⟨gs, _, fun q => ?_, by omega, g2, ?_, rfl⟩
      · rw [q] at g1
        simp only [List.length_nil] at g1
        omega
      · show m' + 1 + ((1 + d2).toNat : Int) ≤ _
        omega
    rintro _ ⟨gs, m2, g1, g2, g3, hm2, rfl⟩
    refine cutI (fun a => ∃ gs m, gs ≠ [] ∧ gs.length ≤ 3 ∧ (∀ g ∈ gs, g ∈ namesL ++ placesL) ∧ m ≤ n + 200 + 20 * (i : Int) + 8 ∧ a = ⟨[.val (sD p), .val (eI many), .val (eI most), .val (.lst (ws.map eS)), .val (.lst (zs.map eS)), .own (.lst (rs.map rulW)), .val (eI (0 + (i : Int))), .val (eS z), .val (.lst (grpNames.map eS)), .val (.lst (gs.map eS)), v10, .emp], m, some p⟩) ?_ ?_
    · walk_at "dre"
      have nn : ∀ g ∈ gs, g ∈ namesL ++ placesL := fun g h => gm g (g3 g h)
      have n0 : ("none" : Str) ∈ namesL ++ placesL := by decide
      have z100 : (100 : Nat) ≤ sizeLine := by decide
      have lg : (gs.map eS).length ≤ 2 := by rw [List.length_map]; exact g2
      refine ⟨p, 6, rfl, rfl, ⟨by decide, by decide⟩, by omega, fun d3 ⟨c0, c1⟩ => ⟨rfl, ?_⟩⟩
      walk_at "dr"
      refine ⟨rfl, bif_d (fun a1 => ?_) fun a1 => ⟨gs, _, g1, by omega, nn, by show m2 + 1 ≤ _; omega, rfl⟩⟩
      refine ⟨by show 1 ≤ sizeLine; decide, by show 1 ≤ sizeLine; decide, by show 1 + (gs.map eS).length ≤ sizeLine; omega, by show 1 ≤ sizeLine; decide, by show (gs.map eS).length + 1 ≤ sizeLine; omega, by show 3 ≤ sizeLine; decide, p, 3, rfl, rfl, ⟨by decide, by decide⟩, by show m2 + 1 < 1000000; omega, fun d4 ⟨e0, e1⟩ => ⟨rfl, rfl, ?_⟩⟩
      rcases (by omega : d4 = 0 ∨ d4 = 1 ∨ d4 = 2) with rfl | rfl | rfl
      · exact ⟨[("none" : Str)], _, by simp, by decide, fun g h => by rw [List.mem_singleton.mp h]; exact n0, by show m2 + 1 + 1 ≤ _; omega, rfl⟩
      · exact ⟨("none" : Str) :: gs, _, by simp, by rw [List.length_cons]; omega, fun g h => (List.mem_cons.mp h).elim (fun q => by rw [q]; exact n0) (nn g), by show m2 + 1 + 1 ≤ _; omega, rfl⟩
      · exact ⟨gs ++ [("none" : Str)], _, by simp, by rw [List.length_append, List.length_singleton]; omega, fun g h => (List.mem_append.mp h).elim (nn g) (fun q => by rw [List.mem_singleton.mp q]; exact n0), by show m2 + 1 + 1 ≤ _; omega, by rw [List.map_append]; rfl⟩
    rintro _ ⟨gs, m3, g1, g2, g3, hm3, rfl⟩
    refine cutI (fun a => ∃ ss m, ss ≠ [] ∧ ss.length ≤ 2 ∧ (∀ x ∈ ss, x ∈ ws ++ [("*" : Str)]) ∧ m ≤ n + 200 + 20 * (i : Int) + 12 ∧ a = ⟨[.val (sD p), .val (eI many), .val (eI most), .val (.lst (ws.map eS)), .val (.lst (zs.map eS)), .own (.lst (rs.map rulW)), .val (eI (0 + (i : Int))), .val (eS z), .val (.lst (grpNames.map eS)), .val (.lst (gs.map eS)), .val (.lst (ss.map eS)), .emp], m, some p⟩) ?_ ?_
    · walk_at "dr"
      refine ⟨p, 2, rfl, rfl, ⟨by decide, by decide⟩, by omega, fun d2 ⟨c0, c1⟩ => ⟨rfl, ⟨by omega, by omega⟩, ?_⟩⟩
      refine lc_picks (things := ws ++ [("*" : Str)]) (c := (1 + d2).toNat) (by omega) (by simp) (by rw [List.length_append, List.length_singleton]; omega) (by show m3 + 1 + _ < _; omega) (fun i n' S h => ⟨by show 1 ≤ sizeLine; decide, by rw [List.length_map]; exact Nat.le_trans (show ws.length + 1 ≤ 101 by omega) (by decide), ?_⟩) (fun _ _ => rfl) fun gs g1 g2 => ⟨gs, _, fun q => ?_, by omega, g2, ?_, rfl⟩
      · rw [List.map_append] at h
        exact h
      · rw [q] at g1
        simp only [List.length_nil] at g1
        omega
      · show m3 + 1 + ((1 + d2).toNat : Int) ≤ _
        omega
    rintro _ ⟨ss, m4, s1, s2, s3, hm4, rfl⟩
    walk_at "dr"
    refine ⟨p, zs.map eS, rfl, rfl, ⟨fun q => hz (List.map_eq_nil_iff.mp q), by rw [List.length_map]; omega⟩, by omega, fun y hy => ?_⟩
    obtain ⟨nx, hnx, rfl⟩ := List.mem_map.mp hy
    refine ⟨by show 4 ≤ sizeLine; decide, by rw [List.length_map, hl]; exact Nat.lt_of_lt_of_le hi' (by decide), hN _ ⟨rs ++ [⟨z, gs, ss, nx⟩], m4 + 1, _, _, _, _, _, by rw [List.map_append]; rfl, by rw [List.length_append, hl]; rfl, by omega, fun r hr => ?_⟩⟩
    rcases List.mem_append.mp hr with q | q
    · exact hrs r q
    · rw [List.mem_singleton.mp q]
      exact ⟨hzz, hnx, g1, g2, g3, s1, s2, s3⟩
  · rintro a ⟨rs, m, v6, v7, v8, v9, v10, rfl, hl, hm, hrs⟩
    walk_at "dr"
    exact fin zs rs m z2 (by omega) (fun q => by rw [q] at hl; simp only [List.length_nil] at hl; omega) (by omega) hrs (by omega)
--SPLIT
/-! ### the states and the rules that _law_rules makes, as a loop takes them -/
theorem addS_mem {acc : List Str} {z y : Str} (h : y ∈ addS acc z) : y ∈ acc ∨ y = z := by
  unfold addS at h
  split at h
  · exact .inl h
  · exact (List.mem_append.mp h).imp id List.mem_singleton.mp
theorem addS_nd {acc : List Str} {z : Str} (h : acc.Nodup) : (addS acc z).Nodup := by
  unfold addS
  split
  · exact h
  · rename_i q
    exact nd_snoc h q
theorem states_in {zs : List Str} : ∀ (rs : List Rul) (acc : List Str), acc.Nodup → (∀ y ∈ acc, y ∈ zs) → (∀ r ∈ rs, r.st ∈ zs ∧ r.nx ∈ zs) →
    (rs.foldl (fun acc r => addS (addS acc r.st) r.nx) acc).Nodup ∧ ∀ y ∈ rs.foldl (fun acc r => addS (addS acc r.st) r.nx) acc, y ∈ zs
  | [], acc, nd, h, _ => ⟨nd, h⟩
  | r :: rs, acc, nd, h, hr => by
    rw [List.foldl_cons]
    have h1 := hr r List.mem_cons_self
    refine states_in rs _ (addS_nd (addS_nd nd)) (fun y hy => ?_) fun q hq => hr q (List.mem_cons_of_mem _ hq)
    rcases addS_mem hy with hy | rfl
    · rcases addS_mem hy with hy | rfl
      · exact h y hy
      · exact h1.1
    · exact h1.2
theorem nd_le : ∀ {l zs : List Str}, l.Nodup → (∀ y ∈ l, y ∈ zs) → l.length ≤ zs.length
  | [], _, _, _ => Nat.zero_le _
  | a :: r, zs, nd, h => by
    obtain ⟨n1, n2⟩ := List.nodup_cons.mp nd
    have ha := h a List.mem_cons_self
    have ih := nd_le (l := r) (zs := zs.erase a) n2 fun y hy => (List.mem_erase_of_ne (fun (e : y = a) => n1 (by rw [← e]; exact hy))).mpr (h y (List.mem_cons_of_mem _ hy))
    rw [List.length_erase_of_mem ha] at ih
    have := List.length_pos_of_mem ha
    rw [List.length_cons]
    omega
theorem states_ok {zs : List Str} {rs : List Rul} (h : ∀ r ∈ rs, r.st ∈ zs ∧ r.nx ∈ zs) : (∀ y ∈ statesOf rs, y ∈ zs) ∧ (statesOf rs).length ≤ zs.length := by
  have q := states_in (zs := zs) rs [] List.nodup_nil (fun y hy => nomatch hy) h
  exact ⟨q.2, nd_le q.1 q.2⟩
theorem addS_has (acc : List Str) (z : Str) : z ∈ addS acc z := by
  unfold addS
  split
  · rename_i q
    exact q
  · exact List.mem_append_right _ (List.mem_singleton.mpr rfl)
theorem addS_keep {acc : List Str} {z y : Str} (h : y ∈ acc) : y ∈ addS acc z := by
  unfold addS
  split
  · exact h
  · exact List.mem_append_left _ h
theorem states_keep {y : Str} : ∀ (rs : List Rul) (acc : List Str), y ∈ acc → y ∈ rs.foldl (fun acc r => addS (addS acc r.st) r.nx) acc
  | [], _, h => h
  | r :: rs, acc, h => by
    rw [List.foldl_cons]
    exact states_keep rs _ (addS_keep (addS_keep h))
theorem states_pos (r : Rul) (rs : List Rul) : 0 < (statesOf (r :: rs)).length := by
  refine List.length_pos_of_mem (a := r.st) ?_
  show r.st ∈ (r :: rs).foldl _ []
  rw [List.foldl_cons]
  exact states_keep rs _ (addS_keep (addS_has _ _))
theorem words_name : ∀ z ∈ wordsL, nameB z = true := by decide +kernel
theorem names_grp : ∀ g ∈ namesL ++ placesL, grpB g = true := by decide +kernel
theorem RuleOk.v {zs : List Str} {b : Bool} {r : Rul} (hz : ∀ z ∈ zs, IsName z) (h : RuleOk zs b r) : RulV r :=
  ⟨hz _ h.st, nameB_iff.mp (words_name _ h.wd), hz _ h.nx, h.gs.ne, Nat.le_trans h.gs.len (by decide), fun g hg => names_grp g (h.gs.mem g hg)⟩
theorem RulesOk.all1 {zs : List Str} {r0 : Rul} {rs : List Rul} (h : RulesOk zs r0 rs) : ∀ r ∈ r0 :: rs, RuleOk zs false r := fun r hr => by
  rcases List.mem_cons.mp hr with rfl | q
  · exact h.head.any
  · exact h.all r q
theorem RulesOk.v {zs : List Str} {r0 : Rul} {rs : List Rul} (h : RulesOk zs r0 rs) (hz : zs.length ≤ 6) (hl : rs.length < 40) : RulsV (r0 :: rs) :=
  ⟨fun r hr => (h.all1 r hr).v h.name, by rw [List.length_cons]; omega, by rw [List.length_cons]; omega, Nat.le_trans (states_ok (zs := zs) fun r hr => ⟨(h.all1 r hr).st, (h.all1 r hr).nx⟩).2 hz⟩
theorem RulesOk.stn {zs : List Str} {r0 : Rul} {rs : List Rul} (h : RulesOk zs r0 rs) : ∀ y ∈ statesOf (r0 :: rs), IsName y := fun y hy =>
  h.name y ((states_ok (zs := zs) fun r hr => ⟨(h.all1 r hr).st, (h.all1 r hr).nx⟩).1 y hy)
/-! ### the law's states -/
/-- each once, in the order of the first -/
def uniqS (l : List Str) : List Str := l.foldl addS []
theorem addS_iff {acc : List Str} {z y : Str} : y ∈ addS acc z ↔ y ∈ acc ∨ y = z := by
  unfold addS
  split
  · rename_i h
    exact ⟨.inl, fun q => q.elim id fun q => q ▸ h⟩
  · rw [List.mem_append, List.mem_singleton]
theorem uniq_mem {y : Str} (l : List Str) : y ∈ uniqS l ↔ y ∈ l := by
  have key : ∀ (l acc : List Str), y ∈ l.foldl addS acc ↔ y ∈ acc ∨ y ∈ l := fun l => by
    induction l with
    | nil => exact fun acc => ⟨.inl, fun q => q.elim id fun q => nomatch q⟩
    | cons a l ih =>
      intro acc
      rw [List.foldl_cons, ih, addS_iff, List.mem_cons]
      exact ⟨fun q => q.elim (fun q => q.elim .inl fun q => .inr (.inl q)) fun q => .inr (.inr q), fun q => q.elim (fun q => .inl (.inl q)) fun q => q.elim (fun q => .inl (.inr q)) .inr⟩
  rw [uniqS, key]
  exact ⟨fun q => q.elim (fun q => nomatch q) id, .inr⟩
theorem addS_in {acc : List Str} {z : Str} (h : z ∈ acc) : addS acc z = acc := if_pos h
theorem uniq_app (l m : List Str) : uniqS (l ++ m) = m.foldl addS (uniqS l) := List.foldl_append
/-- two states, those that are new -/
theorem uniq_two (l : List Str) (a b : Str) : uniqS (l ++ [a, b].filter fun z => !decide (z ∈ l)) = addS (addS (uniqS l) a) b := by
  rw [uniq_app]
  by_cases ha : a ∈ l
  · rw [addS_in ((uniq_mem l).mpr ha)]
    by_cases hb : b ∈ l
    · rw [addS_in ((uniq_mem l).mpr hb)]
      simp [ha, hb]
    · simp [ha, hb]
  · by_cases hb : b ∈ l
    · rw [addS_in (acc := addS (uniqS l) a) (addS_iff.mpr (.inl ((uniq_mem l).mpr hb)))]
      simp [ha, hb]
    · simp [ha, hb]
theorem uniq_more {l : List Str} {i : Nat} {z : Str} (h : l[i]? = some z) : uniqS (l.take (i + 1)) = if z ∈ l.take i then uniqS (l.take i) else uniqS (l.take i) ++ [z] := by
  rw [take_more h, uniq_app]
  show addS (uniqS (l.take i)) z = _
  unfold addS
  by_cases q : z ∈ l.take i
  · rw [if_pos q, if_pos ((uniq_mem _).mpr q)]
  · rw [if_neg q, if_neg fun w => q ((uniq_mem _).mp w)]
def spWStatesD : DSp := fsp0 (fun ds : List D => [.lst ds]) (fun ds => (∀ d ∈ ds, isWRule d = true) ∧ ds.length ≤ 1000) (fun ds y => y = (wStates (ds.map wRulD)).map eS) D.lst
theorem mon_law_watch_states : Mon spWStatesD := fsp0.mon
theorem ups_law_watch_states (_ : Txt P w K mg) : Ups K (up K spWStatesD) spWStatesD := .rfl
theorem ok_law_watch_states (T : Txt P w K mg) : FnOk P w K mg base CX0 1 T.f_law_watch_states T.d_law_watch_states ["_law_rules"] (up K spWStatesD) := by
  refine T.F_law_watch_states.ok sc_law_watch_states (up_len fun sp ds n R h => ?_) (fun cdv A outer s H vs Q E hr h => ?_)
  · obtain ⟨_, rfl, _⟩ := h
    rfl
  obtain ⟨sp, F, ds, n, hs, src, L, rds, rfl, ⟨h1, h2⟩, k⟩ := h
  refine d_run (N := ["_law_rules", "_law_found", "_law_rule", "_law_k", "_law_state"]) (sl := [Sl.val _, Sl.emp, Sl.emp, Sl.emp, Sl.emp]) (dss_cons (ds_setO (i := 1) (fun _ => sc_law_watch_states.nd) (fun _ => rfl) (fun _ => Or.inr rfl) (do_lst da_nil))
      (dss_cons (ds_for (fun _ => PassesOwn.never) (fun _ => rfl) (di_seq (dv 0)) (dg_name (i := 2) (fun _ => sc_law_watch_states.nd) (fun _ => rfl) (fun _ => Or.inl rfl))
      (dss_one (ds_own (i := 1) PySem.F.plainAttrs_list PySem.F.slot_list_extend PySem.F.type_list_extend (fun _ => mt_extend) lm_extend (fun _ => pv 1) (da_cons (DO.x (do_lc (own := [("_law_state", 4)]) (fun _ => rfl) (fun _ => sc_law_watch_states.nd) (di_seq (de_tup (da_cons (de_ix (dv 2) (DX.b de_int) (fun _ _ => rfl)) (da_cons (de_ix (dv 2) (DX.b de_int) (fun _ _ => rfl)) da_nil)))) (fun _ => blkOk_by (own := [("_law_state", 4)]) (N := ["_law_rules", "_law_found", "_law_rule", "_law_k", "_law_state"]) (sc := defScope s_law_watch_states) (by decide +kernel)) (dg_name (i := 4) (fun _ => sc_law_watch_states.nd) (fun _ => rfl) (fun _ => Or.inl rfl)) (dts_one (dt_cmp (dop_notin (fun _ => hr65 hr)) (dbv 4) (dbv 1) (by rfl))) (dv 4))) da_nil))))
      (dss_one (ds_ret (DO.x (do_lc (own := [("_law_k", 3), ("_law_state", 4)]) (fun _ => rfl) (fun _ => sc_law_watch_states.nd) (di_enumB (fun _ => by rfl) (fun _ => T.m_enumerate) (da_cons (dv 1) da_nil)) (fun _ => blkOk_by (own := [("_law_k", 3), ("_law_state", 4)]) (N := ["_law_rules", "_law_found", "_law_rule", "_law_k", "_law_state"]) (sc := defScope s_law_watch_states) (by decide +kernel)) (dg_tup (fun _ => rfl) (dgs_cons (dg_name (i := 3) (fun _ => sc_law_watch_states.nd) (fun _ => rfl) (fun _ => Or.inl rfl)) (dgs_cons (dg_name (i := 4) (fun _ => sc_law_watch_states.nd) (fun _ => rfl) (fun _ => Or.inl rfl)) dgs_nil))) (dts_one (dt_cmp (dop_notin (fun _ => hr65 hr)) (dbv 4) (DX.b (DO.x (do_slL (dv 1) dpo_none (dpo_some (dbv 3))))) (by rfl))) (dv 4))))))) hs src L rfl ?_
  walk_at "dre"
  refine ⟨by decide, dLoop_inv (fun i a => ∃ (l : List Str) (v2 : Sl), a = ⟨[.val (.lst rds), .own (.lst (l.map eS)), v2, .emp, .emp], n, sp⟩ ∧ uniqS l = wStates ((rds.take i).map wRulD) ∧ l.length ≤ 2 * i) ⟨[], _, rfl, rfl, Nat.zero_le _⟩ ?_ ?_⟩
  · rintro i x a N hi ⟨l, v2, rfl, hu, hl⟩ hN
    have hil := (List.getElem?_eq_some_iff.mp hi).1
    obtain ⟨st, nx, g, v, gs, ws, q1, q2, q3, q4, q5, q6⟩ := isWRule_of (h1 x (List.mem_of_getElem? hi))
    walk_at "drx"
    refine ⟨rfl, dIx_seq q1 (x := eS st) rfl ⟨rfl, dIx_seq q1 (x := eS nx) rfl ⟨by show 2 ≤ sizeLine; decide, ?_⟩⟩⟩
    refine lc_filtc1 (f := eS) (xs := [st, nx]) (fun z => !decide (z ∈ l)) eS (by show 2 ≤ sizeLine; decide) (fun z _ S S' hS hS' => ?_) ?_
    · walk_at "dr"
      refine in_strs (l := l) rfl ?_
      walk_at "dr"
      exact bif_nd (fun a1 => hS _ rfl rfl (by rw [decide_eq_false a1]; rfl)) fun a1 => hS' _ rfl rfl (by rw [decide_eq_true a1]; rfl)
    · have z3000 : (3000 : Nat) ≤ sizeLine := by decide
      have hf := List.length_filter_le (fun z => !decide (z ∈ l)) [st, nx]
      have h2l : ([st, nx] : List Str).length = 2 := rfl
      refine ⟨by rw [List.length_map, List.length_map]; omega, hN _ ⟨l ++ [st, nx].filter (fun z => !decide (z ∈ l)), _, by rw [List.map_append], ?_, by rw [List.length_append]; omega⟩⟩
      rw [uniq_two, hu, wStates_more hi, q6]
  · rintro a ⟨l, v2, rfl, hu, hl⟩
    rw [List.take_length] at hu
    walk_at "drx"
    refine dLc_inv (fun i acc n' => acc = (uniqS (l.take i)).map eS ∧ n' = n) ⟨rfl, rfl⟩ ?_ ?_
    · rintro i d acc n' N hi ⟨rfl, rfl⟩ hN
      obtain ⟨x, hx, rfl⟩ := enumI_at hi
      rw [List.getElem?_map] at hx
      obtain ⟨z, hz, rfl⟩ := Option.map_eq_some_iff.mp hx
      have hil := (List.getElem?_eq_some_iff.mp hz).1
      have more := uniq_more hz
      have hul : (uniqS (l.take i)).length ≤ i := by
        have key : ∀ (m acc : List Str), (m.foldl addS acc).length ≤ acc.length + m.length := fun m => by
          induction m with
          | nil => exact fun acc => Nat.le_refl _
          | cons a m ih =>
            intro acc
            rw [List.foldl_cons, List.length_cons]
            have h1 := ih (addS acc a)
            have h2 := addS_len acc a
            omega
        have := key (l.take i) []
        rw [List.length_take, List.length_nil] at this
        unfold uniqS
        omega
      walk_at "dr"
      rw [Int.zero_add, cut_toD, ← List.map_take]
      refine ⟨rfl, in_strs (l := l.take i) rfl ?_⟩
      walk_at "dr"
      refine bif_nd (fun a1 => ⟨rfl, ?_, hN _ _ ⟨?_, rfl⟩⟩) fun a1 => ⟨rfl, hN _ _ ⟨?_, rfl⟩⟩
      · rw [List.length_map]
        exact Nat.lt_of_le_of_lt (show (uniqS (l.take i)).length ≤ 2000 by omega) (by decide)
      · rw [more, if_neg a1, List.map_append]
        rfl
      · rw [more, if_pos a1]
    · rintro acc n' ⟨rfl, rfl⟩
      rw [enumI_len, List.length_map, List.take_length, hu]
      exact ⟨n', Int.le_refl _, k _ rfl⟩
--SPLIT
/-! ### isinstance of an own class, == and != by an own __eq__ -/
/-- what isinstance asks of an own class -/
structure OCls (K : PySem.W.Frag) (C : Addr) : Prop where
  c : Cls K C
  ha : PySem.W.findIn K (.ref C) "__class__" = some (some (.builtin "object.__class__"))
  hn : PySem.W.specialIn K (.builtin "object.__class__") "__get__" = some (some (.builtin "getset_descriptor.__get__"))
  ht : PySem.W.takesIn K (.builtin "object.__class__") = some true
  hm : PySem.W.mroIn K C (.type "object") = some true
section
variable {K : PySem.W.Frag} {ω : Wp} {B : Bs K} {F F' F1 F2 G : Hp} {a a' a1 a2 : AS} {σ σ' : St} {H H' H1 H2 : Hp} {n : Int} {te : TE} {de da db : DEt} {ι : Type} {X : ι → Cx} {e e1 e2 o : Expr} {es : List Expr} {pos p p' : Pos} {dl dm : DAt} {k : Nat} {f C : Addr} {fd : FuncData} {ps : List Str} {s : Sp} {dsp : DSp} {E : XK} {y : Str}
/-- the class of a thing that is of a built-in one or of C -/
def clsB (K : PySem.W.Frag) (C : Addr) (b : Bool) : D → Prop
  | .ins C' _ => C' = C ∧ b = true
  | d => ∃ t, tyD d = some t ∧ PySem.W.kitOne K (.type t.nm) (.ref C) = some false ∧ b = false
def dIsO (K : PySem.W.Frag) (C : Addr) (de : DEt) : DEt := fun a R => de a fun d a' => ∃ b, clsB K C b d ∧ R (.v (.bl b)) a'
theorem clsB_ty {C : Addr} {b : Bool} {d : D} {x : V} (oc : OCls K C) (s : Same G H) (h : Dat K G d x) (i : clsB K C b d) : ∃ t, TyX K H x t ∧ PySem.W.kitOne K t (.ref C) = some b := by
  cases d with
  | ins C' fs =>
    obtain ⟨rfl, rfl⟩ := i
    obtain ⟨p, dx, vs, rfl, h1, h2⟩ := h
    exact ⟨_, .base (.ins (s _ _ h1) oc.c oc.ha oc.hn oc.ht oc.hm), by unfold PySem.W.kitOne; rw [if_pos (beq_self_eq_true _)]⟩
  | _ =>
    obtain ⟨t, e, q, rfl⟩ := i
    exact ⟨_, tyD_of s h e, q⟩
theorem de_isO (oc : OCls K C) (hg : ∀ j, Gl (X j) "isinstance") (hm : ∀ j, (X j).mg "isinstance" = none) (hg' : ∀ j, Gl (X j) y) (hm' : ∀ j, (X j).mg y = some (.ref C)) (ha : DB X K ω e de)
    (hd : (y == ("__debug__" : Str)) = false := by decide) (hs1 : ∀ j, starEach [e, .Name y p'] (X j).env = (false, eval e (X j).env) :: starEach [.Name y p'] (X j).env := by intro _; rfl) (hs2 : ∀ j, starEach [.Name y p'] (X j).env = (false, eval (.Name y p') (X j).env) :: starEach [] (X j).env := by intro _; rfl)
    (hpl : ∀ j, (backTo pos (starEach [.Name y p'] (X j).env)).any (·.1) = false := by intro _; rfl) (hK : ∀ j, (X j).K = K := by intro _; rfl) : DX X K ω (.Call (.Name "isinstance" p) [e, .Name y p'] [] pos) (dIsO K C de) := by
  obtain ⟨t, p1, l⟩ := ha
  refine ⟨tCB (rIsi K) (tCons t (tCons (tC (.ref C)) tNil)), fun j => by rw [← hK j]; exact pe_callB call_isi (hg j) (hm j) (by decide +kernel) (pa_cons (p1 j) (pa_cons (pe_glob (v := .ref C) (hg' j) (hm' j) rfl hd) pa_nil (hs2 j)) (hs1 j)) (by decide) (by decide) (hs1 j) (hpl j), fun B hω F a σ H Q R ok hd k => l B hω F a σ H _ _ ok hd fun v d F1 a1 H1 g1 q1 r1 => ?_⟩
  obtain ⟨b, i, r⟩ := r1
  obtain ⟨t, ty, kk⟩ := clsB_ty oc hs_same q1 i
  exact ⟨v, _, _, _, _, rfl, .own C, ty, kk, k _ (.v _) F1 a1 H1 g1 rfl r⟩
/-- what may stand on the right of == -/
def tyR (K : PySem.W.Frag) (C : Addr) : D → Prop
  | .tup _ => PySem.W.notFirst K C (.type "tuple") = true
  | .ins C' _ => PySem.W.notFirst K C (.ref C') = true
  | _ => False
theorem tyR_of {C : Addr} {d : D} {x : V} (s : Same G H) (h : Dat K G d x) (i : tyR K C d) : ∃ tb, TyL H x tb ∧ PySem.W.notFirst K C tb = true := by
  cases d with
  | tup ds =>
    obtain ⟨p, vs, rfl, h1, h2⟩ := h
    exact ⟨_, .tup (s _ _ h1), i⟩
  | ins C' fs =>
    obtain ⟨p, dx, vs, rfl, h1, h2⟩ := h
    exact ⟨_, .ins (s _ _ h1), i⟩
  | _ => exact i.elim
def dEqO (neg : Bool) (K : PySem.W.Frag) (C : Addr) (dsp : DSp) : DR := fun d e R => (∃ fs, d = .ins C fs) ∧ tyR K C e ∧ dsp none [d, e] 0 fun z _ => ∃ b, z = .v (.bl b) ∧ R (.v (.bl (nb neg b)))
theorem lr_eqO (neg : Bool) (mo : Mon dsp) (u : Ups K s dsp) {r : R2} (hr : ∀ x y H Q, (∃ (a dx : Addr) (fs : List (Str × V)) (tb : Value), x = .ref a ∧ H a = some (.ins C dx fs) ∧ TyL H y tb ∧ PySem.W.notFirst K C tb = true ∧ s [.ref a, y] H (fun v H' => ∃ b, v = .bl b ∧ Q (.bl (nb neg b)) H') E) → r x y H Q) : LR K ω r (dEqO neg K C dsp) := fun B hω F a σ H x y d e Q R ok hx hy hd k => by
  obtain ⟨⟨fs, rfl⟩, ty, hsp⟩ := hd
  obtain ⟨tb, tl, nf⟩ := tyR_of hs_same hy ty
  obtain ⟨p, dx, vs, rfl, h1, h2⟩ := hx
  refine hr _ _ _ _ ⟨p, dx, vs, tb, rfl, hs_same _ _ h1, tl, nf, u _ _ _ _ ⟨none, Hs B.sp H, [.ins C fs, e], 0, hs_same, (fun p e => nomatch e), .cons ⟨p, dx, vs, rfl, h1, h2⟩ (.cons hy .nil), mo _ _ _ _ _ (fun z n' r => ?_) hsp⟩⟩
  obtain ⟨b, rfl, r⟩ := r
  intro v F' H' x1 x2 x3 x4 x5 x6
  have hh : Same H H' := fun b o h => x3 b o (fun z => nomatch z) h
  exact ⟨b, x6, k _ (.v _) F H' (Go.call ok (Same.refl F) (fun b o h => hh _ _ (ok.fi.fh b o h)) (fun b o _ h => hh b o h) (fun b z => .inl z) fun p e => ⟨(ok.fi.sr p e).1, (ok.fi.sr p e).2.2.same hh⟩) rfl r⟩
theorem dop_eqO {CX : CXT} (mo : Mon dsp) (u : Ups K s dsp) (G : ∀ j, FnOk (X j).prog (X j).w (X j).K (X j).mg (X j).base CX k f fd ps s) (hs : PySem.W.findIn K (.ref C) "__eq__" = some (some (.ref f))) (hf : PySem.W.isFn K (.ref f) = true) (hb : Binds K fd ps []) (hx : ∀ j, Passes CX (X j) E) (hr : ∀ j, Room k (X j).A) (hK : ∀ j, (X j).K = K := by intro _; rfl) : DOpR X K ω (compareOp .Eq) (dEqO false K C dsp) :=
  ⟨rEqO K C s E, fun j => by rw [← hK j]; exact op_eqO (G j) (by rw [hK j]; exact hs) (by rw [hK j]; exact hf) (by rw [hK j]; exact hb) (hx j) (hr j), lr_eqO false mo u fun _ _ _ _ h => h⟩
theorem dop_neO {CX : CXT} (mo : Mon dsp) (u : Ups K s dsp) (G : ∀ j, FnOk (X j).prog (X j).w (X j).K (X j).mg (X j).base CX k f fd ps s) (hs : PySem.W.findIn K (.ref C) "__eq__" = some (some (.ref f))) (hf : PySem.W.isFn K (.ref f) = true) (hn : PySem.W.findIn K (.ref C) "__ne__" = some (some (.builtin "object.__ne__"))) (hm : PySem.W.mroIn K C (.type "object") = some true) (hb : Binds K fd ps []) (hx : ∀ j, Passes CX (X j) E) (hr : ∀ j, Room (k + 1) (X j).A) (hK : ∀ j, (X j).K = K := by intro _; rfl) : DOpR X K ω (compareOp .NotEq) (dEqO true K C dsp) :=
  ⟨rNeO K C s E, fun j => by rw [← hK j]; exact op_neO (G j) (by rw [hK j]; exact hs) (by rw [hK j]; exact hf) (by rw [hK j]; exact hn) (by rw [hK j]; exact hm) (by rw [hK j]; exact hb) (hx j) (hr j), lr_eqO true mo u fun _ _ _ _ h => h⟩
end
/-! ### a watch's properties, == -/
abbrev WtX := List D × List Str × List Str
abbrev wtD (C : Addr) (x : WtX) : D := watchD C x.1 x.2.1 x.2.2
def spWatchRulesD (C : Addr) : DSp := fsp0 (fun x : WtX => [wtD C x]) (fun _ => True) (fun x y => y = .tup x.1) id
theorem mon_Watch_rules {C : Addr} : Mon (spWatchRulesD C) := fsp0.mon
theorem ups_Watch_rules (T : Txt P w K mg) : Ups K (up K (spWatchRulesD T.C_Watch)) (spWatchRulesD T.C_Watch) := .rfl
theorem ok_Watch_rules (T : Txt P w K mg) : FnOk P w K mg base CX0 1 T.f_Watch_rules T.d_Watch_rules ["self"] (up K (spWatchRulesD T.C_Watch)) := by
  refine T.F_Watch_rules.ok sc_Watch_rules (up_len fun sp ds n R h => ?_) (fun cdv A outer s H vs Q E hr h => ?_)
  · obtain ⟨_, rfl, _⟩ := h
    rfl
  obtain ⟨sp, F, ds, n, hs, src, L, x, rfl, _, k⟩ := h
  refine d_run (N := ["self"]) (sl := [Sl.val _]) (dss_one (ds_ret (de_fld T.cl_Watch T.na_Watch_rules (dpv 0)))) hs src L rfl ?_
  exact ⟨rfl, n, Int.le_refl _, k _ rfl⟩
def spWatchStatesD (C : Addr) : DSp := fsp0 (fun x : WtX => [wtD C x]) (fun _ => True) (fun x y => y = .ftup (x.2.1.map eS)) id
theorem mon_Watch_states {C : Addr} : Mon (spWatchStatesD C) := fsp0.mon
theorem ups_Watch_states (T : Txt P w K mg) : Ups K (up K (spWatchStatesD T.C_Watch)) (spWatchStatesD T.C_Watch) := .rfl
theorem ok_Watch_states (T : Txt P w K mg) : FnOk P w K mg base CX0 1 T.f_Watch_states T.d_Watch_states ["self"] (up K (spWatchStatesD T.C_Watch)) := by
  refine T.F_Watch_states.ok sc_Watch_states (up_len fun sp ds n R h => ?_) (fun cdv A outer s H vs Q E hr h => ?_)
  · obtain ⟨_, rfl, _⟩ := h
    rfl
  obtain ⟨sp, F, ds, n, hs, src, L, x, rfl, _, k⟩ := h
  refine d_run (N := ["self"]) (sl := [Sl.val _]) (dss_one (ds_ret (de_fld T.cl_Watch T.na_Watch_states (dpv 0)))) hs src L rfl ?_
  exact ⟨rfl, n, Int.le_refl _, k _ rfl⟩
def spWatchAlarmsD (C : Addr) : DSp := fsp0 (fun x : WtX => [wtD C x]) (fun _ => True) (fun x y => y = .tup (x.2.2.map eS)) id
theorem mon_Watch_alarms {C : Addr} : Mon (spWatchAlarmsD C) := fsp0.mon
theorem ups_Watch_alarms (T : Txt P w K mg) : Ups K (up K (spWatchAlarmsD T.C_Watch)) (spWatchAlarmsD T.C_Watch) := .rfl
theorem ok_Watch_alarms (T : Txt P w K mg) : FnOk P w K mg base CX0 1 T.f_Watch_alarms T.d_Watch_alarms ["self"] (up K (spWatchAlarmsD T.C_Watch)) := by
  refine T.F_Watch_alarms.ok sc_Watch_alarms (up_len fun sp ds n R h => ?_) (fun cdv A outer s H vs Q E hr h => ?_)
  · obtain ⟨_, rfl, _⟩ := h
    rfl
  obtain ⟨sp, F, ds, n, hs, src, L, x, rfl, _, k⟩ := h
  refine d_run (N := ["self"]) (sl := [Sl.val _]) (dss_one (ds_ret (de_fld T.cl_Watch T.na_Watch_alarms (dpv 0)))) hs src L rfl ?_
  exact ⟨rfl, n, Int.le_refl _, k _ rfl⟩
def spWatchStartD (C : Addr) : DSp := fsp0 (fun x : WtX => [wtD C x]) (fun x => x.2.1 ≠ []) (fun x y => ∃ z, x.2.1[0]? = some z ∧ y = eS z) id
theorem mon_Watch_start {C : Addr} : Mon (spWatchStartD C) := fsp0.mon
theorem ups_Watch_start (T : Txt P w K mg) : Ups K (up K (spWatchStartD T.C_Watch)) (spWatchStartD T.C_Watch) := .rfl
theorem ok_Watch_start (T : Txt P w K mg) : FnOk P w K mg base CX0 1 T.f_Watch_start T.d_Watch_start ["self"] (up K (spWatchStartD T.C_Watch)) := by
  refine T.F_Watch_start.ok sc_Watch_start (up_len fun sp ds n R h => ?_) (fun cdv A outer s H vs Q E hr h => ?_)
  · obtain ⟨_, rfl, _⟩ := h
    rfl
  obtain ⟨sp, F, ds, n, hs, src, L, ⟨rd, zs, as⟩, rfl, h1, k⟩ := h
  refine d_run (N := ["self"]) (sl := [Sl.val _]) (dss_one (ds_ret (de_ix (de_fld T.cl_Watch T.na_Watch_states (dpv 0)) (DX.b de_int) (fun _ _ => rfl)))) hs src L rfl ?_
  cases zs with
  | nil => exact absurd rfl h1
  | cons z zs => exact ⟨rfl, rfl, opt_some (atI_0 _ _) ⟨n, Int.le_refl _, k _ ⟨z, rfl, rfl⟩⟩⟩
def okWt (x : WtX) : Prop := okP (.tup x.1) ∧ okP (.tup (x.2.2.map eS))
def eqWt (x : WtX) (y : WtX ⊕ List D) : Bool := match y with
  | .inl y => PyData.eqv (pD (.tup x.1)) (pD (.tup y.1)) && PyData.eqv (pD (.tup (x.2.2.map eS))) (pD (.tup (y.2.2.map eS)))
  | .inr _ => false
def othWt (C : Addr) : WtX ⊕ List D → D
  | .inl y => wtD C y
  | .inr l => .tup l
def spWatchEqD (C : Addr) : DSp := fsp0 (fun x : WtX × (WtX ⊕ List D) => [wtD C x.1, othWt C x.2]) (fun x => okWt x.1 ∧ ∀ y, x.2 = .inl y → okWt y) (fun x b => b = eqWt x.1 x.2) eB
theorem mon_Watch__eq {C : Addr} : Mon (spWatchEqD C) := fsp0.mon
theorem ups_Watch__eq (T : Txt P w K mg) : Ups K (up K (spWatchEqD T.C_Watch)) (spWatchEqD T.C_Watch) := .rfl
theorem ok_Watch__eq (T : Txt P w K mg) : FnOk P w K mg base CX0 1 T.f_Watch__eq T.d_Watch__eq ["self", "other"] (up K (spWatchEqD T.C_Watch)) := by
  refine T.F_Watch__eq.ok sc_Watch__eq (up_len fun sp ds n R h => ?_) (fun cdv A outer s H vs Q E hr h => ?_)
  · obtain ⟨_, rfl, _⟩ := h
    rfl
  obtain ⟨sp, F, ds, n, hs, src, L, ⟨x, y⟩, rfl, ⟨⟨h1, h2⟩, h3⟩, k⟩ := h
  refine d_run (N := ["self", "other"]) (sl := [Sl.val _, Sl.val _]) (dss_cons (ds_if (dt_not (dt_val (de_isO ⟨T.cl_Watch, T.ck_Watch, T.cg_Watch, T.ct_Watch, T.co_Watch⟩ (fun _ => by rfl) (fun _ => T.m_isinstance) (fun _ => by rfl) (fun _ => T.m_Watch) (dbv 1))))
      (dss_one (ds_ret de_bl))
      dss_nil)
      (dss_one (ds_ret (de_and (de_cmp (dop_eq (fun _ => hr.units)) (DX.b (de_fld T.cl_Watch T.na_Watch_rules (dpv 0))) (DX.b (de_fld T.cl_Watch T.na_Watch_rules (dpv 1))) (nomark _)) (de_one (de_cmp (dop_eq (fun _ => hr.units)) (DX.b (de_fld T.cl_Watch T.na_Watch_alarms (dpv 0))) (DX.b (de_fld T.cl_Watch T.na_Watch_alarms (dpv 1))) (nomark _))))))) hs src L rfl ?_
  dsimp only at h1 h2 h3 k
  obtain ⟨rd, zs, an⟩ := x
  cases y with
  | inr l =>
    unfold othWt
    walk_at "dr"
    dsimp only [dIsO]
    refine ⟨false, ⟨_, rfl, T.c1_Watch, rfl⟩, ?_⟩
    walk_at "dr"
    exact ⟨n, Int.le_refl _, k _ rfl⟩
  | inl y =>
    obtain ⟨h4, h5⟩ := h3 y rfl
    obtain ⟨rd', zs', an'⟩ := y
    unfold othWt wtD watchD
    walk_at "dr"
    dsimp only [dIsO]
    refine ⟨true, ⟨rfl, rfl⟩, ?_⟩
    walk_at "dr"
    refine ⟨rfl, rfl, h1, h4, bif_b (fun e => ⟨rfl, rfl, h2, h5, n, Int.le_refl _, ?_⟩) fun e => ⟨n, Int.le_refl _, ?_⟩⟩
    · refine k _ ?_
      show _ = (PyData.eqv (pD (.tup rd)) (pD (.tup rd')) && _)
      rw [e]
      rfl
    · refine k _ ?_
      show _ = (PyData.eqv (pD (.tup rd)) (pD (.tup rd')) && _)
      rw [e]
      rfl
/-! equal data, equal things -/
theorem eqvA {α : Type} {g : α → PyData} (hg : ∀ a b, PyData.eqv (g a) (g b) = true ↔ a = b) : ∀ xs ys : List α, PyData.eqvAll (xs.map g) (ys.map g) = true ↔ xs = ys
  | [], [] => by simp [PyData.eqvAll]
  | [], _ :: _ => by simp [PyData.eqvAll]
  | _ :: _, [] => by simp [PyData.eqvAll]
  | a :: r, b :: t => by
    have ih := eqvA hg r t
    rw [List.map_cons, List.map_cons, PyData.eqvAll, Bool.and_eq_true, hg, ih, List.cons.injEq]
theorem eqv_s (a b : Str) : PyData.eqv (.str a) (.str b) = true ↔ a = b := by rw [PyData.eqv]; exact beq_iff_eq
theorem eqv_T (xs ys : List PyData) : PyData.eqv (.tuple xs) (.tuple ys) = PyData.eqvAll xs ys := by rw [PyData.eqv]
theorem eqvAll_C (x y : PyData) (xs ys : List PyData) : PyData.eqvAll (x :: xs) (y :: ys) = (PyData.eqv x y && PyData.eqvAll xs ys) := by rw [PyData.eqvAll]
theorem eqvAll_N : PyData.eqvAll [] [] = true := by rw [PyData.eqvAll]
theorem pDs_map {α : Type} {f : α → D} : ∀ l : List α, pDs (l.map f) = l.map fun x => pD (f x)
  | [] => rfl
  | _ :: l => congrArg _ (pDs_map l)
theorem eqv_tM {α : Type} {f : α → D} (hg : ∀ a b, PyData.eqv (pD (f a)) (pD (f b)) = true ↔ a = b) (xs ys : List α) : PyData.eqv (pD (.tup (xs.map f))) (pD (.tup (ys.map f))) = true ↔ xs = ys := by
  show PyData.eqv (.tuple (pDs _)) (.tuple (pDs _)) = true ↔ _
  rw [pDs_map, pDs_map, PyData.eqv]
  exact eqvA hg xs ys
theorem eqv_lM {α : Type} {f : α → D} (hg : ∀ a b, PyData.eqv (pD (f a)) (pD (f b)) = true ↔ a = b) (xs ys : List α) : PyData.eqv (pD (.lst (xs.map f))) (pD (.lst (ys.map f))) = true ↔ xs = ys := by
  show PyData.eqv (.list (pDs _)) (.list (pDs _)) = true ↔ _
  rw [pDs_map, pDs_map, PyData.eqv]
  exact eqvA hg xs ys
/-- a rule as a watch keeps it -/
def kRul (r : WRul) : D := .tup [eS r.st, .tup (r.gs.map eS), .tup (r.ws.map eS), eS r.nx]
theorem chk_kRul (r : WRul) : chkW (rulW r) = kRul r := rfl
theorem eqv_kR (a b : WRul) : PyData.eqv (pD (kRul a)) (pD (kRul b)) = true ↔ a = b := by
  have h1 := eqv_tM (f := eS) eqv_s a.gs b.gs
  have h2 := eqv_tM (f := eS) eqv_s a.ws b.ws
  have e : PyData.eqv (pD (kRul a)) (pD (kRul b)) = (PyData.eqv (.str a.st) (.str b.st) && (PyData.eqv (pD (.tup (a.gs.map eS))) (pD (.tup (b.gs.map eS))) && (PyData.eqv (pD (.tup (a.ws.map eS))) (pD (.tup (b.ws.map eS))) && (PyData.eqv (.str a.nx) (.str b.nx) && true)))) := by
    show PyData.eqv (.tuple [.str a.st, pD (.tup (a.gs.map eS)), pD (.tup (a.ws.map eS)), .str a.nx]) (.tuple [.str b.st, pD (.tup (b.gs.map eS)), pD (.tup (b.ws.map eS)), .str b.nx]) = _
    rw [eqv_T, eqvAll_C, eqvAll_C, eqvAll_C, eqvAll_C, eqvAll_N]
  rw [e]
  simp only [Bool.and_eq_true, eqv_s, h1, h2, and_true]
  obtain ⟨a1, a2, a3, a4⟩ := a
  obtain ⟨b1, b2, b3, b4⟩ := b
  simp only [WRul.mk.injEq]
theorem eqv_lR (a b : WRul) : PyData.eqv (pD (rulW a)) (pD (rulW b)) = true ↔ a = b := by
  have h1 := eqv_lM (f := eS) eqv_s a.gs b.gs
  have h2 := eqv_lM (f := eS) eqv_s a.ws b.ws
  have e : PyData.eqv (pD (rulW a)) (pD (rulW b)) = (PyData.eqv (.str a.st) (.str b.st) && (PyData.eqv (pD (.lst (a.gs.map eS))) (pD (.lst (b.gs.map eS))) && (PyData.eqv (pD (.lst (a.ws.map eS))) (pD (.lst (b.ws.map eS))) && (PyData.eqv (.str a.nx) (.str b.nx) && true)))) := by
    show PyData.eqv (.tuple [.str a.st, pD (.lst (a.gs.map eS)), pD (.lst (a.ws.map eS)), .str a.nx]) (.tuple [.str b.st, pD (.lst (b.gs.map eS)), pD (.lst (b.ws.map eS)), .str b.nx]) = _
    rw [eqv_T, eqvAll_C, eqvAll_C, eqvAll_C, eqvAll_C, eqvAll_N]
  rw [e]
  simp only [Bool.and_eq_true, eqv_s, h1, h2, and_true]
  obtain ⟨a1, a2, a3, a4⟩ := a
  obtain ⟨b1, b2, b3, b4⟩ := b
  simp only [WRul.mk.injEq]
--SPLIT
/-! ### _law_tuples -/
def spTuplesD : DSp := fsp0 (fun rs : List WRul => [.lst (rs.map rulW)]) (fun rs => rs.length ≤ 1000) (fun rs y => y = .tup (rs.map kRul)) id
theorem mon_law_tuples : Mon spTuplesD := fsp0.mon
theorem ups_law_tuples (_ : Txt P w K mg) : Ups K (up K spTuplesD) spTuplesD := .rfl
theorem ok_law_tuples (T : Txt P w K mg) : FnOk P w K mg base CX0 1 T.f_law_tuples T.d_law_tuples ["_law_rules"] (up K spTuplesD) := by
  refine T.F_law_tuples.ok sc_law_tuples (up_len fun sp ds n R h => ?_) (fun cdv A outer s H vs Q E hr h => ?_)
  · obtain ⟨_, rfl, _⟩ := h
    rfl
  obtain ⟨sp, F, ds, n, hs, src, L, rs, rfl, h1, k⟩ := h
  refine d_run (N := ["_law_rules", "_law_state", "_law_groups", "_law_words", "_law_after"]) (sl := [Sl.val _, Sl.emp, Sl.emp, Sl.emp, Sl.emp]) (dss_one (ds_ret (de_tuple (fun _ => by rfl) (fun _ => T.m_tuple) (by decide +kernel) (da_cons (DO.x (do_lc (own := [("_law_state", 1), ("_law_groups", 2), ("_law_words", 3), ("_law_after", 4)]) (fun _ => rfl) (fun _ => sc_law_tuples.nd) (di_seq (dv 0)) (fun _ => blkOk_by (own := [("_law_state", 1), ("_law_groups", 2), ("_law_words", 3), ("_law_after", 4)]) (N := ["_law_rules", "_law_state", "_law_groups", "_law_words", "_law_after"]) (sc := defScope s_law_tuples) (by decide +kernel)) (dg_tup (fun _ => rfl) (dgs_cons (dg_name (i := 1) (fun _ => sc_law_tuples.nd) (fun _ => rfl) (fun _ => Or.inl rfl)) (dgs_cons (dg_name (i := 2) (fun _ => sc_law_tuples.nd) (fun _ => rfl) (fun _ => Or.inl rfl)) (dgs_cons (dg_name (i := 3) (fun _ => sc_law_tuples.nd) (fun _ => rfl) (fun _ => Or.inl rfl)) (dgs_cons (dg_name (i := 4) (fun _ => sc_law_tuples.nd) (fun _ => rfl) (fun _ => Or.inl rfl)) dgs_nil))))) dts_nil (de_tup (da_cons (dv 1) (da_cons (de_tuple (fun _ => by rfl) (fun _ => T.m_tuple) (by decide +kernel) (da_cons (dv 2) da_nil)) (da_cons (de_tuple (fun _ => by rfl) (fun _ => T.m_tuple) (by decide +kernel) (da_cons (dv 3) da_nil)) (da_cons (dv 4) da_nil))))))) da_nil)))) hs src L rfl ?_
  walk_at "drx"
  refine dLc_inv (fun i acc n' => acc = (rs.take i).map kRul ∧ n' = n) ⟨rfl, rfl⟩ ?_ ?_
  · rintro i d acc n' N hi ⟨rfl, rfl⟩ hN
    rw [List.getElem?_map] at hi
    obtain ⟨r, hr', rfl⟩ := Option.map_eq_some_iff.mp hi
    have hil := (List.getElem?_eq_some_iff.mp hr').1
    walk_at "drx"
    have z : (1000 : Nat) < sizeLine := by decide
    refine ⟨rfl, by show 4 ≤ sizeLine; decide, rfl, by rw [List.length_map, List.length_take]; omega, hN _ _ ⟨?_, rfl⟩⟩
    rw [take_more hr', List.map_append]
    rfl
  · rintro acc n' ⟨rfl, rfl⟩
    rw [List.length_map, List.take_length]
    walk_at "drx"
    exact ⟨n', Int.le_refl _, k _ rfl⟩
/-! a part of a list of texts -/
def spSubD : DSp := fspN 100000 (fun _ => 100) (fun p (zs : List Str) => [sD p, .lst (zs.map eS)]) (fun zs => zs.length ≤ 100) (fun zs ys => (∀ y ∈ ys, y ∈ zs) ∧ ys.length ≤ zs.length) eLS
theorem mon_law_subset : Mon spSubD := fspN.mon
theorem ups_law_subset (_ : Txt P w K mg) : Ups K (spSubset K) spSubD := by
  rintro vs H Q E ⟨sp, F, ds, n, s, src, L, p, zs, rfl, rfl, hz, hn, k⟩
  obtain ⟨v, r, rfl, h1, w, r', rfl, ⟨l, ys, rfl, q1, q2⟩, h3⟩ := L
  cases (show v = _ from h1)
  cases (show r' = [] from h3)
  cases datL_strs q2
  obtain ⟨fp, S⟩ := src p rfl
  exact ⟨p, l, zs, n, rfl, S, hn, s _ _ q1, (fun e => by rw [e, fp] at q1; cases q1), hz, fun q ys H' a b c d e S' => post_new rfl s S fp (k ys ⟨a, b⟩) e S' ⟨q, _, rfl, newF_in c d, dat_strs _⟩⟩
/-! ### _law_order, _law_other -/
def rLenS (K : PySem.W.Frag) : List V → Hp → VK → Prop := fun xs H Q => ∃ p ys, xs = [.ref p] ∧ (SqL K H p ys ∨ SqT K H p ys) ∧ Q (.int ys.length) H
def upTo (n : Nat) : List Int := (List.range n).map fun i => ((i : Nat) : Int)
theorem upTo_len (n : Nat) : (upTo n).length = n := by
  unfold upTo
  rw [List.length_map, List.length_range]
def spOrder : Sp := fun vs H Q _ => ∃ (p : Addr) (n : Nat) (c : Int), vs = [.ref p, .int (n : Nat)] ∧ Src H p c ∧ c < 500000 ∧ n ≤ 12 ∧
  ∀ (l : Addr) (ms : List Int) (H' : Hp), But p H H' → H l = none → H' l = some (.lst (ms.map V.int)) → ms.length = n → (∀ m ∈ ms, 0 ≤ m ∧ m < (n : Nat)) → (∀ j : Nat, j < n → (j : Int) ∈ ms) → Src H' p (c + (n : Nat)) → Q (.ref l) H'
theorem upInt (n : Nat) : rgV 0 ((n : Nat) : Int) = (upTo n).map V.int := by
  unfold rgV upTo
  rw [List.map_map, show (((n : Nat) : Int) - 0).toNat = n by omega]
  refine List.map_congr_left fun i _ => ?_
  show V.int (0 + (i : Nat)) = V.int (i : Nat)
  rw [Int.zero_add]
theorem mem_erase_or {α : Type} {l : List α} {i : Nat} {x : α} (hi : i < l.length) (h : x ∈ l) : x ∈ l.eraseIdx i ∨ x = l[i] := by
  obtain ⟨j, hj, rfl⟩ := List.mem_iff_getElem.mp h
  by_cases e : j = i
  · subst e
    exact .inr rfl
  · exact .inl (List.mem_eraseIdx_iff_getElem.mpr ⟨j, hj, e, rfl⟩)
theorem ok_law_order (T : Txt P w K mg) : FnOk P w K mg base CX0 2 T.f_law_order T.d_law_order ["_law_source_here", "_law_many"] spOrder := by
  refine T.F_law_order.ok sc_law_order (fun vs H Q E h => ?_) (fun cdv A outer s H vs Q E hr h => ?_)
  · obtain ⟨p, n, c, rfl, _⟩ := h
    rfl
  · obtain ⟨p, n, c, rfl, S, hc, hn, k⟩ := h
    refine ⟨_, (pss_cons (ps_set (i := 2) sc_law_order.nd rfl (Or.inr rfl) (pe_listRg rfl (by rfl) T.m_list (prg_1 (by rfl) T.m_range (pv 1))))
      (pss_one (ps_ret (pe_lc (own := [("_law_k", 3)]) (by rfl) sc_law_order.nd (pi_range1 (by rfl) T.m_range (pa_cons (pv 1) pa_nil)) (blkOk_by (own := [("_law_k", 3)]) (N := ["_law_source_here", "_law_many", "_law_left", "_law_k"]) (sc := defScope s_law_order) (by decide +kernel)) (fun _ _ _ _ _ => (pg_name (i := 3) sc_law_order.nd rfl (Or.inl rfl))) (fun _ _ _ _ _ => pts_nil) (fun _ _ _ _ _ => (show PE _ _ (tBM K "list" rPopAt _ _) from pe_bm PySem.F.plainAttrs_list PySem.F.slot_list_pop PySem.F.type_list_pop mt_popAt (pv 2) (pa_cons (pe_call (ok_law_draw T) (hr.mono (by decide)) (by rfl) T.m_law_draw T.F_law_draw.kp T.b_law_draw .nil pass0 (pa_cons (pv 0) (pa_cons (pe_callB (show CallR _ _ (rLenS K) from call_len_seq) (by rfl) T.m_len (by decide +kernel) (pa_cons (pv 2) pa_nil)) pa_nil))) pa_nil))))))), ?_⟩
    walk_at "rd"
    refine ⟨RgOk.of_le (by omega) (by omega) (by omega) (by omega), fun L hL => ?_⟩
    generalize hH : upd _ L _ = H1
    obtain ⟨s1, d1⟩ := new_of (o' := .lst ((upTo n).map V.int)) hH hL (by rw [upInt])
    clear hH
    have Lp : L ≠ p := S.ne hL
    have S1 := S.same s1
    walk_at "rd"
    refine ⟨by omega, by omega, fun D hD => ?_⟩
    have Dp : D ≠ p := S1.ne hD
    have LD : L ≠ D := ne_of_none d1 hD
    have hD0 : H D = none := s1.free hD
    refine lc_range (lo := 0) (n := (n : Int).toNat) (fun i H' => ∃ ls ms : List Int, ls.length + i = n ∧ ms.length = i ∧ (∀ m ∈ ls, 0 ≤ m ∧ m < (n : Nat)) ∧ (∀ m ∈ ms, 0 ≤ m ∧ m < (n : Nat)) ∧ (∀ j : Nat, j < n → (j : Int) ∈ ls ∨ (j : Int) ∈ ms) ∧ H' L = some (.lst (ls.map V.int)) ∧ H' D = some (.lst (ms.map V.int)) ∧ But p H H' ∧ Src H' p (c + (i : Nat)))
      ⟨upTo n, [], by rw [upTo_len, Nat.add_zero], rfl, fun m hm => ?_, (fun m hm => nomatch hm), (fun j hj => .inl (List.mem_map.mpr ⟨j, List.mem_range.mpr hj, rfl⟩)), by rw [upd_ne LD]; exact d1, upd_same, fun b o nb q => by rw [upd_ne (fun z => by rw [z, hD0] at q; cases q)]; exact s1 _ _ q, (S1.same (Same.new hD)).le (by omega)⟩ ?_ ?_
    · unfold upTo at hm
      obtain ⟨i, hi, rfl⟩ := List.mem_map.mp hm
      have := List.mem_range.mp hi
      omega
    · rintro i H2 hi ⟨ls, ms, hl, hm, bl, bm, al, dL, dD, u2, S2⟩
      refine ⟨rfl, ?_⟩
      walk_at "rd"
      refine ⟨.inl ⟨rfl, _, SqL.of dL⟩, ?_⟩
      walk_at "rd"
      refine ⟨_, _, rfl, .inl (SqL.of dL), ?_⟩
      walk_at "rd"
      rw [List.length_map]
      refine ⟨p, (ls.length : Nat), _, rfl, S2, by omega, by omega, by omega, fun d H3 d0 d1' u3 S3 => ?_⟩
      have dL3 := u3 _ _ Lp dL
      have dD3 := u3 _ _ Dp dD
      have hd : d.toNat < ls.length := by omega
      refine ⟨L, ls.map V.int, d, d.toNat, V.int ls[d.toNat], rfl, rfl, dL3, by omega, by omega, seqIndex_of d0 (by rw [List.length_map]; omega), by rw [List.getElem?_map, List.getElem?_eq_getElem hd]; rfl, ?_⟩
      have bz := bl _ (List.getElem_mem hd)
      rw [erase_mapI]
      generalize hH : upd _ L _ = H4
      obtain ⟨u4, d4⟩ := chg_of (o' := .lst ((ls.eraseIdx d.toNat).map V.int)) hH rfl
      clear hH
      have dD4 := u4 _ _ LD.symm dD3
      walk_at "rd"
      refine ⟨_, dD4, ?_, ls.eraseIdx d.toNat, ms ++ [ls[d.toNat]], ?_, ?_, fun m hm' => bl m (List.mem_of_mem_eraseIdx hm'), fun m hm' => ?_, fun j hj => ?_, ?_, ?_, fun b o nb q => ?_, ?_⟩
      · rw [List.length_map, hm]
        exact Nat.lt_of_le_of_lt (by omega : _ ≤ 60) (by decide)
      · rw [List.length_eraseIdx, if_pos hd]
        omega
      · rw [List.length_append, hm]
        rfl
      · rcases List.mem_append.mp hm' with q | q
        · exact bm m q
        · rw [List.mem_singleton.mp q]
          exact bz
      · rcases al j hj with q | q
        · rcases mem_erase_or hd q with z | z
          · exact .inl z
          · exact .inr (List.mem_append_right _ (by rw [z]; exact List.mem_singleton.mpr rfl))
        · exact .inr (List.mem_append_left _ q)
      · rw [upd_ne LD]
        exact d4
      · rw [upd_same, List.map_append]
        rfl
      · rw [upd_ne (fun z => by rw [z, hD0] at q; cases q)]
        exact u4 _ _ (fun z => by rw [z, hL] at q; cases q) (u3 _ _ nb (u2 _ _ nb q))
      · exact ((S3.but u4 Lp.symm).but (But.refl D H4).upd Dp.symm).le (by omega)
    rintro H2 ⟨ls, ms, hl, hm, bl, bm, al, dL, dD, u2, S2⟩
    have l0 : ls = [] := List.length_eq_zero_iff.mp (by omega)
    exact k D ms H2 u2 hD0 dD (by omega) bm (fun j hj => (al j hj).resolve_left fun q => by rw [l0] at q; cases q) (S2.le (by omega))
def spOrderD : DSp := fspN 500000 (fun n : Nat => (n : Int)) (fun p (n : Nat) => [sD p, eI n]) (fun n => n ≤ 12) (fun n (ms : List Int) => ms.length = n ∧ (∀ m ∈ ms, 0 ≤ m ∧ m < (n : Nat)) ∧ ∀ j : Nat, j < n → (j : Int) ∈ ms) (fun ms => .lst (ms.map eI))
theorem mon_law_order : Mon spOrderD := fspN.mon
theorem ups_law_order (_ : Txt P w K mg) : Ups K spOrder spOrderD := by
  rintro vs H Q E ⟨sp, F, ds, c, s, src, L, p, n, rfl, rfl, hn, hc, k⟩
  obtain ⟨v, r, rfl, h1, w, r', rfl, h2, h3⟩ := L
  cases (show v = _ from h1)
  cases (show w = _ from h2)
  cases (show r' = [] from h3)
  obtain ⟨fp, S⟩ := src p rfl
  exact ⟨p, n, c, rfl, S, hc, hn, fun l ms H' b q1 q2 q3 q4 q5 S' => post_new rfl s S fp (k _ ⟨q3, q4, q5⟩) b S' ⟨l, _, rfl, newF_in q1 q2, dat_ints _⟩⟩
--SPLIT
/-! ### the law's rules, as a watch takes them -/
theorem okW_str {z : Str} (h : z.length ≤ sizeLine) : okW (eS z) := ⟨⟨(fun q => nomatch q), fun y e => by cases e; exact h⟩, fun es e => nomatch e⟩
theorem okW_strs {l : List Str} (hl : l.length ≤ sizeLine) (h : ∀ z ∈ l, z.length ≤ sizeLine) : okW (.lst (l.map eS)) := ⟨⟨(fun q => nomatch q), fun y e => nomatch e⟩, fun es e => by
  cases e
  refine ⟨by rw [List.length_map]; exact hl, fun x hx => ?_⟩
  obtain ⟨z, hz, rfl⟩ := List.mem_map.mp hx
  exact ⟨(fun q => nomatch q), fun y e => by cases e; exact h z hz⟩⟩
theorem wRul_W (r : WRul) : wRulD (rulW r) = r := by
  show WRul.mk r.st (strsOf (.lst (r.gs.map eS))) (strsOf (.lst (r.ws.map eS))) r.nx = r
  unfold strsOf
  show WRul.mk r.st ((unS (r.gs.map eS)).getD []) ((unS (r.ws.map eS)).getD []) r.nx = r
  rw [unS_map, unS_map]
  rfl
theorem chk_W (r : WRul) : wRulD (chkW (rulW r)) = r := wRul_W r
theorem rules_W (rs : List WRul) : (rs.map rulW).map wRulD = rs := by
  rw [List.map_map, show wRulD ∘ rulW = id from funext wRul_W, List.map_id]
theorem rules_CW (rs : List WRul) : ((rs.map rulW).map chkW).map wRulD = rs := by
  rw [List.map_map, List.map_map, show (wRulD ∘ chkW) ∘ rulW = id from funext chk_W, List.map_id]
theorem rulW_ok {zs ws : List Str} {r : WRul} (hz : ∀ z ∈ zs, IsName z) (hw : ∀ x ∈ ws ++ [("*" : Str)], isWordD (eS x) = true ∧ x.length ≤ sizeLine) (h : WROk zs ws r) : okWRule (rulW r) ∧ isWRule (rulW r) = true := by
  have sm : ∀ m : Nat, m ≤ 100 → m ≤ sizeLine := fun m h => Nat.le_trans h (by decide)
  refine ⟨⟨(fun q => nomatch q), fun es he e hm => ?_⟩, ?_⟩
  · cases he
    simp only [List.mem_cons, List.not_mem_nil, or_false] at hm
    rcases hm with rfl | rfl | rfl | rfl
    · exact okW_str (hz _ h.st).line
    · exact okW_strs (sm _ (Nat.le_trans h.g2 (by decide))) fun g hg => (by decide +kernel : ∀ g ∈ namesL ++ placesL, g.length ≤ sizeLine) g (h.g3 g hg)
    · exact okW_strs (sm _ (Nat.le_trans h.w2 (by decide))) fun g hg => (hw g (h.w3 g hg)).2
    · exact okW_str (hz _ h.nx).line
  · show (isNameD (eS r.st) && areGrpD (.lst (r.gs.map eS)) && areWordsD (.lst (r.ws.map eS)) && isNameD (eS r.nx)) = true
    have e1 : isNameD (eS r.st) = true := nameB_iff.mpr (hz _ h.st)
    have e4 : isNameD (eS r.nx) = true := nameB_iff.mpr (hz _ h.nx)
    have e2 : areGrpD (.lst (r.gs.map eS)) = true := by
      show (!(r.gs.map eS).isEmpty && (r.gs.map eS).all isGrpD) = true
      rw [List.all_map, List.all_eq_true.mpr fun g hg => (show (isGrpD ∘ eS) g = true from (by decide +kernel : ∀ g ∈ namesL ++ placesL, grpB g = true) g (h.g3 g hg)), Bool.and_true]
      cases q : r.gs with
      | nil => exact absurd q h.g1
      | cons _ _ => rfl
    have e3 : areWordsD (.lst (r.ws.map eS)) = true := by
      show (!(r.ws.map eS).isEmpty && (r.ws.map eS).all isWordD) = true
      rw [List.all_map, List.all_eq_true.mpr fun g hg => (show (isWordD ∘ eS) g = true from (hw g (h.w3 g hg)).1), Bool.and_true]
      cases q : r.ws with
      | nil => exact absurd q h.w1
      | cons _ _ => rfl
    rw [e1, e2, e3, e4]
    rfl
theorem watch_fine {rs : List WRul} (ne : rs ≠ []) (hl : rs.length ≤ 20) (h : ∀ r ∈ rs, isWRule (rulW r) = true) (h6 : (wStates rs).length ≤ 6) : watchErr (rs.map rulW) = none := by
  unfold watchErr
  rw [if_neg (fun z => ne (List.map_eq_nil_iff.mp z)), List.find?_eq_none.mpr fun i hi => ?_]
  · rfl
  · have hi' := List.mem_range.mp hi
    rw [List.length_map] at hi'
    have e : (rs.map rulW).getD i (.v .non) = rulW rs[i] := by
      rw [List.getD_eq_getElem?_getD, List.getElem?_map, List.getElem?_eq_getElem hi']
      rfl
    have h2 : (wStates (((rs.map rulW).take (i + 1)).map wRulD)).length ≤ (wStates rs).length := by
      have := states_mono (rs.map asRul) (i + 1)
      rw [← List.map_take] at this
      rw [← List.map_take, rules_W]
      exact this
    unfold errAtW
    rw [e, h _ (List.getElem_mem _), decide_eq_false (by omega), decide_eq_false (by omega)]
    exact Bool.false_ne_true
theorem addS_at {acc : List Str} {z x : Str} (h : acc[0]? = some x) : (addS acc z)[0]? = some x := by
  unfold addS
  split
  · exact h
  · rw [List.getElem?_append_left (List.getElem?_eq_some_iff.mp h).1]
    exact h
theorem states_at (r : Rul) (rs : List Rul) : (statesOf (r :: rs))[0]? = some r.st := by
  have key : ∀ (rs : List Rul) (acc : List Str), acc[0]? = some r.st → (rs.foldl (fun acc r => addS (addS acc r.st) r.nx) acc)[0]? = some r.st := fun rs => by
    induction rs with
    | nil => exact fun _ h => h
    | cons q rs ih => exact fun acc h => ih _ (addS_at (addS_at h))
  exact key rs (addS (addS [] r.st) r.nx) (addS_at rfl)
/-! ### the law's alarms -/
def lawWords : List Str := ["new", "old", "pass"]
theorem word_ok : ∀ x ∈ lawWords ++ [("*" : Str)], isWordD (eS x) = true ∧ x.length ≤ sizeLine := by decide +kernel
theorem watch_noerr {CW CU C : Addr} {fs : List (Str × D)} {p : D × D} (h1 : watchErr (rulesD p.1) = none) (h2 : alarmErr (wStates ((rulesD p.1).map wRulD)) p.2 = none) : ¬ watchX CW CU p C fs := by
  rintro (⟨i, q, _⟩ | ⟨_, x, q, _⟩)
  · rw [h1] at q
    cases q
  · rw [h2] at q
    cases q
theorem alarms_fine {zs ys : List Str} (h : ∀ y ∈ ys, y ∈ zs) : alarmErr zs (.lst (ys.map eS)) = none := List.find?_eq_none.mpr fun x hx => by
  obtain ⟨z, hz, rfl⟩ := List.mem_map.mp (show x ∈ ys.map eS from hx)
  show ¬ (!isStD zs (eS z)) = true
  rw [show isStD zs (eS z) = true from decide_eq_true (h z hz)]
  exact Bool.false_ne_true
theorem okAlarms_L {ys : List Str} (h : ys.length ≤ sizeLine) : okAlarms (.lst (ys.map eS)) := ⟨_, rfl, by rw [List.length_map]; exact h, fun a ha => by
  obtain ⟨z, _, rfl⟩ := List.mem_map.mp ha
  exact fun q => nomatch q⟩
--SPLIT
/-! ### what the law of watches needs -/
/-- a rule by lists alone -/
def rowL (r : WRul) : D := .lst [eS r.st, .lst (r.gs.map eS), .lst (r.ws.map eS), eS r.nx]
/-- rules written in some way -/
structure Way (f : WRul → D) : Prop where
  is : ∀ r, isWRule (f r) = isWRule (rulW r)
  rd : ∀ r, wRulD (f r) = wRulD (rulW r)
  ck : ∀ r, chkW (f r) = kRul r
  ok : ∀ r, okWRule (rulW r) → okWRule (f r)
theorem okW_seq {d e : D} (h : okW d) (s : seqD e = seqD d) (t : tyD e ≠ none) (v : ∀ y, e ≠ .v (.str y)) : okW e := ⟨⟨t, fun y q => absurd q (v y)⟩, fun es q => h.2 es (s ▸ q)⟩
theorem way_W : Way rulW := ⟨fun _ => rfl, fun _ => rfl, fun _ => rfl, fun _ h => h⟩
theorem way_L : Way rowL := ⟨fun _ => rfl, fun _ => rfl, fun _ => rfl, fun _ h => ⟨(fun q => nomatch q), h.2⟩⟩
theorem way_K : Way kRul := ⟨fun _ => rfl, fun _ => rfl, fun _ => rfl, fun r h => ⟨(fun q => nomatch q), fun es he e hm => by
  cases he
  have h2 := h.2 _ rfl
  simp only [List.mem_cons, List.not_mem_nil, or_false] at hm
  rcases hm with rfl | rfl | rfl | rfl
  · exact h2 _ (by simp)
  · exact okW_seq (h2 (.lst (r.gs.map eS)) (by simp)) rfl (fun q => nomatch q) (fun y q => nomatch q)
  · exact okW_seq (h2 (.lst (r.ws.map eS)) (by simp)) rfl (fun q => nomatch q) (fun y q => nomatch q)
  · exact h2 _ (by simp)⟩⟩
theorem Way.rds {f : WRul → D} (h : Way f) (rs : List WRul) : (rs.map f).map wRulD = rs := by
  rw [List.map_map, show wRulD ∘ f = id from funext fun r => (h.rd r).trans (wRul_W r), List.map_id]
theorem Way.cks {f : WRul → D} (h : Way f) (rs : List WRul) : (rs.map f).map chkW = rs.map kRul := by
  rw [List.map_map]
  exact List.map_congr_left fun r _ => h.ck r
theorem Way.fine {f : WRul → D} (w : Way f) {rs : List WRul} (ne : rs ≠ []) (hl : rs.length ≤ 20) (h : ∀ r ∈ rs, isWRule (rulW r) = true) (h6 : (wStates rs).length ≤ 6) : watchErr (rs.map f) = none := by
  unfold watchErr
  rw [if_neg (fun z => ne (List.map_eq_nil_iff.mp z)), List.find?_eq_none.mpr fun i hi => ?_]
  · rfl
  · have hi' := List.mem_range.mp hi
    rw [List.length_map] at hi'
    have e : (rs.map f).getD i (.v .non) = f rs[i] := by
      rw [List.getD_eq_getElem?_getD, List.getElem?_map, List.getElem?_eq_getElem hi']
      rfl
    have h2 : (wStates (((rs.map f).take (i + 1)).map wRulD)).length ≤ (wStates rs).length := by
      have := states_mono (rs.map asRul) (i + 1)
      rw [← List.map_take] at this
      rw [← List.map_take, w.rds]
      exact this
    unfold errAtW
    rw [e, w.is, h _ (List.getElem_mem _), decide_eq_false (by omega), decide_eq_false (by omega)]
    exact Bool.false_ne_true
theorem mem_states {y : Str} (rs : List WRul) : y ∈ wStates rs ↔ ∃ r ∈ rs, y = r.st ∨ y = r.nx := by
  have key : ∀ (rs : List WRul) (acc : List Str), y ∈ (rs.map asRul).foldl (fun acc r => addS (addS acc r.st) r.nx) acc ↔ y ∈ acc ∨ ∃ r ∈ rs, y = r.st ∨ y = r.nx := fun rs => by
    induction rs with
    | nil => exact fun acc => ⟨.inl, fun q => q.elim id fun ⟨_, h, _⟩ => nomatch h⟩
    | cons a rs ih =>
      intro acc
      rw [List.map_cons, List.foldl_cons, ih, addS_iff, addS_iff]
      constructor
      · rintro (((q | q) | q) | ⟨r, q, w⟩)
        · exact .inl q
        · exact .inr ⟨a, List.mem_cons_self, .inl q⟩
        · exact .inr ⟨a, List.mem_cons_self, .inr q⟩
        · exact .inr ⟨r, List.mem_cons_of_mem _ q, w⟩
      · rintro (q | ⟨r, q, w⟩)
        · exact .inl (.inl (.inl q))
        · rcases List.mem_cons.mp q with rfl | q
          · rcases w with w | w
            · exact .inl (.inl (.inr w))
            · exact .inl (.inr w)
          · exact .inr ⟨r, q, w⟩
  refine (key rs []).trans ⟨fun q => q.elim (fun q => nomatch q) id, .inr⟩
theorem states_sub {rs rs' : List WRul} (h : ∀ r ∈ rs, r ∈ rs') {y : Str} (hy : y ∈ wStates rs) : y ∈ wStates rs' := by
  obtain ⟨r, hr, w⟩ := (mem_states rs).mp hy
  exact (mem_states rs').mpr ⟨r, h r hr, w⟩
theorem states_few {zs ws : List Str} {rs : List WRul} (h : ∀ r ∈ rs, WROk zs ws r) : (wStates rs).length ≤ zs.length := (states_ok (zs := zs) (rs := rs.map asRul) fun r hr => by
  obtain ⟨q, hq, rfl⟩ := List.mem_map.mp hr
  exact ⟨(h q hq).st, (h q hq).nx⟩).2
theorem strsOf_L (l : List Str) : strsOf (.lst (l.map eS)) = l := by
  unfold strsOf
  show (unS (l.map eS)).getD [] = l
  rw [unS_map]
  rfl
theorem strsOf_T (l : List Str) : strsOf (.tup (l.map eS)) = l := by
  unfold strsOf
  show (unS (l.map eS)).getD [] = l
  rw [unS_map]
  rfl
/-- which alarms are told -/
def ringS (zs al : List Str) : List Str := zs.filter fun z => decide (z ∈ al)
theorem ring_congr {zs al al' : List Str} (h : ∀ z ∈ zs, z ∈ al ↔ z ∈ al') : ringS zs al = ringS zs al' := List.filter_congr fun z hz => decide_eq_decide.mpr (h z hz)
theorem rung_L (zs al : List Str) : rungD zs (.lst (al.map eS)) = ringS zs al := by
  unfold rungD
  rw [strsOf_L]
  rfl
theorem rung_T (zs al : List Str) : rungD zs (.tup (al.map eS)) = ringS zs al := by
  unfold rungD
  rw [strsOf_T]
  rfl
theorem alarms_fineT {zs ys : List Str} (h : ∀ y ∈ ys, y ∈ zs) : alarmErr zs (.tup (ys.map eS)) = none := List.find?_eq_none.mpr fun x hx => by
  obtain ⟨z, hz, rfl⟩ := List.mem_map.mp (show x ∈ ys.map eS from hx)
  show ¬ (!isStD zs (eS z)) = true
  rw [show isStD zs (eS z) = true from decide_eq_true (h z hz)]
  exact Bool.false_ne_true
theorem okAlarms_T {ys : List Str} (h : ys.length ≤ sizeLine) : okAlarms (.tup (ys.map eS)) := ⟨_, rfl, by rw [List.length_map]; exact h, fun a ha => by
  obtain ⟨z, _, rfl⟩ := List.mem_map.mp ha
  exact fun q => nomatch q⟩
/-- what may be compared -/
theorem isPs_all : ∀ {l : List D}, (∀ d ∈ l, isP d = true) → isPs l = true
  | [], _ => rfl
  | d :: l, h => by
    show (isP d && isPs l) = true
    rw [h d List.mem_cons_self, isPs_all fun x hx => h x (List.mem_cons_of_mem _ hx)]
    rfl
theorem depths_all {n : Nat} : ∀ {l : List D}, (∀ d ∈ l, (pD d).depth ≤ n) → PyData.depthAll (pDs l) ≤ n
  | [], _ => Nat.zero_le _
  | d :: l, h => by
    have h1 := h d List.mem_cons_self
    have h2 := depths_all (l := l) fun x hx => h x (List.mem_cons_of_mem _ hx)
    show PyData.depthAll (pD d :: pDs l) ≤ n
    simp only [PyData.depthAll]
    omega
/-- data of depth n -/
def okN (n : Nat) (d : D) : Prop := isP d = true ∧ (pD d).depth ≤ n
theorem okN_tup {n : Nat} {l : List D} (h : ∀ d ∈ l, okN n d) : okN (n + 1) (.tup l) := ⟨isPs_all fun d hd => (h d hd).1, by
  have := depths_all (n := n) fun d hd => (h d hd).2
  show (PyData.tuple (pDs l)).depth ≤ n + 1
  simp only [PyData.depth]
  omega⟩
theorem okN_lst {n : Nat} {l : List D} (h : ∀ d ∈ l, okN n d) : okN (n + 1) (.lst l) := ⟨isPs_all fun d hd => (h d hd).1, by
  have := depths_all (n := n) fun d hd => (h d hd).2
  show (PyData.list (pDs l)).depth ≤ n + 1
  simp only [PyData.depth]
  omega⟩
theorem okN.le {n m : Nat} {d : D} (h : okN n d) (l : n ≤ m) : okN m d := ⟨h.1, Nat.le_trans h.2 l⟩
theorem okN.p {n : Nat} {d : D} (h : okN n d) (l : n ≤ 64 := by decide) : okP d := ⟨h.1, Nat.le_trans h.2 l⟩
theorem okN_str {z : Str} (h : PyData.strOk z = true) : okN 0 (eS z) := ⟨h, Nat.le_refl _⟩
theorem okN_strsT {l : List Str} (h : ∀ z ∈ l, PyData.strOk z = true) : okN 1 (.tup (l.map eS)) := okN_tup fun d hd => by
  obtain ⟨z, hz, rfl⟩ := List.mem_map.mp hd
  exact okN_str (h z hz)
theorem okN_strsL {l : List Str} (h : ∀ z ∈ l, PyData.strOk z = true) : okN 1 (.lst (l.map eS)) := okN_lst fun d hd => by
  obtain ⟨z, hz, rfl⟩ := List.mem_map.mp hd
  exact okN_str (h z hz)
/-- texts of a rule -/
structure RStr (r : WRul) : Prop where
  st : PyData.strOk r.st = true
  nx : PyData.strOk r.nx = true
  gs : ∀ g ∈ r.gs, PyData.strOk g = true
  ws : ∀ g ∈ r.ws, PyData.strOk g = true
theorem rstr_of {zs : List Str} {r : WRul} (hz : ∀ z ∈ zs, IsName z) (h : WROk zs lawWords r) : RStr r :=
  ⟨(hz _ h.st).ok, (hz _ h.nx).ok, fun g hg => (by decide +kernel : ∀ g ∈ namesL ++ placesL, PyData.strOk g = true) g (h.g3 g hg), fun g hg => (by decide +kernel : ∀ g ∈ lawWords ++ [("*" : Str)], PyData.strOk g = true) g (h.w3 g hg)⟩
theorem okN_k {r : WRul} (h : RStr r) : okN 2 (kRul r) := okN_tup fun d hd => by
  simp only [List.mem_cons, List.not_mem_nil, or_false] at hd
  rcases hd with rfl | rfl | rfl | rfl
  · exact (okN_str h.st).le (by decide)
  · exact okN_strsT h.gs
  · exact okN_strsT h.ws
  · exact (okN_str h.nx).le (by decide)
theorem okN_r {r : WRul} (h : RStr r) : okN 2 (rulW r) := okN_tup fun d hd => by
  simp only [List.mem_cons, List.not_mem_nil, or_false] at hd
  rcases hd with rfl | rfl | rfl | rfl
  · exact (okN_str h.st).le (by decide)
  · exact okN_strsL h.gs
  · exact okN_strsL h.ws
  · exact (okN_str h.nx).le (by decide)
theorem okN_ks {rs : List WRul} (h : ∀ r ∈ rs, RStr r) : okN 3 (.tup (rs.map kRul)) := okN_tup fun d hd => by
  obtain ⟨r, hr, rfl⟩ := List.mem_map.mp hd
  exact okN_k (h r hr)
theorem okN_rs {rs : List WRul} (h : ∀ r ∈ rs, RStr r) : okN 3 (.lst (rs.map rulW)) := okN_lst fun d hd => by
  obtain ⟨r, hr, rfl⟩ := List.mem_map.mp hd
  exact okN_r (h r hr)
theorem eqv_ks (xs ys : List WRul) : PyData.eqv (pD (.tup (xs.map kRul))) (pD (.tup (ys.map kRul))) = true ↔ xs = ys := eqv_tM eqv_kR xs ys
theorem eqv_rs (xs ys : List WRul) : PyData.eqv (pD (.lst (xs.map rulW))) (pD (.lst (ys.map rulW))) = true ↔ xs = ys := eqv_lM eqv_lR xs ys
theorem eqv_sT (xs ys : List Str) : PyData.eqv (pD (.tup (xs.map eS))) (pD (.tup (ys.map eS))) = true ↔ xs = ys := eqv_tM (f := eS) eqv_s xs ys
theorem eqv_sL (xs ys : List Str) : PyData.eqv (pD (.lst (xs.map eS))) (pD (.lst (ys.map eS))) = true ↔ xs = ys := eqv_lM (f := eS) eqv_s xs ys
--SPLIT
/-! ### l[::-1]; l == [] -/
section
variable {X : Cx}
def rEqNil (K : PySem.W.Frag) : R2 := fun x y H Q => ∃ a b xs, x = .ref a ∧ y = .ref b ∧ SqL K H a xs ∧ SqL K H b [] ∧ Q (.bl xs.isEmpty) H
theorem op_eqNil (hu : X.A.units + 80 < cLine) : OpR X (compareOp .Eq) (rEqNil X.K) := by
  intro pins s σ H x y v u Q I rx ry h
  obtain ⟨a, b, xs, rfl, rfl, hx, hy, q⟩ := h
  cases (show v = Value.ref a from rx)
  cases (show u = Value.ref b from ry)
  obtain ⟨its, r, ht, _⟩ := I.list hx
  obtain ⟨jts, r2, ht2, _⟩ := I.list hy
  have l1 := r.length
  have l2 := r2.length
  have e2 : jts = [] := List.length_eq_zero_iff.mp l2.symm
  subst e2
  cases xs with
  | nil =>
    have e1 : its = [] := List.length_eq_zero_iff.mp l1.symm
    subst e1
    exact SeqAt.RcAt.lists (e := fun _ => true) ht.isList ht2.isList rfl (by omega) (fun j h1 => absurd h1 (Nat.not_lt_zero _)) X.prog X.w _ _ ⟨.bl true, H, I, rfl, q⟩
  | cons z zs =>
    refine SeqAt.RcAt.lists_lengths ht.isList ht2.isList ?_ (by omega) X.prog X.w _ _ ⟨.bl false, H, I, rfl, q⟩
    rw [List.size_toArray, List.size_toArray, ← l1]
    rfl
end
section
variable {K : PySem.W.Frag} {ω : Wp} {B : Bs K} {F F' F1 F2 G : Hp} {a a' a1 a2 : AS} {σ σ' : St} {H H' H1 H2 : Hp} {ι : Type} {X : ι → Cx} {e : Expr} {pos : Pos} {da : DEt}
def dEqNil : DR := fun d e R => match d, e with
  | .lst ds, .lst [] => R (.v (.bl ds.isEmpty))
  | _, _ => False
theorem dop_eqNil (hu : ∀ j, (X j).A.units + 80 < cLine) (hK : ∀ j, (X j).K = K := by intro _; rfl) : DOpR X K ω (compareOp .Eq) dEqNil :=
  ⟨rEqNil K, fun j pins s σ H x y v u Q I rx ry h => by
    rw [← hK j] at h
    exact op_eqNil (hu j) pins s σ H x y v u Q I rx ry h, fun B hω F a σ H x y d e Q R ok hx hy hd k => by
    unfold dEqNil at hd
    split at hd
    · rename_i ds
      obtain ⟨p, vs, rfl, q1, q2⟩ := hx
      obtain ⟨p', vs', rfl, q1', q2'⟩ := hy
      rw [show vs' = [] from q2'] at q1'
      refine ⟨p, p', vs, rfl, rfl, SqL.of (hs_same _ _ q1), SqL.of (hs_same _ _ q1'), ?_⟩
      have e : vs.isEmpty = ds.isEmpty := by
        cases ds with
        | nil => rw [show vs = [] from q2]; rfl
        | cons d ds =>
          obtain ⟨v, r, rfl, _, _⟩ := q2
          rfl
      rw [e]
      exact k _ (.v _) F H (.refl ok) rfl hd
    · exact hd.elim⟩
def dRevL (da : DEt) : DEt := fun a R => da a fun d a' => match d with
  | .lst ds => R (.lst ds.reverse) a'
  | _ => False
theorem do_revL {k : Nat} {p1 p2 p3 : Pos} (h : DX X K ω e da) (hK : ∀ j, (X j).K = K := by intro _; rfl) : DO X K ω (.Subscript e (.Slice none none (some (.UnaryOp .USub (.Constant (.int 1) k p1) p2)) p3) pos) (dRevL da) := by
  obtain ⟨t, p, l⟩ := h
  refine ⟨tRevL K t, fun j => by rw [← hK j]; exact pe_revL (p j), fun B hω F a σ H Q R ok hd kk => l B hω F a σ H _ _ ok hd fun v d F1 a1 H1 g1 q1 r1 => ?_⟩
  split at r1
  · rename_i ds
    obtain ⟨p, vs, rfl, h1, h2⟩ := q1
    exact ⟨p, vs, rfl, SqL.of (g1.ok.fi.fh _ _ h1), fun q hq => g1.list ok hq h2.rev r1 kk⟩
  · exact r1.elim
end
/-! ### a stretch of a law that changes lists inside lists that it has made -/
section
variable {K : PySem.W.Frag} {ω : Wp} {B : Bs K} {F F' F1 F2 Fs : Hp} {a a' a1 a2 : AS} {σ σ' : St} {H H' H0 H1 H2 : Hp} {n : Int} {te : TE} {de da db : DEt} {ι : Type} {X : ι → Cx} {e e1 e2 : Expr} {es : List Expr} {pos : Pos} {dl dm : DAt} {dt : DTt} {st : Stmt} {rest : List Stmt}
/-- a list that stands at an address where nothing stood -/
def flD (K : PySem.W.Frag) (Fs : Hp) (ds : List D) : D := .ob fun H0 y => Dat K H0 (.lst ds) y ∧ ∃ p, y = .ref p ∧ Fs p = none
/-- what stood already -/
def oldD (K : PySem.W.Frag) (Fs : Hp) : D → D
  | .v x => .v x
  | d => .ob fun _ y => Dat K Fs d y
theorem flD_lst {ds : List D} {v : V} (h : Dat K F (flD K Fs ds) v) : Dat K F (.lst ds) v := let ⟨_, s, q, _⟩ := h; q.mono s
theorem flD_at {ds : List D} {v : V} (h : Dat K F (flD K Fs ds) v) : ∃ p vs, v = .ref p ∧ Fs p = none ∧ F p = some (.lst vs) ∧ DatL K F ds vs := by
  obtain ⟨p, vs, rfl, q, l⟩ := flD_lst h
  obtain ⟨_, _, _, p', e, n⟩ := h
  cases e
  exact ⟨p, vs, rfl, n, q, l⟩
theorem oldD_of {d : D} {v : V} (s : Same Fs F) (h : Dat K Fs d v) : Dat K F (oldD K Fs d) v := by
  cases d
  case v x => exact h
  all_goals exact ⟨Fs, s, h⟩
theorem oldD_to {d : D} {v : V} (h : Dat K F (oldD K Fs d) v) : Dat K Fs d v := by
  cases d
  case v x => exact h
  all_goals exact h.choose_spec.2
/-- what is asked of such a stretch -/
def wpC (ω : Wp) (Fs : Hp) : Wp := ⟨ω.W, fun _ _ _ _ => False, fun F => F = Fs, ω.sf⟩
theorem wokC (hω : WOk B ω) : WOk (K := K) ⟨B.sp, H0, Fs, B.self⟩ (wpC ω Fs) := ⟨rfl, hω.2.1, fun _ _ _ _ _ _ _ _ _ w => w.elim⟩
/-- a new list, told so -/
def dFl (K : PySem.W.Frag) (Fs : Hp) (de : DEt) : DEt := fun a R => de a fun d a' => ∃ ds, d = .lst ds ∧ R (flD K Fs ds) a'
theorem LO.fl (h : LO K (wpC ω Fs) te de) : LE K (wpC ω Fs) te (dFl K Fs de) := fun B hω F a σ H Q R ok hd k => h B hω F a σ H Q _ ok hd fun p o d F' a' H' g n1 n2 e q r => by
  obtain ⟨ds, rfl, r⟩ := r
  obtain ⟨hF, h0, hs, no⟩ := ok.here n1
  have s1 : Same F' (upd F' p o) := Same.new n2
  have nf : Fs p = none := by
    have e0 : B.F0 = Fs := hω.1
    cases z : Fs p with
    | none => rfl
    | some u =>
      rw [← e0] at z
      rw [ok.fi.ff p u z] at hF
      cases hF
  refine k _ (flD K Fs ds) (upd F' p o) a' H' ⟨g.ok.frz e n2 h0 hs fun z => no (g.oo p z), g.ff.trans s1, g.hh, fun b z => ?_, g.oo⟩ (show Dat K _ (D.ob _) _ from ⟨_, Same.refl _, (q.mono s1).dat upd_same, p, rfl, nf⟩) r
  by_cases w : b = p
  · exact .inr (.inl (w ▸ n1))
  · rw [upd_ne w] at z
    exact (g.fr b z).imp id fun q => q.imp id fun q => q.imp id fun q => q.mono s1
theorem DO.fl (h : DO X K (wpC ω Fs) e de) : DX X K (wpC ω Fs) e (dFl K Fs de) := let ⟨t, p, l⟩ := h; ⟨t, p, l.fl⟩
/-- a name, seen with less than is known -/
def dView (K : PySem.W.Frag) (Fs : Hp) (i : Nat) : DEt := fun a R => ∃ d d', a.at i = .val d ∧ (∀ F v, Same Fs F → Dat K F d v → Dat K F d' v) ∧ R d' a
theorem le_view {i : Nat} : LE K (wpC ω Fs) (tVar i) (dView K Fs i) := fun B hω F a σ H Q R ok hd k => by
  obtain ⟨d, d', e, w, r⟩ := hd
  obtain ⟨v, h1, h2⟩ := ok.va i d (at_of' e (fun z => nomatch z))
  have e0 : B.F0 = Fs := hω.1
  exact ⟨v, h1, k v d' F a H (.refl ok) (w F v (e0 ▸ ok.fi.ff) h2) r⟩
/-- what the whole needs to come back -/
structure BackOk {K : PySem.W.Frag} (B : Bs K) (Fs H0 : Hp) : Prop where
  ff : Same B.F0 Fs
  fr : ∀ b, Fs b ≠ none → B.F0 b ≠ none ∨ B.H0 b = none ∨ ImmA Fs b
  fm : ∀ b o, B.H0 b = some o → B.sp ≠ some b → H0 b = some o
def isIns : HO → Bool
  | .ins _ _ _ => true
  | _ => false
/-- what stood already, and of the new what never changes -/
def keepF (Fs F1 : Hp) : Hp := fun b => match Fs b with
  | some _ => F1 b
  | none => match F1 b with
    | some o => if imm o || isIns o then some o else none
    | none => none
theorem keepF_to {b : Addr} {o : HO} (h : keepF Fs F1 b = some o) : F1 b = some o := by
  unfold keepF at h
  split at h
  · exact h
  · split at h
    · rename_i o' e
      split at h
      · rw [e]
        exact h
      · cases h
    · cases h
theorem keepF_old (s : Same Fs F1) : Same Fs (keepF Fs F1) := fun b o h => by
  unfold keepF
  rw [h]
  exact s b o h
theorem keepF_new {b : Addr} {o : HO} (h : F1 b = some o) (i : (imm o || isIns o) = true) : keepF Fs F1 b = some o := by
  unfold keepF
  split
  · exact h
  · rw [h]
    show (if (imm o || isIns o) = true then some o else none) = _
    rw [if_pos i]
theorem keepF_lst {b : Addr} {vs : List V} (h : F1 b = some (.lst vs)) (n : Fs b = none) : keepF Fs F1 b = none := by
  unfold keepF
  rw [n, h]
  rfl
/-- data without lists and dicts -/
def stillB : D → Bool
  | .v _ => true
  | .tup ds => stillL ds
  | .ctup _ => false
  | .ftup ds => stillL ds
  | .lst _ => false
  | .dK _ => false
  | .dT _ => false
  | .ins _ fs => stillS fs
  | .ob _ => false
where
  stillL : List D → Bool
    | [] => true
    | d :: ds => stillB d && stillL ds
  stillS : List (Str × D) → Bool
    | [] => true
    | (_, d) :: ds => stillB d && stillS ds
mutual
theorem still_dat : ∀ {d : D} {v : V}, stillB d = true → Dat K F1 d v → Dat K (keepF Fs F1) d v
  | .v _, _, _, h => h
  | .tup _, _, s, ⟨a, vs, e, h, l⟩ => ⟨a, vs, e, keepF_new h rfl, still_datL s l⟩
  | .ins _ _, _, s, ⟨a, dx, vs, e, h, l⟩ => ⟨a, dx, vs, e, keepF_new h rfl, still_datS s l⟩
  | .ctup _, _, s, _ => nomatch s
  | .ftup _, _, s, ⟨a, vs, e, ⟨o, h, h'⟩, l⟩ => ⟨a, vs, e, ⟨o, keepF_new h rfl, h'⟩, still_datL s l⟩
  | .lst _, _, s, _ => nomatch s
  | .dK _, _, s, _ => nomatch s
  | .dT _, _, s, _ => nomatch s
  | .ob _, _, s, _ => nomatch s
theorem still_datL : ∀ {ds : List D} {vs : List V}, stillB.stillL ds = true → DatL K F1 ds vs → DatL K (keepF Fs F1) ds vs
  | [], _, _, h => h
  | d :: ds, _, s, ⟨v, r, e, h, t⟩ => by
    have s' : (stillB d && stillB.stillL ds) = true := s
    rw [Bool.and_eq_true] at s'
    exact ⟨v, r, e, still_dat s'.1 h, still_datL s'.2 t⟩
theorem still_datS : ∀ {ds : List (Str × D)} {vs : List (Str × V)}, stillB.stillS ds = true → DatS K F1 ds vs → DatS K (keepF Fs F1) ds vs
  | [], _, _, h => h
  | (_, d) :: ds, _, s, ⟨v, r, e, h, t⟩ => by
    have s' : (stillB d && stillB.stillS ds) = true := s
    rw [Bool.and_eq_true] at s'
    exact ⟨v, r, e, still_dat s'.1 h, still_datS s'.2 t⟩
end
def noOwnC (sl : List Sl) : Prop := ∀ s ∈ sl, ∀ d, s ≠ Sl.own d
/-- the way back -/
theorem Ok.close (bk : BackOk B Fs H0) (ok : Ok (K := K) ⟨B.sp, H0, Fs, B.self⟩ F1 a1 σ H1) (sl3 : List Sl) (hl : sl3.length = a1.sl.length) (no3 : noOwnC sl3)
    (hk : ∀ (i : Nat) (d : D), sl3[i]? = some (Sl.val d) → ∃ d1, a1.sl[i]? = some (Sl.val d1) ∧ ∀ v, Dat K F1 d1 v → Dat K (keepF Fs F1) d v) (hs0 : ∀ p, B.sp = some p → B.H0 p ≠ none) : Ok B (keepF Fs F1) ⟨sl3, a1.n, a1.sp⟩ σ H1 := by
  have sf : Same Fs F1 := ok.fi.ff
  refine ⟨⟨fun b o h => ok.fi.fh b o (keepF_to h), bk.ff.trans (keepF_old sf), fun b h => ?_, fun b o h n => ok.fi.fm b o (bk.fm b o h n) n, fun p e => ?_⟩, ok.es, by rw [ok.len]; exact hl.symm, fun i d e => ?_, fun i d e => absurd rfl (no3 _ (List.mem_of_getElem? e) d), fun i j p d e h _ _ _ => absurd rfl (no3 _ (List.mem_of_getElem? h) d), ok.fx⟩
  · cases z : Fs b with
    | some u => exact (bk.fr b (by rw [z]; exact fun q => nomatch q)).imp id fun q => q.imp id fun q => q.mono (keepF_old sf)
    | none =>
      cases z1 : keepF Fs F1 b with
      | none => exact absurd z1 h
      | some o =>
        have h1 := keepF_to z1
        rcases ok.fi.fr b (by rw [h1]; exact fun q => nomatch q) with q | q | ⟨o', q1, q2⟩
        · exact absurd z q
        · refine .inr (.inl ?_)
          cases z2 : B.H0 b with
          | none => rfl
          | some u =>
            have n : B.sp ≠ some b := fun w => by
              have := (ok.fi.sr b w).1
              rw [h1] at this
              cases this
            have q : H0 b = none := q
            rw [bk.fm b u z2 n] at q
            cases q
        · rw [h1] at q1
          cases q1
          exact .inr (.inr ⟨o, z1, q2⟩)
  · obtain ⟨x1, x2, x3⟩ := ok.fi.sr p e
    refine ⟨?_, hs0 p e, x3⟩
    cases z : keepF Fs F1 p with
    | none => rfl
    | some o => rw [keepF_to z] at x1; cases x1
  · obtain ⟨d1, h1, w⟩ := hk i d e
    obtain ⟨v, h2, h3⟩ := ok.va i d1 h1
    exact ⟨v, h2, w v h3⟩
/-- the rest of such a stretch -/
def LTl (K : PySem.W.Frag) (ω : Wp) (Fs : Hp) (t : TS) (d : DSt) : Prop := ∀ (B : Bs K), WOk B ω → ∀ (E : Ends) (DE : DEnds) (H0 F1 : Hp) (a1 : AS) (σ1 : St) (H1 : Hp), BackOk B Fs H0 → (∀ p, B.sp = some p → B.H0 p ≠ none) → Ok (K := K) ⟨B.sp, H0, Fs, B.self⟩ F1 a1 σ1 H1 → d DE a1 → (∀ F, Same Fs F → EndsOk B F DE E) → t E σ1 H1
def DTl {ι : Type} (X : ι → Cx) (K : PySem.W.Frag) (ω : Wp) (ss : List Stmt) (d : Hp → DSt) : Prop := ∃ t : Hp → TS, (∀ Fs j, PSs (X j) ss (t Fs)) ∧ ∀ Fs, LTl K ω Fs (t Fs) (d Fs)
theorem dtl_cons {d1 d2 : Hp → DSt} (h1 : ∀ Fs, DS X K (wpC ω Fs) st (d1 Fs)) (h2 : DTl X K ω rest d2) : DTl X K ω (st :: rest) (fun Fs => fun E a => d1 Fs ⟨d2 Fs E, fun _ _ => False, fun _ => False, fun _ => False⟩ a) := by
  obtain ⟨u, p2, l2⟩ := h2
  refine ⟨fun Fs => tSeq (h1 Fs).choose (u Fs), fun Fs j => pss_cons ((h1 Fs).choose_spec.1 j) (p2 Fs j), fun Fs B hω E DE H0 F1 a1 σ1 H1 bk hs0 ok hd k => ?_⟩
  refine (h1 Fs).choose_spec.2 ⟨B.sp, H0, Fs, B.self⟩ (wokC hω) _ _ F1 a1 σ1 H1 ok hd ⟨fun F' a' σ' H' ok' s z => l2 Fs B hω E DE H0 F' a' σ' H' bk hs0 ok' z k, fun _ _ _ _ _ _ _ _ z => z.elim, fun _ _ _ _ _ _ z => z.elim, fun _ _ _ _ _ _ z => z.elim⟩
/-- into such a stretch -/
def oldSl (K : PySem.W.Frag) (Fs : Hp) : Sl → Sl
  | .val d => .val (oldD K Fs d)
  | s => s
def dOpen (K : PySem.W.Frag) (d : Hp → DSt) : DSt := fun E a => noOwnC a.sl ∧ ∀ Fs, d Fs E ⟨a.sl.map (oldSl K Fs), a.n, a.sp⟩
theorem dss_open {ss : List Stmt} {d : Hp → DSt} (h : DTl X K ω ss d) : DSs X K ω ss (dOpen K d) := by
  obtain ⟨t, p, l⟩ := h
  refine ⟨fun E σ H => ∃ Fs, t Fs E σ H, fun j => ⟨fun pins s σ H D I ⟨Fs, w⟩ => (p Fs j).run pins s σ H D I w⟩, fun B hω E DE F a σ H ok hd k => ⟨F, ?_⟩⟩
  obtain ⟨no, hd⟩ := hd
  have hv : ∀ (i : Nat) (d : D), (a.sl.map (oldSl K F))[i]? = some (Sl.val d) → ∃ v, σ[i]? = some (some v) ∧ Dat K F d v := fun i d e => by
    rw [List.getElem?_map] at e
    obtain ⟨s, h1, h2⟩ := Option.map_eq_some_iff.mp e
    cases s with
    | val d' =>
      cases h2
      obtain ⟨v, h3, h4⟩ := ok.va i d' h1
      exact ⟨v, h3, oldD_of (Same.refl _) h4⟩
    | emp => cases h2
    | own d' => cases h2
  have ho : noOwnC (a.sl.map (oldSl K F)) := fun s hs d e => by
    obtain ⟨s', h1, h2⟩ := List.mem_map.mp hs
    cases s' with
    | own d' => exact no _ h1 d' rfl
    | val d' => rw [← h2] at e; cases e
    | emp => rw [← h2] at e; cases e
  refine l F B hω E DE H F ⟨a.sl.map (oldSl K F), a.n, a.sp⟩ σ H ⟨ok.fi.ff, ok.fi.fr, ok.fi.fm⟩ (fun p e => (ok.fi.sr p e).2.1) ⟨⟨ok.fi.fh, Same.refl _, fun _ h => .inl h, fun _ _ h _ => h, fun p e => ?_⟩, ok.es, by rw [ok.len]; exact (List.length_map _).symm, hv, fun i d e => absurd rfl (ho _ (List.mem_of_getElem? e) d), fun i j p d e h _ _ _ => absurd rfl (ho _ (List.mem_of_getElem? h) d), ok.fx⟩ (hd F) fun F' s => k.mono s
  obtain ⟨x1, x2, x3⟩ := ok.fi.sr p e
  obtain ⟨xs, hx⟩ := x3.at
  exact ⟨x1, (by show H p ≠ none; rw [hx]; exact fun z => (nomatch z)), x3⟩
theorem ds_setLcFl {i : Nat} {y : Str} {py : Pos} {elt tg iter : Expr} {ifs : List Expr} {scope : Scope} {own : List (Str × Nat)} {pos spos : Pos} {di : DAt} {dg : DGt} {ws : List Nat} (hc : ∀ j, (X j).calm = true) (hN : ∀ j, (X j).N.Nodup) (hy : ∀ j, (X j).N[i]? = some y) (hyl : ∀ j, (X j).env.scope.names.lookup y = some .local)
    (hsw : ∀ j, swapsWith (.ListComp elt [⟨tg, iter, ifs, 0⟩] scope pos) (some (.Name y py)) spos.line (X j).env = pure true) (hi : DI X K (wpC ω Fs) tg iter di) (ok : ∀ j, BlkOk (X j).N (X j).env.scope scope own)
    (hg : DG (blkF X scope) K (wpC ω Fs) tg dg ws) (ht : DTs (blkF X scope) K (wpC ω Fs) ifs dt) (he : DX (blkF X scope) K (wpC ω Fs) elt de) (hw : ∀ i ∈ ws, i ∈ own.map (·.2) := by decide) (hs : ∀ j x, foldedSetIterable iter (X j).env x = pure x := by intro _ _; rfl) (hz : ω.sf = false ∨ 0 ∉ own.map (·.2) := by first | exact Or.inl rfl | exact Or.inr (by decide)) (hz0 : ω.sf = false ∨ i ≠ 0 := by first | exact Or.inl rfl | exact Or.inr (by decide)) :
    DS X K (wpC ω Fs) (.Assign [.Name y py] (.ListComp elt [⟨tg, iter, ifs, 0⟩] scope pos) spos) (dSet i (dFl K Fs (dLc (own.map (·.2)) di dg dt de))) := by
  obtain ⟨wi, p1, l1⟩ := hi
  obtain ⟨g, p2, l2⟩ := hg
  obtain ⟨tt, p3, l3⟩ := ht
  obtain ⟨te, p4, l4⟩ := he
  exact ⟨_, fun j => ps_setLc (hc j) (hN j) (hy j) (hyl j) (hsw j) (p1 j) (ok j) (fun s H C cl fp => p2 (j, s, H, C, cl, fp)) (fun s H C cl fp => p3 (j, s, H, C, cl, fp)) (fun s H C cl fp => p4 (j, s, H, C, cl, fp)) (hs j), fun B hω E DE F a σ H ok hd k => (LO.fl (lo_lc l1 l2 l3 l4 hw hz)) B hω F a σ H _ _ ok hd fun v d F' a' H' g q r => k.nx F' _ _ H' (g.ok.setV (hω.z hz0) q) g.ff r⟩
theorem dw (Fs : Hp) (i : Nat) {x : Str} {pos : Pos} (hN : ∀ j, (X j).N[i]? = some x := by intro _; rfl) (hv : ∀ j, Vis (X j).env.scope x := by first | exact fun _ => Or.inl rfl | exact fun _ => Or.inr (Or.inl rfl) | exact fun _ => Or.inr (Or.inr rfl)) (hd : (x == ("__debug__" : Str)) = false := by decide)
    (hcd : (x == ("__classdict__" : Str)) = false := by decide) : DX X K (wpC ω Fs) (.Name x pos) (dView K Fs i) := ⟨_, fun j => pe_var (hN j) (hv j) hd hcd, le_view⟩
end
/-! ### lists inside a list are changed, then the list itself is one's own -/
def mClear : DM := fun _ es R => match es with
  | [] => R [] (.v .non)
  | _ => False
theorem lm_clear {K : PySem.W.Frag} : LM K rClear mClear := fun F H p vs ds xs es Q R s h q1 q2 hd k => by
  unfold mClear at hd
  split at hd
  · cases (show xs = [] from q2)
    exact ⟨p, vs, rfl, rfl, h, k [] [] _ (.v .non) rfl rfl hd⟩
  · exact hd.elim
section
variable {K : PySem.W.Frag} {ω : Wp} {B : Bs K} {F F' F1 F2 Fs : Hp} {a a' a1 a2 : AS} {σ σ' : St} {H H' H0 H1 H2 : Hp} {n : Int} {ι : Type} {X : ι → Cx} {rest : List Stmt}
/-- what was made within the stretch and will not stay -/
theorem fresh_at {b : Addr} {vs : List V} (bk : BackOk B Fs H0) (ok : Ok (K := K) ⟨B.sp, H0, Fs, B.self⟩ F1 a1 σ H1) (n : Fs b = none) (h : F1 b = some (.lst vs)) : H1 b = some (.lst vs) ∧ keepF Fs F1 b = none ∧ B.H0 b = none ∧ B.sp ≠ some b := by
  have ns : B.sp ≠ some b := fun w => by
    have := (ok.fi.sr b w).1
    rw [h] at this
    cases this
  refine ⟨ok.fi.fh b _ h, keepF_lst h n, ?_, ns⟩
  rcases ok.fi.fr b (by rw [h]; exact fun q => (nomatch q)) with q | q | ⟨o', q1, q2⟩
  · exact absurd n q
  · cases z : B.H0 b with
    | none => rfl
    | some u =>
      have q : H0 b = none := q
      rw [bk.fm b u z ns] at q
      cases q
  · rw [h] at q1
    cases q1
    cases q2
theorem datL_v : ∀ (xs : List V), DatL K F (xs.map D.v) xs
  | [] => rfl
  | x :: xs => ⟨x, xs, rfl, rfl, datL_v xs⟩
theorem own_of_no {sl : List Sl} {n : Int} {sp : Option Addr} {b : Addr} (no : noOwnC sl) : ¬ OwnAt ⟨sl, n, sp⟩ σ b := by
  rintro ⟨i, d, h1, _⟩
  exact no _ (List.mem_of_getElem? h1) d rfl
theorem at0 {α : Type} (x : α) (l : List α) : atI (x :: l) 0 = some x := by
  unfold atI ixN
  rw [if_pos (by decide), if_pos (by rw [List.length_cons]; omega)]
  rfl
theorem set_same {i : Nat} {o : Option V} (h : σ[i]? = some o) : σ.set i o = σ := by
  refine List.ext_getElem? fun j => ?_
  by_cases z : i = j
  · subst z
    rw [List.getElem?_set_self (List.getElem?_eq_some_iff.mp h).1, h]
  · rw [List.getElem?_set_ne z]
/-- which slots are known afterwards -/
def KeepSl (K : PySem.W.Frag) (Fs : Hp) (sl sl3 : List Sl) : Prop := sl3.length = sl.length ∧ noOwnC sl3 ∧ ∀ (i : Nat) (d : D), sl3[i]? = some (Sl.val d) → ∃ d1, sl[i]? = some (Sl.val d1) ∧ (d1 = oldD K Fs d ∨ (d1 = d ∧ stillB d = true))
theorem KeepSl.dat {sl sl3 : List Sl} (h : KeepSl K Fs sl sl3) (s : Same Fs F1) (i : Nat) (d : D) (e : sl3[i]? = some (Sl.val d)) : ∃ d1, sl[i]? = some (Sl.val d1) ∧ ∀ v, Dat K F1 d1 v → Dat K (keepF Fs F1) d v := by
  obtain ⟨d1, e1, q⟩ := h.2.2 i d e
  refine ⟨d1, e1, fun v z => ?_⟩
  rcases q with rfl | ⟨rfl, q⟩
  · exact (oldD_to z).mono (keepF_old s)
  · exact still_dat q z
/-- o[0][1].append(z1); o[0][2].append(z2); two lists then stand for themselves -/
def dMut2 (K : PySem.W.Frag) (Fs : Hp) (i j : Nat) (d2 : DSt) : DSt := fun E a => ∃ (x0 x3 : Str) (gs ws zs : List Str) (more : List D) (sl3 : List Sl),
  a.at i = .val (flD K Fs (flD K Fs [.v (.str x0), flD K Fs (gs.map fun z => .v (.str z)), flD K Fs (ws.map fun z => .v (.str z)), .v (.str x3)] :: more)) ∧ a.at j = .val (flD K Fs (zs.map fun z => .v (.str z))) ∧ gs.length < 1000 ∧ ws.length < 1000 ∧ KeepSl K Fs a.sl sl3 ∧
  ∀ xs ys : List V, d2 E (AS.put (AS.put ⟨sl3, a.n, a.sp⟩ i (.own (.lst (xs.map D.v)))) j (.own (.lst (ys.map D.v))))
theorem datL_strs' : ∀ {zs : List Str} {vs : List V}, DatL K F (zs.map fun z => D.v (.str z)) vs → vs = zs.map V.str
  | [], _, h => h
  | z :: zs, _, ⟨v, r, e, h, t⟩ => by
    rw [e, datL_strs' t, show v = V.str z from h]
    rfl
theorem dtl_app2 {i j : Nat} {z1 z2 : Str} {s5 s6 : Stmt} {d2 : DSt} (hi : i ≠ 0) (hj : j ≠ 0) (hij : i ≠ j)
    (p5 : ∀ q, PS (X q) s5 (tDrop (tBM K "list" rAppend (tOp (rIxL K) (tOp (rIxL K) (tVar i) (tC (.int 0))) (tC (.int 1))) (tCons (tC (.str z1)) tNil))))
    (p6 : ∀ q, PS (X q) s6 (tDrop (tBM K "list" rAppend (tOp (rIxL K) (tOp (rIxL K) (tVar i) (tC (.int 0))) (tC (.int 2))) (tCons (tC (.str z2)) tNil))))
    (h : DSs X K ω rest d2) : DTl X K ω (s5 :: s6 :: rest) (fun Fs => dMut2 K Fs i j d2) := by
  obtain ⟨t, p, l⟩ := h
  refine ⟨fun _ => _, fun Fs q => pss_cons (p5 q) (pss_cons (p6 q) (p q)), fun Fs B hω E DE H0 F1 a σ H1 bk hs0 ok hd k => ?_⟩
  obtain ⟨x0, x3, gs, ws, zs, more, sl3, e1, e2, lg, lw, ks, hd⟩ := hd
  obtain ⟨v, s1, q1⟩ := ok.va i _ (at_of' e1 (fun z => nomatch z))
  obtain ⟨u, s2, q2⟩ := ok.va j _ (at_of' e2 (fun z => nomatch z))
  obtain ⟨pa, rs, rfl, na, fa, la⟩ := flD_at q1
  obtain ⟨pb, ys, rfl, nb, fb, lb⟩ := flD_at q2
  obtain rfl := datL_strs' lb
  obtain ⟨r0, rr, rfl, q3, _⟩ := la
  obtain ⟨pr, vs, rfl, nr, fr, lr⟩ := flD_at q3
  obtain ⟨y0, vs1, rfl, h0, y1, vs2, rfl, h1, y2, vs3, rfl, h2, y3, vs4, rfl, h3, lr⟩ := lr
  cases (show vs4 = [] from lr)
  cases (show y0 = _ from h0)
  cases (show y3 = _ from h3)
  obtain ⟨pg, us, rfl, ng, fg, lg'⟩ := flD_at h1
  obtain ⟨pw, ts, rfl, nw, fw, lw'⟩ := flD_at h2
  obtain rfl := datL_strs' lg'
  obtain rfl := datL_strs' lw'
  obtain ⟨A1, A2, A3, A4⟩ := fresh_at bk ok na fa
  obtain ⟨B1, B2, B3, B4⟩ := fresh_at bk ok nb fb
  obtain ⟨R1, R2, R3, R4⟩ := fresh_at bk ok nr fr
  obtain ⟨G1, G2, G3, G4⟩ := fresh_at bk ok ng fg
  obtain ⟨W1, W2, W3, W4⟩ := fresh_at bk ok nw fw
  have ok3 := Ok.close bk ok sl3 ks.1 ks.2.1 (ks.dat ok.fi.ff) hs0
  have nn : ∀ b, ¬ OwnAt ⟨sl3, a.n, a.sp⟩ σ b := fun b => own_of_no ks.2.1
  -- none of them is another one
  have nag : pa ≠ pg := fun z => by
    rw [z, G1] at A1
    cases gs with
    | nil => cases A1
    | cons g gs => cases A1
  have nrg : pr ≠ pg := fun z => by
    rw [z, G1] at R1
    match gs, R1 with
    | [], R1 => cases R1
    | [_], R1 => cases R1
    | _ :: _ :: _, R1 => cases R1
  have naw : pa ≠ pw := fun z => by
    rw [z, W1] at A1
    cases ws with
    | nil => cases A1
    | cons g gs => cases A1
  have nrw : pr ≠ pw := fun z => by
    rw [z, W1] at R1
    match ws, R1 with
    | [], R1 => cases R1
    | [_], R1 => cases R1
    | _ :: _ :: _, R1 => cases R1
  have nab : pa ≠ pb := fun z => by
    rw [z, B1] at A1
    cases zs with
    | nil => cases A1
    | cons g gs => cases A1
  -- the first one
  refine ⟨_, s1, _, _, 0, _, rfl, rfl, SqL.of A1, at0 _ _, _, _, 1, _, rfl, rfl, SqL.of R1, rfl, .inl ⟨rfl, _, SqL.of G1⟩, pg, _, _, rfl, rfl, G1, by rw [List.length_map]; exact Nat.lt_trans lg (by decide), ?_⟩
  have ok4 := ok3.ext (o := .lst (gs.map V.str ++ [.str z1])) G2 G3 G4 (nn pg)
  have A1' : upd H1 pg (.lst (gs.map V.str ++ [.str z1])) pa = some (.lst (.ref pr :: rr)) := by rw [upd_ne nag]; exact A1
  have R1' : upd H1 pg (.lst (gs.map V.str ++ [.str z1])) pr = some (.lst [.str x0, .ref pg, .ref pw, .str x3]) := by rw [upd_ne nrg]; exact R1
  obtain ⟨ts, W1', lt⟩ : ∃ ts : List V, upd H1 pg (.lst (gs.map V.str ++ [.str z1])) pw = some (.lst ts) ∧ ts.length < sizeLine := by
    by_cases z : pw = pg
    · subst z
      exact ⟨_, upd_same, by rw [List.length_append, List.length_map]; exact Nat.lt_of_le_of_lt (Nat.succ_le_of_lt lg) (by decide)⟩
    · exact ⟨_, by rw [upd_ne z]; exact W1, by rw [List.length_map]; exact Nat.lt_trans lw (by decide)⟩
  have B1' : ∃ ys : List V, upd H1 pg (.lst (gs.map V.str ++ [.str z1])) pb = some (.lst ys) := by
    by_cases z : pb = pg
    · subst z
      exact ⟨_, upd_same⟩
    · exact ⟨_, by rw [upd_ne z]; exact B1⟩
  generalize upd H1 pg (.lst (gs.map V.str ++ [.str z1])) = H3 at *
  refine ⟨_, s1, _, _, 0, _, rfl, rfl, SqL.of A1', at0 _ _, _, _, 2, _, rfl, rfl, SqL.of R1', rfl, .inl ⟨rfl, _, SqL.of W1'⟩, pw, _, _, rfl, rfl, W1', lt, ?_⟩
  have ok5 := ok4.ext (o := .lst (ts ++ [.str z2])) W2 W3 W4 (nn pw)
  have A1' : upd H3 pw (.lst (ts ++ [.str z2])) pa = some (.lst (.ref pr :: rr)) := by rw [upd_ne naw]; exact A1'
  have B1' : ∃ ys : List V, upd H3 pw (.lst (ts ++ [.str z2])) pb = some (.lst ys) := by
    obtain ⟨ys, e⟩ := B1'
    by_cases z : pb = pw
    · subst z
      exact ⟨_, upd_same⟩
    · exact ⟨ys, by rw [upd_ne z]; exact e⟩
  obtain ⟨ys, B1'⟩ := B1'
  generalize upd H3 pw (.lst (ts ++ [.str z2])) = H4 at *
  have ok6 := ok5.setO (i := i) (d := .lst ((V.ref pr :: rr).map D.v)) (fun z => absurd z hi) A1' A2 A3 (nn pa) ⟨_, rfl, datL_v _⟩
  rw [set_same s1] at ok6
  have nb6 : ¬ OwnAt (AS.put ⟨sl3, a.n, a.sp⟩ i (.own (.lst ((V.ref pr :: rr).map D.v)))) σ pb := by
    rintro ⟨m, d, w1, w2⟩
    rcases set_get w1 with ⟨rfl, _, _⟩ | ⟨_, w1⟩
    · rw [s1] at w2
      cases w2
      exact nab rfl
    · exact nn pb ⟨m, d, w1, w2⟩
  have ok7 := ok6.setO (i := j) (d := .lst (ys.map D.v)) (fun z => absurd z hj) B1' B2 B3 nb6 ⟨_, rfl, datL_v _⟩
  rw [set_same s2] at ok7
  exact l B hω E DE _ _ σ H4 ok7 (hd _ ys) (k _ (keepF_old ok.fi.ff))
end
/-! equal things -/
theorem eqv_self {d : D} (h : okP d) : PyData.eqv (pD d) (pD d) = true := SeqAt.eqv_refl _ (isP_lay d h.1)
theorem eq_same {d e : D} {R : D → Prop} {neg : Bool} (hd : okP d) (he : e = d) (hv : ∀ x, d ≠ .v x) (h : R (.v (.bl (!neg)))) : dEqB neg d e R := by
  subst he
  unfold dEqB
  split
  · rename_i x y q
    exact absurd rfl (hv _)
  · refine ⟨hd, hd, ?_⟩
    rw [eqv_self hd]
    cases neg <;> exact h
theorem pair_ok {a : Str} {d : D} (ha : PyData.strOk a = true) (hd : isP d = true) (hk : (pD d).depth ≤ 1) : okP (.tup [eS a, d]) := by
  refine ⟨?_, ?_⟩
  · show (PyData.strOk a && (isP d && true)) = true
    rw [ha, hd]
    rfl
  · show (PyData.tuple [.str a, pD d]).depth ≤ 64
    simp only [PyData.depth, PyData.depthAll]
    omega
theorem dLen_seq {d : D} {es : List D} {R : D → Prop} (e : seqD d = some es) (r : R (eI (es.length : Nat))) : dLen [d] R := by
  cases d with
  | lst ds => cases e; exact r
  | tup ds => cases e; exact r
  | ctup ds => cases e; exact r
  | ftup ds => cases e; exact r
  | _ => cases e
--SPLIT
/-! ### the law -/
theorem atI_nat {α : Type} {xs : List α} {k : Int} (h0 : 0 ≤ k) (h1 : k < (xs.length : Nat)) : atI xs k = xs[k.toNat]? := by
  unfold atI ixN
  rw [if_pos h0, if_pos h1]
  rfl
theorem datL_mapW {α : Type} {F : Hp} {f g : α → D} (h : ∀ x v, Dat K F (f x) v → Dat K F (g x) v) : ∀ {xs : List α} {vs : List V}, DatL K F (xs.map f) vs → DatL K F (xs.map g) vs
  | [], _, l => l
  | _ :: _, _, ⟨v, r, e, q, t⟩ => ⟨v, r, e, h _ _ q, datL_mapW h t⟩
theorem mk_watch {C CB CU : Addr} {d e : D} {rs : List WRul} {f : WRul → D} (wf : Way f) {as : List Str} (hd : seqD d = some (rs.map f)) (he : e = .lst (as.map eS) ∨ e = .tup (as.map eS)) (ne : rs ≠ []) (hl : rs.length ≤ 20) (AL : ∀ r ∈ rs, okWRule (rulW r) ∧ isWRule (rulW r) = true) (h6 : (wStates rs).length ≤ 6)
    (ha : ∀ z ∈ as, z ∈ wStates rs) (hl2 : as.length ≤ 1000) {R : D → Int → Prop} {RX : Addr → List (Str × D) → Int → Prop} {n : Int} (k : R (wtD C (rs.map kRul, wStates rs, ringS (wStates rs) as)) n) : spWatchD C CB CU none [d, e] n R RX := by
  have er : rulesD d = rs.map f := by unfold rulesD; rw [hd]; rfl
  have w0 := wf.fine ne hl (fun r hr => (AL r hr).2) h6
  have a0 : alarmErr (wStates rs) e = none := he.elim (fun q => q ▸ alarms_fine ha) fun q => q ▸ alarms_fineT ha
  have ls : as.length ≤ sizeLine := Nat.le_trans hl2 (by decide)
  have o0 : okAlarms e := he.elim (fun q => q ▸ okAlarms_L ls) fun q => q ▸ okAlarms_T ls
  have st : (rulesD d).map wRulD = rs := by rw [er]; exact wf.rds rs
  have rg : rungD (wStates rs) e = ringS (wStates rs) as := he.elim (fun q => q ▸ rung_L _ _) fun q => q ▸ rung_T _ _
  refine ⟨(d, e), rfl, ⟨⟨_, hd, fun x hx => ?_⟩, o0⟩, fun y ⟨q1, q2, q3⟩ => ?_, fun C fs q => (watch_noerr (p := (d, e)) ?_ ?_ q).elim⟩
  · obtain ⟨r, hr, rfl⟩ := List.mem_map.mp hx
    exact wf.ok r (AL r hr).1
  · replace q3 : y = watchD C ((rulesD d).map chkW) (wStates ((rulesD d).map wRulD)) (rungD (wStates ((rulesD d).map wRulD)) e) := q3
    rw [st, rg, er, wf.cks] at q3
    rw [q3]
    exact k
  · show watchErr (rulesD d) = none
    rw [er]
    exact w0
  · show alarmErr (wStates ((rulesD d).map wRulD)) e = none
    rw [st]
    exact a0
theorem oldD_v {Fs : Hp} {x : V} : oldD K Fs (.v x) = .v x := rfl
def rowF (K : PySem.W.Frag) (Fs : Hp) (r : WRul) : D := flD K Fs [eS r.st, flD K Fs (r.gs.map eS), flD K Fs (r.ws.map eS), eS r.nx]
theorem rowF_L {F Fs : Hp} (r : WRul) (v : V) (h : Dat K F (rowF K Fs r) v) : Dat K F (rowL r) v := by
  obtain ⟨a, vs, e, q, v0, r0, e0, h0, v1, r1, e1, h1, v2, r2, e2, h2, v3, r3, e3, h3, hn⟩ := flD_lst h
  exact ⟨a, vs, e, q, v0, r0, e0, h0, v1, r1, e1, flD_lst h1, v2, r2, e2, flD_lst h2, v3, r3, e3, h3, hn⟩
theorem still_map {α : Type} {f : α → D} (h : ∀ x, stillB (f x) = true) : ∀ xs : List α, stillB.stillL (xs.map f) = true
  | [] => rfl
  | x :: xs => by
    show (stillB (f x) && stillB.stillL (xs.map f)) = true
    rw [h x, still_map h xs]
    rfl
theorem still_k (r : WRul) : stillB (kRul r) = true := by
  show (true && (stillB.stillL (r.gs.map eS) && (stillB.stillL (r.ws.map eS) && (true && true)))) = true
  rw [still_map (f := eS) (fun _ => rfl), still_map (f := eS) (fun _ => rfl)]
  rfl
theorem still_wt (C : Addr) (ws : List WRul) (St A : List Str) : stillB (wtD C (ws.map kRul, St, A)) = true := by
  show (stillB.stillL (ws.map kRul) && (stillB.stillL (St.map eS) && (stillB.stillL (A.map eS) && true))) = true
  rw [still_map still_k, still_map (f := eS) (fun _ => rfl), still_map (f := eS) (fun _ => rfl)]
  rfl
theorem eq_dec {d e : D} {R : D → Prop} {neg b : Bool} (hd : okP d) (he : okP e) (q : PyData.eqv (pD d) (pD e) = b) (hv : ∀ x, d ≠ .v x) (h : R (.v (.bl (nb neg b)))) : dEqB neg d e R := by
  unfold dEqB
  split
  · rename_i x y q
    exact absurd rfl (hv _)
  · refine ⟨hd, he, ?_⟩
    rw [q]
    exact h
theorem bool_dec {b : Bool} {q : Prop} [Decidable q] (h : b = true ↔ q) : b = decide q := by
  by_cases z : q
  · rw [decide_eq_true z]
    exact h.mpr z
  · rw [decide_eq_false z]
    cases b with
    | false => rfl
    | true => exact absurd (h.mp rfl) z
theorem eqO_watch (T : Txt P w K mg) {neg : Bool} (x : WtX) (y : WtX ⊕ List D) (hx : okWt x) (hy : ∀ z, y = .inl z → okWt z) {R : D → Prop} (h : R (.v (.bl (nb neg (eqWt x y))))) : dEqO neg K T.C_Watch (spWatchEqD T.C_Watch) (wtD T.C_Watch x) (othWt T.C_Watch y) R := by
  refine ⟨⟨_, rfl⟩, ?_, (x, y), rfl, ⟨hx, hy⟩, fun b hb => ⟨b, rfl, by subst hb; exact h⟩⟩
  cases y with
  | inl y => exact T.nf_Watch
  | inr l => exact T.n1_Watch
instance : DecidableEq WRul := fun ⟨a1, a2, a3, a4⟩ ⟨b1, b2, b3, b4⟩ => decidable_of_iff (a1 = b1 ∧ a2 = b2 ∧ a3 = b3 ∧ a4 = b4) (by rw [WRul.mk.injEq])
theorem eq_wt (ws ws' : List WRul) (St St' A A' : List Str) : eqWt (ws.map kRul, St, A) (.inl (ws'.map kRul, St', A')) = (decide (ws = ws') && decide (A = A')) := by
  show (PyData.eqv (pD (.tup (ws.map kRul))) (pD (.tup (ws'.map kRul))) && PyData.eqv (pD (.tup (A.map eS))) (pD (.tup (A'.map eS)))) = _
  rw [bool_dec (eqv_ks ws ws'), bool_dec (eqv_sT A A')]
theorem ok_law (T : Txt P w K mg) : FnOk P w K mg base CX0 9 T.f_law T.d_law ["_law_script"] (spLaw K) := by
  refine T.F_law.ok sc_law (fun vs H Q E h => ?_) (fun cdv A outer s H vs Q E hr h => ?_)
  · obtain ⟨a, ns, rfl, _⟩ := h
    rfl
  obtain ⟨a, ns, rfl, hS, hlen, k⟩ := h
  refine law_run (ps_set (i := 1) sc_law.nd rfl (Or.inl rfl) (pe_call (ok_law_source T) (hr.mono (by decide)) (by rfl) T.m_law_source T.F_law_source.kp T.b_law_source .nil pass0 (pa_cons (pv 0) pa_nil))) (dss_cons (ds_set (i := 2) (fun _ => sc_law.nd) (fun _ => rfl) (fun _ => Or.inl rfl) (de_call mon_law_watch_rules (ups_law_watch_rules T) (fun _ => ok_law_watch_rules T) (fun _ => (hr.mono (by decide))) (fun _ => by rfl) (fun _ => T.m_law_watch_rules) (fun _ => T.F_law_watch_rules.kp) (fun _ => T.b_law_watch_rules) (fun _ => pass0) (da_cons (dv 1) (da_cons de_int (da_cons de_int (da_cons (DO.x (do_lst (da_cons de_str (da_cons de_str (da_cons de_str da_nil))))) da_nil))))))
      (dss_cons (ds_set (i := 3) (fun _ => sc_law.nd) (fun _ => rfl) (fun _ => Or.inl rfl) (de_call0 mon_law_watch_states (ups_law_watch_states T) (fun _ => ok_law_watch_states T) (fun _ => (hr.mono (by decide))) (fun _ => by rfl) (fun _ => T.m_law_watch_states) (fun _ => T.F_law_watch_states.kp) (fun _ => T.b_law_watch_states) (fun _ => pass0) (da_cons (dv 2) da_nil)))
      (dss_cut (ds_set (i := 4) (fun _ => sc_law.nd) (fun _ => rfl) (fun _ => Or.inr rfl) (DO.x (do_cat (de_call mon_law_subset (ups_law_subset T) (fun _ => ok_law_subset T) (fun _ => (hr.mono (by decide))) (fun _ => by rfl) (fun _ => T.m_law_subset) (fun _ => T.F_law_subset.kp) (fun _ => T.b_law_subset) (fun _ => pass0) (da_cons (dv 1) (da_cons (dv 3) da_nil))) (de_call mon_law_subset (ups_law_subset T) (fun _ => ok_law_subset T) (fun _ => (hr.mono (by decide))) (fun _ => by rfl) (fun _ => T.m_law_subset) (fun _ => T.F_law_subset.kp) (fun _ => T.b_law_subset) (fun _ => pass0) (da_cons (dv 1) (da_cons (dv 3) da_nil))))))
      (dss_open (dtl_cons (fun Fs => (ds_setLcFl (i := 5) (own := [("_law_state", 11), ("_law_groups", 12), ("_law_words", 13), ("_law_after", 14)]) (fun _ => rfl) (fun _ => sc_law.nd) (fun _ => rfl) (fun _ => rfl) (fun _ => sw_true rfl rfl rfl (by decide +kernel)) (di_seq (dw Fs 2)) (fun _ => blkOk_by (own := [("_law_state", 11), ("_law_groups", 12), ("_law_words", 13), ("_law_after", 14)]) (N := ["_law_script", "_law_source_here", "_law_rules", "_law_states", "_law_alarms", "_law_passed", "_law_given", "_law_watch", "_law_twin", "_law_due", "_law_left", "_law_state", "_law_groups", "_law_words", "_law_after", "_law_k"]) (sc := defScope s_law) (by decide +kernel)) (dg_tup (fun _ => rfl) (dgs_cons (dg_name (i := 11) (fun _ => sc_law.nd) (fun _ => rfl) (fun _ => Or.inl rfl)) (dgs_cons (dg_name (i := 12) (fun _ => sc_law.nd) (fun _ => rfl) (fun _ => Or.inl rfl)) (dgs_cons (dg_name (i := 13) (fun _ => sc_law.nd) (fun _ => rfl) (fun _ => Or.inl rfl)) (dgs_cons (dg_name (i := 14) (fun _ => sc_law.nd) (fun _ => rfl) (fun _ => Or.inl rfl)) dgs_nil))))) dts_nil (DO.fl (do_lst (da_cons (dv 11) (da_cons (DO.fl (do_list (fun _ => by rfl) (fun _ => T.m_list) (by decide +kernel) (da_cons (dv 12) da_nil))) (da_cons (DO.fl (do_list (fun _ => by rfl) (fun _ => T.m_list) (by decide +kernel) (da_cons (dv 13) da_nil))) (da_cons (dv 14) da_nil))))))))
      (dtl_cons (fun Fs => (ds_setLcFl (i := 6) (own := [("_law_k", 15)]) (fun _ => rfl) (fun _ => sc_law.nd) (fun _ => rfl) (fun _ => rfl) (fun _ => sw_true rfl rfl rfl (by decide +kernel)) (di_seq (de_call mon_law_order (ups_law_order T) (fun _ => ok_law_order T) (fun _ => (hr.mono (by decide))) (fun _ => by rfl) (fun _ => T.m_law_order) (fun _ => T.F_law_order.kp) (fun _ => T.b_law_order) (fun _ => pass0) (da_cons (dv 1) (da_cons (de_callB dc_len (fun _ => by rfl) (fun _ => T.m_len) (by decide +kernel) (dab_cons (DX.b (dw Fs 4)) dab_nil)) da_nil)))) (fun _ => blkOk_by (own := [("_law_k", 15)]) (N := ["_law_script", "_law_source_here", "_law_rules", "_law_states", "_law_alarms", "_law_passed", "_law_given", "_law_watch", "_law_twin", "_law_due", "_law_left", "_law_state", "_law_groups", "_law_words", "_law_after", "_law_k"]) (sc := defScope s_law) (by decide +kernel)) (dg_name (i := 15) (fun _ => sc_law.nd) (fun _ => rfl) (fun _ => Or.inl rfl)) dts_nil (de_ix (dw Fs 4) (dbv 15) (fun _ _ => rfl))))
      (dtl_cons (fun Fs => (ds_set (i := 7) (fun _ => sc_law.nd) (fun _ => rfl) (fun _ => Or.inl rfl) (de_make mon_Watch__init (ups_Watch__init T) T.mk_Watch (fun _ => ok_Watch__init T) (fun _ => hr.mono (by decide)) (fun _ => by rfl) (fun _ => T.m_Watch) T.b_Watch__init .nil (dds := []) (fun _ => rfl) (fun _ => takes0) (da_cons (dw Fs 5) (da_cons (dw Fs 6) da_nil)))))
      (dtl_cons (fun Fs => (ds_set (i := 8) (fun _ => sc_law.nd) (fun _ => rfl) (fun _ => Or.inl rfl) (de_make mon_Watch__init (ups_Watch__init T) T.mk_Watch (fun _ => ok_Watch__init T) (fun _ => hr.mono (by decide)) (fun _ => by rfl) (fun _ => T.m_Watch) T.b_Watch__init .nil (dds := []) (fun _ => rfl) (fun _ => takes0) (da_cons (de_call0 mon_law_tuples (ups_law_tuples T) (fun _ => ok_law_tuples T) (fun _ => (hr.mono (by decide))) (fun _ => by rfl) (fun _ => T.m_law_tuples) (fun _ => T.F_law_tuples.kp) (fun _ => T.b_law_tuples) (fun _ => pass0) (da_cons (dw Fs 2) da_nil)) (da_cons (de_tuple (fun _ => by rfl) (fun _ => T.m_tuple) (by decide +kernel) (da_cons (DO.x (do_revL (dw Fs 4))) da_nil)) da_nil)))))
      ((dtl_app2 (i := 5) (j := 6) (z1 := "any") (z2 := "*") (by decide) (by decide) (by decide) (fun _ => (ps_expr (pe_bm PySem.F.plainAttrs_list PySem.F.slot_list_append PySem.F.type_list_append mt_append (pe_ix (show IxR _ (rIxL K) from ix_list) (pe_ix (show IxR _ (rIxL K) from ix_list) (pv 5) pe_int (fun _ _ => rfl)) pe_int (fun _ _ => rfl)) (pa_cons pe_str pa_nil)))) (fun _ => (ps_expr (pe_bm PySem.F.plainAttrs_list PySem.F.slot_list_append PySem.F.type_list_append mt_append (pe_ix (show IxR _ (rIxL K) from ix_list) (pe_ix (show IxR _ (rIxL K) from ix_list) (pv 5) pe_int (fun _ _ => rfl)) pe_int (fun _ _ => rfl)) (pa_cons pe_str pa_nil))))) (dss_cons (ds_own0 (i := 5) PySem.F.plainAttrs_list PySem.F.slot_list_clear PySem.F.type_list_clear (fun _ => mt_clear) lm_clear (fun _ => pv 5))
      (dss_cons (ds_own0 (i := 6) PySem.F.plainAttrs_list PySem.F.slot_list_clear PySem.F.type_list_clear (fun _ => mt_clear) lm_clear (fun _ => pv 6))
      (dss_cut (ds_set (i := 9) (fun _ => sc_law.nd) (fun _ => rfl) (fun _ => Or.inl rfl) (de_call0 mon_law_tuples (ups_law_tuples T) (fun _ => ok_law_tuples T) (fun _ => (hr.mono (by decide))) (fun _ => by rfl) (fun _ => T.m_law_tuples) (fun _ => T.F_law_tuples.kp) (fun _ => T.b_law_tuples) (fun _ => pass0) (da_cons (dv 2) da_nil)))
      (dss_cut (ds_if (DW.pt (dw_or (dt_cmp (dop_ne (fun _ => hr.units)) (DX.b (de_prop mon_Watch_rules (ups_Watch_rules T) (dv 7) T.cl_Watch T.pr_Watch_rules (fun _ => ok_Watch_rules T) (fun _ => hr.mono (by decide)) T.b_Watch_rules (fun _ => pass0))) (dbv 9) (nomark _)) (dw_or1 (dt_not (dt_val (de_isi .tup (by decide) (fun _ => rfl) (fun _ => T.m_isinstance) rfl (fun _ => rfl) (fun _ => T.m_tuple) (by decide +kernel) (DX.b (de_prop mon_Watch_rules (ups_Watch_rules T) (dv 7) T.cl_Watch T.pr_Watch_rules (fun _ => ok_Watch_rules T) (fun _ => hr.mono (by decide)) T.b_Watch_rules (fun _ => pass0)))))))))
      (dss_one (ds_ret de_bl))
      dss_nil)
      (dss_cut (ds_if (DW.pt (dw_or (dt_cmp (dop_ne (fun _ => hr.units)) (DX.b (de_prop mon_Watch_states (ups_Watch_states T) (dv 7) T.cl_Watch T.pr_Watch_states (fun _ => ok_Watch_states T) (fun _ => hr.mono (by decide)) T.b_Watch_states (fun _ => pass0))) (DX.b (de_tuple (fun _ => by rfl) (fun _ => T.m_tuple) (by decide +kernel) (da_cons (dv 3) da_nil))) (nomark _)) (dw_or1 (dt_cmp (dop_ne (fun _ => hr.units)) (DX.b (de_prop mon_Watch_start (ups_Watch_start T) (dv 7) T.cl_Watch T.pr_Watch_start (fun _ => ok_Watch_start T) (fun _ => hr.mono (by decide)) T.b_Watch_start (fun _ => pass0))) (db_ix (db_ix (dbv 2) (DX.b de_int) (fun _ _ => rfl)) (DX.b de_int) (fun _ _ => rfl)) (nomark _)))))
      (dss_one (ds_ret de_bl))
      dss_nil)
      (dss_cut (ds_if (dt_cmp (dop_ne (fun _ => hr.units)) (DX.b (de_prop mon_Watch_alarms (ups_Watch_alarms T) (dv 7) T.cl_Watch T.pr_Watch_alarms (fun _ => ok_Watch_alarms T) (fun _ => hr.mono (by decide)) T.b_Watch_alarms (fun _ => pass0))) (DX.b (de_tuple (fun _ => by rfl) (fun _ => T.m_tuple) (by decide +kernel) (da_cons (DO.x (do_lc (own := [("_law_state", 11)]) (fun _ => rfl) (fun _ => sc_law.nd) (di_seq (dv 3)) (fun _ => blkOk_by (own := [("_law_state", 11)]) (N := ["_law_script", "_law_source_here", "_law_rules", "_law_states", "_law_alarms", "_law_passed", "_law_given", "_law_watch", "_law_twin", "_law_due", "_law_left", "_law_state", "_law_groups", "_law_words", "_law_after", "_law_k"]) (sc := defScope s_law) (by decide +kernel)) (dg_name (i := 11) (fun _ => sc_law.nd) (fun _ => rfl) (fun _ => Or.inl rfl)) (dts_one (dt_cmp (dop_in (fun _ => hr65 hr)) (dbv 11) (dbv 4) (by rfl))) (dv 11))) da_nil))) (nomark _))
      (dss_one (ds_ret de_bl))
      dss_nil)
      (dss_cut (ds_setLc (i := 10) (own := [("_law_state", 11)]) (fun _ => rfl) (fun _ => sc_law.nd) (fun _ => rfl) (fun _ => rfl) (fun _ => sw_true rfl rfl rfl (by decide +kernel)) (di_seq (dv 3)) (fun _ => blkOk_by (own := [("_law_state", 11)]) (N := ["_law_script", "_law_source_here", "_law_rules", "_law_states", "_law_alarms", "_law_passed", "_law_given", "_law_watch", "_law_twin", "_law_due", "_law_left", "_law_state", "_law_groups", "_law_words", "_law_after", "_law_k"]) (sc := defScope s_law) (by decide +kernel)) (dg_name (i := 11) (fun _ => sc_law.nd) (fun _ => rfl) (fun _ => Or.inl rfl)) (dts_one (dt_cmp (dop_notin (fun _ => hr65 hr)) (dbv 11) (dbv 4) (by rfl))) (dv 11))
      (dss_cut (ds_if (dt_cmp (dop_ne (fun _ => hr.units)) (DX.b (de_cmp (dop_eqO mon_Watch__eq (ups_Watch__eq T) (fun _ => ok_Watch__eq T) T.mt_Watch__eq.at_ T.mt_Watch__eq.fn T.b_Watch__eq (fun _ => pass0) (fun _ => hr.mono (by decide))) (dbv 7) (DX.b (de_make mon_Watch__init (ups_Watch__init T) T.mk_Watch (fun _ => ok_Watch__init T) (fun _ => hr.mono (by decide)) (fun _ => by rfl) (fun _ => T.m_Watch) T.b_Watch__init .nil (dds := []) (fun _ => rfl) (fun _ => takes0) (da_cons (dv 2) (da_cons (dv 10) da_nil)))) (nomark _))) (DX.b (de_cmp (dop_eq (fun _ => hr.units)) (dbv 10) (DX.b (DO.x (do_list (fun _ => by rfl) (fun _ => T.m_list) (by decide +kernel) (da_cons (de_prop mon_Watch_alarms (ups_Watch_alarms T) (dv 7) T.cl_Watch T.pr_Watch_alarms (fun _ => ok_Watch_alarms T) (fun _ => hr.mono (by decide)) T.b_Watch_alarms (fun _ => pass0)) da_nil)))) (nomark _))) (nomark _))
      (dss_one (ds_ret de_bl))
      dss_nil)
      (dss_cut (ds_if (dt_cmp (dop_ne (fun _ => hr.units)) (DX.b (de_cmp (dop_neO mon_Watch__eq (ups_Watch__eq T) (fun _ => ok_Watch__eq T) T.mt_Watch__eq.at_ T.mt_Watch__eq.fn T.cn_Watch T.co_Watch T.b_Watch__eq (fun _ => pass0) (fun _ => hr.mono (by decide))) (dbv 7) (DX.b (de_make mon_Watch__init (ups_Watch__init T) T.mk_Watch (fun _ => ok_Watch__init T) (fun _ => hr.mono (by decide)) (fun _ => by rfl) (fun _ => T.m_Watch) T.b_Watch__init .nil (dds := []) (fun _ => rfl) (fun _ => takes0) (da_cons (DO.x (do_revL (dv 2))) (da_cons (dv 4) da_nil)))) (nomark _))) (DX.b (de_cmp (dop_ne (fun _ => hr.units)) (DX.b (DO.x (do_revL (dv 2)))) (dbv 2) (nomark _))) (nomark _))
      (dss_one (ds_ret de_bl))
      dss_nil)
      (dss_cut (ds_if (DW.pt (dw_or (dt_cmp (dop_eqO mon_Watch__eq (ups_Watch__eq T) (fun _ => ok_Watch__eq T) T.mt_Watch__eq.at_ T.mt_Watch__eq.fn T.b_Watch__eq (fun _ => pass0) (fun _ => hr.mono (by decide))) (dbv 7) (DX.b (de_make mon_Watch__init (ups_Watch__init T) T.mk_Watch (fun _ => ok_Watch__init T) (fun _ => hr.mono (by decide)) (fun _ => by rfl) (fun _ => T.m_Watch) T.b_Watch__init .nil (dds := []) (fun _ => rfl) (fun _ => takes0) (da_cons (DO.x (do_cat (dv 2) (DO.x (do_lst (da_cons (de_ix (dv 2) (DX.b de_int) (fun _ _ => rfl)) da_nil))))) (da_cons (dv 4) da_nil)))) (nomark _)) (dw_or (dt_cmp (dop_eqO mon_Watch__eq (ups_Watch__eq T) (fun _ => ok_Watch__eq T) T.mt_Watch__eq.at_ T.mt_Watch__eq.fn T.b_Watch__eq (fun _ => pass0) (fun _ => hr.mono (by decide))) (dbv 7) (dbv 9) (nomark _)) (dw_or1 (dt_not (dt_cmp (dop_neO mon_Watch__eq (ups_Watch__eq T) (fun _ => ok_Watch__eq T) T.mt_Watch__eq.at_ T.mt_Watch__eq.fn T.cn_Watch T.co_Watch T.b_Watch__eq (fun _ => pass0) (fun _ => hr.mono (by decide))) (dbv 7) (DX.b (de_tup (da_cons (dv 9) (da_cons (de_prop mon_Watch_alarms (ups_Watch_alarms T) (dv 7) T.cl_Watch T.pr_Watch_alarms (fun _ => ok_Watch_alarms T) (fun _ => hr.mono (by decide)) T.b_Watch_alarms (fun _ => pass0)) da_nil)))) (nomark _)))))))
      (dss_one (ds_ret de_bl))
      dss_nil)
      (dss_one (ds_ret (de_and (de_cmp (dop_eqO mon_Watch__eq (ups_Watch__eq T) (fun _ => ok_Watch__eq T) T.mt_Watch__eq.at_ T.mt_Watch__eq.fn T.b_Watch__eq (fun _ => pass0) (fun _ => hr.mono (by decide))) (dbv 7) (dbv 8) (nomark _)) (de_one (de_not (de_cmp (dop_neO mon_Watch__eq (ups_Watch__eq T) (fun _ => ok_Watch__eq T) T.mt_Watch__eq.at_ T.mt_Watch__eq.fn T.cn_Watch T.co_Watch T.b_Watch__eq (fun _ => pass0) (fun _ => hr.mono (by decide))) (dbv 7) (dbv 8) (nomark _)))))))))))))))))))))))))) hS (by decide) k fun p => st_eq (sl' := [.emp, .val (sD p), .emp, .emp, .emp, .emp, .emp, .emp, .emp, .emp, .emp, .emp, .emp, .emp, .emp, .emp]) rfl ?_
  have sm : ∀ m : Nat, m ≤ 1000 → m ≤ sizeLine := fun m h => Nat.le_trans h (by decide)
  walk_at "drx"
  refine ⟨sm 3 (by decide), p, (3, 6, lawWords), rfl, rfl, ⟨by decide, by decide, by decide, by decide, by decide⟩, by show (0 : Int) < 100000; decide, fun y ⟨zs, ws, n1, l2, ne, l3, R1, e1⟩ => ?_⟩
  subst e1
  dsimp only [id]
  replace l2 : zs.length ≤ 3 := l2
  replace l3 : ws.length ≤ 6 := l3
  have AL : ∀ r ∈ ws, okWRule (rulW r) ∧ isWRule (rulW r) = true := fun r hr => rulW_ok n1 word_ok (R1 r hr)
  have RS : ∀ r ∈ ws, RStr r := fun r hr => rstr_of n1 (R1 r hr)
  have few : ∀ rs : List WRul, (∀ r ∈ rs, r ∈ ws) → (wStates rs).length ≤ 3 := fun rs h => Nat.le_trans (states_few fun r hr => R1 r (h r hr)) l2
  -- a watch of such rules, however they are written
  have made : ∀ (f : WRul → D), Way f → ∀ rs : List WRul, rs ≠ [] → rs.length ≤ 20 → (∀ r ∈ rs, r ∈ ws) → watchErr (rs.map f) = none := fun f wf rs ne hl h => wf.fine ne hl (fun r hr => (AL r (h r hr)).2) (Nat.le_trans (few rs h) (by decide))
  have fit : ∀ (f : WRul → D), Way f → ∀ rs : List WRul, (∀ r ∈ rs, r ∈ ws) → ∀ d ∈ rs.map f, okWRule d := fun f wf rs h d hd => by
    obtain ⟨r, hr, rfl⟩ := List.mem_map.mp hd
    exact wf.ok r (AL r (h r hr)).1
  refine ⟨ws.map rulW, rfl, ⟨fun d hd => by
    obtain ⟨r, hr, rfl⟩ := List.mem_map.mp hd
    exact (AL r hr).2, by rw [List.length_map]; omega⟩, fun y hy => ?_⟩
  subst hy
  rw [rules_W]
  have st3 := few ws fun _ h => h
  generalize hSt : wStates ws = St at *
  refine cutI (fun a => ∃ (al : List Str) (m : Int), (∀ z ∈ al, z ∈ St) ∧ al.length ≤ 6 ∧ m ≤ 50000 ∧ a = ⟨[.emp, .val (sD p), .val (.lst (ws.map rulW)), .val (.lst (St.map eS)), .val (.lst (al.map eS)), .emp, .emp, .emp, .emp, .emp, .emp, .emp, .emp, .emp, .emp, .emp], m, some p⟩) ?_ ?_
  · walk_at "drx"
    refine ⟨p, St, rfl, rfl, by omega, by show (0 : Int) + 10000 < 100000; decide, fun y1 ⟨b1, b2⟩ => ⟨p, St, rfl, rfl, by omega, by show (0 : Int) + 10000 + 100 < 100000; decide, fun y2 ⟨b3, b4⟩ => ⟨sm _ (by rw [List.length_map, List.length_map]; omega), y1 ++ y2, _, fun z hz => (List.mem_append.mp hz).elim (b1 z) (b3 z), by rw [List.length_append]; omega, ?_, by rw [List.map_append]⟩⟩⟩
    show (0 : Int) + 10000 + 100 + 100 ≤ 50000
    decide
  rintro _ ⟨al, m, al1, al2, hm, rfl⟩
  refine ⟨fun s hs d e => ?_, fun Fs => ?_⟩
  · subst e
    simp at hs
  simp only [List.map_cons, List.map_nil, oldSl, oldD_v]
  have ov : ∀ (d : D) (F : Hp) (v : V), Same Fs F → Dat K F (oldD K Fs d) v → Dat K F d v := fun d F v s h => (oldD_to h).mono s
  have fv : ∀ (ds : List D) (F : Hp) (v : V), Same Fs F → Dat K F (flD K Fs ds) v → Dat K F (.lst ds) v := fun ds F v s h => flD_lst h
  dsimp only [dFl, dView]
  walk_at "drx"
  refine ⟨_, .lst (ws.map rulW), rfl, fun F v => ov _ F v, ?_⟩
  walk_at "drx"
  generalize hRW : ws.map rulW = RW
  refine dLc_inv (fun i acc n' => acc = (ws.take i).map (rowF K Fs) ∧ n' = m) ⟨rfl, rfl⟩ ?_ ?_
  · rintro i d acc n' N hi ⟨rfl, rfl⟩ hN
    rw [← hRW, List.getElem?_map] at hi
    obtain ⟨r, hr', rfl⟩ := Option.map_eq_some_iff.mp hi
    have hil := (List.getElem?_eq_some_iff.mp hr').1
    dsimp only [rulW, dFl]
    walk_at "drx"
    dsimp only [dFl]
    walk_at "drx"
    refine ⟨rfl, _, rfl, _, rfl, sm 4 (by decide), _, rfl, rfl, by rw [List.length_map, List.length_take]; exact Nat.lt_of_le_of_lt (Nat.le_trans (Nat.min_le_right _ _) l3) (by decide), hN _ _ ⟨?_, rfl⟩⟩
    rw [take_more hr', List.map_append]
    rfl
  rintro acc n' ⟨rfl, rfl⟩
  rw [← hRW, List.length_map, List.take_length, hRW]
  refine ⟨_, rfl, _, .lst (al.map eS), rfl, fun F v => ov _ F v, ?_⟩
  walk_at "drx"
  refine dLen_seq rfl ?_
  rw [List.length_map]
  refine ⟨p, al.length, rfl, rfl, by show al.length ≤ 12; omega, by show n' < 500000; omega, fun ms ⟨o1, o2, o3⟩ => ?_⟩
  generalize hgv : ms.map (fun k : Int => al.getD k.toNat "") = gv
  have gl : gv.length = al.length := by rw [← hgv, List.length_map]; exact o1
  have gm : ∀ z, z ∈ gv ↔ z ∈ al := fun z => by
    rw [← hgv]
    constructor
    · intro h
      obtain ⟨k, hk, rfl⟩ := List.mem_map.mp h
      have hb := o2 k hk
      rw [List.getD_eq_getElem?_getD, List.getElem?_eq_getElem (by omega)]
      exact List.getElem_mem _
    · intro h
      obtain ⟨j, hj⟩ := List.mem_iff_getElem?.mp h
      have hl := (List.getElem?_eq_some_iff.mp hj).1
      refine List.mem_map.mpr ⟨(j : Int), o3 j hl, ?_⟩
      rw [List.getD_eq_getElem?_getD, Int.toNat_natCast, hj]
      rfl
  dsimp only [dFl, dView]
  walk_at "drx"
  refine dLc_inv (fun i acc n'' => acc = (gv.take i).map eS ∧ n'' = n' + al.length) ⟨rfl, rfl⟩ ?_ ?_
  · rintro i d acc n'' N hi ⟨rfl, rfl⟩ hN
    rw [List.getElem?_map] at hi
    obtain ⟨k, hk, rfl⟩ := Option.map_eq_some_iff.mp hi
    have hb := o2 k (List.mem_of_getElem? hk)
    have hg : gv[i]? = some (al.getD k.toNat "") := by rw [← hgv, List.getElem?_map, hk]; rfl
    have hil := (List.getElem?_eq_some_iff.mp hg).1
    dsimp only [dView]
    walk_at "drx"
    refine ⟨_, .lst (al.map eS), rfl, fun F v => ov _ F v, rfl, dIx_seq rfl (x := eS (al.getD k.toNat "")) ?_ ⟨rfl, by rw [List.length_map, List.length_take]; exact Nat.lt_of_le_of_lt (Nat.le_trans (Nat.min_le_right _ _) (by omega : gv.length ≤ 6)) (by decide), hN _ _ ⟨?_, rfl⟩⟩⟩
    · rw [atI_nat hb.1 (by rw [List.length_map]; exact hb.2), List.getElem?_map, List.getD_eq_getElem?_getD, List.getElem?_eq_getElem (by omega : k.toNat < al.length)]
      rfl
    · rw [take_more hg, List.map_append]
      rfl
  rintro acc n'' ⟨rfl, rfl⟩
  rw [List.length_map, show ms.length = gv.length by rw [← hgv, List.length_map], List.take_length]
  refine ⟨_, rfl, _, .lst (ws.map rowL), rfl, fun F v _ h => ?_, _, .lst (gv.map eS), rfl, fun F v => fv _ F v, ?_⟩
  · obtain ⟨a, vs, e, q, l⟩ := flD_lst h
    exact ⟨a, vs, e, q, datL_mapW rowF_L l⟩
  refine mk_watch way_L rfl (.inl rfl) ne (by omega) AL (by rw [hSt]; omega) (fun z hz => ?_) (by omega) ?_
  · rw [hSt]
    exact al1 z ((gm z).mp hz)
  rw [hSt, ring_congr (al' := al) fun z _ => gm z]
  generalize hA : ringS St al = A
  refine ⟨_, .lst (ws.map rulW), rfl, fun F v => by rw [hRW]; exact ov _ F v, ws, rfl, by show ws.length ≤ 1000; omega, fun y hy => ?_⟩
  subst hy
  dsimp only [dRevL, dView]
  walk_at "drx"
  refine ⟨_, .lst (al.map eS), rfl, fun F v => ov _ F v, ?_⟩
  refine mk_watch way_K rfl (as := al.reverse) (.inr (by rw [List.map_reverse])) ne (by omega) AL (by rw [hSt]; omega) (fun z hz => ?_) (by rw [List.length_reverse]; omega) ?_
  · rw [hSt]
    exact al1 z (List.mem_reverse.mp hz)
  rw [hSt, ring_congr (al' := al) fun z _ => List.mem_reverse, hA]
  obtain ⟨w0, wt, rfl⟩ : ∃ r rt, ws = r :: rt := by
    cases ws with
    | nil => exact absurd rfl ne
    | cons r rt => exact ⟨r, rt, rfl⟩
  have R0 := R1 w0 List.mem_cons_self
  have stl : stillB (wtD T.C_Watch ((w0 :: wt).map kRul, St, A)) = true := still_wt _ _ _ _
  refine ⟨w0.st, w0.nx, w0.gs, w0.ws, gv, wt.map (rowF K Fs), [.emp, .val (sD p), .val (.lst RW), .val (.lst (St.map eS)), .val (.lst (al.map eS)), .emp, .emp, .val (wtD T.C_Watch ((w0 :: wt).map kRul, St, A)), .val (wtD T.C_Watch ((w0 :: wt).map kRul, St, A)), .emp, .emp, .emp, .emp, .emp, .emp, .emp], rfl, rfl, Nat.lt_of_le_of_lt R0.g2 (by decide), Nat.lt_of_le_of_lt R0.w2 (by decide), ⟨rfl, fun s hs d e => ?_, fun i d e => ?_⟩, fun xs ys => ?_⟩
  · subst e
    simp at hs
  · match i, e with
    | 0, e => cases e
    | 1, e => cases e; exact ⟨_, rfl, .inr ⟨rfl, rfl⟩⟩
    | 2, e => cases e; exact ⟨_, rfl, .inl rfl⟩
    | 3, e => cases e; exact ⟨_, rfl, .inl rfl⟩
    | 4, e => cases e; exact ⟨_, rfl, .inl rfl⟩
    | 5, e => cases e
    | 6, e => cases e
    | 7, e => cases e; exact ⟨_, rfl, .inr ⟨rfl, stl⟩⟩
    | 8, e => cases e; exact ⟨_, rfl, .inr ⟨rfl, stl⟩⟩
    | 9, e => cases e
    | 10, e => cases e
    | 11, e => cases e
    | 12, e => cases e
    | 13, e => cases e
    | 14, e => cases e
    | 15, e => cases e
    | _ + 16, e => cases e
  have s0 : St[0]? = some w0.st := by rw [← hSt]; exact states_at (asRul w0) (wt.map asRul)
  have r0 : RW[0]? = some (rulW w0) := by rw [← hRW]; rfl
  clear stl
  generalize hws : w0 :: wt = ws at *
  walk_at "drx"
  dsimp only [mClear]
  have KO : ∀ rs : List WRul, (∀ r ∈ rs, r ∈ ws) → okP (.tup (rs.map kRul)) := fun rs h => (okN_ks fun r hr => RS r (h r hr)).p
  have SO : ∀ z ∈ St, PyData.strOk z = true := fun z hz => by
    rw [← hSt] at hz
    obtain ⟨r, hr, q⟩ := (mem_states _).mp hz
    rcases q with rfl | rfl
    · exact (RS r hr).st
    · exact (RS r hr).nx
  have AS' : ∀ z ∈ A, z ∈ St := fun z hz => by
    rw [← hA] at hz
    exact (List.mem_filter.mp hz).1
  have TO : ∀ l : List Str, (∀ z ∈ l, z ∈ St) → okP (.tup (l.map eS)) := fun l h => (okN_strsT fun z hz => SO z (h z hz)).p
  generalize hm' : n' + (al.length : Nat) = m'
  clear hm'
  refine cutI (fun a => a = ⟨[.emp, .val (sD p), .val (.lst RW), .val (.lst (St.map eS)), .val (.lst (al.map eS)), .own (.lst []), .own (.lst []), .val (wtD T.C_Watch (ws.map kRul, St, A)), .val (wtD T.C_Watch (ws.map kRul, St, A)), .val (.tup (ws.map kRul)), .emp, .emp, .emp, .emp, .emp, .emp], m', some p⟩) ?_ ?_
  · walk_at "drx"
    refine ⟨ws, congrArg (fun l => [D.lst l]) hRW.symm, by show (ws).length ≤ 1000; omega, fun y hy => ?_⟩
    subst hy
    rfl
  rintro _ rfl
  refine cutI (fun a => a = ⟨[.emp, .val (sD p), .val (.lst RW), .val (.lst (St.map eS)), .val (.lst (al.map eS)), .own (.lst []), .own (.lst []), .val (wtD T.C_Watch (ws.map kRul, St, A)), .val (wtD T.C_Watch (ws.map kRul, St, A)), .val (.tup (ws.map kRul)), .emp, .emp, .emp, .emp, .emp, .emp], m', some p⟩) ?_ ?_
  · walk_at "drx"
    refine ⟨rfl, (ws.map kRul, St, A), rfl, trivial, fun y hy => ?_⟩
    subst hy
    dsimp only [id]
    refine eq_same (KO _ fun _ h => h) rfl (fun x q => nomatch q) ?_
    walk_at "drx"
    refine ⟨rfl, (ws.map kRul, St, A), rfl, trivial, fun y hy => ?_⟩
    subst hy
    dsimp only [id]
    walk_at "drx"
  rintro _ rfl
  refine cutI (fun a => a = ⟨[.emp, .val (sD p), .val (.lst RW), .val (.lst (St.map eS)), .val (.lst (al.map eS)), .own (.lst []), .own (.lst []), .val (wtD T.C_Watch (ws.map kRul, St, A)), .val (wtD T.C_Watch (ws.map kRul, St, A)), .val (.tup (ws.map kRul)), .emp, .emp, .emp, .emp, .emp, .emp], m', some p⟩) ?_ ?_
  · walk_at "drx"
    refine ⟨rfl, (ws.map kRul, St, A), rfl, trivial, fun y hy => ?_⟩
    subst hy
    dsimp only [id]
    walk_at "drx"
    refine eq_dec (b := true) (TO St fun _ h => h) (TO St fun _ h => h) ((eqv_sT St St).mpr rfl) (fun x q => nomatch q) ?_
    walk_at "drx"
    refine ⟨rfl, (ws.map kRul, St, A), rfl, (fun q : St = [] => by rw [q] at s0; cases s0), fun y ⟨z, z1, z2⟩ => ?_⟩
    subst z2
    cases s0.symm.trans z1
    dsimp only [id]
    refine dIx_seq rfl (x := rulW w0) ?_ (dIx_seq (x := eS w0.st) rfl rfl ?_)
    · rw [atI_nat (Int.le_refl 0) (by have := (List.getElem?_eq_some_iff.mp r0).1; omega)]
      exact r0
    walk_at "drx"
    exact ⟨rfl, bif_nd (fun q => absurd rfl q) fun _ => rfl⟩
  rintro _ rfl
  refine cutI (fun a => a = ⟨[.emp, .val (sD p), .val (.lst RW), .val (.lst (St.map eS)), .val (.lst (al.map eS)), .own (.lst []), .own (.lst []), .val (wtD T.C_Watch (ws.map kRul, St, A)), .val (wtD T.C_Watch (ws.map kRul, St, A)), .val (.tup (ws.map kRul)), .emp, .emp, .emp, .emp, .emp, .emp], m', some p⟩) ?_ ?_
  · walk_at "drx"
    refine ⟨rfl, (ws.map kRul, St, A), rfl, trivial, fun y hy => ?_⟩
    subst hy
    dsimp only [id]
    walk_at "drx"
    refine lc_filtc1 (fun z => decide (z ∈ al)) eS (Nat.le_trans st3 (by decide)) (fun z _ S S' hS hS' => ?_) ?_
    · walk_at "dr"
      refine in_strs (l := al) rfl ?_
      walk_at "dr"
      exact bif_d (fun a1 => hS _ rfl rfl (decide_eq_true a1)) fun a1 => hS' _ rfl rfl (decide_eq_false a1)
    rw [show (St.filter fun z => decide (z ∈ al)) = A from hA]
    refine eq_same (TO A AS') rfl (fun x q => nomatch q) ?_
    walk_at "drx"
  rintro _ rfl
  generalize hL : (St.filter fun z => !decide (z ∈ al)) = L
  have LS : ∀ z ∈ L, z ∈ St := fun z hz => by
    rw [← hL] at hz
    exact (List.mem_filter.mp hz).1
  have LO : okP (.lst (L.map eS)) := (okN_strsL fun z hz => SO z (LS z hz)).p
  have AO : okP (.lst (A.map eS)) := (okN_strsL fun z hz => SO z (AS' z hz)).p
  have LL : ringS St L = L := by
    rw [← hL]
    refine List.filter_congr fun z hz => ?_
    by_cases q : z ∈ al
    · rw [decide_eq_true q]
      exact decide_eq_false fun w => by
        have := (List.mem_filter.mp w).2
        rw [decide_eq_true q] at this
        cases this
    · rw [decide_eq_false q]
      exact decide_eq_true (List.mem_filter.mpr ⟨hz, by rw [decide_eq_false q]; rfl⟩)
  refine cutI (fun a => a = ⟨[.emp, .val (sD p), .val (.lst RW), .val (.lst (St.map eS)), .val (.lst (al.map eS)), .own (.lst []), .own (.lst []), .val (wtD T.C_Watch (ws.map kRul, St, A)), .val (wtD T.C_Watch (ws.map kRul, St, A)), .val (.tup (ws.map kRul)), .val (.lst (L.map eS)), .emp, .emp, .emp, .emp, .emp], m', some p⟩) ?_ ?_
  · walk_at "drx"
    refine lc_filtc1 (fun z => !decide (z ∈ al)) eS (Nat.le_trans st3 (by decide)) (fun z _ S S' hS hS' => ?_) ?_
    · walk_at "dr"
      refine in_strs (l := al) rfl ?_
      walk_at "dr"
      exact bif_nd (fun a1 => hS _ rfl rfl (by rw [decide_eq_false a1]; rfl)) fun a1 => hS' _ rfl rfl (by rw [decide_eq_true a1]; rfl)
    rw [hL]
  rintro _ rfl
  refine cutI (fun a => a = ⟨[.emp, .val (sD p), .val (.lst RW), .val (.lst (St.map eS)), .val (.lst (al.map eS)), .own (.lst []), .own (.lst []), .val (wtD T.C_Watch (ws.map kRul, St, A)), .val (wtD T.C_Watch (ws.map kRul, St, A)), .val (.tup (ws.map kRul)), .val (.lst (L.map eS)), .emp, .emp, .emp, .emp, .emp], m', some p⟩) ?_ ?_
  · walk_at "drx"
    refine mk_watch way_W (rs := ws) (as := L) (show seqD (.lst RW) = some (ws.map rulW) from congrArg some hRW.symm) (.inl rfl) ne (by omega) AL (by rw [hSt]; omega) (fun z hz => by rw [hSt]; exact LS z hz) (by rw [← hL]; exact Nat.le_trans (List.length_filter_le _ _) (by omega)) ?_
    rw [hSt, LL]
    refine eqO_watch T _ (.inl (ws.map kRul, St, L)) ⟨KO ws fun _ h => h, TO A AS'⟩ (fun z q => by cases q; exact ⟨KO ws fun _ h => h, TO L LS⟩) ?_
    rw [eq_wt, decide_eq_true (rfl : ws = ws), Bool.true_and]
    walk_at "drx"
    refine ⟨rfl, (ws.map kRul, St, A), rfl, trivial, fun y hy => ?_⟩
    subst hy
    dsimp only [id]
    walk_at "drx"
    refine eq_dec (b := decide (A = L)) LO AO (bool_dec ((eqv_sL L A).trans eq_comm)) (fun x q => nomatch q) ?_
    walk_at "drx"
    exact ⟨rfl, bif_nd (fun q => absurd rfl q) fun _ => rfl⟩
  rintro _ rfl
  refine cutI (fun a => a = ⟨[.emp, .val (sD p), .val (.lst RW), .val (.lst (St.map eS)), .val (.lst (al.map eS)), .own (.lst []), .own (.lst []), .val (wtD T.C_Watch (ws.map kRul, St, A)), .val (wtD T.C_Watch (ws.map kRul, St, A)), .val (.tup (ws.map kRul)), .val (.lst (L.map eS)), .emp, .emp, .emp, .emp, .emp], m', some p⟩) ?_ ?_
  · walk_at "drx"
    dsimp only [dRevL]
    walk_at "drx"
    have RM : ∀ r ∈ ws.reverse, r ∈ ws := fun r h => List.mem_reverse.mp h
    have RM' : ∀ r ∈ ws, r ∈ ws.reverse := fun r h => List.mem_reverse.mpr h
    have rr : seqD (.lst RW.reverse) = some (ws.reverse.map rulW) := by rw [List.map_reverse, hRW]; rfl
    refine mk_watch way_W (rs := ws.reverse) (as := al) rr (.inl rfl) (fun q => ne (List.reverse_eq_nil_iff.mp q)) (by rw [List.length_reverse]; omega) (fun r hr => AL r (RM r hr)) (Nat.le_trans (few _ RM) (by decide)) (fun z hz => states_sub RM' (by rw [hSt]; exact al1 z hz)) (by omega) ?_
    generalize hS' : wStates ws.reverse = S'
    have sS : ∀ z ∈ S', z ∈ St := fun z hz => by rw [← hSt]; exact states_sub RM (by rw [hS']; exact hz)
    refine eqO_watch T _ (.inl (ws.reverse.map kRul, S', ringS S' al)) ⟨KO ws fun _ h => h, TO A AS'⟩ (fun z q => by cases q; exact ⟨KO _ RM, TO _ fun z hz => sS z (List.mem_filter.mp hz).1⟩) ?_
    rw [eq_wt]
    have eb : (decide (ws = ws.reverse) && decide (A = ringS S' al)) = decide (ws = ws.reverse) := by
      by_cases q : ws = ws.reverse
      · rw [← q, hSt] at hS'
        rw [decide_eq_true q, ← hS', hA, decide_eq_true rfl]
        rfl
      · rw [decide_eq_false q]
        rfl
    rw [eb]
    walk_at "drx"
    have rO : okP (.lst RW) := by rw [← hRW]; exact (okN_rs RS).p
    have rO' : okP (.lst RW.reverse) := by rw [← hRW, ← List.map_reverse]; exact (okN_rs fun r h => RS r (RM r h)).p
    refine eq_dec (b := decide (ws = ws.reverse)) rO' rO (by rw [← hRW, ← List.map_reverse]; exact bool_dec ((eqv_rs ws.reverse ws).trans eq_comm)) (fun x q => nomatch q) ?_
    walk_at "drx"
    exact ⟨rfl, bif_nd (fun q => absurd rfl q) fun _ => rfl⟩
  rintro _ rfl
  refine cutI (fun a => a = ⟨[.emp, .val (sD p), .val (.lst RW), .val (.lst (St.map eS)), .val (.lst (al.map eS)), .own (.lst []), .own (.lst []), .val (wtD T.C_Watch (ws.map kRul, St, A)), .val (wtD T.C_Watch (ws.map kRul, St, A)), .val (.tup (ws.map kRul)), .val (.lst (L.map eS)), .emp, .emp, .emp, .emp, .emp], m', some p⟩) ?_ ?_
  · walk_at "drx"
    refine ⟨rfl, dIx_seq rfl (x := rulW w0) ?_ ⟨sm 1 (by decide), ?_, ?_⟩⟩
    · rw [atI_nat (Int.le_refl 0) (by have := (List.getElem?_eq_some_iff.mp r0).1; omega)]
      exact r0
    · rw [← hRW, List.length_map]
      exact sm _ (by show ws.length + 1 ≤ 1000; omega)
    have w0m : w0 ∈ ws := by rw [← hws]; exact List.mem_cons_self
    have PM : ∀ r ∈ ws ++ [w0], r ∈ ws := fun r h => (List.mem_append.mp h).elim id fun q => by rw [List.mem_singleton.mp q]; exact w0m
    have rr : seqD (.lst (RW ++ [rulW w0])) = some ((ws ++ [w0]).map rulW) := by rw [List.map_append, hRW]; rfl
    refine mk_watch way_W (rs := ws ++ [w0]) (as := al) rr (.inl rfl) (by simp) (by rw [List.length_append]; show ws.length + 1 ≤ 20; omega) (fun r hr => AL r (PM r hr)) (Nat.le_trans (few _ PM) (by decide)) (fun z hz => states_sub (fun r h => List.mem_append_left _ h) (by rw [hSt]; exact al1 z hz)) (by omega) ?_
    generalize hS' : wStates (ws ++ [w0]) = S'
    have sS : ∀ z ∈ S', z ∈ St := fun z hz => by rw [← hSt]; exact states_sub PM (by rw [hS']; exact hz)
    refine eqO_watch T _ (.inl ((ws ++ [w0]).map kRul, S', ringS S' al)) ⟨KO ws fun _ h => h, TO A AS'⟩ (fun z q => by cases q; exact ⟨KO _ PM, TO _ fun z hz => sS z (List.mem_filter.mp hz).1⟩) ?_
    rw [eq_wt, decide_eq_false (p := ws = ws ++ [w0]) (fun q => by have := congrArg List.length q; rw [List.length_append] at this; simp at this)]
    walk_at "drx"
    rw [Bool.false_and]
    refine bif_f ?_
    refine eqO_watch T _ (.inr (ws.map kRul)) ⟨KO ws fun _ h => h, TO A AS'⟩ (fun z q => nomatch q) ?_
    dsimp only [eqWt]
    walk_at "drx"
    refine ⟨rfl, (ws.map kRul, St, A), rfl, trivial, fun y hy => ?_⟩
    subst hy
    dsimp only [id]
    refine ⟨sm 2 (by decide), ?_⟩
    refine eqO_watch T _ (.inr [.tup (ws.map kRul), .tup (A.map eS)]) ⟨KO ws fun _ h => h, TO A AS'⟩ (fun z q => nomatch q) ?_
    dsimp only [eqWt]
    walk_at "drx"
  rintro _ rfl
  walk_at "drx"
  refine eqO_watch T _ (.inl (ws.map kRul, St, A)) ⟨KO ws fun _ h => h, TO A AS'⟩ (fun z q => by cases q; exact ⟨KO ws fun _ h => h, TO A AS'⟩) ?_
  rw [eq_wt, decide_eq_true (rfl : ws = ws), decide_eq_true (rfl : A = A)]
  walk_at "drx"
  refine bif_t ?_
  refine eqO_watch T _ (.inl (ws.map kRul, St, A)) ⟨KO ws fun _ h => h, TO A AS'⟩ (fun z q => by cases q; exact ⟨KO ws fun _ h => h, TO A AS'⟩) ?_
  rw [eq_wt, decide_eq_true (rfl : ws = ws), decide_eq_true (rfl : A = A)]
  walk_at "drx"
  exact ⟨m', Int.le_refl _, rfl⟩
--SPLIT
end
theorem all_mk {l : PySem.W.OpenLaw} {w : World} {K : PySem.W.Frag} {h : Heap} {mg : Str → Option Value} {fa : Addr} (X : K.In h) (G : h.Ns mainGlobals mg) (hfa : mg "law" = some (.ref fa))
    {f_is_name f_is_group f_are_groups f_are_words f_is_rule f_checked_rules f_checked_alarms f_Watch__init f_Watch_rules f_Watch_states f_Watch_start f_Watch_alarms f_Watch__eq f_law_source f_law_draw f_law_pick f_law_order f_law_subset f_law_name f_law_names f_law_places f_law_group_names f_law_watch_rules f_law_watch_states f_law_tuples f_law : Addr}
    {od_is_name an_is_name od_is_group an_is_group od_are_groups an_are_groups od_are_words an_are_words od_is_rule an_is_rule od_checked_rules an_checked_rules od_checked_alarms an_checked_alarms od_Watch__init an_Watch__init od_Watch_rules an_Watch_rules od_Watch_states an_Watch_states od_Watch_start an_Watch_start od_Watch_alarms an_Watch_alarms od_Watch__eq an_Watch__eq od_law_source an_law_source od_law_draw an_law_draw od_law_pick an_law_pick od_law_order an_law_order od_law_subset an_law_subset od_law_name an_law_name od_law_names an_law_names od_law_places an_law_places od_law_group_names an_law_group_names od_law_watch_rules an_law_watch_rules od_law_watch_states an_law_watch_states od_law_tuples an_law_tuples od_law an_law : Option Addr} {sl_is_name sl_is_group sl_are_groups sl_are_words sl_is_rule sl_checked_rules sl_checked_alarms sl_Watch__init sl_Watch_rules sl_Watch_states sl_Watch_start sl_Watch_alarms sl_Watch__eq sl_law_source sl_law_draw sl_law_pick sl_law_order sl_law_subset sl_law_name sl_law_names sl_law_places sl_law_group_names sl_law_watch_rules sl_law_watch_states sl_law_tuples sl_law : Array (Option Value)}
    {oc_is_name kV_is_name dc_is_name pm_is_name cd_is_name ct_is_name oc_is_group kV_is_group dc_is_group pm_is_group cd_is_group ct_is_group oc_are_groups kV_are_groups dc_are_groups pm_are_groups cd_are_groups ct_are_groups oc_are_words kV_are_words dc_are_words pm_are_words cd_are_words ct_are_words oc_is_rule kV_is_rule dc_is_rule pm_is_rule cd_is_rule ct_is_rule oc_checked_rules kV_checked_rules dc_checked_rules pm_checked_rules cd_checked_rules ct_checked_rules oc_checked_alarms kV_checked_alarms dc_checked_alarms pm_checked_alarms cd_checked_alarms ct_checked_alarms oc_Watch__init kV_Watch__init dc_Watch__init pm_Watch__init cd_Watch__init ct_Watch__init oc_Watch_rules kV_Watch_rules dc_Watch_rules pm_Watch_rules cd_Watch_rules ct_Watch_rules oc_Watch_states kV_Watch_states dc_Watch_states pm_Watch_states cd_Watch_states ct_Watch_states oc_Watch_start kV_Watch_start dc_Watch_start pm_Watch_start cd_Watch_start ct_Watch_start oc_Watch_alarms kV_Watch_alarms dc_Watch_alarms pm_Watch_alarms cd_Watch_alarms ct_Watch_alarms oc_Watch__eq kV_Watch__eq dc_Watch__eq pm_Watch__eq cd_Watch__eq ct_Watch__eq oc_law_source kV_law_source dc_law_source pm_law_source cd_law_source ct_law_source oc_law_draw kV_law_draw dc_law_draw pm_law_draw cd_law_draw ct_law_draw oc_law_pick kV_law_pick dc_law_pick pm_law_pick cd_law_pick ct_law_pick oc_law_order kV_law_order dc_law_order pm_law_order cd_law_order ct_law_order oc_law_subset kV_law_subset dc_law_subset pm_law_subset cd_law_subset ct_law_subset oc_law_name kV_law_name dc_law_name pm_law_name cd_law_name ct_law_name oc_law_names kV_law_names dc_law_names pm_law_names cd_law_names ct_law_names oc_law_places kV_law_places dc_law_places pm_law_places cd_law_places ct_law_places oc_law_group_names kV_law_group_names dc_law_group_names pm_law_group_names cd_law_group_names ct_law_group_names oc_law_watch_rules kV_law_watch_rules dc_law_watch_rules pm_law_watch_rules cd_law_watch_rules ct_law_watch_rules oc_law_watch_states kV_law_watch_states dc_law_watch_states pm_law_watch_states cd_law_watch_states ct_law_watch_states oc_law_tuples kV_law_tuples dc_law_tuples pm_law_tuples cd_law_tuples ct_law_tuples oc_law kV_law dc_law pm_law cd_law ct_law : Value}
    {a_PLACES : Addr} {n_PLACES : Nat} {sl_PLACES : Array (Option Value)} {t_PLACES_0 t_PLACES_1 t_PLACES_2 t_PLACES_3 t_PLACES_4 t_PLACES_5 t_PLACES_6 t_PLACES_7 t_PLACES_8 t_PLACES_9 t_PLACES_10 : Tok}
    {a_GROUPS : Addr} {n_GROUPS : Nat} {g_GROUPS_0 g_GROUPS_1 g_GROUPS_2 g_GROUPS_3 g_GROUPS_4 g_GROUPS_5 g_GROUPS_6 g_GROUPS_7 g_GROUPS_8 : Addr} {t_GROUPS_0 t_GROUPS_1 t_GROUPS_2 t_GROUPS_3 t_GROUPS_4 t_GROUPS_5 t_GROUPS_6 t_GROUPS_7 t_GROUPS_8 : Tok} {h_GROUPS_0 h_GROUPS_1 h_GROUPS_2 h_GROUPS_3 h_GROUPS_4 h_GROUPS_5 h_GROUPS_6 h_GROUPS_7 h_GROUPS_8 : Int}
    {m_GROUPS_0 : Nat} {sl_GROUPS_0 : Array (Option Value)} {t_GROUPS_0_0 t_GROUPS_0_1 t_GROUPS_0_2 t_GROUPS_0_3 t_GROUPS_0_4 t_GROUPS_0_5 t_GROUPS_0_6 t_GROUPS_0_7 t_GROUPS_0_8 t_GROUPS_0_9 t_GROUPS_0_10 : Tok}
    {m_GROUPS_1 : Nat} {sl_GROUPS_1 : Array (Option Value)} {t_GROUPS_1_0 t_GROUPS_1_1 t_GROUPS_1_2 t_GROUPS_1_3 t_GROUPS_1_4 t_GROUPS_1_5 t_GROUPS_1_6 : Tok}
    {m_GROUPS_2 : Nat} {sl_GROUPS_2 : Array (Option Value)} {t_GROUPS_2_0 t_GROUPS_2_1 t_GROUPS_2_2 t_GROUPS_2_3 : Tok}
    {m_GROUPS_3 : Nat} {sl_GROUPS_3 : Array (Option Value)} {t_GROUPS_3_0 t_GROUPS_3_1 t_GROUPS_3_2 t_GROUPS_3_3 t_GROUPS_3_4 : Tok}
    {m_GROUPS_4 : Nat} {sl_GROUPS_4 : Array (Option Value)} {t_GROUPS_4_0 t_GROUPS_4_1 t_GROUPS_4_2 t_GROUPS_4_3 t_GROUPS_4_4 : Tok}
    {m_GROUPS_5 : Nat} {sl_GROUPS_5 : Array (Option Value)} {t_GROUPS_5_0 t_GROUPS_5_1 : Tok}
    {m_GROUPS_6 : Nat} {sl_GROUPS_6 : Array (Option Value)} {t_GROUPS_6_0 t_GROUPS_6_1 : Tok}
    {m_GROUPS_7 : Nat} {sl_GROUPS_7 : Array (Option Value)} {t_GROUPS_7_0 t_GROUPS_7_1 t_GROUPS_7_2 : Tok}
    {m_GROUPS_8 : Nat} {sl_GROUPS_8 : Array (Option Value)}
    {t_LETTERS : Tok}
    {t_MOST_RULES : Tok}
    {t_MOST_STATES : Tok}
    {t_ANY_WORD : Tok}
    {C_Watch : Addr}
    {p_Watch_rules : Addr} {pre_Watch_rules : List Value}
    {p_Watch_states : Addr} {pre_Watch_states : List Value}
    {p_Watch_start : Addr} {pre_Watch_start : List Value}
    {p_Watch_alarms : Addr} {pre_Watch_alarms : List Value}
    {C_BadWatch i_BadWatch N_BadWatch B_BadWatch cda_BadWatch cc_BadWatch : Addr} {nm_BadWatch q_BadWatch : Str} {bs_BadWatch : List Value} {sn_BadWatch : List Str} {sub_BadWatch : List Value} {ab_BadWatch : Bool} {col_BadWatch : Option Bool} {dd_BadWatch od_BadWatch an_BadWatch cdd_BadWatch cld_BadWatch : Option Addr} {k0_BadWatch k1_BadWatch k2_BadWatch k3_BadWatch k5_BadWatch : Option Value} {oc_BadWatch doc_BadWatch pm_BadWatch kV_BadWatch ct_BadWatch ccl_BadWatch cl_BadWatch : Value} {osl_BadWatch ccs_BadWatch csl_BadWatch : Array (Option Value)} {vs_BadWatch : Array Value} {file_BadWatch : Str} {tf_BadWatch : Tok}
    {C_UnknownState i_UnknownState N_UnknownState B_UnknownState cda_UnknownState cc_UnknownState : Addr} {nm_UnknownState q_UnknownState : Str} {bs_UnknownState : List Value} {sn_UnknownState : List Str} {sub_UnknownState : List Value} {ab_UnknownState : Bool} {col_UnknownState : Option Bool} {dd_UnknownState od_UnknownState an_UnknownState cdd_UnknownState cld_UnknownState : Option Addr} {k0_UnknownState k1_UnknownState k2_UnknownState k3_UnknownState k5_UnknownState : Option Value} {oc_UnknownState doc_UnknownState pm_UnknownState kV_UnknownState ct_UnknownState ccl_UnknownState cl_UnknownState : Value} {osl_UnknownState ccs_UnknownState csl_UnknownState : Array (Option Value)} {vs_UnknownState : Array Value} {file_UnknownState : Str} {tf_UnknownState : Tok}
    (x_PLACES : PySem.W.nsIn K mainGlobals "PLACES" = some (some (.ref a_PLACES)))
    (lk_PLACES : K.lookup a_PLACES = some ⟨.type "tuple", none, .seq #[.str "below" t_PLACES_0, .str "-<" t_PLACES_1, .str "-=" t_PLACES_2, .str "->" t_PLACES_3, .str "<" t_PLACES_4, .str "=" t_PLACES_5, .str ">" t_PLACES_6, .str "+<" t_PLACES_7, .str "+=" t_PLACES_8, .str "+>" t_PLACES_9, .str "above" t_PLACES_10] n_PLACES, sl_PLACES⟩)
    (x_GROUPS : PySem.W.nsIn K mainGlobals "GROUPS" = some (some (.ref a_GROUPS)))
    (lk_GROUPS : K.lookup a_GROUPS = some ⟨.type "dict", none, .dict #[⟨h_GROUPS_0, .str "any" t_GROUPS_0, .ref g_GROUPS_0⟩, ⟨h_GROUPS_1, .str "near" t_GROUPS_1, .ref g_GROUPS_1⟩, ⟨h_GROUPS_2, .str "far" t_GROUPS_2, .ref g_GROUPS_2⟩, ⟨h_GROUPS_3, .str "less" t_GROUPS_3, .ref g_GROUPS_3⟩, ⟨h_GROUPS_4, .str "more" t_GROUPS_4, .ref g_GROUPS_4⟩, ⟨h_GROUPS_5, .str "under" t_GROUPS_5, .ref g_GROUPS_5⟩, ⟨h_GROUPS_6, .str "over" t_GROUPS_6, .ref g_GROUPS_6⟩, ⟨h_GROUPS_7, .str "cell" t_GROUPS_7, .ref g_GROUPS_7⟩, ⟨h_GROUPS_8, .str "none" t_GROUPS_8, .ref g_GROUPS_8⟩] n_GROUPS, #[]⟩)
    (ky_GROUPS : PySem.W.KeysLit w.params (#[⟨h_GROUPS_0, .str "any" t_GROUPS_0, .ref g_GROUPS_0⟩, ⟨h_GROUPS_1, .str "near" t_GROUPS_1, .ref g_GROUPS_1⟩, ⟨h_GROUPS_2, .str "far" t_GROUPS_2, .ref g_GROUPS_2⟩, ⟨h_GROUPS_3, .str "less" t_GROUPS_3, .ref g_GROUPS_3⟩, ⟨h_GROUPS_4, .str "more" t_GROUPS_4, .ref g_GROUPS_4⟩, ⟨h_GROUPS_5, .str "under" t_GROUPS_5, .ref g_GROUPS_5⟩, ⟨h_GROUPS_6, .str "over" t_GROUPS_6, .ref g_GROUPS_6⟩, ⟨h_GROUPS_7, .str "cell" t_GROUPS_7, .ref g_GROUPS_7⟩, ⟨h_GROUPS_8, .str "none" t_GROUPS_8, .ref g_GROUPS_8⟩] : Array DictEntry).toList)
    (lo_GROUPS : (a_GROUPS == sysModules) = false)
    (lg_GROUPS_0 : K.lookup g_GROUPS_0 = some ⟨.type "tuple", none, .seq #[.str "below" t_GROUPS_0_0, .str "-<" t_GROUPS_0_1, .str "-=" t_GROUPS_0_2, .str "->" t_GROUPS_0_3, .str "<" t_GROUPS_0_4, .str "=" t_GROUPS_0_5, .str ">" t_GROUPS_0_6, .str "+<" t_GROUPS_0_7, .str "+=" t_GROUPS_0_8, .str "+>" t_GROUPS_0_9, .str "above" t_GROUPS_0_10] m_GROUPS_0, sl_GROUPS_0⟩)
    (lg_GROUPS_1 : K.lookup g_GROUPS_1 = some ⟨.type "tuple", none, .seq #[.str "-=" t_GROUPS_1_0, .str "->" t_GROUPS_1_1, .str "<" t_GROUPS_1_2, .str "=" t_GROUPS_1_3, .str ">" t_GROUPS_1_4, .str "+<" t_GROUPS_1_5, .str "+=" t_GROUPS_1_6] m_GROUPS_1, sl_GROUPS_1⟩)
    (lg_GROUPS_2 : K.lookup g_GROUPS_2 = some ⟨.type "tuple", none, .seq #[.str "below" t_GROUPS_2_0, .str "-<" t_GROUPS_2_1, .str "+>" t_GROUPS_2_2, .str "above" t_GROUPS_2_3] m_GROUPS_2, sl_GROUPS_2⟩)
    (lg_GROUPS_3 : K.lookup g_GROUPS_3 = some ⟨.type "tuple", none, .seq #[.str "below" t_GROUPS_3_0, .str "-<" t_GROUPS_3_1, .str "-=" t_GROUPS_3_2, .str "->" t_GROUPS_3_3, .str "<" t_GROUPS_3_4] m_GROUPS_3, sl_GROUPS_3⟩)
    (lg_GROUPS_4 : K.lookup g_GROUPS_4 = some ⟨.type "tuple", none, .seq #[.str ">" t_GROUPS_4_0, .str "+<" t_GROUPS_4_1, .str "+=" t_GROUPS_4_2, .str "+>" t_GROUPS_4_3, .str "above" t_GROUPS_4_4] m_GROUPS_4, sl_GROUPS_4⟩)
    (lg_GROUPS_5 : K.lookup g_GROUPS_5 = some ⟨.type "tuple", none, .seq #[.str "below" t_GROUPS_5_0, .str "-<" t_GROUPS_5_1] m_GROUPS_5, sl_GROUPS_5⟩)
    (lg_GROUPS_6 : K.lookup g_GROUPS_6 = some ⟨.type "tuple", none, .seq #[.str "+>" t_GROUPS_6_0, .str "above" t_GROUPS_6_1] m_GROUPS_6, sl_GROUPS_6⟩)
    (lg_GROUPS_7 : K.lookup g_GROUPS_7 = some ⟨.type "tuple", none, .seq #[.str "<" t_GROUPS_7_0, .str "=" t_GROUPS_7_1, .str ">" t_GROUPS_7_2] m_GROUPS_7, sl_GROUPS_7⟩)
    (lg_GROUPS_8 : K.lookup g_GROUPS_8 = some ⟨.type "tuple", none, .seq #[] m_GROUPS_8, sl_GROUPS_8⟩)
    (g_LETTERS : PySem.W.nsIn K mainGlobals "LETTERS" = some (some (.str "abcdefghijklmnopqrstuvwxyz" t_LETTERS)))
    (g_MOST_RULES : PySem.W.nsIn K mainGlobals "MOST_RULES" = some (some (.int 20 t_MOST_RULES)))
    (g_MOST_STATES : PySem.W.nsIn K mainGlobals "MOST_STATES" = some (some (.int 6 t_MOST_STATES)))
    (g_ANY_WORD : PySem.W.nsIn K mainGlobals "ANY_WORD" = some (some (.str "*" t_ANY_WORD)))
    (cg_Watch : PySem.W.nsIn K mainGlobals "Watch" = some (some (.ref C_Watch)))
    (cpg_Watch : PySem.W.plainGet K C_Watch Str.empty = true)
    (chd_Watch : PySem.W.hasDictIn K C_Watch = true)
    (cpo_Watch : PySem.W.plainOver K C_Watch = true)
    (csa_Watch : PySem.W.findIn K (.ref C_Watch) "__setattr__" = some (some (.builtin "object.__setattr__")))
    (cmk_Watch : PySem.W.makesIn K C_Watch = true)
    (ckc_Watch : PySem.W.keepIn K (.ref C_Watch) = true)
    (cn_Watch_rules : PySem.W.findIn K (.ref C_Watch) "_rules" = some none)
    (cn_Watch_states : PySem.W.findIn K (.ref C_Watch) "_states" = some none)
    (cn_Watch_alarms : PySem.W.findIn K (.ref C_Watch) "_alarms" = some none)
    (a_Watch__init : PySem.W.findIn K (.ref C_Watch) "__init__" = some (some (.ref f_Watch__init)))
    (i_Watch__init : PySem.W.isFn K (.ref f_Watch__init) = true)
    (l_Watch__init : K.lookup f_Watch__init = some ⟨oc_Watch__init, od_Watch__init, .func (PySem.W.fnOf "__init__" "Watch.__init__" (defArgs s_Watch__init) (defBody s_Watch__init) (defScope s_Watch__init) .none kV_Watch__init dc_Watch__init pm_Watch__init an_Watch__init cd_Watch__init ct_Watch__init), sl_Watch__init⟩)
    (c_Watch__init : PySem.W.codeIn K cd_Watch__init "Watch.__init__" = true)
    (k_Watch__init : PySem.W.keepIn K (.ref f_Watch__init) = true)
    (pa_Watch_rules : PySem.W.findIn K (.ref C_Watch) "rules" = some (some (.ref p_Watch_rules)))
    (pg_Watch_rules : PySem.W.specialIn K (.ref p_Watch_rules) "__get__" = some (some (.builtin "property.__get__")))
    (pt_Watch_rules : PySem.W.takesIn K (.ref p_Watch_rules) = some true)
    (pc_Watch_rules : PySem.W.recIn K p_Watch_rules "property" = some (.ref f_Watch_rules :: pre_Watch_rules))
    (l_Watch_rules : K.lookup f_Watch_rules = some ⟨oc_Watch_rules, od_Watch_rules, .func (PySem.W.fnOf "rules" "Watch.rules" (defArgs s_Watch_rules) (defBody s_Watch_rules) (defScope s_Watch_rules) .none kV_Watch_rules dc_Watch_rules pm_Watch_rules an_Watch_rules cd_Watch_rules ct_Watch_rules), sl_Watch_rules⟩)
    (c_Watch_rules : PySem.W.codeIn K cd_Watch_rules "Watch.rules" = true)
    (k_Watch_rules : PySem.W.keepIn K (.ref f_Watch_rules) = true)
    (pa_Watch_states : PySem.W.findIn K (.ref C_Watch) "states" = some (some (.ref p_Watch_states)))
    (pg_Watch_states : PySem.W.specialIn K (.ref p_Watch_states) "__get__" = some (some (.builtin "property.__get__")))
    (pt_Watch_states : PySem.W.takesIn K (.ref p_Watch_states) = some true)
    (pc_Watch_states : PySem.W.recIn K p_Watch_states "property" = some (.ref f_Watch_states :: pre_Watch_states))
    (l_Watch_states : K.lookup f_Watch_states = some ⟨oc_Watch_states, od_Watch_states, .func (PySem.W.fnOf "states" "Watch.states" (defArgs s_Watch_states) (defBody s_Watch_states) (defScope s_Watch_states) .none kV_Watch_states dc_Watch_states pm_Watch_states an_Watch_states cd_Watch_states ct_Watch_states), sl_Watch_states⟩)
    (c_Watch_states : PySem.W.codeIn K cd_Watch_states "Watch.states" = true)
    (k_Watch_states : PySem.W.keepIn K (.ref f_Watch_states) = true)
    (pa_Watch_start : PySem.W.findIn K (.ref C_Watch) "start" = some (some (.ref p_Watch_start)))
    (pg_Watch_start : PySem.W.specialIn K (.ref p_Watch_start) "__get__" = some (some (.builtin "property.__get__")))
    (pt_Watch_start : PySem.W.takesIn K (.ref p_Watch_start) = some true)
    (pc_Watch_start : PySem.W.recIn K p_Watch_start "property" = some (.ref f_Watch_start :: pre_Watch_start))
    (l_Watch_start : K.lookup f_Watch_start = some ⟨oc_Watch_start, od_Watch_start, .func (PySem.W.fnOf "start" "Watch.start" (defArgs s_Watch_start) (defBody s_Watch_start) (defScope s_Watch_start) .none kV_Watch_start dc_Watch_start pm_Watch_start an_Watch_start cd_Watch_start ct_Watch_start), sl_Watch_start⟩)
    (c_Watch_start : PySem.W.codeIn K cd_Watch_start "Watch.start" = true)
    (k_Watch_start : PySem.W.keepIn K (.ref f_Watch_start) = true)
    (pa_Watch_alarms : PySem.W.findIn K (.ref C_Watch) "alarms" = some (some (.ref p_Watch_alarms)))
    (pg_Watch_alarms : PySem.W.specialIn K (.ref p_Watch_alarms) "__get__" = some (some (.builtin "property.__get__")))
    (pt_Watch_alarms : PySem.W.takesIn K (.ref p_Watch_alarms) = some true)
    (pc_Watch_alarms : PySem.W.recIn K p_Watch_alarms "property" = some (.ref f_Watch_alarms :: pre_Watch_alarms))
    (l_Watch_alarms : K.lookup f_Watch_alarms = some ⟨oc_Watch_alarms, od_Watch_alarms, .func (PySem.W.fnOf "alarms" "Watch.alarms" (defArgs s_Watch_alarms) (defBody s_Watch_alarms) (defScope s_Watch_alarms) .none kV_Watch_alarms dc_Watch_alarms pm_Watch_alarms an_Watch_alarms cd_Watch_alarms ct_Watch_alarms), sl_Watch_alarms⟩)
    (c_Watch_alarms : PySem.W.codeIn K cd_Watch_alarms "Watch.alarms" = true)
    (k_Watch_alarms : PySem.W.keepIn K (.ref f_Watch_alarms) = true)
    (a_Watch__eq : PySem.W.findIn K (.ref C_Watch) "__eq__" = some (some (.ref f_Watch__eq)))
    (i_Watch__eq : PySem.W.isFn K (.ref f_Watch__eq) = true)
    (l_Watch__eq : K.lookup f_Watch__eq = some ⟨oc_Watch__eq, od_Watch__eq, .func (PySem.W.fnOf "__eq__" "Watch.__eq__" (defArgs s_Watch__eq) (defBody s_Watch__eq) (defScope s_Watch__eq) .none kV_Watch__eq dc_Watch__eq pm_Watch__eq an_Watch__eq cd_Watch__eq ct_Watch__eq), sl_Watch__eq⟩)
    (c_Watch__eq : PySem.W.codeIn K cd_Watch__eq "Watch.__eq__" = true)
    (k_Watch__eq : PySem.W.keepIn K (.ref f_Watch__eq) = true)
    (a_is_name : PySem.W.nsIn K mainGlobals "is_name" = some (some (.ref f_is_name)))
    (l_is_name : K.lookup f_is_name = some ⟨oc_is_name, od_is_name, .func (PySem.W.fnOf "is_name" "is_name" (defArgs s_is_name) (defBody s_is_name) (defScope s_is_name) .none kV_is_name dc_is_name pm_is_name an_is_name cd_is_name ct_is_name), sl_is_name⟩)
    (c_is_name : PySem.W.codeIn K cd_is_name "is_name" = true)
    (k_is_name : PySem.W.keepIn K (.ref f_is_name) = true)
    (a_is_group : PySem.W.nsIn K mainGlobals "is_group" = some (some (.ref f_is_group)))
    (l_is_group : K.lookup f_is_group = some ⟨oc_is_group, od_is_group, .func (PySem.W.fnOf "is_group" "is_group" (defArgs s_is_group) (defBody s_is_group) (defScope s_is_group) .none kV_is_group dc_is_group pm_is_group an_is_group cd_is_group ct_is_group), sl_is_group⟩)
    (c_is_group : PySem.W.codeIn K cd_is_group "is_group" = true)
    (k_is_group : PySem.W.keepIn K (.ref f_is_group) = true)
    (a_are_groups : PySem.W.nsIn K mainGlobals "are_groups" = some (some (.ref f_are_groups)))
    (l_are_groups : K.lookup f_are_groups = some ⟨oc_are_groups, od_are_groups, .func (PySem.W.fnOf "are_groups" "are_groups" (defArgs s_are_groups) (defBody s_are_groups) (defScope s_are_groups) .none kV_are_groups dc_are_groups pm_are_groups an_are_groups cd_are_groups ct_are_groups), sl_are_groups⟩)
    (c_are_groups : PySem.W.codeIn K cd_are_groups "are_groups" = true)
    (k_are_groups : PySem.W.keepIn K (.ref f_are_groups) = true)
    (a_are_words : PySem.W.nsIn K mainGlobals "_are_words" = some (some (.ref f_are_words)))
    (l_are_words : K.lookup f_are_words = some ⟨oc_are_words, od_are_words, .func (PySem.W.fnOf "_are_words" "_are_words" (defArgs s_are_words) (defBody s_are_words) (defScope s_are_words) .none kV_are_words dc_are_words pm_are_words an_are_words cd_are_words ct_are_words), sl_are_words⟩)
    (c_are_words : PySem.W.codeIn K cd_are_words "_are_words" = true)
    (k_are_words : PySem.W.keepIn K (.ref f_are_words) = true)
    (a_is_rule : PySem.W.nsIn K mainGlobals "_is_rule" = some (some (.ref f_is_rule)))
    (l_is_rule : K.lookup f_is_rule = some ⟨oc_is_rule, od_is_rule, .func (PySem.W.fnOf "_is_rule" "_is_rule" (defArgs s_is_rule) (defBody s_is_rule) (defScope s_is_rule) .none kV_is_rule dc_is_rule pm_is_rule an_is_rule cd_is_rule ct_is_rule), sl_is_rule⟩)
    (c_is_rule : PySem.W.codeIn K cd_is_rule "_is_rule" = true)
    (k_is_rule : PySem.W.keepIn K (.ref f_is_rule) = true)
    (a_checked_rules : PySem.W.nsIn K mainGlobals "_checked_rules" = some (some (.ref f_checked_rules)))
    (l_checked_rules : K.lookup f_checked_rules = some ⟨oc_checked_rules, od_checked_rules, .func (PySem.W.fnOf "_checked_rules" "_checked_rules" (defArgs s_checked_rules) (defBody s_checked_rules) (defScope s_checked_rules) .none kV_checked_rules dc_checked_rules pm_checked_rules an_checked_rules cd_checked_rules ct_checked_rules), sl_checked_rules⟩)
    (c_checked_rules : PySem.W.codeIn K cd_checked_rules "_checked_rules" = true)
    (k_checked_rules : PySem.W.keepIn K (.ref f_checked_rules) = true)
    (a_checked_alarms : PySem.W.nsIn K mainGlobals "_checked_alarms" = some (some (.ref f_checked_alarms)))
    (l_checked_alarms : K.lookup f_checked_alarms = some ⟨oc_checked_alarms, od_checked_alarms, .func (PySem.W.fnOf "_checked_alarms" "_checked_alarms" (defArgs s_checked_alarms) (defBody s_checked_alarms) (defScope s_checked_alarms) .none kV_checked_alarms dc_checked_alarms pm_checked_alarms an_checked_alarms cd_checked_alarms ct_checked_alarms), sl_checked_alarms⟩)
    (c_checked_alarms : PySem.W.codeIn K cd_checked_alarms "_checked_alarms" = true)
    (k_checked_alarms : PySem.W.keepIn K (.ref f_checked_alarms) = true)
    (a_law_source : PySem.W.nsIn K mainGlobals "_law_source" = some (some (.ref f_law_source)))
    (l_law_source : K.lookup f_law_source = some ⟨oc_law_source, od_law_source, .func (PySem.W.fnOf "_law_source" "_law_source" (defArgs s_law_source) (defBody s_law_source) (defScope s_law_source) .none kV_law_source dc_law_source pm_law_source an_law_source cd_law_source ct_law_source), sl_law_source⟩)
    (c_law_source : PySem.W.codeIn K cd_law_source "_law_source" = true)
    (k_law_source : PySem.W.keepIn K (.ref f_law_source) = true)
    (a_law_draw : PySem.W.nsIn K mainGlobals "_law_draw" = some (some (.ref f_law_draw)))
    (l_law_draw : K.lookup f_law_draw = some ⟨oc_law_draw, od_law_draw, .func (PySem.W.fnOf "_law_draw" "_law_draw" (defArgs s_law_draw) (defBody s_law_draw) (defScope s_law_draw) .none kV_law_draw dc_law_draw pm_law_draw an_law_draw cd_law_draw ct_law_draw), sl_law_draw⟩)
    (c_law_draw : PySem.W.codeIn K cd_law_draw "_law_draw" = true)
    (k_law_draw : PySem.W.keepIn K (.ref f_law_draw) = true)
    (a_law_pick : PySem.W.nsIn K mainGlobals "_law_pick" = some (some (.ref f_law_pick)))
    (l_law_pick : K.lookup f_law_pick = some ⟨oc_law_pick, od_law_pick, .func (PySem.W.fnOf "_law_pick" "_law_pick" (defArgs s_law_pick) (defBody s_law_pick) (defScope s_law_pick) .none kV_law_pick dc_law_pick pm_law_pick an_law_pick cd_law_pick ct_law_pick), sl_law_pick⟩)
    (c_law_pick : PySem.W.codeIn K cd_law_pick "_law_pick" = true)
    (k_law_pick : PySem.W.keepIn K (.ref f_law_pick) = true)
    (a_law_order : PySem.W.nsIn K mainGlobals "_law_order" = some (some (.ref f_law_order)))
    (l_law_order : K.lookup f_law_order = some ⟨oc_law_order, od_law_order, .func (PySem.W.fnOf "_law_order" "_law_order" (defArgs s_law_order) (defBody s_law_order) (defScope s_law_order) .none kV_law_order dc_law_order pm_law_order an_law_order cd_law_order ct_law_order), sl_law_order⟩)
    (c_law_order : PySem.W.codeIn K cd_law_order "_law_order" = true)
    (k_law_order : PySem.W.keepIn K (.ref f_law_order) = true)
    (a_law_subset : PySem.W.nsIn K mainGlobals "_law_subset" = some (some (.ref f_law_subset)))
    (l_law_subset : K.lookup f_law_subset = some ⟨oc_law_subset, od_law_subset, .func (PySem.W.fnOf "_law_subset" "_law_subset" (defArgs s_law_subset) (defBody s_law_subset) (defScope s_law_subset) .none kV_law_subset dc_law_subset pm_law_subset an_law_subset cd_law_subset ct_law_subset), sl_law_subset⟩)
    (c_law_subset : PySem.W.codeIn K cd_law_subset "_law_subset" = true)
    (k_law_subset : PySem.W.keepIn K (.ref f_law_subset) = true)
    (a_law_name : PySem.W.nsIn K mainGlobals "_law_name" = some (some (.ref f_law_name)))
    (l_law_name : K.lookup f_law_name = some ⟨oc_law_name, od_law_name, .func (PySem.W.fnOf "_law_name" "_law_name" (defArgs s_law_name) (defBody s_law_name) (defScope s_law_name) .none kV_law_name dc_law_name pm_law_name an_law_name cd_law_name ct_law_name), sl_law_name⟩)
    (c_law_name : PySem.W.codeIn K cd_law_name "_law_name" = true)
    (k_law_name : PySem.W.keepIn K (.ref f_law_name) = true)
    (a_law_names : PySem.W.nsIn K mainGlobals "_law_names" = some (some (.ref f_law_names)))
    (l_law_names : K.lookup f_law_names = some ⟨oc_law_names, od_law_names, .func (PySem.W.fnOf "_law_names" "_law_names" (defArgs s_law_names) (defBody s_law_names) (defScope s_law_names) .none kV_law_names dc_law_names pm_law_names an_law_names cd_law_names ct_law_names), sl_law_names⟩)
    (c_law_names : PySem.W.codeIn K cd_law_names "_law_names" = true)
    (k_law_names : PySem.W.keepIn K (.ref f_law_names) = true)
    (a_law_places : PySem.W.nsIn K mainGlobals "_law_places" = some (some (.ref f_law_places)))
    (l_law_places : K.lookup f_law_places = some ⟨oc_law_places, od_law_places, .func (PySem.W.fnOf "_law_places" "_law_places" (defArgs s_law_places) (defBody s_law_places) (defScope s_law_places) .none kV_law_places dc_law_places pm_law_places an_law_places cd_law_places ct_law_places), sl_law_places⟩)
    (c_law_places : PySem.W.codeIn K cd_law_places "_law_places" = true)
    (k_law_places : PySem.W.keepIn K (.ref f_law_places) = true)
    (a_law_group_names : PySem.W.nsIn K mainGlobals "_law_group_names" = some (some (.ref f_law_group_names)))
    (l_law_group_names : K.lookup f_law_group_names = some ⟨oc_law_group_names, od_law_group_names, .func (PySem.W.fnOf "_law_group_names" "_law_group_names" (defArgs s_law_group_names) (defBody s_law_group_names) (defScope s_law_group_names) .none kV_law_group_names dc_law_group_names pm_law_group_names an_law_group_names cd_law_group_names ct_law_group_names), sl_law_group_names⟩)
    (c_law_group_names : PySem.W.codeIn K cd_law_group_names "_law_group_names" = true)
    (k_law_group_names : PySem.W.keepIn K (.ref f_law_group_names) = true)
    (a_law_watch_rules : PySem.W.nsIn K mainGlobals "_law_watch_rules" = some (some (.ref f_law_watch_rules)))
    (l_law_watch_rules : K.lookup f_law_watch_rules = some ⟨oc_law_watch_rules, od_law_watch_rules, .func (PySem.W.fnOf "_law_watch_rules" "_law_watch_rules" (defArgs s_law_watch_rules) (defBody s_law_watch_rules) (defScope s_law_watch_rules) .none kV_law_watch_rules dc_law_watch_rules pm_law_watch_rules an_law_watch_rules cd_law_watch_rules ct_law_watch_rules), sl_law_watch_rules⟩)
    (c_law_watch_rules : PySem.W.codeIn K cd_law_watch_rules "_law_watch_rules" = true)
    (k_law_watch_rules : PySem.W.keepIn K (.ref f_law_watch_rules) = true)
    (a_law_watch_states : PySem.W.nsIn K mainGlobals "_law_watch_states" = some (some (.ref f_law_watch_states)))
    (l_law_watch_states : K.lookup f_law_watch_states = some ⟨oc_law_watch_states, od_law_watch_states, .func (PySem.W.fnOf "_law_watch_states" "_law_watch_states" (defArgs s_law_watch_states) (defBody s_law_watch_states) (defScope s_law_watch_states) .none kV_law_watch_states dc_law_watch_states pm_law_watch_states an_law_watch_states cd_law_watch_states ct_law_watch_states), sl_law_watch_states⟩)
    (c_law_watch_states : PySem.W.codeIn K cd_law_watch_states "_law_watch_states" = true)
    (k_law_watch_states : PySem.W.keepIn K (.ref f_law_watch_states) = true)
    (a_law_tuples : PySem.W.nsIn K mainGlobals "_law_tuples" = some (some (.ref f_law_tuples)))
    (l_law_tuples : K.lookup f_law_tuples = some ⟨oc_law_tuples, od_law_tuples, .func (PySem.W.fnOf "_law_tuples" "_law_tuples" (defArgs s_law_tuples) (defBody s_law_tuples) (defScope s_law_tuples) .none kV_law_tuples dc_law_tuples pm_law_tuples an_law_tuples cd_law_tuples ct_law_tuples), sl_law_tuples⟩)
    (c_law_tuples : PySem.W.codeIn K cd_law_tuples "_law_tuples" = true)
    (k_law_tuples : PySem.W.keepIn K (.ref f_law_tuples) = true)
    (a_law : PySem.W.nsIn K mainGlobals "law" = some (some (.ref f_law)))
    (l_law : K.lookup f_law = some ⟨oc_law, od_law, .func (PySem.W.fnOf "law" "law" (defArgs s_law) (defBody s_law) (defScope s_law) .none kV_law dc_law pm_law an_law cd_law ct_law), sl_law⟩)
    (c_law : PySem.W.codeIn K cd_law "law" = true)
    (k_law : PySem.W.keepIn K (.ref f_law) = true)
    (z_int : PySem.W.nsIn K mainGlobals "int" = some none)
    (z_str : PySem.W.nsIn K mainGlobals "str" = some none)
    (z_bool : PySem.W.nsIn K mainGlobals "bool" = some none)
    (z_range : PySem.W.nsIn K mainGlobals "range" = some none)
    (z_len : PySem.W.nsIn K mainGlobals "len" = some none)
    (z_isinstance : PySem.W.nsIn K mainGlobals "isinstance" = some none)
    (z_all : PySem.W.nsIn K mainGlobals "all" = some none)
    (z_list : PySem.W.nsIn K mainGlobals "list" = some none)
    (z_tuple : PySem.W.nsIn K mainGlobals "tuple" = some none)
    (z_enumerate : PySem.W.nsIn K mainGlobals "enumerate" = some none)
    (xg_BadWatch : PySem.W.nsIn K mainGlobals "BadWatch" = some (some (.ref C_BadWatch)))
    (xc_BadWatch : K.lookup C_BadWatch = some (excClassObj nm_BadWatch q_BadWatch C_BadWatch N_BadWatch bs_BadWatch (.ref B_BadWatch :: PySem.SupX.veTl) true sn_BadWatch sub_BadWatch ab_BadWatch col_BadWatch dd_BadWatch k0_BadWatch k1_BadWatch k2_BadWatch k3_BadWatch k5_BadWatch "ValueError.__new__"))
    (xsa_BadWatch : PySem.W.findIn K (.ref C_BadWatch) "__setattr__" = some (some (.builtin "object.__setattr__")))
    (xga_BadWatch : PySem.W.findIn K (.ref C_BadWatch) "__getattribute__" = some (some (.builtin "BaseException.__getattribute__")))
    (xgg_BadWatch : PySem.W.findIn K (.ref C_BadWatch) "__getattr__" = some none)
    (xic_BadWatch : PySem.W.findIn K (.ref C_BadWatch) "__init__" = some (some (.ref i_BadWatch)))
    (xtc_BadWatch : PySem.W.typeIn K (.ref i_BadWatch) = some (.type "function"))
    (xkc_BadWatch : PySem.W.keepIn K (.ref C_BadWatch) = true)
    (xex_BadWatch : PySem.W.subIn K (.ref C_BadWatch) (.type "BaseException") = some true)
    (xty_BadWatch : PySem.W.typeIn K (.ref C_BadWatch) = some (.type "type"))
    (xhd_BadWatch : PySem.W.hasDictIn K C_BadWatch = true)
    (xsu_BadWatch : PySem.W.ks_superIn K C_BadWatch C_BadWatch "__init__" = some (some (.builtin "ValueError.__init__")))
    (xsv_BadWatch : PySem.W.subIn K (.ref C_BadWatch) (.type "ValueError") = some true)
    (xmr_BadWatch : PySem.W.mroIn K C_BadWatch (.ref C_BadWatch) = some true)
    (xst_BadWatch : PySem.W.nsIn K PySem.cStatics "thirdparty.any" = some none)
    (xms_BadWatch : PySem.W.nsIn K mainGlobals "super" = some none)
    (xht_BadWatch : (l.prog.main.scope.names.lookup ("super" : Str)).isSome = false)
    (xno_BadWatch : PySem.W.findIn K (.ref C_BadWatch) "line" = some none)
    (xli_BadWatch : K.lookup i_BadWatch = some ⟨oc_BadWatch, od_BadWatch, .func (PySem.W.ksFn "__init__" "BadWatch.__init__" (defArgs (inClass (top 3) 0)) (defBody (inClass (top 3) 0)) (defScope (inClass (top 3) 0)) .none kV_BadWatch doc_BadWatch pm_BadWatch an_BadWatch (.ref cda_BadWatch) ct_BadWatch cc_BadWatch), osl_BadWatch⟩)
    (xci_BadWatch : PySem.W.codeIn K (.ref cda_BadWatch) "BadWatch.__init__" = true)
    (xcd_BadWatch : K.lookup cda_BadWatch = some ⟨ccl_BadWatch, cdd_BadWatch, .fields vs_BadWatch, ccs_BadWatch⟩)
    (xv2_BadWatch : vs_BadWatch[2]? = some (.str file_BadWatch tf_BadWatch))
    (xfi_BadWatch : ((l.prog.main.file : Str) == file_BadWatch) = true)
    (xcc_BadWatch : K.lookup cc_BadWatch = some ⟨cl_BadWatch, cld_BadWatch, .cell (some (.ref C_BadWatch)), csl_BadWatch⟩)
    (xte_BadWatch : PySem.W.exmOne K (.ref C_BadWatch) (.ref C_BadWatch) = some true)
    (xg_UnknownState : PySem.W.nsIn K mainGlobals "UnknownState" = some (some (.ref C_UnknownState)))
    (xc_UnknownState : K.lookup C_UnknownState = some (excClassObj nm_UnknownState q_UnknownState C_UnknownState N_UnknownState bs_UnknownState (.ref B_UnknownState :: PySem.SupX.veTl) true sn_UnknownState sub_UnknownState ab_UnknownState col_UnknownState dd_UnknownState k0_UnknownState k1_UnknownState k2_UnknownState k3_UnknownState k5_UnknownState "ValueError.__new__"))
    (xsa_UnknownState : PySem.W.findIn K (.ref C_UnknownState) "__setattr__" = some (some (.builtin "object.__setattr__")))
    (xga_UnknownState : PySem.W.findIn K (.ref C_UnknownState) "__getattribute__" = some (some (.builtin "BaseException.__getattribute__")))
    (xgg_UnknownState : PySem.W.findIn K (.ref C_UnknownState) "__getattr__" = some none)
    (xic_UnknownState : PySem.W.findIn K (.ref C_UnknownState) "__init__" = some (some (.ref i_UnknownState)))
    (xtc_UnknownState : PySem.W.typeIn K (.ref i_UnknownState) = some (.type "function"))
    (xkc_UnknownState : PySem.W.keepIn K (.ref C_UnknownState) = true)
    (xex_UnknownState : PySem.W.subIn K (.ref C_UnknownState) (.type "BaseException") = some true)
    (xty_UnknownState : PySem.W.typeIn K (.ref C_UnknownState) = some (.type "type"))
    (xhd_UnknownState : PySem.W.hasDictIn K C_UnknownState = true)
    (xsu_UnknownState : PySem.W.ks_superIn K C_UnknownState C_UnknownState "__init__" = some (some (.builtin "ValueError.__init__")))
    (xsv_UnknownState : PySem.W.subIn K (.ref C_UnknownState) (.type "ValueError") = some true)
    (xmr_UnknownState : PySem.W.mroIn K C_UnknownState (.ref C_UnknownState) = some true)
    (xst_UnknownState : PySem.W.nsIn K PySem.cStatics "thirdparty.any" = some none)
    (xms_UnknownState : PySem.W.nsIn K mainGlobals "super" = some none)
    (xht_UnknownState : (l.prog.main.scope.names.lookup ("super" : Str)).isSome = false)
    (xno_UnknownState : PySem.W.findIn K (.ref C_UnknownState) "state" = some none)
    (xli_UnknownState : K.lookup i_UnknownState = some ⟨oc_UnknownState, od_UnknownState, .func (PySem.W.ksFn "__init__" "UnknownState.__init__" (defArgs (inClass (top 2) 0)) (defBody (inClass (top 2) 0)) (defScope (inClass (top 2) 0)) .none kV_UnknownState doc_UnknownState pm_UnknownState an_UnknownState (.ref cda_UnknownState) ct_UnknownState cc_UnknownState), osl_UnknownState⟩)
    (xci_UnknownState : PySem.W.codeIn K (.ref cda_UnknownState) "UnknownState.__init__" = true)
    (xcd_UnknownState : K.lookup cda_UnknownState = some ⟨ccl_UnknownState, cdd_UnknownState, .fields vs_UnknownState, ccs_UnknownState⟩)
    (xv2_UnknownState : vs_UnknownState[2]? = some (.str file_UnknownState tf_UnknownState))
    (xfi_UnknownState : ((l.prog.main.file : Str) == file_UnknownState) = true)
    (xcc_UnknownState : K.lookup cc_UnknownState = some ⟨cl_UnknownState, cld_UnknownState, .cell (some (.ref C_UnknownState)), csl_UnknownState⟩)
    (xte_UnknownState : PySem.W.exmOne K (.ref C_UnknownState) (.ref C_UnknownState) = some true)
    (xne_BadWatch_UnknownState : PySem.W.exmOne K (.ref C_BadWatch) (.ref C_UnknownState) = some false)
    (xne_UnknownState_BadWatch : PySem.W.exmOne K (.ref C_UnknownState) (.ref C_BadWatch) = some false)
    (xck_Watch : PySem.W.findIn K (.ref C_Watch) "__class__" = some (some (.builtin "object.__class__")))
    (xcg_Watch : PySem.W.specialIn K (.builtin "object.__class__") "__get__" = some (some (.builtin "getset_descriptor.__get__")))
    (xct_Watch : PySem.W.takesIn K (.builtin "object.__class__") = some true)
    (xco_Watch : PySem.W.mroIn K C_Watch (.type "object") = some true)
    (xcn_Watch : PySem.W.findIn K (.ref C_Watch) "__ne__" = some (some (.builtin "object.__ne__")))
    (xnf_Watch : PySem.W.notFirst K C_Watch (.ref C_Watch) = true)
    (xn1_Watch : PySem.W.notFirst K C_Watch (.type "tuple") = true)
    (xc1_Watch : PySem.W.kitOne K (.type "tuple") (.ref C_Watch) = some false)
    : ∃ fd : FuncData, (∀ (s : Shared) (v : Value), BindsTo s fd ⟨[v], []⟩ [("_law_script", v)]) ∧ ∀ base : Heap, K.In base → base.Ns mainGlobals mg → FnOk l.prog w K mg base CX0 9 fa fd ["_law_script"] (spLaw K) := by
  have e := hfa.symm.trans (PySem.W.mg_of X G a_law)
  cases e
  have F_is_name := fun_mk (st := s_is_name) l_is_name c_is_name k_is_name
  have F_is_group := fun_mk (st := s_is_group) l_is_group c_is_group k_is_group
  have F_are_groups := fun_mk (st := s_are_groups) l_are_groups c_are_groups k_are_groups
  have F_are_words := fun_mk (st := s_are_words) l_are_words c_are_words k_are_words
  have F_is_rule := fun_mk (st := s_is_rule) l_is_rule c_is_rule k_is_rule
  have F_checked_rules := fun_mk (st := s_checked_rules) l_checked_rules c_checked_rules k_checked_rules
  have F_checked_alarms := fun_mk (st := s_checked_alarms) l_checked_alarms c_checked_alarms k_checked_alarms
  have F_Watch__init := fun_mk (st := s_Watch__init) l_Watch__init c_Watch__init k_Watch__init
  have F_Watch_rules := fun_mk (st := s_Watch_rules) l_Watch_rules c_Watch_rules k_Watch_rules
  have F_Watch_states := fun_mk (st := s_Watch_states) l_Watch_states c_Watch_states k_Watch_states
  have F_Watch_start := fun_mk (st := s_Watch_start) l_Watch_start c_Watch_start k_Watch_start
  have F_Watch_alarms := fun_mk (st := s_Watch_alarms) l_Watch_alarms c_Watch_alarms k_Watch_alarms
  have F_Watch__eq := fun_mk (st := s_Watch__eq) l_Watch__eq c_Watch__eq k_Watch__eq
  have F_law_source := fun_mk (st := s_law_source) l_law_source c_law_source k_law_source
  have F_law_draw := fun_mk (st := s_law_draw) l_law_draw c_law_draw k_law_draw
  have F_law_pick := fun_mk (st := s_law_pick) l_law_pick c_law_pick k_law_pick
  have F_law_order := fun_mk (st := s_law_order) l_law_order c_law_order k_law_order
  have F_law_subset := fun_mk (st := s_law_subset) l_law_subset c_law_subset k_law_subset
  have F_law_name := fun_mk (st := s_law_name) l_law_name c_law_name k_law_name
  have F_law_names := fun_mk (st := s_law_names) l_law_names c_law_names k_law_names
  have F_law_places := fun_mk (st := s_law_places) l_law_places c_law_places k_law_places
  have F_law_group_names := fun_mk (st := s_law_group_names) l_law_group_names c_law_group_names k_law_group_names
  have F_law_watch_rules := fun_mk (st := s_law_watch_rules) l_law_watch_rules c_law_watch_rules k_law_watch_rules
  have F_law_watch_states := fun_mk (st := s_law_watch_states) l_law_watch_states c_law_watch_states k_law_watch_states
  have F_law_tuples := fun_mk (st := s_law_tuples) l_law_tuples c_law_tuples k_law_tuples
  have F_law := fun_mk (st := s_law) l_law c_law k_law
  have b_is_name := F_is_name.binds (ps := ["thing"]) fun _ _ _ _ _ _ us hl => match us, hl with | [_], _ => rfl
  have b_is_group := F_is_group.binds (ps := ["thing"]) fun _ _ _ _ _ _ us hl => match us, hl with | [_], _ => rfl
  have b_are_groups := F_are_groups.binds (ps := ["things"]) fun _ _ _ _ _ _ us hl => match us, hl with | [_], _ => rfl
  have b_are_words := F_are_words.binds (ps := ["things"]) fun _ _ _ _ _ _ us hl => match us, hl with | [_], _ => rfl
  have b_is_rule := F_is_rule.binds (ps := ["thing"]) fun _ _ _ _ _ _ us hl => match us, hl with | [_], _ => rfl
  have b_checked_rules := F_checked_rules.binds (ps := ["rules"]) fun _ _ _ _ _ _ us hl => match us, hl with | [_], _ => rfl
  have b_checked_alarms := F_checked_alarms.binds (ps := ["states", "alarms"]) fun _ _ _ _ _ _ us hl => match us, hl with | [_, _], _ => rfl
  have b_Watch__init := F_Watch__init.binds (ps := ["self", "rules", "alarms"]) fun _ _ _ _ _ _ us hl => match us, hl with | [_, _, _], _ => rfl
  have b_Watch_rules := F_Watch_rules.binds (ps := ["self"]) fun _ _ _ _ _ _ us hl => match us, hl with | [_], _ => rfl
  have b_Watch_states := F_Watch_states.binds (ps := ["self"]) fun _ _ _ _ _ _ us hl => match us, hl with | [_], _ => rfl
  have b_Watch_start := F_Watch_start.binds (ps := ["self"]) fun _ _ _ _ _ _ us hl => match us, hl with | [_], _ => rfl
  have b_Watch_alarms := F_Watch_alarms.binds (ps := ["self"]) fun _ _ _ _ _ _ us hl => match us, hl with | [_], _ => rfl
  have b_Watch__eq := F_Watch__eq.binds (ps := ["self", "other"]) fun _ _ _ _ _ _ us hl => match us, hl with | [_, _], _ => rfl
  have b_law_source := F_law_source.binds (ps := ["_law_script"]) fun _ _ _ _ _ _ us hl => match us, hl with | [_], _ => rfl
  have b_law_draw := F_law_draw.binds (ps := ["_law_source_here", "_law_many"]) fun _ _ _ _ _ _ us hl => match us, hl with | [_, _], _ => rfl
  have b_law_pick := F_law_pick.binds (ps := ["_law_source_here", "_law_things"]) fun _ _ _ _ _ _ us hl => match us, hl with | [_, _], _ => rfl
  have b_law_order := F_law_order.binds (ps := ["_law_source_here", "_law_many"]) fun _ _ _ _ _ _ us hl => match us, hl with | [_, _], _ => rfl
  have b_law_subset := F_law_subset.binds (ps := ["_law_source_here", "_law_row"]) fun _ _ _ _ _ _ us hl => match us, hl with | [_, _], _ => rfl
  have b_law_name := F_law_name.binds (ps := ["_law_source_here", "_law_taken"]) fun _ _ _ _ _ _ us hl => match us, hl with | [_, _], _ => rfl
  have b_law_names := F_law_names.binds (ps := ["_law_source_here", "_law_many"]) fun _ _ _ _ _ _ us hl => match us, hl with | [_, _], _ => rfl
  have b_law_places := F_law_places.binds (ps := []) fun _ _ _ _ _ _ us hl => match us, hl with | [], _ => rfl
  have b_law_group_names := F_law_group_names.binds (ps := []) fun _ _ _ _ _ _ us hl => match us, hl with | [], _ => rfl
  have b_law_watch_rules := F_law_watch_rules.binds (ps := ["_law_source_here", "_law_many", "_law_most", "_law_words"]) fun _ _ _ _ _ _ us hl => match us, hl with | [_, _, _, _], _ => rfl
  have b_law_watch_states := F_law_watch_states.binds (ps := ["_law_rules"]) fun _ _ _ _ _ _ us hl => match us, hl with | [_], _ => rfl
  have b_law_tuples := F_law_tuples.binds (ps := ["_law_rules"]) fun _ _ _ _ _ _ us hl => match us, hl with | [_], _ => rfl
  have b_law := F_law.binds (ps := ["_law_script"]) fun _ _ _ _ _ _ us hl => match us, hl with | [_], _ => rfl
  have y_GROUPS : ∀ (j : Nat) (nm : Str) (ps : List Str), l_GROUPS[j]? = some (nm, ps) → ∃ u : Addr, PySem.W.nsIn K a_GROUPS nm = some (some (.ref u)) ∧ ∀ H : Hp, SqT K H u (ps.map V.str) := fun j nm ps h => match j, h with
    | 0, h => by
      cases Option.some.inj h
      exact ⟨g_GROUPS_0, by rw [PySem.W.nsIn, lk_GROUPS] <;> rfl, fun H => .inr ⟨_, _, _, lg_GROUPS_0, rfl, rfl, (by show 11 ≤ sizeLine; decide), (.cons ⟨_, rfl⟩ (.cons ⟨_, rfl⟩ (.cons ⟨_, rfl⟩ (.cons ⟨_, rfl⟩ (.cons ⟨_, rfl⟩ (.cons ⟨_, rfl⟩ (.cons ⟨_, rfl⟩ (.cons ⟨_, rfl⟩ (.cons ⟨_, rfl⟩ (.cons ⟨_, rfl⟩ (.cons ⟨_, rfl⟩ .nil)))))))))))⟩⟩
    | 1, h => by
      cases Option.some.inj h
      exact ⟨g_GROUPS_1, by rw [PySem.W.nsIn, lk_GROUPS] <;> rfl, fun H => .inr ⟨_, _, _, lg_GROUPS_1, rfl, rfl, (by show 7 ≤ sizeLine; decide), (.cons ⟨_, rfl⟩ (.cons ⟨_, rfl⟩ (.cons ⟨_, rfl⟩ (.cons ⟨_, rfl⟩ (.cons ⟨_, rfl⟩ (.cons ⟨_, rfl⟩ (.cons ⟨_, rfl⟩ .nil)))))))⟩⟩
    | 2, h => by
      cases Option.some.inj h
      exact ⟨g_GROUPS_2, by rw [PySem.W.nsIn, lk_GROUPS] <;> rfl, fun H => .inr ⟨_, _, _, lg_GROUPS_2, rfl, rfl, (by show 4 ≤ sizeLine; decide), (.cons ⟨_, rfl⟩ (.cons ⟨_, rfl⟩ (.cons ⟨_, rfl⟩ (.cons ⟨_, rfl⟩ .nil))))⟩⟩
    | 3, h => by
      cases Option.some.inj h
      exact ⟨g_GROUPS_3, by rw [PySem.W.nsIn, lk_GROUPS] <;> rfl, fun H => .inr ⟨_, _, _, lg_GROUPS_3, rfl, rfl, (by show 5 ≤ sizeLine; decide), (.cons ⟨_, rfl⟩ (.cons ⟨_, rfl⟩ (.cons ⟨_, rfl⟩ (.cons ⟨_, rfl⟩ (.cons ⟨_, rfl⟩ .nil)))))⟩⟩
    | 4, h => by
      cases Option.some.inj h
      exact ⟨g_GROUPS_4, by rw [PySem.W.nsIn, lk_GROUPS] <;> rfl, fun H => .inr ⟨_, _, _, lg_GROUPS_4, rfl, rfl, (by show 5 ≤ sizeLine; decide), (.cons ⟨_, rfl⟩ (.cons ⟨_, rfl⟩ (.cons ⟨_, rfl⟩ (.cons ⟨_, rfl⟩ (.cons ⟨_, rfl⟩ .nil)))))⟩⟩
    | 5, h => by
      cases Option.some.inj h
      exact ⟨g_GROUPS_5, by rw [PySem.W.nsIn, lk_GROUPS] <;> rfl, fun H => .inr ⟨_, _, _, lg_GROUPS_5, rfl, rfl, (by show 2 ≤ sizeLine; decide), (.cons ⟨_, rfl⟩ (.cons ⟨_, rfl⟩ .nil))⟩⟩
    | 6, h => by
      cases Option.some.inj h
      exact ⟨g_GROUPS_6, by rw [PySem.W.nsIn, lk_GROUPS] <;> rfl, fun H => .inr ⟨_, _, _, lg_GROUPS_6, rfl, rfl, (by show 2 ≤ sizeLine; decide), (.cons ⟨_, rfl⟩ (.cons ⟨_, rfl⟩ .nil))⟩⟩
    | 7, h => by
      cases Option.some.inj h
      exact ⟨g_GROUPS_7, by rw [PySem.W.nsIn, lk_GROUPS] <;> rfl, fun H => .inr ⟨_, _, _, lg_GROUPS_7, rfl, rfl, (by show 3 ≤ sizeLine; decide), (.cons ⟨_, rfl⟩ (.cons ⟨_, rfl⟩ (.cons ⟨_, rfl⟩ .nil)))⟩⟩
    | 8, h => by
      cases Option.some.inj h
      exact ⟨g_GROUPS_8, by rw [PySem.W.nsIn, lk_GROUPS] <;> rfl, fun H => .inr ⟨_, _, _, lg_GROUPS_8, rfl, rfl, (by show 0 ≤ sizeLine; decide), .nil⟩⟩
    | _ + 9, h => by cases h
  have z_GROUPS : ∀ z : Str, z ∉ l_GROUPS.map (·.1) → PySem.W.nsIn K a_GROUPS z = some none := fun z hz => by
    have n0 : (Value.str "any" t_GROUPS_0).isStr z = false := isStr_ne (fun q => hz (by rw [← q]; decide +kernel))
    have n1 : (Value.str "near" t_GROUPS_1).isStr z = false := isStr_ne (fun q => hz (by rw [← q]; decide +kernel))
    have n2 : (Value.str "far" t_GROUPS_2).isStr z = false := isStr_ne (fun q => hz (by rw [← q]; decide +kernel))
    have n3 : (Value.str "less" t_GROUPS_3).isStr z = false := isStr_ne (fun q => hz (by rw [← q]; decide +kernel))
    have n4 : (Value.str "more" t_GROUPS_4).isStr z = false := isStr_ne (fun q => hz (by rw [← q]; decide +kernel))
    have n5 : (Value.str "under" t_GROUPS_5).isStr z = false := isStr_ne (fun q => hz (by rw [← q]; decide +kernel))
    have n6 : (Value.str "over" t_GROUPS_6).isStr z = false := isStr_ne (fun q => hz (by rw [← q]; decide +kernel))
    have n7 : (Value.str "cell" t_GROUPS_7).isStr z = false := isStr_ne (fun q => hz (by rw [← q]; decide +kernel))
    have n8 : (Value.str "none" t_GROUPS_8).isStr z = false := isStr_ne (fun q => hz (by rw [← q]; decide +kernel))
    rw [PySem.W.nsIn, lk_GROUPS]
    simp only [List.find?, List.any, n0, n1, n2, n3, n4, n5, n6, n7, n8]
    rfl
  have er_BadWatch : PySem.SupX.ClsTxt l.prog K mg C_BadWatch i_BadWatch "BadWatch" := { gC := PySem.W.mg_of X G xg_BadWatch, cls := ⟨nm_BadWatch, q_BadWatch, N_BadWatch, bs_BadWatch, _, sn_BadWatch, sub_BadWatch, ab_BadWatch, col_BadWatch, dd_BadWatch, k0_BadWatch, k1_BadWatch, k2_BadWatch, k3_BadWatch, k5_BadWatch, xc_BadWatch, rfl⟩, sa := xsa_BadWatch, ga := xga_BadWatch, gg := xgg_BadWatch, iC := xic_BadWatch, tC := xtc_BadWatch, kC := xkc_BadWatch, exC := xex_BadWatch, tyC := xty_BadWatch, hdC := xhd_BadWatch, msup := PySem.W.mg_none_of X G xms_BadWatch, sup := xsu_BadWatch, sve := xsv_BadWatch, mro := xmr_BadWatch, st := xst_BadWatch, htop := xht_BadWatch }
  have fn_BadWatch : PySem.SupX.FnTxt l.prog K C_BadWatch i_BadWatch "line" := { noN := xno_BadWatch, nd := by decide, sf := by decide, lf := by decide, lc := by decide, ls := by decide, fn := ⟨oc_BadWatch, doc_BadWatch, pm_BadWatch, kV_BadWatch, ct_BadWatch, od_BadWatch, an_BadWatch, osl_BadWatch, _, _, _, _, _, _, _, _, _, _, _, _, _, _, _, cda_BadWatch, cc_BadWatch, vs_BadWatch, file_BadWatch, tf_BadWatch, ccl_BadWatch, cl_BadWatch, cdd_BadWatch, cld_BadWatch, ccs_BadWatch, csl_BadWatch, _, rfl, xli_BadWatch, xci_BadWatch, fun _ _ => rfl, xcd_BadWatch, xv2_BadWatch, xfi_BadWatch, xcc_BadWatch, ⟨_, fun _ => rfl⟩, fun _ => rfl, fun _ => rfl⟩ }
  have er_UnknownState : PySem.SupX.ClsTxt l.prog K mg C_UnknownState i_UnknownState "UnknownState" := { gC := PySem.W.mg_of X G xg_UnknownState, cls := ⟨nm_UnknownState, q_UnknownState, N_UnknownState, bs_UnknownState, _, sn_UnknownState, sub_UnknownState, ab_UnknownState, col_UnknownState, dd_UnknownState, k0_UnknownState, k1_UnknownState, k2_UnknownState, k3_UnknownState, k5_UnknownState, xc_UnknownState, rfl⟩, sa := xsa_UnknownState, ga := xga_UnknownState, gg := xgg_UnknownState, iC := xic_UnknownState, tC := xtc_UnknownState, kC := xkc_UnknownState, exC := xex_UnknownState, tyC := xty_UnknownState, hdC := xhd_UnknownState, msup := PySem.W.mg_none_of X G xms_UnknownState, sup := xsu_UnknownState, sve := xsv_UnknownState, mro := xmr_UnknownState, st := xst_UnknownState, htop := xht_UnknownState }
  have fn_UnknownState : PySem.SupX.FnTxt l.prog K C_UnknownState i_UnknownState "state" := { noN := xno_UnknownState, nd := by decide, sf := by decide, lf := by decide, lc := by decide, ls := by decide, fn := ⟨oc_UnknownState, doc_UnknownState, pm_UnknownState, kV_UnknownState, ct_UnknownState, od_UnknownState, an_UnknownState, osl_UnknownState, _, _, _, _, _, _, _, _, _, _, _, _, _, _, _, cda_UnknownState, cc_UnknownState, vs_UnknownState, file_UnknownState, tf_UnknownState, ccl_UnknownState, cl_UnknownState, cdd_UnknownState, cld_UnknownState, ccs_UnknownState, csl_UnknownState, _, rfl, xli_UnknownState, xci_UnknownState, fun _ _ => rfl, xcd_UnknownState, xv2_UnknownState, xfi_UnknownState, xcc_UnknownState, ⟨_, fun _ => rfl⟩, fun _ => rfl, fun _ => rfl⟩ }
  let T : Txt l.prog w K mg := {
C_Watch := C_Watch, m_Watch := PySem.W.mg_of X G cg_Watch, cl_Watch := ⟨cpg_Watch, chd_Watch, cpo_Watch, csa_Watch⟩,
    na_Watch_rules := cn_Watch_rules,
    na_Watch_states := cn_Watch_states,
    na_Watch_alarms := cn_Watch_alarms,
    t_LETTERS := t_LETTERS, m_LETTERS := PySem.W.mg_of X G g_LETTERS,
    t_MOST_RULES := t_MOST_RULES, m_MOST_RULES := PySem.W.mg_of X G g_MOST_RULES,
    t_MOST_STATES := t_MOST_STATES, m_MOST_STATES := PySem.W.mg_of X G g_MOST_STATES,
    t_ANY_WORD := t_ANY_WORD, m_ANY_WORD := PySem.W.mg_of X G g_ANY_WORD,
    f_Watch__init := f_Watch__init, d_Watch__init := _, F_Watch__init := F_Watch__init, b_Watch__init := b_Watch__init, mk_Watch := ⟨cmk_Watch, a_Watch__init, i_Watch__init, ckc_Watch⟩,
    f_Watch_rules := f_Watch_rules, d_Watch_rules := _, F_Watch_rules := F_Watch_rules, b_Watch_rules := b_Watch_rules, p_Watch_rules := p_Watch_rules, pr_Watch_rules := ⟨pa_Watch_rules, pg_Watch_rules, pt_Watch_rules, ⟨_, pc_Watch_rules⟩⟩,
    f_Watch_states := f_Watch_states, d_Watch_states := _, F_Watch_states := F_Watch_states, b_Watch_states := b_Watch_states, p_Watch_states := p_Watch_states, pr_Watch_states := ⟨pa_Watch_states, pg_Watch_states, pt_Watch_states, ⟨_, pc_Watch_states⟩⟩,
    f_Watch_start := f_Watch_start, d_Watch_start := _, F_Watch_start := F_Watch_start, b_Watch_start := b_Watch_start, p_Watch_start := p_Watch_start, pr_Watch_start := ⟨pa_Watch_start, pg_Watch_start, pt_Watch_start, ⟨_, pc_Watch_start⟩⟩,
    f_Watch_alarms := f_Watch_alarms, d_Watch_alarms := _, F_Watch_alarms := F_Watch_alarms, b_Watch_alarms := b_Watch_alarms, p_Watch_alarms := p_Watch_alarms, pr_Watch_alarms := ⟨pa_Watch_alarms, pg_Watch_alarms, pt_Watch_alarms, ⟨_, pc_Watch_alarms⟩⟩,
    f_Watch__eq := f_Watch__eq, d_Watch__eq := _, F_Watch__eq := F_Watch__eq, b_Watch__eq := b_Watch__eq, mt_Watch__eq := ⟨a_Watch__eq, i_Watch__eq, k_Watch__eq⟩,
    f_is_name := f_is_name, d_is_name := _, F_is_name := F_is_name, b_is_name := b_is_name, m_is_name := PySem.W.mg_of X G a_is_name,
    f_is_group := f_is_group, d_is_group := _, F_is_group := F_is_group, b_is_group := b_is_group, m_is_group := PySem.W.mg_of X G a_is_group,
    f_are_groups := f_are_groups, d_are_groups := _, F_are_groups := F_are_groups, b_are_groups := b_are_groups, m_are_groups := PySem.W.mg_of X G a_are_groups,
    f_are_words := f_are_words, d_are_words := _, F_are_words := F_are_words, b_are_words := b_are_words, m_are_words := PySem.W.mg_of X G a_are_words,
    f_is_rule := f_is_rule, d_is_rule := _, F_is_rule := F_is_rule, b_is_rule := b_is_rule, m_is_rule := PySem.W.mg_of X G a_is_rule,
    f_checked_rules := f_checked_rules, d_checked_rules := _, F_checked_rules := F_checked_rules, b_checked_rules := b_checked_rules, m_checked_rules := PySem.W.mg_of X G a_checked_rules,
    f_checked_alarms := f_checked_alarms, d_checked_alarms := _, F_checked_alarms := F_checked_alarms, b_checked_alarms := b_checked_alarms, m_checked_alarms := PySem.W.mg_of X G a_checked_alarms,
    f_law_source := f_law_source, d_law_source := _, F_law_source := F_law_source, b_law_source := b_law_source, m_law_source := PySem.W.mg_of X G a_law_source,
    f_law_draw := f_law_draw, d_law_draw := _, F_law_draw := F_law_draw, b_law_draw := b_law_draw, m_law_draw := PySem.W.mg_of X G a_law_draw,
    f_law_pick := f_law_pick, d_law_pick := _, F_law_pick := F_law_pick, b_law_pick := b_law_pick, m_law_pick := PySem.W.mg_of X G a_law_pick,
    f_law_order := f_law_order, d_law_order := _, F_law_order := F_law_order, b_law_order := b_law_order, m_law_order := PySem.W.mg_of X G a_law_order,
    f_law_subset := f_law_subset, d_law_subset := _, F_law_subset := F_law_subset, b_law_subset := b_law_subset, m_law_subset := PySem.W.mg_of X G a_law_subset,
    f_law_name := f_law_name, d_law_name := _, F_law_name := F_law_name, b_law_name := b_law_name, m_law_name := PySem.W.mg_of X G a_law_name,
    f_law_names := f_law_names, d_law_names := _, F_law_names := F_law_names, b_law_names := b_law_names, m_law_names := PySem.W.mg_of X G a_law_names,
    f_law_places := f_law_places, d_law_places := _, F_law_places := F_law_places, b_law_places := b_law_places, m_law_places := PySem.W.mg_of X G a_law_places,
    f_law_group_names := f_law_group_names, d_law_group_names := _, F_law_group_names := F_law_group_names, b_law_group_names := b_law_group_names, m_law_group_names := PySem.W.mg_of X G a_law_group_names,
    f_law_watch_rules := f_law_watch_rules, d_law_watch_rules := _, F_law_watch_rules := F_law_watch_rules, b_law_watch_rules := b_law_watch_rules, m_law_watch_rules := PySem.W.mg_of X G a_law_watch_rules,
    f_law_watch_states := f_law_watch_states, d_law_watch_states := _, F_law_watch_states := F_law_watch_states, b_law_watch_states := b_law_watch_states, m_law_watch_states := PySem.W.mg_of X G a_law_watch_states,
    f_law_tuples := f_law_tuples, d_law_tuples := _, F_law_tuples := F_law_tuples, b_law_tuples := b_law_tuples, m_law_tuples := PySem.W.mg_of X G a_law_tuples,
    f_law := fa, d_law := _, F_law := F_law, b_law := b_law, m_law := hfa,
    m_int := PySem.W.mg_none_of X G z_int,
    m_str := PySem.W.mg_none_of X G z_str,
    m_bool := PySem.W.mg_none_of X G z_bool,
    m_range := PySem.W.mg_none_of X G z_range,
    m_len := PySem.W.mg_none_of X G z_len,
    m_isinstance := PySem.W.mg_none_of X G z_isinstance,
    m_all := PySem.W.mg_none_of X G z_all,
    m_list := PySem.W.mg_none_of X G z_list,
    m_tuple := PySem.W.mg_none_of X G z_tuple,
    m_enumerate := PySem.W.mg_none_of X G z_enumerate,
    a_GROUPS := a_GROUPS, m_GROUPS := PySem.W.mg_of X G x_GROUPS, e_GROUPS := _, n_GROUPS := _, kd_GROUPS := ⟨lk_GROUPS, ky_GROUPS, lo_GROUPS⟩, y_GROUPS := y_GROUPS, z_GROUPS := z_GROUPS,
    a_PLACES := a_PLACES, q_PLACES := fun H => .inr ⟨_, _, _, lk_PLACES, rfl, rfl, (by show 11 ≤ sizeLine; decide), (.cons ⟨_, rfl⟩ (.cons ⟨_, rfl⟩ (.cons ⟨_, rfl⟩ (.cons ⟨_, rfl⟩ (.cons ⟨_, rfl⟩ (.cons ⟨_, rfl⟩ (.cons ⟨_, rfl⟩ (.cons ⟨_, rfl⟩ (.cons ⟨_, rfl⟩ (.cons ⟨_, rfl⟩ (.cons ⟨_, rfl⟩ .nil)))))))))))⟩, o_PLACES := ⟨_, lk_PLACES, rfl, rfl⟩, m_PLACES := PySem.W.mg_of X G x_PLACES,
    ck_Watch := xck_Watch,
    cg_Watch := xcg_Watch,
    ct_Watch := xct_Watch,
    co_Watch := xco_Watch,
    cn_Watch := xcn_Watch,
    nf_Watch := xnf_Watch,
    n1_Watch := xn1_Watch,
    c1_Watch := xc1_Watch,
    C_BadWatch := C_BadWatch, i_BadWatch := i_BadWatch, er_BadWatch := er_BadWatch, fn_BadWatch := fn_BadWatch, xf_BadWatch := ⟨xga_BadWatch, xgg_BadWatch, xex_BadWatch, xhd_BadWatch⟩, te_BadWatch := xte_BadWatch,
    ne_BadWatch_UnknownState := xne_BadWatch_UnknownState,
    C_UnknownState := C_UnknownState, i_UnknownState := i_UnknownState, er_UnknownState := er_UnknownState, fn_UnknownState := fn_UnknownState, xf_UnknownState := ⟨xga_UnknownState, xgg_UnknownState, xex_UnknownState, xhd_UnknownState⟩, te_UnknownState := xte_UnknownState,
    ne_UnknownState_BadWatch := xne_UnknownState_BadWatch }
  exact ⟨PySem.W.fnOf "law" "law" (defArgs s_law) (defBody s_law) (defScope s_law) .none kV_law dc_law pm_law an_law cd_law ct_law, fun s v => .of_eq rfl, fun base _ _ => ok_law T⟩
theorem walk {l : PySem.W.OpenLaw} {q : Program} {loose : List Str} {XP : (Str → Option Value) → Heap → Prop} {YP : World → Heap → Prop} {d : DefRec} {K : Params → PySem.W.Frag} (hn : l.most = some 63) (hdf : d.params.defaults = [])
    (hY : ∀ (w : World) (h : Heap), YP w h → (K w.params).In h)
    (F : ∀ (w : World) (mg : Str → Option Value) (fa : Addr) (h : Heap), (K w.params).In h → h.Ns mainGlobals mg → mg d.name = some (.ref fa) →
      ∃ fd : FuncData, (∀ (s : Shared) (u : Value), BindsTo s fd ⟨[u], []⟩ [("_law_script", u)]) ∧ ∀ base : Heap, (K w.params).In base → base.Ns mainGlobals mg → FnOk l.prog w (K w.params) mg base CX0 9 fa fd ["_law_script"] (spLaw (K w.params))) :
    PySem.W.WalkO q loose XP YP l.row.toRowW d [] (fun f vs => PySem.call f vs) :=
  L2.walk_of (n := 63) (k := 9) (x := "_law_script") (CX := fun _ => CX0) (sp := fun w => spLaw (K w.params)) hn (by decide) hdf ⟨rfl, by decide, by decide⟩ hY F (fun _ _ a ns hl _ hS => ⟨a, ns, rfl, hS, hl, fun _ => rfl⟩) fun _ _ _ _ _ z => z
end Toy
open PySem PySem.W PyProof.Rows
set_option maxRecDepth 100000 in
set_option maxHeartbeats 0 in
theorem PySem.Challenge.cw_nearloops_k63_watches_told_holds : PySem.Challenge.rw_nearloops_k63_watches_told.Holds := by
  w_on; o_law; k_head; (case hw => w_witness2)
  k_fill
  refine Toy.walk (l := PySem.Challenge.rw_nearloops_k63_watches_told) rfl rfl (fun w h Y => PySem.W.kIn_of Y) ?F
  case F =>
    intro w mg fa h KX G hmg
    refine' Toy.all_mk KX G hmg ?x_PLACES ?lk_PLACES ?x_GROUPS ?lk_GROUPS ?ky_GROUPS ?lo_GROUPS ?lg_GROUPS_0 ?lg_GROUPS_1 ?lg_GROUPS_2 ?lg_GROUPS_3 ?lg_GROUPS_4 ?lg_GROUPS_5 ?lg_GROUPS_6 ?lg_GROUPS_7 ?lg_GROUPS_8 ?g_LETTERS ?g_MOST_RULES ?g_MOST_STATES ?g_ANY_WORD ?cg_Watch ?cpg_Watch ?chd_Watch ?cpo_Watch ?csa_Watch ?cmk_Watch ?ckc_Watch ?cn_Watch_rules ?cn_Watch_states ?cn_Watch_alarms ?a_Watch__init ?i_Watch__init ?l_Watch__init ?c_Watch__init ?k_Watch__init ?pa_Watch_rules ?pg_Watch_rules ?pt_Watch_rules ?pc_Watch_rules ?l_Watch_rules ?c_Watch_rules ?k_Watch_rules ?pa_Watch_states ?pg_Watch_states ?pt_Watch_states ?pc_Watch_states ?l_Watch_states ?c_Watch_states ?k_Watch_states ?pa_Watch_start ?pg_Watch_start ?pt_Watch_start ?pc_Watch_start ?l_Watch_start ?c_Watch_start ?k_Watch_start ?pa_Watch_alarms ?pg_Watch_alarms ?pt_Watch_alarms ?pc_Watch_alarms ?l_Watch_alarms ?c_Watch_alarms ?k_Watch_alarms ?a_Watch__eq ?i_Watch__eq ?l_Watch__eq ?c_Watch__eq ?k_Watch__eq ?a_is_name ?l_is_name ?c_is_name ?k_is_name ?a_is_group ?l_is_group ?c_is_group ?k_is_group ?a_are_groups ?l_are_groups ?c_are_groups ?k_are_groups ?a_are_words ?l_are_words ?c_are_words ?k_are_words ?a_is_rule ?l_is_rule ?c_is_rule ?k_is_rule ?a_checked_rules ?l_checked_rules ?c_checked_rules ?k_checked_rules ?a_checked_alarms ?l_checked_alarms ?c_checked_alarms ?k_checked_alarms ?a_law_source ?l_law_source ?c_law_source ?k_law_source ?a_law_draw ?l_law_draw ?c_law_draw ?k_law_draw ?a_law_pick ?l_law_pick ?c_law_pick ?k_law_pick ?a_law_order ?l_law_order ?c_law_order ?k_law_order ?a_law_subset ?l_law_subset ?c_law_subset ?k_law_subset ?a_law_name ?l_law_name ?c_law_name ?k_law_name ?a_law_names ?l_law_names ?c_law_names ?k_law_names ?a_law_places ?l_law_places ?c_law_places ?k_law_places ?a_law_group_names ?l_law_group_names ?c_law_group_names ?k_law_group_names ?a_law_watch_rules ?l_law_watch_rules ?c_law_watch_rules ?k_law_watch_rules ?a_law_watch_states ?l_law_watch_states ?c_law_watch_states ?k_law_watch_states ?a_law_tuples ?l_law_tuples ?c_law_tuples ?k_law_tuples ?a_law ?l_law ?c_law ?k_law ?z_int ?z_str ?z_bool ?z_range ?z_len ?z_isinstance ?z_all ?z_list ?z_tuple ?z_enumerate ?xg_BadWatch ?xc_BadWatch ?xsa_BadWatch ?xga_BadWatch ?xgg_BadWatch ?xic_BadWatch ?xtc_BadWatch ?xkc_BadWatch ?xex_BadWatch ?xty_BadWatch ?xhd_BadWatch ?xsu_BadWatch ?xsv_BadWatch ?xmr_BadWatch ?xst_BadWatch ?xms_BadWatch ?xht_BadWatch ?xno_BadWatch ?xli_BadWatch ?xci_BadWatch ?xcd_BadWatch ?xv2_BadWatch ?xfi_BadWatch ?xcc_BadWatch ?xte_BadWatch ?xg_UnknownState ?xc_UnknownState ?xsa_UnknownState ?xga_UnknownState ?xgg_UnknownState ?xic_UnknownState ?xtc_UnknownState ?xkc_UnknownState ?xex_UnknownState ?xty_UnknownState ?xhd_UnknownState ?xsu_UnknownState ?xsv_UnknownState ?xmr_UnknownState ?xst_UnknownState ?xms_UnknownState ?xht_UnknownState ?xno_UnknownState ?xli_UnknownState ?xci_UnknownState ?xcd_UnknownState ?xv2_UnknownState ?xfi_UnknownState ?xcc_UnknownState ?xte_UnknownState ?xne_BadWatch_UnknownState ?xne_UnknownState_BadWatch ?xck_Watch ?xcg_Watch ?xct_Watch ?xco_Watch ?xcn_Watch ?xnf_Watch ?xn1_Watch ?xc1_Watch
    (case x_PLACES => k_is)
    (case lk_PLACES => k_is)
    (case x_GROUPS => k_is)
    (case lk_GROUPS => k_is)
    (case ky_GROUPS => k_keys)
    (case lo_GROUPS => rfl)
    (case lg_GROUPS_0 => k_is)
    (case lg_GROUPS_1 => k_is)
    (case lg_GROUPS_2 => k_is)
    (case lg_GROUPS_3 => k_is)
    (case lg_GROUPS_4 => k_is)
    (case lg_GROUPS_5 => k_is)
    (case lg_GROUPS_6 => k_is)
    (case lg_GROUPS_7 => k_is)
    (case lg_GROUPS_8 => k_is)
    (case g_LETTERS => k_is)
    (case g_MOST_RULES => k_is)
    (case g_MOST_STATES => k_is)
    (case g_ANY_WORD => k_is)
    (case cg_Watch => k_is)
    (case cpg_Watch => k_is)
    (case chd_Watch => k_is)
    (case cpo_Watch => k_is)
    (case csa_Watch => k_is)
    (case cmk_Watch => k_is)
    (case ckc_Watch => k_is)
    (case cn_Watch_rules => k_is)
    (case cn_Watch_states => k_is)
    (case cn_Watch_alarms => k_is)
    (case a_Watch__init => k_is)
    (case i_Watch__init => k_is)
    (case l_Watch__init => k_is)
    (case c_Watch__init => k_is)
    (case k_Watch__init => k_is)
    (case pa_Watch_rules => k_is)
    (case pg_Watch_rules => k_is)
    (case pt_Watch_rules => k_is)
    (case pc_Watch_rules => k_is)
    (case l_Watch_rules => k_is)
    (case c_Watch_rules => k_is)
    (case k_Watch_rules => k_is)
    (case pa_Watch_states => k_is)
    (case pg_Watch_states => k_is)
    (case pt_Watch_states => k_is)
    (case pc_Watch_states => k_is)
    (case l_Watch_states => k_is)
    (case c_Watch_states => k_is)
    (case k_Watch_states => k_is)
    (case pa_Watch_start => k_is)
    (case pg_Watch_start => k_is)
    (case pt_Watch_start => k_is)
    (case pc_Watch_start => k_is)
    (case l_Watch_start => k_is)
    (case c_Watch_start => k_is)
    (case k_Watch_start => k_is)
    (case pa_Watch_alarms => k_is)
    (case pg_Watch_alarms => k_is)
    (case pt_Watch_alarms => k_is)
    (case pc_Watch_alarms => k_is)
    (case l_Watch_alarms => k_is)
    (case c_Watch_alarms => k_is)
    (case k_Watch_alarms => k_is)
    (case a_Watch__eq => k_is)
    (case i_Watch__eq => k_is)
    (case l_Watch__eq => k_is)
    (case c_Watch__eq => k_is)
    (case k_Watch__eq => k_is)
    (case a_is_name => k_is)
    (case l_is_name => k_is)
    (case c_is_name => k_is)
    (case k_is_name => k_is)
    (case a_is_group => k_is)
    (case l_is_group => k_is)
    (case c_is_group => k_is)
    (case k_is_group => k_is)
    (case a_are_groups => k_is)
    (case l_are_groups => k_is)
    (case c_are_groups => k_is)
    (case k_are_groups => k_is)
    (case a_are_words => k_is)
    (case l_are_words => k_is)
    (case c_are_words => k_is)
    (case k_are_words => k_is)
    (case a_is_rule => k_is)
    (case l_is_rule => k_is)
    (case c_is_rule => k_is)
    (case k_is_rule => k_is)
    (case a_checked_rules => k_is)
    (case l_checked_rules => k_is)
    (case c_checked_rules => k_is)
    (case k_checked_rules => k_is)
    (case a_checked_alarms => k_is)
    (case l_checked_alarms => k_is)
    (case c_checked_alarms => k_is)
    (case k_checked_alarms => k_is)
    (case a_law_source => k_is)
    (case l_law_source => k_is)
    (case c_law_source => k_is)
    (case k_law_source => k_is)
    (case a_law_draw => k_is)
    (case l_law_draw => k_is)
    (case c_law_draw => k_is)
    (case k_law_draw => k_is)
    (case a_law_pick => k_is)
    (case l_law_pick => k_is)
    (case c_law_pick => k_is)
    (case k_law_pick => k_is)
    (case a_law_order => k_is)
    (case l_law_order => k_is)
    (case c_law_order => k_is)
    (case k_law_order => k_is)
    (case a_law_subset => k_is)
    (case l_law_subset => k_is)
    (case c_law_subset => k_is)
    (case k_law_subset => k_is)
    (case a_law_name => k_is)
    (case l_law_name => k_is)
    (case c_law_name => k_is)
    (case k_law_name => k_is)
    (case a_law_names => k_is)
    (case l_law_names => k_is)
    (case c_law_names => k_is)
    (case k_law_names => k_is)
    (case a_law_places => k_is)
    (case l_law_places => k_is)
    (case c_law_places => k_is)
    (case k_law_places => k_is)
    (case a_law_group_names => k_is)
    (case l_law_group_names => k_is)
    (case c_law_group_names => k_is)
    (case k_law_group_names => k_is)
    (case a_law_watch_rules => k_is)
    (case l_law_watch_rules => k_is)
    (case c_law_watch_rules => k_is)
    (case k_law_watch_rules => k_is)
    (case a_law_watch_states => k_is)
    (case l_law_watch_states => k_is)
    (case c_law_watch_states => k_is)
    (case k_law_watch_states => k_is)
    (case a_law_tuples => k_is)
    (case l_law_tuples => k_is)
    (case c_law_tuples => k_is)
    (case k_law_tuples => k_is)
    (case a_law => k_is)
    (case l_law => k_is)
    (case c_law => k_is)
    (case k_law => k_is)
    (case z_int => k_is)
    (case z_str => k_is)
    (case z_bool => k_is)
    (case z_range => k_is)
    (case z_len => k_is)
    (case z_isinstance => k_is)
    (case z_all => k_is)
    (case z_list => k_is)
    (case z_tuple => k_is)
    (case z_enumerate => k_is)
    (case xg_BadWatch => k_is)
    (case xc_BadWatch => k_is)
    (case xsa_BadWatch => k_is)
    (case xga_BadWatch => k_is)
    (case xgg_BadWatch => k_is)
    (case xic_BadWatch => k_is)
    (case xtc_BadWatch => k_is)
    (case xkc_BadWatch => k_is)
    (case xex_BadWatch => k_is)
    (case xty_BadWatch => k_is)
    (case xhd_BadWatch => k_is)
    (case xsu_BadWatch => first | ks_is | first | rfl | kernel_rfl | decide +kernel)
    (case xsv_BadWatch => k_is)
    (case xmr_BadWatch => k_is)
    (case xst_BadWatch => k_is)
    (case xms_BadWatch => k_is)
    (case xht_BadWatch => first | rfl | kernel_rfl | decide +kernel)
    (case xno_BadWatch => k_is)
    (case xli_BadWatch => k_is)
    (case xci_BadWatch => k_is)
    (case xcd_BadWatch => k_is)
    (case xv2_BadWatch => exact rfl)
    (case xfi_BadWatch => first | rfl | kernel_rfl | decide +kernel)
    (case xcc_BadWatch => k_is)
    (case xte_BadWatch => first | rfl | kernel_rfl | decide +kernel)
    (case xg_UnknownState => k_is)
    (case xc_UnknownState => k_is)
    (case xsa_UnknownState => k_is)
    (case xga_UnknownState => k_is)
    (case xgg_UnknownState => k_is)
    (case xic_UnknownState => k_is)
    (case xtc_UnknownState => k_is)
    (case xkc_UnknownState => k_is)
    (case xex_UnknownState => k_is)
    (case xty_UnknownState => k_is)
    (case xhd_UnknownState => k_is)
    (case xsu_UnknownState => first | ks_is | first | rfl | kernel_rfl | decide +kernel)
    (case xsv_UnknownState => k_is)
    (case xmr_UnknownState => k_is)
    (case xst_UnknownState => k_is)
    (case xms_UnknownState => k_is)
    (case xht_UnknownState => first | rfl | kernel_rfl | decide +kernel)
    (case xno_UnknownState => k_is)
    (case xli_UnknownState => k_is)
    (case xci_UnknownState => k_is)
    (case xcd_UnknownState => k_is)
    (case xv2_UnknownState => exact rfl)
    (case xfi_UnknownState => first | rfl | kernel_rfl | decide +kernel)
    (case xcc_UnknownState => k_is)
    (case xte_UnknownState => first | rfl | kernel_rfl | decide +kernel)
    (case xne_BadWatch_UnknownState => first | rfl | kernel_rfl | decide +kernel)
    (case xne_UnknownState_BadWatch => first | rfl | kernel_rfl | decide +kernel)
    (case xck_Watch => first | k_is | rfl | kernel_rfl | decide +kernel)
    (case xcg_Watch => first | k_is | rfl | kernel_rfl | decide +kernel)
    (case xct_Watch => first | k_is | rfl | kernel_rfl | decide +kernel)
    (case xco_Watch => first | k_is | rfl | kernel_rfl | decide +kernel)
    (case xcn_Watch => first | k_is | rfl | kernel_rfl | decide +kernel)
    (case xnf_Watch => first | k_is | rfl | kernel_rfl | decide +kernel)
    (case xn1_Watch => first | k_is | rfl | kernel_rfl | decide +kernel)
    (case xc1_Watch => first | k_is | rfl | kernel_rfl | decide +kernel)

