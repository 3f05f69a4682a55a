-- %%D%%
import PyProof.Rows.All
import Wide.All
import OpenK.AllK
import Wide.FinOn
import HandS.Base
import HandS.Call
import HandS.List
import HandS.Ends
import HandS.Words
import HandS.WordsList
import HandS.Wide
import HandS.WideBits
import HandS.IsInst
import HandS.Comp
import HandS.Strs
import HandS.Iter
import HandS.Zip
import HandS.Codes
import HandS.More
import HandS.Dict
import HandS.WordsDict
import HandS.Style
import HandS.Text
import HandS.Walk
import HandS.Exc
import HandS.ExcOwn
import HandS.ExcInit
import HandS.ExcSuper
import KE.KExcSuper
import HandS.ExcField
import HandS.WordsExc
import HandS.Lambda
import HandS.EndTab
import HandS.EndOwn
import PyProof.DictUpdate
import HandS.SetKeys
import PyProof.DictMoreH
import KE.GoesEnum
import KE.GoesEnumKw
import HandS.Conv
import KE.KDictSum
import HandS.NoneIn
import HandS.Defaults
import HandS.Property
import HandS.TryMany
import HandS.OwnEq
import HandS.Deep
import PyProof.FactsLen
import KE.KDictZip
import HandS.FStr
import HandS.Star
import KE.KUnpackStar
import PyProof.StrLawsTight
import PyProof.Rows.StrLawsPart
import PyProof.Rows.StrItems
import HandS.TupAny
import HandS.ClsMeth
import PyProof.InstEq
import HandS.DictComp
import HandS.SetFor
import HandS.ClsMeth
import KE.KExcIs
import PySem.Challenge.RW_nearloops_k35_errors_made
set_option Elab.async false
set_option maxRecDepth 100000
set_option maxHeartbeats 4000000

namespace L2
open PySem PySem.Spec PyProof.Rows
section
variable {X : Cx} {pins : List (Addr × Obj)} {σ : St} {H : Hp} {s : Shared} {a b : Addr} {kvs more : List (Key × V)} {A : Around} {E : Value → Shared → Prop}
/-- d.update(d2), two dicts with keys ints and texts -/
theorem d_update {Q : Value → Shared → Prop} (I : Inv X pins σ H s) (e : H a = some (.dK kvs)) (e2 : H b = some (.dK more)) (hne : a ≠ b) (hz : kvs.length + more.length ≤ sizeLine)
    (h : ∀ s', Inv X pins σ (upd H a (.dK (mergeK kvs more))) s' → Q .none s') : wpAny (model X.prog X.w) A (call (.builtin "dict.update") [.ref a, .ref b]) Q E s := by
  obtain ⟨z, hd, vs, rel, dd⟩ := dk_of I.hok e
  obtain ⟨z2, hd2, vs2, rel2, dd2⟩ := dk_of I.hok e2
  refine call_meetsIn PySem.F.slot_dict_update dd.typeIs PySem.F.entry_dict_update (PySem.F.args_dict_update_2 _ _) (meets_dict_update (mixKind X.prog X.w) a b hne hd2)
    ⟨vs, vs2, dd, dd2, by rw [← rel.length, ← rel2.length]; exact hz, fun h' dd' _ hs => h _ ?_⟩
  have he : ∃ q, h'.get? a = some q := let ⟨q, _, _, hq, _⟩ := dd'; ⟨q, hq⟩
  exact d_write I (by rw [e]; exact True.intro) hs he (dk_new (Nat.le_trans (length_mergeK more kvs) hz) hd (rel2.merge rel) dd')
end
def tDUpd (td ty : TE) : TE := fun σ H Q => td σ H fun x H1 => ∃ a, x = .ref a ∧ IsD H1 a ∧ ty σ H1 fun y H2 => ∃ b kvs more, y = .ref b ∧ H2 a = some (.dK kvs) ∧ H2 b = some (.dK more) ∧ a ≠ b ∧ kvs.length + more.length ≤ sizeLine ∧ Q .non (upd H2 a (.dK (mergeK kvs more)))
section
variable {X : Cx} {o e : Expr} {apos cpos : Pos} {td ty : TE}
theorem pe_dupd (ho : PE X o td) (he : PE X e ty) (m : M1 X o "update" apos e cpos) : PE X (.Call (.Attribute o "update" apos) [e] [] cpos) (tDUpd td ty) := by
  refine ⟨fun pins s σ H Q I h => ?_⟩
  refine wpAny_Call_method m.base m.few m.line PySem.F.plainAttrs_dict PySem.F.slot_dict_update PySem.F.type_dict_update (thn (ho.run pins s σ H _ I h) fun u s1 ⟨x, H1, I1, rx, a, ex, d, q1⟩ => ?_)
  subst ex
  obtain rfl : u = Value.ref a := rx
  obtain ⟨t1, t2, _⟩ := isD_at I1 d
  refine ⟨t1, t2, ?_⟩
  rw [m.trees]
  refine Calls.callWith_builtin rfl (Calls.evalArgs_plain (Calls.spliced_cons (thn (he.run pins s1 σ H1 _ I1 q1) fun iv s2 ⟨y, H2, I2, ry, b, kvs, more, ey, ea, eb, hne, hz, q2⟩ => Calls.spliced_nil ?_)))
  subst ey
  obtain rfl : iv = Value.ref b := ry
  exact d_update I2 ea eb hne hz fun s3 I3 => ⟨.non, _, I3, rfl, q2⟩
end
end L2
namespace L2
open PySem PySem.Spec PyProof.Rows
section
variable {X : Cx} {pins : List (Addr × Obj)} {σ : St} {H : Hp} {s : Shared} {a b : Addr} {kvs : List (List Key × V)} {k : List Key} {d : V} {r : Value} {A : Around} {E : Value → Shared → Prop}
/-- d.setdefault((x, y), z), a dict with tuple keys -/
theorem d_setdT {Q : Value → Shared → Prop} (hu : A.units + 1 < cLine) (I : Inv X pins σ H s) (e : H a = some (.dT kvs)) (eb : H b = some (.tup (k.map kV))) (rd : RelV d r) (hl : kvs.length < sizeLine)
    (h1 : ∀ v, valV kvs k = some v → ∀ (w' : Value) (s' : Shared), Inv X pins σ H s' → RelV v w' → Q w' s') (h2 : valV kvs k = none → ∀ (w' : Value) (s' : Shared), Inv X pins σ (upd H a (.dT (putK kvs k d))) s' → RelV d w' → Q w' s') :
    wpAny (model X.prog X.w) A (call (.builtin "dict.setdefault") [.ref a, .ref b, r]) Q E s := by
  obtain ⟨z, hd, xs, rel, dd⟩ := dt_of I.hok e
  have hz : xs.length ≤ sizeLine := by rw [← Paired.length rel]; exact z
  refine call_setdefault_heap (hsz := hz) (tupleKind_room_in1 hu) (key_of I.hok eb) hd dd (fun p hp => ?_) fun hn h' dd' hs => ?_
  · have q := rel.val k
    rw [hp] at q
    cases q0 : valV kvs k with
    | none =>
      rw [q0] at q
      exact (show False from q).elim
    | some v0 =>
      rw [q0] at q
      exact h1 v0 q0 _ _ (I.tok _) q
  · have q := rel.val k
    rw [hn] at q
    cases q0 : valV kvs k with
    | some v0 =>
      rw [q0] at q
      exact (show False from q).elim
    | none =>
      have hl2 : (putK kvs k d).length ≤ sizeLine := by have := length_putK kvs k d; omega
      obtain ⟨q, es, ep, hq, g2, g3, g4, _, g5⟩ := dd'
      refine h2 q0 _ _ (d_write I (by rw [e]; exact True.intro) hs ⟨q, hq⟩ ⟨hl2, hd, _, (rel.put k eb rd).keeps fun c ys ec => ?_, q, es, ep, hq, g2, g3, g4, g5⟩) rd
      rw [upd_ne (ne_of ec e (fun z => nomatch z))]
      exact ec
end
def tDSetdT (td ty tx : TE) : TE := fun σ H Q => td σ H fun x H1 => ∃ a, x = .ref a ∧ IsD H1 a ∧ ty σ H1 fun y H2 => tx σ H2 fun z H3 => ∃ (kvs : List (List Key × V)) (k : List Key) (b : Addr), H3 a = some (.dT kvs) ∧ y = .ref b ∧ H3 b = some (.tup (k.map kV)) ∧ kvs.length < sizeLine ∧
  (∀ v, valV kvs k = some v → Q v H3) ∧ (valV kvs k = none → Q z (upd H3 a (.dT (putK kvs k z))))
section
variable {X : Cx} {o e f : Expr} {td ty tx : TE} {apos cpos : Pos}
theorem pe_dsetdT (hu : X.A.units + 1 < cLine) (ho : PE X o td) (he : PE X e ty) (hf : PE X f tx) (m : M2 X o "setdefault" apos e f cpos) : PE X (.Call (.Attribute o "setdefault" apos) [e, f] [] cpos) (tDSetdT td ty tx) := by
  refine ⟨fun pins s σ H Q I h => ?_⟩
  refine wpAny_Call_method m.base m.few m.line PySem.F.plainAttrs_dict PySem.F.slot_dict_setdefault PySem.F.type_dict_setdefault (thn (ho.run pins s σ H _ I h) fun u s1 ⟨x, H1, I1, rx, a, ex, d, q1⟩ => ?_)
  subst ex
  obtain rfl : u = Value.ref a := rx
  obtain ⟨t1, t2, _⟩ := isD_at I1 d
  refine ⟨t1, t2, ?_⟩
  rw [m.trees]
  refine Calls.callWith_builtin rfl (Calls.evalArgs_plain (Calls.spliced_cons (thn (he.run pins s1 σ H1 _ I1 q1) fun iv s2 ⟨y, H2, I2, ry, q2⟩ =>
    Calls.spliced_cons (thn (hf.run pins s2 σ H2 _ I2 q2) fun fv s3 ⟨z, H3, I3, rz, kvs, k, b, ea, ey, eb, hl, q3, q4⟩ => Calls.spliced_nil ?_))))
  subst ey
  obtain rfl : iv = Value.ref b := ry
  exact d_setdT hu I3 ea eb rz hl (fun v hv w' s4 I4 rw' => ⟨v, _, I4, rw', q3 v hv⟩) fun hn w' s4 I4 rw' => ⟨z, _, I4, rw', q4 hn⟩
end
end L2
namespace L2
open PySem PySem.Spec PyProof.Rows
/-! ### enumerate(list or tuple), enumerate(list or tuple, start=k) -/
/-- a list (b = true) or a tuple of xs is to be read at a -/
def SqB (K : PySem.W.Frag) (b : Bool) (H : Hp) (a : Addr) (xs : List V) : Prop := match b with
  | true => SqL K H a xs
  | false => SqT K H a xs
def IsB (b : Bool) (h : Heap) (a : Addr) (its : Array Value) : Prop := match b with
  | true => h.IsList a its
  | false => h.IsTuple a its
def ItB (b : Bool) (h : Heap) (it a : Addr) (i : Nat) : Prop := match b with
  | true => h.IsListIter it a i
  | false => h.IsTupleIter it a i
theorem ItB.ob {b : Bool} {h : Heap} {it a : Addr} {i : Nat} (st : ItB b h it a i) : ∃ o, h.get? it = some o ∧ ∀ v, o.data ≠ .cell v := by
  cases b with
  | true =>
    obtain ⟨o, ho, hc, hd⟩ := st
    exact ⟨o, ho, fun v q => by rw [hd] at q; cases q⟩
  | false =>
    obtain ⟨o, ho, hc, hd⟩ := st
    exact ⟨o, ho, fun v q => by rw [hd] at q; cases q⟩
theorem ItB.at {b : Bool} {h h' : Heap} {it a : Addr} {i : Nat} (st : ItB b h it a i) (k : ∀ o, h.get? it = some o → h'.get? it = some o) : ItB b h' it a i := by
  cases b with
  | true => exact Heap.IsListIter.at st k
  | false => exact Heap.IsTupleIter.at st k
theorem drawsB {prog : Program} {w : World} {A : Around} (b : Bool) (hh : A.handled = none) (it l : Addr) (hne : l ≠ it) (items : Array Value) :
    Draws prog w A it [it, l] items.size (fun i v => items[i]? = some v) (fun i h => ItB b h it l i ∧ IsB b h l items) := by
  cases b with
  | true => exact Draws.list hh it l hne items
  | false => exact Draws.tuple hh it l hne items
/-- at the end -/
theorem drawsEnd {prog : Program} {w : World} {A : Around} (b : Bool) (hh : A.handled = none) (it l : Addr) (items : Array Value) {i : Nat} (hn : items[i]? = none) :
    Draws prog w A it [it, l] i (fun _ _ => True) (fun j h => j = i ∧ ItB b h it l i ∧ IsB b h l items) where
  live := fun _ _ st => let ⟨o, ho, _⟩ := st.2.1.ob; ⟨o, ho⟩
  frame := fun _ h h' st hk => ⟨st.1, st.2.1.at fun o e => hk it (by simp) o e, by
    obtain ⟨_, _, p⟩ := st
    cases b with
    | true => exact Heap.IsList.at p fun o e => hk l (by simp) o e
    | false => exact Heap.IsTuple.at p fun o e => hk l (by simp) o e⟩
  item := fun j s Q E hj st hQ => absurd st.1 (Nat.ne_of_lt hj)
  done := fun s Q E st hE => by
    obtain ⟨_, hit, p⟩ := st
    cases b with
    | true => exact wpAny_nextOf_list_end hh hit p hn hE
    | false => exact wpAny_nextOf_tuple_end hh hit p hn hE
section
variable {X : Cx} {pins : List (Addr × Obj)} {σ : St} {H : Hp} {s : Shared} {a : Addr} {xs ys : List V} {b : Bool}
theorem Inv.seqB (I : Inv X pins σ H s) (h : SqB X.K b H a xs) : ∃ its : List Value, Vals xs its ∧ IsB b s.heap a its.toArray := by
  cases b with
  | true =>
    obtain ⟨its, r, p, _⟩ := I.list h
    exact ⟨its, r, p.isList⟩
  | false =>
    obtain ⟨its, r, p, _⟩ := I.tuple h
    exact ⟨its, r, p⟩
theorem Inv.seqB_inj (I : Inv X pins σ H s) (h : SqB X.K b H a xs) (h' : SqB X.K b H a ys) : xs = ys := by
  cases b with
  | true => exact I.list_inj h h'
  | false => exact I.tuple_inj h h'
theorem IsB.ne {h : Heap} {its : Array Value} {it l a : Addr} {i : Nat} (st : IsB b h a its) (t : ItB b h it l i) : a ≠ it := fun e => by
  subst e
  cases b with
  | true =>
    obtain ⟨o, ho, hc, n, hd⟩ := st
    obtain ⟨o', ho', hc', hd'⟩ := t
    rw [ho] at ho'
    cases ho'
    rw [hd] at hd'
    cases hd'
  | false =>
    obtain ⟨o, ho, hc, n, hd⟩ := st
    obtain ⟨o', ho', hc', hd'⟩ := t
    rw [ho] at ho'
    cases ho'
    rw [hd] at hd'
    cases hd'
theorem IsB.begins {h : Heap} {its : Array Value} (st : IsB b h a its) : ∃ o, Begins (.ref a) o (fun h => IsB b h a its) ∧ ∀ (h' : Heap) (it : Addr), h'.get? it = some o → ItB b h' it a 0 := by
  cases b with
  | true => exact ⟨_, begins_list a its, fun h' it e => ⟨_, e, rfl, rfl⟩⟩
  | false => exact ⟨_, begins_tuple a its, fun h' it e => ⟨_, e, rfl, rfl⟩⟩
end
def IteB (K : PySem.W.Frag) (b : Bool) (a : Addr) (c : Int) : It :=
  ⟨fun i H => ∃ (xs : List V) (x : V), SqB K b H a xs ∧ xs[i]? = some x, fun i H v H' => ∃ T x, v = .ref T ∧ H T = none ∧ H' = upd H T (.tup [.int (c + (i : Nat)), x]) ∧ ∀ xs, SqB K b H a xs → xs[i]? = some x, fun i H => ∃ xs : List V, SqB K b H a xs ∧ xs.length ≤ i⟩
theorem turn_enumB {P : Program} {w : World} {K : PySem.W.Frag} {elts : List Expr} {kk : Nat} {tpos : Pos} (b : Bool) (a e it : Addr) (c : Int) :
    Turn P w K (.Tuple elts kk tpos) (IteB K b a c) [e, it] e (fun i h => (∃ old, IsEnum h e it (c + (i : Nat)) old) ∧ ItB b h it a i ∧ e ≠ it) where
  mem := by simp
  obj := fun i h st d hd => by
    obtain ⟨⟨old, he⟩, hi, _⟩ := st
    have e' : d = e ∨ d = it := by simpa using hd
    rcases e' with z | z
    · rw [z]; exact ⟨_, he, fun v q => nomatch q⟩
    · rw [z]; exact hi.ob
  keep := fun i h h' st k => let ⟨⟨old, he⟩, hi, hne⟩ := st; ⟨⟨old, k e (by simp) _ he⟩, hi.at fun o q => k it (by simp) o q, hne⟩
  item := by
    intro X hP hw hK hc i pins s σ H E I hf st hg
    subst hP hw hK
    obtain ⟨⟨old, he⟩, hit, hne⟩ := st
    obtain ⟨xs, x, hq, hx⟩ := hg
    obtain ⟨its, rv, p⟩ := I.seqB hq
    obtain ⟨u, hu, ru⟩ := rv.get hx
    have hel : e < s.heap.objs.size := Heap.lt_size he
    have hil : it < s.heap.objs.size := by obtain ⟨_, q, _⟩ := hit.ob; exact Heap.lt_size q
    have hai := p.ne hit
    have hae : e ∉ [it, a] := fun q => by
      rcases List.mem_cons.mp q with z | z
      · exact hne z
      · have z := List.mem_singleton.mp z
        subst z
        cases b with
        | true =>
          obtain ⟨o, ho, hc, n, hd⟩ := p
          have q := ho.symm.trans he
          cases q
          cases hd
        | false =>
          obtain ⟨o, ho, hc, n, hd⟩ := p
          have q := ho.symm.trans he
          cases q
          cases hd
    have hlt : i < its.toArray.size := by
      rw [List.size_toArray]
      exact (List.getElem?_eq_some_iff.mp hu).1
    refine wpAny_pyNext_enum_itemC (drawsB (A := X.A.in1) b (I.ok.hd hc) it a hai its.toArray) he ⟨hit, p⟩ hlt hne hae fun y h' tk hy ho hst' hT hsz hk => ?_
    have ey : y = u := by
      have hy' : its[i]? = some y := by simpa using hy
      rw [hu] at hy'
      exact (Option.some.inj hy').symm
    subst ey
    refine ⟨_, rfl, wpAny_letOwnedTupleGo_enum (s := { s with heap := h', toks := tk + 1 }) ho fun h'' he' sb => ?_⟩
    have hT2 : h''.get? s.heap.objs.size = some { cls := .type "tuple", data := .seq #[.int (c + (i : Nat)) tk, y] } := (sb.2 _ (Nat.ne_of_gt hel)).trans hT
    have new : ObjOk X.prog X.w (upd H s.heap.objs.size (.tup [.int (c + (i : Nat)), x])) h'' s.heap.objs.size (.tup [.int (c + (i : Nat)), x]) :=
      ⟨by show 2 ≤ sizeLine; decide, [.int (c + (i : Nat)) tk, y], .cons ⟨_, rfl⟩ (.cons ru .nil), ⟨_, hT2, rfl, _, rfl⟩⟩
    have I1 : Inv X pins σ (upd H s.heap.objs.size (.tup [.int (c + (i : Nat)), x])) { s with heap := h'', toks := tk + 1 } :=
      I.turnedNew (ch := [e, it]) (fun b ob hb q => (sb.2 b (fun z => hb (by simp [z]))).trans (hk b ob (fun z => hb (by simp [z])) (fun z => hb (by simp [z])) q)) hf (Nat.le_refl _) new
    refine ⟨.ref s.heap.objs.size, _, I1, rfl, ⟨_, x, rfl, I.hok.fresh (Nat.le_refl _), rfl, fun ys hy => by rw [I.seqB_inj hy hq]; exact hx⟩, ⟨⟨y, ?_⟩, hst'.1.at fun o q => (sb.2 it (Ne.symm hne)).trans q, hne⟩, fun b hb => ?_⟩
    · have e1 : c + ((i + 1 : Nat) : Int) = c + (i : Nat) + 1 := by omega
      rw [e1]; exact he'
    · have hb' : b < s.heap.objs.size := by
        have e' : b = e ∨ b = it := by simpa using hb
        rcases e' with z | z
        · rw [z]; exact hel
        · rw [z]; exact hil
      rw [upd_ne (Nat.ne_of_lt hb')]
      exact (hf b hb).1
  done := by
    intro X hP hw hK hc i pins s σ H E I hf st hg
    subst hP hw hK
    obtain ⟨⟨old, he⟩, hit, hne⟩ := st
    obtain ⟨xs, hq, hx⟩ := hg
    obtain ⟨its, rv, p⟩ := I.seqB hq
    obtain ⟨f0, f1, f2, f3, f4, f5⟩ := hf it (by simp)
    have hl := rv.length
    have hn : its.toArray[i]? = none := by simp; omega
    exact wpAny_pyNext_enum_endD (drawsEnd (A := X.A.in1) b (I.ok.hd hc) it a its.toArray hn) he ⟨rfl, hit, p⟩ fun h' eb => ⟨rfl, I.turned (t' := s.toks) (fun b o hb q => eb b o hb q) f0 f1 f3 f4 f5⟩
  self := fun A i s Q E st h => let ⟨⟨_, he⟩, _⟩ := st; wpAny_pyIter_enum he h
section
open PySem.Sem
set_option maxHeartbeats 4000000 in
theorem enum_new1 {v : Value} {o : Obj} {G : Heap → Prop} (B : Begins v o G) :
    Meets (Builtin.«enumerate.__new__» ⟨[.type "enumerate", v], []⟩) (fun _ R s => G s.heap ∧
      R (.ok (.ret (.ref (s.heap.push o).objs.size))) { s with heap := (s.heap.push o).push { cls := .type "enumerate", data := .fields #[.none, .bool false, .ref s.heap.objs.size, rawInt 0, .none, .none] } }) :=
  .of_wp fun prog w A R s h => by
    obtain ⟨hp, g, d, tk, os⟩ := s
    obtain ⟨h1, h⟩ := h
    have hsub := sub_enumerate
    have walkIt : ∀ {A' : Around} {E : Value → Shared → Prop} {Q : Value → Shared → Prop}, Q (.ref hp.objs.size) ⟨hp.push o, g, d, tk, os⟩ → wpAny (model prog w) A' (pyIter v) Q E ⟨hp, g, d, tk, os⟩ :=
      fun q => B.iter prog w _ _ ⟨hp, g, d, tk, os⟩ _ h1 q
    wp_walk using walkIt
    refine wpAny_stack_any fun st => wpAny_pure ?_
    split
    · rename_i c _ _ _ _ _
      cases (c == Value.type "enumerate")
      all_goals
        wp_walk using walkIt
        exact ⟨_, rfl, h⟩
    · wp_walk using walkIt
      exact ⟨_, rfl, h⟩
theorem enum_begins0 {prog : Program} {w : World} {A : Around} {E : Value → Shared → Prop} {s : Shared} {v : Value} {o : Obj} {G : Heap → Prop} {Q : Value → Shared → Prop} (B : Begins v o G) (h1 : G s.heap)
    (h : ∀ h', IsEnum h' (s.heap.objs.size + 1) s.heap.objs.size 0 .none → h'.get? s.heap.objs.size = some o → h'.objs.size = s.heap.objs.size + 2 →
      (∀ b o, s.heap.get? b = some o → h'.get? b = some o) → Q (.ref (s.heap.objs.size + 1)) { s with heap := h' }) :
    wpAny (model prog w) A (call (.type "enumerate") [v]) Q E s := by
  refine callType_new F.called_enumerate (by decide) (F.typeCall_enumerate_1 _) (F.newCall_enumerate_1 _) (fun obj => F.args_object_init_2 obj _) F.entry_enumerate_new (enum_new1 B) ⟨h1, ?_⟩
  have hz : (s.heap.push o).objs.size = s.heap.objs.size + 1 := Heap.size_push ..
  show _ ∧ _
  rw [hz]
  have he : IsEnum ((s.heap.push o).push { cls := .type "enumerate", data := .fields #[.none, .bool false, .ref s.heap.objs.size, rawInt 0, .none, .none] }) (s.heap.objs.size + 1) s.heap.objs.size 0 .none := by
    have q := Heap.get?_push_size (s.heap.push o) (o := { cls := .type "enumerate", data := .fields #[.none, .bool false, .ref s.heap.objs.size, rawInt 0, .none, .none] }) rfl
    rw [hz] at q
    exact q
  exact ⟨⟨_, he, rfl⟩, h _ he (Heap.get?_push_of_some _ (Heap.get?_push_size _ B.free)) (by rw [Heap.size_push, hz]) fun b o x => Heap.get?_push_of_some _ (Heap.get?_push_of_some _ x)⟩
end
/-- enumerate(e) -/
def iEnumB (K : PySem.W.Frag) (ta : TA) : TI := fun σ H R => ta σ H fun vs H1 => ∃ b a xs, vs = [.ref a] ∧ SqB K b H1 a xs ∧ R (IteB K b a 0) H1
/-- enumerate(e, start=k) -/
def iEnumS (K : PySem.W.Frag) (ta tk : TA) : TI := fun σ H R => ta σ H fun vs H1 => tk σ H1 fun zs H2 => ∃ b a xs k, vs = [.ref a] ∧ zs = [.int k] ∧ -(2 ^ 63) ≤ k ∧ k < 2 ^ 63 ∧ SqB K b H2 a xs ∧ R (IteB K b a k) H2
section
variable {X : Cx} {e : Expr} {kws : List Keyword} {ta tk : TA} {p pos tpos : Pos} {elts : List Expr} {kk : Nat}
theorem enum_come {pins : List (Addr × Obj)} {σ : St} {H : Hp} {s : Shared} {R : It → Hp → Prop} {b : Bool} {a : Addr} {k : Int} {h' : Heap} {o : Obj} (I : Inv X pins σ H s) (he : IsEnum h' (s.heap.objs.size + 1) s.heap.objs.size k .none) (hit : ItB b h' s.heap.objs.size a 0)
    (hk : ∀ b o, s.heap.get? b = some o → h'.get? b = some o) (q : R (IteB X.K b a k) H) : PIE X pins σ (.Tuple elts kk tpos) R (.ref (s.heap.objs.size + 1)) { s with heap := h' } := by
  have I2 : Inv X pins σ H { s with heap := h' } := I.kept (t' := s.toks) hk
  refine ⟨s.heap.objs.size + 1, [s.heap.objs.size + 1, s.heap.objs.size], _, _, H, rfl, I2, turn_enumB b a (s.heap.objs.size + 1) s.heap.objs.size k, ⟨⟨.none, by simpa using he⟩, hit, Nat.succ_ne_self _⟩, fun c hc => ?_, q⟩
  have e' : c = s.heap.objs.size + 1 ∨ c = s.heap.objs.size := by simpa using hc
  have hle : s.heap.objs.size ≤ c := by
    rcases e' with z | z
    · rw [z]; exact Nat.le_add_right _ _
    · rw [z]; exact Nat.le_refl _
  exact I.fpOk hle (I.hok.fresh hle)
theorem pi_enumB (hg : Gl X "enumerate") (hm : X.mg "enumerate" = none) (ha : PA X [e] ta) (hs : starEach [e] X.env = [(false, eval e X.env)] := by rfl) :
    PI X (.Tuple elts kk tpos) (.Call (.Name "enumerate" p) [e] [] pos) (iEnumB X.K ta) := by
  refine ⟨fun pins s σ H R I h => ?_⟩
  refine Call_ (ld_blt I hg hm boot_enumerate (PyProof.Rows.callWith_type1 (thn (ha.run pos pins s σ H _ I h) fun us s1 ⟨vs, H1, I1, r1, q1⟩ => ?_) hs rfl))
  obtain ⟨b, a, xs, ex, hq, q⟩ := q1
  rw [ex] at r1
  rw [Vals.ref1 r1]
  obtain ⟨its, rv, p'⟩ := I1.seqB hq
  obtain ⟨o, B, hB⟩ := p'.begins
  refine enum_begins0 B p' fun h' he ho hsz hk => wpAny_pyIter_enum he ?_
  exact enum_come (o := o) I1 he (hB h' _ ho) hk q
theorem callWith_typeKw {M : Model} {env : Env} {A : Around} {E : Value → Shared → Prop} {s : Shared} {pos : Pos} {T : String} {e : Expr} {rest : List Expr} {kws : List Keyword} {Q : Value → Shared → Prop}
    (h : wpAny M A (spliced (backTo pos (starEach (e :: rest) env))) (fun vs s₁ => wpAny M A (evalAll ((backToKw pos (keywordEach kws env)).map (·.2)))
      (fun kvs s₂ => wpAny M A (call (.type T) vs (((backToKw pos (keywordEach kws env)).filterMap (·.1)).zip kvs)) Q E s₂) E s₁) E s)
    (he : backTo pos (starEach (e :: rest) env) = (false, eval e env) :: backTo pos (starEach rest env)) (hplain : (backTo pos (starEach (e :: rest) env)).any (·.1) = false)
    (hall : (backToKw pos (keywordEach kws env)).all (·.1.isSome) = true) (hkw : (backToKw pos (keywordEach kws env)).any (·.1.isNone) = false) :
    wpAny M A (callWith pos (.type T) [] (backTo pos (starEach (e :: rest) env)) (backToKw pos (keywordEach kws env))) Q E s := by
  have h2 : wpAny M A (evalArgs (.type T) true (backTo pos (starEach (e :: rest) env)) (backToKw pos (keywordEach kws env))) (fun a s₁ => wpAny M A (call (.type T) ([] ++ a.pos) a.kw) Q E s₁) E s := by
    rw [he] at h ⊢
    exact evalArgs_kwB hall h
  unfold callWith
  refine wpAny_bind (wpAny_holding (wpAny_mono h2 (fun a s₁ h₁ => wpAny_bind (wpAny_standAt ?_)) fun _ _ x => x))
  simp only [hplain, hkw, Bool.or_false]
  refine wpAny_bind (wpAny_pure ?_)
  exact wpAny_bind (wpAny_mono h₁ (fun r s₂ hr => wpAny_bind (wpAny_holding (wpAny_point (wpAny_pure hr)))) fun _ _ x => x)
theorem pi_enumS (hg : Gl X "enumerate") (hm : X.mg "enumerate" = none) (ha : PA X [e] ta) (hk : PK X kws tk) (he : backTo pos (starEach [e] X.env) = (false, eval e X.env) :: backTo pos (starEach [] X.env) := by rfl) (hpl : (backTo pos (starEach [e] X.env)).any (·.1) = false := by rfl)
    (hall : (backToKw pos (keywordEach kws X.env)).all (·.1.isSome) = true := by rfl) (hnone : (backToKw pos (keywordEach kws X.env)).any (·.1.isNone) = false := by rfl) (hks : (backToKw pos (keywordEach kws X.env)).filterMap (·.1) = [Str.ofString "start"] := by rfl) :
    PI X (.Tuple elts kk tpos) (.Call (.Name "enumerate" p) [e] kws pos) (iEnumS X.K ta tk) := by
  refine ⟨fun pins s σ H R I h => ?_⟩
  refine wpAny_Call_Name_kw (ld_blt I hg hm boot_enumerate ?_)
  refine callWith_typeKw (thn (ha.run pos pins s σ H _ I h) fun us s1 ⟨vs, H1, I1, r1, q1⟩ => thn (hk.run pos pins s1 σ H1 _ I1 q1) fun ws s2 ⟨zs, H2, I2, r2, q2⟩ => ?_) he hpl hall hnone
  obtain ⟨b, a, xs, k, ex, ez, k0, k1, hq, q⟩ := q2
  subst ex
  subst ez
  rw [Vals.ref1 r1, hks]
  cases r2 with
  | cons r rr =>
    cases rr
    obtain ⟨t, rfl⟩ := r
    obtain ⟨its, rv, p'⟩ := I2.seqB hq
    obtain ⟨o, B, hB⟩ := p'.begins
    refine enum_begins_start B p' k0 k1 fun h' he ho hsz hk => wpAny_pyIter_enum he ?_
    exact enum_come (o := o) I2 he (hB h' _ ho) hk q
end
/-- a for over it -/
theorem walk_enumB {K : PySem.W.Frag} {a : Addr} {xs : List V} {b : Bool} {c : Int} : Walk (IteB K b a c) xs.length (fun H => SqB K b H a xs) (YPair (fun i => some (.int (c + (i : Nat)))) (fun i => xs[i]?)) where
  goes := fun i H hi h => ⟨xs, xs[i], h, List.getElem?_eq_getElem hi⟩
  stops := fun H h => ⟨xs, h, Nat.le_refl _⟩
  yields := fun i H x H' hi h y => by
    obtain ⟨T, z, e, hT, e2, hx⟩ := y
    exact ⟨T, _, z, e, hT, e2, rfl, hx xs h⟩
end L2
namespace L2
open PySem PySem.Spec PyProof.Rows PySem.Calls
section
variable {prog : Program} {w : World} {A : Around} {E : Value → Shared → Prop} {s : Shared} {r d : Addr} {n : Nat} {P : Nat → Value → Prop} {OK : Heap → Prop}
/-- tuple(x), x a dict or a view of one -/
theorem codeTupD {Q₁ : Value → Shared → Prop} (Kd : PySem.W.KdlSrc prog w "dict" r d n P OK) (hT : s.TypeIs (.ref r) "dict") (hh : A.handled = none) (hok : OK s.heap) (hn : n ≤ sizeLine)
    (h : ∀ (h' : Heap) (tk : Nat) (acc : Array Value), (∀ b o, s.heap.get? b = some o → h'.get? b = some o) → ItemsOf P acc n →
      Q₁ (.ref h'.objs.size) { s with heap := h'.push { cls := .type "tuple", data := .seq acc }, toks := tk }) :
    codeAny (model prog w) A (.call (.builtin "tuple.__new__") ⟨[.type "tuple", .ref r], []⟩) (wants Q₁ E) s := by
  refine codeAny_of_tree ?_
  show wpAny _ A.in1 (do checkBuiltinCall "tuple.__new__" ⟨[.type "tuple", .ref r], []⟩; again (.builtin "tuple.__new__" ⟨[.type "tuple", .ref r], []⟩)) _ _ s
  refine wpAny_bind (wpAny_of_eq (F.newCall_tuple_1 _) (wpAny_pure ⟨plainId_quiet F.plain_tuple_new _, codeAny_builtin F.entry_tuple_new ?_⟩))
  rw [Around.under_plainId F.plain_tuple_new _]
  have hsub := sub_tuple_self
  have hinit := init_tuple_lookup
  have hmh := madeHere_tuple
  have hh1 : A.in1.handled = none := hh
  wp_walk using wpAny_typeOf hT, PySem.W.kdu_collect (A := A.in1) Kd hh1 hok hn
  intro h' tk acc hk hacc
  show wpAny _ _ (Builtin.Tuple.tupleExact acc.toList.toArray >>= fun v => ret v) _ _ _
  unfold Builtin.Tuple.tupleExact
  refine wpAny_bind (wpAny_newObj_type ?_ (by show acc.toList.toArray.size ≤ sizeLine; simp only [Array.toArray_toList]; rw [hacc.1]; exact hn))
  refine wpAny_pure ?_
  have e : acc.toList.toArray = acc := by simp
  rw [e]
  exact h h' tk acc hk hacc
end
section
variable {X : Cx}
/-- tuple(d): its keys -/
theorem call_tupleD (hcalm : X.calm = true) : CallR X (.type "tuple") (fun xs H Q => ∃ (a : Addr) (kvs : List (Key × V)), xs = [.ref a] ∧ Rd H a (.dK kvs) ∧ ∀ (p : Addr) (o : Obj), H p = none → o.dict = none → Q (.ref p) (upd H p (.frz o (.tup (kvs.map fun kv => kV kv.1))))) := by
  intro pins s σ H xs us Q I r q
  obtain ⟨a, kvs, ex, hd, q⟩ := q
  subst ex
  rw [Vals.ref1 r]
  obtain ⟨z, lo, vs, rel, dd⟩ := dk_rd I.hok hd
  obtain ⟨ep, hat⟩ := dd.dictAt
  have ek : (kvs.map fun kv => kV kv.1) = vs.map fun p => kV p.1 := by
    have e := congrArg (List.map kV) rel.keys
    rw [List.map_map, List.map_map] at e
    exact e
  have hz : vs.length ≤ sizeLine := by
    rw [← rel.length]
    exact z
  refine callType_codes (Q₁ := fun obj s₁ => s₁.TypeIs obj "tuple" ∧ EP X pins σ Q obj s₁) F.called_tuple (F.typeCall_tuple_1 _) F.entry_object_init
    (codeTupD (A := X.A.in1) (PySem.W.kdl_dict (knd := mixKind X.prog X.w) (kvs := vs) (ep := ep) lo) dd.typeIs (I.ok.hd hcalm) hat hz fun h' tk acc hk hacc => ⟨⟨_, Heap.get?_push_size _ rfl, rfl⟩, ?_⟩) fun obj s₁ h₁ => ?_
  · have hv : Vals (vs.map fun p => kV p.1) acc.toList := keys_at (by rw [Array.length_toList]; exact hacc.1) fun j v e => hacc.2 j v (by rw [← Array.getElem?_toList]; exact e)
    have I1 : Inv X pins σ H { s with heap := h', toks := tk } := I.kept hk
    have I2 : Inv X pins σ (upd H h'.objs.size (.frz { cls := .type "tuple", data := .seq acc } (.tup (kvs.map fun kv => kV kv.1)))) { s with heap := h'.push { cls := .type "tuple", data := .seq acc }, toks := tk } :=
      I1.laid (t' := tk) (fun b o e => Heap.get?_push_of_some _ e) (Nat.le_refl _) (show ObjOk X.prog X.w _ _ _ (.frz _ (.tup (kvs.map fun kv => kV kv.1))) from ⟨Heap.get?_push_size _ rfl, by rw [List.length_map]; exact z, acc.toList, by rw [ek]; exact hv, by
        have e : acc.toList.toArray = acc := by simp
        rw [e]
        exact IsTup.new _ _⟩)
    exact ⟨.ref h'.objs.size, _, I2, rfl, q _ _ (I1.hok.fresh (Nat.le_refl _)) rfl⟩
  · exact ⟨h₁.1, F.args_object_init_2 obj _, object_init_meets F.called_tuple.init.lookup F.called_tuple.made (by decide) X.prog X.w X.A.in1 _ s₁ ⟨h₁.1, rfl, h₁.2⟩⟩
end
end L2
namespace PySem
namespace SupX
open PySem.W PySem.Calls PyProof.Rows PySem.HandSPX
/-! ### an own error over an own error over ValueError: def __init__(self, f): super().__init__('..'); self.f = f -/
def iA (f : Str) (p1 p2 : Pos) : Arguments :=
  { posonlyargs := [], args := [{ arg := "self", annotation := none, pos := p1 }, { arg := f, annotation := none, pos := p2 }], vararg := none, kwonlyargs := [], kw_defaults := [], kwarg := none, defaults := [] }
def iB (f tx : Str) (k0 : Nat) (q1 q2 q3 q4 q5 q6 q7 q8 q9 q10 : Pos) : List Stmt :=
  [.Expr (.Call (.Attribute (.Call (.Name "super" q1) [] [] q2) "__init__" q3) [.Constant (.str tx) k0 q4] [] q5) q6, .Assign [.Attribute (.Name "self" q7) f q8] (.Name f q9) q10]
def iS (f : Str) : Scope := { kind := .function, names := [("self", .local), (f, .local), ("__class__", .free), ("super", .globalImplicit)], isGenerator := false, isCoroutine := false, more := [] }
abbrev veTl : List Value := [.type "ValueError", .type "Exception", .type "BaseException", .type "object"]
/-- what is the same for every such class -/
structure ClsTxt (P : Program) (K : Frag) (mg : Str → Option Value) (C fI : Addr) (x : Str) : Prop where
  gC : mg x = some (.ref C)
  cls : ∃ nm q N bs bm sn sub ab col dd k0 k1 k2 k3 k5, K.lookup C = some (excClassObj nm q C N bs bm true sn sub ab col dd k0 k1 k2 k3 k5 "ValueError.__new__") ∧ refsVE bm = true
  sa : findIn K (.ref C) "__setattr__" = some (some (.builtin "object.__setattr__"))
  ga : findIn K (.ref C) "__getattribute__" = some (some (.builtin "BaseException.__getattribute__"))
  gg : findIn K (.ref C) "__getattr__" = some none
  iC : findIn K (.ref C) "__init__" = some (some (.ref fI))
  tC : typeIn K (.ref fI) = some (.type "function")
  kC : keepIn K (.ref C) = true
  exC : subIn K (.ref C) (.type "BaseException") = some true
  tyC : typeIn K (.ref C) = some (.type "type")
  hdC : hasDictIn K C = true
  msup : mg "super" = none
  sup : ks_superIn K C C "__init__" = some (some (.builtin "ValueError.__init__"))
  sve : subIn K (.ref C) (.type "ValueError") = some true
  mro : mroIn K C (.ref C) = some true
  st : nsIn K cStatics "thirdparty.any" = some none
  htop : (P.main.scope.names.lookup ("super" : Str)).isSome = false
structure FnTxt (P : Program) (K : Frag) (C fI : Addr) (f : Str) : Prop where
  noN : findIn K (.ref C) f = some none
  nd : (f == ("__debug__" : Str)) = false
  sf : (("self" : Str) == f) = false
  lf : (iS f).names.lookup f = some .local
  lc : (iS f).names.lookup ("__class__" : Str) = some .free
  ls : (iS f).names.lookup ("super" : Str) = some .globalImplicit
  fn : ∃ (oc doc pm kV ct : Value) (od an : Option Addr) (osl : Array (Option Value)) (tx qual : Str) (k0 : Nat) (p1 p2 q1 q2 q3 q4 q5 q6 q7 q8 q9 q10 : Pos) (cda cc : Addr) (vs : Array Value) (file : Str) (tf : Tok)
      (ccl cl : Value) (cdd cld : Option Addr) (ccs csl : Array (Option Value)) (fd : FuncData),
    fd = ksFn "__init__" qual (iA f p1 p2) (iB f tx k0 q1 q2 q3 q4 q5 q6 q7 q8 q9 q10) (iS f) .none kV doc pm an (.ref cda) ct cc ∧
    K.lookup fI = some ⟨oc, od, .func fd, osl⟩ ∧ codeIn K (.ref cda) qual = true ∧ (∀ a v : Value, bindArgs fd ⟨[a, v], []⟩ = pure [(("self" : Str), a), (f, v)]) ∧
    K.lookup cda = some ⟨ccl, cdd, .fields vs, ccs⟩ ∧ vs[2]? = some (.str file tf) ∧ ((P.main.file : Str) == file) = true ∧ K.lookup cc = some ⟨cl, cld, .cell (some (.ref C)), csl⟩ ∧
    (∃ pl : Sem Bool, ∀ L : Addr, eval (.Call (.Attribute (.Call (.Name "super" q1) [] [] q2) "__init__" q3) [.Constant (.str tx) k0 q4] [] q5) (ksEnv qual (iS f) L fI (.ref cda) cc) = (do
      let ov ← attributeBase (.Call (.Name "super" q1) [] [] q2) "__init__" (ksEnv qual (iS f) L fI (.ref cda) cc) (eval (.Call (.Name "super" q1) [] [] q2) (ksEnv qual (iS f) L fI (.ref cda) cc))
      standAt q3.atName
      let (fv, first) ← holding [ov] (getMethod ov "__init__" pl)
      callWith q5 fv first (backTo q5 (starEach [.Constant (.str tx) k0 q4] (ksEnv qual (iS f) L fI (.ref cda) cc))) [])) ∧
    (∀ L : Addr, swapsWith (.Name f q9) (some (.Attribute (.Name "self" q7) f q8)) q10.line (ksEnv qual (iS f) L fI (.ref cda) cc) = pure false) ∧
    (∀ L : Addr, swapsWith (.Call (.Attribute (.Call (.Name "super" q1) [] [] q2) "__init__" q3) [.Constant (.str tx) k0 q4] [] q5) none q6.line (ksEnv qual (iS f) L fI (.ref cda) cc) = pure false)
theorem one_size (v : Value) : [v].length ≤ sizeLine := by
  rw [sizeLine_eq]
  exact (by decide : 1 ≤ 16777216)
/-- what __init__ leaves of a fresh exception at x: a new args tuple, the argument in its own dict -/
structure InitEnd (h h' : Heap) (x C dx t1 : Addr) (f : Str) (v : Value) : Prop where
  keep : ∀ b o, b ≠ x → h.get? b = some o → h'.get? b = some o
  obj : h'.get? x = some { cls := .ref C, dict := some dx, data := .fields #[.ref t1, .none, .none, .none, .bool false, .none] }
  dbig : h.objs.size ≤ dx
  dne : dx ≠ x
  ns : h'.Ns1 dx (fun y => if y = f then some v else none)
section
variable {prog : Program} {w : World} {A : Around} {E : Value → Shared → Prop} {R : Result → Shared → Prop} {s : Shared} {K : Frag} {mg : Str → Option Value} {C fI : Addr} {x f : Str}
/-- the bound ValueError.__init__ called -/
theorem ve_init {h : Heap} {g : Array GenState} {d : Drawn} {t : Nat} {os : OsState} {nm q : Str} {N : Addr} {bs bm : List Value} {sn : List Str} {sub : List Value} {ab : Bool} {col : Option Bool} {dd : Option Addr} {k0 k1 k2 k3 k5 : Option Value}
    {u e t0 : Addr} {us : List Value} {Q : Value → Shared → Prop}
    (hC : h.get? C = some (excClassObj nm q C N bs bm true sn sub ab col dd k0 k1 k2 k3 k5 "ValueError.__new__")) (he : h.get? e = some (excO C t0)) (hu : h.get? u = some (kxs_mw "ValueError.__init__" e)) (hus : us.length ≤ sizeLine)
    (hq : ∀ h' t1, (∀ b o, b ≠ e → h.get? b = some o → h'.get? b = some o) → h'.get? e = some (excO C t1) → Q .none ⟨h', g, d, t, os⟩) :
    wpAny (model prog w) A (call (.ref u) us) Q E ⟨h, g, d, t, os⟩ := by
  refine wpAny_call (codeAny_of_tree ?_)
  show wpAny _ A.in1 (callAny (.ref u) ⟨us, []⟩) _ _ _
  simp only [callAny]
  refine wpAny_bind (wpAny_load hu ?_)
  have z : (Value.type "method-wrapper" == Value.type "method" || Value.type "method-wrapper" == Value.type "builtin_function_or_method" || Value.type "method-wrapper" == Value.type "method-wrapper") = true := by decide
  simp only [kxs_mw, z, if_true]
  refine KFB.if_so (by decide) (wpAny_bind (check_bound_init F.excBase_ValueError.toExcCallFacts hC he rfl ?_))
  refine wpAny_bind (wpAny_pure (wpAny_pure ⟨plainId_quiet F.excBase_ValueError.init.plain _, codeAny_builtin F.excBase_ValueError.initEntry ?_⟩))
  rw [Around.under_plainId F.excBase_ValueError.init.plain _]
  exact exc_init_tree (cls := .ref C) (t0 := t0) (dv := none) (c2 := .none) (c3 := .none) (b4 := .bool false) he hus fun h' k e' _ => hq h' _ k e'
theorem cls_of {h : Heap} (T : ClsTxt prog K mg C fI x) (X : K.In h) : ∃ cd oD, clsIn K C = some cd ∧ h.get? C = some oD ∧ oD.data = .cls cd := by
  obtain ⟨nm, q, N, bs, bm, sn, sub, ab, col, dd, k0, k1, k2, k3, k5, hC, _⟩ := T.cls
  exact ⟨_, _, by unfold clsIn; rw [hC] <;> rfl, X _ _ hC, rfl⟩
theorem sup_init (T : ClsTxt prog K mg C fI x) (Tf : FnTxt prog K C fI f) {e t0 : Addr} {v : Value} (X : K.In s.heap) (G : s.heap.Ns mainGlobals mg) {mb : Str → Option Value} (B : s.heap.Ns builtinsNs mb) (hb : mb "super" = some (.type "super"))
    (hlim : s.heap.NoLimit) (hx : s.heap.get? e = some (excO C t0)) (hnx : K.lookup e = none) (hroom : A.depth < recursionLimit)
    (hq : ∀ h' tk dx t1, InitEnd s.heap h' e C dx t1 f v → R (.ok (.ret .none)) { s with heap := h', toks := tk }) :
    codeAny (model prog w) A (.call (.ref fI) ⟨[.ref e, v], []⟩) R s := by
  obtain ⟨oc, doc, pm, kV, ct, od, an, osl, tx, qual, k0, p1, p2, q1, q2, q3, q4, q5, q6, q7, q8, q9, q10, cda, cc, vs, file, tf, ccl, cl, cdd, cld, ccs, csl, fd, rfl, ho, hcd, hbind, hcode, hvs, hfile, hcell, ⟨pl, he⟩, hsw, hsw0⟩ := Tf.fn
  obtain ⟨nm, q, N, bs, bm, sn, sub, ab, col, dd, j0, j1, j2, j3, j5, hC, hbm⟩ := T.cls
  obtain ⟨cd, oD, hcl, hD1, hD2⟩ := cls_of T X
  refine ks_codeAny_call_defAt (body := iB f tx k0 q1 q2 q3 q4 q5 q6 q7 q8 q9 q10) hroom (X _ _ ho) rfl hlim (codeRec_of X hcd) rfl (BindsTo.of_eq (hbind (.ref e) v)) ?_ ?_ (fun h₁ hn hk => ?_) rfl rfl rfl
  · show ∀ y ∈ (iS f).names, y.2 ≠ .cell
    intro y hy
    unfold iS at hy
    simp only [List.mem_cons, List.not_mem_nil, or_false] at hy
    rcases hy with rfl | rfl | rfl | rfl <;> (intro z; cases z)
  · show ∀ y ∈ ([(("self" : Str), Value.ref e), (f, v)] : List (Str × Value)), (iS f).names.lookup y.1 = some .local
    intro y hy
    simp only [List.mem_cons, List.not_mem_nil, or_false] at hy
    rcases hy with rfl | rfl
    · rfl
    · exact Tf.lf
  have X1 : K.In h₁ := X.keeps hk
  have hx1 := hk _ _ hx
  have hD1' := hk _ _ hD1
  have vS : ([(("self" : Str), Value.ref e), (f, v)] : List (Str × Value)).reverse.lookup ("self" : Str) = some (.ref e) := by
    show List.lookup ("self" : Str) [(f, v), (("self" : Str), Value.ref e)] = some (.ref e)
    rw [List.lookup_cons, Tf.sf]
    rfl
  have vF : ([(("self" : Str), Value.ref e), (f, v)] : List (Str × Value)).reverse.lookup f = some v := by
    show List.lookup f [(f, v), (("self" : Str), Value.ref e)] = some v
    rw [List.lookup_cons, beq_self_eq_true]
  have hI1 : InstAt h₁ e (excO C t0) C none := ⟨hx1, rfl, rfl, trivial⟩
  refine ks_wpAt_execs_cons (ks_wpAt_Expr_any (ks_wpAt_MethodCall (pl := pl) (ks_wpAt_super_base Tf.ls Tf.lc rfl rfl (X1 _ _ ho) rfl rfl rfl (X1 _ _ hcode) rfl hvs hfile T.htop ?_) (he _)) rfl (hsw0 _))
  refine ks_loadName_global rfl Tf.ls (loadGlobal_builtin (G.keeps hk) T.msup (B.keeps hk) hb ⟨rfl, ?_⟩)
  refine wpAny_loadName_free rfl Tf.lc rfl ⟨_, X1 _ _ hcell, rfl⟩ ?_
  refine wpAny_loadName_local rfl rfl hn vS ?_
  refine ks_wpAny_isType_cls hD1' hD2 ⟨rfl, ?_⟩
  refine ks_wpAny_call_super hD1' hD2 hx1 rfl (fun c z => by cases z) (looks_mroIn X1 T.mro) (fun h₂ e2 k2 => ?_)
  have hk2 : ∀ b o, s.heap.get? b = some o → h₂.get? b = some o := fun b o z => k2 b o (hk b o z)
  have X2 : K.In h₂ := X.keeps hk2
  have hx2 := k2 _ _ hx1
  have hI2 : InstAt h₂ e (excO C t0) C none := ⟨hx2, rfl, rfl, trivial⟩
  have hsup := T.sup
  unfold ks_superIn at hsup
  rw [hcl] at hsup
  refine kxs_getMethod kxs_ValueError e2 (looks_opaque X2 T.st) (l₀ := cd.mro) (fun A Q E s k q => wpAny_bind ((looks_clsIn X2 hcl) A _ E s k (wpAny_pure q))) rfl X2 hsup (hI2.type.andThen (looks_subIn X2 T.sve)) (ks_ne X2 hI2 hcl) rfl ?_
  refine kxs_callWith (i := "ValueError.__init__") (x := e) rfl (evalArgs_plain ?_)
  refine spliced_cons (wpAny_Constant_str (k := k0) (pos := q4) (spliced_nil ?_))
  have hx3 : (h₂.push (kxs_mw "ValueError.__init__" e)).get? e = some (excO C t0) := Heap.get?_push_of_some _ hx2
  refine ⟨Heap.get?_push_size _ rfl, ?_⟩
  refine ve_init (t0 := t0) (Heap.get?_push_of_some _ (X2 _ _ hC)) hx3 (Heap.get?_push_size _ rfl) (one_size _) fun h₃ t1 k3 hx4 => ?_
  have hk3 : ∀ b o, b ≠ e → s.heap.get? b = some o → h₃.get? b = some o := fun b o hb z => k3 b o hb (Heap.get?_push_of_some _ (hk2 b o z))
  have X3 : K.In h₃ := fun a o z => hk3 a o (fun q => by rw [q, hnx] at z; cases z) (X a o z)
  have hL : e ≠ s.heap.objs.size := Nat.ne_of_lt (Heap.lt_size hx)
  have hn3 : h₃.Ns s.heap.objs.size fun y => ([(("self" : Str), Value.ref e), (f, v)] : List (Str × Value)).reverse.lookup y := by
    obtain ⟨oL, es, ep, q, r⟩ := hn
    exact ⟨oL, es, ep, k3 _ _ (Ne.symm hL) (Heap.get?_push_of_some _ (k2 _ _ q)), r⟩
  refine wpAt_of_wpAny ?_
  refine wpAny_execs_cons (plainObj_wpAny_Assign_Attribute ?_ (hsw _))
  refine ESX.ldL hn3 vF (ESX.ldL hn3 vS ?_ rfl rfl (by decide)) rfl Tf.lf Tf.nd
  refine set_plain X3 (ox := excO C t1) (od := none) ⟨hx4, rfl, rfl, trivial⟩ T.sa ?_
  have hcd2 : clsIn K C = some { name := nm, bases := bs, mro := .ref C :: bm, ns := N, qualname := q, hasDict := true, slotNames := sn, subclasses := sub, abstract := ab, collection := col, hasDel := false } := by unfold clsIn; rw [hC] <;> rfl
  refine exc_osa X3 hx4 hcd2 (show refsVE (.ref C :: bm) = true from hbm) rfl Tf.noN (fun h₄ tk₄ dx k₄ dn dne hx₄ hn₄ => ?_)
  refine wpAny_execs_nil (hq h₄ tk₄ dx t1 ⟨fun b o hb z => k₄ b o hb (hk3 b o hb z), hx₄, ?_, dne, hn₄⟩)
  have z1 : h₂.objs.size < h₃.objs.size := by
    have z := k3 h₂.objs.size _ (fun q => ?_) (Heap.get?_push_size (o := kxs_mw "ValueError.__init__" e) h₂ rfl)
    · exact Heap.lt_size z
    · exact Nat.lt_irrefl _ (Nat.lt_of_lt_of_eq (Heap.lt_size hx2) q)
  have z2 : s.heap.objs.size < h₂.objs.size := by
    obtain ⟨oL, es, ep, q, r⟩ := hn
    exact Heap.lt_size (k2 _ _ q)
  exact Nat.le_of_lt (Nat.lt_trans z2 (Nat.lt_of_lt_of_le z1 dn))
/-- a made error: e, its own dict d holds f = v -/
structure Made (h h' : Heap) (e C d : Addr) (f : Str) (v : Value) : Prop where
  keep : ∀ b o, h.get? b = some o → h'.get? b = some o
  new : h.objs.size ≤ e
  obj : ∃ oe vs, h'.get? e = some oe ∧ oe.cls = .ref C ∧ oe.dict = some d ∧ oe.data = .fields vs ∧ vs[1]? = some .none
  dbig : h.objs.size ≤ d
  dne : d ≠ e
  ns : h'.Ns1 d (fun y => if y = f then some v else none)
theorem sup_made (T : ClsTxt prog K mg C fI x) (Tf : FnTxt prog K C fI f) {v : Value} (X : K.In s.heap) (G : s.heap.Ns mainGlobals mg) {mb : Str → Option Value} (B : s.heap.Ns builtinsNs mb) (hb : mb "super" = some (.type "super"))
    (hlim : s.heap.NoLimit) (hroom : A.depth + 1 < recursionLimit)
    (hq : ∀ h' tk e d, Made s.heap h' e C d f v → R (.ok (.ret (.ref e))) { s with heap := h', toks := tk }) :
    codeAny (model prog w) A (.call (.ref C) ⟨[v], []⟩) R s := by
  obtain ⟨nm, q, N, bs, bm, sn, sub, ab, col, dd, k0, k1, k2, k3, k5, hC, hbm⟩ := T.cls
  obtain ⟨hp, g, dr, tk, os⟩ := s
  have k : ∀ b o, hp.get? b = some o → ((hp.push (kdv_tup [v])).push (excO C hp.objs.size)).get? b = some o := fun b o e => Heap.get?_push_of_some _ (Heap.get?_push_of_some _ e)
  have hget : ((hp.push (kdv_tup [v])).push (excO C hp.objs.size)).get? (hp.objs.size + 1) = some (excO C hp.objs.size) := by heap_get
  have hnx : K.lookup (hp.objs.size + 1) = none := by
    cases e : K.lookup (hp.objs.size + 1) with
    | none => rfl
    | some o => exact absurd (Nat.lt_of_succ_lt (Heap.lt_size (X _ _ e))) (Nat.lt_irrefl _)
  refine call_own F.excBase_ValueError (fun Y => refsVE_contains Y bm hbm) (X _ _ hC) (looks_findIn X T.iC) (fun self => bind_fn X self T.tC) (one_size v) ?_
  refine sup_init (s := ⟨(hp.push (kdv_tup [v])).push (excO C hp.objs.size), g, dr, tk, os⟩) T Tf (X.keeps k) (G.keeps k) (B.keeps k) hb (hlim.keeps k) hget hnx ?_ fun h' tk' dx t1 ⟨k', hx, dn, dne, hns⟩ => ?_
  · show A.depth + 1 < recursionLimit
    exact hroom
  have old : ∀ b o, hp.get? b = some o → h'.get? b = some o := fun b o e => k' b o (Nat.ne_of_lt (Nat.lt_succ_of_lt (Heap.lt_size e))) (k b o e)
  have z : hp.objs.size + 1 + 1 ≤ dx := by
    have q := dn
    rw [Heap.size_push, Heap.size_push] at q
    exact q
  exact ⟨rfl, hq h' tk' (hp.objs.size + 1) dx ⟨old, Nat.le_succ _, ⟨_, _, hx, rfl, rfl, rfl, rfl⟩, Nat.le_trans (Nat.le_trans (Nat.le_succ _) (Nat.le_succ _)) z, dne, hns⟩⟩
end
end SupX
end PySem
namespace L2
open PySem PySem.Spec PyProof.Rows
theorem relO_one {v : V} {v' : Value} {f : Str} (r : RelV v v') (g : Str) : RelO (List.lookup g [(f, v)]) (if g = f then some v' else none) := by
  by_cases hw : g = f
  · subst hw
    rw [if_pos rfl]
    have q : List.lookup g [(g, v)] = some v := by simp [List.lookup]
    rw [q]
    exact r
  · rw [if_neg hw]
    have qw : (g == f) = false := by simpa using hw
    have q2 : List.lookup g [(f, v)] = none := by simp [List.lookup, qw]
    rw [q2]
    trivial
section
variable {X : Cx} {C fI : Addr} {x f : Str}
/-- C(e) -/
def tMkSup (C : Addr) (f : Str) (ta : TA) : St → Hp → XK → Prop := fun σ H Q => ta σ H fun vs H1 => ∃ v, vs = [v] ∧ ∀ d, H1 d = none → Q (.ref C) (some d) (upd H1 d (.xd [(f, v)]))
theorem pmk_sup {a : Expr} {ta : TA} {p pos : Pos} {k : Nat} (T : PySem.SupX.ClsTxt X.prog X.K X.mg C fI x) (Tf : PySem.SupX.FnTxt X.prog X.K C fI f) (hr : Room k X.A) (ha : PA X [a] ta) (hg : Gl X x) (hd : (x == ("__debug__" : Str)) = false := by decide)
    (he : starEach (a :: []) X.env = (false, eval a X.env) :: starEach [] X.env := by rfl) (hpl : (backTo pos (starEach [] X.env)).any (·.1) = false := by rfl) :
    PMk X (.Call (.Name x p) [a] [] pos) (tMkSup C f ta) := by
  intro pins s σ H Q I h
  refine wpAny_Call_Name_kw (ld_glob I hg T.gC ?_ hd)
  refine PySem.W.callWith_K (h₀ := X.base) I.ok.mod.kin T.kC (thn (ha.run pos pins s σ H _ I h) fun us s1 hh => ?_) he hpl
  obtain ⟨vs, H1, I1, r1, v, ev, q1⟩ := hh
  subst ev
  refine ⟨I1.kIn, ?_⟩
  cases r1 with
  | cons rv rn =>
    rename_i v' us'
    cases rn
    show wpAny _ _ (call (.ref C) [v']) _ _ _
    have hlim := I1.nolimit
    obtain ⟨mb, hB1, hB2⟩ := I1.mod.blt
    have hB := hB1.keeps I1.bk
    have hG := I1.mod.glob.keeps I1.bk
    have hb : mb "super" = some (.type "super") := (hB2 _ (by decide)).trans (by decide +kernel)
    obtain ⟨hp, g, dr, tk, os⟩ := s1
    refine wpAny_call (PySem.SupX.sup_made T Tf I1.kIn hG hB hb hlim (by have := hr.dp; omega) fun h' tk' e d M => ?_)
    show MkP X pins σ Q (.ref e) ⟨h', g, dr, tk', os⟩
    obtain ⟨oe, fv, hoe, hc, hd, hdat, h1⟩ := M.obj
    have hns := M.ns
    obtain ⟨G', g1, g2⟩ := restrict h' fun b => decide (b ≠ e)
    have gk : ∀ b, b ≠ e → G'.get? b = h'.get? b := fun b hb => g1 b (decide_eq_true hb)
    have ge : G'.get? e = none := g2 e (by simp)
    have old : ∀ b o, hp.get? b = some o → G'.get? b = some o := fun b o q => (gk b (Nat.ne_of_lt (Nat.lt_of_lt_of_le (Heap.lt_size q) M.new))).trans (M.keep b o q)
    have ob : ObjOk X.prog X.w (upd H1 d (.xd [(f, v)])) G' d (.xd [(f, v)]) := ⟨_, hns.at (fun o q => (gk d M.dne).trans q), fun g => relO_one rv g⟩
    have J : Inv X pins σ (upd H1 d (.xd [(f, v)])) ⟨G', g, dr, tk', os⟩ := I1.laid (t' := tk') old M.dbig ob
    refine ⟨e, oe, fv, ⟨G', g, dr, tk', os⟩, _, .ref C, some d, rfl, J, fun b o q => ?_, ge, hoe, ⟨hc, hd⟩, hdat, h1, ?_, rfl, I1.bare, raises_own T.exC T.tyC, q1 d (I1.hok.fresh M.dbig)⟩
    · by_cases hb : b = e
      · have q' : G'.get? b = some o := q
        rw [hb, ge] at q'; cases q'
      · exact (gk b hb).symm.trans q
    · rw [upd_ne (Ne.symm M.dne)]
      exact I1.hok.fresh M.new
/-- raise C(e) -/
def tRaiseSup (C : Addr) (f : Str) (W : WX) (ta : TA) : TS := fun _ σ H => tMkSup C f ta σ H fun cls d H' => W cls d σ H'
theorem ps_raiseSup {a : Expr} {ta : TA} {W : WX} {p pos pos2 : Pos} {k : Nat} (hc : X.calm = true) (T : PySem.SupX.ClsTxt X.prog X.K X.mg C fI x) (Tf : PySem.SupX.FnTxt X.prog X.K C fI f) (hr : Room k X.A) (tk : Takes X W) (ha : PA X [a] ta) (hg : Gl X x)
    (hd : (x == ("__debug__" : Str)) = false := by decide)
    (he : starEach (a :: []) X.env = (false, eval a X.env) :: starEach [] X.env := by rfl) (hpl : (backTo pos (starEach [] X.env)).any (·.1) = false := by rfl) :
    PS X (.Raise (some (.Call (.Name x p) [a] [] pos)) none pos2) (tRaiseSup C f W ta) := ps_raise hc tk (pmk_sup T Tf hr ha hg hd he hpl)
end
end L2
namespace PySem
namespace SupX
open PySem.W PySem.Calls PyProof.Rows PySem.HandSPX
/-! ### the same without a field: def __init__(self): super().__init__() -/
def iA0 (p1 : Pos) : Arguments :=
  { posonlyargs := [], args := [{ arg := "self", annotation := none, pos := p1 }], vararg := none, kwonlyargs := [], kw_defaults := [], kwarg := none, defaults := [] }
def iB0 (q1 q2 q3 q5 q6 : Pos) : List Stmt :=
  [.Expr (.Call (.Attribute (.Call (.Name "super" q1) [] [] q2) "__init__" q3) [] [] q5) q6]
def iS0 : Scope := { kind := .function, names := [("self", .local), ("__class__", .free), ("super", .globalImplicit)], isGenerator := false, isCoroutine := false, more := [] }
structure FnTxt0 (P : Program) (K : Frag) (C fI : Addr) : Prop where
  fn : ∃ (oc doc pm kV ct : Value) (od an : Option Addr) (osl : Array (Option Value)) (qual : Str) (p1 q1 q2 q3 q5 q6 : Pos) (cda cc : Addr) (vs : Array Value) (file : Str) (tf : Tok)
      (ccl cl : Value) (cdd cld : Option Addr) (ccs csl : Array (Option Value)) (fd : FuncData),
    fd = ksFn "__init__" qual (iA0 p1) (iB0 q1 q2 q3 q5 q6) iS0 .none kV doc pm an (.ref cda) ct cc ∧
    K.lookup fI = some ⟨oc, od, .func fd, osl⟩ ∧ codeIn K (.ref cda) qual = true ∧ (∀ a : Value, bindArgs fd ⟨[a], []⟩ = pure [(("self" : Str), a)]) ∧
    K.lookup cda = some ⟨ccl, cdd, .fields vs, ccs⟩ ∧ vs[2]? = some (.str file tf) ∧ ((P.main.file : Str) == file) = true ∧ K.lookup cc = some ⟨cl, cld, .cell (some (.ref C)), csl⟩ ∧
    (∃ pl : Sem Bool, ∀ L : Addr, eval (.Call (.Attribute (.Call (.Name "super" q1) [] [] q2) "__init__" q3) [] [] q5) (ksEnv qual iS0 L fI (.ref cda) cc) = (do
      let ov ← attributeBase (.Call (.Name "super" q1) [] [] q2) "__init__" (ksEnv qual iS0 L fI (.ref cda) cc) (eval (.Call (.Name "super" q1) [] [] q2) (ksEnv qual iS0 L fI (.ref cda) cc))
      standAt q3.atName
      let (fv, first) ← holding [ov] (getMethod ov "__init__" pl)
      callWith q5 fv first (backTo q5 (starEach [] (ksEnv qual iS0 L fI (.ref cda) cc))) [])) ∧
    (∀ L : Addr, swapsWith (.Call (.Attribute (.Call (.Name "super" q1) [] [] q2) "__init__" q3) [] [] q5) none q6.line (ksEnv qual iS0 L fI (.ref cda) cc) = pure false)
theorem no_size : ([] : List Value).length ≤ sizeLine := Nat.zero_le _
/-- what __init__ leaves of a fresh exception at x: a new args tuple -/
structure InitEnd0 (h h' : Heap) (x C t1 : Addr) : Prop where
  keep : ∀ b o, b ≠ x → h.get? b = some o → h'.get? b = some o
  obj : h'.get? x = some (excO C t1)
section
variable {prog : Program} {w : World} {A : Around} {E : Value → Shared → Prop} {R : Result → Shared → Prop} {s : Shared} {K : Frag} {mg : Str → Option Value} {C fI : Addr} {x f : Str}
theorem sup_init0 (T : ClsTxt prog K mg C fI x) (Tf : FnTxt0 prog K C fI) {e t0 : Addr} (X : K.In s.heap) (G : s.heap.Ns mainGlobals mg) {mb : Str → Option Value} (B : s.heap.Ns builtinsNs mb) (hb : mb "super" = some (.type "super"))
    (hlim : s.heap.NoLimit) (hx : s.heap.get? e = some (excO C t0)) (hnx : K.lookup e = none) (hroom : A.depth < recursionLimit)
    (hq : ∀ h' tk t1, InitEnd0 s.heap h' e C t1 → R (.ok (.ret .none)) { s with heap := h', toks := tk }) :
    codeAny (model prog w) A (.call (.ref fI) ⟨[.ref e], []⟩) R s := by
  obtain ⟨oc, doc, pm, kV, ct, od, an, osl, qual, p1, q1, q2, q3, q5, q6, cda, cc, vs, file, tf, ccl, cl, cdd, cld, ccs, csl, fd, rfl, ho, hcd, hbind, hcode, hvs, hfile, hcell, ⟨pl, he⟩, hsw0⟩ := Tf.fn
  obtain ⟨nm, q, N, bs, bm, sn, sub, ab, col, dd, j0, j1, j2, j3, j5, hC, hbm⟩ := T.cls
  obtain ⟨cd, oD, hcl, hD1, hD2⟩ := cls_of T X
  have ls : iS0.names.lookup ("super" : Str) = some .globalImplicit := by decide
  have lc : iS0.names.lookup ("__class__" : Str) = some .free := by decide
  refine ks_codeAny_call_defAt (body := iB0 q1 q2 q3 q5 q6) hroom (X _ _ ho) rfl hlim (codeRec_of X hcd) rfl (BindsTo.of_eq (hbind (.ref e))) ?_ ?_ (fun h₁ hn hk => ?_) rfl rfl rfl
  · show ∀ y ∈ iS0.names, y.2 ≠ .cell
    intro y hy
    unfold iS0 at hy
    simp only [List.mem_cons, List.not_mem_nil, or_false] at hy
    rcases hy with rfl | rfl | rfl <;> (intro z; cases z)
  · show ∀ y ∈ ([(("self" : Str), Value.ref e)] : List (Str × Value)), iS0.names.lookup y.1 = some .local
    intro y hy
    simp only [List.mem_cons, List.not_mem_nil, or_false] at hy
    rcases hy with rfl
    rfl
  have X1 : K.In h₁ := X.keeps hk
  have hx1 := hk _ _ hx
  have hD1' := hk _ _ hD1
  have vS : ([(("self" : Str), Value.ref e)] : List (Str × Value)).reverse.lookup ("self" : Str) = some (.ref e) := rfl
  have hI1 : InstAt h₁ e (excO C t0) C none := ⟨hx1, rfl, rfl, trivial⟩
  refine ks_wpAt_execs_cons (ks_wpAt_Expr_any (ks_wpAt_MethodCall (pl := pl) (ks_wpAt_super_base ls lc rfl rfl (X1 _ _ ho) rfl rfl rfl (X1 _ _ hcode) rfl hvs hfile T.htop ?_) (he _)) rfl (hsw0 _))
  refine ks_loadName_global rfl ls (loadGlobal_builtin (G.keeps hk) T.msup (B.keeps hk) hb ⟨rfl, ?_⟩)
  refine wpAny_loadName_free rfl lc rfl ⟨_, X1 _ _ hcell, rfl⟩ ?_
  refine wpAny_loadName_local rfl rfl hn vS ?_
  refine ks_wpAny_isType_cls hD1' hD2 ⟨rfl, ?_⟩
  refine ks_wpAny_call_super hD1' hD2 hx1 rfl (fun c z => by cases z) (looks_mroIn X1 T.mro) (fun h₂ e2 k2 => ?_)
  have hk2 : ∀ b o, s.heap.get? b = some o → h₂.get? b = some o := fun b o z => k2 b o (hk b o z)
  have X2 : K.In h₂ := X.keeps hk2
  have hx2 := k2 _ _ hx1
  have hI2 : InstAt h₂ e (excO C t0) C none := ⟨hx2, rfl, rfl, trivial⟩
  have hsup := T.sup
  unfold ks_superIn at hsup
  rw [hcl] at hsup
  refine kxs_getMethod kxs_ValueError e2 (looks_opaque X2 T.st) (l₀ := cd.mro) (fun A Q E s k q => wpAny_bind ((looks_clsIn X2 hcl) A _ E s k (wpAny_pure q))) rfl X2 hsup (hI2.type.andThen (looks_subIn X2 T.sve)) (ks_ne X2 hI2 hcl) rfl ?_
  refine kxs_callWith (i := "ValueError.__init__") (x := e) rfl ?_
  show wpAny _ _ (evalArgs _ true [] []) _ _ _
  refine PyProof.Rows.evalArgs_empty ?_
  have hx3 : (h₂.push (kxs_mw "ValueError.__init__" e)).get? e = some (excO C t0) := Heap.get?_push_of_some _ hx2
  refine ⟨Heap.get?_push_size _ rfl, ?_⟩
  refine ve_init (t0 := t0) (Heap.get?_push_of_some _ (X2 _ _ hC)) hx3 (Heap.get?_push_size _ rfl) no_size fun h₃ t1 k3 hx4 => ?_
  have hk3 : ∀ b o, b ≠ e → s.heap.get? b = some o → h₃.get? b = some o := fun b o hb z => k3 b o hb (Heap.get?_push_of_some _ (hk2 b o z))
  refine wpAt_of_wpAny ?_
  exact wpAny_execs_nil (hq h₃ _ t1 ⟨hk3, hx4⟩)
/-- a made error without a field -/
structure Made0 (h h' : Heap) (e C : Addr) : Prop where
  keep : ∀ b o, h.get? b = some o → h'.get? b = some o
  new : h.objs.size ≤ e
  obj : ∃ oe vs, h'.get? e = some oe ∧ oe.cls = .ref C ∧ oe.dict = none ∧ oe.data = .fields vs ∧ vs[1]? = some .none
theorem sup_made0 (T : ClsTxt prog K mg C fI x) (Tf : FnTxt0 prog K C fI) (X : K.In s.heap) (G : s.heap.Ns mainGlobals mg) {mb : Str → Option Value} (B : s.heap.Ns builtinsNs mb) (hb : mb "super" = some (.type "super"))
    (hlim : s.heap.NoLimit) (hroom : A.depth + 1 < recursionLimit)
    (hq : ∀ h' tk e, Made0 s.heap h' e C → R (.ok (.ret (.ref e))) { s with heap := h', toks := tk }) :
    codeAny (model prog w) A (.call (.ref C) ⟨[], []⟩) R s := by
  obtain ⟨nm, q, N, bs, bm, sn, sub, ab, col, dd, k0, k1, k2, k3, k5, hC, hbm⟩ := T.cls
  obtain ⟨hp, g, dr, tk, os⟩ := s
  have k : ∀ b o, hp.get? b = some o → ((hp.push (kdv_tup [])).push (excO C hp.objs.size)).get? b = some o := fun b o e => Heap.get?_push_of_some _ (Heap.get?_push_of_some _ e)
  have hget : ((hp.push (kdv_tup [])).push (excO C hp.objs.size)).get? (hp.objs.size + 1) = some (excO C hp.objs.size) := by heap_get
  have hnx : K.lookup (hp.objs.size + 1) = none := by
    cases e : K.lookup (hp.objs.size + 1) with
    | none => rfl
    | some o => exact absurd (Nat.lt_of_succ_lt (Heap.lt_size (X _ _ e))) (Nat.lt_irrefl _)
  refine call_own F.excBase_ValueError (fun Y => refsVE_contains Y bm hbm) (X _ _ hC) (looks_findIn X T.iC) (fun self => bind_fn X self T.tC) no_size ?_
  refine sup_init0 (s := ⟨(hp.push (kdv_tup [])).push (excO C hp.objs.size), g, dr, tk, os⟩) T Tf (X.keeps k) (G.keeps k) (B.keeps k) hb (hlim.keeps k) hget hnx ?_ fun h' tk' t1 ⟨k', hx⟩ => ?_
  · show A.depth + 1 < recursionLimit
    exact hroom
  have old : ∀ b o, hp.get? b = some o → h'.get? b = some o := fun b o e => k' b o (Nat.ne_of_lt (Nat.lt_succ_of_lt (Heap.lt_size e))) (k b o e)
  exact ⟨rfl, hq h' tk' (hp.objs.size + 1) ⟨old, Nat.le_succ _, ⟨_, _, hx, rfl, rfl, rfl, rfl⟩⟩⟩
end
end SupX
end PySem
namespace L2
open PySem PySem.Spec PyProof.Rows
section
variable {X : Cx} {C fI : Addr} {x : Str}
/-- C() -/
def tMkSup0 (C : Addr) : St → Hp → XK → Prop := fun _ H Q => Q (.ref C) none H
theorem pmk_sup0 {p pos : Pos} {k : Nat} (T : PySem.SupX.ClsTxt X.prog X.K X.mg C fI x) (Tf : PySem.SupX.FnTxt0 X.prog X.K C fI) (hr : Room k X.A) (hg : Gl X x) (hd : (x == ("__debug__" : Str)) = false := by decide) :
    PMk X (.Call (.Name x p) [] [] pos) (tMkSup0 C) := by
  intro pins s σ H Q I h
  refine wpAny_Call_Name_kw (ld_glob I hg T.gC ?_ hd)
  refine PySem.W.callWith_K0 I.kIn T.kC ?_
  show wpAny _ _ (call (.ref C) []) _ _ _
  have hlim := I.nolimit
  obtain ⟨mb, hB1, hB2⟩ := I.ok.mod.blt
  have hB := hB1.keeps I.bk
  have hG := I.ok.mod.glob.keeps I.bk
  have hb : mb "super" = some (.type "super") := (hB2 _ (by decide)).trans (by decide +kernel)
  obtain ⟨hp, g, dr, tk, os⟩ := s
  refine wpAny_call (PySem.SupX.sup_made0 T Tf I.kIn hG hB hb hlim (by have := hr.dp; omega) fun h' tk' e M => ?_)
  show MkP X pins σ Q (.ref e) ⟨h', g, dr, tk', os⟩
  obtain ⟨oe, fv, hoe, hc, hd, hdat, h1⟩ := M.obj
  obtain ⟨G', g1, g2⟩ := restrict h' fun b => decide (b ≠ e)
  have gk : ∀ b, b ≠ e → G'.get? b = h'.get? b := fun b hb => g1 b (decide_eq_true hb)
  have ge : G'.get? e = none := g2 e (by simp)
  have old : ∀ b o, hp.get? b = some o → G'.get? b = some o := fun b o q => (gk b (Nat.ne_of_lt (Nat.lt_of_lt_of_le (Heap.lt_size q) M.new))).trans (M.keep b o q)
  have J : Inv X pins σ H ⟨G', g, dr, tk', os⟩ := I.kept (t' := tk') old
  refine ⟨e, oe, fv, ⟨G', g, dr, tk', os⟩, _, .ref C, none, rfl, J, fun b o q => ?_, ge, hoe, ⟨hc, hd⟩, hdat, h1, ?_, rfl, I.bare, raises_own T.exC T.tyC, h⟩
  · by_cases hb : b = e
    · have q' : G'.get? b = some o := q
      rw [hb, ge] at q'; cases q'
    · exact (gk b hb).symm.trans q
  · exact I.hok.fresh M.new
/-- raise C() -/
def tRaiseSup0 (C : Addr) (W : WX) : TS := fun _ σ H => W (.ref C) none σ H
theorem ps_raiseSup0 {W : WX} {p pos pos2 : Pos} {k : Nat} (hc : X.calm = true) (T : PySem.SupX.ClsTxt X.prog X.K X.mg C fI x) (Tf : PySem.SupX.FnTxt0 X.prog X.K C fI) (hr : Room k X.A) (tk : Takes X W) (hg : Gl X x)
    (hd : (x == ("__debug__" : Str)) = false := by decide) :
    PS X (.Raise (some (.Call (.Name x p) [] [] pos)) none pos2) (tRaiseSup0 C W) := ps_raise hc tk (pmk_sup0 T Tf hr hg hd)
end
end L2
namespace L2
open PySem PySem.Spec PyProof.Rows
/-! ### try with any number of clauses, each with a name or without -/
/-- a clause: the class, the slot of its name, what its suite is read as -/
structure Clause where
  cls : Value
  slot : Option Nat
  run : Addr → Value → Option Addr → TS
/-- behind the suite the name is gone -/
def Clause.ends (c : Clause) (D : Ends) : Ends :=
  let off : St → St := fun σ => match c.slot with | none => σ | some i => σ.set i none
  ⟨fun σ H => D.nx (off σ) H, D.rt, fun σ H => D.bk (off σ) H, fun σ H => D.ct (off σ) H⟩
def Clause.slots (c : Clause) (σ : St) (a : Addr) : St := match c.slot with | none => σ | some i => σ.set i (some (.ref a))
/-- the first clause whose class fits, else the wish of those without -/
def firstOf (K : PySem.W.Frag) (out : WX) (D : Ends) : List Clause → WX
  | [] => out
  | c :: r => fun cls d σ H => (PySem.W.exmOne K cls c.cls = some true ∧ ∀ a, H a = none → c.run a cls d (c.ends D) (c.slots σ a) H) ∨ (PySem.W.exmOne K cls c.cls = some false ∧ firstOf K out D r cls d σ H)
/-- a clause of the text -/
structure ClauseOf (X : Cx) (h : ExceptHandler) (c : Clause) : Prop where
  is : ∃ (x : Str) (np pos : Pos) (b : Stmt) (bs : List Stmt) (n : Option Str), h = .ExceptHandler (some (.Name x np)) n (b :: bs) pos ∧ Names X x c.cls ∧
    (∀ (a : Addr) (o : Obj) (cls : Value) (d : Option Addr) (pn : List (Addr × Obj)), Zc cls d o → (∃ vs, o.data = .fields vs) → PSs (X.suite a ((a, o) :: pn)) (b :: bs) (c.run a cls d)) ∧
    ((n = none ∧ c.slot = none) ∨ ∃ (y : Str) (i : Nat), n = some y ∧ c.slot = some i ∧ X.N[i]? = some y ∧ X.env.kindOf y = some .local)
/-- an exception at a has come down in the frame, the heap being h -/
structure Fallen (X : Cx) (pins : List (Addr × Obj)) (σ : St) (H : Hp) (cls : Value) (d : Option Addr) (a : Addr) (s : Shared) : Prop where
  ex : ∃ (B : Heap) (sI : Shared), Inv X pins σ H sI ∧ (∀ b o, sI.heap.get? b = some o → b ∉ frs X.stack → B.get? b = some o) ∧ sI.heap.UpToSlots s.heap ∧ HandSPX.FlyingZ B X.stack a (Zc cls d) s.heap ∧ H a = none ∧ s.os = sI.os ∧ AllBare s.gens
section
variable {X : Cx} {pins : List (Addr × Obj)} {σ : St} {H : Hp} {cls : Value} {d : Option Addr} {a : Addr} {s : Shared}
theorem Fallen.inv (f : Fallen X pins σ H cls d a s) : Inv X pins σ H s := by
  obtain ⟨B, sI, J, nb, up, fl, _, os, ag⟩ := f.ex
  exact J.landed nb fl.1 up os ag
theorem Fallen.obj (f : Fallen X pins σ H cls d a s) : ∃ o vs, s.heap.get? a = some o ∧ Zc cls d o ∧ o.data = .fields vs := by
  obtain ⟨B, sI, _, _, _, fl, _⟩ := f.ex
  exact fl.there
/-- its suite begins -/
theorem Fallen.within (f : Fallen X pins σ H cls d a s) (hs : X.stack = X.env :: X.outer) (hf : X.env.frame = some X.env.locals) :
    ∃ o, Zc cls d o ∧ (∃ vs, o.data = .fields vs) ∧ Inv (X.suite a ((a, o) :: (X.pn ++ pins))) [] σ H s := by
  obtain ⟨o, vs, ho, hz, hd⟩ := f.obj
  have J := f.inv
  obtain ⟨B, sI, _, _, _, fl, na, _⟩ := f.ex
  have out : a ∉ frs X.stack := fun hm => by
    obtain ⟨_, o', e', hnf⟩ := fl.2.2.1.mem hm
    cases ho.symm.trans e'
    exact hnf _ hd
  rw [hs] at out
  exact ⟨o, hz, ⟨vs, hd⟩, J.suite ho hd na (fun z => out (List.mem_filterMap.mpr ⟨X.env, .head _, by rw [hf, z]⟩)) fun hm => out (by
    obtain ⟨e, he, q⟩ := List.mem_filterMap.mp hm
    exact List.mem_filterMap.mpr ⟨e, .tail _ he, q⟩)⟩
/-- its flight is set to none again -/
theorem Fallen.again {Q : Unit → Shared → Prop} {E : Value → Shared → Prop} {A : Around} (f : Fallen X pins σ H cls d a s) (h : ∀ s', Fallen X pins σ H cls d a s' → Q () s') : wpAny (model X.prog X.w) A (setFlight (.ref a) none) Q E s := by
  obtain ⟨B, sI, J, nb, up, fl, na, os, ag⟩ := f.ex
  exact HandSPX.lands_againZ fl fun h4 fl4 up4 => h _ ⟨B, sI, J, nb, up.trans up4, fl4, na, os, ag⟩
/-- no clause fits -/
theorem Fallen.leaves {D : Ends} {out : WX} (f : Fallen X pins σ H cls d a s) (hs : X.stack = X.env :: X.outer) (hf : X.env.frame = some X.env.locals) (tk : Takes X out) (w : out cls d σ H) :
    wpAny (model X.prog X.w) X.A (handleBy (.ref a) X.env []) (SP X pins D) X.xe s := by
  obtain ⟨B, sI, J, nb, up, fl, na, os, ag⟩ := f.ex
  refine wpAny_handleBy_nil ?_
  obtain ⟨_, _, _, o, vs, T, oT, _, ho, _, hd, h1, _⟩ := id fl
  have go : wpAny (model X.prog X.w) X.A (setFlight (.ref a) X.env.frame) (fun _ t => wpAny (model X.prog X.w) X.A (throw (.ref a) : Sem Flow) (SP X pins D) X.xe t) X.xe s := by
    rw [hf]
    exact HandSPX.setFlight_upZ fl fun h4 hh up4 => wpAny_throw (tk _ _ ⟨a, B, sI, pins, σ, H, cls, d, rfl, J, nb, up.trans up4, .inr (.inr hh), na, os, ag, w⟩)
  unfold PySem.passOn
  refine wpAny_bind (wpAny_field ho hd h1 ?_)
  rw [if_neg (by simp)]
  first
    | exact wpAny_bind go
    | exact wpAny_bind (wpAny_pure (wpAny_bind go))
/-- the test of a clause -/
theorem Fallen.test {x : Str} {np : Pos} {c : Value} {b : Bool} {Q : Bool → Shared → Prop} {E E' : Value → Shared → Prop} (f : Fallen X pins σ H cls d a s) (hs : X.stack = X.env :: X.outer) (hf : X.env.frame = some X.env.locals) (hc : Names X x c) (hb : PySem.W.exmOne X.K cls c = some b) (h : Q b s) :
    wpAny (model X.prog X.w) (X.A.mark (some (.ref a))) (eval (.Name x np) X.env) (fun c s₁ => wpAny (model X.prog X.w) (X.A.mark (some (.ref a))) (excMatches (.ref a) c) Q E s₁) E' s := by
  obtain ⟨o, vs, ho, hz, hd⟩ := f.obj
  obtain ⟨o2, _, _, S⟩ := f.within hs hf
  have cl : PySem.W.Looks (model X.prog X.w) s.heap (typeOf (.ref a)) cls := fun _ _ _ _ k q => wpAny_typeOf_ref (k _ _ ho) (by rw [hz.1]; exact q)
  have q := (PySem.W.exm_one (M := model X.prog X.w) f.inv.kIn cl hb).here (A := X.A.mark (some (.ref a))) (Q := Q) (E := E) h
  obtain ⟨hg, hdb, hm | ⟨hm, hv, hn⟩⟩ := hc
  · exact ld_glob (X := X.suite a ((a, o2) :: (X.pn ++ pins))) S hg hm q hdb
  · exact ld_blt (X := X.suite a ((a, o2) :: (X.pn ++ pins))) S hg hm hv q hn hdb
/-- what a suite ends with, told outside -/
theorem suiteEnds {o : Obj} {fw : Flow} {D D' : Ends} {off : St → St} {Q : Shared → Prop} (ok : X.Ok) (e : D' = ⟨fun σ H => D.nx (off σ) H, D.rt, fun σ H => D.bk (off σ) H, fun σ H => D.ct (off σ) H⟩)
    (h : SP (X.suite a ((a, o) :: (X.pn ++ pins))) [] D' fw s) (k : ∀ σ' H', Inv X pins σ' H' s → (∀ s', Inv X pins (off σ') H' s' → SP X pins D fw s') → Q s) : Q s := by
  subst e
  cases fw with
  | next => obtain ⟨σ', H', S, q⟩ := h; exact k _ _ (S.unsuite ok) fun s' J => ⟨_, _, J, q⟩
  | brk => obtain ⟨σ', H', S, q⟩ := h; exact k _ _ (S.unsuite ok) fun s' J => ⟨_, _, J, q⟩
  | cont => obtain ⟨σ', H', S, q⟩ := h; exact k _ _ (S.unsuite ok) fun s' J => ⟨_, _, J, q⟩
  | ret u => obtain ⟨v, σ', H', S, r, q⟩ := h; exact k _ _ (S.unsuite ok) fun s' J => ⟨_, _, _, J, r, q⟩
inductive ClausesOf (X : Cx) : List ExceptHandler → List Clause → Prop
  | nil : ClausesOf X [] []
  | cons {h : ExceptHandler} {hs : List ExceptHandler} {c : Clause} {cs : List Clause} : ClauseOf X h c → ClausesOf X hs cs → ClausesOf X (h :: hs) (c :: cs)
theorem Fallen.caught {D : Ends} {out : WX} (hs : X.stack = X.env :: X.outer) (hf : X.env.frame = some X.env.locals) (hN : X.N.Nodup) (tk : Takes X out) {hds : List ExceptHandler} {cs : List Clause} (C : ClausesOf X hds cs) (f : Fallen X pins σ H cls d a s) (w : firstOf X.K out D cs cls d σ H) :
    wpAny (model X.prog X.w) X.A (handleBy (.ref a) X.env hds) (SP X pins D) X.xe s := by
  induction C with
  | nil => exact f.leaves hs hf tk w
  | @cons h hs' c cs' hc _ ih =>
    obtain ⟨x, np, pos, b, bs, n, rfl, hn, hsu, hname⟩ := hc.is
    refine wpAny_handleBy_cons (codeAny_handlers_test ?_) (by intro q; cases q)
    rcases w with ⟨hb, w⟩ | ⟨hb, w⟩
    · refine f.test hs hf hn hb ?_
      rcases hname with ⟨rfl, hsl⟩ | ⟨y, i, rfl, hsl, hi, hl⟩
      · refine codeAny_handlers_suite (f.again fun s4 f4 => ?_)
        obtain ⟨o, hz, hd, S⟩ := f4.within hs hf
        have na : H a = none := let ⟨_, _, _, _, _, _, na, _⟩ := f4.ex; na
        have w' := w a na
        unfold Clause.slots at w'
        rw [hsl] at w'
        refine wpAny_mono ((hsu a o cls d (X.pn ++ pins) hz hd).run [] s4 _ H _ S w') (fun fw s6 q => ?_) (fun _ _ z => z.elim)
        exact suiteEnds (off := id) f.inv.ok (by unfold Clause.ends; rw [hsl]; rfl) q fun σ' H' J k => k s6 J
      · refine codeAny_handlers_suite_as (f.again fun s4 f4 => ?_)
        obtain ⟨o, hz, hd, S⟩ := f4.within hs hf
        have na : H a = none := let ⟨_, _, _, _, _, _, na, _⟩ := f4.ex; na
        have w' := w a na
        unfold Clause.slots at w'
        rw [hsl] at w'
        refine store_ok (X := X.suite a ((a, o) :: (X.pn ++ pins))) (v := .ref a) S hN hi (.inl hl) rfl (fun s5 S5 => ?_) (.inr hl)
        refine wpAny_mono ((hsu a o cls d (X.pn ++ pins) hz hd).run [] s5 _ H _ S5 w') (fun fw s6 q => ?_) (fun _ _ z => z.elim)
        exact suiteEnds (off := fun σ => σ.set i none) f.inv.ok (by unfold Clause.ends; rw [hsl]) q fun σ' H' J k => gone_ok J hN hi hl k
    · exact f.test hs hf hn hb (ih w)
end
section
variable {X : Cx} {body : List Stmt} {h₀ : ExceptHandler} {hds : List ExceptHandler} {cs : List Clause} {pos : Pos} {tb : WX → TS} {out : WX}
theorem ps_clauses (hs : X.stack = X.env :: X.outer) (hf : X.env.frame = some X.env.locals) (hN : X.N.Nodup) (tk : Takes X out)
    (hb : ∀ (W : WX) (pn : List (Addr × Obj)) (xe : Value → Shared → Prop), Takes (X.tr pn xe) W → PassesOwn (model X.prog X.w) X.A X.env xe → PSs (X.tr pn xe) body (tb W)) (C : ClausesOf X (h₀ :: hds) cs) :
    PS X (.Try body (h₀ :: hds) [] [] pos) (fun D σ H => tb (firstOf X.K out D cs) D σ H) := by
  refine ⟨fun pins s σ H D I h => wpAny_Try_except ?_⟩
  have ok := I.ok
  have main := (hb (firstOf X.K out D cs) (X.pn ++ pins) (fun e s₁ => wpAny (model X.prog X.w) X.A (noteFrame e X.env) (fun _ s₂ => wpAny (model X.prog X.w) X.A (setFlight e none) (fun _ s₃ => wpAny (model X.prog X.w) X.A (handleBy e X.env (h₀ :: hds)) (SP X pins D) X.xe s₃) X.xe s₂) X.xe s₁)
    (fun u s' x => by
      obtain ⟨a, B, sI, pn', σ', H', cls, d, rfl, J, nb, up, sky, na, os, ag, w⟩ := x
      have fr : X.A.frames = some (X.env :: X.outer) := by rw [ok.frames, hs]
      have sky2 : Sky B (X.env :: X.outer) a (Zc cls d) X.env.locals s'.heap := by rw [← hs]; exact sky
      exact Sky.land Zc.steady fr hf sky2 fun h3 fl up3 => Fallen.caught hs hf hN tk C ⟨B, sI, J.ofTry ok, nb, up.trans up3, by rw [hs]; exact fl, na, os, ag⟩ w) PassesOwn.looking).run [] s σ H D (I.toTry _) h
  refine wpAny_mono main (fun fw s1 q => ?_) (fun _ _ z => z)
  cases fw with
  | next => obtain ⟨σ', H', J, q⟩ := q; exact wpAny_execs_nil ⟨σ', H', J.ofTry ok, q⟩
  | brk => obtain ⟨σ', H', J, q⟩ := q; exact ⟨σ', H', J.ofTry ok, q⟩
  | cont => obtain ⟨σ', H', J, q⟩ := q; exact ⟨σ', H', J.ofTry ok, q⟩
  | ret u => obtain ⟨v, σ', H', J, r, q⟩ := q; exact ⟨v, σ', H', J.ofTry ok, r, q⟩
end
end L2
namespace L2
open PySem PySem.Spec PyProof.Rows
/-! ### methods and makings that may fail -/
section
variable {X : Cx} {CX : CXT} {k : Nat} {f C : Addr} {fd : FuncData} {ps : List Str} {sp : Sp} {dvs : List V} {ds : List Value} {m x : Str} {p pos apos : Pos} {e o : Expr} {es : List Expr} {ta : TE} {t : TA} {pl : Sem Bool}
def tMethS' (C : Addr) (m : Str) (sp : Sp) (E : St → XK) (ta : TE) (t : TA) : TE := fun σ H Q => ta σ H fun x H1 => ∃ a dx fs, x = .ref a ∧ H1 a = some (.ins C dx fs) ∧ fs.lookup m = none ∧ t σ H1 fun vs H2 => sp (x :: vs) H2 Q (E σ)
theorem pe_methE {E : St → XK} (he : PE X o ta) (c : Cls X.K C) (hm : Meth X.K C m f) (F : FnOk X.prog X.w X.K X.mg X.base CX k f fd ps sp) (hr : Room k X.A) (hb : Binds X.K fd ps []) (hx : ∀ σ, PassesAt CX X σ (E σ)) (ha : PA X (e :: es) t)
    (hst : starEach (e :: es) X.env = (false, eval e X.env) :: starEach es X.env := by rfl) (hpl : (backTo pos (starEach es X.env)).any (·.1) = false := by rfl)
    (ht : eval (.Call (.Attribute o m apos) (e :: es) [] pos) X.env = (do
      let ov ← eval o X.env
      standAt apos.atName
      let (fv, first) ← holding [ov] (getMethod ov m pl)
      callWith pos fv first (backTo pos (starEach (e :: es) X.env)) (backToKw pos (keywordEach [] X.env))) := by rfl) :
    PE X (.Call (.Attribute o m apos) (e :: es) [] pos) (tMethS' C m sp E ta t) := by
  refine ⟨fun pins s σ H Q I h => PySem.W.methodCall_KW (thn (he.run pins s σ H _ I h) fun u s1 ⟨x, H1, I1, rx, a, dx, fs, ex, ea, l, q⟩ => ?_) ht⟩
  subst ex
  obtain rfl : u = Value.ref a := rx
  refine getmeth_ok I1 ea c hm l (PySem.W.callWith_K I.ok.mod.kin hm.kp (thn (ha.run pos pins s1 σ H1 _ I1 q) fun us s2 ⟨vs, H2, I2, r, q2⟩ => ⟨I2.kIn, ?_⟩) hst hpl)
  exact run_fnS F hr hb (hx σ) I2 (.cons (show RelV (V.ref a) (Value.ref a) from rfl) r) q2
theorem run_makeE {E : XK} {pins : List (Addr × Obj)} {σ : St} {H : Hp} {s : Shared} {Q : VK} {us : List Value} {vs : List V} (M : Mk X.K C f) (F : FnOk X.prog X.w X.K X.mg X.base CX k f fd ps sp) (hr : Room (k + 1) X.A) (hb : Binds X.K fd ps ds) (hd : Vals dvs ds) (hx : PassesAt CX X σ E) (I : Inv X pins σ H s) (r : Vals vs us)
    (h : ∀ (x dx : Addr), H x = none → H dx = none → dx ≠ x → sp (.ref x :: (vs ++ dvs)) (upd (upd H dx (.own x)) x (.ins C dx [])) (fun v H2 => v = .non ∧ Q (.ref x) H2) E) : wpAny (model X.prog X.w) X.A (call (.ref C) us) (EP X pins σ Q) X.xe s := by
  have hq := h (s.heap.objs.size + 1) s.heap.objs.size (I.hok.fresh (Nat.le_succ _)) (I.hok.fresh (Nat.le_refl _)) (Nat.ne_of_lt (Nat.lt_succ_self _))
  have I2 := Inv.made (C := C) I
  have r2 : Vals (V.ref (s.heap.objs.size + 1) :: (vs ++ dvs)) (Value.ref (s.heap.objs.size + 1) :: (us ++ ds)) := .cons rfl (Vals.append r hd)
  have hl : (Value.ref (s.heap.objs.size + 1) :: (us ++ ds)).length = ps.length := (Vals.length r2).symm.trans (F.len _ _ _ _ hq)
  refine wpAny_call (make_map I.kIn M.makes M.init (beq_iff_eq.mp M.fn) (codeAny_mono (F.run _ X.stack _ _ ⟨Value.ref (s.heap.objs.size + 1) :: us, []⟩ _ _ _ E (Room.make hr C us []) (Env0.make I2.env0 C us []) (hb _ (Value.ref (s.heap.objs.size + 1) :: us) I2.kIn hl) r2 hq) fun r s' hq' => ?_))
  match r, hq' with
  | .error e, hq' => exact hx pins _ _ e s' I2 hq'
  | .ok (.ret u), hq' =>
    obtain ⟨v, H', I3, rv, ev, q3⟩ := I2.after hq'
    subst ev
    obtain rfl : u = Value.none := rv
    exact ⟨rfl, .ref (s.heap.objs.size + 1), H', I3, rfl, q3⟩
def tMakeS (C : Addr) (sp : Sp) (dvs : List V) (E : St → XK) (t : TA) : TE := fun σ H Q => tMake C sp dvs (E σ) t σ H Q
theorem pe_makeS {E : St → XK} (M : Mk X.K C f) (F : FnOk X.prog X.w X.K X.mg X.base CX k f fd ps sp) (hr : Room (k + 1) X.A) (hg : Gl X x) (hm : X.mg x = some (.ref C)) (hb : Binds X.K fd ps ds) (hd : Vals dvs ds) (hx : ∀ σ, PassesAt CX X σ (E σ)) (ha : PA X (e :: es) t)
    (hdb : (x == ("__debug__" : Str)) = false := by decide) (he : starEach (e :: es) X.env = (false, eval e X.env) :: starEach es X.env := by rfl) (hpl : (backTo pos (starEach es X.env)).any (·.1) = false := by rfl) : PE X (.Call (.Name x p) (e :: es) [] pos) (tMakeS C sp dvs E t) := by
  refine ⟨fun pins s σ H Q I h => wpAny_Call_Name_kw (ld_glob I hg hm (PySem.W.callWith_K I.ok.mod.kin M.kp (thn (ha.run pos pins s σ H _ I h) fun us s1 ⟨vs, H1, I1, r, q⟩ => ⟨I1.kIn, ?_⟩) he hpl) hdb)⟩
  exact run_makeE M F hr hb hd (hx σ) I1 r q
end
end L2
namespace L2
open PySem PySem.Spec PyProof.Rows
/-! ### len(x), x of a class of the text with an own __len__ -/
section
variable {X : Cx} {CX : CXT} {C f : Addr} {fd : FuncData} {ps : List Str} {sp : Sp} {E : XK} {k : Nat}
def rLenO (C : Addr) (sp : Sp) (E : XK) : List V → Hp → VK → Prop := fun xs H Q => ∃ (a dx : Addr) (fs : List (Str × V)), xs = [.ref a] ∧ H a = some (.ins C dx fs) ∧ sp [.ref a] H (fun v H' => ∃ n : Nat, v = .int (n : Nat) ∧ n < sizeLine ∧ Q (.int (n : Nat)) H') E
theorem call_lenO (F : FnOk X.prog X.w X.K X.mg X.base CX k f fd ps sp) (hs : PySem.W.findIn X.K (.ref C) "__len__" = some (some (.ref f))) (hf : PySem.W.isFn X.K (.ref f) = true) (hb : Binds X.K fd ps []) (hx : Passes CX X E) (hr : Room (k + 1) X.A) :
    CallR X (.builtin "len") (rLenO C sp E) := by
  intro pins s σ H xs us Q I r h
  obtain ⟨a, dx, fs, rfl, ha, hsp⟩ := h
  obtain ⟨u, rfl, ru⟩ := vals1 r
  cases ru
  have J := (ins_get I.hok ha).choose_spec.1.look.choose_spec.1
  have sb : Sub X k X.A.in1 := Sub.in1 ⟨hr, rfl⟩
  have e0 : Env0 X.prog X.w X.K X.mg X.base X.A.in1 X.stack s H := let e := I.env0; ⟨by rw [sb.fr, e.frames], e.mod, e.bs, e.bsz, e.funs, e.frf, e.hok, e.bare⟩
  have bnd := hb s [.ref a] I.kIn (by simpa using F.len _ _ _ _ hsp)
  have run := F.run X.A.in1 X.stack s H ⟨[.ref a], []⟩ [.ref a] [.ref a] _ E sb.room e0 (by simpa using bnd) (.cons rfl .nil) hsp
  have h24 : sizeLine = 16777216 := sizeLine_eq
  refine Calls.call_function_entry kind_len plain_len entry_len (args_len1 _) (show wpAny _ _ (Builtin.«len» _) _ _ _ from ?_)
  unfold Builtin.«len»
  refine wpAny_bind (m := oneArg "len" _) (wpAny_pure (wpAny_bind (m := callSpecial? (.ref a) (Str.ofString "__len__")) (PySem.W.special_fn I.kIn J hs (beq_iff_eq.mp hf) (wpAny_call (codeAny_mono run fun r s' hq => ?_)))))
  match r, hq with
  | .error e, hq => exact hx pins σ H s e s' I hq
  | .ok (.ret w), hq =>
    obtain ⟨z, H', I', rz, n, rfl, hn, q⟩ := I.after hq
    obtain ⟨t, rfl⟩ := rz
    refine wpAny_bind (wpAny_holding (wpAny_pure (wpAny_bind (wpAny_letGo (show wpAny _ _ (if ((n : Nat) : Int) < 0 then _ else _) _ _ _ from ?_)))))
    rw [if_neg (show ¬ ((n : Nat) : Int) < 0 by omega)]
    refine (show wpAny _ _ (if ((n : Nat) : Int) ≥ 2 ^ 63 then _ else _) _ _ _ from ?_)
    rw [if_neg (show ¬ ((n : Nat) : Int) ≥ 2 ^ 63 by omega)]
    exact wpAny_bind (wpAny_mkInt (wpAny_pure ⟨Value.int (n : Nat) s'.toks, rfl, V.int (n : Nat), H', I'.tok _, ⟨_, rfl⟩, q⟩))
  | .ok .next, hq | .ok .brk, hq | .ok .cont, hq => exact hq.elim
end
end L2
/-! ### dict(zip(a, b)) of two tuples -/
namespace DZ
open PySem
section
variable {P : Program} {w : World} {A : Around} {B : Value → Shared → Prop} {s : Shared} {z TI TO T i1 i2 l1 l2 : Addr} {f : Bool} {oT : Obj} {k1 k2 : Nat} {xs ys : Array Value}
/-- one step of a zip whose last pair is still out: its two iterators are asked in turn -/
theorem out_step {Q : Fin → Shared → Prop} (hz : IsZipHeld s.heap z TI TO T f) (hT : s.heap.get? T = some oT) (hTI : IsPair s.heap TI (.ref i1) (.ref i2))
    (k : ∀ h1, IsZipHeld h1 z TI TO T true → Heap.SameBut z s.heap h1 → wpAny (model P w) A (Builtin.SmallTypes.nextOf (.ref i1)) (fun x s2 => wpAny (model P w) A (Builtin.SmallTypes.nextOf (.ref i2)) (fun y s3 => wpAny (model P w) A (newTuple [x, y]) (fun v s4 => Q (.done (.ret v)) s4) B s3) B s2) B { s with heap := h1 }) :
    wpAny (model P w) A (Builtin.«zip.__next__» ⟨[.ref z], []⟩) Q B s := by
  refine (show wpAny _ _ (field (.ref z) 2 >>= _) _ _ _ from wpAny_bind (wpAny_field hz rfl (x := .bool false) rfl (show wpAny _ _ (field (.ref z) 3 >>= _) _ _ _ from wpAny_bind (wpAny_field hz rfl (x := .ref TI) rfl (wpAny_bind (wpAny_seqItems hTI rfl (show wpAny _ _ (Builtin.SmallTypes.ownedTupleIsFree (.ref z) >>= _) _ _ _ from wpAny_bind (wpAny_tupleHeld_zip hz hT fun h1 hz1 hs1 => ?_))))))))
  simp only [Bool.false_eq_true, if_false, ← Array.forIn_toList, List.forIn_cons, List.forIn_nil]
  refine wpAny_bind (wpAny_bind (wpAny_bind (wpAny_holding (show wpAny _ _ (Builtin.SmallTypes.nextOf (.ref i1) >>= _) _ _ _ from wpAny_bind (wpAny_mono (k h1 hz1 hs1) (fun x s2 h2 => wpAny_pure (wpAny_pure ?_)) fun _ _ e => e)))))
  refine wpAny_bind (wpAny_bind (wpAny_holding (show wpAny _ _ (Builtin.SmallTypes.nextOf (.ref i2) >>= _) _ _ _ from wpAny_bind (wpAny_mono h2 (fun y s3 h3 => wpAny_pure (wpAny_pure (wpAny_pure ?_))) fun _ _ e => e))))
  exact (show wpAny _ _ (newTuple [x, y] >>= _) _ _ _ from wpAny_bind (wpAny_mono h3 (fun v s4 h4 => wpAny_pure h4) fun _ _ e => e))
open RZ
theorem out_item {Q : Option Value → Shared → Prop} {x y : Value} (D : ZipApart z TI TO i1 i2 l1 l2) (hz : IsZipHeld s.heap z TI TO T f) (hT : s.heap.get? T = some oT) (hTI : IsPair s.heap TI (.ref i1) (.ref i2))
    (a1 : s.heap.IsTupleIter i1 l1 k1) (a2 : s.heap.IsTupleIter i2 l2 k2) (b1 : s.heap.IsTuple l1 xs) (b2 : s.heap.IsTuple l2 ys) (hx : xs[k1]? = some x) (hy : ys[k2]? = some y)
    (q : ∀ h', IsZipHeld h' z TI TO T true → h'.IsTupleIter i1 l1 (k1 + 1) → h'.IsTupleIter i2 l2 (k2 + 1) → IsPair h' s.heap.objs.size x y → (∀ c o, c ≠ z → c ≠ i1 → c ≠ i2 → s.heap.get? c = some o → h'.get? c = some o) → Q (some (.ref s.heap.objs.size)) { s with heap := h' }) :
    wpAny (model P w) A (pyNext (.ref z)) Q B s := by
  have ty : s.TypeIs (.ref z) "zip" := ⟨_, hz, rfl⟩
  unfold pyNext
  refine wpAny_bind (wpAny_attempt (wpAny_callSpecial?_slot (name := Str.ofString "__next__") ty F.slot_zip_next (wpAny_call_entry F.slot_zip_next ty F.entry_zip_next (out_step hz hT hTI fun h1 z1 s1 => ?_) (F.args_zip_next_1 _))))
  refine nextOf_tuple_item (s := { s with heap := h1 }) (a1.extBut s1.extBut D.i1z) (b1.extBut s1.extBut D.l1z) hx fun h2 c1 s2 => ?_
  refine nextOf_tuple_item (s := { s with heap := h2 }) ((a2.extBut s1.extBut D.i2z).extBut s2.extBut D.i12.symm) ((b2.extBut s1.extBut D.l2z).extBut s2.extBut D.l2i1) hy fun h3 c2 s3 => ?_
  refine wpAny_newTuple ⟨_, rfl, wpAny_pure ?_⟩
  have n : h3.objs.size = s.heap.objs.size := by rw [s3.1, s2.1, s1.1]
  have pr : IsPair (h3.push { cls := .type "tuple", data := .seq #[x, y] }) h3.objs.size x y := Heap.get?_push_size _ rfl
  show Q (some (.ref h3.objs.size)) _
  rw [n] at pr ⊢
  exact q _ (Heap.get?_push_of_some _ (s3.extBut _ _ D.i2z.symm (s2.extBut _ _ D.i1z.symm z1))) ((c1.extBut s3.extBut D.i12).at fun o e => Heap.get?_push_of_some _ e) (c2.at fun o e => Heap.get?_push_of_some _ e) pr
    fun c o n1 n2 n3 e => Heap.get?_push_of_some _ (s3.extBut _ _ n3 (s2.extBut _ _ n2 (s1.extBut _ _ n1 e)))
theorem out_end {Q : Option Value → Shared → Prop} (hh : A.handled = none) (D : ZipApart z TI TO i1 i2 l1 l2) (hz : IsZipHeld s.heap z TI TO T f) (hT : s.heap.get? T = some oT) (hTI : IsPair s.heap TI (.ref i1) (.ref i2))
    (a1 : s.heap.IsTupleIter i1 l1 k1) (a2 : s.heap.IsTupleIter i2 l2 k2) (b1 : s.heap.IsTuple l1 xs) (b2 : s.heap.IsTuple l2 ys) (he : xs[k1]? = none ∨ ys[k2]? = none)
    (q : ∀ h', (∀ c o, c ≠ z → c ≠ i1 → c ≠ i2 → s.heap.get? c = some o → h'.get? c = some o) → Q none { s with heap := h' }) : wpAny (model P w) A (pyNext (.ref z)) Q B s := by
  have ty : s.TypeIs (.ref z) "zip" := ⟨_, hz, rfl⟩
  have out : ∀ h' e, (∀ c o, c ≠ z → c ≠ i1 → c ≠ i2 → s.heap.get? c = some o → h'.get? c = some o) → (∃ o, h'.get? e = some o ∧ o.cls = .type "StopIteration") →
      wpAny (model P w) A (do if ← isInstance (.ref e) (.type "StopIteration") then pure none else throw (.ref e)) Q B { s with heap := h' } := fun h' e k ⟨o, ho, hc⟩ =>
    wpAny_bind (wpAny_isInstance (T := "StopIteration") (b := true) ⟨o, ho, hc⟩ isSubtype_stop (wpAny_pure (q _ k)))
  unfold pyNext
  refine wpAny_bind (wpAny_attempt (wpAny_callSpecial?_slot (name := Str.ofString "__next__") ty F.slot_zip_next (wpAny_call_entry F.slot_zip_next ty F.entry_zip_next (out_step hz hT hTI fun h1 z1 s1 => ?_) (F.args_zip_next_1 _))))
  cases hx : xs[k1]? with
  | none => exact nextOf_tuple_end (s := { s with heap := h1 }) hh (a1.extBut s1.extBut D.i1z) (b1.extBut s1.extBut D.l1z) hx fun h2 e s2 he => out h2 e (fun c o n1 n2 _ x => s2 _ _ n2 (s1.extBut _ _ n1 x)) he
  | some x =>
    have hy : ys[k2]? = none := he.resolve_left fun h => by rw [hx] at h; cases h
    refine nextOf_tuple_item (s := { s with heap := h1 }) (a1.extBut s1.extBut D.i1z) (b1.extBut s1.extBut D.l1z) hx fun h2 c1 s2 => ?_
    exact nextOf_tuple_end (s := { s with heap := h2 }) hh ((a2.extBut s1.extBut D.i2z).extBut s2.extBut D.i12.symm) ((b2.extBut s1.extBut D.l2z).extBut s2.extBut D.l2i1) hy fun h3 e s3 he => out h3 e (fun c o n1 n2 n3 x => s3 _ _ n3 (s2.extBut _ _ n2 (s1.extBut _ _ n1 x))) he
/-- the zip after k pairs, while a dict is filled at d: its last pair is out or not -/
structure At (h : Heap) (d z TI TO i1 i2 l1 l2 : Addr) (xs ys : Array Value) (k : Nat) : Prop where
  ti : IsPair h TI (.ref i1) (.ref i2)
  a1 : h.IsTupleIter i1 l1 k
  a2 : h.IsTupleIter i2 l2 k
  b1 : h.IsTuple l1 xs
  b2 : h.IsTuple l2 ys
  zz : (IsZip h z TI TO .none ∧ ∃ a b, IsPair h TO a b) ∨ ∃ T f oT, IsZipHeld h z TI TO T f ∧ h.get? T = some oT ∧ T ≠ z ∧ T ≠ i1 ∧ T ≠ i2 ∧ T ≠ d
theorem argZipT (D : ZipApart z TI TO i1 i2 l1 l2) (xs ys : Array Value) : PairArg P w "zip" z [z, TI, TO, i1, i2, l1, l2] [z, TO, i1, i2] (min xs.size ys.size) (fun i k v => xs[i]? = some k ∧ ys[i]? = some v)
    (fun h => (IsZip h z TI TO .none ∧ ∃ a b, IsPair h TO a b) ∧ IsPair h TI (.ref i1) (.ref i2) ∧ (h.IsTupleIter i1 l1 0 ∧ h.IsTupleIter i2 l2 0) ∧ h.IsTuple l1 xs ∧ h.IsTuple l2 ys) where
  type := fun s o => ⟨_, o.1.1, rfl⟩
  notDict := by decide
  keep := fun h h' ⟨⟨c1, a, b, c2⟩, c3, ⟨c4, c5⟩, c6, c7⟩ e => ⟨⟨e _ _ c1, a, b, e _ _ c2⟩, e _ _ c3, ⟨c4.at fun o q => e _ o q, c5.at fun o q => e _ o q⟩, c6.at fun o q => e _ o q, c7.at fun o q => e _ o q⟩
  there := fun h ⟨⟨c1, a, b, c2⟩, c3, ⟨⟨o4, c4, _⟩, o5, c5, _⟩, ⟨o6, c6, _⟩, o7, c7, _⟩ b hb => by
    simp only [List.mem_cons, List.not_mem_nil, or_false] at hb
    rcases hb with e | e | e | e | e | e | e
    all_goals (subst e; first | exact ⟨_, c1⟩ | exact ⟨_, c3⟩ | exact ⟨_, c2⟩ | exact ⟨_, c4⟩ | exact ⟨_, c5⟩ | exact ⟨_, c6⟩ | exact ⟨_, c7⟩)
  sub := fun b hb => by
    simp only [List.mem_cons, List.not_mem_nil, or_false] at hb ⊢
    rcases hb with e | e | e | e
    all_goals simp [e]
  noKeys := fun A s Q E hA o h => getAttrOr_miss_zip o.1.1 rfl rfl rfl zip_no_keys (by decide +kernel) hA h
  iter := fun A s d Q E hA o hd hdf h => by
    obtain ⟨c1, c3, ⟨c4, c5⟩, c6, c7⟩ := o
    simp only [List.mem_cons, List.not_mem_nil, or_false, not_or] at hdf
    obtain ⟨n1, n2, n3, n4, n5, n6, n7⟩ := hdf
    refine wpAny_pyIter_zip c1.1 (h z [z, TO, i1, i2] (fun i h => At h d z TI TO i1 i2 l1 l2 xs ys i) s.heap s.toks ?_ ⟨c3, c4, c5, c6, c7, .inl c1⟩ (fun _ _ e => e) fun b hb => .inl hb)
    refine { off := fun hm => ?_, frame := fun i h1 h2 st e => ?_, item := fun i s1 Q1 E1 hi st hds k => ?_, done := fun s1 Q1 E1 st k => ?_ }
    · simp only [List.mem_cons, List.not_mem_nil, or_false] at hm
      exact hm.elim n1 fun m => m.elim n3 fun m => m.elim n4 n5
    · refine ⟨e _ _ (Ne.symm n2) st.ti, st.a1.at fun o q => e _ o (Ne.symm n4) q, st.a2.at fun o q => e _ o (Ne.symm n5) q, st.b1.at fun o q => e _ o (Ne.symm n6) q, st.b2.at fun o q => e _ o (Ne.symm n7) q, st.zz.imp (fun ⟨m1, a, b, m2⟩ => ⟨e _ _ (Ne.symm n1) m1, a, b, e _ _ (Ne.symm n3) m2⟩) ?_⟩
      exact fun ⟨T, f, oT, m1, m2, m3, m4, m5, m6⟩ => ⟨T, f, oT, e _ _ (Ne.symm n1) m1, e _ _ m6 m2, m3, m4, m5, m6⟩
    · have ex := Array.getElem?_eq_getElem (xs := xs) (show i < xs.size by omega)
      have ey := Array.getElem?_eq_getElem (xs := ys) (show i < ys.size by omega)
      have lt : ∀ {c o}, s1.heap.get? c = some o → s1.heap.objs.size ≠ c := fun e => Nat.ne_of_gt (Heap.lt_size e)
      have m1 : s1.heap.objs.size ≠ i1 := lt st.a1.choose_spec.1
      have m2 : s1.heap.objs.size ≠ i2 := lt st.a2.choose_spec.1
      rcases st.zz with ⟨q1, a, b, q2⟩ | ⟨T, f, oT, q1, q2, q3, q4, q5, q6⟩
      · refine RZ.pyNext_zipT_item D q1 st.ti q2 st.a1 st.a2 st.b1 st.b2 ex ey fun h' r1 r2 r3 r4 r5 r6 e => k _ _ _ h' s1.toks ⟨ex, ey⟩ (.inl ⟨_, r5, rfl, _, rfl⟩) ?_ fun c o hc q => ?_
        · exact ⟨e _ _ D.TIz D.TITO D.TIi1 D.TIi2 st.ti, r3, r4, st.b1.at fun o q => e _ o D.l1z D.l1TO D.l1i1 D.l1i2 q, st.b2.at fun o q => e _ o D.l2z D.l2TO D.l2i1 D.l2i2 q, .inr ⟨_, false, _, r1, r5, lt q1, m1, m2, Nat.ne_of_gt hds⟩⟩
        · simp only [List.mem_cons, List.not_mem_nil, or_false, not_or] at hc
          exact e c o hc.1 hc.2.1 hc.2.2.1 hc.2.2.2 q
      · refine out_item D q1 q2 st.ti st.a1 st.a2 st.b1 st.b2 ex ey fun h' r1 r3 r4 r5 e => k _ _ _ h' s1.toks ⟨ex, ey⟩ (.inl ⟨_, r5, rfl, _, rfl⟩) ?_ fun c o hc q => ?_
        · exact ⟨e _ _ D.TIz D.TIi1 D.TIi2 st.ti, r3, r4, st.b1.at fun o q => e _ o D.l1z D.l1i1 D.l1i2 q, st.b2.at fun o q => e _ o D.l2z D.l2i1 D.l2i2 q, .inr ⟨T, true, oT, r1, e _ _ q3 q4 q5 q2, q3, q4, q5, q6⟩⟩
        · simp only [List.mem_cons, List.not_mem_nil, or_false, not_or] at hc
          exact e c o hc.1 hc.2.2.1 hc.2.2.2 q
    · have he : xs[min xs.size ys.size]? = none ∨ ys[min xs.size ys.size]? = none := (Nat.le_total xs.size ys.size).imp (fun h => Array.getElem?_eq_none (by omega)) fun h => Array.getElem?_eq_none (by omega)
      rcases st.zz with ⟨q1, a, b, q2⟩ | ⟨T, f, oT, q1, q2, q3, q4, q5, q6⟩
      · refine RZ.pyNext_zipT_end hA D q1 st.ti q2 st.a1 st.a2 st.b1 st.b2 he fun h' e => k h' s1.toks fun c o hc q => ?_
        simp only [List.mem_cons, List.not_mem_nil, or_false, not_or] at hc
        exact e c o hc.1 hc.2.1 hc.2.2.1 hc.2.2.2 q
      · refine out_end hA D q1 q2 st.ti st.a1 st.a2 st.b1 st.b2 he fun h' e => k h' s1.toks fun c o hc q => ?_
        simp only [List.mem_cons, List.not_mem_nil, or_false, not_or] at hc
        exact e c o hc.1 hc.2.2.1 hc.2.2.2 q
end
end DZ
namespace L2
open PySem PySem.Spec PyProof.Rows
theorem boot_dictT : bootBuiltins "dict" = some (.type "dict") := by decide +kernel
theorem kv_zip : ∀ {ks : List Key} {xs : List V} {us : List Value}, Vals xs us → KV (ks.zip xs) (ks.zip us)
  | [], _, _, _ => .nil
  | _ :: _, _, _, .nil => .nil
  | _ :: _, _, _, .cons r t => .cons ⟨rfl, r⟩ (kv_zip t)
/-- dict(zip(a, b)), a a tuple of texts, b a tuple -/
def tDictZip (K : PySem.W.Frag) (ta : TA) : TE := fun σ H Q => ta σ H fun vs H1 => ∃ (a b : Addr) (zs : List Str) (xs : List V), vs = [.ref a, .ref b] ∧ SqT K H1 a (zs.map V.str) ∧ SqT K H1 b xs ∧ zs.length ≤ 1000 ∧
  ∀ p, H1 p = none → Q (.ref p) (upd H1 p (.dK (mergeK [] ((zs.map (Sum.inr : Str → Key)).zip xs))))
theorem pe_dictZip {X : Cx} {e e2 : Expr} {ta : TA} {p p2 q pos : Pos} (hg : Gl X "dict") (hm : X.mg "dict" = none) (hg2 : Gl X "zip") (hm2 : X.mg "zip" = none) (ha : PA X [e, e2] ta) (hc : X.calm = true := by rfl)
    (hs : starEach [e, e2] X.env = (false, eval e X.env) :: starEach [e2] X.env := by rfl) (hpl : (backTo q (starEach [e2] X.env)).any (·.1) = false := by rfl)
    (hz : starEach [.Call (.Name "zip" p2) [e, e2] [] q] X.env = (false, eval (.Call (.Name "zip" p2) [e, e2] [] q) X.env) :: starEach [] X.env := by rfl) :
    PE X (.Call (.Name "dict" p) [.Call (.Name "zip" p2) [e, e2] [] q] [] pos) (tDictZip X.K ta) := by
  refine ⟨fun pins s σ H Q I h => ?_⟩
  refine Call_ (ld_blt I hg hm boot_dictT (callWith_type1 (args_cons (Call_ (ld_blt I hg2 hm2 boot_zip (callWith_type1 (thn (ha.run q pins s σ H _ I h) fun us s1 ⟨vs, H1, I1, r1, q1⟩ => ?_) hs hpl))) hz) hz rfl))
  obtain ⟨a, b, zs, xs, rfl, h1, h2, hl, q1⟩ := q1
  obtain ⟨u1, u2, rfl, e1, e2⟩ := vals2 r1
  cases e1
  cases e2
  obtain ⟨is1, v1, t1, _⟩ := I1.tuple h1
  obtain ⟨is2, v2, t2, _⟩ := I1.tuple h2
  have n1 : a < s1.heap.objs.size := Heap.lt_size t1.choose_spec.1
  have n2 : b < s1.heap.objs.size := Heap.lt_size t2.choose_spec.1
  have D := PySem.W.ktu_apart s1.heap.objs.size a b n1 n2
  have l1 : is1.length = zs.length := by rw [← v1.length, List.length_map]
  refine RZ.call_zipT (show s1.heap.IsTuple a is1.toArray from t1) (show s1.heap.IsTuple b is2.toArray from t2) fun h' hz hTI hTO g1 g2 hsz hk => args_nil ?_
  have I2 : Inv X pins σ H1 { s1 with heap := h' } := I1.kept (t' := s1.toks) hk
  have ln : ((zs.map (Sum.inr : Str → Key)).zip is2).length = min is1.toArray.size is2.toArray.size := by rw [List.length_zip, List.length_map, List.size_toArray, List.size_toArray, l1]
  refine PySem.call_dict_pairs (s := { s1 with heap := h' }) (knd := mixKind X.prog X.w) (kvs := (zs.map (Sum.inr : Str → Key)).zip is2) (DZ.argZipT D is1.toArray is2.toArray) (I1.ok.hd hc)
    ⟨⟨hz, _, _, hTO⟩, hTI, ⟨g1, g2⟩, (show s1.heap.IsTuple a is1.toArray from t1).at fun o e => hk _ o e, (show s1.heap.IsTuple b is2.toArray from t2).at fun o e => hk _ o e⟩ ⟨ln, fun i key v ⟨m1, m2⟩ => ?_⟩ ?_ fun h3 tk hd hk3 => ?_
  · have hi : i < zs.length := by
      have := (Array.getElem?_eq_some_iff.mp m1).1
      rw [List.size_toArray, l1] at this
      exact this
    obtain ⟨u, hu, ru⟩ := v1.get (i := i) (x := V.str zs[i]) (by rw [List.getElem?_map, List.getElem?_eq_getElem hi]; rfl)
    have ek : u = key := by
      have m1' : is1[i]? = some key := by simpa using m1
      rw [hu] at m1'
      exact Option.some.inj m1'
    have m2' : is2[i]? = some v := by simpa using m2
    refine ⟨Sum.inr zs[i], ?_, by rw [← ek]; exact kV_is (k := Sum.inr zs[i]) ru⟩
    rw [List.getElem?_zip_eq_some]
    exact ⟨by rw [List.getElem?_map, List.getElem?_eq_getElem hi]; rfl, m2'⟩
  · rw [← ln, List.length_zip, List.length_map]
    exact Nat.le_trans (Nat.min_le_left _ _) (Nat.le_trans hl (by decide))
  · have k3 : ∀ c o, s1.heap.get? c = some o → h3.get? c = some o := fun c o e => hk3 c o (fun m => by
      have lt := Heap.lt_size e
      simp only [List.mem_cons, List.not_mem_nil, or_false] at m
      rcases m with m | m | m | m <;> (rw [m] at lt; first | exact absurd lt (Nat.not_lt.mpr (Nat.le_add_right _ _)) | exact absurd lt (Nat.lt_irrefl _))) (hk c o e)
    have big : sysModules < h'.objs.size := I2.big
    have le : s1.heap.objs.size ≤ h'.objs.size := by rw [hsz]; exact Nat.le_add_right _ _
    have sz : (mergeK [] ((zs.map (Sum.inr : Str → Key)).zip xs)).length ≤ sizeLine := by
      refine Nat.le_trans (length_mergeK _ []) ?_
      rw [List.length_nil, Nat.zero_add, List.length_zip, List.length_map]
      exact Nat.le_trans (Nat.min_le_left _ _) (Nat.le_trans hl (by decide))
    have new : ObjOk X.prog X.w (upd H1 h'.objs.size (.dK (mergeK [] ((zs.map (Sum.inr : Str → Key)).zip xs)))) h3 h'.objs.size (.dK (mergeK [] ((zs.map (Sum.inr : Str → Key)).zip xs))) := ⟨sz, beq_eq_false_iff_ne.mpr (Nat.ne_of_gt big), _, KV.merge (kv_zip v2) .nil, hd⟩
    exact ⟨.ref h'.objs.size, _, I1.laid (t' := tk) k3 le new, rfl, q1 _ (I1.hok.fresh le)⟩
theorem putK_out {kvs : List (Key × V)} {k : Key} {v : V} (h : k ∉ kvs.map (·.1)) : putK kvs k v = kvs ++ [(k, v)] := by
  unfold putK
  rw [if_neg]
  rw [List.any_eq_true]
  rintro ⟨p, hp, e⟩
  exact h (List.mem_map.mpr ⟨p, hp, of_decide_eq_true e⟩)
theorem mergeK_nd : ∀ {more kvs : List (Key × V)}, ((kvs ++ more).map (·.1)).Nodup → mergeK kvs more = kvs ++ more
  | [], kvs, _ => by rw [List.append_nil]; rfl
  | (k, v) :: r, kvs, h => by
    have hk : k ∉ kvs.map (·.1) := fun m => by
      rw [List.map_append, List.nodup_append] at h
      exact h.2.2 k m k List.mem_cons_self rfl
    have e : mergeK kvs ((k, v) :: r) = mergeK (putK kvs k v) r := rfl
    rw [e, putK_out hk, mergeK_nd (kvs := kvs ++ [(k, v)]) (by rw [List.append_assoc]; exact h), List.append_assoc]
    rfl
end L2
namespace L2
open PySem PySem.Spec PyProof.Rows
/-! ### len(s), s a set of numbers -/
def rLenSet (w : World) : List V → Hp → VK → Prop := fun xs H Q => ∃ (a : Addr) (S : Int → Bool) (n : Nat), xs = [.ref a] ∧ H a = some (SetO w a S n) ∧ n < 1000 ∧ ∀ ks : List Int, ks.Nodup → (∀ k, S k = true ↔ k ∈ ks) → Q (.int (ks.length : Nat)) H
theorem call_lenSet {X : Cx} : CallR X (.builtin "len") (rLenSet X.w) := by
  intro pins s σ H xs us Q I r h
  obtain ⟨a, S, n, rfl, ha, n1, q⟩ := h
  have R := setO_get I ha
  rw [Vals.ref1 r]
  obtain ⟨o, es, ep, t, ho, hex, hd, g, nd, hm, hb, hf, hn, hr, hl⟩ := R
  exact call_len_set ho hex hd hf (by rw [hn] <;> omega) ⟨.int ((es.toList.map keyOf).length : Nat), H, I.tok _, ⟨_, by rw [List.length_map, Array.length_toList]⟩, q _ nd hm⟩
end L2
namespace L2
open PySem PySem.Spec PyProof.Rows
/-! ### x == y, x of a class of the text whose own __eq__ tells True or False -/
/-- the type of what stands on the right -/
inductive TyL (H : Hp) : V → Value → Prop where
  | non : TyL H .non (.type "NoneType")
  | int (i : Int) : TyL H (.int i) (.type "int")
  | str (x : Str) : TyL H (.str x) (.type "str")
  | tup {a : Addr} {xs : List V} (h : H a = some (.tup xs)) : TyL H (.ref a) (.type "tuple")
  | ins {a C dx : Addr} {fs : List (Str × V)} (h : H a = some (.ins C dx fs)) : TyL H (.ref a) (.ref C)
theorem TyL.looks {X : Cx} {pins : List (Addr × Obj)} {σ : St} {H : Hp} {s : Shared} {y : V} {u tb : Value} (ty : TyL H y tb) (I : Inv X pins σ H s) (r : RelV y u) : PySem.W.Looks (model X.prog X.w) s.heap (typeOf u) tb := by
  cases ty with
  | non =>
    cases r
    exact fun _ _ _ _ _ q => wpAny_of_eq rfl q
  | int i =>
    obtain ⟨t, rfl⟩ := r
    exact fun _ _ _ _ _ q => wpAny_of_eq rfl q
  | str x =>
    obtain ⟨t, rfl⟩ := r
    exact fun _ _ _ _ _ q => wpAny_of_eq rfl q
  | tup h =>
    cases r
    obtain ⟨its, _, tp, _⟩ := I.tuple (SqT.of h)
    obtain ⟨o, ho, hc, _⟩ := tp
    exact fun _ _ _ _ k q => wpAny_typeOf_ref (k _ _ ho) (by rw [hc]; exact q)
  | ins h =>
    cases r
    exact (ins_get I.hok h).choose_spec.1.look.choose_spec.1.type
section
variable {X : Cx} {CX : CXT} {C f : Addr} {fd : FuncData} {ps : List Str} {sp : Sp} {E : XK} {k : Nat}
def rEqO (K : PySem.W.Frag) (C : Addr) (sp : Sp) (E : XK) : R2 := fun x y H Q => ∃ (a dx : Addr) (fs : List (Str × V)) (tb : Value), x = .ref a ∧ H a = some (.ins C dx fs) ∧ TyL H y tb ∧ PySem.W.notFirst K C tb = true ∧ sp [.ref a, y] H (fun v H' => ∃ b, v = .bl b ∧ Q (.bl b) H') E
theorem op_eqO (F : FnOk X.prog X.w X.K X.mg X.base CX k f fd ps sp) (hs : PySem.W.findIn X.K (.ref C) "__eq__" = some (some (.ref f))) (hf : PySem.W.isFn X.K (.ref f) = true) (hb : Binds X.K fd ps []) (hx : Passes CX X E) (hr : Room k X.A) : OpR X (compareOp .Eq) (rEqO X.K C sp E) := by
  intro pins s σ H x y v u Q I rx ry h
  obtain ⟨a, dx, fs, tb, rfl, ha, ty, nf, hsp⟩ := h
  cases rx
  have J := (ins_get I.hok ha).choose_spec.1.look.choose_spec.1
  obtain ⟨m, hF⟩ := I.fr
  have sb : Sub X k X.A := ⟨hr, rfl⟩
  have e0 : Env0 X.prog X.w X.K X.mg X.base X.A X.stack s H := I.env0
  have bnd := hb s [.ref a, u] I.kIn (by simpa using F.len _ _ _ _ hsp)
  have run := F.run X.A X.stack s H ⟨[.ref a, u], []⟩ [.ref a, u] [.ref a, y] _ E sb.room e0 (by simpa using bnd) (.cons rfl (.cons ry .nil)) hsp
  refine (show wpAny (model X.prog X.w) X.A (richCompare .Eq (.ref a) u) (EP X pins σ Q) X.xe s from PySem.W.cmp_K (op := .Eq) (tb := tb) sb.room.units0 hF I.ok.mod.kin J (ty.looks I ry) nf hs hf (wpAny_call (codeAny_mono run fun r s' hq => ?_)))
  match r, hq with
  | .error e, hq => exact hx pins σ H s e s' I hq
  | .ok (.ret w), hq =>
    obtain ⟨z, H', I', rz, b, rfl, q⟩ := I.after hq
    cases rz
    exact ⟨.bl b, H', I', rfl, q⟩
  | .ok .next, hq | .ok .brk, hq | .ok .cont, hq => exact hq.elim
end
end L2
namespace L2
open PySem PySem.Spec PyProof.Rows
section
variable {P : Program} {w : World} {A : Around} {B : Value → Shared → Prop} {s : Shared} {K : PySem.W.Frag} {x C f : Addr} {u : Value} {ox : Obj} {od : Option Obj}
/-- object.__ne__ asks the own __eq__ -/
theorem ne_asks {Q : Value → Shared → Prop} (X : K.In s.heap) (J : PySem.W.InstAt s.heap x ox C od) (hu : A.in1.units < cLine) (hs : PySem.W.findIn K (.ref C) "__eq__" = some (some (.ref f))) (hf : PySem.W.isFn K (.ref f) = true) (hm : PySem.W.mroIn K C (.type "object") = some true)
    (h : wpAny (model P w) A.in1 (call (.ref f) [.ref x, u]) (fun v s' => ∃ b, v = .bool b ∧ Q (.bool (!b)) s') B s) : wpAny (model P w) A (call (.builtin "object.__ne__") [.ref x, u]) Q B s := by
  have inst : PySem.W.Looks (model P w) s.heap (isInstance (.ref x) (.type "object")) true := J.type.andThen (PySem.W.looks_mroIn X hm)
  refine wpAny_call (codeAny_call_builtin (F.cmp_object.ne.plain) F.cmpEntry_ne (PySem.W.check_slot F.cmpKind_ne F.cmpSplit_ne inst (F.cmpArgs_ne _ _) ?_))
  show wpAny (model P w) A.in1 (cRoomFor "comparison" [.ref x, u] >>= _) _ _ s
  refine wpAny_bind (wpAny_cRoomFor hu (wpAny_bind (PySem.W.ifBound_K X J hs hf (wpAny_mono h (fun v s' hv => ?_) fun _ _ e => e))))
  obtain ⟨b, rfl, q⟩ := hv
  exact wpAny_bind (wpAny_truthy_bool (wpAny_pure q))
/-- != of an instance whose class has object's __ne__ -/
theorem ne_bound {Q : Option Value → Shared → Prop} (X : K.In s.heap) (J : PySem.W.InstAt s.heap x ox C od) (hn : PySem.W.findIn K (.ref C) "__ne__" = some (some (.builtin "object.__ne__")))
    (h : wpAny (model P w) A (call (.builtin "object.__ne__") [.ref x, u]) (fun v => Q (some v)) B s) : wpAny (model P w) A (callSpecialIfBound? (.ref x) "__ne__" [u]) Q B s := by
  simp only [callSpecialIfBound?, bindSpecialIfBound?]
  have b : bindSpecial (.builtin "object.__ne__") (.ref x) = pure (.builtin "object.__ne__", [.ref x]) := F.cmp_object.ne.bind _
  have fin : wpAny (model P w) A (call (.builtin "object.__ne__") ([.ref x] ++ [u]) >>= fun v => pure (some v)) Q B s := wpAny_bind (wpAny_mono h (fun v s' h' => wpAny_pure h') fun _ _ e => e)
  refine wpAny_holding (wpAny_bind (wpAny_bind (wpAny_bind (J.type.here ((PySem.W.looks_findIn X hn).here ?_)))))
  simp only [b]
  refine wpAny_bind (wpAny_askSetting (wpAny_ite ?_))
  split
  · exact wpAny_bind (wpAny_pure (wpAny_pure fin))
  · exact wpAny_tryCatch (wpAny_bind (wpAny_pure (wpAny_pure fin)))
end
end L2
namespace L2
open PySem PySem.Spec PyProof.Rows
section
variable {X : Cx} {CX : CXT} {C f : Addr} {fd : FuncData} {ps : List Str} {sp : Sp} {E : XK} {k : Nat}
/-- x != y, x of a class of the text with an own __eq__ and object's __ne__ -/
def rNeO (K : PySem.W.Frag) (C : Addr) (sp : Sp) (E : XK) : R2 := fun x y H Q => ∃ (a dx : Addr) (fs : List (Str × V)) (tb : Value), x = .ref a ∧ H a = some (.ins C dx fs) ∧ TyL H y tb ∧ PySem.W.notFirst K C tb = true ∧ sp [.ref a, y] H (fun v H' => ∃ b, v = .bl b ∧ Q (.bl (!b)) H') E
theorem op_neO (F : FnOk X.prog X.w X.K X.mg X.base CX k f fd ps sp) (hs : PySem.W.findIn X.K (.ref C) "__eq__" = some (some (.ref f))) (hf : PySem.W.isFn X.K (.ref f) = true) (hn : PySem.W.findIn X.K (.ref C) "__ne__" = some (some (.builtin "object.__ne__"))) (hm : PySem.W.mroIn X.K C (.type "object") = some true)
    (hb : Binds X.K fd ps []) (hx : Passes CX X E) (hr : Room (k + 1) X.A) : OpR X (compareOp .NotEq) (rNeO X.K C sp E) := by
  intro pins s σ H x y v u Q I rx ry h
  obtain ⟨a, dx, fs, tb, rfl, ha, ty, nf, hsp⟩ := h
  cases rx
  have J := (ins_get I.hok ha).choose_spec.1.look.choose_spec.1
  have sb : Sub X k X.A.in1 := Sub.in1 ⟨hr, rfl⟩
  have s0 : Sub X (k + 1) X.A := ⟨hr, rfl⟩
  have e0 : Env0 X.prog X.w X.K X.mg X.base X.A.in1 X.stack s H := let e := I.env0; ⟨by rw [sb.fr, e.frames], e.mod, e.bs, e.bsz, e.funs, e.frf, e.hok, e.bare⟩
  have bnd := hb s [.ref a, u] I.kIn (by simpa using F.len _ _ _ _ hsp)
  have run := F.run X.A.in1 X.stack s H ⟨[.ref a, u], []⟩ [.ref a, u] [.ref a, y] _ E sb.room e0 (by simpa using bnd) (.cons rfl (.cons ry .nil)) hsp
  have one : wpAny (model X.prog X.w) X.A (tryCompare (.ref a) "__ne__" u) (fun r s' => ∃ v, r = some v ∧ EP X pins σ Q v s') X.xe s := by
    unfold tryCompare
    refine wpAny_bind (ne_bound I.kIn J hn (ne_asks I.kIn J sb.room.units0 hs hf hm (wpAny_call (codeAny_mono run fun r s' hq => ?_))))
    match r, hq with
    | .error e, hq => exact hx pins σ H s e s' I hq
    | .ok (.ret w), hq =>
      obtain ⟨z, H', I', rz, b, rfl, q⟩ := I.after hq
      cases rz
      exact ⟨b, rfl, wpAny_pure ⟨_, rfl, .bl (!b), H', I', rfl, q⟩⟩
    | .ok .next, hq | .ok .brk, hq | .ok .cont, hq => exact hq.elim
  refine (show wpAny (model X.prog X.w) X.A (richCompare .NotEq (.ref a) u) (EP X pins σ Q) X.xe s from ?_)
  unfold richCompare
  simp only [oneThing_ref]
  refine wpAny_holding (wpAny_bind (wpAny_cRoomFor s0.room.units0 (wpAny_bind (J.type.here (wpAny_bind ((ty.looks I ry).here ?_))))))
  have go : wpAny (model X.prog X.w) X.A (tryCompare (.ref a) "__ne__" u) (fun r s' => ∃ v, r = some v ∧ EP X pins σ Q v s') X.xe s := one
  split
  · rename_i q
    have e : PySem.W.subIn X.K tb (.ref C) = some false := (Bool.or_eq_true_iff.mp nf).elim (fun e => by rw [beq_iff_eq.mp e] at q; simp at q) fun e => beq_iff_eq.mp e
    refine wpAny_bind ((PySem.W.looks_subIn I.kIn e).here ?_)
    rw [if_neg Bool.false_ne_true]
    exact wpAny_bind (wpAny_mono go (fun r s' ⟨v, hv, hq⟩ => by subst hv; exact wpAny_pure hq) fun _ _ e => e)
  · refine wpAny_bind (wpAny_pure ?_)
    rw [if_neg Bool.false_ne_true]
    exact wpAny_bind (wpAny_mono go (fun r s' ⟨v, hv, hq⟩ => by subst hv; exact wpAny_pure hq) fun _ _ e => e)
end
end L2
namespace L2
open PySem PySem.Spec PyProof.Rows
/-! ### a, *b = a list of one item or more -/
section
variable {X : Cx} {pos : Pos}
theorem pgs_star {e : Expr} {p : Pos} {es : List Expr} {t : TG} {u : TGs} (h1 : PG X e t) (h2 : PGs X es u)
    (hs : (assignEach (.Starred e p :: es) X.env).map (·.2) = assign e X.env :: (assignEach es X.env).map (·.2) := by rfl) : PGs X (.Starred e p :: es) (gCons t u) := by
  refine ⟨fun pins s σ H vs us Q I r h => ?_⟩
  obtain ⟨v, vr, e1, h⟩ := h
  subst e1
  cases r with
  | cons r rr =>
    rw [hs]
    refine assignInOrder_cons (thn (h1.run pins s σ H _ _ _ I r h) fun _ s1 ⟨σ1, H1, I1, q1⟩ => ?_)
    exact h2.run pins s1 σ1 H1 _ _ Q I1 rr q1
def gUnS (K : PySem.W.Frag) (t : TGs) : TG := fun v σ H Q => ∃ a x xs, v = .ref a ∧ SqL K H a (x :: xs) ∧ ∀ D, H D = none → t [x, .ref D] σ (upd H D (.lst xs)) Q
theorem pg_unS {es : List Expr} {k : Nat} {t : TGs} (hc : X.calm = true) (h : PGs X es t)
    (hn : (assignEach es X.env).length = 2 := by rfl) (hst : (assignEach es X.env).findIdx? (·.1) = some 1 := by rfl) : PG X (.Tuple es k pos) (gUnS X.K t) := by
  refine ⟨fun pins s σ H v u Q I r hw => ?_⟩
  obtain ⟨a, x, xs, e1, hq, hw⟩ := hw
  subst e1
  cases r
  obtain ⟨its, rv, pl, hz⟩ := I.list hq
  have hl : s.heap.IsList a its.toArray := by
    obtain ⟨o, m, e, c, d, q⟩ := pl
    exact ⟨o, e, c, m, q⟩
  cases rv with
  | @cons _ y _ ys rx rr =>
    have hlen := rr.length
    have hz' : ys.length + 1 ≤ sizeLine := by
      rw [List.length_cons] at hz
      omega
    have hsz : (y :: ys).toArray.size = ys.length + 1 := by simp
    have hlt : a ≠ s.heap.objs.size := by obtain ⟨o, ho, _⟩ := hl; exact Nat.ne_of_lt (Heap.lt_size ho)
    rw [PyProof.Rows.assign_Tuple]
    refine wpAny_bind (wpAny_standAt ?_)
    unfold unpack
    rw [hn, hst]
    refine wpAny_bind (wpAny_holding ?_)
    unfold unpackItems
    refine wpAny_bind ?_
    unfold notIterableAtAll
    refine wpAny_bind (wpAny_specialOf hl.typeIs PySem.F.slot_list_iter.lookup ?_)
    refine wpAny_pure ?_
    simp only [Bool.false_eq_true, if_false]
    refine wpAny_bind (wpAny_holding (wpAny_pyIter_list hl ?_))
    refine wpAny_bind (wpAny_holding (PySem.W.kun_draw hlt 1 0 _ _ ⟨_, Heap.get?_push_size _ rfl, rfl, rfl⟩ (hl.push _) (by omega) fun h₁ hit₁ hs₁ => ?_))
    have hl₁ : h₁.IsList a (y :: ys).toArray := (hl.push _).extBut hs₁.extBut hlt
    have hit₂ := hit₁
    obtain ⟨oi, hoi, _⟩ := hit₂
    have hl₂ := hl₁
    obtain ⟨ol, hol, _⟩ := hl₂
    rw [List.drop_zero]
    have hf : ((y :: ys).toArray.toList.take 1) = [y] := by simp
    rw [hf, if_neg (by show ¬ (1 < 1); decide)]
    refine wpAny_bind (wpAny_holding (PySem.W.kun_collect (s := { s with heap := h₁ }) (T := "list_iterator") (.inr (.inr (.inl rfl))) (Walks.list (A := X.A.in1) (I.ok.hd hc) s.heap.objs.size a hlt (y :: ys).toArray) (fun j u st => st.1.typeIs) (k := 1) (by omega) ⟨hit₁, hl₁⟩ (Heap.lt_size hoi) (Heap.lt_size hol) (fun h₂ tk hk => ?_) (by omega)))
    have hd : ((y :: ys).toArray.toList.drop 1) = ys := by simp
    rw [hd]
    show wpAny _ _ (if ys.length < 2 - 1 - 1 then _ else _) _ _ _
    rw [if_neg (by omega)]
    show wpAny _ _ (newList (ys.take (ys.length - (2 - 1 - 1))) >>= fun d => pure ([y] ++ [d] ++ ys.drop (ys.length - (2 - 1 - 1)))) _ _ _
    rw [show ys.length - (2 - 1 - 1) = ys.length by omega, List.take_length, List.drop_length]
    have he : ∀ b o, s.heap.get? b = some o → h₂.get? b = some o := fun b o e => hk b o (Nat.ne_of_lt (Heap.lt_size e)) (hs₁.extBut b o (Nat.ne_of_lt (Heap.lt_size e)) (Heap.get?_push_of_some _ e))
    have I2 : Inv X pins σ H { s with heap := h₂, toks := tk } := I.kept (t' := tk) he
    refine wpAny_bind (wpAny_newList (wpAny_pure ?_) (by omega))
    have I1 : Inv X pins σ (upd H h₂.objs.size (.lst xs)) { s with heap := h₂.push { cls := .type "list", data := .seq ys.toArray }, toks := tk } := I2.laid (t' := tk) (fun b o e => Heap.get?_push_of_some _ e) (Nat.le_refl _) ⟨by omega, ys, 0, rr, Heap.get?_push_size _ rfl⟩
    exact h.run pins _ σ _ [x, .ref h₂.objs.size] [y, .ref h₂.objs.size] Q I1 (.cons rx (.cons rfl .nil)) (hw _ (I2.hok.fresh (Nat.le_refl _)))
end
end L2
namespace L2
open PySem PySem.Spec PyProof.Rows
/-! ### an instance made by a name of the def: cls(..) -/
section
variable {X : Cx} {CX : CXT} {C f : Addr} {fd : FuncData} {ps : List Str} {sp : Sp} {E : XK} {k : Nat} {x : Str} {e : Expr} {es : List Expr} {t : TA} {tf : TE} {p pos : Pos} {ds : List Value} {dvs : List V}
def tMakeC (C : Addr) (sp : Sp) (dvs : List V) (E : XK) (tf : TE) (t : TA) : TE := fun σ H Q => tf σ H fun y H1 => y = .ref C ∧ tMake C sp dvs E t σ H1 Q
theorem pe_makeC (hn : PE X (.Name x p) tf) (M : Mk X.K C f) (F : FnOk X.prog X.w X.K X.mg X.base CX k f fd ps sp) (hr : Room (k + 1) X.A) (hb : Binds X.K fd ps ds) (hd : Vals dvs ds) (hx : Passes CX X E)
    (ha : PA X (e :: es) t) (he : starEach (e :: es) X.env = (false, eval e X.env) :: starEach es X.env := by rfl) (hpl : (backTo pos (starEach es X.env)).any (·.1) = false := by rfl) :
    PE X (.Call (.Name x p) (e :: es) [] pos) (tMakeC C sp dvs E tf t) := by
  refine ⟨fun pins s σ H Q I h => ?_⟩
  refine wpAny_Call_Name_kw (thn (hn.run pins s σ H _ I h) fun u s1 ⟨y, H1, I1, ry, ey, q⟩ => ?_)
  subst ey
  obtain rfl : u = Value.ref C := ry
  refine PySem.W.callWith_K (h₀ := X.base) I1.ok.mod.kin M.kp (thn (ha.run pos pins s1 σ H1 _ I1 q) fun us s2 ⟨vs, H2, I2, r, q2⟩ => ⟨I2.kIn, ?_⟩) he hpl
  exact run_make M F hr hb hd hx I2 r q2
end
end L2
namespace L2
open PySem PySem.Spec PyProof.Rows RZ
/-! ### zip of two sequences, each a list (true) or a tuple (false) -/
def JtB (b : Bool) (h : Heap) (i l : Addr) (k : Nat) : Prop := if b = true then h.IsListIter i l k else h.IsTupleIter i l k
def SeqB (b : Bool) (h : Heap) (l : Addr) (xs : Array Value) : Prop := if b = true then h.IsList l xs else h.IsTuple l xs
theorem JtB.ext {b : Bool} {h g : Heap} {i l c : Addr} {k : Nat} (x : JtB b h i l k) (e : Heap.ExtBut c h g) (n : i ≠ c) : JtB b g i l k := by
  cases b
  · exact Heap.IsTupleIter.extBut (show h.IsTupleIter i l k from x) e n
  · exact Heap.IsListIter.extBut (show h.IsListIter i l k from x) e n
theorem JtB.at {b : Bool} {h g : Heap} {i l : Addr} {k : Nat} (x : JtB b h i l k) (e : ∀ o, h.get? i = some o → g.get? i = some o) : JtB b g i l k := by
  cases b
  · exact Heap.IsTupleIter.at (show h.IsTupleIter i l k from x) e
  · exact Heap.IsListIter.at (show h.IsListIter i l k from x) e
theorem JtB.ob {b : Bool} {h : Heap} {i l : Addr} {k : Nat} (x : JtB b h i l k) : ∃ o, h.get? i = some o ∧ ∀ v, o.data ≠ .cell v := by
  cases b
  · obtain ⟨o, e, _, d⟩ := (show h.IsTupleIter i l k from x)
    exact ⟨o, e, fun v q => by rw [d] at q; cases q⟩
  · obtain ⟨o, e, _, d⟩ := (show h.IsListIter i l k from x)
    exact ⟨o, e, fun v q => by rw [d] at q; cases q⟩
theorem SeqB.ext {b : Bool} {h g : Heap} {l c : Addr} {xs : Array Value} (x : SeqB b h l xs) (e : Heap.ExtBut c h g) (n : l ≠ c) : SeqB b g l xs := by
  cases b
  · exact Heap.IsTuple.extBut (show h.IsTuple l xs from x) e n
  · exact Heap.IsList.extBut (show h.IsList l xs from x) e n
theorem SeqB.lt {b : Bool} {h : Heap} {l : Addr} {xs : Array Value} (x : SeqB b h l xs) : l < h.objs.size := by
  cases b
  · obtain ⟨o, e, _⟩ := (show h.IsTuple l xs from x)
    exact Heap.lt_size e
  · obtain ⟨o, e, _⟩ := (show h.IsList l xs from x)
    exact Heap.lt_size e
section
variable {P : Program} {w : World} {A : Around} {E : Value → Shared → Prop} {s : Shared}
theorem nextB_item {b : Bool} {i l : Addr} {k : Nat} {xs : Array Value} {x : Value} {Q : Value → Shared → Prop} (hi : JtB b s.heap i l k) (hl : SeqB b s.heap l xs) (hx : xs[k]? = some x)
    (q : ∀ g, JtB b g i l (k + 1) → Heap.SameBut i s.heap g → Q x { s with heap := g }) : wpAny (model P w) A (Builtin.SmallTypes.nextOf (.ref i)) Q E s := by
  cases b
  · exact nextOf_tuple_item (show s.heap.IsTupleIter i l k from hi) (show s.heap.IsTuple l xs from hl) hx q
  · exact wpAny_nextOf_list_item (show s.heap.IsListIter i l k from hi) (show s.heap.IsList l xs from hl) hx q
theorem nextB_end {b : Bool} {i l : Addr} {k : Nat} {xs : Array Value} {Q : Value → Shared → Prop} (hh : A.handled = none) (hi : JtB b s.heap i l k) (hl : SeqB b s.heap l xs) (hx : xs[k]? = none)
    (q : ∀ g e, Heap.ExtBut i s.heap g → (∃ o, g.get? e = some o ∧ o.cls = .type "StopIteration") → E (.ref e) { s with heap := g }) : wpAny (model P w) A (Builtin.SmallTypes.nextOf (.ref i)) Q E s := by
  cases b
  · exact nextOf_tuple_end hh (show s.heap.IsTupleIter i l k from hi) (show s.heap.IsTuple l xs from hl) hx q
  · exact wpAny_nextOf_list_end hh (show s.heap.IsListIter i l k from hi) (show s.heap.IsList l xs from hl) hx q
variable {b c : Bool} {z U O i j l m : Addr} {p q : Nat} {xs ys : Array Value} {u v : Value}
/-- zip's step: both sides have an item -/
theorem zipB_item {x y : Value} {Q : Value → Shared → Prop} (D : ZipApart z U O i j l m) (hz : IsZip s.heap z U O .none) (hU : IsPair s.heap U (.ref i) (.ref j)) (hO : IsPair s.heap O u v)
    (hi : JtB b s.heap i l p) (hj : JtB c s.heap j m q) (hl : SeqB b s.heap l xs) (hm : SeqB c s.heap m ys) (hx : xs[p]? = some x) (hy : ys[q]? = some y)
    (kk : ∀ g, IsZip g z U O (rawInt s.heap.objs.size) → IsPair g O x y → JtB b g i l (p + 1) → JtB c g j m (q + 1) → IsPair g s.heap.objs.size x y → g.objs.size = s.heap.objs.size + 1 →
      (∀ a o, a ≠ z → a ≠ O → a ≠ i → a ≠ j → s.heap.get? a = some o → g.get? a = some o) → Q (.ref s.heap.objs.size) { s with heap := g }) :
    wpAny (model P w) A (Builtin.«zip.__next__» ⟨[.ref z], []⟩) (fun f t => ∃ v, f = .done (.ret v) ∧ Q v t) E s := by
  show wpAny _ _ (field (.ref z) 2 >>= _) _ E _
  refine wpAny_bind (wpAny_field hz rfl (x := .bool false) rfl (?_ : _))
  show wpAny _ _ (field (.ref z) 3 >>= _) _ E _
  refine wpAny_bind (wpAny_field hz rfl (x := .ref U) rfl ?_)
  refine wpAny_bind (wpAny_seqItems hU rfl ?_)
  show wpAny _ _ (Builtin.SmallTypes.ownedTupleIsFree (.ref z) >>= _) _ E _
  refine wpAny_bind ?_
  unfold Builtin.SmallTypes.ownedTupleIsFree
  refine wpAny_bind (wpAny_field hz rfl (x := .none) rfl (wpAny_pure (?_ : _)))
  simp only [if_true]
  refine wpAny_bind (wpAny_rule ?_)
  refine wpAny_bind (wpAny_field hz rfl (x := .ref O) rfl ?_)
  refine wpAny_bind (wpAny_setField_rec hz (by simp) fun g1 zg1 b1 => ?_)
  replace zg1 : IsZip g1 z U O .ellipsis := zg1
  refine wpAny_bind ?_
  simp only [List.zipIdx_cons, List.zipIdx_nil, List.forIn_nil, List.forIn_cons]
  refine wpAny_bind (wpAny_bind (wpAny_onRaise (?_ : _)))
  show wpAny _ _ (Builtin.SmallTypes.nextOf (.ref i) >>= _) _ _ _
  refine wpAny_bind (nextB_item (hi.ext b1.extBut D.i1z) (hl.ext b1.extBut D.l1z) hx fun g2 i2 b2 => wpAny_pure ?_)
  have O2 : IsPair g2 O u v := b2.extBut _ _ D.TOi1 (b1.extBut _ _ D.TOz hO)
  refine wpAny_bind (wpAny_seqItems O2 rfl ?_)
  refine wpAny_bind (wpAny_updateSeq_pair O2 fun g3 O3 b3 => ?_)
  replace O3 : IsPair g3 O x v := O3
  refine wpAny_bind (wpAny_letGo (wpAny_pure (?_ : _)))
  refine wpAny_bind (wpAny_bind (wpAny_onRaise (?_ : _)))
  show wpAny _ _ (Builtin.SmallTypes.nextOf (.ref j) >>= _) _ _ _
  refine wpAny_bind (nextB_item (((hj.ext b1.extBut D.i2z).ext b2.extBut D.i12.symm).ext b3.extBut D.TOi2.symm) (((hm.ext b1.extBut D.l2z).ext b2.extBut D.l2i1).ext b3.extBut D.l2TO) hy fun g4 j4 b4 => wpAny_pure ?_)
  have O4 : IsPair g4 O x v := b4.extBut _ _ D.TOi2 O3
  refine wpAny_bind (wpAny_seqItems O4 rfl ?_)
  refine wpAny_bind (wpAny_updateSeq_pair O4 fun g5 O5 b5 => ?_)
  replace O5 : IsPair g5 O x y := O5
  refine wpAny_bind (wpAny_letGo (wpAny_pure (wpAny_pure (?_ : _))))
  refine wpAny_bind (wpAny_seqItems O5 rfl ?_)
  refine wpAny_bind (wpAny_newTuple (?_ : _))
  have sz : g5.objs.size = s.heap.objs.size := by rw [b5.1, b4.1, b3.1, b2.1, b1.1]
  have z5 : IsZip g5 z U O .ellipsis := b5.extBut _ _ D.TOz.symm (b4.extBut _ _ D.i2z.symm (b3.extBut _ _ D.TOz.symm (b2.extBut _ _ D.i1z.symm zg1)))
  have k5 : ∀ a o, a ≠ z → a ≠ O → a ≠ i → a ≠ j → s.heap.get? a = some o → g5.get? a = some o := fun a o a1 a2 a3 a4 e =>
    b5.extBut _ _ a2 (b4.extBut _ _ a4 (b3.extBut _ _ a2 (b2.extBut _ _ a3 (b1.extBut _ _ a1 e))))
  have i5 : JtB b g5 i l (p + 1) := ((i2.ext b3.extBut D.TOi1.symm).ext b4.extBut D.i12).ext b5.extBut D.TOi1.symm
  have j5 : JtB c g5 j m (q + 1) := j4.ext b5.extBut D.TOi2.symm
  have zlt : z < g5.objs.size := Heap.lt_size z5
  show wpAny _ _ (Builtin.SmallTypes.ownedTupleHandOut (.ref z) (.ref g5.objs.size) >>= _) _ _ _
  refine wpAny_bind ?_
  unfold Builtin.SmallTypes.ownedTupleHandOut
  have z6 : IsZip (g5.push { cls := .type "tuple", data := .seq #[x, y] }) z U O .ellipsis := Heap.get?_push_of_some _ z5
  refine wpAny_bind (wpAny_setField_rec z6 (by simp) fun g7 z7 b7 => ?_)
  replace z7 : IsZip g7 z U O (rawInt g5.objs.size) := z7
  refine wpAny_setField_rec z7 (by simp) fun g8 z8 b8 => ?_
  replace z8 : IsZip g8 z U O (rawInt g5.objs.size) := z8
  have up : ∀ a o, a ≠ z → g5.get? a = some o → g8.get? a = some o := fun a o a1 e => b8.extBut _ _ a1 (b7.extBut _ _ a1 (Heap.get?_push_of_some _ e))
  have T8 : IsPair g8 g5.objs.size x y := b8.extBut _ _ (Nat.ne_of_gt zlt) (b7.extBut _ _ (Nat.ne_of_gt zlt) (Heap.get?_push_size _ rfl))
  have s8 : g8.objs.size = g5.objs.size + 1 := by rw [b8.1, b7.1, Heap.size_push]
  rw [sz] at z8 T8 s8
  refine wpAny_pure ⟨_, rfl, (?_ : _)⟩
  show Q (.ref g5.objs.size) _
  rw [sz]
  exact kk g8 z8 (up _ _ D.TOz O5) (i5.at fun o e => up _ o D.i1z e) (j5.at fun o e => up _ o D.i2z e) T8 s8 fun a o a1 a2 a3 a4 e => up a o a1 (k5 a o a1 a2 a3 a4 e)
/-- zip's step: one side has come to its end -/
theorem zipB_end {Q : Fin → Shared → Prop} (hh : A.handled = none) (D : ZipApart z U O i j l m) (hz : IsZip s.heap z U O .none) (hU : IsPair s.heap U (.ref i) (.ref j)) (hO : IsPair s.heap O u v)
    (hi : JtB b s.heap i l p) (hj : JtB c s.heap j m q) (hl : SeqB b s.heap l xs) (hm : SeqB c s.heap m ys) (he : xs[p]? = none ∨ ys[q]? = none)
    (kk : ∀ g e, (∀ a o, a ≠ z → a ≠ O → a ≠ i → a ≠ j → s.heap.get? a = some o → g.get? a = some o) → (∃ o, g.get? e = some o ∧ o.cls = .type "StopIteration") → E (.ref e) { s with heap := g }) :
    wpAny (model P w) A (Builtin.«zip.__next__» ⟨[.ref z], []⟩) Q E s := by
  show wpAny _ _ (field (.ref z) 2 >>= _) _ E _
  refine wpAny_bind (wpAny_field hz rfl (x := .bool false) rfl (?_ : _))
  show wpAny _ _ (field (.ref z) 3 >>= _) _ E _
  refine wpAny_bind (wpAny_field hz rfl (x := .ref U) rfl ?_)
  refine wpAny_bind (wpAny_seqItems hU rfl ?_)
  show wpAny _ _ (Builtin.SmallTypes.ownedTupleIsFree (.ref z) >>= _) _ E _
  refine wpAny_bind ?_
  unfold Builtin.SmallTypes.ownedTupleIsFree
  refine wpAny_bind (wpAny_field hz rfl (x := .none) rfl (wpAny_pure (?_ : _)))
  simp only [if_true]
  refine wpAny_bind (wpAny_rule ?_)
  refine wpAny_bind (wpAny_field hz rfl (x := .ref O) rfl ?_)
  refine wpAny_bind (wpAny_setField_rec hz (by simp) fun g1 zg1 b1 => ?_)
  replace zg1 : IsZip g1 z U O .ellipsis := zg1
  refine wpAny_bind ?_
  simp only [List.zipIdx_cons, List.zipIdx_nil, List.forIn_nil, List.forIn_cons]
  refine wpAny_bind (wpAny_bind (wpAny_onRaise (?_ : _)))
  show wpAny _ _ (Builtin.SmallTypes.nextOf (.ref i) >>= _) _ _ _
  cases hx : xs[p]? with
  | none =>
    refine wpAny_bind (nextB_end hh (hi.ext b1.extBut D.i1z) (hl.ext b1.extBut D.l1z) hx fun g2 e b2 st => ?_)
    obtain ⟨oe, he1, he2⟩ := st
    have z2 : IsZip g2 z U O .ellipsis := b2 _ _ D.i1z.symm zg1
    have ez : e ≠ z := fun x => by
      subst x
      rw [z2] at he1
      cases he1
      simp at he2
    exact wpAny_setField_rec z2 (by simp) fun g3 _ b3 => kk g3 e (fun a o a1 _ a3 _ x => b3.extBut _ _ a1 (b2 _ _ a3 (b1.extBut _ _ a1 x))) ⟨oe, b3.extBut _ _ ez he1, he2⟩
  | some x =>
    have hy : ys[q]? = none := he.resolve_left (by rw [hx]; exact fun n => nomatch n)
    refine wpAny_bind (nextB_item (hi.ext b1.extBut D.i1z) (hl.ext b1.extBut D.l1z) hx fun g2 i2 b2 => wpAny_pure ?_)
    have O2 : IsPair g2 O u v := b2.extBut _ _ D.TOi1 (b1.extBut _ _ D.TOz hO)
    refine wpAny_bind (wpAny_seqItems O2 rfl ?_)
    refine wpAny_bind (wpAny_updateSeq_pair O2 fun g3 O3 b3 => ?_)
    refine wpAny_bind (wpAny_letGo (wpAny_pure (?_ : _)))
    refine wpAny_bind (wpAny_bind (wpAny_onRaise (?_ : _)))
    show wpAny _ _ (Builtin.SmallTypes.nextOf (.ref j) >>= _) _ _ _
    refine wpAny_bind (nextB_end hh (((hj.ext b1.extBut D.i2z).ext b2.extBut D.i12.symm).ext b3.extBut D.TOi2.symm) (((hm.ext b1.extBut D.l2z).ext b2.extBut D.l2i1).ext b3.extBut D.l2TO) hy fun g4 e b4 st => ?_)
    obtain ⟨oe, he1, he2⟩ := st
    have z4 : IsZip g4 z U O .ellipsis := b4 _ _ D.i2z.symm (b3.extBut _ _ D.TOz.symm (b2.extBut _ _ D.i1z.symm zg1))
    have ez : e ≠ z := fun x => by
      subst x
      rw [z4] at he1
      cases he1
      simp at he2
    exact wpAny_setField_rec z4 (by simp) fun g5 _ b5 => kk g5 e (fun a o a1 a2 a3 a4 x => b5.extBut _ _ a1 (b4 _ _ a4 (b3.extBut _ _ a2 (b2.extBut _ _ a3 (b1.extBut _ _ a1 x))))) ⟨oe, b5.extBut _ _ ez he1, he2⟩
theorem nextZ_item {x y : Value} {Q : Option Value → Shared → Prop} (D : ZipApart z U O i j l m) (hz : IsZip s.heap z U O .none) (hU : IsPair s.heap U (.ref i) (.ref j)) (hO : IsPair s.heap O u v)
    (hi : JtB b s.heap i l p) (hj : JtB c s.heap j m q) (hl : SeqB b s.heap l xs) (hm : SeqB c s.heap m ys) (hx : xs[p]? = some x) (hy : ys[q]? = some y)
    (kk : ∀ g, IsZip g z U O (rawInt s.heap.objs.size) → IsPair g O x y → JtB b g i l (p + 1) → JtB c g j m (q + 1) → IsPair g s.heap.objs.size x y → g.objs.size = s.heap.objs.size + 1 →
      (∀ a o, a ≠ z → a ≠ O → a ≠ i → a ≠ j → s.heap.get? a = some o → g.get? a = some o) → Q (some (.ref s.heap.objs.size)) { s with heap := g }) :
    wpAny (model P w) A (pyNext (.ref z)) Q E s := by
  have ty : s.TypeIs (.ref z) "zip" := ⟨_, hz, rfl⟩
  unfold pyNext
  exact wpAny_bind (wpAny_attempt (wpAny_callSpecial?_slot (name := Str.ofString "__next__") ty F.slot_zip_next (wpAny_call_entry F.slot_zip_next ty F.entry_zip_next
    (zipB_item D hz hU hO hi hj hl hm hx hy fun g a1 a2 a3 a4 a5 a6 a7 => wpAny_pure (kk g a1 a2 a3 a4 a5 a6 a7)) (F.args_zip_next_1 _))))
theorem nextZ_end {Q : Option Value → Shared → Prop} (hh : A.handled = none) (D : ZipApart z U O i j l m) (hz : IsZip s.heap z U O .none) (hU : IsPair s.heap U (.ref i) (.ref j)) (hO : IsPair s.heap O u v)
    (hi : JtB b s.heap i l p) (hj : JtB c s.heap j m q) (hl : SeqB b s.heap l xs) (hm : SeqB c s.heap m ys) (he : xs[p]? = none ∨ ys[q]? = none)
    (kk : ∀ g, (∀ a o, a ≠ z → a ≠ O → a ≠ i → a ≠ j → s.heap.get? a = some o → g.get? a = some o) → Q none { s with heap := g }) : wpAny (model P w) A (pyNext (.ref z)) Q E s := by
  have ty : s.TypeIs (.ref z) "zip" := ⟨_, hz, rfl⟩
  unfold pyNext
  refine wpAny_bind (wpAny_attempt (wpAny_callSpecial?_slot (name := Str.ofString "__next__") ty F.slot_zip_next (wpAny_call_entry F.slot_zip_next ty F.entry_zip_next
    (zipB_end hh D hz hU hO hi hj hl hm he fun g e hk st => ?_) (F.args_zip_next_1 _))))
  obtain ⟨o, h1, h2⟩ := st
  refine wpAny_bind (wpAny_isInstance (T := "StopIteration") (b := true) ⟨o, h1, h2⟩ isSubtype_stop (?_ : _))
  exact wpAny_pure (kk _ hk)
end
/-! ### zip made -/
def itName (b : Bool) : String := if b = true then "list_iterator" else "tuple_iterator"
abbrev zb1 (b : Bool) (h : Heap) (l : Addr) : Heap := h.push { cls := .type (itName b), data := .fields #[.ref l, .int 0 0] }
abbrev zb2 (b c : Bool) (h : Heap) (l m : Addr) : Heap := (zb1 b h l).push { cls := .type (itName c), data := .fields #[.ref m, .int 0 0] }
abbrev zb3 (b c : Bool) (h : Heap) (l m : Addr) : Heap := (zb2 b c h l m).push { cls := .type "tuple", data := .seq #[.ref h.objs.size, .ref (zb1 b h l).objs.size] }
abbrev zb4 (b c : Bool) (h : Heap) (l m : Addr) : Heap := (zb3 b c h l m).push { cls := .type "tuple", data := .seq #[.none, .none] }
abbrev zb5 (b c : Bool) (h : Heap) (l m : Addr) : Heap := (zb4 b c h l m).push { cls := .type "zip", data := .fields #[.none, .bool false, .bool false, .ref (zb2 b c h l m).objs.size, .ref (zb3 b c h l m).objs.size] }
theorem zipB_new (b c : Bool) (l m : Addr) (xs ys : Array Value) :
    Meets (Builtin.«zip.__new__» ⟨[.type "zip", .ref l, .ref m], []⟩) (fun _ R s => SeqB b s.heap l xs ∧ SeqB c s.heap m ys ∧ R (.ok (.ret (.ref (zb4 b c s.heap l m).objs.size))) { s with heap := zb5 b c s.heap l m }) :=
  .of_wp fun prog w A R s h => by
    obtain ⟨hp, g, d, tk, os⟩ := s
    obtain ⟨hl, hm, k⟩ := h
    have sb := sub_zip
    cases b <;> cases c
    · have L : Heap.IsTuple (Shared.heap ⟨hp, g, d, tk, os⟩) l xs := hl
      have M : Heap.IsTuple (Shared.heap ⟨hp.push { cls := .type "tuple_iterator", data := .fields #[.ref l, .int 0 0] }, g, d, tk, os⟩) m ys := Heap.IsTuple.push (show Heap.IsTuple hp m ys from hm) _
      wp_walk using wpAny_pyIter_tuple L, wpAny_pyIter_tuple M
      exact ⟨_, rfl, k⟩
    · have L : Heap.IsTuple (Shared.heap ⟨hp, g, d, tk, os⟩) l xs := hl
      have M : Heap.IsList (Shared.heap ⟨hp.push { cls := .type "tuple_iterator", data := .fields #[.ref l, .int 0 0] }, g, d, tk, os⟩) m ys := Heap.IsList.push (show Heap.IsList hp m ys from hm) _
      wp_walk using wpAny_pyIter_tuple L, wpAny_pyIter_list M
      exact ⟨_, rfl, k⟩
    · have L : Heap.IsList (Shared.heap ⟨hp, g, d, tk, os⟩) l xs := hl
      have M : Heap.IsTuple (Shared.heap ⟨hp.push { cls := .type "list_iterator", data := .fields #[.ref l, .int 0 0] }, g, d, tk, os⟩) m ys := Heap.IsTuple.push (show Heap.IsTuple hp m ys from hm) _
      wp_walk using wpAny_pyIter_list L, wpAny_pyIter_tuple M
      exact ⟨_, rfl, k⟩
    · have L : Heap.IsList (Shared.heap ⟨hp, g, d, tk, os⟩) l xs := hl
      have M : Heap.IsList (Shared.heap ⟨hp.push { cls := .type "list_iterator", data := .fields #[.ref l, .int 0 0] }, g, d, tk, os⟩) m ys := Heap.IsList.push (show Heap.IsList hp m ys from hm) _
      wp_walk using wpAny_pyIter_list L, wpAny_pyIter_list M
      exact ⟨_, rfl, k⟩
theorem jtB_new {b : Bool} {h : Heap} {i l : Addr} (e : h.get? i = some { cls := .type (itName b), data := .fields #[.ref l, .int 0 0] }) : JtB b h i l 0 := by
  cases b
  · exact ⟨_, e, rfl, rfl⟩
  · exact ⟨_, e, rfl, rfl⟩
section
variable {P : Program} {w : World} {A : Around} {E : Value → Shared → Prop} {s : Shared}
theorem zipB_call {b c : Bool} {l m : Addr} {xs ys : Array Value} {Q : Value → Shared → Prop} (hl : SeqB b s.heap l xs) (hm : SeqB c s.heap m ys)
    (k : ∀ g, IsZip g (s.heap.objs.size + 4) (s.heap.objs.size + 2) (s.heap.objs.size + 3) .none → IsPair g (s.heap.objs.size + 2) (.ref s.heap.objs.size) (.ref (s.heap.objs.size + 1)) →
      IsPair g (s.heap.objs.size + 3) .none .none → JtB b g s.heap.objs.size l 0 → JtB c g (s.heap.objs.size + 1) m 0 → (∀ a o, s.heap.get? a = some o → g.get? a = some o) → Q (.ref (s.heap.objs.size + 4)) { s with heap := g }) :
    wpAny (model P w) A (call (.type "zip") [.ref l, .ref m]) Q E s := by
  refine callType_new F.called_zip (by decide) (F.typeCall_zip_2 _ _) (F.newCall_zip_2 _ _) (fun o => F.args_object_init_3 o _ _) F.entry_zip_new (zipB_new b c l m xs ys) ⟨hl, hm, ?_⟩
  have e1 : (zb1 b s.heap l).objs.size = s.heap.objs.size + 1 := Heap.size_push ..
  have e2 : (zb2 b c s.heap l m).objs.size = s.heap.objs.size + 2 := by rw [Heap.size_push, e1]
  have e3 : (zb3 b c s.heap l m).objs.size = s.heap.objs.size + 3 := by rw [Heap.size_push, e2]
  have e4 : (zb4 b c s.heap l m).objs.size = s.heap.objs.size + 4 := by rw [Heap.size_push, e3]
  have f5 : (zb5 b c s.heap l m).get? (zb4 b c s.heap l m).objs.size = some _ := Heap.get?_push_size _ rfl
  have f4 : (zb5 b c s.heap l m).get? (zb3 b c s.heap l m).objs.size = some _ := Heap.get?_push_of_some _ (Heap.get?_push_size _ rfl)
  have f3 : (zb5 b c s.heap l m).get? (zb2 b c s.heap l m).objs.size = some _ := Heap.get?_push_of_some _ (Heap.get?_push_of_some _ (Heap.get?_push_size _ rfl))
  have f2 : (zb5 b c s.heap l m).get? (zb1 b s.heap l).objs.size = some _ := Heap.get?_push_of_some _ (Heap.get?_push_of_some _ (Heap.get?_push_of_some _ (Heap.get?_push_size _ rfl)))
  have f1 : (zb5 b c s.heap l m).get? s.heap.objs.size = some _ := Heap.get?_push_of_some _ (Heap.get?_push_of_some _ (Heap.get?_push_of_some _ (Heap.get?_push_of_some _ (Heap.get?_push_size _ rfl))))
  show _ ∧ _
  rw [e2, e3, e4] at f5
  rw [e1, e2] at f3
  rw [e3] at f4
  rw [e1] at f2
  rw [e4]
  exact ⟨⟨_, f5, rfl⟩, k _ f5 f3 f4 (jtB_new f1) (jtB_new f2) fun a o x => Heap.get?_push_of_some _ (Heap.get?_push_of_some _ (Heap.get?_push_of_some _ (Heap.get?_push_of_some _ (Heap.get?_push_of_some _ x))))⟩
end
/-! ### the rule -/
def SqZ (K : PySem.W.Frag) (b : Bool) (H : Hp) (a : Addr) (xs : List V) : Prop := if b = true then SqL K H a xs else SqT K H a xs
def ItZ (K : PySem.W.Frag) (b c : Bool) (l m : Addr) : It :=
  ⟨fun i H => ∃ (xs ys : List V) (x y : V), SqZ K b H l xs ∧ SqZ K c H m ys ∧ xs[i]? = some x ∧ ys[i]? = some y,
    fun i H v H' => ∃ T x y, v = .ref T ∧ H T = none ∧ H' = upd H T (.tup [x, y]) ∧ (∀ xs, SqZ K b H l xs → xs[i]? = some x) ∧ ∀ ys, SqZ K c H m ys → ys[i]? = some y,
    fun i H => ∃ xs ys : List V, SqZ K b H l xs ∧ SqZ K c H m ys ∧ (xs.length ≤ i ∨ ys.length ≤ i)⟩
theorem Inv.sqZ {X : Cx} {pins : List (Addr × Obj)} {σ : St} {H : Hp} {s : Shared} {b : Bool} {a : Addr} {xs : List V} (I : Inv X pins σ H s) (h : SqZ X.K b H a xs) : ∃ its, Vals xs its ∧ SeqB b s.heap a its.toArray := by
  cases b
  · obtain ⟨its, rv, p, _⟩ := I.tuple (show SqT X.K H a xs from h)
    exact ⟨its, rv, p⟩
  · obtain ⟨its, rv, p, _⟩ := I.list (show SqL X.K H a xs from h)
    exact ⟨its, rv, p.isList⟩
theorem Inv.sqZ_inj {X : Cx} {pins : List (Addr × Obj)} {σ : St} {H : Hp} {s : Shared} {b : Bool} {a : Addr} {xs ys : List V} (I : Inv X pins σ H s) (h : SqZ X.K b H a xs) (h' : SqZ X.K b H a ys) : xs = ys := by
  cases b
  · exact I.tuple_inj (show SqT X.K H a xs from h) (show SqT X.K H a ys from h')
  · exact I.list_inj (show SqL X.K H a xs from h) (show SqL X.K H a ys from h')
theorem turnZ {P : Program} {w : World} {K : PySem.W.Frag} {elts : List Expr} {n : Nat} {tpos : Pos} {b c : Bool} {l m z U O i j : Addr} (D : ZipApart z U O i j l m) :
    Turn P w K (.Tuple elts n tpos) (ItZ K b c l m) [z, U, O, i, j] z (fun p h => IsZip h z U O .none ∧ IsPair h U (.ref i) (.ref j) ∧ (∃ x y, IsPair h O x y) ∧ JtB b h i l p ∧ JtB c h j m p) where
  mem := by simp
  obj := fun p h st a ha => by
    obtain ⟨hz, hU, ⟨x, y, hO⟩, hi, hj⟩ := st
    have e : a = z ∨ a = U ∨ a = O ∨ a = i ∨ a = j := by simpa using ha
    rcases e with e | e | e | e | e <;> subst e
    · exact ⟨_, hz, fun v q => nomatch q⟩
    · exact ⟨_, hU, fun v q => nomatch q⟩
    · exact ⟨_, hO, fun v q => nomatch q⟩
    · exact hi.ob
    · exact hj.ob
  keep := fun p h g st k => by
    obtain ⟨hz, hU, ⟨x, y, hO⟩, hi, hj⟩ := st
    exact ⟨k z (by simp) _ hz, k U (by simp) _ hU, ⟨x, y, k O (by simp) _ hO⟩, hi.at fun o q => k i (by simp) o q, hj.at fun o q => k j (by simp) o q⟩
  item := by
    intro X hP hw hK hc p pins s σ H E I hf st hg
    subst hP hw hK
    obtain ⟨hz, hU, ⟨x0, y0, hO⟩, hi, hj⟩ := st
    obtain ⟨xs, ys, x, y, qx, qy, hx, hy⟩ := hg
    obtain ⟨its, rv, px⟩ := I.sqZ qx
    obtain ⟨jts, rw', py⟩ := I.sqZ qy
    obtain ⟨a1, ha1, ra1⟩ := rv.get hx
    obtain ⟨a2, ha2, ra2⟩ := rw'.get hy
    have zl : z < s.heap.objs.size := Heap.lt_size hz
    refine nextZ_item D hz hU hO hi hj px py (x := a1) (y := a2) (by simpa using ha1) (by simpa using ha2) fun g z' O' i' j' hT sz hk => ?_
    refine ⟨_, rfl, wpAny_letOwnedTupleGo_zip (s := { s with heap := g }) z' fun g2 z2 sb => ?_⟩
    have T2 : g2.get? s.heap.objs.size = some { cls := .type "tuple", data := .seq #[a1, a2] } := (sb.2 _ (Nat.ne_of_gt zl)).trans hT
    have nw : ObjOk X.prog X.w (upd H s.heap.objs.size (.tup [x, y])) g2 s.heap.objs.size (.tup [x, y]) := ⟨by show 2 ≤ sizeLine; decide, [a1, a2], .cons ra1 (.cons ra2 .nil), ⟨_, T2, rfl, _, rfl⟩⟩
    have out : ∀ a o, a ∉ [z, U, O, i, j] → s.heap.get? a = some o → g2.get? a = some o := fun a o ha q =>
      (sb.2 a (fun r => ha (by simp [r]))).trans (hk a o (fun r => ha (by simp [r])) (fun r => ha (by simp [r])) (fun r => ha (by simp [r])) (fun r => ha (by simp [r])) q)
    have I1 : Inv X pins σ (upd H s.heap.objs.size (.tup [x, y])) { s with heap := g2 } := I.turnedNew (t' := s.toks) (ch := [z, U, O, i, j]) out hf (Nat.le_refl _) nw
    refine ⟨.ref s.heap.objs.size, _, I1, rfl, ⟨_, x, y, rfl, I.hok.fresh (Nat.le_refl _), rfl, fun l hl => by rw [I.sqZ_inj hl qx]; exact hx, fun l hl => by rw [I.sqZ_inj hl qy]; exact hy⟩, ⟨z2, ?_, ⟨a1, a2, ?_⟩, ?_, ?_⟩, fun a ha => ?_⟩
    · exact (sb.2 _ D.TIz).trans (hk _ _ D.TIz D.TITO D.TIi1 D.TIi2 hU)
    · exact (sb.2 _ D.TOz).trans O'
    · exact i'.at fun o q => (sb.2 _ D.i1z).trans q
    · exact j'.at fun o q => (sb.2 _ D.i2z).trans q
    · have lt : a < s.heap.objs.size := by
        have e : a = z ∨ a = U ∨ a = O ∨ a = i ∨ a = j := by simpa using ha
        rcases e with e | e | e | e | e <;> subst e
        · exact zl
        · exact Heap.lt_size hU
        · exact Heap.lt_size hO
        · obtain ⟨_, q, _⟩ := hi.ob
          exact Heap.lt_size q
        · obtain ⟨_, q, _⟩ := hj.ob
          exact Heap.lt_size q
      rw [upd_ne (Nat.ne_of_lt lt)]
      exact (hf a ha).1
  done := by
    intro X hP hw hK hc p pins s σ H E I hf st hg
    subst hP hw hK
    obtain ⟨hz, hU, ⟨x0, y0, hO⟩, hi, hj⟩ := st
    obtain ⟨xs, ys, qx, qy, he⟩ := hg
    obtain ⟨its, rv, px⟩ := I.sqZ qx
    obtain ⟨jts, rw', py⟩ := I.sqZ qy
    have n1 := rv.length
    have n2 := rw'.length
    have hh : its.toArray[p]? = none ∨ jts.toArray[p]? = none := by
      rcases he with q | q
      · exact .inl (by simp; omega)
      · exact .inr (by simp; omega)
    exact nextZ_end (I.ok.hd hc) D hz hU hO hi hj px py hh fun g hk => ⟨rfl, I.turnedL (t' := s.toks) (ch := [z, U, O, i, j]) (fun a o ha q =>
      hk a o (fun r => ha (by simp [r])) (fun r => ha (by simp [r])) (fun r => ha (by simp [r])) (fun r => ha (by simp [r])) q) hf⟩
  self := fun A p s Q E st h => wpAny_pyIter_zip st.1 h
def iZipZ (K : PySem.W.Frag) (ta : TA) : TI := fun σ H R => ta σ H fun vs H1 => ∃ (b c : Bool) (l m : Addr) (xs ys : List V), vs = [.ref l, .ref m] ∧ SqZ K b H1 l xs ∧ SqZ K c H1 m ys ∧ R (ItZ K b c l m) H1
theorem pi_zipZ {X : Cx} {e e2 : Expr} {ta : TA} {p pos tpos : Pos} {elts : List Expr} {n : Nat} (hg : Gl X "zip") (hm : X.mg "zip" = none) (ha : PA X [e, e2] ta)
    (hs : starEach [e, e2] X.env = (false, eval e X.env) :: starEach [e2] X.env := by rfl) (hp : (backTo pos (starEach [e2] X.env)).any (·.1) = false := by rfl) :
    PI X (.Tuple elts n tpos) (.Call (.Name "zip" p) [e, e2] [] pos) (iZipZ X.K ta) := by
  refine ⟨fun pins s σ H R I h => ?_⟩
  refine Call_ (ld_blt I hg hm PyProof.Rows.boot_zip (PyProof.Rows.callWith_type1 (thn (ha.run pos pins s σ H _ I h) fun us s1 ⟨vs, H1, I1, r1, q1⟩ => (?_ : _)) hs hp))
  obtain ⟨b, c, l, m, xs, ys, rfl, qx, qy, q⟩ := q1
  cases r1 with
  | cons r rr =>
    cases rr with
    | cons r' rr =>
      cases rr
      cases r
      cases r'
      have five : ∀ a, a ∈ [s1.heap.objs.size + 4, s1.heap.objs.size + 2, s1.heap.objs.size + 3, s1.heap.objs.size, s1.heap.objs.size + 1] → FpOk X pins H1 a := fun a ha => by
        have e : a = s1.heap.objs.size + 4 ∨ a = s1.heap.objs.size + 2 ∨ a = s1.heap.objs.size + 3 ∨ a = s1.heap.objs.size ∨ a = s1.heap.objs.size + 1 := by simpa using ha
        have le : s1.heap.objs.size ≤ a := by
          rcases e with e | e | e | e | e <;> subst e
          all_goals first | exact Nat.le_refl _ | exact Nat.le_add_right _ _
        exact I1.fpOk le (I1.hok.fresh le)
      obtain ⟨its, rv, px⟩ := I1.sqZ qx
      obtain ⟨jts, rw', py⟩ := I1.sqZ qy
      refine zipB_call px py fun g hz hU hO hi hj hk => wpAny_pyIter_zip hz ?_
      have I2 : Inv X pins σ H1 { s1 with heap := g } := I1.kept (t' := s1.toks) hk
      exact ⟨s1.heap.objs.size + 4, [s1.heap.objs.size + 4, s1.heap.objs.size + 2, s1.heap.objs.size + 3, s1.heap.objs.size, s1.heap.objs.size + 1], _, _, H1, rfl, I2, turnZ (PySem.W.ktu_apart s1.heap.objs.size l m px.lt py.lt), ⟨hz, hU, ⟨_, _, hO⟩, hi, hj⟩, five, q⟩
/-- a loop over zip of two sequences of one length -/
theorem for_zipZ {K : PySem.W.Frag} {b c : Bool} {l m : Addr} {xs ys : List V} {g : TG} {tb : TS} {D : Ends} {σ : L2.St} {H : Hp} (hl : xs.length = ys.length) (Pv : Nat → L2.St → Hp → Prop) (h0 : Pv 0 σ H) (hq : ∀ i σ H, Pv i σ H → SqZ K b H l xs ∧ SqZ K c H m ys)
    (one : ∀ (i : Nat) (x y : V) (T : Addr) (σ : L2.St) (H : Hp), xs[i]? = some x → ys[i]? = some y → Pv i σ H → H T = none → g (.ref T) σ (upd H T (.tup [x, y])) fun σ2 H2 => tb { D with nx := Pv (i + 1), ct := Pv (i + 1), bk := D.nx } σ2 H2) (fin : ∀ σ H, Pv xs.length σ H → D.nx σ H) :
    ∃ W : Nat → Nat → L2.St → Hp → Prop, (∃ n, W 0 n σ H) ∧ ∀ i n σ H, W i n σ H →
      ((ItZ K b c l m).stop i H ∧ D.nx σ H) ∨ ((ItZ K b c l m).go i H ∧ ∃ N : L2.St → Hp → Prop, (∀ σ' H', N σ' H' → ∃ n', n' < n ∧ W (i + 1) n' σ' H') ∧ ∀ v H', (ItZ K b c l m).yld i H v H' → g v σ H' fun σ2 H2 => tb { D with nx := N, ct := N, bk := D.nx } σ2 H2) := by
  refine ⟨fun i n σ H => n = xs.length - i ∧ i ≤ xs.length ∧ Pv i σ H, ⟨xs.length, rfl, Nat.zero_le _, h0⟩, ?_⟩
  rintro i n σ H ⟨rfl, hi, pp⟩
  obtain ⟨qx, qy⟩ := hq i σ H pp
  by_cases lt : i < xs.length
  · have lt2 : i < ys.length := by omega
    refine .inr ⟨⟨xs, ys, _, _, qx, qy, List.getElem?_eq_getElem lt, List.getElem?_eq_getElem lt2⟩, Pv (i + 1), fun σ' H' p' => ⟨xs.length - (i + 1), by omega, rfl, lt, p'⟩, fun v H' yl => ?_⟩
    obtain ⟨T, x', y', rfl, hT, rfl, f1, f2⟩ := yl
    exact one i x' y' T σ H (f1 xs qx) (f2 ys qy) pp hT
  · have e : i = xs.length := by omega
    subst e
    exact .inl ⟨⟨xs, ys, qx, qy, Or.inl (Nat.le_refl _)⟩, fin σ H pp⟩
theorem walk_zipZ {K : PySem.W.Frag} {b c : Bool} {l m : Addr} {xs ys : List V} {n : Nat} (hn : n = min xs.length ys.length) : Walk (ItZ K b c l m) n (fun H => SqZ K b H l xs ∧ SqZ K c H m ys) (YPair (fun i => xs[i]?) (fun i => ys[i]?)) := by
  subst hn
  refine ⟨fun i _ hi q => ?_, fun _ q => ⟨xs, ys, q.1, q.2, by omega⟩, fun i H v H' _ q y => ?_⟩
  · have h1 : i < xs.length := by omega
    have h2 : i < ys.length := by omega
    exact ⟨xs, ys, xs[i], ys[i], q.1, q.2, List.getElem?_eq_getElem h1, List.getElem?_eq_getElem h2⟩
  · obtain ⟨T, x, z, f1, f2, f3, f4, f5⟩ := y
    exact ⟨T, x, z, f1, f2, f3, f4 xs q.1, f5 ys q.2⟩
end L2
namespace PySem
namespace SupX
open PySem.W PySem.Calls PyProof.Rows PySem.HandSPX
/-! ### an own error made by keyword: C(f = v) -/
section
variable {M : Model} {A : Around} {E : Value → Shared → Prop} {h : Heap} {g : Array GenState} {d : Drawn} {t : Nat} {os : OsState}
variable {nm q : Str} {C N : Addr} {bs bm bmB : List Value} {hdct : Bool} {sn : List Str} {sub : List Value} {ab : Bool} {col : Option Bool} {dd : Option Addr} {k0 k1 k2 k3 k5 : Option Value} {B newId initId : String} {f : Str} {v : Value}
theorem kw_check_new (F : ExcBaseFacts B newId initId bmB) (hT : ∀ X : String, bm.contains (.type X) = bmB.contains (.type X)) {Q : Unit → Shared → Prop}
    (hC : h.get? C = some (excClassObj nm q C N bs bm hdct sn sub ab col dd k0 k1 k2 k3 k5 newId)) (hq : Q () ⟨h, g, d, t, os⟩) : wpAny M A (checkBuiltinCall newId ⟨[.ref C], [(f, v)]⟩) Q E ⟨h, g, d, t, os⟩ := by
  have hcont : (Value.ref C :: bm).contains (.type B) = true := by rw [List.contains_cons, hT, F.hasB, Bool.or_true]
  have hstar := F.noStar
  simp only [checkBuiltinCall, F.newKind, F.newSplit, F.newRow]
  repeat (first | refine wpAny_loadPart_at hC ?_ | (refine wpAny_isSubtype_exc hC ?_; rw [hcont]) | refine wpAny_staticBase_exc hC ?_ | refine wpAny_madeBy_exc hC ?_ | simp only [bne_self_eq_false, Bool.false_eq_true, if_false] | wp_step)
  exact hq
theorem kw_check_type {Q : Unit → Shared → Prop} (hC : h.get? C = some (excClassObj nm q C N bs bm hdct sn sub ab col dd k0 k1 k2 k3 k5 newId))
    (hq : Q () ⟨h, g, d, t, os⟩) : wpAny M A (checkBuiltinCall "type.__call__" ⟨[.ref C], [(f, v)]⟩) Q E ⟨h, g, d, t, os⟩ := by
  have f3 := tc_sub
  have hT : (⟨h, g, d, t, os⟩ : Shared).TypeIs (.ref C) "type" := ⟨_, hC, rfl⟩
  simp only [checkBuiltinCall, tc_kind, tc_split]
  repeat (any_goals (first | assumption | with_reducible refine wpAny_loadPart_at hC ?_ | with_reducible refine wpAny_onRaise ?_ | with_reducible refine wpAny_map ?_ | wp_step))
end
section
variable {prog : Program} {w : World} {A : Around} {E : Value → Shared → Prop} {R : Result → Shared → Prop} {h : Heap} {g : Array GenState} {d : Drawn} {t : Nat} {os : OsState}
variable {nm q : Str} {C N : Addr} {bs bm bmB : List Value} {hdct : Bool} {sn : List Str} {sub : List Value} {ab : Bool} {col : Option Bool} {dd : Option Addr} {k0 k1 k2 k3 k5 : Option Value} {B newId initId : String} {f : Str} {v : Value}
theorem kw_new (F : ExcBaseFacts B newId initId bmB) (hT : ∀ X : String, bm.contains (.type X) = bmB.contains (.type X))
    (hC : h.get? C = some (excClassObj nm q C N bs bm hdct sn sub ab col dd k0 k1 k2 k3 k5 newId))
    (hq : R (.ok (.ret (.ref (h.objs.size + 1)))) ⟨(h.push { cls := .type "tuple", data := .seq ([] : List Value).toArray }).push
      { cls := .ref C, data := .fields #[.ref h.objs.size, .none, .none, .none, .bool false, .none] }, g, d, t, os⟩) :
    codeAny (model prog w) A (.builtin newId ⟨[.ref C], [(f, v)]⟩) R ⟨h, g, d, t, os⟩ := by
  have hrest : ([] : List Value).length ≤ sizeLine := Nat.zero_le _
  have hends := F.ends
  have hcB : (Value.ref C :: bm).contains (.type B) = true := by rw [List.contains_cons, hT, F.hasB, Bool.or_true]
  have hcA : (Value.ref C :: bm).contains (.type "AttributeError") = false := by rw [List.contains_cons, hT, F.noAttr]; rfl
  have hcN : (Value.ref C :: bm).contains (.type "NameError") = false := by rw [List.contains_cons, hT, F.noName]; rfl
  refine codeAny_builtinAt F.entry ?_
  unfold Builtin.«BaseException.__new__»
  refine wpAt_bind ?_
  show wpAt _ _ _ (stack >>= _) _ _ _
  refine wpAt_bind (wpAt_stack fun p below => wpAt_of_wpAny ?_)
  wp_walk
  refine wpAt_of_wpAny ?_
  rw [F.owner]
  repeat (first | with_reducible refine wpAny_madeHere_exc F.canon hC ?_ | with_reducible refine wpAny_loadPart_at hC ?_ | (with_reducible refine wpAny_isSubtype_exc hC ?_; first | rw [hcB] | rw [hcA] | rw [hcN]) | wp_step)
  show R _ _
  rw [Heap.size_push]
  exact hq
theorem kw_type_call (F : ExcBaseFacts B newId initId bmB) (hT : ∀ X : String, bm.contains (.type X) = bmB.contains (.type X)) {fI : Addr} {Q : Fin → Shared → Prop}
    (hC : h.get? C = some (excClassObj nm q C N bs bm hdct sn sub ab col dd k0 k1 k2 k3 k5 newId))
    (hi : W.Looks (model prog w) h (typeLookup (.ref C) "__init__") (some (.ref fI))) (hb : ∀ self, W.Looks (model prog w) h (bindSpecial (.ref fI) self) (.ref fI, [self]))
    (hq : codeAny (model prog w) A (.call (.ref fI) ⟨[.ref (h.objs.size + 1)], [(f, v)]⟩)
      (fun r s' => match r with | .ok (.ret v) => v = .none ∧ Q (.done (.ret (.ref (h.objs.size + 1)))) s' | .ok _ => False | .error e => E e s')
      ⟨(h.push (W.kdv_tup [])).push (excO C h.objs.size), g, d, t, os⟩) :
    wpAny (model prog w) A (Builtin.«type.__call__» ⟨[.ref C], [(f, v)]⟩) Q E ⟨h, g, d, t, os⟩ := by
  repeat (first | with_reducible refine wpAny_loadPart_at hC ?_ | with_reducible refine wpAny_madeBy_exc hC ?_ | wp_step)
  refine codeAny_call_builtin_code (Code.quiet_builtin _ F.quiet) (kw_check_new F hT hC ?_)
  refine kw_new F hT hC ?_
  show wpAny _ _ _ _ _ _
  have k : ∀ b o, h.get? b = some o → ((h.push (W.kdv_tup [])).push (excO C h.objs.size)).get? b = some o := fun b o e => Heap.get?_push_of_some _ (Heap.get?_push_of_some _ e)
  have hC₁ := k _ _ hC
  have hget : ((h.push (W.kdv_tup [])).push (excO C h.objs.size)).get? (h.objs.size + 1) = some (excO C h.objs.size) := by heap_get
  have hcC : (Value.ref C :: bm).contains (.ref C) = true := by simp
  have i1 := hi.keeps k
  have b1 := (hb (.ref (h.objs.size + 1))).keeps k
  unfold isInstance
  repeat (first | with_reducible refine wpAny_loadPart_at hget ?_ | (with_reducible refine wpAny_isSubtype_exc hC₁ ?_; rw [hcC]) | wp_step)
  show wpAny _ _ (typeLookup (.ref C) _) _ _ _
  refine i1.at ?_
  refine wpAny_holding (wpAny_bind (b1.at ?_))
  refine wpAny_bind (wpAny_call (codeAny_mono hq fun r s' z => ?_))
  rcases r with e | (v | _ | _ | _) <;> first | exact z | exact z.elim | skip
  obtain ⟨rfl, z⟩ := z
  first
    | exact wpAny_pure (wpAny_pure z)
    | (wp_walk; exact z)
theorem kw_call_own (F : ExcBaseFacts B newId initId bmB) (hT : ∀ X : String, bm.contains (.type X) = bmB.contains (.type X)) {fI : Addr}
    (hC : h.get? C = some (excClassObj nm q C N bs bm hdct sn sub ab col dd k0 k1 k2 k3 k5 newId))
    (hi : W.Looks (model prog w) h (typeLookup (.ref C) "__init__") (some (.ref fI))) (hb : ∀ self, W.Looks (model prog w) h (bindSpecial (.ref fI) self) (.ref fI, [self]))
    (hq : codeAny (model prog w) (A.under (.builtin "type.__call__" ⟨[.ref C], [(f, v)]⟩)) (.call (.ref fI) ⟨[.ref (h.objs.size + 1)], [(f, v)]⟩) (W.InitBack (h.objs.size + 1) R)
      ⟨(h.push (W.kdv_tup [])).push (excO C h.objs.size), g, d, t, os⟩) :
    codeAny (model prog w) A (.call (.ref C) ⟨[], [(f, v)]⟩) R ⟨h, g, d, t, os⟩ := by
  have f1 := tc_lookup
  have f2 := tc_bind (.ref C)
  have hTy : (⟨h, g, d, t, os⟩ : Shared).TypeIs (.ref C) "type" := ⟨_, hC, rfl⟩
  refine codeAny_of_tree ?_
  show wpAny _ _ (callAny (.ref C) _) _ _ _
  repeat (any_goals (first | assumption | with_reducible refine wpAny_loadPart_at hC ?_ | wp_step))
  refine ⟨rfl, ?_⟩
  refine codeAny_call_builtin_at (Code.quiet_builtin _ (by decide +kernel)) entry_typeCall (kw_check_type hC (kw_type_call F hT hC hi hb ?_))
  refine codeAny_mono hq fun r s' z => ?_
  rcases r with e | (v | _ | _ | _) <;> exact z
end
end SupX
end PySem
namespace PySem
namespace SupX
open PySem.W PySem.Calls PyProof.Rows PySem.HandSPX
/-- its __init__ takes the field by its name -/
def KwB (K : Frag) (fI : Addr) (f : Str) : Prop := ∀ (oc : Value) (od : Option Addr) (fd : FuncData) (osl : Array (Option Value)), K.lookup fI = some ⟨oc, od, .func fd, osl⟩ → ∀ a v : Value, bindArgs fd ⟨[a], [(f, v)]⟩ = pure [(("self" : Str), a), (f, v)]
section
variable {prog : Program} {w : World} {A : Around} {E : Value → Shared → Prop} {R : Result → Shared → Prop} {s : Shared} {K : Frag} {mg : Str → Option Value} {C fI : Addr} {x f : Str}
theorem kw_sup_init (T : ClsTxt prog K mg C fI x) (Tf : FnTxt prog K C fI f) (Tk : KwB K fI f) {e t0 : Addr} {v : Value} (X : K.In s.heap) (G : s.heap.Ns mainGlobals mg) {mb : Str → Option Value} (B : s.heap.Ns builtinsNs mb) (hb : mb "super" = some (.type "super"))
    (hlim : s.heap.NoLimit) (hx : s.heap.get? e = some (excO C t0)) (hnx : K.lookup e = none) (hroom : A.depth < recursionLimit)
    (hq : ∀ h' tk dx t1, InitEnd s.heap h' e C dx t1 f v → R (.ok (.ret .none)) { s with heap := h', toks := tk }) :
    codeAny (model prog w) A (.call (.ref fI) ⟨[.ref e], [(f, v)]⟩) R s := by
  obtain ⟨oc, doc, pm, kV, ct, od, an, osl, tx, qual, k0, p1, p2, q1, q2, q3, q4, q5, q6, q7, q8, q9, q10, cda, cc, vs, file, tf, ccl, cl, cdd, cld, ccs, csl, fd, rfl, ho, hcd, _, hcode, hvs, hfile, hcell, ⟨pl, he⟩, hsw, hsw0⟩ := Tf.fn
  have hbind := Tk _ _ _ _ ho
  obtain ⟨nm, q, N, bs, bm, sn, sub, ab, col, dd, j0, j1, j2, j3, j5, hC, hbm⟩ := T.cls
  obtain ⟨cd, oD, hcl, hD1, hD2⟩ := cls_of T X
  refine ks_codeAny_call_defAt (body := iB f tx k0 q1 q2 q3 q4 q5 q6 q7 q8 q9 q10) hroom (X _ _ ho) rfl hlim (codeRec_of X hcd) rfl (BindsTo.of_eq (hbind (.ref e) v)) ?_ ?_ (fun h₁ hn hk => ?_) rfl rfl rfl
  · show ∀ y ∈ (iS f).names, y.2 ≠ .cell
    intro y hy
    unfold iS at hy
    simp only [List.mem_cons, List.not_mem_nil, or_false] at hy
    rcases hy with rfl | rfl | rfl | rfl <;> (intro z; cases z)
  · show ∀ y ∈ ([(("self" : Str), Value.ref e), (f, v)] : List (Str × Value)), (iS f).names.lookup y.1 = some .local
    intro y hy
    simp only [List.mem_cons, List.not_mem_nil, or_false] at hy
    rcases hy with rfl | rfl
    · rfl
    · exact Tf.lf
  have X1 : K.In h₁ := X.keeps hk
  have hx1 := hk _ _ hx
  have hD1' := hk _ _ hD1
  have vS : ([(("self" : Str), Value.ref e), (f, v)] : List (Str × Value)).reverse.lookup ("self" : Str) = some (.ref e) := by
    show List.lookup ("self" : Str) [(f, v), (("self" : Str), Value.ref e)] = some (.ref e)
    rw [List.lookup_cons, Tf.sf]
    rfl
  have vF : ([(("self" : Str), Value.ref e), (f, v)] : List (Str × Value)).reverse.lookup f = some v := by
    show List.lookup f [(f, v), (("self" : Str), Value.ref e)] = some v
    rw [List.lookup_cons, beq_self_eq_true]
  have hI1 : InstAt h₁ e (excO C t0) C none := ⟨hx1, rfl, rfl, trivial⟩
  refine ks_wpAt_execs_cons (ks_wpAt_Expr_any (ks_wpAt_MethodCall (pl := pl) (ks_wpAt_super_base Tf.ls Tf.lc rfl rfl (X1 _ _ ho) rfl rfl rfl (X1 _ _ hcode) rfl hvs hfile T.htop ?_) (he _)) rfl (hsw0 _))
  refine ks_loadName_global rfl Tf.ls (loadGlobal_builtin (G.keeps hk) T.msup (B.keeps hk) hb ⟨rfl, ?_⟩)
  refine wpAny_loadName_free rfl Tf.lc rfl ⟨_, X1 _ _ hcell, rfl⟩ ?_
  refine wpAny_loadName_local rfl rfl hn vS ?_
  refine ks_wpAny_isType_cls hD1' hD2 ⟨rfl, ?_⟩
  refine ks_wpAny_call_super hD1' hD2 hx1 rfl (fun c z => by cases z) (looks_mroIn X1 T.mro) (fun h₂ e2 k2 => ?_)
  have hk2 : ∀ b o, s.heap.get? b = some o → h₂.get? b = some o := fun b o z => k2 b o (hk b o z)
  have X2 : K.In h₂ := X.keeps hk2
  have hx2 := k2 _ _ hx1
  have hI2 : InstAt h₂ e (excO C t0) C none := ⟨hx2, rfl, rfl, trivial⟩
  have hsup := T.sup
  unfold ks_superIn at hsup
  rw [hcl] at hsup
  refine kxs_getMethod kxs_ValueError e2 (looks_opaque X2 T.st) (l₀ := cd.mro) (fun A Q E s k q => wpAny_bind ((looks_clsIn X2 hcl) A _ E s k (wpAny_pure q))) rfl X2 hsup (hI2.type.andThen (looks_subIn X2 T.sve)) (ks_ne X2 hI2 hcl) rfl ?_
  refine kxs_callWith (i := "ValueError.__init__") (x := e) rfl (evalArgs_plain ?_)
  refine spliced_cons (wpAny_Constant_str (k := k0) (pos := q4) (spliced_nil ?_))
  have hx3 : (h₂.push (kxs_mw "ValueError.__init__" e)).get? e = some (excO C t0) := Heap.get?_push_of_some _ hx2
  refine ⟨Heap.get?_push_size _ rfl, ?_⟩
  refine ve_init (t0 := t0) (Heap.get?_push_of_some _ (X2 _ _ hC)) hx3 (Heap.get?_push_size _ rfl) (one_size _) fun h₃ t1 k3 hx4 => ?_
  have hk3 : ∀ b o, b ≠ e → s.heap.get? b = some o → h₃.get? b = some o := fun b o hb z => k3 b o hb (Heap.get?_push_of_some _ (hk2 b o z))
  have X3 : K.In h₃ := fun a o z => hk3 a o (fun q => by rw [q, hnx] at z; cases z) (X a o z)
  have hL : e ≠ s.heap.objs.size := Nat.ne_of_lt (Heap.lt_size hx)
  have hn3 : h₃.Ns s.heap.objs.size fun y => ([(("self" : Str), Value.ref e), (f, v)] : List (Str × Value)).reverse.lookup y := by
    obtain ⟨oL, es, ep, q, r⟩ := hn
    exact ⟨oL, es, ep, k3 _ _ (Ne.symm hL) (Heap.get?_push_of_some _ (k2 _ _ q)), r⟩
  refine wpAt_of_wpAny ?_
  refine wpAny_execs_cons (plainObj_wpAny_Assign_Attribute ?_ (hsw _))
  refine ESX.ldL hn3 vF (ESX.ldL hn3 vS ?_ rfl rfl (by decide)) rfl Tf.lf Tf.nd
  refine set_plain X3 (ox := excO C t1) (od := none) ⟨hx4, rfl, rfl, trivial⟩ T.sa ?_
  have hcd2 : clsIn K C = some { name := nm, bases := bs, mro := .ref C :: bm, ns := N, qualname := q, hasDict := true, slotNames := sn, subclasses := sub, abstract := ab, collection := col, hasDel := false } := by unfold clsIn; rw [hC] <;> rfl
  refine exc_osa X3 hx4 hcd2 (show refsVE (.ref C :: bm) = true from hbm) rfl Tf.noN (fun h₄ tk₄ dx k₄ dn dne hx₄ hn₄ => ?_)
  refine wpAny_execs_nil (hq h₄ tk₄ dx t1 ⟨fun b o hb z => k₄ b o hb (hk3 b o hb z), hx₄, ?_, dne, hn₄⟩)
  have z1 : h₂.objs.size < h₃.objs.size := by
    have z := k3 h₂.objs.size _ (fun q => ?_) (Heap.get?_push_size (o := kxs_mw "ValueError.__init__" e) h₂ rfl)
    · exact Heap.lt_size z
    · exact Nat.lt_irrefl _ (Nat.lt_of_lt_of_eq (Heap.lt_size hx2) q)
  have z2 : s.heap.objs.size < h₂.objs.size := by
    obtain ⟨oL, es, ep, q, r⟩ := hn
    exact Heap.lt_size (k2 _ _ q)
  exact Nat.le_of_lt (Nat.lt_trans z2 (Nat.lt_of_lt_of_le z1 dn))
theorem kw_sup_made (T : ClsTxt prog K mg C fI x) (Tf : FnTxt prog K C fI f) (Tk : KwB K fI f) {v : Value} (X : K.In s.heap) (G : s.heap.Ns mainGlobals mg) {mb : Str → Option Value} (B : s.heap.Ns builtinsNs mb) (hb : mb "super" = some (.type "super"))
    (hlim : s.heap.NoLimit) (hroom : A.depth + 1 < recursionLimit)
    (hq : ∀ h' tk e d, Made s.heap h' e C d f v → R (.ok (.ret (.ref e))) { s with heap := h', toks := tk }) :
    codeAny (model prog w) A (.call (.ref C) ⟨[], [(f, v)]⟩) R s := by
  obtain ⟨nm, q, N, bs, bm, sn, sub, ab, col, dd, k0, k1, k2, k3, k5, hC, hbm⟩ := T.cls
  obtain ⟨hp, g, dr, tk, os⟩ := s
  have k : ∀ b o, hp.get? b = some o → ((hp.push (kdv_tup [])).push (excO C hp.objs.size)).get? b = some o := fun b o e => Heap.get?_push_of_some _ (Heap.get?_push_of_some _ e)
  have hget : ((hp.push (kdv_tup [])).push (excO C hp.objs.size)).get? (hp.objs.size + 1) = some (excO C hp.objs.size) := by heap_get
  have hnx : K.lookup (hp.objs.size + 1) = none := by
    cases e : K.lookup (hp.objs.size + 1) with
    | none => rfl
    | some o => exact absurd (Nat.lt_of_succ_lt (Heap.lt_size (X _ _ e))) (Nat.lt_irrefl _)
  refine kw_call_own F.excBase_ValueError (fun Y => refsVE_contains Y bm hbm) (X _ _ hC) (looks_findIn X T.iC) (fun self => bind_fn X self T.tC) ?_
  refine kw_sup_init (s := ⟨(hp.push (kdv_tup [])).push (excO C hp.objs.size), g, dr, tk, os⟩) T Tf Tk (X.keeps k) (G.keeps k) (B.keeps k) hb (hlim.keeps k) hget hnx ?_ fun h' tk' dx t1 ⟨k', hx, dn, dne, hns⟩ => ?_
  · show A.depth + 1 < recursionLimit
    exact hroom
  have old : ∀ b o, hp.get? b = some o → h'.get? b = some o := fun b o e => k' b o (Nat.ne_of_lt (Nat.lt_succ_of_lt (Heap.lt_size e))) (k b o e)
  have z : hp.objs.size + 1 + 1 ≤ dx := by
    have q := dn
    rw [Heap.size_push, Heap.size_push] at q
    exact q
  exact ⟨rfl, hq h' tk' (hp.objs.size + 1) dx ⟨old, Nat.le_succ _, ⟨_, _, hx, rfl, rfl, rfl, rfl⟩, Nat.le_trans (Nat.le_trans (Nat.le_succ _) (Nat.le_succ _)) z, dne, hns⟩⟩
end
end SupX
end PySem
namespace L2
open PySem PySem.Spec PyProof.Rows
section
variable {X : Cx} {C fI : Addr} {x f : Str}
/-- C(f = e).f -/
def tMkf (tk : TA) : TE := fun σ H Q => tk σ H fun vs H1 => ∃ v, vs = [v] ∧ Q v H1
theorem pe_mkf {kws : List Keyword} {tk : TA} {p pos pos2 : Pos} {k : Nat} (T : PySem.SupX.ClsTxt X.prog X.K X.mg C fI x) (Tf : PySem.SupX.FnTxt X.prog X.K C fI f) (Tk : PySem.SupX.KwB X.K fI f) (hr : Room k X.A) (hkw : PK X kws tk) (hg : Gl X x)
    (hall : (backToKw pos (keywordEach kws X.env)).all (·.1.isSome) = true := by rfl) (hks : (backToKw pos (keywordEach kws X.env)).filterMap (·.1) = [f] := by rfl) (hd : (x == ("__debug__" : Str)) = false := by decide)
    (hpl : ((backTo pos (starEach [] X.env)).any (·.1) || (backToKw pos (keywordEach kws X.env)).any (·.1.isNone)) = false := by rfl)
    (hb : attributeBase (.Call (.Name x p) [] kws pos) f X.env (eval (.Call (.Name x p) [] kws pos) X.env) = eval (.Call (.Name x p) [] kws pos) X.env := by rfl) :
    PE X (.Attribute (.Call (.Name x p) [] kws pos) f pos2) (tMkf tk) := by
  refine ⟨fun pins s σ H Q I h => ?_⟩
  refine attr_of hb (wpAny_Call_Name_kw (ld_glob I hg T.gC ?_ hd))
  refine PySem.W.callWith_KW0 (h₀ := X.base) I.ok.mod.kin T.kC hall (thn (hkw.run pos pins s σ H _ I h) fun us s1 hh => ?_) hpl
  obtain ⟨vs, H1, I1, r1, v, ev, q1⟩ := hh
  subst ev
  refine ⟨I1.kIn, ?_⟩
  rw [hks]
  cases r1 with
  | cons rv rn =>
    rename_i v' us'
    cases rn
    show wpAny _ _ (call (.ref C) [] [(f, v')]) _ _ _
    have hlim := I1.nolimit
    obtain ⟨mb, hB1, hB2⟩ := I1.mod.blt
    have hB := hB1.keeps I1.bk
    have hG := I1.mod.glob.keeps I1.bk
    have hb : mb "super" = some (.type "super") := (hB2 _ (by decide)).trans (by decide +kernel)
    obtain ⟨hp, g, dr, tk, os⟩ := s1
    refine wpAny_call (PySem.SupX.kw_sup_made T Tf Tk I1.kIn hG hB hb hlim (by have := hr.dp; omega) fun h' tk' e d M => ?_)
    have J : Inv X pins σ H1 ⟨h', g, dr, tk', os⟩ := I1.kept (t' := tk') M.keep
    obtain ⟨oe, fv, hoe, hc, hd, hdat, h1⟩ := M.obj
    obtain ⟨od, ho, hl⟩ := lookIn_ns M.ns
    have J2 : PySem.W.InstAt h' e oe C (some od) := ⟨hoe, hc, by unfold PySem.W.notCls; rw [hdat] <;> rfl, by rw [hd]; exact ho⟩
    exact HandSPX.exc_get J.kIn J2 T.ga T.gg T.exC (PySem.W.findObj_own T.hdC Tf.noN rfl (by rw [hl, if_pos rfl])) (handed_of rv) ⟨v, H1, J.tok _, rv, q1⟩
end
end L2
namespace L2
open PySem PySem.Spec PyProof.Rows
/-! ### isinstance of a caught error, with a dict of its own or without -/
structure IsX (K : PySem.W.Frag) (C : Addr) : Prop where
  cl : (PySem.W.clsIn K C).isSome = true
  ga : PySem.W.findIn K (.ref C) "__getattribute__" = some (some (.builtin "BaseException.__getattribute__"))
  gg : PySem.W.findIn K (.ref C) "__getattr__" = some none
  sub : PySem.W.subIn K (.ref C) (.type "BaseException") = some true
  ca : PySem.W.findIn K (.ref C) "__class__" = some (some (.builtin "object.__class__"))
  gn : PySem.W.specialIn K (.builtin "object.__class__") "__get__" = some (some (.builtin "getset_descriptor.__get__"))
  gt : PySem.W.takesIn K (.builtin "object.__class__") = some true
  mo : PySem.W.mroIn K C (.type "object") = some true
def rIsX (K : PySem.W.Frag) (C a : Addr) (dd : Option Addr) : List V → Hp → VK → Prop := fun xs H Q => ∃ (c : V) (cv : Value) (b : Bool), xs = [.ref a, c] ∧ ClsV c cv ∧ PySem.W.kitOne K (.ref C) cv = some b ∧ (∀ d, dd = some d → ∃ vs, H d = some (.xd vs)) ∧ Q (.bl b) H
theorem call_isX {X : Cx} {a C : Addr} {dd : Option Addr} {oe : Obj} {pn : List (Addr × Obj)} (T : IsX X.K C) (hz : Zc (.ref C) dd oe) (hf : ∃ vs, oe.data = .fields vs) : CallR (X.suite a ((a, oe) :: pn)) (.builtin "isinstance") (rIsX X.K C a dd) := by
  intro pins s σ H xs us Q I r h
  obtain ⟨c, cv, b, rfl, hcv, e, hd, q⟩ := h
  obtain ⟨u1, u2, rfl, r1, r2⟩ := vals2 r
  have e2 := hcv.eq r2
  subst e2
  cases (show u1 = Value.ref a from r1)
  obtain ⟨hget, _⟩ := I.pin (a, oe) (List.mem_append_left _ List.mem_cons_self)
  obtain ⟨vs, hv⟩ := hf
  have nc : PySem.W.notCls oe := by unfold PySem.W.notCls; rw [hv] <;> rfl
  obtain ⟨od, J⟩ : ∃ od, PySem.W.InstAt s.heap a oe C od := by
    cases hdd : dd with
    | none => exact ⟨none, hget, hz.1, nc, by rw [hz.2, hdd]; trivial⟩
    | some d =>
      obtain ⟨vs', hd'⟩ := hd d hdd
      obtain ⟨mA, hns, _⟩ := (show ObjOk X.prog X.w H s.heap d (.xd vs') from I.hok d _ hd')
      obtain ⟨od, ho, _⟩ := lookIn_ns hns
      exact ⟨some od, hget, hz.1, nc, by rw [hz.2, hdd]; exact ho⟩
  exact PySem.W.kia_one (PySem.W.kitx_exc T.cl T.ga T.gg T.sub T.ca T.gn T.gt T.mo) I.kIn J e (fun z => nomatch z) fun tk => ⟨.bl b, H, I.tok tk, rfl, q⟩
end L2
namespace Toy
open PySem L2
/-! ### the data -/
/-- H' tells all that H tells, but for what stands at p -/
def But (p : Addr) (H H' : Hp) : Prop := ∀ b o, b ≠ p → H b = some o → H' b = some o
theorem But.refl (p : Addr) (H : Hp) : But p H H := fun _ _ _ h => h
theorem But.trans {p : Addr} {H H1 H2 : Hp} (a : But p H H1) (b : But p H1 H2) : But p H H2 := fun c o n h => b c o n (a c o n h)
theorem But.upd {p : Addr} {H H' : Hp} {o : HO} (a : But p H H') : But p H (upd H' p o) := fun c o n h => by rw [upd_ne n]; exact a c o n h
theorem Same.but {p : Addr} {H H' : Hp} (a : Same H H') : But p H H' := fun c o _ h => a c o h
theorem Same.new {H : Hp} {p : Addr} {o : HO} (h : H p = none) : Same H (upd H p o) := fun b o e => by rw [upd_ne (ne_of_none e h)]; exact e
/-- a source of draws at p, at most n drawn so far -/
def Src (H : Hp) (p : Addr) (n : Int) : Prop := ∃ g s c : Int, H p = some (.lst [.int g, .int s, .int c]) ∧ 0 ≤ s ∧ s < 2147483647 ∧ 0 ≤ c ∧ c ≤ n
theorem Src.same {H H' : Hp} {p : Addr} {n : Int} (h : Src H p n) (e : Same H H') : Src H' p n := by
  obtain ⟨g, s, c, h, q⟩ := h
  exact ⟨g, s, c, e _ _ h, q⟩
theorem Src.le {H : Hp} {p : Addr} {n m : Int} (h : Src H p n) (e : n ≤ m) : Src H p m := by
  obtain ⟨g, s, c, h, q1, q2, q3, q4⟩ := h
  exact ⟨g, s, c, h, q1, q2, q3, by omega⟩

theorem draw_pow {x c : Int} (x0 : 0 ≤ x) (x1 : x < 2147483629) (c0 : 0 ≤ c) (c1 : c ≤ 1000000) : CPow (x * 48271 + 16807 * c * c + 11) 3 := by
  refine ⟨by decide, by decide, ?_⟩
  have h1 : 0 ≤ c * c := Int.mul_nonneg c0 c0
  have h2 : c * c ≤ 1000000 * 1000000 := Int.mul_le_mul c1 c1 c0 (by decide)
  have e : 16807 * c * c = 16807 * (c * c) := Int.mul_assoc _ _ _
  rw [e]
  generalize c * c = y at h1 h2
  show _ < 18446744073709551616
  omega
theorem ix_of {K : PySem.W.Frag} {H : Hp} {p : Addr} {xs : List V} {i : Int} {v : V} {Q : VK} (h : SqL K H p xs) (h2 : atI xs i = some v) (h3 : Q v H) : rIxL K (.ref p) (.int i) H Q := ⟨p, xs, i, v, rfl, rfl, h, h2, h3⟩
theorem set_of {H : Hp} {p : Addr} {xs : List V} {k : Int} {j : Nat} {v : V} {Q : Hp → Prop} (h : H p = some (.lst xs)) (h2 : ixN xs.length k = some j) (h3 : Q (upd H p (.lst (xs.set j v)))) : rSetL (.ref p) (.int k) v H Q := ⟨p, xs, k, j, rfl, rfl, h, h2, h3⟩
theorem ifne {x y : V} {A B : Prop} (h : x = y) (k : B) : if (!decide (x = y)) = true then A else B := by
  rw [decide_eq_true h]
  exact iteF k
theorem ifd {c A B : Prop} {inst : Decidable c} (h1 : c → A) (h2 : ¬ c → B) : if (@decide c inst) = true then A else B := by
  by_cases h : c
  · rw [if_pos (decide_eq_true h)]
    exact h1 h
  · rw [if_neg (by rw [decide_eq_false h]; exact Bool.false_ne_true)]
    exact h2 h
local macro_rules | `(tactic| walk_at "rd") => `(tactic| repeat (first
  | refine ⟨_, rfl, ?_⟩
  | refine ⟨_, _, rfl, rfl, ?_⟩
  | refine ⟨_, _, rfl, ?_⟩
  | refine ⟨rfl, ?_⟩
  | refine ⟨_, _, _, _, rfl, rfl, SqL.of upd_same, rfl, ?_⟩
  | refine ⟨_, _, _, _, rfl, rfl, upd_same, rfl, ?_⟩
  | refine iteT ?_
  | refine iteF ?_))
theorem take_more {α : Type} : ∀ {l : List α} {i : Nat} {x : α}, l[i]? = some x → l.take (i + 1) = l.take i ++ [x]
  | [], i, x, h => by simp at h
  | a :: l, 0, x, h => by
    have e : a = x := Option.some.inj h
    subst e
    rfl
  | a :: l, i + 1, x, h => by
    have ih := take_more (l := l) (i := i) (x := x) h
    show a :: l.take (i + 1) = a :: l.take i ++ [x]
    rw [ih]
    rfl
/-- a new object, the heap behind it a letter: generalize hH : upd H l _ = H' ahead of it -/
theorem new_of {H H' : Hp} {l : Addr} {o o' : HO} (hH : upd H l o = H') (h : H l = none) (e : o = o') : Same H H' ∧ H' l = some o' := by
  subst e hH
  exact ⟨Same.new h, upd_same⟩
/-- a changed object -/
theorem chg_of {H H' : Hp} {l : Addr} {o o' : HO} (hH : upd H l o = H') (e : o = o') : But l H H' ∧ H' l = some o' := by
  subst e hH
  exact ⟨(But.refl l H).upd, upd_same⟩
theorem Src.but {H H' : Hp} {p q : Addr} {n : Int} (h : Src H p n) (e : But q H H') (hne : p ≠ q) : Src H' p n := by
  obtain ⟨g, s, c, h, r⟩ := h
  exact ⟨g, s, c, e _ _ hne h, r⟩
theorem Src.at {H : Hp} {p : Addr} {n : Int} (h : Src H p n) : ∃ xs, H p = some (.lst xs) := by
  obtain ⟨g, s, c, h, q⟩ := h
  exact ⟨_, h⟩
theorem Src.ne {H : Hp} {p q : Addr} {n : Int} (h : Src H p n) (hq : H q = none) : q ≠ p := fun z => by
  obtain ⟨_, _, _, e, _⟩ := h
  rw [z, e] at hq
  cases hq
theorem int_at {l : List Int} {i : Nat} {x : V} (h : (l.map V.int)[i]? = some x) : ∃ z, x = V.int z ∧ l[i]? = some z := by
  rw [List.getElem?_map] at h
  cases e : l[i]? with
  | none => rw [e] at h; cases h
  | some z => rw [e] at h; exact ⟨z, (Option.some.inj h).symm, rfl⟩
/-! ### the promises -/
def spSource (K : PySem.W.Frag) : Sp := fun vs H Q _ => ∃ (a : Addr) (ns : List Int), vs = [.ref a] ∧ SqL K H a (ns.map V.int) ∧ ∀ (p : Addr) (H' : Hp), H p = none → Same H H' → Src H' p 0 → Q (.ref p) H'
def spDraw : Sp := fun vs H Q _ => ∃ (p : Addr) (m n : Int), vs = [.ref p, .int m] ∧ Src H p n ∧ n < 1000000 ∧ 0 < m ∧ m < 2 ^ 64 ∧
  ∀ (d : Int) (H' : Hp), 0 ≤ d → d < m → But p H H' → Src H' p (n + 1) → Q (.int d) H'
def spLaw (K : PySem.W.Frag) : Sp := fun vs H Q _ => ∃ (a : Addr) (ns : List Int), vs = [.ref a] ∧ SqL K H a (ns.map V.int) ∧ ns.length ≤ 63 ∧ ∀ H', Q (.bl true) H'
/-! ### data: what a value stands for, whatever the addresses -/
/-- a tuple that is known to have no dict: its methods may be asked -/
def FzT (H : Hp) (a : Addr) (vs : List V) : Prop := ∃ o : Obj, H a = some (.frz o (.tup vs)) ∧ o.dict = none
theorem FzT.sq {K : PySem.W.Frag} {H : Hp} {a : Addr} {vs : List V} (h : FzT H a vs) : SqT K H a vs := let ⟨o, e, _⟩ := h; .inl (.inr ⟨o, e⟩)
theorem FzT.mono {H H' : Hp} {a : Addr} {vs : List V} (s : Same H H') (h : FzT H a vs) : FzT H' a vs := let ⟨o, e, d⟩ := h; ⟨o, s _ _ e, d⟩
inductive D where
  | v (x : V)
  | tup (ds : List D)
  | ctup (ds : List D)
  | ftup (ds : List D)
  | lst (ds : List D)
  | dK (kvs : List (Key × D))
  | dT (kvs : List (List Key × D))
  | ins (C : Addr) (fs : List (Str × D))
  | ob (φ : Hp → V → Prop)
section
variable (K : PySem.W.Frag) (H : Hp)
mutual
def Dat : D → V → Prop
  | .v x, y => y = x
  | .tup ds, y => ∃ a vs, y = .ref a ∧ H a = some (.tup vs) ∧ DatL ds vs
  | .ctup ds, y => ∃ a vs, y = .ref a ∧ SqT K H a vs ∧ DatL ds vs
  | .ftup ds, y => ∃ a vs, y = .ref a ∧ FzT H a vs ∧ DatL ds vs
  | .lst ds, y => ∃ a vs, y = .ref a ∧ H a = some (.lst vs) ∧ DatL ds vs
  | .dK kvs, y => ∃ a vs, y = .ref a ∧ H a = some (.dK vs) ∧ DatK kvs vs
  | .dT kvs, y => ∃ a vs, y = .ref a ∧ H a = some (.dT vs) ∧ DatT kvs vs
  | .ins C fs, y => ∃ a dx vs, y = .ref a ∧ H a = some (.ins C dx vs) ∧ DatS fs vs
  | .ob φ, y => ∃ H0, Same H0 H ∧ φ H0 y
def DatL : List D → List V → Prop
  | [], vs => vs = []
  | d :: ds, vs => ∃ v r, vs = v :: r ∧ Dat d v ∧ DatL ds r
def DatK : List (Key × D) → List (Key × V) → Prop
  | [], vs => vs = []
  | (k, d) :: ds, vs => ∃ v r, vs = (k, v) :: r ∧ Dat d v ∧ DatK ds r
def DatT : List (List Key × D) → List (List Key × V) → Prop
  | [], vs => vs = []
  | (k, d) :: ds, vs => ∃ v r, vs = (k, v) :: r ∧ Dat d v ∧ DatT ds r
def DatS : List (Str × D) → List (Str × V) → Prop
  | [], vs => vs = []
  | (k, d) :: ds, vs => ∃ v r, vs = (k, v) :: r ∧ Dat d v ∧ DatS ds r
end
/-- what stands at the address of a list, a dict that is one's own -/
def Rep : D → HO → Prop
  | .lst ds, ho => ∃ vs, ho = .lst vs ∧ DatL K H ds vs
  | .dK kvs, ho => ∃ vs, ho = .dK vs ∧ DatK K H kvs vs
  | .dT kvs, ho => ∃ vs, ho = .dT vs ∧ DatT K H kvs vs
  | .ins C fs, ho => ∃ dx vs, ho = .ins C dx vs ∧ DatS K H fs vs
  | _, _ => False
/-- pairs: the keys as they are -/
abbrev PK {κ : Type} (kvs : List (κ × D)) (vs : List (κ × V)) : Prop := Paired (fun p q => p.1 = q.1 ∧ Dat K H p.2 q.2) kvs vs
end
theorem same_seqT {K : PySem.W.Frag} {H H' : Hp} {a : Addr} {xs : List V} (e : Same H H') (h : SqT K H a xs) : SqT K H' a xs := by
  rcases h with (h | ⟨o, h⟩) | h
  · exact .inl (.inl (e _ _ h))
  · exact .inl (.inr ⟨o, e _ _ h⟩)
  · exact .inr h
section
variable {K : PySem.W.Frag} {H H' : Hp}
mutual
theorem Dat.mono (s : Same H H') : ∀ {d : D} {v : V}, Dat K H d v → Dat K H' d v
  | .v _, _, h => h
  | .tup _, _, ⟨a, vs, e, h, l⟩ => ⟨a, vs, e, s _ _ h, DatL.mono s l⟩
  | .ctup _, _, ⟨a, vs, e, h, l⟩ => ⟨a, vs, e, same_seqT s h, DatL.mono s l⟩
  | .ftup _, _, ⟨a, vs, e, h, l⟩ => ⟨a, vs, e, h.mono s, DatL.mono s l⟩
  | .lst _, _, ⟨a, vs, e, h, l⟩ => ⟨a, vs, e, s _ _ h, DatL.mono s l⟩
  | .dK _, _, ⟨a, vs, e, h, l⟩ => ⟨a, vs, e, s _ _ h, DatK.mono s l⟩
  | .dT _, _, ⟨a, vs, e, h, l⟩ => ⟨a, vs, e, s _ _ h, DatT.mono s l⟩
  | .ins _ _, _, ⟨a, dx, vs, e, h, l⟩ => ⟨a, dx, vs, e, s _ _ h, DatS.mono s l⟩
  | .ob _, _, ⟨H0, e, h⟩ => ⟨H0, e.trans s, h⟩
theorem DatL.mono (s : Same H H') : ∀ {ds : List D} {vs : List V}, DatL K H ds vs → DatL K H' ds vs
  | [], _, h => h
  | _ :: _, _, ⟨v, r, e, h, t⟩ => ⟨v, r, e, Dat.mono s h, DatL.mono s t⟩
theorem DatK.mono (s : Same H H') : ∀ {ds : List (Key × D)} {vs : List (Key × V)}, DatK K H ds vs → DatK K H' ds vs
  | [], _, h => h
  | (_, _) :: _, _, ⟨v, r, e, h, t⟩ => ⟨v, r, e, Dat.mono s h, DatK.mono s t⟩
theorem DatT.mono (s : Same H H') : ∀ {ds : List (List Key × D)} {vs : List (List Key × V)}, DatT K H ds vs → DatT K H' ds vs
  | [], _, h => h
  | (_, _) :: _, _, ⟨v, r, e, h, t⟩ => ⟨v, r, e, Dat.mono s h, DatT.mono s t⟩
theorem DatS.mono (s : Same H H') : ∀ {ds : List (Str × D)} {vs : List (Str × V)}, DatS K H ds vs → DatS K H' ds vs
  | [], _, h => h
  | (_, _) :: _, _, ⟨v, r, e, h, t⟩ => ⟨v, r, e, Dat.mono s h, DatS.mono s t⟩
end
theorem datK_pk : ∀ {ds : List (Key × D)} {vs : List (Key × V)}, DatK K H ds vs ↔ PK K H ds vs
  | [], _ => ⟨fun h => by rw [show _ = [] from h]; exact .nil, fun h => by cases h; rfl⟩
  | (_, _) :: _, _ => ⟨fun ⟨v, r, e, h, t⟩ => by rw [e]; exact .cons ⟨rfl, h⟩ (datK_pk.mp t), fun h => by
    cases h with
    | @cons _ q _ _ h t =>
      obtain ⟨q1, q2⟩ := q
      cases (show _ = q1 from h.1)
      exact ⟨_, _, rfl, h.2, datK_pk.mpr t⟩⟩
theorem datT_pk : ∀ {ds : List (List Key × D)} {vs : List (List Key × V)}, DatT K H ds vs ↔ PK K H ds vs
  | [], _ => ⟨fun h => by rw [show _ = [] from h]; exact .nil, fun h => by cases h; rfl⟩
  | (_, _) :: _, _ => ⟨fun ⟨v, r, e, h, t⟩ => by rw [e]; exact .cons ⟨rfl, h⟩ (datT_pk.mp t), fun h => by
    cases h with
    | @cons _ q _ _ h t =>
      obtain ⟨q1, q2⟩ := q
      cases (show _ = q1 from h.1)
      exact ⟨_, _, rfl, h.2, datT_pk.mpr t⟩⟩
theorem datS_pk : ∀ {ds : List (Str × D)} {vs : List (Str × V)}, DatS K H ds vs ↔ PK K H ds vs
  | [], _ => ⟨fun h => by rw [show _ = [] from h]; exact .nil, fun h => by cases h; rfl⟩
  | (_, _) :: _, _ => ⟨fun ⟨v, r, e, h, t⟩ => by rw [e]; exact .cons ⟨rfl, h⟩ (datS_pk.mp t), fun h => by
    cases h with
    | @cons _ q _ _ h t =>
      obtain ⟨q1, q2⟩ := q
      cases (show _ = q1 from h.1)
      exact ⟨_, _, rfl, h.2, datS_pk.mpr t⟩⟩
theorem Rep.mono (s : Same H H') : ∀ {d : D} {ho : HO}, Rep K H d ho → Rep K H' d ho
  | .lst _, _, ⟨vs, e, l⟩ => ⟨vs, e, l.mono s⟩
  | .dK _, _, ⟨vs, e, l⟩ => ⟨vs, e, l.mono s⟩
  | .dT _, _, ⟨vs, e, l⟩ => ⟨vs, e, l.mono s⟩
  | .ins _ _, _, ⟨dx, vs, e, l⟩ => ⟨dx, vs, e, l.mono s⟩
theorem Rep.dat {p : Addr} : ∀ {d : D} {ho : HO}, Rep K H d ho → H p = some ho → Dat K H d (.ref p)
  | .lst _, _, ⟨vs, e, l⟩, h => ⟨p, vs, rfl, by rw [← e]; exact h, l⟩
  | .dK _, _, ⟨vs, e, l⟩, h => ⟨p, vs, rfl, by rw [← e]; exact h, l⟩
  | .dT _, _, ⟨vs, e, l⟩, h => ⟨p, vs, rfl, by rw [← e]; exact h, l⟩
  | .ins _ _, _, ⟨dx, vs, e, l⟩, h => ⟨p, dx, vs, rfl, by rw [← e]; exact h, l⟩
theorem DatL.len : ∀ {ds : List D} {vs : List V}, DatL K H ds vs → vs.length = ds.length
  | [], _, h => by rw [show _ = [] from h]; rfl
  | _ :: _, _, ⟨v, r, e, _, t⟩ => by rw [e, List.length_cons, List.length_cons, t.len]
theorem DatL.nil : DatL K H [] [] := rfl
theorem DatL.cons {d : D} {ds : List D} {v : V} {vs : List V} (h : Dat K H d v) (t : DatL K H ds vs) : DatL K H (d :: ds) (v :: vs) := ⟨v, vs, rfl, h, t⟩
theorem DatL.app : ∀ {ds es : List D} {vs ws : List V}, DatL K H ds vs → DatL K H es ws → DatL K H (ds ++ es) (vs ++ ws)
  | [], _, _, _, h, t => by rw [show _ = [] from h]; exact t
  | _ :: _, _, _, _, ⟨v, r, e, h, t⟩, u => by rw [e]; exact ⟨v, _, rfl, h, t.app u⟩
theorem DatL.get : ∀ {ds : List D} {vs : List V} {i : Nat} {d : D}, DatL K H ds vs → ds[i]? = some d → ∃ v, vs[i]? = some v ∧ Dat K H d v
  | [], _, _, _, _, h => by simp at h
  | _ :: _, _, 0, _, ⟨v, r, e, h, _⟩, q => by rw [e]; exact ⟨v, rfl, by rw [← Option.some.inj q]; exact h⟩
  | _ :: _, _, i + 1, _, ⟨v, r, e, _, t⟩, q => by rw [e]; exact t.get (i := i) q
theorem DatL.getR : ∀ {ds : List D} {vs : List V} {i : Nat} {v : V}, DatL K H ds vs → vs[i]? = some v → ∃ d, ds[i]? = some d ∧ Dat K H d v
  | [], _, _, _, h, q => by rw [show _ = [] from h] at q; simp at q
  | d :: _, _, 0, _, ⟨v, r, e, h, _⟩, q => by rw [e] at q; exact ⟨d, rfl, by rw [← Option.some.inj q]; exact h⟩
  | _ :: _, _, i + 1, _, ⟨v, r, e, _, t⟩, q => by rw [e] at q; exact t.getR (i := i) q
theorem DatL.set : ∀ {ds : List D} {vs : List V} {i : Nat} {d : D} {v : V}, DatL K H ds vs → Dat K H d v → DatL K H (ds.set i d) (vs.set i v)
  | [], _, _, _, _, h, _ => by rw [show _ = [] from h]; rfl
  | _ :: _, _, 0, _, _, ⟨v, r, e, _, t⟩, q => by rw [e]; exact ⟨_, r, rfl, q, t⟩
  | _ :: _, _, i + 1, _, _, ⟨v, r, e, h, t⟩, q => by rw [e]; exact ⟨v, _, rfl, h, t.set q⟩
theorem DatL.drop : ∀ {ds : List D} {vs : List V} (n : Nat), DatL K H ds vs → DatL K H (ds.drop n) (vs.drop n)
  | _, _, 0, h => h
  | [], _, _ + 1, h => by rw [show _ = [] from h]; rfl
  | _ :: _, _, n + 1, ⟨v, r, e, _, t⟩ => by rw [e]; exact t.drop n
theorem DatL.take : ∀ {ds : List D} {vs : List V} (n : Nat), DatL K H ds vs → DatL K H (ds.take n) (vs.take n)
  | _, _, 0, _ => rfl
  | [], _, _ + 1, h => by rw [show _ = [] from h]; rfl
  | _ :: _, _, n + 1, ⟨v, r, e, h, t⟩ => by rw [e]; exact ⟨v, _, rfl, h, t.take n⟩
theorem DatL.rev {ds : List D} {vs : List V} (h : DatL K H ds vs) : DatL K H ds.reverse vs.reverse := by
  induction ds generalizing vs with
  | nil => rw [show vs = [] from h]; rfl
  | cons d ds ih =>
    obtain ⟨v, r, e, q, t⟩ := h
    rw [e, List.reverse_cons, List.reverse_cons]
    exact (ih t).app (.cons q .nil)
theorem DatL.mem : ∀ {ds : List D} {vs : List V} {v : V}, DatL K H ds vs → v ∈ vs → ∃ d ∈ ds, Dat K H d v := fun {ds vs v} h hv => by
  obtain ⟨i, hi⟩ := List.mem_iff_getElem?.mp hv
  obtain ⟨d, hd, q⟩ := h.getR hi
  exact ⟨d, List.mem_of_getElem? hd, q⟩
end
/-! ### the state as data -/
inductive Sl where
  | emp
  | val (d : D)
  | own (d : D)
structure AS where
  sl : List Sl
  n : Int
  sp : Option Addr
def AS.put (a : AS) (i : Nat) (s : Sl) : AS := ⟨a.sl.set i s, a.n, a.sp⟩
structure Bs (K : PySem.W.Frag) where
  sp : Option Addr
  H0 : Hp
  F0 : Hp
  self : Option Addr
/-- the heap without the source -/
def Hs (sp : Option Addr) (H : Hp) : Hp := fun b => if sp = some b then none else H b
theorem hs_some {sp : Option Addr} {H : Hp} {b : Addr} {o : HO} (h : Hs sp H b = some o) : H b = some o ∧ sp ≠ some b := by
  unfold Hs at h
  split at h
  · cases h
  · rename_i n
    exact ⟨h, n⟩
theorem hs_of {sp : Option Addr} {H : Hp} {b : Addr} {o : HO} (h : H b = some o) (n : sp ≠ some b) : Hs sp H b = some o := by
  unfold Hs
  rw [if_neg n]
  exact h
theorem hs_same {sp : Option Addr} {H : Hp} : Same (Hs sp H) H := fun _ _ h => (hs_some h).1
/-- what never changes wherever it stands -/
def imm : HO → Bool
  | .tup _ => true
  | .own _ => true
  | .frz _ (.tup _) => true
  | _ => false
def ImmA (F : Hp) (b : Addr) : Prop := ∃ o, F b = some o ∧ imm o = true
theorem ImmA.mono {F F' : Hp} {b : Addr} (h : ImmA F b) (s : Same F F') : ImmA F' b := let ⟨o, e, i⟩ := h; ⟨o, s _ _ e, i⟩
theorem Rep.imm {K : PySem.W.Frag} {H : Hp} : ∀ {d : D} {ho : HO}, Rep K H d ho → Toy.imm ho = false
  | .lst _, _, ⟨_, e, _⟩ => by rw [e]; rfl
  | .dK _, _, ⟨_, e, _⟩ => by rw [e]; rfl
  | .dT _, _, ⟨_, e, _⟩ => by rw [e]; rfl
  | .ins _ _, _, ⟨_, _, e, _⟩ => by rw [e]; rfl
/-- behind all: F what does not change, inside H -/
structure Fi {K : PySem.W.Frag} (B : Bs K) (F : Hp) (n : Int) (H : Hp) : Prop where
  fh : Same F H
  ff : Same B.F0 F
  fr : ∀ b, F b ≠ none → B.F0 b ≠ none ∨ B.H0 b = none ∨ ImmA F b
  fm : ∀ b o, B.H0 b = some o → B.sp ≠ some b → H b = some o
  sr : ∀ p, B.sp = some p → F p = none ∧ B.H0 p ≠ none ∧ Src H p n
structure Ok {K : PySem.W.Frag} (B : Bs K) (F : Hp) (a : AS) (σ : St) (H : Hp) : Prop where
  fi : Fi B F a.n H
  es : a.sp = B.sp
  len : σ.length = a.sl.length
  va : ∀ (i : Nat) (d : D), a.sl[i]? = some (Sl.val d) → ∃ v, σ[i]? = some (some v) ∧ Dat K F d v
  ow : ∀ (i : Nat) (d : D), a.sl[i]? = some (Sl.own d) → ∃ p ho, σ[i]? = some (some (V.ref p)) ∧ H p = some ho ∧ F p = none ∧ B.H0 p = none ∧ Rep K F d ho
  ds : ∀ (i j : Nat) (p : Addr) (d e : D), a.sl[i]? = some (Sl.own d) → a.sl[j]? = some (Sl.own e) → σ[i]? = some (some (V.ref p)) → σ[j]? = some (some (V.ref p)) → i = j
  fx : ∀ x, B.self = some x → σ[0]? = some (some (V.ref x))
/-- an exception's fields, off its own dict -/
def XRep (K : PySem.W.Frag) (F : Hp) (dd : Option Addr) (fs : List (Str × D)) : Prop := (dd = none ∧ fs = []) ∨ ∃ d vs, dd = some d ∧ F d = some (.xd vs) ∧ PK K F fs vs
/-- what is wanted of what is raised: W as the text has it, dW over data (the class, the fields, the slots, how many numbers are drawn) -/
structure Wp where
  W : Value → Option Addr → St → Hp → Prop
  dW : Addr → List (Str × D) → List Sl → Int → Prop
  bq : Hp → Prop
  sf : Bool
def WOk {K : PySem.W.Frag} (B : Bs K) (ω : Wp) : Prop := ω.bq B.F0 ∧ (ω.sf = false → B.self = none) ∧ ∀ (F : Hp) (a : AS) (σ : St) (H : Hp) (C : Addr) (dd : Option Addr) (fs : List (Str × D)), Ok B F a σ H → XRep K F dd fs → ω.dW C fs a.sl a.n → ω.W (.ref C) dd σ H
def OwnAt (a : AS) (σ : St) (b : Addr) : Prop := ∃ (i : Nat) (d : D), a.sl[i]? = some (Sl.own d) ∧ σ[i]? = some (some (V.ref b))
/-- an expression's way -/
structure Go {K : PySem.W.Frag} (B : Bs K) (σ : St) (F : Hp) (a : AS) (H : Hp) (F' : Hp) (a' : AS) (H' : Hp) : Prop where
  ok : Ok B F' a' σ H'
  ff : Same F F'
  hh : ∀ b o, B.sp ≠ some b → H b = some o → H' b = some o
  fr : ∀ b, F' b ≠ none → F b ≠ none ∨ H b = none ∨ OwnAt a σ b ∨ ImmA F' b
  oo : ∀ b, OwnAt a' σ b → OwnAt a σ b
section
variable {K : PySem.W.Frag} {B : Bs K} {F F' F1 F2 : Hp} {a a' a1 a2 : AS} {σ : St} {H H' H1 H2 : Hp} {n : Int}
theorem Fi.fs (f : Fi B F n H) : Same F (Hs B.sp H) := fun b o h => hs_of (f.fh b o h) fun e => by
  rw [(f.sr b e).1] at h
  cases h
theorem Go.refl (ok : Ok B F a σ H) : Go B σ F a H F a H := ⟨ok, Same.refl F, fun _ _ _ h => h, fun _ h => .inl h, fun _ h => h⟩
theorem Go.trans (ok : Ok B F a σ H) (g : Go B σ F a H F1 a1 H1) (g' : Go B σ F1 a1 H1 F2 a2 H2) : Go B σ F a H F2 a2 H2 where
  ok := g'.ok
  ff := g.ff.trans g'.ff
  hh := fun b o n h => g'.hh b o n (g.hh b o n h)
  fr := fun b h => by
    rcases g'.fr b h with q | q | q
    · exact (g.fr b q).imp id fun q => q.imp id fun q => q.imp id fun q => q.mono g'.ff
    · refine .inr (.inl ?_)
      cases e : H b with
      | none => rfl
      | some o =>
        by_cases z : B.sp = some b
        · exact absurd (g'.ok.fi.sr b z).1 h
        · rw [g.hh b o z e] at q
          cases q
    · exact .inr (.inr (q.imp (g.oo b) id))
  oo := fun b h => g.oo b (g'.oo b h)
theorem Go.bs (g : Go B σ F a H F' a' H') : Same (Hs B.sp H) (Hs B.sp H') := fun b o h => hs_of (g.hh b o (hs_some h).2 (hs_some h).1) (hs_some h).2
theorem Ok.here (ok : Ok B F a σ H) {p : Addr} (h : H p = none) : F p = none ∧ B.H0 p = none ∧ B.sp ≠ some p ∧ ¬ OwnAt a σ p := by
  have hs : B.sp ≠ some p := fun e => by
    obtain ⟨_, _, g, s, c, q, _⟩ := ok.fi.sr p e
    rw [h] at q
    cases q
  refine ⟨?_, ?_, hs, ?_⟩
  · cases e : F p with
    | none => rfl
    | some o => rw [ok.fi.fh p o e] at h; cases h
  · cases e : B.H0 p with
    | none => rfl
    | some o => rw [ok.fi.fm p o e hs] at h; cases h
  · rintro ⟨i, d, h1, h2⟩
    obtain ⟨q, ho, e, hq, _⟩ := ok.ow i d h1
    rw [e] at h2
    cases h2
    rw [h] at hq
    cases hq
/-- a new object that does not change any more -/
theorem Ok.new (ok : Ok B F a σ H) {p : Addr} {o : HO} (h : H p = none) : Go B σ F a H (upd F p o) a (upd H p o) := by
  obtain ⟨hF, h0, hs, ho⟩ := ok.here h
  have s1 : Same F (upd F p o) := Same.new hF
  have s2 : Same H (upd H p o) := Same.new h
  refine ⟨⟨⟨fun b u e => ?_, ok.fi.ff.trans s1, fun b e => ?_, fun b u e n => s2 _ _ (ok.fi.fm b u e n), fun q e => ?_⟩, ok.es, ok.len, fun i d e => ?_, fun i d e => ?_, ok.ds, ok.fx⟩, s1, fun b u _ e => s2 _ _ e, fun b e => ?_, fun _ h => h⟩
  · by_cases z : b = p
    · subst z
      rw [upd_same] at e ⊢
      exact e
    · rw [upd_ne z] at e ⊢
      exact ok.fi.fh _ _ e
  · by_cases z : b = p
    · exact .inr (.inl (z ▸ h0))
    · rw [upd_ne z] at e
      exact (ok.fi.fr b e).imp id fun q => q.imp id fun q => q.mono s1
  · obtain ⟨x1, x2, x3⟩ := ok.fi.sr q e
    have z : q ≠ p := fun z => hs (z ▸ e)
    exact ⟨by rw [upd_ne z]; exact x1, x2, x3.same s2⟩
  · obtain ⟨v, e1, e2⟩ := ok.va i d e
    exact ⟨v, e1, e2.mono s1⟩
  · obtain ⟨q, ho', e1, e2, e3, e4, e5⟩ := ok.ow i d e
    have z : q ≠ p := ne_of_none e2 h
    exact ⟨q, ho', e1, s2 _ _ e2, by rw [upd_ne z]; exact e3, e4, e5.mono s1⟩
  · by_cases z : b = p
    · exact .inr (.inl (z ▸ h))
    · rw [upd_ne z] at e
      exact .inl e
/-- a new object of one's own -/
theorem Ok.newO (ok : Ok B F a σ H) {p : Addr} {o : HO} (h : H p = none) : Go B σ F a H F a (upd H p o) := by
  obtain ⟨hF, h0, hs, ho⟩ := ok.here h
  have s2 : Same H (upd H p o) := Same.new h
  refine ⟨⟨⟨ok.fi.fh.trans s2, ok.fi.ff, ok.fi.fr, fun b u e n => s2 _ _ (ok.fi.fm b u e n), fun q e => ?_⟩, ok.es, ok.len, ok.va, fun i d e => ?_, ok.ds, ok.fx⟩, Same.refl F, fun b u _ e => s2 _ _ e, fun b e => .inl e, fun _ h => h⟩
  · obtain ⟨x1, x2, x3⟩ := ok.fi.sr q e
    exact ⟨x1, x2, x3.same s2⟩
  · obtain ⟨q, ho', e1, e2, e3, e4, e5⟩ := ok.ow i d e
    exact ⟨q, ho', e1, s2 _ _ e2, e3, e4, e5⟩
/-- what is F may grow by what stands there and is nobody's -/
theorem Ok.frz (ok : Ok B F a σ H) {p : Addr} {o : HO} (h : H p = some o) (hF : F p = none) (h0 : B.H0 p = none) (hs : B.sp ≠ some p) (no : ¬ OwnAt a σ p) : Ok B (upd F p o) a σ H := by
  have s1 : Same F (upd F p o) := Same.new hF
  refine ⟨⟨fun b u e => ?_, ok.fi.ff.trans s1, fun b e => ?_, ok.fi.fm, fun q e => ?_⟩, ok.es, ok.len, fun i d e => ?_, fun i d e => ?_, ok.ds, ok.fx⟩
  · by_cases z : b = p
    · subst z
      rw [upd_same] at e
      rw [h]
      exact e
    · rw [upd_ne z] at e
      exact ok.fi.fh _ _ e
  · by_cases z : b = p
    · exact .inr (.inl (z ▸ h0))
    · rw [upd_ne z] at e
      exact (ok.fi.fr b e).imp id fun q => q.imp id fun q => q.mono s1
  · obtain ⟨x1, x2, x3⟩ := ok.fi.sr q e
    have z : q ≠ p := fun z => hs (z ▸ e)
    exact ⟨by rw [upd_ne z]; exact x1, x2, x3⟩
  · obtain ⟨v, e1, e2⟩ := ok.va i d e
    exact ⟨v, e1, e2.mono s1⟩
  · obtain ⟨q, ho', e1, e2, e3, e4, e5⟩ := ok.ow i d e
    have z : q ≠ p := fun z => no ⟨i, d, e, by rw [← z]; exact e1⟩
    exact ⟨q, ho', e1, e2, by rw [upd_ne z]; exact e3, e4, e5.mono s1⟩
/-- a slot is forgotten, or said otherwise -/
theorem set_get {α : Type} {l : List α} {i j : Nat} {x y : α} (h : (l.set i x)[j]? = some y) : (j = i ∧ y = x ∧ i < l.length) ∨ (j ≠ i ∧ l[j]? = some y) := by
  by_cases z : j = i
  · subst z
    have hl : j < l.length := by
      have := (List.getElem?_eq_some_iff.mp h).1
      rw [List.length_set] at this
      exact this
    rw [List.getElem?_set_self hl] at h
    exact .inl ⟨rfl, (Option.some.inj h).symm, hl⟩
  · rw [List.getElem?_set_ne (Ne.symm z)] at h
    exact .inr ⟨z, h⟩
theorem set_fx {i : Nat} {o : Option V} (hi : i = 0 → B.self = none) (h : ∀ x, B.self = some x → σ[0]? = some (some (V.ref x))) : ∀ x, B.self = some x → (σ.set i o)[0]? = some (some (V.ref x)) := fun x e => by
  rw [List.getElem?_set_ne (fun z => by rw [hi z] at e; cases e)]
  exact h x e
theorem Ok.setV (ok : Ok B F a σ H) {i : Nat} {d : D} {v : V} (hi : i = 0 → B.self = none) (h : Dat K F d v) : Ok B F (a.put i (Sl.val d)) (σ.set i (some v)) H := by
  refine ⟨ok.fi, ok.es, by show (σ.set i _).length = (a.sl.set i _).length; rw [List.length_set, List.length_set, ok.len], fun j e q => ?_, fun j e q => ?_, fun j k p e f q1 q2 q3 q4 => ?_, set_fx hi ok.fx⟩
  · rcases set_get q with ⟨rfl, z, hl⟩ | ⟨n, q⟩
    · cases z
      exact ⟨v, List.getElem?_set_self (by rw [ok.len]; exact hl), h⟩
    · obtain ⟨u, e1, e2⟩ := ok.va j e q
      exact ⟨u, by rw [List.getElem?_set_ne (Ne.symm n)]; exact e1, e2⟩
  · rcases set_get q with ⟨rfl, z, hl⟩ | ⟨n, q⟩
    · cases z
    · obtain ⟨u, ho, e1, e2⟩ := ok.ow j e q
      exact ⟨u, ho, by rw [List.getElem?_set_ne (Ne.symm n)]; exact e1, e2⟩
  · rcases set_get q1 with ⟨rfl, z, hl⟩ | ⟨n1, q1⟩
    · cases z
    rcases set_get q2 with ⟨rfl, z, hl⟩ | ⟨n2, q2⟩
    · cases z
    rw [List.getElem?_set_ne (Ne.symm n1)] at q3
    rw [List.getElem?_set_ne (Ne.symm n2)] at q4
    exact ok.ds j k p e f q1 q2 q3 q4
theorem Ok.setO (ok : Ok B F a σ H) {i : Nat} {d : D} {p : Addr} {o : HO} (hi : i = 0 → B.self = none) (h : H p = some o) (hF : F p = none) (h0 : B.H0 p = none) (no : ¬ OwnAt a σ p) (r : Rep K F d o) : Ok B F (a.put i (Sl.own d)) (σ.set i (some (.ref p))) H := by
  refine ⟨ok.fi, ok.es, by show (σ.set i _).length = (a.sl.set i _).length; rw [List.length_set, List.length_set, ok.len], fun j e q => ?_, fun j e q => ?_, fun j k p' e f q1 q2 q3 q4 => ?_, set_fx hi ok.fx⟩
  · rcases set_get q with ⟨rfl, z, hl⟩ | ⟨n, q⟩
    · cases z
    · obtain ⟨u, e1, e2⟩ := ok.va j e q
      exact ⟨u, by rw [List.getElem?_set_ne (Ne.symm n)]; exact e1, e2⟩
  · rcases set_get q with ⟨rfl, z, hl⟩ | ⟨n, q⟩
    · cases z
      exact ⟨p, o, List.getElem?_set_self (by rw [ok.len]; exact hl), h, hF, h0, r⟩
    · obtain ⟨u, ho, e1, e2⟩ := ok.ow j e q
      exact ⟨u, ho, by rw [List.getElem?_set_ne (Ne.symm n)]; exact e1, e2⟩
  · rcases set_get q1 with ⟨rfl, z, hl⟩ | ⟨n1, q1'⟩
    · rcases set_get q2 with ⟨rfl, z2, hl2⟩ | ⟨n2, q2⟩
      · rfl
      · rw [List.getElem?_set_self (by rw [ok.len]; exact hl)] at q3
        cases q3
        rw [List.getElem?_set_ne (Ne.symm n2)] at q4
        exact absurd ⟨k, f, q2, q4⟩ no
    · rcases set_get q2 with ⟨w, z2, hl2⟩ | ⟨n2, q2'⟩
      · subst w
        rw [List.getElem?_set_self (by rw [ok.len]; exact hl2)] at q4
        cases q4
        rw [List.getElem?_set_ne (Ne.symm n1)] at q3
        exact absurd ⟨j, e, q1', q3⟩ no
      · rw [List.getElem?_set_ne (Ne.symm n1)] at q3
        rw [List.getElem?_set_ne (Ne.symm n2)] at q4
        exact ok.ds j k p' e f q1' q2' q3 q4
/-- what one's own slot holds is changed -/
theorem Ok.chg (ok : Ok B F a σ H) {i : Nat} {d e : D} {p : Addr} {o : HO} (hi : a.sl[i]? = some (Sl.own d)) (hp : σ[i]? = some (some (V.ref p))) (r : Rep K F e o) : Ok B F (a.put i (Sl.own e)) σ (upd H p o) := by
  obtain ⟨q, ho, e1, e2, e3, e4, e5⟩ := ok.ow i d hi
  rw [hp] at e1
  cases e1
  have hl : i < a.sl.length := (List.getElem?_eq_some_iff.mp hi).1
  have nF : ∀ b u, F b = some u → b ≠ p := fun b u h z => by rw [z, e3] at h; cases h
  refine ⟨⟨fun b u h => by rw [upd_ne (nF b u h)]; exact ok.fi.fh b u h, ok.fi.ff, ok.fi.fr, fun b u h n => ?_, fun b h => ?_⟩, ok.es, by show σ.length = (a.sl.set i _).length; rw [List.length_set, ok.len], fun j f q => ?_, fun j f q => ?_, fun j k p' f g q1 q2 q3 q4 => ?_, ok.fx⟩
  · rw [upd_ne (fun z => by rw [z, e4] at h; cases h)]
    exact ok.fi.fm b u h n
  · obtain ⟨x1, x2, x3⟩ := ok.fi.sr b h
    have z : b ≠ p := fun z => x2 (z ▸ e4)
    exact ⟨x1, x2, x3.but ((But.refl p H).upd) z⟩
  · rcases set_get q with ⟨rfl, z, hl⟩ | ⟨n, q⟩
    · cases z
    · exact ok.va j f q
  · rcases set_get q with ⟨rfl, z, hl⟩ | ⟨n, q⟩
    · cases z
      exact ⟨p, o, hp, upd_same, e3, e4, r⟩
    · obtain ⟨u, ho', f1, f2, f3, f4, f5⟩ := ok.ow j f q
      have z : u ≠ p := fun z => n (ok.ds j i p f d q hi (z ▸ f1) hp)
      exact ⟨u, ho', f1, by rw [upd_ne z]; exact f2, f3, f4, f5⟩
  · have o1 : ∃ f, a.sl[j]? = some (Sl.own f) := by
      rcases set_get q1 with ⟨rfl, z, _⟩ | ⟨_, q⟩
      · exact ⟨_, hi⟩
      · exact ⟨_, q⟩
    have o2 : ∃ f, a.sl[k]? = some (Sl.own f) := by
      rcases set_get q2 with ⟨rfl, z, _⟩ | ⟨_, q⟩
      · exact ⟨_, hi⟩
      · exact ⟨_, q⟩
    obtain ⟨f1, o1⟩ := o1
    obtain ⟨f2, o2⟩ := o2
    exact ok.ds j k p' f1 f2 o1 o2 q3 q4
/-- one's own becomes what does not change any more -/
theorem Ok.own (ok : Ok B F a σ H) {i : Nat} {d : D} (hi : a.sl[i]? = some (Sl.own d)) : ∃ p o, σ[i]? = some (some (V.ref p)) ∧ H p = some o ∧ Rep K F d o ∧ Go B σ F a H (upd F p o) (a.put i (Sl.val d)) H := by
  obtain ⟨p, o, e1, e2, e3, e4, e5⟩ := ok.ow i d hi
  have hl : i < a.sl.length := (List.getElem?_eq_some_iff.mp hi).1
  have s1 : Same F (upd F p o) := Same.new e3
  have hs : B.sp ≠ some p := fun z => (ok.fi.sr p z).2.1 e4
  have nO : ¬ OwnAt (a.put i (Sl.val d)) σ p := by
    rintro ⟨j, f, q1, q2⟩
    rcases set_get q1 with ⟨rfl, z, _⟩ | ⟨n, q1⟩
    · cases z
    · exact n (ok.ds j i p f d q1 hi q2 e1)
  have w : ∀ b, OwnAt (a.put i (Sl.val d)) σ b → OwnAt a σ b := by
    rintro b ⟨j, f, q1, q2⟩
    rcases set_get q1 with ⟨rfl, z, _⟩ | ⟨n, q1⟩
    · cases z
    · exact ⟨j, f, q1, q2⟩
  refine ⟨p, o, e1, e2, e5, ⟨⟨fun b u e => ?_, ok.fi.ff.trans s1, fun b e => ?_, ok.fi.fm, fun q e => ?_⟩, ok.es, by show σ.length = (a.sl.set i _).length; rw [List.length_set, ok.len], fun j f q => ?_, fun j f q => ?_, fun j k p' f g q1 q2 q3 q4 => ?_, ok.fx⟩, s1, fun b u _ e => e, fun b e => ?_, w⟩
  · by_cases z : b = p
    · subst z
      rw [upd_same] at e
      rw [e2]
      exact e
    · rw [upd_ne z] at e
      exact ok.fi.fh _ _ e
  · by_cases z : b = p
    · exact .inr (.inl (z ▸ e4))
    · rw [upd_ne z] at e
      exact (ok.fi.fr b e).imp id fun q => q.imp id fun q => q.mono s1
  · obtain ⟨x1, x2, x3⟩ := ok.fi.sr q e
    have z : q ≠ p := fun z => hs (z ▸ e)
    exact ⟨by rw [upd_ne z]; exact x1, x2, x3⟩
  · rcases set_get q with ⟨rfl, z, _⟩ | ⟨n, q⟩
    · cases z
      exact ⟨_, e1, (e5.mono s1).dat upd_same⟩
    · obtain ⟨u, f1, f2⟩ := ok.va j f q
      exact ⟨u, f1, f2.mono s1⟩
  · rcases set_get q with ⟨rfl, z, _⟩ | ⟨n, q⟩
    · cases z
    · obtain ⟨u, ho', f1, f2, f3, f4, f5⟩ := ok.ow j f q
      have z : u ≠ p := fun z => n (ok.ds j i p f d q hi (z ▸ f1) e1)
      exact ⟨u, ho', f1, f2, by rw [upd_ne z]; exact f3, f4, f5.mono s1⟩
  · rcases set_get q1 with ⟨rfl, z, _⟩ | ⟨n1, q1⟩
    · cases z
    rcases set_get q2 with ⟨rfl, z, _⟩ | ⟨n2, q2⟩
    · cases z
    exact ok.ds j k p' f g q1 q2 q3 q4
  · by_cases z : b = p
    · exact .inr (.inr (.inl ⟨i, d, hi, by rw [z]; exact e1⟩))
    · rw [upd_ne z] at e
      exact .inl e
end
/-! ### readings over data -/
abbrev DEt := AS → (D → AS → Prop) → Prop
abbrev DTt := AS → (Bool → AS → Prop) → Prop
abbrev DAt := AS → (List D → AS → Prop) → Prop
/-- borrowed: what H tells; LE: what stays; LO: a new object of one's own -/
def LB (K : PySem.W.Frag) (ω : Wp) (te : TE) (de : DEt) : Prop := ∀ (B : Bs K), WOk B ω → ∀ (F : Hp) (a : AS) (σ : St) (H : Hp) (Q : VK) (R : D → AS → Prop), Ok B F a σ H → de a R →
  (∀ v d F' a' H', Go B σ F a H F' a' H' → Dat K (Hs B.sp H') d v → R d a' → Q v H') → te σ H Q
def LE (K : PySem.W.Frag) (ω : Wp) (te : TE) (de : DEt) : Prop := ∀ (B : Bs K), WOk B ω → ∀ (F : Hp) (a : AS) (σ : St) (H : Hp) (Q : VK) (R : D → AS → Prop), Ok B F a σ H → de a R →
  (∀ v d F' a' H', Go B σ F a H F' a' H' → Dat K F' d v → R d a' → Q v H') → te σ H Q
def LO (K : PySem.W.Frag) (ω : Wp) (te : TE) (de : DEt) : Prop := ∀ (B : Bs K), WOk B ω → ∀ (F : Hp) (a : AS) (σ : St) (H : Hp) (Q : VK) (R : D → AS → Prop), Ok B F a σ H → de a R →
  (∀ p o d F' a' H', Go B σ F a H F' a' H' → H p = none → F' p = none → H' p = some o → Rep K F' d o → R d a' → Q (.ref p) H') → te σ H Q
def LC (K : PySem.W.Frag) (ω : Wp) (t : TT) (dt : DTt) : Prop := ∀ (B : Bs K), WOk B ω → ∀ (F : Hp) (a : AS) (σ : St) (H : Hp) (Q : Bool → Hp → Prop) (R : Bool → AS → Prop), Ok B F a σ H → dt a R →
  (∀ b F' a' H', Go B σ F a H F' a' H' → R b a' → Q b H') → t σ H Q
def LAE (K : PySem.W.Frag) (ω : Wp) (t : TA) (da : DAt) : Prop := ∀ (B : Bs K), WOk B ω → ∀ (F : Hp) (a : AS) (σ : St) (H : Hp) (Q : List V → Hp → Prop) (R : List D → AS → Prop), Ok B F a σ H → da a R →
  (∀ vs ds F' a' H', Go B σ F a H F' a' H' → DatL K F' ds vs → R ds a' → Q vs H') → t σ H Q
def LAB (K : PySem.W.Frag) (ω : Wp) (t : TA) (da : DAt) : Prop := ∀ (B : Bs K), WOk B ω → ∀ (F : Hp) (a : AS) (σ : St) (H : Hp) (Q : List V → Hp → Prop) (R : List D → AS → Prop), Ok B F a σ H → da a R →
  (∀ vs ds F' a' H', Go B σ F a H F' a' H' → DatL K (Hs B.sp H') ds vs → R ds a' → Q vs H') → t σ H Q
def DB {ι : Type} (X : ι → Cx) (K : PySem.W.Frag) (ω : Wp) (e : Expr) (de : DEt) : Prop := ∃ te, (∀ j, PE (X j) e te) ∧ LB K ω te de
def DX {ι : Type} (X : ι → Cx) (K : PySem.W.Frag) (ω : Wp) (e : Expr) (de : DEt) : Prop := ∃ te, (∀ j, PE (X j) e te) ∧ LE K ω te de
def DO {ι : Type} (X : ι → Cx) (K : PySem.W.Frag) (ω : Wp) (e : Expr) (de : DEt) : Prop := ∃ te, (∀ j, PE (X j) e te) ∧ LO K ω te de
def DT {ι : Type} (X : ι → Cx) (K : PySem.W.Frag) (ω : Wp) (e : Expr) (dt : DTt) : Prop := ∃ t, (∀ j, PT (X j) e t) ∧ LC K ω t dt
def DW {ι : Type} (X : ι → Cx) (K : PySem.W.Frag) (ω : Wp) (e : Expr) (dt : DTt) : Prop := ∃ t, (∀ j, PW (X j) e t) ∧ LC K ω t dt
def DAE {ι : Type} (X : ι → Cx) (K : PySem.W.Frag) (ω : Wp) (es : List Expr) (da : DAt) : Prop := ∃ t, (∀ j, PA (X j) es t) ∧ LAE K ω t da
def DAB {ι : Type} (X : ι → Cx) (K : PySem.W.Frag) (ω : Wp) (es : List Expr) (da : DAt) : Prop := ∃ t, (∀ j, PA (X j) es t) ∧ LAB K ω t da
section
variable {K : PySem.W.Frag} {ω : Wp} {B : Bs K} {F F' F1 F2 : Hp} {a a' a1 a2 : AS} {σ : St} {H H' H1 H2 : Hp} {n : Int} {te : TE} {de : DEt}
theorem Go.fs (g : Go B σ F a H F' a' H') : Same F' (Hs B.sp H') := g.ok.fi.fs
theorem LE.b (h : LE K ω te de) : LB K ω te de := fun B hω F a σ H Q R ok hd k => h B hω F a σ H Q R ok hd fun v d F' a' H' g q r => k v d F' a' H' g (q.mono g.fs) r
theorem LO.e (h : LO K ω te de) : LE K ω te de := fun B hω F a σ H Q R ok hd k => h B hω F a σ H Q R ok hd fun p o d F' a' H' g n1 n2 e q r => by
  obtain ⟨hF, h0, hs, no⟩ := ok.here n1
  have s1 : Same F' (upd F' p o) := Same.new n2
  refine k _ d (upd F' p o) a' H' ⟨g.ok.frz e n2 h0 hs fun z => no (g.oo p z), g.ff.trans s1, g.hh, fun b z => ?_, g.oo⟩ ((q.mono s1).dat upd_same) r
  by_cases w : b = p
  · exact .inr (.inl (w ▸ n1))
  · rw [upd_ne w] at z
    exact (g.fr b z).imp id fun q => q.imp id fun q => q.imp id fun q => q.mono s1
def isV : D → Bool
  | .v _ => true
  | _ => false
/-- a flat value is never borrowed -/
def dFlat (de : DEt) : DEt := fun a R => de a fun d a' => isV d = true ∧ R d a'
theorem LB.flat (h : LB K ω te de) : LE K ω te (dFlat de) := fun B hω F a σ H Q R ok hd k => h B hω F a σ H Q _ ok hd fun v d F' a' H' g q r => by
  obtain ⟨hv, r⟩ := r
  refine k v d F' a' H' g ?_ r
  cases d with
  | v x => exact q
  | _ => cases hv
variable {ι : Type} {X : ι → Cx} {e e1 e2 : Expr} {es : List Expr} {da db dc : DEt} {pos : Pos}
theorem DX.b (h : DX X K ω e de) : DB X K ω e de := let ⟨t, p, l⟩ := h; ⟨t, p, l.b⟩
theorem DO.x (h : DO X K ω e de) : DX X K ω e de := let ⟨t, p, l⟩ := h; ⟨t, p, l.e⟩
theorem DB.f (h : DB X K ω e de) : DX X K ω e (dFlat de) := let ⟨t, p, l⟩ := h; ⟨t, p, l.flat⟩
/-! names -/
def AS.at (a : AS) (i : Nat) : Sl := a.sl.getD i .emp
theorem at_of' {a : AS} {i : Nat} {s : Sl} (h : a.at i = s) (n : s ≠ .emp) : a.sl[i]? = some s := by
  unfold AS.at at h
  rw [List.getD_eq_getElem?_getD] at h
  cases q : a.sl[i]? with
  | none => rw [q] at h; exact absurd h.symm n
  | some z => rw [q] at h; rw [← h]; rfl
def dVarB (i : Nat) : DEt := fun a R => match a.at i with
  | .val d => R d a
  | .own d => R d a
  | .emp => False
/-- a name's value from now on stays -/
def dVar (i : Nat) : DEt := fun a R => match a.at i with
  | .val d => R d a
  | .own d => R d (a.put i (.val d))
  | .emp => False
theorem lb_var {i : Nat} : LB K ω (tVar i) (dVarB i) := fun B hω F a σ H Q R ok hd k => by
  unfold dVarB at hd
  cases e : a.at i with
  | emp => rw [e] at hd; exact hd.elim
  | val d =>
    rw [e] at hd
    obtain ⟨v, h1, h2⟩ := ok.va i d (at_of' e (fun z => nomatch z))
    exact ⟨v, h1, k v d F a H (.refl ok) (h2.mono ok.fi.fs) hd⟩
  | own d =>
    rw [e] at hd
    obtain ⟨p, o, h1, h2, h3, h4, h5⟩ := ok.ow i d (at_of' e (fun z => nomatch z))
    refine ⟨_, h1, k _ d F a H (.refl ok) ((h5.mono ok.fi.fs).dat (hs_of h2 fun z => ?_)) hd⟩
    exact (ok.fi.sr p z).2.1 h4
theorem le_var {i : Nat} : LE K ω (tVar i) (dVar i) := fun B hω F a σ H Q R ok hd k => by
  unfold dVar at hd
  cases e : a.at i with
  | emp => rw [e] at hd; exact hd.elim
  | val d =>
    rw [e] at hd
    obtain ⟨v, h1, h2⟩ := ok.va i d (at_of' e (fun z => nomatch z))
    exact ⟨v, h1, k v d F a H (.refl ok) h2 hd⟩
  | own d =>
    rw [e] at hd
    obtain ⟨p, o, h1, h2, h3, g⟩ := ok.own (at_of' e (fun z => nomatch z))
    exact ⟨_, h1, k _ d _ _ H g ((h3.mono g.ff).dat upd_same) hd⟩
theorem dbv (i : Nat) {x : Str} {pos : Pos} (hN : ∀ j, (X j).N[i]? = some x := by intro _; rfl) (hv : ∀ j, Vis (X j).env.scope x := by first | exact fun _ => Or.inl rfl | exact fun _ => Or.inr (Or.inl rfl) | exact fun _ => Or.inr (Or.inr rfl)) (hd : (x == ("__debug__" : Str)) = false := by decide)
    (hcd : (x == ("__classdict__" : Str)) = false := by decide) : DB X K ω (.Name x pos) (dVarB i) := ⟨_, fun j => pe_var (hN j) (hv j) hd hcd, lb_var⟩
theorem dv (i : Nat) {x : Str} {pos : Pos} (hN : ∀ j, (X j).N[i]? = some x := by intro _; rfl) (hv : ∀ j, Vis (X j).env.scope x := by first | exact fun _ => Or.inl rfl | exact fun _ => Or.inr (Or.inl rfl) | exact fun _ => Or.inr (Or.inr rfl)) (hd : (x == ("__debug__" : Str)) = false := by decide)
    (hcd : (x == ("__classdict__" : Str)) = false := by decide) : DX X K ω (.Name x pos) (dVar i) := ⟨_, fun j => pe_var (hN j) (hv j) hd hcd, le_var⟩
/-! constants -/
def dC (x : V) : DEt := fun a R => R (.v x) a
theorem le_c {x : V} : LE K ω (tC x) (dC x) := fun B hω F a σ H Q R ok hd k => k x (.v x) F a H (.refl ok) rfl hd
theorem de_int {i j pos} : DX X K ω (.Constant (.int i) j pos) (dC (.int i)) := ⟨_, fun _ => pe_int, le_c⟩
theorem de_bl {b j pos} : DX X K ω (.Constant (.bool b) j pos) (dC (.bl b)) := ⟨_, fun _ => pe_bl, le_c⟩
theorem de_non {j pos} : DX X K ω (.Constant .none j pos) (dC .non) := ⟨_, fun _ => pe_non, le_c⟩
theorem de_str {x j pos} : DX X K ω (.Constant (.str x) j pos) (dC (.str x)) := ⟨_, fun _ => pe_str, le_c⟩
theorem de_glob {x : Str} {v : V} {u : Value} {pos : Pos} (hg : ∀ j, Gl (X j) x) (hm : ∀ j, (X j).mg x = some u) (r : RelV v u) (hd : (x == ("__debug__" : Str)) = false := by decide) : DX X K ω (.Name x pos) (dC v) := ⟨_, fun j => pe_glob (hg j) (hm j) r hd, le_c⟩
theorem de_bltn {x : Str} {v : V} {u : Value} {pos : Pos} (hg : ∀ j, Gl (X j) x) (hm : ∀ j, (X j).mg x = none) (hv : bootBuiltins x = some u) (r : RelV v u) (hn : x ≠ "__name__" := by decide) (hd : (x == ("__debug__" : Str)) = false := by decide) : DX X K ω (.Name x pos) (dC v) := ⟨_, fun j => pe_bltn (hg j) (hm j) hv r hn hd, le_c⟩
/-- a module's name that stands for data which never changes -/
theorem de_globT {x : Str} {c : Addr} {d : D} {pos : Pos} (hg : ∀ j, Gl (X j) x) (hm : ∀ j, (X j).mg x = some (.ref c)) (h : ∀ H, Dat K H d (.ref c)) (hd : (x == ("__debug__" : Str)) = false := by decide) : DX X K ω (.Name x pos) (fun a R => R d a) :=
  ⟨_, fun j => pe_glob (v := .ref c) (hg j) (hm j) rfl hd, fun B hω F a σ H Q R ok hd k => k _ d F a H (.refl ok) (h F) hd⟩
/-! operators -/
abbrev DR := D → D → (D → Prop) → Prop
def dOp (dr : DR) (da db : DEt) : DEt := fun a R => da a fun x a1 => db a1 fun y a2 => dr x y fun d => R d a2
/-- what comes out stays (it is flat, or part of what went in) -/
def LR (K : PySem.W.Frag) (ω : Wp) (r : R2) (dr : DR) : Prop := ∀ (B : Bs K), WOk B ω → ∀ (F : Hp) (a : AS) (σ : St) (H : Hp) (x y : V) (d e : D) (Q : VK) (R : D → Prop), Ok B F a σ H → Dat K (Hs B.sp H) d x → Dat K (Hs B.sp H) e y → dr d e R →
  (∀ v f F' H', Go B σ F a H F' a H' → Dat K F' f v → R f → Q v H') → r x y H Q
theorem lr_flat {r : R2} {dr : DR} (h : ∀ d e R, dr d e R → ∃ x y w, d = .v x ∧ e = .v y ∧ R (.v w) ∧ ∀ H Q, Q w H → r x y H Q) : LR K ω r dr := fun B hω F a σ H x y d e Q R ok hx hy hd k => by
  obtain ⟨x', y', w, rfl, rfl, hR, q⟩ := h d e R hd
  rw [show x = x' from hx, show y = y' from hy]
  exact q H Q (k w (.v w) F H (.refl ok) rfl hR)
def dI (C : Int → Int → Prop) (g : Int → Int → V) : DR := fun d e R => match d, e with
  | .v (.int i), .v (.int j) => C i j ∧ R (.v (g i j))
  | _, _ => False
def dI0 (g : Int → Int → V) : DR := fun d e R => match d, e with
  | .v (.int i), .v (.int j) => R (.v (g i j))
  | _, _ => False
theorem lr_I {C : Int → Int → Prop} {g : Int → Int → V} : LR K ω (rI C g) (dI C g) := lr_flat fun d e R h => by
  unfold dI at h
  split at h
  · rename_i i j
    exact ⟨_, _, _, rfl, rfl, h.2, fun H Q q => ⟨i, j, rfl, rfl, h.1, q⟩⟩
  · exact h.elim
theorem lr_I0 {g : Int → Int → V} : LR K ω (rI0 g) (dI0 g) := lr_flat fun d e R h => by
  unfold dI0 at h
  split at h
  · rename_i i j
    exact ⟨_, _, _, rfl, rfl, h, fun H Q q => ⟨i, j, rfl, rfl, q⟩⟩
  · exact h.elim
def DOpR {ι : Type} (X : ι → Cx) (K : PySem.W.Frag) (ω : Wp) (f : Value → Value → Sem Value) (dr : DR) : Prop := ∃ r, (∀ j, OpR (X j) f r) ∧ LR K ω r dr
theorem dop_add : DOpR X K ω (binaryOp .Add) (dI0 fun i j => .int (i + j)) := ⟨_, fun _ => op_add, lr_I0⟩
theorem dop_sub : DOpR X K ω (binaryOp .Sub) (dI0 fun i j => .int (i - j)) := ⟨_, fun _ => op_sub, lr_I0⟩
theorem dop_mul : DOpR X K ω (binaryOp .Mult) (dI CMul fun i j => .int (i * j)) := ⟨_, fun _ => op_mul, lr_I⟩
theorem dop_mulW : DOpR X K ω (binaryOp .Mult) (dI CMulW fun i j => .int (i * j)) := ⟨_, fun _ => op_mulW, lr_I⟩
theorem dop_fdivW : DOpR X K ω (binaryOp .FloorDiv) (dI CDivW fun i j => .int (i / j)) := ⟨_, fun _ => op_fdivW, lr_I⟩
theorem dop_mod : DOpR X K ω (binaryOp .Mod) (dI (fun _ j => 0 < j) fun i j => .int (i % j)) := ⟨_, fun _ => op_mod, lr_I⟩
theorem dop_pow : DOpR X K ω (binaryOp .Pow) (dI CPow fun i j => .int (i ^ j.toNat)) := ⟨_, fun _ => op_pow, lr_I⟩
theorem dop_lt : DOpR X K ω (compareOp .Lt) (dI0 fun i j => .bl (decide (i < j))) := ⟨_, fun _ => op_lt, lr_I0⟩
theorem dop_le : DOpR X K ω (compareOp .LtE) (dI0 fun i j => .bl (decide (i ≤ j))) := ⟨_, fun _ => op_le, lr_I0⟩
theorem dop_gt : DOpR X K ω (compareOp .Gt) (dI0 fun i j => .bl (decide (j < i))) := ⟨_, fun _ => op_gt, lr_I0⟩
theorem dop_ge : DOpR X K ω (compareOp .GtE) (dI0 fun i j => .bl (decide (j ≤ i))) := ⟨_, fun _ => op_ge, lr_I0⟩
def dAddS : DR := fun d e R => match d, e with
  | .v (.str i), .v (.str j) => i.length + j.length ≤ sizeLine ∧ R (.v (.str (i ++ j)))
  | _, _ => False
theorem dop_addS : DOpR X K ω (binaryOp .Add) dAddS := ⟨_, fun _ => op_add_str, lr_flat fun d e R h => by
  unfold dAddS at h
  split at h
  · rename_i i j
    exact ⟨_, _, _, rfl, rfl, h.2, fun H Q q => ⟨i, j, rfl, rfl, h.1, q⟩⟩
  · exact h.elim⟩
theorem de_op {op : Operator} {dr : DR} (ho : DOpR X K ω (binaryOp op) dr) (ha : DB X K ω e1 da) (hb : DB X K ω e2 db) : DX X K ω (.BinOp e1 op e2 pos) (dOp dr da db) := by
  obtain ⟨r, h1, l1⟩ := ho
  obtain ⟨ta, h2, l2⟩ := ha
  obtain ⟨tb, h3, l3⟩ := hb
  refine ⟨_, fun j => pe_op (h1 j) (h2 j) (h3 j), fun B hω F a σ H Q R ok hd k => ?_⟩
  refine l2 B hω F a σ H _ _ ok hd fun x d F1 a1 H1 g1 q1 hd1 => ?_
  refine l3 B hω F1 a1 σ H1 _ _ g1.ok hd1 fun y e F2 a2 H2 g2 q2 hd2 => ?_
  refine l1 B hω F2 a2 σ H2 x y d e Q _ g2.ok (q1.mono g2.bs) q2 hd2 fun v f F3 H3 g3 q3 hR => ?_
  exact k v f F3 a2 H3 (.trans ok g1 (.trans g1.ok g2 g3)) q3 hR
theorem de_cmp {op : CmpOp} {dr : DR} (ho : DOpR X K ω (compareOp op) dr) (ha : DB X K ω e1 da) (hb : DB X K ω e2 db) (hm : behindInMarks op e2 = false) : DX X K ω (.Compare e1 [op] [e2] pos) (dOp dr da db) := by
  obtain ⟨r, h1, l1⟩ := ho
  obtain ⟨ta, h2, l2⟩ := ha
  obtain ⟨tb, h3, l3⟩ := hb
  refine ⟨_, fun j => pe_cmpR (h1 j) (h2 j) (h3 j) hm, fun B hω F a σ H Q R ok hd k => ?_⟩
  refine l2 B hω F a σ H _ _ ok hd fun x d F1 a1 H1 g1 q1 hd1 => ?_
  refine l3 B hω F1 a1 σ H1 _ _ g1.ok hd1 fun y e F2 a2 H2 g2 q2 hd2 => ?_
  refine l1 B hω F2 a2 σ H2 x y d e Q _ g2.ok (q1.mono g2.bs) q2 hd2 fun v f F3 H3 g3 q3 hR => ?_
  exact k v f F3 a2 H3 (.trans ok g1 (.trans g1.ok g2 g3)) q3 hR
/-- a value that is True or False -/
def asB (d : D) (R : Bool → Prop) : Prop := match d with
  | .v (.bl b) => R b
  | _ => False
theorem asB_of {d : D} {R : Bool → Prop} (h : asB d R) : ∃ b, d = .v (.bl b) ∧ R b := by
  unfold asB at h
  split at h
  · rename_i b
    exact ⟨b, rfl, h⟩
  · exact h.elim
def dTest (de : DEt) : DTt := fun a R => de a fun d a' => asB d fun b => R b a'
theorem dt_val {e : Expr} (h : DX X K ω e de) (he : ∀ j whole, isTrue e (X j).env whole = (do let v ← whole; standAt e.pos; holding [v] (truthy v)) := by intro _ _; rfl) : DT X K ω e (dTest de) := by
  obtain ⟨t, p, l⟩ := h
  refine ⟨_, fun j => pt_val (p j) (he j), fun B hω F a σ H Q R ok hd k => l B hω F a σ H _ _ ok hd fun v d F' a' H' g q hR => ?_⟩
  obtain ⟨b, rfl, hR⟩ := asB_of hR
  exact ⟨b, q, k b F' a' H' g hR⟩
theorem dt_cmp {op : CmpOp} {dr : DR} (ho : DOpR X K ω (compareOp op) dr) (ha : DB X K ω e1 da) (hb : DB X K ω e2 db) (hm : behindInMarks op e2 = false) : DT X K ω (.Compare e1 [op] [e2] pos) (dTest (dOp dr da db)) := by
  obtain ⟨r, h1, l1⟩ := ho
  obtain ⟨ta, h2, l2⟩ := ha
  obtain ⟨tb, h3, l3⟩ := hb
  refine ⟨_, fun j => pt_cmpR (h1 j) (h2 j) (h3 j) hm, fun B hω F a σ H Q R ok hd k => ?_⟩
  refine l2 B hω F a σ H _ _ ok hd fun x d F1 a1 H1 g1 q1 hd1 => ?_
  refine l3 B hω F1 a1 σ H1 _ _ g1.ok hd1 fun y e F2 a2 H2 g2 q2 hd2 => ?_
  refine l1 B hω F2 a2 σ H2 x y d e _ _ g2.ok (q1.mono g2.bs) q2 hd2 fun v f F3 H3 g3 q3 hR => ?_
  obtain ⟨b, rfl, hR⟩ := asB_of hR
  exact ⟨b, q3, k b F3 a2 H3 (.trans ok g1 (.trans g1.ok g2 g3)) hR⟩
def dUn (dr : D → (D → Prop) → Prop) (da : DEt) : DEt := fun a R => da a fun x a1 => dr x fun d => R d a1
def dNeg : D → (D → Prop) → Prop := fun d R => match d with
  | .v (.int i) => R (.v (.int (-i)))
  | _ => False
theorem de_neg (ha : DB X K ω e da) : DX X K ω (.UnaryOp .USub e pos) (dUn dNeg da) := by
  obtain ⟨t, p, l⟩ := ha
  refine ⟨_, fun j => pe_un un_neg (p j), fun B hω F a σ H Q R ok hd k => l B hω F a σ H _ _ ok hd fun v d F' a' H' g q hR => ?_⟩
  unfold dNeg at hR
  split at hR
  · rename_i i
    exact ⟨i, q, k _ (.v _) F' a' H' g rfl hR⟩
  · exact hR.elim
def dNotV (da : DEt) : DEt := fun a R => da a fun x a1 => asB x fun b => R (.v (.bl (!b))) a1
theorem de_not (ha : DX X K ω e da) : DX X K ω (.UnaryOp .Not e pos) (dNotV da) := by
  obtain ⟨t, p, l⟩ := ha
  refine ⟨_, fun j => pe_not (p j), fun B hω F a σ H Q R ok hd k => l B hω F a σ H _ _ ok hd fun v d F' a' H' g q hR => ?_⟩
  obtain ⟨b, rfl, hR⟩ := asB_of hR
  exact ⟨b, q, k _ (.v _) F' a' H' g rfl hR⟩
/-! and, or -/
def bIf (b : Bool) (A C : Prop) : Prop := match b with
  | true => A
  | false => C
theorem bIf_ite {b : Bool} {A C : Prop} (h : bIf b A C) : if b = true then A else C := by
  cases b with
  | true => exact iteT h
  | false => exact iteF h
theorem bIf.imp {b : Bool} {A C A' C' : Prop} (h : bIf b A C) (f : A → A') (g : C → C') : if b = true then A' else C' := by
  cases b with
  | true => exact iteT (f h)
  | false => exact iteF (g h)
def dAnd (t u : DTt) : DTt := fun a R => t a fun b a1 => bIf b (u a1 R) (R false a1)
def dOr (t u : DTt) : DTt := fun a R => t a fun b a1 => bIf b (R true a1) (u a1 R)
def dNot (t : DTt) : DTt := fun a R => t a fun b a1 => R (!b) a1
variable {dt du : DTt} {t u : TT}
theorem lt_and (l1 : LC K ω t dt) (l2 : LC K ω u du) : LC K ω (tAnd t u) (dAnd dt du) := fun B hω F a σ H Q R ok hd k => l1 B hω F a σ H _ _ ok hd fun b F1 a1 H1 g1 hR => hR.imp
  (fun hR => l2 B hω F1 a1 σ H1 _ _ g1.ok hR fun c F2 a2 H2 g2 hR => k c F2 a2 H2 (.trans ok g1 g2) hR) fun hR => k false F1 a1 H1 g1 hR
theorem lt_or (l1 : LC K ω t dt) (l2 : LC K ω u du) : LC K ω (tOr t u) (dOr dt du) := fun B hω F a σ H Q R ok hd k => l1 B hω F a σ H _ _ ok hd fun b F1 a1 H1 g1 hR => hR.imp
  (fun hR => k true F1 a1 H1 g1 hR) fun hR => l2 B hω F1 a1 σ H1 _ _ g1.ok hR fun c F2 a2 H2 g2 hR => k c F2 a2 H2 (.trans ok g1 g2) hR
theorem lt_not (l1 : LC K ω t dt) : LC K ω (tNot t) (dNot dt) := fun B hω F a σ H Q R ok hd k => l1 B hω F a σ H _ _ ok hd fun b F1 a1 H1 g1 hR => k _ F1 a1 H1 g1 hR
theorem dw_and1 {pos : Pos} (h : DT X K ω e1 dt) : DW X K ω (.BoolOp .And [e1] pos) dt := let ⟨t, p, l⟩ := h; ⟨t, fun j => pw_and1 (p j), l⟩
theorem dw_or1 {pos : Pos} (h : DT X K ω e1 dt) : DW X K ω (.BoolOp .Or [e1] pos) dt := let ⟨t, p, l⟩ := h; ⟨t, fun j => pw_or1 (p j), l⟩
theorem dw_and {pos : Pos} (h1 : DT X K ω e1 dt) (h2 : DW X K ω (.BoolOp .And (e2 :: es) pos) du) : DW X K ω (.BoolOp .And (e1 :: e2 :: es) pos) (dAnd dt du) := let ⟨_, p, l⟩ := h1; let ⟨_, p', l'⟩ := h2; ⟨_, fun j => pw_and (p j) (p' j), lt_and l l'⟩
theorem dw_or {pos : Pos} (h1 : DT X K ω e1 dt) (h2 : DW X K ω (.BoolOp .Or (e2 :: es) pos) du) : DW X K ω (.BoolOp .Or (e1 :: e2 :: es) pos) (dOr dt du) := let ⟨_, p, l⟩ := h1; let ⟨_, p', l'⟩ := h2; ⟨_, fun j => pw_or (p j) (p' j), lt_or l l'⟩
theorem DW.pt (h : DW X K ω e dt) : DT X K ω e dt := let ⟨t, p, l⟩ := h; ⟨t, fun j => (p j).pt, l⟩
theorem dt_not {pos : Pos} (h : DT X K ω e dt) : DT X K ω (.UnaryOp .Not e pos) (dNot dt) := let ⟨_, p, l⟩ := h; ⟨_, fun j => pt_not (p j), lt_not l⟩
def dAndV (da db : DEt) : DEt := fun a R => da a fun x a1 => asB x fun b => bIf b (db a1 R) (R (.v (.bl false)) a1)
def dOrV (da db : DEt) : DEt := fun a R => da a fun x a1 => asB x fun b => bIf b (R (.v (.bl true)) a1) (db a1 R)
theorem de_one {op} {pos : Pos} (h : DX X K ω e de) : DX X K ω (.BoolOp op [e] pos) de := let ⟨t, p, l⟩ := h; ⟨t, fun j => pe_one (p j), l⟩
theorem de_and {pos : Pos} (h1 : DX X K ω e1 da) (h2 : DX X K ω (.BoolOp .And (e2 :: es) pos) db) : DX X K ω (.BoolOp .And (e1 :: e2 :: es) pos) (dAndV da db) := by
  obtain ⟨_, p, l⟩ := h1
  obtain ⟨_, p', l'⟩ := h2
  refine ⟨_, fun j => pe_and (p j) (p' j), fun B hω F a σ H Q R ok hd k => l B hω F a σ H _ _ ok hd fun v d F' a' H' g q hR => ?_⟩
  obtain ⟨b, rfl, hR⟩ := asB_of hR
  exact ⟨b, q, hR.imp (fun hR => l' B hω F' a' σ H' _ _ g.ok hR fun v d F2 a2 H2 g2 q2 hR => k v d F2 a2 H2 (.trans ok g g2) q2 hR) fun hR => k _ (.v _) F' a' H' g rfl hR⟩
theorem de_or {pos : Pos} (h1 : DX X K ω e1 da) (h2 : DX X K ω (.BoolOp .Or (e2 :: es) pos) db) : DX X K ω (.BoolOp .Or (e1 :: e2 :: es) pos) (dOrV da db) := by
  obtain ⟨_, p, l⟩ := h1
  obtain ⟨_, p', l'⟩ := h2
  refine ⟨_, fun j => pe_or (p j) (p' j), fun B hω F a σ H Q R ok hd k => l B hω F a σ H _ _ ok hd fun v d F' a' H' g q hR => ?_⟩
  obtain ⟨b, rfl, hR⟩ := asB_of hR
  exact ⟨b, q, hR.imp (fun hR => k _ (.v _) F' a' H' g rfl hR) fun hR => l' B hω F' a' σ H' _ _ g.ok hR fun v d F2 a2 H2 g2 q2 hR => k v d F2 a2 H2 (.trans ok g g2) q2 hR⟩
def dIfE (dt : DTt) (da db : DEt) : DEt := fun a R => dt a fun b a1 => bIf b (da a1 R) (db a1 R)
theorem de_ifExp {c : Expr} {pos : Pos} (hc : DT X K ω c dt) (ha : DX X K ω e1 da) (hb : DX X K ω e2 db) : DX X K ω (.IfExp c e1 e2 pos) (dIfE dt da db) := by
  obtain ⟨_, p, l⟩ := hc
  obtain ⟨_, p1, l1⟩ := ha
  obtain ⟨_, p2, l2⟩ := hb
  refine ⟨_, fun j => pe_ifExp (p j) (p1 j) (p2 j), fun B hω F a σ H Q R ok hd k => l B hω F a σ H _ _ ok hd fun b F' a' H' g hR => hR.imp (fun hR => ?_) fun hR => ?_⟩
  · exact l1 B hω F' a' σ H' _ _ g.ok hR fun v d F2 a2 H2 g2 q2 hR => k v d F2 a2 H2 (.trans ok g g2) q2 hR
  · exact l2 B hω F' a' σ H' _ _ g.ok hR fun v d F2 a2 H2 g2 q2 hR => k v d F2 a2 H2 (.trans ok g g2) q2 hR
/-! a < b < c -/
def dChain (dr dr' : DR) (da db dc : DEt) : DEt := fun a R => da a fun x a1 => db a1 fun y a2 => dr x y fun z => asB z fun b => bIf b (dc a2 fun w a3 => dr' y w fun d => R d a3) (R (.v (.bl false)) a2)
theorem de_chain {op op' : CmpOp} {dr dr' : DR} {e3 : Expr} {pos : Pos} (ho : DOpR X K ω (compareOp op) dr) (ho' : DOpR X K ω (compareOp op') dr') (ha : DB X K ω e1 da) (hb : DB X K ω e2 db) (hc : DB X K ω e3 dc) (hm : lastMarks [op, op'] [e2, e3] = false := by with_unfolding_all rfl) : DX X K ω (.Compare e1 [op, op'] [e2, e3] pos) (dChain dr dr' da db dc) := by
  obtain ⟨r, h1, l1⟩ := ho
  obtain ⟨r', h1', l1'⟩ := ho'
  obtain ⟨ta, h2, l2⟩ := ha
  obtain ⟨tb, h3, l3⟩ := hb
  obtain ⟨tc, h4, l4⟩ := hc
  refine ⟨_, fun j => pe_chain (h1 j) (h1' j) (h2 j) (h3 j) (h4 j) hm, fun B hω F a σ H Q R ok hd k => ?_⟩
  refine l2 B hω F a σ H _ _ ok hd fun x d F1 a1 H1 g1 q1 hd1 => ?_
  refine l3 B hω F1 a1 σ H1 _ _ g1.ok hd1 fun y e F2 a2 H2 g2 q2 hd2 => ?_
  refine l1 B hω F2 a2 σ H2 x y d e _ _ g2.ok (q1.mono g2.bs) q2 hd2 fun v f F3 H3 g3 q3 hR => ?_
  obtain ⟨b, rfl, hR⟩ := asB_of hR
  have g13 := Go.trans ok g1 (.trans g1.ok g2 g3)
  refine ⟨b, q3, hR.imp (fun hR => ?_) fun hR => k _ (.v _) F3 a2 H3 g13 rfl hR⟩
  refine l4 B hω F3 a2 σ H3 _ _ g3.ok hR fun w f F4 a4 H4 g4 q4 hR => ?_
  refine l1' B hω F4 a4 σ H4 y w e f Q _ g4.ok ((q2.mono g3.bs).mono g4.bs) q4 hR fun v f F5 H5 g5 q5 hR => ?_
  exact k v f F5 a4 H5 (.trans ok g13 (.trans g3.ok g4 g5)) q5 hR
theorem dt_chain {op op' : CmpOp} {dr dr' : DR} {e3 : Expr} {pos : Pos} (ho : DOpR X K ω (compareOp op) dr) (ho' : DOpR X K ω (compareOp op') dr') (ha : DB X K ω e1 da) (hb : DB X K ω e2 db) (hc : DB X K ω e3 dc) (hm : lastMarks [op, op'] [e2, e3] = false := by with_unfolding_all rfl) : DT X K ω (.Compare e1 [op, op'] [e2, e3] pos) (dTest (dChain dr dr' da db dc)) := by
  obtain ⟨r, h1, l1⟩ := ho
  obtain ⟨r', h1', l1'⟩ := ho'
  obtain ⟨ta, h2, l2⟩ := ha
  obtain ⟨tb, h3, l3⟩ := hb
  obtain ⟨tc, h4, l4⟩ := hc
  refine ⟨_, fun j => pt_chain (h1 j) (h1' j) (h2 j) (h3 j) (h4 j) hm, fun B hω F a σ H Q R ok hd k => ?_⟩
  refine l2 B hω F a σ H _ _ ok hd fun x d F1 a1 H1 g1 q1 hd1 => ?_
  refine l3 B hω F1 a1 σ H1 _ _ g1.ok hd1 fun y e F2 a2 H2 g2 q2 hd2 => ?_
  refine l1 B hω F2 a2 σ H2 x y d e _ _ g2.ok (q1.mono g2.bs) q2 hd2 fun v f F3 H3 g3 q3 hR => ?_
  obtain ⟨b, rfl, hR⟩ := asB_of hR
  have g13 := Go.trans ok g1 (.trans g1.ok g2 g3)
  refine ⟨b, q3, hR.imp (fun hR => ?_) fun hR => ?_⟩
  · refine l4 B hω F3 a2 σ H3 _ _ g3.ok hR fun w f F4 a4 H4 g4 q4 hR => ?_
    refine l1' B hω F4 a4 σ H4 y w e f _ _ g4.ok ((q2.mono g3.bs).mono g4.bs) q4 hR fun v f F5 H5 g5 q5 hR => ?_
    obtain ⟨c, rfl, hR⟩ := asB_of hR
    exact ⟨c, q5, k c F5 a4 H5 (.trans ok g13 (.trans g3.ok g4 g5)) hR⟩
  · obtain ⟨c, e, hR⟩ := asB_of hR
    cases e
    exact ⟨false, rfl, k false F3 a2 H3 g13 hR⟩
end
/-! ### statements -/
structure DEnds where
  nx : AS → Prop
  rt : D → Int → Prop
  bk : AS → Prop := fun _ => False
  ct : AS → Prop := fun _ => False
abbrev DSt := DEnds → AS → Prop
structure EndsOk {K : PySem.W.Frag} (B : Bs K) (F : Hp) (DE : DEnds) (E : Ends) : Prop where
  nx : ∀ F' a' σ' H', Ok B F' a' σ' H' → Same F F' → DE.nx a' → E.nx σ' H'
  rt : ∀ v d n F' H', Fi B F' n H' → Same F F' → Dat K F' d v → DE.rt d n → E.rt v H'
  bk : ∀ F' a' σ' H', Ok B F' a' σ' H' → Same F F' → DE.bk a' → E.bk σ' H'
  ct : ∀ F' a' σ' H', Ok B F' a' σ' H' → Same F F' → DE.ct a' → E.ct σ' H'
def LS (K : PySem.W.Frag) (ω : Wp) (ts : TS) (ds : DSt) : Prop := ∀ (B : Bs K), WOk B ω → ∀ (E : Ends) (DE : DEnds) (F : Hp) (a : AS) (σ : St) (H : Hp), Ok B F a σ H → ds DE a → EndsOk B F DE E → ts E σ H
def DS {ι : Type} (X : ι → Cx) (K : PySem.W.Frag) (ω : Wp) (st : Stmt) (ds : DSt) : Prop := ∃ t, (∀ j, PS (X j) st t) ∧ LS K ω t ds
def DSs {ι : Type} (X : ι → Cx) (K : PySem.W.Frag) (ω : Wp) (st : List Stmt) (ds : DSt) : Prop := ∃ t, (∀ j, PSs (X j) st t) ∧ LS K ω t ds
abbrev DGt := D → AS → (AS → Prop) → Prop
abbrev DGts := List D → AS → (AS → Prop) → Prop
/-- a target: ws the slots that it writes -/
structure Sto {K : PySem.W.Frag} (B : Bs K) (ws : List Nat) (F : Hp) (a : AS) (σ : St) (H : Hp) (a' : AS) (σ' : St) : Prop where
  ok : Ok B F a' σ' H
  ln : σ'.length = σ.length
  kp : ∀ j, j ∉ ws → σ'[j]? = σ[j]?
  oo : ∀ b, OwnAt a' σ' b → OwnAt a σ b
def LG (K : PySem.W.Frag) (ω : Wp) (g : TG) (dg : DGt) (ws : List Nat) : Prop := ∀ (B : Bs K), WOk B ω → ∀ (F : Hp) (a : AS) (σ : St) (H : Hp) (v : V) (d : D) (Q : St → Hp → Prop) (R : AS → Prop), Ok B F a σ H → Dat K F d v → dg d a R →
  (∀ a' σ', Sto B ws F a σ H a' σ' → R a' → Q σ' H) → g v σ H Q
def LGs (K : PySem.W.Frag) (ω : Wp) (g : TGs) (dg : DGts) (ws : List Nat) : Prop := ∀ (B : Bs K), WOk B ω → ∀ (F : Hp) (a : AS) (σ : St) (H : Hp) (vs : List V) (ds : List D) (Q : St → Hp → Prop) (R : AS → Prop), Ok B F a σ H → DatL K F ds vs → dg ds a R →
  (∀ a' σ', Sto B ws F a σ H a' σ' → R a' → Q σ' H) → g vs σ H Q
def DG {ι : Type} (X : ι → Cx) (K : PySem.W.Frag) (ω : Wp) (tg : Expr) (dg : DGt) (ws : List Nat) : Prop := ∃ g, (∀ j, PG (X j) tg g) ∧ LG K ω g dg ws
def DGs {ι : Type} (X : ι → Cx) (K : PySem.W.Frag) (ω : Wp) (tgs : List Expr) (dg : DGts) (ws : List Nat) (m : Nat) : Prop := ∃ g, (∀ j, PGs (X j) tgs g) ∧ LGs K ω g dg ws ∧ ∀ ds a R, dg ds a R → ds.length = m
section
variable {K : PySem.W.Frag} {ω : Wp} {B : Bs K} {F F' F1 F2 : Hp} {a a' a1 a2 : AS} {σ σ' : St} {H H' H1 H2 : Hp} {n : Int} {te : TE} {de da db : DEt} {ι : Type} {X : ι → Cx} {e e1 e2 : Expr} {es : List Expr} {pos : Pos} {ts us : TS} {ds d1 d2 : DSt} {st : Stmt} {rest : List Stmt} {dt : DTt}
theorem EndsOk.mono {DE : DEnds} {E : Ends} (h : EndsOk B F DE E) (s : Same F F') : EndsOk B F' DE E := ⟨fun F1 a1 s1 H1 ok q r => h.nx F1 a1 s1 H1 ok (s.trans q) r, fun v d n F1 H1 f q r z => h.rt v d n F1 H1 f (s.trans q) r z, fun F1 a1 s1 H1 ok q r => h.bk F1 a1 s1 H1 ok (s.trans q) r, fun F1 a1 s1 H1 ok q r => h.ct F1 a1 s1 H1 ok (s.trans q) r⟩
theorem Sto.refl (ok : Ok B F a σ H) : Sto B [] F a σ H a σ := ⟨ok, rfl, fun _ _ => rfl, fun _ h => h⟩
theorem WOk.z {i : Nat} (hω : WOk B ω) (hz : ω.sf = false ∨ i ≠ 0) : i = 0 → B.self = none := fun z => hz.elim hω.2.1 fun n => absurd z n
theorem Ok.putV (ok : Ok B F a σ H) {i : Nat} {d : D} {v : V} (hi : i = 0 → B.self = none) (h : Dat K F d v) : Sto B [i] F a σ H (a.put i (.val d)) (σ.set i (some v)) := by
  refine ⟨ok.setV hi h, by rw [List.length_set], fun j hj => List.getElem?_set_ne (fun z => hj (by rw [← z]; exact List.mem_singleton.mpr rfl)), ?_⟩
  rintro b ⟨j, f, q1, q2⟩
  rcases set_get q1 with ⟨rfl, z, _⟩ | ⟨m, q1⟩
  · cases z
  · rw [List.getElem?_set_ne (Ne.symm m)] at q2
    exact ⟨j, f, q1, q2⟩
def dgName (i : Nat) : DGt := fun d a R => R (a.put i (.val d))
theorem dg_name {i : Nat} {x : Str} {pos : Pos} (hN : ∀ j, (X j).N.Nodup) (hi : ∀ j, (X j).N[i]? = some x) (hx : ∀ j, Loc (X j).env.scope x) (hf : ∀ j, (X j).fn x = true ∨ (X j).env.scope.names.lookup x = some .local := by first | exact fun _ => .inl rfl | exact fun _ => .inr rfl | assumption)  (hz : ω.sf = false ∨ i ≠ 0 := by first | exact Or.inl rfl | exact Or.inr (by decide)) : DG X K ω (.Name x pos) (dgName i) [i] :=
  ⟨_, fun j => pg_name (hN j) (hi j) (hx j) (hf j), fun B hω F a σ H v d Q R ok h hd k => k _ _ (ok.putV (hω.z hz) h) hd⟩
def dgNil : DGts := fun ds a R => ds = [] ∧ R a
def dgCons (g : DGt) (u : DGts) : DGts := fun ds a R => match ds with
  | d :: r => g d a fun a' => u r a' R
  | [] => False
theorem dgs_nil : DGs X K ω [] dgNil [] 0 := ⟨_, fun _ => pgs_nil, fun B hω F a σ H vs ds Q R ok h hd k => by
  obtain ⟨rfl, hR⟩ := hd
  exact ⟨h, k a σ (.refl ok) hR⟩, fun ds a R h => by rw [h.1]; rfl⟩
theorem dgs_cons {dg : DGt} {du : DGts} {w1 w2 : List Nat} {m : Nat} (h1 : DG X K ω e dg w1) (h2 : DGs X K ω es du w2 m) (hs : ∀ j, (assignEach (e :: es) (X j).env).map (·.2) = assign e (X j).env :: (assignEach es (X j).env).map (·.2) := by intro _; rfl)
    (hm : ∀ d a R, dg d a R → ∃ a', R a' := by exact fun _ _ _ h => ⟨_, h⟩) : DGs X K ω (e :: es) (dgCons dg du) (w1 ++ w2) (m + 1) := by
  obtain ⟨g, p, l⟩ := h1
  obtain ⟨u, p', l', hl⟩ := h2
  refine ⟨_, fun j => pgs_cons (p j) (p' j) (hs j), fun B hω F a σ H vs ds Q R ok h hd k => ?_, fun ds a R h => ?_⟩
  · cases ds with
    | nil => exact hd.elim
    | cons d r =>
      obtain ⟨v, w, rfl, h1, h2⟩ := h
      refine ⟨v, w, rfl, l B hω F a σ H v d _ _ ok h1 hd fun a1 σ1 s1 hR => ?_⟩
      refine l' B hω F a1 σ1 H w r Q R s1.ok h2 hR fun a2 σ2 s2 hR => k a2 σ2 ⟨s2.ok, s2.ln.trans s1.ln, fun j hj => ?_, fun b z => s1.oo b (s2.oo b z)⟩ hR
      rw [s2.kp j (fun z => hj (List.mem_append_right _ z)), s1.kp j (fun z => hj (List.mem_append_left _ z))]
  · cases ds with
    | nil => exact h.elim
    | cons d r =>
      obtain ⟨a', z⟩ := hm d a _ h
      rw [List.length_cons, hl r a' R z]
def dgTup (u : DGts) : DGt := fun d a R => match d with
  | .tup ds => u ds a R
  | _ => False
theorem dg_tup {k : Nat} {dg : DGts} {w : List Nat} {pos : Pos} {m : Nat} (hc : ∀ j, (X j).calm = true) (h : DGs X K ω es dg w m) (hn : ∀ j, (assignEach es (X j).env).length = m := by intro _; rfl) (hst : ∀ j, (assignEach es (X j).env).findIdx? (·.1) = none := by intro _; rfl) (hK : ∀ j, (X j).K = K := by intro _; rfl) : DG X K ω (.Tuple es k pos) (dgTup dg) w := by
  obtain ⟨g, p, l, hl⟩ := h
  refine ⟨gTup K m g, fun j => by rw [← hK j]; exact pg_tup (hc j) (p j) (hn j) (hst j), fun B hω F a σ H v d Q R ok h hd k => ?_⟩
  unfold dgTup at hd
  split at hd
  · rename_i ds
    obtain ⟨p, vs, rfl, hS, hL⟩ := h
    exact ⟨p, vs, rfl, SqT.of (ok.fi.fh _ _ hS), by rw [hL.len]; exact hl _ _ _ hd, l B hω F a σ H vs ds Q R ok hL hd k⟩
  · exact hd.elim
/-! blocks -/
def dNext : DSt := fun E a => E.nx a
def dSeq (t u : DSt) : DSt := fun E a => t { E with nx := u E } a
def dCut (t u : DSt) : DSt := fun E a => ∃ Mid : AS → Prop, t { E with nx := Mid } a ∧ ∀ a', Mid a' → u E a'
theorem dss_nil : DSs X K ω [] dNext := ⟨_, fun _ => pss_nil, fun B hω E DE F a σ H ok hd k => k.nx F a σ H ok (Same.refl F) hd⟩
theorem dss_cons (h1 : DS X K ω st d1) (h2 : DSs X K ω rest d2) : DSs X K ω (st :: rest) (dSeq d1 d2) := by
  obtain ⟨t, p, l⟩ := h1
  obtain ⟨u, p', l'⟩ := h2
  exact ⟨_, fun j => pss_cons (p j) (p' j), fun B hω E DE F a σ H ok hd k => l B hω _ _ F a σ H ok hd ⟨fun F' a' σ' H' ok' s hd => l' B hω E DE F' a' σ' H' ok' hd (k.mono s), k.rt, k.bk, k.ct⟩⟩
theorem dss_cut (h1 : DS X K ω st d1) (h2 : DSs X K ω rest d2) : DSs X K ω (st :: rest) (dCut d1 d2) := by
  obtain ⟨t, p, l⟩ := h1
  obtain ⟨u, p', l'⟩ := h2
  refine ⟨_, fun j => pss_cons (p j) (p' j), fun B hω E DE F a σ H ok hd k => ?_⟩
  obtain ⟨Mid, hd, hm⟩ := hd
  exact l B hω _ { DE with nx := Mid } F a σ H ok hd ⟨fun F' a' σ' H' ok' s z => l' B hω E DE F' a' σ' H' ok' (hm a' z) (k.mono s), k.rt, k.bk, k.ct⟩
theorem dss_one (h1 : DS X K ω st d1) : DSs X K ω [st] d1 := let ⟨_, p, l⟩ := h1; ⟨_, fun j => pss_one (p j), l⟩
theorem ds_pass {pos : Pos} : DS X K ω (.Pass pos) dNext := ⟨_, fun _ => ps_pass, fun B hω E DE F a σ H ok hd k => k.nx F a σ H ok (Same.refl F) hd⟩
theorem ds_break {pos : Pos} : DS X K ω (.Break pos) (fun E a => E.bk a) := ⟨_, fun _ => ps_break, fun B hω E DE F a σ H ok hd k => k.bk F a σ H ok (Same.refl F) hd⟩
theorem ds_continue {pos : Pos} : DS X K ω (.Continue pos) (fun E a => E.ct a) := ⟨_, fun _ => ps_continue, fun B hω E DE F a σ H ok hd k => k.ct F a σ H ok (Same.refl F) hd⟩
theorem ds_never : DS X K ω st (fun _ _ => False) := ⟨_, fun _ => ps_never, fun _ _ _ _ _ _ _ _ _ hd _ => hd⟩
theorem ds_doc {x j pos pos'} : DS X K ω (.Expr (.Constant (.str x) j pos) pos') dNext := ⟨_, fun _ => ps_doc, fun B hω E DE F a σ H ok hd k => k.nx F a σ H ok (Same.refl F) hd⟩
def dDrop (de : DEt) : DSt := fun E a => de a fun _ a' => E.nx a'
theorem ds_expr {pos : Pos} (he : DX X K ω e de) (hs : ∀ j, swapsWith e none pos.line (X j).env = pure false := by intro _; rfl) : DS X K ω (.Expr e pos) (dDrop de) := by
  obtain ⟨t, p, l⟩ := he
  exact ⟨_, fun j => ps_expr (p j) (hs j), fun B hω E DE F a σ H ok hd k => l B hω F a σ H _ _ ok hd fun v d F' a' H' g q r => k.nx F' a' σ H' g.ok g.ff r⟩
theorem Fi.le {m : Int} (f : Fi B F n H) (h : n ≤ m) : Fi B F m H := ⟨f.fh, f.ff, f.fr, f.fm, fun p e => ⟨(f.sr p e).1, (f.sr p e).2.1, (f.sr p e).2.2.le h⟩⟩
/-- at most so many numbers drawn -/
def dRet (de : DEt) : DSt := fun E a => de a fun d a' => ∃ m, a'.n ≤ m ∧ E.rt d m
theorem ds_ret {pos : Pos} (he : DX X K ω e de) : DS X K ω (.Return (some e) pos) (dRet de) := by
  obtain ⟨t, p, l⟩ := he
  exact ⟨_, fun j => ps_ret (p j), fun B hω E DE F a σ H ok hd k => l B hω F a σ H _ _ ok hd fun v d F' a' H' g q ⟨m, hm, r⟩ => k.rt v d m F' H' (g.ok.fi.le hm) g.ff q r⟩
theorem ds_retN {pos : Pos} : DS X K ω (.Return none pos) (fun E a => E.rt (.v .non) a.n) := ⟨_, fun _ => ps_retN, fun B hω E DE F a σ H ok hd k => k.rt _ (.v .non) a.n F H ok.fi (Same.refl F) rfl hd⟩
def dIfS (dt : DTt) (d1 d2 : DSt) : DSt := fun E a => dt a fun b a' => bIf b (d1 E a') (d2 E a')
theorem ds_if {c : Expr} {b1 b2 : List Stmt} {pos : Pos} (hc : DT X K ω c dt) (h1 : DSs X K ω b1 d1) (h2 : DSs X K ω b2 d2) : DS X K ω (.If c b1 b2 pos) (dIfS dt d1 d2) := by
  obtain ⟨t, p, l⟩ := hc
  obtain ⟨t1, p1, l1⟩ := h1
  obtain ⟨t2, p2, l2⟩ := h2
  exact ⟨_, fun j => ps_if (p j) (p1 j) (p2 j), fun B hω E DE F a σ H ok hd k => l B hω F a σ H _ _ ok hd fun b F' a' H' g r => r.imp (fun r => l1 B hω E DE F' a' σ H' g.ok r (k.mono g.ff)) fun r => l2 B hω E DE F' a' σ H' g.ok r (k.mono g.ff)⟩
/-! assignments -/
def dSet (i : Nat) (de : DEt) : DSt := fun E a => de a fun d a' => E.nx (a'.put i (.val d))
theorem ds_set {i : Nat} {x : Str} {pos' : Pos} (hN : ∀ j, (X j).N.Nodup) (hi : ∀ j, (X j).N[i]? = some x) (hx : ∀ j, Loc (X j).env.scope x) (he : DX X K ω e de) (hs : ∀ j, swapsWith e (some (.Name x pos')) pos.line (X j).env = pure false := by intro _; rfl)
    (hf : ∀ j, (X j).fn x = true ∨ (X j).env.scope.names.lookup x = some .local := by first | exact fun _ => .inl rfl | exact fun _ => .inr rfl | assumption) (hz : ω.sf = false ∨ i ≠ 0 := by first | exact Or.inl rfl | exact Or.inr (by decide)) : DS X K ω (.Assign [.Name x pos'] e pos) (dSet i de) := by
  obtain ⟨t, p, l⟩ := he
  exact ⟨_, fun j => ps_set (hN j) (hi j) (hx j) (p j) (hs j) (hf j), fun B hω E DE F a σ H ok hd k => l B hω F a σ H _ _ ok hd fun v d F' a' H' g q r => k.nx F' _ _ H' (g.ok.setV (hω.z hz) q) g.ff r⟩
/-- the name's object is one's own from now on -/
def dSetO (i : Nat) (de : DEt) : DSt := fun E a => de a fun d a' => E.nx (a'.put i (.own d))
theorem ds_setO {i : Nat} {x : Str} {pos' : Pos} (hN : ∀ j, (X j).N.Nodup) (hi : ∀ j, (X j).N[i]? = some x) (hx : ∀ j, Loc (X j).env.scope x) (he : DO X K ω e de) (hs : ∀ j, swapsWith e (some (.Name x pos')) pos.line (X j).env = pure false := by intro _; rfl)
    (hf : ∀ j, (X j).fn x = true ∨ (X j).env.scope.names.lookup x = some .local := by first | exact fun _ => .inl rfl | exact fun _ => .inr rfl | assumption) (hz : ω.sf = false ∨ i ≠ 0 := by first | exact Or.inl rfl | exact Or.inr (by decide)) : DS X K ω (.Assign [.Name x pos'] e pos) (dSetO i de) := by
  obtain ⟨t, p, l⟩ := he
  refine ⟨_, fun j => ps_set (hN j) (hi j) (hx j) (p j) (hs j) (hf j), fun B hω E DE F a σ H ok hd k => l B hω F a σ H _ _ ok hd fun p o d F' a' H' g n1 n2 h3 q r => ?_⟩
  obtain ⟨hF, h0, hs, no⟩ := ok.here n1
  exact k.nx F' _ _ H' (g.ok.setO (hω.z hz) h3 n2 h0 (fun z => no (g.oo p z)) q) g.ff r
def dAsg (de : DEt) (dg : DGt) : DSt := fun E a => de a fun d a' => dg d a' E.nx
theorem ds_asg {tg : Expr} {dg : DGt} {w : List Nat} (he : DX X K ω e de) (hg : DG X K ω tg dg w) (hs : ∀ j, swapsWithSole [tg] e pos.line (X j).env = pure false := by intro _; rfl) (hw : ∀ j, swappedStores [tg] e (X j).env = pure none := by intro _; rfl)
    (h1 : ∀ j, (assignEach [tg] (X j).env).map (·.2) = [assign tg (X j).env] := by intro _; rfl) : DS X K ω (.Assign [tg] e pos) (dAsg de dg) := by
  obtain ⟨t, p, l⟩ := he
  obtain ⟨g, p', l'⟩ := hg
  exact ⟨_, fun j => ps_asg (p j) (p' j) (hs j) (hw j) (h1 j), fun B hω E DE F a σ H ok hd k => l B hω F a σ H _ _ ok hd fun v d F' a' H' g q r => l' B hω F' a' σ H' v d _ _ g.ok q r fun a2 σ2 s r => k.nx F' a2 σ2 H' s.ok g.ff r⟩
/-! loops -/
def ItOk (K : PySem.W.Frag) (J : It) (F : Hp) (items : List D) : Prop := ∀ (i : Nat) (F1 H1 : Hp), Same F F1 → Same F1 H1 →
  (items.length ≤ i → J.stop i H1) ∧ ∀ d, items[i]? = some d → J.go i H1 ∧ ∀ x H', J.yld i H1 x H' → (H' = H1 ∧ Dat K F1 d x) ∨ ∃ p o, H1 p = none ∧ H' = upd H1 p o ∧ Dat K (upd F1 p o) d x
def LI (K : PySem.W.Frag) (ω : Wp) (wi : TI) (di : DAt) : Prop := ∀ (B : Bs K), WOk B ω → ∀ (F : Hp) (a : AS) (σ : St) (H : Hp) (Q : It → Hp → Prop) (R : List D → AS → Prop), Ok B F a σ H → di a R →
  (∀ J items F' a' H', Go B σ F a H F' a' H' → ItOk K J F' items → R items a' → Q J H') → wi σ H Q
def DI {ι : Type} (X : ι → Cx) (K : PySem.W.Frag) (ω : Wp) (tg iter : Expr) (di : DAt) : Prop := ∃ wi, (∀ j, PI (X j) tg iter wi) ∧ LI K ω wi di
theorem ItOk.mono {K : PySem.W.Frag} {J : It} {items : List D} (h : ItOk K J F items) (s : Same F F') : ItOk K J F' items := fun i F1 H1 s1 s2 => h i F1 H1 (s.trans s1) s2
/-- what comes out of an iterator at a turn -/
theorem ItOk.turn {J : It} {items : List D} {i : Nat} {d : D} {x : V} (h : ItOk K J F items) (ok : Ok B F1 a σ H) (s : Same F F1) (e : items[i]? = some d) (y : J.yld i H x H') : ∃ F', Go B σ F1 a H F' a H' ∧ Dat K F' d x := by
  rcases ((h i F1 H s ok.fi.fh).2 d e).2 x H' y with ⟨rfl, q⟩ | ⟨p, o, n, rfl, q⟩
  · exact ⟨F1, .refl ok, q⟩
  · exact ⟨_, ok.new n, q⟩
def dLoop (dg : DGt) (db : DSt) (E : DEnds) : List D → AS → Prop
  | [], a => E.nx a
  | d :: ds, a => dg d a fun a1 => db { E with nx := dLoop dg db E ds, ct := dLoop dg db E ds, bk := E.nx } a1
def dFor (di : DAt) (dg : DGt) (db : DSt) : DSt := fun E a => di a fun items a' => dLoop dg db E items a'
theorem ds_for {iter tg : Expr} {body : List Stmt} {di : DAt} {dg : DGt} {db : DSt} {w : List Nat} {pos : Pos} (hp : ∀ j, PassesOwn (model (X j).prog (X j).w) (X j).A (X j).env (X j).xe) (hc : ∀ j, (X j).calm = true) (hi : DI X K ω tg iter di) (hg : DG X K ω tg dg w) (hb : DSs X K ω body db)
    (hs : ∀ j x, foldedSetIterable iter (X j).env x = pure x := by intro _ _; rfl) : DS X K ω (.For tg iter body [] pos) (dFor di dg db) := by
  obtain ⟨wi, p1, l1⟩ := hi
  obtain ⟨g, p2, l2⟩ := hg
  obtain ⟨tb, p3, l3⟩ := hb
  refine ⟨_, fun j => ps_for (hp j) (hc j) (p1 j) (p2 j) (p3 j) (hs j), fun B hω E DE F a σ H ok hd k => l1 B hω F a σ H _ _ ok hd fun J items F' a' H' g it hR => ?_⟩
  refine ⟨fun i m σ1 H1 => ∃ F1 a1, Ok B F1 a1 σ1 H1 ∧ Same F' F1 ∧ i ≤ items.length ∧ m = items.length - i ∧ dLoop dg db DE (items.drop i) a1, ⟨_, F', a', g.ok, Same.refl F', Nat.zero_le _, rfl, hR⟩, ?_⟩
  rintro i m σ1 H1 ⟨F1, a1, ok1, s1, hi, rfl, hl⟩
  by_cases hlt : i < items.length
  · have e : items[i]? = some items[i] := List.getElem?_eq_getElem hlt
    rw [List.drop_eq_getElem_cons hlt] at hl
    refine .inr ⟨((it i F1 H1 s1 ok1.fi.fh).2 _ e).1, fun σ2 H2 => ∃ m', m' < items.length - i ∧ ∃ F2 a2, Ok B F2 a2 σ2 H2 ∧ Same F' F2 ∧ i + 1 ≤ items.length ∧ m' = items.length - (i + 1) ∧ dLoop dg db DE (items.drop (i + 1)) a2, fun σ2 H2 z => z, fun x H2 y => ?_⟩
    obtain ⟨F2, g2, q2⟩ := it.turn ok1 s1 e y
    refine l2 B hω F2 a1 σ1 H2 x _ _ _ g2.ok q2 hl fun a3 σ3 s3 hR => ?_
    have s03 : Same F' F2 := s1.trans g2.ff
    have nx : ∀ F4 a4 σ4 H4, Ok B F4 a4 σ4 H4 → Same F2 F4 → dLoop dg db DE (items.drop (i + 1)) a4 → ∃ m', m' < items.length - i ∧ ∃ F2 a2, Ok B F2 a2 σ4 H4 ∧ Same F' F2 ∧ i + 1 ≤ items.length ∧ m' = items.length - (i + 1) ∧ dLoop dg db DE (items.drop (i + 1)) a2 := fun F4 a4 σ4 H4 ok4 s4 z => ⟨items.length - (i + 1), by omega, F4, a4, ok4, s03.trans s4, hlt, rfl, z⟩
    exact l3 B hω _ _ F2 a3 σ3 H2 s3.ok hR ⟨nx, fun v d n F4 H4 f q r z => k.rt v d n F4 H4 f (g.ff.trans (s03.trans q)) r z, fun F4 a4 σ4 H4 ok4 s4 z => k.nx F4 a4 σ4 H4 ok4 (g.ff.trans (s03.trans s4)) z, nx⟩
  · have e : i = items.length := by omega
    subst e
    rw [List.drop_length] at hl
    exact .inl ⟨(it _ F1 H1 s1 ok1.fi.fh).1 (Nat.le_refl _), k.nx F1 a1 σ1 H1 ok1 (g.ff.trans s1) hl⟩
def dWhile (dt : DTt) (db : DSt) : DSt := fun E a => ∃ I : Nat → AS → Prop, (∃ m, I m a) ∧ ∀ m a, I m a → dt a fun b a1 => bIf b (db { E with nx := fun a' => ∃ m', m' < m ∧ I m' a', ct := fun a' => ∃ m', m' < m ∧ I m' a', bk := E.nx } a1) (E.nx a1)
theorem ds_while {c : Expr} {body : List Stmt} {db : DSt} {pos : Pos} (hp : ∀ j, PassesOwn (model (X j).prog (X j).w) (X j).A (X j).env (X j).xe) (hc : DT X K ω c dt) (hb : DSs X K ω body db) : DS X K ω (.While c body [] pos) (dWhile dt db) := by
  obtain ⟨t, p1, l1⟩ := hc
  obtain ⟨tb, p2, l2⟩ := hb
  refine ⟨_, fun j => ps_while (hp j) (p1 j) (p2 j), fun B hω E DE F a σ H ok hd k => ?_⟩
  obtain ⟨I, ⟨m0, i0⟩, turn⟩ := hd
  refine ⟨fun m σ1 H1 => ∃ F1 a1, Ok B F1 a1 σ1 H1 ∧ Same F F1 ∧ I m a1, ⟨m0, F, a, ok, Same.refl F, i0⟩, ?_⟩
  rintro m σ1 H1 ⟨F1, a1, ok1, s1, hI⟩
  refine l1 B hω F1 a1 σ1 H1 _ _ ok1 (turn m a1 hI) fun b F2 a2 H2 g hR => hR.imp (fun hR => ?_) fun hR => k.nx F2 a2 σ1 H2 g.ok (s1.trans g.ff) hR
  have s02 := s1.trans g.ff
  have nx : ∀ F4 a4 σ4 H4, Ok B F4 a4 σ4 H4 → Same F2 F4 → (∃ m', m' < m ∧ I m' a4) → ∃ m', m' < m ∧ ∃ F1 a1, Ok B F1 a1 σ4 H4 ∧ Same F F1 ∧ I m' a1 := fun F4 a4 σ4 H4 ok4 s4 ⟨m', h, z⟩ => ⟨m', h, F4, a4, ok4, s02.trans s4, z⟩
  exact ⟨fun σ4 H4 => ∃ m', m' < m ∧ ∃ F1 a1, Ok B F1 a1 σ4 H4 ∧ Same F F1 ∧ I m' a1, fun σ' H' z => z, l2 B hω _ _ F2 a2 σ1 H2 g.ok hR ⟨nx, fun v d n F4 H4 f q r z => k.rt v d n F4 H4 f (s02.trans q) r z, fun F4 a4 σ4 H4 ok4 s4 z => k.nx F4 a4 σ4 H4 ok4 (s02.trans s4) z, nx⟩⟩
end
section
variable {K : PySem.W.Frag} {ω : Wp} {B : Bs K} {F F' F1 F2 G : Hp} {a a' a1 a2 : AS} {σ σ' : St} {H H' H1 H2 : Hp} {n : Int} {te : TE} {de da db : DEt} {ι : Type} {X : ι → Cx} {e e1 e2 : Expr} {es : List Expr} {pos : Pos} {dt : DTt} {dl dm : DAt}
/-! argument lists -/
def dNil : DAt := fun a R => R [] a
def dCons (da : DEt) (dr : DAt) : DAt := fun a R => da a fun d a1 => dr a1 fun ds a2 => R (d :: ds) a2
theorem da_nil : DAE X K ω [] dNil := ⟨_, fun _ => pa_nil, fun B hω F a σ H Q R ok hd k => k [] [] F a H (.refl ok) rfl hd⟩
theorem dab_nil : DAB X K ω [] dNil := ⟨_, fun _ => pa_nil, fun B hω F a σ H Q R ok hd k => k [] [] F a H (.refl ok) rfl hd⟩
theorem da_cons (h : DX X K ω e de) (hr : DAE X K ω es dl) (hs : ∀ j, starEach (e :: es) (X j).env = (false, eval e (X j).env) :: starEach es (X j).env := by intro _; rfl) : DAE X K ω (e :: es) (dCons de dl) := by
  obtain ⟨t, p, l⟩ := h
  obtain ⟨t', p', l'⟩ := hr
  refine ⟨_, fun j => pa_cons (p j) (p' j) (hs j), fun B hω F a σ H Q R ok hd k => l B hω F a σ H _ _ ok hd fun v d F1 a1 H1 g1 q1 r1 => ?_⟩
  exact l' B hω F1 a1 σ H1 _ _ g1.ok r1 fun vs ds F2 a2 H2 g2 q2 r2 => k _ _ F2 a2 H2 (.trans ok g1 g2) (.cons (q1.mono g2.ff) q2) r2
theorem dab_cons (h : DB X K ω e de) (hr : DAB X K ω es dl) (hs : ∀ j, starEach (e :: es) (X j).env = (false, eval e (X j).env) :: starEach es (X j).env := by intro _; rfl) : DAB X K ω (e :: es) (dCons de dl) := by
  obtain ⟨t, p, l⟩ := h
  obtain ⟨t', p', l'⟩ := hr
  refine ⟨_, fun j => pa_cons (p j) (p' j) (hs j), fun B hω F a σ H Q R ok hd k => l B hω F a σ H _ _ ok hd fun v d F1 a1 H1 g1 q1 r1 => ?_⟩
  exact l' B hω F1 a1 σ H1 _ _ g1.ok r1 fun vs ds F2 a2 H2 g2 q2 r2 => k _ _ F2 a2 H2 (.trans ok g1 g2) (.cons (q1.mono g2.bs) q2) r2
/-! displays -/
def dTup (dl : DAt) : DEt := fun a R => dl a fun ds a' => ds.length ≤ sizeLine ∧ R (.tup ds) a'
def dLst (dl : DAt) : DEt := fun a R => dl a fun ds a' => ds.length ≤ sizeLine ∧ R (.lst ds) a'
theorem de_tup {x1} {pos : Pos} (h : DAE X K ω es dl) : DX X K ω (.Tuple es x1 pos) (dTup dl) := by
  obtain ⟨t, p, l⟩ := h
  refine ⟨_, fun j => pe_tup (p j), fun B hω F a σ H Q R ok hd k => l B hω F a σ H _ _ ok hd fun vs ds F1 a1 H1 g1 q1 r1 => ?_⟩
  refine ⟨by rw [q1.len]; exact r1.1, fun p hp => ?_⟩
  have g2 := g1.ok.new (o := .tup vs) hp
  exact k _ (.tup ds) _ _ _ (.trans ok g1 g2) ⟨p, vs, rfl, upd_same, q1.mono g2.ff⟩ r1.2
/-- a new list -/
theorem Go.list (ok : Ok B F a σ H) (g1 : Go B σ F a H F1 a1 H1) {p : Addr} {vs : List V} {ds : List D} (hp : H1 p = none) (q : DatL K F1 ds vs) {Q : VK} {R : D → AS → Prop} (r : R (.lst ds) a1)
    (k : ∀ p o d F' a' H', Go B σ F a H F' a' H' → H p = none → F' p = none → H' p = some o → Rep K F' d o → R d a' → Q (.ref p) H') : Q (.ref p) (upd H1 p (.lst vs)) := by
  have g2 := g1.ok.newO (o := .lst vs) hp
  have h0 : H p = none := by
    cases e : H p with
    | none => rfl
    | some o =>
      have n := (g1.ok.here hp).2.2.1
      rw [g1.hh p o n e] at hp
      cases hp
  exact k p (.lst vs) (.lst ds) F1 a1 _ (.trans ok g1 g2) h0 (g1.ok.here hp).1 upd_same ⟨vs, rfl, q⟩ r
theorem do_lst {pos : Pos} (h : DAE X K ω es dl) : DO X K ω (.List es pos) (dLst dl) := by
  obtain ⟨t, p, l⟩ := h
  refine ⟨_, fun j => pe_lst (p j), fun B hω F a σ H Q R ok hd k => l B hω F a σ H _ _ ok hd fun vs ds F1 a1 H1 g1 q1 r1 => ?_⟩
  exact ⟨by rw [q1.len]; exact r1.1, fun p hp => g1.list ok hp q1 r1.2 k⟩
def opt (o : Option D) (R : D → Prop) : Prop := match o with
  | some d => R d
  | none => False
theorem opt_of {o : Option D} {R : D → Prop} (h : opt o R) : ∃ d, o = some d ∧ R d := by
  cases o with
  | none => exact h.elim
  | some d => exact ⟨d, rfl, h⟩
/-! an item -/
def dIx : DR := fun d e R => match d, e with
  | .lst ds, .v (.int i) => opt (atI ds i) R
  | .tup ds, .v (.int i) => opt (atI ds i) R
  | .ctup ds, .v (.int i) => opt (atI ds i) R
  | .ftup ds, .v (.int i) => opt (atI ds i) R
  | .v (.str z), .v (.int i) => z.length ≤ sizeLine ∧ match atI z.cps.toList i with
    | some c => R (.v (.str ⟨#[c]⟩))
    | none => False
  | _, _ => False
theorem atI_dat {ds : List D} {vs : List V} {i : Int} {d : D} (q : DatL K H ds vs) (h : atI ds i = some d) : ∃ v, atI vs i = some v ∧ Dat K H d v := by
  unfold atI at h ⊢
  rw [q.len]
  cases e : ixN ds.length i with
  | none => rw [e] at h; cases h
  | some j =>
    rw [e] at h
    exact q.get h
theorem ix_dat {x y : V} {d f : D} {Q : VK} {R : D → Prop} (s : Same G H) (hx : Dat K G d x) (hy : Dat K G f y) (h : dIx d f R) (k : ∀ v g, Dat K G g v → R g → Q v H) : rIx K x y H Q := by
  unfold dIx at h
  split at h
  · rename_i ds i
    obtain ⟨p, vs, rfl, h1, h2⟩ := hx
    obtain ⟨g, e, r⟩ := opt_of h
    obtain ⟨v, e1, e2⟩ := atI_dat h2 e
    exact .inl ⟨p, vs, i, v, rfl, hy, SqL.of (s _ _ h1), e1, k v g e2 r⟩
  · rename_i ds i
    obtain ⟨p, vs, rfl, h1, h2⟩ := hx
    obtain ⟨g, e, r⟩ := opt_of h
    obtain ⟨v, e1, e2⟩ := atI_dat h2 e
    exact .inr (.inl ⟨p, vs, i, v, rfl, hy, SqT.of (s _ _ h1), e1, k v g e2 r⟩)
  · rename_i ds i
    obtain ⟨p, vs, rfl, h1, h2⟩ := hx
    obtain ⟨g, e, r⟩ := opt_of h
    obtain ⟨v, e1, e2⟩ := atI_dat h2 e
    exact .inr (.inl ⟨p, vs, i, v, rfl, hy, same_seqT s h1, e1, k v g e2 r⟩)
  · rename_i ds i
    obtain ⟨p, vs, rfl, h1, h2⟩ := hx
    obtain ⟨g, e, r⟩ := opt_of h
    obtain ⟨v, e1, e2⟩ := atI_dat h2 e
    exact .inr (.inl ⟨p, vs, i, v, rfl, hy, (h1.mono s).sq, e1, k v g e2 r⟩)
  · rename_i z i
    obtain ⟨h1, h2⟩ := h
    split at h2
    · rename_i c e
      exact .inr (.inr ⟨z, i, c, hx, hy, h1, e, k _ (.v _) rfl h2⟩)
    · exact h2.elim
  · exact h.elim
theorem de_ix (ha : DX X K ω e1 da) (hb : DB X K ω e2 db) (hs : PlainIx e2) (hK : ∀ j, (X j).K = K := by intro _; rfl) : DX X K ω (.Subscript e1 e2 pos) (dOp dIx da (dFlat db)) := by
  obtain ⟨ta, p1, l1⟩ := ha
  obtain ⟨tb, p2, l2⟩ := hb
  refine ⟨tOp (rIx K) ta tb, fun j => by rw [← hK j]; exact pe_ix ix_seq (p1 j) (p2 j) hs, fun B hω F a σ H Q R ok hd k => l1 B hω F a σ H _ _ ok hd fun v d F1 a1 H1 g1 q1 r1 => l2.flat B hω F1 a1 σ H1 _ _ g1.ok r1 fun w f F2 a2 H2 g2 q2 r2 => ?_⟩
  exact ix_dat g2.ok.fi.fh (q1.mono g2.ff) q2 r2 fun v g q r => k v g F2 a2 H2 (.trans ok g1 g2) q r
theorem db_ix (ha : DB X K ω e1 da) (hb : DB X K ω e2 db) (hs : PlainIx e2) (hK : ∀ j, (X j).K = K := by intro _; rfl) : DB X K ω (.Subscript e1 e2 pos) (dOp dIx da db) := by
  obtain ⟨ta, p1, l1⟩ := ha
  obtain ⟨tb, p2, l2⟩ := hb
  refine ⟨tOp (rIx K) ta tb, fun j => by rw [← hK j]; exact pe_ix ix_seq (p1 j) (p2 j) hs, fun B hω F a σ H Q R ok hd k => l1 B hω F a σ H _ _ ok hd fun v d F1 a1 H1 g1 q1 r1 => l2 B hω F1 a1 σ H1 _ _ g1.ok r1 fun w f F2 a2 H2 g2 q2 r2 => ?_⟩
  exact ix_dat hs_same (q1.mono g2.bs) q2 r2 fun v g q r => k v g F2 a2 H2 (.trans ok g1 g2) q r
/-- an item of what is one's own -/
def dIxO (i : Nat) (db : DEt) : DEt := fun a R => db a fun x a1 => match a1.at i, x with
  | .own (.lst ds), .v (.int j) => opt (atI ds j) fun d => R d a1
  | .val (.lst ds), .v (.int j) => opt (atI ds j) fun d => R d a1
  | .val (.tup ds), .v (.int j) => opt (atI ds j) fun d => R d a1
  | _, _ => False
/-! a slice -/
def dPart (db : DEt) : AS → (Option Int → AS → Prop) → Prop := fun a R => db a fun x a1 => match x with
  | .v (.int i) => R (some i) a1
  | _ => False
def dNoPart : AS → (Option Int → AS → Prop) → Prop := fun a R => R none a
def LPO (K : PySem.W.Frag) (ω : Wp) (t : TO) (dp : AS → (Option Int → AS → Prop) → Prop) : Prop := ∀ (B : Bs K), WOk B ω → ∀ (F : Hp) (a : AS) (σ : St) (H : Hp) (Q : Option Int → Hp → Prop) (R : Option Int → AS → Prop), Ok B F a σ H → dp a R → (∀ o F' a' H', Go B σ F a H F' a' H' → R o a' → Q o H') → t σ H Q
def DPO {ι : Type} (X : ι → Cx) (K : PySem.W.Frag) (ω : Wp) (e : Option Expr) (dp : AS → (Option Int → AS → Prop) → Prop) : Prop := ∃ t, (∀ j, PO (X j) e t) ∧ LPO K ω t dp
theorem dpo_none : DPO X K ω none dNoPart := ⟨_, fun _ => po_none, fun B hω F a σ H Q R ok hd k => k none F a H (.refl ok) hd⟩
theorem dpo_some (h : DB X K ω e db) : DPO X K ω (some e) (dPart db) := by
  obtain ⟨t, p, l⟩ := h
  refine ⟨_, fun j => po_some (p j), fun B hω F a σ H Q R ok hd k => l B hω F a σ H _ _ ok hd fun v d F1 a1 H1 g1 q1 r1 => ?_⟩
  split at r1
  · rename_i i
    exact ⟨i, q1, k _ F1 a1 H1 g1 r1⟩
  · exact r1.elim
def cutD (ds : List D) (lo hi : Option Int) : List D := (ds.drop (HT.sIx ds.length 0 lo)).take (HT.sIx ds.length ds.length hi - HT.sIx ds.length 0 lo)
theorem cut_dat {ds : List D} {vs : List V} {lo hi : Option Int} (q : DatL K H ds vs) : DatL K H (cutD ds lo hi) (cutV vs lo hi) := by
  unfold cutD cutV
  rw [q.len]
  exact (q.drop _).take _
variable {lo hi : Option Expr} {dlo dhi : AS → (Option Int → AS → Prop) → Prop} {p2 : Pos}
def dSlL (da : DEt) (dlo dhi : AS → (Option Int → AS → Prop) → Prop) : DEt := fun a R => da a fun x a1 => dlo a1 fun l a2 => dhi a2 fun h a3 => match x with
  | .lst ds => R (.lst (cutD ds l h)) a3
  | _ => False
theorem do_slL (ha : DX X K ω e1 da) (hl : DPO X K ω lo dlo) (hh : DPO X K ω hi dhi) (hK : ∀ j, (X j).K = K := by intro _; rfl) : DO X K ω (.Subscript e1 (.Slice lo hi none p2) pos) (dSlL da dlo dhi) := by
  obtain ⟨ta, p1, l1⟩ := ha
  obtain ⟨tl, p2, l2⟩ := hl
  obtain ⟨th, p3, l3⟩ := hh
  refine ⟨tSl (rSlL K) ta tl th, fun j => by rw [← hK j]; exact pe_slice sl_list (p1 j) (p2 j) (p3 j), fun B hω F a σ H Q R ok hd k => l1 B hω F a σ H _ _ ok hd fun v d F1 a1 H1 g1 q1 r1 => l2 B hω F1 a1 σ H1 _ _ g1.ok r1 fun l F2 a2 H2 g2 r2 => l3 B hω F2 a2 σ H2 _ _ g2.ok r2 fun h F3 a3 H3 g3 r3 => ?_⟩
  split at r3
  · rename_i ds
    obtain ⟨p, vs, rfl, h1, h2⟩ := q1
    have g := Go.trans ok g1 (.trans g1.ok g2 g3)
    have s13 : Same F1 F3 := g2.ff.trans g3.ff
    exact ⟨p, vs, rfl, SqL.of (g3.ok.fi.fh _ _ (s13 _ _ h1)), fun q hq => g.list ok hq (cut_dat (h2.mono s13)) r3 k⟩
  · exact r3.elim
def dSlT (da : DEt) (dlo dhi : AS → (Option Int → AS → Prop) → Prop) : DEt := fun a R => da a fun x a1 => dlo a1 fun l a2 => dhi a2 fun h a3 => match x with
  | .tup ds => ¬ (HT.sIx ds.length 0 l = 0 ∧ HT.sIx ds.length ds.length h = ds.length) ∧ R (.tup (cutD ds l h)) a3
  | _ => False
def dSlS (da : DEt) (dlo dhi : AS → (Option Int → AS → Prop) → Prop) : DEt := fun a R => da a fun x a1 => dlo a1 fun l a2 => dhi a2 fun h a3 => match x with
  | .v (.str z) => z.length ≤ sizeLine ∧ R (.v (.str (cutS z l h))) a3
  | _ => False
theorem de_slS (ha : DB X K ω e1 da) (hl : DPO X K ω lo dlo) (hh : DPO X K ω hi dhi) : DX X K ω (.Subscript e1 (.Slice lo hi none p2) pos) (dSlS da dlo dhi) := by
  obtain ⟨ta, p1, l1⟩ := ha
  obtain ⟨tl, p2, l2⟩ := hl
  obtain ⟨th, p3, l3⟩ := hh
  refine ⟨_, fun j => pe_slice sl_str (p1 j) (p2 j) (p3 j), fun B hω F a σ H Q R ok hd k => l1 B hω F a σ H _ _ ok hd fun v d F1 a1 H1 g1 q1 r1 => l2 B hω F1 a1 σ H1 _ _ g1.ok r1 fun l F2 a2 H2 g2 r2 => l3 B hω F2 a2 σ H2 _ _ g2.ok r2 fun h F3 a3 H3 g3 r3 => ?_⟩
  split at r3
  · rename_i z
    exact ⟨z, q1, r3.1, k _ (.v _) F3 a3 H3 (.trans ok g1 (.trans g1.ok g2 g3)) rfl r3.2⟩
  · exact r3.elim
/-! == and in -/
mutual
def pD : D → PyData
  | .v .non => .none
  | .v (.bl b) => .bool b
  | .v (.int i) => .int i
  | .v (.str x) => .str x
  | .tup ds => .tuple (pDs ds)
  | .ctup ds => .tuple (pDs ds)
  | .ftup ds => .tuple (pDs ds)
  | .lst ds => .list (pDs ds)
  | _ => .none
def pDs : List D → List PyData
  | [] => []
  | d :: ds => pD d :: pDs ds
end
mutual
/-- data that == compares: texts as they are written, no dicts, no objects -/
def isP : D → Bool
  | .v .non => true
  | .v (.bl _) => true
  | .v (.int _) => true
  | .v (.str x) => PyData.strOk x
  | .tup ds => isPs ds
  | .ctup ds => isPs ds
  | .ftup ds => isPs ds
  | .lst ds => isPs ds
  | _ => false
def isPs : List D → Bool
  | [] => true
  | d :: ds => isP d && isPs ds
end
mutual
theorem isP_lay : ∀ d : D, isP d = true → (pD d).canLay0 = true
  | .v .non, _ => rfl
  | .v (.bl _), _ => rfl
  | .v (.int _), _ => rfl
  | .v (.str _), h => h
  | .tup ds, h => isPs_lay ds h
  | .ctup ds, h => isPs_lay ds h
  | .ftup ds, h => isPs_lay ds h
  | .lst ds, h => isPs_lay ds h
  | .v (.byt _), h => nomatch h
  | .v (.flt _), h => nomatch h
  | .v (.ref _), h => nomatch h
  | .v (.ty _), h => nomatch h
  | .dK _, h => nomatch h
  | .dT _, h => nomatch h
  | .ins _ _, h => nomatch h
  | .ob _, h => nomatch h
theorem isPs_lay : ∀ ds : List D, isPs ds = true → PyData.canLayAll0 (pDs ds) = true
  | [], _ => rfl
  | d :: ds, h => by
    obtain ⟨h1, h2⟩ := Bool.and_eq_true_iff.mp (show (isP d && isPs ds) = true from h)
    exact Bool.and_eq_true_iff.mpr ⟨isP_lay d h1, isPs_lay ds h2⟩
end
mutual
theorem dat_dp (s : Same G H) : ∀ {d : D} {x : V}, isP d = true → Dat K G d x → Dp K H x (pD d)
  | .v .non, _, _, h => by cases (show _ = V.non from h); exact .non
  | .v (.bl _), _, _, h => by cases (show _ = V.bl _ from h); exact .bl _
  | .v (.int _), _, _, h => by cases (show _ = V.int _ from h); exact .int _
  | .v (.str _), _, _, h => by cases (show _ = V.str _ from h); exact .str _
  | .tup ds, _, p, ⟨_, _, e, h, l⟩ => by cases e; exact .tup (SqT.of (s _ _ h)) (datL_dp s p l)
  | .ctup ds, _, p, ⟨_, _, e, h, l⟩ => by cases e; exact .tup (same_seqT s h) (datL_dp s p l)
  | .ftup ds, _, p, ⟨_, _, e, h, l⟩ => by cases e; exact .tup (h.mono s).sq (datL_dp s p l)
  | .lst ds, _, p, ⟨_, _, e, h, l⟩ => by cases e; exact .lst (SqL.of (s _ _ h)) (datL_dp s p l)
  | .v (.byt _), _, h, _ => nomatch h
  | .v (.flt _), _, h, _ => nomatch h
  | .v (.ref _), _, h, _ => nomatch h
  | .v (.ty _), _, h, _ => nomatch h
  | .dK _, _, h, _ => nomatch h
  | .dT _, _, h, _ => nomatch h
  | .ins _ _, _, h, _ => nomatch h
  | .ob _, _, h, _ => nomatch h
theorem datL_dp (s : Same G H) : ∀ {ds : List D} {xs : List V}, isPs ds = true → DatL K G ds xs → DpAll K H xs (pDs ds)
  | [], _, _, h => by rw [show _ = [] from h]; exact .nil
  | d :: ds, _, p, ⟨v, r, e, h, l⟩ => by
    obtain ⟨h1, h2⟩ := Bool.and_eq_true_iff.mp (show (isP d && isPs ds) = true from p)
    rw [e]
    exact .cons (dat_dp s h1 h) (datL_dp s h2 l)
end
/-- data whose == is asked -/
def okP (d : D) : Prop := isP d = true ∧ (pD d).depth ≤ 64
theorem okP.shaped {d : D} (h : okP d) : SeqAt.shaped (pD d) = true := Bool.and_eq_true_iff.mpr ⟨isP_lay d h.1, decide_eq_true h.2⟩
def nb : Bool → Bool → Bool
  | false, b => b
  | true, b => !b
def dEqB (neg : Bool) : DR := fun d e R => match d, e with
  | .v x, .v y => scal x y = true ∧ R (.v (.bl (nb neg (decide (x = y)))))
  | d, e => okP d ∧ okP e ∧ R (.v (.bl (nb neg (PyData.eqv (pD d) (pD e)))))
theorem dop_eq (hu : ∀ j, (X j).A.units + 64 < cLine) (hK : ∀ j, (X j).K = K := by intro _; rfl) : DOpR X K ω (compareOp .Eq) (dEqB false) := by
  refine ⟨fun x y H Q => rEq x y H Q ∨ rEqD K x y H Q, fun j pins s σ H x y v u Q I rx ry h => ?_, fun B hω F a σ H x y d e Q R ok hx hy hd k => ?_⟩
  · rcases h with h | h
    · exact op_eq pins s σ H x y v u Q I rx ry h
    · rw [← hK j] at h
      exact op_eqD (hu j) pins s σ H x y v u Q I rx ry h
  · unfold dEqB at hd
    split at hd
    · rw [show x = _ from hx, show y = _ from hy]
      exact .inl ⟨hd.1, k _ (.v _) F H (.refl ok) rfl hd.2⟩
    · obtain ⟨p, q, r⟩ := hd
      exact .inr ⟨_, _, dat_dp hs_same p.1 hx, dat_dp hs_same q.1 hy, p.shaped, q.shaped, k _ (.v _) F H (.refl ok) rfl r⟩
theorem dop_ne (hu : ∀ j, (X j).A.units + 64 < cLine) (hK : ∀ j, (X j).K = K := by intro _; rfl) : DOpR X K ω (compareOp .NotEq) (dEqB true) := by
  refine ⟨fun x y H Q => rNe x y H Q ∨ rNeD K x y H Q, fun j pins s σ H x y v u Q I rx ry h => ?_, fun B hω F a σ H x y d e Q R ok hx hy hd k => ?_⟩
  · rcases h with h | h
    · exact op_ne pins s σ H x y v u Q I rx ry h
    · rw [← hK j] at h
      exact op_neD (hu j) pins s σ H x y v u Q I rx ry h
  · unfold dEqB at hd
    split at hd
    · rw [show x = _ from hx, show y = _ from hy]
      exact .inl ⟨hd.1, k _ (.v _) F H (.refl ok) rfl hd.2⟩
    · obtain ⟨p, q, r⟩ := hd
      exact .inr ⟨_, _, dat_dp hs_same p.1 hx, dat_dp hs_same q.1 hy, p.shaped, q.shaped, k _ (.v _) F H (.refl ok) rfl r⟩
/-- x in a list or tuple of flat things -/
def unV : List D → Option (List V)
  | [] => some []
  | .v x :: ds => (unV ds).map (x :: ·)
  | _ :: _ => none
theorem unV_of : ∀ {ds : List D} {xs : List V}, unV ds = some xs → ds = xs.map D.v
  | [], xs, h => by cases h; rfl
  | .v x :: ds, xs, h => by
    obtain ⟨ys, h1, rfl⟩ := Option.map_eq_some_iff.mp (show (unV ds).map (x :: ·) = some xs from h)
    rw [unV_of h1]
    rfl
theorem datL_flat : ∀ {xs vs : List V}, DatL K H (xs.map D.v) vs → vs = xs
  | [], _, h => h
  | x :: xs, _, ⟨v, r, e, h, l⟩ => by rw [e, show v = x from h, datL_flat l]
def seqD : D → Option (List D)
  | .lst ds => some ds
  | .tup ds => some ds
  | .ctup ds => some ds
  | .ftup ds => some ds
  | _ => none
def dIn (neg : Bool) : DR := fun d e R => match d, (seqD e).bind unV with
  | .v x, some ys => flatV x = true ∧ ys.all flatV = true ∧ R (.v (.bl (nb neg (inV x ys))))
  | d, _ => match e with
    | .lst es => okP d ∧ okP (.lst es) ∧ R (.v (.bl (nb neg ((pDs es).any fun z => PyData.eqv z (pD d)))))
    | _ => False
theorem seqD_dat {d : D} {ds : List D} {x : V} (e : seqD d = some ds) (s : Same G H) (h : Dat K G d x) : ∃ p vs, x = .ref p ∧ (SqL K H p vs ∨ SqT K H p vs) ∧ DatL K G ds vs := by
  cases d with
  | lst es =>
    cases e
    obtain ⟨p, vs, rfl, h1, h2⟩ := h
    exact ⟨p, vs, rfl, .inl (SqL.of (s _ _ h1)), h2⟩
  | tup es =>
    cases e
    obtain ⟨p, vs, rfl, h1, h2⟩ := h
    exact ⟨p, vs, rfl, .inr (SqT.of (s _ _ h1)), h2⟩
  | ctup es =>
    cases e
    obtain ⟨p, vs, rfl, h1, h2⟩ := h
    exact ⟨p, vs, rfl, .inr (same_seqT s h1), h2⟩
  | ftup es =>
    cases e
    obtain ⟨p, vs, rfl, h1, h2⟩ := h
    exact ⟨p, vs, rfl, .inr (h1.mono s).sq, h2⟩
  | _ => cases e
end
section
variable {K : PySem.W.Frag} {ω : Wp} {B : Bs K} {F F' F1 F2 G : Hp} {a a' a1 a2 : AS} {σ σ' : St} {H H' H1 H2 : Hp} {n : Int} {te : TE} {de da db : DEt} {ι : Type} {X : ι → Cx} {e e1 e2 : Expr} {es : List Expr} {pos : Pos} {dt : DTt} {dl dm : DAt}
theorem dop_in (hu : ∀ j, (X j).A.units + 65 < cLine) (hK : ∀ j, (X j).K = K := by intro _; rfl) : DOpR X K ω (compareOp .In) (dIn false) := by
  refine ⟨fun x y H Q => rIn K false x y H Q ∨ rInD K x y H Q, fun j pins s σ H x y v u Q I rx ry h => ?_, fun B hω F a σ H x y d e Q R ok hx hy hd k => ?_⟩
  · rcases h with h | h
    · rw [← hK j] at h
      exact op_in_seq pins s σ H x y v u Q I rx ry h
    · rw [← hK j] at h
      exact op_inD (hu j) pins s σ H x y v u Q I rx ry h
  · unfold dIn at hd
    split at hd
    · rename_i w ys e
      obtain ⟨ds, e1, e2⟩ := Option.bind_eq_some_iff.mp e
      obtain ⟨p, vs, rfl, h1, h2⟩ := seqD_dat e1 hs_same hy
      rw [unV_of e2] at h2
      cases datL_flat h2
      rw [show x = w from hx]
      exact .inl ⟨p, _, rfl, h1, hd.1, hd.2.1, k _ (.v _) F H (.refl ok) rfl hd.2.2⟩
    · split at hd
      · obtain ⟨p, q, r⟩ := hd
        exact .inr ⟨_, _, dat_dp hs_same p.1 hx, dat_dp (d := .lst _) hs_same q.1 hy, p.shaped, q.shaped, k _ (.v _) F H (.refl ok) rfl r⟩
      · exact hd.elim
theorem dop_notin (hu : ∀ j, (X j).A.units + 65 < cLine) (hK : ∀ j, (X j).K = K := by intro _; rfl) : DOpR X K ω (compareOp .NotIn) (dIn true) := by
  refine ⟨fun x y H Q => rIn K true x y H Q ∨ rNotInD K x y H Q, fun j pins s σ H x y v u Q I rx ry h => ?_, fun B hω F a σ H x y d e Q R ok hx hy hd k => ?_⟩
  · rcases h with h | h
    · rw [← hK j] at h
      exact op_notIn_seq pins s σ H x y v u Q I rx ry h
    · rw [← hK j] at h
      exact op_notInD (hu j) pins s σ H x y v u Q I rx ry h
  · unfold dIn at hd
    split at hd
    · rename_i w ys e
      obtain ⟨ds, e1, e2⟩ := Option.bind_eq_some_iff.mp e
      obtain ⟨p, vs, rfl, h1, h2⟩ := seqD_dat e1 hs_same hy
      rw [unV_of e2] at h2
      cases datL_flat h2
      rw [show x = w from hx]
      exact .inl ⟨p, _, rfl, h1, hd.1, hd.2.1, k _ (.v _) F H (.refl ok) rfl hd.2.2⟩
    · split at hd
      · obtain ⟨p, q, r⟩ := hd
        exact .inr ⟨_, _, dat_dp hs_same p.1 hx, dat_dp (d := .lst _) hs_same q.1 hy, p.shaped, q.shaped, k _ (.v _) F H (.refl ok) rfl r⟩
      · exact hd.elim
/-! is None -/
def dIsN (neg : Bool) : DR := fun d e R => match e with
  | .v .non => (match d with
    | .v .non => R (.v (.bl (nb neg true)))
    | .v (.ty _) => False
    | .ob _ => False
    | _ => R (.v (.bl (nb neg false))))
  | _ => False
theorem isN_dat {d : D} {x : V} {R : D → Prop} {neg : Bool} (hx : Dat K G d x) (h : dIsN neg d (.v .non) R) : R (.v (.bl (nb neg (decide (x = .non))))) := by
  cases d with
  | v y =>
    rw [show x = y from hx]
    cases y with
    | ty _ => exact h.elim
    | _ => exact h
  | tup ds => obtain ⟨_, _, rfl, _⟩ := hx; exact h
  | ctup ds => obtain ⟨_, _, rfl, _⟩ := hx; exact h
  | ftup ds => obtain ⟨_, _, rfl, _⟩ := hx; exact h
  | lst ds => obtain ⟨_, _, rfl, _⟩ := hx; exact h
  | dK _ => obtain ⟨_, _, rfl, _⟩ := hx; exact h
  | dT _ => obtain ⟨_, _, rfl, _⟩ := hx; exact h
  | ins _ _ => obtain ⟨_, _, _, rfl, _⟩ := hx; exact h
  | ob _ => exact h.elim
theorem isN_e {d e : D} {R : D → Prop} {neg : Bool} (h : dIsN neg d e R) : e = .v .non := by
  unfold dIsN at h
  split at h
  · rfl
  · exact h.elim
theorem dop_isN : DOpR X K ω (compareOp .Is) (dIsN false) := ⟨_, fun _ => op_isN, fun B hω F a σ H x y d e Q R ok hx hy hd k => by
  cases isN_e hd
  exact ⟨hy, k _ (.v _) F H (.refl ok) rfl (isN_dat hx hd)⟩⟩
theorem dop_notN : DOpR X K ω (compareOp .IsNot) (dIsN true) := ⟨_, fun _ => op_notN, fun B hω F a σ H x y d e Q R ok hx hy hd k => by
  cases isN_e hd
  exact ⟨hy, k _ (.v _) F H (.refl ok) rfl (isN_dat hx hd)⟩⟩
/-! list operators: what goes in stays -/
def LRO (K : PySem.W.Frag) (ω : Wp) (r : R2) (dr : DR) : Prop := ∀ (B : Bs K), WOk B ω → ∀ (F : Hp) (a : AS) (σ : St) (H : Hp) (x y : V) (d e : D) (Q : VK) (R : D → Prop), Ok B F a σ H → Dat K F d x → Dat K F e y → dr d e R →
  (∀ (p : Addr) (vs : List V) (ds : List D), H p = none → DatL K F ds vs → R (.lst ds) → Q (.ref p) (upd H p (.lst vs))) → r x y H Q
def dCat : DR := fun d e R => match d, e with
  | .lst ds, .lst es => ds.length + es.length ≤ sizeLine ∧ R (.lst (ds ++ es))
  | _, _ => False
theorem lr_cat : LRO K ω rCat dCat := fun B hω F a σ H x y d e Q R ok hx hy hd k => by
  unfold dCat at hd
  split at hd
  · obtain ⟨p, vs, rfl, h1, h2⟩ := hx
    obtain ⟨q, ws, rfl, h3, h4⟩ := hy
    exact ⟨p, q, vs, ws, rfl, rfl, ok.fi.fh _ _ h1, ok.fi.fh _ _ h3, by rw [h2.len, h4.len]; exact hd.1, fun u hu => k u _ _ hu (h2.app h4) hd.2⟩
  · exact hd.elim
def repD (ds : List D) : Nat → List D
  | 0 => []
  | n + 1 => ds ++ repD ds n
theorem do_op {op : Operator} {dr : DR} {r : R2} (ho : ∀ j, OpR (X j) (binaryOp op) r) (l : LRO K ω r dr) (ha : DX X K ω e1 da) (hb : DX X K ω e2 db) : DO X K ω (.BinOp e1 op e2 pos) (dOp dr da db) := by
  obtain ⟨ta, p1, l1⟩ := ha
  obtain ⟨tb, p2, l2⟩ := hb
  refine ⟨_, fun j => pe_op (ho j) (p1 j) (p2 j), fun B hω F a σ H Q R ok hd k => l1 B hω F a σ H _ _ ok hd fun x d F1 a1 H1 g1 q1 r1 => l2 B hω F1 a1 σ H1 _ _ g1.ok r1 fun y e F2 a2 H2 g2 q2 r2 => ?_⟩
  exact l B hω F2 a2 σ H2 x y d e Q _ g2.ok (q1.mono g2.ff) q2 r2 fun p vs ds hp hds hR => Go.list ok (.trans ok g1 g2) hp hds hR k
theorem do_cat (ha : DX X K ω e1 da) (hb : DX X K ω e2 db) : DO X K ω (.BinOp e1 .Add e2 pos) (dOp dCat da db) := do_op (fun _ => op_cat) lr_cat ha hb
def dCatT : DR := fun d e R => match d, e with
  | .tup ds, .tup es => ds ≠ [] ∧ es ≠ [] ∧ ds.length + es.length ≤ sizeLine ∧ R (.tup (ds ++ es))
  | _, _ => False
/-! built-in functions: what goes in may be borrowed, what comes out stays -/
abbrev DC := List D → (D → Prop) → Prop
def LCl (K : PySem.W.Frag) (ω : Wp) (r : List V → Hp → VK → Prop) (dc : DC) : Prop := ∀ (B : Bs K), WOk B ω → ∀ (F : Hp) (a : AS) (σ : St) (H : Hp) (xs : List V) (ds : List D) (Q : VK) (R : D → Prop), Ok B F a σ H → DatL K (Hs B.sp H) ds xs → dc ds R →
  (∀ v f F' H', Go B σ F a H F' a H' → Dat K F' f v → R f → Q v H') → r xs H Q
def DCl {ι : Type} (X : ι → Cx) (K : PySem.W.Frag) (ω : Wp) (f : Value) (dc : DC) : Prop := ∃ r, (∀ j, CallR (X j) f r) ∧ LCl K ω r dc
def dCB (dc : DC) (dl : DAt) : DEt := fun a R => dl a fun ds a' => dc ds fun d => R d a'
theorem de_callB {id : String} {x : Str} {p : Pos} {dc : DC} (hc : DCl X K ω (.builtin id) dc) (hg : ∀ j, Gl (X j) x) (hm : ∀ j, (X j).mg x = none) (hv : bootBuiltins x = some (.builtin id)) (ha : DAB X K ω (e :: es) dl) (hn : x ≠ "__name__" := by decide) (hdb : (x == ("__debug__" : Str)) = false := by decide)
    (he : ∀ j, starEach (e :: es) (X j).env = (false, eval e (X j).env) :: starEach es (X j).env := by intro _; rfl) (hpl : ∀ j, (backTo pos (starEach es (X j).env)).any (·.1) = false := by intro _; rfl) : DX X K ω (.Call (.Name x p) (e :: es) [] pos) (dCB dc dl) := by
  obtain ⟨r, h1, l1⟩ := hc
  obtain ⟨t, h2, l2⟩ := ha
  refine ⟨_, fun j => pe_callB (h1 j) (hg j) (hm j) hv (h2 j) hn hdb (he j) (hpl j), fun B hω F a σ H Q R ok hd k => l2 B hω F a σ H _ _ ok hd fun vs ds F1 a1 H1 g1 q1 r1 => ?_⟩
  exact l1 B hω F1 a1 σ H1 vs ds Q _ g1.ok q1 r1 fun v f F2 H2 g2 q2 r2 => k v f F2 a1 H2 (.trans ok g1 g2) q2 r2
theorem de_callTy {T : String} {x : Str} {p : Pos} {dc : DC} (hc : DCl X K ω (.type T) dc) (hg : ∀ j, Gl (X j) x) (hm : ∀ j, (X j).mg x = none) (hv : bootBuiltins x = some (.type T)) (ha : DAB X K ω (e :: es) dl) (hn : x ≠ "__name__" := by decide) (hdb : (x == ("__debug__" : Str)) = false := by decide)
    (he : ∀ j, starEach (e :: es) (X j).env = (false, eval e (X j).env) :: starEach es (X j).env := by intro _; rfl) (hpl : ∀ j, (backTo pos (starEach es (X j).env)).any (·.1) = false := by intro _; rfl) : DX X K ω (.Call (.Name x p) (e :: es) [] pos) (dCB dc dl) := by
  obtain ⟨r, h1, l1⟩ := hc
  obtain ⟨t, h2, l2⟩ := ha
  refine ⟨_, fun j => pe_callTy (h1 j) (hg j) (hm j) hv (h2 j) hn hdb (he j) (hpl j), fun B hω F a σ H Q R ok hd k => l2 B hω F a σ H _ _ ok hd fun vs ds F1 a1 H1 g1 q1 r1 => ?_⟩
  exact l1 B hω F1 a1 σ H1 vs ds Q _ g1.ok q1 r1 fun v f F2 H2 g2 q2 r2 => k v f F2 a1 H2 (.trans ok g1 g2) q2 r2
/-! a new list out of what stays -/
def LClO (K : PySem.W.Frag) (ω : Wp) (r : List V → Hp → VK → Prop) (dc : DC) : Prop := ∀ (B : Bs K), WOk B ω → ∀ (F : Hp) (a : AS) (σ : St) (H : Hp) (xs : List V) (ds : List D) (Q : VK) (R : D → Prop), Ok B F a σ H → DatL K F ds xs → dc ds R →
  (∀ (p : Addr) (vs : List V) (ds : List D), H p = none → DatL K F ds vs → R (.lst ds) → Q (.ref p) (upd H p (.lst vs))) → r xs H Q
theorem do_callTy {T : String} {x : Str} {p : Pos} {dc : DC} {r : List V → Hp → VK → Prop} (h1 : ∀ j, CallR (X j) (.type T) r) (l1 : LClO K ω r dc) (hg : ∀ j, Gl (X j) x) (hm : ∀ j, (X j).mg x = none) (hv : bootBuiltins x = some (.type T)) (ha : DAE X K ω (e :: es) dl) (hn : x ≠ "__name__" := by decide) (hdb : (x == ("__debug__" : Str)) = false := by decide)
    (he : ∀ j, starEach (e :: es) (X j).env = (false, eval e (X j).env) :: starEach es (X j).env := by intro _; rfl) (hpl : ∀ j, (backTo pos (starEach es (X j).env)).any (·.1) = false := by intro _; rfl) : DO X K ω (.Call (.Name x p) (e :: es) [] pos) (dCB dc dl) := by
  obtain ⟨t, h2, l2⟩ := ha
  refine ⟨_, fun j => pe_callTy (h1 j) (hg j) (hm j) hv (h2 j) hn hdb (he j) (hpl j), fun B hω F a σ H Q R ok hd k => l2 B hω F a σ H _ _ ok hd fun vs ds F1 a1 H1 g1 q1 r1 => ?_⟩
  exact l1 B hω F1 a1 σ H1 vs ds Q _ g1.ok q1 r1 fun p ws fs hp hds hR => Go.list ok g1 hp hds hR k
def dListOf : DC := fun ds R => match ds with
  | [d] => (match seqD d with
    | some es => R (.lst es)
    | none => False)
  | _ => False
theorem do_list {x : Str} {p : Pos} (hg : ∀ j, Gl (X j) x) (hm : ∀ j, (X j).mg x = none) (hv : bootBuiltins x = some (.type "list")) (ha : DAE X K ω (e :: es) dl) (hn : x ≠ "__name__" := by decide) (hdb : (x == ("__debug__" : Str)) = false := by decide)
    (he : ∀ j, starEach (e :: es) (X j).env = (false, eval e (X j).env) :: starEach es (X j).env := by intro _; rfl) (hpl : ∀ j, (backTo pos (starEach es (X j).env)).any (·.1) = false := by intro _; rfl) (hK : ∀ j, (X j).K = K := by intro _; rfl) : DO X K ω (.Call (.Name x p) (e :: es) [] pos) (dCB dListOf dl) := by
  refine do_callTy (r := fun xs H Q => ∃ p ys, xs = [.ref p] ∧ (SqL K H p ys ∨ SqT K H p ys) ∧ ∀ l, H l = none → Q (.ref l) (upd H l (.lst ys))) (fun j => by rw [← hK j]; exact call_list_of) (fun B hω F a σ H xs ds Q R ok hx hd k => ?_) hg hm hv ha hn hdb he hpl
  unfold dListOf at hd
  split at hd
  · rename_i d
    split at hd
    · rename_i es e
      obtain ⟨v, r, rfl, h1, h2⟩ := hx
      cases (show r = [] from h2)
      obtain ⟨q, vs, rfl, h3, h4⟩ := seqD_dat e ok.fi.fh h1
      exact ⟨q, vs, rfl, h3, fun l hl => k l vs es hl h4 hd⟩
    · exact hd.elim
  · exact hd.elim
/-- tuple(list), tuple(tuple): what goes in stays -/
def dTupOf (dl : DAt) : DEt := fun a R => dl a fun ds a' => match ds with
  | [.lst es] => R (.tup es) a'
  | [.tup es] => R (.tup es) a'
  | [.ctup es] => R (.ctup es) a'
  | [.ftup es] => R (.ftup es) a'
  | _ => False
theorem de_tuple {x : Str} {p : Pos} (hg : ∀ j, Gl (X j) x) (hm : ∀ j, (X j).mg x = none) (hv : bootBuiltins x = some (.type "tuple")) (ha : DAE X K ω (e :: es) dl) (hn : x ≠ "__name__" := by decide) (hdb : (x == ("__debug__" : Str)) = false := by decide)
    (he : ∀ j, starEach (e :: es) (X j).env = (false, eval e (X j).env) :: starEach es (X j).env := by intro _; rfl) (hpl : ∀ j, (backTo pos (starEach es (X j).env)).any (·.1) = false := by intro _; rfl) (hK : ∀ j, (X j).K = K := by intro _; rfl) : DX X K ω (.Call (.Name x p) (e :: es) [] pos) (dTupOf dl) := by
  obtain ⟨t, h2, l2⟩ := ha
  refine ⟨tCB (fun xs H Q => ∃ p ys, xs = [.ref p] ∧ ((SqL K H p ys ∧ ∀ l, H l = none → Q (.ref l) (upd H l (.tup ys))) ∨ (SqT K H p ys ∧ Q (.ref p) H))) t, fun j => by rw [← hK j]; exact pe_callTy call_tuple_of (hg j) (hm j) hv (h2 j) hn hdb (he j) (hpl j), fun B hω F a σ H Q R ok hd k => l2 B hω F a σ H _ _ ok hd fun vs ds F1 a1 H1 g1 q1 r1 => ?_⟩
  split at r1
  · rename_i es
    obtain ⟨v, r, rfl, h1, h2⟩ := q1
    cases (show r = [] from h2)
    obtain ⟨q, ws, rfl, h3, h4⟩ := h1
    refine ⟨q, ws, rfl, .inl ⟨SqL.of (g1.ok.fi.fh _ _ h3), fun l hl => ?_⟩⟩
    have g2 := g1.ok.new (o := .tup ws) hl
    exact k _ (.tup es) _ _ _ (.trans ok g1 g2) ⟨l, ws, rfl, upd_same, h4.mono g2.ff⟩ r1
  · rename_i es
    obtain ⟨v, r, rfl, h1, h2⟩ := q1
    cases (show r = [] from h2)
    obtain ⟨q, ws, rfl, h3, h4⟩ := h1
    exact ⟨q, ws, rfl, .inr ⟨SqT.of (g1.ok.fi.fh _ _ h3), k _ (.tup es) F1 a1 H1 g1 ⟨q, ws, rfl, h3, h4⟩ r1⟩⟩
  · rename_i es
    obtain ⟨v, r, rfl, h1, h2⟩ := q1
    cases (show r = [] from h2)
    obtain ⟨q, ws, rfl, h3, h4⟩ := h1
    exact ⟨q, ws, rfl, .inr ⟨same_seqT g1.ok.fi.fh h3, k _ (.ctup es) F1 a1 H1 g1 ⟨q, ws, rfl, h3, h4⟩ r1⟩⟩
  · rename_i es
    obtain ⟨v, r, rfl, h1, h2⟩ := q1
    cases (show r = [] from h2)
    obtain ⟨q, ws, rfl, h3, h4⟩ := h1
    exact ⟨q, ws, rfl, .inr ⟨(h3.mono g1.ok.fi.fh).sq, k _ (.ftup es) F1 a1 H1 g1 ⟨q, ws, rfl, h3, h4⟩ r1⟩⟩
  · exact r1.elim
def dLen : DC := fun ds R => match ds with
  | [.lst es] => R (.v (.int (es.length : Nat)))
  | [.tup es] => R (.v (.int (es.length : Nat)))
  | [.ctup es] => R (.v (.int (es.length : Nat)))
  | [.ftup es] => R (.v (.int (es.length : Nat)))
  | [.v (.str z)] => z.length ≤ sizeLine ∧ R (.v (.int (z.length : Nat)))
  | [.dK kvs] => R (.v (.int (kvs.length : Nat)))
  | _ => False
theorem dc_len (hK : ∀ j, (X j).K = K := by intro _; rfl) : DCl X K ω (.builtin "len") dLen := by
  refine ⟨fun xs H Q => (∃ x n, xs = [x] ∧ LenV K x H n ∧ Q (.int n) H) ∨ ∃ a kvs, xs = [V.ref a] ∧ H a = some (.dK kvs) ∧ Q (.int kvs.length) H, fun j pins s σ H xs us Q I r h => h.elim (fun h => call_len pins s σ H xs us Q I r (by rw [hK j]; exact h)) fun h => call_lenD pins s σ H xs us Q I r h, fun B hω F a σ H xs ds Q R ok hx hd k => ?_⟩
  unfold dLen at hd
  split at hd
  · obtain ⟨v, r, rfl, h1, h2⟩ := hx
    cases (show r = [] from h2)
    obtain ⟨q, ws, rfl, h3, h4⟩ := h1
    exact .inl ⟨_, ws.length, rfl, .inl ⟨ws, SqL.of (hs_same _ _ h3), rfl⟩, k _ (.v _) F H (.refl ok) rfl (by rw [h4.len]; exact hd)⟩
  · obtain ⟨v, r, rfl, h1, h2⟩ := hx
    cases (show r = [] from h2)
    obtain ⟨q, ws, rfl, h3, h4⟩ := h1
    exact .inl ⟨_, ws.length, rfl, .inr ⟨ws, SqT.of (hs_same _ _ h3), rfl⟩, k _ (.v _) F H (.refl ok) rfl (by rw [h4.len]; exact hd)⟩
  · obtain ⟨v, r, rfl, h1, h2⟩ := hx
    cases (show r = [] from h2)
    obtain ⟨q, ws, rfl, h3, h4⟩ := h1
    exact .inl ⟨_, ws.length, rfl, .inr ⟨ws, same_seqT hs_same h3, rfl⟩, k _ (.v _) F H (.refl ok) rfl (by rw [h4.len]; exact hd)⟩
  · obtain ⟨v, r, rfl, h1, h2⟩ := hx
    cases (show r = [] from h2)
    obtain ⟨q, ws, rfl, h3, h4⟩ := h1
    exact .inl ⟨_, ws.length, rfl, .inr ⟨ws, (h3.mono hs_same).sq, rfl⟩, k _ (.v _) F H (.refl ok) rfl (by rw [h4.len]; exact hd)⟩
  · obtain ⟨v, r, rfl, h1, h2⟩ := hx
    cases (show r = [] from h2)
    exact .inl ⟨_, _, rfl, by rw [show v = _ from h1]; exact ⟨hd.1, rfl⟩, k _ (.v _) F H (.refl ok) rfl hd.2⟩
  · obtain ⟨v, r, rfl, h1, h2⟩ := hx
    cases (show r = [] from h2)
    obtain ⟨q, ws, rfl, h3, h4⟩ := h1
    exact .inr ⟨q, _, rfl, hs_same _ _ h3, k _ (.v _) F H (.refl ok) rfl (by rw [← (datK_pk.mp h4).length]; exact hd)⟩
  · exact hd.elim
/-- a built-in on flat things -/
theorem dc_flat {f : Value} {r : List V → Hp → VK → Prop} {dc : DC} (h : ∀ j, CallR (X j) f r) (q : ∀ ds R, dc ds R → ∃ xs w, ds = xs.map D.v ∧ R (.v w) ∧ ∀ H Q, Q w H → r xs H Q) : DCl X K ω f dc := ⟨r, h, fun B hω F a σ H xs ds Q R ok hx hd k => by
  obtain ⟨ys, w, rfl, hR, z⟩ := q ds R hd
  cases datL_flat hx
  exact z H Q (k w (.v w) F H (.refl ok) rfl hR)⟩
def dI1 (g : Int → V) : DC := fun ds R => match ds with
  | [.v (.int i)] => R (.v (g i))
  | _ => False
def dI2 (g : Int → Int → V) : DC := fun ds R => match ds with
  | [.v (.int i), .v (.int j)] => R (.v (g i j))
  | _ => False
theorem dc_abs : DCl X K ω (.builtin "abs") (dI1 fun i => .int (if i < 0 then -i else i)) := dc_flat (fun _ => call_abs) fun ds R h => by
  unfold dI1 at h
  split at h
  · exact ⟨[.int _], _, rfl, h, fun H Q q => ⟨_, rfl, q⟩⟩
  · exact h.elim
theorem dc_max2 (hc : ∀ j, (X j).calm = true) : DCl X K ω (.builtin "max") (dI2 fun i j => .int (if j > i then j else i)) := dc_flat (fun j => call_max2 (hc j)) fun ds R h => by
  unfold dI2 at h
  split at h
  · exact ⟨[.int _, .int _], _, rfl, h, fun H Q q => ⟨_, _, rfl, q⟩⟩
  · exact h.elim
theorem dc_min2 (hc : ∀ j, (X j).calm = true) : DCl X K ω (.builtin "min") (dI2 fun i j => .int (if j < i then j else i)) := dc_flat (fun j => call_min2 (hc j)) fun ds R h => by
  unfold dI2 at h
  split at h
  · exact ⟨[.int _, .int _], _, rfl, h, fun H Q q => ⟨_, _, rfl, q⟩⟩
  · exact h.elim
def dInt1 : DC := fun ds R => match ds with
  | [.v (.int i)] => R (.v (.int i))
  | [.v (.bl b)] => R (.v (.int (if b then 1 else 0)))
  | _ => False
theorem dc_int : DCl X K ω (.type "int") dInt1 := dc_flat (fun _ => call_int1) fun ds R h => by
  unfold dInt1 at h
  split at h
  · exact ⟨[.int _], _, rfl, h, fun H Q q => .inl ⟨_, rfl, q⟩⟩
  · exact ⟨[.bl _], _, rfl, h, fun H Q q => .inr ⟨_, rfl, q⟩⟩
  · exact h.elim
/-- any, all: of a list of truths -/
def unB : List D → Option (List Bool)
  | [] => some []
  | .v (.bl b) :: ds => (unB ds).map (b :: ·)
  | _ :: _ => none
theorem unB_of : ∀ {ds : List D} {xs : List Bool}, unB ds = some xs → ds = (xs.map V.bl).map D.v
  | [], xs, h => by cases h; rfl
  | .v (.bl b) :: ds, xs, h => by
    obtain ⟨ys, h1, rfl⟩ := Option.map_eq_some_iff.mp (show (unB ds).map (b :: ·) = some xs from h)
    rw [unB_of h1]
    rfl
def dBs (g : List Bool → Bool) : DC := fun ds R => match ds with
  | [.lst es] => (match unB es with
    | some bs => R (.v (.bl (g bs)))
    | none => False)
  | _ => False
theorem bs_of {r : List V → Hp → VK → Prop} {g : List Bool → Bool} (h : ∀ a bs H Q, SqL K H a (bs.map V.bl) → Q (V.bl (g bs)) H → r [.ref a] H Q) : LCl K ω r (dBs g) := fun B hω F a σ H xs ds Q R ok hx hd k => by
  unfold dBs at hd
  split at hd
  · rename_i es
    split at hd
    · rename_i bs e
      obtain ⟨v, r, rfl, h1, h2⟩ := hx
      cases (show r = [] from h2)
      obtain ⟨q, ws, rfl, h3, h4⟩ := h1
      rw [unB_of e] at h4
      cases datL_flat h4
      exact h q bs H Q (SqL.of (hs_same _ _ h3)) (k _ (.v _) F H (.refl ok) rfl hd)
    · exact hd.elim
  · exact hd.elim
theorem dc_any (hc : ∀ j, (X j).calm = true) (hK : ∀ j, (X j).K = K := by intro _; rfl) : DCl X K ω (.builtin "any") (dBs fun bs => bs.any id) := ⟨rAny K, fun j => by rw [← hK j]; exact cr_any (hc j), bs_of fun a bs H Q h q => ⟨a, bs, rfl, h, q⟩⟩
theorem dc_all (hc : ∀ j, (X j).calm = true) (hK : ∀ j, (X j).K = K := by intro _; rfl) : DCl X K ω (.builtin "all") (dBs fun bs => bs.all id) := ⟨rAll K, fun j => by rw [← hK j]; exact cr_all (hc j), bs_of fun a bs H Q h q => ⟨a, bs, rfl, h, q⟩⟩
/-- a list of ints -/
def unI : List D → Option (List Int)
  | [] => some []
  | .v (.int i) :: ds => (unI ds).map (i :: ·)
  | _ :: _ => none
theorem unI_of : ∀ {ds : List D} {xs : List Int}, unI ds = some xs → ds = (xs.map V.int).map D.v
  | [], xs, h => by cases h; rfl
  | .v (.int i) :: ds, xs, h => by
    obtain ⟨ys, h1, rfl⟩ := Option.map_eq_some_iff.mp (show (unI ds).map (i :: ·) = some xs from h)
    rw [unI_of h1]
    rfl
end
/-! ### a def over data -/
abbrev DSp := Option Addr → List D → Int → (D → Int → Prop) → Prop
/-- behind a call -/
def Post (K : PySem.W.Frag) (sp : Option Addr) (F H : Hp) (Q : VK) (d : D) (n' : Int) : Prop := ∀ (v : V) (F' H' : Hp), Same F F' → Same F' H' → (∀ b o, sp ≠ some b → H b = some o → H' b = some o) → (∀ b, F' b ≠ none → F b ≠ none ∨ H b = none ∨ ImmA F' b) →
  (∀ p, sp = some p → F' p = none ∧ Src H' p n') → Dat K F' d v → Q v H'
def up (K : PySem.W.Frag) (dsp : DSp) : Sp := fun vs H Q _ => ∃ (sp : Option Addr) (F : Hp) (ds : List D) (n : Int), Same F H ∧ (∀ p, sp = some p → F p = none ∧ Src H p n) ∧ DatL K F ds vs ∧ dsp sp ds n (Post K sp F H Q)
def dstart (N : List Str) (ds : List D) (n : Int) (sp : Option Addr) : AS := ⟨ds.map Sl.val ++ List.replicate (N.length - ds.length) .emp, n, sp⟩
theorem ok_start {K : PySem.W.Frag} {sp : Option Addr} {F H : Hp} {ds : List D} {vs : List V} {n : Int} (N : List Str) (s : Same F H) (src : ∀ p, sp = some p → F p = none ∧ Src H p n) (L : DatL K F ds vs) : Ok (K := K) ⟨sp, H, F, none⟩ F (dstart N ds n sp) (L2.start N vs) H := by
  have hl := L.len
  have own : ∀ {i : Nat} {d : D}, ¬ (dstart N ds n sp).sl[i]? = some (Sl.own d) := fun {i d} e => by
    unfold dstart at e
    rcases List.mem_append.mp (List.mem_of_getElem? e) with q | q
    · obtain ⟨x, _, z⟩ := List.mem_map.mp q
      cases z
    · cases (List.mem_replicate.mp q).2
  refine ⟨⟨s, Same.refl F, fun b h => .inl h, fun b o h _ => h, fun p e => ?_⟩, rfl, ?_, fun i d e => ?_, fun i d e => (own e).elim, fun i j p d e h _ _ _ => (own h).elim, fun _ e => nomatch e⟩
  · obtain ⟨h1, h2⟩ := src p e
    obtain ⟨xs, q⟩ := h2.at
    exact ⟨h1, by show H p ≠ none; rw [q]; exact fun z => (nomatch z), h2⟩
  · unfold dstart L2.start
    rw [List.length_append, List.length_append, List.length_map, List.length_map, List.length_replicate, List.length_replicate, hl]
  · unfold dstart at e
    by_cases hi : i < ds.length
    · rw [List.getElem?_append_left (by rw [List.length_map]; exact hi), List.getElem?_map] at e
      obtain ⟨x, h1, h2⟩ := Option.map_eq_some_iff.mp e
      cases h2
      obtain ⟨v, h3, h4⟩ := L.get h1
      refine ⟨v, ?_, h4⟩
      unfold L2.start
      rw [List.getElem?_append_left (by rw [List.length_map, hl]; exact hi), List.getElem?_map, h3]
      rfl
    · rw [List.getElem?_append_right (by rw [List.length_map]; omega)] at e
      cases (List.mem_replicate.mp (List.mem_of_getElem? e)).2
def wp0 : Wp := ⟨fun _ _ _ _ => False, fun _ _ _ _ => False, fun _ => True, false⟩
theorem wok0 {K : PySem.W.Frag} {B : Bs K} (h : B.self = none) : WOk B wp0 := ⟨trivial, fun _ => h, fun _ _ _ _ _ _ _ _ _ z => z.elim⟩
theorem d_run {K : PySem.W.Frag} {sp : Option Addr} {F H : Hp} {ds : List D} {vs : List V} {n : Int} {Q : VK} {X : Cx} {body : List Stmt} {N : List Str} {d : DSt} (h : DSs (fun _ : Unit => X) K wp0 body d) (s : Same F H) (src : ∀ p, sp = some p → F p = none ∧ Src H p n) (L : DatL K F ds vs)
    {sl : List Sl} (hsl : sl = (dstart N ds n sp).sl) (hd : d { nx := fun a => Post K sp F H Q (.v .non) a.n, rt := Post K sp F H Q } ⟨sl, n, sp⟩) : ∃ t, PSs X body t ∧ t { nx := fun _ H' => Q .non H', rt := Q } (L2.start N vs) H := by
  obtain ⟨t, p, l⟩ := h
  subst hsl
  refine ⟨t, p (), l ⟨sp, H, F, none⟩ (wok0 rfl) _ _ F _ _ H (ok_start N s src L) hd ⟨fun F' a' σ' H' ok s h => ?_, fun v d n F' H' f s q h => ?_, fun _ _ _ _ _ _ h => h.elim, fun _ _ _ _ _ _ h => h.elim⟩⟩
  · exact h .non F' H' s ok.fi.fh (fun b o n h => ok.fi.fm b o h n) (fun b h => ok.fi.fr b h) (fun p e => ⟨(ok.fi.sr p e).1, (ok.fi.sr p e).2.2⟩) rfl
  · exact h v F' H' s f.fh (fun b o n h => f.fm b o h n) (fun b h => f.fr b h) (fun p e => ⟨(f.sr p e).1, (f.sr p e).2.2⟩) q
theorem up_len {K : PySem.W.Frag} {dsp : DSp} {m : Nat} (h : ∀ sp ds n R, dsp sp ds n R → ds.length = m) (vs : List V) (H : Hp) (Q : VK) (E : XK) : up K dsp vs H Q E → vs.length = m := fun ⟨sp, F, ds, n, _, _, L, q⟩ => by
  rw [L.len]
  exact h sp ds n _ q
section
variable {K : PySem.W.Frag} {ω : Wp} {B : Bs K} {F F' F1 F2 G : Hp} {a a' a1 a2 : AS} {σ σ' : St} {H H' H1 H2 : Hp} {n : Int} {te : TE} {de da db : DEt} {ι : Type} {X : ι → Cx} {e e1 e2 : Expr} {es : List Expr} {pos : Pos} {dt : DTt} {dl dm : DAt}
/-- what follows a call: with the caller's source -/
theorem Go.call (ok : Ok B F a σ H) {n' : Int} (h1 : Same F F') (h2 : Same F' H') (h3 : ∀ b o, B.sp ≠ some b → H b = some o → H' b = some o) (h4 : ∀ b, F' b ≠ none → F b ≠ none ∨ H b = none ∨ ImmA F' b) (h5 : ∀ p, B.sp = some p → F' p = none ∧ Src H' p n') : Go B σ F a H F' ⟨a.sl, n', a.sp⟩ H' := by
  refine ⟨⟨⟨h2, ok.fi.ff.trans h1, fun b z => ?_, fun b o z w => h3 b o w (ok.fi.fm b o z w), fun p e => ⟨(h5 p e).1, (ok.fi.sr p e).2.1, (h5 p e).2⟩⟩, ok.es, ok.len, fun i d e => ?_, fun i d e => ?_, ok.ds, ok.fx⟩, h1, h3, fun b z => (h4 b z).imp id fun q => q.imp id .inr, fun b z => z⟩
  · rcases h4 b z with q | q | q
    · exact (ok.fi.fr b q).imp id fun q => q.imp id fun q => q.mono h1
    · exact .inr (.inl (ok.here q).2.1)
    · exact .inr (.inr q)
  · obtain ⟨v, e1, e2⟩ := ok.va i d e
    exact ⟨v, e1, e2.mono h1⟩
  · obtain ⟨p, o, e1, e2, e3, e4, e5⟩ := ok.ow i d e
    refine ⟨p, o, e1, h3 p o (fun z => (ok.fi.sr p z).2.1 e4) e2, ?_, e4, e5.mono h1⟩
    cases q : F' p with
    | none => rfl
    | some u =>
      rcases h4 p (by rw [q]; exact fun z => (nomatch z)) with w | w | ⟨o', w1, w2⟩
      · exact absurd e3 w
      · rw [e2] at w
        cases w
      · have z := h3 p o (fun z => (ok.fi.sr p z).2.1 e4) e2
        rw [h2 p o' w1] at z
        cases z
        rw [e5.imm] at w2
        cases w2
def dCall (dsp : DSp) (dl : DAt) : DEt := fun a R => dl a fun ds a' => dsp a'.sp ds a'.n fun d n' => R d ⟨a'.sl, n', a'.sp⟩
/-- a def that has no source -/
def dCall0 (dsp : DSp) (dl : DAt) : DEt := fun a R => dl a fun ds a' => dsp none ds 0 fun d _ => R d a'
/-- what comes out is flat: the arguments may be borrowed -/
def dCallF (dsp : DSp) (dl : DAt) : DEt := fun a R => dl a fun ds a' => dsp a'.sp ds a'.n fun d n' => isV d = true ∧ R d ⟨a'.sl, n', a'.sp⟩
def dCallF0 (dsp : DSp) (dl : DAt) : DEt := fun a R => dl a fun ds a' => dsp none ds 0 fun d _ => isV d = true ∧ R d a'
/-- sp: the promise as it stands; up dsp is at least as much -/
def Ups (K : PySem.W.Frag) (sp : Sp) (dsp : DSp) : Prop := ∀ vs H Q E, up K dsp vs H Q E → sp vs H Q E
theorem Ups.rfl {dsp : DSp} : Ups K (up K dsp) dsp := fun _ _ _ _ h => h
/-- dsp's wish may be weakened -/
def Mon (dsp : DSp) : Prop := ∀ sp ds n (R R' : D → Int → Prop), (∀ d n', R d n' → R' d n') → dsp sp ds n R → dsp sp ds n R'
theorem le_call {dsp : DSp} {s : Sp} {E : XK} {ta : TA} (m : Mon dsp) (u : Ups K s dsp) (l : LAE K ω ta dl) : LE K ω (tCall s [] E ta) (dCall dsp dl) := fun B hω F a σ H Q R ok hd k => l B hω F a σ H _ _ ok hd fun vs ds F1 a1 H1 g1 q1 r1 => by
  rw [List.append_nil]
  rw [g1.ok.es] at r1
  refine u _ _ _ _ ⟨B.sp, F1, ds, a1.n, g1.ok.fi.fh, fun p e => ⟨(g1.ok.fi.sr p e).1, (g1.ok.fi.sr p e).2.2⟩, q1, m _ _ _ _ _ (fun d n' r => ?_) r1⟩
  intro v F' H' x1 x2 x3 x4 x5 x6
  exact k v d F' _ H' (.trans ok g1 (Go.call g1.ok x1 x2 x3 x4 x5)) x6 (by rw [← g1.ok.es] at r; exact r)
theorem le_call0 {dsp : DSp} {s : Sp} {E : XK} {ta : TA} (m : Mon dsp) (u : Ups K s dsp) (l : LAE K ω ta dl) : LE K ω (tCall s [] E ta) (dCall0 dsp dl) := fun B hω F a σ H Q R ok hd k => l B hω F a σ H _ _ ok hd fun vs ds F1 a1 H1 g1 q1 r1 => by
  rw [List.append_nil]
  refine u _ _ _ _ ⟨none, F1, ds, 0, g1.ok.fi.fh, (fun p e => nomatch e), q1, m _ _ _ _ _ (fun d n' r => ?_) r1⟩
  intro v F' H' x1 x2 x3 x4 x5 x6
  have hh : Same H1 H' := fun b o h => x3 b o (fun z => nomatch z) h
  refine k v d F' a1 H' (.trans ok g1 (Go.call g1.ok x1 x2 (fun b o _ h => hh b o h) x4 fun p e => ?_)) x6 r
  obtain ⟨y1, y2, y3⟩ := g1.ok.fi.sr p e
  refine ⟨?_, y3.same hh⟩
  cases q : F' p with
  | none => rfl
  | some u =>
    rcases x4 p (by rw [q]; exact fun z => (nomatch z)) with w | w | ⟨o', w1, w2⟩
    · exact absurd y1 w
    · obtain ⟨xs, z⟩ := y3.at
      rw [z] at w
      cases w
    · obtain ⟨xs, z⟩ := (y3.same hh).at
      rw [x2 p o' w1] at z
      cases z
      cases w2
theorem le_callF {dsp : DSp} {s : Sp} {E : XK} {ta : TA} (m : Mon dsp) (u : Ups K s dsp) (l : LAB K ω ta dl) : LE K ω (tCall s [] E ta) (dCallF dsp dl) := fun B hω F a σ H Q R ok hd k => l B hω F a σ H _ _ ok hd fun vs ds F1 a1 H1 g1 q1 r1 => by
  rw [List.append_nil]
  rw [g1.ok.es] at r1
  refine u _ _ _ _ ⟨B.sp, Hs B.sp H1, ds, a1.n, hs_same, fun p e => ⟨?_, (g1.ok.fi.sr p e).2.2⟩, q1, m _ _ _ _ _ (fun d n' r => ?_) r1⟩
  · unfold Hs
    rw [if_pos e]
  intro v F' H' x1 x2 x3 x4 x5 x6
  refine k v d F1 _ H' (.trans ok g1 (Go.call g1.ok (Same.refl F1) (fun b o h => x2 _ _ (x1 _ _ (g1.ok.fi.fs b o h))) x3 (fun b z => .inl z) fun p e => ⟨(g1.ok.fi.sr p e).1, (x5 p e).2⟩)) ?_ (by rw [← g1.ok.es] at r; exact r.2)
  cases d with
  | v x => exact x6
  | _ => exact absurd r.1 Bool.false_ne_true
theorem le_callF0 {dsp : DSp} {s : Sp} {E : XK} {ta : TA} (m : Mon dsp) (u : Ups K s dsp) (l : LAB K ω ta dl) : LE K ω (tCall s [] E ta) (dCallF0 dsp dl) := fun B hω F a σ H Q R ok hd k => l B hω F a σ H _ _ ok hd fun vs ds F1 a1 H1 g1 q1 r1 => by
  rw [List.append_nil]
  refine u _ _ _ _ ⟨none, Hs B.sp H1, ds, 0, hs_same, (fun p e => nomatch e), q1, m _ _ _ _ _ (fun d n' r => ?_) r1⟩
  intro v F' H' x1 x2 x3 x4 x5 x6
  have hh : Same H1 H' := fun b o h => x3 b o (fun z => nomatch z) h
  refine k v d F1 a1 H' (.trans ok g1 (Go.call g1.ok (Same.refl F1) (fun b o h => hh _ _ (g1.ok.fi.fh b o h)) (fun b o _ h => hh b o h) (fun b z => .inl z) fun p e => ⟨(g1.ok.fi.sr p e).1, (g1.ok.fi.sr p e).2.2.same hh⟩)) ?_ r.2
  cases d with
  | v x => exact x6
  | _ => exact absurd r.1 Bool.false_ne_true
section
variable {CX : CXT} {k : Nat} {f : Addr} {fd : FuncData} {ps : List Str} {s : Sp} {dsp : DSp} {E : XK} {x : Str} {p : Pos}
theorem de_call (m : Mon dsp) (u : Ups K s dsp) (G : ∀ j, FnOk (X j).prog (X j).w (X j).K (X j).mg (X j).base CX k f fd ps s) (hr : ∀ j, Room k (X j).A) (hg : ∀ j, Gl (X j) x) (hm : ∀ j, (X j).mg x = some (.ref f)) (hk : ∀ j, PySem.W.keepIn (X j).K (.ref f) = true) (hb : ∀ j, Binds (X j).K fd ps []) (hx : ∀ j, Passes CX (X j) E) (ha : DAE X K ω (e :: es) dl)
    (hdb : (x == ("__debug__" : Str)) = false := by decide) (he : ∀ j, starEach (e :: es) (X j).env = (false, eval e (X j).env) :: starEach es (X j).env := by intro _; rfl) (hpl : ∀ j, (backTo pos (starEach es (X j).env)).any (·.1) = false := by intro _; rfl) : DX X K ω (.Call (.Name x p) (e :: es) [] pos) (dCall dsp dl) := by
  obtain ⟨t, h, l⟩ := ha
  exact ⟨_, fun j => pe_call (G j) (hr j) (hg j) (hm j) (hk j) (hb j) .nil (hx j) (h j) hdb (he j) (hpl j), le_call m u l⟩
theorem de_call0 (m : Mon dsp) (u : Ups K s dsp) (G : ∀ j, FnOk (X j).prog (X j).w (X j).K (X j).mg (X j).base CX k f fd ps s) (hr : ∀ j, Room k (X j).A) (hg : ∀ j, Gl (X j) x) (hm : ∀ j, (X j).mg x = some (.ref f)) (hk : ∀ j, PySem.W.keepIn (X j).K (.ref f) = true) (hb : ∀ j, Binds (X j).K fd ps []) (hx : ∀ j, Passes CX (X j) E) (ha : DAE X K ω (e :: es) dl)
    (hdb : (x == ("__debug__" : Str)) = false := by decide) (he : ∀ j, starEach (e :: es) (X j).env = (false, eval e (X j).env) :: starEach es (X j).env := by intro _; rfl) (hpl : ∀ j, (backTo pos (starEach es (X j).env)).any (·.1) = false := by intro _; rfl) : DX X K ω (.Call (.Name x p) (e :: es) [] pos) (dCall0 dsp dl) := by
  obtain ⟨t, h, l⟩ := ha
  exact ⟨_, fun j => pe_call (G j) (hr j) (hg j) (hm j) (hk j) (hb j) .nil (hx j) (h j) hdb (he j) (hpl j), le_call0 m u l⟩
theorem de_callF (m : Mon dsp) (u : Ups K s dsp) (G : ∀ j, FnOk (X j).prog (X j).w (X j).K (X j).mg (X j).base CX k f fd ps s) (hr : ∀ j, Room k (X j).A) (hg : ∀ j, Gl (X j) x) (hm : ∀ j, (X j).mg x = some (.ref f)) (hk : ∀ j, PySem.W.keepIn (X j).K (.ref f) = true) (hb : ∀ j, Binds (X j).K fd ps []) (hx : ∀ j, Passes CX (X j) E) (ha : DAB X K ω (e :: es) dl)
    (hdb : (x == ("__debug__" : Str)) = false := by decide) (he : ∀ j, starEach (e :: es) (X j).env = (false, eval e (X j).env) :: starEach es (X j).env := by intro _; rfl) (hpl : ∀ j, (backTo pos (starEach es (X j).env)).any (·.1) = false := by intro _; rfl) : DX X K ω (.Call (.Name x p) (e :: es) [] pos) (dCallF dsp dl) := by
  obtain ⟨t, h, l⟩ := ha
  exact ⟨_, fun j => pe_call (G j) (hr j) (hg j) (hm j) (hk j) (hb j) .nil (hx j) (h j) hdb (he j) (hpl j), le_callF m u l⟩
theorem de_callF0 (m : Mon dsp) (u : Ups K s dsp) (G : ∀ j, FnOk (X j).prog (X j).w (X j).K (X j).mg (X j).base CX k f fd ps s) (hr : ∀ j, Room k (X j).A) (hg : ∀ j, Gl (X j) x) (hm : ∀ j, (X j).mg x = some (.ref f)) (hk : ∀ j, PySem.W.keepIn (X j).K (.ref f) = true) (hb : ∀ j, Binds (X j).K fd ps []) (hx : ∀ j, Passes CX (X j) E) (ha : DAB X K ω (e :: es) dl)
    (hdb : (x == ("__debug__" : Str)) = false := by decide) (he : ∀ j, starEach (e :: es) (X j).env = (false, eval e (X j).env) :: starEach es (X j).env := by intro _; rfl) (hpl : ∀ j, (backTo pos (starEach es (X j).env)).any (·.1) = false := by intro _; rfl) : DX X K ω (.Call (.Name x p) (e :: es) [] pos) (dCallF0 dsp dl) := by
  obtain ⟨t, h, l⟩ := ha
  exact ⟨_, fun j => pe_call (G j) (hr j) (hg j) (hm j) (hk j) (hb j) .nil (hx j) (h j) hdb (he j) (hpl j), le_callF0 m u l⟩
theorem de_call00 (m : Mon dsp) (u : Ups K s dsp) (G : ∀ j, FnOk (X j).prog (X j).w (X j).K (X j).mg (X j).base CX k f fd ps s) (hr : ∀ j, Room k (X j).A) (hg : ∀ j, Gl (X j) x) (hm : ∀ j, (X j).mg x = some (.ref f)) (hk : ∀ j, PySem.W.keepIn (X j).K (.ref f) = true) (hb : ∀ j, Binds (X j).K fd ps []) (hx : ∀ j, Passes CX (X j) E)
    (hdb : (x == ("__debug__" : Str)) = false := by decide) : DX X K ω (.Call (.Name x p) [] [] pos) (dCall0 dsp dNil) :=
  ⟨_, fun j => pe_call0 (G j) (hr j) (hg j) (hm j) (hk j) (hb j) .nil (hx j) hdb, le_call0 m u fun B hω F a σ H Q R ok hd k => k [] [] F a H (.refl ok) rfl hd⟩
end
/-! what a for walks -/
def dItSeq (da : DEt) : DAt := fun a R => da a fun d a' => match seqD d with
  | some ds => R ds a'
  | none => False
def iSeq (K : PySem.W.Frag) (tl : TE) : TI := fun σ H R => tl σ H fun x H1 => ∃ a, x = .ref a ∧ ((∃ xs, SqL K H1 a xs ∧ R (Itl K a) H1) ∨ ∃ xs, SqT K H1 a xs ∧ R (Itt K a) H1)
theorem pi_seq {X : Cx} {tg l : Expr} {tl : TE} (hl : PE X l tl) : PI X tg l (iSeq X.K tl) := by
  refine ⟨fun pins s σ H R I h => ?_⟩
  refine thn (hl.run pins s σ H _ I h) fun v s1 ⟨x, H1, I1, r1, q1⟩ => ?_
  obtain ⟨a, e, ⟨xs, hq, q⟩ | ⟨xs, hq, q⟩⟩ := q1
  · subst e
    cases r1
    obtain ⟨its, rv, p, hz⟩ := I1.list hq
    refine wpAny_pyIter_list p.isList ?_
    refine ⟨s1.heap.objs.size, [s1.heap.objs.size], _, _, H1, rfl, I1.kept (t' := s1.toks) fun b o e => Heap.get?_push_of_some _ e, turn_list a _, ⟨_, Heap.get?_push_size _ rfl, rfl, rfl⟩, fun b hb => ?_, q⟩
    have e : b = s1.heap.objs.size := by simpa using hb
    subst e
    exact I1.fpOk (Nat.le_refl _) (I1.hok.fresh (Nat.le_refl _))
  · subst e
    cases r1
    obtain ⟨its, rv, p, hz⟩ := I1.tuple hq
    refine wpAny_pyIter_tuple (show s1.heap.IsTuple a its.toArray from p) ?_
    refine ⟨s1.heap.objs.size, [s1.heap.objs.size], _, _, H1, rfl, I1.kept (t' := s1.toks) fun b o e => Heap.get?_push_of_some _ e, turn_tuple a _, ⟨_, Heap.get?_push_size _ rfl, rfl, rfl⟩, fun b hb => ?_, q⟩
    have e : b = s1.heap.objs.size := by simpa using hb
    subst e
    exact I1.fpOk (Nat.le_refl _) (I1.hok.fresh (Nat.le_refl _))
theorem di_seq {tg : Expr} (h : DX X K ω e da) (hK : ∀ j, (X j).K = K := by intro _; rfl) : DI X K ω tg e (dItSeq da) := by
  obtain ⟨t, p, l⟩ := h
  refine ⟨iSeq K t, fun j => by rw [← hK j]; exact pi_seq (p j), fun B hω F a σ H Q R ok hd k => l B hω F a σ H _ _ ok hd fun v d F' a' H' g q r => ?_⟩
  cases d with
  | lst ds =>
    obtain ⟨x, vs, rfl, h1, h2⟩ := q
    refine ⟨x, rfl, .inl ⟨vs, SqL.of (g.ok.fi.fh _ _ h1), k (Itl K x) ds F' a' H' g (fun i F1 H1 s1 s2 => ?_) r⟩⟩
    have S : SqL K H1 x vs := SqL.of (s2 _ _ (s1 _ _ h1))
    refine ⟨fun hi => ⟨vs, S, by rw [h2.len]; exact hi⟩, fun d e => ?_⟩
    obtain ⟨v, e1, e2⟩ := h2.get e
    exact ⟨⟨vs, v, S, e1⟩, fun y H2 z => .inl ⟨z.1, by have := z.2 vs S; rw [e1] at this; rw [← Option.some.inj this]; exact e2.mono s1⟩⟩
  | tup ds =>
    obtain ⟨x, vs, rfl, h1, h2⟩ := q
    refine ⟨x, rfl, .inr ⟨vs, SqT.of (g.ok.fi.fh _ _ h1), k (Itt K x) ds F' a' H' g (fun i F1 H1 s1 s2 => ?_) r⟩⟩
    have S : SqT K H1 x vs := SqT.of (s2 _ _ (s1 _ _ h1))
    refine ⟨fun hi => ⟨vs, S, by rw [h2.len]; exact hi⟩, fun d e => ?_⟩
    obtain ⟨v, e1, e2⟩ := h2.get e
    exact ⟨⟨vs, v, S, e1⟩, fun y H2 z => .inl ⟨z.1, by have := z.2 vs S; rw [e1] at this; rw [← Option.some.inj this]; exact e2.mono s1⟩⟩
  | ctup ds =>
    obtain ⟨x, vs, rfl, h1, h2⟩ := q
    refine ⟨x, rfl, .inr ⟨vs, same_seqT g.ok.fi.fh h1, k (Itt K x) ds F' a' H' g (fun i F1 H1 s1 s2 => ?_) r⟩⟩
    have S : SqT K H1 x vs := same_seqT (s1.trans s2) h1
    refine ⟨fun hi => ⟨vs, S, by rw [h2.len]; exact hi⟩, fun d e => ?_⟩
    obtain ⟨v, e1, e2⟩ := h2.get e
    exact ⟨⟨vs, v, S, e1⟩, fun y H2 z => .inl ⟨z.1, by have := z.2 vs S; rw [e1] at this; rw [← Option.some.inj this]; exact e2.mono s1⟩⟩
  | ftup ds =>
    obtain ⟨x, vs, rfl, h1, h2⟩ := q
    refine ⟨x, rfl, .inr ⟨vs, (h1.mono g.ok.fi.fh).sq, k (Itt K x) ds F' a' H' g (fun i F1 H1 s1 s2 => ?_) r⟩⟩
    have S : SqT K H1 x vs := (h1.mono (s1.trans s2)).sq
    refine ⟨fun hi => ⟨vs, S, by rw [h2.len]; exact hi⟩, fun d e => ?_⟩
    obtain ⟨v, e1, e2⟩ := h2.get e
    exact ⟨⟨vs, v, S, e1⟩, fun y H2 z => .inl ⟨z.1, by have := z.2 vs S; rw [e1] at this; rw [← Option.some.inj this]; exact e2.mono s1⟩⟩
  | _ => exact r.elim
/-- range -/
def rngD (lo : Int) (n : Nat) : List D := (List.range n).map fun i => .v (.int (lo + (i : Nat)))
theorem rng_at {lo : Int} {n i : Nat} {d : D} (h : (rngD lo n)[i]? = some d) : i < n ∧ d = .v (.int (lo + (i : Nat))) := by
  unfold rngD at h
  rw [List.getElem?_map] at h
  obtain ⟨j, h1, h2⟩ := Option.map_eq_some_iff.mp h
  obtain ⟨h3, h4⟩ := List.getElem?_eq_some_iff.mp h1
  rw [List.getElem_range] at h4
  rw [List.length_range] at h3
  rw [← h2, ← h4]
  exact ⟨h3, rfl⟩
theorem it_rng {lo : Int} {n : Nat} : ItOk K (Itr lo n) F (rngD lo n) := fun i F1 H1 s1 s2 => by
  refine ⟨fun hi => ?_, fun d e => ?_⟩
  · unfold rngD at hi
    rw [List.length_map, List.length_range] at hi
    exact hi
  · obtain ⟨h1, rfl⟩ := rng_at e
    exact ⟨h1, fun x H' z => .inl ⟨z.1, z.2⟩⟩
def dRng1 (dl : DAt) : DAt := fun a R => dl a fun ds a' => match ds with
  | [.v (.int j)] => (-(2 ^ 62) ≤ j ∧ j < 2 ^ 62) ∧ R (rngD 0 j.toNat) a'
  | _ => False
def dRng2 (dl : DAt) : DAt := fun a R => dl a fun ds a' => match ds with
  | [.v (.int i), .v (.int j)] => (-(2 ^ 62) ≤ i ∧ i < 2 ^ 62 ∧ -(2 ^ 62) ≤ j ∧ j < 2 ^ 62) ∧ R (rngD i (j - i).toNat) a'
  | _ => False
theorem di_range1 {tg x : Expr} {p pos : Pos} (hg : ∀ j, Gl (X j) "range") (hm : ∀ j, (X j).mg "range" = none) (ha : DAB X K ω [x] dl) (hs : ∀ j, starEach [x] (X j).env = [(false, eval x (X j).env)] := by intro _; rfl) : DI X K ω tg (.Call (.Name "range" p) [x] [] pos) (dRng1 dl) := by
  obtain ⟨t, p, l⟩ := ha
  refine ⟨_, fun j => pi_range1 (hg j) (hm j) (p j) (hs j), fun B hω F a σ H Q R ok hd k => l B hω F a σ H _ _ ok hd fun vs ds F' a' H' g q r => ?_⟩
  split at r
  · rename_i j
    cases datL_flat (xs := [.int j]) q
    exact ⟨j, rfl, r.1.1, r.1.2, k _ _ F' a' H' g it_rng r.2⟩
  · exact r.elim
theorem di_range2 {tg x y : Expr} {p pos : Pos} (hg : ∀ j, Gl (X j) "range") (hm : ∀ j, (X j).mg "range" = none) (ha : DAB X K ω [x, y] dl) (hs : ∀ j, starEach [x, y] (X j).env = [(false, eval x (X j).env), (false, eval y (X j).env)] := by intro _; rfl) (hs2 : ∀ j, starEach [y] (X j).env = [(false, eval y (X j).env)] := by intro _; rfl) : DI X K ω tg (.Call (.Name "range" p) [x, y] [] pos) (dRng2 dl) := by
  obtain ⟨t, p, l⟩ := ha
  refine ⟨_, fun j => pi_range2 (hg j) (hm j) (p j) (hs j) (hs2 j), fun B hω F a σ H Q R ok hd k => l B hω F a σ H _ _ ok hd fun vs ds F' a' H' g q r => ?_⟩
  split at r
  · rename_i i j
    cases datL_flat (xs := [.int i, .int j]) q
    exact ⟨i, j, rfl, r.1, k _ _ F' a' H' g it_rng r.2⟩
  · exact r.elim
end
/-! ### comprehensions -/
def dWipe (a : AS) : List Nat → AS
  | [] => a
  | v :: vs => (dWipe a vs).put v .emp
theorem dWipe_n (a : AS) : ∀ vs, (dWipe a vs).n = a.n
  | [] => rfl
  | _ :: vs => dWipe_n a vs
theorem dWipe_sp (a : AS) : ∀ vs, (dWipe a vs).sp = a.sp
  | [] => rfl
  | _ :: vs => dWipe_sp a vs
section
variable {K : PySem.W.Frag} {ω : Wp} {B : Bs K} {F F' F1 F2 G : Hp} {a a' a1 a2 : AS} {σ σ' : St} {H H' H1 H2 : Hp} {n : Int} {te : TE} {de da db : DEt} {ι : Type} {X : ι → Cx} {e e1 e2 : Expr} {es : List Expr} {pos : Pos} {dt : DTt} {dl dm : DAt}
theorem Ok.forget (ok : Ok B F a σ H) (i : Nat) (o : Option V) (hi : i = 0 → B.self = none) : Ok B F (a.put i .emp) (σ.set i o) H := by
  refine ⟨ok.fi, ok.es, by show (σ.set i _).length = (a.sl.set i _).length; rw [List.length_set, List.length_set, ok.len], fun j e q => ?_, fun j e q => ?_, fun j k p e f q1 q2 q3 q4 => ?_, set_fx hi ok.fx⟩
  · rcases set_get q with ⟨rfl, z, hl⟩ | ⟨n, q⟩
    · cases z
    · obtain ⟨u, e1, e2⟩ := ok.va j e q
      exact ⟨u, by rw [List.getElem?_set_ne (Ne.symm n)]; exact e1, e2⟩
  · rcases set_get q with ⟨rfl, z, hl⟩ | ⟨n, q⟩
    · cases z
    · obtain ⟨u, ho, e1, e2⟩ := ok.ow j e q
      exact ⟨u, ho, by rw [List.getElem?_set_ne (Ne.symm n)]; exact e1, e2⟩
  · rcases set_get q1 with ⟨rfl, z, hl⟩ | ⟨n1, q1⟩
    · cases z
    rcases set_get q2 with ⟨rfl, z, hl⟩ | ⟨n2, q2⟩
    · cases z
    rw [List.getElem?_set_ne (Ne.symm n1)] at q3
    rw [List.getElem?_set_ne (Ne.symm n2)] at q4
    exact ok.ds j k p e f q1 q2 q3 q4
theorem own_forget {i : Nat} {o : Option V} {b : Addr} (h : OwnAt (a.put i .emp) (σ.set i o) b) : OwnAt a σ b := by
  obtain ⟨j, f, q1, q2⟩ := h
  rcases set_get q1 with ⟨rfl, z, _⟩ | ⟨m, q1⟩
  · cases z
  · rw [List.getElem?_set_ne (Ne.symm m)] at q2
    exact ⟨j, f, q1, q2⟩
theorem Ok.wipe (ok : Ok B F a σ H) : ∀ vs, (0 ∈ vs → B.self = none) → Ok B F (dWipe a vs) (wipe σ vs) H
  | [], _ => ok
  | v :: vs, h => (Ok.wipe ok vs fun z => h (List.mem_cons_of_mem _ z)).forget v none fun z => h (by rw [z]; exact List.mem_cons_self)
theorem own_wipe {b : Addr} : ∀ {vs : List Nat}, OwnAt (dWipe a vs) (wipe σ vs) b → OwnAt a σ b
  | [], h => h
  | _ :: _, h => own_wipe (own_forget h)
theorem wipe_out : ∀ {vs : List Nat} {j : Nat}, j ∉ vs → (wipe σ vs)[j]? = σ[j]?
  | [], _, _ => rfl
  | v :: vs, j, h => by
    rw [show wipe σ (v :: vs) = (wipe σ vs).set v none from rfl, List.getElem?_set_ne (fun z => h (by rw [z]; exact List.mem_cons_self))]
    exact wipe_out fun z => h (List.mem_cons_of_mem _ z)
theorem wipe_in : ∀ {vs : List Nat} {j : Nat}, j ∈ vs → (wipe σ vs)[j]? = if j < σ.length then some none else none
  | [], _, h => nomatch h
  | v :: vs, j, h => by
    rw [show wipe σ (v :: vs) = (wipe σ vs).set v none from rfl]
    by_cases z : v = j
    · subst z
      rw [List.getElem?_set]
      rw [if_pos rfl, wipe_length]
    · rw [List.getElem?_set_ne z]
      exact wipe_in ((List.mem_cons.mp h).resolve_left fun w => z w.symm)
theorem wipe_ext {vs : List Nat} (hl : σ'.length = σ.length) (h : ∀ j, j ∉ vs → σ'[j]? = σ[j]?) : wipe σ' vs = wipe σ vs := by
  refine List.ext_getElem? fun j => ?_
  by_cases hj : j ∈ vs
  · rw [wipe_in hj, wipe_in hj, hl]
  · rw [wipe_out hj, wipe_out hj, h j hj]
/-- what is nobody's is changed -/
theorem Ok.ext (ok : Ok B F a σ H) {p : Addr} {o : HO} (hF : F p = none) (h0 : B.H0 p = none) (hs : B.sp ≠ some p) (no : ¬ OwnAt a σ p) : Ok B F a σ (upd H p o) := by
  refine ⟨⟨fun b u h => ?_, ok.fi.ff, ok.fi.fr, fun b u h n => ?_, fun b h => ?_⟩, ok.es, ok.len, ok.va, fun j f q => ?_, ok.ds, ok.fx⟩
  · rw [upd_ne (fun z => by rw [z, hF] at h; cases h)]
    exact ok.fi.fh b u h
  · rw [upd_ne (fun z => by rw [z, h0] at h; cases h)]
    exact ok.fi.fm b u h n
  · obtain ⟨x1, x2, x3⟩ := ok.fi.sr b h
    have z : b ≠ p := fun z => hs (z ▸ h)
    exact ⟨x1, x2, x3.but ((But.refl p H).upd) z⟩
  · obtain ⟨u, ho', f1, f2, f3, f4, f5⟩ := ok.ow j f q
    have z : u ≠ p := fun z => no ⟨j, f, q, by rw [← z]; exact f1⟩
    exact ⟨u, ho', f1, by rw [upd_ne z]; exact f2, f3, f4, f5⟩
theorem unwipe {vs : List Nat} {n1 : Int} (ok : Ok B F' a' σ H') (g : Go B (wipe σ vs) F' (dWipe a' vs) H' F1 ⟨(dWipe a' vs).sl, n1, a'.sp⟩ H) : Go B σ F' a' H' F1 ⟨a'.sl, n1, a'.sp⟩ H := by
  refine ⟨⟨g.ok.fi, ok.es, ok.len, fun i d e => ?_, fun i d e => ?_, ok.ds, ok.fx⟩, g.ff, g.hh, fun b z => ?_, fun b z => z⟩
  · obtain ⟨v, e1, e2⟩ := ok.va i d e
    exact ⟨v, e1, e2.mono g.ff⟩
  · obtain ⟨p, o, e1, e2, e3, e4, e5⟩ := ok.ow i d e
    have hs : B.sp ≠ some p := fun z => (ok.fi.sr p z).2.1 e4
    refine ⟨p, o, e1, g.hh p o hs e2, ?_, e4, e5.mono g.ff⟩
    cases q : F1 p with
    | none => rfl
    | some u =>
      rcases g.fr p (by rw [q]; exact fun z => (nomatch z)) with w | w | ⟨j, f, w1, w2⟩ | ⟨o', w1, w2⟩
      · exact absurd e3 w
      · rw [e2] at w
        cases w
      · obtain ⟨p', o', x1, x2, x3, _⟩ := g.ok.ow j f w1
        rw [w2] at x1
        cases x1
        rw [x3] at q
        cases q
      · have z := g.hh p o hs e2
        rw [g.ok.fi.fh p o' w1] at z
        cases z
        rw [e5.imm] at w2
        cases w2
  · rcases g.fr b z with q | q | q
    · exact .inl q
    · exact .inr (.inl q)
    · exact .inr (.inr (q.imp own_wipe id))
/-- a clause's tests -/
def DTs (X : ι → Cx) (K : PySem.W.Frag) (ω : Wp) (ifs : List Expr) (dt : DTt) : Prop := ∃ t, (∀ j, PTs (X j) ifs t) ∧ LC K ω t dt
theorem dts_nil : DTs X K ω [] (fun a R => R true a) := ⟨_, fun _ => pts_nil, fun B hω F a σ H Q R ok hd k => k true F a H (.refl ok) hd⟩
theorem dts_one {c : Expr} (h : DT X K ω c dt) : DTs X K ω [c] dt := let ⟨_, p, l⟩ := h; ⟨_, fun j => pts_one (p j), l⟩
def dLcGo (w : List Sl) (vs : List Nat) (dg : DGt) (dt : DTt) (de : DEt) (sp : Option Addr) (R : List D → Int → Prop) : List D → List D → Int → Prop
  | [], acc, n => R acc n
  | d :: ds, acc, n => dg d ⟨w, n, sp⟩ fun a1 => dt a1 fun b a2 => bIf b (de a2 fun x a3 => (dWipe a3 vs).sl = w ∧ acc.length < sizeLine ∧ dLcGo w vs dg dt de sp R ds (acc ++ [x]) a3.n) ((dWipe a2 vs).sl = w ∧ dLcGo w vs dg dt de sp R ds acc a2.n)
def dLc (vs : List Nat) (di : DAt) (dg : DGt) (dt : DTt) (de : DEt) : DEt := fun a R => di a fun items a' => dLcGo (dWipe a' vs).sl vs dg dt de a'.sp (fun acc n => R (.lst acc) ⟨a'.sl, n, a'.sp⟩) items [] a'.n
theorem lo_lc {wi : TI} {di : DAt} {g : TG} {dg : DGt} {ws vs : List Nat} {tt : TT} {te : TE} (l1 : LI K ω wi di) (l2 : LG K ω g dg ws) (l3 : LC K ω tt dt) (l4 : LE K ω te de) (hw : ∀ i ∈ ws, i ∈ vs) (hz : ω.sf = false ∨ 0 ∉ vs) : LO K ω (tLc wi g tt te vs) (dLc vs di dg dt de) := fun B hω F a σ H Q R ok hd k => by
  refine l1 B hω F a σ H _ _ ok hd fun J items F0 a0 H0 g0 it hR => ?_
  intro D hD
  obtain ⟨nF, n0, ns, nO⟩ := g0.ok.here hD
  have hz' : 0 ∈ vs → B.self = none := fun z => hz.elim hω.2.1 fun n => absurd z n
  have okw := g0.ok.wipe vs hz'
  have ew : dWipe a0 vs = ⟨(dWipe a0 vs).sl, a0.n, a0.sp⟩ := by rw [← dWipe_n a0 vs, ← dWipe_sp a0 vs]
  have nOw : ¬ OwnAt (dWipe a0 vs) (wipe σ vs) D := fun z => nO (own_wipe z)
  have hDne : ∀ {b : Addr} {o : HO}, H0 b = some o → b ≠ D := fun h z => by rw [z, hD] at h; cases h
  generalize ew' : (dWipe a0 vs).sl = w at *
  refine ⟨fun i m H1 => ∃ F1 n1 acc ds, Go B (wipe σ vs) F0 (dWipe a0 vs) H0 F1 ⟨w, n1, a0.sp⟩ H1 ∧ F1 D = none ∧ H1 D = some (.lst acc) ∧ DatL K F1 ds acc ∧ i ≤ items.length ∧ m = items.length - i ∧ dLcGo w vs dg dt de a0.sp (fun acc n => R (.lst acc) ⟨a0.sl, n, a0.sp⟩) (items.drop i) ds n1,
    ⟨_, F0, a0.n, [], [], by rw [← ew]; exact okw.newO hD, nF, upd_same, rfl, Nat.zero_le _, rfl, hR⟩, ?_⟩
  rintro i m H1 ⟨F1, n1, acc, ds, g1, f1, h1, q1, hi, rfl, hl⟩
  by_cases hlt : i < items.length
  · have e : items[i]? = some items[i] := List.getElem?_eq_getElem hlt
    rw [List.drop_eq_getElem_cons hlt] at hl
    refine .inr ⟨((it i F1 H1 g1.ff g1.ok.fi.fh).2 _ e).1, fun H9 => ∃ m', m' < items.length - i ∧ ∃ F1 n1 acc ds, Go B (wipe σ vs) F0 (dWipe a0 vs) H0 F1 ⟨w, n1, a0.sp⟩ H9 ∧ F1 D = none ∧ H9 D = some (.lst acc) ∧ DatL K F1 ds acc ∧ i + 1 ≤ items.length ∧ m' = items.length - (i + 1) ∧ dLcGo w vs dg dt de a0.sp (fun acc n => R (.lst acc) ⟨a0.sl, n, a0.sp⟩) (items.drop (i + 1)) ds n1, fun H9 z => z, fun x H2 y => ?_⟩
    obtain ⟨F2, g2, q2⟩ := it.turn g1.ok g1.ff e y
    refine l2 B hω F2 ⟨w, n1, a0.sp⟩ (wipe σ vs) H2 x _ _ _ g2.ok q2 hl fun a3 σ3 s3 hR => ?_
    have es : wipe σ3 vs = wipe σ vs := wipe_ext (s3.ln.trans (wipe_length σ vs)) fun j hj => by rw [s3.kp j (fun z => hj (hw j z)), wipe_out hj]
    refine ⟨es, l3 B hω F2 a3 σ3 H2 _ _ s3.ok hR fun b F3 a4 H3 g3 hR => ?_⟩
    -- a way within the turn, seen from the wiped state
    have back : ∀ {F5 a5 H5}, Go B σ3 F2 a3 H2 F5 a5 H5 → (dWipe a5 vs).sl = w → Go B (wipe σ vs) F1 ⟨w, n1, a0.sp⟩ H1 F5 ⟨w, a5.n, a0.sp⟩ H5 := fun {F5 a5 H5} g5 ew5 => by
      have o5 := g5.ok.wipe vs hz'
      have e5 : dWipe a5 vs = ⟨w, a5.n, a0.sp⟩ := by rw [← ew5, ← dWipe_n a5 vs, g0.ok.es, ← g5.ok.es, ← dWipe_sp a5 vs]
      rw [es, e5] at o5
      have g2' : Go B (wipe σ vs) F2 ⟨w, n1, a0.sp⟩ H2 F5 ⟨w, a5.n, a0.sp⟩ H5 := ⟨o5, g5.ff, g5.hh, fun b z => (g5.fr b z).imp id fun z => z.imp id fun z => z.imp (s3.oo b) id, fun b z => s3.oo b (g5.oo b (own_wipe (vs := vs) (by rw [es, e5]; exact z)))⟩
      exact .trans g1.ok g2 g2'
    have still : ∀ {F5 n5 H5}, Go B (wipe σ vs) F1 ⟨w, n1, a0.sp⟩ H1 F5 ⟨w, n5, a0.sp⟩ H5 → F5 D = none ∧ H5 D = some (.lst acc) := fun {F5 n5 H5} g5 => by
      refine ⟨?_, g5.hh D _ ns h1⟩
      cases q : F5 D with
      | none => rfl
      | some u =>
        rcases g5.fr D (by rw [q]; exact fun z => (nomatch z)) with z | z | z | ⟨o', w1, w2⟩
        · exact absurd f1 z
        · rw [h1] at z
          cases z
        · exact absurd (g1.oo D z) nOw
        · have z := g5.hh D _ ns h1
          rw [g5.ok.fi.fh D o' w1] at z
          cases z
          cases w2
    refine hR.imp (fun hR => ?_) fun hR => ?_
    · refine l4 B hω F3 a4 σ3 H3 _ _ g3.ok hR fun v d F5 a5 H5 g5 q5 hR => ?_
      obtain ⟨ew5, hz, hR⟩ := hR
      have g15 := back (Go.trans s3.ok g3 g5) ew5
      obtain ⟨f5, h5⟩ := still g15
      refine ⟨acc, h5, by rw [q1.len]; exact hz, items.length - (i + 1), by omega, F5, a5.n, acc ++ [v], ds ++ [d], ?_, f5, upd_same, (q1.mono g15.ff).app (.cons q5 .nil), hlt, rfl, hR⟩
      have g05 := Go.trans okw g1 g15
      have nO5 : ¬ OwnAt ⟨w, a5.n, a0.sp⟩ (wipe σ vs) D := fun z => nOw (g05.oo D z)
      exact ⟨g05.ok.ext f5 n0 ns nO5, g05.ff, fun b o hb h => by rw [upd_ne (hDne h)]; exact g05.hh b o hb h, g05.fr, g05.oo⟩
    · obtain ⟨ew5, hR⟩ := hR
      have g15 := back g3 ew5
      obtain ⟨f5, h5⟩ := still g15
      exact ⟨items.length - (i + 1), by omega, F3, a4.n, acc, ds, .trans okw g1 g15, f5, h5, q1.mono g15.ff, hlt, rfl, hR⟩
  · have e : i = items.length := by omega
    subst e
    rw [List.drop_length] at hl
    refine .inl ⟨(it _ F1 H1 g1.ff g1.ok.fi.fh).1 (Nat.le_refl _), ?_⟩
    subst ew'
    have gu := unwipe g0.ok g1
    have hH : H D = none := by
      cases q : H D with
      | none => rfl
      | some o =>
        rw [g0.hh D o ns q] at hD
        cases hD
    exact k D _ (.lst ds) F1 _ H1 (.trans ok g0 gu) hH f1 h1 ⟨acc, rfl, q1⟩ hl
/-- the family of a comprehension's blocks -/
def blkF (X : ι → Cx) (scope : Scope) : (ι × Shared × Hp × Addr × List (Str × Addr) × List Addr) → Cx := fun q => (X q.1).blk q.2.1 q.2.2.1 scope (compEnvC scope q.2.2.2.2.1 q.2.2.2.1 (X q.1).env) q.2.2.2.2.2
theorem do_lc {elt tg iter : Expr} {ifs : List Expr} {scope : Scope} {own : List (Str × Nat)} {pos : Pos} {di : DAt} {dg : DGt} {ws : List Nat} (hc : ∀ j, (X j).calm = true) (hN : ∀ j, (X j).N.Nodup) (hi : DI X K ω tg iter di) (ok : ∀ j, BlkOk (X j).N (X j).env.scope scope own)
    (hg : DG (blkF X scope) K ω tg dg ws) (ht : DTs (blkF X scope) K ω ifs dt) (he : DX (blkF X scope) K ω elt de) (hw : ∀ i ∈ ws, i ∈ own.map (·.2) := by decide) (hs : ∀ j x, foldedSetIterable iter (X j).env x = pure x := by intro _ _; rfl) (hz : ω.sf = false ∨ 0 ∉ own.map (·.2) := by first | exact Or.inl rfl | exact Or.inr (by decide)) :
    DO X K ω (.ListComp elt [⟨tg, iter, ifs, 0⟩] scope pos) (dLc (own.map (·.2)) di dg dt de) := by
  obtain ⟨wi, p1, l1⟩ := hi
  obtain ⟨g, p2, l2⟩ := hg
  obtain ⟨tt, p3, l3⟩ := ht
  obtain ⟨te, p4, l4⟩ := he
  exact ⟨_, fun j => pe_lc (hc j) (hN j) (p1 j) (ok j) (fun s H C cl fp => p2 (j, s, H, C, cl, fp)) (fun s H C cl fp => p3 (j, s, H, C, cl, fp)) (fun s H C cl fp => p4 (j, s, H, C, cl, fp)) (hs j), lo_lc l1 l2 l3 l4 hw hz⟩
/-- name = [..], the name a local -/
theorem ds_setLcO {i : Nat} {y : Str} {py : Pos} {elt tg iter : Expr} {ifs : List Expr} {scope : Scope} {own : List (Str × Nat)} {pos spos : Pos} {di : DAt} {dg : DGt} {ws : List Nat} (hc : ∀ j, (X j).calm = true) (hN : ∀ j, (X j).N.Nodup) (hy : ∀ j, (X j).N[i]? = some y) (hyl : ∀ j, (X j).env.scope.names.lookup y = some .local)
    (hsw : ∀ j, swapsWith (.ListComp elt [⟨tg, iter, ifs, 0⟩] scope pos) (some (.Name y py)) spos.line (X j).env = pure true) (hi : DI X K ω tg iter di) (ok : ∀ j, BlkOk (X j).N (X j).env.scope scope own)
    (hg : DG (blkF X scope) K ω tg dg ws) (ht : DTs (blkF X scope) K ω ifs dt) (he : DX (blkF X scope) K ω elt de) (hw : ∀ i ∈ ws, i ∈ own.map (·.2) := by decide) (hs : ∀ j x, foldedSetIterable iter (X j).env x = pure x := by intro _ _; rfl) (hz : ω.sf = false ∨ 0 ∉ own.map (·.2) := by first | exact Or.inl rfl | exact Or.inr (by decide)) (hz0 : ω.sf = false ∨ i ≠ 0 := by first | exact Or.inl rfl | exact Or.inr (by decide)) :
    DS X K ω (.Assign [.Name y py] (.ListComp elt [⟨tg, iter, ifs, 0⟩] scope pos) spos) (dSetO i (dLc (own.map (·.2)) di dg dt de)) := by
  obtain ⟨wi, p1, l1⟩ := hi
  obtain ⟨g, p2, l2⟩ := hg
  obtain ⟨tt, p3, l3⟩ := ht
  obtain ⟨te, p4, l4⟩ := he
  refine ⟨_, fun j => ps_setLc (hc j) (hN j) (hy j) (hyl j) (hsw j) (p1 j) (ok j) (fun s H C cl fp => p2 (j, s, H, C, cl, fp)) (fun s H C cl fp => p3 (j, s, H, C, cl, fp)) (fun s H C cl fp => p4 (j, s, H, C, cl, fp)) (hs j), ?_⟩
  refine fun B hω E DE F a σ H ok hd k => lo_lc l1 l2 l3 l4 hw hz B hω F a σ H _ _ ok hd fun p o d F' a' H' g n1 n2 h3 q r => ?_
  obtain ⟨hF, h0, hs, no⟩ := ok.here n1
  exact k.nx F' _ _ H' (g.ok.setO (hω.z hz0) h3 n2 h0 (fun z => no (g.oo p z)) q) g.ff r
theorem ds_setLc {i : Nat} {y : Str} {py : Pos} {elt tg iter : Expr} {ifs : List Expr} {scope : Scope} {own : List (Str × Nat)} {pos spos : Pos} {di : DAt} {dg : DGt} {ws : List Nat} (hc : ∀ j, (X j).calm = true) (hN : ∀ j, (X j).N.Nodup) (hy : ∀ j, (X j).N[i]? = some y) (hyl : ∀ j, (X j).env.scope.names.lookup y = some .local)
    (hsw : ∀ j, swapsWith (.ListComp elt [⟨tg, iter, ifs, 0⟩] scope pos) (some (.Name y py)) spos.line (X j).env = pure true) (hi : DI X K ω tg iter di) (ok : ∀ j, BlkOk (X j).N (X j).env.scope scope own)
    (hg : DG (blkF X scope) K ω tg dg ws) (ht : DTs (blkF X scope) K ω ifs dt) (he : DX (blkF X scope) K ω elt de) (hw : ∀ i ∈ ws, i ∈ own.map (·.2) := by decide) (hs : ∀ j x, foldedSetIterable iter (X j).env x = pure x := by intro _ _; rfl) (hz : ω.sf = false ∨ 0 ∉ own.map (·.2) := by first | exact Or.inl rfl | exact Or.inr (by decide)) (hz0 : ω.sf = false ∨ i ≠ 0 := by first | exact Or.inl rfl | exact Or.inr (by decide)) :
    DS X K ω (.Assign [.Name y py] (.ListComp elt [⟨tg, iter, ifs, 0⟩] scope pos) spos) (dSet i (dLc (own.map (·.2)) di dg dt de)) := by
  obtain ⟨wi, p1, l1⟩ := hi
  obtain ⟨g, p2, l2⟩ := hg
  obtain ⟨tt, p3, l3⟩ := ht
  obtain ⟨te, p4, l4⟩ := he
  refine ⟨_, fun j => ps_setLc (hc j) (hN j) (hy j) (hyl j) (hsw j) (p1 j) (ok j) (fun s H C cl fp => p2 (j, s, H, C, cl, fp)) (fun s H C cl fp => p3 (j, s, H, C, cl, fp)) (fun s H C cl fp => p4 (j, s, H, C, cl, fp)) (hs j), ?_⟩
  exact fun B hω E DE F a σ H ok hd k => (lo_lc l1 l2 l3 l4 hw hz).e B hω F a σ H _ _ ok hd fun v d F' a' H' g q r => k.nx F' _ _ H' (g.ok.setV (hω.z hz0) q) g.ff r
end
/-! ### one's own lists -/
section
variable {K : PySem.W.Frag} {ω : Wp} {B : Bs K} {F F' F1 F2 G : Hp} {a a' a1 a2 : AS} {σ σ' : St} {H H' H1 H2 : Hp} {n : Int} {te : TE} {de da db : DEt} {ι : Type} {X : ι → Cx} {e e1 e2 o : Expr} {es : List Expr} {pos : Pos} {dt : DTt} {dl dm : DAt}
abbrev DM := List D → List D → (List D → D → Prop) → Prop
def LM (K : PySem.W.Frag) (r : V → List V → Hp → VK → Prop) (f : DM) : Prop := ∀ (F H : Hp) (p : Addr) (vs : List V) (ds : List D) (xs : List V) (es : List D) (Q : VK) (R : List D → D → Prop), Same F H → H p = some (.lst vs) → DatL K F ds vs → DatL K F es xs → f ds es R →
  (∀ vs' ds' w d, DatL K F ds' vs' → Dat K F d w → R ds' d → Q w (upd H p (.lst vs'))) → r (.ref p) xs H Q
def asL (s : Sl) (R : List D → Prop) : Prop := match s with
  | .own (.lst ds) => R ds
  | _ => False
theorem asL_of {s : Sl} {R : List D → Prop} (h : asL s R) : ∃ ds, s = .own (.lst ds) ∧ R ds := by
  unfold asL at h
  split at h
  · exact ⟨_, rfl, h⟩
  · exact h.elim
theorem Ok.lst (ok : Ok B F a σ H) {i : Nat} {ds : List D} (h : a.at i = .own (.lst ds)) : ∃ p vs, σ[i]? = some (some (.ref p)) ∧ H p = some (.lst vs) ∧ DatL K F ds vs ∧ a.sl[i]? = some (.own (.lst ds)) := by
  have h' := at_of' h (fun z => nomatch z)
  obtain ⟨p, ho, e1, e2, e3, e4, vs, rfl, q⟩ := ok.ow i _ h'
  exact ⟨p, vs, e1, e2, q, h'⟩
/-- o.m(..), o one's own list: what the expression gives, what the list is then -/
def dOwnE (i : Nat) (f : DM) (dl : DAt) (k : D → AS → Prop) : AS → Prop := fun a => asL (a.at i) fun _ => dl a fun es a' => asL (a'.at i) fun ds => f ds es fun ds' d => k d (a'.put i (.own (.lst ds')))
theorem own_run {r : V → List V → Hp → VK → Prop} {f : DM} {ta : TA} {i : Nat} (l : LM K r f) (la : LAE K ω ta dl) (hω : WOk B ω) (ok : Ok B F a σ H) {Q : VK} {R : D → AS → Prop} (hd : dOwnE i f dl R a)
    (k : ∀ w d F' a' H', Ok B F' a' σ H' → Same F F' → Dat K F' d w → R d a' → Q w H') : tBM K "list" r (tVar i) ta σ H Q := by
  obtain ⟨ds0, e0, hd⟩ := asL_of hd
  obtain ⟨p, vs0, s0, h0, q0, _⟩ := ok.lst e0
  refine ⟨_, s0, .inl ⟨rfl, vs0, SqL.of h0⟩, la B hω F a σ H _ _ ok hd fun xs es F1 a1 H1 g1 q1 r1 => ?_⟩
  obtain ⟨ds1, e1, hd1⟩ := asL_of r1
  obtain ⟨p', vs1, s1, h1, q2, e2⟩ := g1.ok.lst e1
  rw [s0] at s1
  cases s1
  exact l F1 H1 p vs1 ds1 xs es Q _ g1.ok.fi.fh h1 q2 q1 hd1 fun vs' ds' w d q3 q4 r => k w d F1 _ _ (g1.ok.chg (e := .lst ds') e2 s0 ⟨vs', rfl, q3⟩) g1.ff q4 r
theorem own_run0 {r : V → List V → Hp → VK → Prop} {f : DM} {i : Nat} (l : LM K r f) (ok : Ok B F a σ H) {Q : VK} {R : D → AS → Prop} (hd : dOwnE i f dNil R a)
    (k : ∀ w d F' a' H', Ok B F' a' σ H' → Same F F' → Dat K F' d w → R d a' → Q w H') : tBM0 K "list" r (tVar i) σ H Q := by
  obtain ⟨ds0, e0, hd⟩ := asL_of hd
  obtain ⟨p, vs0, s0, h0, q0, _⟩ := ok.lst e0
  refine ⟨_, s0, .inl ⟨rfl, vs0, SqL.of h0⟩, ?_⟩
  obtain ⟨ds1, e1, hd1⟩ := asL_of hd
  obtain ⟨p', vs1, s1, h1, q2, e2⟩ := ok.lst e1
  rw [s0] at s1
  cases s1
  exact l F H p vs1 ds1 [] [] Q _ ok.fi.fh h1 q2 rfl hd1 fun vs' ds' w d q3 q4 r => k w d F _ _ (ok.chg (e := .lst ds') e2 s0 ⟨vs', rfl, q3⟩) (Same.refl F) q4 r
variable {name : Str} {apos cpos : Pos} {T id : String} {r : V → List V → Hp → VK → Prop} {f : DM} {i : Nat}
def dOwn (i : Nat) (f : DM) (dl : DAt) : DSt := fun E => dOwnE i f dl fun _ a => E.nx a
theorem ds_own (pa : PlainAttrs "list") (slot : Slot "list" name id) (hty : typeOf (.builtin id) = pure (.type "method_descriptor")) (hm : ∀ j, MtR (X j) id r) (l : LM K r f) (ho : ∀ j, PE (X j) o (tVar i)) (ha : DAE X K ω (e :: es) dl)
    (hs : ∀ j, swapsWith (.Call (.Attribute o name apos) (e :: es) [] cpos) none pos.line (X j).env = pure false := by intro _; rfl)
    (hbase : ∀ j, attributeBase o name (X j).env (eval o (X j).env) = eval o (X j).env := by intro _; rfl)
    (hfew : ∀ j, ((backTo cpos (starEach (e :: es) (X j).env)).all (fun x => !x.1) && (backToKw cpos (keywordEach [] (X j).env)).all (fun x => x.1.isSome)
      && decide ((e :: es).length + ([] : List Keyword).length + (if ([] : List Keyword).isEmpty then 0 else 1) < 30)) = true := by intro _; rfl)
    (hline : (apos.endLine == cpos.line) = true := by rfl) (hst : ∀ j, starEach (e :: es) (X j).env = (false, eval e (X j).env) :: starEach es (X j).env := by intro _; rfl) (hplain : ∀ j, (backTo cpos (starEach es (X j).env)).any (·.1) = false := by intro _; rfl) (hK : ∀ j, (X j).K = K := by intro _; rfl) :
    DS X K ω (.Expr (.Call (.Attribute o name apos) (e :: es) [] cpos) pos) (dOwn i f dl) := by
  obtain ⟨t, p, la⟩ := ha
  exact ⟨tDrop (tBM K "list" r (tVar i) t), fun j => by rw [← hK j]; exact ps_expr (pe_bm pa slot hty (hm j) (ho j) (p j) (hbase j) (hfew j) hline (hst j) (hplain j)) (hs j), fun B hω E DE F a σ H ok hd k => own_run l la hω ok hd fun w d F' a' H' ok' s _ r => k.nx F' a' σ H' ok' s r⟩
theorem ds_own0 (pa : PlainAttrs "list") (slot : Slot "list" name id) (hty : typeOf (.builtin id) = pure (.type "method_descriptor")) (hm : ∀ j, MtR (X j) id r) (l : LM K r f) (ho : ∀ j, PE (X j) o (tVar i))
    (hs : ∀ j, swapsWith (.Call (.Attribute o name apos) [] [] cpos) none pos.line (X j).env = pure false := by intro _; rfl)
    (hbase : ∀ j, attributeBase o name (X j).env (eval o (X j).env) = eval o (X j).env := by intro _; rfl) (hline : (apos.endLine == cpos.line) = true := by rfl) (hK : ∀ j, (X j).K = K := by intro _; rfl) :
    DS X K ω (.Expr (.Call (.Attribute o name apos) [] [] cpos) pos) (dOwn i f dNil) :=
  ⟨tDrop (tBM0 K "list" r (tVar i)), fun j => by rw [← hK j]; exact ps_expr (pe_bm0 pa slot hty (hm j) (ho j) (hbase j) hline) (hs j), fun B hω E DE F a σ H ok hd k => own_run0 l ok hd fun w d F' a' H' ok' s _ r => k.nx F' a' σ H' ok' s r⟩
/-- x = o.m(..) -/
def dSetOwn (x i : Nat) (f : DM) (dl : DAt) : DSt := fun E => dOwnE i f dl fun d a => E.nx (a.put x (.val d))
theorem ds_setOwn {x : Nat} {y : Str} {py : Pos} (hN : ∀ j, (X j).N.Nodup) (hi : ∀ j, (X j).N[x]? = some y) (hx : ∀ j, Loc (X j).env.scope y) (pa : PlainAttrs "list") (slot : Slot "list" name id) (hty : typeOf (.builtin id) = pure (.type "method_descriptor")) (hm : ∀ j, MtR (X j) id r) (l : LM K r f) (ho : ∀ j, PE (X j) o (tVar i)) (ha : DAE X K ω (e :: es) dl)
    (hs : ∀ j, swapsWith (.Call (.Attribute o name apos) (e :: es) [] cpos) (some (.Name y py)) pos.line (X j).env = pure false := by intro _; rfl)
    (hbase : ∀ j, attributeBase o name (X j).env (eval o (X j).env) = eval o (X j).env := by intro _; rfl)
    (hfew : ∀ j, ((backTo cpos (starEach (e :: es) (X j).env)).all (fun x => !x.1) && (backToKw cpos (keywordEach [] (X j).env)).all (fun x => x.1.isSome)
      && decide ((e :: es).length + ([] : List Keyword).length + (if ([] : List Keyword).isEmpty then 0 else 1) < 30)) = true := by intro _; rfl)
    (hline : (apos.endLine == cpos.line) = true := by rfl) (hst : ∀ j, starEach (e :: es) (X j).env = (false, eval e (X j).env) :: starEach es (X j).env := by intro _; rfl) (hplain : ∀ j, (backTo cpos (starEach es (X j).env)).any (·.1) = false := by intro _; rfl) (hK : ∀ j, (X j).K = K := by intro _; rfl)
    (hf : ∀ j, (X j).fn y = true ∨ (X j).env.scope.names.lookup y = some .local := by first | exact fun _ => .inl rfl | exact fun _ => .inr rfl | assumption) (hz : ω.sf = false ∨ x ≠ 0 := by first | exact Or.inl rfl | exact Or.inr (by decide)) :
    DS X K ω (.Assign [.Name y py] (.Call (.Attribute o name apos) (e :: es) [] cpos) pos) (dSetOwn x i f dl) := by
  obtain ⟨t, p, la⟩ := ha
  exact ⟨tAsg (tBM K "list" r (tVar i) t) (gName x), fun j => by rw [← hK j]; exact ps_set (hN j) (hi j) (hx j) (pe_bm pa slot hty (hm j) (ho j) (p j) (hbase j) (hfew j) hline (hst j) (hplain j)) (hs j) (hf j), fun B hω E DE F a σ H ok hd k => own_run l la hω ok hd fun w d F' a' H' ok' s q r => k.nx F' _ _ H' (ok'.setV (hω.z hz) q) s r⟩
theorem ds_setOwn0 {x : Nat} {y : Str} {py : Pos} (hN : ∀ j, (X j).N.Nodup) (hi : ∀ j, (X j).N[x]? = some y) (hx : ∀ j, Loc (X j).env.scope y) (pa : PlainAttrs "list") (slot : Slot "list" name id) (hty : typeOf (.builtin id) = pure (.type "method_descriptor")) (hm : ∀ j, MtR (X j) id r) (l : LM K r f) (ho : ∀ j, PE (X j) o (tVar i))
    (hs : ∀ j, swapsWith (.Call (.Attribute o name apos) [] [] cpos) (some (.Name y py)) pos.line (X j).env = pure false := by intro _; rfl)
    (hbase : ∀ j, attributeBase o name (X j).env (eval o (X j).env) = eval o (X j).env := by intro _; rfl) (hline : (apos.endLine == cpos.line) = true := by rfl) (hK : ∀ j, (X j).K = K := by intro _; rfl)
    (hf : ∀ j, (X j).fn y = true ∨ (X j).env.scope.names.lookup y = some .local := by first | exact fun _ => .inl rfl | exact fun _ => .inr rfl | assumption) (hz : ω.sf = false ∨ x ≠ 0 := by first | exact Or.inl rfl | exact Or.inr (by decide)) :
    DS X K ω (.Assign [.Name y py] (.Call (.Attribute o name apos) [] [] cpos) pos) (dSetOwn x i f dNil) :=
  ⟨tAsg (tBM0 K "list" r (tVar i)) (gName x), fun j => by rw [← hK j]; exact ps_set (hN j) (hi j) (hx j) (pe_bm0 pa slot hty (hm j) (ho j) (hbase j) hline) (hs j) (hf j), fun B hω E DE F a σ H ok hd k => own_run0 l ok hd fun w d F' a' H' ok' s q r => k.nx F' _ _ H' (ok'.setV (hω.z hz) q) s r⟩
/-! the methods -/
def mAppend : DM := fun ds es R => match es with
  | [d] => ds.length < sizeLine ∧ R (ds ++ [d]) (.v .non)
  | _ => False
theorem lm_append : LM K rAppend mAppend := fun F H p vs ds xs es Q R s h q1 q2 hd k => by
  unfold mAppend at hd
  split at hd
  · obtain ⟨v, r, rfl, h1, h2⟩ := q2
    cases (show r = [] from h2)
    exact ⟨p, vs, v, rfl, rfl, h, by rw [q1.len]; exact hd.1, k _ _ _ (.v _) (q1.app (.cons h1 .nil)) rfl hd.2⟩
  · exact hd.elim
def mExtend : DM := fun ds es R => match es with
  | [.lst fs] => ds.length + fs.length ≤ sizeLine ∧ R (ds ++ fs) (.v .non)
  | _ => False
theorem lm_extend : LM K rExtend mExtend := fun F H p vs ds xs es Q R s h q1 q2 hd k => by
  unfold mExtend at hd
  split at hd
  · obtain ⟨v, r, rfl, h1, h2⟩ := q2
    cases (show r = [] from h2)
    obtain ⟨b, ws, rfl, h3, h4⟩ := h1
    exact ⟨p, b, vs, ws, rfl, rfl, h, s _ _ h3, by rw [q1.len, h4.len]; exact hd.1, k _ _ _ (.v _) (q1.app h4) rfl hd.2⟩
  · exact hd.elim
def mInsert : DM := fun ds es R => match es with
  | [.v (.int i), d] => ds.length < sizeLine ∧ (0 ≤ i ∧ i < 2 ^ 63) ∧ R (ds.take i.toNat ++ [d] ++ ds.drop i.toNat) (.v .non)
  | _ => False
theorem lm_insert : LM K (fun x vs H Q => ∃ (l : Addr) (xs : List V) (i : Int) (y : V), x = .ref l ∧ vs = [.int i, y] ∧ H l = some (.lst xs) ∧ xs.length < sizeLine ∧ 0 ≤ i ∧ i < 2 ^ 63 ∧ Q .non (upd H l (.lst (xs.take i.toNat ++ [y] ++ xs.drop i.toNat)))) mInsert := fun F H p vs ds xs es Q R s h q1 q2 hd k => by
  unfold mInsert at hd
  split at hd
  · rename_i i d
    obtain ⟨v, r, rfl, h1, w, r', rfl, h2, h3⟩ := q2
    cases (show r' = [] from h3)
    cases (show v = _ from h1)
    exact ⟨p, vs, i, w, rfl, rfl, h, by rw [q1.len]; exact hd.1, hd.2.1.1, hd.2.1.2, k _ _ _ (.v _) (((q1.take _).app (.cons h2 .nil)).app (q1.drop _)) rfl hd.2.2⟩
  · exact hd.elim
def mPop : DM := fun ds es R => match es, ds[ds.length - 1]? with
  | [], some d => R ds.dropLast d
  | _, _ => False
theorem datL_dropLast {ds : List D} {vs : List V} (q : DatL K H ds vs) : DatL K H ds.dropLast vs.dropLast := by
  rw [List.dropLast_eq_take, List.dropLast_eq_take, q.len]
  exact q.take _
theorem lm_pop : LM K rPop mPop := fun F H p vs ds xs es Q R s h q1 q2 hd k => by
  unfold mPop at hd
  split at hd
  · rename_i d e
    obtain ⟨v, e1, e2⟩ := q1.get e
    cases (show xs = [] from q2)
    exact ⟨p, vs, v, rfl, rfl, h, by rw [q1.len]; exact e1, k _ _ _ _ (datL_dropLast q1) e2 hd⟩
  · exact hd.elim
def mPopAt : DM := fun ds es R => match es with
  | [.v (.int i)] => (-(2 ^ 63) ≤ i ∧ i < 2 ^ 63) ∧ (match seqIndex? i ds.length with
    | some k => opt ds[k]? fun d => R (ds.eraseIdx k) d
    | none => False)
  | _ => False
theorem DatL.erase : ∀ {ds : List D} {vs : List V} (i : Nat), DatL K H ds vs → DatL K H (ds.eraseIdx i) (vs.eraseIdx i)
  | [], _, _, h => by rw [show _ = [] from h]; rfl
  | _ :: _, _, 0, ⟨v, r, e, _, t⟩ => by rw [e]; exact t
  | _ :: _, _, i + 1, ⟨v, r, e, h, t⟩ => by rw [e]; exact ⟨v, _, rfl, h, t.erase i⟩
theorem lm_popAt : LM K rPopAt mPopAt := fun F H p vs ds xs es Q R s h q1 q2 hd k => by
  unfold mPopAt at hd
  split at hd
  · rename_i i
    obtain ⟨v, r, rfl, h1, h2⟩ := q2
    cases (show r = [] from h2)
    cases (show v = _ from h1)
    obtain ⟨hb, hd⟩ := hd
    split at hd
    · rename_i j e
      obtain ⟨d, e1, hd⟩ := opt_of hd
      obtain ⟨w, e2, e3⟩ := q1.get e1
      exact ⟨p, vs, i, j, w, rfl, rfl, h, hb.1, hb.2, by rw [q1.len]; exact e, e2, k _ _ _ _ (q1.erase j) e3 hd⟩
    · exact hd.elim
  · exact hd.elim
/-- o[k] = e, o one's own list -/
def dSetIx (i : Nat) (de dk : DEt) : DSt := fun E a => de a fun d a1 => asL (a1.at i) fun _ => dk a1 fun x a2 => asL (a2.at i) fun ds => match x with
  | .v (.int k) => (match ixN ds.length k with
    | some j => E.nx (a2.put i (.own (.lst (ds.set j d))))
    | none => False)
  | _ => False
theorem ds_setIx {ix : Expr} {p3 : Pos} {dk : DEt} (he : DX X K ω e de) (ho : ∀ j, PE (X j) o (tVar i)) (hi : DX X K ω ix dk) (hs : ∀ j, swapsWithSole [.Subscript o ix p3] e pos.line (X j).env = pure false := by intro _; rfl) (hw : ∀ j, swappedStores [.Subscript o ix p3] e (X j).env = pure none := by intro _; rfl)
    (h1 : ∀ j, (assignEach [.Subscript o ix p3] (X j).env).map (·.2) = [assign (.Subscript o ix p3) (X j).env] := by intro _; rfl)
    (h2 : ∀ j v, assign (.Subscript o ix p3) (X j).env v = (do let ov ← holding [v] (eval o (X j).env); let iv ← holding [v, ov] (eval ix (X j).env); standAt p3; holding [v, ov, iv] (setItem ov iv v); release [v, ov, iv] []) := by intro _ _; rfl) : DS X K ω (.Assign [.Subscript o ix p3] e pos) (dSetIx i de dk) := by
  obtain ⟨t, p, l⟩ := he
  obtain ⟨t2, p2, l2⟩ := hi
  refine ⟨_, fun j => ps_asg (p j) (pg_sub (ho j) (p2 j) set_list (h2 j)) (hs j) (hw j) (h1 j), fun B hω E DE F a σ H ok hd k => l B hω F a σ H _ _ ok hd fun v d F1 a1 H1 g1 q1 r1 => ?_⟩
  obtain ⟨ds0, e0, hd⟩ := asL_of r1
  obtain ⟨p, vs0, s0, h0, q0, _⟩ := g1.ok.lst e0
  refine ⟨_, s0, l2 B hω F1 a1 σ H1 _ _ g1.ok hd fun x f F2 a2 H2 g2 q2 r2 => ?_⟩
  obtain ⟨ds1, e1, hd1⟩ := asL_of r2
  obtain ⟨p', vs1, s1, h1, q3, e2⟩ := g2.ok.lst e1
  rw [s0] at s1
  cases s1
  split at hd1
  · rename_i z
    split at hd1
    · rename_i j e
      cases (show x = _ from q2)
      exact ⟨p, vs1, z, j, rfl, rfl, h1, by rw [q3.len]; exact e, k.nx F2 _ _ _ (g2.ok.chg (e := .lst (ds1.set j d)) e2 s0 ⟨_, rfl, q3.set (q1.mono g2.ff)⟩) (g1.ff.trans g2.ff) hd1⟩
    · exact hd1.elim
  · exact hd1.elim
end
local macro_rules | `(tactic| walk_at "om") => `(tactic| ((try dsimp only [AS.put]); omega))
/-! ### a law's own defs: with a source, with none -/
/-- C: how many numbers are drawn at most -/
def fsp {α β : Type} (C : α → Int) (A : Addr → α → List D) (P : α → Prop) (Po : α → β → Prop) (O : β → D) : DSp := fun sp ds n R => ∃ p x, sp = some p ∧ ds = A p x ∧ P x ∧ n + C x ≤ 800000 ∧ ∀ y, Po x y → R (O y) (n + C x)
def fsp0 {α β : Type} (A : α → List D) (P : α → Prop) (Po : α → β → Prop) (O : β → D) : DSp := fun _ ds n R => ∃ x, ds = A x ∧ P x ∧ ∀ y, Po x y → R (O y) n
theorem fsp.mon {α β : Type} {C : α → Int} {A : Addr → α → List D} {P : α → Prop} {Po : α → β → Prop} {O : β → D} : Mon (fsp C A P Po O) := fun sp ds n R R' h ⟨p, x, h1, h2, h3, h4, h5⟩ => ⟨p, x, h1, h2, h3, h4, fun y hy => h _ _ (h5 y hy)⟩
theorem fsp0.mon {α β : Type} {A : α → List D} {P : α → Prop} {Po : α → β → Prop} {O : β → D} : Mon (fsp0 A P Po O) := fun sp ds n R R' h ⟨x, h2, h3, h5⟩ => ⟨x, h2, h3, fun y hy => h _ _ (h5 y hy)⟩
abbrev sD (p : Addr) : D := .v (.ref p)
abbrev eI (i : Int) : D := .v (.int i)
abbrev eS (x : Str) : D := .v (.str x)
abbrev eB (b : Bool) : D := .v (.bl b)
abbrev eN : D := .v .non
abbrev eLS (l : List Str) : D := .lst (l.map eS)
abbrev eLI (l : List Int) : D := .lst (l.map eI)
/-! loops by an invariant -/
theorem dLoop_inv {dg : DGt} {db : DSt} {E : DEnds} : ∀ {items : List D} {a : AS} (J : Nat → AS → Prop), J 0 a →
    (∀ i d a (N : AS → Prop), items[i]? = some d → J i a → (∀ a', J (i + 1) a' → N a') → dg d a fun a1 => db { E with nx := N, ct := N, bk := E.nx } a1) → (∀ a, J items.length a → E.nx a) → dLoop dg db E items a
  | [], a, J, h0, _, hd => hd a h0
  | d :: ds, a, J, h0, hs, hd => hs 0 d a _ rfl h0 fun a' h => dLoop_inv (fun i => J (i + 1)) h (fun i d a N e => hs (i + 1) d a N e) hd
theorem rng_len {lo : Int} {n : Nat} : (rngD lo n).length = n := by
  unfold rngD
  rw [List.length_map, List.length_range]
theorem dLoop_rng {dg : DGt} {db : DSt} {E : DEnds} {lo : Int} {n : Nat} {a : AS} (J : Nat → AS → Prop) (h0 : J 0 a)
    (hs : ∀ i a (N : AS → Prop), i < n → J i a → (∀ a', J (i + 1) a' → N a') → dg (eI (lo + (i : Nat))) a fun a1 => db { E with nx := N, ct := N, bk := E.nx } a1) (hd : ∀ a, J n a → E.nx a) : dLoop dg db E (rngD lo n) a :=
  dLoop_inv J h0 (fun i d a N e h k => by
    obtain ⟨hi, rfl⟩ := rng_at e
    exact hs i a N hi h k) fun a h => hd a (by rw [rng_len] at h; exact h)
/-- over coded things -/
theorem dLoop_map {α : Type} {f : α → D} {xs : List α} {dg : DGt} {db : DSt} {E : DEnds} {a : AS} (J : Nat → AS → Prop) (h0 : J 0 a)
    (hs : ∀ i x a (N : AS → Prop), xs[i]? = some x → J i a → (∀ a', J (i + 1) a' → N a') → dg (f x) a fun a1 => db { E with nx := N, ct := N, bk := E.nx } a1) (hd : ∀ a, J xs.length a → E.nx a) : dLoop dg db E (xs.map f) a :=
  dLoop_inv J h0 (fun i d a N e h k => by
    rw [List.getElem?_map] at e
    obtain ⟨x, h1, rfl⟩ := Option.map_eq_some_iff.mp e
    exact hs i x a N h1 h k) fun a h => hd a (by rw [List.length_map] at h; exact h)
/-- a comprehension by an invariant over its list and the draws -/
theorem dLc_inv {w : List Sl} {vs : List Nat} {dg : DGt} {dt : DTt} {de : DEt} {sp : Option Addr} {R : List D → Int → Prop} : ∀ {items acc : List D} {n : Int} (J : Nat → List D → Int → Prop), J 0 acc n →
    (∀ i d acc n (N : List D → Int → Prop), items[i]? = some d → J i acc n → (∀ acc' n', J (i + 1) acc' n' → N acc' n') → dg d ⟨w, n, sp⟩ fun a1 => dt a1 fun b a2 => bIf b (de a2 fun x a3 => (dWipe a3 vs).sl = w ∧ acc.length < sizeLine ∧ N (acc ++ [x]) a3.n) ((dWipe a2 vs).sl = w ∧ N acc a2.n)) →
    (∀ acc n, J items.length acc n → R acc n) → dLcGo w vs dg dt de sp R items acc n
  | [], acc, n, J, h0, _, hd => hd acc n h0
  | d :: ds, acc, n, J, h0, hs, hd => hs 0 d acc n _ rfl h0 fun acc' n' h => dLc_inv (fun i => J (i + 1)) h (fun i d acc n N e => hs (i + 1) d acc n N e) hd
theorem as_n {sl sl' : List Sl} {n n' : Int} {sp : Option Addr} (h1 : sl = sl') (h : n = n') : (⟨sl, n, sp⟩ : AS) = ⟨sl', n', sp⟩ := by rw [h1, h]
theorem eLS_snoc (zs : List Str) (z : Str) : D.lst (zs.map eS ++ [eS z]) = eLS (zs ++ [z]) := by
  rw [eLS, List.map_append]
  rfl
theorem hr65 {k : Nat} {A : Around} (hr : Room k A) : A.units + 65 < cLine := by
  have := hr.un
  omega
/-- the law: its first statement makes the source -/
theorem law_run {K : PySem.W.Frag} {X : Cx} {st : Stmt} {rest : List Stmt} {N : List Str} {E : XK} {d : DSt} {a : Addr} {ns : List Int} {H : Hp} {Q : VK} (h1 : PS X st (tAsg (tCall (spSource K) [] E (tCons (tVar 0) tNil)) (gName 1))) (h : DSs (fun _ : Unit => X) K wp0 rest d) (hS : SqL K H a (ns.map V.int)) (hN : 2 ≤ N.length)
    (k : ∀ H', Q (.bl true) H') (hd : ∀ p, d { nx := fun _ => False, rt := fun d _ => d = .v (.bl true) } ⟨(List.replicate N.length .emp).set 1 (.val (sD p)), 0, some p⟩) : ∃ t, PSs X (st :: rest) t ∧ t { nx := fun _ H' => Q .non H', rt := Q } (L2.start N [.ref a]) H := by
  obtain ⟨t, p, l⟩ := h
  refine ⟨_, pss_cons h1 (p ()), ?_⟩
  refine ⟨.ref a, rfl, a, ns, rfl, hS, fun q H' hq s S => ?_⟩
  obtain ⟨xs, hx⟩ := S.at
  have own : ∀ {i : Nat} {d : D}, ¬ ((List.replicate N.length Sl.emp).set 1 (.val (sD q)))[i]? = some (Sl.own d) := fun {i d} e => by
    rcases set_get e with ⟨_, z, _⟩ | ⟨_, z⟩
    · cases z
    · cases (List.mem_replicate.mp (List.mem_of_getElem? z)).2
  refine l ⟨some q, H', Hs (some q) H', none⟩ (wok0 rfl) _ _ (Hs (some q) H') _ _ H' ⟨⟨hs_same, Same.refl _, fun b h => .inl h, fun b o h _ => h, fun b e => ?_⟩, rfl, ?_, fun i d e => ?_, fun i d e => (own e).elim, fun i j p d e h _ _ _ => (own h).elim, fun _ e => nomatch e⟩ (hd q) ⟨fun _ _ _ _ _ _ h => h.elim, fun v d n F' H'' _ _ hv e => ?_, fun _ _ _ _ _ _ h => h.elim, fun _ _ _ _ _ _ h => h.elim⟩
  · cases e
    refine ⟨?_, by show H' q ≠ none; rw [hx]; exact fun z => (nomatch z), S⟩
    unfold Hs
    rw [if_pos rfl]
  · unfold L2.start
    rw [List.length_set, List.length_append, List.length_replicate, List.length_set, List.length_replicate]
    show 1 + (N.length - 1) = N.length
    omega
  · rcases set_get e with ⟨rfl, z, hl⟩ | ⟨_, z⟩
    · cases z
      refine ⟨.ref q, List.getElem?_set_self ?_, rfl⟩
      unfold L2.start
      rw [List.length_append, List.length_replicate]
      show 1 < 1 + (N.length - 1)
      omega
    · cases (List.mem_replicate.mp (List.mem_of_getElem? z)).2
  · subst e
    rw [show v = .bl true from hv]
    exact k H''
section
variable {K : PySem.W.Frag} {ω : Wp} {B : Bs K} {F F' F1 F2 G : Hp} {a a' a1 a2 : AS} {σ σ' : St} {H H' H1 H2 : Hp} {n : Int} {te : TE} {de da db dc : DEt} {ι : Type} {X : ι → Cx} {e e1 e2 o : Expr} {es : List Expr} {pos : Pos} {dt : DTt} {dl dm : DAt}
/-! tuples put together, cut -/
def dCatTE (da db : DEt) : DEt := fun a R => da a fun x a1 => db a1 fun y a2 => match x, y with
  | .tup ds, .tup es => ds ≠ [] ∧ es ≠ [] ∧ ds.length + es.length ≤ sizeLine ∧ R (.tup (ds ++ es)) a2
  | _, _ => False
theorem datL_ne {ds : List D} {vs : List V} (q : DatL K H ds vs) (h : ds ≠ []) : vs ≠ [] := fun z => h (List.length_eq_zero_iff.mp (by rw [← q.len, z]; rfl))
theorem de_catT (ha : DX X K ω e1 da) (hb : DX X K ω e2 db) (hK : ∀ j, (X j).K = K := by intro _; rfl) : DX X K ω (.BinOp e1 .Add e2 pos) (dCatTE da db) := by
  obtain ⟨ta, p1, l1⟩ := ha
  obtain ⟨tb, p2, l2⟩ := hb
  refine ⟨tOp (rCatT K) ta tb, fun j => by rw [← hK j]; exact pe_op op_catT (p1 j) (p2 j), fun B hω F a σ H Q R ok hd k => l1 B hω F a σ H _ _ ok hd fun x d F1 a1 H1 g1 q1 r1 => l2 B hω F1 a1 σ H1 _ _ g1.ok r1 fun y e F2 a2 H2 g2 q2 r2 => ?_⟩
  split at r2
  · rename_i ds es
    obtain ⟨p, vs, rfl, h1, h2⟩ := q1
    obtain ⟨q, ws, rfl, h3, h4⟩ := q2
    refine ⟨p, q, vs, ws, rfl, rfl, SqT.of (g2.ok.fi.fh _ _ (g2.ff _ _ h1)), SqT.of (g2.ok.fi.fh _ _ h3), datL_ne h2 r2.1, by rw [h2.len, h4.len]; exact r2.2.2.1, fun z => absurd z (datL_ne h4 r2.2.1), fun _ u hu => ?_⟩
    have g3 := g2.ok.new (o := .tup (vs ++ ws)) hu
    exact k _ (.tup (ds ++ es)) _ _ _ (.trans ok g1 (.trans g1.ok g2 g3)) ⟨u, _, rfl, upd_same, (h2.mono (g2.ff.trans g3.ff)).app (h4.mono g3.ff)⟩ r2.2.2.2
  · exact r2.elim
variable {lo hi : Option Expr} {dlo dhi : AS → (Option Int → AS → Prop) → Prop} {p2 : Pos}
theorem de_slT (ha : DX X K ω e1 da) (hl : DPO X K ω lo dlo) (hh : DPO X K ω hi dhi) (hK : ∀ j, (X j).K = K := by intro _; rfl) : DX X K ω (.Subscript e1 (.Slice lo hi none p2) pos) (dSlT da dlo dhi) := by
  obtain ⟨ta, p1, l1⟩ := ha
  obtain ⟨tl, p2, l2⟩ := hl
  obtain ⟨th, p3, l3⟩ := hh
  refine ⟨tSl (rSlT K) ta tl th, fun j => by rw [← hK j]; exact pe_slice sl_tup (p1 j) (p2 j) (p3 j), fun B hω F a σ H Q R ok hd k => l1 B hω F a σ H _ _ ok hd fun v d F1 a1 H1 g1 q1 r1 => l2 B hω F1 a1 σ H1 _ _ g1.ok r1 fun l F2 a2 H2 g2 r2 => l3 B hω F2 a2 σ H2 _ _ g2.ok r2 fun h F3 a3 H3 g3 r3 => ?_⟩
  split at r3
  · rename_i ds
    obtain ⟨p, vs, rfl, h1, h2⟩ := q1
    have g := Go.trans ok g1 (.trans g1.ok g2 g3)
    have s13 : Same F1 F3 := g2.ff.trans g3.ff
    refine ⟨p, vs, rfl, SqT.of (g3.ok.fi.fh _ _ (s13 _ _ h1)), by rw [h2.len]; exact r3.1, fun q hq => ?_⟩
    have g4 := g3.ok.new (o := .tup (cutV vs l h)) hq
    exact k _ (.tup (cutD ds l h)) _ _ _ (.trans ok g g4) ⟨q, _, rfl, upd_same, cut_dat (h2.mono (s13.trans g4.ff))⟩ r3.2
  · exact r3.elim
/-- a list, many times -/
def dRep : DR := fun d e R => match d, e with
  | .lst ds, .v (.int k) => (-(2 ^ 63) ≤ k ∧ k < 2 ^ 63 ∧ ds.length * k.toNat ≤ sizeLine) ∧ R (.lst (List.replicate k.toNat ds).flatten)
  | _, _ => False
theorem rep_dat {ds : List D} {vs : List V} (q : DatL K H ds vs) : ∀ n : Nat, DatL K H (List.replicate n ds).flatten (List.replicate n vs).flatten
  | 0 => rfl
  | n + 1 => by
    rw [List.replicate_succ, List.replicate_succ, List.flatten_cons, List.flatten_cons]
    exact q.app (rep_dat q n)
theorem lr_rep : LRO K ω rRep dRep := fun B hω F a σ H x y d e Q R ok hx hy hd k => by
  unfold dRep at hd
  split at hd
  · rename_i ds i
    obtain ⟨p, vs, rfl, h1, h2⟩ := hx
    exact ⟨p, i, vs, rfl, hy, ok.fi.fh _ _ h1, hd.1.1, hd.1.2.1, by rw [h2.len]; exact hd.1.2.2, fun u hu => k u _ _ hu (rep_dat h2 _) hd.2⟩
  · exact hd.elim
theorem do_rep (ha : DX X K ω e1 da) (hb : DX X K ω e2 db) : DO X K ω (.BinOp e1 .Mult e2 pos) (dOp dRep da db) := do_op (fun _ => op_rep) lr_rep ha hb
/-! what a for walks: enumerate, zip, the signs of a text -/
def enumD (ds : List D) (i : Nat) : List D := (ds.zipIdx i).map fun p => .tup [.v (.int (p.2 : Nat)), p.1]
def dEnum (dl : DAt) : DAt := fun a R => dl a fun xs a' => match xs with
  | [.lst ds] => R (enumD ds 0) a'
  | _ => False
theorem enum_at {ds : List D} {i j : Nat} {d : D} (h : (enumD ds j)[i]? = some d) : ∃ x, ds[i]? = some x ∧ d = .tup [.v (.int ((j + i : Nat))), x] := by
  unfold enumD at h
  rw [List.getElem?_map, List.getElem?_zipIdx] at h
  cases e : ds[i]? with
  | none => rw [e] at h; cases h
  | some x =>
    rw [e] at h
    exact ⟨x, rfl, (Option.some.inj h).symm⟩
theorem enum_len {ds : List D} {j : Nat} : (enumD ds j).length = ds.length := by
  unfold enumD
  rw [List.length_map, List.length_zipIdx]
theorem di_enum {x : Expr} {p pos tpos : Pos} {elts : List Expr} {kk : Nat} (hg : ∀ j, Gl (X j) "enumerate") (hm : ∀ j, (X j).mg "enumerate" = none) (ha : DAE X K ω [x] dl) (hs : ∀ j, starEach [x] (X j).env = [(false, eval x (X j).env)] := by intro _; rfl) (hK : ∀ j, (X j).K = K := by intro _; rfl) :
    DI X K ω (.Tuple elts kk tpos) (.Call (.Name "enumerate" p) [x] [] pos) (dEnum dl) := by
  obtain ⟨t, p1, l⟩ := ha
  refine ⟨iEnum K t, fun j => by rw [← hK j]; exact pi_enum (hg j) (hm j) (p1 j) (hs j), fun B hω F a σ H Q R ok hd k => l B hω F a σ H _ _ ok hd fun vs ds F' a' H' g q r => ?_⟩
  split at r
  · rename_i ds
    obtain ⟨v, r', rfl, ⟨p, ws, rfl, h1, h2⟩, h3⟩ := q
    cases (show r' = [] from h3)
    refine ⟨p, ws, rfl, SqL.of (g.ok.fi.fh _ _ h1), k (Ite K p) _ F' a' H' g (fun i F1 H1 s1 s2 => ?_) r⟩
    have S : SqL K H1 p ws := SqL.of (s2 _ _ (s1 _ _ h1))
    refine ⟨fun hi => ⟨ws, S, by rw [enum_len] at hi; rw [h2.len]; exact hi⟩, fun d e => ?_⟩
    obtain ⟨x, e1, rfl⟩ := enum_at e
    obtain ⟨v, e2, e3⟩ := h2.get e1
    refine ⟨⟨ws, v, S, e2⟩, fun y H2 ⟨T, x', h4, h5, h6, h7⟩ => .inr ⟨T, _, h5, h6, ?_⟩⟩
    have ex := h7 ws S
    rw [e2] at ex
    cases ex
    have hF : F1 T = none := by
      cases z : F1 T with
      | none => rfl
      | some u => rw [s2 _ _ z] at h5; cases h5
    rw [Nat.zero_add]
    exact ⟨T, _, h4, upd_same, .cons rfl (.cons ((e3.mono s1).mono (Same.new hF)) .nil)⟩
  · exact r.elim
def zipD : List D → List D → List D
  | x :: xs, y :: ys => .tup [x, y] :: zipD xs ys
  | _, _ => []
theorem zip_at : ∀ {xs ys : List D} {i : Nat} {d : D}, (zipD xs ys)[i]? = some d → ∃ x y, xs[i]? = some x ∧ ys[i]? = some y ∧ d = .tup [x, y]
  | x :: xs, y :: ys, 0, d, h => ⟨x, y, rfl, rfl, (Option.some.inj h).symm⟩
  | x :: xs, y :: ys, i + 1, d, h => zip_at (xs := xs) (ys := ys) (i := i) h
  | [], _, _, _, h => by unfold zipD at h; simp at h
  | _ :: _, [], _, _, h => by unfold zipD at h; simp at h
theorem zip_end : ∀ {xs ys : List D} {i : Nat}, (zipD xs ys).length ≤ i → xs.length ≤ i ∨ ys.length ≤ i
  | x :: xs, y :: ys, 0, h => by
    have h : (zipD xs ys).length + 1 ≤ 0 := h
    omega
  | x :: xs, y :: ys, i + 1, h => by
    have h : (zipD xs ys).length + 1 ≤ i + 1 := h
    rcases zip_end (xs := xs) (ys := ys) (i := i) (by omega) with q | q
    · exact .inl (by rw [List.length_cons]; omega)
    · exact .inr (by rw [List.length_cons]; omega)
  | [], _, _, _ => .inl (Nat.zero_le _)
  | _ :: _, [], _, _ => .inr (Nat.zero_le _)
def dZip (dl : DAt) : DAt := fun a R => dl a fun xs a' => match xs with
  | [.lst ds, .lst es] => R (zipD ds es) a'
  | _ => False
theorem di_zip {x y : Expr} {p pos tpos : Pos} {elts : List Expr} {kk : Nat} (hg : ∀ j, Gl (X j) "zip") (hm : ∀ j, (X j).mg "zip" = none) (ha : DAE X K ω [x, y] dl) (hs : ∀ j, starEach [x, y] (X j).env = (false, eval x (X j).env) :: starEach [y] (X j).env := by intro _; rfl) (hpl : ∀ j, (backTo pos (starEach [y] (X j).env)).any (·.1) = false := by intro _; rfl) (hK : ∀ j, (X j).K = K := by intro _; rfl) :
    DI X K ω (.Tuple elts kk tpos) (.Call (.Name "zip" p) [x, y] [] pos) (dZip dl) := by
  obtain ⟨t, p1, l⟩ := ha
  refine ⟨iZip K t, fun j => by rw [← hK j]; exact pi_zip (hg j) (hm j) (p1 j) (hs j) (hpl j), fun B hω F a σ H Q R ok hd k => l B hω F a σ H _ _ ok hd fun vs ds F' a' H' g q r => ?_⟩
  split at r
  · rename_i ds es
    obtain ⟨v, r', rfl, ⟨p, ws, rfl, h1, h2⟩, w, r'', rfl, ⟨q, us, rfl, h3, h4⟩, h5⟩ := q
    cases (show r'' = [] from h5)
    refine ⟨p, q, ws, us, rfl, SqL.of (g.ok.fi.fh _ _ h1), SqL.of (g.ok.fi.fh _ _ h3), k (Itz K p q) _ F' a' H' g (fun i F1 H1 s1 s2 => ?_) r⟩
    have S : SqL K H1 p ws := SqL.of (s2 _ _ (s1 _ _ h1))
    have S' : SqL K H1 q us := SqL.of (s2 _ _ (s1 _ _ h3))
    refine ⟨fun hi => ⟨ws, us, S, S', by rw [h2.len, h4.len]; exact zip_end hi⟩, fun d e => ?_⟩
    obtain ⟨x, y, e1, e1', rfl⟩ := zip_at e
    obtain ⟨v, e2, e3⟩ := h2.get e1
    obtain ⟨v', e2', e3'⟩ := h4.get e1'
    refine ⟨⟨ws, us, v, v', S, S', e2, e2'⟩, fun z H2 ⟨T, x', y', h4, h5, h6, h7, h8⟩ => .inr ⟨T, _, h5, h6, ?_⟩⟩
    have ex := h7 ws S
    have ey := h8 us S'
    rw [e2] at ex
    rw [e2'] at ey
    cases ex
    cases ey
    have hF : F1 T = none := by
      cases z : F1 T with
      | none => rfl
      | some u => rw [s2 _ _ z] at h5; cases h5
    exact ⟨T, _, h4, upd_same, .cons ((e3.mono s1).mono (Same.new hF)) (.cons ((e3'.mono s1).mono (Same.new hF)) .nil)⟩
  · exact r.elim
def signsD (z : Str) : List D := z.cps.toList.map fun c => .v (.str ⟨#[c]⟩)
def dStr (de : DEt) : DAt := fun a R => de a fun d a' => match d with
  | .v (.str z) => R (signsD z) a'
  | _ => False
theorem di_str {tg : Expr} (h : DX X K ω e de) : DI X K ω tg e (dStr de) := by
  obtain ⟨t, p, l⟩ := h
  refine ⟨_, fun j => pi_str (p j), fun B hω F a σ H Q R ok hd k => l B hω F a σ H _ _ ok hd fun v d F' a' H' g q r => ?_⟩
  split at r
  · rename_i z
    refine ⟨z, q, k (Its z) _ F' a' H' g (fun i F1 H1 s1 s2 => ⟨fun hi => ?_, fun d e => ?_⟩) r⟩
    · unfold signsD at hi
      rw [List.length_map, Array.length_toList] at hi
      exact hi
    · unfold signsD at e
      rw [List.getElem?_map] at e
      obtain ⟨c, h1, rfl⟩ := Option.map_eq_some_iff.mp e
      rw [Array.getElem?_toList] at h1
      refine ⟨(Array.getElem?_eq_some_iff.mp h1).1, fun x H2 ⟨h2, c', h3, h4⟩ => .inl ⟨h2, ?_⟩⟩
      rw [h1] at h3
      cases h3
      exact h4
  · exact r.elim
/-! texts -/
def unS : List D → Option (List Str)
  | [] => some []
  | .v (.str x) :: ds => (unS ds).map (x :: ·)
  | _ :: _ => none
theorem unS_of : ∀ {ds : List D} {xs : List Str}, unS ds = some xs → ds = (xs.map V.str).map D.v
  | [], xs, h => by cases h; rfl
  | .v (.str x) :: ds, xs, h => by
    obtain ⟨ys, h1, rfl⟩ := Option.map_eq_some_iff.mp (show (unS ds).map (x :: ·) = some xs from h)
    rw [unS_of h1]
    rfl
theorem unS_map : ∀ xs : List Str, unS (xs.map fun x => D.v (V.str x)) = some xs
  | [] => rfl
  | x :: xs => by
    show (unS (xs.map fun x => D.v (V.str x))).map (x :: ·) = _
    rw [unS_map xs]
    rfl
def dJoin (da db : DEt) : DEt := fun a R => da a fun x a1 => match x with
  | .v (.str z) => db a1 fun y a2 => (match (seqD y).bind unS with
    | some ys => (ys.map (·.length)).sum + ys.length * z.length ≤ 16777216 ∧ R (.v (.str (Txt.join z ys))) a2
    | none => False)
  | _ => False
theorem de_join {apos pos : Pos} (ho : DB X K ω o da) (he : DB X K ω e db) (hs : ∀ j, starEach [e] (X j).env = [(false, eval e (X j).env)] := by intro _; rfl) (hbase : ∀ j, attributeBase o "join" (X j).env (eval o (X j).env) = eval o (X j).env := by intro _; rfl) (hline : (apos.endLine == pos.line) = true := by rfl) (hK : ∀ j, (X j).K = K := by intro _; rfl) :
    DX X K ω (.Call (.Attribute o "join" apos) [e] [] pos) (dJoin da db) := by
  obtain ⟨ta, p1, l1⟩ := ho
  obtain ⟨tb, p2, l2⟩ := he
  refine ⟨tM1 (fun x xs H Q => ∃ a p, ∃ ys : List Str, x = .str a ∧ xs = [.ref p] ∧ (SqL K H p (ys.map V.str) ∨ SqT K H p (ys.map V.str)) ∧ (ys.map (·.length)).sum + ys.length * a.length ≤ 16777216 ∧ Q (.str (Txt.join a ys)) H) ta tb, fun j => by rw [← hK j]; exact pe_join (p1 j) (p2 j) (hs j) (hbase j) hline, fun B hω F a σ H Q R ok hd k => l1 B hω F a σ H _ _ ok hd fun x d F1 a1 H1 g1 q1 r1 => ?_⟩
  split at r1
  · rename_i z
    refine ⟨⟨z, q1⟩, l2 B hω F1 a1 σ H1 _ _ g1.ok r1 fun y f F2 a2 H2 g2 q2 r2 => ?_⟩
    split at r2
    · rename_i ys e2
      obtain ⟨fs, e3, e4⟩ := Option.bind_eq_some_iff.mp e2
      obtain ⟨p, vs, rfl, h1, h2⟩ := seqD_dat e3 hs_same q2
      rw [unS_of e4] at h2
      cases datL_flat h2
      exact ⟨z, p, ys, q1, rfl, h1, r2.1, k _ (.v _) F2 a2 H2 (.trans ok g1 g2) rfl r2.2⟩
    · exact r2.elim
  · exact r1.elim
def dSplit (da db : DEt) : DEt := fun a R => da a fun x a1 => match x with
  | .v (.str z) => db a1 fun y a2 => (match y with
    | .v (.str s) => ((s.length == 0) = false ∧ z.length + 2 ≤ sizeLine) ∧ R (.lst ((Txt.split z s).map fun w => D.v (V.str w))) a2
    | _ => False)
  | _ => False
theorem datS {G : Hp} : ∀ (l : List Str), DatL K G (l.map fun w => D.v (V.str w)) (l.map V.str)
  | [] => rfl
  | _ :: l => ⟨_, _, rfl, rfl, datS l⟩
theorem do_split {apos pos : Pos} (ho : DB X K ω o da) (he : DB X K ω e db) (hs : ∀ j, starEach [e] (X j).env = [(false, eval e (X j).env)] := by intro _; rfl) (hbase : ∀ j, attributeBase o "split" (X j).env (eval o (X j).env) = eval o (X j).env := by intro _; rfl) (hline : (apos.endLine == pos.line) = true := by rfl) :
    DO X K ω (.Call (.Attribute o "split" apos) [e] [] pos) (dSplit da db) := by
  obtain ⟨ta, p1, l1⟩ := ho
  obtain ⟨tb, p2, l2⟩ := he
  refine ⟨_, fun j => pe_split (p1 j) (p2 j) (hs j) (hbase j) hline, fun B hω F a σ H Q R ok hd k => l1 B hω F a σ H _ _ ok hd fun x d F1 a1 H1 g1 q1 r1 => ?_⟩
  split at r1
  · rename_i z
    refine ⟨⟨z, q1⟩, l2 B hω F1 a1 σ H1 _ _ g1.ok r1 fun y f F2 a2 H2 g2 q2 r2 => ?_⟩
    split at r2
    · rename_i s
      rw [show y = V.str s from q2]
      exact ⟨z, s, q1, rfl, r2.1.1, r2.1.2, fun p hp => Go.list ok (.trans ok g1 g2) hp (datS _) r2.2 k⟩
    · exact r2.elim
  · exact r1.elim
/-! isinstance with written classes -/
inductive Ty where
  | non | bl | int | str | lst | tup | dic
deriving DecidableEq
def Ty.nm : Ty → String
  | .non => "NoneType"
  | .bl => "bool"
  | .int => "int"
  | .str => "str"
  | .lst => "list"
  | .tup => "tuple"
  | .dic => "dict"
def Ty.sub : Ty → Ty → Bool
  | .non, .non => true
  | .bl, .bl => true
  | .bl, .int => true
  | .int, .int => true
  | .str, .str => true
  | .lst, .lst => true
  | .tup, .tup => true
  | .dic, .dic => true
  | _, _ => false
theorem kit_tab (t u : Ty) (h : u ≠ .non) : kitB t.nm u.nm = some (t.sub u) := by
  cases u with
  | non => exact absurd rfl h
  | _ => cases t <;> decide +kernel
/-- a thing's built-in class -/
def tyD : D → Option Ty
  | .v .non => some .non
  | .v (.bl _) => some .bl
  | .v (.int _) => some .int
  | .v (.str _) => some .str
  | .lst _ => some .lst
  | .tup _ => some .tup
  | .ctup _ => some .tup
  | .ftup _ => some .tup
  | .dK _ => some .dic
  | .dT _ => some .dic
  | _ => none
theorem tyD_of {d : D} {x : V} {t : Ty} (s : Same G H) (h : Dat K G d x) (e : tyD d = some t) : TyX K H x (.type t.nm) := by
  cases d with
  | v y =>
    rw [show x = y from h]
    cases y with
    | non => cases e; exact .base .non
    | bl b => cases e; exact .base (.bl b)
    | int b => cases e; exact .base (.int b)
    | str b => cases e; exact .base (.str b)
    | _ => cases e
  | tup ds =>
    cases e
    obtain ⟨a, vs, rfl, h1, _⟩ := h
    exact .base (.tup (s _ _ h1))
  | ctup ds =>
    cases e
    obtain ⟨a, vs, rfl, h1, _⟩ := h
    rcases h1 with (h1 | ⟨o, h1⟩) | ⟨o, its, n, h1, h2, _⟩
    · exact .base (.tup (s _ _ h1))
    · exact .fTuple (s _ _ h1)
    · exact .kTuple h1 h2
  | ftup ds =>
    cases e
    obtain ⟨a, vs, rfl, ⟨o, h1, _⟩, _⟩ := h
    exact .fTuple (s _ _ h1)
  | lst ds =>
    cases e
    obtain ⟨a, vs, rfl, h1, _⟩ := h
    exact .base (.lst (s _ _ h1))
  | dK ds =>
    cases e
    obtain ⟨a, vs, rfl, h1, _⟩ := h
    exact .base (.dK (s _ _ h1))
  | dT ds =>
    cases e
    obtain ⟨a, vs, rfl, h1, _⟩ := h
    exact .base (.dT (s _ _ h1))
  | ins _ _ => cases e
  | ob _ => cases e
def dIsi (u : Ty) (de : DEt) : DEt := fun a R => de a fun d a' => match tyD d with
  | some t => R (.v (.bl (t.sub u))) a'
  | none => False
theorem de_isi (u : Ty) {x y : Str} {p p' : Pos} (hu : u ≠ .non) (hg : ∀ j, Gl (X j) x) (hm : ∀ j, (X j).mg x = none) (hx : x = "isinstance") (hg' : ∀ j, Gl (X j) y) (hm' : ∀ j, (X j).mg y = none) (hy : bootBuiltins y = some (.type u.nm)) (ha : DB X K ω e de)
    (hn : y ≠ "__name__" := by decide) (hd : (y == ("__debug__" : Str)) = false := by decide) (hs1 : ∀ j, starEach [e, .Name y p'] (X j).env = (false, eval e (X j).env) :: starEach [.Name y p'] (X j).env := by intro _; rfl) (hs2 : ∀ j, starEach [.Name y p'] (X j).env = (false, eval (.Name y p') (X j).env) :: starEach [] (X j).env := by intro _; rfl)
    (hpl : ∀ j, (backTo pos (starEach [.Name y p'] (X j).env)).any (·.1) = false := by intro _; rfl) (hK : ∀ j, (X j).K = K := by intro _; rfl) : DX X K ω (.Call (.Name x p) [e, .Name y p'] [] pos) (dIsi u de) := by
  obtain ⟨t, p1, l⟩ := ha
  subst hx
  refine ⟨tCB (rIsi K) (tCons t (tCons (tC (.ty u.nm)) tNil)), fun j => by rw [← hK j]; exact pe_callB call_isi (hg j) (hm j) (by decide +kernel) (pa_cons (p1 j) (pa_cons (pe_bltn (hg' j) (hm' j) hy rfl hn hd) pa_nil (hs2 j)) (hs1 j)) (by decide) (by decide) (hs1 j) (hpl j), fun B hω F a σ H Q R ok hd k => l B hω F a σ H _ _ ok hd fun v d F1 a1 H1 g1 q1 r1 => ?_⟩
  split at r1
  · rename_i t e
    exact ⟨v, _, _, _, _, rfl, .ty _, tyD_of hs_same q1 e, by rw [kit_ty]; exact kit_tab t u hu, k _ (.v _) F1 a1 H1 g1 rfl r1⟩
  · exact r1.elim
def dIsi2 (u u' : Ty) (de : DEt) : DEt := fun a R => de a fun d a' => match tyD d with
  | some t => R (.v (.bl (t.sub u || t.sub u'))) a'
  | none => False
theorem de_isi2 (u u' : Ty) {x y z : Str} {p p1 p2 p3 : Pos} {k0} (hu : u ≠ .non) (hu' : u' ≠ .non) (hg : ∀ j, Gl (X j) x) (hm : ∀ j, (X j).mg x = none) (hx : x = "isinstance") (hg' : ∀ j, Gl (X j) y) (hm' : ∀ j, (X j).mg y = none) (hy : bootBuiltins y = some (.type u.nm)) (hg'' : ∀ j, Gl (X j) z) (hm'' : ∀ j, (X j).mg z = none) (hz : bootBuiltins z = some (.type u'.nm)) (ha : DB X K ω e de)
    (hn : y ≠ "__name__" := by decide) (hd : (y == ("__debug__" : Str)) = false := by decide) (hn' : z ≠ "__name__" := by decide) (hd' : (z == ("__debug__" : Str)) = false := by decide)
    (hs1 : ∀ j, starEach [e, .Tuple [.Name y p1, .Name z p2] k0 p3] (X j).env = (false, eval e (X j).env) :: starEach [.Tuple [.Name y p1, .Name z p2] k0 p3] (X j).env := by intro _; rfl) (hs2 : ∀ j, starEach [.Tuple [.Name y p1, .Name z p2] k0 p3] (X j).env = (false, eval (.Tuple [.Name y p1, .Name z p2] k0 p3) (X j).env) :: starEach [] (X j).env := by intro _; rfl)
    (hs3 : ∀ j, starEach [.Name y p1, .Name z p2] (X j).env = (false, eval (.Name y p1) (X j).env) :: starEach [.Name z p2] (X j).env := by intro _; rfl) (hs4 : ∀ j, starEach [.Name z p2] (X j).env = (false, eval (.Name z p2) (X j).env) :: starEach [] (X j).env := by intro _; rfl)
    (hpl : ∀ j, (backTo pos (starEach [.Tuple [.Name y p1, .Name z p2] k0 p3] (X j).env)).any (·.1) = false := by intro _; rfl) (hK : ∀ j, (X j).K = K := by intro _; rfl) : DX X K ω (.Call (.Name x p) [e, .Tuple [.Name y p1, .Name z p2] k0 p3] [] pos) (dIsi2 u u' de) := by
  obtain ⟨t, q, l⟩ := ha
  subst hx
  refine ⟨tCB (rIsiT K) (tCons t (tCons (tTup (tCons (tC (.ty u.nm)) (tCons (tC (.ty u'.nm)) tNil))) tNil)), fun j => by rw [← hK j]; exact pe_callB call_isiT (hg j) (hm j) (by decide +kernel) (pa_cons (q j) (pa_cons (pe_tup (pa_cons (pe_bltn (hg' j) (hm' j) hy rfl hn hd) (pa_cons (pe_bltn (hg'' j) (hm'' j) hz rfl hn' hd') pa_nil (hs4 j)) (hs3 j))) pa_nil (hs2 j)) (hs1 j)) (by decide) (by decide) (hs1 j) (hpl j), fun B hω F a σ H Q R ok hd k => l B hω F a σ H _ _ ok hd fun v d F1 a1 H1 g1 q1 r1 => ?_⟩
  split at r1
  · rename_i t e
    refine ⟨by show 2 ≤ sizeLine; decide, fun u0 hu0 => ?_⟩
    have g2 := g1.ok.new (o := .tup [.ty u.nm, .ty u'.nm]) hu0
    refine ⟨v, u0, _, _, _, t.sub u || t.sub u', rfl, upd_same, .cons (.ty _) (.cons (.ty _) .nil), tyD_of hs_same (q1.mono g2.bs) e, ?_, k _ (.v _) _ a1 _ (.trans ok g1 g2) rfl r1⟩
    refine kitAny_cons (by rw [kit_ty]; exact kit_tab t u hu) (fun h => ?_) fun h => by rw [h]; rfl
    rw [h]
    refine kitAny_cons (by rw [kit_ty]; exact kit_tab t u' hu') (fun h => ?_) fun h => by rw [h]; rfl
    rw [h]
    exact kitAny_nil
  · exact r1.elim
end
/-! ### dicts, and what parts of one's own tell -/
section
variable {K : PySem.W.Frag} {ω : Wp} {B : Bs K} {F F' F1 F2 G : Hp} {a a' a1 a2 : AS} {σ σ' : St} {H H' H1 H2 : Hp} {n : Int} {te : TE} {de da db dc : DEt} {ι : Type} {X : ι → Cx} {e e1 e2 e3 o : Expr} {es : List Expr} {pos : Pos} {dt : DTt} {dl dm : DAt}
/-- what stays, or one's own with parts that stay -/
def PrtS (K : PySem.W.Frag) (sp : Option Addr) (F H : Hp) (d : D) (v : V) : Prop := Dat K F d v ∨ ∃ p o, v = .ref p ∧ H p = some o ∧ sp ≠ some p ∧ Rep K F d o
def LPS (K : PySem.W.Frag) (ω : Wp) (te : TE) (de : DEt) : Prop := ∀ (B : Bs K), WOk B ω → ∀ (F : Hp) (a : AS) (σ : St) (H : Hp) (Q : VK) (R : D → AS → Prop), Ok B F a σ H → de a R →
  (∀ v d F' a' H', Go B σ F a H F' a' H' → PrtS K B.sp F' H' d v → R d a' → Q v H') → te σ H Q
def DPS {ι : Type} (X : ι → Cx) (K : PySem.W.Frag) (ω : Wp) (e : Expr) (de : DEt) : Prop := ∃ te, (∀ j, PE (X j) e te) ∧ LPS K ω te de
theorem PrtS.go {d : D} {v : V} (h : PrtS K B.sp F H d v) (g : Go B σ F a H F' a' H') : PrtS K B.sp F' H' d v := by
  rcases h with h | ⟨p, o, rfl, h1, h2, h3⟩
  · exact .inl (h.mono g.ff)
  · exact .inr ⟨p, o, rfl, g.hh p o h2 h1, h2, h3.mono g.ff⟩
theorem LE.p (h : LE K ω te de) : LPS K ω te de := fun B hω F a σ H Q R ok hd k => h B hω F a σ H Q R ok hd fun v d F' a' H' g q r => k v d F' a' H' g (.inl q) r
theorem DX.p (h : DX X K ω e de) : DPS X K ω e de := let ⟨t, p, l⟩ := h; ⟨t, p, l.p⟩
theorem lp_var {i : Nat} : LPS K ω (tVar i) (dVarB i) := fun B hω F a σ H Q R ok hd k => by
  unfold dVarB at hd
  cases e : a.at i with
  | emp => rw [e] at hd; exact hd.elim
  | val d =>
    rw [e] at hd
    obtain ⟨v, h1, h2⟩ := ok.va i d (at_of' e (fun z => nomatch z))
    exact ⟨v, h1, k v d F a H (.refl ok) (.inl h2) hd⟩
  | own d =>
    rw [e] at hd
    obtain ⟨p, o, h1, h2, h3, h4, h5⟩ := ok.ow i d (at_of' e (fun z => nomatch z))
    exact ⟨_, h1, k _ d F a H (.refl ok) (.inr ⟨p, o, rfl, h2, (fun z => (ok.fi.sr p z).2.1 h4), h5⟩) hd⟩
theorem dpv (i : Nat) {x : Str} {pos : Pos} (hN : ∀ j, (X j).N[i]? = some x := by intro _; rfl) (hv : ∀ j, Vis (X j).env.scope x := by first | exact fun _ => Or.inl rfl | exact fun _ => Or.inr (Or.inl rfl) | exact fun _ => Or.inr (Or.inr rfl)) (hd : (x == ("__debug__" : Str)) = false := by decide)
    (hcd : (x == ("__classdict__" : Str)) = false := by decide) : DPS X K ω (.Name x pos) (dVarB i) := ⟨_, fun j => pe_var (hN j) (hv j) hd hcd, lp_var⟩
/-! an item of a part -/
theorem ix_prt {sp : Option Addr} {x y : V} {d f : D} {Q : VK} {R : D → Prop} (s : Same F H) (hx : PrtS K sp F H d x) (hy : Dat K G f y) (hf : isV f = true) (h : dIx d f R) (k : ∀ v g, Dat K F g v → R g → Q v H) : rIx K x y H Q := by
  have hy' : Dat K F f y := by
    cases f with
    | v z => exact hy
    | _ => cases hf
  rcases hx with hx | ⟨p, o, rfl, h1, _, h3⟩
  · exact ix_dat s hx hy' h k
  · cases d with
    | lst ds =>
      obtain ⟨vs, rfl, h4⟩ := h3
      unfold dIx at h
      split at h
      · rename_i ds' i e
        cases e
        obtain ⟨g, e, r⟩ := opt_of h
        obtain ⟨v, e1, e2⟩ := atI_dat h4 e
        exact .inl ⟨p, vs, i, v, rfl, hy', SqL.of h1, e1, k v g e2 r⟩
      · rename_i e; cases e
      · rename_i e; cases e
      · rename_i e; cases e
      · rename_i e; cases e
      · exact h.elim
    | _ => first | exact h3.elim | exact h.elim
theorem de_ixP (ha : DPS X K ω e1 da) (hb : DB X K ω e2 db) (hs : PlainIx e2) (hK : ∀ j, (X j).K = K := by intro _; rfl) : DX X K ω (.Subscript e1 e2 pos) (dOp dIx da (dFlat db)) := by
  obtain ⟨ta, p1, l1⟩ := ha
  obtain ⟨tb, p2, l2⟩ := hb
  refine ⟨tOp (rIx K) ta tb, fun j => by rw [← hK j]; exact pe_ix ix_seq (p1 j) (p2 j) hs, fun B hω F a σ H Q R ok hd k => l1 B hω F a σ H _ _ ok hd fun v d F1 a1 H1 g1 q1 r1 => l2 B hω F1 a1 σ H1 _ _ g1.ok r1 fun w f F2 a2 H2 g2 q2 r2 => ?_⟩
  exact ix_prt g2.ok.fi.fh (q1.go g2) q2 r2.1 r2.2 fun v g q r => k v g F2 a2 H2 (.trans ok g1 g2) q r
/-! keys -/
def keyD : D → Option Key
  | .v (.int i) => some (.inl i)
  | .v (.str x) => some (.inr x)
  | _ => none
def keysD : List D → Option (List Key)
  | [] => some []
  | d :: ds => (keyD d).bind fun k => (keysD ds).map (k :: ·)
theorem keyD_of {d : D} {v : V} {k : Key} (h : Dat K H d v) (e : keyD d = some k) : v = kV k := by
  unfold keyD at e
  split at e
  · cases e; exact h
  · cases e; exact h
  · cases e
theorem keysD_of : ∀ {ds : List D} {vs : List V} {ks : List Key}, DatL K H ds vs → keysD ds = some ks → vs = ks.map kV
  | [], _, _, h, e => by cases e; exact h
  | d :: ds, _, _, ⟨v, r, rfl, h, t⟩, e => by
    obtain ⟨k, e1, e2⟩ := Option.bind_eq_some_iff.mp e
    obtain ⟨ks, e3, rfl⟩ := Option.map_eq_some_iff.mp e2
    rw [keyD_of h e1, keysD_of t e3]
    rfl
def getA {κ : Type} [DecidableEq κ] (kvs : List (κ × D)) (k : κ) : Option D := (kvs.find? fun kv => decide (kv.1 = k)).map (·.2)
def putA {κ : Type} [DecidableEq κ] (kvs : List (κ × D)) (k : κ) (d : D) : List (κ × D) := if (kvs.any fun kv => decide (kv.1 = k)) = true then kvs.map (fun kv => if kv.1 = k then (kv.1, d) else kv) else kvs ++ [(k, d)]
def mergeA (kvs more : List (Key × D)) : List (Key × D) := more.foldl (fun acc kv => putA acc kv.1 kv.2) kvs
section
variable {κ : Type} [DecidableEq κ] {kvs : List (κ × D)} {vs : List (κ × V)}
theorem pk_get (h : PK K H kvs vs) (k : κ) : match getA kvs k with
    | none => valV vs k = none
    | some d => ∃ v, valV vs k = some v ∧ Dat K H d v := by
  induction h with
  | nil => rfl
  | @cons p q l m h t ih =>
    obtain ⟨p1, p2⟩ := p
    obtain ⟨q1, q2⟩ := q
    obtain ⟨h1, h2⟩ := h
    cases (show p1 = q1 from h1)
    unfold getA valV at ih ⊢
    rw [List.find?_cons, List.find?_cons]
    by_cases z : p1 = k
    · simp only [decide_eq_true z]
      exact ⟨q2, rfl, h2⟩
    · simp only [decide_eq_false z]
      exact ih
theorem pk_any (h : PK K H kvs vs) (k : κ) : (vs.any fun kv => decide (kv.1 = k)) = (kvs.any fun kv => decide (kv.1 = k)) := by
  induction h with
  | nil => rfl
  | @cons p q l m h t ih => rw [List.any_cons, List.any_cons, ih, show p.1 = q.1 from h.1]
theorem pk_app {kvs' : List (κ × D)} {vs' : List (κ × V)} (h : PK K H kvs vs) (h' : PK K H kvs' vs') : PK K H (kvs ++ kvs') (vs ++ vs') := by
  induction h with
  | nil => exact h'
  | cons h t ih => exact .cons h ih
theorem pk_put {k : κ} {d : D} {v : V} (h : PK K H kvs vs) (hv : Dat K H d v) : PK K H (putA kvs k d) (putK vs k v) := by
  unfold putA putK
  rw [pk_any h k]
  split
  · rename_i z
    clear z
    induction h with
    | nil => exact .nil
    | @cons p q l m h t ih =>
      refine .cons ?_ ih
      obtain ⟨p1, p2⟩ := p
      obtain ⟨q1, q2⟩ := q
      obtain ⟨h1, h2⟩ := h
      cases (show p1 = q1 from h1)
      by_cases z : p1 = k
      · simp only [if_pos z]
        exact ⟨trivial, hv⟩
      · simp only [if_neg z]
        exact ⟨trivial, h2⟩
  · exact pk_app h (.cons ⟨rfl, hv⟩ .nil)
theorem pk_len (h : PK K H kvs vs) : vs.length = kvs.length := by
  induction h with
  | nil => rfl
  | cons h t ih => rw [List.length_cons, List.length_cons, ih]
theorem pk_mono (s : Same H H') (h : PK K H kvs vs) : PK K H' kvs vs := by
  induction h with
  | nil => exact .nil
  | cons h t ih => exact .cons ⟨h.1, h.2.mono s⟩ ih
theorem pk_keys (h : PK K H kvs vs) : vs.map (·.1) = kvs.map (·.1) := by
  induction h with
  | nil => rfl
  | cons h t ih => rw [List.map_cons, List.map_cons, ih, show _ = _ from h.1]
end
theorem pk_merge {more : List (Key × D)} {vs : List (Key × V)} (h : PK K H more vs) : ∀ {kvs : List (Key × D)} {us : List (Key × V)}, PK K H kvs us → PK K H (mergeA kvs more) (mergeK us vs) := by
  induction h with
  | nil => exact fun h => h
  | @cons p q l m h t ih =>
    intro kvs us h'
    obtain ⟨p1, p2⟩ := p
    obtain ⟨q1, q2⟩ := q
    obtain ⟨h1, h2⟩ := h
    cases (show p1 = q1 from h1)
    exact ih (pk_put h' h2)
/-! a look -/
def dGetR (d e : D) (R : Option D → Prop) : Prop := match d with
  | .dK kvs => (match keyD e with
    | some k => R (getA kvs k)
    | none => False)
  | .dT kvs => (match e with
    | .tup ds => (match keysD ds with
      | some k => R (getA kvs k)
      | none => False)
    | _ => False)
  | _ => False
def isDk : D → Bool
  | .dK _ => true
  | .dT _ => true
  | _ => false
theorem prt_isD {sp : Option Addr} {d : D} {x : V} (s : Same F H) (h : PrtS K sp F H d x) (hd : isDk d = true) : ∃ p, x = .ref p ∧ IsD H p := by
  rcases h with h | ⟨p, o, rfl, h1, _, h3⟩
  · cases d with
    | dK kvs =>
      obtain ⟨p, vs, rfl, h1, _⟩ := h
      exact ⟨p, rfl, .inl ⟨vs, .inl (s _ _ h1)⟩⟩
    | dT kvs =>
      obtain ⟨p, vs, rfl, h1, _⟩ := h
      exact ⟨p, rfl, .inr ⟨vs, .inl (s _ _ h1)⟩⟩
    | _ => cases hd
  · cases d with
    | dK kvs =>
      obtain ⟨vs, rfl, _⟩ := h3
      exact ⟨p, rfl, .inl ⟨vs, .inl h1⟩⟩
    | dT kvs =>
      obtain ⟨vs, rfl, _⟩ := h3
      exact ⟨p, rfl, .inr ⟨vs, .inl h1⟩⟩
    | _ => cases hd
theorem prt_dK {sp : Option Addr} {kvs : List (Key × D)} {x : V} (s : Same F H) (h : PrtS K sp F H (.dK kvs) x) : ∃ p vs, x = .ref p ∧ H p = some (.dK vs) ∧ PK K F kvs vs := by
  rcases h with ⟨p, vs, rfl, h1, h2⟩ | ⟨p, o, rfl, h1, _, vs, rfl, h2⟩
  · exact ⟨p, vs, rfl, s _ _ h1, datK_pk.mp h2⟩
  · exact ⟨p, vs, rfl, h1, datK_pk.mp h2⟩
theorem prt_dT {sp : Option Addr} {kvs : List (List Key × D)} {x : V} (s : Same F H) (h : PrtS K sp F H (.dT kvs) x) : ∃ p vs, x = .ref p ∧ H p = some (.dT vs) ∧ PK K F kvs vs := by
  rcases h with ⟨p, vs, rfl, h1, h2⟩ | ⟨p, o, rfl, h1, _, vs, rfl, h2⟩
  · exact ⟨p, vs, rfl, s _ _ h1, datT_pk.mp h2⟩
  · exact ⟨p, vs, rfl, h1, datT_pk.mp h2⟩
theorem prt_lst {sp : Option Addr} {ds : List D} {x : V} (s : Same F H) (h : PrtS K sp F H (.lst ds) x) : ∃ p vs, x = .ref p ∧ H p = some (.lst vs) ∧ DatL K F ds vs := by
  rcases h with ⟨p, vs, rfl, h1, h2⟩ | ⟨p, o, rfl, h1, _, vs, rfl, h2⟩
  · exact ⟨p, vs, rfl, s _ _ h1, h2⟩
  · exact ⟨p, vs, rfl, h1, h2⟩
theorem dget_of {sp : Option Addr} {d f : D} {x y : V} {R : Option D → Prop} (s : Same F H) (s' : Same G H) (hx : PrtS K sp F H d x) (hy : Dat K G f y) (h : dGetR d f R) : ∃ p ov od, x = .ref p ∧ DGet H p y ov ∧ R od ∧ match od with
    | none => ov = none
    | some g => ∃ v, ov = some v ∧ Dat K F g v := by
  unfold dGetR at h
  split at h
  · rename_i kvs
    split at h
    · rename_i k e
      obtain ⟨p, vs, rfl, h1, h2⟩ := prt_dK s hx
      refine ⟨p, _, _, rfl, .inl ⟨vs, k, .inl h1, keyD_of hy e, rfl⟩, h, ?_⟩
      have := pk_get h2 k
      cases z : getA kvs k with
      | none => rw [z] at this; exact this
      | some g => rw [z] at this; exact this
    · exact h.elim
  · rename_i kvs
    split at h
    · rename_i ds
      split at h
      · rename_i k e
        obtain ⟨p, vs, rfl, h1, h2⟩ := prt_dT s hx
        obtain ⟨b, us, rfl, h3, h4⟩ := hy
        rw [keysD_of h4 e] at h3
        refine ⟨p, _, _, rfl, .inr ⟨vs, k, b, .inl h1, rfl, s' _ _ h3, rfl⟩, h, ?_⟩
        have := pk_get h2 k
        cases z : getA kvs k with
        | none => rw [z] at this; exact this
        | some g => rw [z] at this; exact this
      · exact h.elim
    · exact h.elim
  · exact h.elim
def dDGet (da db : DEt) : DEt := fun a R => da a fun x a1 => db a1 fun y a2 => dGetR x y fun o => opt o fun d => R d a2
theorem de_dget (hu : ∀ j, (X j).A.units + 1 < cLine) (ha : DPS X K ω e1 da) (hb : DB X K ω e2 db) (hs : NoSl e2) : DX X K ω (.Subscript e1 e2 pos) (dDGet da db) := by
  obtain ⟨ta, p1, l1⟩ := ha
  obtain ⟨tb, p2, l2⟩ := hb
  refine ⟨_, fun j => pe_dget (hu j) (p1 j) (p2 j) hs, fun B hω F a σ H Q R ok hd k => l1 B hω F a σ H _ _ ok hd fun v d F1 a1 H1 g1 q1 r1 => l2 B hω F1 a1 σ H1 _ _ g1.ok r1 fun w f F2 a2 H2 g2 q2 r2 => ?_⟩
  obtain ⟨p, ov, od, rfl, h1, h2, h3⟩ := dget_of g2.ok.fi.fh hs_same (q1.go g2) q2 r2
  obtain ⟨g, rfl, r⟩ := opt_of h2
  obtain ⟨v, rfl, h4⟩ := h3
  exact ⟨p, v, rfl, h1, k v g F2 a2 H2 (.trans ok g1 g2) h4 r⟩
def dDGet1 (da db : DEt) : DEt := fun a R => da a fun x a1 => isDk x = true ∧ db a1 fun y a2 => dGetR x y fun o => R (o.getD (.v .non)) a2
theorem de_dget1 {apos cpos : Pos} (hu : ∀ j, (X j).A.units + 1 < cLine) (ha : DPS X K ω o da) (hb : DB X K ω e db) (m : ∀ j, M1 (X j) o "get" apos e cpos) : DX X K ω (.Call (.Attribute o "get" apos) [e] [] cpos) (dDGet1 da db) := by
  obtain ⟨ta, p1, l1⟩ := ha
  obtain ⟨tb, p2, l2⟩ := hb
  refine ⟨_, fun j => pe_dget1 (hu j) (p1 j) (p2 j) (m j), fun B hω F a σ H Q R ok hd k => l1 B hω F a σ H _ _ ok hd fun v d F1 a1 H1 g1 q1 r1 => ?_⟩
  obtain ⟨p, rfl, hD⟩ := prt_isD g1.ok.fi.fh q1 r1.1
  refine ⟨p, rfl, hD, l2 B hω F1 a1 σ H1 _ _ g1.ok r1.2 fun w f F2 a2 H2 g2 q2 r2 => ?_⟩
  obtain ⟨p', ov, od, e, h1, h2, h3⟩ := dget_of g2.ok.fi.fh hs_same (q1.go g2) q2 r2
  cases e
  refine ⟨ov, h1, ?_⟩
  cases od with
  | none => rw [show ov = none from h3]; exact k .non (.v .non) F2 a2 H2 (.trans ok g1 g2) rfl h2
  | some g =>
    obtain ⟨v, rfl, h4⟩ := h3
    exact k v g F2 a2 H2 (.trans ok g1 g2) h4 h2
def dDGet2 (da db dc : DEt) : DEt := fun a R => da a fun x a1 => isDk x = true ∧ db a1 fun y a2 => dc a2 fun z a3 => dGetR x y fun o => R (o.getD z) a3
theorem de_dget2 {apos cpos : Pos} {f : Expr} (hu : ∀ j, (X j).A.units + 1 < cLine) (ha : DPS X K ω o da) (hb : DB X K ω e db) (hc : DX X K ω f dc) (m : ∀ j, M2 (X j) o "get" apos e f cpos) : DX X K ω (.Call (.Attribute o "get" apos) [e, f] [] cpos) (dDGet2 da db dc) := by
  obtain ⟨ta, p1, l1⟩ := ha
  obtain ⟨tb, p2, l2⟩ := hb
  obtain ⟨tc, p3, l3⟩ := hc
  refine ⟨_, fun j => pe_dget2 (hu j) (p1 j) (p2 j) (p3 j) (m j), fun B hω F a σ H Q R ok hd k => l1 B hω F a σ H _ _ ok hd fun v d F1 a1 H1 g1 q1 r1 => ?_⟩
  obtain ⟨p, rfl, hD⟩ := prt_isD g1.ok.fi.fh q1 r1.1
  refine ⟨p, rfl, hD, l2 B hω F1 a1 σ H1 _ _ g1.ok r1.2 fun w f F2 a2 H2 g2 q2 r2 => l3 B hω F2 a2 σ H2 _ _ g2.ok r2 fun z dz F3 a3 H3 g3 q3 r3 => ?_⟩
  obtain ⟨p', ov, od, e, h1, h2, h3⟩ := dget_of g3.ok.fi.fh hs_same ((q1.go g2).go g3) (q2.mono g3.bs) r3
  cases e
  refine ⟨ov, h1, ?_⟩
  have g := Go.trans ok g1 (.trans g1.ok g2 g3)
  cases od with
  | none => rw [show ov = none from h3]; exact k z dz F3 a3 H3 g q3 h2
  | some g' =>
    obtain ⟨v, rfl, h4⟩ := h3
    exact k v g' F3 a3 H3 g h4 h2
def dDIn (neg : Bool) (da db : DEt) : DEt := fun a R => da a fun y a1 => db a1 fun x a2 => dGetR x y fun o => R (.v (.bl (nb neg o.isSome))) a2
theorem le_din {ta tb : TE} (l1 : LB K ω ta da) (l2 : LPS K ω tb db) : LE K ω (tDIn ta tb) (dDIn false da db) := fun B hω F a σ H Q R ok hd k => l1 B hω F a σ H _ _ ok hd fun w f F1 a1 H1 g1 q1 r1 => l2 B hω F1 a1 σ H1 _ _ g1.ok r1 fun v d F2 a2 H2 g2 q2 r2 => by
  obtain ⟨p, ov, od, rfl, h1, h2, h3⟩ := dget_of g2.ok.fi.fh hs_same q2 (q1.mono g2.bs) r2
  refine ⟨p, ov, rfl, h1, k _ _ F2 a2 H2 (.trans ok g1 g2) ?_ h2⟩
  cases od with
  | none => rw [show ov = none from h3]; rfl
  | some g =>
    obtain ⟨v, rfl, _⟩ := h3
    rfl
theorem le_dnotin {ta tb : TE} (l1 : LB K ω ta da) (l2 : LPS K ω tb db) : LE K ω (tDNotIn ta tb) (dDIn true da db) := fun B hω F a σ H Q R ok hd k => l1 B hω F a σ H _ _ ok hd fun w f F1 a1 H1 g1 q1 r1 => l2 B hω F1 a1 σ H1 _ _ g1.ok r1 fun v d F2 a2 H2 g2 q2 r2 => by
  obtain ⟨p, ov, od, rfl, h1, h2, h3⟩ := dget_of g2.ok.fi.fh hs_same q2 (q1.mono g2.bs) r2
  refine ⟨p, ov, rfl, h1, k _ _ F2 a2 H2 (.trans ok g1 g2) ?_ h2⟩
  cases od with
  | none => rw [show ov = none from h3]; rfl
  | some g =>
    obtain ⟨v, rfl, _⟩ := h3
    rfl
theorem de_din (hu : ∀ j, (X j).A.units + 1 < cLine) (ha : DB X K ω e1 da) (hb : DPS X K ω e2 db) (hm : behindInMarks .In e2 = false := by rfl) : DX X K ω (.Compare e1 [.In] [e2] pos) (dDIn false da db) := by
  obtain ⟨ta, p1, l1⟩ := ha
  obtain ⟨tb, p2, l2⟩ := hb
  exact ⟨_, fun j => pe_cmp (pc_din (hu j) (p1 j) (p2 j)) hm, le_din l1 l2⟩
theorem de_dnotin (hu : ∀ j, (X j).A.units + 1 < cLine) (ha : DB X K ω e1 da) (hb : DPS X K ω e2 db) (hm : behindInMarks .NotIn e2 = false := by rfl) : DX X K ω (.Compare e1 [.NotIn] [e2] pos) (dDIn true da db) := by
  obtain ⟨ta, p1, l1⟩ := ha
  obtain ⟨tb, p2, l2⟩ := hb
  exact ⟨_, fun j => pe_cmp (pc_dnotin (hu j) (p1 j) (p2 j)) hm, le_dnotin l1 l2⟩
theorem lc_b {te : TE} (l : LE K ω te de) : LC K ω (tB te) (dTest de) := fun B hω F a σ H Q R ok hd k => l B hω F a σ H _ _ ok hd fun v d F' a' H' g q hR => by
  obtain ⟨b, rfl, hR⟩ := asB_of hR
  exact ⟨b, q, k b F' a' H' g hR⟩
theorem dt_din (hu : ∀ j, (X j).A.units + 1 < cLine) (ha : DB X K ω e1 da) (hb : DPS X K ω e2 db) (hm : behindInMarks .In e2 = false := by rfl) : DT X K ω (.Compare e1 [.In] [e2] pos) (dTest (dDIn false da db)) := by
  obtain ⟨ta, p1, l1⟩ := ha
  obtain ⟨tb, p2, l2⟩ := hb
  exact ⟨_, fun j => pt_cmp (pc_din (hu j) (p1 j) (p2 j)) hm, lc_b (le_din l1 l2)⟩
theorem dt_dnotin (hu : ∀ j, (X j).A.units + 1 < cLine) (ha : DB X K ω e1 da) (hb : DPS X K ω e2 db) (hm : behindInMarks .NotIn e2 = false := by rfl) : DT X K ω (.Compare e1 [.NotIn] [e2] pos) (dTest (dDIn true da db)) := by
  obtain ⟨ta, p1, l1⟩ := ha
  obtain ⟨tb, p2, l2⟩ := hb
  exact ⟨_, fun j => pt_cmp (pc_dnotin (hu j) (p1 j) (p2 j)) hm, lc_b (le_dnotin l1 l2)⟩
/-! a new dict -/
theorem Go.newD (ok : Ok B F a σ H) (g1 : Go B σ F a H F1 a1 H1) {p : Addr} {d : D} {ho : HO} (hp : H1 p = none) (q : Rep K F1 d ho) {Q : VK} {R : D → AS → Prop} (r : R d a1)
    (k : ∀ p o d F' a' H', Go B σ F a H F' a' H' → H p = none → F' p = none → H' p = some o → Rep K F' d o → R d a' → Q (.ref p) H') : Q (.ref p) (upd H1 p ho) := by
  have g2 := g1.ok.newO (o := ho) hp
  have h0 : H p = none := by
    cases e : H p with
    | none => rfl
    | some o =>
      have n := (g1.ok.here hp).2.2.1
      rw [g1.hh p o n e] at hp
      cases hp
  exact k p ho d F1 a1 _ (.trans ok g1 g2) h0 (g1.ok.here hp).1 upd_same q r
theorem do_dnewK {pos : Pos} : DO X K ω (.Dict [] [] pos) (fun a R => R (.dK []) a) := ⟨_, fun _ => pe_dnewK, fun B hω F a σ H Q R ok hd k => fun p hp => Go.newD ok (.refl ok) hp (d := .dK []) ⟨[], rfl, rfl⟩ hd k⟩
theorem do_dnewT {pos : Pos} : DO X K ω (.Dict [] [] pos) (fun a R => R (.dT []) a) := ⟨_, fun _ => pe_dnewT, fun B hω F a σ H Q R ok hd k => fun p hp => Go.newD ok (.refl ok) hp (d := .dT []) ⟨[], rfl, rfl⟩ hd k⟩
/-! a display -/
abbrev DPt := AS → (List (Key × D) → AS → Prop) → Prop
def LPs (K : PySem.W.Frag) (ω : Wp) (trs : List (TE × TE)) (dp : DPt) : Prop := ∀ (B : Bs K), WOk B ω → ∀ (F : Hp) (a : AS) (σ : St) (H : Hp) (Q : List (V × V) → Hp → Prop) (R : List (Key × D) → AS → Prop), Ok B F a σ H → dp a R →
  (∀ (kvs : List (Key × V)) ds F' a' H', Go B σ F a H F' a' H' → PK K F' ds kvs → R ds a' → Q (kvs.map fun kv => (kV kv.1, kv.2)) H') → tPairs trs σ H Q
def DPs {ι : Type} (X : ι → Cx) (K : PySem.W.Frag) (ω : Wp) (pos : Pos) (keys : List (Option Expr)) (values : List Expr) (dp : DPt) : Prop := ∃ trs, (∀ j, PPs (X j) pos keys values trs) ∧ LPs K ω trs dp
def dpNil : DPt := fun a R => R [] a
def dpCons (dk dv : DEt) (dp : DPt) : DPt := fun a R => dk a fun x a1 => dv a1 fun y a2 => dp a2 fun kvs a3 => match keyD x with
  | some k => R ((k, y) :: kvs) a3
  | none => False
theorem dps_nil {pos : Pos} : DPs X K ω pos [] [] dpNil := ⟨_, fun _ => pps_nil, fun B hω F a σ H Q R ok hd k => k [] [] F a H (.refl ok) .nil hd⟩
theorem dps_cons {pos : Pos} {ks : List (Option Expr)} {vs : List Expr} {dk dv : DEt} {dp : DPt} (h1 : DX X K ω e1 dk) (h2 : DX X K ω e2 dv) (h3 : DPs X K ω pos ks vs dp) : DPs X K ω pos (some e1 :: ks) (e2 :: vs) (dpCons dk dv dp) := by
  obtain ⟨t1, p1, l1⟩ := h1
  obtain ⟨t2, p2, l2⟩ := h2
  obtain ⟨t3, p3, l3⟩ := h3
  refine ⟨_, fun j => pps_cons (p1 j) (p2 j) (p3 j), fun B hω F a σ H Q R ok hd k => l1 B hω F a σ H _ _ ok hd fun x d F1 a1 H1 g1 q1 r1 => l2 B hω F1 a1 σ H1 _ _ g1.ok r1 fun y f F2 a2 H2 g2 q2 r2 => l3 B hω F2 a2 σ H2 _ _ g2.ok r2 fun kvs ds F3 a3 H3 g3 q3 r3 => ?_⟩
  split at r3
  · rename_i kk e
    rw [keyD_of q1 e]
    exact k ((kk, y) :: kvs) ((kk, f) :: ds) F3 a3 H3 (.trans ok g1 (.trans g1.ok g2 g3)) (.cons ⟨rfl, q2.mono g3.ff⟩ q3) r3
  · exact r3.elim
def dDisp (dp : DPt) : DEt := fun a R => dp a fun kvs a' => kvs.length ≤ 15 ∧ R (.dK (mergeA [] kvs)) a'
theorem do_disp {pos : Pos} {keys : List (Option Expr)} {values : List Expr} {dp : DPt} (h : DPs X K ω pos keys values dp) (h1 : keys.all (fun x => x.isSome) = true) (h2 : keys.length = values.length) (h3 : keys ≠ []) (h4 : keys.length ≤ 15) : DO X K ω (.Dict keys values pos) (dDisp dp) := by
  obtain ⟨t, p1, l⟩ := h
  refine ⟨_, fun j => pe_disp (p1 j) h1 h2 h3 h4, fun B hω F a σ H Q R ok hd k => fun p hp => ?_⟩
  obtain ⟨nF, n0, ns, nO⟩ := ok.here hp
  have g0 := ok.newO (o := .dK []) hp
  refine l B hω F a σ _ _ _ g0.ok hd fun kvs ds F1 a1 H1 g1 q1 r1 => ?_
  have hH1 : H1 p = some (.dK []) := g1.hh p _ ns upd_same
  have f1 : F1 p = none := by
    cases q : F1 p with
    | none => rfl
    | some u =>
      rcases g1.fr p (by rw [q]; exact fun z => (nomatch z)) with z | z | z | ⟨o', w1, w2⟩
      · exact absurd nF z
      · rw [upd_same] at z
        cases z
      · exact absurd z nO
      · rw [g1.ok.fi.fh p o' w1] at hH1
        cases hH1
        cases w2
  have g01 := Go.trans ok g0 g1
  have nO1 : ¬ OwnAt a1 σ p := fun z => nO (g01.oo p z)
  refine ⟨hH1, kvs, rfl, by rw [pk_len q1]; exact r1.1, k p _ (.dK (mergeA [] ds)) F1 a1 _ ⟨g1.ok.ext f1 n0 ns nO1, g01.ff, fun b u hb hh => ?_, g01.fr, g01.oo⟩ hp f1 upd_same ⟨_, rfl, datK_pk.mpr (pk_merge q1 .nil)⟩ r1.2⟩
  rw [upd_ne (fun z => by rw [z, hp] at hh; cases hh)]
  exact g01.hh b u hb hh
/-! what one's own dict is given -/
def dPutR (s : Sl) (e d : D) (R : D → Prop) : Prop := match s with
  | .own (.dK kvs) => (match keyD e with
    | some k => kvs.length < sizeLine ∧ R (.dK (putA kvs k d))
    | none => False)
  | .own (.dT kvs) => (match e with
    | .tup ds => (match keysD ds with
      | some k => kvs.length < sizeLine ∧ R (.dT (putA kvs k d))
      | none => False)
    | _ => False)
  | _ => False
def dDPut (i : Nat) (dk dv : DEt) : DSt := fun E a => dv a fun d a1 => a1.at i ≠ .emp ∧ dk a1 fun e a2 => dPutR (a2.at i) e d fun f => E.nx (a2.put i (.own f))
theorem Ok.slot (ok : Ok B F a σ H) {i : Nat} (h : a.at i ≠ .emp) : ∃ v, σ[i]? = some (some v) := by
  cases e : a.at i with
  | emp => exact absurd e h
  | val d =>
    obtain ⟨v, h1, _⟩ := ok.va i d (at_of' e (fun z => nomatch z))
    exact ⟨v, h1⟩
  | own d =>
    obtain ⟨p, o, h1, _⟩ := ok.ow i d (at_of' e (fun z => nomatch z))
    exact ⟨_, h1⟩
theorem ds_dput {i : Nat} {x : Str} {px pos' : Pos} {ix value : Expr} {dk dv : DEt} (hu : ∀ j, (X j).A.units + 1 < cLine) (ho : ∀ j, PE (X j) (.Name x px) (tVar i)) (hk : DB X K ω ix dk) (hv : DX X K ω value dv) (hs : ∀ j, swapsWith value (some (.Subscript (.Name x px) ix pos')) pos.line (X j).env = pure false := by intro _; rfl) :
    DS X K ω (.Assign [.Subscript (.Name x px) ix pos'] value pos) (dDPut i dk dv) := by
  obtain ⟨tk, p1, l1⟩ := hk
  obtain ⟨tv, p2, l2⟩ := hv
  refine ⟨_, fun j => ps_dput (hu j) (ho j) (p1 j) (p2 j) (hs j), fun B hω E DE F a σ H ok hd k => l2 B hω F a σ H _ _ ok hd fun v d F1 a1 H1 g1 q1 r1 => ?_⟩
  obtain ⟨u, hu'⟩ := g1.ok.slot r1.1
  refine ⟨u, hu', l1 B hω F1 a1 σ H1 _ _ g1.ok r1.2 fun y e F2 a2 H2 g2 q2 r2 => ?_⟩
  unfold dPutR at r2
  split at r2
  · rename_i kvs es
    split at r2
    · rename_i kk ek
      have es' := at_of' es (fun z => nomatch z)
      obtain ⟨p, o, h1, h2, h3, h4, vs, rfl, h5⟩ := g2.ok.ow i _ es'
      rw [hu'] at h1
      cases h1
      have q1' := q1.mono g2.ff
      refine ⟨p, _, rfl, by rw [keyD_of q2 ek]; exact .k h2 (by rw [pk_len (datK_pk.mp h5)]; exact r2.1), k.nx F2 _ σ _ (g2.ok.chg (e := .dK (putA kvs kk d)) es' hu' ⟨_, rfl, datK_pk.mpr (pk_put (datK_pk.mp h5) q1')⟩) (g1.ff.trans g2.ff) r2.2⟩
    · exact r2.elim
  · rename_i kvs es
    split at r2
    · rename_i ds
      split at r2
      · rename_i kk ek
        have es' := at_of' es (fun z => nomatch z)
        obtain ⟨p, o, h1, h2, h3, h4, vs, rfl, h5⟩ := g2.ok.ow i _ es'
        rw [hu'] at h1
        cases h1
        have q1' := q1.mono g2.ff
        obtain ⟨b, us, rfl, h6, h7⟩ := q2
        rw [keysD_of h7 ek] at h6
        refine ⟨p, _, rfl, .t h2 (hs_same _ _ h6) (by rw [pk_len (datT_pk.mp h5)]; exact r2.1), k.nx F2 _ σ _ (g2.ok.chg (e := .dT (putA kvs kk d)) es' hu' ⟨_, rfl, datT_pk.mpr (pk_put (datT_pk.mp h5) q1')⟩) (g1.ff.trans g2.ff) r2.2⟩
      · exact r2.elim
    · exact r2.elim
  · exact r2.elim
/-- d.update(e), d one's own -/
def dDUpd (i : Nat) (de : DEt) : DSt := fun E a => isOwnK (a.at i) = true ∧ de a fun d a1 => match a1.at i, d with
  | .own (.dK kvs), .dK more => kvs.length + more.length ≤ sizeLine ∧ E.nx (a1.put i (.own (.dK (mergeA kvs more))))
  | _, _ => False
where isOwnK : Sl → Bool
  | .own (.dK _) => true
  | _ => false
theorem ds_dupd {i : Nat} {x : Str} {px apos cpos : Pos} (ho : ∀ j, PE (X j) (.Name x px) (tVar i)) (he : DX X K ω e de) (m : ∀ j, M1 (X j) (.Name x px) "update" apos e cpos) (hs : ∀ j, swapsWith (.Call (.Attribute (.Name x px) "update" apos) [e] [] cpos) none pos.line (X j).env = pure false := by intro _; rfl) :
    DS X K ω (.Expr (.Call (.Attribute (.Name x px) "update" apos) [e] [] cpos) pos) (dDUpd i de) := by
  obtain ⟨t, p1, l1⟩ := he
  refine ⟨tDrop (tDUpd (tVar i) t), fun j => ps_expr (pe_dupd (ho j) (p1 j) (m j)) (hs j), fun B hω E DE F a σ H ok hd k => ?_⟩
  obtain ⟨h0, hd⟩ := hd
  have h0' : ∃ kvs, a.at i = .own (.dK kvs) := by
    unfold dDUpd.isOwnK at h0
    split at h0
    · exact ⟨_, by assumption⟩
    · cases h0
  obtain ⟨kvs0, e0⟩ := h0'
  obtain ⟨p, o, h1, h2, _, _, vs0, rfl, _⟩ := ok.ow i _ (at_of' e0 (fun z => nomatch z))
  refine ⟨_, h1, p, rfl, .inl ⟨vs0, .inl h2⟩, l1 B hω F a σ H _ _ ok hd fun v d F1 a1 H1 g1 q1 r1 => ?_⟩
  split at r1
  · rename_i kvs more es
    have es' := at_of' es (fun z => nomatch z)
    obtain ⟨p', o, h1', h3, h4, h5, vs, rfl, h6⟩ := g1.ok.ow i _ es'
    rw [h1] at h1'
    cases h1'
    obtain ⟨b, us, rfl, h7, h8⟩ := q1
    refine ⟨b, vs, us, rfl, h3, g1.ok.fi.fh _ _ h7, fun z => (by rw [z, h7] at h4; cases h4), by rw [pk_len (datK_pk.mp h6), pk_len (datK_pk.mp h8)]; exact r1.1, ?_⟩
    exact k.nx F1 _ σ _ (g1.ok.chg (e := .dK (mergeA kvs more)) es' h1 ⟨_, rfl, datK_pk.mpr (pk_merge (datK_pk.mp h8) (datK_pk.mp h6))⟩) g1.ff r1.2
  · exact r1.elim
end
/-! ### errors -/
theorem XRep.mono {K : PySem.W.Frag} {F F' : Hp} {dd : Option Addr} {fs : List (Str × D)} (s : Same F F') (h : XRep K F dd fs) : XRep K F' dd fs := h.imp id fun ⟨d, vs, e, h1, h2⟩ => ⟨d, vs, e, s _ _ h1, pk_mono s h2⟩
abbrev DSpX := Option Addr → List D → Int → (D → Int → Prop) → (Addr → List (Str × D) → Int → Prop) → Prop
/-- behind a call that fails -/
def PostX (K : PySem.W.Frag) (sp : Option Addr) (F H : Hp) (E : XK) (C : Addr) (fs : List (Str × D)) (n' : Int) : Prop := ∀ (dd : Option Addr) (F' H' : Hp), Same F F' → Same F' H' → (∀ b o, sp ≠ some b → H b = some o → H' b = some o) → (∀ b, F' b ≠ none → F b ≠ none ∨ H b = none ∨ ImmA F' b) →
  (∀ p, sp = some p → F' p = none ∧ Src H' p n') → XRep K F' dd fs → E (.ref C) dd H'
def upX (K : PySem.W.Frag) (dsp : DSpX) : Sp := fun vs H Q E => ∃ (sp : Option Addr) (F : Hp) (ds : List D) (n : Int), Same F H ∧ (∀ p, sp = some p → F p = none ∧ Src H p n) ∧ DatL K F ds vs ∧ dsp sp ds n (Post K sp F H Q) (PostX K sp F H E)
theorem upX_len {K : PySem.W.Frag} {dsp : DSpX} {m : Nat} (h : ∀ sp ds n R RX, dsp sp ds n R RX → ds.length = m) (vs : List V) (H : Hp) (Q : VK) (E : XK) : upX K dsp vs H Q E → vs.length = m := fun ⟨sp, F, ds, n, _, _, L, q⟩ => by
  rw [L.len]
  exact h sp ds n _ _ q
/-- the wish of a def that may fail -/
def wpX (K : PySem.W.Frag) (sp : Option Addr) (F H : Hp) (E : XK) : Wp := ⟨fun cls dd _ H' => E cls dd H', fun C fs _ n => PostX K sp F H E C fs n, fun _ => True, false⟩
theorem d_runX {K : PySem.W.Frag} {sp : Option Addr} {F H : Hp} {ds : List D} {vs : List V} {n : Int} {Q : VK} {E : XK} {X : Cx} {body : List Stmt} {N : List Str} {d : DSt} (h : DSs (fun _ : Unit => X) K (wpX K sp F H E) body d) (s : Same F H) (src : ∀ p, sp = some p → F p = none ∧ Src H p n) (L : DatL K F ds vs)
    {sl : List Sl} (hsl : sl = (dstart N ds n sp).sl) (hd : d { nx := fun a => Post K sp F H Q (.v .non) a.n, rt := Post K sp F H Q } ⟨sl, n, sp⟩) : ∃ t, PSs X body t ∧ t { nx := fun _ H' => Q .non H', rt := Q } (L2.start N vs) H := by
  obtain ⟨t, p, l⟩ := h
  subst hsl
  refine ⟨t, p (), l ⟨sp, H, F, none⟩ ⟨trivial, fun _ => rfl, fun F' a σ' H' C dd fs ok x w => ?_⟩ _ _ F _ _ H (ok_start N s src L) hd ⟨fun F' a' σ' H' ok s h => ?_, fun v d n F' H' f s q h => ?_, fun _ _ _ _ _ _ h => h.elim, fun _ _ _ _ _ _ h => h.elim⟩⟩
  · exact w dd F' H' ok.fi.ff ok.fi.fh (fun b o n h => ok.fi.fm b o h n) (fun b h => ok.fi.fr b h) (fun p e => ⟨(ok.fi.sr p e).1, (ok.fi.sr p e).2.2⟩) x
  · exact h .non F' H' s ok.fi.fh (fun b o n h => ok.fi.fm b o h n) (fun b h => ok.fi.fr b h) (fun p e => ⟨(ok.fi.sr p e).1, (ok.fi.sr p e).2.2⟩) rfl
  · exact h v F' H' s f.fh (fun b o n h => f.fm b o h n) (fun b h => f.fr b h) (fun p e => ⟨(f.sr p e).1, (f.sr p e).2.2⟩) q
def UpsX (K : PySem.W.Frag) (sp : Sp) (dsp : DSpX) : Prop := ∀ vs H Q E, upX K dsp vs H Q E → sp vs H Q E
theorem UpsX.rfl {K : PySem.W.Frag} {dsp : DSpX} : UpsX K (upX K dsp) dsp := fun _ _ _ _ h => h
def MonX (dsp : DSpX) : Prop := ∀ sp ds n (R R' : D → Int → Prop) (S S' : Addr → List (Str × D) → Int → Prop), (∀ d n', R d n' → R' d n') → (∀ C fs n', S C fs n' → S' C fs n') → dsp sp ds n R S → dsp sp ds n R' S'
abbrev DWt := Addr → List (Str × D) → List Sl → Int → Prop
section
variable {K : PySem.W.Frag} {ω : Wp} {B : Bs K} {F F' F1 F2 G : Hp} {a a' a1 a2 : AS} {σ σ' : St} {H H' H1 H2 : Hp} {n : Int} {te : TE} {de da db : DEt} {ι : Type} {X : ι → Cx} {e e1 e2 : Expr} {es : List Expr} {pos : Pos} {dt : DTt} {dl dm : DAt}
def dCallX (W : DWt) (dsp : DSpX) (dl : DAt) : DEt := fun a R => dl a fun ds a' => dsp a'.sp ds a'.n (fun d n' => R d ⟨a'.sl, n', a'.sp⟩) fun C fs n' => W C fs a'.sl n'
def dCallX0 (W : DWt) (dsp : DSpX) (dl : DAt) : DEt := fun a R => dl a fun ds a' => dsp none ds 0 (fun d _ => R d a') fun C fs _ => W C fs a'.sl a'.n
theorem le_callX {dsp : DSpX} {s : Sp} {ta : TA} (m : MonX dsp) (u : UpsX K s dsp) (l : LAE K ω ta dl) : LE K ω (tCallS s (fun σ => WE ω.W σ) ta) (dCallX ω.dW dsp dl) := fun B hω F a σ H Q R ok hd k => l B hω F a σ H _ _ ok hd fun vs ds F1 a1 H1 g1 q1 r1 => by
  rw [g1.ok.es] at r1
  refine u _ _ _ _ ⟨B.sp, F1, ds, a1.n, g1.ok.fi.fh, fun p e => ⟨(g1.ok.fi.sr p e).1, (g1.ok.fi.sr p e).2.2⟩, q1, m _ _ _ _ _ _ _ (fun d n' r => ?_) (fun C fs n' r => ?_) r1⟩
  · intro v F' H' x1 x2 x3 x4 x5 x6
    exact k v d F' _ H' (.trans ok g1 (Go.call g1.ok x1 x2 x3 x4 x5)) x6 (by rw [← g1.ok.es] at r; exact r)
  · intro dd F' H' x1 x2 x3 x4 x5 x6
    exact hω.2.2 F' ⟨a1.sl, n', a1.sp⟩ σ H' C dd fs (Go.call g1.ok x1 x2 x3 x4 x5).ok x6 r
theorem le_callX0 {dsp : DSpX} {s : Sp} {ta : TA} (m : MonX dsp) (u : UpsX K s dsp) (l : LAE K ω ta dl) : LE K ω (tCallS s (fun σ => WE ω.W σ) ta) (dCallX0 ω.dW dsp dl) := fun B hω F a σ H Q R ok hd k => l B hω F a σ H _ _ ok hd fun vs ds F1 a1 H1 g1 q1 r1 => by
  have go : ∀ F' H', Same F1 F' → Same F' H' → (∀ b o, none ≠ some b → H1 b = some o → H' b = some o) → (∀ b, F' b ≠ none → F1 b ≠ none ∨ H1 b = none ∨ ImmA F' b) → Go B σ F1 a1 H1 F' a1 H' := fun F' H' x1 x2 x3 x4 => by
    have hh : Same H1 H' := fun b o h => x3 b o (fun z => nomatch z) h
    refine Go.call g1.ok x1 x2 (fun b o _ h => hh b o h) x4 fun p e => ?_
    obtain ⟨y1, y2, y3⟩ := g1.ok.fi.sr p e
    refine ⟨?_, y3.same hh⟩
    cases q : F' p with
    | none => rfl
    | some u =>
      rcases x4 p (by rw [q]; exact fun z => (nomatch z)) with w | w | ⟨o', w1, w2⟩
      · exact absurd y1 w
      · obtain ⟨xs, z⟩ := y3.at
        rw [z] at w
        cases w
      · obtain ⟨xs, z⟩ := (y3.same hh).at
        rw [x2 p o' w1] at z
        cases z
        cases w2
  refine u _ _ _ _ ⟨none, F1, ds, 0, g1.ok.fi.fh, (fun p e => nomatch e), q1, m _ _ _ _ _ _ _ (fun d n' r => ?_) (fun C fs n' r => ?_) r1⟩
  · intro v F' H' x1 x2 x3 x4 x5 x6
    exact k v d F' a1 H' (.trans ok g1 (go F' H' x1 x2 x3 x4)) x6 r
  · intro dd F' H' x1 x2 x3 x4 x5 x6
    exact hω.2.2 F' a1 σ H' C dd fs (go F' H' x1 x2 x3 x4).ok x6 r
/-- the same with borrowed values, where nothing fails and what comes out is flat -/
def dCallXF0 (dsp : DSpX) (dl : DAt) : DEt := fun a R => dl a fun ds a' => dsp none ds 0 (fun d _ => isV d = true ∧ R d a') fun _ _ _ => False
theorem le_callXF0 {dsp : DSpX} {s : Sp} {ta : TA} (m : MonX dsp) (u : UpsX K s dsp) (l : LAB K ω ta dl) : LE K ω (tCallS s (fun σ => WE ω.W σ) ta) (dCallXF0 dsp dl) := fun B hω F a σ H Q R ok hd k => l B hω F a σ H _ _ ok hd fun vs ds F1 a1 H1 g1 q1 r1 => by
  refine u _ _ _ _ ⟨none, Hs B.sp H1, ds, 0, hs_same, (fun p e => nomatch e), q1, m _ _ _ _ _ _ _ (fun d n' r => ?_) (fun C fs n' r => r.elim) r1⟩
  intro v F' H' x1 x2 x3 x4 x5 x6
  have hh : Same H1 H' := fun b o h => x3 b o (fun z => nomatch z) h
  refine k v d F1 a1 H' (.trans ok g1 (Go.call g1.ok (Same.refl F1) (fun b o h => hh _ _ (g1.ok.fi.fh b o h)) (fun b o _ h => hh b o h) (fun b z => .inl z) fun p e => ⟨(g1.ok.fi.sr p e).1, (g1.ok.fi.sr p e).2.2.same hh⟩)) ?_ r.2
  cases d with
  | v x => exact x6
  | _ => exact absurd r.1 Bool.false_ne_true
section
variable {k : Nat} {f : Addr} {fd : FuncData} {ps : List Str} {s : Sp} {dsp : DSpX} {x : Str} {p : Pos}
theorem de_callX (m : MonX dsp) (u : UpsX K s dsp) (G : ∀ j, FnOk (X j).prog (X j).w (X j).K (X j).mg (X j).base (L2.CX (X j).prog (X j).w) k f fd ps s) (hr : ∀ j, Room k (X j).A) (hg : ∀ j, Gl (X j) x) (hm : ∀ j, (X j).mg x = some (.ref f)) (hk : ∀ j, PySem.W.keepIn (X j).K (.ref f) = true) (hb : ∀ j, Binds (X j).K fd ps []) (tk : ∀ j, Takes (X j) ω.W) (ha : DAE X K ω (e :: es) dl)
    (hdb : (x == ("__debug__" : Str)) = false := by decide) (he : ∀ j, starEach (e :: es) (X j).env = (false, eval e (X j).env) :: starEach es (X j).env := by intro _; rfl) (hpl : ∀ j, (backTo pos (starEach es (X j).env)).any (·.1) = false := by intro _; rfl) : DX X K ω (.Call (.Name x p) (e :: es) [] pos) (dCallX ω.dW dsp dl) := by
  obtain ⟨t, h, l⟩ := ha
  exact ⟨_, fun j => pe_callS (G j) (hr j) (hg j) (hm j) (hk j) (hb j) (passAt (tk j)) (h j) hdb (he j) (hpl j), le_callX m u l⟩
theorem de_callX0 (m : MonX dsp) (u : UpsX K s dsp) (G : ∀ j, FnOk (X j).prog (X j).w (X j).K (X j).mg (X j).base (L2.CX (X j).prog (X j).w) k f fd ps s) (hr : ∀ j, Room k (X j).A) (hg : ∀ j, Gl (X j) x) (hm : ∀ j, (X j).mg x = some (.ref f)) (hk : ∀ j, PySem.W.keepIn (X j).K (.ref f) = true) (hb : ∀ j, Binds (X j).K fd ps []) (tk : ∀ j, Takes (X j) ω.W) (ha : DAE X K ω (e :: es) dl)
    (hdb : (x == ("__debug__" : Str)) = false := by decide) (he : ∀ j, starEach (e :: es) (X j).env = (false, eval e (X j).env) :: starEach es (X j).env := by intro _; rfl) (hpl : ∀ j, (backTo pos (starEach es (X j).env)).any (·.1) = false := by intro _; rfl) : DX X K ω (.Call (.Name x p) (e :: es) [] pos) (dCallX0 ω.dW dsp dl) := by
  obtain ⟨t, h, l⟩ := ha
  exact ⟨_, fun j => pe_callS (G j) (hr j) (hg j) (hm j) (hk j) (hb j) (passAt (tk j)) (h j) hdb (he j) (hpl j), le_callX0 m u l⟩
theorem de_callXF0 (m : MonX dsp) (u : UpsX K s dsp) (G : ∀ j, FnOk (X j).prog (X j).w (X j).K (X j).mg (X j).base (L2.CX (X j).prog (X j).w) k f fd ps s) (hr : ∀ j, Room k (X j).A) (hg : ∀ j, Gl (X j) x) (hm : ∀ j, (X j).mg x = some (.ref f)) (hk : ∀ j, PySem.W.keepIn (X j).K (.ref f) = true) (hb : ∀ j, Binds (X j).K fd ps []) (tk : ∀ j, Takes (X j) ω.W) (ha : DAB X K ω (e :: es) dl)
    (hdb : (x == ("__debug__" : Str)) = false := by decide) (he : ∀ j, starEach (e :: es) (X j).env = (false, eval e (X j).env) :: starEach es (X j).env := by intro _; rfl) (hpl : ∀ j, (backTo pos (starEach es (X j).env)).any (·.1) = false := by intro _; rfl) : DX X K ω (.Call (.Name x p) (e :: es) [] pos) (dCallXF0 dsp dl) := by
  obtain ⟨t, h, l⟩ := ha
  exact ⟨_, fun j => pe_callS (G j) (hr j) (hg j) (hm j) (hk j) (hb j) (passAt (tk j)) (h j) hdb (he j) (hpl j), le_callXF0 m u l⟩
end
/-! raise C(e) -/
def dRaise (W : DWt) (C : Addr) (f : Str) (dl : DAt) : DSt := fun _ a => dl a fun ds a' => match ds with
  | [d] => W C [(f, d)] a'.sl a'.n
  | _ => False
theorem ds_raise {C fI : Addr} {x f : Str} {p pos2 : Pos} {k : Nat} (hc : ∀ j, (X j).calm = true) (T : ∀ j, PySem.SupX.ClsTxt (X j).prog (X j).K (X j).mg C fI x) (Tf : ∀ j, PySem.SupX.FnTxt (X j).prog (X j).K C fI f) (hr : ∀ j, Room k (X j).A) (tk : ∀ j, Takes (X j) ω.W) (ha : DAE X K ω [e] dl) (hg : ∀ j, Gl (X j) x)
    (hd : (x == ("__debug__" : Str)) = false := by decide) (he : ∀ j, starEach (e :: []) (X j).env = (false, eval e (X j).env) :: starEach [] (X j).env := by intro _; rfl) (hpl : ∀ j, (backTo pos (starEach [] (X j).env)).any (·.1) = false := by intro _; rfl) :
    DS X K ω (.Raise (some (.Call (.Name x p) [e] [] pos)) none pos2) (dRaise ω.dW C f dl) := by
  obtain ⟨t, h, l⟩ := ha
  refine ⟨_, fun j => ps_raiseSup (hc j) (T j) (Tf j) (hr j) (tk j) (h j) (hg j) hd (he j) (hpl j), fun B hω E DE F a σ H ok hd k => l B hω F a σ H _ _ ok hd fun vs ds F1 a1 H1 g1 q1 r1 => ?_⟩
  split at r1
  · rename_i d
    obtain ⟨v, r, rfl, h1, h2⟩ := q1
    cases (show r = [] from h2)
    refine ⟨v, rfl, fun dd hdd => ?_⟩
    have g2 := g1.ok.new (o := .xd [(f, v)]) hdd
    exact hω.2.2 _ a1 σ _ C (some dd) [(f, d)] g2.ok (.inr ⟨dd, _, rfl, upd_same, .cons ⟨rfl, h1.mono g2.ff⟩ .nil⟩) r1
  · exact r1.elim
/-- raise C() -/
def dRaise0 (W : DWt) (C : Addr) : DSt := fun _ a => W C [] a.sl a.n
theorem ds_raise0 {C fI : Addr} {x : Str} {p pos2 : Pos} {k : Nat} (hc : ∀ j, (X j).calm = true) (T : ∀ j, PySem.SupX.ClsTxt (X j).prog (X j).K (X j).mg C fI x) (Tf : ∀ j, PySem.SupX.FnTxt0 (X j).prog (X j).K C fI) (hr : ∀ j, Room k (X j).A) (tk : ∀ j, Takes (X j) ω.W) (hg : ∀ j, Gl (X j) x)
    (hd : (x == ("__debug__" : Str)) = false := by decide) : DS X K ω (.Raise (some (.Call (.Name x p) [] [] pos)) none pos2) (dRaise0 ω.dW C) :=
  ⟨_, fun j => ps_raiseSup0 (hc j) (T j) (Tf j) (hr j) (tk j) (hg j) hd, fun B hω E DE F a σ H ok hd k => hω.2.2 F a σ H C none [] ok (.inl ⟨rfl, rfl⟩) hd⟩
/-! try with clauses -/
theorem Fi.re (f : Fi B F n H) : Fi (K := K) ⟨B.sp, B.H0, F, B.self⟩ F n H := ⟨f.fh, Same.refl F, fun _ h => .inl h, f.fm, f.sr⟩
theorem Ok.re (ok : Ok B F a σ H) : Ok (K := K) ⟨B.sp, B.H0, F, B.self⟩ F a σ H := ⟨ok.fi.re, ok.es, ok.len, ok.va, ok.ow, ok.ds, ok.fx⟩
theorem Fi.un {n' : Int} (ok : Fi B F n H) (f : Fi (K := K) ⟨B.sp, B.H0, F, B.self⟩ F' n' H') : Fi B F' n' H' := ⟨f.fh, ok.ff.trans f.ff, fun b h => (f.fr b h).elim (fun z => (ok.fr b z).imp id fun z => z.imp id fun z => z.mono f.ff) .inr, f.fm, f.sr⟩
theorem Ok.un (ok : Ok B F a σ H) (f : Ok (K := K) ⟨B.sp, B.H0, F, B.self⟩ F' a' σ' H') : Ok B F' a' σ' H' := ⟨ok.fi.un f.fi, f.es, f.len, f.va, f.ow, f.ds, f.fx⟩
/-- within a suite: what was caught is known -/
def wpS (K : PySem.W.Frag) (dd : Option Addr) (fs : List (Str × D)) : Wp := ⟨fun _ _ _ _ => True, fun _ _ _ _ => True, fun F => XRep K F dd fs, true⟩
def sufI (ι : Type) (cls : Value) (dd : Option Addr) : Type := { q : ι × Obj × List (Addr × Obj) // Zc cls dd q.2.1 ∧ ∃ vs, q.2.1.data = .fields vs }
def sufF {ι : Type} (X : ι → Cx) (xa : Addr) (cls : Value) (dd : Option Addr) : sufI ι cls dd → Cx := fun q => (X q.1.1).suite xa ((xa, q.1.2.1) :: q.1.2.2)
structure XClause where
  cls : Value
  slot : Option Nat
  oks : Addr → Prop
  run : Addr → Addr → List (Str × D) → DSt
def XClause.off (c : XClause) (a : AS) : AS := match c.slot with | none => a | some i => a.put i .emp
def XClause.ends (c : XClause) (E : DEnds) : DEnds := ⟨fun a => E.nx (c.off a), E.rt, fun a => E.bk (c.off a), fun a => E.ct (c.off a)⟩
def XClause.slots (c : XClause) (a : AS) (xa : Addr) : AS := match c.slot with | none => a | some i => a.put i (.val (.v (.ref xa)))
/-- the first clause that fits -/
def dFirst (K : PySem.W.Frag) (out : DWt) (E : DEnds) (sp : Option Addr) : List XClause → DWt
  | [] => out
  | c :: r => fun C fs sl n => (PySem.W.exmOne K (.ref C) c.cls = some true ∧ c.oks C ∧ ∀ xa : Addr, c.run C xa fs (c.ends E) (c.slots ⟨sl, n, sp⟩ xa)) ∨ (PySem.W.exmOne K (.ref C) c.cls = some false ∧ dFirst K out E sp r C fs sl n)
inductive XClauses {ι : Type} (X : ι → Cx) (K : PySem.W.Frag) : List ExceptHandler → List XClause → Prop
  | nil : XClauses X K [] []
  | cons {x : Str} {np pos : Pos} {b : Stmt} {bs : List Stmt} {n : Option Str} {hs : List ExceptHandler} {c : XClause} {cs : List XClause} :
      (∀ j, Names (X j) x c.cls) → (∀ xa C dd fs, c.oks C → DSs (sufF X xa (.ref C) dd) K (wpS K dd fs) (b :: bs) (c.run C xa fs)) →
      ((n = none ∧ c.slot = none) ∨ ∃ y i, n = some y ∧ c.slot = some i ∧ i ≠ 0 ∧ ∀ j, (X j).N[i]? = some y ∧ (X j).env.kindOf y = some .local) → XClauses X K hs cs →
      XClauses X K (.ExceptHandler (some (.Name x np)) n (b :: bs) pos :: hs) (c :: cs)
/-- the clause of the text -/
def XClause.tr {ι : Type} (X : ι → Cx) (c : XClause) (body : List Stmt) : Clause := ⟨c.cls, c.slot, fun xa cls dd D σ H => ∃ t, (∀ q : sufI ι cls dd, PSs (sufF X xa cls dd q) body t) ∧ t D σ H⟩
def hBody : ExceptHandler → List Stmt
  | .ExceptHandler _ _ b _ => b
def xtrs {ι : Type} (X : ι → Cx) : List ExceptHandler → List XClause → List Clause
  | h :: hs, c :: cs => c.tr X (hBody h) :: xtrs X hs cs
  | _, _ => []
theorem XClauses.of {hds : List ExceptHandler} {cs : List XClause} (h : XClauses X K hds cs) (j : ι) : ClausesOf (X j) hds (xtrs X hds cs) := by
  induction h with
  | nil => exact .nil
  | @cons x np pos b bs n hs c cs hn hr hsl _ ih =>
    refine .cons ⟨x, np, pos, b, bs, n, rfl, hn j, fun xa o cls dd pn hz hf => ?_, ?_⟩ ih
    · exact ⟨fun pins s σ H D I ⟨t, ht, hd⟩ => (ht ⟨(j, o, pn), hz, hf⟩).run pins s σ H D I hd⟩
    · rcases hsl with ⟨h1, h2⟩ | ⟨y, i, h1, h2, _, h3⟩
      · exact .inl ⟨h1, h2⟩
      · exact .inr ⟨y, i, h1, h2, (h3 j).1, (h3 j).2⟩
theorem dfirst_ok {hds : List ExceptHandler} {cs : List XClause} {out : Wp} {E : Ends} {DE : DEnds} (h : XClauses X K hds cs) (hout : WOk B out) (ok : Ok B F a σ H) (k : EndsOk B F DE E) :
    ∀ (F1 : Hp) (a1 : AS) (σ1 : St) (H1 : Hp) (C : Addr) (dd : Option Addr) (fs : List (Str × D)), Ok (K := K) ⟨B.sp, B.H0, F, B.self⟩ F1 a1 σ1 H1 → XRep K F1 dd fs → dFirst K out.dW DE B.sp cs C fs a1.sl a1.n → firstOf K out.W E (xtrs X hds cs) (.ref C) dd σ1 H1 := by
  intro F1 a1 σ1 H1 C dd fs ok1 x w
  induction h with
  | nil => exact hout.2.2 F1 a1 σ1 H1 C dd fs (ok.un ok1) x w
  | @cons y np pos b bs n hs c cs hn hr hsl _ ih =>
    rcases w with ⟨h1, h2, w⟩ | ⟨h1, w⟩
    · refine .inl ⟨h1, fun xa hxa => ?_⟩
      obtain ⟨t, p, l⟩ := hr xa C dd fs h2
      have hi : ∀ i, c.slot = some i → i ≠ 0 := fun i q => by
        rcases hsl with ⟨_, z⟩ | ⟨_, i', _, z, n, _⟩
        · rw [z] at q
          cases q
        · rw [z] at q
          cases q
          exact n
      refine ⟨t, p, ?_⟩
      have e1 : a1 = ⟨a1.sl, a1.n, B.sp⟩ := by rw [← ok1.es]
      have s01 : Same F F1 := ok1.fi.ff
      have okS : Ok (K := K) ⟨B.sp, B.H0, F1, B.self⟩ F1 (c.slots ⟨a1.sl, a1.n, B.sp⟩ xa) ((c.tr X (b :: bs)).slots σ1 xa) H1 := by
        have o := (ok.un ok1).re
        rw [e1] at o
        unfold XClause.slots Clause.slots XClause.tr
        cases hci : c.slot with
        | none => exact o
        | some i => exact o.setV (d := .v (.ref xa)) (fun z => absurd z (hi i hci)) rfl
      have off : ∀ {F2 a2 σ2 H2}, Ok (K := K) ⟨B.sp, B.H0, F1, B.self⟩ F2 a2 σ2 H2 → Ok B F2 (c.off a2) (match (c.tr X (b :: bs)).slot with | none => σ2 | some i => σ2.set i none) H2 := fun {F2 a2 σ2 H2} o2 => by
        have o := (ok.un ok1).un o2
        unfold XClause.off XClause.tr
        cases hci : c.slot with
        | none => exact o
        | some i => exact o.forget i none fun z => absurd z (hi i hci)
      refine l ⟨B.sp, B.H0, F1, B.self⟩ ⟨x, (fun z => nomatch z), fun _ _ _ _ _ _ _ _ _ _ => trivial⟩ _ (c.ends DE) F1 _ _ H1 okS (w xa) ⟨fun F2 a2 σ2 H2 o2 s2 r => ?_, fun v d n F2 H2 f2 s2 q r => ?_, fun F2 a2 σ2 H2 o2 s2 r => ?_, fun F2 a2 σ2 H2 o2 s2 r => ?_⟩
      · exact k.nx F2 _ _ H2 (off o2) (s01.trans s2) r
      · exact k.rt v d n F2 H2 ((ok.un ok1).fi.un f2) (s01.trans s2) q r
      · exact k.bk F2 _ _ H2 (off o2) (s01.trans s2) r
      · exact k.ct F2 _ _ H2 (off o2) (s01.trans s2) r
    · exact .inr ⟨h1, ih w⟩
/-- the body's contexts -/
def tryI (X : ι → Cx) (W : WX) : Type := { q : ι × List (Addr × Obj) × (Value → Shared → Prop) // Takes ((X q.1).tr q.2.1 q.2.2) W ∧ PassesOwn (model (X q.1).prog (X q.1).w) (X q.1).A (X q.1).env q.2.2 }
def tryF (X : ι → Cx) (W : WX) : tryI X W → Cx := fun q => (X q.1.1).tr q.1.2.1 q.1.2.2
theorem tryF_takes {W : WX} (q : tryI X W) : Takes (tryF X W q) W := q.2.1
theorem tryF_own {W : WX} (q : tryI X W) : PassesOwn (model (tryF X W q).prog (tryF X W q).w) (tryF X W q).A (tryF X W q).env (tryF X W q).xe := q.2.2
def dTry (K : PySem.W.Frag) (sf : Bool) (db : Wp → DSt) (out : DWt) (cs : List XClause) : DSt := fun E a => ∀ W : Value → Option Addr → St → Hp → Prop, db ⟨W, dFirst K out E a.sp cs, fun _ => True, sf⟩ E a
theorem ds_try {body : List Stmt} {h₀ : ExceptHandler} {hds : List ExceptHandler} {cs : List XClause} {db : Wp → DSt} {out : Wp} (hs : ∀ j, (X j).stack = (X j).env :: (X j).outer) (hf : ∀ j, (X j).env.frame = some (X j).env.locals) (hN : ∀ j, (X j).N.Nodup) (tk : ∀ j, Takes (X j) out.W) (ho : ∀ B : Bs K, WOk B ω → WOk B out)
    (hb : ∀ ω' : Wp, DSs (tryF X ω'.W) K ω' body (db ω')) (C : XClauses X K (h₀ :: hds) cs) (hK : ∀ j, (X j).K = K := by intro _; rfl) : DS X K ω (.Try body (h₀ :: hds) [] [] pos) (dTry K ω.sf db out.dW cs) := by
  refine ⟨fun E σ H => (fun W : WX => fun E σ H => ∃ t, (∀ q : tryI X W, PSs (tryF X W q) body t) ∧ t E σ H) (firstOf K out.W E (xtrs X (h₀ :: hds) cs)) E σ H, fun j => ?_, fun B hω E DE F a σ H ok hd k => ?_⟩
  · rw [← hK j]
    exact ps_clauses (hs j) (hf j) (hN j) (tk j) (tb := fun W E σ H => ∃ t, (∀ q : tryI X W, PSs (tryF X W q) body t) ∧ t E σ H) (fun W pn xe tk po => ⟨fun pins s σ H D I ⟨t, ht, hd⟩ => (ht ⟨(j, pn, xe), tk, po⟩).run pins s σ H D I hd⟩) (C.of j)
  · obtain ⟨t, p, l⟩ := hb ⟨firstOf K out.W E (xtrs X (h₀ :: hds) cs), dFirst K out.dW DE a.sp cs, fun _ => True, ω.sf⟩
    refine ⟨t, p, l ⟨B.sp, B.H0, F, B.self⟩ ⟨trivial, hω.2.1, ?_⟩ E DE F a σ H ok.re (hd _) ⟨fun F' a' σ' H' o s r => k.nx F' a' σ' H' (ok.un o) s r, fun v d n F' H' f s q r => k.rt v d n F' H' (ok.fi.un f) s q r, fun F' a' σ' H' o s r => k.bk F' a' σ' H' (ok.un o) s r, fun F' a' σ' H' o s r => k.ct F' a' σ' H' (ok.un o) s r⟩⟩
    rw [ok.es]
    exact dfirst_ok C (ho B hω) ok k
def wpN (sf : Bool) : Wp := ⟨fun _ _ _ _ => False, fun _ _ _ _ => False, fun _ => True, sf⟩
theorem ds_try0 {body : List Stmt} {h₀ : ExceptHandler} {hds : List ExceptHandler} {cs : List XClause} {db : Wp → DSt} (hs : ∀ j, (X j).stack = (X j).env :: (X j).outer) (hf : ∀ j, (X j).env.frame = some (X j).env.locals) (hN : ∀ j, (X j).N.Nodup)
    (hb : ∀ ω' : Wp, DSs (tryF X ω'.W) K ω' body (db ω')) (C : XClauses X K (h₀ :: hds) cs) (hK : ∀ j, (X j).K = K := by intro _; rfl) : DS X K ω (.Try body (h₀ :: hds) [] [] pos) (dTry K ω.sf db (fun _ _ _ _ => False) cs) :=
  ds_try (out := wpN ω.sf) hs hf hN (fun _ => takes0) (fun B h => ⟨trivial, h.2.1, fun _ _ _ _ _ _ _ _ _ z => z.elim⟩) hb C hK
theorem ds_tryX {body : List Stmt} {h₀ : ExceptHandler} {hds : List ExceptHandler} {cs : List XClause} {db : Wp → DSt} (hs : ∀ j, (X j).stack = (X j).env :: (X j).outer) (hf : ∀ j, (X j).env.frame = some (X j).env.locals) (hN : ∀ j, (X j).N.Nodup) (tk : ∀ j, Takes (X j) ω.W)
    (hb : ∀ ω' : Wp, DSs (tryF X ω'.W) K ω' body (db ω')) (C : XClauses X K (h₀ :: hds) cs) (hK : ∀ j, (X j).K = K := by intro _; rfl) : DS X K ω (.Try body (h₀ :: hds) [] [] pos) (dTry K ω.sf db ω.dW cs) :=
  ds_try (out := ω) hs hf hN tk (fun _ h => h) hb C hK
theorem XClauses.one (i : Nat) {C0 : Addr} {x y : Str} {np pos : Pos} {b : Stmt} {bs : List Stmt} {hs : List ExceptHandler} {cs : List XClause} {f : Addr → List (Str × D) → DSt} (hn : ∀ j, Names (X j) x (.ref C0)) (hr : ∀ xa dd fs, DSs (sufF X xa (.ref C0) dd) K (wpS K dd fs) (b :: bs) (f xa fs)) (hi : ∀ j, (X j).N[i]? = some y ∧ (X j).env.kindOf y = some .local) (C : XClauses X K hs cs) (h0 : i ≠ 0 := by decide) :
    XClauses X K (.ExceptHandler (some (.Name x np)) (some y) (b :: bs) pos :: hs) (⟨.ref C0, some i, fun C => C = C0, fun _ => f⟩ :: cs) :=
  .cons hn (fun xa C dd fs h => by cases h; exact hr xa dd fs) (.inr ⟨y, i, rfl, rfl, h0, hi⟩) C
theorem XClauses.one0 {C0 : Addr} {x : Str} {np pos : Pos} {b : Stmt} {bs : List Stmt} {hs : List ExceptHandler} {cs : List XClause} {f : Addr → List (Str × D) → DSt} (hn : ∀ j, Names (X j) x (.ref C0)) (hr : ∀ xa dd fs, DSs (sufF X xa (.ref C0) dd) K (wpS K dd fs) (b :: bs) (f xa fs)) (C : XClauses X K hs cs) :
    XClauses X K (.ExceptHandler (some (.Name x np)) none (b :: bs) pos :: hs) (⟨.ref C0, none, fun C => C = C0, fun _ => f⟩ :: cs) :=
  .cons hn (fun xa C dd fs h => by cases h; exact hr xa dd fs) (.inl ⟨rfl, rfl⟩) C
/-- a clause for more classes than one -/
theorem XClauses.oneX (i : Nat) {C0 : Addr} (okC : Addr → Prop) {x y : Str} {np pos : Pos} {b : Stmt} {bs : List Stmt} {hs : List ExceptHandler} {cs : List XClause} {f : Addr → Addr → List (Str × D) → DSt} (hn : ∀ j, Names (X j) x (.ref C0)) (hr : ∀ xa C dd fs, okC C → DSs (sufF X xa (.ref C) dd) K (wpS K dd fs) (b :: bs) (f C xa fs)) (hi : ∀ j, (X j).N[i]? = some y ∧ (X j).env.kindOf y = some .local) (C : XClauses X K hs cs) (h0 : i ≠ 0 := by decide) :
    XClauses X K (.ExceptHandler (some (.Name x np)) (some y) (b :: bs) pos :: hs) (⟨.ref C0, some i, okC, f⟩ :: cs) :=
  .cons hn hr (.inr ⟨y, i, rfl, rfl, h0, hi⟩) C
/-- e.f of what was caught -/
def dXf (i : Nat) (xa : Addr) (n : Str) (fs : List (Str × D)) : DEt := fun a R => a.at i = .val (.v (.ref xa)) ∧ opt (fs.lookup n) fun d => R d a
theorem pk_lookup {κ : Type} [BEq κ] {kvs : List (κ × D)} {vs : List (κ × V)} (h : PK K H kvs vs) {k : κ} {d : D} (e : kvs.lookup k = some d) : ∃ v, vs.lookup k = some v ∧ Dat K H d v := by
  induction h with
  | nil => cases e
  | @cons p q l m h t ih =>
    obtain ⟨p1, p2⟩ := p
    obtain ⟨q1, q2⟩ := q
    obtain ⟨h1, h2⟩ := h
    cases (show p1 = q1 from h1)
    rw [List.lookup_cons] at e ⊢
    cases z : k == p1 with
    | true =>
      rw [z] at e
      cases e
      exact ⟨q2, rfl, h2⟩
    | false =>
      rw [z] at e
      exact ih e
theorem de_xf {C : Addr} {dd : Option Addr} {fs : List (Str × D)} {xa : Addr} {y n : Str} {py : Pos} (i : Nat) (hC : ∀ j, XfC (X j).K C) (hn : ∀ j, PySem.W.findIn (X j).K (.ref C) n = some none) (hN : ∀ j, (X j).N[i]? = some y := by intro _; rfl) (hv : ∀ j, Vis (X j).env.scope y := by first | exact fun _ => Or.inl rfl | exact fun _ => Or.inr (Or.inl rfl) | exact fun _ => Or.inr (Or.inr rfl)) (hd : (y == ("__debug__" : Str)) = false := by decide)
    (hcd : (y == ("__classdict__" : Str)) = false := by decide) (hb : ∀ q : sufI ι (.ref C) dd, attributeBase (.Name y py) n (sufF X xa (.ref C) dd q).env (eval (.Name y py) (sufF X xa (.ref C) dd q).env) = eval (.Name y py) (sufF X xa (.ref C) dd q).env := by intro _; rfl) : DX (sufF X xa (.ref C) dd) K (wpS K dd fs) (.Attribute (.Name y py) n pos) (dXf i xa n fs) := by
  refine ⟨tXf xa (.ref C) dd C n (tVar i), fun q => pe_xf (hC q.1.1) (hn q.1.1) q.2.1 q.2.2 (pe_var (hN q.1.1) (hv q.1.1) hd hcd) (hb q), fun B hω F a σ H Q R ok hd k => ?_⟩
  obtain ⟨h0, hd⟩ := hd
  obtain ⟨v, h1, h2⟩ := ok.va i _ (at_of' h0 (fun z => nomatch z))
  cases (show v = .ref xa from h2)
  obtain ⟨d, e, r⟩ := opt_of hd
  rcases hω.1 with ⟨_, z⟩ | ⟨ad, vs, e1, h3, h4⟩
  · rw [z] at e
    cases e
  · obtain ⟨v, e2, h5⟩ := pk_lookup h4 e
    exact ⟨_, h1, rfl, rfl, ad, vs, v, e1, ok.fi.fh _ _ (ok.fi.ff _ _ h3), e2, k v d F a H (.refl ok) (h5.mono ok.fi.ff) r⟩
end
/-! ### classes of the text -/
def putFA (f : Str) (d : D) : List (Str × D) → List (Str × D)
  | [] => [(f, d)]
  | (g, e) :: r => if g = f then (g, d) :: r else (g, e) :: putFA f d r
section
variable {K : PySem.W.Frag} {ω : Wp} {B : Bs K} {F F' F1 F2 G : Hp} {a a' a1 a2 : AS} {σ σ' : St} {H H' H1 H2 : Hp} {n : Int} {te : TE} {de da db dc : DEt} {ι : Type} {X : ι → Cx} {e e1 e2 e3 o : Expr} {es : List Expr} {pos : Pos} {dt : DTt} {dl dm : DAt}
theorem pk_putF {f : Str} {d : D} {v : V} {fs : List (Str × D)} {vs : List (Str × V)} (h : PK K H fs vs) (hv : Dat K H d v) : PK K H (putFA f d fs) (putF f v vs) := by
  induction h with
  | nil => rw [L2.putF.eq_1]; exact .cons ⟨rfl, hv⟩ .nil
  | @cons p q l m h t ih =>
    obtain ⟨p1, p2⟩ := p
    obtain ⟨q1, q2⟩ := q
    obtain ⟨h1, h2⟩ := h
    cases (show p1 = q1 from h1)
    rw [L2.putF.eq_2]
    unfold putFA
    by_cases z : p1 = f
    · rw [if_pos z, if_pos z]
      exact .cons ⟨rfl, hv⟩ t
    · rw [if_neg z, if_neg z]
      exact .cons ⟨rfl, h2⟩ ih
theorem pk_lookup0 {κ : Type} [BEq κ] {kvs : List (κ × D)} {vs : List (κ × V)} (h : PK K H kvs vs) {k : κ} (e : kvs.lookup k = none) : vs.lookup k = none := by
  induction h with
  | nil => rfl
  | @cons p q l m h t ih =>
    obtain ⟨p1, p2⟩ := p
    obtain ⟨q1, q2⟩ := q
    obtain ⟨h1, h2⟩ := h
    cases (show p1 = q1 from h1)
    rw [List.lookup_cons] at e ⊢
    cases z : k == p1 with
    | true => rw [z] at e; cases e
    | false => rw [z] at e; exact ih e
theorem prt_ins {sp : Option Addr} {C : Addr} {fs : List (Str × D)} {x : V} (s : Same F H) (h : PrtS K sp F H (.ins C fs) x) : ∃ p dx vs, x = .ref p ∧ H p = some (.ins C dx vs) ∧ PK K F fs vs := by
  rcases h with ⟨p, dx, vs, rfl, h1, h2⟩ | ⟨p, o, rfl, h1, _, dx, vs, rfl, h2⟩
  · exact ⟨p, dx, vs, rfl, s _ _ h1, datS_pk.mp h2⟩
  · exact ⟨p, dx, vs, rfl, h1, datS_pk.mp h2⟩
/-- e.f -/
def dFld (C : Addr) (f : Str) (de : DEt) : DEt := fun a R => de a fun d a' => match d with
  | .ins C' fs => C' = C ∧ opt (fs.lookup f) fun v => R v a'
  | _ => False
theorem de_fld {C : Addr} {f : Str} (hC : Cls K C) (hn : NoAttr K C f) (h : DPS X K ω e de) (hb : ∀ j, attributeBase e f (X j).env (eval e (X j).env) = eval e (X j).env := by intro _; rfl) (hK : ∀ j, (X j).K = K := by intro _; rfl) : DX X K ω (.Attribute e f pos) (dFld C f de) := by
  obtain ⟨t, p, l⟩ := h
  refine ⟨tFld K t f, fun j => by rw [← hK j]; exact pe_fld (p j) (hb j), fun B hω F a σ H Q R ok hd k => l B hω F a σ H _ _ ok hd fun v d F1 a1 H1 g1 q1 r1 => ?_⟩
  cases d with
  | ins C' fs =>
    obtain ⟨rfl, r⟩ := r1
    obtain ⟨p, dx, vs, rfl, h1, h2⟩ := prt_ins g1.ok.fi.fh q1
    obtain ⟨d, e1, r⟩ := opt_of r
    obtain ⟨v, e2, h3⟩ := pk_lookup h2 e1
    exact ⟨p, C', dx, vs, v, rfl, h1, hC, hn, e2, k v d F1 a1 H1 g1 h3 r⟩
  | _ => exact r1.elim
/-- self.f = e, self one's own -/
def dFldO (C : Addr) (i : Nat) (f : Str) (de : DEt) : DSt := fun E a => de a fun d a1 => match a1.at i with
  | .own (.ins C' fs) => C' = C ∧ fs.length < 1000 ∧ E.nx (a1.put i (.own (.ins C (putFA f d fs))))
  | _ => False
theorem ds_fldO {C : Addr} {i : Nat} {x f : Str} {px pos' : Pos} {value : Expr} (hC : Cls K C) (hn : NoAttr K C f) (ho : ∀ j, PE (X j) (.Name x px) (tVar i)) (hv : DX X K ω value de) (hs : ∀ j, swapsWith value (some (.Attribute (.Name x px) f pos')) pos.line (X j).env = pure false := by intro _; rfl) (hK : ∀ j, (X j).K = K := by intro _; rfl) :
    DS X K ω (.Assign [.Attribute (.Name x px) f pos'] value pos) (dFldO C i f de) := by
  obtain ⟨t, p, l⟩ := hv
  refine ⟨sFld K (tVar i) t f, fun j => by rw [← hK j]; exact ps_fld (ho j) (p j) (hs j), fun B hω E DE F a σ H ok hd k => l B hω F a σ H _ _ ok hd fun v d F1 a1 H1 g1 q1 r1 => ?_⟩
  split at r1
  · rename_i C' fs es
    obtain ⟨rfl, hl, r⟩ := r1
    have es' := at_of' es (fun z => nomatch z)
    obtain ⟨p, o, h1, h2, h3, h4, dx, vs, rfl, h5⟩ := g1.ok.ow i _ es'
    have h6 := datS_pk.mp h5
    exact ⟨_, h1, p, C', dx, vs, rfl, h2, hC, hn, by rw [pk_len h6]; exact hl, k.nx F1 _ σ _ (g1.ok.chg (e := .ins C' (putFA f d fs)) es' h1 ⟨dx, _, rfl, datS_pk.mpr (pk_putF h6 q1)⟩) g1.ff r⟩
  · exact r1.elim
/-- an object of the class whose own dict has no m -/
def isI (C : Addr) (m : Str) : D → Prop
  | .ins C' fs => C' = C ∧ fs.lookup m = none
  | _ => False
theorem isI_dat {C : Addr} {m : Str} {d : D} {x : V} (s : Same F H) (h : Dat K F d x) (i : isI C m d) : ∃ p dx vs, x = .ref p ∧ H p = some (.ins C dx vs) ∧ vs.lookup m = none := by
  cases d with
  | ins C' fs =>
    obtain ⟨rfl, e⟩ := i
    obtain ⟨p, dx, vs, rfl, h1, h2⟩ := h
    exact ⟨p, dx, vs, rfl, s _ _ h1, pk_lookup0 (datS_pk.mp h2) e⟩
  | _ => exact i.elim
def dMeth (C : Addr) (m : Str) (dsp : DSp) (de : DEt) (dl : DAt) : DEt := fun a R => de a fun d a1 => isI C m d ∧ dl a1 fun ds a2 => dsp none (d :: ds) 0 fun x _ => R x a2
def dMethX (W : DWt) (C : Addr) (m : Str) (dsp : DSpX) (de : DEt) (dl : DAt) : DEt := fun a R => de a fun d a1 => isI C m d ∧ dl a1 fun ds a2 => dsp none (d :: ds) 0 (fun x _ => R x a2) fun C fs _ => W C fs a2.sl a2.n
/-- what is behind a call without the source, seen from here -/
theorem Go.call0 (ok : Ok B F a σ H) (x1 : Same F F') (x2 : Same F' H') (x3 : ∀ b o, none ≠ some b → H b = some o → H' b = some o) (x4 : ∀ b, F' b ≠ none → F b ≠ none ∨ H b = none ∨ ImmA F' b) : Go B σ F a H F' a H' := by
  have hh : Same H H' := fun b o h => x3 b o (fun z => nomatch z) h
  refine Go.call ok x1 x2 (fun b o _ h => hh b o h) x4 fun p e => ?_
  obtain ⟨y1, y2, y3⟩ := ok.fi.sr p e
  refine ⟨?_, y3.same hh⟩
  cases q : F' p with
  | none => rfl
  | some u =>
    rcases x4 p (by rw [q]; exact fun z => (nomatch z)) with w | w | ⟨o', w1, w2⟩
    · exact absurd y1 w
    · obtain ⟨xs, z⟩ := y3.at
      rw [z] at w
      cases w
    · obtain ⟨xs, z⟩ := (y3.same hh).at
      rw [x2 p o' w1] at z
      cases z
      cases w2
section
variable {CX : CXT} {k : Nat} {f C : Addr} {fd : FuncData} {ps : List Str} {s : Sp} {dsp : DSp} {dspX : DSpX} {E : XK} {m : Str} {apos : Pos} {pl : ι → Sem Bool}
theorem le_meth {te : TE} {ta : TA} (mo : Mon dsp) (u : Ups K s dsp) (l1 : LE K ω te de) (l2 : LAE K ω ta dl) : LE K ω (tMeth C m s [] E te ta) (dMeth C m dsp de dl) := fun B hω F a σ H Q R ok hd k => l1 B hω F a σ H _ _ ok hd fun v d F1 a1 H1 g1 q1 r1 => by
  obtain ⟨p, dx, vs0, rfl, h1, h2⟩ := isI_dat g1.ok.fi.fh q1 r1.1
  refine ⟨p, dx, vs0, rfl, h1, h2, l2 B hω F1 a1 σ H1 _ _ g1.ok r1.2 fun vs ds F2 a2 H2 g2 q2 r2 => ?_⟩
  rw [List.append_nil]
  refine u _ _ _ _ ⟨none, F2, d :: ds, 0, g2.ok.fi.fh, (fun p e => nomatch e), .cons (q1.mono g2.ff) q2, mo _ _ _ _ _ (fun d n' r => ?_) r2⟩
  intro v F' H' x1 x2 x3 x4 x5 x6
  exact k v d F' a2 H' (.trans ok g1 (.trans g1.ok g2 (Go.call0 g2.ok x1 x2 x3 x4))) x6 r
theorem de_meth (mo : Mon dsp) (u : Ups K s dsp) (ho : DX X K ω o de) (hC : Cls K C) (hm : Meth K C m f) (G : ∀ j, FnOk (X j).prog (X j).w (X j).K (X j).mg (X j).base CX k f fd ps s) (hr : ∀ j, Room k (X j).A) (hb : Binds K fd ps []) (hx : ∀ j, Passes CX (X j) E) (ha : DAE X K ω (e :: es) dl)
    (hK : ∀ j, (X j).K = K := by intro _; rfl) (hst : ∀ j, starEach (e :: es) (X j).env = (false, eval e (X j).env) :: starEach es (X j).env := by intro _; rfl) (hpl : ∀ j, (backTo pos (starEach es (X j).env)).any (·.1) = false := by intro _; rfl)
    (ht : ∀ j, eval (.Call (.Attribute o m apos) (e :: es) [] pos) (X j).env = (do
      let ov ← eval o (X j).env
      standAt apos.atName
      let (fv, first) ← holding [ov] (getMethod ov m (pl j))
      callWith pos fv first (backTo pos (starEach (e :: es) (X j).env)) (backToKw pos (keywordEach [] (X j).env))) := by intro _; rfl) :
    DX X K ω (.Call (.Attribute o m apos) (e :: es) [] pos) (dMeth C m dsp de dl) := by
  obtain ⟨te, p1, l1⟩ := ho
  obtain ⟨ta, p2, l2⟩ := ha
  exact ⟨_, fun j => pe_meth (p1 j) (by rw [hK j]; exact hC) (by rw [hK j]; exact hm) (G j) (hr j) (by rw [hK j]; exact hb) .nil (hx j) (p2 j) (hst j) (hpl j) (ht j), le_meth mo u l1 l2⟩
theorem de_meth0 (mo : Mon dsp) (u : Ups K s dsp) (ho : DX X K ω o de) (hC : Cls K C) (hm : Meth K C m f) (G : ∀ j, FnOk (X j).prog (X j).w (X j).K (X j).mg (X j).base CX k f fd ps s) (hr : ∀ j, Room k (X j).A) (hb : Binds K fd ps []) (hx : ∀ j, Passes CX (X j) E)
    (hK : ∀ j, (X j).K = K := by intro _; rfl)
    (ht : ∀ j, eval (.Call (.Attribute o m apos) [] [] pos) (X j).env = (do
      let ov ← eval o (X j).env
      standAt apos.atName
      let (fv, first) ← holding [ov] (getMethod ov m (pl j))
      callWith pos fv first (backTo pos (starEach [] (X j).env)) (backToKw pos (keywordEach [] (X j).env))) := by intro _; rfl) :
    DX X K ω (.Call (.Attribute o m apos) [] [] pos) (dMeth C m dsp de dNil) := by
  obtain ⟨te, p1, l1⟩ := ho
  exact ⟨_, fun j => pe_meth0 (p1 j) (by rw [hK j]; exact hC) (by rw [hK j]; exact hm) (G j) (hr j) (by rw [hK j]; exact hb) .nil (hx j) (ht j), le_meth mo u l1 fun B hω F a σ H Q R ok hd k => k [] [] F a H (.refl ok) rfl hd⟩
theorem de_methX (mo : MonX dspX) (u : UpsX K s dspX) (ho : DX X K ω o de) (hC : Cls K C) (hm : Meth K C m f) (G : ∀ j, FnOk (X j).prog (X j).w (X j).K (X j).mg (X j).base (L2.CX (X j).prog (X j).w) k f fd ps s) (hr : ∀ j, Room k (X j).A) (hb : Binds K fd ps []) (tk : ∀ j, Takes (X j) ω.W) (ha : DAE X K ω (e :: es) dl)
    (hK : ∀ j, (X j).K = K := by intro _; rfl) (hst : ∀ j, starEach (e :: es) (X j).env = (false, eval e (X j).env) :: starEach es (X j).env := by intro _; rfl) (hpl : ∀ j, (backTo pos (starEach es (X j).env)).any (·.1) = false := by intro _; rfl)
    (ht : ∀ j, eval (.Call (.Attribute o m apos) (e :: es) [] pos) (X j).env = (do
      let ov ← eval o (X j).env
      standAt apos.atName
      let (fv, first) ← holding [ov] (getMethod ov m (pl j))
      callWith pos fv first (backTo pos (starEach (e :: es) (X j).env)) (backToKw pos (keywordEach [] (X j).env))) := by intro _; rfl) :
    DX X K ω (.Call (.Attribute o m apos) (e :: es) [] pos) (dMethX ω.dW C m dspX de dl) := by
  obtain ⟨te, p1, l1⟩ := ho
  obtain ⟨ta, p2, l2⟩ := ha
  refine ⟨_, fun j => pe_methE (p1 j) (by rw [hK j]; exact hC) (by rw [hK j]; exact hm) (G j) (hr j) (by rw [hK j]; exact hb) (passAt (tk j)) (p2 j) (hst j) (hpl j) (ht j), fun B hω F a σ H Q R ok hd k => l1 B hω F a σ H _ _ ok hd fun v d F1 a1 H1 g1 q1 r1 => ?_⟩
  obtain ⟨p, dx, vs0, rfl, h1, h2⟩ := isI_dat g1.ok.fi.fh q1 r1.1
  refine ⟨p, dx, vs0, rfl, h1, h2, l2 B hω F1 a1 σ H1 _ _ g1.ok r1.2 fun vs ds F2 a2 H2 g2 q2 r2 => ?_⟩
  refine u _ _ _ _ ⟨none, F2, d :: ds, 0, g2.ok.fi.fh, (fun p e => nomatch e), .cons (q1.mono g2.ff) q2, mo _ _ _ _ _ _ _ (fun d n' r => ?_) (fun C fs n' r => ?_) r2⟩
  · intro v F' H' x1 x2 x3 x4 x5 x6
    exact k v d F' a2 H' (.trans ok g1 (.trans g1.ok g2 (Go.call0 g2.ok x1 x2 x3 x4))) x6 r
  · intro dd F' H' x1 x2 x3 x4 x5 x6
    exact hω.2.2 F' a2 σ H' C dd fs (Go.call0 g2.ok x1 x2 x3 x4).ok x6 r
/-- a property -/
def dProp (C : Addr) (dsp : DSp) (de : DEt) : DEt := fun a R => de a fun d a1 => isC C d ∧ dsp none [d] 0 fun x _ => R x a1
where isC (C : Addr) : D → Prop
  | .ins C' _ => C' = C
  | _ => False
theorem de_prop {p g : Addr} {f : Str} (mo : Mon dsp) (u : Ups K s dsp) (ho : DX X K ω e de) (hC : Cls K C) (hp : PropOf K C f p g) (G : ∀ j, FnOk (X j).prog (X j).w (X j).K (X j).mg (X j).base CX k g fd ps s) (hr : ∀ j, Room (k + 1) (X j).A) (hb : Binds K fd ps []) (hx : ∀ j, Passes CX (Cx.nox (X j)) E)
    (hba : ∀ j, attributeBase e f (X j).env (eval e (X j).env) = eval e (X j).env := by intro _; rfl) (hK : ∀ j, (X j).K = K := by intro _; rfl) : DX X K ω (.Attribute e f pos) (dProp C dsp de) := by
  obtain ⟨te, p1, l1⟩ := ho
  refine ⟨_, fun j => pe_prop (p1 j) (by rw [hK j]; exact hC) (by rw [hK j]; exact hp) (G j) (hr j) (by rw [hK j]; exact hb) .nil (hx j) (hba j), fun B hω F a σ H Q R ok hd k => l1 B hω F a σ H _ _ ok hd fun v d F1 a1 H1 g1 q1 r1 => ?_⟩
  cases d with
  | ins C' fs =>
    obtain ⟨hc, r1⟩ := r1
    have hc : C' = C := hc
    subst hc
    obtain ⟨p, dx, vs, rfl, h1, h2⟩ := q1
    refine ⟨p, dx, vs, rfl, g1.ok.fi.fh _ _ h1, u _ _ _ _ ⟨none, F1, [.ins C' fs], 0, g1.ok.fi.fh, (fun p e => nomatch e), .cons ⟨p, dx, vs, rfl, h1, h2⟩ .nil, mo _ _ _ _ _ (fun d n' r => ?_) r1⟩⟩
    intro v F' H' x1 x2 x3 x4 x5 x6
    exact k v d F' a1 H' (.trans ok g1 (Go.call0 g1.ok x1 x2 x3 x4)) x6 r
  | _ => exact r1.1.elim
end
end
/-! making an object: the promise of an __init__ -/
/-- behind an __init__ that ends: the object at x -/
def PostI (K : PySem.W.Frag) (F H : Hp) (x : Addr) (Q : VK) (d : D) (_ : Int) : Prop := ∀ (F' H' : Hp), Same F F' → Same F' H' → Same H H' → (∀ b, F' b ≠ none → F b ≠ none ∨ H b = none ∨ ImmA F' b) → Dat K F' d (.ref x) → Q .non H'
def upI (K : PySem.W.Frag) (C : Addr) (dsp : DSpX) : Sp := fun vs H Q E => ∃ (x dx : Addr) (us : List V) (H1 F : Hp) (ds : List D), vs = .ref x :: us ∧ H = upd (upd H1 dx (.own x)) x (.ins C dx []) ∧ H1 x = none ∧ H1 dx = none ∧ dx ≠ x ∧ Same F H1 ∧ DatL K F ds us ∧ dsp none ds 0 (PostI K F H1 x Q) (PostX K none F H1 E)
theorem upI_len {K : PySem.W.Frag} {C : Addr} {dsp : DSpX} {m : Nat} (h : ∀ sp ds n R RX, dsp sp ds n R RX → ds.length = m) (vs : List V) (H : Hp) (Q : VK) (E : XK) : upI K C dsp vs H Q E → vs.length = m + 1 := fun ⟨x, dx, us, H1, F, ds, e, _, _, _, _, _, L, q⟩ => by
  rw [e, List.length_cons, L.len, h _ _ _ _ _ q]
def wpI (K : PySem.W.Frag) (F H : Hp) (E : XK) : Wp := ⟨fun cls dd _ H' => E cls dd H', fun C fs _ n => PostX K none F H E C fs n, fun _ => True, true⟩
def dstartI (N : List Str) (C : Addr) (ds : List D) : List Sl := .own (.ins C []) :: ds.map Sl.val ++ List.replicate (N.length - (ds.length + 1)) .emp
theorem d_runI {K : PySem.W.Frag} {C x dx : Addr} {F H1 H : Hp} {ds : List D} {us : List V} {Q : VK} {E : XK} {X : Cx} {body : List Stmt} {N : List Str} {d : DSt} (h : DSs (fun _ : Unit => X) K (wpI K F H1 E) body d) (hH : H = upd (upd H1 dx (.own x)) x (.ins C dx [])) (hx : H1 x = none) (hdx : H1 dx = none) (hne : dx ≠ x) (s : Same F H1) (L : DatL K F ds us)
    {sl : List Sl} (hsl : sl = dstartI N C ds) (hd : d { nx := fun a => ∃ fs, a.at 0 = .own (.ins C fs) ∧ PostI K F H1 x Q (.ins C fs) 0, rt := fun _ _ => False } ⟨sl, 0, none⟩) : ∃ t, PSs X body t ∧ t { nx := fun _ H' => Q .non H', rt := Q } (L2.start N (.ref x :: us)) H := by
  obtain ⟨t, p, l⟩ := h
  subst hsl hH
  have sH : Same H1 (upd (upd H1 dx (.own x)) x (.ins C dx [])) := (Same.new hdx).trans (Same.new (by rw [upd_ne (Ne.symm hne)]; exact hx))
  have hl := L.len
  have ok : Ok (K := K) ⟨none, H1, F, some x⟩ F ⟨dstartI N C ds, 0, none⟩ (L2.start N (.ref x :: us)) (upd (upd H1 dx (.own x)) x (.ins C dx [])) := by
    have own : ∀ {i : Nat} {d : D}, (dstartI N C ds)[i]? = some (Sl.own d) → i = 0 ∧ d = .ins C [] := fun {i d} e => by
      unfold dstartI at e
      cases i with
      | zero => exact ⟨rfl, by cases e; rfl⟩
      | succ i =>
        rw [List.cons_append, List.getElem?_cons_succ] at e
        rcases List.mem_append.mp (List.mem_of_getElem? e) with q | q
        · obtain ⟨y, _, z⟩ := List.mem_map.mp q
          cases z
        · cases (List.mem_replicate.mp q).2
    have hF : F x = none := by
      cases e : F x with
      | none => rfl
      | some u => rw [s _ _ e] at hx; cases hx
    refine ⟨⟨s.trans sH, Same.refl F, fun b h => .inl h, fun b o h _ => sH _ _ h, (fun p e => nomatch e)⟩, rfl, ?_, fun i d e => ?_, fun i d e => ?_, fun i j p d e h1 h2 _ _ => ?_, fun y e => ?_⟩
    · unfold dstartI L2.start
      simp only [List.length_append, List.length_map, List.length_replicate, List.length_cons, hl]
    · unfold dstartI at e
      cases i with
      | zero => cases e
      | succ i =>
        rw [List.cons_append, List.getElem?_cons_succ] at e
        by_cases hi : i < ds.length
        · rw [List.getElem?_append_left (by rw [List.length_map]; exact hi), List.getElem?_map] at e
          obtain ⟨y, h1, h2⟩ := Option.map_eq_some_iff.mp e
          cases h2
          obtain ⟨v, h3, h4⟩ := L.get h1
          refine ⟨v, ?_, h4⟩
          unfold L2.start
          rw [List.map_cons, List.cons_append, List.getElem?_cons_succ, List.getElem?_append_left (by rw [List.length_map, hl]; exact hi), List.getElem?_map, h3]
          rfl
        · rw [List.getElem?_append_right (by rw [List.length_map]; omega)] at e
          cases (List.mem_replicate.mp (List.mem_of_getElem? e)).2
    · obtain ⟨rfl, rfl⟩ := own e
      exact ⟨x, _, rfl, upd_same, hF, hx, dx, [], rfl, rfl⟩
    · rw [(own h1).1, (own h2).1]
    · cases e
      rfl
  refine ⟨t, p (), l ⟨none, H1, F, some x⟩ ⟨trivial, (fun z => nomatch z), fun F' a σ' H' C dd fs ok x w => ?_⟩ _ _ F _ _ _ ok hd ⟨fun F' a' σ' H' ok s h => ?_, fun v d n F' H' f s q h => h.elim, fun _ _ _ _ _ _ h => h.elim, fun _ _ _ _ _ _ h => h.elim⟩⟩
  · exact w dd F' H' ok.fi.ff ok.fi.fh (fun b o n h => ok.fi.fm b o h n) (fun b h => ok.fi.fr b h) (fun p e => nomatch e) x
  · obtain ⟨fs, e, k⟩ := h
    obtain ⟨p, o, h1, h2, h3, g⟩ := ok.own (at_of' e (fun z => nomatch z))
    have h4 := ok.fx x rfl
    rw [h4] at h1
    cases h1
    exact k _ H' (s.trans g.ff) g.ok.fi.fh (fun b o h => ok.fi.fm b o h (fun z => nomatch z)) (fun b h => g.ok.fi.fr b h) ((h3.mono g.ff).dat upd_same)
section
variable {K : PySem.W.Frag} {ω : Wp} {B : Bs K} {F F' F1 F2 G : Hp} {a a' a1 a2 : AS} {σ σ' : St} {H H' H1 H2 : Hp} {n : Int} {te : TE} {de da db dc : DEt} {ι : Type} {X : ι → Cx} {e e1 e2 e3 o : Expr} {es : List Expr} {pos : Pos} {dt : DTt} {dl dm : DAt} {k : Nat} {f C : Addr} {fd : FuncData} {ps : List Str} {s : Sp} {dsp : DSpX} {E : XK} {m x : Str} {p : Pos} {dvs : List V} {dds : List D} {bs : List Value}
def UpsI (K : PySem.W.Frag) (C : Addr) (sp : Sp) (dsp : DSpX) : Prop := ∀ vs H Q E, upI K C dsp vs H Q E → sp vs H Q E
theorem UpsI.rfl : UpsI K C (upI K C dsp) dsp := fun _ _ _ _ h => h
/-- C(..); dds the defaults -/
theorem le_make {ta : TA} (mo : MonX dsp) (u : UpsI K C s dsp) (l : LAE K ω ta dl) (hd0 : ∀ H, DatL K H dds dvs) : LE K ω (tMakeS C s dvs (fun σ => WE ω.W σ) ta) (dCallX0 ω.dW (fun sp ds n R RX => dsp sp (ds ++ dds) n R RX) dl) := fun B hω F a σ H Q R ok hd k => l B hω F a σ H _ _ ok hd fun vs ds F1 a1 H1 g1 q1 r1 => by
  intro x dx hx hdx hne
  refine u _ _ _ _ ⟨x, dx, vs ++ dvs, H1, F1, ds ++ dds, rfl, rfl, hx, hdx, hne, g1.ok.fi.fh, q1.app (hd0 _), mo _ _ _ _ _ _ _ (fun d n' r => ?_) (fun C fs n' r => ?_) r1⟩
  · intro F' H' x1 x2 x3 x4 x5
    exact ⟨rfl, k _ d F' a1 H' (.trans ok g1 (Go.call0 g1.ok x1 x2 (fun b o _ h => x3 b o h) x4)) x5 r⟩
  · intro dd F' H' x1 x2 x3 x4 x5 x6
    exact hω.2.2 F' a1 σ H' C dd fs (Go.call0 g1.ok x1 x2 x3 x4).ok x6 r
theorem de_make (mo : MonX dsp) (u : UpsI K C s dsp) (M : Mk K C f) (G : ∀ j, FnOk (X j).prog (X j).w (X j).K (X j).mg (X j).base (L2.CX (X j).prog (X j).w) k f fd ps s) (hr : ∀ j, Room (k + 1) (X j).A) (hg : ∀ j, Gl (X j) x) (hm : ∀ j, (X j).mg x = some (.ref C)) (hb : Binds K fd ps bs) (hv : Vals dvs bs) (hd0 : ∀ H, DatL K H dds dvs) (tk : ∀ j, Takes (X j) ω.W) (ha : DAE X K ω (e :: es) dl)
    (hdb : (x == ("__debug__" : Str)) = false := by decide) (he : ∀ j, starEach (e :: es) (X j).env = (false, eval e (X j).env) :: starEach es (X j).env := by intro _; rfl) (hpl : ∀ j, (backTo pos (starEach es (X j).env)).any (·.1) = false := by intro _; rfl) (hK : ∀ j, (X j).K = K := by intro _; rfl) :
    DX X K ω (.Call (.Name x p) (e :: es) [] pos) (dCallX0 ω.dW (fun sp ds n R RX => dsp sp (ds ++ dds) n R RX) dl) := by
  obtain ⟨t, h, l⟩ := ha
  exact ⟨_, fun j => pe_makeS (by rw [hK j]; exact M) (G j) (hr j) (hg j) (hm j) (by rw [hK j]; exact hb) hv (passAt (tk j)) (h j) hdb (he j) (hpl j), le_make mo u l hd0⟩
end
section
variable {K : PySem.W.Frag} {ω : Wp} {B : Bs K} {F F' F1 F2 G : Hp} {a a' a1 a2 : AS} {σ σ' : St} {H H' H1 H2 : Hp} {n : Int} {te : TE} {de da db dc : DEt} {ι : Type} {X : ι → Cx} {e e1 e2 o : Expr} {es : List Expr} {pos : Pos} {dt : DTt} {dl dm : DAt}
/-! more built-ins -/
/-- a sign in a text -/
def dInS : DR := fun d e R => match d, e with
  | .v (.str x), .v (.str z) => ∃ c, x = ⟨#[c]⟩ ∧ R (.v (.bl (decide (c ∈ z.cps.toList))))
  | _, _ => False
theorem dop_inS : DOpR X K ω (compareOp .In) dInS := ⟨_, fun _ => op_in_sign, lr_flat fun d e R h => by
  unfold dInS at h
  split at h
  · obtain ⟨c, rfl, h⟩ := h
    exact ⟨_, _, _, rfl, rfl, h, fun H Q q => ⟨c, _, rfl, rfl, q⟩⟩
  · exact h.elim⟩
def dDivmod : DC := fun ds R => match ds with
  | [.v (.int i), .v (.int j)] => CDivP i j ∧ R (.tup [.v (.int (i / j)), .v (.int (i % j))])
  | _ => False
theorem dc_divmod : DCl X K ω (.builtin "divmod") dDivmod := ⟨_, fun _ => call_divmodW, fun B hω F a σ H xs ds Q R ok hx hd k => by
  unfold dDivmod at hd
  split at hd
  · rename_i i j
    cases datL_flat (xs := [.int i, .int j]) hx
    refine ⟨i, j, rfl, hd.1, fun p hp => ?_⟩
    have g := ok.new (o := .tup [.int (i / j), .int (i % j)]) hp
    exact k _ (.tup [.v (.int (i / j)), .v (.int (i % j))]) _ _ g ⟨p, _, rfl, upd_same, .cons rfl (.cons rfl .nil)⟩ hd.2
  · exact hd.elim⟩
def kD : Key → D
  | .inl i => .v (.int i)
  | .inr x => .v (.str x)
theorem dat_kD {k : Key} : Dat K H (kD k) (kV k) := by
  cases k <;> rfl
theorem dat_keys : ∀ {kvs : List (Key × D)}, DatL K H (kvs.map fun p => kD p.1) (kvs.map fun p => kV p.1)
  | [] => rfl
  | _ :: _ => .cons dat_kD dat_keys
/-- tuple(d): its keys -/
def dTupD : DC := fun ds R => match ds with
  | [.dK kvs] => R (.ftup (kvs.map fun p => kD p.1))
  | _ => False
theorem dc_tupleD (hc : ∀ j, (X j).calm = true) : DCl X K ω (.type "tuple") dTupD := ⟨_, fun j => call_tupleD (hc j), fun B hω F a σ H xs ds Q R ok hx hd k => by
  unfold dTupD at hd
  split at hd
  · rename_i kvs
    obtain ⟨v, r, rfl, ⟨p, vs, rfl, h1, h2⟩, h3⟩ := hx
    cases (show r = [] from h3)
    refine ⟨p, vs, rfl, .inl (hs_same _ _ h1), fun q o hq hod => ?_⟩
    have e : vs.map (fun kv => kV kv.1) = kvs.map fun kv => kV kv.1 := by
      have := pk_keys (datK_pk.mp h2)
      have e2 := congrArg (List.map kV) this
      rw [List.map_map, List.map_map] at e2
      exact e2
    rw [e]
    have g := ok.new (o := .frz o (.tup (kvs.map fun kv => kV kv.1))) hq
    exact k _ (.ftup (kvs.map fun p => kD p.1)) _ _ g ⟨q, _, rfl, ⟨o, upd_same, hod⟩, dat_keys⟩ hd
  · exact hd.elim⟩
/-- str(i) -/
def dStrI : DC := fun ds R => match ds with
  | [.v (.int i)] => Nat.log2 i.natAbs < 1920 ∧ R (.v (.str (Str.ofString (toString i))))
  | _ => False
theorem dc_str : DCl X K ω (.type "str") dStrI := dc_flat (fun _ => call_str_int) fun ds R h => by
  unfold dStrI at h
  split at h
  · exact ⟨[.int _], _, rfl, h.2, fun H Q q => ⟨_, rfl, h.1, q⟩⟩
  · exact h.elim
def dBool1 : DC := fun ds R => match ds with
  | [.v (.int i)] => R (.v (.bl (i != 0)))
  | [.v (.bl b)] => R (.v (.bl b))
  | _ => False
theorem dc_bool : DCl X K ω (.type "bool") dBool1 := dc_flat (fun _ => call_bool1) fun ds R h => by
  unfold dBool1 at h
  split at h
  · exact ⟨[.int _], _, rfl, h, fun H Q q => .inl ⟨_, rfl, q⟩⟩
  · exact ⟨[.bl _], _, rfl, h, fun H Q q => .inr ⟨_, rfl, q⟩⟩
  · exact h.elim
/-- min, max, sum of a list of ints -/
def dIs (P : List Int → Prop) (Po : List Int → Int → Prop) : DC := fun ds R => match ds with
  | [.lst es] => (match unI es with
    | some xs => P xs ∧ ∀ m, Po xs m → R (.v (.int m))
    | none => False)
  | _ => False
theorem is_of {r : List V → Hp → VK → Prop} {P : List Int → Prop} {Po : List Int → Int → Prop} (h : ∀ a xs H Q, SqL K H a (xs.map V.int) → P xs → (∀ m, Po xs m → Q (V.int m) H) → r [.ref a] H Q) : LCl K ω r (dIs P Po) := fun B hω F a σ H xs ds Q R ok hx hd k => by
  unfold dIs at hd
  split at hd
  · rename_i es
    split at hd
    · rename_i ys e
      obtain ⟨v, r, rfl, h1, h2⟩ := hx
      cases (show r = [] from h2)
      obtain ⟨q, ws, rfl, h3, h4⟩ := h1
      rw [unI_of e] at h4
      cases datL_flat h4
      exact h q ys H Q (SqL.of (hs_same _ _ h3)) hd.1 fun m hm => k _ (.v _) F H (.refl ok) rfl (hd.2 m hm)
    · exact hd.elim
  · exact hd.elim
theorem dc_min (hc : ∀ j, (X j).calm = true) (hK : ∀ j, (X j).K = K := by intro _; rfl) : DCl X K ω (.builtin "min") (dIs (fun xs => 0 < xs.length) fun xs m => m ∈ xs ∧ ∀ y ∈ xs, m ≤ y) := ⟨rMin K, fun j => by rw [← hK j]; exact cr_min (hc j), is_of fun a xs H Q h p q => ⟨a, xs, rfl, h, p, fun m h1 h2 => q m ⟨h1, h2⟩⟩⟩
theorem dc_max (hc : ∀ j, (X j).calm = true) (hK : ∀ j, (X j).K = K := by intro _; rfl) : DCl X K ω (.builtin "max") (dIs (fun xs => 0 < xs.length) fun xs m => m ∈ xs ∧ ∀ y ∈ xs, y ≤ m) := ⟨rMax K, fun j => by rw [← hK j]; exact cr_max (hc j), is_of fun a xs H Q h p q => ⟨a, xs, rfl, h, p, fun m h1 h2 => q m ⟨h1, h2⟩⟩⟩
theorem dc_sum (hc : ∀ j, (X j).calm = true) (hK : ∀ j, (X j).K = K := by intro _; rfl) : DCl X K ω (.builtin "sum") (dIs (fun _ => True) fun xs m => m = xs.sum) := ⟨rSum K, fun j => by rw [← hK j]; exact cr_sum (hc j), is_of fun a xs H Q h p q => ⟨a, xs, rfl, h, q _ rfl⟩⟩
/-- sorted(texts): a list, or a dict's keys -/
def dSortS : DC := fun ds R => match ds with
  | [.lst es] => (match unS es with
    | some xs => xs.length < 64 ∧ ∀ ys : List Str, ys.Perm xs → PyProof.Rows.sortedS ys = true → R (.lst (ys.map fun y => D.v (V.str y)))
    | none => False)
  | [.dK kvs] => (match unS (kvs.map fun p => kD p.1) with
    | some xs => xs.length < 64 ∧ ∀ ys : List Str, ys.Perm xs → PyProof.Rows.sortedS ys = true → R (.lst (ys.map fun y => D.v (V.str y)))
    | none => False)
  | _ => False
theorem kD_str : ∀ {kvs : List (Key × D)} {xs : List Str}, unS (kvs.map fun p => kD p.1) = some xs → kvs.map (·.1) = xs.map Sum.inr
  | [], xs, h => by cases h; rfl
  | (.inl i, d) :: kvs, xs, h => nomatch h
  | (.inr x, d) :: kvs, xs, h => by
    obtain ⟨ys, h1, rfl⟩ := Option.map_eq_some_iff.mp (show (unS (kvs.map fun p => kD p.1)).map (x :: ·) = some xs from h)
    rw [List.map_cons, List.map_cons, kD_str h1]
theorem do_sorted {x : Str} {p : Pos} (hc : ∀ j, (X j).calm = true) (hg : ∀ j, Gl (X j) x) (hm : ∀ j, (X j).mg x = none) (hv : bootBuiltins x = some (.builtin "sorted")) (ha : DAB X K ω (e :: es) dl) (hn : x ≠ "__name__" := by decide) (hdb : (x == ("__debug__" : Str)) = false := by decide)
    (he : ∀ j, starEach (e :: es) (X j).env = (false, eval e (X j).env) :: starEach es (X j).env := by intro _; rfl) (hpl : ∀ j, (backTo pos (starEach es (X j).env)).any (·.1) = false := by intro _; rfl) (hK : ∀ j, (X j).K = K := by intro _; rfl) : DO X K ω (.Call (.Name x p) (e :: es) [] pos) (dCB dSortS dl) := by
  obtain ⟨t, h2, l2⟩ := ha
  refine ⟨tCB (fun xs H Q => rSortedS K xs H Q ∨ ∃ (a : Addr) (kvs : List (Key × V)) (ks : List Str), xs = [.ref a] ∧ Rd H a (.dK kvs) ∧ kvs.map (·.1) = ks.map Sum.inr ∧ ks.length < 64 ∧ ∀ (ys : List Str) (p : Addr), ys.Perm ks → PyProof.Rows.sortedS ys = true → H p = none → Q (.ref p) (upd H p (.lst (ys.map V.str)))) t, fun j => pe_callB (fun pins s σ H xs us Q I r h => h.elim (fun h => cr_sortedS pins s σ H xs us Q I r (by rw [hK j]; exact h)) fun h => call_sortedD (hc j) pins s σ H xs us Q I r h) (hg j) (hm j) hv (h2 j) hn hdb (he j) (hpl j), fun B hω F a σ H Q R ok hd k => l2 B hω F a σ H _ _ ok hd fun vs ds F1 a1 H1 g1 q1 r1 => ?_⟩
  unfold dSortS at r1
  split at r1
  · rename_i es
    split at r1
    · rename_i ys e
      obtain ⟨v, r, rfl, h1, h2⟩ := q1
      cases (show r = [] from h2)
      obtain ⟨q, ws, rfl, h3, h4⟩ := h1
      rw [unS_of e] at h4
      cases datL_flat h4
      exact .inl ⟨q, ys, rfl, SqL.of (hs_same _ _ h3), r1.1, fun zs p pm hs hp => Go.list ok g1 hp (datS zs) (r1.2 zs pm hs) k⟩
    · exact r1.elim
  · rename_i kvs
    split at r1
    · rename_i ys e
      obtain ⟨v, r, rfl, h1, h2⟩ := q1
      cases (show r = [] from h2)
      obtain ⟨q, ws, rfl, h3, h4⟩ := h1
      exact .inr ⟨q, ws, ys, rfl, .inl (hs_same _ _ h3), by rw [pk_keys (datK_pk.mp h4)]; exact kD_str e, r1.1, fun zs p pm hs hp => Go.list ok g1 hp (datS zs) (r1.2 zs pm hs) k⟩
    · exact r1.elim
  · exact r1.elim
/-! enumerate over lists and tuples, from any number on -/
def enumI (c : Int) (ds : List D) : List D := ds.zipIdx.map fun p => .tup [.v (.int (c + (p.2 : Nat))), p.1]
theorem enumI_at {ds : List D} {c : Int} {i : Nat} {d : D} (h : (enumI c ds)[i]? = some d) : ∃ x, ds[i]? = some x ∧ d = .tup [.v (.int (c + (i : Nat))), x] := by
  unfold enumI at h
  rw [List.getElem?_map, List.getElem?_zipIdx] at h
  cases e : ds[i]? with
  | none => rw [e] at h; cases h
  | some x =>
    rw [e] at h
    refine ⟨x, rfl, (Option.some.inj h).symm.trans ?_⟩
    show D.tup [.v (.int (c + ((0 + i : Nat)))), x] = _
    rw [Nat.zero_add]
theorem enumI_len {ds : List D} {c : Int} : (enumI c ds).length = ds.length := by
  unfold enumI
  rw [List.length_map, List.length_zipIdx]
theorem seqB_of {d : D} {x : V} {es : List D} (e : seqD d = some es) (s : Same G H) (h : Dat K G d x) : ∃ b p vs, x = .ref p ∧ SqB K b H p vs ∧ DatL K G es vs := by
  obtain ⟨p, vs, rfl, h1 | h1, h2⟩ := seqD_dat e s h
  · exact ⟨true, p, vs, rfl, h1, h2⟩
  · exact ⟨false, p, vs, rfl, h1, h2⟩
theorem sqB_same {b : Bool} {p : Addr} {vs : List V} (s : Same H H') (h : SqB K b H p vs) : SqB K b H' p vs := by
  cases b with
  | true => exact s.seq h
  | false => exact same_seqT s h
theorem it_enumB {b : Bool} {p : Addr} {vs : List V} {ds : List D} {c : Int} (h : SqB K b F p vs) (q : DatL K F ds vs) : ItOk K (IteB K b p c) F (enumI c ds) := fun i F1 H1 s1 s2 => by
  have S : SqB K b H1 p vs := sqB_same (s1.trans s2) h
  refine ⟨fun hi => ⟨vs, S, by rw [enumI_len] at hi; rw [q.len]; exact hi⟩, fun d e => ?_⟩
  obtain ⟨x, e1, rfl⟩ := enumI_at e
  obtain ⟨v, e2, e3⟩ := q.get e1
  refine ⟨⟨vs, v, S, e2⟩, fun y H2 ⟨T, x', h4, h5, h6, h7⟩ => .inr ⟨T, _, h5, h6, ?_⟩⟩
  have ex := h7 vs S
  rw [e2] at ex
  cases ex
  have hF : F1 T = none := by
    cases z : F1 T with
    | none => rfl
    | some u => rw [s2 _ _ z] at h5; cases h5
  exact ⟨T, _, h4, upd_same, .cons rfl (.cons ((e3.mono s1).mono (Same.new hF)) .nil)⟩
def dEnumB (dl : DAt) : DAt := fun a R => dl a fun xs a' => match xs with
  | [d] => (match seqD d with
    | some ds => R (enumI 0 ds) a'
    | none => False)
  | _ => False
theorem di_enumB {x : Expr} {p pos tpos : Pos} {elts : List Expr} {kk : Nat} (hg : ∀ j, Gl (X j) "enumerate") (hm : ∀ j, (X j).mg "enumerate" = none) (ha : DAE X K ω [x] dl) (hs : ∀ j, starEach [x] (X j).env = [(false, eval x (X j).env)] := by intro _; rfl) (hK : ∀ j, (X j).K = K := by intro _; rfl) :
    DI X K ω (.Tuple elts kk tpos) (.Call (.Name "enumerate" p) [x] [] pos) (dEnumB dl) := by
  obtain ⟨t, p1, l⟩ := ha
  refine ⟨iEnumB K t, fun j => by rw [← hK j]; exact pi_enumB (hg j) (hm j) (p1 j) (hs j), fun B hω F a σ H Q R ok hd k => l B hω F a σ H _ _ ok hd fun vs ds F' a' H' g q r => ?_⟩
  split at r
  · rename_i d
    split at r
    · rename_i ds e
      obtain ⟨v, r', rfl, h1, h2⟩ := q
      cases (show r' = [] from h2)
      obtain ⟨b, p, ws, rfl, h3, h4⟩ := seqB_of e (Same.refl F') h1
      exact ⟨b, p, ws, rfl, sqB_same g.ok.fi.fh h3, k _ _ F' a' H' g (it_enumB h3 h4) r⟩
    · exact r.elim
  · exact r.elim
/-- enumerate(x, start=k) -/
def dEnumS (dl : DAt) (dk : DEt) : DAt := fun a R => dl a fun xs a1 => dk a1 fun k a' => match xs, k with
  | [d], .v (.int c) => (match seqD d with
    | some ds => (-2 ^ 63 ≤ c ∧ c < 2 ^ 63) ∧ R (enumI c ds) a'
    | none => False)
  | _, _ => False
theorem di_enumS {x : Expr} {p pos tpos kpos : Pos} {elts : List Expr} {kk : Nat} (hg : ∀ j, Gl (X j) "enumerate") (hm : ∀ j, (X j).mg "enumerate" = none) (ha : DAE X K ω [x] dl) (hk : DX X K ω e de)
    (he : ∀ j, backTo pos (starEach [x] (X j).env) = (false, eval x (X j).env) :: backTo pos (starEach [] (X j).env) := by intro _; rfl) (hpl : ∀ j, (backTo pos (starEach [x] (X j).env)).any (fun x => x.1) = false := by intro _; rfl)
    (h1 : ∀ j, (backToKw pos (keywordEach [⟨some "start", e, kpos⟩] (X j).env)).all (fun x => x.1.isSome) = true := by intro _; rfl) (h2 : ∀ j, (backToKw pos (keywordEach [⟨some "start", e, kpos⟩] (X j).env)).any (fun x => x.1.isNone) = false := by intro _; rfl)
    (h3 : ∀ j, (backToKw pos (keywordEach [⟨some "start", e, kpos⟩] (X j).env)).filterMap (fun x => x.1) = [("start" : Str)] := by intro _; rfl) (hK : ∀ j, (X j).K = K := by intro _; rfl) :
    DI X K ω (.Tuple elts kk tpos) (.Call (.Name "enumerate" p) [x] [⟨some "start", e, kpos⟩] pos) (dEnumS dl de) := by
  obtain ⟨t, p1, l⟩ := ha
  obtain ⟨tk, p2, l2⟩ := hk
  refine ⟨iEnumS K t (tCons tk tNil), fun j => by rw [← hK j]; exact pi_enumS (hg j) (hm j) (p1 j) (pk_cons (p2 j) pk_nil) (he j) (hpl j) (h1 j) (h2 j) (h3 j), fun B hω F a σ H Q R ok hd k => l B hω F a σ H _ _ ok hd fun vs ds F1 a1 H1 g1 q1 r1 => l2 B hω F1 a1 σ H1 _ _ g1.ok r1 fun v d F2 a2 H2 g2 q2 r2 => ?_⟩
  split at r2
  · rename_i d c
    split at r2
    · rename_i ds e
      obtain ⟨v, r', rfl, h1, h2⟩ := q1
      cases (show r' = [] from h2)
      obtain ⟨b, p, ws, rfl, h3, h4⟩ := seqB_of e (Same.refl F1) h1
      have g := Go.trans ok g1 g2
      exact ⟨b, p, ws, c, rfl, by rw [show _ = _ from q2], r2.1.1, r2.1.2, sqB_same (g2.ff.trans g2.ok.fi.fh) h3, k _ _ F2 a2 H2 g (it_enumB (sqB_same g2.ff h3) (h4.mono g2.ff)) r2.2⟩
    · exact r2.elim
  · exact r2.elim
/-! dict(zip(texts, things)) -/
def dDictZip (dl : DAt) : DEt := fun a R => dl a fun ds a' => match ds with
  | [.tup xs, .tup ys] => (match unS xs with
    | some zs => zs.length ≤ 1000 ∧ R (.dK (mergeA [] ((zs.map Sum.inr).zip ys))) a'
    | none => False)
  | [.ftup xs, .tup ys] => (match unS xs with
    | some zs => zs.length ≤ 1000 ∧ R (.dK (mergeA [] ((zs.map Sum.inr).zip ys))) a'
    | none => False)
  | _ => False
theorem pk_zip : ∀ {zs : List Key} {ys : List D} {vs : List V}, DatL K H ys vs → PK K H (zs.zip ys) (zs.zip vs)
  | [], _, _, _ => by rw [List.zip_nil_left, List.zip_nil_left]; exact .nil
  | _ :: _, [], _, h => by rw [show _ = [] from h]; exact .nil
  | z :: zs, y :: ys, _, ⟨v, r, rfl, h, t⟩ => .cons ⟨rfl, h⟩ (pk_zip t)
theorem do_dictZip {p p2 q : Pos} (hg : ∀ j, Gl (X j) "dict") (hm : ∀ j, (X j).mg "dict" = none) (hg2 : ∀ j, Gl (X j) "zip") (hm2 : ∀ j, (X j).mg "zip" = none) (ha : DAE X K ω [e, e2] dl) (hc : ∀ j, (X j).calm = true := by intro _; rfl)
    (h1 : ∀ j, starEach [e, e2] (X j).env = (false, eval e (X j).env) :: starEach [e2] (X j).env := by intro _; rfl) (h2 : ∀ j, (backTo q (starEach [e2] (X j).env)).any (fun x => x.1) = false := by intro _; rfl)
    (h3 : ∀ j, starEach [.Call (.Name "zip" p2) [e, e2] [] q] (X j).env = (false, eval (.Call (.Name "zip" p2) [e, e2] [] q) (X j).env) :: starEach [] (X j).env := by intro _; rfl) (hK : ∀ j, (X j).K = K := by intro _; rfl) :
    DO X K ω (.Call (.Name "dict" p) [.Call (.Name "zip" p2) [e, e2] [] q] [] pos) (dDictZip dl) := by
  obtain ⟨t, p1, l⟩ := ha
  refine ⟨tDictZip K t, fun j => by rw [← hK j]; exact pe_dictZip (hg j) (hm j) (hg2 j) (hm2 j) (p1 j) (hc j) (h1 j) (h2 j) (h3 j), fun B hω F a σ H Q R ok hd k => l B hω F a σ H _ _ ok hd fun vs ds F1 a1 H1 g1 q1 r1 => ?_⟩
  split at r1
  · rename_i xs ys
    split at r1
    · rename_i zs ez
      obtain ⟨v, r, rfl, ⟨p, us, rfl, h1, h2⟩, w, r', rfl, ⟨p', ws, rfl, h3, h4⟩, h5⟩ := q1
      cases (show r' = [] from h5)
      rw [unS_of ez] at h2
      cases datL_flat h2
      refine ⟨p, p', zs, ws, rfl, SqT.of (g1.ok.fi.fh _ _ h1), SqT.of (g1.ok.fi.fh _ _ h3), r1.1, fun q hq => Go.newD ok g1 hq (d := .dK (mergeA [] ((zs.map Sum.inr).zip ys))) ⟨_, rfl, datK_pk.mpr (pk_merge (pk_zip h4) .nil)⟩ r1.2 k⟩
    · exact r1.elim
  · rename_i xs ys
    split at r1
    · rename_i zs ez
      obtain ⟨v, r, rfl, ⟨p, us, rfl, h1, h2⟩, w, r', rfl, ⟨p', ws, rfl, h3, h4⟩, h5⟩ := q1
      cases (show r' = [] from h5)
      rw [unS_of ez] at h2
      cases datL_flat h2
      refine ⟨p, p', zs, ws, rfl, (h1.mono g1.ok.fi.fh).sq, SqT.of (g1.ok.fi.fh _ _ h3), r1.1, fun q hq => Go.newD ok g1 hq (d := .dK (mergeA [] ((zs.map Sum.inr).zip ys))) ⟨_, rfl, datK_pk.mpr (pk_merge (pk_zip h4) .nil)⟩ r1.2 k⟩
    · exact r1.elim
  · exact r1.elim
/-! a written dict of texts to tuples of texts -/
structure TabD (K : PySem.W.Frag) (w : World) (c : Addr) (l : List (Str × List Str)) : Prop where
  at_ : ∃ es n, KDict K w c es n
  yes : ∀ (j : Nat) (nm : Str) (ps : List Str), l[j]? = some (nm, ps) → ∃ u : Addr, PySem.W.nsIn K c nm = some (some (.ref u)) ∧ ∀ H : Hp, SqT K H u (ps.map V.str)
  no : ∀ z : Str, z ∉ l.map (·.1) → PySem.W.nsIn K c z = some none
def dInG (l : List (Str × List Str)) (de : DEt) : DEt := fun a R => de a fun d a' => match d with
  | .v (.str z) => R (.v (.bl (decide (z ∈ l.map (·.1))))) a'
  | _ => False
theorem mem_map_at {l : List (Str × List Str)} {z : Str} (h : z ∈ l.map (·.1)) : ∃ (j : Nat) (ps : List Str), l[j]? = some (z, ps) := by
  obtain ⟨q, h1, rfl⟩ := List.mem_map.mp h
  obtain ⟨j, h2⟩ := List.mem_iff_getElem?.mp h1
  exact ⟨j, q.2, h2⟩
theorem le_inG {w : World} {c : Addr} {l : List (Str × List Str)} (T : TabD K w c l) {ta : TE} (h : LB K ω ta de) : LE K ω (tOp (fun x y H Q => ∃ z r, x = .str z ∧ y = .ref c ∧ PySem.W.nsIn K c z = some r ∧ Q (.bl r.isSome) H) ta (tC (.ref c))) (dInG l de) := fun B hω F a σ H Q R ok hd k => h B hω F a σ H _ _ ok hd fun x d F1 a1 H1 g1 q1 r1 => by
  split at r1
  · rename_i z
    by_cases hz : z ∈ l.map (·.1)
    · obtain ⟨j, ps, e⟩ := mem_map_at hz
      obtain ⟨u, hu, _⟩ := T.yes j z ps e
      refine ⟨z, _, q1, rfl, hu, k _ (.v _) F1 a1 H1 g1 rfl ?_⟩
      rw [decide_eq_true hz] at r1
      exact r1
    · refine ⟨z, _, q1, rfl, T.no z hz, k _ (.v _) F1 a1 H1 g1 rfl ?_⟩
      rw [decide_eq_false hz] at r1
      exact r1
  · exact r1.elim
theorem de_inG {w : World} {x : Str} {p : Pos} {c : Addr} {l : List (Str × List Str)} (T : TabD K w c l) (hw : ∀ j, (X j).w = w) (hg : ∀ j, Gl (X j) x) (hm : ∀ j, (X j).mg x = some (.ref c)) (ha : DB X K ω e de) (hd : (x == ("__debug__" : Str)) = false := by decide) (hb : behindInMarks .In (.Name x p) = false := by rfl) (hK : ∀ j, (X j).K = K := by intro _; rfl) : DX X K ω (.Compare e [.In] [.Name x p] pos) (dInG l de) := by
  obtain ⟨t, p1, l1⟩ := ha
  obtain ⟨es, n, kd⟩ := T.at_
  exact ⟨_, fun j => pe_cmpR (by have := op_in_kd (X := X j) (d := c) (es := es) (n := n) (by rw [hK j, hw j]; exact kd); rw [hK j] at this; exact this) (p1 j) (pe_glob (v := .ref c) (hg j) (hm j) rfl hd) hb, le_inG T l1⟩
theorem dt_inG {w : World} {x : Str} {p : Pos} {c : Addr} {l : List (Str × List Str)} (T : TabD K w c l) (hw : ∀ j, (X j).w = w) (hg : ∀ j, Gl (X j) x) (hm : ∀ j, (X j).mg x = some (.ref c)) (ha : DB X K ω e de) (hd : (x == ("__debug__" : Str)) = false := by decide) (hb : behindInMarks .In (.Name x p) = false := by rfl) (hK : ∀ j, (X j).K = K := by intro _; rfl) : DT X K ω (.Compare e [.In] [.Name x p] pos) (dTest (dInG l de)) := by
  obtain ⟨t, p1, l1⟩ := ha
  obtain ⟨es, n, kd⟩ := T.at_
  exact ⟨_, fun j => pt_cmpR (by have := op_in_kd (X := X j) (d := c) (es := es) (n := n) (by rw [hK j, hw j]; exact kd); rw [hK j] at this; exact this) (p1 j) (pe_glob (v := .ref c) (hg j) (hm j) rfl hd) hb, lc_b (le_inG T l1)⟩
def dIxG (l : List (Str × List Str)) (de : DEt) : DEt := fun a R => de a fun d a' => match d with
  | .v (.str z) => ∃ ps, (z, ps) ∈ l ∧ R (.ctup (ps.map fun y => D.v (V.str y))) a'
  | _ => False
theorem de_ixG {w : World} {x : Str} {p : Pos} {c : Addr} {l : List (Str × List Str)} (T : TabD K w c l) (hw : ∀ j, (X j).w = w) (hg : ∀ j, Gl (X j) x) (hm : ∀ j, (X j).mg x = some (.ref c)) (ha : DB X K ω e de) (hs : PlainIx e) (hd : (x == ("__debug__" : Str)) = false := by decide) (hK : ∀ j, (X j).K = K := by intro _; rfl) : DX X K ω (.Subscript (.Name x p) e pos) (dIxG l de) := by
  obtain ⟨t, p1, l1⟩ := ha
  obtain ⟨es, n, kd⟩ := T.at_
  refine ⟨tOp (rIxD K w) (tC (.ref c)) t, fun j => by rw [← hK j, ← hw j]; exact pe_ix ix_kdict (pe_glob (v := .ref c) (hg j) (hm j) rfl hd) (p1 j) hs, fun B hω F a σ H Q R ok hd k => l1 B hω F a σ H _ _ ok hd fun y d F1 a1 H1 g1 q1 r1 => ?_⟩
  split at r1
  · rename_i z
    obtain ⟨ps, hp, r⟩ := r1
    obtain ⟨j, ej⟩ := List.mem_iff_getElem?.mp hp
    obtain ⟨u, hu, hs⟩ := T.yes j z ps ej
    refine ⟨c, z, .ref u, rfl, q1, ⟨es, n, _, kd.at_, kd.lit, hu, rfl⟩, k _ (.ctup _) F1 a1 H1 g1 ⟨u, _, rfl, hs _, datS ps⟩ r⟩
  · exact r1.elim
/-! x += e -/
def dAug (i : Nat) (g : Int → Int → Int) (de : DEt) : DSt := fun E a => match a.at i with
  | .val (.v (.int x)) => de a fun d a' => match d with
    | .v (.int y) => E.nx (a'.put i (.val (.v (.int (g x y)))))
    | _ => False
  | _ => False
theorem ds_augAdd {i : Nat} {x : Str} {pos' : Pos} (hN : ∀ j, (X j).N.Nodup) (hi : ∀ j, (X j).N[i]? = some x) (hx : ∀ j, Loc (X j).env.scope x) (he : DX X K ω e de) (hf : ∀ j, (X j).fn x = true ∨ (X j).env.scope.names.lookup x = some .local := by first | exact fun _ => .inl rfl | exact fun _ => .inr rfl | assumption)
    (hz : ω.sf = false ∨ i ≠ 0 := by first | exact Or.inl rfl | exact Or.inr (by decide)) : DS X K ω (.AugAssign (.Name x pos') .Add e pos) (dAug i (· + ·) de) := by
  obtain ⟨t, p, l⟩ := he
  refine ⟨_, fun j => ps_aug (hN j) (hi j) (hx j) (p j) ip_add (hf j), fun B hω E DE F a σ H ok hd k => ?_⟩
  unfold dAug at hd
  split at hd
  · rename_i x es
    obtain ⟨v, h1, h2⟩ := ok.va i _ (at_of' es (fun z => nomatch z))
    cases (show v = .int x from h2)
    refine ⟨_, h1, l B hω F a σ H _ _ ok hd fun v d F' a' H' g q r => ?_⟩
    split at r
    · rename_i y
      exact ⟨x, y, rfl, q, k.nx F' _ _ H' (g.ok.setV (d := .v _) (hω.z hz) rfl) g.ff r⟩
    · exact r.elim
  · exact hd.elim
theorem ds_augSub {i : Nat} {x : Str} {pos' : Pos} (hN : ∀ j, (X j).N.Nodup) (hi : ∀ j, (X j).N[i]? = some x) (hx : ∀ j, Loc (X j).env.scope x) (he : DX X K ω e de) (hf : ∀ j, (X j).fn x = true ∨ (X j).env.scope.names.lookup x = some .local := by first | exact fun _ => .inl rfl | exact fun _ => .inr rfl | assumption)
    (hz : ω.sf = false ∨ i ≠ 0 := by first | exact Or.inl rfl | exact Or.inr (by decide)) : DS X K ω (.AugAssign (.Name x pos') .Sub e pos) (dAug i (· - ·) de) := by
  obtain ⟨t, p, l⟩ := he
  refine ⟨_, fun j => ps_aug (hN j) (hi j) (hx j) (p j) ip_sub (hf j), fun B hω E DE F a σ H ok hd k => ?_⟩
  unfold dAug at hd
  split at hd
  · rename_i x es
    obtain ⟨v, h1, h2⟩ := ok.va i _ (at_of' es (fun z => nomatch z))
    cases (show v = .int x from h2)
    refine ⟨_, h1, l B hω F a σ H _ _ ok hd fun v d F' a' H' g q r => ?_⟩
    split at r
    · rename_i y
      exact ⟨x, y, rfl, q, k.nx F' _ _ H' (g.ok.setV (d := .v _) (hω.z hz) rfl) g.ff r⟩
    · exact r.elim
  · exact hd.elim
/-! a, b = e: a list or a tuple -/
def dgSeq (u : DGts) : DGt := fun d a R => match seqD d with
  | some ds => u ds a R
  | none => False
theorem dg_seq {k : Nat} {dg : DGts} {w : List Nat} {m : Nat} (hc : ∀ j, (X j).calm = true) (h : DGs X K ω es dg w m) (hn : ∀ j, (assignEach es (X j).env).length = m := by intro _; rfl) (hst : ∀ j, (assignEach es (X j).env).findIdx? (fun x => x.1) = none := by intro _; rfl) (hK : ∀ j, (X j).K = K := by intro _; rfl) : DG X K ω (.Tuple es k pos) (dgSeq dg) w := by
  obtain ⟨g, p, l, hl⟩ := h
  refine ⟨fun v σ H Q => gTup K m g v σ H Q ∨ gUnl K m g v σ H Q, fun j => ⟨fun pins s σ H v u Q I r hw => hw.elim (fun hw => (pg_tup (hc j) (p j) (hn j) (hst j)).run pins s σ H v u Q I r (by rw [hK j]; exact hw)) fun hw => (pg_unl (hc j) (p j) (hn j) (hst j)).run pins s σ H v u Q I r (by rw [hK j]; exact hw)⟩, fun B hω F a σ H v d Q R ok h hd k => ?_⟩
  unfold dgSeq at hd
  split at hd
  · rename_i ds e
    obtain ⟨p, vs, rfl, h1, h2⟩ := seqD_dat e ok.fi.fh h
    rcases h1 with h1 | h1
    · exact .inr ⟨p, vs, rfl, h1, by rw [h2.len]; exact hl _ _ _ hd, l B hω F a σ H vs ds Q R ok h2 hd k⟩
    · exact .inl ⟨p, vs, rfl, h1, by rw [h2.len]; exact hl _ _ _ hd, l B hω F a σ H vs ds Q R ok h2 hd k⟩
  · exact hd.elim
theorem set_id {α : Type} {l : List α} {i : Nat} {x : α} (h : l[i]? = some x) : l.set i x = l := by
  obtain ⟨hi, rfl⟩ := List.getElem?_eq_some_iff.mp h
  exact List.set_getElem_self hi
/-! d.setdefault((..), v): one's own dict with tuple keys -/
def dDSetT (i : Nat) (dk dv : DEt) : DSt := fun E a => isOwnT (a.at i) = true ∧ dk a fun e a1 => dv a1 fun d a2 => match a2.at i, e with
  | .own (.dT kvs), .tup ds => (match keysD ds with
    | some k => kvs.length < sizeLine ∧ E.nx (a2.put i (.own (.dT (match getA kvs k with | some _ => kvs | none => putA kvs k d))))
    | none => False)
  | _, _ => False
where isOwnT : Sl → Bool
  | .own (.dT _) => true
  | _ => false
theorem ds_dsetT {i : Nat} {x : Str} {px apos cpos : Pos} {f : Expr} {dk dv : DEt} (hu : ∀ j, (X j).A.units + 1 < cLine) (ho : ∀ j, PE (X j) (.Name x px) (tVar i)) (hk : DX X K ω e dk) (hv : DX X K ω f dv) (m : ∀ j, M2 (X j) (.Name x px) "setdefault" apos e f cpos) (hs : ∀ j, swapsWith (.Call (.Attribute (.Name x px) "setdefault" apos) [e, f] [] cpos) none pos.line (X j).env = pure false := by intro _; rfl) :
    DS X K ω (.Expr (.Call (.Attribute (.Name x px) "setdefault" apos) [e, f] [] cpos) pos) (dDSetT i dk dv) := by
  obtain ⟨tk, p1, l1⟩ := hk
  obtain ⟨tv, p2, l2⟩ := hv
  refine ⟨tDrop (tDSetdT (tVar i) tk tv), fun j => ps_expr (pe_dsetdT (hu j) (ho j) (p1 j) (p2 j) (m j)) (hs j), fun B hω E DE F a σ H ok hd k => ?_⟩
  obtain ⟨h0, hd⟩ := hd
  have h0' : ∃ kvs, a.at i = .own (.dT kvs) := by
    unfold dDSetT.isOwnT at h0
    split at h0
    · exact ⟨_, by assumption⟩
    · cases h0
  obtain ⟨kvs0, e0⟩ := h0'
  obtain ⟨p, o, h1, h2, _, _, vs0, rfl, _⟩ := ok.ow i _ (at_of' e0 (fun z => nomatch z))
  refine ⟨_, h1, p, rfl, .inr ⟨vs0, .inl h2⟩, l1 B hω F a σ H _ _ ok hd fun y d F1 a1 H1 g1 q1 r1 => l2 B hω F1 a1 σ H1 _ _ g1.ok r1 fun z dz F2 a2 H2 g2 q2 r2 => ?_⟩
  split at r2
  · rename_i kvs ds es
    split at r2
    · rename_i kk ek
      have es' := at_of' es (fun z => nomatch z)
      obtain ⟨p', o, h1', h3, h4, h5, vs, rfl, h6⟩ := g2.ok.ow i _ es'
      rw [h1] at h1'
      cases h1'
      obtain ⟨b, us, rfl, h7, h8⟩ := q1.mono g2.ff
      rw [keysD_of h8 ek] at h7
      have h9 := datT_pk.mp h6
      have h10 := pk_get h9 kk
      refine ⟨vs, kk, b, h3, rfl, g2.ok.fi.fh _ _ h7, by rw [pk_len h9]; exact r2.1, fun v hv => ?_, fun hn => ?_⟩
      · cases eg : getA kvs kk with
        | none => rw [eg] at h10; rw [show valV vs kk = none from h10] at hv; cases hv
        | some dg =>
          have r := r2.2
          rw [eg] at r
          have e : a2.put i (.own (.dT kvs)) = a2 := by
            obtain ⟨sl, n, sp⟩ := a2
            show AS.mk _ _ _ = _
            rw [set_id es']
          exact k.nx F2 _ σ H2 g2.ok (g1.ff.trans g2.ff) (by rw [← e]; exact r)
      · cases eg : getA kvs kk with
        | some dg =>
          rw [eg] at h10
          obtain ⟨v, hv, _⟩ := h10
          rw [hn] at hv
          cases hv
        | none =>
          have r := r2.2
          rw [eg] at r
          exact k.nx F2 _ σ _ (g2.ok.chg (e := .dT (putA kvs kk dz)) es' h1 ⟨_, rfl, datT_pk.mpr (pk_put h9 q2)⟩) (g1.ff.trans g2.ff) r
    · exact r2.elim
  · exact r2.elim
/-! a, b = x, y and a, b, c = x, y, z -/
def dPar (i j : Nat) (dl : DAt) : DSt := fun E a => dl a fun ds a' => match ds with
  | [d, e] => E.nx ((a'.put i (.val d)).put j (.val e))
  | _ => False
theorem ds_par {i j : Nat} {x y : Str} {px py pt : Pos} {kt k2 pt2} (hc : ∀ q, (X q).calm = true) (hN : ∀ q, (X q).N.Nodup) (hi : ∀ q, (X q).N[i]? = some x) (hj : ∀ q, (X q).N[j]? = some y) (hij : i ≠ j) (hx : ∀ q, (X q).env.scope.names.lookup x = some .local) (hy : ∀ q, (X q).env.scope.names.lookup y = some .local) (ha : DAE X K ω [e1, e2] dl)
    (hw : ∀ q, swappedStores [.Tuple [.Name x px, .Name y py] kt pt] (.Tuple [e1, e2] k2 pt2) (X q).env = pure (some [x, y])) (hs : ∀ q, swapsWithSole [.Tuple [.Name x px, .Name y py] kt pt] (.Tuple [e1, e2] k2 pt2) pos.line (X q).env = pure false := by intro _; rfl)
    (hzi : ω.sf = false ∨ i ≠ 0 := by first | exact Or.inl rfl | exact Or.inr (by decide)) (hzj : ω.sf = false ∨ j ≠ 0 := by first | exact Or.inl rfl | exact Or.inr (by decide)) :
    DS X K ω (.Assign [.Tuple [.Name x px, .Name y py] kt pt] (.Tuple [e1, e2] k2 pt2) pos) (dPar i j dl) := by
  obtain ⟨t, p, l⟩ := ha
  refine ⟨_, fun q => ps_par (hc q) (hN q) (hi q) (hj q) hij (hx q) (hy q) (p q) (hw q) (hs q), fun B hω E DE F a σ H ok hd k => l B hω F a σ H _ _ ok hd fun vs ds F' a' H' g q r => ?_⟩
  split at r
  · obtain ⟨v, r', rfl, h1, w, r'', rfl, h2, h3⟩ := q
    cases (show r'' = [] from h3)
    exact ⟨v, w, rfl, k.nx F' _ _ H' ((g.ok.setV (hω.z hzi) h1).setV (hω.z hzj) h2) g.ff r⟩
  · exact r.elim
def dPar3 (i j m : Nat) (dl : DAt) : DSt := fun E a => dl a fun ds a' => match ds with
  | [d, e, f] => E.nx (((a'.put i (.val d)).put j (.val e)).put m (.val f))
  | _ => False
theorem ds_par3 {i j m : Nat} {x y z : Str} {e3 : Expr} {px py pz pt : Pos} {kt k2 pt2} (hc : ∀ q, (X q).calm = true) (hN : ∀ q, (X q).N.Nodup) (hi : ∀ q, (X q).N[i]? = some x) (hj : ∀ q, (X q).N[j]? = some y) (hm : ∀ q, (X q).N[m]? = some z) (hij : i ≠ j) (him : i ≠ m) (hjm : j ≠ m)
    (hx : ∀ q, (X q).env.scope.names.lookup x = some .local) (hy : ∀ q, (X q).env.scope.names.lookup y = some .local) (hz : ∀ q, (X q).env.scope.names.lookup z = some .local) (ha : DAE X K ω [e1, e2, e3] dl)
    (hw : ∀ q, swappedStores [.Tuple [.Name x px, .Name y py, .Name z pz] kt pt] (.Tuple [e1, e2, e3] k2 pt2) (X q).env = pure (some [x, y, z])) (hs : ∀ q, swapsWithSole [.Tuple [.Name x px, .Name y py, .Name z pz] kt pt] (.Tuple [e1, e2, e3] k2 pt2) pos.line (X q).env = pure false := by intro _; rfl)
    (hzi : ω.sf = false ∨ i ≠ 0 := by first | exact Or.inl rfl | exact Or.inr (by decide)) (hzj : ω.sf = false ∨ j ≠ 0 := by first | exact Or.inl rfl | exact Or.inr (by decide)) (hzm : ω.sf = false ∨ m ≠ 0 := by first | exact Or.inl rfl | exact Or.inr (by decide)) :
    DS X K ω (.Assign [.Tuple [.Name x px, .Name y py, .Name z pz] kt pt] (.Tuple [e1, e2, e3] k2 pt2) pos) (dPar3 i j m dl) := by
  obtain ⟨t, p, l⟩ := ha
  refine ⟨_, fun q => ps_par3 (hc q) (hN q) (hi q) (hj q) (hm q) hij him hjm (hx q) (hy q) (hz q) (p q) (hw q) (hs q), fun B hω E DE F a σ H ok hd k => l B hω F a σ H _ _ ok hd fun vs ds F' a' H' g q r => ?_⟩
  split at r
  · obtain ⟨v, r', rfl, h1, w, r'', rfl, h2, u, r3, rfl, h3, h4⟩ := q
    cases (show r3 = [] from h4)
    exact ⟨v, w, u, rfl, k.nx F' _ _ H' (((g.ok.setV (hω.z hzi) h1).setV (hω.z hzj) h2).setV (hω.z hzm) h3) g.ff r⟩
  · exact r.elim
end
section
variable {P : Program} {w : World} {K : PySem.W.Frag} {mg : Str → Option Value} {base : Heap}
--SPLIT
/-! ### reading, step by step -/
theorem bif_t {A C : Prop} (h : A) : bIf true A C := h
theorem bif_f {A C : Prop} (h : C) : bIf false A C := h
theorem bif_d {c A C : Prop} {inst : Decidable c} (h1 : c → A) (h2 : ¬ c → C) : bIf (@decide c inst) A C := by
  by_cases h : c
  · rw [decide_eq_true h]
    exact h1 h
  · rw [decide_eq_false h]
    exact h2 h
theorem bif_nd {c A C : Prop} {inst : Decidable c} (h1 : ¬ c → A) (h2 : c → C) : bIf (!@decide c inst) A C := by
  by_cases h : c
  · rw [decide_eq_true h]
    exact h2 h
  · rw [decide_eq_false h]
    exact h1 h
theorem bif_b {b : Bool} {A C : Prop} (h1 : b = true → A) (h2 : b = false → C) : bIf b A C := by
  cases b with
  | true => exact h1 rfl
  | false => exact h2 rfl
theorem bif_nb {b : Bool} {A C : Prop} (h1 : b = false → A) (h2 : b = true → C) : bIf (!b) A C := by
  cases b with
  | true => exact h2 rfl
  | false => exact h1 rfl
theorem bif_same {b : Bool} {A : Prop} (h : A) : bIf b A A := by
  cases b <;> exact h
theorem at_0 {x0 : Sl} {l : List Sl} {n : Int} {sp : Option Addr} : AS.at ⟨x0 :: l, n, sp⟩ 0 = x0 := rfl
theorem put_0 {x0 y : Sl} {l : List Sl} {n : Int} {sp : Option Addr} : AS.put ⟨x0 :: l, n, sp⟩ 0 y = ⟨y :: l, n, sp⟩ := rfl
theorem at_1 {x0 x1 : Sl} {l : List Sl} {n : Int} {sp : Option Addr} : AS.at ⟨x0 :: x1 :: l, n, sp⟩ 1 = x1 := rfl
theorem put_1 {x0 x1 y : Sl} {l : List Sl} {n : Int} {sp : Option Addr} : AS.put ⟨x0 :: x1 :: l, n, sp⟩ 1 y = ⟨x0 :: y :: l, n, sp⟩ := rfl
theorem at_2 {x0 x1 x2 : Sl} {l : List Sl} {n : Int} {sp : Option Addr} : AS.at ⟨x0 :: x1 :: x2 :: l, n, sp⟩ 2 = x2 := rfl
theorem put_2 {x0 x1 x2 y : Sl} {l : List Sl} {n : Int} {sp : Option Addr} : AS.put ⟨x0 :: x1 :: x2 :: l, n, sp⟩ 2 y = ⟨x0 :: x1 :: y :: l, n, sp⟩ := rfl
theorem at_3 {x0 x1 x2 x3 : Sl} {l : List Sl} {n : Int} {sp : Option Addr} : AS.at ⟨x0 :: x1 :: x2 :: x3 :: l, n, sp⟩ 3 = x3 := rfl
theorem put_3 {x0 x1 x2 x3 y : Sl} {l : List Sl} {n : Int} {sp : Option Addr} : AS.put ⟨x0 :: x1 :: x2 :: x3 :: l, n, sp⟩ 3 y = ⟨x0 :: x1 :: x2 :: y :: l, n, sp⟩ := rfl
theorem at_4 {x0 x1 x2 x3 x4 : Sl} {l : List Sl} {n : Int} {sp : Option Addr} : AS.at ⟨x0 :: x1 :: x2 :: x3 :: x4 :: l, n, sp⟩ 4 = x4 := rfl
theorem put_4 {x0 x1 x2 x3 x4 y : Sl} {l : List Sl} {n : Int} {sp : Option Addr} : AS.put ⟨x0 :: x1 :: x2 :: x3 :: x4 :: l, n, sp⟩ 4 y = ⟨x0 :: x1 :: x2 :: x3 :: y :: l, n, sp⟩ := rfl
theorem at_5 {x0 x1 x2 x3 x4 x5 : Sl} {l : List Sl} {n : Int} {sp : Option Addr} : AS.at ⟨x0 :: x1 :: x2 :: x3 :: x4 :: x5 :: l, n, sp⟩ 5 = x5 := rfl
theorem put_5 {x0 x1 x2 x3 x4 x5 y : Sl} {l : List Sl} {n : Int} {sp : Option Addr} : AS.put ⟨x0 :: x1 :: x2 :: x3 :: x4 :: x5 :: l, n, sp⟩ 5 y = ⟨x0 :: x1 :: x2 :: x3 :: x4 :: y :: l, n, sp⟩ := rfl
theorem at_6 {x0 x1 x2 x3 x4 x5 x6 : Sl} {l : List Sl} {n : Int} {sp : Option Addr} : AS.at ⟨x0 :: x1 :: x2 :: x3 :: x4 :: x5 :: x6 :: l, n, sp⟩ 6 = x6 := rfl
theorem put_6 {x0 x1 x2 x3 x4 x5 x6 y : Sl} {l : List Sl} {n : Int} {sp : Option Addr} : AS.put ⟨x0 :: x1 :: x2 :: x3 :: x4 :: x5 :: x6 :: l, n, sp⟩ 6 y = ⟨x0 :: x1 :: x2 :: x3 :: x4 :: x5 :: y :: l, n, sp⟩ := rfl
theorem at_7 {x0 x1 x2 x3 x4 x5 x6 x7 : Sl} {l : List Sl} {n : Int} {sp : Option Addr} : AS.at ⟨x0 :: x1 :: x2 :: x3 :: x4 :: x5 :: x6 :: x7 :: l, n, sp⟩ 7 = x7 := rfl
theorem put_7 {x0 x1 x2 x3 x4 x5 x6 x7 y : Sl} {l : List Sl} {n : Int} {sp : Option Addr} : AS.put ⟨x0 :: x1 :: x2 :: x3 :: x4 :: x5 :: x6 :: x7 :: l, n, sp⟩ 7 y = ⟨x0 :: x1 :: x2 :: x3 :: x4 :: x5 :: x6 :: y :: l, n, sp⟩ := rfl
theorem at_8 {x0 x1 x2 x3 x4 x5 x6 x7 x8 : Sl} {l : List Sl} {n : Int} {sp : Option Addr} : AS.at ⟨x0 :: x1 :: x2 :: x3 :: x4 :: x5 :: x6 :: x7 :: x8 :: l, n, sp⟩ 8 = x8 := rfl
theorem put_8 {x0 x1 x2 x3 x4 x5 x6 x7 x8 y : Sl} {l : List Sl} {n : Int} {sp : Option Addr} : AS.put ⟨x0 :: x1 :: x2 :: x3 :: x4 :: x5 :: x6 :: x7 :: x8 :: l, n, sp⟩ 8 y = ⟨x0 :: x1 :: x2 :: x3 :: x4 :: x5 :: x6 :: x7 :: y :: l, n, sp⟩ := rfl
theorem at_9 {x0 x1 x2 x3 x4 x5 x6 x7 x8 x9 : Sl} {l : List Sl} {n : Int} {sp : Option Addr} : AS.at ⟨x0 :: x1 :: x2 :: x3 :: x4 :: x5 :: x6 :: x7 :: x8 :: x9 :: l, n, sp⟩ 9 = x9 := rfl
theorem put_9 {x0 x1 x2 x3 x4 x5 x6 x7 x8 x9 y : Sl} {l : List Sl} {n : Int} {sp : Option Addr} : AS.put ⟨x0 :: x1 :: x2 :: x3 :: x4 :: x5 :: x6 :: x7 :: x8 :: x9 :: l, n, sp⟩ 9 y = ⟨x0 :: x1 :: x2 :: x3 :: x4 :: x5 :: x6 :: x7 :: x8 :: y :: l, n, sp⟩ := rfl
theorem at_10 {x0 x1 x2 x3 x4 x5 x6 x7 x8 x9 x10 : Sl} {l : List Sl} {n : Int} {sp : Option Addr} : AS.at ⟨x0 :: x1 :: x2 :: x3 :: x4 :: x5 :: x6 :: x7 :: x8 :: x9 :: x10 :: l, n, sp⟩ 10 = x10 := rfl
theorem put_10 {x0 x1 x2 x3 x4 x5 x6 x7 x8 x9 x10 y : Sl} {l : List Sl} {n : Int} {sp : Option Addr} : AS.put ⟨x0 :: x1 :: x2 :: x3 :: x4 :: x5 :: x6 :: x7 :: x8 :: x9 :: x10 :: l, n, sp⟩ 10 y = ⟨x0 :: x1 :: x2 :: x3 :: x4 :: x5 :: x6 :: x7 :: x8 :: x9 :: y :: l, n, sp⟩ := rfl
theorem at_11 {x0 x1 x2 x3 x4 x5 x6 x7 x8 x9 x10 x11 : Sl} {l : List Sl} {n : Int} {sp : Option Addr} : AS.at ⟨x0 :: x1 :: x2 :: x3 :: x4 :: x5 :: x6 :: x7 :: x8 :: x9 :: x10 :: x11 :: l, n, sp⟩ 11 = x11 := rfl
theorem put_11 {x0 x1 x2 x3 x4 x5 x6 x7 x8 x9 x10 x11 y : Sl} {l : List Sl} {n : Int} {sp : Option Addr} : AS.put ⟨x0 :: x1 :: x2 :: x3 :: x4 :: x5 :: x6 :: x7 :: x8 :: x9 :: x10 :: x11 :: l, n, sp⟩ 11 y = ⟨x0 :: x1 :: x2 :: x3 :: x4 :: x5 :: x6 :: x7 :: x8 :: x9 :: x10 :: y :: l, n, sp⟩ := rfl
theorem at_12 {x0 x1 x2 x3 x4 x5 x6 x7 x8 x9 x10 x11 x12 : Sl} {l : List Sl} {n : Int} {sp : Option Addr} : AS.at ⟨x0 :: x1 :: x2 :: x3 :: x4 :: x5 :: x6 :: x7 :: x8 :: x9 :: x10 :: x11 :: x12 :: l, n, sp⟩ 12 = x12 := rfl
theorem put_12 {x0 x1 x2 x3 x4 x5 x6 x7 x8 x9 x10 x11 x12 y : Sl} {l : List Sl} {n : Int} {sp : Option Addr} : AS.put ⟨x0 :: x1 :: x2 :: x3 :: x4 :: x5 :: x6 :: x7 :: x8 :: x9 :: x10 :: x11 :: x12 :: l, n, sp⟩ 12 y = ⟨x0 :: x1 :: x2 :: x3 :: x4 :: x5 :: x6 :: x7 :: x8 :: x9 :: x10 :: x11 :: y :: l, n, sp⟩ := rfl
theorem at_13 {x0 x1 x2 x3 x4 x5 x6 x7 x8 x9 x10 x11 x12 x13 : Sl} {l : List Sl} {n : Int} {sp : Option Addr} : AS.at ⟨x0 :: x1 :: x2 :: x3 :: x4 :: x5 :: x6 :: x7 :: x8 :: x9 :: x10 :: x11 :: x12 :: x13 :: l, n, sp⟩ 13 = x13 := rfl
theorem put_13 {x0 x1 x2 x3 x4 x5 x6 x7 x8 x9 x10 x11 x12 x13 y : Sl} {l : List Sl} {n : Int} {sp : Option Addr} : AS.put ⟨x0 :: x1 :: x2 :: x3 :: x4 :: x5 :: x6 :: x7 :: x8 :: x9 :: x10 :: x11 :: x12 :: x13 :: l, n, sp⟩ 13 y = ⟨x0 :: x1 :: x2 :: x3 :: x4 :: x5 :: x6 :: x7 :: x8 :: x9 :: x10 :: x11 :: x12 :: y :: l, n, sp⟩ := rfl
theorem at_14 {x0 x1 x2 x3 x4 x5 x6 x7 x8 x9 x10 x11 x12 x13 x14 : Sl} {l : List Sl} {n : Int} {sp : Option Addr} : AS.at ⟨x0 :: x1 :: x2 :: x3 :: x4 :: x5 :: x6 :: x7 :: x8 :: x9 :: x10 :: x11 :: x12 :: x13 :: x14 :: l, n, sp⟩ 14 = x14 := rfl
theorem put_14 {x0 x1 x2 x3 x4 x5 x6 x7 x8 x9 x10 x11 x12 x13 x14 y : Sl} {l : List Sl} {n : Int} {sp : Option Addr} : AS.put ⟨x0 :: x1 :: x2 :: x3 :: x4 :: x5 :: x6 :: x7 :: x8 :: x9 :: x10 :: x11 :: x12 :: x13 :: x14 :: l, n, sp⟩ 14 y = ⟨x0 :: x1 :: x2 :: x3 :: x4 :: x5 :: x6 :: x7 :: x8 :: x9 :: x10 :: x11 :: x12 :: x13 :: y :: l, n, sp⟩ := rfl
theorem at_15 {x0 x1 x2 x3 x4 x5 x6 x7 x8 x9 x10 x11 x12 x13 x14 x15 : Sl} {l : List Sl} {n : Int} {sp : Option Addr} : AS.at ⟨x0 :: x1 :: x2 :: x3 :: x4 :: x5 :: x6 :: x7 :: x8 :: x9 :: x10 :: x11 :: x12 :: x13 :: x14 :: x15 :: l, n, sp⟩ 15 = x15 := rfl
theorem put_15 {x0 x1 x2 x3 x4 x5 x6 x7 x8 x9 x10 x11 x12 x13 x14 x15 y : Sl} {l : List Sl} {n : Int} {sp : Option Addr} : AS.put ⟨x0 :: x1 :: x2 :: x3 :: x4 :: x5 :: x6 :: x7 :: x8 :: x9 :: x10 :: x11 :: x12 :: x13 :: x14 :: x15 :: l, n, sp⟩ 15 y = ⟨x0 :: x1 :: x2 :: x3 :: x4 :: x5 :: x6 :: x7 :: x8 :: x9 :: x10 :: x11 :: x12 :: x13 :: x14 :: y :: l, n, sp⟩ := rfl
theorem at_16 {x0 x1 x2 x3 x4 x5 x6 x7 x8 x9 x10 x11 x12 x13 x14 x15 x16 : Sl} {l : List Sl} {n : Int} {sp : Option Addr} : AS.at ⟨x0 :: x1 :: x2 :: x3 :: x4 :: x5 :: x6 :: x7 :: x8 :: x9 :: x10 :: x11 :: x12 :: x13 :: x14 :: x15 :: x16 :: l, n, sp⟩ 16 = x16 := rfl
theorem put_16 {x0 x1 x2 x3 x4 x5 x6 x7 x8 x9 x10 x11 x12 x13 x14 x15 x16 y : Sl} {l : List Sl} {n : Int} {sp : Option Addr} : AS.put ⟨x0 :: x1 :: x2 :: x3 :: x4 :: x5 :: x6 :: x7 :: x8 :: x9 :: x10 :: x11 :: x12 :: x13 :: x14 :: x15 :: x16 :: l, n, sp⟩ 16 y = ⟨x0 :: x1 :: x2 :: x3 :: x4 :: x5 :: x6 :: x7 :: x8 :: x9 :: x10 :: x11 :: x12 :: x13 :: x14 :: x15 :: y :: l, n, sp⟩ := rfl
theorem at_17 {x0 x1 x2 x3 x4 x5 x6 x7 x8 x9 x10 x11 x12 x13 x14 x15 x16 x17 : Sl} {l : List Sl} {n : Int} {sp : Option Addr} : AS.at ⟨x0 :: x1 :: x2 :: x3 :: x4 :: x5 :: x6 :: x7 :: x8 :: x9 :: x10 :: x11 :: x12 :: x13 :: x14 :: x15 :: x16 :: x17 :: l, n, sp⟩ 17 = x17 := rfl
theorem put_17 {x0 x1 x2 x3 x4 x5 x6 x7 x8 x9 x10 x11 x12 x13 x14 x15 x16 x17 y : Sl} {l : List Sl} {n : Int} {sp : Option Addr} : AS.put ⟨x0 :: x1 :: x2 :: x3 :: x4 :: x5 :: x6 :: x7 :: x8 :: x9 :: x10 :: x11 :: x12 :: x13 :: x14 :: x15 :: x16 :: x17 :: l, n, sp⟩ 17 y = ⟨x0 :: x1 :: x2 :: x3 :: x4 :: x5 :: x6 :: x7 :: x8 :: x9 :: x10 :: x11 :: x12 :: x13 :: x14 :: x15 :: x16 :: y :: l, n, sp⟩ := rfl
theorem at_18 {x0 x1 x2 x3 x4 x5 x6 x7 x8 x9 x10 x11 x12 x13 x14 x15 x16 x17 x18 : Sl} {l : List Sl} {n : Int} {sp : Option Addr} : AS.at ⟨x0 :: x1 :: x2 :: x3 :: x4 :: x5 :: x6 :: x7 :: x8 :: x9 :: x10 :: x11 :: x12 :: x13 :: x14 :: x15 :: x16 :: x17 :: x18 :: l, n, sp⟩ 18 = x18 := rfl
theorem put_18 {x0 x1 x2 x3 x4 x5 x6 x7 x8 x9 x10 x11 x12 x13 x14 x15 x16 x17 x18 y : Sl} {l : List Sl} {n : Int} {sp : Option Addr} : AS.put ⟨x0 :: x1 :: x2 :: x3 :: x4 :: x5 :: x6 :: x7 :: x8 :: x9 :: x10 :: x11 :: x12 :: x13 :: x14 :: x15 :: x16 :: x17 :: x18 :: l, n, sp⟩ 18 y = ⟨x0 :: x1 :: x2 :: x3 :: x4 :: x5 :: x6 :: x7 :: x8 :: x9 :: x10 :: x11 :: x12 :: x13 :: x14 :: x15 :: x16 :: x17 :: y :: l, n, sp⟩ := rfl
theorem at_19 {x0 x1 x2 x3 x4 x5 x6 x7 x8 x9 x10 x11 x12 x13 x14 x15 x16 x17 x18 x19 : Sl} {l : List Sl} {n : Int} {sp : Option Addr} : AS.at ⟨x0 :: x1 :: x2 :: x3 :: x4 :: x5 :: x6 :: x7 :: x8 :: x9 :: x10 :: x11 :: x12 :: x13 :: x14 :: x15 :: x16 :: x17 :: x18 :: x19 :: l, n, sp⟩ 19 = x19 := rfl
theorem put_19 {x0 x1 x2 x3 x4 x5 x6 x7 x8 x9 x10 x11 x12 x13 x14 x15 x16 x17 x18 x19 y : Sl} {l : List Sl} {n : Int} {sp : Option Addr} : AS.put ⟨x0 :: x1 :: x2 :: x3 :: x4 :: x5 :: x6 :: x7 :: x8 :: x9 :: x10 :: x11 :: x12 :: x13 :: x14 :: x15 :: x16 :: x17 :: x18 :: x19 :: l, n, sp⟩ 19 y = ⟨x0 :: x1 :: x2 :: x3 :: x4 :: x5 :: x6 :: x7 :: x8 :: x9 :: x10 :: x11 :: x12 :: x13 :: x14 :: x15 :: x16 :: x17 :: x18 :: y :: l, n, sp⟩ := rfl
theorem at_20 {x0 x1 x2 x3 x4 x5 x6 x7 x8 x9 x10 x11 x12 x13 x14 x15 x16 x17 x18 x19 x20 : Sl} {l : List Sl} {n : Int} {sp : Option Addr} : AS.at ⟨x0 :: x1 :: x2 :: x3 :: x4 :: x5 :: x6 :: x7 :: x8 :: x9 :: x10 :: x11 :: x12 :: x13 :: x14 :: x15 :: x16 :: x17 :: x18 :: x19 :: x20 :: l, n, sp⟩ 20 = x20 := rfl
theorem put_20 {x0 x1 x2 x3 x4 x5 x6 x7 x8 x9 x10 x11 x12 x13 x14 x15 x16 x17 x18 x19 x20 y : Sl} {l : List Sl} {n : Int} {sp : Option Addr} : AS.put ⟨x0 :: x1 :: x2 :: x3 :: x4 :: x5 :: x6 :: x7 :: x8 :: x9 :: x10 :: x11 :: x12 :: x13 :: x14 :: x15 :: x16 :: x17 :: x18 :: x19 :: x20 :: l, n, sp⟩ 20 y = ⟨x0 :: x1 :: x2 :: x3 :: x4 :: x5 :: x6 :: x7 :: x8 :: x9 :: x10 :: x11 :: x12 :: x13 :: x14 :: x15 :: x16 :: x17 :: x18 :: x19 :: y :: l, n, sp⟩ := rfl
theorem at_21 {x0 x1 x2 x3 x4 x5 x6 x7 x8 x9 x10 x11 x12 x13 x14 x15 x16 x17 x18 x19 x20 x21 : Sl} {l : List Sl} {n : Int} {sp : Option Addr} : AS.at ⟨x0 :: x1 :: x2 :: x3 :: x4 :: x5 :: x6 :: x7 :: x8 :: x9 :: x10 :: x11 :: x12 :: x13 :: x14 :: x15 :: x16 :: x17 :: x18 :: x19 :: x20 :: x21 :: l, n, sp⟩ 21 = x21 := rfl
theorem put_21 {x0 x1 x2 x3 x4 x5 x6 x7 x8 x9 x10 x11 x12 x13 x14 x15 x16 x17 x18 x19 x20 x21 y : Sl} {l : List Sl} {n : Int} {sp : Option Addr} : AS.put ⟨x0 :: x1 :: x2 :: x3 :: x4 :: x5 :: x6 :: x7 :: x8 :: x9 :: x10 :: x11 :: x12 :: x13 :: x14 :: x15 :: x16 :: x17 :: x18 :: x19 :: x20 :: x21 :: l, n, sp⟩ 21 y = ⟨x0 :: x1 :: x2 :: x3 :: x4 :: x5 :: x6 :: x7 :: x8 :: x9 :: x10 :: x11 :: x12 :: x13 :: x14 :: x15 :: x16 :: x17 :: x18 :: x19 :: x20 :: y :: l, n, sp⟩ := rfl
theorem at_22 {x0 x1 x2 x3 x4 x5 x6 x7 x8 x9 x10 x11 x12 x13 x14 x15 x16 x17 x18 x19 x20 x21 x22 : Sl} {l : List Sl} {n : Int} {sp : Option Addr} : AS.at ⟨x0 :: x1 :: x2 :: x3 :: x4 :: x5 :: x6 :: x7 :: x8 :: x9 :: x10 :: x11 :: x12 :: x13 :: x14 :: x15 :: x16 :: x17 :: x18 :: x19 :: x20 :: x21 :: x22 :: l, n, sp⟩ 22 = x22 := rfl
theorem put_22 {x0 x1 x2 x3 x4 x5 x6 x7 x8 x9 x10 x11 x12 x13 x14 x15 x16 x17 x18 x19 x20 x21 x22 y : Sl} {l : List Sl} {n : Int} {sp : Option Addr} : AS.put ⟨x0 :: x1 :: x2 :: x3 :: x4 :: x5 :: x6 :: x7 :: x8 :: x9 :: x10 :: x11 :: x12 :: x13 :: x14 :: x15 :: x16 :: x17 :: x18 :: x19 :: x20 :: x21 :: x22 :: l, n, sp⟩ 22 y = ⟨x0 :: x1 :: x2 :: x3 :: x4 :: x5 :: x6 :: x7 :: x8 :: x9 :: x10 :: x11 :: x12 :: x13 :: x14 :: x15 :: x16 :: x17 :: x18 :: x19 :: x20 :: x21 :: y :: l, n, sp⟩ := rfl
theorem at_23 {x0 x1 x2 x3 x4 x5 x6 x7 x8 x9 x10 x11 x12 x13 x14 x15 x16 x17 x18 x19 x20 x21 x22 x23 : Sl} {l : List Sl} {n : Int} {sp : Option Addr} : AS.at ⟨x0 :: x1 :: x2 :: x3 :: x4 :: x5 :: x6 :: x7 :: x8 :: x9 :: x10 :: x11 :: x12 :: x13 :: x14 :: x15 :: x16 :: x17 :: x18 :: x19 :: x20 :: x21 :: x22 :: x23 :: l, n, sp⟩ 23 = x23 := rfl
theorem put_23 {x0 x1 x2 x3 x4 x5 x6 x7 x8 x9 x10 x11 x12 x13 x14 x15 x16 x17 x18 x19 x20 x21 x22 x23 y : Sl} {l : List Sl} {n : Int} {sp : Option Addr} : AS.put ⟨x0 :: x1 :: x2 :: x3 :: x4 :: x5 :: x6 :: x7 :: x8 :: x9 :: x10 :: x11 :: x12 :: x13 :: x14 :: x15 :: x16 :: x17 :: x18 :: x19 :: x20 :: x21 :: x22 :: x23 :: l, n, sp⟩ 23 y = ⟨x0 :: x1 :: x2 :: x3 :: x4 :: x5 :: x6 :: x7 :: x8 :: x9 :: x10 :: x11 :: x12 :: x13 :: x14 :: x15 :: x16 :: x17 :: x18 :: x19 :: x20 :: x21 :: x22 :: y :: l, n, sp⟩ := rfl
theorem at_24 {x0 x1 x2 x3 x4 x5 x6 x7 x8 x9 x10 x11 x12 x13 x14 x15 x16 x17 x18 x19 x20 x21 x22 x23 x24 : Sl} {l : List Sl} {n : Int} {sp : Option Addr} : AS.at ⟨x0 :: x1 :: x2 :: x3 :: x4 :: x5 :: x6 :: x7 :: x8 :: x9 :: x10 :: x11 :: x12 :: x13 :: x14 :: x15 :: x16 :: x17 :: x18 :: x19 :: x20 :: x21 :: x22 :: x23 :: x24 :: l, n, sp⟩ 24 = x24 := rfl
theorem put_24 {x0 x1 x2 x3 x4 x5 x6 x7 x8 x9 x10 x11 x12 x13 x14 x15 x16 x17 x18 x19 x20 x21 x22 x23 x24 y : Sl} {l : List Sl} {n : Int} {sp : Option Addr} : AS.put ⟨x0 :: x1 :: x2 :: x3 :: x4 :: x5 :: x6 :: x7 :: x8 :: x9 :: x10 :: x11 :: x12 :: x13 :: x14 :: x15 :: x16 :: x17 :: x18 :: x19 :: x20 :: x21 :: x22 :: x23 :: x24 :: l, n, sp⟩ 24 y = ⟨x0 :: x1 :: x2 :: x3 :: x4 :: x5 :: x6 :: x7 :: x8 :: x9 :: x10 :: x11 :: x12 :: x13 :: x14 :: x15 :: x16 :: x17 :: x18 :: x19 :: x20 :: x21 :: x22 :: x23 :: y :: l, n, sp⟩ := rfl
theorem at_25 {x0 x1 x2 x3 x4 x5 x6 x7 x8 x9 x10 x11 x12 x13 x14 x15 x16 x17 x18 x19 x20 x21 x22 x23 x24 x25 : Sl} {l : List Sl} {n : Int} {sp : Option Addr} : AS.at ⟨x0 :: x1 :: x2 :: x3 :: x4 :: x5 :: x6 :: x7 :: x8 :: x9 :: x10 :: x11 :: x12 :: x13 :: x14 :: x15 :: x16 :: x17 :: x18 :: x19 :: x20 :: x21 :: x22 :: x23 :: x24 :: x25 :: l, n, sp⟩ 25 = x25 := rfl
theorem put_25 {x0 x1 x2 x3 x4 x5 x6 x7 x8 x9 x10 x11 x12 x13 x14 x15 x16 x17 x18 x19 x20 x21 x22 x23 x24 x25 y : Sl} {l : List Sl} {n : Int} {sp : Option Addr} : AS.put ⟨x0 :: x1 :: x2 :: x3 :: x4 :: x5 :: x6 :: x7 :: x8 :: x9 :: x10 :: x11 :: x12 :: x13 :: x14 :: x15 :: x16 :: x17 :: x18 :: x19 :: x20 :: x21 :: x22 :: x23 :: x24 :: x25 :: l, n, sp⟩ 25 y = ⟨x0 :: x1 :: x2 :: x3 :: x4 :: x5 :: x6 :: x7 :: x8 :: x9 :: x10 :: x11 :: x12 :: x13 :: x14 :: x15 :: x16 :: x17 :: x18 :: x19 :: x20 :: x21 :: x22 :: x23 :: x24 :: y :: l, n, sp⟩ := rfl
theorem not_t : (!true) = false := rfl
theorem not_f : (!false) = true := rfl
theorem bIf_t (A C : Prop) : bIf true A C = A := rfl
theorem bIf_f (A C : Prop) : bIf false A C = C := rfl
theorem mapc {α β : Type} {f : α → β} {x : α} {l : List α} : (x :: l).map f = f x :: l.map f := rfl
theorem mapn {α β : Type} {f : α → β} : ([] : List α).map f = [] := rfl
theorem wipe_1 {a : AS} {i : Nat} : dWipe a [i] = a.put i .emp := rfl
theorem wipe_2 {a : AS} {i j : Nat} : dWipe a [i, j] = (a.put j .emp).put i .emp := rfl
theorem wipe_3 {a : AS} {i j k : Nat} : dWipe a [i, j, k] = ((a.put k .emp).put j .emp).put i .emp := rfl
theorem wipe_4 {a : AS} {i j k l : Nat} : dWipe a [i, j, k, l] = (((a.put l .emp).put k .emp).put j .emp).put i .emp := rfl
theorem wipe_5 {a : AS} {i j k l m : Nat} : dWipe a [i, j, k, l, m] = ((((a.put m .emp).put l .emp).put k .emp).put j .emp).put i .emp := rfl
/-- a comprehension that draws nothing and takes all -/
theorem lc_map {w : List Sl} {vs : List Nat} {dg : DGt} {dt : DTt} {de : DEt} {sp : Option Addr} {R : List D → Int → Prop} {items : List D} {n : Int} (g : D → D) (hl : items.length ≤ sizeLine)
    (h : ∀ d ∈ items, ∀ S : D → AS → Prop, (∀ a, (dWipe a vs).sl = w → a.n = n → S (g d) a) → dg d ⟨w, n, sp⟩ fun a1 => dt a1 fun b a2 => bIf b (de a2 S) False) (hR : R (items.map g) n)
    (mt : ∀ a (S S' : Bool → AS → Prop), (∀ b a, S b a → S' b a) → dt a S → dt a S') (mg : ∀ d a (S S' : AS → Prop), (∀ a, S a → S' a) → dg d a S → dg d a S') : dLcGo w vs dg dt de sp R items [] n := by
  refine dLc_inv (fun i acc n' => acc = (items.take i).map g ∧ n' = n) ⟨rfl, rfl⟩ (fun i d acc n' N hi ⟨h1, h2⟩ hN => ?_) fun acc n' ⟨h1, h2⟩ => ?_
  · subst h1 h2
    have hlt : i < items.length := (List.getElem?_eq_some_iff.mp hi).1
    refine mg _ _ _ _ (fun a1 q => mt _ _ _ (fun b a2 q => ?_) q) (h d (List.mem_of_getElem? hi) (fun x a3 => (dWipe a3 vs).sl = w ∧ ((items.take i).map g).length < sizeLine ∧ N ((items.take i).map g ++ [x]) a3.n) fun a e1 e2 => ⟨e1, ?_, hN _ _ ⟨?_, e2⟩⟩)
    · cases b with
      | true => exact q
      | false => exact q.elim
    · rw [List.length_map, List.length_take]
      omega
    · rw [take_more hi, List.map_append]
      rfl
  · subst h1 h2
    rw [List.take_length]
    exact hR
theorem lc_map1 {w : List Sl} {vs : List Nat} {i : Nat} {de : DEt} {sp : Option Addr} {R : List D → Int → Prop} {items : List D} {n : Int} (g : D → D) (hl : items.length ≤ sizeLine)
    (h : ∀ d ∈ items, ∀ S : D → AS → Prop, (∀ a, (dWipe a vs).sl = w → a.n = n → S (g d) a) → de (AS.put ⟨w, n, sp⟩ i (.val d)) S) (hR : R (items.map g) n) : dLcGo w vs (dgName i) (fun a R => R true a) de sp R items [] n :=
  lc_map g hl h hR (fun _ _ _ f q => f _ _ q) fun _ _ _ _ f q => f _ q
/-- the same with a test: those that p tells -/
theorem lc_filt1 {w : List Sl} {vs : List Nat} {i : Nat} {dt : DTt} {de : DEt} {sp : Option Addr} {R : List D → Int → Prop} {items : List D} {n : Int} (p : D → Bool) (g : D → D) (hl : items.length ≤ sizeLine)
    (h : ∀ d ∈ items, ∀ (S : D → AS → Prop) (S' : AS → Prop), (∀ a, (dWipe a vs).sl = w → a.n = n → p d = true → S (g d) a) → (∀ a, (dWipe a vs).sl = w → a.n = n → p d = false → S' a) → dt (AS.put ⟨w, n, sp⟩ i (.val d)) fun b a2 => bIf b (de a2 S) (S' a2)) (hR : R ((items.filter p).map g) n) : dLcGo w vs (dgName i) dt de sp R items [] n := by
  refine dLc_inv (fun i acc n' => acc = ((items.take i).filter p).map g ∧ n' = n) ⟨rfl, rfl⟩ (fun i d acc n' N hi ⟨h1, h2⟩ hN => ?_) fun acc n' ⟨h1, h2⟩ => ?_
  · subst h1 h2
    have hlt : i < items.length := (List.getElem?_eq_some_iff.mp hi).1
    refine h d (List.mem_of_getElem? hi) _ _ (fun a e1 e2 e3 => ⟨e1, ?_, hN _ _ ⟨?_, e2⟩⟩) fun a e1 e2 e3 => ⟨e1, hN _ _ ⟨?_, e2⟩⟩
    · rw [List.length_map]
      have := List.length_filter_le p (items.take i)
      rw [List.length_take] at this
      omega
    · rw [take_more hi, List.filter_append, List.map_append, List.filter_cons_of_pos e3]
      rfl
    · rw [take_more hi, List.filter_append, List.filter_cons_of_neg (by rw [e3]; exact Bool.false_ne_true)]
      simp
  · subst h1 h2
    rw [List.take_length]
    exact hR
/-- over coded things -/
theorem lc_mapc {α : Type} {f : α → D} {xs : List α} {w : List Sl} {vs : List Nat} {dg : DGt} {dt : DTt} {de : DEt} {sp : Option Addr} {R : List D → Int → Prop} {n : Int} (g : α → D) (hl : xs.length ≤ sizeLine)
    (h : ∀ x ∈ xs, ∀ S : D → AS → Prop, (∀ a, (dWipe a vs).sl = w → a.n = n → S (g x) a) → dg (f x) ⟨w, n, sp⟩ fun a1 => dt a1 fun b a2 => bIf b (de a2 S) False) (hR : R (xs.map g) n)
    (mt : ∀ a (S S' : Bool → AS → Prop), (∀ b a, S b a → S' b a) → dt a S → dt a S') (mg : ∀ d a (S S' : AS → Prop), (∀ a, S a → S' a) → dg d a S → dg d a S') : dLcGo w vs dg dt de sp R (xs.map f) [] n := by
  refine dLc_inv (fun i acc n' => acc = (xs.take i).map g ∧ n' = n) ⟨rfl, rfl⟩ (fun i d acc n' N hi ⟨h1, h2⟩ hN => ?_) fun acc n' ⟨h1, h2⟩ => ?_
  · subst h1 h2
    rw [List.getElem?_map] at hi
    obtain ⟨x, hx, rfl⟩ := Option.map_eq_some_iff.mp hi
    have hlt : i < xs.length := (List.getElem?_eq_some_iff.mp hx).1
    refine mg _ _ _ _ (fun a1 q => mt _ _ _ (fun b a2 q => ?_) q) (h x (List.mem_of_getElem? hx) (fun x a3 => (dWipe a3 vs).sl = w ∧ ((xs.take i).map g).length < sizeLine ∧ N ((xs.take i).map g ++ [x]) a3.n) fun a e1 e2 => ⟨e1, ?_, hN _ _ ⟨?_, e2⟩⟩)
    · cases b with
      | true => exact q
      | false => exact q.elim
    · rw [List.length_map, List.length_take]
      omega
    · rw [take_more hx, List.map_append]
      rfl
  · subst h1 h2
    rw [List.length_map, List.take_length]
    exact hR
theorem lc_mapc1 {α : Type} {f : α → D} {xs : List α} {w : List Sl} {vs : List Nat} {i : Nat} {de : DEt} {sp : Option Addr} {R : List D → Int → Prop} {n : Int} (g : α → D) (hl : xs.length ≤ sizeLine)
    (h : ∀ x ∈ xs, ∀ S : D → AS → Prop, (∀ a, (dWipe a vs).sl = w → a.n = n → S (g x) a) → de (AS.put ⟨w, n, sp⟩ i (.val (f x))) S) (hR : R (xs.map g) n) : dLcGo w vs (dgName i) (fun a R => R true a) de sp R (xs.map f) [] n :=
  lc_mapc g hl h hR (fun _ _ _ f q => f _ _ q) fun _ _ _ _ f q => f _ q
theorem lc_filtc1 {α : Type} {f : α → D} {xs : List α} {w : List Sl} {vs : List Nat} {i : Nat} {dt : DTt} {de : DEt} {sp : Option Addr} {R : List D → Int → Prop} {n : Int} (p : α → Bool) (g : α → D) (hl : xs.length ≤ sizeLine)
    (h : ∀ x ∈ xs, ∀ (S : D → AS → Prop) (S' : AS → Prop), (∀ a, (dWipe a vs).sl = w → a.n = n → p x = true → S (g x) a) → (∀ a, (dWipe a vs).sl = w → a.n = n → p x = false → S' a) → dt (AS.put ⟨w, n, sp⟩ i (.val (f x))) fun b a2 => bIf b (de a2 S) (S' a2)) (hR : R ((xs.filter p).map g) n) : dLcGo w vs (dgName i) dt de sp R (xs.map f) [] n := by
  refine dLc_inv (fun i acc n' => acc = ((xs.take i).filter p).map g ∧ n' = n) ⟨rfl, rfl⟩ (fun i d acc n' N hi ⟨h1, h2⟩ hN => ?_) fun acc n' ⟨h1, h2⟩ => ?_
  · subst h1 h2
    rw [List.getElem?_map] at hi
    obtain ⟨x, hx, rfl⟩ := Option.map_eq_some_iff.mp hi
    have hlt : i < xs.length := (List.getElem?_eq_some_iff.mp hx).1
    refine h x (List.mem_of_getElem? hx) _ _ (fun a e1 e2 e3 => ⟨e1, ?_, hN _ _ ⟨?_, e2⟩⟩) fun a e1 e2 e3 => ⟨e1, hN _ _ ⟨?_, e2⟩⟩
    · rw [List.length_map]
      have := List.length_filter_le p (xs.take i)
      rw [List.length_take] at this
      omega
    · rw [take_more hx, List.filter_append, List.map_append, List.filter_cons_of_pos e3]
      rfl
    · rw [take_more hx, List.filter_append, List.filter_cons_of_neg (by rw [e3]; exact Bool.false_ne_true)]
      simp
  · subst h1 h2
    rw [List.length_map, List.take_length]
    exact hR
theorem unB_map {α : Type} (f : α → Bool) : ∀ xs : List α, unB (xs.map fun x => D.v (V.bl (f x))) = some (xs.map f)
  | [] => rfl
  | x :: xs => by
    show (unB (xs.map fun x => D.v (V.bl (f x)))).map (f x :: ·) = _
    rw [unB_map f xs]
    rfl
/-- one statement, with what holds behind it -/
theorem cutI {t : DSt} {E : DEnds} {a : AS} {u : DSt} (Mid : AS → Prop) (h1 : t { E with nx := Mid } a) (h2 : ∀ a', Mid a' → u E a') : dCut t u E a := ⟨Mid, h1, h2⟩
theorem ty_non  : tyD (.v .non) = some .non := rfl
theorem ty_bl {b : Bool} : tyD (.v (.bl b)) = some .bl := rfl
theorem ty_int {i : Int} : tyD (.v (.int i)) = some .int := rfl
theorem ty_str {x : Str} : tyD (.v (.str x)) = some .str := rfl
theorem ty_lst {ds : List D} : tyD (.lst ds) = some .lst := rfl
theorem ty_tup {ds : List D} : tyD (.tup ds) = some .tup := rfl
theorem ty_ctup {ds : List D} : tyD (.ctup ds) = some .tup := rfl
theorem ty_ftup {ds : List D} : tyD (.ftup ds) = some .tup := rfl
theorem ty_dK {ks : List (Key × D)} : tyD (.dK ks) = some .dic := rfl
theorem ty_dT {ks : List (List Key × D)} : tyD (.dT ks) = some .dic := rfl
theorem sub_non_non : Ty.sub .non .non = true := rfl
theorem sub_non_bl : Ty.sub .non .bl = false := rfl
theorem sub_non_int : Ty.sub .non .int = false := rfl
theorem sub_non_str : Ty.sub .non .str = false := rfl
theorem sub_non_lst : Ty.sub .non .lst = false := rfl
theorem sub_non_tup : Ty.sub .non .tup = false := rfl
theorem sub_non_dic : Ty.sub .non .dic = false := rfl
theorem sub_bl_non : Ty.sub .bl .non = false := rfl
theorem sub_bl_bl : Ty.sub .bl .bl = true := rfl
theorem sub_bl_int : Ty.sub .bl .int = true := rfl
theorem sub_bl_str : Ty.sub .bl .str = false := rfl
theorem sub_bl_lst : Ty.sub .bl .lst = false := rfl
theorem sub_bl_tup : Ty.sub .bl .tup = false := rfl
theorem sub_bl_dic : Ty.sub .bl .dic = false := rfl
theorem sub_int_non : Ty.sub .int .non = false := rfl
theorem sub_int_bl : Ty.sub .int .bl = false := rfl
theorem sub_int_int : Ty.sub .int .int = true := rfl
theorem sub_int_str : Ty.sub .int .str = false := rfl
theorem sub_int_lst : Ty.sub .int .lst = false := rfl
theorem sub_int_tup : Ty.sub .int .tup = false := rfl
theorem sub_int_dic : Ty.sub .int .dic = false := rfl
theorem sub_str_non : Ty.sub .str .non = false := rfl
theorem sub_str_bl : Ty.sub .str .bl = false := rfl
theorem sub_str_int : Ty.sub .str .int = false := rfl
theorem sub_str_str : Ty.sub .str .str = true := rfl
theorem sub_str_lst : Ty.sub .str .lst = false := rfl
theorem sub_str_tup : Ty.sub .str .tup = false := rfl
theorem sub_str_dic : Ty.sub .str .dic = false := rfl
theorem sub_lst_non : Ty.sub .lst .non = false := rfl
theorem sub_lst_bl : Ty.sub .lst .bl = false := rfl
theorem sub_lst_int : Ty.sub .lst .int = false := rfl
theorem sub_lst_str : Ty.sub .lst .str = false := rfl
theorem sub_lst_lst : Ty.sub .lst .lst = true := rfl
theorem sub_lst_tup : Ty.sub .lst .tup = false := rfl
theorem sub_lst_dic : Ty.sub .lst .dic = false := rfl
theorem sub_tup_non : Ty.sub .tup .non = false := rfl
theorem sub_tup_bl : Ty.sub .tup .bl = false := rfl
theorem sub_tup_int : Ty.sub .tup .int = false := rfl
theorem sub_tup_str : Ty.sub .tup .str = false := rfl
theorem sub_tup_lst : Ty.sub .tup .lst = false := rfl
theorem sub_tup_tup : Ty.sub .tup .tup = true := rfl
theorem sub_tup_dic : Ty.sub .tup .dic = false := rfl
theorem sub_dic_non : Ty.sub .dic .non = false := rfl
theorem sub_dic_bl : Ty.sub .dic .bl = false := rfl
theorem sub_dic_int : Ty.sub .dic .int = false := rfl
theorem sub_dic_str : Ty.sub .dic .str = false := rfl
theorem sub_dic_lst : Ty.sub .dic .lst = false := rfl
theorem sub_dic_tup : Ty.sub .dic .tup = false := rfl
theorem sub_dic_dic : Ty.sub .dic .dic = true := rfl
theorem seq_lst {ds : List D} : seqD (.lst ds) = some ds := rfl
theorem seq_tup {ds : List D} : seqD (.tup ds) = some ds := rfl
theorem seq_ctup {ds : List D} : seqD (.ctup ds) = some ds := rfl
theorem seq_ftup {ds : List D} : seqD (.ftup ds) = some ds := rfl
theorem seq_non  : seqD (.v .non) = none := rfl
theorem seq_bl {b : Bool} : seqD (.v (.bl b)) = none := rfl
theorem seq_int {i : Int} : seqD (.v (.int i)) = none := rfl
theorem seq_str {x : Str} : seqD (.v (.str x)) = none := rfl
theorem seq_dK {ks : List (Key × D)} : seqD (.dK ks) = none := rfl
theorem seq_dT {ks : List (List Key × D)} : seqD (.dT ks) = none := rfl
theorem key_int {i : Int} : keyD (.v (.int i)) = some (.inl i) := rfl
theorem key_str {x : Str} : keyD (.v (.str x)) = some (.inr x) := rfl
theorem or_tt {b : Bool} : (true || b) = true := rfl
theorem or_ft {b : Bool} : (false || b) = b := rfl
theorem aI_1_0 {x0 : D} : atI [x0] 0 = some x0 := rfl
theorem aI_1_l {x0 : D} : atI [x0] (-1) = some x0 := rfl
theorem aI_2_0 {x0 x1 : D} : atI [x0, x1] 0 = some x0 := rfl
theorem aI_2_1 {x0 x1 : D} : atI [x0, x1] 1 = some x1 := rfl
theorem aI_2_l {x0 x1 : D} : atI [x0, x1] (-1) = some x1 := rfl
theorem aI_3_0 {x0 x1 x2 : D} : atI [x0, x1, x2] 0 = some x0 := rfl
theorem aI_3_1 {x0 x1 x2 : D} : atI [x0, x1, x2] 1 = some x1 := rfl
theorem aI_3_2 {x0 x1 x2 : D} : atI [x0, x1, x2] 2 = some x2 := rfl
theorem aI_3_l {x0 x1 x2 : D} : atI [x0, x1, x2] (-1) = some x2 := rfl
theorem aI_4_0 {x0 x1 x2 x3 : D} : atI [x0, x1, x2, x3] 0 = some x0 := rfl
theorem aI_4_1 {x0 x1 x2 x3 : D} : atI [x0, x1, x2, x3] 1 = some x1 := rfl
theorem aI_4_2 {x0 x1 x2 x3 : D} : atI [x0, x1, x2, x3] 2 = some x2 := rfl
theorem aI_4_3 {x0 x1 x2 x3 : D} : atI [x0, x1, x2, x3] 3 = some x3 := rfl
theorem aI_4_l {x0 x1 x2 x3 : D} : atI [x0, x1, x2, x3] (-1) = some x3 := rfl
theorem aI_5_0 {x0 x1 x2 x3 x4 : D} : atI [x0, x1, x2, x3, x4] 0 = some x0 := rfl
theorem aI_5_1 {x0 x1 x2 x3 x4 : D} : atI [x0, x1, x2, x3, x4] 1 = some x1 := rfl
theorem aI_5_2 {x0 x1 x2 x3 x4 : D} : atI [x0, x1, x2, x3, x4] 2 = some x2 := rfl
theorem aI_5_3 {x0 x1 x2 x3 x4 : D} : atI [x0, x1, x2, x3, x4] 3 = some x3 := rfl
theorem aI_5_4 {x0 x1 x2 x3 x4 : D} : atI [x0, x1, x2, x3, x4] 4 = some x4 := rfl
theorem aI_5_l {x0 x1 x2 x3 x4 : D} : atI [x0, x1, x2, x3, x4] (-1) = some x4 := rfl
theorem aI_6_0 {x0 x1 x2 x3 x4 x5 : D} : atI [x0, x1, x2, x3, x4, x5] 0 = some x0 := rfl
theorem aI_6_1 {x0 x1 x2 x3 x4 x5 : D} : atI [x0, x1, x2, x3, x4, x5] 1 = some x1 := rfl
theorem aI_6_2 {x0 x1 x2 x3 x4 x5 : D} : atI [x0, x1, x2, x3, x4, x5] 2 = some x2 := rfl
theorem aI_6_3 {x0 x1 x2 x3 x4 x5 : D} : atI [x0, x1, x2, x3, x4, x5] 3 = some x3 := rfl
theorem aI_6_4 {x0 x1 x2 x3 x4 x5 : D} : atI [x0, x1, x2, x3, x4, x5] 4 = some x4 := rfl
theorem aI_6_5 {x0 x1 x2 x3 x4 x5 : D} : atI [x0, x1, x2, x3, x4, x5] 5 = some x5 := rfl
theorem aI_6_l {x0 x1 x2 x3 x4 x5 : D} : atI [x0, x1, x2, x3, x4, x5] (-1) = some x5 := rfl
local macro_rules | `(tactic| walk_at "dr") => `(tactic| try dsimp only [dSeq, dPar, dPar3, dTry, dIfS, dOr, dAnd, dNot, dTest, dIsi, dIsi2, dVar, dVarB, dC, dOp, dI0, dI, dCB, dCons, dNil, dLen, dLc, wipe_1, wipe_2, wipe_3, wipe_4, wipe_5, mapc, mapn, dRet, dSet, dSetO, dNext, dAsg, dDrop, dTup, dLst, dIx, dFlat, isV, dIfE, dAndV, dOrV, dNotV, dChain, dgName, dgCons, dgNil, dgTup, dItSeq, dStr, dDisp, dpCons, dpNil, dEqB, dIsN, dCat, dRep, dListOf, dTupOf, dBs, dI1, dI2, dInt1, dDivmod, dTupD, dStrI, dInG, dIxG, dFld, dCall, dCall0, dCallF, dCallF0, dCallX, dCallX0, dCallXF0, dMeth, dMethX, dProp, dProp.isC, isI, dAug, dNeg, dUn, dEnum, dEnumB, dEnumS, dZip, dRng1, dRng2, dDGet, dDGet1, dDGet2, dDIn, dGetR, isDk, asB, nb, opt, bIf_t, bIf_f, not_t, not_f, Option.getD_some, Option.getD_none, List.lookup, dRaise, dRaise0, dFor, dgSeq, dDPut, dPutR, dOwn, dOwnE, mAppend, mExtend, mInsert, mPop, mPopAt, asL, dSetOwn, dSetIx, dDUpd, dDUpd.isOwnK, dDSetT, dDSetT.isOwnT, dFldO, dSlL, dSlS, dSlT, dPart, dNoPart, dJoin, dSplit, dCatTE, dDictZip, dIs, dSortS, dBool1, at_0, put_0, at_1, put_1, at_2, put_2, at_3, put_3, at_4, put_4, at_5, put_5, at_6, put_6, at_7, put_7, at_8, put_8, at_9, put_9, at_10, put_10, at_11, put_11, at_12, put_12, at_13, put_13, at_14, put_14, at_15, put_15, at_16, put_16, at_17, put_17, at_18, put_18, at_19, put_19, at_20, put_20, at_21, put_21, at_22, put_22, at_23, put_23, at_24, put_24, at_25, put_25, ty_non, ty_bl, ty_int, ty_str, ty_lst, ty_tup, ty_ctup, ty_ftup, ty_dK, ty_dT, sub_non_non, sub_non_bl, sub_non_int, sub_non_str, sub_non_lst, sub_non_tup, sub_non_dic, sub_bl_non, sub_bl_bl, sub_bl_int, sub_bl_str, sub_bl_lst, sub_bl_tup, sub_bl_dic, sub_int_non, sub_int_bl, sub_int_int, sub_int_str, sub_int_lst, sub_int_tup, sub_int_dic, sub_str_non, sub_str_bl, sub_str_int, sub_str_str, sub_str_lst, sub_str_tup, sub_str_dic, sub_lst_non, sub_lst_bl, sub_lst_int, sub_lst_str, sub_lst_lst, sub_lst_tup, sub_lst_dic, sub_tup_non, sub_tup_bl, sub_tup_int, sub_tup_str, sub_tup_lst, sub_tup_tup, sub_tup_dic, sub_dic_non, sub_dic_bl, sub_dic_int, sub_dic_str, sub_dic_lst, sub_dic_tup, sub_dic_dic, seq_non, seq_bl, seq_int, seq_str, seq_lst, seq_tup, seq_ctup, seq_ftup, seq_dK, seq_dT, key_int, key_str, or_tt, or_ft, aI_1_0, aI_1_l, aI_2_0, aI_2_1, aI_2_l, aI_3_0, aI_3_1, aI_3_2, aI_3_l, aI_4_0, aI_4_1, aI_4_2, aI_4_3, aI_4_l, aI_5_0, aI_5_1, aI_5_2, aI_5_3, aI_5_4, aI_5_l, aI_6_0, aI_6_1, aI_6_2, aI_6_3, aI_6_4, aI_6_5, aI_6_l])
/-! ### an error made by keyword and asked at once; the class of a caught one -/
section
variable {K : PySem.W.Frag} {ω : Wp} {B : Bs K} {F F' F1 F2 G : Hp} {a a' a1 a2 : AS} {σ σ' : St} {H H' H1 H2 : Hp} {n : Int} {de da db : DEt} {ι : Type} {X : ι → Cx} {e e1 e2 : Expr} {es : List Expr} {pos : Pos}
theorem de_mkf {C fI : Addr} {x f : Str} {p pos2 kp : Pos} {k : Nat} (T : ∀ j, PySem.SupX.ClsTxt (X j).prog (X j).K (X j).mg C fI x) (Tf : ∀ j, PySem.SupX.FnTxt (X j).prog (X j).K C fI f) (Tk : ∀ j, PySem.SupX.KwB (X j).K fI f) (hr : ∀ j, Room k (X j).A) (ha : DX X K ω e de) (hg : ∀ j, Gl (X j) x)
    (hall : ∀ j, (backToKw pos (keywordEach [⟨some f, e, kp⟩] (X j).env)).all (·.1.isSome) = true := by intro _; rfl) (hks : ∀ j, (backToKw pos (keywordEach [⟨some f, e, kp⟩] (X j).env)).filterMap (·.1) = [f] := by intro _; rfl) (hd : (x == ("__debug__" : Str)) = false := by decide)
    (hpl : ∀ j, ((backTo pos (starEach [] (X j).env)).any (·.1) || (backToKw pos (keywordEach [⟨some f, e, kp⟩] (X j).env)).any (·.1.isNone)) = false := by intro _; rfl)
    (hb : ∀ j, attributeBase (.Call (.Name x p) [] [⟨some f, e, kp⟩] pos) f (X j).env (eval (.Call (.Name x p) [] [⟨some f, e, kp⟩] pos) (X j).env) = eval (.Call (.Name x p) [] [⟨some f, e, kp⟩] pos) (X j).env := by intro _; rfl) :
    DX X K ω (.Attribute (.Call (.Name x p) [] [⟨some f, e, kp⟩] pos) f pos2) de := by
  obtain ⟨t, h, l⟩ := ha
  refine ⟨tMkf (tCons t tNil), fun j => pe_mkf (T j) (Tf j) (Tk j) (hr j) (pk_cons (h j) pk_nil) (hg j) (hall j) (hks j) hd (hpl j) (hb j), fun B hω F a σ H Q R ok hd k => l B hω F a σ H _ _ ok hd fun v d F1 a1 H1 g1 q1 r1 => ?_⟩
  exact ⟨v, rfl, k v d F1 a1 H1 g1 q1 r1⟩
def dIsX (K : PySem.W.Frag) (C : Addr) (cv : Value) (i : Nat) (xa : Addr) : DEt := fun a R => a.at i = .val (.v (.ref xa)) ∧ ∃ b, PySem.W.kitOne K (.ref C) cv = some b ∧ R (.v (.bl b)) a
theorem de_isX {C : Addr} {dd : Option Addr} {fs : List (Str × D)} {xa : Addr} {y z : Str} {p py pz : Pos} (i : Nat) {c : V} {cv : Value} (hC : ∀ j, IsX (X j).K C) (hg : ∀ j, Gl (X j) "isinstance") (hm : ∀ j, (X j).mg "isinstance" = none) (hc : ClsV c cv) (hz : ∀ q : sufI ι (.ref C) dd, PE (sufF X xa (.ref C) dd q) (.Name z pz) (tC c))
    (hN : ∀ j, (X j).N[i]? = some y := by intro _; rfl) (hv : ∀ j, Vis (X j).env.scope y := by first | exact fun _ => Or.inl rfl | exact fun _ => Or.inr (Or.inl rfl) | exact fun _ => Or.inr (Or.inr rfl)) (hd : (y == ("__debug__" : Str)) = false := by decide)
    (hcd : (y == ("__classdict__" : Str)) = false := by decide) (hs1 : ∀ q : sufI ι (.ref C) dd, starEach [.Name y py, .Name z pz] (sufF X xa (.ref C) dd q).env = (false, eval (.Name y py) (sufF X xa (.ref C) dd q).env) :: starEach [.Name z pz] (sufF X xa (.ref C) dd q).env := by intro _; rfl)
    (hs2 : ∀ q : sufI ι (.ref C) dd, starEach [.Name z pz] (sufF X xa (.ref C) dd q).env = (false, eval (.Name z pz) (sufF X xa (.ref C) dd q).env) :: starEach [] (sufF X xa (.ref C) dd q).env := by intro _; rfl) (hpl : ∀ q : sufI ι (.ref C) dd, (backTo pos (starEach [.Name z pz] (sufF X xa (.ref C) dd q).env)).any (·.1) = false := by intro _; rfl) (hK : ∀ j, (X j).K = K := by intro _; rfl) :
    DX (sufF X xa (.ref C) dd) K (wpS K dd fs) (.Call (.Name "isinstance" p) [.Name y py, .Name z pz] [] pos) (dIsX K C cv i xa) := by
  refine ⟨tCB (rIsX K C xa dd) (tCons (tVar i) (tCons (tC c) tNil)), fun q => by rw [← hK q.1.1]; exact pe_callB (call_isX (hC q.1.1) q.2.1 q.2.2) (hg q.1.1) (hm q.1.1) (by decide +kernel) (pa_cons (pe_var (hN q.1.1) (hv q.1.1) hd hcd) (pa_cons (hz q) pa_nil (hs2 q)) (hs1 q)) (by decide) (by decide) (hs1 q) (hpl q), fun B hω F a σ H Q R ok hd k => ?_⟩
  obtain ⟨h0, b, e, r⟩ := hd
  obtain ⟨v, h1, h2⟩ := ok.va i _ (at_of' h0 (fun z => nomatch z))
  cases (show v = .ref xa from h2)
  refine ⟨.ref xa, h1, c, cv, b, rfl, hc, e, fun d hdd => ?_, k _ (.v _) F a H (.refl ok) rfl r⟩
  rcases hω.1 with ⟨z, _⟩ | ⟨ad, vs, e1, h3, h4⟩
  · rw [z] at hdd
    cases hdd
  · rw [e1] at hdd
    cases hdd
    exact ⟨vs, ok.fi.fh _ _ (ok.fi.ff _ _ h3)⟩
end
--SPLIT
def top (i : Nat) : Stmt := PySem.Challenge.pw_nearloops_k35_errors_made.main.body.getD i (.Pass ⟨0, 0, 0, 0⟩)
abbrev s_law_source : Stmt := top 14
abbrev s_law_draw : Stmt := top 15
abbrev s_law_pick : Stmt := top 16
abbrev s_law_raised : Stmt := top 17
abbrev s_law_fields : Stmt := top 18
abbrev s_law_caught : Stmt := top 19
abbrev s_law : Stmt := top 20
theorem sc_law_source : FnScope ["_law_script", "_law_great", "_law_seed", "_law_cell"] ["_law_script"] (defScope s_law_source) := ⟨rfl, rfl, rfl, by decide +kernel, rfl, by decide +kernel, by decide +kernel⟩
theorem sc_law_draw : FnScope ["_law_source_here", "_law_many", "_law_digit", "_law_mixed"] ["_law_source_here", "_law_many"] (defScope s_law_draw) := ⟨rfl, rfl, rfl, by decide +kernel, rfl, by decide +kernel, by decide +kernel⟩
theorem sc_law_pick : FnScope ["_law_source_here", "_law_things"] ["_law_source_here", "_law_things"] (defScope s_law_pick) := ⟨rfl, rfl, rfl, by decide +kernel, rfl, by decide +kernel, by decide +kernel⟩
theorem sc_law_raised : FnScope ["_law_how", "_law_a"] ["_law_how", "_law_a"] (defScope s_law_raised) := ⟨rfl, rfl, rfl, by decide +kernel, rfl, by decide +kernel, by decide +kernel⟩
theorem sc_law_fields : FnScope ["_law_how", "_law_a", "_law_found", "e"] ["_law_how", "_law_a"] (defScope s_law_fields) := ⟨rfl, rfl, rfl, by decide +kernel, rfl, by decide +kernel, by decide +kernel⟩
theorem sc_law_caught : FnScope ["_law_how", "_law_a", "_law_found", "e", "_law_k"] ["_law_how", "_law_a"] (defScope s_law_caught) := ⟨rfl, rfl, rfl, by decide +kernel, rfl, by decide +kernel, by decide +kernel⟩
theorem sc_law : FnScope ["_law_script", "_law_source_here", "_law_things", "_law_how", "_law_a", "_law_named"] ["_law_script"] (defScope s_law) := ⟨rfl, rfl, rfl, by decide +kernel, rfl, by decide +kernel, by decide +kernel⟩

/-- what the top has written: each def at its address, the built-ins not hidden -/
structure Txt (P : Program) (w : World) (K : PySem.W.Frag) (mg : Str → Option Value) where
  f_law_source : Addr
  d_law_source : FuncData
  F_law_source : Fun K "_law_source" "_law_source" s_law_source f_law_source d_law_source
  b_law_source : Binds K d_law_source ["_law_script"] []
  m_law_source : mg "_law_source" = some (.ref f_law_source)
  f_law_draw : Addr
  d_law_draw : FuncData
  F_law_draw : Fun K "_law_draw" "_law_draw" s_law_draw f_law_draw d_law_draw
  b_law_draw : Binds K d_law_draw ["_law_source_here", "_law_many"] []
  m_law_draw : mg "_law_draw" = some (.ref f_law_draw)
  f_law_pick : Addr
  d_law_pick : FuncData
  F_law_pick : Fun K "_law_pick" "_law_pick" s_law_pick f_law_pick d_law_pick
  b_law_pick : Binds K d_law_pick ["_law_source_here", "_law_things"] []
  m_law_pick : mg "_law_pick" = some (.ref f_law_pick)
  f_law_raised : Addr
  d_law_raised : FuncData
  F_law_raised : Fun K "_law_raised" "_law_raised" s_law_raised f_law_raised d_law_raised
  b_law_raised : Binds K d_law_raised ["_law_how", "_law_a"] []
  m_law_raised : mg "_law_raised" = some (.ref f_law_raised)
  f_law_fields : Addr
  d_law_fields : FuncData
  F_law_fields : Fun K "_law_fields" "_law_fields" s_law_fields f_law_fields d_law_fields
  b_law_fields : Binds K d_law_fields ["_law_how", "_law_a"] []
  m_law_fields : mg "_law_fields" = some (.ref f_law_fields)
  f_law_caught : Addr
  d_law_caught : FuncData
  F_law_caught : Fun K "_law_caught" "_law_caught" s_law_caught f_law_caught d_law_caught
  b_law_caught : Binds K d_law_caught ["_law_how", "_law_a"] []
  m_law_caught : mg "_law_caught" = some (.ref f_law_caught)
  f_law : Addr
  d_law : FuncData
  F_law : Fun K "law" "law" s_law f_law d_law
  b_law : Binds K d_law ["_law_script"] []
  m_law : mg "law" = some (.ref f_law)
  m_int : mg "int" = none
  m_range : mg "range" = none
  m_len : mg "len" = none
  m_isinstance : mg "isinstance" = none
  m_ValueError : mg "ValueError" = none
  C_BadAnswer : Addr
  i_BadAnswer : Addr
  er_BadAnswer : PySem.SupX.ClsTxt P K mg C_BadAnswer i_BadAnswer "BadAnswer"
  fn_BadAnswer : PySem.SupX.FnTxt P K C_BadAnswer i_BadAnswer "answer"
  xf_BadAnswer : XfC K C_BadAnswer
  te_BadAnswer : PySem.W.exmOne K (.ref C_BadAnswer) (.ref C_BadAnswer) = some true
  C_BadGroup : Addr
  i_BadGroup : Addr
  er_BadGroup : PySem.SupX.ClsTxt P K mg C_BadGroup i_BadGroup "BadGroup"
  fn_BadGroup : PySem.SupX.FnTxt P K C_BadGroup i_BadGroup "group"
  xf_BadGroup : XfC K C_BadGroup
  te_BadGroup : PySem.W.exmOne K (.ref C_BadGroup) (.ref C_BadGroup) = some true
  C_BadJoint : Addr
  i_BadJoint : Addr
  er_BadJoint : PySem.SupX.ClsTxt P K mg C_BadJoint i_BadJoint "BadJoint"
  fn_BadJoint : PySem.SupX.FnTxt P K C_BadJoint i_BadJoint "state"
  xf_BadJoint : XfC K C_BadJoint
  te_BadJoint : PySem.W.exmOne K (.ref C_BadJoint) (.ref C_BadJoint) = some true
  C_BadKind : Addr
  i_BadKind : Addr
  er_BadKind : PySem.SupX.ClsTxt P K mg C_BadKind i_BadKind "BadKind"
  fn_BadKind : PySem.SupX.FnTxt P K C_BadKind i_BadKind "by"
  xf_BadKind : XfC K C_BadKind
  te_BadKind : PySem.W.exmOne K (.ref C_BadKind) (.ref C_BadKind) = some true
  C_BadLoop : Addr
  i_BadLoop : Addr
  er_BadLoop : PySem.SupX.ClsTxt P K mg C_BadLoop i_BadLoop "BadLoop"
  fn_BadLoop : PySem.SupX.FnTxt P K C_BadLoop i_BadLoop "line"
  xf_BadLoop : XfC K C_BadLoop
  te_BadLoop : PySem.W.exmOne K (.ref C_BadLoop) (.ref C_BadLoop) = some true
  C_BadNumber : Addr
  i_BadNumber : Addr
  er_BadNumber : PySem.SupX.ClsTxt P K mg C_BadNumber i_BadNumber "BadNumber"
  fn_BadNumber : PySem.SupX.FnTxt P K C_BadNumber i_BadNumber "number"
  xf_BadNumber : XfC K C_BadNumber
  te_BadNumber : PySem.W.exmOne K (.ref C_BadNumber) (.ref C_BadNumber) = some true
  C_BadRow : Addr
  i_BadRow : Addr
  er_BadRow : PySem.SupX.ClsTxt P K mg C_BadRow i_BadRow "BadRow"
  fn_BadRow : PySem.SupX.FnTxt0 P K C_BadRow i_BadRow
  xf_BadRow : XfC K C_BadRow
  te_BadRow : PySem.W.exmOne K (.ref C_BadRow) (.ref C_BadRow) = some true
  C_BadTable : Addr
  i_BadTable : Addr
  er_BadTable : PySem.SupX.ClsTxt P K mg C_BadTable i_BadTable "BadTable"
  fn_BadTable : PySem.SupX.FnTxt0 P K C_BadTable i_BadTable
  xf_BadTable : XfC K C_BadTable
  te_BadTable : PySem.W.exmOne K (.ref C_BadTable) (.ref C_BadTable) = some true
  C_BadTolerance : Addr
  i_BadTolerance : Addr
  er_BadTolerance : PySem.SupX.ClsTxt P K mg C_BadTolerance i_BadTolerance "BadTolerance"
  fn_BadTolerance : PySem.SupX.FnTxt P K C_BadTolerance i_BadTolerance "tolerance"
  xf_BadTolerance : XfC K C_BadTolerance
  te_BadTolerance : PySem.W.exmOne K (.ref C_BadTolerance) (.ref C_BadTolerance) = some true
  C_BadWatch : Addr
  i_BadWatch : Addr
  er_BadWatch : PySem.SupX.ClsTxt P K mg C_BadWatch i_BadWatch "BadWatch"
  fn_BadWatch : PySem.SupX.FnTxt P K C_BadWatch i_BadWatch "line"
  xf_BadWatch : XfC K C_BadWatch
  te_BadWatch : PySem.W.exmOne K (.ref C_BadWatch) (.ref C_BadWatch) = some true
  C_UnknownState : Addr
  i_UnknownState : Addr
  er_UnknownState : PySem.SupX.ClsTxt P K mg C_UnknownState i_UnknownState "UnknownState"
  fn_UnknownState : PySem.SupX.FnTxt P K C_UnknownState i_UnknownState "state"
  xf_UnknownState : XfC K C_UnknownState
  te_UnknownState : PySem.W.exmOne K (.ref C_UnknownState) (.ref C_UnknownState) = some true
  ne_BadAnswer_BadGroup : PySem.W.exmOne K (.ref C_BadAnswer) (.ref C_BadGroup) = some false
  ne_BadAnswer_BadJoint : PySem.W.exmOne K (.ref C_BadAnswer) (.ref C_BadJoint) = some false
  ne_BadAnswer_BadKind : PySem.W.exmOne K (.ref C_BadAnswer) (.ref C_BadKind) = some false
  ne_BadAnswer_BadLoop : PySem.W.exmOne K (.ref C_BadAnswer) (.ref C_BadLoop) = some false
  ne_BadAnswer_BadNumber : PySem.W.exmOne K (.ref C_BadAnswer) (.ref C_BadNumber) = some false
  ne_BadAnswer_BadRow : PySem.W.exmOne K (.ref C_BadAnswer) (.ref C_BadRow) = some false
  ne_BadAnswer_BadTable : PySem.W.exmOne K (.ref C_BadAnswer) (.ref C_BadTable) = some false
  ne_BadAnswer_BadTolerance : PySem.W.exmOne K (.ref C_BadAnswer) (.ref C_BadTolerance) = some false
  ne_BadAnswer_BadWatch : PySem.W.exmOne K (.ref C_BadAnswer) (.ref C_BadWatch) = some false
  ne_BadAnswer_UnknownState : PySem.W.exmOne K (.ref C_BadAnswer) (.ref C_UnknownState) = some false
  ne_BadGroup_BadAnswer : PySem.W.exmOne K (.ref C_BadGroup) (.ref C_BadAnswer) = some false
  ne_BadGroup_BadJoint : PySem.W.exmOne K (.ref C_BadGroup) (.ref C_BadJoint) = some false
  ne_BadGroup_BadKind : PySem.W.exmOne K (.ref C_BadGroup) (.ref C_BadKind) = some false
  ne_BadGroup_BadLoop : PySem.W.exmOne K (.ref C_BadGroup) (.ref C_BadLoop) = some false
  ne_BadGroup_BadNumber : PySem.W.exmOne K (.ref C_BadGroup) (.ref C_BadNumber) = some false
  ne_BadGroup_BadRow : PySem.W.exmOne K (.ref C_BadGroup) (.ref C_BadRow) = some false
  ne_BadGroup_BadTable : PySem.W.exmOne K (.ref C_BadGroup) (.ref C_BadTable) = some false
  ne_BadGroup_BadTolerance : PySem.W.exmOne K (.ref C_BadGroup) (.ref C_BadTolerance) = some false
  ne_BadGroup_BadWatch : PySem.W.exmOne K (.ref C_BadGroup) (.ref C_BadWatch) = some false
  ne_BadGroup_UnknownState : PySem.W.exmOne K (.ref C_BadGroup) (.ref C_UnknownState) = some false
  ne_BadJoint_BadAnswer : PySem.W.exmOne K (.ref C_BadJoint) (.ref C_BadAnswer) = some false
  ne_BadJoint_BadGroup : PySem.W.exmOne K (.ref C_BadJoint) (.ref C_BadGroup) = some false
  ne_BadJoint_BadKind : PySem.W.exmOne K (.ref C_BadJoint) (.ref C_BadKind) = some false
  ne_BadJoint_BadLoop : PySem.W.exmOne K (.ref C_BadJoint) (.ref C_BadLoop) = some false
  ne_BadJoint_BadNumber : PySem.W.exmOne K (.ref C_BadJoint) (.ref C_BadNumber) = some false
  ne_BadJoint_BadRow : PySem.W.exmOne K (.ref C_BadJoint) (.ref C_BadRow) = some false
  ne_BadJoint_BadTable : PySem.W.exmOne K (.ref C_BadJoint) (.ref C_BadTable) = some false
  ne_BadJoint_BadTolerance : PySem.W.exmOne K (.ref C_BadJoint) (.ref C_BadTolerance) = some false
  ne_BadJoint_BadWatch : PySem.W.exmOne K (.ref C_BadJoint) (.ref C_BadWatch) = some false
  ne_BadJoint_UnknownState : PySem.W.exmOne K (.ref C_BadJoint) (.ref C_UnknownState) = some false
  ne_BadKind_BadAnswer : PySem.W.exmOne K (.ref C_BadKind) (.ref C_BadAnswer) = some false
  ne_BadKind_BadGroup : PySem.W.exmOne K (.ref C_BadKind) (.ref C_BadGroup) = some false
  ne_BadKind_BadJoint : PySem.W.exmOne K (.ref C_BadKind) (.ref C_BadJoint) = some false
  ne_BadKind_BadLoop : PySem.W.exmOne K (.ref C_BadKind) (.ref C_BadLoop) = some false
  ne_BadKind_BadNumber : PySem.W.exmOne K (.ref C_BadKind) (.ref C_BadNumber) = some false
  ne_BadKind_BadRow : PySem.W.exmOne K (.ref C_BadKind) (.ref C_BadRow) = some false
  ne_BadKind_BadTable : PySem.W.exmOne K (.ref C_BadKind) (.ref C_BadTable) = some false
  ne_BadKind_BadTolerance : PySem.W.exmOne K (.ref C_BadKind) (.ref C_BadTolerance) = some false
  ne_BadKind_BadWatch : PySem.W.exmOne K (.ref C_BadKind) (.ref C_BadWatch) = some false
  ne_BadKind_UnknownState : PySem.W.exmOne K (.ref C_BadKind) (.ref C_UnknownState) = some false
  ne_BadLoop_BadAnswer : PySem.W.exmOne K (.ref C_BadLoop) (.ref C_BadAnswer) = some false
  ne_BadLoop_BadGroup : PySem.W.exmOne K (.ref C_BadLoop) (.ref C_BadGroup) = some false
  ne_BadLoop_BadJoint : PySem.W.exmOne K (.ref C_BadLoop) (.ref C_BadJoint) = some false
  ne_BadLoop_BadKind : PySem.W.exmOne K (.ref C_BadLoop) (.ref C_BadKind) = some false
  ne_BadLoop_BadNumber : PySem.W.exmOne K (.ref C_BadLoop) (.ref C_BadNumber) = some false
  ne_BadLoop_BadRow : PySem.W.exmOne K (.ref C_BadLoop) (.ref C_BadRow) = some false
  ne_BadLoop_BadTable : PySem.W.exmOne K (.ref C_BadLoop) (.ref C_BadTable) = some false
  ne_BadLoop_BadTolerance : PySem.W.exmOne K (.ref C_BadLoop) (.ref C_BadTolerance) = some false
  ne_BadLoop_BadWatch : PySem.W.exmOne K (.ref C_BadLoop) (.ref C_BadWatch) = some false
  ne_BadLoop_UnknownState : PySem.W.exmOne K (.ref C_BadLoop) (.ref C_UnknownState) = some false
  ne_BadNumber_BadAnswer : PySem.W.exmOne K (.ref C_BadNumber) (.ref C_BadAnswer) = some false
  ne_BadNumber_BadGroup : PySem.W.exmOne K (.ref C_BadNumber) (.ref C_BadGroup) = some false
  ne_BadNumber_BadJoint : PySem.W.exmOne K (.ref C_BadNumber) (.ref C_BadJoint) = some false
  ne_BadNumber_BadKind : PySem.W.exmOne K (.ref C_BadNumber) (.ref C_BadKind) = some false
  ne_BadNumber_BadLoop : PySem.W.exmOne K (.ref C_BadNumber) (.ref C_BadLoop) = some false
  ne_BadNumber_BadRow : PySem.W.exmOne K (.ref C_BadNumber) (.ref C_BadRow) = some false
  ne_BadNumber_BadTable : PySem.W.exmOne K (.ref C_BadNumber) (.ref C_BadTable) = some false
  ne_BadNumber_BadTolerance : PySem.W.exmOne K (.ref C_BadNumber) (.ref C_BadTolerance) = some false
  ne_BadNumber_BadWatch : PySem.W.exmOne K (.ref C_BadNumber) (.ref C_BadWatch) = some false
  ne_BadNumber_UnknownState : PySem.W.exmOne K (.ref C_BadNumber) (.ref C_UnknownState) = some false
  ne_BadRow_BadAnswer : PySem.W.exmOne K (.ref C_BadRow) (.ref C_BadAnswer) = some false
  ne_BadRow_BadGroup : PySem.W.exmOne K (.ref C_BadRow) (.ref C_BadGroup) = some false
  ne_BadRow_BadJoint : PySem.W.exmOne K (.ref C_BadRow) (.ref C_BadJoint) = some false
  ne_BadRow_BadKind : PySem.W.exmOne K (.ref C_BadRow) (.ref C_BadKind) = some false
  ne_BadRow_BadLoop : PySem.W.exmOne K (.ref C_BadRow) (.ref C_BadLoop) = some false
  ne_BadRow_BadNumber : PySem.W.exmOne K (.ref C_BadRow) (.ref C_BadNumber) = some false
  ne_BadRow_BadTable : PySem.W.exmOne K (.ref C_BadRow) (.ref C_BadTable) = some false
  ne_BadRow_BadTolerance : PySem.W.exmOne K (.ref C_BadRow) (.ref C_BadTolerance) = some false
  ne_BadRow_BadWatch : PySem.W.exmOne K (.ref C_BadRow) (.ref C_BadWatch) = some false
  ne_BadRow_UnknownState : PySem.W.exmOne K (.ref C_BadRow) (.ref C_UnknownState) = some false
  ne_BadTable_BadAnswer : PySem.W.exmOne K (.ref C_BadTable) (.ref C_BadAnswer) = some false
  ne_BadTable_BadGroup : PySem.W.exmOne K (.ref C_BadTable) (.ref C_BadGroup) = some false
  ne_BadTable_BadJoint : PySem.W.exmOne K (.ref C_BadTable) (.ref C_BadJoint) = some false
  ne_BadTable_BadKind : PySem.W.exmOne K (.ref C_BadTable) (.ref C_BadKind) = some false
  ne_BadTable_BadLoop : PySem.W.exmOne K (.ref C_BadTable) (.ref C_BadLoop) = some false
  ne_BadTable_BadNumber : PySem.W.exmOne K (.ref C_BadTable) (.ref C_BadNumber) = some false
  ne_BadTable_BadRow : PySem.W.exmOne K (.ref C_BadTable) (.ref C_BadRow) = some false
  ne_BadTable_BadTolerance : PySem.W.exmOne K (.ref C_BadTable) (.ref C_BadTolerance) = some false
  ne_BadTable_BadWatch : PySem.W.exmOne K (.ref C_BadTable) (.ref C_BadWatch) = some false
  ne_BadTable_UnknownState : PySem.W.exmOne K (.ref C_BadTable) (.ref C_UnknownState) = some false
  ne_BadTolerance_BadAnswer : PySem.W.exmOne K (.ref C_BadTolerance) (.ref C_BadAnswer) = some false
  ne_BadTolerance_BadGroup : PySem.W.exmOne K (.ref C_BadTolerance) (.ref C_BadGroup) = some false
  ne_BadTolerance_BadJoint : PySem.W.exmOne K (.ref C_BadTolerance) (.ref C_BadJoint) = some false
  ne_BadTolerance_BadKind : PySem.W.exmOne K (.ref C_BadTolerance) (.ref C_BadKind) = some false
  ne_BadTolerance_BadLoop : PySem.W.exmOne K (.ref C_BadTolerance) (.ref C_BadLoop) = some false
  ne_BadTolerance_BadNumber : PySem.W.exmOne K (.ref C_BadTolerance) (.ref C_BadNumber) = some false
  ne_BadTolerance_BadRow : PySem.W.exmOne K (.ref C_BadTolerance) (.ref C_BadRow) = some false
  ne_BadTolerance_BadTable : PySem.W.exmOne K (.ref C_BadTolerance) (.ref C_BadTable) = some false
  ne_BadTolerance_BadWatch : PySem.W.exmOne K (.ref C_BadTolerance) (.ref C_BadWatch) = some false
  ne_BadTolerance_UnknownState : PySem.W.exmOne K (.ref C_BadTolerance) (.ref C_UnknownState) = some false
  ne_BadWatch_BadAnswer : PySem.W.exmOne K (.ref C_BadWatch) (.ref C_BadAnswer) = some false
  ne_BadWatch_BadGroup : PySem.W.exmOne K (.ref C_BadWatch) (.ref C_BadGroup) = some false
  ne_BadWatch_BadJoint : PySem.W.exmOne K (.ref C_BadWatch) (.ref C_BadJoint) = some false
  ne_BadWatch_BadKind : PySem.W.exmOne K (.ref C_BadWatch) (.ref C_BadKind) = some false
  ne_BadWatch_BadLoop : PySem.W.exmOne K (.ref C_BadWatch) (.ref C_BadLoop) = some false
  ne_BadWatch_BadNumber : PySem.W.exmOne K (.ref C_BadWatch) (.ref C_BadNumber) = some false
  ne_BadWatch_BadRow : PySem.W.exmOne K (.ref C_BadWatch) (.ref C_BadRow) = some false
  ne_BadWatch_BadTable : PySem.W.exmOne K (.ref C_BadWatch) (.ref C_BadTable) = some false
  ne_BadWatch_BadTolerance : PySem.W.exmOne K (.ref C_BadWatch) (.ref C_BadTolerance) = some false
  ne_BadWatch_UnknownState : PySem.W.exmOne K (.ref C_BadWatch) (.ref C_UnknownState) = some false
  ne_UnknownState_BadAnswer : PySem.W.exmOne K (.ref C_UnknownState) (.ref C_BadAnswer) = some false
  ne_UnknownState_BadGroup : PySem.W.exmOne K (.ref C_UnknownState) (.ref C_BadGroup) = some false
  ne_UnknownState_BadJoint : PySem.W.exmOne K (.ref C_UnknownState) (.ref C_BadJoint) = some false
  ne_UnknownState_BadKind : PySem.W.exmOne K (.ref C_UnknownState) (.ref C_BadKind) = some false
  ne_UnknownState_BadLoop : PySem.W.exmOne K (.ref C_UnknownState) (.ref C_BadLoop) = some false
  ne_UnknownState_BadNumber : PySem.W.exmOne K (.ref C_UnknownState) (.ref C_BadNumber) = some false
  ne_UnknownState_BadRow : PySem.W.exmOne K (.ref C_UnknownState) (.ref C_BadRow) = some false
  ne_UnknownState_BadTable : PySem.W.exmOne K (.ref C_UnknownState) (.ref C_BadTable) = some false
  ne_UnknownState_BadTolerance : PySem.W.exmOne K (.ref C_UnknownState) (.ref C_BadTolerance) = some false
  ne_UnknownState_BadWatch : PySem.W.exmOne K (.ref C_UnknownState) (.ref C_BadWatch) = some false
  C_NearError : Addr
  m_NearError : mg "NearError" = some (.ref C_NearError)
  gn_x : PySem.W.specialIn K (.builtin "object.__class__") "__get__" = some (some (.builtin "getset_descriptor.__get__"))
  gt_x : PySem.W.takesIn K (.builtin "object.__class__") = some true
  kw_BadNumber : PySem.SupX.KwB K i_BadNumber "number"
  ca_BadNumber : PySem.W.findIn K (.ref C_BadNumber) "__class__" = some (some (.builtin "object.__class__"))
  mo_BadNumber : PySem.W.mroIn K C_BadNumber (.type "object") = some true
  nr_BadNumber : PySem.W.exmOne K (.ref C_BadNumber) (.ref C_NearError) = some true
  kv_BadNumber : PySem.W.kitOne K (.ref C_BadNumber) (.type "ValueError") = some true
  ki_BadNumber_BadNumber : PySem.W.kitOne K (.ref C_BadNumber) (.ref C_BadNumber) = some true
  ki_BadNumber_BadTolerance : PySem.W.kitOne K (.ref C_BadNumber) (.ref C_BadTolerance) = some false
  ki_BadNumber_BadGroup : PySem.W.kitOne K (.ref C_BadNumber) (.ref C_BadGroup) = some false
  ki_BadNumber_BadLoop : PySem.W.kitOne K (.ref C_BadNumber) (.ref C_BadLoop) = some false
  ki_BadNumber_UnknownState : PySem.W.kitOne K (.ref C_BadNumber) (.ref C_UnknownState) = some false
  ki_BadNumber_BadAnswer : PySem.W.kitOne K (.ref C_BadNumber) (.ref C_BadAnswer) = some false
  ki_BadNumber_BadJoint : PySem.W.kitOne K (.ref C_BadNumber) (.ref C_BadJoint) = some false
  ki_BadNumber_BadKind : PySem.W.kitOne K (.ref C_BadNumber) (.ref C_BadKind) = some false
  ki_BadNumber_BadWatch : PySem.W.kitOne K (.ref C_BadNumber) (.ref C_BadWatch) = some false
  ki_BadNumber_BadRow : PySem.W.kitOne K (.ref C_BadNumber) (.ref C_BadRow) = some false
  ki_BadNumber_BadTable : PySem.W.kitOne K (.ref C_BadNumber) (.ref C_BadTable) = some false
  kw_BadTolerance : PySem.SupX.KwB K i_BadTolerance "tolerance"
  ca_BadTolerance : PySem.W.findIn K (.ref C_BadTolerance) "__class__" = some (some (.builtin "object.__class__"))
  mo_BadTolerance : PySem.W.mroIn K C_BadTolerance (.type "object") = some true
  nr_BadTolerance : PySem.W.exmOne K (.ref C_BadTolerance) (.ref C_NearError) = some true
  kv_BadTolerance : PySem.W.kitOne K (.ref C_BadTolerance) (.type "ValueError") = some true
  ki_BadTolerance_BadNumber : PySem.W.kitOne K (.ref C_BadTolerance) (.ref C_BadNumber) = some false
  ki_BadTolerance_BadTolerance : PySem.W.kitOne K (.ref C_BadTolerance) (.ref C_BadTolerance) = some true
  ki_BadTolerance_BadGroup : PySem.W.kitOne K (.ref C_BadTolerance) (.ref C_BadGroup) = some false
  ki_BadTolerance_BadLoop : PySem.W.kitOne K (.ref C_BadTolerance) (.ref C_BadLoop) = some false
  ki_BadTolerance_UnknownState : PySem.W.kitOne K (.ref C_BadTolerance) (.ref C_UnknownState) = some false
  ki_BadTolerance_BadAnswer : PySem.W.kitOne K (.ref C_BadTolerance) (.ref C_BadAnswer) = some false
  ki_BadTolerance_BadJoint : PySem.W.kitOne K (.ref C_BadTolerance) (.ref C_BadJoint) = some false
  ki_BadTolerance_BadKind : PySem.W.kitOne K (.ref C_BadTolerance) (.ref C_BadKind) = some false
  ki_BadTolerance_BadWatch : PySem.W.kitOne K (.ref C_BadTolerance) (.ref C_BadWatch) = some false
  ki_BadTolerance_BadRow : PySem.W.kitOne K (.ref C_BadTolerance) (.ref C_BadRow) = some false
  ki_BadTolerance_BadTable : PySem.W.kitOne K (.ref C_BadTolerance) (.ref C_BadTable) = some false
  kw_BadGroup : PySem.SupX.KwB K i_BadGroup "group"
  ca_BadGroup : PySem.W.findIn K (.ref C_BadGroup) "__class__" = some (some (.builtin "object.__class__"))
  mo_BadGroup : PySem.W.mroIn K C_BadGroup (.type "object") = some true
  nr_BadGroup : PySem.W.exmOne K (.ref C_BadGroup) (.ref C_NearError) = some true
  kv_BadGroup : PySem.W.kitOne K (.ref C_BadGroup) (.type "ValueError") = some true
  ki_BadGroup_BadNumber : PySem.W.kitOne K (.ref C_BadGroup) (.ref C_BadNumber) = some false
  ki_BadGroup_BadTolerance : PySem.W.kitOne K (.ref C_BadGroup) (.ref C_BadTolerance) = some false
  ki_BadGroup_BadGroup : PySem.W.kitOne K (.ref C_BadGroup) (.ref C_BadGroup) = some true
  ki_BadGroup_BadLoop : PySem.W.kitOne K (.ref C_BadGroup) (.ref C_BadLoop) = some false
  ki_BadGroup_UnknownState : PySem.W.kitOne K (.ref C_BadGroup) (.ref C_UnknownState) = some false
  ki_BadGroup_BadAnswer : PySem.W.kitOne K (.ref C_BadGroup) (.ref C_BadAnswer) = some false
  ki_BadGroup_BadJoint : PySem.W.kitOne K (.ref C_BadGroup) (.ref C_BadJoint) = some false
  ki_BadGroup_BadKind : PySem.W.kitOne K (.ref C_BadGroup) (.ref C_BadKind) = some false
  ki_BadGroup_BadWatch : PySem.W.kitOne K (.ref C_BadGroup) (.ref C_BadWatch) = some false
  ki_BadGroup_BadRow : PySem.W.kitOne K (.ref C_BadGroup) (.ref C_BadRow) = some false
  ki_BadGroup_BadTable : PySem.W.kitOne K (.ref C_BadGroup) (.ref C_BadTable) = some false
  kw_BadLoop : PySem.SupX.KwB K i_BadLoop "line"
  ca_BadLoop : PySem.W.findIn K (.ref C_BadLoop) "__class__" = some (some (.builtin "object.__class__"))
  mo_BadLoop : PySem.W.mroIn K C_BadLoop (.type "object") = some true
  nr_BadLoop : PySem.W.exmOne K (.ref C_BadLoop) (.ref C_NearError) = some true
  kv_BadLoop : PySem.W.kitOne K (.ref C_BadLoop) (.type "ValueError") = some true
  ki_BadLoop_BadNumber : PySem.W.kitOne K (.ref C_BadLoop) (.ref C_BadNumber) = some false
  ki_BadLoop_BadTolerance : PySem.W.kitOne K (.ref C_BadLoop) (.ref C_BadTolerance) = some false
  ki_BadLoop_BadGroup : PySem.W.kitOne K (.ref C_BadLoop) (.ref C_BadGroup) = some false
  ki_BadLoop_BadLoop : PySem.W.kitOne K (.ref C_BadLoop) (.ref C_BadLoop) = some true
  ki_BadLoop_UnknownState : PySem.W.kitOne K (.ref C_BadLoop) (.ref C_UnknownState) = some false
  ki_BadLoop_BadAnswer : PySem.W.kitOne K (.ref C_BadLoop) (.ref C_BadAnswer) = some false
  ki_BadLoop_BadJoint : PySem.W.kitOne K (.ref C_BadLoop) (.ref C_BadJoint) = some false
  ki_BadLoop_BadKind : PySem.W.kitOne K (.ref C_BadLoop) (.ref C_BadKind) = some false
  ki_BadLoop_BadWatch : PySem.W.kitOne K (.ref C_BadLoop) (.ref C_BadWatch) = some false
  ki_BadLoop_BadRow : PySem.W.kitOne K (.ref C_BadLoop) (.ref C_BadRow) = some false
  ki_BadLoop_BadTable : PySem.W.kitOne K (.ref C_BadLoop) (.ref C_BadTable) = some false
  kw_UnknownState : PySem.SupX.KwB K i_UnknownState "state"
  ca_UnknownState : PySem.W.findIn K (.ref C_UnknownState) "__class__" = some (some (.builtin "object.__class__"))
  mo_UnknownState : PySem.W.mroIn K C_UnknownState (.type "object") = some true
  nr_UnknownState : PySem.W.exmOne K (.ref C_UnknownState) (.ref C_NearError) = some true
  kv_UnknownState : PySem.W.kitOne K (.ref C_UnknownState) (.type "ValueError") = some true
  ki_UnknownState_BadNumber : PySem.W.kitOne K (.ref C_UnknownState) (.ref C_BadNumber) = some false
  ki_UnknownState_BadTolerance : PySem.W.kitOne K (.ref C_UnknownState) (.ref C_BadTolerance) = some false
  ki_UnknownState_BadGroup : PySem.W.kitOne K (.ref C_UnknownState) (.ref C_BadGroup) = some false
  ki_UnknownState_BadLoop : PySem.W.kitOne K (.ref C_UnknownState) (.ref C_BadLoop) = some false
  ki_UnknownState_UnknownState : PySem.W.kitOne K (.ref C_UnknownState) (.ref C_UnknownState) = some true
  ki_UnknownState_BadAnswer : PySem.W.kitOne K (.ref C_UnknownState) (.ref C_BadAnswer) = some false
  ki_UnknownState_BadJoint : PySem.W.kitOne K (.ref C_UnknownState) (.ref C_BadJoint) = some false
  ki_UnknownState_BadKind : PySem.W.kitOne K (.ref C_UnknownState) (.ref C_BadKind) = some false
  ki_UnknownState_BadWatch : PySem.W.kitOne K (.ref C_UnknownState) (.ref C_BadWatch) = some false
  ki_UnknownState_BadRow : PySem.W.kitOne K (.ref C_UnknownState) (.ref C_BadRow) = some false
  ki_UnknownState_BadTable : PySem.W.kitOne K (.ref C_UnknownState) (.ref C_BadTable) = some false
  kw_BadAnswer : PySem.SupX.KwB K i_BadAnswer "answer"
  ca_BadAnswer : PySem.W.findIn K (.ref C_BadAnswer) "__class__" = some (some (.builtin "object.__class__"))
  mo_BadAnswer : PySem.W.mroIn K C_BadAnswer (.type "object") = some true
  nr_BadAnswer : PySem.W.exmOne K (.ref C_BadAnswer) (.ref C_NearError) = some true
  kv_BadAnswer : PySem.W.kitOne K (.ref C_BadAnswer) (.type "ValueError") = some true
  ki_BadAnswer_BadNumber : PySem.W.kitOne K (.ref C_BadAnswer) (.ref C_BadNumber) = some false
  ki_BadAnswer_BadTolerance : PySem.W.kitOne K (.ref C_BadAnswer) (.ref C_BadTolerance) = some false
  ki_BadAnswer_BadGroup : PySem.W.kitOne K (.ref C_BadAnswer) (.ref C_BadGroup) = some false
  ki_BadAnswer_BadLoop : PySem.W.kitOne K (.ref C_BadAnswer) (.ref C_BadLoop) = some false
  ki_BadAnswer_UnknownState : PySem.W.kitOne K (.ref C_BadAnswer) (.ref C_UnknownState) = some false
  ki_BadAnswer_BadAnswer : PySem.W.kitOne K (.ref C_BadAnswer) (.ref C_BadAnswer) = some true
  ki_BadAnswer_BadJoint : PySem.W.kitOne K (.ref C_BadAnswer) (.ref C_BadJoint) = some false
  ki_BadAnswer_BadKind : PySem.W.kitOne K (.ref C_BadAnswer) (.ref C_BadKind) = some false
  ki_BadAnswer_BadWatch : PySem.W.kitOne K (.ref C_BadAnswer) (.ref C_BadWatch) = some false
  ki_BadAnswer_BadRow : PySem.W.kitOne K (.ref C_BadAnswer) (.ref C_BadRow) = some false
  ki_BadAnswer_BadTable : PySem.W.kitOne K (.ref C_BadAnswer) (.ref C_BadTable) = some false
  kw_BadJoint : PySem.SupX.KwB K i_BadJoint "state"
  ca_BadJoint : PySem.W.findIn K (.ref C_BadJoint) "__class__" = some (some (.builtin "object.__class__"))
  mo_BadJoint : PySem.W.mroIn K C_BadJoint (.type "object") = some true
  nr_BadJoint : PySem.W.exmOne K (.ref C_BadJoint) (.ref C_NearError) = some true
  kv_BadJoint : PySem.W.kitOne K (.ref C_BadJoint) (.type "ValueError") = some true
  ki_BadJoint_BadNumber : PySem.W.kitOne K (.ref C_BadJoint) (.ref C_BadNumber) = some false
  ki_BadJoint_BadTolerance : PySem.W.kitOne K (.ref C_BadJoint) (.ref C_BadTolerance) = some false
  ki_BadJoint_BadGroup : PySem.W.kitOne K (.ref C_BadJoint) (.ref C_BadGroup) = some false
  ki_BadJoint_BadLoop : PySem.W.kitOne K (.ref C_BadJoint) (.ref C_BadLoop) = some false
  ki_BadJoint_UnknownState : PySem.W.kitOne K (.ref C_BadJoint) (.ref C_UnknownState) = some false
  ki_BadJoint_BadAnswer : PySem.W.kitOne K (.ref C_BadJoint) (.ref C_BadAnswer) = some false
  ki_BadJoint_BadJoint : PySem.W.kitOne K (.ref C_BadJoint) (.ref C_BadJoint) = some true
  ki_BadJoint_BadKind : PySem.W.kitOne K (.ref C_BadJoint) (.ref C_BadKind) = some false
  ki_BadJoint_BadWatch : PySem.W.kitOne K (.ref C_BadJoint) (.ref C_BadWatch) = some false
  ki_BadJoint_BadRow : PySem.W.kitOne K (.ref C_BadJoint) (.ref C_BadRow) = some false
  ki_BadJoint_BadTable : PySem.W.kitOne K (.ref C_BadJoint) (.ref C_BadTable) = some false
  kw_BadKind : PySem.SupX.KwB K i_BadKind "by"
  ca_BadKind : PySem.W.findIn K (.ref C_BadKind) "__class__" = some (some (.builtin "object.__class__"))
  mo_BadKind : PySem.W.mroIn K C_BadKind (.type "object") = some true
  nr_BadKind : PySem.W.exmOne K (.ref C_BadKind) (.ref C_NearError) = some true
  kv_BadKind : PySem.W.kitOne K (.ref C_BadKind) (.type "ValueError") = some true
  ki_BadKind_BadNumber : PySem.W.kitOne K (.ref C_BadKind) (.ref C_BadNumber) = some false
  ki_BadKind_BadTolerance : PySem.W.kitOne K (.ref C_BadKind) (.ref C_BadTolerance) = some false
  ki_BadKind_BadGroup : PySem.W.kitOne K (.ref C_BadKind) (.ref C_BadGroup) = some false
  ki_BadKind_BadLoop : PySem.W.kitOne K (.ref C_BadKind) (.ref C_BadLoop) = some false
  ki_BadKind_UnknownState : PySem.W.kitOne K (.ref C_BadKind) (.ref C_UnknownState) = some false
  ki_BadKind_BadAnswer : PySem.W.kitOne K (.ref C_BadKind) (.ref C_BadAnswer) = some false
  ki_BadKind_BadJoint : PySem.W.kitOne K (.ref C_BadKind) (.ref C_BadJoint) = some false
  ki_BadKind_BadKind : PySem.W.kitOne K (.ref C_BadKind) (.ref C_BadKind) = some true
  ki_BadKind_BadWatch : PySem.W.kitOne K (.ref C_BadKind) (.ref C_BadWatch) = some false
  ki_BadKind_BadRow : PySem.W.kitOne K (.ref C_BadKind) (.ref C_BadRow) = some false
  ki_BadKind_BadTable : PySem.W.kitOne K (.ref C_BadKind) (.ref C_BadTable) = some false
  kw_BadWatch : PySem.SupX.KwB K i_BadWatch "line"
  ca_BadWatch : PySem.W.findIn K (.ref C_BadWatch) "__class__" = some (some (.builtin "object.__class__"))
  mo_BadWatch : PySem.W.mroIn K C_BadWatch (.type "object") = some true
  nr_BadWatch : PySem.W.exmOne K (.ref C_BadWatch) (.ref C_NearError) = some true
  kv_BadWatch : PySem.W.kitOne K (.ref C_BadWatch) (.type "ValueError") = some true
  ki_BadWatch_BadNumber : PySem.W.kitOne K (.ref C_BadWatch) (.ref C_BadNumber) = some false
  ki_BadWatch_BadTolerance : PySem.W.kitOne K (.ref C_BadWatch) (.ref C_BadTolerance) = some false
  ki_BadWatch_BadGroup : PySem.W.kitOne K (.ref C_BadWatch) (.ref C_BadGroup) = some false
  ki_BadWatch_BadLoop : PySem.W.kitOne K (.ref C_BadWatch) (.ref C_BadLoop) = some false
  ki_BadWatch_UnknownState : PySem.W.kitOne K (.ref C_BadWatch) (.ref C_UnknownState) = some false
  ki_BadWatch_BadAnswer : PySem.W.kitOne K (.ref C_BadWatch) (.ref C_BadAnswer) = some false
  ki_BadWatch_BadJoint : PySem.W.kitOne K (.ref C_BadWatch) (.ref C_BadJoint) = some false
  ki_BadWatch_BadKind : PySem.W.kitOne K (.ref C_BadWatch) (.ref C_BadKind) = some false
  ki_BadWatch_BadWatch : PySem.W.kitOne K (.ref C_BadWatch) (.ref C_BadWatch) = some true
  ki_BadWatch_BadRow : PySem.W.kitOne K (.ref C_BadWatch) (.ref C_BadRow) = some false
  ki_BadWatch_BadTable : PySem.W.kitOne K (.ref C_BadWatch) (.ref C_BadTable) = some false
  ca_BadRow : PySem.W.findIn K (.ref C_BadRow) "__class__" = some (some (.builtin "object.__class__"))
  mo_BadRow : PySem.W.mroIn K C_BadRow (.type "object") = some true
  nr_BadRow : PySem.W.exmOne K (.ref C_BadRow) (.ref C_NearError) = some true
  kv_BadRow : PySem.W.kitOne K (.ref C_BadRow) (.type "ValueError") = some true
  ki_BadRow_BadNumber : PySem.W.kitOne K (.ref C_BadRow) (.ref C_BadNumber) = some false
  ki_BadRow_BadTolerance : PySem.W.kitOne K (.ref C_BadRow) (.ref C_BadTolerance) = some false
  ki_BadRow_BadGroup : PySem.W.kitOne K (.ref C_BadRow) (.ref C_BadGroup) = some false
  ki_BadRow_BadLoop : PySem.W.kitOne K (.ref C_BadRow) (.ref C_BadLoop) = some false
  ki_BadRow_UnknownState : PySem.W.kitOne K (.ref C_BadRow) (.ref C_UnknownState) = some false
  ki_BadRow_BadAnswer : PySem.W.kitOne K (.ref C_BadRow) (.ref C_BadAnswer) = some false
  ki_BadRow_BadJoint : PySem.W.kitOne K (.ref C_BadRow) (.ref C_BadJoint) = some false
  ki_BadRow_BadKind : PySem.W.kitOne K (.ref C_BadRow) (.ref C_BadKind) = some false
  ki_BadRow_BadWatch : PySem.W.kitOne K (.ref C_BadRow) (.ref C_BadWatch) = some false
  ki_BadRow_BadRow : PySem.W.kitOne K (.ref C_BadRow) (.ref C_BadRow) = some true
  ki_BadRow_BadTable : PySem.W.kitOne K (.ref C_BadRow) (.ref C_BadTable) = some false
  ca_BadTable : PySem.W.findIn K (.ref C_BadTable) "__class__" = some (some (.builtin "object.__class__"))
  mo_BadTable : PySem.W.mroIn K C_BadTable (.type "object") = some true
  nr_BadTable : PySem.W.exmOne K (.ref C_BadTable) (.ref C_NearError) = some true
  kv_BadTable : PySem.W.kitOne K (.ref C_BadTable) (.type "ValueError") = some true
  ki_BadTable_BadNumber : PySem.W.kitOne K (.ref C_BadTable) (.ref C_BadNumber) = some false
  ki_BadTable_BadTolerance : PySem.W.kitOne K (.ref C_BadTable) (.ref C_BadTolerance) = some false
  ki_BadTable_BadGroup : PySem.W.kitOne K (.ref C_BadTable) (.ref C_BadGroup) = some false
  ki_BadTable_BadLoop : PySem.W.kitOne K (.ref C_BadTable) (.ref C_BadLoop) = some false
  ki_BadTable_UnknownState : PySem.W.kitOne K (.ref C_BadTable) (.ref C_UnknownState) = some false
  ki_BadTable_BadAnswer : PySem.W.kitOne K (.ref C_BadTable) (.ref C_BadAnswer) = some false
  ki_BadTable_BadJoint : PySem.W.kitOne K (.ref C_BadTable) (.ref C_BadJoint) = some false
  ki_BadTable_BadKind : PySem.W.kitOne K (.ref C_BadTable) (.ref C_BadKind) = some false
  ki_BadTable_BadWatch : PySem.W.kitOne K (.ref C_BadTable) (.ref C_BadWatch) = some false
  ki_BadTable_BadRow : PySem.W.kitOne K (.ref C_BadTable) (.ref C_BadRow) = some false
  ki_BadTable_BadTable : PySem.W.kitOne K (.ref C_BadTable) (.ref C_BadTable) = some true

theorem ok_law_source (T : Txt P w K mg) : FnOk P w K mg base CX0 1 T.f_law_source T.d_law_source ["_law_script"] (spSource K) := by
  refine T.F_law_source.ok sc_law_source (fun vs H Q E h => ?_) (fun cdv A outer s H vs Q E hr h => ?_)
  · obtain ⟨a, ns, rfl, _⟩ := h
    rfl
  · obtain ⟨a, ns, rfl, hS, k⟩ := h
    refine ⟨_, (pss_cons (ps_asg (pe_tup (pa_cons pe_int (pa_cons pe_int pa_nil))) (pg_tup (by rfl) (pgs_cons (pg_name (i := 1) sc_law_source.nd rfl (Or.inl rfl)) (pgs_cons (pg_name (i := 2) sc_law_source.nd rfl (Or.inl rfl)) pgs_nil))))
      (pss_cons (ps_for PassesOwn.never rfl (pi_list (pv 0)) (pg_name (i := 3) sc_law_source.nd rfl (Or.inl rfl))
      (pss_cons (ps_if (PW.pt (pw_and (pt_cmpR op_eq (pv 1) pe_int (nomark _)) (pw_and1 (pt_cmpR op_ge (pv 3) (pe_op op_pow pe_int pe_int) (nomark _)))))
      (pss_one (ps_set (i := 1) sc_law_source.nd rfl (Or.inl rfl) (pv 3)))
      pss_nil)
      (pss_one (ps_set (i := 2) sc_law_source.nd rfl (Or.inl rfl) (pe_op op_mod (pe_callTy call_int1 (by rfl) T.m_int (by decide +kernel) (pa_cons (pe_op op_add (pe_op op_add (pe_op op_mul (pv 2) pe_int) (pv 3)) pe_int) pa_nil)) pe_int)))))
      (pss_one (ps_ret (pe_lst (pa_cons (pv 1) (pa_cons (pv 2) (pa_cons pe_int pa_nil)))))))), ?_⟩
    refine ⟨by decide, fun p hp => ?_⟩
    have s1 : Same H (upd H p (.tup [.int 0, .int 17])) := Same.new hp
    refine ⟨_, _, rfl, SqT.of upd_same, rfl, ?_⟩
    walk_at "rd"
    refine ⟨⟨_, s1.seq hS⟩, for_list (K := K) (a := a) (xs := ns.map V.int) (fun i σ H' => ∃ (g s : Int) (v : Option V), σ = [some (.ref a), some (.int g), some (.int s), v] ∧ 0 ≤ s ∧ s < 2147483647 ∧ Same H H')
      ⟨0, 17, none, rfl, by decide, by decide, s1⟩ (fun i σ H' _ ⟨_, _, _, _, _, _, z⟩ => z.seq hS) ?_ ?_⟩
    · rintro i y σ H' hi ⟨g, s, v, rfl, s0, s2, z⟩
      obtain ⟨u, rfl⟩ : ∃ u, y = V.int u := by
        rw [List.getElem?_map] at hi
        cases e : ns[i]? with
        | none => rw [e] at hi; cases hi
        | some u => rw [e] at hi; exact ⟨u, (Option.some.inj hi).symm⟩
      have fin : ∀ g' : Int, ∃ (g'' s'' : Int) (v'' : Option V), ([some (V.ref a), some (V.int g'), some (V.int ((s * 31 + u + 7) % 2147483647)), some (V.int u)] : St) = [some (.ref a), some (.int g''), some (.int s''), v''] ∧ 0 ≤ s'' ∧ s'' < 2147483647 ∧ Same H H' :=
        fun g' => ⟨g', _, _, rfl, Int.emod_nonneg _ (by decide), Int.emod_lt_of_pos _ (by decide), z⟩
      walk_at "rd"
      refine ifd (fun cg => ?_) (fun cg => ?_)
      · walk_at "rd"
        refine ⟨⟨by decide, by decide, by decide⟩, ?_⟩
        walk_at "rd"
        refine ifd (fun ch => ?_) (fun ch => ?_)
        · walk_at "rd"
          refine ⟨Or.inr ⟨by decide, by decide⟩, ?_⟩
          walk_at "rd"
          refine Or.inl ?_
          walk_at "rd"
          refine ⟨(by decide : (0 : Int) < 2147483647), ?_⟩
          exact fin u
        · walk_at "rd"
          refine ⟨Or.inr ⟨by decide, by decide⟩, ?_⟩
          walk_at "rd"
          refine Or.inl ?_
          walk_at "rd"
          refine ⟨(by decide : (0 : Int) < 2147483647), ?_⟩
          exact fin g
      · walk_at "rd"
        refine ⟨Or.inr ⟨by decide, by decide⟩, ?_⟩
        walk_at "rd"
        refine Or.inl ?_
        walk_at "rd"
        refine ⟨(by decide : (0 : Int) < 2147483647), ?_⟩
        exact fin g
    · rintro σ H' ⟨g, s, v, rfl, s0, s2, z⟩
      walk_at "rd"
      refine ⟨by show 3 ≤ sizeLine; decide, fun p2 hp2 => ?_⟩
      exact k p2 _ (z.free hp2) (z.trans (Same.new hp2)) ⟨g, s, 0, upd_same, s0, s2, by decide, by decide⟩
theorem ok_law_draw (T : Txt P w K mg) : FnOk P w K mg base CX0 1 T.f_law_draw T.d_law_draw ["_law_source_here", "_law_many"] spDraw := by
  refine T.F_law_draw.ok sc_law_draw (fun vs H Q E h => ?_) (fun cdv A outer s H vs Q E hr h => ?_)
  · obtain ⟨p, m, n, rfl, _⟩ := h
    rfl
  · obtain ⟨p, m, n, rfl, S, hn, m0, m1, k⟩ := h
    refine ⟨_, (pss_cons (ps_asg (pe_op op_add (pe_ix ix_list (pv 0) pe_int (fun _ _ => rfl)) pe_int) (pg_sub (pv 0) pe_int set_list))
      (pss_cons (ps_if (pt_cmpR op_gt (pe_ix ix_list (pv 0) pe_int (fun _ _ => rfl)) pe_int (nomark _))
      (pss_cons (ps_set (i := 2) sc_law_draw.nd rfl (Or.inl rfl) (pe_op op_mod (pe_callTy call_int1 (by rfl) T.m_int (by decide +kernel) (pa_cons (pe_ix ix_list (pv 0) pe_int (fun _ _ => rfl)) pa_nil)) (pv 1)))
      (pss_cons (ps_asg (pe_op op_fdivW (pe_ix ix_list (pv 0) pe_int (fun _ _ => rfl)) (pv 1)) (pg_sub (pv 0) pe_int set_list))
      (pss_one (ps_ret (pv 2)))))
      pss_nil)
      (pss_cons (ps_set (i := 3) sc_law_draw.nd rfl (Or.inl rfl) (pe_op op_mod (pe_op op_pow (pe_op op_add (pe_ix ix_list (pv 0) pe_int (fun _ _ => rfl)) (pe_op op_mul pe_int (pe_ix ix_list (pv 0) pe_int (fun _ _ => rfl)))) pe_int) pe_int))
      (pss_one (ps_ret (pe_op op_mod (pe_op op_mod (pe_op op_pow (pe_op op_add (pe_op op_add (pe_op op_mul (pv 3) pe_int) (pe_op op_mul (pe_op op_mul pe_int (pe_ix ix_list (pv 0) pe_int (fun _ _ => rfl))) (pe_ix ix_list (pv 0) pe_int (fun _ _ => rfl)))) pe_int) pe_int) pe_int) (pv 1))))))), ?_⟩
    obtain ⟨g, s, c, hp, s0, s1, c0, c1⟩ := S
    walk_at "rd"
    refine ⟨_, _, _, _, rfl, rfl, SqL.of hp, rfl, ?_⟩
    walk_at "rd"
    refine ⟨_, _, _, _, rfl, rfl, hp, rfl, ?_⟩
    walk_at "rd"
    refine ifd (fun cg => ?_) (fun cg => ?_)
    · walk_at "rd"
      refine Or.inl ?_
      walk_at "rd"
      refine ⟨m0, ?_⟩
      walk_at "rd"
      refine ⟨wide_div (b := 64) m0 (by omega) (by decide) (by decide), ?_⟩
      walk_at "rd"
      exact k _ _ (Int.emod_nonneg g (by omega)) (Int.emod_lt_of_pos g m0) (((But.refl p H).upd).upd) ⟨g / m, s, c + 1, upd_same, s0, s1, by omega, by omega⟩
    · walk_at "rd"
      refine ⟨Or.inl ⟨by decide, by decide⟩, ?_⟩
      walk_at "rd"
      refine ⟨⟨by decide, by decide, by omega⟩, ?_⟩
      walk_at "rd"
      refine ⟨(by decide : (0 : Int) < 2147483629), ?_⟩
      have x0 := Int.emod_nonneg ((s + 7919 * (c + 1)) ^ Int.toNat 5) (by decide : (2147483629 : Int) ≠ 0)
      have x1 := Int.emod_lt_of_pos ((s + 7919 * (c + 1)) ^ Int.toNat 5) (by decide : (0 : Int) < 2147483629)
      walk_at "rd"
      refine ⟨Or.inr ⟨by decide, by decide⟩, ?_⟩
      walk_at "rd"
      refine ⟨Or.inl ⟨by decide, by decide⟩, ?_⟩
      walk_at "rd"
      refine ⟨Or.inr ⟨by omega, by omega⟩, ?_⟩
      walk_at "rd"
      refine ⟨draw_pow x0 x1 (by omega) (by omega), ?_⟩
      walk_at "rd"
      refine ⟨(by decide : (0 : Int) < 1000000007), ?_⟩
      walk_at "rd"
      refine ⟨m0, ?_⟩
      exact k _ _ (Int.emod_nonneg _ (by omega)) (Int.emod_lt_of_pos _ m0) ((But.refl p H).upd) ⟨g, s, c + 1, upd_same, s0, s1, by omega, by omega⟩
--SPLIT
/-! ### small things -/
theorem putFA_len (f : Str) (d : D) : ∀ l : List (Str × D), (putFA f d l).length ≤ l.length + 1
  | [] => Nat.le_refl _
  | (g, e) :: r => by
    unfold putFA
    split
    · simp
    · have := putFA_len f d r
      simp only [List.length_cons]
      omega
theorem opt_some {o : Option D} {d : D} {R : D → Prop} (h : o = some d) (r : R d) : opt o R := by
  rw [h]
  exact r
theorem atI_0 {α : Type} (x : α) (l : List α) : atI (x :: l) 0 = some x := by
  unfold atI ixN
  rw [if_pos (by decide), if_pos (by rw [List.length_cons]; omega)]
  rfl
def isStD (zs : List Str) : D → Bool
  | .v (.str z) => decide (z ∈ zs)
  | _ => false
theorem cut_toD (xs : List D) (c : Nat) : cutD xs none (some ((c : Nat) : Int)) = xs.take c := by
  unfold cutD
  rw [HT.sIx_none, HT.sIx_nat, List.drop_zero, Nat.sub_zero]
  exact (List.take_eq_take_min).symm
theorem cut_fromD (xs : List D) (c : Nat) : cutD xs (some ((c : Nat) : Int)) none = xs.drop c := by
  unfold cutD
  rw [HT.sIx_none, HT.sIx_nat]
  by_cases h : c ≤ xs.length
  · rw [Nat.min_eq_left h]
    exact List.take_of_length_le (by rw [List.length_drop]; exact Nat.le_refl _)
  · rw [Nat.min_eq_right (by omega), Nat.sub_self, List.take_zero]
    exact (List.drop_eq_nil_of_le (by omega)).symm
/-! the same reading, where == and [] are left standing -/
local macro_rules | `(tactic| walk_at "drx") => `(tactic| try dsimp only [dSeq, dPar, dPar3, dTry, dIfS, dOr, dAnd, dNot, dTest, dIsi, dIsi2, dVar, dVarB, dC, dOp, dI0, dI, dCB, dCons, dNil,  dLc, wipe_1, wipe_2, wipe_3, wipe_4, wipe_5, mapc, mapn, dRet, dSet, dSetO, dNext, dAsg, dDrop, dTup, dLst,  dFlat, isV, dIfE, dAndV, dOrV, dNotV, dChain, dgName, dgCons, dgNil, dgTup, dItSeq, dStr, dDisp, dpCons, dpNil,  dIsN, dCat, dRep, dListOf, dTupOf, dBs, dI1, dI2, dInt1, dDivmod, dTupD, dStrI, dInG, dIxG, dFld, dCall, dCall0, dCallF, dCallF0, dCallX, dCallX0, dCallXF0, dMeth, dMethX, dProp, dProp.isC, isI, dAug, dNeg, dUn, dEnum, dEnumB, dEnumS, dZip, dRng1, dRng2, dDGet, dDGet1, dDGet2, dDIn, dGetR, isDk, asB, nb, opt, bIf_t, bIf_f, not_t, not_f, Option.getD_some, Option.getD_none, List.lookup, dRaise, dRaise0, dFor, dgSeq, dDPut, dPutR, dOwn, dOwnE, mAppend, mExtend, mInsert, mPop, mPopAt, asL, dSetOwn, dSetIx, dDUpd, dDUpd.isOwnK, dDSetT, dDSetT.isOwnT, dFldO, dSlL, dSlS, dSlT, dPart, dNoPart, dJoin, dSplit, dCatTE, dDictZip, dIs, dSortS, dBool1, at_0, put_0, at_1, put_1, at_2, put_2, at_3, put_3, at_4, put_4, at_5, put_5, at_6, put_6, at_7, put_7, at_8, put_8, at_9, put_9, at_10, put_10, at_11, put_11, at_12, put_12, at_13, put_13, at_14, put_14, at_15, put_15, at_16, put_16, at_17, put_17, at_18, put_18, at_19, put_19, at_20, put_20, at_21, put_21, at_22, put_22, at_23, put_23, at_24, put_24, at_25, put_25, ty_non, ty_bl, ty_int, ty_str, ty_lst, ty_tup, ty_ctup, ty_ftup, ty_dK, ty_dT, sub_non_non, sub_non_bl, sub_non_int, sub_non_str, sub_non_lst, sub_non_tup, sub_non_dic, sub_bl_non, sub_bl_bl, sub_bl_int, sub_bl_str, sub_bl_lst, sub_bl_tup, sub_bl_dic, sub_int_non, sub_int_bl, sub_int_int, sub_int_str, sub_int_lst, sub_int_tup, sub_int_dic, sub_str_non, sub_str_bl, sub_str_int, sub_str_str, sub_str_lst, sub_str_tup, sub_str_dic, sub_lst_non, sub_lst_bl, sub_lst_int, sub_lst_str, sub_lst_lst, sub_lst_tup, sub_lst_dic, sub_tup_non, sub_tup_bl, sub_tup_int, sub_tup_str, sub_tup_lst, sub_tup_tup, sub_tup_dic, sub_dic_non, sub_dic_bl, sub_dic_int, sub_dic_str, sub_dic_lst, sub_dic_tup, sub_dic_dic, seq_non, seq_bl, seq_int, seq_str, seq_lst, seq_tup, seq_ctup, seq_ftup, seq_dK, seq_dT, key_int, key_str, or_tt, or_ft, aI_1_0, aI_1_l, aI_2_0, aI_2_1, aI_2_l, aI_3_0, aI_3_1, aI_3_2, aI_3_l, aI_4_0, aI_4_1, aI_4_2, aI_4_3, aI_4_l, aI_5_0, aI_5_1, aI_5_2, aI_5_3, aI_5_4, aI_5_l, aI_6_0, aI_6_1, aI_6_2, aI_6_3, aI_6_4, aI_6_5, aI_6_l])
/-! ### the law's own defs, told over data -/
def newF (F H H' : Hp) : Hp := fun b => if H b = none then H' b else F b
theorem newF_in {F H H' : Hp} {b : Addr} {o : HO} (h : H b = none) (e : H' b = some o) : newF F H H' b = some o := by
  unfold newF
  rw [if_pos h]
  exact e
/-- a promise about one new thing, over the source alone -/
theorem post_new {sp : Option Addr} {p : Addr} {F H H' : Hp} {Q : VK} {d : D} {n n' : Int} {v : V} (hp : sp = some p) (s : Same F H) (S0 : Src H p n) (fp : F p = none) (k : Post K sp F H Q d n') (b : But p H H') (S : Src H' p n') (h : Dat K (newF F H H') d v) : Q v H' := by
  subst hp
  refine k v (newF F H H') H' (fun c o e => ?_) (fun c o e => ?_) (fun c o z e => b c o (fun q => z (by rw [q])) e) (fun c e => ?_) (fun q e => ?_) h
  · unfold newF
    rw [if_neg (by rw [s c o e]; exact fun z => nomatch z)]
    exact e
  · unfold newF at e
    split at e
    · exact e
    · exact b c o (fun z => by rw [z, fp] at e; cases e) (s c o e)
  · unfold newF at e
    split at e
    · rename_i z
      exact .inr (.inl z)
    · exact .inl e
  · cases e
    refine ⟨?_, S⟩
    unfold newF
    rw [if_neg, fp]
    obtain ⟨xs, z⟩ := S0.at
    rw [z]
    exact fun z => nomatch z
/-- the same, where nothing is drawn -/
theorem post_new0 {sp : Option Addr} {F H H' : Hp} {Q : VK} {d : D} {n : Int} {v : V} (s : Same F H) (src : ∀ p, sp = some p → F p = none ∧ Src H p n) (k : Post K sp F H Q d n) (b : Same H H') (h : Dat K (newF F H H') d v) : Q v H' := by
  refine k v (newF F H H') H' (fun c o e => ?_) (fun c o e => ?_) (fun c o z e => b c o e) (fun c e => ?_) (fun q e => ?_) h
  · unfold newF
    rw [if_neg (by rw [s c o e]; exact fun z => nomatch z)]
    exact e
  · unfold newF at e
    split at e
    · exact e
    · exact b c o (s c o e)
  · unfold newF at e
    split at e
    · rename_i z
      exact .inr (.inl z)
    · exact .inl e
  · obtain ⟨fp, S⟩ := src q e
    refine ⟨?_, S.same b⟩
    unfold newF
    rw [if_neg, fp]
    obtain ⟨xs, z⟩ := S.at
    rw [z]
    exact fun z => nomatch z
theorem dat_strs {H : Hp} : ∀ (l : List Str), DatL K H (l.map eS) (l.map V.str)
  | [] => rfl
  | _ :: l => ⟨_, _, rfl, rfl, dat_strs l⟩
theorem dat_ints {H : Hp} : ∀ (l : List Int), DatL K H (l.map eI) (l.map V.int)
  | [] => rfl
  | _ :: l => ⟨_, _, rfl, rfl, dat_ints l⟩
theorem dat_bls {H : Hp} : ∀ (l : List Bool), DatL K H (l.map eB) (l.map V.bl)
  | [] => rfl
  | _ :: l => ⟨_, _, rfl, rfl, dat_bls l⟩
theorem datL_strs {H : Hp} {l : List Str} {vs : List V} (h : DatL K H (l.map eS) vs) : vs = l.map V.str := datL_flat (xs := l.map V.str) (by rw [List.map_map]; exact h)
theorem datL_ints {H : Hp} {l : List Int} {vs : List V} (h : DatL K H (l.map eI) vs) : vs = l.map V.int := datL_flat (xs := l.map V.int) (by rw [List.map_map]; exact h)
/-- with a limit of its own -/
def fspN {α β : Type} (L : Int) (C : α → Int) (A : Addr → α → List D) (P : α → Prop) (Po : α → β → Prop) (O : β → D) : DSp := fun sp ds n R => ∃ p x, sp = some p ∧ ds = A p x ∧ P x ∧ n < L ∧ ∀ y, Po x y → R (O y) (n + C x)
theorem fspN.mon {α β : Type} {L : Int} {C : α → Int} {A : Addr → α → List D} {P : α → Prop} {Po : α → β → Prop} {O : β → D} : Mon (fspN L C A P Po O) := fun sp ds n R R' h ⟨p, x, h1, h2, h3, h4, h5⟩ => ⟨p, x, h1, h2, h3, h4, fun y hy => h _ _ (h5 y hy)⟩
def spDrawD : DSp := fspN 1000000 (fun _ => 1) (fun p (m : Int) => [sD p, eI m]) (fun m => 0 < m ∧ m < 2 ^ 64) (fun m d => 0 ≤ d ∧ d < m) eI
theorem mon_law_draw : Mon spDrawD := fspN.mon
theorem ups_law_draw (_ : Txt P w K mg) : Ups K spDraw spDrawD := by
  rintro vs H Q E ⟨sp, F, ds, n, s, src, L, p, m, rfl, rfl, ⟨m0, m1⟩, hn, k⟩
  obtain ⟨v, r, rfl, h1, w, r', rfl, h2, h3⟩ := L
  cases (show v = _ from h1)
  cases (show w = _ from h2)
  cases (show r' = [] from h3)
  obtain ⟨fp, S⟩ := src p rfl
  refine ⟨p, m, n, rfl, S, hn, m0, m1, fun d H' d0 d1 b S' => ?_⟩
  refine k d ⟨d0, d1⟩ (.int d) F H' (Same.refl F) (fun c o h => b c o (fun z => by rw [z, fp] at h; cases h) (s c o h)) (fun c o z h => b c o (fun e => z (by rw [e])) h) (fun c h => .inl h) (fun q e => ?_) rfl
  cases e
  exact ⟨fp, S'⟩
theorem st_eq {d : DSt} {E : DEnds} {sl sl' : List Sl} {n : Int} {sp : Option Addr} (h : sl = sl') (hd : d E ⟨sl', n, sp⟩) : d E ⟨sl, n, sp⟩ := by
  rw [h]
  exact hd
/-! ### picks, names, written tables -/
def spPickD : DSp := fspN 1000000 (fun _ => 1) (fun p (ds : List D) => [sD p, .lst ds]) (fun ds => ds ≠ [] ∧ ds.length < 16777216) (fun ds d => d ∈ ds) id
theorem mon_law_pick : Mon spPickD := fspN.mon
theorem ups_law_pick (_ : Txt P w K mg) : Ups K (up K spPickD) spPickD := .rfl
theorem atI_mem {α : Type} {ds : List α} {i : Int} (h0 : 0 ≤ i) (h1 : i < (ds.length : Nat)) : ∃ d, atI ds i = some d ∧ d ∈ ds := by
  unfold atI ixN
  rw [if_pos h0, if_pos h1]
  refine ⟨ds[i.toNat], List.getElem?_eq_getElem (by omega), List.getElem_mem _⟩
theorem ok_law_pick (T : Txt P w K mg) : FnOk P w K mg base CX0 2 T.f_law_pick T.d_law_pick ["_law_source_here", "_law_things"] (up K spPickD) := by
  refine T.F_law_pick.ok sc_law_pick (up_len fun sp ds n R h => ?_) (fun cdv A outer s H vs Q E hr h => ?_)
  · obtain ⟨_, _, _, rfl, _⟩ := h
    rfl
  obtain ⟨sp, F, ds, n, hs, src, L, p, xs, rfl, rfl, ⟨x0, x1⟩, hn, k⟩ := h
  refine d_run (N := ["_law_source_here", "_law_things"]) (sl := [Sl.val _, Sl.val _]) (dss_one (ds_ret (de_ix (dv 1) (DX.b (de_callF mon_law_draw (ups_law_draw T) (fun _ => ok_law_draw T) (fun _ => (hr.mono (by decide))) (fun _ => by rfl) (fun _ => T.m_law_draw) (fun _ => T.F_law_draw.kp) (fun _ => T.b_law_draw) (fun _ => pass0) (dab_cons (dbv 0) (dab_cons (DX.b (de_callB dc_len (fun _ => by rfl) (fun _ => T.m_len) (by decide +kernel) (dab_cons (dbv 1) dab_nil))) dab_nil)))) (fun _ _ => rfl)))) hs src L rfl ?_
  have hl := List.length_pos_iff.mpr x0
  refine ⟨p, _, rfl, rfl, ⟨by omega, by omega⟩, hn, fun d hd => ⟨rfl, rfl, ?_⟩⟩
  obtain ⟨y, e, hy⟩ := atI_mem hd.1 hd.2
  refine opt_some e ?_
  exact ⟨_, Int.le_refl _, k y hy⟩
/-! equal things -/
theorem eqv_self {d : D} (h : okP d) : PyData.eqv (pD d) (pD d) = true := SeqAt.eqv_refl _ (isP_lay d h.1)
theorem eq_same {d e : D} {R : D → Prop} {neg : Bool} (hd : okP d) (he : e = d) (hv : ∀ x, d ≠ .v x) (h : R (.v (.bl (!neg)))) : dEqB neg d e R := by
  subst he
  unfold dEqB
  split
  · rename_i x y q
    exact absurd rfl (hv _)
  · refine ⟨hd, hd, ?_⟩
    rw [eqv_self hd]
    cases neg <;> exact h
theorem pair_ok {a : Str} {d : D} (ha : PyData.strOk a = true) (hd : isP d = true) (hk : (pD d).depth ≤ 1) : okP (.tup [eS a, d]) := by
  refine ⟨?_, ?_⟩
  · show (PyData.strOk a && (isP d && true)) = true
    rw [ha, hd]
    rfl
  · show (PyData.tuple [.str a, pD d]).depth ≤ 64
    simp only [PyData.depth, PyData.depthAll]
    omega
def fspX0 {α β : Type} (A : α → List D) (Pr : α → Prop) (Po : α → β → Prop) (O : β → D) (PoX : α → Addr → List (Str × D) → Prop) : DSpX := fun _ ds n R RX => ∃ x, ds = A x ∧ Pr x ∧ (∀ y, Po x y → R (O y) n) ∧ ∀ C fs, PoX x C fs → RX C fs n
theorem fspX0.mon {α β : Type} {A : α → List D} {Pr : α → Prop} {Po : α → β → Prop} {O : β → D} {PoX : α → Addr → List (Str × D) → Prop} : MonX (fspX0 A Pr Po O PoX) := fun sp ds n R R' S S' h h' ⟨x, h2, h3, h5, h6⟩ => ⟨x, h2, h3, fun y hy => h _ _ (h5 y hy), fun C fs hc => h' _ _ _ (h6 C fs hc)⟩
theorem eq_int35 {i j : Int} {R : D → Prop} (h : R (eB (decide (i = j)))) : dEqB false (eI i) (eI j) R := by
  refine ⟨rfl, ?_⟩
  rw [show decide (V.int i = V.int j) = decide (i = j) from decide_eq_decide.mpr ⟨fun h => by injection h, fun h => by rw [h]⟩]
  exact h
--SPLIT
/-! ### the law's errors -/
theorem is_x {C : Addr} (T : Txt P w K mg) (h1 : PySem.W.findIn K (.ref C) "__getattribute__" = some (some (.builtin "BaseException.__getattribute__"))) (h2 : PySem.W.findIn K (.ref C) "__getattr__" = some none) (h3 : PySem.W.subIn K (.ref C) (.type "BaseException") = some true) (h4 : PySem.W.hasDictIn K C = true)
    (h5 : PySem.W.findIn K (.ref C) "__class__" = some (some (.builtin "object.__class__"))) (h6 : PySem.W.mroIn K C (.type "object") = some true) : IsX K C :=
  ⟨by obtain ⟨cd, hc, _⟩ := PySem.W.any_some h4; rw [hc]; rfl, h1, h2, h3, h5, T.gn_x, T.gt_x, h6⟩
theorem is_BadNumber (T : Txt P w K mg) : IsX K T.C_BadNumber := is_x T T.xf_BadNumber.ga T.xf_BadNumber.gg T.xf_BadNumber.exC T.xf_BadNumber.hdC T.ca_BadNumber T.mo_BadNumber
theorem is_BadTolerance (T : Txt P w K mg) : IsX K T.C_BadTolerance := is_x T T.xf_BadTolerance.ga T.xf_BadTolerance.gg T.xf_BadTolerance.exC T.xf_BadTolerance.hdC T.ca_BadTolerance T.mo_BadTolerance
theorem is_BadGroup (T : Txt P w K mg) : IsX K T.C_BadGroup := is_x T T.xf_BadGroup.ga T.xf_BadGroup.gg T.xf_BadGroup.exC T.xf_BadGroup.hdC T.ca_BadGroup T.mo_BadGroup
theorem is_BadLoop (T : Txt P w K mg) : IsX K T.C_BadLoop := is_x T T.xf_BadLoop.ga T.xf_BadLoop.gg T.xf_BadLoop.exC T.xf_BadLoop.hdC T.ca_BadLoop T.mo_BadLoop
theorem is_UnknownState (T : Txt P w K mg) : IsX K T.C_UnknownState := is_x T T.xf_UnknownState.ga T.xf_UnknownState.gg T.xf_UnknownState.exC T.xf_UnknownState.hdC T.ca_UnknownState T.mo_UnknownState
theorem is_BadAnswer (T : Txt P w K mg) : IsX K T.C_BadAnswer := is_x T T.xf_BadAnswer.ga T.xf_BadAnswer.gg T.xf_BadAnswer.exC T.xf_BadAnswer.hdC T.ca_BadAnswer T.mo_BadAnswer
theorem is_BadJoint (T : Txt P w K mg) : IsX K T.C_BadJoint := is_x T T.xf_BadJoint.ga T.xf_BadJoint.gg T.xf_BadJoint.exC T.xf_BadJoint.hdC T.ca_BadJoint T.mo_BadJoint
theorem is_BadKind (T : Txt P w K mg) : IsX K T.C_BadKind := is_x T T.xf_BadKind.ga T.xf_BadKind.gg T.xf_BadKind.exC T.xf_BadKind.hdC T.ca_BadKind T.mo_BadKind
theorem is_BadWatch (T : Txt P w K mg) : IsX K T.C_BadWatch := is_x T T.xf_BadWatch.ga T.xf_BadWatch.gg T.xf_BadWatch.exC T.xf_BadWatch.hdC T.ca_BadWatch T.mo_BadWatch
theorem is_BadRow (T : Txt P w K mg) : IsX K T.C_BadRow := is_x T T.xf_BadRow.ga T.xf_BadRow.gg T.xf_BadRow.exC T.xf_BadRow.hdC T.ca_BadRow T.mo_BadRow
theorem is_BadTable (T : Txt P w K mg) : IsX K T.C_BadTable := is_x T T.xf_BadTable.ga T.xf_BadTable.gg T.xf_BadTable.exC T.xf_BadTable.hdC T.ca_BadTable T.mo_BadTable
theorem isX_of {C : Addr} {cv : Value} {i : Nat} {xa : Addr} {a : AS} {R : D → AS → Prop} {b : Bool} (h0 : a.at i = .val (.v (.ref xa))) (h : PySem.W.kitOne K (.ref C) cv = some b) (r : R (eB b) a) : dIsX K C cv i xa a R := ⟨h0, b, h, r⟩
def RaisedP (T : Txt P w K mg) (p : Nat × D) (C : Addr) (fs : List (Str × D)) : Prop :=
  (p.1 = 0 ∧ C = T.C_BadNumber ∧ fs = [(("number" : Str), p.2)]) ∨
  (p.1 = 1 ∧ C = T.C_BadTolerance ∧ fs = [(("tolerance" : Str), p.2)]) ∨
  (p.1 = 2 ∧ C = T.C_BadGroup ∧ fs = [(("group" : Str), p.2)]) ∨
  (p.1 = 3 ∧ C = T.C_BadLoop ∧ fs = [(("line" : Str), p.2)]) ∨
  (p.1 = 4 ∧ C = T.C_UnknownState ∧ fs = [(("state" : Str), p.2)]) ∨
  (p.1 = 5 ∧ C = T.C_BadAnswer ∧ fs = [(("answer" : Str), p.2)]) ∨
  (p.1 = 6 ∧ C = T.C_BadJoint ∧ fs = [(("state" : Str), p.2)]) ∨
  (p.1 = 7 ∧ C = T.C_BadKind ∧ fs = [(("by" : Str), p.2)]) ∨
  (p.1 = 8 ∧ C = T.C_BadWatch ∧ fs = [(("line" : Str), p.2)]) ∨
  (p.1 = 9 ∧ C = T.C_BadRow ∧ fs = []) ∨
  (p.1 = 10 ∧ C = T.C_BadTable ∧ fs = [])
def spRaisedD (T : Txt P w K mg) : DSpX := fspX0 (β := D) (fun p : Nat × D => [eI (p.1 : Nat), p.2]) (fun p => p.1 ≤ 10) (fun _ _ => False) id (RaisedP T)
theorem mon_law_raised {T : Txt P w K mg} : MonX (spRaisedD T) := fspX0.mon
theorem ups_law_raised (T : Txt P w K mg) : UpsX K (upX K (spRaisedD T)) (spRaisedD T) := .rfl
theorem ok_law_raised (T : Txt P w K mg) : FnOk P w K mg base (L2.CX P w) 3 T.f_law_raised T.d_law_raised ["_law_how", "_law_a"] (upX K (spRaisedD T)) := by
  refine T.F_law_raised.okX sc_law_raised (upX_len fun sp ds n R RX h => ?_) (fun cdv A outer s H vs Q E hr h => ?_)
  · obtain ⟨_, rfl, _⟩ := h
    rfl
  obtain ⟨sp, F, ds, n, hs, src, L, ⟨i, d⟩, rfl, h1, _, kx⟩ := h
  refine d_runX (E := E) (N := ["_law_how", "_law_a"]) (sl := [Sl.val _, Sl.val _]) (dss_cons (ds_if (dt_cmp (dop_eq (fun _ => hr.units)) (dbv 0) (DX.b de_int) (nomark _))
      (dss_one (ds_raise (fun _ => rfl) (fun _ => T.er_BadNumber) (fun _ => T.fn_BadNumber) (fun _ => hr) (fun _ => takes_of rfl rfl rfl rfl) (da_cons (dv 1) da_nil) (fun _ => by rfl)))
      dss_nil)
      (dss_cons (ds_if (dt_cmp (dop_eq (fun _ => hr.units)) (dbv 0) (DX.b de_int) (nomark _))
      (dss_one (ds_raise (fun _ => rfl) (fun _ => T.er_BadTolerance) (fun _ => T.fn_BadTolerance) (fun _ => hr) (fun _ => takes_of rfl rfl rfl rfl) (da_cons (dv 1) da_nil) (fun _ => by rfl)))
      dss_nil)
      (dss_cons (ds_if (dt_cmp (dop_eq (fun _ => hr.units)) (dbv 0) (DX.b de_int) (nomark _))
      (dss_one (ds_raise (fun _ => rfl) (fun _ => T.er_BadGroup) (fun _ => T.fn_BadGroup) (fun _ => hr) (fun _ => takes_of rfl rfl rfl rfl) (da_cons (dv 1) da_nil) (fun _ => by rfl)))
      dss_nil)
      (dss_cons (ds_if (dt_cmp (dop_eq (fun _ => hr.units)) (dbv 0) (DX.b de_int) (nomark _))
      (dss_one (ds_raise (fun _ => rfl) (fun _ => T.er_BadLoop) (fun _ => T.fn_BadLoop) (fun _ => hr) (fun _ => takes_of rfl rfl rfl rfl) (da_cons (dv 1) da_nil) (fun _ => by rfl)))
      dss_nil)
      (dss_cons (ds_if (dt_cmp (dop_eq (fun _ => hr.units)) (dbv 0) (DX.b de_int) (nomark _))
      (dss_one (ds_raise (fun _ => rfl) (fun _ => T.er_UnknownState) (fun _ => T.fn_UnknownState) (fun _ => hr) (fun _ => takes_of rfl rfl rfl rfl) (da_cons (dv 1) da_nil) (fun _ => by rfl)))
      dss_nil)
      (dss_cons (ds_if (dt_cmp (dop_eq (fun _ => hr.units)) (dbv 0) (DX.b de_int) (nomark _))
      (dss_one (ds_raise (fun _ => rfl) (fun _ => T.er_BadAnswer) (fun _ => T.fn_BadAnswer) (fun _ => hr) (fun _ => takes_of rfl rfl rfl rfl) (da_cons (dv 1) da_nil) (fun _ => by rfl)))
      dss_nil)
      (dss_cons (ds_if (dt_cmp (dop_eq (fun _ => hr.units)) (dbv 0) (DX.b de_int) (nomark _))
      (dss_one (ds_raise (fun _ => rfl) (fun _ => T.er_BadJoint) (fun _ => T.fn_BadJoint) (fun _ => hr) (fun _ => takes_of rfl rfl rfl rfl) (da_cons (dv 1) da_nil) (fun _ => by rfl)))
      dss_nil)
      (dss_cons (ds_if (dt_cmp (dop_eq (fun _ => hr.units)) (dbv 0) (DX.b de_int) (nomark _))
      (dss_one (ds_raise (fun _ => rfl) (fun _ => T.er_BadKind) (fun _ => T.fn_BadKind) (fun _ => hr) (fun _ => takes_of rfl rfl rfl rfl) (da_cons (dv 1) da_nil) (fun _ => by rfl)))
      dss_nil)
      (dss_cons (ds_if (dt_cmp (dop_eq (fun _ => hr.units)) (dbv 0) (DX.b de_int) (nomark _))
      (dss_one (ds_raise (fun _ => rfl) (fun _ => T.er_BadWatch) (fun _ => T.fn_BadWatch) (fun _ => hr) (fun _ => takes_of rfl rfl rfl rfl) (da_cons (dv 1) da_nil) (fun _ => by rfl)))
      dss_nil)
      (dss_cons (ds_if (dt_cmp (dop_eq (fun _ => hr.units)) (dbv 0) (DX.b de_int) (nomark _))
      (dss_one (ds_raise0 (fun _ => rfl) (fun _ => T.er_BadRow) (fun _ => T.fn_BadRow) (fun _ => hr) (fun _ => takes_of rfl rfl rfl rfl) (fun _ => by rfl)))
      dss_nil)
      (dss_one (ds_raise0 (fun _ => rfl) (fun _ => T.er_BadTable) (fun _ => T.fn_BadTable) (fun _ => hr) (fun _ => takes_of rfl rfl rfl rfl) (fun _ => by rfl))))))))))))) hs src L rfl ?_
  replace h1 : i ≤ 10 := h1
  walk_at "drx"
  refine eq_int35 ?_
  walk_at "drx"
  refine bif_d (fun h => kx _ _ (.inl ⟨by omega, rfl, rfl⟩)) fun h0 => ?_
  refine eq_int35 ?_
  walk_at "drx"
  refine bif_d (fun h => kx _ _ (.inr (.inl ⟨by omega, rfl, rfl⟩))) fun h1 => ?_
  refine eq_int35 ?_
  walk_at "drx"
  refine bif_d (fun h => kx _ _ (.inr (.inr (.inl ⟨by omega, rfl, rfl⟩)))) fun h2 => ?_
  refine eq_int35 ?_
  walk_at "drx"
  refine bif_d (fun h => kx _ _ (.inr (.inr (.inr (.inl ⟨by omega, rfl, rfl⟩))))) fun h3 => ?_
  refine eq_int35 ?_
  walk_at "drx"
  refine bif_d (fun h => kx _ _ (.inr (.inr (.inr (.inr (.inl ⟨by omega, rfl, rfl⟩)))))) fun h4 => ?_
  refine eq_int35 ?_
  walk_at "drx"
  refine bif_d (fun h => kx _ _ (.inr (.inr (.inr (.inr (.inr (.inl ⟨by omega, rfl, rfl⟩))))))) fun h5 => ?_
  refine eq_int35 ?_
  walk_at "drx"
  refine bif_d (fun h => kx _ _ (.inr (.inr (.inr (.inr (.inr (.inr (.inl ⟨by omega, rfl, rfl⟩)))))))) fun h6 => ?_
  refine eq_int35 ?_
  walk_at "drx"
  refine bif_d (fun h => kx _ _ (.inr (.inr (.inr (.inr (.inr (.inr (.inr (.inl ⟨by omega, rfl, rfl⟩))))))))) fun h7 => ?_
  refine eq_int35 ?_
  walk_at "drx"
  refine bif_d (fun h => kx _ _ (.inr (.inr (.inr (.inr (.inr (.inr (.inr (.inr (.inl ⟨by omega, rfl, rfl⟩)))))))))) fun h8 => ?_
  refine eq_int35 ?_
  walk_at "drx"
  refine bif_d (fun h => kx _ _ (.inr (.inr (.inr (.inr (.inr (.inr (.inr (.inr (.inr (.inl ⟨by omega, rfl, rfl⟩))))))))))) fun h9 => ?_
  exact kx _ _ (.inr (.inr (.inr (.inr (.inr (.inr (.inr (.inr (.inr (.inr ⟨by omega, rfl, rfl⟩))))))))))
def spFieldsD : DSp := fsp0 (fun p : Nat × D => [eI (p.1 : Nat), p.2]) (fun p => p.1 ≤ 10) (fun p y => y = p) fun p : Nat × D => .lst [eI (p.1 : Nat), p.2]
theorem mon_law_fields : Mon spFieldsD := fsp0.mon
theorem ups_law_fields (_ : Txt P w K mg) : Ups K (up K spFieldsD) spFieldsD := .rfl
theorem ok_law_fields (T : Txt P w K mg) : FnOk P w K mg base CX0 5 T.f_law_fields T.d_law_fields ["_law_how", "_law_a"] (up K spFieldsD) := by
  refine T.F_law_fields.ok sc_law_fields (up_len fun sp ds n R h => ?_) (fun cdv A outer s H vs Q E hr h => ?_)
  · obtain ⟨_, rfl, _⟩ := h
    rfl
  obtain ⟨sp, F, ds, n, hs, src, L, ⟨i, d⟩, rfl, h1, k⟩ := h
  refine d_run (N := ["_law_how", "_law_a", "_law_found", "e"]) (sl := [Sl.val _, Sl.val _, Sl.emp, Sl.emp]) (dss_cons (ds_set (i := 2) (fun _ => sc_law_fields.nd) (fun _ => rfl) (fun _ => Or.inl rfl) (DO.x (do_lst da_nil)))
      (dss_cons (ds_try0 (fun _ => rfl) (fun _ => rfl) (fun _ => sc_law_fields.nd) 
      (fun ω' => (dss_one (ds_expr (de_callX0 mon_law_raised (ups_law_raised T) (fun _ => ok_law_raised T) (fun _ => (hr.mono (by decide))) (fun _ => by rfl) (fun _ => T.m_law_raised) (fun _ => T.F_law_raised.kp) (fun _ => T.b_law_raised) tryF_takes (da_cons (dv 0) (da_cons (dv 1) da_nil))))))
      (XClauses.one 3 (fun _ => ⟨rfl, by decide, Or.inl T.er_BadNumber.gC⟩) (fun xa dd fs => (dss_one (ds_set (i := 2) (fun _ => sc_law_fields.nd) (fun _ => rfl) (fun _ => Or.inl rfl) (DO.x (do_lst (da_cons de_int (da_cons (de_xf 3 (fun _ => T.xf_BadNumber) (fun _ => T.fn_BadNumber.noN)) da_nil))))))) (fun _ => ⟨rfl, rfl⟩) (XClauses.one 3 (fun _ => ⟨rfl, by decide, Or.inl T.er_BadTolerance.gC⟩) (fun xa dd fs => (dss_one (ds_set (i := 2) (fun _ => sc_law_fields.nd) (fun _ => rfl) (fun _ => Or.inl rfl) (DO.x (do_lst (da_cons de_int (da_cons (de_xf 3 (fun _ => T.xf_BadTolerance) (fun _ => T.fn_BadTolerance.noN)) da_nil))))))) (fun _ => ⟨rfl, rfl⟩) (XClauses.one 3 (fun _ => ⟨rfl, by decide, Or.inl T.er_BadGroup.gC⟩) (fun xa dd fs => (dss_one (ds_set (i := 2) (fun _ => sc_law_fields.nd) (fun _ => rfl) (fun _ => Or.inl rfl) (DO.x (do_lst (da_cons de_int (da_cons (de_xf 3 (fun _ => T.xf_BadGroup) (fun _ => T.fn_BadGroup.noN)) da_nil))))))) (fun _ => ⟨rfl, rfl⟩) (XClauses.one 3 (fun _ => ⟨rfl, by decide, Or.inl T.er_BadLoop.gC⟩) (fun xa dd fs => (dss_one (ds_set (i := 2) (fun _ => sc_law_fields.nd) (fun _ => rfl) (fun _ => Or.inl rfl) (DO.x (do_lst (da_cons de_int (da_cons (de_xf 3 (fun _ => T.xf_BadLoop) (fun _ => T.fn_BadLoop.noN)) da_nil))))))) (fun _ => ⟨rfl, rfl⟩) (XClauses.one 3 (fun _ => ⟨rfl, by decide, Or.inl T.er_UnknownState.gC⟩) (fun xa dd fs => (dss_one (ds_set (i := 2) (fun _ => sc_law_fields.nd) (fun _ => rfl) (fun _ => Or.inl rfl) (DO.x (do_lst (da_cons de_int (da_cons (de_xf 3 (fun _ => T.xf_UnknownState) (fun _ => T.fn_UnknownState.noN)) da_nil))))))) (fun _ => ⟨rfl, rfl⟩) (XClauses.one 3 (fun _ => ⟨rfl, by decide, Or.inl T.er_BadAnswer.gC⟩) (fun xa dd fs => (dss_one (ds_set (i := 2) (fun _ => sc_law_fields.nd) (fun _ => rfl) (fun _ => Or.inl rfl) (DO.x (do_lst (da_cons de_int (da_cons (de_xf 3 (fun _ => T.xf_BadAnswer) (fun _ => T.fn_BadAnswer.noN)) da_nil))))))) (fun _ => ⟨rfl, rfl⟩) (XClauses.one 3 (fun _ => ⟨rfl, by decide, Or.inl T.er_BadJoint.gC⟩) (fun xa dd fs => (dss_one (ds_set (i := 2) (fun _ => sc_law_fields.nd) (fun _ => rfl) (fun _ => Or.inl rfl) (DO.x (do_lst (da_cons de_int (da_cons (de_xf 3 (fun _ => T.xf_BadJoint) (fun _ => T.fn_BadJoint.noN)) da_nil))))))) (fun _ => ⟨rfl, rfl⟩) (XClauses.one 3 (fun _ => ⟨rfl, by decide, Or.inl T.er_BadKind.gC⟩) (fun xa dd fs => (dss_one (ds_set (i := 2) (fun _ => sc_law_fields.nd) (fun _ => rfl) (fun _ => Or.inl rfl) (DO.x (do_lst (da_cons de_int (da_cons (de_xf 3 (fun _ => T.xf_BadKind) (fun _ => T.fn_BadKind.noN)) da_nil))))))) (fun _ => ⟨rfl, rfl⟩) (XClauses.one 3 (fun _ => ⟨rfl, by decide, Or.inl T.er_BadWatch.gC⟩) (fun xa dd fs => (dss_one (ds_set (i := 2) (fun _ => sc_law_fields.nd) (fun _ => rfl) (fun _ => Or.inl rfl) (DO.x (do_lst (da_cons de_int (da_cons (de_xf 3 (fun _ => T.xf_BadWatch) (fun _ => T.fn_BadWatch.noN)) da_nil))))))) (fun _ => ⟨rfl, rfl⟩) (XClauses.one0 (fun _ => ⟨rfl, by decide, Or.inl T.er_BadRow.gC⟩) (fun xa dd fs => (dss_one (ds_set (i := 2) (fun _ => sc_law_fields.nd) (fun _ => rfl) (fun _ => Or.inl rfl) (DO.x (do_lst (da_cons de_int (da_cons (dv 1) da_nil))))))) (XClauses.one0 (fun _ => ⟨rfl, by decide, Or.inl T.er_BadTable.gC⟩) (fun xa dd fs => (dss_one (ds_set (i := 2) (fun _ => sc_law_fields.nd) (fun _ => rfl) (fun _ => Or.inl rfl) (DO.x (do_lst (da_cons de_int (da_cons (dv 1) da_nil))))))) XClauses.nil))))))))))))
      (dss_one (ds_ret (dv 2))))) hs src L rfl ?_
  walk_at "drx"
  refine ⟨by show 0 ≤ sizeLine; decide, fun W => ?_⟩
  walk_at "drx"
  refine ⟨(i, d), rfl, h1, fun _ h => h.elim, fun C fs q => ?_⟩
  rcases q with ⟨e, rfl, rfl⟩ | ⟨e, rfl, rfl⟩ | ⟨e, rfl, rfl⟩ | ⟨e, rfl, rfl⟩ | ⟨e, rfl, rfl⟩ | ⟨e, rfl, rfl⟩ | ⟨e, rfl, rfl⟩ | ⟨e, rfl, rfl⟩ | ⟨e, rfl, rfl⟩ | ⟨e, rfl, rfl⟩ | ⟨e, rfl, rfl⟩
  · replace e : i = 0 := e
    subst e
    refine .inl ⟨T.te_BadNumber, rfl, fun xa => ?_⟩
    dsimp only [XClause.slots, XClause.ends, XClause.off, dXf]
    walk_at "drx"
    exact ⟨rfl, by show 2 ≤ sizeLine; decide, n, Int.le_refl _, k _ rfl⟩
  · replace e : i = 1 := e
    subst e
    refine .inr ⟨T.ne_BadTolerance_BadNumber, .inl ⟨T.te_BadTolerance, rfl, fun xa => ?_⟩⟩
    dsimp only [XClause.slots, XClause.ends, XClause.off, dXf]
    walk_at "drx"
    exact ⟨rfl, by show 2 ≤ sizeLine; decide, n, Int.le_refl _, k _ rfl⟩
  · replace e : i = 2 := e
    subst e
    refine .inr ⟨T.ne_BadGroup_BadNumber, .inr ⟨T.ne_BadGroup_BadTolerance, .inl ⟨T.te_BadGroup, rfl, fun xa => ?_⟩⟩⟩
    dsimp only [XClause.slots, XClause.ends, XClause.off, dXf]
    walk_at "drx"
    exact ⟨rfl, by show 2 ≤ sizeLine; decide, n, Int.le_refl _, k _ rfl⟩
  · replace e : i = 3 := e
    subst e
    refine .inr ⟨T.ne_BadLoop_BadNumber, .inr ⟨T.ne_BadLoop_BadTolerance, .inr ⟨T.ne_BadLoop_BadGroup, .inl ⟨T.te_BadLoop, rfl, fun xa => ?_⟩⟩⟩⟩
    dsimp only [XClause.slots, XClause.ends, XClause.off, dXf]
    walk_at "drx"
    exact ⟨rfl, by show 2 ≤ sizeLine; decide, n, Int.le_refl _, k _ rfl⟩
  · replace e : i = 4 := e
    subst e
    refine .inr ⟨T.ne_UnknownState_BadNumber, .inr ⟨T.ne_UnknownState_BadTolerance, .inr ⟨T.ne_UnknownState_BadGroup, .inr ⟨T.ne_UnknownState_BadLoop, .inl ⟨T.te_UnknownState, rfl, fun xa => ?_⟩⟩⟩⟩⟩
    dsimp only [XClause.slots, XClause.ends, XClause.off, dXf]
    walk_at "drx"
    exact ⟨rfl, by show 2 ≤ sizeLine; decide, n, Int.le_refl _, k _ rfl⟩
  · replace e : i = 5 := e
    subst e
    refine .inr ⟨T.ne_BadAnswer_BadNumber, .inr ⟨T.ne_BadAnswer_BadTolerance, .inr ⟨T.ne_BadAnswer_BadGroup, .inr ⟨T.ne_BadAnswer_BadLoop, .inr ⟨T.ne_BadAnswer_UnknownState, .inl ⟨T.te_BadAnswer, rfl, fun xa => ?_⟩⟩⟩⟩⟩⟩
    dsimp only [XClause.slots, XClause.ends, XClause.off, dXf]
    walk_at "drx"
    exact ⟨rfl, by show 2 ≤ sizeLine; decide, n, Int.le_refl _, k _ rfl⟩
  · replace e : i = 6 := e
    subst e
    refine .inr ⟨T.ne_BadJoint_BadNumber, .inr ⟨T.ne_BadJoint_BadTolerance, .inr ⟨T.ne_BadJoint_BadGroup, .inr ⟨T.ne_BadJoint_BadLoop, .inr ⟨T.ne_BadJoint_UnknownState, .inr ⟨T.ne_BadJoint_BadAnswer, .inl ⟨T.te_BadJoint, rfl, fun xa => ?_⟩⟩⟩⟩⟩⟩⟩
    dsimp only [XClause.slots, XClause.ends, XClause.off, dXf]
    walk_at "drx"
    exact ⟨rfl, by show 2 ≤ sizeLine; decide, n, Int.le_refl _, k _ rfl⟩
  · replace e : i = 7 := e
    subst e
    refine .inr ⟨T.ne_BadKind_BadNumber, .inr ⟨T.ne_BadKind_BadTolerance, .inr ⟨T.ne_BadKind_BadGroup, .inr ⟨T.ne_BadKind_BadLoop, .inr ⟨T.ne_BadKind_UnknownState, .inr ⟨T.ne_BadKind_BadAnswer, .inr ⟨T.ne_BadKind_BadJoint, .inl ⟨T.te_BadKind, rfl, fun xa => ?_⟩⟩⟩⟩⟩⟩⟩⟩
    dsimp only [XClause.slots, XClause.ends, XClause.off, dXf]
    walk_at "drx"
    exact ⟨rfl, by show 2 ≤ sizeLine; decide, n, Int.le_refl _, k _ rfl⟩
  · replace e : i = 8 := e
    subst e
    refine .inr ⟨T.ne_BadWatch_BadNumber, .inr ⟨T.ne_BadWatch_BadTolerance, .inr ⟨T.ne_BadWatch_BadGroup, .inr ⟨T.ne_BadWatch_BadLoop, .inr ⟨T.ne_BadWatch_UnknownState, .inr ⟨T.ne_BadWatch_BadAnswer, .inr ⟨T.ne_BadWatch_BadJoint, .inr ⟨T.ne_BadWatch_BadKind, .inl ⟨T.te_BadWatch, rfl, fun xa => ?_⟩⟩⟩⟩⟩⟩⟩⟩⟩
    dsimp only [XClause.slots, XClause.ends, XClause.off, dXf]
    walk_at "drx"
    exact ⟨rfl, by show 2 ≤ sizeLine; decide, n, Int.le_refl _, k _ rfl⟩
  · replace e : i = 9 := e
    subst e
    refine .inr ⟨T.ne_BadRow_BadNumber, .inr ⟨T.ne_BadRow_BadTolerance, .inr ⟨T.ne_BadRow_BadGroup, .inr ⟨T.ne_BadRow_BadLoop, .inr ⟨T.ne_BadRow_UnknownState, .inr ⟨T.ne_BadRow_BadAnswer, .inr ⟨T.ne_BadRow_BadJoint, .inr ⟨T.ne_BadRow_BadKind, .inr ⟨T.ne_BadRow_BadWatch, .inl ⟨T.te_BadRow, rfl, fun xa => ?_⟩⟩⟩⟩⟩⟩⟩⟩⟩⟩
    dsimp only [XClause.slots, XClause.ends, XClause.off, dXf]
    walk_at "drx"
    exact ⟨by show 2 ≤ sizeLine; decide, n, Int.le_refl _, k _ rfl⟩
  · replace e : i = 10 := e
    subst e
    refine .inr ⟨T.ne_BadTable_BadNumber, .inr ⟨T.ne_BadTable_BadTolerance, .inr ⟨T.ne_BadTable_BadGroup, .inr ⟨T.ne_BadTable_BadLoop, .inr ⟨T.ne_BadTable_UnknownState, .inr ⟨T.ne_BadTable_BadAnswer, .inr ⟨T.ne_BadTable_BadJoint, .inr ⟨T.ne_BadTable_BadKind, .inr ⟨T.ne_BadTable_BadWatch, .inr ⟨T.ne_BadTable_BadRow, .inl ⟨T.te_BadTable, rfl, fun xa => ?_⟩⟩⟩⟩⟩⟩⟩⟩⟩⟩⟩
    dsimp only [XClause.slots, XClause.ends, XClause.off, dXf]
    walk_at "drx"
    exact ⟨by show 2 ≤ sizeLine; decide, n, Int.le_refl _, k _ rfl⟩
def spCaughtD : DSp := fsp0 (fun p : Nat × D => [eI (p.1 : Nat), p.2]) (fun p => p.1 ≤ 10) (fun _ b => b = true) eB
theorem mon_law_caught : Mon spCaughtD := fsp0.mon
theorem ups_law_caught (_ : Txt P w K mg) : Ups K (up K spCaughtD) spCaughtD := .rfl
theorem ok_law_caught (T : Txt P w K mg) : FnOk P w K mg base CX0 5 T.f_law_caught T.d_law_caught ["_law_how", "_law_a"] (up K spCaughtD) := by
  refine T.F_law_caught.ok sc_law_caught (up_len fun sp ds n R h => ?_) (fun cdv A outer s H vs Q E hr h => ?_)
  · obtain ⟨_, rfl, _⟩ := h
    rfl
  obtain ⟨sp, F, ds, n, hs, src, L, ⟨i, d⟩, rfl, h1, k⟩ := h
  refine d_run (N := ["_law_how", "_law_a", "_law_found", "e", "_law_k"]) (sl := [Sl.val _, Sl.val _, Sl.emp, Sl.emp, Sl.emp]) (dss_cons (ds_set (i := 2) (fun _ => sc_law_caught.nd) (fun _ => rfl) (fun _ => Or.inl rfl) (DO.x (do_lst da_nil)))
      (dss_cons (ds_try0 (fun _ => rfl) (fun _ => rfl) (fun _ => sc_law_caught.nd) 
      (fun ω' => (dss_one (ds_expr (de_callX0 mon_law_raised (ups_law_raised T) (fun _ => ok_law_raised T) (fun _ => (hr.mono (by decide))) (fun _ => by rfl) (fun _ => T.m_law_raised) (fun _ => T.F_law_raised.kp) (fun _ => T.b_law_raised) tryF_takes (da_cons (dv 0) (da_cons (dv 1) da_nil))))))
      (XClauses.oneX 3 (IsX K) (fun _ => ⟨rfl, by decide, Or.inl T.m_NearError⟩) (fun xa C dd fs hC => (dss_cons (ds_set (i := 2) (fun _ => sc_law_caught.nd) (fun _ => rfl) (fun _ => Or.inl rfl) (DO.x (do_lst (da_cons (de_isX 3 (fun _ => hC) (fun _ => by rfl) (fun _ => T.m_isinstance) (.own T.C_BadNumber) (fun _ => pe_glob (v := .ref T.C_BadNumber) rfl T.er_BadNumber.gC rfl)) (da_cons (de_isX 3 (fun _ => hC) (fun _ => by rfl) (fun _ => T.m_isinstance) (.own T.C_BadTolerance) (fun _ => pe_glob (v := .ref T.C_BadTolerance) rfl T.er_BadTolerance.gC rfl)) (da_cons (de_isX 3 (fun _ => hC) (fun _ => by rfl) (fun _ => T.m_isinstance) (.own T.C_BadGroup) (fun _ => pe_glob (v := .ref T.C_BadGroup) rfl T.er_BadGroup.gC rfl)) da_nil))))))
      (dss_cons (ds_set (i := 2) (fun _ => sc_law_caught.nd) (fun _ => rfl) (fun _ => Or.inl rfl) (DO.x (do_cat (dv 2) (DO.x (do_lst (da_cons (de_isX 3 (fun _ => hC) (fun _ => by rfl) (fun _ => T.m_isinstance) (.own T.C_BadLoop) (fun _ => pe_glob (v := .ref T.C_BadLoop) rfl T.er_BadLoop.gC rfl)) (da_cons (de_isX 3 (fun _ => hC) (fun _ => by rfl) (fun _ => T.m_isinstance) (.own T.C_UnknownState) (fun _ => pe_glob (v := .ref T.C_UnknownState) rfl T.er_UnknownState.gC rfl)) (da_cons (de_isX 3 (fun _ => hC) (fun _ => by rfl) (fun _ => T.m_isinstance) (.own T.C_BadAnswer) (fun _ => pe_glob (v := .ref T.C_BadAnswer) rfl T.er_BadAnswer.gC rfl)) da_nil))))))))
      (dss_cons (ds_set (i := 2) (fun _ => sc_law_caught.nd) (fun _ => rfl) (fun _ => Or.inl rfl) (DO.x (do_cat (dv 2) (DO.x (do_lst (da_cons (de_isX 3 (fun _ => hC) (fun _ => by rfl) (fun _ => T.m_isinstance) (.own T.C_BadJoint) (fun _ => pe_glob (v := .ref T.C_BadJoint) rfl T.er_BadJoint.gC rfl)) (da_cons (de_isX 3 (fun _ => hC) (fun _ => by rfl) (fun _ => T.m_isinstance) (.own T.C_BadKind) (fun _ => pe_glob (v := .ref T.C_BadKind) rfl T.er_BadKind.gC rfl)) (da_cons (de_isX 3 (fun _ => hC) (fun _ => by rfl) (fun _ => T.m_isinstance) (.own T.C_BadWatch) (fun _ => pe_glob (v := .ref T.C_BadWatch) rfl T.er_BadWatch.gC rfl)) da_nil))))))))
      (dss_one (ds_set (i := 2) (fun _ => sc_law_caught.nd) (fun _ => rfl) (fun _ => Or.inl rfl) (DO.x (do_cat (dv 2) (DO.x (do_lst (da_cons (de_isX 3 (fun _ => hC) (fun _ => by rfl) (fun _ => T.m_isinstance) (.own T.C_BadRow) (fun _ => pe_glob (v := .ref T.C_BadRow) rfl T.er_BadRow.gC rfl)) (da_cons (de_isX 3 (fun _ => hC) (fun _ => by rfl) (fun _ => T.m_isinstance) (.own T.C_BadTable) (fun _ => pe_glob (v := .ref T.C_BadTable) rfl T.er_BadTable.gC rfl)) (da_cons (de_isX 3 (fun _ => hC) (fun _ => by rfl) (fun _ => T.m_isinstance) (.ty "ValueError") (fun _ => pe_bltn (v := .ty "ValueError") (by rfl) T.m_ValueError (by decide +kernel) rfl)) da_nil))))))))))))) (fun _ => ⟨rfl, rfl⟩) XClauses.nil))
      (dss_one (ds_ret (de_cmp (dop_eq (fun _ => hr.units)) (dbv 2) (DX.b (DO.x (do_cat (DO.x (do_lc (own := [("_law_k", 4)]) (fun _ => rfl) (fun _ => sc_law_caught.nd) (di_range1 (fun _ => by rfl) (fun _ => T.m_range) (dab_cons (DX.b de_int) dab_nil)) (fun _ => blkOk_by (own := [("_law_k", 4)]) (N := ["_law_how", "_law_a", "_law_found", "e", "_law_k"]) (sc := defScope s_law_caught) (by decide +kernel)) (dg_name (i := 4) (fun _ => sc_law_caught.nd) (fun _ => rfl) (fun _ => Or.inl rfl)) dts_nil (de_cmp (dop_eq (fun _ => hr.units)) (dbv 4) (dbv 0) (nomark _)))) (DO.x (do_lst (da_cons de_bl da_nil)))))) (nomark _)))))) hs src L rfl ?_
  walk_at "drx"
  refine ⟨by show 0 ≤ sizeLine; decide, fun W => ?_⟩
  walk_at "drx"
  refine ⟨(i, d), rfl, h1, fun _ h => h.elim, fun C fs q => ?_⟩
  rcases q with ⟨e, rfl, rfl⟩ | ⟨e, rfl, rfl⟩ | ⟨e, rfl, rfl⟩ | ⟨e, rfl, rfl⟩ | ⟨e, rfl, rfl⟩ | ⟨e, rfl, rfl⟩ | ⟨e, rfl, rfl⟩ | ⟨e, rfl, rfl⟩ | ⟨e, rfl, rfl⟩ | ⟨e, rfl, rfl⟩ | ⟨e, rfl, rfl⟩
  · replace e : i = 0 := e
    subst e
    refine .inl ⟨T.nr_BadNumber, is_BadNumber T, fun xa => ?_⟩
    dsimp only [XClause.slots, XClause.ends, XClause.off]
    walk_at "drx"
    refine isX_of rfl T.ki_BadNumber_BadNumber ?_
    refine isX_of rfl T.ki_BadNumber_BadTolerance ?_
    refine isX_of rfl T.ki_BadNumber_BadGroup ?_
    refine ⟨by show 3 ≤ sizeLine; decide, ?_⟩
    walk_at "drx"
    refine isX_of rfl T.ki_BadNumber_BadLoop ?_
    refine isX_of rfl T.ki_BadNumber_UnknownState ?_
    refine isX_of rfl T.ki_BadNumber_BadAnswer ?_
    refine ⟨by show 3 ≤ sizeLine; decide, ?_⟩
    walk_at "drx"
    refine ⟨by show 6 ≤ sizeLine; decide, ?_⟩
    walk_at "drx"
    refine isX_of rfl T.ki_BadNumber_BadJoint ?_
    refine isX_of rfl T.ki_BadNumber_BadKind ?_
    refine isX_of rfl T.ki_BadNumber_BadWatch ?_
    refine ⟨by show 3 ≤ sizeLine; decide, ?_⟩
    walk_at "drx"
    refine ⟨by show 9 ≤ sizeLine; decide, ?_⟩
    walk_at "drx"
    refine isX_of rfl T.ki_BadNumber_BadRow ?_
    refine isX_of rfl T.ki_BadNumber_BadTable ?_
    refine isX_of rfl T.kv_BadNumber ?_
    refine ⟨by show 3 ≤ sizeLine; decide, ?_⟩
    walk_at "drx"
    refine ⟨by show 12 ≤ sizeLine; decide, ?_⟩
    walk_at "drx"
    refine ⟨by decide, lc_mapc1 (fun j : Nat => eB (decide ((0 : Int) + (j : Nat) = ((0 : Nat) : Int)))) (by rw [List.length_range]; decide) (fun j _ S f => by
      walk_at "drx"
      exact eq_int35 (f _ rfl rfl)) ?_⟩
    walk_at "drx"
    refine ⟨by decide, by decide, eq_same ⟨by decide, by decide⟩ rfl (fun _ q => nomatch q) ⟨n, Int.le_refl _, k _ rfl⟩⟩
  · replace e : i = 1 := e
    subst e
    refine .inl ⟨T.nr_BadTolerance, is_BadTolerance T, fun xa => ?_⟩
    dsimp only [XClause.slots, XClause.ends, XClause.off]
    walk_at "drx"
    refine isX_of rfl T.ki_BadTolerance_BadNumber ?_
    refine isX_of rfl T.ki_BadTolerance_BadTolerance ?_
    refine isX_of rfl T.ki_BadTolerance_BadGroup ?_
    refine ⟨by show 3 ≤ sizeLine; decide, ?_⟩
    walk_at "drx"
    refine isX_of rfl T.ki_BadTolerance_BadLoop ?_
    refine isX_of rfl T.ki_BadTolerance_UnknownState ?_
    refine isX_of rfl T.ki_BadTolerance_BadAnswer ?_
    refine ⟨by show 3 ≤ sizeLine; decide, ?_⟩
    walk_at "drx"
    refine ⟨by show 6 ≤ sizeLine; decide, ?_⟩
    walk_at "drx"
    refine isX_of rfl T.ki_BadTolerance_BadJoint ?_
    refine isX_of rfl T.ki_BadTolerance_BadKind ?_
    refine isX_of rfl T.ki_BadTolerance_BadWatch ?_
    refine ⟨by show 3 ≤ sizeLine; decide, ?_⟩
    walk_at "drx"
    refine ⟨by show 9 ≤ sizeLine; decide, ?_⟩
    walk_at "drx"
    refine isX_of rfl T.ki_BadTolerance_BadRow ?_
    refine isX_of rfl T.ki_BadTolerance_BadTable ?_
    refine isX_of rfl T.kv_BadTolerance ?_
    refine ⟨by show 3 ≤ sizeLine; decide, ?_⟩
    walk_at "drx"
    refine ⟨by show 12 ≤ sizeLine; decide, ?_⟩
    walk_at "drx"
    refine ⟨by decide, lc_mapc1 (fun j : Nat => eB (decide ((0 : Int) + (j : Nat) = ((1 : Nat) : Int)))) (by rw [List.length_range]; decide) (fun j _ S f => by
      walk_at "drx"
      exact eq_int35 (f _ rfl rfl)) ?_⟩
    walk_at "drx"
    refine ⟨by decide, by decide, eq_same ⟨by decide, by decide⟩ rfl (fun _ q => nomatch q) ⟨n, Int.le_refl _, k _ rfl⟩⟩
  · replace e : i = 2 := e
    subst e
    refine .inl ⟨T.nr_BadGroup, is_BadGroup T, fun xa => ?_⟩
    dsimp only [XClause.slots, XClause.ends, XClause.off]
    walk_at "drx"
    refine isX_of rfl T.ki_BadGroup_BadNumber ?_
    refine isX_of rfl T.ki_BadGroup_BadTolerance ?_
    refine isX_of rfl T.ki_BadGroup_BadGroup ?_
    refine ⟨by show 3 ≤ sizeLine; decide, ?_⟩
    walk_at "drx"
    refine isX_of rfl T.ki_BadGroup_BadLoop ?_
    refine isX_of rfl T.ki_BadGroup_UnknownState ?_
    refine isX_of rfl T.ki_BadGroup_BadAnswer ?_
    refine ⟨by show 3 ≤ sizeLine; decide, ?_⟩
    walk_at "drx"
    refine ⟨by show 6 ≤ sizeLine; decide, ?_⟩
    walk_at "drx"
    refine isX_of rfl T.ki_BadGroup_BadJoint ?_
    refine isX_of rfl T.ki_BadGroup_BadKind ?_
    refine isX_of rfl T.ki_BadGroup_BadWatch ?_
    refine ⟨by show 3 ≤ sizeLine; decide, ?_⟩
    walk_at "drx"
    refine ⟨by show 9 ≤ sizeLine; decide, ?_⟩
    walk_at "drx"
    refine isX_of rfl T.ki_BadGroup_BadRow ?_
    refine isX_of rfl T.ki_BadGroup_BadTable ?_
    refine isX_of rfl T.kv_BadGroup ?_
    refine ⟨by show 3 ≤ sizeLine; decide, ?_⟩
    walk_at "drx"
    refine ⟨by show 12 ≤ sizeLine; decide, ?_⟩
    walk_at "drx"
    refine ⟨by decide, lc_mapc1 (fun j : Nat => eB (decide ((0 : Int) + (j : Nat) = ((2 : Nat) : Int)))) (by rw [List.length_range]; decide) (fun j _ S f => by
      walk_at "drx"
      exact eq_int35 (f _ rfl rfl)) ?_⟩
    walk_at "drx"
    refine ⟨by decide, by decide, eq_same ⟨by decide, by decide⟩ rfl (fun _ q => nomatch q) ⟨n, Int.le_refl _, k _ rfl⟩⟩
  · replace e : i = 3 := e
    subst e
    refine .inl ⟨T.nr_BadLoop, is_BadLoop T, fun xa => ?_⟩
    dsimp only [XClause.slots, XClause.ends, XClause.off]
    walk_at "drx"
    refine isX_of rfl T.ki_BadLoop_BadNumber ?_
    refine isX_of rfl T.ki_BadLoop_BadTolerance ?_
    refine isX_of rfl T.ki_BadLoop_BadGroup ?_
    refine ⟨by show 3 ≤ sizeLine; decide, ?_⟩
    walk_at "drx"
    refine isX_of rfl T.ki_BadLoop_BadLoop ?_
    refine isX_of rfl T.ki_BadLoop_UnknownState ?_
    refine isX_of rfl T.ki_BadLoop_BadAnswer ?_
    refine ⟨by show 3 ≤ sizeLine; decide, ?_⟩
    walk_at "drx"
    refine ⟨by show 6 ≤ sizeLine; decide, ?_⟩
    walk_at "drx"
    refine isX_of rfl T.ki_BadLoop_BadJoint ?_
    refine isX_of rfl T.ki_BadLoop_BadKind ?_
    refine isX_of rfl T.ki_BadLoop_BadWatch ?_
    refine ⟨by show 3 ≤ sizeLine; decide, ?_⟩
    walk_at "drx"
    refine ⟨by show 9 ≤ sizeLine; decide, ?_⟩
    walk_at "drx"
    refine isX_of rfl T.ki_BadLoop_BadRow ?_
    refine isX_of rfl T.ki_BadLoop_BadTable ?_
    refine isX_of rfl T.kv_BadLoop ?_
    refine ⟨by show 3 ≤ sizeLine; decide, ?_⟩
    walk_at "drx"
    refine ⟨by show 12 ≤ sizeLine; decide, ?_⟩
    walk_at "drx"
    refine ⟨by decide, lc_mapc1 (fun j : Nat => eB (decide ((0 : Int) + (j : Nat) = ((3 : Nat) : Int)))) (by rw [List.length_range]; decide) (fun j _ S f => by
      walk_at "drx"
      exact eq_int35 (f _ rfl rfl)) ?_⟩
    walk_at "drx"
    refine ⟨by decide, by decide, eq_same ⟨by decide, by decide⟩ rfl (fun _ q => nomatch q) ⟨n, Int.le_refl _, k _ rfl⟩⟩
  · replace e : i = 4 := e
    subst e
    refine .inl ⟨T.nr_UnknownState, is_UnknownState T, fun xa => ?_⟩
    dsimp only [XClause.slots, XClause.ends, XClause.off]
    walk_at "drx"
    refine isX_of rfl T.ki_UnknownState_BadNumber ?_
    refine isX_of rfl T.ki_UnknownState_BadTolerance ?_
    refine isX_of rfl T.ki_UnknownState_BadGroup ?_
    refine ⟨by show 3 ≤ sizeLine; decide, ?_⟩
    walk_at "drx"
    refine isX_of rfl T.ki_UnknownState_BadLoop ?_
    refine isX_of rfl T.ki_UnknownState_UnknownState ?_
    refine isX_of rfl T.ki_UnknownState_BadAnswer ?_
    refine ⟨by show 3 ≤ sizeLine; decide, ?_⟩
    walk_at "drx"
    refine ⟨by show 6 ≤ sizeLine; decide, ?_⟩
    walk_at "drx"
    refine isX_of rfl T.ki_UnknownState_BadJoint ?_
    refine isX_of rfl T.ki_UnknownState_BadKind ?_
    refine isX_of rfl T.ki_UnknownState_BadWatch ?_
    refine ⟨by show 3 ≤ sizeLine; decide, ?_⟩
    walk_at "drx"
    refine ⟨by show 9 ≤ sizeLine; decide, ?_⟩
    walk_at "drx"
    refine isX_of rfl T.ki_UnknownState_BadRow ?_
    refine isX_of rfl T.ki_UnknownState_BadTable ?_
    refine isX_of rfl T.kv_UnknownState ?_
    refine ⟨by show 3 ≤ sizeLine; decide, ?_⟩
    walk_at "drx"
    refine ⟨by show 12 ≤ sizeLine; decide, ?_⟩
    walk_at "drx"
    refine ⟨by decide, lc_mapc1 (fun j : Nat => eB (decide ((0 : Int) + (j : Nat) = ((4 : Nat) : Int)))) (by rw [List.length_range]; decide) (fun j _ S f => by
      walk_at "drx"
      exact eq_int35 (f _ rfl rfl)) ?_⟩
    walk_at "drx"
    refine ⟨by decide, by decide, eq_same ⟨by decide, by decide⟩ rfl (fun _ q => nomatch q) ⟨n, Int.le_refl _, k _ rfl⟩⟩
  · replace e : i = 5 := e
    subst e
    refine .inl ⟨T.nr_BadAnswer, is_BadAnswer T, fun xa => ?_⟩
    dsimp only [XClause.slots, XClause.ends, XClause.off]
    walk_at "drx"
    refine isX_of rfl T.ki_BadAnswer_BadNumber ?_
    refine isX_of rfl T.ki_BadAnswer_BadTolerance ?_
    refine isX_of rfl T.ki_BadAnswer_BadGroup ?_
    refine ⟨by show 3 ≤ sizeLine; decide, ?_⟩
    walk_at "drx"
    refine isX_of rfl T.ki_BadAnswer_BadLoop ?_
    refine isX_of rfl T.ki_BadAnswer_UnknownState ?_
    refine isX_of rfl T.ki_BadAnswer_BadAnswer ?_
    refine ⟨by show 3 ≤ sizeLine; decide, ?_⟩
    walk_at "drx"
    refine ⟨by show 6 ≤ sizeLine; decide, ?_⟩
    walk_at "drx"
    refine isX_of rfl T.ki_BadAnswer_BadJoint ?_
    refine isX_of rfl T.ki_BadAnswer_BadKind ?_
    refine isX_of rfl T.ki_BadAnswer_BadWatch ?_
    refine ⟨by show 3 ≤ sizeLine; decide, ?_⟩
    walk_at "drx"
    refine ⟨by show 9 ≤ sizeLine; decide, ?_⟩
    walk_at "drx"
    refine isX_of rfl T.ki_BadAnswer_BadRow ?_
    refine isX_of rfl T.ki_BadAnswer_BadTable ?_
    refine isX_of rfl T.kv_BadAnswer ?_
    refine ⟨by show 3 ≤ sizeLine; decide, ?_⟩
    walk_at "drx"
    refine ⟨by show 12 ≤ sizeLine; decide, ?_⟩
    walk_at "drx"
    refine ⟨by decide, lc_mapc1 (fun j : Nat => eB (decide ((0 : Int) + (j : Nat) = ((5 : Nat) : Int)))) (by rw [List.length_range]; decide) (fun j _ S f => by
      walk_at "drx"
      exact eq_int35 (f _ rfl rfl)) ?_⟩
    walk_at "drx"
    refine ⟨by decide, by decide, eq_same ⟨by decide, by decide⟩ rfl (fun _ q => nomatch q) ⟨n, Int.le_refl _, k _ rfl⟩⟩
  · replace e : i = 6 := e
    subst e
    refine .inl ⟨T.nr_BadJoint, is_BadJoint T, fun xa => ?_⟩
    dsimp only [XClause.slots, XClause.ends, XClause.off]
    walk_at "drx"
    refine isX_of rfl T.ki_BadJoint_BadNumber ?_
    refine isX_of rfl T.ki_BadJoint_BadTolerance ?_
    refine isX_of rfl T.ki_BadJoint_BadGroup ?_
    refine ⟨by show 3 ≤ sizeLine; decide, ?_⟩
    walk_at "drx"
    refine isX_of rfl T.ki_BadJoint_BadLoop ?_
    refine isX_of rfl T.ki_BadJoint_UnknownState ?_
    refine isX_of rfl T.ki_BadJoint_BadAnswer ?_
    refine ⟨by show 3 ≤ sizeLine; decide, ?_⟩
    walk_at "drx"
    refine ⟨by show 6 ≤ sizeLine; decide, ?_⟩
    walk_at "drx"
    refine isX_of rfl T.ki_BadJoint_BadJoint ?_
    refine isX_of rfl T.ki_BadJoint_BadKind ?_
    refine isX_of rfl T.ki_BadJoint_BadWatch ?_
    refine ⟨by show 3 ≤ sizeLine; decide, ?_⟩
    walk_at "drx"
    refine ⟨by show 9 ≤ sizeLine; decide, ?_⟩
    walk_at "drx"
    refine isX_of rfl T.ki_BadJoint_BadRow ?_
    refine isX_of rfl T.ki_BadJoint_BadTable ?_
    refine isX_of rfl T.kv_BadJoint ?_
    refine ⟨by show 3 ≤ sizeLine; decide, ?_⟩
    walk_at "drx"
    refine ⟨by show 12 ≤ sizeLine; decide, ?_⟩
    walk_at "drx"
    refine ⟨by decide, lc_mapc1 (fun j : Nat => eB (decide ((0 : Int) + (j : Nat) = ((6 : Nat) : Int)))) (by rw [List.length_range]; decide) (fun j _ S f => by
      walk_at "drx"
      exact eq_int35 (f _ rfl rfl)) ?_⟩
    walk_at "drx"
    refine ⟨by decide, by decide, eq_same ⟨by decide, by decide⟩ rfl (fun _ q => nomatch q) ⟨n, Int.le_refl _, k _ rfl⟩⟩
  · replace e : i = 7 := e
    subst e
    refine .inl ⟨T.nr_BadKind, is_BadKind T, fun xa => ?_⟩
    dsimp only [XClause.slots, XClause.ends, XClause.off]
    walk_at "drx"
    refine isX_of rfl T.ki_BadKind_BadNumber ?_
    refine isX_of rfl T.ki_BadKind_BadTolerance ?_
    refine isX_of rfl T.ki_BadKind_BadGroup ?_
    refine ⟨by show 3 ≤ sizeLine; decide, ?_⟩
    walk_at "drx"
    refine isX_of rfl T.ki_BadKind_BadLoop ?_
    refine isX_of rfl T.ki_BadKind_UnknownState ?_
    refine isX_of rfl T.ki_BadKind_BadAnswer ?_
    refine ⟨by show 3 ≤ sizeLine; decide, ?_⟩
    walk_at "drx"
    refine ⟨by show 6 ≤ sizeLine; decide, ?_⟩
    walk_at "drx"
    refine isX_of rfl T.ki_BadKind_BadJoint ?_
    refine isX_of rfl T.ki_BadKind_BadKind ?_
    refine isX_of rfl T.ki_BadKind_BadWatch ?_
    refine ⟨by show 3 ≤ sizeLine; decide, ?_⟩
    walk_at "drx"
    refine ⟨by show 9 ≤ sizeLine; decide, ?_⟩
    walk_at "drx"
    refine isX_of rfl T.ki_BadKind_BadRow ?_
    refine isX_of rfl T.ki_BadKind_BadTable ?_
    refine isX_of rfl T.kv_BadKind ?_
    refine ⟨by show 3 ≤ sizeLine; decide, ?_⟩
    walk_at "drx"
    refine ⟨by show 12 ≤ sizeLine; decide, ?_⟩
    walk_at "drx"
    refine ⟨by decide, lc_mapc1 (fun j : Nat => eB (decide ((0 : Int) + (j : Nat) = ((7 : Nat) : Int)))) (by rw [List.length_range]; decide) (fun j _ S f => by
      walk_at "drx"
      exact eq_int35 (f _ rfl rfl)) ?_⟩
    walk_at "drx"
    refine ⟨by decide, by decide, eq_same ⟨by decide, by decide⟩ rfl (fun _ q => nomatch q) ⟨n, Int.le_refl _, k _ rfl⟩⟩
  · replace e : i = 8 := e
    subst e
    refine .inl ⟨T.nr_BadWatch, is_BadWatch T, fun xa => ?_⟩
    dsimp only [XClause.slots, XClause.ends, XClause.off]
    walk_at "drx"
    refine isX_of rfl T.ki_BadWatch_BadNumber ?_
    refine isX_of rfl T.ki_BadWatch_BadTolerance ?_
    refine isX_of rfl T.ki_BadWatch_BadGroup ?_
    refine ⟨by show 3 ≤ sizeLine; decide, ?_⟩
    walk_at "drx"
    refine isX_of rfl T.ki_BadWatch_BadLoop ?_
    refine isX_of rfl T.ki_BadWatch_UnknownState ?_
    refine isX_of rfl T.ki_BadWatch_BadAnswer ?_
    refine ⟨by show 3 ≤ sizeLine; decide, ?_⟩
    walk_at "drx"
    refine ⟨by show 6 ≤ sizeLine; decide, ?_⟩
    walk_at "drx"
    refine isX_of rfl T.ki_BadWatch_BadJoint ?_
    refine isX_of rfl T.ki_BadWatch_BadKind ?_
    refine isX_of rfl T.ki_BadWatch_BadWatch ?_
    refine ⟨by show 3 ≤ sizeLine; decide, ?_⟩
    walk_at "drx"
    refine ⟨by show 9 ≤ sizeLine; decide, ?_⟩
    walk_at "drx"
    refine isX_of rfl T.ki_BadWatch_BadRow ?_
    refine isX_of rfl T.ki_BadWatch_BadTable ?_
    refine isX_of rfl T.kv_BadWatch ?_
    refine ⟨by show 3 ≤ sizeLine; decide, ?_⟩
    walk_at "drx"
    refine ⟨by show 12 ≤ sizeLine; decide, ?_⟩
    walk_at "drx"
    refine ⟨by decide, lc_mapc1 (fun j : Nat => eB (decide ((0 : Int) + (j : Nat) = ((8 : Nat) : Int)))) (by rw [List.length_range]; decide) (fun j _ S f => by
      walk_at "drx"
      exact eq_int35 (f _ rfl rfl)) ?_⟩
    walk_at "drx"
    refine ⟨by decide, by decide, eq_same ⟨by decide, by decide⟩ rfl (fun _ q => nomatch q) ⟨n, Int.le_refl _, k _ rfl⟩⟩
  · replace e : i = 9 := e
    subst e
    refine .inl ⟨T.nr_BadRow, is_BadRow T, fun xa => ?_⟩
    dsimp only [XClause.slots, XClause.ends, XClause.off]
    walk_at "drx"
    refine isX_of rfl T.ki_BadRow_BadNumber ?_
    refine isX_of rfl T.ki_BadRow_BadTolerance ?_
    refine isX_of rfl T.ki_BadRow_BadGroup ?_
    refine ⟨by show 3 ≤ sizeLine; decide, ?_⟩
    walk_at "drx"
    refine isX_of rfl T.ki_BadRow_BadLoop ?_
    refine isX_of rfl T.ki_BadRow_UnknownState ?_
    refine isX_of rfl T.ki_BadRow_BadAnswer ?_
    refine ⟨by show 3 ≤ sizeLine; decide, ?_⟩
    walk_at "drx"
    refine ⟨by show 6 ≤ sizeLine; decide, ?_⟩
    walk_at "drx"
    refine isX_of rfl T.ki_BadRow_BadJoint ?_
    refine isX_of rfl T.ki_BadRow_BadKind ?_
    refine isX_of rfl T.ki_BadRow_BadWatch ?_
    refine ⟨by show 3 ≤ sizeLine; decide, ?_⟩
    walk_at "drx"
    refine ⟨by show 9 ≤ sizeLine; decide, ?_⟩
    walk_at "drx"
    refine isX_of rfl T.ki_BadRow_BadRow ?_
    refine isX_of rfl T.ki_BadRow_BadTable ?_
    refine isX_of rfl T.kv_BadRow ?_
    refine ⟨by show 3 ≤ sizeLine; decide, ?_⟩
    walk_at "drx"
    refine ⟨by show 12 ≤ sizeLine; decide, ?_⟩
    walk_at "drx"
    refine ⟨by decide, lc_mapc1 (fun j : Nat => eB (decide ((0 : Int) + (j : Nat) = ((9 : Nat) : Int)))) (by rw [List.length_range]; decide) (fun j _ S f => by
      walk_at "drx"
      exact eq_int35 (f _ rfl rfl)) ?_⟩
    walk_at "drx"
    refine ⟨by decide, by decide, eq_same ⟨by decide, by decide⟩ rfl (fun _ q => nomatch q) ⟨n, Int.le_refl _, k _ rfl⟩⟩
  · replace e : i = 10 := e
    subst e
    refine .inl ⟨T.nr_BadTable, is_BadTable T, fun xa => ?_⟩
    dsimp only [XClause.slots, XClause.ends, XClause.off]
    walk_at "drx"
    refine isX_of rfl T.ki_BadTable_BadNumber ?_
    refine isX_of rfl T.ki_BadTable_BadTolerance ?_
    refine isX_of rfl T.ki_BadTable_BadGroup ?_
    refine ⟨by show 3 ≤ sizeLine; decide, ?_⟩
    walk_at "drx"
    refine isX_of rfl T.ki_BadTable_BadLoop ?_
    refine isX_of rfl T.ki_BadTable_UnknownState ?_
    refine isX_of rfl T.ki_BadTable_BadAnswer ?_
    refine ⟨by show 3 ≤ sizeLine; decide, ?_⟩
    walk_at "drx"
    refine ⟨by show 6 ≤ sizeLine; decide, ?_⟩
    walk_at "drx"
    refine isX_of rfl T.ki_BadTable_BadJoint ?_
    refine isX_of rfl T.ki_BadTable_BadKind ?_
    refine isX_of rfl T.ki_BadTable_BadWatch ?_
    refine ⟨by show 3 ≤ sizeLine; decide, ?_⟩
    walk_at "drx"
    refine ⟨by show 9 ≤ sizeLine; decide, ?_⟩
    walk_at "drx"
    refine isX_of rfl T.ki_BadTable_BadRow ?_
    refine isX_of rfl T.ki_BadTable_BadTable ?_
    refine isX_of rfl T.kv_BadTable ?_
    refine ⟨by show 3 ≤ sizeLine; decide, ?_⟩
    walk_at "drx"
    refine ⟨by show 12 ≤ sizeLine; decide, ?_⟩
    walk_at "drx"
    refine ⟨by decide, lc_mapc1 (fun j : Nat => eB (decide ((0 : Int) + (j : Nat) = ((10 : Nat) : Int)))) (by rw [List.length_range]; decide) (fun j _ S f => by
      walk_at "drx"
      exact eq_int35 (f _ rfl rfl)) ?_⟩
    walk_at "drx"
    refine ⟨by decide, by decide, eq_same ⟨by decide, by decide⟩ rfl (fun _ q => nomatch q) ⟨n, Int.le_refl _, k _ rfl⟩⟩
theorem two_ok {i : Int} {d : D} (hd : isP d = true) (hk : (pD d).depth ≤ 1) : okP (.lst [eI i, d]) := by
  refine ⟨?_, ?_⟩
  · show (true && (isP d && true)) = true
    rw [hd]
    rfl
  · show (PyData.list [.int i, pD d]).depth ≤ 64
    simp only [PyData.depth, PyData.depthAll]
    omega
def thingsD (d : Int) : List D := [eI (d - 50), eS "a b", eS "", .tup [eI 1, eI 2], eN, eB true, eI ((10 : Int) ^ Int.toNat 40), .tup []]
theorem things_ok {d : Int} {x : D} (h : x ∈ thingsD d) : isP x = true ∧ (pD x).depth ≤ 1 := by
  simp only [thingsD, List.mem_cons, List.not_mem_nil, or_false] at h
  rcases h with rfl | rfl | rfl | rfl | rfl | rfl | rfl | rfl
  · exact ⟨rfl, Nat.zero_le _⟩
  · exact ⟨by decide +kernel, Nat.zero_le _⟩
  · exact ⟨by decide +kernel, Nat.zero_le _⟩
  · exact ⟨by decide, by decide⟩
  · exact ⟨rfl, Nat.zero_le _⟩
  · exact ⟨rfl, Nat.zero_le _⟩
  · exact ⟨rfl, Nat.zero_le _⟩
  · exact ⟨by decide, by decide⟩
theorem ok_law (T : Txt P w K mg) : FnOk P w K mg base CX0 9 T.f_law T.d_law ["_law_script"] (spLaw K) := by
  refine T.F_law.ok sc_law (fun vs H Q E h => ?_) (fun cdv A outer s H vs Q E hr h => ?_)
  · obtain ⟨a, ns, rfl, _⟩ := h
    rfl
  obtain ⟨a, ns, rfl, hS, hlen, k⟩ := h
  refine law_run (ps_set (i := 1) sc_law.nd rfl (Or.inl rfl) (pe_call (ok_law_source T) (hr.mono (by decide)) (by rfl) T.m_law_source T.F_law_source.kp T.b_law_source .nil pass0 (pa_cons (pv 0) pa_nil))) (dss_cons (ds_set (i := 2) (fun _ => sc_law.nd) (fun _ => rfl) (fun _ => Or.inl rfl) (DO.x (do_lst (da_cons (de_op dop_sub (DX.b (de_callF mon_law_draw (ups_law_draw T) (fun _ => ok_law_draw T) (fun _ => (hr.mono (by decide))) (fun _ => by rfl) (fun _ => T.m_law_draw) (fun _ => T.F_law_draw.kp) (fun _ => T.b_law_draw) (fun _ => pass0) (dab_cons (dbv 1) (dab_cons (DX.b de_int) dab_nil)))) (DX.b de_int)) (da_cons de_str (da_cons de_str (da_cons (de_tup (da_cons de_int (da_cons de_int da_nil))) (da_cons de_non (da_cons de_bl (da_cons (de_op dop_pow (DX.b de_int) (DX.b de_int)) (da_cons (de_tup da_nil) da_nil)))))))))))
      (dss_cons (ds_for (fun _ => PassesOwn.never) (fun _ => rfl) (di_range1 (fun _ => by rfl) (fun _ => T.m_range) (dab_cons (DX.b de_int) dab_nil)) (dg_name (i := 3) (fun _ => sc_law.nd) (fun _ => rfl) (fun _ => Or.inl rfl))
      (dss_cons (ds_set (i := 4) (fun _ => sc_law.nd) (fun _ => rfl) (fun _ => Or.inl rfl) (de_call mon_law_pick (ups_law_pick T) (fun _ => ok_law_pick T) (fun _ => (hr.mono (by decide))) (fun _ => by rfl) (fun _ => T.m_law_pick) (fun _ => T.F_law_pick.kp) (fun _ => T.b_law_pick) (fun _ => pass0) (da_cons (dv 1) (da_cons (dv 2) da_nil))))
      (dss_one (ds_if (DW.pt (dw_or (dt_cmp (dop_ne (fun _ => hr.units)) (DX.b (de_call0 mon_law_fields (ups_law_fields T) (fun _ => ok_law_fields T) (fun _ => (hr.mono (by decide))) (fun _ => by rfl) (fun _ => T.m_law_fields) (fun _ => T.F_law_fields.kp) (fun _ => T.b_law_fields) (fun _ => pass0) (da_cons (dv 3) (da_cons (dv 4) da_nil)))) (DX.b (DO.x (do_lst (da_cons (dv 3) (da_cons (dv 4) da_nil))))) (nomark _)) (dw_or1 (dt_not (dt_val (de_call0 mon_law_caught (ups_law_caught T) (fun _ => ok_law_caught T) (fun _ => (hr.mono (by decide))) (fun _ => by rfl) (fun _ => T.m_law_caught) (fun _ => T.F_law_caught.kp) (fun _ => T.b_law_caught) (fun _ => pass0) (da_cons (dv 3) (da_cons (dv 4) da_nil))))))))
      (dss_one (ds_ret de_bl))
      dss_nil))))
      (dss_cons (ds_set (i := 5) (fun _ => sc_law.nd) (fun _ => rfl) (fun _ => Or.inl rfl) (DO.x (do_lst (da_cons (de_mkf (fun _ => T.er_BadNumber) (fun _ => T.fn_BadNumber) (fun _ => T.kw_BadNumber) (fun _ => hr) de_int (fun _ => by rfl)) (da_cons (de_mkf (fun _ => T.er_BadTolerance) (fun _ => T.fn_BadTolerance) (fun _ => T.kw_BadTolerance) (fun _ => hr) de_str (fun _ => by rfl)) (da_cons (de_mkf (fun _ => T.er_BadGroup) (fun _ => T.fn_BadGroup) (fun _ => T.kw_BadGroup) (fun _ => hr) de_int (fun _ => by rfl)) da_nil))))))
      (dss_cons (ds_set (i := 5) (fun _ => sc_law.nd) (fun _ => rfl) (fun _ => Or.inl rfl) (DO.x (do_cat (dv 5) (DO.x (do_lst (da_cons (de_mkf (fun _ => T.er_BadLoop) (fun _ => T.fn_BadLoop) (fun _ => T.kw_BadLoop) (fun _ => hr) de_int (fun _ => by rfl)) (da_cons (de_mkf (fun _ => T.er_UnknownState) (fun _ => T.fn_UnknownState) (fun _ => T.kw_UnknownState) (fun _ => hr) de_int (fun _ => by rfl)) (da_cons (de_mkf (fun _ => T.er_BadAnswer) (fun _ => T.fn_BadAnswer) (fun _ => T.kw_BadAnswer) (fun _ => hr) de_int (fun _ => by rfl)) da_nil))))))))
      (dss_cons (ds_set (i := 5) (fun _ => sc_law.nd) (fun _ => rfl) (fun _ => Or.inl rfl) (DO.x (do_cat (dv 5) (DO.x (do_lst (da_cons (de_mkf (fun _ => T.er_BadJoint) (fun _ => T.fn_BadJoint) (fun _ => T.kw_BadJoint) (fun _ => hr) de_int (fun _ => by rfl)) (da_cons (de_mkf (fun _ => T.er_BadKind) (fun _ => T.fn_BadKind) (fun _ => T.kw_BadKind) (fun _ => hr) de_int (fun _ => by rfl)) (da_cons (de_mkf (fun _ => T.er_BadWatch) (fun _ => T.fn_BadWatch) (fun _ => T.kw_BadWatch) (fun _ => hr) de_int (fun _ => by rfl)) da_nil))))))))
      (dss_one (ds_ret (de_cmp (dop_eq (fun _ => hr.units)) (dbv 5) (DX.b (DO.x (do_lst (da_cons de_int (da_cons de_str (da_cons de_int (da_cons de_int (da_cons de_int (da_cons de_int (da_cons de_int (da_cons de_int (da_cons de_int da_nil)))))))))))) (nomark _))))))))) hS (by decide) k fun p => st_eq (sl' := [.emp, .val (sD p), .emp, .emp, .emp, .emp]) rfl ?_
  walk_at "drx"
  refine ⟨p, 100, rfl, rfl, ⟨by decide, by decide⟩, by decide, fun d _ => ⟨rfl, ?_⟩⟩
  walk_at "drx"
  refine ⟨by show 2 ≤ sizeLine; decide, ⟨by decide, by decide, by decide⟩, by show 0 ≤ sizeLine; decide, by show 8 ≤ sizeLine; decide, ⟨by decide, by decide⟩, ?_⟩
  refine dLoop_rng (fun i a => ∃ s3 s4, a = ⟨[.emp, .val (sD p), .val (.lst (thingsD d)), s3, s4, .emp], 1 + (i : Nat), some p⟩) ⟨_, _, rfl⟩ (fun i a N hi ⟨s3, s4, e⟩ hN => ?_) fun a ⟨s3, s4, e⟩ => ?_
  · subst e
    replace hi : i < 11 := hi
    rw [Int.zero_add]
    walk_at "drx"
    refine ⟨p, thingsD d, rfl, rfl, ⟨(fun q => nomatch q), by show 8 < 16777216; decide⟩, by omega, fun x hx => ?_⟩
    walk_at "drx"
    obtain ⟨x1, x2⟩ := things_ok hx
    refine ⟨(i, x), rfl, by show i ≤ 10; omega, fun y hy => ?_⟩
    subst hy
    refine ⟨by show 2 ≤ sizeLine; decide, eq_same (two_ok x1 x2) rfl (fun _ q => nomatch q) ?_⟩
    walk_at "drx"
    refine ⟨(i, x), rfl, by show i ≤ 10; omega, fun b hb => ?_⟩
    subst hb
    walk_at "drx"
    exact hN _ ⟨_, _, as_n rfl (by omega)⟩
  · subst e
    walk_at "drx"
    exact ⟨by decide, by decide, by decide, by decide, by decide, by decide, eq_same ⟨by decide +kernel, by decide +kernel⟩ rfl (fun _ q => nomatch q) ⟨_, Int.le_refl _, rfl⟩⟩
--SPLIT
end
theorem all_mk {l : PySem.W.OpenLaw} {w : World} {K : PySem.W.Frag} {h : Heap} {mg : Str → Option Value} {fa : Addr} (X : K.In h) (G : h.Ns mainGlobals mg) (hfa : mg "law" = some (.ref fa))
    {f_law_source f_law_draw f_law_pick f_law_raised f_law_fields f_law_caught f_law : Addr}
    {od_law_source an_law_source od_law_draw an_law_draw od_law_pick an_law_pick od_law_raised an_law_raised od_law_fields an_law_fields od_law_caught an_law_caught od_law an_law : Option Addr} {sl_law_source sl_law_draw sl_law_pick sl_law_raised sl_law_fields sl_law_caught sl_law : Array (Option Value)}
    {oc_law_source kV_law_source dc_law_source pm_law_source cd_law_source ct_law_source oc_law_draw kV_law_draw dc_law_draw pm_law_draw cd_law_draw ct_law_draw oc_law_pick kV_law_pick dc_law_pick pm_law_pick cd_law_pick ct_law_pick oc_law_raised kV_law_raised dc_law_raised pm_law_raised cd_law_raised ct_law_raised oc_law_fields kV_law_fields dc_law_fields pm_law_fields cd_law_fields ct_law_fields oc_law_caught kV_law_caught dc_law_caught pm_law_caught cd_law_caught ct_law_caught oc_law kV_law dc_law pm_law cd_law ct_law : Value}
    {C_NearError : Addr}
    {C_BadAnswer i_BadAnswer N_BadAnswer B_BadAnswer cda_BadAnswer cc_BadAnswer : Addr} {nm_BadAnswer q_BadAnswer : Str} {bs_BadAnswer : List Value} {sn_BadAnswer : List Str} {sub_BadAnswer : List Value} {ab_BadAnswer : Bool} {col_BadAnswer : Option Bool} {dd_BadAnswer od_BadAnswer an_BadAnswer cdd_BadAnswer cld_BadAnswer : Option Addr} {k0_BadAnswer k1_BadAnswer k2_BadAnswer k3_BadAnswer k5_BadAnswer : Option Value} {oc_BadAnswer doc_BadAnswer pm_BadAnswer kV_BadAnswer ct_BadAnswer ccl_BadAnswer cl_BadAnswer : Value} {osl_BadAnswer ccs_BadAnswer csl_BadAnswer : Array (Option Value)} {vs_BadAnswer : Array Value} {file_BadAnswer : Str} {tf_BadAnswer : Tok}
    {C_BadGroup i_BadGroup N_BadGroup B_BadGroup cda_BadGroup cc_BadGroup : Addr} {nm_BadGroup q_BadGroup : Str} {bs_BadGroup : List Value} {sn_BadGroup : List Str} {sub_BadGroup : List Value} {ab_BadGroup : Bool} {col_BadGroup : Option Bool} {dd_BadGroup od_BadGroup an_BadGroup cdd_BadGroup cld_BadGroup : Option Addr} {k0_BadGroup k1_BadGroup k2_BadGroup k3_BadGroup k5_BadGroup : Option Value} {oc_BadGroup doc_BadGroup pm_BadGroup kV_BadGroup ct_BadGroup ccl_BadGroup cl_BadGroup : Value} {osl_BadGroup ccs_BadGroup csl_BadGroup : Array (Option Value)} {vs_BadGroup : Array Value} {file_BadGroup : Str} {tf_BadGroup : Tok}
    {C_BadJoint i_BadJoint N_BadJoint B_BadJoint cda_BadJoint cc_BadJoint : Addr} {nm_BadJoint q_BadJoint : Str} {bs_BadJoint : List Value} {sn_BadJoint : List Str} {sub_BadJoint : List Value} {ab_BadJoint : Bool} {col_BadJoint : Option Bool} {dd_BadJoint od_BadJoint an_BadJoint cdd_BadJoint cld_BadJoint : Option Addr} {k0_BadJoint k1_BadJoint k2_BadJoint k3_BadJoint k5_BadJoint : Option Value} {oc_BadJoint doc_BadJoint pm_BadJoint kV_BadJoint ct_BadJoint ccl_BadJoint cl_BadJoint : Value} {osl_BadJoint ccs_BadJoint csl_BadJoint : Array (Option Value)} {vs_BadJoint : Array Value} {file_BadJoint : Str} {tf_BadJoint : Tok}
    {C_BadKind i_BadKind N_BadKind B_BadKind cda_BadKind cc_BadKind : Addr} {nm_BadKind q_BadKind : Str} {bs_BadKind : List Value} {sn_BadKind : List Str} {sub_BadKind : List Value} {ab_BadKind : Bool} {col_BadKind : Option Bool} {dd_BadKind od_BadKind an_BadKind cdd_BadKind cld_BadKind : Option Addr} {k0_BadKind k1_BadKind k2_BadKind k3_BadKind k5_BadKind : Option Value} {oc_BadKind doc_BadKind pm_BadKind kV_BadKind ct_BadKind ccl_BadKind cl_BadKind : Value} {osl_BadKind ccs_BadKind csl_BadKind : Array (Option Value)} {vs_BadKind : Array Value} {file_BadKind : Str} {tf_BadKind : Tok}
    {C_BadLoop i_BadLoop N_BadLoop B_BadLoop cda_BadLoop cc_BadLoop : Addr} {nm_BadLoop q_BadLoop : Str} {bs_BadLoop : List Value} {sn_BadLoop : List Str} {sub_BadLoop : List Value} {ab_BadLoop : Bool} {col_BadLoop : Option Bool} {dd_BadLoop od_BadLoop an_BadLoop cdd_BadLoop cld_BadLoop : Option Addr} {k0_BadLoop k1_BadLoop k2_BadLoop k3_BadLoop k5_BadLoop : Option Value} {oc_BadLoop doc_BadLoop pm_BadLoop kV_BadLoop ct_BadLoop ccl_BadLoop cl_BadLoop : Value} {osl_BadLoop ccs_BadLoop csl_BadLoop : Array (Option Value)} {vs_BadLoop : Array Value} {file_BadLoop : Str} {tf_BadLoop : Tok}
    {C_BadNumber i_BadNumber N_BadNumber B_BadNumber cda_BadNumber cc_BadNumber : Addr} {nm_BadNumber q_BadNumber : Str} {bs_BadNumber : List Value} {sn_BadNumber : List Str} {sub_BadNumber : List Value} {ab_BadNumber : Bool} {col_BadNumber : Option Bool} {dd_BadNumber od_BadNumber an_BadNumber cdd_BadNumber cld_BadNumber : Option Addr} {k0_BadNumber k1_BadNumber k2_BadNumber k3_BadNumber k5_BadNumber : Option Value} {oc_BadNumber doc_BadNumber pm_BadNumber kV_BadNumber ct_BadNumber ccl_BadNumber cl_BadNumber : Value} {osl_BadNumber ccs_BadNumber csl_BadNumber : Array (Option Value)} {vs_BadNumber : Array Value} {file_BadNumber : Str} {tf_BadNumber : Tok}
    {C_BadRow i_BadRow N_BadRow B_BadRow cda_BadRow cc_BadRow : Addr} {nm_BadRow q_BadRow : Str} {bs_BadRow : List Value} {sn_BadRow : List Str} {sub_BadRow : List Value} {ab_BadRow : Bool} {col_BadRow : Option Bool} {dd_BadRow od_BadRow an_BadRow cdd_BadRow cld_BadRow : Option Addr} {k0_BadRow k1_BadRow k2_BadRow k3_BadRow k5_BadRow : Option Value} {oc_BadRow doc_BadRow pm_BadRow kV_BadRow ct_BadRow ccl_BadRow cl_BadRow : Value} {osl_BadRow ccs_BadRow csl_BadRow : Array (Option Value)} {vs_BadRow : Array Value} {file_BadRow : Str} {tf_BadRow : Tok}
    {C_BadTable i_BadTable N_BadTable B_BadTable cda_BadTable cc_BadTable : Addr} {nm_BadTable q_BadTable : Str} {bs_BadTable : List Value} {sn_BadTable : List Str} {sub_BadTable : List Value} {ab_BadTable : Bool} {col_BadTable : Option Bool} {dd_BadTable od_BadTable an_BadTable cdd_BadTable cld_BadTable : Option Addr} {k0_BadTable k1_BadTable k2_BadTable k3_BadTable k5_BadTable : Option Value} {oc_BadTable doc_BadTable pm_BadTable kV_BadTable ct_BadTable ccl_BadTable cl_BadTable : Value} {osl_BadTable ccs_BadTable csl_BadTable : Array (Option Value)} {vs_BadTable : Array Value} {file_BadTable : Str} {tf_BadTable : Tok}
    {C_BadTolerance i_BadTolerance N_BadTolerance B_BadTolerance cda_BadTolerance cc_BadTolerance : Addr} {nm_BadTolerance q_BadTolerance : Str} {bs_BadTolerance : List Value} {sn_BadTolerance : List Str} {sub_BadTolerance : List Value} {ab_BadTolerance : Bool} {col_BadTolerance : Option Bool} {dd_BadTolerance od_BadTolerance an_BadTolerance cdd_BadTolerance cld_BadTolerance : Option Addr} {k0_BadTolerance k1_BadTolerance k2_BadTolerance k3_BadTolerance k5_BadTolerance : Option Value} {oc_BadTolerance doc_BadTolerance pm_BadTolerance kV_BadTolerance ct_BadTolerance ccl_BadTolerance cl_BadTolerance : Value} {osl_BadTolerance ccs_BadTolerance csl_BadTolerance : Array (Option Value)} {vs_BadTolerance : Array Value} {file_BadTolerance : Str} {tf_BadTolerance : Tok}
    {C_BadWatch i_BadWatch N_BadWatch B_BadWatch cda_BadWatch cc_BadWatch : Addr} {nm_BadWatch q_BadWatch : Str} {bs_BadWatch : List Value} {sn_BadWatch : List Str} {sub_BadWatch : List Value} {ab_BadWatch : Bool} {col_BadWatch : Option Bool} {dd_BadWatch od_BadWatch an_BadWatch cdd_BadWatch cld_BadWatch : Option Addr} {k0_BadWatch k1_BadWatch k2_BadWatch k3_BadWatch k5_BadWatch : Option Value} {oc_BadWatch doc_BadWatch pm_BadWatch kV_BadWatch ct_BadWatch ccl_BadWatch cl_BadWatch : Value} {osl_BadWatch ccs_BadWatch csl_BadWatch : Array (Option Value)} {vs_BadWatch : Array Value} {file_BadWatch : Str} {tf_BadWatch : Tok}
    {C_UnknownState i_UnknownState N_UnknownState B_UnknownState cda_UnknownState cc_UnknownState : Addr} {nm_UnknownState q_UnknownState : Str} {bs_UnknownState : List Value} {sn_UnknownState : List Str} {sub_UnknownState : List Value} {ab_UnknownState : Bool} {col_UnknownState : Option Bool} {dd_UnknownState od_UnknownState an_UnknownState cdd_UnknownState cld_UnknownState : Option Addr} {k0_UnknownState k1_UnknownState k2_UnknownState k3_UnknownState k5_UnknownState : Option Value} {oc_UnknownState doc_UnknownState pm_UnknownState kV_UnknownState ct_UnknownState ccl_UnknownState cl_UnknownState : Value} {osl_UnknownState ccs_UnknownState csl_UnknownState : Array (Option Value)} {vs_UnknownState : Array Value} {file_UnknownState : Str} {tf_UnknownState : Tok}
    (a_law_source : PySem.W.nsIn K mainGlobals "_law_source" = some (some (.ref f_law_source)))
    (l_law_source : K.lookup f_law_source = some ⟨oc_law_source, od_law_source, .func (PySem.W.fnOf "_law_source" "_law_source" (defArgs s_law_source) (defBody s_law_source) (defScope s_law_source) .none kV_law_source dc_law_source pm_law_source an_law_source cd_law_source ct_law_source), sl_law_source⟩)
    (c_law_source : PySem.W.codeIn K cd_law_source "_law_source" = true)
    (k_law_source : PySem.W.keepIn K (.ref f_law_source) = true)
    (a_law_draw : PySem.W.nsIn K mainGlobals "_law_draw" = some (some (.ref f_law_draw)))
    (l_law_draw : K.lookup f_law_draw = some ⟨oc_law_draw, od_law_draw, .func (PySem.W.fnOf "_law_draw" "_law_draw" (defArgs s_law_draw) (defBody s_law_draw) (defScope s_law_draw) .none kV_law_draw dc_law_draw pm_law_draw an_law_draw cd_law_draw ct_law_draw), sl_law_draw⟩)
    (c_law_draw : PySem.W.codeIn K cd_law_draw "_law_draw" = true)
    (k_law_draw : PySem.W.keepIn K (.ref f_law_draw) = true)
    (a_law_pick : PySem.W.nsIn K mainGlobals "_law_pick" = some (some (.ref f_law_pick)))
    (l_law_pick : K.lookup f_law_pick = some ⟨oc_law_pick, od_law_pick, .func (PySem.W.fnOf "_law_pick" "_law_pick" (defArgs s_law_pick) (defBody s_law_pick) (defScope s_law_pick) .none kV_law_pick dc_law_pick pm_law_pick an_law_pick cd_law_pick ct_law_pick), sl_law_pick⟩)
    (c_law_pick : PySem.W.codeIn K cd_law_pick "_law_pick" = true)
    (k_law_pick : PySem.W.keepIn K (.ref f_law_pick) = true)
    (a_law_raised : PySem.W.nsIn K mainGlobals "_law_raised" = some (some (.ref f_law_raised)))
    (l_law_raised : K.lookup f_law_raised = some ⟨oc_law_raised, od_law_raised, .func (PySem.W.fnOf "_law_raised" "_law_raised" (defArgs s_law_raised) (defBody s_law_raised) (defScope s_law_raised) .none kV_law_raised dc_law_raised pm_law_raised an_law_raised cd_law_raised ct_law_raised), sl_law_raised⟩)
    (c_law_raised : PySem.W.codeIn K cd_law_raised "_law_raised" = true)
    (k_law_raised : PySem.W.keepIn K (.ref f_law_raised) = true)
    (a_law_fields : PySem.W.nsIn K mainGlobals "_law_fields" = some (some (.ref f_law_fields)))
    (l_law_fields : K.lookup f_law_fields = some ⟨oc_law_fields, od_law_fields, .func (PySem.W.fnOf "_law_fields" "_law_fields" (defArgs s_law_fields) (defBody s_law_fields) (defScope s_law_fields) .none kV_law_fields dc_law_fields pm_law_fields an_law_fields cd_law_fields ct_law_fields), sl_law_fields⟩)
    (c_law_fields : PySem.W.codeIn K cd_law_fields "_law_fields" = true)
    (k_law_fields : PySem.W.keepIn K (.ref f_law_fields) = true)
    (a_law_caught : PySem.W.nsIn K mainGlobals "_law_caught" = some (some (.ref f_law_caught)))
    (l_law_caught : K.lookup f_law_caught = some ⟨oc_law_caught, od_law_caught, .func (PySem.W.fnOf "_law_caught" "_law_caught" (defArgs s_law_caught) (defBody s_law_caught) (defScope s_law_caught) .none kV_law_caught dc_law_caught pm_law_caught an_law_caught cd_law_caught ct_law_caught), sl_law_caught⟩)
    (c_law_caught : PySem.W.codeIn K cd_law_caught "_law_caught" = true)
    (k_law_caught : PySem.W.keepIn K (.ref f_law_caught) = true)
    (a_law : PySem.W.nsIn K mainGlobals "law" = some (some (.ref f_law)))
    (l_law : K.lookup f_law = some ⟨oc_law, od_law, .func (PySem.W.fnOf "law" "law" (defArgs s_law) (defBody s_law) (defScope s_law) .none kV_law dc_law pm_law an_law cd_law ct_law), sl_law⟩)
    (c_law : PySem.W.codeIn K cd_law "law" = true)
    (k_law : PySem.W.keepIn K (.ref f_law) = true)
    (z_int : PySem.W.nsIn K mainGlobals "int" = some none)
    (z_range : PySem.W.nsIn K mainGlobals "range" = some none)
    (z_len : PySem.W.nsIn K mainGlobals "len" = some none)
    (z_isinstance : PySem.W.nsIn K mainGlobals "isinstance" = some none)
    (z_ValueError : PySem.W.nsIn K mainGlobals "ValueError" = some none)
    (xg_BadAnswer : PySem.W.nsIn K mainGlobals "BadAnswer" = some (some (.ref C_BadAnswer)))
    (xc_BadAnswer : K.lookup C_BadAnswer = some (excClassObj nm_BadAnswer q_BadAnswer C_BadAnswer N_BadAnswer bs_BadAnswer (.ref B_BadAnswer :: PySem.SupX.veTl) true sn_BadAnswer sub_BadAnswer ab_BadAnswer col_BadAnswer dd_BadAnswer k0_BadAnswer k1_BadAnswer k2_BadAnswer k3_BadAnswer k5_BadAnswer "ValueError.__new__"))
    (xsa_BadAnswer : PySem.W.findIn K (.ref C_BadAnswer) "__setattr__" = some (some (.builtin "object.__setattr__")))
    (xga_BadAnswer : PySem.W.findIn K (.ref C_BadAnswer) "__getattribute__" = some (some (.builtin "BaseException.__getattribute__")))
    (xgg_BadAnswer : PySem.W.findIn K (.ref C_BadAnswer) "__getattr__" = some none)
    (xic_BadAnswer : PySem.W.findIn K (.ref C_BadAnswer) "__init__" = some (some (.ref i_BadAnswer)))
    (xtc_BadAnswer : PySem.W.typeIn K (.ref i_BadAnswer) = some (.type "function"))
    (xkc_BadAnswer : PySem.W.keepIn K (.ref C_BadAnswer) = true)
    (xex_BadAnswer : PySem.W.subIn K (.ref C_BadAnswer) (.type "BaseException") = some true)
    (xty_BadAnswer : PySem.W.typeIn K (.ref C_BadAnswer) = some (.type "type"))
    (xhd_BadAnswer : PySem.W.hasDictIn K C_BadAnswer = true)
    (xsu_BadAnswer : PySem.W.ks_superIn K C_BadAnswer C_BadAnswer "__init__" = some (some (.builtin "ValueError.__init__")))
    (xsv_BadAnswer : PySem.W.subIn K (.ref C_BadAnswer) (.type "ValueError") = some true)
    (xmr_BadAnswer : PySem.W.mroIn K C_BadAnswer (.ref C_BadAnswer) = some true)
    (xst_BadAnswer : PySem.W.nsIn K PySem.cStatics "thirdparty.any" = some none)
    (xms_BadAnswer : PySem.W.nsIn K mainGlobals "super" = some none)
    (xht_BadAnswer : (l.prog.main.scope.names.lookup ("super" : Str)).isSome = false)
    (xno_BadAnswer : PySem.W.findIn K (.ref C_BadAnswer) "answer" = some none)
    (xli_BadAnswer : K.lookup i_BadAnswer = some ⟨oc_BadAnswer, od_BadAnswer, .func (PySem.W.ksFn "__init__" "BadAnswer.__init__" (defArgs (inClass (top 8) 0)) (defBody (inClass (top 8) 0)) (defScope (inClass (top 8) 0)) .none kV_BadAnswer doc_BadAnswer pm_BadAnswer an_BadAnswer (.ref cda_BadAnswer) ct_BadAnswer cc_BadAnswer), osl_BadAnswer⟩)
    (xci_BadAnswer : PySem.W.codeIn K (.ref cda_BadAnswer) "BadAnswer.__init__" = true)
    (xcd_BadAnswer : K.lookup cda_BadAnswer = some ⟨ccl_BadAnswer, cdd_BadAnswer, .fields vs_BadAnswer, ccs_BadAnswer⟩)
    (xv2_BadAnswer : vs_BadAnswer[2]? = some (.str file_BadAnswer tf_BadAnswer))
    (xfi_BadAnswer : ((l.prog.main.file : Str) == file_BadAnswer) = true)
    (xcc_BadAnswer : K.lookup cc_BadAnswer = some ⟨cl_BadAnswer, cld_BadAnswer, .cell (some (.ref C_BadAnswer)), csl_BadAnswer⟩)
    (xte_BadAnswer : PySem.W.exmOne K (.ref C_BadAnswer) (.ref C_BadAnswer) = some true)
    (xg_BadGroup : PySem.W.nsIn K mainGlobals "BadGroup" = some (some (.ref C_BadGroup)))
    (xc_BadGroup : K.lookup C_BadGroup = some (excClassObj nm_BadGroup q_BadGroup C_BadGroup N_BadGroup bs_BadGroup (.ref B_BadGroup :: PySem.SupX.veTl) true sn_BadGroup sub_BadGroup ab_BadGroup col_BadGroup dd_BadGroup k0_BadGroup k1_BadGroup k2_BadGroup k3_BadGroup k5_BadGroup "ValueError.__new__"))
    (xsa_BadGroup : PySem.W.findIn K (.ref C_BadGroup) "__setattr__" = some (some (.builtin "object.__setattr__")))
    (xga_BadGroup : PySem.W.findIn K (.ref C_BadGroup) "__getattribute__" = some (some (.builtin "BaseException.__getattribute__")))
    (xgg_BadGroup : PySem.W.findIn K (.ref C_BadGroup) "__getattr__" = some none)
    (xic_BadGroup : PySem.W.findIn K (.ref C_BadGroup) "__init__" = some (some (.ref i_BadGroup)))
    (xtc_BadGroup : PySem.W.typeIn K (.ref i_BadGroup) = some (.type "function"))
    (xkc_BadGroup : PySem.W.keepIn K (.ref C_BadGroup) = true)
    (xex_BadGroup : PySem.W.subIn K (.ref C_BadGroup) (.type "BaseException") = some true)
    (xty_BadGroup : PySem.W.typeIn K (.ref C_BadGroup) = some (.type "type"))
    (xhd_BadGroup : PySem.W.hasDictIn K C_BadGroup = true)
    (xsu_BadGroup : PySem.W.ks_superIn K C_BadGroup C_BadGroup "__init__" = some (some (.builtin "ValueError.__init__")))
    (xsv_BadGroup : PySem.W.subIn K (.ref C_BadGroup) (.type "ValueError") = some true)
    (xmr_BadGroup : PySem.W.mroIn K C_BadGroup (.ref C_BadGroup) = some true)
    (xst_BadGroup : PySem.W.nsIn K PySem.cStatics "thirdparty.any" = some none)
    (xms_BadGroup : PySem.W.nsIn K mainGlobals "super" = some none)
    (xht_BadGroup : (l.prog.main.scope.names.lookup ("super" : Str)).isSome = false)
    (xno_BadGroup : PySem.W.findIn K (.ref C_BadGroup) "group" = some none)
    (xli_BadGroup : K.lookup i_BadGroup = some ⟨oc_BadGroup, od_BadGroup, .func (PySem.W.ksFn "__init__" "BadGroup.__init__" (defArgs (inClass (top 5) 0)) (defBody (inClass (top 5) 0)) (defScope (inClass (top 5) 0)) .none kV_BadGroup doc_BadGroup pm_BadGroup an_BadGroup (.ref cda_BadGroup) ct_BadGroup cc_BadGroup), osl_BadGroup⟩)
    (xci_BadGroup : PySem.W.codeIn K (.ref cda_BadGroup) "BadGroup.__init__" = true)
    (xcd_BadGroup : K.lookup cda_BadGroup = some ⟨ccl_BadGroup, cdd_BadGroup, .fields vs_BadGroup, ccs_BadGroup⟩)
    (xv2_BadGroup : vs_BadGroup[2]? = some (.str file_BadGroup tf_BadGroup))
    (xfi_BadGroup : ((l.prog.main.file : Str) == file_BadGroup) = true)
    (xcc_BadGroup : K.lookup cc_BadGroup = some ⟨cl_BadGroup, cld_BadGroup, .cell (some (.ref C_BadGroup)), csl_BadGroup⟩)
    (xte_BadGroup : PySem.W.exmOne K (.ref C_BadGroup) (.ref C_BadGroup) = some true)
    (xg_BadJoint : PySem.W.nsIn K mainGlobals "BadJoint" = some (some (.ref C_BadJoint)))
    (xc_BadJoint : K.lookup C_BadJoint = some (excClassObj nm_BadJoint q_BadJoint C_BadJoint N_BadJoint bs_BadJoint (.ref B_BadJoint :: PySem.SupX.veTl) true sn_BadJoint sub_BadJoint ab_BadJoint col_BadJoint dd_BadJoint k0_BadJoint k1_BadJoint k2_BadJoint k3_BadJoint k5_BadJoint "ValueError.__new__"))
    (xsa_BadJoint : PySem.W.findIn K (.ref C_BadJoint) "__setattr__" = some (some (.builtin "object.__setattr__")))
    (xga_BadJoint : PySem.W.findIn K (.ref C_BadJoint) "__getattribute__" = some (some (.builtin "BaseException.__getattribute__")))
    (xgg_BadJoint : PySem.W.findIn K (.ref C_BadJoint) "__getattr__" = some none)
    (xic_BadJoint : PySem.W.findIn K (.ref C_BadJoint) "__init__" = some (some (.ref i_BadJoint)))
    (xtc_BadJoint : PySem.W.typeIn K (.ref i_BadJoint) = some (.type "function"))
    (xkc_BadJoint : PySem.W.keepIn K (.ref C_BadJoint) = true)
    (xex_BadJoint : PySem.W.subIn K (.ref C_BadJoint) (.type "BaseException") = some true)
    (xty_BadJoint : PySem.W.typeIn K (.ref C_BadJoint) = some (.type "type"))
    (xhd_BadJoint : PySem.W.hasDictIn K C_BadJoint = true)
    (xsu_BadJoint : PySem.W.ks_superIn K C_BadJoint C_BadJoint "__init__" = some (some (.builtin "ValueError.__init__")))
    (xsv_BadJoint : PySem.W.subIn K (.ref C_BadJoint) (.type "ValueError") = some true)
    (xmr_BadJoint : PySem.W.mroIn K C_BadJoint (.ref C_BadJoint) = some true)
    (xst_BadJoint : PySem.W.nsIn K PySem.cStatics "thirdparty.any" = some none)
    (xms_BadJoint : PySem.W.nsIn K mainGlobals "super" = some none)
    (xht_BadJoint : (l.prog.main.scope.names.lookup ("super" : Str)).isSome = false)
    (xno_BadJoint : PySem.W.findIn K (.ref C_BadJoint) "state" = some none)
    (xli_BadJoint : K.lookup i_BadJoint = some ⟨oc_BadJoint, od_BadJoint, .func (PySem.W.ksFn "__init__" "BadJoint.__init__" (defArgs (inClass (top 9) 0)) (defBody (inClass (top 9) 0)) (defScope (inClass (top 9) 0)) .none kV_BadJoint doc_BadJoint pm_BadJoint an_BadJoint (.ref cda_BadJoint) ct_BadJoint cc_BadJoint), osl_BadJoint⟩)
    (xci_BadJoint : PySem.W.codeIn K (.ref cda_BadJoint) "BadJoint.__init__" = true)
    (xcd_BadJoint : K.lookup cda_BadJoint = some ⟨ccl_BadJoint, cdd_BadJoint, .fields vs_BadJoint, ccs_BadJoint⟩)
    (xv2_BadJoint : vs_BadJoint[2]? = some (.str file_BadJoint tf_BadJoint))
    (xfi_BadJoint : ((l.prog.main.file : Str) == file_BadJoint) = true)
    (xcc_BadJoint : K.lookup cc_BadJoint = some ⟨cl_BadJoint, cld_BadJoint, .cell (some (.ref C_BadJoint)), csl_BadJoint⟩)
    (xte_BadJoint : PySem.W.exmOne K (.ref C_BadJoint) (.ref C_BadJoint) = some true)
    (xg_BadKind : PySem.W.nsIn K mainGlobals "BadKind" = some (some (.ref C_BadKind)))
    (xc_BadKind : K.lookup C_BadKind = some (excClassObj nm_BadKind q_BadKind C_BadKind N_BadKind bs_BadKind (.ref B_BadKind :: PySem.SupX.veTl) true sn_BadKind sub_BadKind ab_BadKind col_BadKind dd_BadKind k0_BadKind k1_BadKind k2_BadKind k3_BadKind k5_BadKind "ValueError.__new__"))
    (xsa_BadKind : PySem.W.findIn K (.ref C_BadKind) "__setattr__" = some (some (.builtin "object.__setattr__")))
    (xga_BadKind : PySem.W.findIn K (.ref C_BadKind) "__getattribute__" = some (some (.builtin "BaseException.__getattribute__")))
    (xgg_BadKind : PySem.W.findIn K (.ref C_BadKind) "__getattr__" = some none)
    (xic_BadKind : PySem.W.findIn K (.ref C_BadKind) "__init__" = some (some (.ref i_BadKind)))
    (xtc_BadKind : PySem.W.typeIn K (.ref i_BadKind) = some (.type "function"))
    (xkc_BadKind : PySem.W.keepIn K (.ref C_BadKind) = true)
    (xex_BadKind : PySem.W.subIn K (.ref C_BadKind) (.type "BaseException") = some true)
    (xty_BadKind : PySem.W.typeIn K (.ref C_BadKind) = some (.type "type"))
    (xhd_BadKind : PySem.W.hasDictIn K C_BadKind = true)
    (xsu_BadKind : PySem.W.ks_superIn K C_BadKind C_BadKind "__init__" = some (some (.builtin "ValueError.__init__")))
    (xsv_BadKind : PySem.W.subIn K (.ref C_BadKind) (.type "ValueError") = some true)
    (xmr_BadKind : PySem.W.mroIn K C_BadKind (.ref C_BadKind) = some true)
    (xst_BadKind : PySem.W.nsIn K PySem.cStatics "thirdparty.any" = some none)
    (xms_BadKind : PySem.W.nsIn K mainGlobals "super" = some none)
    (xht_BadKind : (l.prog.main.scope.names.lookup ("super" : Str)).isSome = false)
    (xno_BadKind : PySem.W.findIn K (.ref C_BadKind) "by" = some none)
    (xli_BadKind : K.lookup i_BadKind = some ⟨oc_BadKind, od_BadKind, .func (PySem.W.ksFn "__init__" "BadKind.__init__" (defArgs (inClass (top 11) 0)) (defBody (inClass (top 11) 0)) (defScope (inClass (top 11) 0)) .none kV_BadKind doc_BadKind pm_BadKind an_BadKind (.ref cda_BadKind) ct_BadKind cc_BadKind), osl_BadKind⟩)
    (xci_BadKind : PySem.W.codeIn K (.ref cda_BadKind) "BadKind.__init__" = true)
    (xcd_BadKind : K.lookup cda_BadKind = some ⟨ccl_BadKind, cdd_BadKind, .fields vs_BadKind, ccs_BadKind⟩)
    (xv2_BadKind : vs_BadKind[2]? = some (.str file_BadKind tf_BadKind))
    (xfi_BadKind : ((l.prog.main.file : Str) == file_BadKind) = true)
    (xcc_BadKind : K.lookup cc_BadKind = some ⟨cl_BadKind, cld_BadKind, .cell (some (.ref C_BadKind)), csl_BadKind⟩)
    (xte_BadKind : PySem.W.exmOne K (.ref C_BadKind) (.ref C_BadKind) = some true)
    (xg_BadLoop : PySem.W.nsIn K mainGlobals "BadLoop" = some (some (.ref C_BadLoop)))
    (xc_BadLoop : K.lookup C_BadLoop = some (excClassObj nm_BadLoop q_BadLoop C_BadLoop N_BadLoop bs_BadLoop (.ref B_BadLoop :: PySem.SupX.veTl) true sn_BadLoop sub_BadLoop ab_BadLoop col_BadLoop dd_BadLoop k0_BadLoop k1_BadLoop k2_BadLoop k3_BadLoop k5_BadLoop "ValueError.__new__"))
    (xsa_BadLoop : PySem.W.findIn K (.ref C_BadLoop) "__setattr__" = some (some (.builtin "object.__setattr__")))
    (xga_BadLoop : PySem.W.findIn K (.ref C_BadLoop) "__getattribute__" = some (some (.builtin "BaseException.__getattribute__")))
    (xgg_BadLoop : PySem.W.findIn K (.ref C_BadLoop) "__getattr__" = some none)
    (xic_BadLoop : PySem.W.findIn K (.ref C_BadLoop) "__init__" = some (some (.ref i_BadLoop)))
    (xtc_BadLoop : PySem.W.typeIn K (.ref i_BadLoop) = some (.type "function"))
    (xkc_BadLoop : PySem.W.keepIn K (.ref C_BadLoop) = true)
    (xex_BadLoop : PySem.W.subIn K (.ref C_BadLoop) (.type "BaseException") = some true)
    (xty_BadLoop : PySem.W.typeIn K (.ref C_BadLoop) = some (.type "type"))
    (xhd_BadLoop : PySem.W.hasDictIn K C_BadLoop = true)
    (xsu_BadLoop : PySem.W.ks_superIn K C_BadLoop C_BadLoop "__init__" = some (some (.builtin "ValueError.__init__")))
    (xsv_BadLoop : PySem.W.subIn K (.ref C_BadLoop) (.type "ValueError") = some true)
    (xmr_BadLoop : PySem.W.mroIn K C_BadLoop (.ref C_BadLoop) = some true)
    (xst_BadLoop : PySem.W.nsIn K PySem.cStatics "thirdparty.any" = some none)
    (xms_BadLoop : PySem.W.nsIn K mainGlobals "super" = some none)
    (xht_BadLoop : (l.prog.main.scope.names.lookup ("super" : Str)).isSome = false)
    (xno_BadLoop : PySem.W.findIn K (.ref C_BadLoop) "line" = some none)
    (xli_BadLoop : K.lookup i_BadLoop = some ⟨oc_BadLoop, od_BadLoop, .func (PySem.W.ksFn "__init__" "BadLoop.__init__" (defArgs (inClass (top 6) 0)) (defBody (inClass (top 6) 0)) (defScope (inClass (top 6) 0)) .none kV_BadLoop doc_BadLoop pm_BadLoop an_BadLoop (.ref cda_BadLoop) ct_BadLoop cc_BadLoop), osl_BadLoop⟩)
    (xci_BadLoop : PySem.W.codeIn K (.ref cda_BadLoop) "BadLoop.__init__" = true)
    (xcd_BadLoop : K.lookup cda_BadLoop = some ⟨ccl_BadLoop, cdd_BadLoop, .fields vs_BadLoop, ccs_BadLoop⟩)
    (xv2_BadLoop : vs_BadLoop[2]? = some (.str file_BadLoop tf_BadLoop))
    (xfi_BadLoop : ((l.prog.main.file : Str) == file_BadLoop) = true)
    (xcc_BadLoop : K.lookup cc_BadLoop = some ⟨cl_BadLoop, cld_BadLoop, .cell (some (.ref C_BadLoop)), csl_BadLoop⟩)
    (xte_BadLoop : PySem.W.exmOne K (.ref C_BadLoop) (.ref C_BadLoop) = some true)
    (xg_BadNumber : PySem.W.nsIn K mainGlobals "BadNumber" = some (some (.ref C_BadNumber)))
    (xc_BadNumber : K.lookup C_BadNumber = some (excClassObj nm_BadNumber q_BadNumber C_BadNumber N_BadNumber bs_BadNumber (.ref B_BadNumber :: PySem.SupX.veTl) true sn_BadNumber sub_BadNumber ab_BadNumber col_BadNumber dd_BadNumber k0_BadNumber k1_BadNumber k2_BadNumber k3_BadNumber k5_BadNumber "ValueError.__new__"))
    (xsa_BadNumber : PySem.W.findIn K (.ref C_BadNumber) "__setattr__" = some (some (.builtin "object.__setattr__")))
    (xga_BadNumber : PySem.W.findIn K (.ref C_BadNumber) "__getattribute__" = some (some (.builtin "BaseException.__getattribute__")))
    (xgg_BadNumber : PySem.W.findIn K (.ref C_BadNumber) "__getattr__" = some none)
    (xic_BadNumber : PySem.W.findIn K (.ref C_BadNumber) "__init__" = some (some (.ref i_BadNumber)))
    (xtc_BadNumber : PySem.W.typeIn K (.ref i_BadNumber) = some (.type "function"))
    (xkc_BadNumber : PySem.W.keepIn K (.ref C_BadNumber) = true)
    (xex_BadNumber : PySem.W.subIn K (.ref C_BadNumber) (.type "BaseException") = some true)
    (xty_BadNumber : PySem.W.typeIn K (.ref C_BadNumber) = some (.type "type"))
    (xhd_BadNumber : PySem.W.hasDictIn K C_BadNumber = true)
    (xsu_BadNumber : PySem.W.ks_superIn K C_BadNumber C_BadNumber "__init__" = some (some (.builtin "ValueError.__init__")))
    (xsv_BadNumber : PySem.W.subIn K (.ref C_BadNumber) (.type "ValueError") = some true)
    (xmr_BadNumber : PySem.W.mroIn K C_BadNumber (.ref C_BadNumber) = some true)
    (xst_BadNumber : PySem.W.nsIn K PySem.cStatics "thirdparty.any" = some none)
    (xms_BadNumber : PySem.W.nsIn K mainGlobals "super" = some none)
    (xht_BadNumber : (l.prog.main.scope.names.lookup ("super" : Str)).isSome = false)
    (xno_BadNumber : PySem.W.findIn K (.ref C_BadNumber) "number" = some none)
    (xli_BadNumber : K.lookup i_BadNumber = some ⟨oc_BadNumber, od_BadNumber, .func (PySem.W.ksFn "__init__" "BadNumber.__init__" (defArgs (inClass (top 2) 0)) (defBody (inClass (top 2) 0)) (defScope (inClass (top 2) 0)) .none kV_BadNumber doc_BadNumber pm_BadNumber an_BadNumber (.ref cda_BadNumber) ct_BadNumber cc_BadNumber), osl_BadNumber⟩)
    (xci_BadNumber : PySem.W.codeIn K (.ref cda_BadNumber) "BadNumber.__init__" = true)
    (xcd_BadNumber : K.lookup cda_BadNumber = some ⟨ccl_BadNumber, cdd_BadNumber, .fields vs_BadNumber, ccs_BadNumber⟩)
    (xv2_BadNumber : vs_BadNumber[2]? = some (.str file_BadNumber tf_BadNumber))
    (xfi_BadNumber : ((l.prog.main.file : Str) == file_BadNumber) = true)
    (xcc_BadNumber : K.lookup cc_BadNumber = some ⟨cl_BadNumber, cld_BadNumber, .cell (some (.ref C_BadNumber)), csl_BadNumber⟩)
    (xte_BadNumber : PySem.W.exmOne K (.ref C_BadNumber) (.ref C_BadNumber) = some true)
    (xg_BadRow : PySem.W.nsIn K mainGlobals "BadRow" = some (some (.ref C_BadRow)))
    (xc_BadRow : K.lookup C_BadRow = some (excClassObj nm_BadRow q_BadRow C_BadRow N_BadRow bs_BadRow (.ref B_BadRow :: PySem.SupX.veTl) true sn_BadRow sub_BadRow ab_BadRow col_BadRow dd_BadRow k0_BadRow k1_BadRow k2_BadRow k3_BadRow k5_BadRow "ValueError.__new__"))
    (xsa_BadRow : PySem.W.findIn K (.ref C_BadRow) "__setattr__" = some (some (.builtin "object.__setattr__")))
    (xga_BadRow : PySem.W.findIn K (.ref C_BadRow) "__getattribute__" = some (some (.builtin "BaseException.__getattribute__")))
    (xgg_BadRow : PySem.W.findIn K (.ref C_BadRow) "__getattr__" = some none)
    (xic_BadRow : PySem.W.findIn K (.ref C_BadRow) "__init__" = some (some (.ref i_BadRow)))
    (xtc_BadRow : PySem.W.typeIn K (.ref i_BadRow) = some (.type "function"))
    (xkc_BadRow : PySem.W.keepIn K (.ref C_BadRow) = true)
    (xex_BadRow : PySem.W.subIn K (.ref C_BadRow) (.type "BaseException") = some true)
    (xty_BadRow : PySem.W.typeIn K (.ref C_BadRow) = some (.type "type"))
    (xhd_BadRow : PySem.W.hasDictIn K C_BadRow = true)
    (xsu_BadRow : PySem.W.ks_superIn K C_BadRow C_BadRow "__init__" = some (some (.builtin "ValueError.__init__")))
    (xsv_BadRow : PySem.W.subIn K (.ref C_BadRow) (.type "ValueError") = some true)
    (xmr_BadRow : PySem.W.mroIn K C_BadRow (.ref C_BadRow) = some true)
    (xst_BadRow : PySem.W.nsIn K PySem.cStatics "thirdparty.any" = some none)
    (xms_BadRow : PySem.W.nsIn K mainGlobals "super" = some none)
    (xht_BadRow : (l.prog.main.scope.names.lookup ("super" : Str)).isSome = false)
    (xli_BadRow : K.lookup i_BadRow = some ⟨oc_BadRow, od_BadRow, .func (PySem.W.ksFn "__init__" "BadRow.__init__" (defArgs (inClass (top 4) 0)) (defBody (inClass (top 4) 0)) (defScope (inClass (top 4) 0)) .none kV_BadRow doc_BadRow pm_BadRow an_BadRow (.ref cda_BadRow) ct_BadRow cc_BadRow), osl_BadRow⟩)
    (xci_BadRow : PySem.W.codeIn K (.ref cda_BadRow) "BadRow.__init__" = true)
    (xcd_BadRow : K.lookup cda_BadRow = some ⟨ccl_BadRow, cdd_BadRow, .fields vs_BadRow, ccs_BadRow⟩)
    (xv2_BadRow : vs_BadRow[2]? = some (.str file_BadRow tf_BadRow))
    (xfi_BadRow : ((l.prog.main.file : Str) == file_BadRow) = true)
    (xcc_BadRow : K.lookup cc_BadRow = some ⟨cl_BadRow, cld_BadRow, .cell (some (.ref C_BadRow)), csl_BadRow⟩)
    (xte_BadRow : PySem.W.exmOne K (.ref C_BadRow) (.ref C_BadRow) = some true)
    (xg_BadTable : PySem.W.nsIn K mainGlobals "BadTable" = some (some (.ref C_BadTable)))
    (xc_BadTable : K.lookup C_BadTable = some (excClassObj nm_BadTable q_BadTable C_BadTable N_BadTable bs_BadTable (.ref B_BadTable :: PySem.SupX.veTl) true sn_BadTable sub_BadTable ab_BadTable col_BadTable dd_BadTable k0_BadTable k1_BadTable k2_BadTable k3_BadTable k5_BadTable "ValueError.__new__"))
    (xsa_BadTable : PySem.W.findIn K (.ref C_BadTable) "__setattr__" = some (some (.builtin "object.__setattr__")))
    (xga_BadTable : PySem.W.findIn K (.ref C_BadTable) "__getattribute__" = some (some (.builtin "BaseException.__getattribute__")))
    (xgg_BadTable : PySem.W.findIn K (.ref C_BadTable) "__getattr__" = some none)
    (xic_BadTable : PySem.W.findIn K (.ref C_BadTable) "__init__" = some (some (.ref i_BadTable)))
    (xtc_BadTable : PySem.W.typeIn K (.ref i_BadTable) = some (.type "function"))
    (xkc_BadTable : PySem.W.keepIn K (.ref C_BadTable) = true)
    (xex_BadTable : PySem.W.subIn K (.ref C_BadTable) (.type "BaseException") = some true)
    (xty_BadTable : PySem.W.typeIn K (.ref C_BadTable) = some (.type "type"))
    (xhd_BadTable : PySem.W.hasDictIn K C_BadTable = true)
    (xsu_BadTable : PySem.W.ks_superIn K C_BadTable C_BadTable "__init__" = some (some (.builtin "ValueError.__init__")))
    (xsv_BadTable : PySem.W.subIn K (.ref C_BadTable) (.type "ValueError") = some true)
    (xmr_BadTable : PySem.W.mroIn K C_BadTable (.ref C_BadTable) = some true)
    (xst_BadTable : PySem.W.nsIn K PySem.cStatics "thirdparty.any" = some none)
    (xms_BadTable : PySem.W.nsIn K mainGlobals "super" = some none)
    (xht_BadTable : (l.prog.main.scope.names.lookup ("super" : Str)).isSome = false)
    (xli_BadTable : K.lookup i_BadTable = some ⟨oc_BadTable, od_BadTable, .func (PySem.W.ksFn "__init__" "BadTable.__init__" (defArgs (inClass (top 10) 0)) (defBody (inClass (top 10) 0)) (defScope (inClass (top 10) 0)) .none kV_BadTable doc_BadTable pm_BadTable an_BadTable (.ref cda_BadTable) ct_BadTable cc_BadTable), osl_BadTable⟩)
    (xci_BadTable : PySem.W.codeIn K (.ref cda_BadTable) "BadTable.__init__" = true)
    (xcd_BadTable : K.lookup cda_BadTable = some ⟨ccl_BadTable, cdd_BadTable, .fields vs_BadTable, ccs_BadTable⟩)
    (xv2_BadTable : vs_BadTable[2]? = some (.str file_BadTable tf_BadTable))
    (xfi_BadTable : ((l.prog.main.file : Str) == file_BadTable) = true)
    (xcc_BadTable : K.lookup cc_BadTable = some ⟨cl_BadTable, cld_BadTable, .cell (some (.ref C_BadTable)), csl_BadTable⟩)
    (xte_BadTable : PySem.W.exmOne K (.ref C_BadTable) (.ref C_BadTable) = some true)
    (xg_BadTolerance : PySem.W.nsIn K mainGlobals "BadTolerance" = some (some (.ref C_BadTolerance)))
    (xc_BadTolerance : K.lookup C_BadTolerance = some (excClassObj nm_BadTolerance q_BadTolerance C_BadTolerance N_BadTolerance bs_BadTolerance (.ref B_BadTolerance :: PySem.SupX.veTl) true sn_BadTolerance sub_BadTolerance ab_BadTolerance col_BadTolerance dd_BadTolerance k0_BadTolerance k1_BadTolerance k2_BadTolerance k3_BadTolerance k5_BadTolerance "ValueError.__new__"))
    (xsa_BadTolerance : PySem.W.findIn K (.ref C_BadTolerance) "__setattr__" = some (some (.builtin "object.__setattr__")))
    (xga_BadTolerance : PySem.W.findIn K (.ref C_BadTolerance) "__getattribute__" = some (some (.builtin "BaseException.__getattribute__")))
    (xgg_BadTolerance : PySem.W.findIn K (.ref C_BadTolerance) "__getattr__" = some none)
    (xic_BadTolerance : PySem.W.findIn K (.ref C_BadTolerance) "__init__" = some (some (.ref i_BadTolerance)))
    (xtc_BadTolerance : PySem.W.typeIn K (.ref i_BadTolerance) = some (.type "function"))
    (xkc_BadTolerance : PySem.W.keepIn K (.ref C_BadTolerance) = true)
    (xex_BadTolerance : PySem.W.subIn K (.ref C_BadTolerance) (.type "BaseException") = some true)
    (xty_BadTolerance : PySem.W.typeIn K (.ref C_BadTolerance) = some (.type "type"))
    (xhd_BadTolerance : PySem.W.hasDictIn K C_BadTolerance = true)
    (xsu_BadTolerance : PySem.W.ks_superIn K C_BadTolerance C_BadTolerance "__init__" = some (some (.builtin "ValueError.__init__")))
    (xsv_BadTolerance : PySem.W.subIn K (.ref C_BadTolerance) (.type "ValueError") = some true)
    (xmr_BadTolerance : PySem.W.mroIn K C_BadTolerance (.ref C_BadTolerance) = some true)
    (xst_BadTolerance : PySem.W.nsIn K PySem.cStatics "thirdparty.any" = some none)
    (xms_BadTolerance : PySem.W.nsIn K mainGlobals "super" = some none)
    (xht_BadTolerance : (l.prog.main.scope.names.lookup ("super" : Str)).isSome = false)
    (xno_BadTolerance : PySem.W.findIn K (.ref C_BadTolerance) "tolerance" = some none)
    (xli_BadTolerance : K.lookup i_BadTolerance = some ⟨oc_BadTolerance, od_BadTolerance, .func (PySem.W.ksFn "__init__" "BadTolerance.__init__" (defArgs (inClass (top 3) 0)) (defBody (inClass (top 3) 0)) (defScope (inClass (top 3) 0)) .none kV_BadTolerance doc_BadTolerance pm_BadTolerance an_BadTolerance (.ref cda_BadTolerance) ct_BadTolerance cc_BadTolerance), osl_BadTolerance⟩)
    (xci_BadTolerance : PySem.W.codeIn K (.ref cda_BadTolerance) "BadTolerance.__init__" = true)
    (xcd_BadTolerance : K.lookup cda_BadTolerance = some ⟨ccl_BadTolerance, cdd_BadTolerance, .fields vs_BadTolerance, ccs_BadTolerance⟩)
    (xv2_BadTolerance : vs_BadTolerance[2]? = some (.str file_BadTolerance tf_BadTolerance))
    (xfi_BadTolerance : ((l.prog.main.file : Str) == file_BadTolerance) = true)
    (xcc_BadTolerance : K.lookup cc_BadTolerance = some ⟨cl_BadTolerance, cld_BadTolerance, .cell (some (.ref C_BadTolerance)), csl_BadTolerance⟩)
    (xte_BadTolerance : PySem.W.exmOne K (.ref C_BadTolerance) (.ref C_BadTolerance) = some true)
    (xg_BadWatch : PySem.W.nsIn K mainGlobals "BadWatch" = some (some (.ref C_BadWatch)))
    (xc_BadWatch : K.lookup C_BadWatch = some (excClassObj nm_BadWatch q_BadWatch C_BadWatch N_BadWatch bs_BadWatch (.ref B_BadWatch :: PySem.SupX.veTl) true sn_BadWatch sub_BadWatch ab_BadWatch col_BadWatch dd_BadWatch k0_BadWatch k1_BadWatch k2_BadWatch k3_BadWatch k5_BadWatch "ValueError.__new__"))
    (xsa_BadWatch : PySem.W.findIn K (.ref C_BadWatch) "__setattr__" = some (some (.builtin "object.__setattr__")))
    (xga_BadWatch : PySem.W.findIn K (.ref C_BadWatch) "__getattribute__" = some (some (.builtin "BaseException.__getattribute__")))
    (xgg_BadWatch : PySem.W.findIn K (.ref C_BadWatch) "__getattr__" = some none)
    (xic_BadWatch : PySem.W.findIn K (.ref C_BadWatch) "__init__" = some (some (.ref i_BadWatch)))
    (xtc_BadWatch : PySem.W.typeIn K (.ref i_BadWatch) = some (.type "function"))
    (xkc_BadWatch : PySem.W.keepIn K (.ref C_BadWatch) = true)
    (xex_BadWatch : PySem.W.subIn K (.ref C_BadWatch) (.type "BaseException") = some true)
    (xty_BadWatch : PySem.W.typeIn K (.ref C_BadWatch) = some (.type "type"))
    (xhd_BadWatch : PySem.W.hasDictIn K C_BadWatch = true)
    (xsu_BadWatch : PySem.W.ks_superIn K C_BadWatch C_BadWatch "__init__" = some (some (.builtin "ValueError.__init__")))
    (xsv_BadWatch : PySem.W.subIn K (.ref C_BadWatch) (.type "ValueError") = some true)
    (xmr_BadWatch : PySem.W.mroIn K C_BadWatch (.ref C_BadWatch) = some true)
    (xst_BadWatch : PySem.W.nsIn K PySem.cStatics "thirdparty.any" = some none)
    (xms_BadWatch : PySem.W.nsIn K mainGlobals "super" = some none)
    (xht_BadWatch : (l.prog.main.scope.names.lookup ("super" : Str)).isSome = false)
    (xno_BadWatch : PySem.W.findIn K (.ref C_BadWatch) "line" = some none)
    (xli_BadWatch : K.lookup i_BadWatch = some ⟨oc_BadWatch, od_BadWatch, .func (PySem.W.ksFn "__init__" "BadWatch.__init__" (defArgs (inClass (top 12) 0)) (defBody (inClass (top 12) 0)) (defScope (inClass (top 12) 0)) .none kV_BadWatch doc_BadWatch pm_BadWatch an_BadWatch (.ref cda_BadWatch) ct_BadWatch cc_BadWatch), osl_BadWatch⟩)
    (xci_BadWatch : PySem.W.codeIn K (.ref cda_BadWatch) "BadWatch.__init__" = true)
    (xcd_BadWatch : K.lookup cda_BadWatch = some ⟨ccl_BadWatch, cdd_BadWatch, .fields vs_BadWatch, ccs_BadWatch⟩)
    (xv2_BadWatch : vs_BadWatch[2]? = some (.str file_BadWatch tf_BadWatch))
    (xfi_BadWatch : ((l.prog.main.file : Str) == file_BadWatch) = true)
    (xcc_BadWatch : K.lookup cc_BadWatch = some ⟨cl_BadWatch, cld_BadWatch, .cell (some (.ref C_BadWatch)), csl_BadWatch⟩)
    (xte_BadWatch : PySem.W.exmOne K (.ref C_BadWatch) (.ref C_BadWatch) = some true)
    (xg_UnknownState : PySem.W.nsIn K mainGlobals "UnknownState" = some (some (.ref C_UnknownState)))
    (xc_UnknownState : K.lookup C_UnknownState = some (excClassObj nm_UnknownState q_UnknownState C_UnknownState N_UnknownState bs_UnknownState (.ref B_UnknownState :: PySem.SupX.veTl) true sn_UnknownState sub_UnknownState ab_UnknownState col_UnknownState dd_UnknownState k0_UnknownState k1_UnknownState k2_UnknownState k3_UnknownState k5_UnknownState "ValueError.__new__"))
    (xsa_UnknownState : PySem.W.findIn K (.ref C_UnknownState) "__setattr__" = some (some (.builtin "object.__setattr__")))
    (xga_UnknownState : PySem.W.findIn K (.ref C_UnknownState) "__getattribute__" = some (some (.builtin "BaseException.__getattribute__")))
    (xgg_UnknownState : PySem.W.findIn K (.ref C_UnknownState) "__getattr__" = some none)
    (xic_UnknownState : PySem.W.findIn K (.ref C_UnknownState) "__init__" = some (some (.ref i_UnknownState)))
    (xtc_UnknownState : PySem.W.typeIn K (.ref i_UnknownState) = some (.type "function"))
    (xkc_UnknownState : PySem.W.keepIn K (.ref C_UnknownState) = true)
    (xex_UnknownState : PySem.W.subIn K (.ref C_UnknownState) (.type "BaseException") = some true)
    (xty_UnknownState : PySem.W.typeIn K (.ref C_UnknownState) = some (.type "type"))
    (xhd_UnknownState : PySem.W.hasDictIn K C_UnknownState = true)
    (xsu_UnknownState : PySem.W.ks_superIn K C_UnknownState C_UnknownState "__init__" = some (some (.builtin "ValueError.__init__")))
    (xsv_UnknownState : PySem.W.subIn K (.ref C_UnknownState) (.type "ValueError") = some true)
    (xmr_UnknownState : PySem.W.mroIn K C_UnknownState (.ref C_UnknownState) = some true)
    (xst_UnknownState : PySem.W.nsIn K PySem.cStatics "thirdparty.any" = some none)
    (xms_UnknownState : PySem.W.nsIn K mainGlobals "super" = some none)
    (xht_UnknownState : (l.prog.main.scope.names.lookup ("super" : Str)).isSome = false)
    (xno_UnknownState : PySem.W.findIn K (.ref C_UnknownState) "state" = some none)
    (xli_UnknownState : K.lookup i_UnknownState = some ⟨oc_UnknownState, od_UnknownState, .func (PySem.W.ksFn "__init__" "UnknownState.__init__" (defArgs (inClass (top 7) 0)) (defBody (inClass (top 7) 0)) (defScope (inClass (top 7) 0)) .none kV_UnknownState doc_UnknownState pm_UnknownState an_UnknownState (.ref cda_UnknownState) ct_UnknownState cc_UnknownState), osl_UnknownState⟩)
    (xci_UnknownState : PySem.W.codeIn K (.ref cda_UnknownState) "UnknownState.__init__" = true)
    (xcd_UnknownState : K.lookup cda_UnknownState = some ⟨ccl_UnknownState, cdd_UnknownState, .fields vs_UnknownState, ccs_UnknownState⟩)
    (xv2_UnknownState : vs_UnknownState[2]? = some (.str file_UnknownState tf_UnknownState))
    (xfi_UnknownState : ((l.prog.main.file : Str) == file_UnknownState) = true)
    (xcc_UnknownState : K.lookup cc_UnknownState = some ⟨cl_UnknownState, cld_UnknownState, .cell (some (.ref C_UnknownState)), csl_UnknownState⟩)
    (xte_UnknownState : PySem.W.exmOne K (.ref C_UnknownState) (.ref C_UnknownState) = some true)
    (xne_BadAnswer_BadGroup : PySem.W.exmOne K (.ref C_BadAnswer) (.ref C_BadGroup) = some false)
    (xne_BadAnswer_BadJoint : PySem.W.exmOne K (.ref C_BadAnswer) (.ref C_BadJoint) = some false)
    (xne_BadAnswer_BadKind : PySem.W.exmOne K (.ref C_BadAnswer) (.ref C_BadKind) = some false)
    (xne_BadAnswer_BadLoop : PySem.W.exmOne K (.ref C_BadAnswer) (.ref C_BadLoop) = some false)
    (xne_BadAnswer_BadNumber : PySem.W.exmOne K (.ref C_BadAnswer) (.ref C_BadNumber) = some false)
    (xne_BadAnswer_BadRow : PySem.W.exmOne K (.ref C_BadAnswer) (.ref C_BadRow) = some false)
    (xne_BadAnswer_BadTable : PySem.W.exmOne K (.ref C_BadAnswer) (.ref C_BadTable) = some false)
    (xne_BadAnswer_BadTolerance : PySem.W.exmOne K (.ref C_BadAnswer) (.ref C_BadTolerance) = some false)
    (xne_BadAnswer_BadWatch : PySem.W.exmOne K (.ref C_BadAnswer) (.ref C_BadWatch) = some false)
    (xne_BadAnswer_UnknownState : PySem.W.exmOne K (.ref C_BadAnswer) (.ref C_UnknownState) = some false)
    (xne_BadGroup_BadAnswer : PySem.W.exmOne K (.ref C_BadGroup) (.ref C_BadAnswer) = some false)
    (xne_BadGroup_BadJoint : PySem.W.exmOne K (.ref C_BadGroup) (.ref C_BadJoint) = some false)
    (xne_BadGroup_BadKind : PySem.W.exmOne K (.ref C_BadGroup) (.ref C_BadKind) = some false)
    (xne_BadGroup_BadLoop : PySem.W.exmOne K (.ref C_BadGroup) (.ref C_BadLoop) = some false)
    (xne_BadGroup_BadNumber : PySem.W.exmOne K (.ref C_BadGroup) (.ref C_BadNumber) = some false)
    (xne_BadGroup_BadRow : PySem.W.exmOne K (.ref C_BadGroup) (.ref C_BadRow) = some false)
    (xne_BadGroup_BadTable : PySem.W.exmOne K (.ref C_BadGroup) (.ref C_BadTable) = some false)
    (xne_BadGroup_BadTolerance : PySem.W.exmOne K (.ref C_BadGroup) (.ref C_BadTolerance) = some false)
    (xne_BadGroup_BadWatch : PySem.W.exmOne K (.ref C_BadGroup) (.ref C_BadWatch) = some false)
    (xne_BadGroup_UnknownState : PySem.W.exmOne K (.ref C_BadGroup) (.ref C_UnknownState) = some false)
    (xne_BadJoint_BadAnswer : PySem.W.exmOne K (.ref C_BadJoint) (.ref C_BadAnswer) = some false)
    (xne_BadJoint_BadGroup : PySem.W.exmOne K (.ref C_BadJoint) (.ref C_BadGroup) = some false)
    (xne_BadJoint_BadKind : PySem.W.exmOne K (.ref C_BadJoint) (.ref C_BadKind) = some false)
    (xne_BadJoint_BadLoop : PySem.W.exmOne K (.ref C_BadJoint) (.ref C_BadLoop) = some false)
    (xne_BadJoint_BadNumber : PySem.W.exmOne K (.ref C_BadJoint) (.ref C_BadNumber) = some false)
    (xne_BadJoint_BadRow : PySem.W.exmOne K (.ref C_BadJoint) (.ref C_BadRow) = some false)
    (xne_BadJoint_BadTable : PySem.W.exmOne K (.ref C_BadJoint) (.ref C_BadTable) = some false)
    (xne_BadJoint_BadTolerance : PySem.W.exmOne K (.ref C_BadJoint) (.ref C_BadTolerance) = some false)
    (xne_BadJoint_BadWatch : PySem.W.exmOne K (.ref C_BadJoint) (.ref C_BadWatch) = some false)
    (xne_BadJoint_UnknownState : PySem.W.exmOne K (.ref C_BadJoint) (.ref C_UnknownState) = some false)
    (xne_BadKind_BadAnswer : PySem.W.exmOne K (.ref C_BadKind) (.ref C_BadAnswer) = some false)
    (xne_BadKind_BadGroup : PySem.W.exmOne K (.ref C_BadKind) (.ref C_BadGroup) = some false)
    (xne_BadKind_BadJoint : PySem.W.exmOne K (.ref C_BadKind) (.ref C_BadJoint) = some false)
    (xne_BadKind_BadLoop : PySem.W.exmOne K (.ref C_BadKind) (.ref C_BadLoop) = some false)
    (xne_BadKind_BadNumber : PySem.W.exmOne K (.ref C_BadKind) (.ref C_BadNumber) = some false)
    (xne_BadKind_BadRow : PySem.W.exmOne K (.ref C_BadKind) (.ref C_BadRow) = some false)
    (xne_BadKind_BadTable : PySem.W.exmOne K (.ref C_BadKind) (.ref C_BadTable) = some false)
    (xne_BadKind_BadTolerance : PySem.W.exmOne K (.ref C_BadKind) (.ref C_BadTolerance) = some false)
    (xne_BadKind_BadWatch : PySem.W.exmOne K (.ref C_BadKind) (.ref C_BadWatch) = some false)
    (xne_BadKind_UnknownState : PySem.W.exmOne K (.ref C_BadKind) (.ref C_UnknownState) = some false)
    (xne_BadLoop_BadAnswer : PySem.W.exmOne K (.ref C_BadLoop) (.ref C_BadAnswer) = some false)
    (xne_BadLoop_BadGroup : PySem.W.exmOne K (.ref C_BadLoop) (.ref C_BadGroup) = some false)
    (xne_BadLoop_BadJoint : PySem.W.exmOne K (.ref C_BadLoop) (.ref C_BadJoint) = some false)
    (xne_BadLoop_BadKind : PySem.W.exmOne K (.ref C_BadLoop) (.ref C_BadKind) = some false)
    (xne_BadLoop_BadNumber : PySem.W.exmOne K (.ref C_BadLoop) (.ref C_BadNumber) = some false)
    (xne_BadLoop_BadRow : PySem.W.exmOne K (.ref C_BadLoop) (.ref C_BadRow) = some false)
    (xne_BadLoop_BadTable : PySem.W.exmOne K (.ref C_BadLoop) (.ref C_BadTable) = some false)
    (xne_BadLoop_BadTolerance : PySem.W.exmOne K (.ref C_BadLoop) (.ref C_BadTolerance) = some false)
    (xne_BadLoop_BadWatch : PySem.W.exmOne K (.ref C_BadLoop) (.ref C_BadWatch) = some false)
    (xne_BadLoop_UnknownState : PySem.W.exmOne K (.ref C_BadLoop) (.ref C_UnknownState) = some false)
    (xne_BadNumber_BadAnswer : PySem.W.exmOne K (.ref C_BadNumber) (.ref C_BadAnswer) = some false)
    (xne_BadNumber_BadGroup : PySem.W.exmOne K (.ref C_BadNumber) (.ref C_BadGroup) = some false)
    (xne_BadNumber_BadJoint : PySem.W.exmOne K (.ref C_BadNumber) (.ref C_BadJoint) = some false)
    (xne_BadNumber_BadKind : PySem.W.exmOne K (.ref C_BadNumber) (.ref C_BadKind) = some false)
    (xne_BadNumber_BadLoop : PySem.W.exmOne K (.ref C_BadNumber) (.ref C_BadLoop) = some false)
    (xne_BadNumber_BadRow : PySem.W.exmOne K (.ref C_BadNumber) (.ref C_BadRow) = some false)
    (xne_BadNumber_BadTable : PySem.W.exmOne K (.ref C_BadNumber) (.ref C_BadTable) = some false)
    (xne_BadNumber_BadTolerance : PySem.W.exmOne K (.ref C_BadNumber) (.ref C_BadTolerance) = some false)
    (xne_BadNumber_BadWatch : PySem.W.exmOne K (.ref C_BadNumber) (.ref C_BadWatch) = some false)
    (xne_BadNumber_UnknownState : PySem.W.exmOne K (.ref C_BadNumber) (.ref C_UnknownState) = some false)
    (xne_BadRow_BadAnswer : PySem.W.exmOne K (.ref C_BadRow) (.ref C_BadAnswer) = some false)
    (xne_BadRow_BadGroup : PySem.W.exmOne K (.ref C_BadRow) (.ref C_BadGroup) = some false)
    (xne_BadRow_BadJoint : PySem.W.exmOne K (.ref C_BadRow) (.ref C_BadJoint) = some false)
    (xne_BadRow_BadKind : PySem.W.exmOne K (.ref C_BadRow) (.ref C_BadKind) = some false)
    (xne_BadRow_BadLoop : PySem.W.exmOne K (.ref C_BadRow) (.ref C_BadLoop) = some false)
    (xne_BadRow_BadNumber : PySem.W.exmOne K (.ref C_BadRow) (.ref C_BadNumber) = some false)
    (xne_BadRow_BadTable : PySem.W.exmOne K (.ref C_BadRow) (.ref C_BadTable) = some false)
    (xne_BadRow_BadTolerance : PySem.W.exmOne K (.ref C_BadRow) (.ref C_BadTolerance) = some false)
    (xne_BadRow_BadWatch : PySem.W.exmOne K (.ref C_BadRow) (.ref C_BadWatch) = some false)
    (xne_BadRow_UnknownState : PySem.W.exmOne K (.ref C_BadRow) (.ref C_UnknownState) = some false)
    (xne_BadTable_BadAnswer : PySem.W.exmOne K (.ref C_BadTable) (.ref C_BadAnswer) = some false)
    (xne_BadTable_BadGroup : PySem.W.exmOne K (.ref C_BadTable) (.ref C_BadGroup) = some false)
    (xne_BadTable_BadJoint : PySem.W.exmOne K (.ref C_BadTable) (.ref C_BadJoint) = some false)
    (xne_BadTable_BadKind : PySem.W.exmOne K (.ref C_BadTable) (.ref C_BadKind) = some false)
    (xne_BadTable_BadLoop : PySem.W.exmOne K (.ref C_BadTable) (.ref C_BadLoop) = some false)
    (xne_BadTable_BadNumber : PySem.W.exmOne K (.ref C_BadTable) (.ref C_BadNumber) = some false)
    (xne_BadTable_BadRow : PySem.W.exmOne K (.ref C_BadTable) (.ref C_BadRow) = some false)
    (xne_BadTable_BadTolerance : PySem.W.exmOne K (.ref C_BadTable) (.ref C_BadTolerance) = some false)
    (xne_BadTable_BadWatch : PySem.W.exmOne K (.ref C_BadTable) (.ref C_BadWatch) = some false)
    (xne_BadTable_UnknownState : PySem.W.exmOne K (.ref C_BadTable) (.ref C_UnknownState) = some false)
    (xne_BadTolerance_BadAnswer : PySem.W.exmOne K (.ref C_BadTolerance) (.ref C_BadAnswer) = some false)
    (xne_BadTolerance_BadGroup : PySem.W.exmOne K (.ref C_BadTolerance) (.ref C_BadGroup) = some false)
    (xne_BadTolerance_BadJoint : PySem.W.exmOne K (.ref C_BadTolerance) (.ref C_BadJoint) = some false)
    (xne_BadTolerance_BadKind : PySem.W.exmOne K (.ref C_BadTolerance) (.ref C_BadKind) = some false)
    (xne_BadTolerance_BadLoop : PySem.W.exmOne K (.ref C_BadTolerance) (.ref C_BadLoop) = some false)
    (xne_BadTolerance_BadNumber : PySem.W.exmOne K (.ref C_BadTolerance) (.ref C_BadNumber) = some false)
    (xne_BadTolerance_BadRow : PySem.W.exmOne K (.ref C_BadTolerance) (.ref C_BadRow) = some false)
    (xne_BadTolerance_BadTable : PySem.W.exmOne K (.ref C_BadTolerance) (.ref C_BadTable) = some false)
    (xne_BadTolerance_BadWatch : PySem.W.exmOne K (.ref C_BadTolerance) (.ref C_BadWatch) = some false)
    (xne_BadTolerance_UnknownState : PySem.W.exmOne K (.ref C_BadTolerance) (.ref C_UnknownState) = some false)
    (xne_BadWatch_BadAnswer : PySem.W.exmOne K (.ref C_BadWatch) (.ref C_BadAnswer) = some false)
    (xne_BadWatch_BadGroup : PySem.W.exmOne K (.ref C_BadWatch) (.ref C_BadGroup) = some false)
    (xne_BadWatch_BadJoint : PySem.W.exmOne K (.ref C_BadWatch) (.ref C_BadJoint) = some false)
    (xne_BadWatch_BadKind : PySem.W.exmOne K (.ref C_BadWatch) (.ref C_BadKind) = some false)
    (xne_BadWatch_BadLoop : PySem.W.exmOne K (.ref C_BadWatch) (.ref C_BadLoop) = some false)
    (xne_BadWatch_BadNumber : PySem.W.exmOne K (.ref C_BadWatch) (.ref C_BadNumber) = some false)
    (xne_BadWatch_BadRow : PySem.W.exmOne K (.ref C_BadWatch) (.ref C_BadRow) = some false)
    (xne_BadWatch_BadTable : PySem.W.exmOne K (.ref C_BadWatch) (.ref C_BadTable) = some false)
    (xne_BadWatch_BadTolerance : PySem.W.exmOne K (.ref C_BadWatch) (.ref C_BadTolerance) = some false)
    (xne_BadWatch_UnknownState : PySem.W.exmOne K (.ref C_BadWatch) (.ref C_UnknownState) = some false)
    (xne_UnknownState_BadAnswer : PySem.W.exmOne K (.ref C_UnknownState) (.ref C_BadAnswer) = some false)
    (xne_UnknownState_BadGroup : PySem.W.exmOne K (.ref C_UnknownState) (.ref C_BadGroup) = some false)
    (xne_UnknownState_BadJoint : PySem.W.exmOne K (.ref C_UnknownState) (.ref C_BadJoint) = some false)
    (xne_UnknownState_BadKind : PySem.W.exmOne K (.ref C_UnknownState) (.ref C_BadKind) = some false)
    (xne_UnknownState_BadLoop : PySem.W.exmOne K (.ref C_UnknownState) (.ref C_BadLoop) = some false)
    (xne_UnknownState_BadNumber : PySem.W.exmOne K (.ref C_UnknownState) (.ref C_BadNumber) = some false)
    (xne_UnknownState_BadRow : PySem.W.exmOne K (.ref C_UnknownState) (.ref C_BadRow) = some false)
    (xne_UnknownState_BadTable : PySem.W.exmOne K (.ref C_UnknownState) (.ref C_BadTable) = some false)
    (xne_UnknownState_BadTolerance : PySem.W.exmOne K (.ref C_UnknownState) (.ref C_BadTolerance) = some false)
    (xne_UnknownState_BadWatch : PySem.W.exmOne K (.ref C_UnknownState) (.ref C_BadWatch) = some false)
    (xg_Near : PySem.W.nsIn K mainGlobals "NearError" = some (some (.ref C_NearError)))
    (gn_x : PySem.W.specialIn K (.builtin "object.__class__") "__get__" = some (some (.builtin "getset_descriptor.__get__")))
    (gt_x : PySem.W.takesIn K (.builtin "object.__class__") = some true)
    (ca_BadNumber : PySem.W.findIn K (.ref C_BadNumber) "__class__" = some (some (.builtin "object.__class__")))
    (mo_BadNumber : PySem.W.mroIn K C_BadNumber (.type "object") = some true)
    (nr_BadNumber : PySem.W.exmOne K (.ref C_BadNumber) (.ref C_NearError) = some true)
    (kv_BadNumber : PySem.W.kitOne K (.ref C_BadNumber) (.type "ValueError") = some true)
    (ki_BadNumber_BadNumber : PySem.W.kitOne K (.ref C_BadNumber) (.ref C_BadNumber) = some true)
    (ki_BadNumber_BadTolerance : PySem.W.kitOne K (.ref C_BadNumber) (.ref C_BadTolerance) = some false)
    (ki_BadNumber_BadGroup : PySem.W.kitOne K (.ref C_BadNumber) (.ref C_BadGroup) = some false)
    (ki_BadNumber_BadLoop : PySem.W.kitOne K (.ref C_BadNumber) (.ref C_BadLoop) = some false)
    (ki_BadNumber_UnknownState : PySem.W.kitOne K (.ref C_BadNumber) (.ref C_UnknownState) = some false)
    (ki_BadNumber_BadAnswer : PySem.W.kitOne K (.ref C_BadNumber) (.ref C_BadAnswer) = some false)
    (ki_BadNumber_BadJoint : PySem.W.kitOne K (.ref C_BadNumber) (.ref C_BadJoint) = some false)
    (ki_BadNumber_BadKind : PySem.W.kitOne K (.ref C_BadNumber) (.ref C_BadKind) = some false)
    (ki_BadNumber_BadWatch : PySem.W.kitOne K (.ref C_BadNumber) (.ref C_BadWatch) = some false)
    (ki_BadNumber_BadRow : PySem.W.kitOne K (.ref C_BadNumber) (.ref C_BadRow) = some false)
    (ki_BadNumber_BadTable : PySem.W.kitOne K (.ref C_BadNumber) (.ref C_BadTable) = some false)
    (ca_BadTolerance : PySem.W.findIn K (.ref C_BadTolerance) "__class__" = some (some (.builtin "object.__class__")))
    (mo_BadTolerance : PySem.W.mroIn K C_BadTolerance (.type "object") = some true)
    (nr_BadTolerance : PySem.W.exmOne K (.ref C_BadTolerance) (.ref C_NearError) = some true)
    (kv_BadTolerance : PySem.W.kitOne K (.ref C_BadTolerance) (.type "ValueError") = some true)
    (ki_BadTolerance_BadNumber : PySem.W.kitOne K (.ref C_BadTolerance) (.ref C_BadNumber) = some false)
    (ki_BadTolerance_BadTolerance : PySem.W.kitOne K (.ref C_BadTolerance) (.ref C_BadTolerance) = some true)
    (ki_BadTolerance_BadGroup : PySem.W.kitOne K (.ref C_BadTolerance) (.ref C_BadGroup) = some false)
    (ki_BadTolerance_BadLoop : PySem.W.kitOne K (.ref C_BadTolerance) (.ref C_BadLoop) = some false)
    (ki_BadTolerance_UnknownState : PySem.W.kitOne K (.ref C_BadTolerance) (.ref C_UnknownState) = some false)
    (ki_BadTolerance_BadAnswer : PySem.W.kitOne K (.ref C_BadTolerance) (.ref C_BadAnswer) = some false)
    (ki_BadTolerance_BadJoint : PySem.W.kitOne K (.ref C_BadTolerance) (.ref C_BadJoint) = some false)
    (ki_BadTolerance_BadKind : PySem.W.kitOne K (.ref C_BadTolerance) (.ref C_BadKind) = some false)
    (ki_BadTolerance_BadWatch : PySem.W.kitOne K (.ref C_BadTolerance) (.ref C_BadWatch) = some false)
    (ki_BadTolerance_BadRow : PySem.W.kitOne K (.ref C_BadTolerance) (.ref C_BadRow) = some false)
    (ki_BadTolerance_BadTable : PySem.W.kitOne K (.ref C_BadTolerance) (.ref C_BadTable) = some false)
    (ca_BadGroup : PySem.W.findIn K (.ref C_BadGroup) "__class__" = some (some (.builtin "object.__class__")))
    (mo_BadGroup : PySem.W.mroIn K C_BadGroup (.type "object") = some true)
    (nr_BadGroup : PySem.W.exmOne K (.ref C_BadGroup) (.ref C_NearError) = some true)
    (kv_BadGroup : PySem.W.kitOne K (.ref C_BadGroup) (.type "ValueError") = some true)
    (ki_BadGroup_BadNumber : PySem.W.kitOne K (.ref C_BadGroup) (.ref C_BadNumber) = some false)
    (ki_BadGroup_BadTolerance : PySem.W.kitOne K (.ref C_BadGroup) (.ref C_BadTolerance) = some false)
    (ki_BadGroup_BadGroup : PySem.W.kitOne K (.ref C_BadGroup) (.ref C_BadGroup) = some true)
    (ki_BadGroup_BadLoop : PySem.W.kitOne K (.ref C_BadGroup) (.ref C_BadLoop) = some false)
    (ki_BadGroup_UnknownState : PySem.W.kitOne K (.ref C_BadGroup) (.ref C_UnknownState) = some false)
    (ki_BadGroup_BadAnswer : PySem.W.kitOne K (.ref C_BadGroup) (.ref C_BadAnswer) = some false)
    (ki_BadGroup_BadJoint : PySem.W.kitOne K (.ref C_BadGroup) (.ref C_BadJoint) = some false)
    (ki_BadGroup_BadKind : PySem.W.kitOne K (.ref C_BadGroup) (.ref C_BadKind) = some false)
    (ki_BadGroup_BadWatch : PySem.W.kitOne K (.ref C_BadGroup) (.ref C_BadWatch) = some false)
    (ki_BadGroup_BadRow : PySem.W.kitOne K (.ref C_BadGroup) (.ref C_BadRow) = some false)
    (ki_BadGroup_BadTable : PySem.W.kitOne K (.ref C_BadGroup) (.ref C_BadTable) = some false)
    (ca_BadLoop : PySem.W.findIn K (.ref C_BadLoop) "__class__" = some (some (.builtin "object.__class__")))
    (mo_BadLoop : PySem.W.mroIn K C_BadLoop (.type "object") = some true)
    (nr_BadLoop : PySem.W.exmOne K (.ref C_BadLoop) (.ref C_NearError) = some true)
    (kv_BadLoop : PySem.W.kitOne K (.ref C_BadLoop) (.type "ValueError") = some true)
    (ki_BadLoop_BadNumber : PySem.W.kitOne K (.ref C_BadLoop) (.ref C_BadNumber) = some false)
    (ki_BadLoop_BadTolerance : PySem.W.kitOne K (.ref C_BadLoop) (.ref C_BadTolerance) = some false)
    (ki_BadLoop_BadGroup : PySem.W.kitOne K (.ref C_BadLoop) (.ref C_BadGroup) = some false)
    (ki_BadLoop_BadLoop : PySem.W.kitOne K (.ref C_BadLoop) (.ref C_BadLoop) = some true)
    (ki_BadLoop_UnknownState : PySem.W.kitOne K (.ref C_BadLoop) (.ref C_UnknownState) = some false)
    (ki_BadLoop_BadAnswer : PySem.W.kitOne K (.ref C_BadLoop) (.ref C_BadAnswer) = some false)
    (ki_BadLoop_BadJoint : PySem.W.kitOne K (.ref C_BadLoop) (.ref C_BadJoint) = some false)
    (ki_BadLoop_BadKind : PySem.W.kitOne K (.ref C_BadLoop) (.ref C_BadKind) = some false)
    (ki_BadLoop_BadWatch : PySem.W.kitOne K (.ref C_BadLoop) (.ref C_BadWatch) = some false)
    (ki_BadLoop_BadRow : PySem.W.kitOne K (.ref C_BadLoop) (.ref C_BadRow) = some false)
    (ki_BadLoop_BadTable : PySem.W.kitOne K (.ref C_BadLoop) (.ref C_BadTable) = some false)
    (ca_UnknownState : PySem.W.findIn K (.ref C_UnknownState) "__class__" = some (some (.builtin "object.__class__")))
    (mo_UnknownState : PySem.W.mroIn K C_UnknownState (.type "object") = some true)
    (nr_UnknownState : PySem.W.exmOne K (.ref C_UnknownState) (.ref C_NearError) = some true)
    (kv_UnknownState : PySem.W.kitOne K (.ref C_UnknownState) (.type "ValueError") = some true)
    (ki_UnknownState_BadNumber : PySem.W.kitOne K (.ref C_UnknownState) (.ref C_BadNumber) = some false)
    (ki_UnknownState_BadTolerance : PySem.W.kitOne K (.ref C_UnknownState) (.ref C_BadTolerance) = some false)
    (ki_UnknownState_BadGroup : PySem.W.kitOne K (.ref C_UnknownState) (.ref C_BadGroup) = some false)
    (ki_UnknownState_BadLoop : PySem.W.kitOne K (.ref C_UnknownState) (.ref C_BadLoop) = some false)
    (ki_UnknownState_UnknownState : PySem.W.kitOne K (.ref C_UnknownState) (.ref C_UnknownState) = some true)
    (ki_UnknownState_BadAnswer : PySem.W.kitOne K (.ref C_UnknownState) (.ref C_BadAnswer) = some false)
    (ki_UnknownState_BadJoint : PySem.W.kitOne K (.ref C_UnknownState) (.ref C_BadJoint) = some false)
    (ki_UnknownState_BadKind : PySem.W.kitOne K (.ref C_UnknownState) (.ref C_BadKind) = some false)
    (ki_UnknownState_BadWatch : PySem.W.kitOne K (.ref C_UnknownState) (.ref C_BadWatch) = some false)
    (ki_UnknownState_BadRow : PySem.W.kitOne K (.ref C_UnknownState) (.ref C_BadRow) = some false)
    (ki_UnknownState_BadTable : PySem.W.kitOne K (.ref C_UnknownState) (.ref C_BadTable) = some false)
    (ca_BadAnswer : PySem.W.findIn K (.ref C_BadAnswer) "__class__" = some (some (.builtin "object.__class__")))
    (mo_BadAnswer : PySem.W.mroIn K C_BadAnswer (.type "object") = some true)
    (nr_BadAnswer : PySem.W.exmOne K (.ref C_BadAnswer) (.ref C_NearError) = some true)
    (kv_BadAnswer : PySem.W.kitOne K (.ref C_BadAnswer) (.type "ValueError") = some true)
    (ki_BadAnswer_BadNumber : PySem.W.kitOne K (.ref C_BadAnswer) (.ref C_BadNumber) = some false)
    (ki_BadAnswer_BadTolerance : PySem.W.kitOne K (.ref C_BadAnswer) (.ref C_BadTolerance) = some false)
    (ki_BadAnswer_BadGroup : PySem.W.kitOne K (.ref C_BadAnswer) (.ref C_BadGroup) = some false)
    (ki_BadAnswer_BadLoop : PySem.W.kitOne K (.ref C_BadAnswer) (.ref C_BadLoop) = some false)
    (ki_BadAnswer_UnknownState : PySem.W.kitOne K (.ref C_BadAnswer) (.ref C_UnknownState) = some false)
    (ki_BadAnswer_BadAnswer : PySem.W.kitOne K (.ref C_BadAnswer) (.ref C_BadAnswer) = some true)
    (ki_BadAnswer_BadJoint : PySem.W.kitOne K (.ref C_BadAnswer) (.ref C_BadJoint) = some false)
    (ki_BadAnswer_BadKind : PySem.W.kitOne K (.ref C_BadAnswer) (.ref C_BadKind) = some false)
    (ki_BadAnswer_BadWatch : PySem.W.kitOne K (.ref C_BadAnswer) (.ref C_BadWatch) = some false)
    (ki_BadAnswer_BadRow : PySem.W.kitOne K (.ref C_BadAnswer) (.ref C_BadRow) = some false)
    (ki_BadAnswer_BadTable : PySem.W.kitOne K (.ref C_BadAnswer) (.ref C_BadTable) = some false)
    (ca_BadJoint : PySem.W.findIn K (.ref C_BadJoint) "__class__" = some (some (.builtin "object.__class__")))
    (mo_BadJoint : PySem.W.mroIn K C_BadJoint (.type "object") = some true)
    (nr_BadJoint : PySem.W.exmOne K (.ref C_BadJoint) (.ref C_NearError) = some true)
    (kv_BadJoint : PySem.W.kitOne K (.ref C_BadJoint) (.type "ValueError") = some true)
    (ki_BadJoint_BadNumber : PySem.W.kitOne K (.ref C_BadJoint) (.ref C_BadNumber) = some false)
    (ki_BadJoint_BadTolerance : PySem.W.kitOne K (.ref C_BadJoint) (.ref C_BadTolerance) = some false)
    (ki_BadJoint_BadGroup : PySem.W.kitOne K (.ref C_BadJoint) (.ref C_BadGroup) = some false)
    (ki_BadJoint_BadLoop : PySem.W.kitOne K (.ref C_BadJoint) (.ref C_BadLoop) = some false)
    (ki_BadJoint_UnknownState : PySem.W.kitOne K (.ref C_BadJoint) (.ref C_UnknownState) = some false)
    (ki_BadJoint_BadAnswer : PySem.W.kitOne K (.ref C_BadJoint) (.ref C_BadAnswer) = some false)
    (ki_BadJoint_BadJoint : PySem.W.kitOne K (.ref C_BadJoint) (.ref C_BadJoint) = some true)
    (ki_BadJoint_BadKind : PySem.W.kitOne K (.ref C_BadJoint) (.ref C_BadKind) = some false)
    (ki_BadJoint_BadWatch : PySem.W.kitOne K (.ref C_BadJoint) (.ref C_BadWatch) = some false)
    (ki_BadJoint_BadRow : PySem.W.kitOne K (.ref C_BadJoint) (.ref C_BadRow) = some false)
    (ki_BadJoint_BadTable : PySem.W.kitOne K (.ref C_BadJoint) (.ref C_BadTable) = some false)
    (ca_BadKind : PySem.W.findIn K (.ref C_BadKind) "__class__" = some (some (.builtin "object.__class__")))
    (mo_BadKind : PySem.W.mroIn K C_BadKind (.type "object") = some true)
    (nr_BadKind : PySem.W.exmOne K (.ref C_BadKind) (.ref C_NearError) = some true)
    (kv_BadKind : PySem.W.kitOne K (.ref C_BadKind) (.type "ValueError") = some true)
    (ki_BadKind_BadNumber : PySem.W.kitOne K (.ref C_BadKind) (.ref C_BadNumber) = some false)
    (ki_BadKind_BadTolerance : PySem.W.kitOne K (.ref C_BadKind) (.ref C_BadTolerance) = some false)
    (ki_BadKind_BadGroup : PySem.W.kitOne K (.ref C_BadKind) (.ref C_BadGroup) = some false)
    (ki_BadKind_BadLoop : PySem.W.kitOne K (.ref C_BadKind) (.ref C_BadLoop) = some false)
    (ki_BadKind_UnknownState : PySem.W.kitOne K (.ref C_BadKind) (.ref C_UnknownState) = some false)
    (ki_BadKind_BadAnswer : PySem.W.kitOne K (.ref C_BadKind) (.ref C_BadAnswer) = some false)
    (ki_BadKind_BadJoint : PySem.W.kitOne K (.ref C_BadKind) (.ref C_BadJoint) = some false)
    (ki_BadKind_BadKind : PySem.W.kitOne K (.ref C_BadKind) (.ref C_BadKind) = some true)
    (ki_BadKind_BadWatch : PySem.W.kitOne K (.ref C_BadKind) (.ref C_BadWatch) = some false)
    (ki_BadKind_BadRow : PySem.W.kitOne K (.ref C_BadKind) (.ref C_BadRow) = some false)
    (ki_BadKind_BadTable : PySem.W.kitOne K (.ref C_BadKind) (.ref C_BadTable) = some false)
    (ca_BadWatch : PySem.W.findIn K (.ref C_BadWatch) "__class__" = some (some (.builtin "object.__class__")))
    (mo_BadWatch : PySem.W.mroIn K C_BadWatch (.type "object") = some true)
    (nr_BadWatch : PySem.W.exmOne K (.ref C_BadWatch) (.ref C_NearError) = some true)
    (kv_BadWatch : PySem.W.kitOne K (.ref C_BadWatch) (.type "ValueError") = some true)
    (ki_BadWatch_BadNumber : PySem.W.kitOne K (.ref C_BadWatch) (.ref C_BadNumber) = some false)
    (ki_BadWatch_BadTolerance : PySem.W.kitOne K (.ref C_BadWatch) (.ref C_BadTolerance) = some false)
    (ki_BadWatch_BadGroup : PySem.W.kitOne K (.ref C_BadWatch) (.ref C_BadGroup) = some false)
    (ki_BadWatch_BadLoop : PySem.W.kitOne K (.ref C_BadWatch) (.ref C_BadLoop) = some false)
    (ki_BadWatch_UnknownState : PySem.W.kitOne K (.ref C_BadWatch) (.ref C_UnknownState) = some false)
    (ki_BadWatch_BadAnswer : PySem.W.kitOne K (.ref C_BadWatch) (.ref C_BadAnswer) = some false)
    (ki_BadWatch_BadJoint : PySem.W.kitOne K (.ref C_BadWatch) (.ref C_BadJoint) = some false)
    (ki_BadWatch_BadKind : PySem.W.kitOne K (.ref C_BadWatch) (.ref C_BadKind) = some false)
    (ki_BadWatch_BadWatch : PySem.W.kitOne K (.ref C_BadWatch) (.ref C_BadWatch) = some true)
    (ki_BadWatch_BadRow : PySem.W.kitOne K (.ref C_BadWatch) (.ref C_BadRow) = some false)
    (ki_BadWatch_BadTable : PySem.W.kitOne K (.ref C_BadWatch) (.ref C_BadTable) = some false)
    (ca_BadRow : PySem.W.findIn K (.ref C_BadRow) "__class__" = some (some (.builtin "object.__class__")))
    (mo_BadRow : PySem.W.mroIn K C_BadRow (.type "object") = some true)
    (nr_BadRow : PySem.W.exmOne K (.ref C_BadRow) (.ref C_NearError) = some true)
    (kv_BadRow : PySem.W.kitOne K (.ref C_BadRow) (.type "ValueError") = some true)
    (ki_BadRow_BadNumber : PySem.W.kitOne K (.ref C_BadRow) (.ref C_BadNumber) = some false)
    (ki_BadRow_BadTolerance : PySem.W.kitOne K (.ref C_BadRow) (.ref C_BadTolerance) = some false)
    (ki_BadRow_BadGroup : PySem.W.kitOne K (.ref C_BadRow) (.ref C_BadGroup) = some false)
    (ki_BadRow_BadLoop : PySem.W.kitOne K (.ref C_BadRow) (.ref C_BadLoop) = some false)
    (ki_BadRow_UnknownState : PySem.W.kitOne K (.ref C_BadRow) (.ref C_UnknownState) = some false)
    (ki_BadRow_BadAnswer : PySem.W.kitOne K (.ref C_BadRow) (.ref C_BadAnswer) = some false)
    (ki_BadRow_BadJoint : PySem.W.kitOne K (.ref C_BadRow) (.ref C_BadJoint) = some false)
    (ki_BadRow_BadKind : PySem.W.kitOne K (.ref C_BadRow) (.ref C_BadKind) = some false)
    (ki_BadRow_BadWatch : PySem.W.kitOne K (.ref C_BadRow) (.ref C_BadWatch) = some false)
    (ki_BadRow_BadRow : PySem.W.kitOne K (.ref C_BadRow) (.ref C_BadRow) = some true)
    (ki_BadRow_BadTable : PySem.W.kitOne K (.ref C_BadRow) (.ref C_BadTable) = some false)
    (ca_BadTable : PySem.W.findIn K (.ref C_BadTable) "__class__" = some (some (.builtin "object.__class__")))
    (mo_BadTable : PySem.W.mroIn K C_BadTable (.type "object") = some true)
    (nr_BadTable : PySem.W.exmOne K (.ref C_BadTable) (.ref C_NearError) = some true)
    (kv_BadTable : PySem.W.kitOne K (.ref C_BadTable) (.type "ValueError") = some true)
    (ki_BadTable_BadNumber : PySem.W.kitOne K (.ref C_BadTable) (.ref C_BadNumber) = some false)
    (ki_BadTable_BadTolerance : PySem.W.kitOne K (.ref C_BadTable) (.ref C_BadTolerance) = some false)
    (ki_BadTable_BadGroup : PySem.W.kitOne K (.ref C_BadTable) (.ref C_BadGroup) = some false)
    (ki_BadTable_BadLoop : PySem.W.kitOne K (.ref C_BadTable) (.ref C_BadLoop) = some false)
    (ki_BadTable_UnknownState : PySem.W.kitOne K (.ref C_BadTable) (.ref C_UnknownState) = some false)
    (ki_BadTable_BadAnswer : PySem.W.kitOne K (.ref C_BadTable) (.ref C_BadAnswer) = some false)
    (ki_BadTable_BadJoint : PySem.W.kitOne K (.ref C_BadTable) (.ref C_BadJoint) = some false)
    (ki_BadTable_BadKind : PySem.W.kitOne K (.ref C_BadTable) (.ref C_BadKind) = some false)
    (ki_BadTable_BadWatch : PySem.W.kitOne K (.ref C_BadTable) (.ref C_BadWatch) = some false)
    (ki_BadTable_BadRow : PySem.W.kitOne K (.ref C_BadTable) (.ref C_BadRow) = some false)
    (ki_BadTable_BadTable : PySem.W.kitOne K (.ref C_BadTable) (.ref C_BadTable) = some true)
    : ∃ fd : FuncData, (∀ (s : Shared) (v : Value), BindsTo s fd ⟨[v], []⟩ [("_law_script", v)]) ∧ ∀ base : Heap, K.In base → base.Ns mainGlobals mg → FnOk l.prog w K mg base CX0 9 fa fd ["_law_script"] (spLaw K) := by
  have e := hfa.symm.trans (PySem.W.mg_of X G a_law)
  cases e
  have F_law_source := fun_mk (st := s_law_source) l_law_source c_law_source k_law_source
  have F_law_draw := fun_mk (st := s_law_draw) l_law_draw c_law_draw k_law_draw
  have F_law_pick := fun_mk (st := s_law_pick) l_law_pick c_law_pick k_law_pick
  have F_law_raised := fun_mk (st := s_law_raised) l_law_raised c_law_raised k_law_raised
  have F_law_fields := fun_mk (st := s_law_fields) l_law_fields c_law_fields k_law_fields
  have F_law_caught := fun_mk (st := s_law_caught) l_law_caught c_law_caught k_law_caught
  have F_law := fun_mk (st := s_law) l_law c_law k_law
  have b_law_source := F_law_source.binds (ps := ["_law_script"]) fun _ _ _ _ _ _ us hl => match us, hl with | [_], _ => rfl
  have b_law_draw := F_law_draw.binds (ps := ["_law_source_here", "_law_many"]) fun _ _ _ _ _ _ us hl => match us, hl with | [_, _], _ => rfl
  have b_law_pick := F_law_pick.binds (ps := ["_law_source_here", "_law_things"]) fun _ _ _ _ _ _ us hl => match us, hl with | [_, _], _ => rfl
  have b_law_raised := F_law_raised.binds (ps := ["_law_how", "_law_a"]) fun _ _ _ _ _ _ us hl => match us, hl with | [_, _], _ => rfl
  have b_law_fields := F_law_fields.binds (ps := ["_law_how", "_law_a"]) fun _ _ _ _ _ _ us hl => match us, hl with | [_, _], _ => rfl
  have b_law_caught := F_law_caught.binds (ps := ["_law_how", "_law_a"]) fun _ _ _ _ _ _ us hl => match us, hl with | [_, _], _ => rfl
  have b_law := F_law.binds (ps := ["_law_script"]) fun _ _ _ _ _ _ us hl => match us, hl with | [_], _ => rfl
  have er_BadAnswer : PySem.SupX.ClsTxt l.prog K mg C_BadAnswer i_BadAnswer "BadAnswer" := { gC := PySem.W.mg_of X G xg_BadAnswer, cls := ⟨nm_BadAnswer, q_BadAnswer, N_BadAnswer, bs_BadAnswer, _, sn_BadAnswer, sub_BadAnswer, ab_BadAnswer, col_BadAnswer, dd_BadAnswer, k0_BadAnswer, k1_BadAnswer, k2_BadAnswer, k3_BadAnswer, k5_BadAnswer, xc_BadAnswer, rfl⟩, sa := xsa_BadAnswer, ga := xga_BadAnswer, gg := xgg_BadAnswer, iC := xic_BadAnswer, tC := xtc_BadAnswer, kC := xkc_BadAnswer, exC := xex_BadAnswer, tyC := xty_BadAnswer, hdC := xhd_BadAnswer, msup := PySem.W.mg_none_of X G xms_BadAnswer, sup := xsu_BadAnswer, sve := xsv_BadAnswer, mro := xmr_BadAnswer, st := xst_BadAnswer, htop := xht_BadAnswer }
  have fn_BadAnswer : PySem.SupX.FnTxt l.prog K C_BadAnswer i_BadAnswer "answer" := { noN := xno_BadAnswer, nd := by decide, sf := by decide, lf := by decide, lc := by decide, ls := by decide, fn := ⟨oc_BadAnswer, doc_BadAnswer, pm_BadAnswer, kV_BadAnswer, ct_BadAnswer, od_BadAnswer, an_BadAnswer, osl_BadAnswer, _, _, _, _, _, _, _, _, _, _, _, _, _, _, _, cda_BadAnswer, cc_BadAnswer, vs_BadAnswer, file_BadAnswer, tf_BadAnswer, ccl_BadAnswer, cl_BadAnswer, cdd_BadAnswer, cld_BadAnswer, ccs_BadAnswer, csl_BadAnswer, _, rfl, xli_BadAnswer, xci_BadAnswer, fun _ _ => rfl, xcd_BadAnswer, xv2_BadAnswer, xfi_BadAnswer, xcc_BadAnswer, ⟨_, fun _ => rfl⟩, fun _ => rfl, fun _ => rfl⟩ }
  have er_BadGroup : PySem.SupX.ClsTxt l.prog K mg C_BadGroup i_BadGroup "BadGroup" := { gC := PySem.W.mg_of X G xg_BadGroup, cls := ⟨nm_BadGroup, q_BadGroup, N_BadGroup, bs_BadGroup, _, sn_BadGroup, sub_BadGroup, ab_BadGroup, col_BadGroup, dd_BadGroup, k0_BadGroup, k1_BadGroup, k2_BadGroup, k3_BadGroup, k5_BadGroup, xc_BadGroup, rfl⟩, sa := xsa_BadGroup, ga := xga_BadGroup, gg := xgg_BadGroup, iC := xic_BadGroup, tC := xtc_BadGroup, kC := xkc_BadGroup, exC := xex_BadGroup, tyC := xty_BadGroup, hdC := xhd_BadGroup, msup := PySem.W.mg_none_of X G xms_BadGroup, sup := xsu_BadGroup, sve := xsv_BadGroup, mro := xmr_BadGroup, st := xst_BadGroup, htop := xht_BadGroup }
  have fn_BadGroup : PySem.SupX.FnTxt l.prog K C_BadGroup i_BadGroup "group" := { noN := xno_BadGroup, nd := by decide, sf := by decide, lf := by decide, lc := by decide, ls := by decide, fn := ⟨oc_BadGroup, doc_BadGroup, pm_BadGroup, kV_BadGroup, ct_BadGroup, od_BadGroup, an_BadGroup, osl_BadGroup, _, _, _, _, _, _, _, _, _, _, _, _, _, _, _, cda_BadGroup, cc_BadGroup, vs_BadGroup, file_BadGroup, tf_BadGroup, ccl_BadGroup, cl_BadGroup, cdd_BadGroup, cld_BadGroup, ccs_BadGroup, csl_BadGroup, _, rfl, xli_BadGroup, xci_BadGroup, fun _ _ => rfl, xcd_BadGroup, xv2_BadGroup, xfi_BadGroup, xcc_BadGroup, ⟨_, fun _ => rfl⟩, fun _ => rfl, fun _ => rfl⟩ }
  have er_BadJoint : PySem.SupX.ClsTxt l.prog K mg C_BadJoint i_BadJoint "BadJoint" := { gC := PySem.W.mg_of X G xg_BadJoint, cls := ⟨nm_BadJoint, q_BadJoint, N_BadJoint, bs_BadJoint, _, sn_BadJoint, sub_BadJoint, ab_BadJoint, col_BadJoint, dd_BadJoint, k0_BadJoint, k1_BadJoint, k2_BadJoint, k3_BadJoint, k5_BadJoint, xc_BadJoint, rfl⟩, sa := xsa_BadJoint, ga := xga_BadJoint, gg := xgg_BadJoint, iC := xic_BadJoint, tC := xtc_BadJoint, kC := xkc_BadJoint, exC := xex_BadJoint, tyC := xty_BadJoint, hdC := xhd_BadJoint, msup := PySem.W.mg_none_of X G xms_BadJoint, sup := xsu_BadJoint, sve := xsv_BadJoint, mro := xmr_BadJoint, st := xst_BadJoint, htop := xht_BadJoint }
  have fn_BadJoint : PySem.SupX.FnTxt l.prog K C_BadJoint i_BadJoint "state" := { noN := xno_BadJoint, nd := by decide, sf := by decide, lf := by decide, lc := by decide, ls := by decide, fn := ⟨oc_BadJoint, doc_BadJoint, pm_BadJoint, kV_BadJoint, ct_BadJoint, od_BadJoint, an_BadJoint, osl_BadJoint, _, _, _, _, _, _, _, _, _, _, _, _, _, _, _, cda_BadJoint, cc_BadJoint, vs_BadJoint, file_BadJoint, tf_BadJoint, ccl_BadJoint, cl_BadJoint, cdd_BadJoint, cld_BadJoint, ccs_BadJoint, csl_BadJoint, _, rfl, xli_BadJoint, xci_BadJoint, fun _ _ => rfl, xcd_BadJoint, xv2_BadJoint, xfi_BadJoint, xcc_BadJoint, ⟨_, fun _ => rfl⟩, fun _ => rfl, fun _ => rfl⟩ }
  have er_BadKind : PySem.SupX.ClsTxt l.prog K mg C_BadKind i_BadKind "BadKind" := { gC := PySem.W.mg_of X G xg_BadKind, cls := ⟨nm_BadKind, q_BadKind, N_BadKind, bs_BadKind, _, sn_BadKind, sub_BadKind, ab_BadKind, col_BadKind, dd_BadKind, k0_BadKind, k1_BadKind, k2_BadKind, k3_BadKind, k5_BadKind, xc_BadKind, rfl⟩, sa := xsa_BadKind, ga := xga_BadKind, gg := xgg_BadKind, iC := xic_BadKind, tC := xtc_BadKind, kC := xkc_BadKind, exC := xex_BadKind, tyC := xty_BadKind, hdC := xhd_BadKind, msup := PySem.W.mg_none_of X G xms_BadKind, sup := xsu_BadKind, sve := xsv_BadKind, mro := xmr_BadKind, st := xst_BadKind, htop := xht_BadKind }
  have fn_BadKind : PySem.SupX.FnTxt l.prog K C_BadKind i_BadKind "by" := { noN := xno_BadKind, nd := by decide, sf := by decide, lf := by decide, lc := by decide, ls := by decide, fn := ⟨oc_BadKind, doc_BadKind, pm_BadKind, kV_BadKind, ct_BadKind, od_BadKind, an_BadKind, osl_BadKind, _, _, _, _, _, _, _, _, _, _, _, _, _, _, _, cda_BadKind, cc_BadKind, vs_BadKind, file_BadKind, tf_BadKind, ccl_BadKind, cl_BadKind, cdd_BadKind, cld_BadKind, ccs_BadKind, csl_BadKind, _, rfl, xli_BadKind, xci_BadKind, fun _ _ => rfl, xcd_BadKind, xv2_BadKind, xfi_BadKind, xcc_BadKind, ⟨_, fun _ => rfl⟩, fun _ => rfl, fun _ => rfl⟩ }
  have er_BadLoop : PySem.SupX.ClsTxt l.prog K mg C_BadLoop i_BadLoop "BadLoop" := { gC := PySem.W.mg_of X G xg_BadLoop, cls := ⟨nm_BadLoop, q_BadLoop, N_BadLoop, bs_BadLoop, _, sn_BadLoop, sub_BadLoop, ab_BadLoop, col_BadLoop, dd_BadLoop, k0_BadLoop, k1_BadLoop, k2_BadLoop, k3_BadLoop, k5_BadLoop, xc_BadLoop, rfl⟩, sa := xsa_BadLoop, ga := xga_BadLoop, gg := xgg_BadLoop, iC := xic_BadLoop, tC := xtc_BadLoop, kC := xkc_BadLoop, exC := xex_BadLoop, tyC := xty_BadLoop, hdC := xhd_BadLoop, msup := PySem.W.mg_none_of X G xms_BadLoop, sup := xsu_BadLoop, sve := xsv_BadLoop, mro := xmr_BadLoop, st := xst_BadLoop, htop := xht_BadLoop }
  have fn_BadLoop : PySem.SupX.FnTxt l.prog K C_BadLoop i_BadLoop "line" := { noN := xno_BadLoop, nd := by decide, sf := by decide, lf := by decide, lc := by decide, ls := by decide, fn := ⟨oc_BadLoop, doc_BadLoop, pm_BadLoop, kV_BadLoop, ct_BadLoop, od_BadLoop, an_BadLoop, osl_BadLoop, _, _, _, _, _, _, _, _, _, _, _, _, _, _, _, cda_BadLoop, cc_BadLoop, vs_BadLoop, file_BadLoop, tf_BadLoop, ccl_BadLoop, cl_BadLoop, cdd_BadLoop, cld_BadLoop, ccs_BadLoop, csl_BadLoop, _, rfl, xli_BadLoop, xci_BadLoop, fun _ _ => rfl, xcd_BadLoop, xv2_BadLoop, xfi_BadLoop, xcc_BadLoop, ⟨_, fun _ => rfl⟩, fun _ => rfl, fun _ => rfl⟩ }
  have er_BadNumber : PySem.SupX.ClsTxt l.prog K mg C_BadNumber i_BadNumber "BadNumber" := { gC := PySem.W.mg_of X G xg_BadNumber, cls := ⟨nm_BadNumber, q_BadNumber, N_BadNumber, bs_BadNumber, _, sn_BadNumber, sub_BadNumber, ab_BadNumber, col_BadNumber, dd_BadNumber, k0_BadNumber, k1_BadNumber, k2_BadNumber, k3_BadNumber, k5_BadNumber, xc_BadNumber, rfl⟩, sa := xsa_BadNumber, ga := xga_BadNumber, gg := xgg_BadNumber, iC := xic_BadNumber, tC := xtc_BadNumber, kC := xkc_BadNumber, exC := xex_BadNumber, tyC := xty_BadNumber, hdC := xhd_BadNumber, msup := PySem.W.mg_none_of X G xms_BadNumber, sup := xsu_BadNumber, sve := xsv_BadNumber, mro := xmr_BadNumber, st := xst_BadNumber, htop := xht_BadNumber }
  have fn_BadNumber : PySem.SupX.FnTxt l.prog K C_BadNumber i_BadNumber "number" := { noN := xno_BadNumber, nd := by decide, sf := by decide, lf := by decide, lc := by decide, ls := by decide, fn := ⟨oc_BadNumber, doc_BadNumber, pm_BadNumber, kV_BadNumber, ct_BadNumber, od_BadNumber, an_BadNumber, osl_BadNumber, _, _, _, _, _, _, _, _, _, _, _, _, _, _, _, cda_BadNumber, cc_BadNumber, vs_BadNumber, file_BadNumber, tf_BadNumber, ccl_BadNumber, cl_BadNumber, cdd_BadNumber, cld_BadNumber, ccs_BadNumber, csl_BadNumber, _, rfl, xli_BadNumber, xci_BadNumber, fun _ _ => rfl, xcd_BadNumber, xv2_BadNumber, xfi_BadNumber, xcc_BadNumber, ⟨_, fun _ => rfl⟩, fun _ => rfl, fun _ => rfl⟩ }
  have er_BadRow : PySem.SupX.ClsTxt l.prog K mg C_BadRow i_BadRow "BadRow" := { gC := PySem.W.mg_of X G xg_BadRow, cls := ⟨nm_BadRow, q_BadRow, N_BadRow, bs_BadRow, _, sn_BadRow, sub_BadRow, ab_BadRow, col_BadRow, dd_BadRow, k0_BadRow, k1_BadRow, k2_BadRow, k3_BadRow, k5_BadRow, xc_BadRow, rfl⟩, sa := xsa_BadRow, ga := xga_BadRow, gg := xgg_BadRow, iC := xic_BadRow, tC := xtc_BadRow, kC := xkc_BadRow, exC := xex_BadRow, tyC := xty_BadRow, hdC := xhd_BadRow, msup := PySem.W.mg_none_of X G xms_BadRow, sup := xsu_BadRow, sve := xsv_BadRow, mro := xmr_BadRow, st := xst_BadRow, htop := xht_BadRow }
  have fn_BadRow : PySem.SupX.FnTxt0 l.prog K C_BadRow i_BadRow := { fn := ⟨oc_BadRow, doc_BadRow, pm_BadRow, kV_BadRow, ct_BadRow, od_BadRow, an_BadRow, osl_BadRow, _, _, _, _, _, _, _, cda_BadRow, cc_BadRow, vs_BadRow, file_BadRow, tf_BadRow, ccl_BadRow, cl_BadRow, cdd_BadRow, cld_BadRow, ccs_BadRow, csl_BadRow, _, rfl, xli_BadRow, xci_BadRow, fun _ => rfl, xcd_BadRow, xv2_BadRow, xfi_BadRow, xcc_BadRow, ⟨_, fun _ => rfl⟩, fun _ => rfl⟩ }
  have er_BadTable : PySem.SupX.ClsTxt l.prog K mg C_BadTable i_BadTable "BadTable" := { gC := PySem.W.mg_of X G xg_BadTable, cls := ⟨nm_BadTable, q_BadTable, N_BadTable, bs_BadTable, _, sn_BadTable, sub_BadTable, ab_BadTable, col_BadTable, dd_BadTable, k0_BadTable, k1_BadTable, k2_BadTable, k3_BadTable, k5_BadTable, xc_BadTable, rfl⟩, sa := xsa_BadTable, ga := xga_BadTable, gg := xgg_BadTable, iC := xic_BadTable, tC := xtc_BadTable, kC := xkc_BadTable, exC := xex_BadTable, tyC := xty_BadTable, hdC := xhd_BadTable, msup := PySem.W.mg_none_of X G xms_BadTable, sup := xsu_BadTable, sve := xsv_BadTable, mro := xmr_BadTable, st := xst_BadTable, htop := xht_BadTable }
  have fn_BadTable : PySem.SupX.FnTxt0 l.prog K C_BadTable i_BadTable := { fn := ⟨oc_BadTable, doc_BadTable, pm_BadTable, kV_BadTable, ct_BadTable, od_BadTable, an_BadTable, osl_BadTable, _, _, _, _, _, _, _, cda_BadTable, cc_BadTable, vs_BadTable, file_BadTable, tf_BadTable, ccl_BadTable, cl_BadTable, cdd_BadTable, cld_BadTable, ccs_BadTable, csl_BadTable, _, rfl, xli_BadTable, xci_BadTable, fun _ => rfl, xcd_BadTable, xv2_BadTable, xfi_BadTable, xcc_BadTable, ⟨_, fun _ => rfl⟩, fun _ => rfl⟩ }
  have er_BadTolerance : PySem.SupX.ClsTxt l.prog K mg C_BadTolerance i_BadTolerance "BadTolerance" := { gC := PySem.W.mg_of X G xg_BadTolerance, cls := ⟨nm_BadTolerance, q_BadTolerance, N_BadTolerance, bs_BadTolerance, _, sn_BadTolerance, sub_BadTolerance, ab_BadTolerance, col_BadTolerance, dd_BadTolerance, k0_BadTolerance, k1_BadTolerance, k2_BadTolerance, k3_BadTolerance, k5_BadTolerance, xc_BadTolerance, rfl⟩, sa := xsa_BadTolerance, ga := xga_BadTolerance, gg := xgg_BadTolerance, iC := xic_BadTolerance, tC := xtc_BadTolerance, kC := xkc_BadTolerance, exC := xex_BadTolerance, tyC := xty_BadTolerance, hdC := xhd_BadTolerance, msup := PySem.W.mg_none_of X G xms_BadTolerance, sup := xsu_BadTolerance, sve := xsv_BadTolerance, mro := xmr_BadTolerance, st := xst_BadTolerance, htop := xht_BadTolerance }
  have fn_BadTolerance : PySem.SupX.FnTxt l.prog K C_BadTolerance i_BadTolerance "tolerance" := { noN := xno_BadTolerance, nd := by decide, sf := by decide, lf := by decide, lc := by decide, ls := by decide, fn := ⟨oc_BadTolerance, doc_BadTolerance, pm_BadTolerance, kV_BadTolerance, ct_BadTolerance, od_BadTolerance, an_BadTolerance, osl_BadTolerance, _, _, _, _, _, _, _, _, _, _, _, _, _, _, _, cda_BadTolerance, cc_BadTolerance, vs_BadTolerance, file_BadTolerance, tf_BadTolerance, ccl_BadTolerance, cl_BadTolerance, cdd_BadTolerance, cld_BadTolerance, ccs_BadTolerance, csl_BadTolerance, _, rfl, xli_BadTolerance, xci_BadTolerance, fun _ _ => rfl, xcd_BadTolerance, xv2_BadTolerance, xfi_BadTolerance, xcc_BadTolerance, ⟨_, fun _ => rfl⟩, fun _ => rfl, fun _ => rfl⟩ }
  have er_BadWatch : PySem.SupX.ClsTxt l.prog K mg C_BadWatch i_BadWatch "BadWatch" := { gC := PySem.W.mg_of X G xg_BadWatch, cls := ⟨nm_BadWatch, q_BadWatch, N_BadWatch, bs_BadWatch, _, sn_BadWatch, sub_BadWatch, ab_BadWatch, col_BadWatch, dd_BadWatch, k0_BadWatch, k1_BadWatch, k2_BadWatch, k3_BadWatch, k5_BadWatch, xc_BadWatch, rfl⟩, sa := xsa_BadWatch, ga := xga_BadWatch, gg := xgg_BadWatch, iC := xic_BadWatch, tC := xtc_BadWatch, kC := xkc_BadWatch, exC := xex_BadWatch, tyC := xty_BadWatch, hdC := xhd_BadWatch, msup := PySem.W.mg_none_of X G xms_BadWatch, sup := xsu_BadWatch, sve := xsv_BadWatch, mro := xmr_BadWatch, st := xst_BadWatch, htop := xht_BadWatch }
  have fn_BadWatch : PySem.SupX.FnTxt l.prog K C_BadWatch i_BadWatch "line" := { noN := xno_BadWatch, nd := by decide, sf := by decide, lf := by decide, lc := by decide, ls := by decide, fn := ⟨oc_BadWatch, doc_BadWatch, pm_BadWatch, kV_BadWatch, ct_BadWatch, od_BadWatch, an_BadWatch, osl_BadWatch, _, _, _, _, _, _, _, _, _, _, _, _, _, _, _, cda_BadWatch, cc_BadWatch, vs_BadWatch, file_BadWatch, tf_BadWatch, ccl_BadWatch, cl_BadWatch, cdd_BadWatch, cld_BadWatch, ccs_BadWatch, csl_BadWatch, _, rfl, xli_BadWatch, xci_BadWatch, fun _ _ => rfl, xcd_BadWatch, xv2_BadWatch, xfi_BadWatch, xcc_BadWatch, ⟨_, fun _ => rfl⟩, fun _ => rfl, fun _ => rfl⟩ }
  have er_UnknownState : PySem.SupX.ClsTxt l.prog K mg C_UnknownState i_UnknownState "UnknownState" := { gC := PySem.W.mg_of X G xg_UnknownState, cls := ⟨nm_UnknownState, q_UnknownState, N_UnknownState, bs_UnknownState, _, sn_UnknownState, sub_UnknownState, ab_UnknownState, col_UnknownState, dd_UnknownState, k0_UnknownState, k1_UnknownState, k2_UnknownState, k3_UnknownState, k5_UnknownState, xc_UnknownState, rfl⟩, sa := xsa_UnknownState, ga := xga_UnknownState, gg := xgg_UnknownState, iC := xic_UnknownState, tC := xtc_UnknownState, kC := xkc_UnknownState, exC := xex_UnknownState, tyC := xty_UnknownState, hdC := xhd_UnknownState, msup := PySem.W.mg_none_of X G xms_UnknownState, sup := xsu_UnknownState, sve := xsv_UnknownState, mro := xmr_UnknownState, st := xst_UnknownState, htop := xht_UnknownState }
  have fn_UnknownState : PySem.SupX.FnTxt l.prog K C_UnknownState i_UnknownState "state" := { noN := xno_UnknownState, nd := by decide, sf := by decide, lf := by decide, lc := by decide, ls := by decide, fn := ⟨oc_UnknownState, doc_UnknownState, pm_UnknownState, kV_UnknownState, ct_UnknownState, od_UnknownState, an_UnknownState, osl_UnknownState, _, _, _, _, _, _, _, _, _, _, _, _, _, _, _, cda_UnknownState, cc_UnknownState, vs_UnknownState, file_UnknownState, tf_UnknownState, ccl_UnknownState, cl_UnknownState, cdd_UnknownState, cld_UnknownState, ccs_UnknownState, csl_UnknownState, _, rfl, xli_UnknownState, xci_UnknownState, fun _ _ => rfl, xcd_UnknownState, xv2_UnknownState, xfi_UnknownState, xcc_UnknownState, ⟨_, fun _ => rfl⟩, fun _ => rfl, fun _ => rfl⟩ }
  let T : Txt l.prog w K mg := {
f_law_source := f_law_source, d_law_source := _, F_law_source := F_law_source, b_law_source := b_law_source, m_law_source := PySem.W.mg_of X G a_law_source,
    f_law_draw := f_law_draw, d_law_draw := _, F_law_draw := F_law_draw, b_law_draw := b_law_draw, m_law_draw := PySem.W.mg_of X G a_law_draw,
    f_law_pick := f_law_pick, d_law_pick := _, F_law_pick := F_law_pick, b_law_pick := b_law_pick, m_law_pick := PySem.W.mg_of X G a_law_pick,
    f_law_raised := f_law_raised, d_law_raised := _, F_law_raised := F_law_raised, b_law_raised := b_law_raised, m_law_raised := PySem.W.mg_of X G a_law_raised,
    f_law_fields := f_law_fields, d_law_fields := _, F_law_fields := F_law_fields, b_law_fields := b_law_fields, m_law_fields := PySem.W.mg_of X G a_law_fields,
    f_law_caught := f_law_caught, d_law_caught := _, F_law_caught := F_law_caught, b_law_caught := b_law_caught, m_law_caught := PySem.W.mg_of X G a_law_caught,
    f_law := fa, d_law := _, F_law := F_law, b_law := b_law, m_law := hfa,
    m_int := PySem.W.mg_none_of X G z_int,
    m_range := PySem.W.mg_none_of X G z_range,
    m_len := PySem.W.mg_none_of X G z_len,
    m_isinstance := PySem.W.mg_none_of X G z_isinstance,
    m_ValueError := PySem.W.mg_none_of X G z_ValueError,
    C_NearError := C_NearError,
    m_NearError := PySem.W.mg_of X G xg_Near,
    gn_x := gn_x,
    gt_x := gt_x,
    kw_BadNumber := fun oc od fd osl e => by
      rw [xli_BadNumber] at e
      cases e
      exact fun a v => rfl,
    ca_BadNumber := ca_BadNumber,
    mo_BadNumber := mo_BadNumber,
    nr_BadNumber := nr_BadNumber,
    kv_BadNumber := kv_BadNumber,
    ki_BadNumber_BadNumber := ki_BadNumber_BadNumber,
    ki_BadNumber_BadTolerance := ki_BadNumber_BadTolerance,
    ki_BadNumber_BadGroup := ki_BadNumber_BadGroup,
    ki_BadNumber_BadLoop := ki_BadNumber_BadLoop,
    ki_BadNumber_UnknownState := ki_BadNumber_UnknownState,
    ki_BadNumber_BadAnswer := ki_BadNumber_BadAnswer,
    ki_BadNumber_BadJoint := ki_BadNumber_BadJoint,
    ki_BadNumber_BadKind := ki_BadNumber_BadKind,
    ki_BadNumber_BadWatch := ki_BadNumber_BadWatch,
    ki_BadNumber_BadRow := ki_BadNumber_BadRow,
    ki_BadNumber_BadTable := ki_BadNumber_BadTable,
    kw_BadTolerance := fun oc od fd osl e => by
      rw [xli_BadTolerance] at e
      cases e
      exact fun a v => rfl,
    ca_BadTolerance := ca_BadTolerance,
    mo_BadTolerance := mo_BadTolerance,
    nr_BadTolerance := nr_BadTolerance,
    kv_BadTolerance := kv_BadTolerance,
    ki_BadTolerance_BadNumber := ki_BadTolerance_BadNumber,
    ki_BadTolerance_BadTolerance := ki_BadTolerance_BadTolerance,
    ki_BadTolerance_BadGroup := ki_BadTolerance_BadGroup,
    ki_BadTolerance_BadLoop := ki_BadTolerance_BadLoop,
    ki_BadTolerance_UnknownState := ki_BadTolerance_UnknownState,
    ki_BadTolerance_BadAnswer := ki_BadTolerance_BadAnswer,
    ki_BadTolerance_BadJoint := ki_BadTolerance_BadJoint,
    ki_BadTolerance_BadKind := ki_BadTolerance_BadKind,
    ki_BadTolerance_BadWatch := ki_BadTolerance_BadWatch,
    ki_BadTolerance_BadRow := ki_BadTolerance_BadRow,
    ki_BadTolerance_BadTable := ki_BadTolerance_BadTable,
    kw_BadGroup := fun oc od fd osl e => by
      rw [xli_BadGroup] at e
      cases e
      exact fun a v => rfl,
    ca_BadGroup := ca_BadGroup,
    mo_BadGroup := mo_BadGroup,
    nr_BadGroup := nr_BadGroup,
    kv_BadGroup := kv_BadGroup,
    ki_BadGroup_BadNumber := ki_BadGroup_BadNumber,
    ki_BadGroup_BadTolerance := ki_BadGroup_BadTolerance,
    ki_BadGroup_BadGroup := ki_BadGroup_BadGroup,
    ki_BadGroup_BadLoop := ki_BadGroup_BadLoop,
    ki_BadGroup_UnknownState := ki_BadGroup_UnknownState,
    ki_BadGroup_BadAnswer := ki_BadGroup_BadAnswer,
    ki_BadGroup_BadJoint := ki_BadGroup_BadJoint,
    ki_BadGroup_BadKind := ki_BadGroup_BadKind,
    ki_BadGroup_BadWatch := ki_BadGroup_BadWatch,
    ki_BadGroup_BadRow := ki_BadGroup_BadRow,
    ki_BadGroup_BadTable := ki_BadGroup_BadTable,
    kw_BadLoop := fun oc od fd osl e => by
      rw [xli_BadLoop] at e
      cases e
      exact fun a v => rfl,
    ca_BadLoop := ca_BadLoop,
    mo_BadLoop := mo_BadLoop,
    nr_BadLoop := nr_BadLoop,
    kv_BadLoop := kv_BadLoop,
    ki_BadLoop_BadNumber := ki_BadLoop_BadNumber,
    ki_BadLoop_BadTolerance := ki_BadLoop_BadTolerance,
    ki_BadLoop_BadGroup := ki_BadLoop_BadGroup,
    ki_BadLoop_BadLoop := ki_BadLoop_BadLoop,
    ki_BadLoop_UnknownState := ki_BadLoop_UnknownState,
    ki_BadLoop_BadAnswer := ki_BadLoop_BadAnswer,
    ki_BadLoop_BadJoint := ki_BadLoop_BadJoint,
    ki_BadLoop_BadKind := ki_BadLoop_BadKind,
    ki_BadLoop_BadWatch := ki_BadLoop_BadWatch,
    ki_BadLoop_BadRow := ki_BadLoop_BadRow,
    ki_BadLoop_BadTable := ki_BadLoop_BadTable,
    kw_UnknownState := fun oc od fd osl e => by
      rw [xli_UnknownState] at e
      cases e
      exact fun a v => rfl,
    ca_UnknownState := ca_UnknownState,
    mo_UnknownState := mo_UnknownState,
    nr_UnknownState := nr_UnknownState,
    kv_UnknownState := kv_UnknownState,
    ki_UnknownState_BadNumber := ki_UnknownState_BadNumber,
    ki_UnknownState_BadTolerance := ki_UnknownState_BadTolerance,
    ki_UnknownState_BadGroup := ki_UnknownState_BadGroup,
    ki_UnknownState_BadLoop := ki_UnknownState_BadLoop,
    ki_UnknownState_UnknownState := ki_UnknownState_UnknownState,
    ki_UnknownState_BadAnswer := ki_UnknownState_BadAnswer,
    ki_UnknownState_BadJoint := ki_UnknownState_BadJoint,
    ki_UnknownState_BadKind := ki_UnknownState_BadKind,
    ki_UnknownState_BadWatch := ki_UnknownState_BadWatch,
    ki_UnknownState_BadRow := ki_UnknownState_BadRow,
    ki_UnknownState_BadTable := ki_UnknownState_BadTable,
    kw_BadAnswer := fun oc od fd osl e => by
      rw [xli_BadAnswer] at e
      cases e
      exact fun a v => rfl,
    ca_BadAnswer := ca_BadAnswer,
    mo_BadAnswer := mo_BadAnswer,
    nr_BadAnswer := nr_BadAnswer,
    kv_BadAnswer := kv_BadAnswer,
    ki_BadAnswer_BadNumber := ki_BadAnswer_BadNumber,
    ki_BadAnswer_BadTolerance := ki_BadAnswer_BadTolerance,
    ki_BadAnswer_BadGroup := ki_BadAnswer_BadGroup,
    ki_BadAnswer_BadLoop := ki_BadAnswer_BadLoop,
    ki_BadAnswer_UnknownState := ki_BadAnswer_UnknownState,
    ki_BadAnswer_BadAnswer := ki_BadAnswer_BadAnswer,
    ki_BadAnswer_BadJoint := ki_BadAnswer_BadJoint,
    ki_BadAnswer_BadKind := ki_BadAnswer_BadKind,
    ki_BadAnswer_BadWatch := ki_BadAnswer_BadWatch,
    ki_BadAnswer_BadRow := ki_BadAnswer_BadRow,
    ki_BadAnswer_BadTable := ki_BadAnswer_BadTable,
    kw_BadJoint := fun oc od fd osl e => by
      rw [xli_BadJoint] at e
      cases e
      exact fun a v => rfl,
    ca_BadJoint := ca_BadJoint,
    mo_BadJoint := mo_BadJoint,
    nr_BadJoint := nr_BadJoint,
    kv_BadJoint := kv_BadJoint,
    ki_BadJoint_BadNumber := ki_BadJoint_BadNumber,
    ki_BadJoint_BadTolerance := ki_BadJoint_BadTolerance,
    ki_BadJoint_BadGroup := ki_BadJoint_BadGroup,
    ki_BadJoint_BadLoop := ki_BadJoint_BadLoop,
    ki_BadJoint_UnknownState := ki_BadJoint_UnknownState,
    ki_BadJoint_BadAnswer := ki_BadJoint_BadAnswer,
    ki_BadJoint_BadJoint := ki_BadJoint_BadJoint,
    ki_BadJoint_BadKind := ki_BadJoint_BadKind,
    ki_BadJoint_BadWatch := ki_BadJoint_BadWatch,
    ki_BadJoint_BadRow := ki_BadJoint_BadRow,
    ki_BadJoint_BadTable := ki_BadJoint_BadTable,
    kw_BadKind := fun oc od fd osl e => by
      rw [xli_BadKind] at e
      cases e
      exact fun a v => rfl,
    ca_BadKind := ca_BadKind,
    mo_BadKind := mo_BadKind,
    nr_BadKind := nr_BadKind,
    kv_BadKind := kv_BadKind,
    ki_BadKind_BadNumber := ki_BadKind_BadNumber,
    ki_BadKind_BadTolerance := ki_BadKind_BadTolerance,
    ki_BadKind_BadGroup := ki_BadKind_BadGroup,
    ki_BadKind_BadLoop := ki_BadKind_BadLoop,
    ki_BadKind_UnknownState := ki_BadKind_UnknownState,
    ki_BadKind_BadAnswer := ki_BadKind_BadAnswer,
    ki_BadKind_BadJoint := ki_BadKind_BadJoint,
    ki_BadKind_BadKind := ki_BadKind_BadKind,
    ki_BadKind_BadWatch := ki_BadKind_BadWatch,
    ki_BadKind_BadRow := ki_BadKind_BadRow,
    ki_BadKind_BadTable := ki_BadKind_BadTable,
    kw_BadWatch := fun oc od fd osl e => by
      rw [xli_BadWatch] at e
      cases e
      exact fun a v => rfl,
    ca_BadWatch := ca_BadWatch,
    mo_BadWatch := mo_BadWatch,
    nr_BadWatch := nr_BadWatch,
    kv_BadWatch := kv_BadWatch,
    ki_BadWatch_BadNumber := ki_BadWatch_BadNumber,
    ki_BadWatch_BadTolerance := ki_BadWatch_BadTolerance,
    ki_BadWatch_BadGroup := ki_BadWatch_BadGroup,
    ki_BadWatch_BadLoop := ki_BadWatch_BadLoop,
    ki_BadWatch_UnknownState := ki_BadWatch_UnknownState,
    ki_BadWatch_BadAnswer := ki_BadWatch_BadAnswer,
    ki_BadWatch_BadJoint := ki_BadWatch_BadJoint,
    ki_BadWatch_BadKind := ki_BadWatch_BadKind,
    ki_BadWatch_BadWatch := ki_BadWatch_BadWatch,
    ki_BadWatch_BadRow := ki_BadWatch_BadRow,
    ki_BadWatch_BadTable := ki_BadWatch_BadTable,
    ca_BadRow := ca_BadRow,
    mo_BadRow := mo_BadRow,
    nr_BadRow := nr_BadRow,
    kv_BadRow := kv_BadRow,
    ki_BadRow_BadNumber := ki_BadRow_BadNumber,
    ki_BadRow_BadTolerance := ki_BadRow_BadTolerance,
    ki_BadRow_BadGroup := ki_BadRow_BadGroup,
    ki_BadRow_BadLoop := ki_BadRow_BadLoop,
    ki_BadRow_UnknownState := ki_BadRow_UnknownState,
    ki_BadRow_BadAnswer := ki_BadRow_BadAnswer,
    ki_BadRow_BadJoint := ki_BadRow_BadJoint,
    ki_BadRow_BadKind := ki_BadRow_BadKind,
    ki_BadRow_BadWatch := ki_BadRow_BadWatch,
    ki_BadRow_BadRow := ki_BadRow_BadRow,
    ki_BadRow_BadTable := ki_BadRow_BadTable,
    ca_BadTable := ca_BadTable,
    mo_BadTable := mo_BadTable,
    nr_BadTable := nr_BadTable,
    kv_BadTable := kv_BadTable,
    ki_BadTable_BadNumber := ki_BadTable_BadNumber,
    ki_BadTable_BadTolerance := ki_BadTable_BadTolerance,
    ki_BadTable_BadGroup := ki_BadTable_BadGroup,
    ki_BadTable_BadLoop := ki_BadTable_BadLoop,
    ki_BadTable_UnknownState := ki_BadTable_UnknownState,
    ki_BadTable_BadAnswer := ki_BadTable_BadAnswer,
    ki_BadTable_BadJoint := ki_BadTable_BadJoint,
    ki_BadTable_BadKind := ki_BadTable_BadKind,
    ki_BadTable_BadWatch := ki_BadTable_BadWatch,
    ki_BadTable_BadRow := ki_BadTable_BadRow,
    ki_BadTable_BadTable := ki_BadTable_BadTable,
    C_BadAnswer := C_BadAnswer, i_BadAnswer := i_BadAnswer, er_BadAnswer := er_BadAnswer, fn_BadAnswer := fn_BadAnswer, xf_BadAnswer := ⟨xga_BadAnswer, xgg_BadAnswer, xex_BadAnswer, xhd_BadAnswer⟩, te_BadAnswer := xte_BadAnswer,
    ne_BadAnswer_BadGroup := xne_BadAnswer_BadGroup,
    ne_BadAnswer_BadJoint := xne_BadAnswer_BadJoint,
    ne_BadAnswer_BadKind := xne_BadAnswer_BadKind,
    ne_BadAnswer_BadLoop := xne_BadAnswer_BadLoop,
    ne_BadAnswer_BadNumber := xne_BadAnswer_BadNumber,
    ne_BadAnswer_BadRow := xne_BadAnswer_BadRow,
    ne_BadAnswer_BadTable := xne_BadAnswer_BadTable,
    ne_BadAnswer_BadTolerance := xne_BadAnswer_BadTolerance,
    ne_BadAnswer_BadWatch := xne_BadAnswer_BadWatch,
    ne_BadAnswer_UnknownState := xne_BadAnswer_UnknownState,
    C_BadGroup := C_BadGroup, i_BadGroup := i_BadGroup, er_BadGroup := er_BadGroup, fn_BadGroup := fn_BadGroup, xf_BadGroup := ⟨xga_BadGroup, xgg_BadGroup, xex_BadGroup, xhd_BadGroup⟩, te_BadGroup := xte_BadGroup,
    ne_BadGroup_BadAnswer := xne_BadGroup_BadAnswer,
    ne_BadGroup_BadJoint := xne_BadGroup_BadJoint,
    ne_BadGroup_BadKind := xne_BadGroup_BadKind,
    ne_BadGroup_BadLoop := xne_BadGroup_BadLoop,
    ne_BadGroup_BadNumber := xne_BadGroup_BadNumber,
    ne_BadGroup_BadRow := xne_BadGroup_BadRow,
    ne_BadGroup_BadTable := xne_BadGroup_BadTable,
    ne_BadGroup_BadTolerance := xne_BadGroup_BadTolerance,
    ne_BadGroup_BadWatch := xne_BadGroup_BadWatch,
    ne_BadGroup_UnknownState := xne_BadGroup_UnknownState,
    C_BadJoint := C_BadJoint, i_BadJoint := i_BadJoint, er_BadJoint := er_BadJoint, fn_BadJoint := fn_BadJoint, xf_BadJoint := ⟨xga_BadJoint, xgg_BadJoint, xex_BadJoint, xhd_BadJoint⟩, te_BadJoint := xte_BadJoint,
    ne_BadJoint_BadAnswer := xne_BadJoint_BadAnswer,
    ne_BadJoint_BadGroup := xne_BadJoint_BadGroup,
    ne_BadJoint_BadKind := xne_BadJoint_BadKind,
    ne_BadJoint_BadLoop := xne_BadJoint_BadLoop,
    ne_BadJoint_BadNumber := xne_BadJoint_BadNumber,
    ne_BadJoint_BadRow := xne_BadJoint_BadRow,
    ne_BadJoint_BadTable := xne_BadJoint_BadTable,
    ne_BadJoint_BadTolerance := xne_BadJoint_BadTolerance,
    ne_BadJoint_BadWatch := xne_BadJoint_BadWatch,
    ne_BadJoint_UnknownState := xne_BadJoint_UnknownState,
    C_BadKind := C_BadKind, i_BadKind := i_BadKind, er_BadKind := er_BadKind, fn_BadKind := fn_BadKind, xf_BadKind := ⟨xga_BadKind, xgg_BadKind, xex_BadKind, xhd_BadKind⟩, te_BadKind := xte_BadKind,
    ne_BadKind_BadAnswer := xne_BadKind_BadAnswer,
    ne_BadKind_BadGroup := xne_BadKind_BadGroup,
    ne_BadKind_BadJoint := xne_BadKind_BadJoint,
    ne_BadKind_BadLoop := xne_BadKind_BadLoop,
    ne_BadKind_BadNumber := xne_BadKind_BadNumber,
    ne_BadKind_BadRow := xne_BadKind_BadRow,
    ne_BadKind_BadTable := xne_BadKind_BadTable,
    ne_BadKind_BadTolerance := xne_BadKind_BadTolerance,
    ne_BadKind_BadWatch := xne_BadKind_BadWatch,
    ne_BadKind_UnknownState := xne_BadKind_UnknownState,
    C_BadLoop := C_BadLoop, i_BadLoop := i_BadLoop, er_BadLoop := er_BadLoop, fn_BadLoop := fn_BadLoop, xf_BadLoop := ⟨xga_BadLoop, xgg_BadLoop, xex_BadLoop, xhd_BadLoop⟩, te_BadLoop := xte_BadLoop,
    ne_BadLoop_BadAnswer := xne_BadLoop_BadAnswer,
    ne_BadLoop_BadGroup := xne_BadLoop_BadGroup,
    ne_BadLoop_BadJoint := xne_BadLoop_BadJoint,
    ne_BadLoop_BadKind := xne_BadLoop_BadKind,
    ne_BadLoop_BadNumber := xne_BadLoop_BadNumber,
    ne_BadLoop_BadRow := xne_BadLoop_BadRow,
    ne_BadLoop_BadTable := xne_BadLoop_BadTable,
    ne_BadLoop_BadTolerance := xne_BadLoop_BadTolerance,
    ne_BadLoop_BadWatch := xne_BadLoop_BadWatch,
    ne_BadLoop_UnknownState := xne_BadLoop_UnknownState,
    C_BadNumber := C_BadNumber, i_BadNumber := i_BadNumber, er_BadNumber := er_BadNumber, fn_BadNumber := fn_BadNumber, xf_BadNumber := ⟨xga_BadNumber, xgg_BadNumber, xex_BadNumber, xhd_BadNumber⟩, te_BadNumber := xte_BadNumber,
    ne_BadNumber_BadAnswer := xne_BadNumber_BadAnswer,
    ne_BadNumber_BadGroup := xne_BadNumber_BadGroup,
    ne_BadNumber_BadJoint := xne_BadNumber_BadJoint,
    ne_BadNumber_BadKind := xne_BadNumber_BadKind,
    ne_BadNumber_BadLoop := xne_BadNumber_BadLoop,
    ne_BadNumber_BadRow := xne_BadNumber_BadRow,
    ne_BadNumber_BadTable := xne_BadNumber_BadTable,
    ne_BadNumber_BadTolerance := xne_BadNumber_BadTolerance,
    ne_BadNumber_BadWatch := xne_BadNumber_BadWatch,
    ne_BadNumber_UnknownState := xne_BadNumber_UnknownState,
    C_BadRow := C_BadRow, i_BadRow := i_BadRow, er_BadRow := er_BadRow, fn_BadRow := fn_BadRow, xf_BadRow := ⟨xga_BadRow, xgg_BadRow, xex_BadRow, xhd_BadRow⟩, te_BadRow := xte_BadRow,
    ne_BadRow_BadAnswer := xne_BadRow_BadAnswer,
    ne_BadRow_BadGroup := xne_BadRow_BadGroup,
    ne_BadRow_BadJoint := xne_BadRow_BadJoint,
    ne_BadRow_BadKind := xne_BadRow_BadKind,
    ne_BadRow_BadLoop := xne_BadRow_BadLoop,
    ne_BadRow_BadNumber := xne_BadRow_BadNumber,
    ne_BadRow_BadTable := xne_BadRow_BadTable,
    ne_BadRow_BadTolerance := xne_BadRow_BadTolerance,
    ne_BadRow_BadWatch := xne_BadRow_BadWatch,
    ne_BadRow_UnknownState := xne_BadRow_UnknownState,
    C_BadTable := C_BadTable, i_BadTable := i_BadTable, er_BadTable := er_BadTable, fn_BadTable := fn_BadTable, xf_BadTable := ⟨xga_BadTable, xgg_BadTable, xex_BadTable, xhd_BadTable⟩, te_BadTable := xte_BadTable,
    ne_BadTable_BadAnswer := xne_BadTable_BadAnswer,
    ne_BadTable_BadGroup := xne_BadTable_BadGroup,
    ne_BadTable_BadJoint := xne_BadTable_BadJoint,
    ne_BadTable_BadKind := xne_BadTable_BadKind,
    ne_BadTable_BadLoop := xne_BadTable_BadLoop,
    ne_BadTable_BadNumber := xne_BadTable_BadNumber,
    ne_BadTable_BadRow := xne_BadTable_BadRow,
    ne_BadTable_BadTolerance := xne_BadTable_BadTolerance,
    ne_BadTable_BadWatch := xne_BadTable_BadWatch,
    ne_BadTable_UnknownState := xne_BadTable_UnknownState,
    C_BadTolerance := C_BadTolerance, i_BadTolerance := i_BadTolerance, er_BadTolerance := er_BadTolerance, fn_BadTolerance := fn_BadTolerance, xf_BadTolerance := ⟨xga_BadTolerance, xgg_BadTolerance, xex_BadTolerance, xhd_BadTolerance⟩, te_BadTolerance := xte_BadTolerance,
    ne_BadTolerance_BadAnswer := xne_BadTolerance_BadAnswer,
    ne_BadTolerance_BadGroup := xne_BadTolerance_BadGroup,
    ne_BadTolerance_BadJoint := xne_BadTolerance_BadJoint,
    ne_BadTolerance_BadKind := xne_BadTolerance_BadKind,
    ne_BadTolerance_BadLoop := xne_BadTolerance_BadLoop,
    ne_BadTolerance_BadNumber := xne_BadTolerance_BadNumber,
    ne_BadTolerance_BadRow := xne_BadTolerance_BadRow,
    ne_BadTolerance_BadTable := xne_BadTolerance_BadTable,
    ne_BadTolerance_BadWatch := xne_BadTolerance_BadWatch,
    ne_BadTolerance_UnknownState := xne_BadTolerance_UnknownState,
    C_BadWatch := C_BadWatch, i_BadWatch := i_BadWatch, er_BadWatch := er_BadWatch, fn_BadWatch := fn_BadWatch, xf_BadWatch := ⟨xga_BadWatch, xgg_BadWatch, xex_BadWatch, xhd_BadWatch⟩, te_BadWatch := xte_BadWatch,
    ne_BadWatch_BadAnswer := xne_BadWatch_BadAnswer,
    ne_BadWatch_BadGroup := xne_BadWatch_BadGroup,
    ne_BadWatch_BadJoint := xne_BadWatch_BadJoint,
    ne_BadWatch_BadKind := xne_BadWatch_BadKind,
    ne_BadWatch_BadLoop := xne_BadWatch_BadLoop,
    ne_BadWatch_BadNumber := xne_BadWatch_BadNumber,
    ne_BadWatch_BadRow := xne_BadWatch_BadRow,
    ne_BadWatch_BadTable := xne_BadWatch_BadTable,
    ne_BadWatch_BadTolerance := xne_BadWatch_BadTolerance,
    ne_BadWatch_UnknownState := xne_BadWatch_UnknownState,
    C_UnknownState := C_UnknownState, i_UnknownState := i_UnknownState, er_UnknownState := er_UnknownState, fn_UnknownState := fn_UnknownState, xf_UnknownState := ⟨xga_UnknownState, xgg_UnknownState, xex_UnknownState, xhd_UnknownState⟩, te_UnknownState := xte_UnknownState,
    ne_UnknownState_BadAnswer := xne_UnknownState_BadAnswer,
    ne_UnknownState_BadGroup := xne_UnknownState_BadGroup,
    ne_UnknownState_BadJoint := xne_UnknownState_BadJoint,
    ne_UnknownState_BadKind := xne_UnknownState_BadKind,
    ne_UnknownState_BadLoop := xne_UnknownState_BadLoop,
    ne_UnknownState_BadNumber := xne_UnknownState_BadNumber,
    ne_UnknownState_BadRow := xne_UnknownState_BadRow,
    ne_UnknownState_BadTable := xne_UnknownState_BadTable,
    ne_UnknownState_BadTolerance := xne_UnknownState_BadTolerance,
    ne_UnknownState_BadWatch := xne_UnknownState_BadWatch }
  exact ⟨PySem.W.fnOf "law" "law" (defArgs s_law) (defBody s_law) (defScope s_law) .none kV_law dc_law pm_law an_law cd_law ct_law, fun s v => .of_eq rfl, fun base _ _ => ok_law T⟩
theorem walk {l : PySem.W.OpenLaw} {q : Program} {loose : List Str} {XP : (Str → Option Value) → Heap → Prop} {YP : World → Heap → Prop} {d : DefRec} {K : Params → PySem.W.Frag} (hn : l.most = some 63) (hdf : d.params.defaults = [])
    (hY : ∀ (w : World) (h : Heap), YP w h → (K w.params).In h)
    (F : ∀ (w : World) (mg : Str → Option Value) (fa : Addr) (h : Heap), (K w.params).In h → h.Ns mainGlobals mg → mg d.name = some (.ref fa) →
      ∃ fd : FuncData, (∀ (s : Shared) (u : Value), BindsTo s fd ⟨[u], []⟩ [("_law_script", u)]) ∧ ∀ base : Heap, (K w.params).In base → base.Ns mainGlobals mg → FnOk l.prog w (K w.params) mg base CX0 9 fa fd ["_law_script"] (spLaw (K w.params))) :
    PySem.W.WalkO q loose XP YP l.row.toRowW d [] (fun f vs => PySem.call f vs) :=
  L2.walk_of (n := 63) (k := 9) (x := "_law_script") (CX := fun _ => CX0) (sp := fun w => spLaw (K w.params)) hn (by decide) hdf ⟨rfl, by decide, by decide⟩ hY F (fun _ _ a ns hl _ hS => ⟨a, ns, rfl, hS, hl, fun _ => rfl⟩) fun _ _ _ _ _ z => z
end Toy
open PySem PySem.W PyProof.Rows
set_option maxRecDepth 100000 in
set_option maxHeartbeats 0 in
theorem PySem.Challenge.cw_nearloops_k35_errors_made_holds : PySem.Challenge.rw_nearloops_k35_errors_made.Holds := by
  w_on; o_law; k_head; (case hw => w_witness2)
  k_fill
  refine Toy.walk (l := PySem.Challenge.rw_nearloops_k35_errors_made) rfl rfl (fun w h Y => PySem.W.kIn_of Y) ?F
  case F =>
    intro w mg fa h KX G hmg
    refine' Toy.all_mk KX G hmg ?a_law_source ?l_law_source ?c_law_source ?k_law_source ?a_law_draw ?l_law_draw ?c_law_draw ?k_law_draw ?a_law_pick ?l_law_pick ?c_law_pick ?k_law_pick ?a_law_raised ?l_law_raised ?c_law_raised ?k_law_raised ?a_law_fields ?l_law_fields ?c_law_fields ?k_law_fields ?a_law_caught ?l_law_caught ?c_law_caught ?k_law_caught ?a_law ?l_law ?c_law ?k_law ?z_int ?z_range ?z_len ?z_isinstance ?z_ValueError ?xg_BadAnswer ?xc_BadAnswer ?xsa_BadAnswer ?xga_BadAnswer ?xgg_BadAnswer ?xic_BadAnswer ?xtc_BadAnswer ?xkc_BadAnswer ?xex_BadAnswer ?xty_BadAnswer ?xhd_BadAnswer ?xsu_BadAnswer ?xsv_BadAnswer ?xmr_BadAnswer ?xst_BadAnswer ?xms_BadAnswer ?xht_BadAnswer ?xno_BadAnswer ?xli_BadAnswer ?xci_BadAnswer ?xcd_BadAnswer ?xv2_BadAnswer ?xfi_BadAnswer ?xcc_BadAnswer ?xte_BadAnswer ?xg_BadGroup ?xc_BadGroup ?xsa_BadGroup ?xga_BadGroup ?xgg_BadGroup ?xic_BadGroup ?xtc_BadGroup ?xkc_BadGroup ?xex_BadGroup ?xty_BadGroup ?xhd_BadGroup ?xsu_BadGroup ?xsv_BadGroup ?xmr_BadGroup ?xst_BadGroup ?xms_BadGroup ?xht_BadGroup ?xno_BadGroup ?xli_BadGroup ?xci_BadGroup ?xcd_BadGroup ?xv2_BadGroup ?xfi_BadGroup ?xcc_BadGroup ?xte_BadGroup ?xg_BadJoint ?xc_BadJoint ?xsa_BadJoint ?xga_BadJoint ?xgg_BadJoint ?xic_BadJoint ?xtc_BadJoint ?xkc_BadJoint ?xex_BadJoint ?xty_BadJoint ?xhd_BadJoint ?xsu_BadJoint ?xsv_BadJoint ?xmr_BadJoint ?xst_BadJoint ?xms_BadJoint ?xht_BadJoint ?xno_BadJoint ?xli_BadJoint ?xci_BadJoint ?xcd_BadJoint ?xv2_BadJoint ?xfi_BadJoint ?xcc_BadJoint ?xte_BadJoint ?xg_BadKind ?xc_BadKind ?xsa_BadKind ?xga_BadKind ?xgg_BadKind ?xic_BadKind ?xtc_BadKind ?xkc_BadKind ?xex_BadKind ?xty_BadKind ?xhd_BadKind ?xsu_BadKind ?xsv_BadKind ?xmr_BadKind ?xst_BadKind ?xms_BadKind ?xht_BadKind ?xno_BadKind ?xli_BadKind ?xci_BadKind ?xcd_BadKind ?xv2_BadKind ?xfi_BadKind ?xcc_BadKind ?xte_BadKind ?xg_BadLoop ?xc_BadLoop ?xsa_BadLoop ?xga_BadLoop ?xgg_BadLoop ?xic_BadLoop ?xtc_BadLoop ?xkc_BadLoop ?xex_BadLoop ?xty_BadLoop ?xhd_BadLoop ?xsu_BadLoop ?xsv_BadLoop ?xmr_BadLoop ?xst_BadLoop ?xms_BadLoop ?xht_BadLoop ?xno_BadLoop ?xli_BadLoop ?xci_BadLoop ?xcd_BadLoop ?xv2_BadLoop ?xfi_BadLoop ?xcc_BadLoop ?xte_BadLoop ?xg_BadNumber ?xc_BadNumber ?xsa_BadNumber ?xga_BadNumber ?xgg_BadNumber ?xic_BadNumber ?xtc_BadNumber ?xkc_BadNumber ?xex_BadNumber ?xty_BadNumber ?xhd_BadNumber ?xsu_BadNumber ?xsv_BadNumber ?xmr_BadNumber ?xst_BadNumber ?xms_BadNumber ?xht_BadNumber ?xno_BadNumber ?xli_BadNumber ?xci_BadNumber ?xcd_BadNumber ?xv2_BadNumber ?xfi_BadNumber ?xcc_BadNumber ?xte_BadNumber ?xg_BadRow ?xc_BadRow ?xsa_BadRow ?xga_BadRow ?xgg_BadRow ?xic_BadRow ?xtc_BadRow ?xkc_BadRow ?xex_BadRow ?xty_BadRow ?xhd_BadRow ?xsu_BadRow ?xsv_BadRow ?xmr_BadRow ?xst_BadRow ?xms_BadRow ?xht_BadRow ?xli_BadRow ?xci_BadRow ?xcd_BadRow ?xv2_BadRow ?xfi_BadRow ?xcc_BadRow ?xte_BadRow ?xg_BadTable ?xc_BadTable ?xsa_BadTable ?xga_BadTable ?xgg_BadTable ?xic_BadTable ?xtc_BadTable ?xkc_BadTable ?xex_BadTable ?xty_BadTable ?xhd_BadTable ?xsu_BadTable ?xsv_BadTable ?xmr_BadTable ?xst_BadTable ?xms_BadTable ?xht_BadTable ?xli_BadTable ?xci_BadTable ?xcd_BadTable ?xv2_BadTable ?xfi_BadTable ?xcc_BadTable ?xte_BadTable ?xg_BadTolerance ?xc_BadTolerance ?xsa_BadTolerance ?xga_BadTolerance ?xgg_BadTolerance ?xic_BadTolerance ?xtc_BadTolerance ?xkc_BadTolerance ?xex_BadTolerance ?xty_BadTolerance ?xhd_BadTolerance ?xsu_BadTolerance ?xsv_BadTolerance ?xmr_BadTolerance ?xst_BadTolerance ?xms_BadTolerance ?xht_BadTolerance ?xno_BadTolerance ?xli_BadTolerance ?xci_BadTolerance ?xcd_BadTolerance ?xv2_BadTolerance ?xfi_BadTolerance ?xcc_BadTolerance ?xte_BadTolerance ?xg_BadWatch ?xc_BadWatch ?xsa_BadWatch ?xga_BadWatch ?xgg_BadWatch ?xic_BadWatch ?xtc_BadWatch ?xkc_BadWatch ?xex_BadWatch ?xty_BadWatch ?xhd_BadWatch ?xsu_BadWatch ?xsv_BadWatch ?xmr_BadWatch ?xst_BadWatch ?xms_BadWatch ?xht_BadWatch ?xno_BadWatch ?xli_BadWatch ?xci_BadWatch ?xcd_BadWatch ?xv2_BadWatch ?xfi_BadWatch ?xcc_BadWatch ?xte_BadWatch ?xg_UnknownState ?xc_UnknownState ?xsa_UnknownState ?xga_UnknownState ?xgg_UnknownState ?xic_UnknownState ?xtc_UnknownState ?xkc_UnknownState ?xex_UnknownState ?xty_UnknownState ?xhd_UnknownState ?xsu_UnknownState ?xsv_UnknownState ?xmr_UnknownState ?xst_UnknownState ?xms_UnknownState ?xht_UnknownState ?xno_UnknownState ?xli_UnknownState ?xci_UnknownState ?xcd_UnknownState ?xv2_UnknownState ?xfi_UnknownState ?xcc_UnknownState ?xte_UnknownState ?xne_BadAnswer_BadGroup ?xne_BadAnswer_BadJoint ?xne_BadAnswer_BadKind ?xne_BadAnswer_BadLoop ?xne_BadAnswer_BadNumber ?xne_BadAnswer_BadRow ?xne_BadAnswer_BadTable ?xne_BadAnswer_BadTolerance ?xne_BadAnswer_BadWatch ?xne_BadAnswer_UnknownState ?xne_BadGroup_BadAnswer ?xne_BadGroup_BadJoint ?xne_BadGroup_BadKind ?xne_BadGroup_BadLoop ?xne_BadGroup_BadNumber ?xne_BadGroup_BadRow ?xne_BadGroup_BadTable ?xne_BadGroup_BadTolerance ?xne_BadGroup_BadWatch ?xne_BadGroup_UnknownState ?xne_BadJoint_BadAnswer ?xne_BadJoint_BadGroup ?xne_BadJoint_BadKind ?xne_BadJoint_BadLoop ?xne_BadJoint_BadNumber ?xne_BadJoint_BadRow ?xne_BadJoint_BadTable ?xne_BadJoint_BadTolerance ?xne_BadJoint_BadWatch ?xne_BadJoint_UnknownState ?xne_BadKind_BadAnswer ?xne_BadKind_BadGroup ?xne_BadKind_BadJoint ?xne_BadKind_BadLoop ?xne_BadKind_BadNumber ?xne_BadKind_BadRow ?xne_BadKind_BadTable ?xne_BadKind_BadTolerance ?xne_BadKind_BadWatch ?xne_BadKind_UnknownState ?xne_BadLoop_BadAnswer ?xne_BadLoop_BadGroup ?xne_BadLoop_BadJoint ?xne_BadLoop_BadKind ?xne_BadLoop_BadNumber ?xne_BadLoop_BadRow ?xne_BadLoop_BadTable ?xne_BadLoop_BadTolerance ?xne_BadLoop_BadWatch ?xne_BadLoop_UnknownState ?xne_BadNumber_BadAnswer ?xne_BadNumber_BadGroup ?xne_BadNumber_BadJoint ?xne_BadNumber_BadKind ?xne_BadNumber_BadLoop ?xne_BadNumber_BadRow ?xne_BadNumber_BadTable ?xne_BadNumber_BadTolerance ?xne_BadNumber_BadWatch ?xne_BadNumber_UnknownState ?xne_BadRow_BadAnswer ?xne_BadRow_BadGroup ?xne_BadRow_BadJoint ?xne_BadRow_BadKind ?xne_BadRow_BadLoop ?xne_BadRow_BadNumber ?xne_BadRow_BadTable ?xne_BadRow_BadTolerance ?xne_BadRow_BadWatch ?xne_BadRow_UnknownState ?xne_BadTable_BadAnswer ?xne_BadTable_BadGroup ?xne_BadTable_BadJoint ?xne_BadTable_BadKind ?xne_BadTable_BadLoop ?xne_BadTable_BadNumber ?xne_BadTable_BadRow ?xne_BadTable_BadTolerance ?xne_BadTable_BadWatch ?xne_BadTable_UnknownState ?xne_BadTolerance_BadAnswer ?xne_BadTolerance_BadGroup ?xne_BadTolerance_BadJoint ?xne_BadTolerance_BadKind ?xne_BadTolerance_BadLoop ?xne_BadTolerance_BadNumber ?xne_BadTolerance_BadRow ?xne_BadTolerance_BadTable ?xne_BadTolerance_BadWatch ?xne_BadTolerance_UnknownState ?xne_BadWatch_BadAnswer ?xne_BadWatch_BadGroup ?xne_BadWatch_BadJoint ?xne_BadWatch_BadKind ?xne_BadWatch_BadLoop ?xne_BadWatch_BadNumber ?xne_BadWatch_BadRow ?xne_BadWatch_BadTable ?xne_BadWatch_BadTolerance ?xne_BadWatch_UnknownState ?xne_UnknownState_BadAnswer ?xne_UnknownState_BadGroup ?xne_UnknownState_BadJoint ?xne_UnknownState_BadKind ?xne_UnknownState_BadLoop ?xne_UnknownState_BadNumber ?xne_UnknownState_BadRow ?xne_UnknownState_BadTable ?xne_UnknownState_BadTolerance ?xne_UnknownState_BadWatch ?xg_Near ?gn_x ?gt_x ?ca_BadNumber ?mo_BadNumber ?nr_BadNumber ?kv_BadNumber ?ki_BadNumber_BadNumber ?ki_BadNumber_BadTolerance ?ki_BadNumber_BadGroup ?ki_BadNumber_BadLoop ?ki_BadNumber_UnknownState ?ki_BadNumber_BadAnswer ?ki_BadNumber_BadJoint ?ki_BadNumber_BadKind ?ki_BadNumber_BadWatch ?ki_BadNumber_BadRow ?ki_BadNumber_BadTable ?ca_BadTolerance ?mo_BadTolerance ?nr_BadTolerance ?kv_BadTolerance ?ki_BadTolerance_BadNumber ?ki_BadTolerance_BadTolerance ?ki_BadTolerance_BadGroup ?ki_BadTolerance_BadLoop ?ki_BadTolerance_UnknownState ?ki_BadTolerance_BadAnswer ?ki_BadTolerance_BadJoint ?ki_BadTolerance_BadKind ?ki_BadTolerance_BadWatch ?ki_BadTolerance_BadRow ?ki_BadTolerance_BadTable ?ca_BadGroup ?mo_BadGroup ?nr_BadGroup ?kv_BadGroup ?ki_BadGroup_BadNumber ?ki_BadGroup_BadTolerance ?ki_BadGroup_BadGroup ?ki_BadGroup_BadLoop ?ki_BadGroup_UnknownState ?ki_BadGroup_BadAnswer ?ki_BadGroup_BadJoint ?ki_BadGroup_BadKind ?ki_BadGroup_BadWatch ?ki_BadGroup_BadRow ?ki_BadGroup_BadTable ?ca_BadLoop ?mo_BadLoop ?nr_BadLoop ?kv_BadLoop ?ki_BadLoop_BadNumber ?ki_BadLoop_BadTolerance ?ki_BadLoop_BadGroup ?ki_BadLoop_BadLoop ?ki_BadLoop_UnknownState ?ki_BadLoop_BadAnswer ?ki_BadLoop_BadJoint ?ki_BadLoop_BadKind ?ki_BadLoop_BadWatch ?ki_BadLoop_BadRow ?ki_BadLoop_BadTable ?ca_UnknownState ?mo_UnknownState ?nr_UnknownState ?kv_UnknownState ?ki_UnknownState_BadNumber ?ki_UnknownState_BadTolerance ?ki_UnknownState_BadGroup ?ki_UnknownState_BadLoop ?ki_UnknownState_UnknownState ?ki_UnknownState_BadAnswer ?ki_UnknownState_BadJoint ?ki_UnknownState_BadKind ?ki_UnknownState_BadWatch ?ki_UnknownState_BadRow ?ki_UnknownState_BadTable ?ca_BadAnswer ?mo_BadAnswer ?nr_BadAnswer ?kv_BadAnswer ?ki_BadAnswer_BadNumber ?ki_BadAnswer_BadTolerance ?ki_BadAnswer_BadGroup ?ki_BadAnswer_BadLoop ?ki_BadAnswer_UnknownState ?ki_BadAnswer_BadAnswer ?ki_BadAnswer_BadJoint ?ki_BadAnswer_BadKind ?ki_BadAnswer_BadWatch ?ki_BadAnswer_BadRow ?ki_BadAnswer_BadTable ?ca_BadJoint ?mo_BadJoint ?nr_BadJoint ?kv_BadJoint ?ki_BadJoint_BadNumber ?ki_BadJoint_BadTolerance ?ki_BadJoint_BadGroup ?ki_BadJoint_BadLoop ?ki_BadJoint_UnknownState ?ki_BadJoint_BadAnswer ?ki_BadJoint_BadJoint ?ki_BadJoint_BadKind ?ki_BadJoint_BadWatch ?ki_BadJoint_BadRow ?ki_BadJoint_BadTable ?ca_BadKind ?mo_BadKind ?nr_BadKind ?kv_BadKind ?ki_BadKind_BadNumber ?ki_BadKind_BadTolerance ?ki_BadKind_BadGroup ?ki_BadKind_BadLoop ?ki_BadKind_UnknownState ?ki_BadKind_BadAnswer ?ki_BadKind_BadJoint ?ki_BadKind_BadKind ?ki_BadKind_BadWatch ?ki_BadKind_BadRow ?ki_BadKind_BadTable ?ca_BadWatch ?mo_BadWatch ?nr_BadWatch ?kv_BadWatch ?ki_BadWatch_BadNumber ?ki_BadWatch_BadTolerance ?ki_BadWatch_BadGroup ?ki_BadWatch_BadLoop ?ki_BadWatch_UnknownState ?ki_BadWatch_BadAnswer ?ki_BadWatch_BadJoint ?ki_BadWatch_BadKind ?ki_BadWatch_BadWatch ?ki_BadWatch_BadRow ?ki_BadWatch_BadTable ?ca_BadRow ?mo_BadRow ?nr_BadRow ?kv_BadRow ?ki_BadRow_BadNumber ?ki_BadRow_BadTolerance ?ki_BadRow_BadGroup ?ki_BadRow_BadLoop ?ki_BadRow_UnknownState ?ki_BadRow_BadAnswer ?ki_BadRow_BadJoint ?ki_BadRow_BadKind ?ki_BadRow_BadWatch ?ki_BadRow_BadRow ?ki_BadRow_BadTable ?ca_BadTable ?mo_BadTable ?nr_BadTable ?kv_BadTable ?ki_BadTable_BadNumber ?ki_BadTable_BadTolerance ?ki_BadTable_BadGroup ?ki_BadTable_BadLoop ?ki_BadTable_UnknownState ?ki_BadTable_BadAnswer ?ki_BadTable_BadJoint ?ki_BadTable_BadKind ?ki_BadTable_BadWatch ?ki_BadTable_BadRow ?ki_BadTable_BadTable
    (case a_law_source => k_is)
    (case l_law_source => k_is)
    (case c_law_source => k_is)
    (case k_law_source => k_is)
    (case a_law_draw => k_is)
    (case l_law_draw => k_is)
    (case c_law_draw => k_is)
    (case k_law_draw => k_is)
    (case a_law_pick => k_is)
    (case l_law_pick => k_is)
    (case c_law_pick => k_is)
    (case k_law_pick => k_is)
    (case a_law_raised => k_is)
    (case l_law_raised => k_is)
    (case c_law_raised => k_is)
    (case k_law_raised => k_is)
    (case a_law_fields => k_is)
    (case l_law_fields => k_is)
    (case c_law_fields => k_is)
    (case k_law_fields => k_is)
    (case a_law_caught => k_is)
    (case l_law_caught => k_is)
    (case c_law_caught => k_is)
    (case k_law_caught => k_is)
    (case a_law => k_is)
    (case l_law => k_is)
    (case c_law => k_is)
    (case k_law => k_is)
    (case z_int => k_is)
    (case z_range => k_is)
    (case z_len => k_is)
    (case z_isinstance => k_is)
    (case z_ValueError => k_is)
    (case xg_BadAnswer => k_is)
    (case xc_BadAnswer => k_is)
    (case xsa_BadAnswer => k_is)
    (case xga_BadAnswer => k_is)
    (case xgg_BadAnswer => k_is)
    (case xic_BadAnswer => k_is)
    (case xtc_BadAnswer => k_is)
    (case xkc_BadAnswer => k_is)
    (case xex_BadAnswer => k_is)
    (case xty_BadAnswer => k_is)
    (case xhd_BadAnswer => k_is)
    (case xsu_BadAnswer => first | ks_is | first | rfl | kernel_rfl | decide +kernel)
    (case xsv_BadAnswer => k_is)
    (case xmr_BadAnswer => k_is)
    (case xst_BadAnswer => k_is)
    (case xms_BadAnswer => k_is)
    (case xht_BadAnswer => first | rfl | kernel_rfl | decide +kernel)
    (case xno_BadAnswer => k_is)
    (case xli_BadAnswer => k_is)
    (case xci_BadAnswer => k_is)
    (case xcd_BadAnswer => k_is)
    (case xv2_BadAnswer => exact rfl)
    (case xfi_BadAnswer => first | rfl | kernel_rfl | decide +kernel)
    (case xcc_BadAnswer => k_is)
    (case xte_BadAnswer => first | rfl | kernel_rfl | decide +kernel)
    (case xg_BadGroup => k_is)
    (case xc_BadGroup => k_is)
    (case xsa_BadGroup => k_is)
    (case xga_BadGroup => k_is)
    (case xgg_BadGroup => k_is)
    (case xic_BadGroup => k_is)
    (case xtc_BadGroup => k_is)
    (case xkc_BadGroup => k_is)
    (case xex_BadGroup => k_is)
    (case xty_BadGroup => k_is)
    (case xhd_BadGroup => k_is)
    (case xsu_BadGroup => first | ks_is | first | rfl | kernel_rfl | decide +kernel)
    (case xsv_BadGroup => k_is)
    (case xmr_BadGroup => k_is)
    (case xst_BadGroup => k_is)
    (case xms_BadGroup => k_is)
    (case xht_BadGroup => first | rfl | kernel_rfl | decide +kernel)
    (case xno_BadGroup => k_is)
    (case xli_BadGroup => k_is)
    (case xci_BadGroup => k_is)
    (case xcd_BadGroup => k_is)
    (case xv2_BadGroup => exact rfl)
    (case xfi_BadGroup => first | rfl | kernel_rfl | decide +kernel)
    (case xcc_BadGroup => k_is)
    (case xte_BadGroup => first | rfl | kernel_rfl | decide +kernel)
    (case xg_BadJoint => k_is)
    (case xc_BadJoint => k_is)
    (case xsa_BadJoint => k_is)
    (case xga_BadJoint => k_is)
    (case xgg_BadJoint => k_is)
    (case xic_BadJoint => k_is)
    (case xtc_BadJoint => k_is)
    (case xkc_BadJoint => k_is)
    (case xex_BadJoint => k_is)
    (case xty_BadJoint => k_is)
    (case xhd_BadJoint => k_is)
    (case xsu_BadJoint => first | ks_is | first | rfl | kernel_rfl | decide +kernel)
    (case xsv_BadJoint => k_is)
    (case xmr_BadJoint => k_is)
    (case xst_BadJoint => k_is)
    (case xms_BadJoint => k_is)
    (case xht_BadJoint => first | rfl | kernel_rfl | decide +kernel)
    (case xno_BadJoint => k_is)
    (case xli_BadJoint => k_is)
    (case xci_BadJoint => k_is)
    (case xcd_BadJoint => k_is)
    (case xv2_BadJoint => exact rfl)
    (case xfi_BadJoint => first | rfl | kernel_rfl | decide +kernel)
    (case xcc_BadJoint => k_is)
    (case xte_BadJoint => first | rfl | kernel_rfl | decide +kernel)
    (case xg_BadKind => k_is)
    (case xc_BadKind => k_is)
    (case xsa_BadKind => k_is)
    (case xga_BadKind => k_is)
    (case xgg_BadKind => k_is)
    (case xic_BadKind => k_is)
    (case xtc_BadKind => k_is)
    (case xkc_BadKind => k_is)
    (case xex_BadKind => k_is)
    (case xty_BadKind => k_is)
    (case xhd_BadKind => k_is)
    (case xsu_BadKind => first | ks_is | first | rfl | kernel_rfl | decide +kernel)
    (case xsv_BadKind => k_is)
    (case xmr_BadKind => k_is)
    (case xst_BadKind => k_is)
    (case xms_BadKind => k_is)
    (case xht_BadKind => first | rfl | kernel_rfl | decide +kernel)
    (case xno_BadKind => k_is)
    (case xli_BadKind => k_is)
    (case xci_BadKind => k_is)
    (case xcd_BadKind => k_is)
    (case xv2_BadKind => exact rfl)
    (case xfi_BadKind => first | rfl | kernel_rfl | decide +kernel)
    (case xcc_BadKind => k_is)
    (case xte_BadKind => first | rfl | kernel_rfl | decide +kernel)
    (case xg_BadLoop => k_is)
    (case xc_BadLoop => k_is)
    (case xsa_BadLoop => k_is)
    (case xga_BadLoop => k_is)
    (case xgg_BadLoop => k_is)
    (case xic_BadLoop => k_is)
    (case xtc_BadLoop => k_is)
    (case xkc_BadLoop => k_is)
    (case xex_BadLoop => k_is)
    (case xty_BadLoop => k_is)
    (case xhd_BadLoop => k_is)
    (case xsu_BadLoop => first | ks_is | first | rfl | kernel_rfl | decide +kernel)
    (case xsv_BadLoop => k_is)
    (case xmr_BadLoop => k_is)
    (case xst_BadLoop => k_is)
    (case xms_BadLoop => k_is)
    (case xht_BadLoop => first | rfl | kernel_rfl | decide +kernel)
    (case xno_BadLoop => k_is)
    (case xli_BadLoop => k_is)
    (case xci_BadLoop => k_is)
    (case xcd_BadLoop => k_is)
    (case xv2_BadLoop => exact rfl)
    (case xfi_BadLoop => first | rfl | kernel_rfl | decide +kernel)
    (case xcc_BadLoop => k_is)
    (case xte_BadLoop => first | rfl | kernel_rfl | decide +kernel)
    (case xg_BadNumber => k_is)
    (case xc_BadNumber => k_is)
    (case xsa_BadNumber => k_is)
    (case xga_BadNumber => k_is)
    (case xgg_BadNumber => k_is)
    (case xic_BadNumber => k_is)
    (case xtc_BadNumber => k_is)
    (case xkc_BadNumber => k_is)
    (case xex_BadNumber => k_is)
    (case xty_BadNumber => k_is)
    (case xhd_BadNumber => k_is)
    (case xsu_BadNumber => first | ks_is | first | rfl | kernel_rfl | decide +kernel)
    (case xsv_BadNumber => k_is)
    (case xmr_BadNumber => k_is)
    (case xst_BadNumber => k_is)
    (case xms_BadNumber => k_is)
    (case xht_BadNumber => first | rfl | kernel_rfl | decide +kernel)
    (case xno_BadNumber => k_is)
    (case xli_BadNumber => k_is)
    (case xci_BadNumber => k_is)
    (case xcd_BadNumber => k_is)
    (case xv2_BadNumber => exact rfl)
    (case xfi_BadNumber => first | rfl | kernel_rfl | decide +kernel)
    (case xcc_BadNumber => k_is)
    (case xte_BadNumber => first | rfl | kernel_rfl | decide +kernel)
    (case xg_BadRow => k_is)
    (case xc_BadRow => k_is)
    (case xsa_BadRow => k_is)
    (case xga_BadRow => k_is)
    (case xgg_BadRow => k_is)
    (case xic_BadRow => k_is)
    (case xtc_BadRow => k_is)
    (case xkc_BadRow => k_is)
    (case xex_BadRow => k_is)
    (case xty_BadRow => k_is)
    (case xhd_BadRow => k_is)
    (case xsu_BadRow => first | ks_is | first | rfl | kernel_rfl | decide +kernel)
    (case xsv_BadRow => k_is)
    (case xmr_BadRow => k_is)
    (case xst_BadRow => k_is)
    (case xms_BadRow => k_is)
    (case xht_BadRow => first | rfl | kernel_rfl | decide +kernel)
    (case xli_BadRow => k_is)
    (case xci_BadRow => k_is)
    (case xcd_BadRow => k_is)
    (case xv2_BadRow => exact rfl)
    (case xfi_BadRow => first | rfl | kernel_rfl | decide +kernel)
    (case xcc_BadRow => k_is)
    (case xte_BadRow => first | rfl | kernel_rfl | decide +kernel)
    (case xg_BadTable => k_is)
    (case xc_BadTable => k_is)
    (case xsa_BadTable => k_is)
    (case xga_BadTable => k_is)
    (case xgg_BadTable => k_is)
    (case xic_BadTable => k_is)
    (case xtc_BadTable => k_is)
    (case xkc_BadTable => k_is)
    (case xex_BadTable => k_is)
    (case xty_BadTable => k_is)
    (case xhd_BadTable => k_is)
    (case xsu_BadTable => first | ks_is | first | rfl | kernel_rfl | decide +kernel)
    (case xsv_BadTable => k_is)
    (case xmr_BadTable => k_is)
    (case xst_BadTable => k_is)
    (case xms_BadTable => k_is)
    (case xht_BadTable => first | rfl | kernel_rfl | decide +kernel)
    (case xli_BadTable => k_is)
    (case xci_BadTable => k_is)
    (case xcd_BadTable => k_is)
    (case xv2_BadTable => exact rfl)
    (case xfi_BadTable => first | rfl | kernel_rfl | decide +kernel)
    (case xcc_BadTable => k_is)
    (case xte_BadTable => first | rfl | kernel_rfl | decide +kernel)
    (case xg_BadTolerance => k_is)
    (case xc_BadTolerance => k_is)
    (case xsa_BadTolerance => k_is)
    (case xga_BadTolerance => k_is)
    (case xgg_BadTolerance => k_is)
    (case xic_BadTolerance => k_is)
    (case xtc_BadTolerance => k_is)
    (case xkc_BadTolerance => k_is)
    (case xex_BadTolerance => k_is)
    (case xty_BadTolerance => k_is)
    (case xhd_BadTolerance => k_is)
    (case xsu_BadTolerance => first | ks_is | first | rfl | kernel_rfl | decide +kernel)
    (case xsv_BadTolerance => k_is)
    (case xmr_BadTolerance => k_is)
    (case xst_BadTolerance => k_is)
    (case xms_BadTolerance => k_is)
    (case xht_BadTolerance => first | rfl | kernel_rfl | decide +kernel)
    (case xno_BadTolerance => k_is)
    (case xli_BadTolerance => k_is)
    (case xci_BadTolerance => k_is)
    (case xcd_BadTolerance => k_is)
    (case xv2_BadTolerance => exact rfl)
    (case xfi_BadTolerance => first | rfl | kernel_rfl | decide +kernel)
    (case xcc_BadTolerance => k_is)
    (case xte_BadTolerance => first | rfl | kernel_rfl | decide +kernel)
    (case xg_BadWatch => k_is)
    (case xc_BadWatch => k_is)
    (case xsa_BadWatch => k_is)
    (case xga_BadWatch => k_is)
    (case xgg_BadWatch => k_is)
    (case xic_BadWatch => k_is)
    (case xtc_BadWatch => k_is)
    (case xkc_BadWatch => k_is)
    (case xex_BadWatch => k_is)
    (case xty_BadWatch => k_is)
    (case xhd_BadWatch => k_is)
    (case xsu_BadWatch => first | ks_is | first | rfl | kernel_rfl | decide +kernel)
    (case xsv_BadWatch => k_is)
    (case xmr_BadWatch => k_is)
    (case xst_BadWatch => k_is)
    (case xms_BadWatch => k_is)
    (case xht_BadWatch => first | rfl | kernel_rfl | decide +kernel)
    (case xno_BadWatch => k_is)
    (case xli_BadWatch => k_is)
    (case xci_BadWatch => k_is)
    (case xcd_BadWatch => k_is)
    (case xv2_BadWatch => exact rfl)
    (case xfi_BadWatch => first | rfl | kernel_rfl | decide +kernel)
    (case xcc_BadWatch => k_is)
    (case xte_BadWatch => first | rfl | kernel_rfl | decide +kernel)
    (case xg_UnknownState => k_is)
    (case xc_UnknownState => k_is)
    (case xsa_UnknownState => k_is)
    (case xga_UnknownState => k_is)
    (case xgg_UnknownState => k_is)
    (case xic_UnknownState => k_is)
    (case xtc_UnknownState => k_is)
    (case xkc_UnknownState => k_is)
    (case xex_UnknownState => k_is)
    (case xty_UnknownState => k_is)
    (case xhd_UnknownState => k_is)
    (case xsu_UnknownState => first | ks_is | first | rfl | kernel_rfl | decide +kernel)
    (case xsv_UnknownState => k_is)
    (case xmr_UnknownState => k_is)
    (case xst_UnknownState => k_is)
    (case xms_UnknownState => k_is)
    (case xht_UnknownState => first | rfl | kernel_rfl | decide +kernel)
    (case xno_UnknownState => k_is)
    (case xli_UnknownState => k_is)
    (case xci_UnknownState => k_is)
    (case xcd_UnknownState => k_is)
    (case xv2_UnknownState => exact rfl)
    (case xfi_UnknownState => first | rfl | kernel_rfl | decide +kernel)
    (case xcc_UnknownState => k_is)
    (case xte_UnknownState => first | rfl | kernel_rfl | decide +kernel)
    (case xne_BadAnswer_BadGroup => first | rfl | kernel_rfl | decide +kernel)
    (case xne_BadAnswer_BadJoint => first | rfl | kernel_rfl | decide +kernel)
    (case xne_BadAnswer_BadKind => first | rfl | kernel_rfl | decide +kernel)
    (case xne_BadAnswer_BadLoop => first | rfl | kernel_rfl | decide +kernel)
    (case xne_BadAnswer_BadNumber => first | rfl | kernel_rfl | decide +kernel)
    (case xne_BadAnswer_BadRow => first | rfl | kernel_rfl | decide +kernel)
    (case xne_BadAnswer_BadTable => first | rfl | kernel_rfl | decide +kernel)
    (case xne_BadAnswer_BadTolerance => first | rfl | kernel_rfl | decide +kernel)
    (case xne_BadAnswer_BadWatch => first | rfl | kernel_rfl | decide +kernel)
    (case xne_BadAnswer_UnknownState => first | rfl | kernel_rfl | decide +kernel)
    (case xne_BadGroup_BadAnswer => first | rfl | kernel_rfl | decide +kernel)
    (case xne_BadGroup_BadJoint => first | rfl | kernel_rfl | decide +kernel)
    (case xne_BadGroup_BadKind => first | rfl | kernel_rfl | decide +kernel)
    (case xne_BadGroup_BadLoop => first | rfl | kernel_rfl | decide +kernel)
    (case xne_BadGroup_BadNumber => first | rfl | kernel_rfl | decide +kernel)
    (case xne_BadGroup_BadRow => first | rfl | kernel_rfl | decide +kernel)
    (case xne_BadGroup_BadTable => first | rfl | kernel_rfl | decide +kernel)
    (case xne_BadGroup_BadTolerance => first | rfl | kernel_rfl | decide +kernel)
    (case xne_BadGroup_BadWatch => first | rfl | kernel_rfl | decide +kernel)
    (case xne_BadGroup_UnknownState => first | rfl | kernel_rfl | decide +kernel)
    (case xne_BadJoint_BadAnswer => first | rfl | kernel_rfl | decide +kernel)
    (case xne_BadJoint_BadGroup => first | rfl | kernel_rfl | decide +kernel)
    (case xne_BadJoint_BadKind => first | rfl | kernel_rfl | decide +kernel)
    (case xne_BadJoint_BadLoop => first | rfl | kernel_rfl | decide +kernel)
    (case xne_BadJoint_BadNumber => first | rfl | kernel_rfl | decide +kernel)
    (case xne_BadJoint_BadRow => first | rfl | kernel_rfl | decide +kernel)
    (case xne_BadJoint_BadTable => first | rfl | kernel_rfl | decide +kernel)
    (case xne_BadJoint_BadTolerance => first | rfl | kernel_rfl | decide +kernel)
    (case xne_BadJoint_BadWatch => first | rfl | kernel_rfl | decide +kernel)
    (case xne_BadJoint_UnknownState => first | rfl | kernel_rfl | decide +kernel)
    (case xne_BadKind_BadAnswer => first | rfl | kernel_rfl | decide +kernel)
    (case xne_BadKind_BadGroup => first | rfl | kernel_rfl | decide +kernel)
    (case xne_BadKind_BadJoint => first | rfl | kernel_rfl | decide +kernel)
    (case xne_BadKind_BadLoop => first | rfl | kernel_rfl | decide +kernel)
    (case xne_BadKind_BadNumber => first | rfl | kernel_rfl | decide +kernel)
    (case xne_BadKind_BadRow => first | rfl | kernel_rfl | decide +kernel)
    (case xne_BadKind_BadTable => first | rfl | kernel_rfl | decide +kernel)
    (case xne_BadKind_BadTolerance => first | rfl | kernel_rfl | decide +kernel)
    (case xne_BadKind_BadWatch => first | rfl | kernel_rfl | decide +kernel)
    (case xne_BadKind_UnknownState => first | rfl | kernel_rfl | decide +kernel)
    (case xne_BadLoop_BadAnswer => first | rfl | kernel_rfl | decide +kernel)
    (case xne_BadLoop_BadGroup => first | rfl | kernel_rfl | decide +kernel)
    (case xne_BadLoop_BadJoint => first | rfl | kernel_rfl | decide +kernel)
    (case xne_BadLoop_BadKind => first | rfl | kernel_rfl | decide +kernel)
    (case xne_BadLoop_BadNumber => first | rfl | kernel_rfl | decide +kernel)
    (case xne_BadLoop_BadRow => first | rfl | kernel_rfl | decide +kernel)
    (case xne_BadLoop_BadTable => first | rfl | kernel_rfl | decide +kernel)
    (case xne_BadLoop_BadTolerance => first | rfl | kernel_rfl | decide +kernel)
    (case xne_BadLoop_BadWatch => first | rfl | kernel_rfl | decide +kernel)
    (case xne_BadLoop_UnknownState => first | rfl | kernel_rfl | decide +kernel)
    (case xne_BadNumber_BadAnswer => first | rfl | kernel_rfl | decide +kernel)
    (case xne_BadNumber_BadGroup => first | rfl | kernel_rfl | decide +kernel)
    (case xne_BadNumber_BadJoint => first | rfl | kernel_rfl | decide +kernel)
    (case xne_BadNumber_BadKind => first | rfl | kernel_rfl | decide +kernel)
    (case xne_BadNumber_BadLoop => first | rfl | kernel_rfl | decide +kernel)
    (case xne_BadNumber_BadRow => first | rfl | kernel_rfl | decide +kernel)
    (case xne_BadNumber_BadTable => first | rfl | kernel_rfl | decide +kernel)
    (case xne_BadNumber_BadTolerance => first | rfl | kernel_rfl | decide +kernel)
    (case xne_BadNumber_BadWatch => first | rfl | kernel_rfl | decide +kernel)
    (case xne_BadNumber_UnknownState => first | rfl | kernel_rfl | decide +kernel)
    (case xne_BadRow_BadAnswer => first | rfl | kernel_rfl | decide +kernel)
    (case xne_BadRow_BadGroup => first | rfl | kernel_rfl | decide +kernel)
    (case xne_BadRow_BadJoint => first | rfl | kernel_rfl | decide +kernel)
    (case xne_BadRow_BadKind => first | rfl | kernel_rfl | decide +kernel)
    (case xne_BadRow_BadLoop => first | rfl | kernel_rfl | decide +kernel)
    (case xne_BadRow_BadNumber => first | rfl | kernel_rfl | decide +kernel)
    (case xne_BadRow_BadTable => first | rfl | kernel_rfl | decide +kernel)
    (case xne_BadRow_BadTolerance => first | rfl | kernel_rfl | decide +kernel)
    (case xne_BadRow_BadWatch => first | rfl | kernel_rfl | decide +kernel)
    (case xne_BadRow_UnknownState => first | rfl | kernel_rfl | decide +kernel)
    (case xne_BadTable_BadAnswer => first | rfl | kernel_rfl | decide +kernel)
    (case xne_BadTable_BadGroup => first | rfl | kernel_rfl | decide +kernel)
    (case xne_BadTable_BadJoint => first | rfl | kernel_rfl | decide +kernel)
    (case xne_BadTable_BadKind => first | rfl | kernel_rfl | decide +kernel)
    (case xne_BadTable_BadLoop => first | rfl | kernel_rfl | decide +kernel)
    (case xne_BadTable_BadNumber => first | rfl | kernel_rfl | decide +kernel)
    (case xne_BadTable_BadRow => first | rfl | kernel_rfl | decide +kernel)
    (case xne_BadTable_BadTolerance => first | rfl | kernel_rfl | decide +kernel)
    (case xne_BadTable_BadWatch => first | rfl | kernel_rfl | decide +kernel)
    (case xne_BadTable_UnknownState => first | rfl | kernel_rfl | decide +kernel)
    (case xne_BadTolerance_BadAnswer => first | rfl | kernel_rfl | decide +kernel)
    (case xne_BadTolerance_BadGroup => first | rfl | kernel_rfl | decide +kernel)
    (case xne_BadTolerance_BadJoint => first | rfl | kernel_rfl | decide +kernel)
    (case xne_BadTolerance_BadKind => first | rfl | kernel_rfl | decide +kernel)
    (case xne_BadTolerance_BadLoop => first | rfl | kernel_rfl | decide +kernel)
    (case xne_BadTolerance_BadNumber => first | rfl | kernel_rfl | decide +kernel)
    (case xne_BadTolerance_BadRow => first | rfl | kernel_rfl | decide +kernel)
    (case xne_BadTolerance_BadTable => first | rfl | kernel_rfl | decide +kernel)
    (case xne_BadTolerance_BadWatch => first | rfl | kernel_rfl | decide +kernel)
    (case xne_BadTolerance_UnknownState => first | rfl | kernel_rfl | decide +kernel)
    (case xne_BadWatch_BadAnswer => first | rfl | kernel_rfl | decide +kernel)
    (case xne_BadWatch_BadGroup => first | rfl | kernel_rfl | decide +kernel)
    (case xne_BadWatch_BadJoint => first | rfl | kernel_rfl | decide +kernel)
    (case xne_BadWatch_BadKind => first | rfl | kernel_rfl | decide +kernel)
    (case xne_BadWatch_BadLoop => first | rfl | kernel_rfl | decide +kernel)
    (case xne_BadWatch_BadNumber => first | rfl | kernel_rfl | decide +kernel)
    (case xne_BadWatch_BadRow => first | rfl | kernel_rfl | decide +kernel)
    (case xne_BadWatch_BadTable => first | rfl | kernel_rfl | decide +kernel)
    (case xne_BadWatch_BadTolerance => first | rfl | kernel_rfl | decide +kernel)
    (case xne_BadWatch_UnknownState => first | rfl | kernel_rfl | decide +kernel)
    (case xne_UnknownState_BadAnswer => first | rfl | kernel_rfl | decide +kernel)
    (case xne_UnknownState_BadGroup => first | rfl | kernel_rfl | decide +kernel)
    (case xne_UnknownState_BadJoint => first | rfl | kernel_rfl | decide +kernel)
    (case xne_UnknownState_BadKind => first | rfl | kernel_rfl | decide +kernel)
    (case xne_UnknownState_BadLoop => first | rfl | kernel_rfl | decide +kernel)
    (case xne_UnknownState_BadNumber => first | rfl | kernel_rfl | decide +kernel)
    (case xne_UnknownState_BadRow => first | rfl | kernel_rfl | decide +kernel)
    (case xne_UnknownState_BadTable => first | rfl | kernel_rfl | decide +kernel)
    (case xne_UnknownState_BadTolerance => first | rfl | kernel_rfl | decide +kernel)
    (case xne_UnknownState_BadWatch => first | rfl | kernel_rfl | decide +kernel)
    (case xg_Near => k_is)
    (case gn_x => first | k_is | rfl | kernel_rfl | decide +kernel)
    (case gt_x => first | k_is | rfl | kernel_rfl | decide +kernel)
    (case ca_BadNumber => first | k_is | rfl | kernel_rfl | decide +kernel)
    (case mo_BadNumber => first | k_is | rfl | kernel_rfl | decide +kernel)
    (case nr_BadNumber => first | k_is | rfl | kernel_rfl | decide +kernel)
    (case kv_BadNumber => first | k_is | rfl | kernel_rfl | decide +kernel)
    (case ki_BadNumber_BadNumber => first | k_is | rfl | kernel_rfl | decide +kernel)
    (case ki_BadNumber_BadTolerance => first | k_is | rfl | kernel_rfl | decide +kernel)
    (case ki_BadNumber_BadGroup => first | k_is | rfl | kernel_rfl | decide +kernel)
    (case ki_BadNumber_BadLoop => first | k_is | rfl | kernel_rfl | decide +kernel)
    (case ki_BadNumber_UnknownState => first | k_is | rfl | kernel_rfl | decide +kernel)
    (case ki_BadNumber_BadAnswer => first | k_is | rfl | kernel_rfl | decide +kernel)
    (case ki_BadNumber_BadJoint => first | k_is | rfl | kernel_rfl | decide +kernel)
    (case ki_BadNumber_BadKind => first | k_is | rfl | kernel_rfl | decide +kernel)
    (case ki_BadNumber_BadWatch => first | k_is | rfl | kernel_rfl | decide +kernel)
    (case ki_BadNumber_BadRow => first | k_is | rfl | kernel_rfl | decide +kernel)
    (case ki_BadNumber_BadTable => first | k_is | rfl | kernel_rfl | decide +kernel)
    (case ca_BadTolerance => first | k_is | rfl | kernel_rfl | decide +kernel)
    (case mo_BadTolerance => first | k_is | rfl | kernel_rfl | decide +kernel)
    (case nr_BadTolerance => first | k_is | rfl | kernel_rfl | decide +kernel)
    (case kv_BadTolerance => first | k_is | rfl | kernel_rfl | decide +kernel)
    (case ki_BadTolerance_BadNumber => first | k_is | rfl | kernel_rfl | decide +kernel)
    (case ki_BadTolerance_BadTolerance => first | k_is | rfl | kernel_rfl | decide +kernel)
    (case ki_BadTolerance_BadGroup => first | k_is | rfl | kernel_rfl | decide +kernel)
    (case ki_BadTolerance_BadLoop => first | k_is | rfl | kernel_rfl | decide +kernel)
    (case ki_BadTolerance_UnknownState => first | k_is | rfl | kernel_rfl | decide +kernel)
    (case ki_BadTolerance_BadAnswer => first | k_is | rfl | kernel_rfl | decide +kernel)
    (case ki_BadTolerance_BadJoint => first | k_is | rfl | kernel_rfl | decide +kernel)
    (case ki_BadTolerance_BadKind => first | k_is | rfl | kernel_rfl | decide +kernel)
    (case ki_BadTolerance_BadWatch => first | k_is | rfl | kernel_rfl | decide +kernel)
    (case ki_BadTolerance_BadRow => first | k_is | rfl | kernel_rfl | decide +kernel)
    (case ki_BadTolerance_BadTable => first | k_is | rfl | kernel_rfl | decide +kernel)
    (case ca_BadGroup => first | k_is | rfl | kernel_rfl | decide +kernel)
    (case mo_BadGroup => first | k_is | rfl | kernel_rfl | decide +kernel)
    (case nr_BadGroup => first | k_is | rfl | kernel_rfl | decide +kernel)
    (case kv_BadGroup => first | k_is | rfl | kernel_rfl | decide +kernel)
    (case ki_BadGroup_BadNumber => first | k_is | rfl | kernel_rfl | decide +kernel)
    (case ki_BadGroup_BadTolerance => first | k_is | rfl | kernel_rfl | decide +kernel)
    (case ki_BadGroup_BadGroup => first | k_is | rfl | kernel_rfl | decide +kernel)
    (case ki_BadGroup_BadLoop => first | k_is | rfl | kernel_rfl | decide +kernel)
    (case ki_BadGroup_UnknownState => first | k_is | rfl | kernel_rfl | decide +kernel)
    (case ki_BadGroup_BadAnswer => first | k_is | rfl | kernel_rfl | decide +kernel)
    (case ki_BadGroup_BadJoint => first | k_is | rfl | kernel_rfl | decide +kernel)
    (case ki_BadGroup_BadKind => first | k_is | rfl | kernel_rfl | decide +kernel)
    (case ki_BadGroup_BadWatch => first | k_is | rfl | kernel_rfl | decide +kernel)
    (case ki_BadGroup_BadRow => first | k_is | rfl | kernel_rfl | decide +kernel)
    (case ki_BadGroup_BadTable => first | k_is | rfl | kernel_rfl | decide +kernel)
    (case ca_BadLoop => first | k_is | rfl | kernel_rfl | decide +kernel)
    (case mo_BadLoop => first | k_is | rfl | kernel_rfl | decide +kernel)
    (case nr_BadLoop => first | k_is | rfl | kernel_rfl | decide +kernel)
    (case kv_BadLoop => first | k_is | rfl | kernel_rfl | decide +kernel)
    (case ki_BadLoop_BadNumber => first | k_is | rfl | kernel_rfl | decide +kernel)
    (case ki_BadLoop_BadTolerance => first | k_is | rfl | kernel_rfl | decide +kernel)
    (case ki_BadLoop_BadGroup => first | k_is | rfl | kernel_rfl | decide +kernel)
    (case ki_BadLoop_BadLoop => first | k_is | rfl | kernel_rfl | decide +kernel)
    (case ki_BadLoop_UnknownState => first | k_is | rfl | kernel_rfl | decide +kernel)
    (case ki_BadLoop_BadAnswer => first | k_is | rfl | kernel_rfl | decide +kernel)
    (case ki_BadLoop_BadJoint => first | k_is | rfl | kernel_rfl | decide +kernel)
    (case ki_BadLoop_BadKind => first | k_is | rfl | kernel_rfl | decide +kernel)
    (case ki_BadLoop_BadWatch => first | k_is | rfl | kernel_rfl | decide +kernel)
    (case ki_BadLoop_BadRow => first | k_is | rfl | kernel_rfl | decide +kernel)
    (case ki_BadLoop_BadTable => first | k_is | rfl | kernel_rfl | decide +kernel)
    (case ca_UnknownState => first | k_is | rfl | kernel_rfl | decide +kernel)
    (case mo_UnknownState => first | k_is | rfl | kernel_rfl | decide +kernel)
    (case nr_UnknownState => first | k_is | rfl | kernel_rfl | decide +kernel)
    (case kv_UnknownState => first | k_is | rfl | kernel_rfl | decide +kernel)
    (case ki_UnknownState_BadNumber => first | k_is | rfl | kernel_rfl | decide +kernel)
    (case ki_UnknownState_BadTolerance => first | k_is | rfl | kernel_rfl | decide +kernel)
    (case ki_UnknownState_BadGroup => first | k_is | rfl | kernel_rfl | decide +kernel)
    (case ki_UnknownState_BadLoop => first | k_is | rfl | kernel_rfl | decide +kernel)
    (case ki_UnknownState_UnknownState => first | k_is | rfl | kernel_rfl | decide +kernel)
    (case ki_UnknownState_BadAnswer => first | k_is | rfl | kernel_rfl | decide +kernel)
    (case ki_UnknownState_BadJoint => first | k_is | rfl | kernel_rfl | decide +kernel)
    (case ki_UnknownState_BadKind => first | k_is | rfl | kernel_rfl | decide +kernel)
    (case ki_UnknownState_BadWatch => first | k_is | rfl | kernel_rfl | decide +kernel)
    (case ki_UnknownState_BadRow => first | k_is | rfl | kernel_rfl | decide +kernel)
    (case ki_UnknownState_BadTable => first | k_is | rfl | kernel_rfl | decide +kernel)
    (case ca_BadAnswer => first | k_is | rfl | kernel_rfl | decide +kernel)
    (case mo_BadAnswer => first | k_is | rfl | kernel_rfl | decide +kernel)
    (case nr_BadAnswer => first | k_is | rfl | kernel_rfl | decide +kernel)
    (case kv_BadAnswer => first | k_is | rfl | kernel_rfl | decide +kernel)
    (case ki_BadAnswer_BadNumber => first | k_is | rfl | kernel_rfl | decide +kernel)
    (case ki_BadAnswer_BadTolerance => first | k_is | rfl | kernel_rfl | decide +kernel)
    (case ki_BadAnswer_BadGroup => first | k_is | rfl | kernel_rfl | decide +kernel)
    (case ki_BadAnswer_BadLoop => first | k_is | rfl | kernel_rfl | decide +kernel)
    (case ki_BadAnswer_UnknownState => first | k_is | rfl | kernel_rfl | decide +kernel)
    (case ki_BadAnswer_BadAnswer => first | k_is | rfl | kernel_rfl | decide +kernel)
    (case ki_BadAnswer_BadJoint => first | k_is | rfl | kernel_rfl | decide +kernel)
    (case ki_BadAnswer_BadKind => first | k_is | rfl | kernel_rfl | decide +kernel)
    (case ki_BadAnswer_BadWatch => first | k_is | rfl | kernel_rfl | decide +kernel)
    (case ki_BadAnswer_BadRow => first | k_is | rfl | kernel_rfl | decide +kernel)
    (case ki_BadAnswer_BadTable => first | k_is | rfl | kernel_rfl | decide +kernel)
    (case ca_BadJoint => first | k_is | rfl | kernel_rfl | decide +kernel)
    (case mo_BadJoint => first | k_is | rfl | kernel_rfl | decide +kernel)
    (case nr_BadJoint => first | k_is | rfl | kernel_rfl | decide +kernel)
    (case kv_BadJoint => first | k_is | rfl | kernel_rfl | decide +kernel)
    (case ki_BadJoint_BadNumber => first | k_is | rfl | kernel_rfl | decide +kernel)
    (case ki_BadJoint_BadTolerance => first | k_is | rfl | kernel_rfl | decide +kernel)
    (case ki_BadJoint_BadGroup => first | k_is | rfl | kernel_rfl | decide +kernel)
    (case ki_BadJoint_BadLoop => first | k_is | rfl | kernel_rfl | decide +kernel)
    (case ki_BadJoint_UnknownState => first | k_is | rfl | kernel_rfl | decide +kernel)
    (case ki_BadJoint_BadAnswer => first | k_is | rfl | kernel_rfl | decide +kernel)
    (case ki_BadJoint_BadJoint => first | k_is | rfl | kernel_rfl | decide +kernel)
    (case ki_BadJoint_BadKind => first | k_is | rfl | kernel_rfl | decide +kernel)
    (case ki_BadJoint_BadWatch => first | k_is | rfl | kernel_rfl | decide +kernel)
    (case ki_BadJoint_BadRow => first | k_is | rfl | kernel_rfl | decide +kernel)
    (case ki_BadJoint_BadTable => first | k_is | rfl | kernel_rfl | decide +kernel)
    (case ca_BadKind => first | k_is | rfl | kernel_rfl | decide +kernel)
    (case mo_BadKind => first | k_is | rfl | kernel_rfl | decide +kernel)
    (case nr_BadKind => first | k_is | rfl | kernel_rfl | decide +kernel)
    (case kv_BadKind => first | k_is | rfl | kernel_rfl | decide +kernel)
    (case ki_BadKind_BadNumber => first | k_is | rfl | kernel_rfl | decide +kernel)
    (case ki_BadKind_BadTolerance => first | k_is | rfl | kernel_rfl | decide +kernel)
    (case ki_BadKind_BadGroup => first | k_is | rfl | kernel_rfl | decide +kernel)
    (case ki_BadKind_BadLoop => first | k_is | rfl | kernel_rfl | decide +kernel)
    (case ki_BadKind_UnknownState => first | k_is | rfl | kernel_rfl | decide +kernel)
    (case ki_BadKind_BadAnswer => first | k_is | rfl | kernel_rfl | decide +kernel)
    (case ki_BadKind_BadJoint => first | k_is | rfl | kernel_rfl | decide +kernel)
    (case ki_BadKind_BadKind => first | k_is | rfl | kernel_rfl | decide +kernel)
    (case ki_BadKind_BadWatch => first | k_is | rfl | kernel_rfl | decide +kernel)
    (case ki_BadKind_BadRow => first | k_is | rfl | kernel_rfl | decide +kernel)
    (case ki_BadKind_BadTable => first | k_is | rfl | kernel_rfl | decide +kernel)
    (case ca_BadWatch => first | k_is | rfl | kernel_rfl | decide +kernel)
    (case mo_BadWatch => first | k_is | rfl | kernel_rfl | decide +kernel)
    (case nr_BadWatch => first | k_is | rfl | kernel_rfl | decide +kernel)
    (case kv_BadWatch => first | k_is | rfl | kernel_rfl | decide +kernel)
    (case ki_BadWatch_BadNumber => first | k_is | rfl | kernel_rfl | decide +kernel)
    (case ki_BadWatch_BadTolerance => first | k_is | rfl | kernel_rfl | decide +kernel)
    (case ki_BadWatch_BadGroup => first | k_is | rfl | kernel_rfl | decide +kernel)
    (case ki_BadWatch_BadLoop => first | k_is | rfl | kernel_rfl | decide +kernel)
    (case ki_BadWatch_UnknownState => first | k_is | rfl | kernel_rfl | decide +kernel)
    (case ki_BadWatch_BadAnswer => first | k_is | rfl | kernel_rfl | decide +kernel)
    (case ki_BadWatch_BadJoint => first | k_is | rfl | kernel_rfl | decide +kernel)
    (case ki_BadWatch_BadKind => first | k_is | rfl | kernel_rfl | decide +kernel)
    (case ki_BadWatch_BadWatch => first | k_is | rfl | kernel_rfl | decide +kernel)
    (case ki_BadWatch_BadRow => first | k_is | rfl | kernel_rfl | decide +kernel)
    (case ki_BadWatch_BadTable => first | k_is | rfl | kernel_rfl | decide +kernel)
    (case ca_BadRow => first | k_is | rfl | kernel_rfl | decide +kernel)
    (case mo_BadRow => first | k_is | rfl | kernel_rfl | decide +kernel)
    (case nr_BadRow => first | k_is | rfl | kernel_rfl | decide +kernel)
    (case kv_BadRow => first | k_is | rfl | kernel_rfl | decide +kernel)
    (case ki_BadRow_BadNumber => first | k_is | rfl | kernel_rfl | decide +kernel)
    (case ki_BadRow_BadTolerance => first | k_is | rfl | kernel_rfl | decide +kernel)
    (case ki_BadRow_BadGroup => first | k_is | rfl | kernel_rfl | decide +kernel)
    (case ki_BadRow_BadLoop => first | k_is | rfl | kernel_rfl | decide +kernel)
    (case ki_BadRow_UnknownState => first | k_is | rfl | kernel_rfl | decide +kernel)
    (case ki_BadRow_BadAnswer => first | k_is | rfl | kernel_rfl | decide +kernel)
    (case ki_BadRow_BadJoint => first | k_is | rfl | kernel_rfl | decide +kernel)
    (case ki_BadRow_BadKind => first | k_is | rfl | kernel_rfl | decide +kernel)
    (case ki_BadRow_BadWatch => first | k_is | rfl | kernel_rfl | decide +kernel)
    (case ki_BadRow_BadRow => first | k_is | rfl | kernel_rfl | decide +kernel)
    (case ki_BadRow_BadTable => first | k_is | rfl | kernel_rfl | decide +kernel)
    (case ca_BadTable => first | k_is | rfl | kernel_rfl | decide +kernel)
    (case mo_BadTable => first | k_is | rfl | kernel_rfl | decide +kernel)
    (case nr_BadTable => first | k_is | rfl | kernel_rfl | decide +kernel)
    (case kv_BadTable => first | k_is | rfl | kernel_rfl | decide +kernel)
    (case ki_BadTable_BadNumber => first | k_is | rfl | kernel_rfl | decide +kernel)
    (case ki_BadTable_BadTolerance => first | k_is | rfl | kernel_rfl | decide +kernel)
    (case ki_BadTable_BadGroup => first | k_is | rfl | kernel_rfl | decide +kernel)
    (case ki_BadTable_BadLoop => first | k_is | rfl | kernel_rfl | decide +kernel)
    (case ki_BadTable_UnknownState => first | k_is | rfl | kernel_rfl | decide +kernel)
    (case ki_BadTable_BadAnswer => first | k_is | rfl | kernel_rfl | decide +kernel)
    (case ki_BadTable_BadJoint => first | k_is | rfl | kernel_rfl | decide +kernel)
    (case ki_BadTable_BadKind => first | k_is | rfl | kernel_rfl | decide +kernel)
    (case ki_BadTable_BadWatch => first | k_is | rfl | kernel_rfl | decide +kernel)
    (case ki_BadTable_BadRow => first | k_is | rfl | kernel_rfl | decide +kernel)
    (case ki_BadTable_BadTable => first | k_is | rfl | kernel_rfl | decide +kernel)

