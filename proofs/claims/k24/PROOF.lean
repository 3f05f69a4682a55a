import PyProof.Rows.All
import Wide.All
import OpenK.AllK
import Wide.FinOn
import HandS.Base
import HandS.Call
import HandS.List
import HandS.Ends
import HandS.Words
import HandS.WordsList
import HandS.Wide
import HandS.WideBits
import HandS.IsInst
import HandS.Comp
import HandS.Strs
import HandS.Codes
import HandS.More
import HandS.Dict
import HandS.WordsDict
import HandS.Text
import HandS.Iter
import HandS.Walk
import HandS.Conv
import HandS.NoneIn
import HandS.Zip
import HandS.Deep
import HandS.DictComp
import HandS.SetFor
import PySem.Challenge.RW_nearloops_k24_whole_one_ranked_row
set_option Elab.async false
set_option maxRecDepth 100000
set_option maxHeartbeats 4000000

namespace L2
open PySem PySem.Spec PyProof.Rows RZ
/-! ### zip of two sequences, each a list (true) or a tuple (false) -/
def JtB (b : Bool) (h : Heap) (i l : Addr) (k : Nat) : Prop := if b = true then h.IsListIter i l k else h.IsTupleIter i l k
def SeqB (b : Bool) (h : Heap) (l : Addr) (xs : Array Value) : Prop := if b = true then h.IsList l xs else h.IsTuple l xs
theorem JtB.ext {b : Bool} {h g : Heap} {i l c : Addr} {k : Nat} (x : JtB b h i l k) (e : Heap.ExtBut c h g) (n : i ≠ c) : JtB b g i l k := by
  cases b
  · exact Heap.IsTupleIter.extBut (show h.IsTupleIter i l k from x) e n
  · exact Heap.IsListIter.extBut (show h.IsListIter i l k from x) e n
theorem JtB.at {b : Bool} {h g : Heap} {i l : Addr} {k : Nat} (x : JtB b h i l k) (e : ∀ o, h.get? i = some o → g.get? i = some o) : JtB b g i l k := by
  cases b
  · exact Heap.IsTupleIter.at (show h.IsTupleIter i l k from x) e
  · exact Heap.IsListIter.at (show h.IsListIter i l k from x) e
theorem JtB.ob {b : Bool} {h : Heap} {i l : Addr} {k : Nat} (x : JtB b h i l k) : ∃ o, h.get? i = some o ∧ ∀ v, o.data ≠ .cell v := by
  cases b
  · obtain ⟨o, e, _, d⟩ := (show h.IsTupleIter i l k from x)
    exact ⟨o, e, fun v q => by rw [d] at q; cases q⟩
  · obtain ⟨o, e, _, d⟩ := (show h.IsListIter i l k from x)
    exact ⟨o, e, fun v q => by rw [d] at q; cases q⟩
theorem SeqB.ext {b : Bool} {h g : Heap} {l c : Addr} {xs : Array Value} (x : SeqB b h l xs) (e : Heap.ExtBut c h g) (n : l ≠ c) : SeqB b g l xs := by
  cases b
  · exact Heap.IsTuple.extBut (show h.IsTuple l xs from x) e n
  · exact Heap.IsList.extBut (show h.IsList l xs from x) e n
theorem SeqB.lt {b : Bool} {h : Heap} {l : Addr} {xs : Array Value} (x : SeqB b h l xs) : l < h.objs.size := by
  cases b
  · obtain ⟨o, e, _⟩ := (show h.IsTuple l xs from x)
    exact Heap.lt_size e
  · obtain ⟨o, e, _⟩ := (show h.IsList l xs from x)
    exact Heap.lt_size e
section
variable {P : Program} {w : World} {A : Around} {E : Value → Shared → Prop} {s : Shared}
theorem nextB_item {b : Bool} {i l : Addr} {k : Nat} {xs : Array Value} {x : Value} {Q : Value → Shared → Prop} (hi : JtB b s.heap i l k) (hl : SeqB b s.heap l xs) (hx : xs[k]? = some x)
    (q : ∀ g, JtB b g i l (k + 1) → Heap.SameBut i s.heap g → Q x { s with heap := g }) : wpAny (model P w) A (Builtin.SmallTypes.nextOf (.ref i)) Q E s := by
  cases b
  · exact nextOf_tuple_item (show s.heap.IsTupleIter i l k from hi) (show s.heap.IsTuple l xs from hl) hx q
  · exact wpAny_nextOf_list_item (show s.heap.IsListIter i l k from hi) (show s.heap.IsList l xs from hl) hx q
theorem nextB_end {b : Bool} {i l : Addr} {k : Nat} {xs : Array Value} {Q : Value → Shared → Prop} (hh : A.handled = none) (hi : JtB b s.heap i l k) (hl : SeqB b s.heap l xs) (hx : xs[k]? = none)
    (q : ∀ g e, Heap.ExtBut i s.heap g → (∃ o, g.get? e = some o ∧ o.cls = .type "StopIteration") → E (.ref e) { s with heap := g }) : wpAny (model P w) A (Builtin.SmallTypes.nextOf (.ref i)) Q E s := by
  cases b
  · exact nextOf_tuple_end hh (show s.heap.IsTupleIter i l k from hi) (show s.heap.IsTuple l xs from hl) hx q
  · exact wpAny_nextOf_list_end hh (show s.heap.IsListIter i l k from hi) (show s.heap.IsList l xs from hl) hx q
variable {b c : Bool} {z U O i j l m : Addr} {p q : Nat} {xs ys : Array Value} {u v : Value}
/-- zip's step: both sides have an item -/
theorem zipB_item {x y : Value} {Q : Value → Shared → Prop} (D : ZipApart z U O i j l m) (hz : IsZip s.heap z U O .none) (hU : IsPair s.heap U (.ref i) (.ref j)) (hO : IsPair s.heap O u v)
    (hi : JtB b s.heap i l p) (hj : JtB c s.heap j m q) (hl : SeqB b s.heap l xs) (hm : SeqB c s.heap m ys) (hx : xs[p]? = some x) (hy : ys[q]? = some y)
    (kk : ∀ g, IsZip g z U O (rawInt s.heap.objs.size) → IsPair g O x y → JtB b g i l (p + 1) → JtB c g j m (q + 1) → IsPair g s.heap.objs.size x y → g.objs.size = s.heap.objs.size + 1 →
      (∀ a o, a ≠ z → a ≠ O → a ≠ i → a ≠ j → s.heap.get? a = some o → g.get? a = some o) → Q (.ref s.heap.objs.size) { s with heap := g }) :
    wpAny (model P w) A (Builtin.«zip.__next__» ⟨[.ref z], []⟩) (fun f t => ∃ v, f = .done (.ret v) ∧ Q v t) E s := by
  show wpAny _ _ (field (.ref z) 2 >>= _) _ E _
  refine wpAny_bind (wpAny_field hz rfl (x := .bool false) rfl (?_ : _))
  show wpAny _ _ (field (.ref z) 3 >>= _) _ E _
  refine wpAny_bind (wpAny_field hz rfl (x := .ref U) rfl ?_)
  refine wpAny_bind (wpAny_seqItems hU rfl ?_)
  show wpAny _ _ (Builtin.SmallTypes.ownedTupleIsFree (.ref z) >>= _) _ E _
  refine wpAny_bind ?_
  unfold Builtin.SmallTypes.ownedTupleIsFree
  refine wpAny_bind (wpAny_field hz rfl (x := .none) rfl (wpAny_pure (?_ : _)))
  simp only [if_true]
  refine wpAny_bind (wpAny_rule ?_)
  refine wpAny_bind (wpAny_field hz rfl (x := .ref O) rfl ?_)
  refine wpAny_bind (wpAny_setField_rec hz (by simp) fun g1 zg1 b1 => ?_)
  replace zg1 : IsZip g1 z U O .ellipsis := zg1
  refine wpAny_bind ?_
  simp only [List.zipIdx_cons, List.zipIdx_nil, List.forIn_nil, List.forIn_cons]
  refine wpAny_bind (wpAny_bind (wpAny_onRaise (?_ : _)))
  show wpAny _ _ (Builtin.SmallTypes.nextOf (.ref i) >>= _) _ _ _
  refine wpAny_bind (nextB_item (hi.ext b1.extBut D.i1z) (hl.ext b1.extBut D.l1z) hx fun g2 i2 b2 => wpAny_pure ?_)
  have O2 : IsPair g2 O u v := b2.extBut _ _ D.TOi1 (b1.extBut _ _ D.TOz hO)
  refine wpAny_bind (wpAny_seqItems O2 rfl ?_)
  refine wpAny_bind (wpAny_updateSeq_pair O2 fun g3 O3 b3 => ?_)
  replace O3 : IsPair g3 O x v := O3
  refine wpAny_bind (wpAny_letGo (wpAny_pure (?_ : _)))
  refine wpAny_bind (wpAny_bind (wpAny_onRaise (?_ : _)))
  show wpAny _ _ (Builtin.SmallTypes.nextOf (.ref j) >>= _) _ _ _
  refine wpAny_bind (nextB_item (((hj.ext b1.extBut D.i2z).ext b2.extBut D.i12.symm).ext b3.extBut D.TOi2.symm) (((hm.ext b1.extBut D.l2z).ext b2.extBut D.l2i1).ext b3.extBut D.l2TO) hy fun g4 j4 b4 => wpAny_pure ?_)
  have O4 : IsPair g4 O x v := b4.extBut _ _ D.TOi2 O3
  refine wpAny_bind (wpAny_seqItems O4 rfl ?_)
  refine wpAny_bind (wpAny_updateSeq_pair O4 fun g5 O5 b5 => ?_)
  replace O5 : IsPair g5 O x y := O5
  refine wpAny_bind (wpAny_letGo (wpAny_pure (wpAny_pure (?_ : _))))
  refine wpAny_bind (wpAny_seqItems O5 rfl ?_)
  refine wpAny_bind (wpAny_newTuple (?_ : _))
  have sz : g5.objs.size = s.heap.objs.size := by rw [b5.1, b4.1, b3.1, b2.1, b1.1]
  have z5 : IsZip g5 z U O .ellipsis := b5.extBut _ _ D.TOz.symm (b4.extBut _ _ D.i2z.symm (b3.extBut _ _ D.TOz.symm (b2.extBut _ _ D.i1z.symm zg1)))
  have k5 : ∀ a o, a ≠ z → a ≠ O → a ≠ i → a ≠ j → s.heap.get? a = some o → g5.get? a = some o := fun a o a1 a2 a3 a4 e =>
    b5.extBut _ _ a2 (b4.extBut _ _ a4 (b3.extBut _ _ a2 (b2.extBut _ _ a3 (b1.extBut _ _ a1 e))))
  have i5 : JtB b g5 i l (p + 1) := ((i2.ext b3.extBut D.TOi1.symm).ext b4.extBut D.i12).ext b5.extBut D.TOi1.symm
  have j5 : JtB c g5 j m (q + 1) := j4.ext b5.extBut D.TOi2.symm
  have zlt : z < g5.objs.size := Heap.lt_size z5
  show wpAny _ _ (Builtin.SmallTypes.ownedTupleHandOut (.ref z) (.ref g5.objs.size) >>= _) _ _ _
  refine wpAny_bind ?_
  unfold Builtin.SmallTypes.ownedTupleHandOut
  have z6 : IsZip (g5.push { cls := .type "tuple", data := .seq #[x, y] }) z U O .ellipsis := Heap.get?_push_of_some _ z5
  refine wpAny_bind (wpAny_setField_rec z6 (by simp) fun g7 z7 b7 => ?_)
  replace z7 : IsZip g7 z U O (rawInt g5.objs.size) := z7
  refine wpAny_setField_rec z7 (by simp) fun g8 z8 b8 => ?_
  replace z8 : IsZip g8 z U O (rawInt g5.objs.size) := z8
  have up : ∀ a o, a ≠ z → g5.get? a = some o → g8.get? a = some o := fun a o a1 e => b8.extBut _ _ a1 (b7.extBut _ _ a1 (Heap.get?_push_of_some _ e))
  have T8 : IsPair g8 g5.objs.size x y := b8.extBut _ _ (Nat.ne_of_gt zlt) (b7.extBut _ _ (Nat.ne_of_gt zlt) (Heap.get?_push_size _ rfl))
  have s8 : g8.objs.size = g5.objs.size + 1 := by rw [b8.1, b7.1, Heap.size_push]
  rw [sz] at z8 T8 s8
  refine wpAny_pure ⟨_, rfl, (?_ : _)⟩
  show Q (.ref g5.objs.size) _
  rw [sz]
  exact kk g8 z8 (up _ _ D.TOz O5) (i5.at fun o e => up _ o D.i1z e) (j5.at fun o e => up _ o D.i2z e) T8 s8 fun a o a1 a2 a3 a4 e => up a o a1 (k5 a o a1 a2 a3 a4 e)
/-- zip's step: one side has come to its end -/
theorem zipB_end {Q : Fin → Shared → Prop} (hh : A.handled = none) (D : ZipApart z U O i j l m) (hz : IsZip s.heap z U O .none) (hU : IsPair s.heap U (.ref i) (.ref j)) (hO : IsPair s.heap O u v)
    (hi : JtB b s.heap i l p) (hj : JtB c s.heap j m q) (hl : SeqB b s.heap l xs) (hm : SeqB c s.heap m ys) (he : xs[p]? = none ∨ ys[q]? = none)
    (kk : ∀ g e, (∀ a o, a ≠ z → a ≠ O → a ≠ i → a ≠ j → s.heap.get? a = some o → g.get? a = some o) → (∃ o, g.get? e = some o ∧ o.cls = .type "StopIteration") → E (.ref e) { s with heap := g }) :
    wpAny (model P w) A (Builtin.«zip.__next__» ⟨[.ref z], []⟩) Q E s := by
  show wpAny _ _ (field (.ref z) 2 >>= _) _ E _
  refine wpAny_bind (wpAny_field hz rfl (x := .bool false) rfl (?_ : _))
  show wpAny _ _ (field (.ref z) 3 >>= _) _ E _
  refine wpAny_bind (wpAny_field hz rfl (x := .ref U) rfl ?_)
  refine wpAny_bind (wpAny_seqItems hU rfl ?_)
  show wpAny _ _ (Builtin.SmallTypes.ownedTupleIsFree (.ref z) >>= _) _ E _
  refine wpAny_bind ?_
  unfold Builtin.SmallTypes.ownedTupleIsFree
  refine wpAny_bind (wpAny_field hz rfl (x := .none) rfl (wpAny_pure (?_ : _)))
  simp only [if_true]
  refine wpAny_bind (wpAny_rule ?_)
  refine wpAny_bind (wpAny_field hz rfl (x := .ref O) rfl ?_)
  refine wpAny_bind (wpAny_setField_rec hz (by simp) fun g1 zg1 b1 => ?_)
  replace zg1 : IsZip g1 z U O .ellipsis := zg1
  refine wpAny_bind ?_
  simp only [List.zipIdx_cons, List.zipIdx_nil, List.forIn_nil, List.forIn_cons]
  refine wpAny_bind (wpAny_bind (wpAny_onRaise (?_ : _)))
  show wpAny _ _ (Builtin.SmallTypes.nextOf (.ref i) >>= _) _ _ _
  cases hx : xs[p]? with
  | none =>
    refine wpAny_bind (nextB_end hh (hi.ext b1.extBut D.i1z) (hl.ext b1.extBut D.l1z) hx fun g2 e b2 st => ?_)
    obtain ⟨oe, he1, he2⟩ := st
    have z2 : IsZip g2 z U O .ellipsis := b2 _ _ D.i1z.symm zg1
    have ez : e ≠ z := fun x => by
      subst x
      rw [z2] at he1
      cases he1
      simp at he2
    exact wpAny_setField_rec z2 (by simp) fun g3 _ b3 => kk g3 e (fun a o a1 _ a3 _ x => b3.extBut _ _ a1 (b2 _ _ a3 (b1.extBut _ _ a1 x))) ⟨oe, b3.extBut _ _ ez he1, he2⟩
  | some x =>
    have hy : ys[q]? = none := he.resolve_left (by rw [hx]; exact fun n => nomatch n)
    refine wpAny_bind (nextB_item (hi.ext b1.extBut D.i1z) (hl.ext b1.extBut D.l1z) hx fun g2 i2 b2 => wpAny_pure ?_)
    have O2 : IsPair g2 O u v := b2.extBut _ _ D.TOi1 (b1.extBut _ _ D.TOz hO)
    refine wpAny_bind (wpAny_seqItems O2 rfl ?_)
    refine wpAny_bind (wpAny_updateSeq_pair O2 fun g3 O3 b3 => ?_)
    refine wpAny_bind (wpAny_letGo (wpAny_pure (?_ : _)))
    refine wpAny_bind (wpAny_bind (wpAny_onRaise (?_ : _)))
    show wpAny _ _ (Builtin.SmallTypes.nextOf (.ref j) >>= _) _ _ _
    refine wpAny_bind (nextB_end hh (((hj.ext b1.extBut D.i2z).ext b2.extBut D.i12.symm).ext b3.extBut D.TOi2.symm) (((hm.ext b1.extBut D.l2z).ext b2.extBut D.l2i1).ext b3.extBut D.l2TO) hy fun g4 e b4 st => ?_)
    obtain ⟨oe, he1, he2⟩ := st
    have z4 : IsZip g4 z U O .ellipsis := b4 _ _ D.i2z.symm (b3.extBut _ _ D.TOz.symm (b2.extBut _ _ D.i1z.symm zg1))
    have ez : e ≠ z := fun x => by
      subst x
      rw [z4] at he1
      cases he1
      simp at he2
    exact wpAny_setField_rec z4 (by simp) fun g5 _ b5 => kk g5 e (fun a o a1 a2 a3 a4 x => b5.extBut _ _ a1 (b4 _ _ a4 (b3.extBut _ _ a2 (b2.extBut _ _ a3 (b1.extBut _ _ a1 x))))) ⟨oe, b5.extBut _ _ ez he1, he2⟩
theorem nextZ_item {x y : Value} {Q : Option Value → Shared → Prop} (D : ZipApart z U O i j l m) (hz : IsZip s.heap z U O .none) (hU : IsPair s.heap U (.ref i) (.ref j)) (hO : IsPair s.heap O u v)
    (hi : JtB b s.heap i l p) (hj : JtB c s.heap j m q) (hl : SeqB b s.heap l xs) (hm : SeqB c s.heap m ys) (hx : xs[p]? = some x) (hy : ys[q]? = some y)
    (kk : ∀ g, IsZip g z U O (rawInt s.heap.objs.size) → IsPair g O x y → JtB b g i l (p + 1) → JtB c g j m (q + 1) → IsPair g s.heap.objs.size x y → g.objs.size = s.heap.objs.size + 1 →
      (∀ a o, a ≠ z → a ≠ O → a ≠ i → a ≠ j → s.heap.get? a = some o → g.get? a = some o) → Q (some (.ref s.heap.objs.size)) { s with heap := g }) :
    wpAny (model P w) A (pyNext (.ref z)) Q E s := by
  have ty : s.TypeIs (.ref z) "zip" := ⟨_, hz, rfl⟩
  unfold pyNext
  exact wpAny_bind (wpAny_attempt (wpAny_callSpecial?_slot (name := Str.ofString "__next__") ty F.slot_zip_next (wpAny_call_entry F.slot_zip_next ty F.entry_zip_next
    (zipB_item D hz hU hO hi hj hl hm hx hy fun g a1 a2 a3 a4 a5 a6 a7 => wpAny_pure (kk g a1 a2 a3 a4 a5 a6 a7)) (F.args_zip_next_1 _))))
theorem nextZ_end {Q : Option Value → Shared → Prop} (hh : A.handled = none) (D : ZipApart z U O i j l m) (hz : IsZip s.heap z U O .none) (hU : IsPair s.heap U (.ref i) (.ref j)) (hO : IsPair s.heap O u v)
    (hi : JtB b s.heap i l p) (hj : JtB c s.heap j m q) (hl : SeqB b s.heap l xs) (hm : SeqB c s.heap m ys) (he : xs[p]? = none ∨ ys[q]? = none)
    (kk : ∀ g, (∀ a o, a ≠ z → a ≠ O → a ≠ i → a ≠ j → s.heap.get? a = some o → g.get? a = some o) → Q none { s with heap := g }) : wpAny (model P w) A (pyNext (.ref z)) Q E s := by
  have ty : s.TypeIs (.ref z) "zip" := ⟨_, hz, rfl⟩
  unfold pyNext
  refine wpAny_bind (wpAny_attempt (wpAny_callSpecial?_slot (name := Str.ofString "__next__") ty F.slot_zip_next (wpAny_call_entry F.slot_zip_next ty F.entry_zip_next
    (zipB_end hh D hz hU hO hi hj hl hm he fun g e hk st => ?_) (F.args_zip_next_1 _))))
  obtain ⟨o, h1, h2⟩ := st
  refine wpAny_bind (wpAny_isInstance (T := "StopIteration") (b := true) ⟨o, h1, h2⟩ isSubtype_stop (?_ : _))
  exact wpAny_pure (kk _ hk)
end
/-! ### zip made -/
def itName (b : Bool) : String := if b = true then "list_iterator" else "tuple_iterator"
abbrev zb1 (b : Bool) (h : Heap) (l : Addr) : Heap := h.push { cls := .type (itName b), data := .fields #[.ref l, .int 0 0] }
abbrev zb2 (b c : Bool) (h : Heap) (l m : Addr) : Heap := (zb1 b h l).push { cls := .type (itName c), data := .fields #[.ref m, .int 0 0] }
abbrev zb3 (b c : Bool) (h : Heap) (l m : Addr) : Heap := (zb2 b c h l m).push { cls := .type "tuple", data := .seq #[.ref h.objs.size, .ref (zb1 b h l).objs.size] }
abbrev zb4 (b c : Bool) (h : Heap) (l m : Addr) : Heap := (zb3 b c h l m).push { cls := .type "tuple", data := .seq #[.none, .none] }
abbrev zb5 (b c : Bool) (h : Heap) (l m : Addr) : Heap := (zb4 b c h l m).push { cls := .type "zip", data := .fields #[.none, .bool false, .bool false, .ref (zb2 b c h l m).objs.size, .ref (zb3 b c h l m).objs.size] }
theorem zipB_new (b c : Bool) (l m : Addr) (xs ys : Array Value) :
    Meets (Builtin.«zip.__new__» ⟨[.type "zip", .ref l, .ref m], []⟩) (fun _ R s => SeqB b s.heap l xs ∧ SeqB c s.heap m ys ∧ R (.ok (.ret (.ref (zb4 b c s.heap l m).objs.size))) { s with heap := zb5 b c s.heap l m }) :=
  .of_wp fun prog w A R s h => by
    obtain ⟨hp, g, d, tk, os⟩ := s
    obtain ⟨hl, hm, k⟩ := h
    have sb := sub_zip
    cases b <;> cases c
    · have L : Heap.IsTuple (Shared.heap ⟨hp, g, d, tk, os⟩) l xs := hl
      have M : Heap.IsTuple (Shared.heap ⟨hp.push { cls := .type "tuple_iterator", data := .fields #[.ref l, .int 0 0] }, g, d, tk, os⟩) m ys := Heap.IsTuple.push (show Heap.IsTuple hp m ys from hm) _
      wp_walk using wpAny_pyIter_tuple L, wpAny_pyIter_tuple M
      exact ⟨_, rfl, k⟩
    · have L : Heap.IsTuple (Shared.heap ⟨hp, g, d, tk, os⟩) l xs := hl
      have M : Heap.IsList (Shared.heap ⟨hp.push { cls := .type "tuple_iterator", data := .fields #[.ref l, .int 0 0] }, g, d, tk, os⟩) m ys := Heap.IsList.push (show Heap.IsList hp m ys from hm) _
      wp_walk using wpAny_pyIter_tuple L, wpAny_pyIter_list M
      exact ⟨_, rfl, k⟩
    · have L : Heap.IsList (Shared.heap ⟨hp, g, d, tk, os⟩) l xs := hl
      have M : Heap.IsTuple (Shared.heap ⟨hp.push { cls := .type "list_iterator", data := .fields #[.ref l, .int 0 0] }, g, d, tk, os⟩) m ys := Heap.IsTuple.push (show Heap.IsTuple hp m ys from hm) _
      wp_walk using wpAny_pyIter_list L, wpAny_pyIter_tuple M
      exact ⟨_, rfl, k⟩
    · have L : Heap.IsList (Shared.heap ⟨hp, g, d, tk, os⟩) l xs := hl
      have M : Heap.IsList (Shared.heap ⟨hp.push { cls := .type "list_iterator", data := .fields #[.ref l, .int 0 0] }, g, d, tk, os⟩) m ys := Heap.IsList.push (show Heap.IsList hp m ys from hm) _
      wp_walk using wpAny_pyIter_list L, wpAny_pyIter_list M
      exact ⟨_, rfl, k⟩
theorem jtB_new {b : Bool} {h : Heap} {i l : Addr} (e : h.get? i = some { cls := .type (itName b), data := .fields #[.ref l, .int 0 0] }) : JtB b h i l 0 := by
  cases b
  · exact ⟨_, e, rfl, rfl⟩
  · exact ⟨_, e, rfl, rfl⟩
section
variable {P : Program} {w : World} {A : Around} {E : Value → Shared → Prop} {s : Shared}
theorem zipB_call {b c : Bool} {l m : Addr} {xs ys : Array Value} {Q : Value → Shared → Prop} (hl : SeqB b s.heap l xs) (hm : SeqB c s.heap m ys)
    (k : ∀ g, IsZip g (s.heap.objs.size + 4) (s.heap.objs.size + 2) (s.heap.objs.size + 3) .none → IsPair g (s.heap.objs.size + 2) (.ref s.heap.objs.size) (.ref (s.heap.objs.size + 1)) →
      IsPair g (s.heap.objs.size + 3) .none .none → JtB b g s.heap.objs.size l 0 → JtB c g (s.heap.objs.size + 1) m 0 → (∀ a o, s.heap.get? a = some o → g.get? a = some o) → Q (.ref (s.heap.objs.size + 4)) { s with heap := g }) :
    wpAny (model P w) A (call (.type "zip") [.ref l, .ref m]) Q E s := by
  refine callType_new F.called_zip (by decide) (F.typeCall_zip_2 _ _) (F.newCall_zip_2 _ _) (fun o => F.args_object_init_3 o _ _) F.entry_zip_new (zipB_new b c l m xs ys) ⟨hl, hm, ?_⟩
  have e1 : (zb1 b s.heap l).objs.size = s.heap.objs.size + 1 := Heap.size_push ..
  have e2 : (zb2 b c s.heap l m).objs.size = s.heap.objs.size + 2 := by rw [Heap.size_push, e1]
  have e3 : (zb3 b c s.heap l m).objs.size = s.heap.objs.size + 3 := by rw [Heap.size_push, e2]
  have e4 : (zb4 b c s.heap l m).objs.size = s.heap.objs.size + 4 := by rw [Heap.size_push, e3]
  have f5 : (zb5 b c s.heap l m).get? (zb4 b c s.heap l m).objs.size = some _ := Heap.get?_push_size _ rfl
  have f4 : (zb5 b c s.heap l m).get? (zb3 b c s.heap l m).objs.size = some _ := Heap.get?_push_of_some _ (Heap.get?_push_size _ rfl)
  have f3 : (zb5 b c s.heap l m).get? (zb2 b c s.heap l m).objs.size = some _ := Heap.get?_push_of_some _ (Heap.get?_push_of_some _ (Heap.get?_push_size _ rfl))
  have f2 : (zb5 b c s.heap l m).get? (zb1 b s.heap l).objs.size = some _ := Heap.get?_push_of_some _ (Heap.get?_push_of_some _ (Heap.get?_push_of_some _ (Heap.get?_push_size _ rfl)))
  have f1 : (zb5 b c s.heap l m).get? s.heap.objs.size = some _ := Heap.get?_push_of_some _ (Heap.get?_push_of_some _ (Heap.get?_push_of_some _ (Heap.get?_push_of_some _ (Heap.get?_push_size _ rfl))))
  show _ ∧ _
  rw [e2, e3, e4] at f5
  rw [e1, e2] at f3
  rw [e3] at f4
  rw [e1] at f2
  rw [e4]
  exact ⟨⟨_, f5, rfl⟩, k _ f5 f3 f4 (jtB_new f1) (jtB_new f2) fun a o x => Heap.get?_push_of_some _ (Heap.get?_push_of_some _ (Heap.get?_push_of_some _ (Heap.get?_push_of_some _ (Heap.get?_push_of_some _ x))))⟩
end
/-! ### the rule -/
def SqZ (K : PySem.W.Frag) (b : Bool) (H : Hp) (a : Addr) (xs : List V) : Prop := if b = true then SqL K H a xs else SqT K H a xs
def ItZ (K : PySem.W.Frag) (b c : Bool) (l m : Addr) : It :=
  ⟨fun i H => ∃ (xs ys : List V) (x y : V), SqZ K b H l xs ∧ SqZ K c H m ys ∧ xs[i]? = some x ∧ ys[i]? = some y,
    fun i H v H' => ∃ T x y, v = .ref T ∧ H T = none ∧ H' = upd H T (.tup [x, y]) ∧ (∀ xs, SqZ K b H l xs → xs[i]? = some x) ∧ ∀ ys, SqZ K c H m ys → ys[i]? = some y,
    fun i H => ∃ xs ys : List V, SqZ K b H l xs ∧ SqZ K c H m ys ∧ (xs.length ≤ i ∨ ys.length ≤ i)⟩
theorem Inv.sqZ {X : Cx} {pins : List (Addr × Obj)} {σ : St} {H : Hp} {s : Shared} {b : Bool} {a : Addr} {xs : List V} (I : Inv X pins σ H s) (h : SqZ X.K b H a xs) : ∃ its, Vals xs its ∧ SeqB b s.heap a its.toArray := by
  cases b
  · obtain ⟨its, rv, p, _⟩ := I.tuple (show SqT X.K H a xs from h)
    exact ⟨its, rv, p⟩
  · obtain ⟨its, rv, p, _⟩ := I.list (show SqL X.K H a xs from h)
    exact ⟨its, rv, p.isList⟩
theorem Inv.sqZ_inj {X : Cx} {pins : List (Addr × Obj)} {σ : St} {H : Hp} {s : Shared} {b : Bool} {a : Addr} {xs ys : List V} (I : Inv X pins σ H s) (h : SqZ X.K b H a xs) (h' : SqZ X.K b H a ys) : xs = ys := by
  cases b
  · exact I.tuple_inj (show SqT X.K H a xs from h) (show SqT X.K H a ys from h')
  · exact I.list_inj (show SqL X.K H a xs from h) (show SqL X.K H a ys from h')
theorem turnZ {P : Program} {w : World} {K : PySem.W.Frag} {elts : List Expr} {n : Nat} {tpos : Pos} {b c : Bool} {l m z U O i j : Addr} (D : ZipApart z U O i j l m) :
    Turn P w K (.Tuple elts n tpos) (ItZ K b c l m) [z, U, O, i, j] z (fun p h => IsZip h z U O .none ∧ IsPair h U (.ref i) (.ref j) ∧ (∃ x y, IsPair h O x y) ∧ JtB b h i l p ∧ JtB c h j m p) where
  mem := by simp
  obj := fun p h st a ha => by
    obtain ⟨hz, hU, ⟨x, y, hO⟩, hi, hj⟩ := st
    have e : a = z ∨ a = U ∨ a = O ∨ a = i ∨ a = j := by simpa using ha
    rcases e with e | e | e | e | e <;> subst e
    · exact ⟨_, hz, fun v q => nomatch q⟩
    · exact ⟨_, hU, fun v q => nomatch q⟩
    · exact ⟨_, hO, fun v q => nomatch q⟩
    · exact hi.ob
    · exact hj.ob
  keep := fun p h g st k => by
    obtain ⟨hz, hU, ⟨x, y, hO⟩, hi, hj⟩ := st
    exact ⟨k z (by simp) _ hz, k U (by simp) _ hU, ⟨x, y, k O (by simp) _ hO⟩, hi.at fun o q => k i (by simp) o q, hj.at fun o q => k j (by simp) o q⟩
  item := by
    intro X hP hw hK hc p pins s σ H E I hf st hg
    subst hP hw hK
    obtain ⟨hz, hU, ⟨x0, y0, hO⟩, hi, hj⟩ := st
    obtain ⟨xs, ys, x, y, qx, qy, hx, hy⟩ := hg
    obtain ⟨its, rv, px⟩ := I.sqZ qx
    obtain ⟨jts, rw', py⟩ := I.sqZ qy
    obtain ⟨a1, ha1, ra1⟩ := rv.get hx
    obtain ⟨a2, ha2, ra2⟩ := rw'.get hy
    have zl : z < s.heap.objs.size := Heap.lt_size hz
    refine nextZ_item D hz hU hO hi hj px py (x := a1) (y := a2) (by simpa using ha1) (by simpa using ha2) fun g z' O' i' j' hT sz hk => ?_
    refine ⟨_, rfl, wpAny_letOwnedTupleGo_zip (s := { s with heap := g }) z' fun g2 z2 sb => ?_⟩
    have T2 : g2.get? s.heap.objs.size = some { cls := .type "tuple", data := .seq #[a1, a2] } := (sb.2 _ (Nat.ne_of_gt zl)).trans hT
    have nw : ObjOk X.prog X.w (upd H s.heap.objs.size (.tup [x, y])) g2 s.heap.objs.size (.tup [x, y]) := ⟨by show 2 ≤ sizeLine; decide, [a1, a2], .cons ra1 (.cons ra2 .nil), ⟨_, T2, rfl, _, rfl⟩⟩
    have out : ∀ a o, a ∉ [z, U, O, i, j] → s.heap.get? a = some o → g2.get? a = some o := fun a o ha q =>
      (sb.2 a (fun r => ha (by simp [r]))).trans (hk a o (fun r => ha (by simp [r])) (fun r => ha (by simp [r])) (fun r => ha (by simp [r])) (fun r => ha (by simp [r])) q)
    have I1 : Inv X pins σ (upd H s.heap.objs.size (.tup [x, y])) { s with heap := g2 } := I.turnedNew (t' := s.toks) (ch := [z, U, O, i, j]) out hf (Nat.le_refl _) nw
    refine ⟨.ref s.heap.objs.size, _, I1, rfl, ⟨_, x, y, rfl, I.hok.fresh (Nat.le_refl _), rfl, fun l hl => by rw [I.sqZ_inj hl qx]; exact hx, fun l hl => by rw [I.sqZ_inj hl qy]; exact hy⟩, ⟨z2, ?_, ⟨a1, a2, ?_⟩, ?_, ?_⟩, fun a ha => ?_⟩
    · exact (sb.2 _ D.TIz).trans (hk _ _ D.TIz D.TITO D.TIi1 D.TIi2 hU)
    · exact (sb.2 _ D.TOz).trans O'
    · exact i'.at fun o q => (sb.2 _ D.i1z).trans q
    · exact j'.at fun o q => (sb.2 _ D.i2z).trans q
    · have lt : a < s.heap.objs.size := by
        have e : a = z ∨ a = U ∨ a = O ∨ a = i ∨ a = j := by simpa using ha
        rcases e with e | e | e | e | e <;> subst e
        · exact zl
        · exact Heap.lt_size hU
        · exact Heap.lt_size hO
        · obtain ⟨_, q, _⟩ := hi.ob
          exact Heap.lt_size q
        · obtain ⟨_, q, _⟩ := hj.ob
          exact Heap.lt_size q
      rw [upd_ne (Nat.ne_of_lt lt)]
      exact (hf a ha).1
  done := by
    intro X hP hw hK hc p pins s σ H E I hf st hg
    subst hP hw hK
    obtain ⟨hz, hU, ⟨x0, y0, hO⟩, hi, hj⟩ := st
    obtain ⟨xs, ys, qx, qy, he⟩ := hg
    obtain ⟨its, rv, px⟩ := I.sqZ qx
    obtain ⟨jts, rw', py⟩ := I.sqZ qy
    have n1 := rv.length
    have n2 := rw'.length
    have hh : its.toArray[p]? = none ∨ jts.toArray[p]? = none := by
      rcases he with q | q
      · exact .inl (by simp; omega)
      · exact .inr (by simp; omega)
    exact nextZ_end (I.ok.hd hc) D hz hU hO hi hj px py hh fun g hk => ⟨rfl, I.turnedL (t' := s.toks) (ch := [z, U, O, i, j]) (fun a o ha q =>
      hk a o (fun r => ha (by simp [r])) (fun r => ha (by simp [r])) (fun r => ha (by simp [r])) (fun r => ha (by simp [r])) q) hf⟩
  self := fun A p s Q E st h => wpAny_pyIter_zip st.1 h
def iZipZ (K : PySem.W.Frag) (ta : TA) : TI := fun σ H R => ta σ H fun vs H1 => ∃ (b c : Bool) (l m : Addr) (xs ys : List V), vs = [.ref l, .ref m] ∧ SqZ K b H1 l xs ∧ SqZ K c H1 m ys ∧ R (ItZ K b c l m) H1
theorem pi_zipZ {X : Cx} {e e2 : Expr} {ta : TA} {p pos tpos : Pos} {elts : List Expr} {n : Nat} (hg : Gl X "zip") (hm : X.mg "zip" = none) (ha : PA X [e, e2] ta)
    (hs : starEach [e, e2] X.env = (false, eval e X.env) :: starEach [e2] X.env := by rfl) (hp : (backTo pos (starEach [e2] X.env)).any (·.1) = false := by rfl) :
    PI X (.Tuple elts n tpos) (.Call (.Name "zip" p) [e, e2] [] pos) (iZipZ X.K ta) := by
  refine ⟨fun pins s σ H R I h => ?_⟩
  refine Call_ (ld_blt I hg hm PyProof.Rows.boot_zip (PyProof.Rows.callWith_type1 (thn (ha.run pos pins s σ H _ I h) fun us s1 ⟨vs, H1, I1, r1, q1⟩ => (?_ : _)) hs hp))
  obtain ⟨b, c, l, m, xs, ys, rfl, qx, qy, q⟩ := q1
  cases r1 with
  | cons r rr =>
    cases rr with
    | cons r' rr =>
      cases rr
      cases r
      cases r'
      have five : ∀ a, a ∈ [s1.heap.objs.size + 4, s1.heap.objs.size + 2, s1.heap.objs.size + 3, s1.heap.objs.size, s1.heap.objs.size + 1] → FpOk X pins H1 a := fun a ha => by
        have e : a = s1.heap.objs.size + 4 ∨ a = s1.heap.objs.size + 2 ∨ a = s1.heap.objs.size + 3 ∨ a = s1.heap.objs.size ∨ a = s1.heap.objs.size + 1 := by simpa using ha
        have le : s1.heap.objs.size ≤ a := by
          rcases e with e | e | e | e | e <;> subst e
          all_goals first | exact Nat.le_refl _ | exact Nat.le_add_right _ _
        exact I1.fpOk le (I1.hok.fresh le)
      obtain ⟨its, rv, px⟩ := I1.sqZ qx
      obtain ⟨jts, rw', py⟩ := I1.sqZ qy
      refine zipB_call px py fun g hz hU hO hi hj hk => wpAny_pyIter_zip hz ?_
      have I2 : Inv X pins σ H1 { s1 with heap := g } := I1.kept (t' := s1.toks) hk
      exact ⟨s1.heap.objs.size + 4, [s1.heap.objs.size + 4, s1.heap.objs.size + 2, s1.heap.objs.size + 3, s1.heap.objs.size, s1.heap.objs.size + 1], _, _, H1, rfl, I2, turnZ (PySem.W.ktu_apart s1.heap.objs.size l m px.lt py.lt), ⟨hz, hU, ⟨_, _, hO⟩, hi, hj⟩, five, q⟩
/-- a loop over zip of two sequences of one length -/
theorem for_zipZ {K : PySem.W.Frag} {b c : Bool} {l m : Addr} {xs ys : List V} {g : TG} {tb : TS} {D : Ends} {σ : L2.St} {H : Hp} (hl : xs.length = ys.length) (Pv : Nat → L2.St → Hp → Prop) (h0 : Pv 0 σ H) (hq : ∀ i σ H, Pv i σ H → SqZ K b H l xs ∧ SqZ K c H m ys)
    (one : ∀ (i : Nat) (x y : V) (T : Addr) (σ : L2.St) (H : Hp), xs[i]? = some x → ys[i]? = some y → Pv i σ H → H T = none → g (.ref T) σ (upd H T (.tup [x, y])) fun σ2 H2 => tb { D with nx := Pv (i + 1), ct := Pv (i + 1), bk := D.nx } σ2 H2) (fin : ∀ σ H, Pv xs.length σ H → D.nx σ H) :
    ∃ W : Nat → Nat → L2.St → Hp → Prop, (∃ n, W 0 n σ H) ∧ ∀ i n σ H, W i n σ H →
      ((ItZ K b c l m).stop i H ∧ D.nx σ H) ∨ ((ItZ K b c l m).go i H ∧ ∃ N : L2.St → Hp → Prop, (∀ σ' H', N σ' H' → ∃ n', n' < n ∧ W (i + 1) n' σ' H') ∧ ∀ v H', (ItZ K b c l m).yld i H v H' → g v σ H' fun σ2 H2 => tb { D with nx := N, ct := N, bk := D.nx } σ2 H2) := by
  refine ⟨fun i n σ H => n = xs.length - i ∧ i ≤ xs.length ∧ Pv i σ H, ⟨xs.length, rfl, Nat.zero_le _, h0⟩, ?_⟩
  rintro i n σ H ⟨rfl, hi, pp⟩
  obtain ⟨qx, qy⟩ := hq i σ H pp
  by_cases lt : i < xs.length
  · have lt2 : i < ys.length := by omega
    refine .inr ⟨⟨xs, ys, _, _, qx, qy, List.getElem?_eq_getElem lt, List.getElem?_eq_getElem lt2⟩, Pv (i + 1), fun σ' H' p' => ⟨xs.length - (i + 1), by omega, rfl, lt, p'⟩, fun v H' yl => ?_⟩
    obtain ⟨T, x', y', rfl, hT, rfl, f1, f2⟩ := yl
    exact one i x' y' T σ H (f1 xs qx) (f2 ys qy) pp hT
  · have e : i = xs.length := by omega
    subst e
    exact .inl ⟨⟨xs, ys, qx, qy, Or.inl (Nat.le_refl _)⟩, fin σ H pp⟩
theorem walk_zipZ {K : PySem.W.Frag} {b c : Bool} {l m : Addr} {xs ys : List V} {n : Nat} (hn : n = min xs.length ys.length) : Walk (ItZ K b c l m) n (fun H => SqZ K b H l xs ∧ SqZ K c H m ys) (YPair (fun i => xs[i]?) (fun i => ys[i]?)) := by
  subst hn
  refine ⟨fun i _ hi q => ?_, fun _ q => ⟨xs, ys, q.1, q.2, by omega⟩, fun i H v H' _ q y => ?_⟩
  · have h1 : i < xs.length := by omega
    have h2 : i < ys.length := by omega
    exact ⟨xs, ys, xs[i], ys[i], q.1, q.2, List.getElem?_eq_getElem h1, List.getElem?_eq_getElem h2⟩
  · obtain ⟨T, x, z, f1, f2, f3, f4, f5⟩ := y
    exact ⟨T, x, z, f1, f2, f3, f4 xs q.1, f5 ys q.2⟩
end L2
namespace L2
open PySem PySem.Spec PyProof.Rows
/-! ### set(l), l a list of numbers -/
abbrev setOb (w : World) : Obj := { cls := .type "set", dict := none, data := .set #[] 0 (.fresh 0 0 (!w.params.followText "set-order")) }
section
variable {P : Program} {w : World} {A : Around} {E : Value → Shared → Prop} {s : Shared}
set_option maxRecDepth 100000 in
set_option maxHeartbeats 3200000 in
theorem set_of_lst {l : Addr} {its : Array Value} (ns : List Int) {Q : Value → Shared → Prop} (hh : A.handled = none) (isl : s.heap.IsList l its) (hit : IntsAre its.toList ns) (few : ns.length + 1 < scanBound)
    (q : ∀ (g : Heap) (tk c : Nat), SetR w g s.heap.objs.size (fun j => decide (j ∈ ns)) c → c ≤ ns.length → (∀ b o, s.heap.get? b = some o → g.get? b = some o) → Q (.ref s.heap.objs.size) { s with heap := g, toks := tk }) :
    wpAny (model P w) A (call (.type "set") [.ref l]) Q E s := by
  have sz : its.size = ns.length := by
    have z := IntsAre.length hit
    rw [Array.length_toList] at z
    exact z
  obtain ⟨cc, tt, mro⟩ := F.called_set.mro
  have mad := F.called_set.made
  have sbs := F.called_set.sub
  refine wpAny_call (codeAny_of_tree ?_)
  show wpAny _ _ (callAny (.type "set") _) _ _ _
  refine wpAny_pure ⟨Code.quiet_builtin _ (by decide +kernel), codeAny_builtin F.entry_type_call (?_ : _)⟩
  rw [show Around.under _ _ = _ from Around.under_plain (weight_type_call_type "set" [.ref l] []) rfl]
  have n1 := F.called_set.notType
  have n2 := F.called_set.canCreate
  have n3 := F.typeCall_set_1 (.ref l)
  repeat (any_goals (first | assumption | wp_step))
  refine codeAny_mono (code_set_led1 (.ref l) (E := E) (Q₁ := fun o t => o = .ref s.heap.objs.size ∧ t = { s with heap := s.heap.push (setOb w) }) ⟨rfl, rfl⟩) fun r t hr => ?_
  match r, hr with
  | .error e, hr => exact hr
  | .ok .next, hr | .ok .brk, hr | .ok .cont, hr => exact hr.elim
  | .ok (.ret o), hr =>
    obtain ⟨rfl, rfl⟩ := hr
    have at0 : (s.heap.push (setOb w)).get? s.heap.objs.size = some (setOb w) := Heap.get?_push_size _ rfl
    have ty0 : Shared.TypeIs { s with heap := s.heap.push (setOb w) } (.ref s.heap.objs.size) "set" := ⟨_, at0, rfl⟩
    have lk := F.called_set.init.lookup
    have bd := F.called_set.init.bind (.ref s.heap.objs.size)
    repeat (any_goals (first | assumption | wp_step))
    refine codeAny_mono (codeAny_call_builtin (R := wants (fun r t => r = .none ∧ ∃ g tk c, t = { s with heap := g, toks := tk } ∧ SetR w g s.heap.objs.size (fun j => decide (j ∈ ns)) c ∧ c ≤ ns.length ∧ (∀ b o, s.heap.get? b = some o → g.get? b = some o)) E) F.called_set.init.plain F.entry_set_init (check_set_init_1 ty0 ?_)) fun r2 t2 hr2 => ?_
    · obtain ⟨ob, hob, oc, m, od⟩ := isl
      obtain ⟨ocl, odc, odt, osl⟩ := ob
      simp only at oc od
      subst oc od
      have hob2 : (s.heap.push (setOb w)).get? l = some { cls := .type "list", dict := odc, data := .seq its m, slots := osl } := Heap.get?_push_of_some _ hob
      have f1 := F.sub_list_set
      have f2 := F.sub_list_frozenset
      have f3 : (Value.type "list" == Value.type "dict") = false := by decide
      have isl2 : (s.heap.push (setOb w)).IsList l its := ⟨_, hob2, rfl, m, rfl⟩
      unfold Builtin.«set.__init__» noKeywords Builtin.Frozenset.updateFrom
      generalize hPI : pyIter = PI
      wp_walk
      subst hPI
      refine wpAny_pyIter_list isl2 ?_
      refine wpAny_bind (wpAny_runValue (?_ : _))
      have lt : l < s.heap.objs.size := Heap.lt_size hob
      have hh3 : A.in1.in1.in1.handled = none := by simp [hh]
      have ne1 : l ≠ (s.heap.push (setOb w)).objs.size := by
        rw [Heap.size_push]
        exact Nat.ne_of_lt (Nat.lt_succ_of_lt lt)
      have nin : s.heap.objs.size ∉ [(s.heap.push (setOb w)).objs.size, l] := by
        rw [Heap.size_push]
        simp only [List.mem_cons, List.not_mem_nil, or_false, not_or]
        exact ⟨Nat.ne_of_lt (Nat.lt_succ_self _), Nat.ne_of_gt lt⟩
      have val : ∀ (i : Nat) (v : Value), its[i]? = some v → ∃ k t, ns[i]? = some k ∧ v = .int k t := fun i v hv => by
        have hi : i < ns.length := by
          rw [← sz]
          exact (Array.getElem?_eq_some_iff.mp hv).1
        obtain ⟨t, e⟩ := PyProof.Rows.IntsAre.int_at hit i v (by rw [Array.getElem?_toList, hv])
        refine ⟨ns[i], t, List.getElem?_eq_getElem hi, ?_⟩
        rw [e, List.getD_eq_getElem?_getD, List.getElem?_eq_getElem hi]
        rfl
      refine set_update_ints ((Walks.list hh3 _ l ne1 its).toS) s.heap.objs.size nin ns sz few val (its.size - 0) 0 _ (by omega) (Nat.zero_le _) ⟨⟨_, Heap.get?_push_size _ rfl, rfl, rfl⟩, (isl2.push _)⟩ ?start ?stop
      case start => exact ⟨0, Nat.le_refl 0, setR_new_at (Heap.get?_push_of_some _ at0)⟩
      case stop =>
        intro t' c' mv hc' hS'
        obtain ⟨g, gg, dd, tk, oo⟩ := t'
        have e1 : gg = s.gens := mv.gens
        have e2 : dd = s.drawn := mv.drawn
        have e3 : oo = s.os := mv.os
        subst e1 e2 e3
        show wpAny _ _ _ _ _ _
        refine wpAny_pure ?_
        show wpAny _ _ (ret Value.none) _ _ _
        rw [sz] at hc'
        refine wpAny_pure ⟨rfl, g, tk, c', rfl, hS', hc', fun b o e => ?_⟩
        have b0 : b < s.heap.objs.size := Heap.lt_size e
        refine mv.heap b o ?_ (Heap.get?_push_of_some _ (Heap.get?_push_of_some _ e))
        rw [Heap.size_push]
        simp only [List.mem_cons, List.not_mem_nil, or_false, not_or]
        exact ⟨Nat.ne_of_lt b0, Nat.ne_of_lt (Nat.lt_succ_of_lt b0)⟩
    · match r2, hr2 with
      | .error e, hr2 => exact hr2
      | .ok .next, hr2 | .ok .brk, hr2 | .ok .cont, hr2 => exact hr2.elim
      | .ok (.ret r), hr2 =>
        obtain ⟨rfl, g, tk, c', rfl, hS', hc', keep⟩ := hr2
        repeat (any_goals (first | assumption | wp_step))
        exact q _ _ _ hS' hc' keep
end
section
variable {X : Cx}
def rSetI (K : PySem.W.Frag) (w : World) : List V → Hp → VK → Prop := fun xs H Q => ∃ (l : Addr) (ns : List Int), xs = [.ref l] ∧ SqL K H l (ns.map V.int) ∧ ns.length < 1000 ∧
  ∀ (p : Addr) (n : Nat), H p = none → n ≤ ns.length → Q (.ref p) (upd H p (SetO w p (fun j => decide (j ∈ ns)) n))
theorem cr_setI (hc : X.calm = true) : CallR X (.type "set") (rSetI X.K X.w) := by
  intro pins s σ H xs us Q I r h
  obtain ⟨l, ns, rfl, hq, hl, k⟩ := h
  obtain ⟨u, rfl, ru⟩ := vals1 r
  cases ru
  obtain ⟨its, rv, pl, hz⟩ := I.list hq
  refine set_of_lst ns (I.ok.hd hc) pl.isList (by simpa using ints_of_vals rv) (by unfold scanBound; omega) fun g tk c R hc keep => ?_
  exact ⟨.ref _, _, I.laid keep (Nat.le_refl _) (setO_new R), rfl, k _ c (I.hok.fresh (Nat.le_refl _)) hc⟩
end
end L2
namespace L2
open PySem PySem.Spec PyProof.Rows
/-! ### len(s), s a set of numbers -/
def rLenSet (w : World) : List V → Hp → VK → Prop := fun xs H Q => ∃ (a : Addr) (S : Int → Bool) (n : Nat), xs = [.ref a] ∧ H a = some (SetO w a S n) ∧ n < 1000 ∧ ∀ ks : List Int, ks.Nodup → (∀ k, S k = true ↔ k ∈ ks) → Q (.int (ks.length : Nat)) H
theorem call_lenSet {X : Cx} : CallR X (.builtin "len") (rLenSet X.w) := by
  intro pins s σ H xs us Q I r h
  obtain ⟨a, S, n, rfl, ha, n1, q⟩ := h
  have R := setO_get I ha
  rw [Vals.ref1 r]
  obtain ⟨o, es, ep, t, ho, hex, hd, g, nd, hm, hb, hf, hn, hr, hl⟩ := R
  exact call_len_set ho hex hd hf (by rw [hn] <;> omega) ⟨.int ((es.toList.map keyOf).length : Nat), H, I.tok _, ⟨_, by rw [List.length_map, Array.length_toList]⟩, q _ nd hm⟩
end L2
namespace L2
open PySem PySem.Spec PyProof.Rows
/-! ### a dict comprehension over a walk -/
theorem dc_it {J : It} {n : Nat} {G : Hp → Prop} {Y : Nat → Hp → V → Hp → Prop} (w : Walk J n G Y) {g : TG} {tt : TT} {tk tv : TE} {vs : List Nat} {σ : St} {H0 : Hp} {D : Addr} {Qd : Hp → Prop} (Pv : Nat → Hp → Prop) (h0 : Pv 0 (upd H0 D (.dK []))) (hG : ∀ i H, i ≤ n → Pv i H → G H)
    (one : ∀ i x H H', i < n → Pv i H → Y i H x H' → g x (wipe σ vs) H' fun σ2 H2 => wipe σ2 vs = wipe σ vs ∧ tt σ2 H2 fun b H3 =>
      if b = true then tk σ2 H3 fun y H4 => tv σ2 H4 fun z H5 => ∃ kvs k, y = kV k ∧ H5 D = some (.dK kvs) ∧ kvs.length < sizeLine ∧ Pv (i + 1) (upd H5 D (.dK (putK kvs k z))) else Pv (i + 1) H3) (fin : ∀ H, Pv n H → Qd H) :
    ∃ W : Nat → Nat → Hp → Prop, (∃ m, W 0 m (upd H0 D (.dK []))) ∧ ∀ i m H, W i m H →
      (J.stop i H ∧ Qd H) ∨ (J.go i H ∧ ∃ Nx : Hp → Prop, (∀ H', Nx H' → ∃ m', m' < m ∧ W (i + 1) m' H') ∧ ∀ x H', J.yld i H x H' → g x (wipe σ vs) H' fun σ2 H2 => wipe σ2 vs = wipe σ vs ∧ tt σ2 H2 fun b H3 =>
        if b = true then tk σ2 H3 fun y H4 => tv σ2 H4 fun z H5 => ∃ kvs k, y = kV k ∧ H5 D = some (.dK kvs) ∧ kvs.length < sizeLine ∧ Nx (upd H5 D (.dK (putK kvs k z))) else Nx H3) := by
  refine ⟨fun i m H => m = n - i ∧ i ≤ n ∧ Pv i H, ⟨n, by simp, Nat.zero_le _, h0⟩, ?_⟩
  rintro i m H ⟨rfl, hi, pp⟩
  have q := hG i H hi pp
  by_cases lt : i < n
  · exact .inr ⟨w.goes i H lt q, Pv (i + 1), fun H' p' => ⟨n - (i + 1), by omega, rfl, lt, p'⟩, fun x H' y => one i x H H' lt pp (w.yields i H x H' lt q y)⟩
  · have e : i = n := by omega
    subst e
    exact .inl ⟨w.stops H q, fin H pp⟩
end L2
namespace L2
open PySem PySem.Spec PyProof.Rows
theorem putK_out {kvs : List (Key × V)} {k : Key} {v : V} (h : k ∉ kvs.map (·.1)) : putK kvs k v = kvs ++ [(k, v)] := by
  unfold putK
  rw [if_neg]
  rw [List.any_eq_true]
  rintro ⟨p, hp, e⟩
  exact h (List.mem_map.mpr ⟨p, hp, of_decide_eq_true e⟩)
end L2
namespace Toy
open PySem L2
def top (i : Nat) : Stmt := PySem.Challenge.pw_nearloops_k24_whole_one_ranked_row.main.body.getD i (.Pass ⟨0, 0, 0, 0⟩)
abbrev s_is_number : Stmt := top 7
abbrev s_is_tolerance : Stmt := top 8
abbrev s_check_number : Stmt := top 9
abbrev s_check_tolerance : Stmt := top 10
abbrev s_check_row : Stmt := top 11
abbrev s_cells_and_ranks : Stmt := top 13
abbrev s_ranked : Stmt := top 14
abbrev s_same_shape : Stmt := top 15
abbrev s_law_source : Stmt := top 17
abbrev s_law_draw : Stmt := top 18
abbrev s_law_tolerance : Stmt := top 19
abbrev s_law_row : Stmt := top 20
abbrev s_law_unlike : Stmt := top 21
abbrev s_law_all_rests : Stmt := top 22
abbrev s_law_is_ranked : Stmt := top 23
abbrev s_law : Stmt := top 24
theorem sc_is_number : FnScope ["thing"] ["thing"] (defScope s_is_number) := ⟨rfl, rfl, rfl, by decide +kernel, rfl, by decide +kernel, by decide +kernel⟩
theorem sc_is_tolerance : FnScope ["thing"] ["thing"] (defScope s_is_tolerance) := ⟨rfl, rfl, rfl, by decide +kernel, rfl, by decide +kernel, by decide +kernel⟩
theorem sc_check_number : FnScope ["number"] ["number"] (defScope s_check_number) := ⟨rfl, rfl, rfl, by decide +kernel, rfl, by decide +kernel, by decide +kernel⟩
theorem sc_check_tolerance : FnScope ["tolerance"] ["tolerance"] (defScope s_check_tolerance) := ⟨rfl, rfl, rfl, by decide +kernel, rfl, by decide +kernel, by decide +kernel⟩
theorem sc_check_row : FnScope ["row", "item"] ["row"] (defScope s_check_row) := ⟨rfl, rfl, rfl, by decide +kernel, rfl, by decide +kernel, by decide +kernel⟩
theorem sc_cells_and_ranks : FnScope ["row", "tolerance", "cells", "rests", "ranks", "number", "cell", "rank", "rest"] ["row", "tolerance"] (defScope s_cells_and_ranks) := ⟨rfl, rfl, rfl, by decide +kernel, rfl, by decide +kernel, by decide +kernel⟩
theorem sc_ranked : FnScope ["row", "tolerance", "cells", "ranks", "many", "least", "cell", "rank"] ["row", "tolerance"] (defScope s_ranked) := ⟨rfl, rfl, rfl, by decide +kernel, rfl, by decide +kernel, by decide +kernel⟩
theorem sc_same_shape : FnScope ["row", "tolerance", "other", "other_tolerance", "cells", "ranks", "_", "other_cells", "other_ranks", "shifts", "cell", "other_cell"] ["row", "tolerance", "other", "other_tolerance"] (defScope s_same_shape) := ⟨rfl, rfl, rfl, by decide +kernel, rfl, by decide +kernel, by decide +kernel⟩
theorem sc_law_source : FnScope ["_law_script", "_law_great", "_law_seed", "_law_cell"] ["_law_script"] (defScope s_law_source) := ⟨rfl, rfl, rfl, by decide +kernel, rfl, by decide +kernel, by decide +kernel⟩
theorem sc_law_draw : FnScope ["_law_source_here", "_law_many", "_law_digit", "_law_mixed"] ["_law_source_here", "_law_many"] (defScope s_law_draw) := ⟨rfl, rfl, rfl, by decide +kernel, rfl, by decide +kernel, by decide +kernel⟩
theorem sc_law_tolerance : FnScope ["_law_source_here"] ["_law_source_here"] (defScope s_law_tolerance) := ⟨rfl, rfl, rfl, by decide +kernel, rfl, by decide +kernel, by decide +kernel⟩
theorem sc_law_row : FnScope ["_law_source_here", "_law_most", "_law_tolerance_here", "_law_row_here", "_law_k", "_law_base", "_law_step", "_law_shift", "_law_x"] ["_law_source_here", "_law_most", "_law_tolerance_here"] (defScope s_law_row) := ⟨rfl, rfl, rfl, by decide +kernel, rfl, by decide +kernel, by decide +kernel⟩
theorem sc_law_unlike : FnScope ["_law_numbers", "_law_found", "_law_number", "_law_one"] ["_law_numbers"] (defScope s_law_unlike) := ⟨rfl, rfl, rfl, by decide +kernel, rfl, by decide +kernel, by decide +kernel⟩
theorem sc_law_all_rests : FnScope ["_law_many", "_law_width", "_law_found", "_law_k", "_law_longer", "_law_rests", "_law_rest"] ["_law_many", "_law_width"] (defScope s_law_all_rests) := ⟨rfl, rfl, rfl, by decide +kernel, rfl, by decide +kernel, by decide +kernel⟩
theorem sc_law_is_ranked : FnScope ["_law_row_here", "_law_width", "_law_x"] ["_law_row_here", "_law_width"] (defScope s_law_is_ranked) := ⟨rfl, rfl, rfl, by decide +kernel, rfl, by decide +kernel, by decide +kernel⟩
theorem sc_law : FnScope ["_law_script", "_law_source_here", "_law_tolerance_here", "_law_row_here", "_law_steps", "_law_alike", "_law_width", "_law_rests", "_law_other", "_law_fitting", "_law_told", "_law_x", "_law_cell", "_law_rest", "_law_one"] ["_law_script"] (defScope s_law) := ⟨rfl, rfl, rfl, by decide +kernel, rfl, by decide +kernel, by decide +kernel⟩

/-! ### the data -/
/-- H' tells all that H tells, but for what stands at p -/
def But (p : Addr) (H H' : Hp) : Prop := ∀ b o, b ≠ p → H b = some o → H' b = some o
theorem But.refl (p : Addr) (H : Hp) : But p H H := fun _ _ _ h => h
theorem But.trans {p : Addr} {H H1 H2 : Hp} (a : But p H H1) (b : But p H1 H2) : But p H H2 := fun c o n h => b c o n (a c o n h)
theorem But.upd {p : Addr} {H H' : Hp} {o : HO} (a : But p H H') : But p H (upd H' p o) := fun c o n h => by rw [upd_ne n]; exact a c o n h
theorem Same.but {p : Addr} {H H' : Hp} (a : Same H H') : But p H H' := fun c o _ h => a c o h
theorem Same.new {H : Hp} {p : Addr} {o : HO} (h : H p = none) : Same H (upd H p o) := fun b o e => by rw [upd_ne (ne_of_none e h)]; exact e
/-- a source of draws at p, at most n drawn so far -/
def Src (H : Hp) (p : Addr) (n : Int) : Prop := ∃ g s c : Int, H p = some (.lst [.int g, .int s, .int c]) ∧ 0 ≤ s ∧ s < 2147483647 ∧ 0 ≤ c ∧ c ≤ n
theorem Src.same {H H' : Hp} {p : Addr} {n : Int} (h : Src H p n) (e : Same H H') : Src H' p n := by
  obtain ⟨g, s, c, h, q⟩ := h
  exact ⟨g, s, c, e _ _ h, q⟩
theorem Src.le {H : Hp} {p : Addr} {n m : Int} (h : Src H p n) (e : n ≤ m) : Src H p m := by
  obtain ⟨g, s, c, h, q1, q2, q3, q4⟩ := h
  exact ⟨g, s, c, h, q1, q2, q3, by omega⟩

theorem draw_pow {x c : Int} (x0 : 0 ≤ x) (x1 : x < 2147483629) (c0 : 0 ≤ c) (c1 : c ≤ 1000000) : CPow (x * 48271 + 16807 * c * c + 11) 3 := by
  refine ⟨by decide, by decide, ?_⟩
  have h1 : 0 ≤ c * c := Int.mul_nonneg c0 c0
  have h2 : c * c ≤ 1000000 * 1000000 := Int.mul_le_mul c1 c1 c0 (by decide)
  have e : 16807 * c * c = 16807 * (c * c) := Int.mul_assoc _ _ _
  rw [e]
  generalize c * c = y at h1 h2
  show _ < 18446744073709551616
  omega
theorem ix_of {K : PySem.W.Frag} {H : Hp} {p : Addr} {xs : List V} {i : Int} {v : V} {Q : VK} (h : SqL K H p xs) (h2 : atI xs i = some v) (h3 : Q v H) : rIxL K (.ref p) (.int i) H Q := ⟨p, xs, i, v, rfl, rfl, h, h2, h3⟩
theorem set_of {H : Hp} {p : Addr} {xs : List V} {k : Int} {j : Nat} {v : V} {Q : Hp → Prop} (h : H p = some (.lst xs)) (h2 : ixN xs.length k = some j) (h3 : Q (upd H p (.lst (xs.set j v)))) : rSetL (.ref p) (.int k) v H Q := ⟨p, xs, k, j, rfl, rfl, h, h2, h3⟩
theorem ifne {x y : V} {A B : Prop} (h : x = y) (k : B) : if (!decide (x = y)) = true then A else B := by
  rw [decide_eq_true h]
  exact iteF k
theorem ifd {c A B : Prop} {inst : Decidable c} (h1 : c → A) (h2 : ¬ c → B) : if (@decide c inst) = true then A else B := by
  by_cases h : c
  · rw [if_pos (decide_eq_true h)]
    exact h1 h
  · rw [if_neg (by rw [decide_eq_false h]; exact Bool.false_ne_true)]
    exact h2 h
local macro_rules | `(tactic| walk_at "rd") => `(tactic| repeat (first
  | refine ⟨_, rfl, ?_⟩
  | refine ⟨_, _, rfl, rfl, ?_⟩
  | refine ⟨_, _, rfl, ?_⟩
  | refine ⟨rfl, ?_⟩
  | refine ⟨_, _, _, _, rfl, rfl, SqL.of upd_same, rfl, ?_⟩
  | refine ⟨_, _, _, _, rfl, rfl, upd_same, rfl, ?_⟩
  | refine iteT ?_
  | refine iteF ?_))
theorem take_more {α : Type} : ∀ {l : List α} {i : Nat} {x : α}, l[i]? = some x → l.take (i + 1) = l.take i ++ [x]
  | [], i, x, h => by simp at h
  | a :: l, 0, x, h => by
    have e : a = x := Option.some.inj h
    subst e
    rfl
  | a :: l, i + 1, x, h => by
    have ih := take_more (l := l) (i := i) (x := x) h
    show a :: l.take (i + 1) = a :: l.take i ++ [x]
    rw [ih]
    rfl
/-- a new object, the heap behind it a letter: generalize hH : upd H l _ = H' ahead of it -/
theorem new_of {H H' : Hp} {l : Addr} {o o' : HO} (hH : upd H l o = H') (h : H l = none) (e : o = o') : Same H H' ∧ H' l = some o' := by
  subst e hH
  exact ⟨Same.new h, upd_same⟩
/-- a changed object -/
theorem chg_of {H H' : Hp} {l : Addr} {o o' : HO} (hH : upd H l o = H') (e : o = o') : But l H H' ∧ H' l = some o' := by
  subst e hH
  exact ⟨(But.refl l H).upd, upd_same⟩
theorem Src.but {H H' : Hp} {p q : Addr} {n : Int} (h : Src H p n) (e : But q H H') (hne : p ≠ q) : Src H' p n := by
  obtain ⟨g, s, c, h, r⟩ := h
  exact ⟨g, s, c, e _ _ hne h, r⟩
theorem Src.at {H : Hp} {p : Addr} {n : Int} (h : Src H p n) : ∃ xs, H p = some (.lst xs) := by
  obtain ⟨g, s, c, h, q⟩ := h
  exact ⟨_, h⟩
theorem Src.ne {H : Hp} {p q : Addr} {n : Int} (h : Src H p n) (hq : H q = none) : q ≠ p := fun z => by
  obtain ⟨_, _, _, e, _⟩ := h
  rw [z, e] at hq
  cases hq
theorem int_at {l : List Int} {i : Nat} {x : V} (h : (l.map V.int)[i]? = some x) : ∃ z, x = V.int z ∧ l[i]? = some z := by
  rw [List.getElem?_map] at h
  cases e : l[i]? with
  | none => rw [e] at h; cases h
  | some z => rw [e] at h; exact ⟨z, (Option.some.inj h).symm, rfl⟩
/-! ### the promises -/
def spSource (K : PySem.W.Frag) : Sp := fun vs H Q _ => ∃ (a : Addr) (ns : List Int), vs = [.ref a] ∧ SqL K H a (ns.map V.int) ∧ ∀ (p : Addr) (H' : Hp), H p = none → Same H H' → Src H' p 0 → Q (.ref p) H'
def spDraw : Sp := fun vs H Q _ => ∃ (p : Addr) (m n : Int), vs = [.ref p, .int m] ∧ Src H p n ∧ n < 1000000 ∧ 0 < m ∧ m < 2 ^ 64 ∧
  ∀ (d : Int) (H' : Hp), 0 ≤ d → d < m → But p H H' → Src H' p (n + 1) → Q (.int d) H'
def spLaw (K : PySem.W.Frag) : Sp := fun vs H Q _ => ∃ (a : Addr) (ns : List Int), vs = [.ref a] ∧ SqL K H a (ns.map V.int) ∧ ns.length ≤ 63 ∧ ∀ H', Q (.bl true) H'
def spTol : Sp := fun vs H Q _ => ∃ (p : Addr) (n : Int), vs = [.ref p] ∧ Src H p n ∧ n < 1000000 ∧
  ∀ (d : Int) (H' : Hp), 1 ≤ d → d ≤ 1000000 → But p H H' → Src H' p (n + 1) → Q (.int d) H'
def big : Int := 1000000000000000000000000000000
theorem div_ok {x e : Int} (h1 : -big < x) (h2 : x < big) (h : 1 ≤ e) : CDivP x e := by
  refine divp_ok h ?_
  have b := PyProof.Rows.intBits_le (k := 100) (a := x) (by unfold big at *; show _ < 1267650600228229401496703205376; omega)
  omega
theorem big_eq : (10 : Int) ^ (30 : Int).toNat = big := by decide +kernel
def spIsNum : Sp := fun vs H Q _ => ∃ x : Int, vs = [.int x] ∧ -big < x ∧ x < big ∧ Q (.bl true) H
def spIsTol : Sp := fun vs H Q _ => ∃ x : Int, vs = [.int x] ∧ 1 ≤ x ∧ x < big ∧ Q (.bl true) H
def spChkNum : Sp := fun vs H Q _ => ∃ x : Int, vs = [.int x] ∧ -big < x ∧ x < big ∧ Q .non H
def spChkTol : Sp := fun vs H Q _ => ∃ x : Int, vs = [.int x] ∧ 1 ≤ x ∧ x < big ∧ Q .non H
/-! ### are_groups, of a list or a tuple of texts -/
def iLT (K : PySem.W.Frag) (tl : TE) : TI := fun σ H R => iList K tl σ H R ∨ iTup K tl σ H R
theorem pi_lt {X : Cx} {tg l : Expr} {tl : TE} (hl : PE X l tl) : PI X tg l (iLT X.K tl) := ⟨fun pins s σ H R I h => h.elim (fun h => (pi_list hl).run pins s σ H R I h) (fun h => (pi_tup hl).run pins s σ H R I h)⟩
def LT (H : Hp) (a : Addr) (xs : List V) : Prop := H a = some (.lst xs) ∨ H a = some (.tup xs)
theorem LT.same {H H' : Hp} {a : Addr} {xs : List V} (h : LT H a xs) (e : Same H H') : LT H' a xs := h.imp (e _ _) (e _ _)
theorem LT.sq {K : PySem.W.Frag} {H : Hp} {a : Addr} {xs : List V} (h : LT H a xs) : SqL K H a xs ∨ SqT K H a xs := h.imp SqL.of SqT.of
theorem LT.ty {K : PySem.W.Frag} {H : Hp} {a : Addr} {xs : List V} (h : LT H a xs) : ∃ t : String, TyX K H (.ref a) (.type t) ∧ PySem.W.kitAny K (.type t) [.type "list", .type "tuple"] = some true := by
  rcases h with h | h
  · exact ⟨_, .base (.lst h), by rw [PySem.W.kitAny]; rfl⟩
  · exact ⟨_, .base (.tup h), by rw [PySem.W.kitAny]; rfl⟩
theorem but_new {p q : Addr} {H H' : Hp} {o : HO} (a : But p H H') (h : H q = none) : But p H (upd H' q o) := fun c u n z => by
  rw [upd_ne (fun e => by rw [e, h] at z; cases z)]
  exact a c u n z
theorem but_free {p q : Addr} {H H' : Hp} (a : But p H H') (n : q ≠ p) (h : H' q = none) : H q = none := by
  cases e : H q with
  | none => rfl
  | some o =>
    rw [a q o n e] at h
    cases h
theorem at_any {α : Type} {xs : List α} {j : Nat} {x : α} (h : xs[j]? = some x) : atI xs (j : Int) = some x := by
  have hj : j < xs.length := (List.getElem?_eq_some_iff.mp h).1
  unfold atI ixN
  rw [if_pos (by omega : (0 : Int) ≤ j), if_pos (by omega : (j : Int) < xs.length)]
  exact h
theorem shaped_of {d : PyData} (h1 : d.canLay0 = true) (h2 : d.depth ≤ 64) : SeqAt.shaped d = true := by
  unfold SeqAt.shaped
  rw [h1, decide_eq_true h2]
  rfl
/-- what the top has written: each def at its address, the built-ins not hidden -/
structure Txt (K : PySem.W.Frag) (mg : Str → Option Value) where
  t_MOST_ITEMS : Tok
  m_MOST_ITEMS : mg "MOST_ITEMS" = some (.int 1000 t_MOST_ITEMS)
  f_is_number : Addr
  d_is_number : FuncData
  F_is_number : Fun K "is_number" "is_number" s_is_number f_is_number d_is_number
  b_is_number : Binds K d_is_number ["thing"] []
  m_is_number : mg "is_number" = some (.ref f_is_number)
  f_is_tolerance : Addr
  d_is_tolerance : FuncData
  F_is_tolerance : Fun K "is_tolerance" "is_tolerance" s_is_tolerance f_is_tolerance d_is_tolerance
  b_is_tolerance : Binds K d_is_tolerance ["thing"] []
  m_is_tolerance : mg "is_tolerance" = some (.ref f_is_tolerance)
  f_check_number : Addr
  d_check_number : FuncData
  F_check_number : Fun K "check_number" "check_number" s_check_number f_check_number d_check_number
  b_check_number : Binds K d_check_number ["number"] []
  m_check_number : mg "check_number" = some (.ref f_check_number)
  f_check_tolerance : Addr
  d_check_tolerance : FuncData
  F_check_tolerance : Fun K "check_tolerance" "check_tolerance" s_check_tolerance f_check_tolerance d_check_tolerance
  b_check_tolerance : Binds K d_check_tolerance ["tolerance"] []
  m_check_tolerance : mg "check_tolerance" = some (.ref f_check_tolerance)
  f_check_row : Addr
  d_check_row : FuncData
  F_check_row : Fun K "check_row" "check_row" s_check_row f_check_row d_check_row
  b_check_row : Binds K d_check_row ["row"] []
  m_check_row : mg "check_row" = some (.ref f_check_row)
  f_cells_and_ranks : Addr
  d_cells_and_ranks : FuncData
  F_cells_and_ranks : Fun K "_cells_and_ranks" "_cells_and_ranks" s_cells_and_ranks f_cells_and_ranks d_cells_and_ranks
  b_cells_and_ranks : Binds K d_cells_and_ranks ["row", "tolerance"] []
  m_cells_and_ranks : mg "_cells_and_ranks" = some (.ref f_cells_and_ranks)
  f_ranked : Addr
  d_ranked : FuncData
  F_ranked : Fun K "ranked" "ranked" s_ranked f_ranked d_ranked
  b_ranked : Binds K d_ranked ["row", "tolerance"] []
  m_ranked : mg "ranked" = some (.ref f_ranked)
  f_same_shape : Addr
  d_same_shape : FuncData
  F_same_shape : Fun K "same_shape" "same_shape" s_same_shape f_same_shape d_same_shape
  b_same_shape : Binds K d_same_shape ["row", "tolerance", "other", "other_tolerance"] []
  m_same_shape : mg "same_shape" = some (.ref f_same_shape)
  f_law_source : Addr
  d_law_source : FuncData
  F_law_source : Fun K "_law_source" "_law_source" s_law_source f_law_source d_law_source
  b_law_source : Binds K d_law_source ["_law_script"] []
  m_law_source : mg "_law_source" = some (.ref f_law_source)
  f_law_draw : Addr
  d_law_draw : FuncData
  F_law_draw : Fun K "_law_draw" "_law_draw" s_law_draw f_law_draw d_law_draw
  b_law_draw : Binds K d_law_draw ["_law_source_here", "_law_many"] []
  m_law_draw : mg "_law_draw" = some (.ref f_law_draw)
  f_law_tolerance : Addr
  d_law_tolerance : FuncData
  F_law_tolerance : Fun K "_law_tolerance" "_law_tolerance" s_law_tolerance f_law_tolerance d_law_tolerance
  b_law_tolerance : Binds K d_law_tolerance ["_law_source_here"] []
  m_law_tolerance : mg "_law_tolerance" = some (.ref f_law_tolerance)
  f_law_row : Addr
  d_law_row : FuncData
  F_law_row : Fun K "_law_row" "_law_row" s_law_row f_law_row d_law_row
  b_law_row : Binds K d_law_row ["_law_source_here", "_law_most", "_law_tolerance_here"] []
  m_law_row : mg "_law_row" = some (.ref f_law_row)
  f_law_unlike : Addr
  d_law_unlike : FuncData
  F_law_unlike : Fun K "_law_unlike" "_law_unlike" s_law_unlike f_law_unlike d_law_unlike
  b_law_unlike : Binds K d_law_unlike ["_law_numbers"] []
  m_law_unlike : mg "_law_unlike" = some (.ref f_law_unlike)
  f_law_all_rests : Addr
  d_law_all_rests : FuncData
  F_law_all_rests : Fun K "_law_all_rests" "_law_all_rests" s_law_all_rests f_law_all_rests d_law_all_rests
  b_law_all_rests : Binds K d_law_all_rests ["_law_many", "_law_width"] []
  m_law_all_rests : mg "_law_all_rests" = some (.ref f_law_all_rests)
  f_law_is_ranked : Addr
  d_law_is_ranked : FuncData
  F_law_is_ranked : Fun K "_law_is_ranked" "_law_is_ranked" s_law_is_ranked f_law_is_ranked d_law_is_ranked
  b_law_is_ranked : Binds K d_law_is_ranked ["_law_row_here", "_law_width"] []
  m_law_is_ranked : mg "_law_is_ranked" = some (.ref f_law_is_ranked)
  f_law : Addr
  d_law : FuncData
  F_law : Fun K "law" "law" s_law f_law d_law
  b_law : Binds K d_law ["_law_script"] []
  m_law : mg "law" = some (.ref f_law)
  m_int : mg "int" = none
  m_str : mg "str" = none
  m_bool : mg "bool" = none
  m_range : mg "range" = none
  m_len : mg "len" = none
  m_isinstance : mg "isinstance" = none
  m_list : mg "list" = none
  m_tuple : mg "tuple" = none
  m_enumerate : mg "enumerate" = none
  m_sorted : mg "sorted" = none
  m_abs : mg "abs" = none
  m_zip : mg "zip" = none
  m_min : mg "min" = none
  m_max : mg "max" = none
  m_set : mg "set" = none

section
variable {P : Program} {w : World} {K : PySem.W.Frag} {mg : Str → Option Value} {base : Heap}
theorem ok_law_source (T : Txt K mg) : FnOk P w K mg base CX0 1 T.f_law_source T.d_law_source ["_law_script"] (spSource K) := by
  refine T.F_law_source.ok sc_law_source (fun vs H Q E h => ?_) (fun cdv A outer s H vs Q E hr h => ?_)
  · obtain ⟨a, ns, rfl, _⟩ := h
    rfl
  · obtain ⟨a, ns, rfl, hS, k⟩ := h
    refine ⟨_, (pss_cons (ps_asg (pe_tup (pa_cons pe_int (pa_cons pe_int pa_nil))) (pg_tup (by rfl) (pgs_cons (pg_name (i := 1) sc_law_source.nd rfl (Or.inl rfl)) (pgs_cons (pg_name (i := 2) sc_law_source.nd rfl (Or.inl rfl)) pgs_nil))))
      (pss_cons (ps_for PassesOwn.never rfl (pi_list (pv 0)) (pg_name (i := 3) sc_law_source.nd rfl (Or.inl rfl))
      (pss_cons (ps_if (PW.pt (pw_and (pt_cmpR op_eq (pv 1) pe_int (nomark _)) (pw_and1 (pt_cmpR op_ge (pv 3) (pe_op op_pow pe_int pe_int) (nomark _)))))
      (pss_one (ps_set (i := 1) sc_law_source.nd rfl (Or.inl rfl) (pv 3)))
      pss_nil)
      (pss_one (ps_set (i := 2) sc_law_source.nd rfl (Or.inl rfl) (pe_op op_mod (pe_callTy call_int1 (by rfl) T.m_int (by decide +kernel) (pa_cons (pe_op op_add (pe_op op_add (pe_op op_mul (pv 2) pe_int) (pv 3)) pe_int) pa_nil)) pe_int)))))
      (pss_one (ps_ret (pe_lst (pa_cons (pv 1) (pa_cons (pv 2) (pa_cons pe_int pa_nil)))))))), ?_⟩
    refine ⟨by decide, fun p hp => ?_⟩
    have s1 : Same H (upd H p (.tup [.int 0, .int 17])) := Same.new hp
    refine ⟨_, _, rfl, SqT.of upd_same, rfl, ?_⟩
    walk_at "rd"
    refine ⟨⟨_, s1.seq hS⟩, for_list (K := K) (a := a) (xs := ns.map V.int) (fun i σ H' => ∃ (g s : Int) (v : Option V), σ = [some (.ref a), some (.int g), some (.int s), v] ∧ 0 ≤ s ∧ s < 2147483647 ∧ Same H H')
      ⟨0, 17, none, rfl, by decide, by decide, s1⟩ (fun i σ H' _ ⟨_, _, _, _, _, _, z⟩ => z.seq hS) ?_ ?_⟩
    · rintro i y σ H' hi ⟨g, s, v, rfl, s0, s2, z⟩
      obtain ⟨u, rfl⟩ : ∃ u, y = V.int u := by
        rw [List.getElem?_map] at hi
        cases e : ns[i]? with
        | none => rw [e] at hi; cases hi
        | some u => rw [e] at hi; exact ⟨u, (Option.some.inj hi).symm⟩
      have fin : ∀ g' : Int, ∃ (g'' s'' : Int) (v'' : Option V), ([some (V.ref a), some (V.int g'), some (V.int ((s * 31 + u + 7) % 2147483647)), some (V.int u)] : St) = [some (.ref a), some (.int g''), some (.int s''), v''] ∧ 0 ≤ s'' ∧ s'' < 2147483647 ∧ Same H H' :=
        fun g' => ⟨g', _, _, rfl, Int.emod_nonneg _ (by decide), Int.emod_lt_of_pos _ (by decide), z⟩
      walk_at "rd"
      refine ifd (fun cg => ?_) (fun cg => ?_)
      · walk_at "rd"
        refine ⟨⟨by decide, by decide, by decide⟩, ?_⟩
        walk_at "rd"
        refine ifd (fun ch => ?_) (fun ch => ?_)
        · walk_at "rd"
          refine ⟨Or.inr ⟨by decide, by decide⟩, ?_⟩
          walk_at "rd"
          refine Or.inl ?_
          walk_at "rd"
          refine ⟨(by decide : (0 : Int) < 2147483647), ?_⟩
          exact fin u
        · walk_at "rd"
          refine ⟨Or.inr ⟨by decide, by decide⟩, ?_⟩
          walk_at "rd"
          refine Or.inl ?_
          walk_at "rd"
          refine ⟨(by decide : (0 : Int) < 2147483647), ?_⟩
          exact fin g
      · walk_at "rd"
        refine ⟨Or.inr ⟨by decide, by decide⟩, ?_⟩
        walk_at "rd"
        refine Or.inl ?_
        walk_at "rd"
        refine ⟨(by decide : (0 : Int) < 2147483647), ?_⟩
        exact fin g
    · rintro σ H' ⟨g, s, v, rfl, s0, s2, z⟩
      walk_at "rd"
      refine ⟨by show 3 ≤ sizeLine; decide, fun p2 hp2 => ?_⟩
      exact k p2 _ (z.free hp2) (z.trans (Same.new hp2)) ⟨g, s, 0, upd_same, s0, s2, by decide, by decide⟩
theorem ok_law_draw (T : Txt K mg) : FnOk P w K mg base CX0 1 T.f_law_draw T.d_law_draw ["_law_source_here", "_law_many"] spDraw := by
  refine T.F_law_draw.ok sc_law_draw (fun vs H Q E h => ?_) (fun cdv A outer s H vs Q E hr h => ?_)
  · obtain ⟨p, m, n, rfl, _⟩ := h
    rfl
  · obtain ⟨p, m, n, rfl, S, hn, m0, m1, k⟩ := h
    refine ⟨_, (pss_cons (ps_asg (pe_op op_add (pe_ix ix_list (pv 0) pe_int (fun _ _ => rfl)) pe_int) (pg_sub (pv 0) pe_int set_list))
      (pss_cons (ps_if (pt_cmpR op_gt (pe_ix ix_list (pv 0) pe_int (fun _ _ => rfl)) pe_int (nomark _))
      (pss_cons (ps_set (i := 2) sc_law_draw.nd rfl (Or.inl rfl) (pe_op op_mod (pe_callTy call_int1 (by rfl) T.m_int (by decide +kernel) (pa_cons (pe_ix ix_list (pv 0) pe_int (fun _ _ => rfl)) pa_nil)) (pv 1)))
      (pss_cons (ps_asg (pe_op op_fdivW (pe_ix ix_list (pv 0) pe_int (fun _ _ => rfl)) (pv 1)) (pg_sub (pv 0) pe_int set_list))
      (pss_one (ps_ret (pv 2)))))
      pss_nil)
      (pss_cons (ps_set (i := 3) sc_law_draw.nd rfl (Or.inl rfl) (pe_op op_mod (pe_op op_pow (pe_op op_add (pe_ix ix_list (pv 0) pe_int (fun _ _ => rfl)) (pe_op op_mul pe_int (pe_ix ix_list (pv 0) pe_int (fun _ _ => rfl)))) pe_int) pe_int))
      (pss_one (ps_ret (pe_op op_mod (pe_op op_mod (pe_op op_pow (pe_op op_add (pe_op op_add (pe_op op_mul (pv 3) pe_int) (pe_op op_mul (pe_op op_mul pe_int (pe_ix ix_list (pv 0) pe_int (fun _ _ => rfl))) (pe_ix ix_list (pv 0) pe_int (fun _ _ => rfl)))) pe_int) pe_int) pe_int) (pv 1))))))), ?_⟩
    obtain ⟨g, s, c, hp, s0, s1, c0, c1⟩ := S
    walk_at "rd"
    refine ⟨_, _, _, _, rfl, rfl, SqL.of hp, rfl, ?_⟩
    walk_at "rd"
    refine ⟨_, _, _, _, rfl, rfl, hp, rfl, ?_⟩
    walk_at "rd"
    refine ifd (fun cg => ?_) (fun cg => ?_)
    · walk_at "rd"
      refine Or.inl ?_
      walk_at "rd"
      refine ⟨m0, ?_⟩
      walk_at "rd"
      refine ⟨wide_div (b := 64) m0 (by omega) (by decide) (by decide), ?_⟩
      walk_at "rd"
      exact k _ _ (Int.emod_nonneg g (by omega)) (Int.emod_lt_of_pos g m0) (((But.refl p H).upd).upd) ⟨g / m, s, c + 1, upd_same, s0, s1, by omega, by omega⟩
    · walk_at "rd"
      refine ⟨Or.inl ⟨by decide, by decide⟩, ?_⟩
      walk_at "rd"
      refine ⟨⟨by decide, by decide, by omega⟩, ?_⟩
      walk_at "rd"
      refine ⟨(by decide : (0 : Int) < 2147483629), ?_⟩
      have x0 := Int.emod_nonneg ((s + 7919 * (c + 1)) ^ Int.toNat 5) (by decide : (2147483629 : Int) ≠ 0)
      have x1 := Int.emod_lt_of_pos ((s + 7919 * (c + 1)) ^ Int.toNat 5) (by decide : (0 : Int) < 2147483629)
      walk_at "rd"
      refine ⟨Or.inr ⟨by decide, by decide⟩, ?_⟩
      walk_at "rd"
      refine ⟨Or.inl ⟨by decide, by decide⟩, ?_⟩
      walk_at "rd"
      refine ⟨Or.inr ⟨by omega, by omega⟩, ?_⟩
      walk_at "rd"
      refine ⟨draw_pow x0 x1 (by omega) (by omega), ?_⟩
      walk_at "rd"
      refine ⟨(by decide : (0 : Int) < 1000000007), ?_⟩
      walk_at "rd"
      refine ⟨m0, ?_⟩
      exact k _ _ (Int.emod_nonneg _ (by omega)) (Int.emod_lt_of_pos _ m0) ((But.refl p H).upd) ⟨g, s, c + 1, upd_same, s0, s1, by omega, by omega⟩
theorem ok_is_number (T : Txt K mg) : FnOk P w K mg base CX0 1 T.f_is_number T.d_is_number ["thing"] spIsNum := by
  refine T.F_is_number.ok sc_is_number (fun vs H Q E h => ?_) (fun cdv A outer s H vs Q E hr h => ?_)
  · obtain ⟨x, rfl, _⟩ := h
    rfl
  · obtain ⟨x, rfl, h1, h2, k⟩ := h
    refine ⟨_, (pss_cons (ps_if (PW.pt (pw_or (pt_not (pt_val (pe_callB call_isi (by rfl) T.m_isinstance (by decide +kernel) (pa_cons (pv 0) (pa_cons (pe_bltn (v := .ty "int") (by rfl) T.m_int (by decide +kernel) rfl) pa_nil))))) (pw_or1 (pt_val (pe_callB call_isi (by rfl) T.m_isinstance (by decide +kernel) (pa_cons (pv 0) (pa_cons (pe_bltn (v := .ty "bool") (by rfl) T.m_bool (by decide +kernel) rfl) pa_nil)))))))
      (pss_one (ps_ret pe_bl))
      pss_nil)
      (pss_one (ps_ret (pe_cmpR op_lt (pe_callB call_abs (by rfl) T.m_abs (by decide +kernel) (pa_cons (pv 0) pa_nil)) (pe_op op_pow pe_int pe_int) (nomark _))))), ?_⟩
    walk_at "rd"
    refine ⟨_, _, _, _, true, rfl, .ty _, .base (.int _), kit_ty (by decide +kernel), ?_⟩
    walk_at "rd"
    refine ⟨_, _, _, _, false, rfl, .ty _, .base (.int _), kit_ty (by decide +kernel), ?_⟩
    walk_at "rd"
    refine ⟨⟨by decide, by decide, by decide⟩, ?_⟩
    walk_at "rd"
    show Q (.bl (decide ((if x < 0 then -x else x) < (10 : Int) ^ (30 : Int).toNat))) _
    rw [big_eq, decide_eq_true (by split <;> omega)]
    exact k
theorem ok_is_tolerance (T : Txt K mg) : FnOk P w K mg base CX0 2 T.f_is_tolerance T.d_is_tolerance ["thing"] spIsTol := by
  refine T.F_is_tolerance.ok sc_is_tolerance (fun vs H Q E h => ?_) (fun cdv A outer s H vs Q E hr h => ?_)
  · obtain ⟨x, rfl, _⟩ := h
    rfl
  · obtain ⟨x, rfl, h1, h2, k⟩ := h
    refine ⟨_, (pss_one (ps_ret (pe_and (pe_call (ok_is_number T) (hr.mono (by decide)) (by rfl) T.m_is_number T.F_is_number.kp T.b_is_number .nil pass0 (pa_cons (pv 0) pa_nil)) (pe_one (pe_cmpR op_ge (pv 0) pe_int (nomark _)))))), ?_⟩
    walk_at "rd"
    refine ⟨by unfold big at *; omega, h2, ?_⟩
    walk_at "rd"
    show Q (.bl (decide (1 ≤ x))) _
    rw [decide_eq_true h1]
    exact k
theorem ok_check_number (T : Txt K mg) : FnOk P w K mg base CX0 2 T.f_check_number T.d_check_number ["number"] spChkNum := by
  refine T.F_check_number.ok sc_check_number (fun vs H Q E h => ?_) (fun cdv A outer s H vs Q E hr h => ?_)
  · obtain ⟨x, rfl, _⟩ := h
    rfl
  · obtain ⟨x, rfl, h1, h2, k⟩ := h
    refine ⟨_, (pss_one (ps_if (pt_not (pt_val (pe_call (ok_is_number T) (hr.mono (by decide)) (by rfl) T.m_is_number T.F_is_number.kp T.b_is_number .nil pass0 (pa_cons (pv 0) pa_nil))))
      (pss_one ps_never)
      pss_nil)), ?_⟩
    walk_at "rd"
    refine ⟨h1, h2, ?_⟩
    walk_at "rd"
    exact k
theorem ok_check_tolerance (T : Txt K mg) : FnOk P w K mg base CX0 3 T.f_check_tolerance T.d_check_tolerance ["tolerance"] spChkTol := by
  refine T.F_check_tolerance.ok sc_check_tolerance (fun vs H Q E h => ?_) (fun cdv A outer s H vs Q E hr h => ?_)
  · obtain ⟨x, rfl, _⟩ := h
    rfl
  · obtain ⟨x, rfl, h1, h2, k⟩ := h
    refine ⟨_, (pss_one (ps_if (pt_not (pt_val (pe_call (ok_is_tolerance T) (hr.mono (by decide)) (by rfl) T.m_is_tolerance T.F_is_tolerance.kp T.b_is_tolerance .nil pass0 (pa_cons (pv 0) pa_nil))))
      (pss_one ps_never)
      pss_nil)), ?_⟩
    walk_at "rd"
    refine ⟨h1, h2, ?_⟩
    walk_at "rd"
    exact k
theorem ok_law_tolerance (T : Txt K mg) : FnOk P w K mg base CX0 2 T.f_law_tolerance T.d_law_tolerance ["_law_source_here"] spTol := by
  refine T.F_law_tolerance.ok sc_law_tolerance (fun vs H Q E h => ?_) (fun cdv A outer s H vs Q E hr h => ?_)
  · obtain ⟨p, n, rfl, _⟩ := h
    rfl
  · obtain ⟨p, n, rfl, S, hn, k⟩ := h
    refine ⟨_, (pss_one (ps_ret (pe_ix ix_list (pe_lst (pa_cons pe_int (pa_cons pe_int (pa_cons pe_int (pa_cons pe_int (pa_cons pe_int (pa_cons pe_int (pa_cons pe_int (pa_cons (pe_op op_pow pe_int pe_int) pa_nil))))))))) (pe_call (ok_law_draw T) (hr.mono (by decide)) (by rfl) T.m_law_draw T.F_law_draw.kp T.b_law_draw .nil pass0 (pa_cons (pv 0) (pa_cons pe_int pa_nil))) (fun _ _ => rfl)))), ?_⟩
    walk_at "rd"
    refine ⟨⟨by decide, by decide, by decide⟩, ?_⟩
    refine ⟨by show 8 ≤ sizeLine; decide, fun t ht => ?_⟩
    walk_at "rd"
    refine ⟨p, 8, n, rfl, S.same (Same.new ht), hn, by decide, by decide, fun d H' d0 d1 hb S' => ?_⟩
    have pt : t ≠ p := fun z => by
      obtain ⟨_, _, _, e, _⟩ := S
      rw [z, e] at ht
      cases ht
    have e1 := hb t _ pt upd_same
    have hk := fun (d : Int) (a : 1 ≤ d) (b : d ≤ 1000000) => k d H' a b ((Same.but (Same.new ht)).trans hb) S'
    rcases (by omega : d = 0 ∨ d = 1 ∨ d = 2 ∨ d = 3 ∨ d = 4 ∨ d = 5 ∨ d = 6 ∨ d = 7) with z | z | z | z | z | z | z | z
    all_goals subst z
    all_goals exact ix_of (SqL.of e1) rfl (hk _ (by decide) (by decide))
def spChkRow : Sp := fun vs H Q _ => ∃ (a : Addr) (xs : List Int), vs = [.ref a] ∧ LT H a (xs.map V.int) ∧ xs.length ≤ 1000 ∧ (∀ x ∈ xs, -big < x ∧ x < big) ∧ ∀ H', Same H H' → Q .non H'
theorem ok_check_row (T : Txt K mg) : FnOk P w K mg base CX0 3 T.f_check_row T.d_check_row ["row"] spChkRow := by
  refine T.F_check_row.ok sc_check_row (fun vs H Q E h => ?_) (fun cdv A outer s H vs Q E hr h => ?_)
  · obtain ⟨a, xs, rfl, _⟩ := h
    rfl
  · obtain ⟨a, xs, rfl, hA, hl, hb, k⟩ := h
    refine ⟨_, (pss_cons (ps_if (PW.pt (pw_or (pt_not (pt_val (pe_callB call_isiT (by rfl) T.m_isinstance (by decide +kernel) (pa_cons (pv 0) (pa_cons (pe_tup (pa_cons (pe_bltn (v := .ty "list") (by rfl) T.m_list (by decide +kernel) rfl) (pa_cons (pe_bltn (v := .ty "tuple") (by rfl) T.m_tuple (by decide +kernel) rfl) pa_nil))) pa_nil))))) (pw_or1 (pt_cmpR op_gt (pe_callB call_len_seq (by rfl) T.m_len (by decide +kernel) (pa_cons (pv 0) pa_nil)) (pe_glob (v := .int 1000) rfl T.m_MOST_ITEMS ⟨_, rfl⟩) (nomark _)))))
      (pss_one ps_never)
      pss_nil)
      (pss_one (ps_for PassesOwn.never rfl (pi_lt (pv 0)) (pg_name (i := 1) sc_check_row.nd rfl (Or.inl rfl))
      (pss_one (ps_expr (pe_call (ok_check_number T) (hr.mono (by decide)) (by rfl) T.m_check_number T.F_check_number.kp T.b_check_number .nil pass0 (pa_cons (pv 1) pa_nil))))))), ?_⟩
    walk_at "rd"
    refine ⟨by show 2 ≤ sizeLine; decide, fun t0 ht0 => ?_⟩
    generalize hH : upd _ t0 _ = H1
    obtain ⟨s1, dt0⟩ := new_of (o' := .tup [.ty "list", .ty "tuple"]) hH ht0 rfl
    clear hH
    have hA1 := hA.same s1
    obtain ⟨t, ty, kb⟩ := hA1.ty (K := K)
    refine ⟨_, t0, _, _, _, true, rfl, dt0, .cons (.ty _) (.cons (.ty _) .nil), ty, kb, ?_⟩
    walk_at "rd"
    refine ⟨_, _, rfl, hA1.sq, ?_⟩
    walk_at "rd"
    rw [decide_eq_false (show ¬ (1000 : Int) < ((xs.map V.int).length : Nat) by rw [List.length_map]; omega)]
    walk_at "rd"
    rcases hA1 with h | h
    · refine Or.inl ⟨_, rfl, a, rfl, ⟨_, SqL.of h⟩, for_list (K := K) (a := a) (xs := xs.map V.int) (fun i σ H' => ∃ v1 : Option V, σ = [some (.ref a), v1] ∧ Same H1 H') ⟨none, rfl, Same.refl _⟩ (fun i σ H' _ ⟨_, _, z⟩ => z.seq (SqL.of h)) ?_ ?_⟩
      · rintro i x σ H2 hx ⟨v1, rfl, s2⟩
        obtain ⟨z, rfl, hz⟩ := int_at hx
        have b := hb z (List.mem_of_getElem? hz)
        walk_at "rd"
        refine ⟨b.1, b.2, ?_⟩
        exact ⟨_, rfl, s2⟩
      · rintro σ H2 ⟨v1, rfl, s2⟩
        exact k H2 (s1.trans s2)
    · refine Or.inr ⟨_, rfl, a, rfl, ⟨_, SqT.of h⟩, for_tup (K := K) (a := a) (xs := xs.map V.int) (fun i σ H' => ∃ v1 : Option V, σ = [some (.ref a), v1] ∧ Same H1 H') ⟨none, rfl, Same.refl _⟩ (fun i σ H' _ ⟨_, _, z⟩ => SqT.of (z _ _ h)) ?_ ?_⟩
      · rintro i x σ H2 hx ⟨v1, rfl, s2⟩
        obtain ⟨z, rfl, hz⟩ := int_at hx
        have b := hb z (List.mem_of_getElem? hz)
        walk_at "rd"
        refine ⟨b.1, b.2, ?_⟩
        exact ⟨_, rfl, s2⟩
      · rintro σ H2 ⟨v1, rfl, s2⟩
        exact k H2 (s1.trans s2)
--SPLIT
/-! ### lists of numbers, of texts, of truth values, as data -/
structure Atoms {α : Type} (f : α → V) (g : α → PyData) : Prop where
  dp : ∀ (K : PySem.W.Frag) (H : Hp) (a : α), Dp K H (f a) (g a)
  depth : ∀ a, (g a).depth ≤ 1
theorem at_int : Atoms V.int PyData.int := ⟨fun _ _ a => .int a, fun a => by simp [PyData.depth]⟩
theorem at_bl : Atoms V.bl PyData.bool := ⟨fun _ _ a => .bl a, fun a => by simp [PyData.depth]⟩
theorem at_str : Atoms V.str PyData.str := ⟨fun _ _ a => .str a, fun a => by simp [PyData.depth]⟩
section
variable {α : Type} {f : α → V} {g : α → PyData} (A : Atoms f g)
include A
theorem Atoms.all {K : PySem.W.Frag} {H : Hp} : ∀ l : List α, DpAll K H (l.map f) (l.map g)
  | [] => .nil
  | a :: r => .cons (A.dp K H a) (Atoms.all r)
theorem Atoms.deep : ∀ l : List α, PyData.depthAll (l.map g) ≤ 1
  | [] => by simp [PyData.depthAll]
  | a :: r => by
    have ih := Atoms.deep r
    have h := A.depth a
    rw [List.map_cons, PyData.depthAll]
    omega
omit A in
theorem lay_all : ∀ l : List α, (∀ a ∈ l, (g a).canLay0 = true) → PyData.canLayAll0 (l.map g) = true
  | [], _ => rfl
  | a :: r, h => by
    rw [List.map_cons, PyData.canLayAll0, lay_all r fun z hz => h z (List.mem_cons_of_mem _ hz), h a List.mem_cons_self]
    rfl
theorem Atoms.shL {l : List α} (h : ∀ a ∈ l, (g a).canLay0 = true) : SeqAt.shaped (.list (l.map g)) = true :=
  shaped_of (by rw [PyData.canLay0]; exact lay_all l h) (by rw [PyData.depth]; have := A.deep l; omega)
theorem Atoms.shT {l : List α} (h : ∀ a ∈ l, (g a).canLay0 = true) : SeqAt.shaped (.tuple (l.map g)) = true :=
  shaped_of (by rw [PyData.canLay0]; exact lay_all l h) (by rw [PyData.depth]; have := A.deep l; omega)
omit A in
theorem eqvL {l : List α} (h : ∀ a ∈ l, (g a).canLay0 = true) : PyData.eqv (.list (l.map g)) (.list (l.map g)) = true := SeqAt.eqv_refl _ (by rw [PyData.canLay0]; exact lay_all l h)
end
theorem lay_int : ∀ l : List Int, ∀ a ∈ l, (PyData.int a).canLay0 = true := fun _ _ _ => rfl
theorem lay_bl : ∀ l : List Bool, ∀ a ∈ l, (PyData.bool a).canLay0 = true := fun _ _ _ => rfl
theorem lay_str {l : List Str} (h : ∀ z ∈ l, PyData.strOk z = true) : ∀ a ∈ l, (PyData.str a).canLay0 = true := fun a ha => by
  rw [PyData.canLay0]
  exact h a ha
theorem eqv_nil (l : List PyData) : PyData.eqv (.list l) (.list []) = l.isEmpty := by
  cases l <;> simp [PyData.eqv, PyData.eqvAll]
theorem shaped_nil : SeqAt.shaped (.list []) = true := by decide +kernel
/-- xs == [], xs a list of numbers -/
theorem eq_nil {K : PySem.W.Frag} {H : Hp} {a b : Addr} {xs : List Int} {Q : VK} (ha : H a = some (.lst (xs.map V.int))) (hb : H b = some (.lst [])) (k : Q (.bl xs.isEmpty) H) : rEqD K (.ref a) (.ref b) H Q := by
  refine ⟨_, _, .lst (SqL.of ha) (at_int.all xs), .lst (SqL.of hb) .nil, at_int.shL (lay_int xs), shaped_nil, ?_⟩
  rw [eqv_nil, List.isEmpty_map]
  exact k
def spRow : Sp := fun vs H Q _ => ∃ (p : Addr) (most : Nat) (e n : Int), vs = [.ref p, .int most, .int e] ∧ Src H p n ∧ n < 100000 ∧ most ≤ 12 ∧ 1 ≤ e ∧ e ≤ 1000000 ∧
  ∀ (l : Addr) (xs : List Int) (H' : Hp), xs.length ≤ most → (∀ x ∈ xs, -20000000000000000000000000000 < x ∧ x < 20000000000000000000000000000) → H l = none → H' l = some (.lst (xs.map V.int)) → But p H H' → Src H' p (n + 100) → Q (.ref l) H'
theorem ok_law_row (T : Txt K mg) : FnOk P w K mg base CX0 3 T.f_law_row T.d_law_row ["_law_source_here", "_law_most", "_law_tolerance_here"] spRow := by
  refine T.F_law_row.ok sc_law_row (fun vs H Q E h => ?_) (fun cdv A outer s H vs Q E hr h => ?_)
  · obtain ⟨p, most, e, n, rfl, _⟩ := h
    rfl
  · obtain ⟨p, most, e, n, rfl, S, hn, hm, e1, e2, k⟩ := h
    refine ⟨_, (pss_cons (ps_set (i := 3) sc_law_row.nd rfl (Or.inl rfl) (pe_lst pa_nil))
      (pss_cons (ps_for PassesOwn.never rfl (pi_range1 (by rfl) T.m_range (pa_cons (pe_call (ok_law_draw T) (hr.mono (by decide)) (by rfl) T.m_law_draw T.F_law_draw.kp T.b_law_draw .nil pass0 (pa_cons (pv 0) (pa_cons (pe_op op_add (pv 1) pe_int) pa_nil))) pa_nil)) (pg_name (i := 4) sc_law_row.nd rfl (Or.inl rfl))
      (C8.pss_cut (ps_set (i := 5) sc_law_row.nd rfl (Or.inl rfl) (pe_ifExp (pt_cmpR (op_eqD hr.units) (pv 3) (pe_lst pa_nil) (nomark _)) pe_int (pe_ix ix_list (pv 3) (pe_call (ok_law_draw T) (hr.mono (by decide)) (by rfl) T.m_law_draw T.F_law_draw.kp T.b_law_draw .nil pass0 (pa_cons (pv 0) (pa_cons (pe_callB call_len_seq (by rfl) T.m_len (by decide +kernel) (pa_cons (pv 3) pa_nil)) pa_nil))) (fun _ _ => rfl))))
      (pss_cons (ps_set (i := 6) sc_law_row.nd rfl (Or.inl rfl) (pe_op op_add (pe_op op_mul (pe_ix ix_list (pe_lst (pa_cons pe_int (pa_cons pe_int (pa_cons pe_int (pa_cons pe_int (pa_cons pe_int pa_nil)))))) (pe_call (ok_law_draw T) (hr.mono (by decide)) (by rfl) T.m_law_draw T.F_law_draw.kp T.b_law_draw .nil pass0 (pa_cons (pv 0) (pa_cons pe_int pa_nil))) (fun _ _ => rfl)) (pv 2)) (pe_call (ok_law_draw T) (hr.mono (by decide)) (by rfl) T.m_law_draw T.F_law_draw.kp T.b_law_draw .nil pass0 (pa_cons (pv 0) (pa_cons (pe_op op_add (pe_callB (call_min2 rfl) (by rfl) T.m_min (by decide +kernel) (pa_cons (pv 2) (pa_cons pe_int pa_nil))) pe_int) pa_nil)))))
      (pss_one (ps_expr (pe_bm PySem.F.plainAttrs_list PySem.F.slot_list_append PySem.F.type_list_append mt_append (pv 3) (pa_cons (pe_op op_add (pv 5) (pe_ifExp (pt_cmpR op_eq (pe_call (ok_law_draw T) (hr.mono (by decide)) (by rfl) T.m_law_draw T.F_law_draw.kp T.b_law_draw .nil pass0 (pa_cons (pv 0) (pa_cons pe_int pa_nil))) pe_int (nomark _)) (pv 6) (pe_op op_sub pe_int (pv 6)))) pa_nil)))))))
      (pss_cons (ps_if (pt_cmpR op_eq (pe_call (ok_law_draw T) (hr.mono (by decide)) (by rfl) T.m_law_draw T.F_law_draw.kp T.b_law_draw .nil pass0 (pa_cons (pv 0) (pa_cons pe_int pa_nil))) pe_int (nomark _))
      (pss_cons (ps_set (i := 7) sc_law_row.nd rfl (Or.inr rfl) (pe_op op_mul (pe_ix ix_list (pe_lst (pa_cons (pe_op op_pow pe_int pe_int) (pa_cons (pe_op op_sub pe_int (pe_op op_pow pe_int pe_int)) pa_nil))) (pe_call (ok_law_draw T) (hr.mono (by decide)) (by rfl) T.m_law_draw T.F_law_draw.kp T.b_law_draw .nil pass0 (pa_cons (pv 0) (pa_cons pe_int pa_nil))) (fun _ _ => rfl)) (pv 2)))
      (pss_one (ps_setLc (i := 3) (own := [("_law_x", 8)]) (by rfl) sc_law_row.nd rfl rfl (sw_true rfl rfl rfl (by decide +kernel)) (pi_list (pv 3)) (blkOk_by (own := [("_law_x", 8)]) (N := ["_law_source_here", "_law_most", "_law_tolerance_here", "_law_row_here", "_law_k", "_law_base", "_law_step", "_law_shift", "_law_x"]) (sc := defScope s_law_row) (by decide +kernel)) (fun _ _ _ _ _ => (pg_name (i := 8) sc_law_row.nd rfl (Or.inl rfl))) (fun _ _ _ _ _ => pts_nil) (fun _ _ _ _ _ => (pe_op op_add (pv 8) (pv 7))))))
      pss_nil)
      (pss_one (ps_ret (pv 3)))))), ?_⟩
    refine ⟨by show 0 ≤ sizeLine; decide, fun l hl => ?_⟩
    generalize hH : upd _ l _ = H1
    obtain ⟨s1, d1⟩ := new_of (o' := .lst (([] : List Int).map V.int)) hH hl rfl
    clear hH
    have lp : l ≠ p := S.ne hl
    walk_at "rd"
    refine ⟨p, (most : Int) + 1, _, rfl, S.same s1, by omega, by omega, by omega, fun dm H2 a2 b2 u2 S2 => ?_⟩
    have d2 := u2 _ _ lp d1
    walk_at "rd"
    refine ⟨by omega, by omega, ?_⟩
    refine for_range (lo := 0) (n := dm.toNat) (fun i σ H' => ∃ (v4 v5 v6 : Option V) (xs : List Int), σ = [some (.ref p), some (.int most), some (.int e), some (.ref l), v4, v5, v6, none, none] ∧ xs.length = i ∧ (∀ x ∈ xs, -(4000000 * (i : Int)) ≤ x ∧ x ≤ 4000000 * (i : Int)) ∧ H' l = some (.lst (xs.map V.int)) ∧ But p H H' ∧ Src H' p (n + 1 + 4 * (i : Int)))
      ⟨none, none, none, [], rfl, rfl, (fun x hx => nomatch hx), d2, (Same.but s1).trans u2, S2.le (by omega)⟩ ?_ ?_
    · rintro i σ H3 hi ⟨v4, v5, v6, xs, rfl, hlen, hx, d3, u3, S3⟩
      have im : (i : Int) < 12 := by omega
      refine ⟨fun σ H' => ∃ b : Int, σ = [some (.ref p), some (.int most), some (.int e), some (.ref l), some (.int (0 + (i : Nat))), some (.int b), v6, none, none] ∧ -(4000000 * (i : Int)) ≤ b ∧ b ≤ 4000000 * (i : Int) ∧ H' l = some (.lst (xs.map V.int)) ∧ But p H H' ∧ Src H' p (n + 2 + 4 * (i : Int)), ?_, ?_⟩
      · walk_at "rd"
        refine ⟨by show 0 ≤ sizeLine; decide, fun n0 hn0 => ?_⟩
        have u4 := but_new u3 (but_free u3 (S3.ne hn0) hn0) (o := .lst [])
        generalize hH : upd _ n0 _ = H4 at u4 ⊢
        obtain ⟨s4, d4⟩ := new_of (o' := .lst []) hH hn0 rfl
        clear hH
        refine eq_nil (s4 _ _ d3) d4 ?_
        cases xs with
        | nil =>
          walk_at "rd"
          exact ⟨by omega, by omega, s4 _ _ d3, u4, (S3.same s4).le (by omega)⟩
        | cons y r =>
          walk_at "rd"
          refine ⟨_, _, rfl, .inl (SqL.of (s4 _ _ d3)), ?_⟩
          walk_at "rd"
          rw [List.length_map]
          refine ⟨p, ((y :: r).length : Nat), _, rfl, S3.same s4, by omega, by rw [List.length_cons]; omega, by omega, fun j H5 a5 b5 u5 S5 => ?_⟩
          have d5 := u5 _ _ lp (s4 _ _ d3)
          have hj : j.toNat < (y :: r).length := by omega
          have gj : (y :: r)[j.toNat]? = some (y :: r)[j.toNat] := List.getElem?_eq_getElem hj
          have hb := hx _ (List.mem_of_getElem? gj)
          refine ⟨_, _, _, _, rfl, rfl, SqL.of d5, at_of (j := j.toNat) (by omega) (by rw [List.getElem?_map, gj]; rfl), ?_⟩
          exact ⟨_, rfl, hb.1, hb.2, d5, u4.trans u5, S5.le (by omega)⟩
      rintro σ H4 ⟨b, rfl, b1, b2, d4, u4, S4⟩
      walk_at "rd"
      refine ⟨by show 5 ≤ sizeLine; decide, fun t ht => ?_⟩
      have tp := S4.ne ht
      have u5 := but_new u4 (but_free u4 tp ht) (o := .lst [.int 0, .int 1, .int 1, .int 2, .int 3])
      generalize hH : upd _ t _ = H5 at u5 ⊢
      obtain ⟨s5, d5⟩ := new_of (o' := .lst [.int 0, .int 1, .int 1, .int 2, .int 3]) hH ht rfl
      clear hH
      walk_at "rd"
      refine ⟨p, 5, _, rfl, S4.same s5, by omega, by decide, by decide, fun j H6 a6 b6 u6 S6 => ?_⟩
      have t6 := u6 _ _ tp d5
      have d6 := u6 _ _ lp (s5 _ _ d4)
      obtain ⟨c, hc, c0, c3⟩ : ∃ c : Int, atI [V.int 0, .int 1, .int 1, .int 2, .int 3] j = some (.int c) ∧ 0 ≤ c ∧ c ≤ 3 := by
        rcases (by omega : j = 0 ∨ j = 1 ∨ j = 2 ∨ j = 3 ∨ j = 4) with q | q | q | q | q
        all_goals subst q
        · exact ⟨0, rfl, by decide, by decide⟩
        · exact ⟨1, rfl, by decide, by decide⟩
        · exact ⟨1, rfl, by decide, by decide⟩
        · exact ⟨2, rfl, by decide, by decide⟩
        · exact ⟨3, rfl, by decide, by decide⟩
      refine ⟨_, _, _, _, rfl, rfl, SqL.of t6, hc, ?_⟩
      walk_at "rd"
      refine ⟨Or.inr ⟨by omega, by omega⟩, ?_⟩
      walk_at "rd"
      have m0 : 0 ≤ c * e := Int.mul_nonneg c0 (by omega)
      have m1 : c * e ≤ 3 * e := Int.mul_le_mul_of_nonneg_right c3 (by omega)
      refine ⟨p, _, _, rfl, S6, by omega, ?_, ?_, fun g H7 a7 b7 u7 S7 => ?_⟩
      · show 0 < (if 9 < e then 9 else e) + 1
        split <;> omega
      · show (if 9 < e then 9 else e) + 1 < 2 ^ 64
        split <;> omega
      have g9 : g ≤ 9 := by
        have b7' : g < (if 9 < e then 9 else e) + 1 := b7
        split at b7' <;> omega
      have d7 := u7 _ _ lp d6
      have u07 := (u5.trans u6).trans u7
      walk_at "rd"
      refine ⟨.inl ⟨rfl, _, SqL.of d7⟩, ?_⟩
      walk_at "rd"
      refine ⟨p, 2, _, rfl, S7, by omega, by decide, by decide, fun v H8 a8 b8 u8 S8 => ?_⟩
      have d8 := u8 _ _ lp d7
      have u08 := u07.trans u8
      have fin : ∀ y : Int, -(4000000 * ((i : Int) + 1)) ≤ y → y ≤ 4000000 * ((i : Int) + 1) → ∃ (v4 v5 v6 : Option V) (xs' : List Int), [some (V.ref p), some (V.int most), some (V.int e), some (V.ref l), some (V.int (0 + (i : Nat))), some (V.int b), some (V.int (c * e + g)), none, none] = [some (V.ref p), some (.int most), some (.int e), some (.ref l), v4, v5, v6, none, none] ∧ xs'.length = i + 1 ∧ (∀ x ∈ xs', -(4000000 * ((i + 1 : Nat) : Int)) ≤ x ∧ x ≤ 4000000 * ((i + 1 : Nat) : Int)) ∧
          upd H8 l (.lst (xs.map V.int ++ [V.int y])) l = some (.lst (xs'.map V.int)) ∧ But p H (upd H8 l (.lst (xs.map V.int ++ [V.int y]))) ∧ Src (upd H8 l (.lst (xs.map V.int ++ [V.int y]))) p (n + 1 + 4 * ((i + 1 : Nat) : Int)) := fun y y1 y2 => by
        refine ⟨_, _, _, xs ++ [y], rfl, by rw [List.length_append, hlen]; rfl, fun x hm => ?_, by rw [upd_same, List.map_append]; rfl, but_new u08 hl, ?_⟩
        · rcases List.mem_append.mp hm with q | q
          · have := hx x q
            omega
          · rw [List.mem_singleton.mp q]
            omega
        · exact (S8.but (q := l) ((But.refl l H8).upd) lp.symm).le (by omega)
      walk_at "rd"
      refine ifd (fun q => ?_) (fun q => ?_)
      · walk_at "rd"
        refine ⟨_, _, _, rfl, rfl, d8, by rw [List.length_map, hlen]; exact Nat.lt_of_lt_of_le hi (Nat.le_trans (by omega : _ ≤ 12) (by decide)), ?_⟩
        exact fin (b + (c * e + g)) (by omega) (by omega)
      · walk_at "rd"
        refine ⟨_, _, _, rfl, rfl, d8, by rw [List.length_map, hlen]; exact Nat.lt_of_lt_of_le hi (Nat.le_trans (by omega : _ ≤ 12) (by decide)), ?_⟩
        exact fin (b + (0 - (c * e + g))) (by omega) (by omega)
    · rintro σ H3 ⟨v4, v5, v6, xs, rfl, hlen, hx, d3, u3, S3⟩
      walk_at "rd"
      refine ⟨p, 8, _, rfl, S3, by omega, by decide, by decide, fun v H4 a4 b4 u4 S4 => ?_⟩
      have d4 := u4 _ _ lp d3
      have u04 := u3.trans u4
      have dm12 : dm.toNat ≤ 12 := by omega
      walk_at "rd"
      refine ifd (fun q => ?_) (fun q => ?_)
      · walk_at "rd"
        refine ⟨⟨by decide, by decide, by decide⟩, ?_⟩
        walk_at "rd"
        refine ⟨⟨by decide, by decide, by decide⟩, ?_⟩
        walk_at "rd"
        refine ⟨by show 2 ≤ sizeLine; decide, fun t ht => ?_⟩
        have tp := S4.ne ht
        have u5 := but_new u04 (but_free u04 tp ht) (o := .lst [.int ((10 : Int) ^ (22 : Int).toNat), .int (0 - (10 : Int) ^ (21 : Int).toNat)])
        generalize hH : upd _ t _ = H5 at u5 ⊢
        obtain ⟨s5, d5⟩ := new_of (o' := .lst [.int ((10 : Int) ^ (22 : Int).toNat), .int (0 - (10 : Int) ^ (21 : Int).toNat)]) hH ht rfl
        clear hH
        walk_at "rd"
        refine ⟨p, 2, _, rfl, S4.same s5, by omega, by decide, by decide, fun j H6 a6 b6 u6 S6 => ?_⟩
        have t6 := u6 _ _ tp d5
        have d6 := u6 _ _ lp (s5 _ _ d4)
        obtain ⟨c, hc, c0, c3⟩ : ∃ c : Int, atI [V.int ((10 : Int) ^ (22 : Int).toNat), .int (0 - (10 : Int) ^ (21 : Int).toNat)] j = some (.int c) ∧ -10000000000000000000000 ≤ c ∧ c ≤ 10000000000000000000000 := by
          rcases (by omega : j = 0 ∨ j = 1) with q | q
          all_goals subst q
          · exact ⟨_, rfl, by decide, by decide⟩
          · exact ⟨_, rfl, by decide, by decide⟩
        refine ⟨_, _, _, _, rfl, rfl, SqL.of t6, hc, ?_⟩
        walk_at "rd"
        refine ⟨Or.inr ⟨by omega, by omega⟩, ?_⟩
        have m1 : c * e ≤ 10000000000000000000000 * 1000000 := by
          have q1 : c * e ≤ 10000000000000000000000 * e := Int.mul_le_mul_of_nonneg_right c3 (by omega)
          omega
        have m0 : -(10000000000000000000000 * 1000000) ≤ c * e := by
          have q1 : -10000000000000000000000 * e ≤ c * e := Int.mul_le_mul_of_nonneg_right c0 (by omega)
          omega
        walk_at "rd"
        refine ⟨⟨_, SqL.of d6⟩, fun D hD => ?_⟩
        have Dp := S6.ne hD
        have u06 := u5.trans u6
        have hD0 : H D = none := but_free u06 Dp hD
        refine lc_list (K := K) (a := l) (xs := xs.map V.int) (fun i H' => Same H6 H' ∧ H' D = some (.lst ((((xs.take i).map fun x => x + c * e)).map V.int))) ⟨Same.new hD, upd_same⟩ (fun i H' _ z => SqL.of (z.1 _ _ d6)) ?_ ?_
        · rintro i x H7 hx ⟨s7, d7⟩
          obtain ⟨z, rfl, hz⟩ := int_at hx
          have hi : i < xs.length := (List.getElem?_eq_some_iff.mp hz).1
          refine ⟨rfl, ?_⟩
          walk_at "rd"
          refine ⟨_, d7, ?_, ?_, ?_⟩
          · rw [List.length_map, List.length_map, List.length_take]
            exact Nat.lt_of_le_of_lt (by omega : _ ≤ 12) (by decide)
          · exact fun b o q => by
              rw [upd_ne (fun q2 => by rw [q2, hD] at q; cases q)]
              exact s7 b o q
          · rw [upd_same, take_more hz, List.map_append, List.map_append]
            rfl
        rintro H7 ⟨s7, d7⟩
        rw [List.length_map, List.take_length] at d7
        walk_at "rd"
        refine k D _ H7 (by rw [List.length_map]; omega) (fun x hm => ?_) hD0 d7 (u06.trans (Same.but s7)) ((S6.same s7).le (by omega))
        obtain ⟨y, hy, rfl⟩ := List.mem_map.mp hm
        have := hx y hy
        omega
      · walk_at "rd"
        exact k l xs H4 (by omega) (fun x hm => by have := hx x hm; omega) hl d4 u04 (S4.le (by omega))
/-! ### the different numbers of a list, ascending -/
def insU (a : Int) : List Int → List Int
  | [] => [a]
  | b :: r => if a < b then a :: b :: r else if a = b then b :: r else b :: insU a r
def uqs : List Int → List Int
  | [] => []
  | a :: r => insU a (uqs r)
theorem insU_mem {k a : Int} : ∀ {l : List Int}, k ∈ insU a l ↔ k = a ∨ k ∈ l
  | [] => by simp [insU]
  | b :: r => by
    have ih := insU_mem (k := k) (a := a) (l := r)
    unfold insU
    split
    · simp
    · split
      · rename_i h
        subst h
        simp
      · rw [List.mem_cons, ih, List.mem_cons]
        exact ⟨fun h => h.elim (fun q => .inr (.inl q)) (fun q => q.elim .inl fun z => .inr (.inr z)), fun h => h.elim (fun q => .inr (.inl q)) (fun q => q.elim .inl fun z => .inr (.inr z))⟩
theorem insU_lt {a : Int} : ∀ {l : List Int}, l.Pairwise (· < ·) → (insU a l).Pairwise (· < ·)
  | [], _ => by simp [insU]
  | b :: r, h => by
    obtain ⟨h1, h2⟩ := List.pairwise_cons.mp h
    unfold insU
    split
    · rename_i q
      refine List.pairwise_cons.mpr ⟨fun x hx => ?_, h⟩
      rcases List.mem_cons.mp hx with z | z
      · omega
      · have := h1 x z
        omega
    · split
      · exact h
      · refine List.pairwise_cons.mpr ⟨fun x hx => ?_, insU_lt h2⟩
        rcases insU_mem.mp hx with z | z
        · omega
        · exact h1 x z
theorem uqs_mem {k : Int} : ∀ {l : List Int}, k ∈ uqs l ↔ k ∈ l
  | [] => Iff.rfl
  | a :: r => by
    show k ∈ insU a (uqs r) ↔ _
    rw [insU_mem, uqs_mem, List.mem_cons]
theorem uqs_lt : ∀ l : List Int, (uqs l).Pairwise (· < ·)
  | [] => List.Pairwise.nil
  | a :: r => insU_lt (uqs_lt r)
theorem lt_unique : ∀ {a b : List Int}, a.Pairwise (· < ·) → b.Pairwise (· < ·) → (∀ k, k ∈ a ↔ k ∈ b) → a = b
  | [], [], _, _, _ => rfl
  | [], y :: t, _, _, h => absurd ((h y).mpr List.mem_cons_self) List.not_mem_nil
  | x :: r, [], _, _, h => absurd ((h x).mp List.mem_cons_self) List.not_mem_nil
  | x :: r, y :: t, h1, h2, h => by
    obtain ⟨a1, a2⟩ := List.pairwise_cons.mp h1
    obtain ⟨b1, b2⟩ := List.pairwise_cons.mp h2
    have e : x = y := by
      rcases List.mem_cons.mp ((h x).mp List.mem_cons_self) with q | q
      · exact q
      rcases List.mem_cons.mp ((h y).mpr List.mem_cons_self) with z | z
      · exact z.symm
      have := b1 x q
      have := a1 y z
      omega
    subst e
    rw [lt_unique a2 b2 fun k => ?_]
    have hk := h k
    rw [List.mem_cons, List.mem_cons] at hk
    constructor
    · intro m
      rcases hk.mp (.inr m) with q | q
      · have := a1 k m
        omega
      · exact q
    · intro m
      rcases hk.mpr (.inr m) with q | q
      · have := b1 k m
        omega
      · exact q
theorem uqs_of {out l : List Int} (h : out.Pairwise (· < ·)) (hm : ∀ k, k ∈ out ↔ k ∈ l) : out = uqs l := lt_unique h (uqs_lt l) fun k => (hm k).trans uqs_mem.symm
theorem insU_len (a : Int) : ∀ l : List Int, (insU a l).length ≤ l.length + 1
  | [] => Nat.le_refl _
  | b :: r => by
    have ih := insU_len a r
    unfold insU
    split
    · exact Nat.le_refl _
    · split
      · exact Nat.le_succ _
      · rw [List.length_cons, List.length_cons]
        omega
theorem uqs_len : ∀ l : List Int, (uqs l).length ≤ l.length
  | [] => Nat.le_refl _
  | a :: r => by
    have ih := uqs_len r
    have h := insU_len a (uqs r)
    show (insU a (uqs r)).length ≤ r.length + 1
    omega
theorem lt_nodup {l : List Int} (h : l.Pairwise (· < ·)) : l.Nodup := h.imp fun q z => by omega
theorem uqs_nd (l : List Int) : (uqs l).Nodup := lt_nodup (uqs_lt l)
theorem idx_lt {u : Int} {l : List Int} (h : u ∈ l) : l.idxOf u < l.length := List.idxOf_lt_length_of_mem h
theorem idx_at {u : Int} {l : List Int} (h : u ∈ l) : l[l.idxOf u]? = some u := by
  rw [List.getElem?_eq_getElem (idx_lt h), List.getElem_idxOf (idx_lt h)]
theorem idx_of {l : List Int} (nd : l.Nodup) {i : Nat} {u : Int} (h : l[i]? = some u) : l.idxOf u = i := by
  obtain ⟨hi, e⟩ := List.getElem?_eq_some_iff.mp h
  rw [← e]
  exact List.Nodup.idxOf_getElem nd i hi
/-- the ranked row -/
def restsL (xs : List Int) (e : Int) : List Int := xs.map fun x => x % e
def rkOf (xs : List Int) (e x : Int) : Nat := (uqs (restsL xs e)).idxOf (x % e)
def ranksL (xs : List Int) (e : Int) : List Int := xs.map fun x => ((rkOf xs e x : Nat) : Int)
def manyOf (xs : List Int) (e : Int) : Nat := (uqs (restsL xs e)).length
def wideOf (xs : List Int) (e : Int) : Int := if ((manyOf xs e : Nat) : Int) > 1 then ((manyOf xs e : Nat) : Int) else 1
def rankedL (xs : List Int) (e : Int) : List Int := xs.map fun x => x / e * wideOf xs e + ((rkOf xs e x : Nat) : Int)
theorem rests_mem {xs : List Int} {e x : Int} (h : x ∈ xs) : x % e ∈ uqs (restsL xs e) := uqs_mem.mpr (List.mem_map.mpr ⟨x, h, rfl⟩)
theorem rk_lt {xs : List Int} {e x : Int} (h : x ∈ xs) : rkOf xs e x < manyOf xs e := idx_lt (rests_mem h)
theorem many_le (xs : List Int) (e : Int) : manyOf xs e ≤ xs.length := by
  have := uqs_len (restsL xs e)
  unfold restsL at this
  rw [List.length_map] at this
  exact this
theorem wide_pos (xs : List Int) (e : Int) : 1 ≤ wideOf xs e := by
  unfold wideOf
  split <;> omega
theorem wide_many {xs : List Int} {e : Int} (h : 1 ≤ manyOf xs e) : wideOf xs e = manyOf xs e := by
  unfold wideOf
  split <;> omega
theorem wide_le {xs : List Int} {e : Int} {n : Nat} (h : xs.length ≤ n) (hn : 1 ≤ n) : wideOf xs e ≤ n := by
  have := many_le xs e
  unfold wideOf
  split <;> omega
theorem many_pos {xs : List Int} {e x : Int} (h : x ∈ xs) : 1 ≤ manyOf xs e := by
  have := rk_lt (e := e) h
  omega
theorem ranked_div {xs : List Int} {e x : Int} (h : x ∈ xs) : (x / e * wideOf xs e + ((rkOf xs e x : Nat) : Int)) / wideOf xs e = x / e := by
  have h1 := rk_lt (e := e) h
  have h2 := wide_many (many_pos (e := e) h)
  have h3 := wide_pos xs e
  rw [Int.add_comm, Int.add_mul_ediv_right _ _ (by omega), Int.ediv_eq_zero_of_lt (by omega) (by omega), Int.zero_add]
theorem ranked_mod {xs : List Int} {e x : Int} (h : x ∈ xs) : (x / e * wideOf xs e + ((rkOf xs e x : Nat) : Int)) % wideOf xs e = ((rkOf xs e x : Nat) : Int) := by
  have h1 := rk_lt (e := e) h
  have h2 := wide_many (many_pos (e := e) h)
  rw [Int.add_comm, Int.add_mul_emod_self_right, Int.emod_eq_of_lt (by omega) (by omega)]
theorem ranked_rests (xs : List Int) (e : Int) : restsL (rankedL xs e) (wideOf xs e) = ranksL xs e := by
  unfold restsL rankedL ranksL
  rw [List.map_map]
  exact List.map_congr_left fun x hx => ranked_mod hx
def upTo (n : Nat) : List Int := (List.range n).map fun i => ((i : Nat) : Int)
theorem upTo_lt (n : Nat) : (upTo n).Pairwise (· < ·) := by
  unfold upTo
  rw [List.pairwise_map]
  exact (List.pairwise_lt_range (n := n)).imp fun h => by omega
theorem upTo_len (n : Nat) : (upTo n).length = n := by
  unfold upTo
  rw [List.length_map, List.length_range]
theorem upTo_at {n i : Nat} (h : i < n) : (upTo n)[i]? = some ((i : Nat) : Int) := by
  unfold upTo
  rw [List.getElem?_map, List.getElem?_range h]
  rfl
theorem uqs_ranks (xs : List Int) (e : Int) : uqs (ranksL xs e) = upTo (manyOf xs e) := by
  refine (uqs_of (upTo_lt _) fun k => ?_).symm
  unfold upTo ranksL
  rw [List.mem_map, List.mem_map]
  constructor
  · rintro ⟨i, hi, rfl⟩
    have hi := List.mem_range.mp hi
    obtain ⟨u, hu⟩ : ∃ u, (uqs (restsL xs e))[i]? = some u := ⟨_, List.getElem?_eq_getElem hi⟩
    have hm := uqs_mem.mp (List.mem_of_getElem? hu)
    obtain ⟨x, hx, ex⟩ := List.mem_map.mp hm
    refine ⟨x, hx, ?_⟩
    unfold rkOf
    have ex' : x % e = u := ex
    rw [ex', idx_of (uqs_nd _) hu]
  · rintro ⟨x, hx, rfl⟩
    exact ⟨_, List.mem_range.mpr (rk_lt hx), rfl⟩
theorem ranked_many (xs : List Int) (e : Int) : manyOf (rankedL xs e) (wideOf xs e) = manyOf xs e := by
  show (uqs (restsL (rankedL xs e) (wideOf xs e))).length = _
  rw [ranked_rests, uqs_ranks, upTo_len]
theorem ranked_wide (xs : List Int) (e : Int) : wideOf (rankedL xs e) (wideOf xs e) = wideOf xs e := by
  show (if ((manyOf (rankedL xs e) (wideOf xs e) : Nat) : Int) > 1 then ((manyOf (rankedL xs e) (wideOf xs e) : Nat) : Int) else 1) = wideOf xs e
  rw [ranked_many]
  rfl
theorem ranked_rk {xs : List Int} {e x : Int} (h : x ∈ xs) : rkOf (rankedL xs e) (wideOf xs e) (x / e * wideOf xs e + ((rkOf xs e x : Nat) : Int)) = rkOf xs e x := by
  show (uqs (restsL (rankedL xs e) (wideOf xs e))).idxOf _ = _
  rw [ranked_rests, uqs_ranks, ranked_mod h]
  exact idx_of (lt_nodup (upTo_lt _)) (upTo_at (rk_lt h))
theorem ranked_twice (xs : List Int) (e : Int) : rankedL (rankedL xs e) (wideOf xs e) = rankedL xs e := by
  show List.map _ (List.map _ xs) = List.map _ xs
  rw [List.map_map]
  refine List.map_congr_left fun x hx => ?_
  show (x / e * wideOf xs e + ((rkOf xs e x : Nat) : Int)) / wideOf xs e * wideOf (rankedL xs e) (wideOf xs e) + ((rkOf (rankedL xs e) (wideOf xs e) (x / e * wideOf xs e + ((rkOf xs e x : Nat) : Int)) : Nat) : Int) = _
  rw [ranked_div hx, ranked_wide, ranked_rk hx]
/-! ### slices from and up to a number -/
theorem cut_to (xs : List V) (c : Nat) : cutV xs none (some ((c : Nat) : Int)) = xs.take c := by
  unfold cutV
  rw [HT.sIx_none, HT.sIx_nat, List.drop_zero, Nat.sub_zero]
  exact (List.take_eq_take_min).symm
theorem cut_from (xs : List V) (c : Nat) : cutV xs (some ((c : Nat) : Int)) none = xs.drop c := by
  unfold cutV
  rw [HT.sIx_none, HT.sIx_nat]
  by_cases h : c ≤ xs.length
  · rw [Nat.min_eq_left h]
    exact List.take_of_length_le (by rw [List.length_drop]; exact Nat.le_refl _)
  · rw [Nat.min_eq_right (by omega), Nat.sub_self, List.take_zero]
    exact (List.drop_eq_nil_of_le (by omega)).symm
--SPLIT
/-! ### _cells_and_ranks, ranked -/
theorem LT.sqZ {K : PySem.W.Frag} {H : Hp} {a : Addr} {xs : List V} (h : LT H a xs) : ∃ b, ∀ H', Same H H' → SqZ K b H' a xs := by
  rcases h with h | h
  · exact ⟨true, fun H' e => SqL.of (e _ _ h)⟩
  · exact ⟨false, fun H' e => SqT.of (e _ _ h)⟩
theorem cell_rest (x e : Int) : x - x / e * e = x % e := by
  have := Int.mul_ediv_add_emod x e
  rw [Int.mul_comm] at this
  omega
/-- the dict of the ranks of the first i of the numbers -/
def rkD (us : List Int) (i : Nat) : List (Key × V) := (us.take i).zipIdx.map fun p => ((Sum.inl p.1 : Key), V.int (p.2 : Nat))
theorem rkD_len (us : List Int) (i : Nat) : (rkD us i).length ≤ us.length := by
  unfold rkD
  rw [List.length_map, List.length_zipIdx, List.length_take]
  exact Nat.min_le_right _ _
theorem rkD_keys (us : List Int) (i : Nat) : (rkD us i).map (·.1) = (us.take i).map Sum.inl := by
  unfold rkD
  rw [List.map_map]
  show List.map (fun p : Int × Nat => (Sum.inl p.1 : Key)) _ = _
  rw [show (fun p : Int × Nat => (Sum.inl p.1 : Key)) = (Sum.inl : Int → Key) ∘ Prod.fst from rfl, ← List.map_map, List.zipIdx_map_fst]
theorem rkD_put {us : List Int} (nd : us.Nodup) {i : Nat} {u : Int} (h : us[i]? = some u) : putK (rkD us i) (Sum.inl u : Key) (V.int (i : Nat)) = rkD us (i + 1) := by
  have out : (Sum.inl u : Key) ∉ (rkD us i).map (·.1) := fun m => by
    rw [rkD_keys] at m
    obtain ⟨y, hy, e⟩ := List.mem_map.mp m
    cases e
    obtain ⟨j, hj⟩ := List.getElem?_of_mem hy
    rw [List.getElem?_take] at hj
    split at hj
    · have := idx_of nd hj
      have := idx_of nd h
      omega
    · cases hj
  rw [putK_out out]
  unfold rkD
  have hi : i < us.length := (List.getElem?_eq_some_iff.mp h).1
  rw [take_more h, List.zipIdx_append, List.map_append, List.length_take, Nat.min_eq_left (Nat.le_of_lt hi)]
  simp
theorem rkD_val {us : List Int} (nd : us.Nodup) {u : Int} (h : u ∈ us) : valV (rkD us us.length) (Sum.inl u : Key) = some (V.int (us.idxOf u : Nat)) := by
  have key : ∀ (l : List Int) (n : Nat), l.Nodup → u ∈ l → valV ((l.zipIdx n).map fun p => ((Sum.inl p.1 : Key), V.int (p.2 : Nat))) (Sum.inl u : Key) = some (V.int ((n + l.idxOf u : Nat) : Nat)) := fun l => by
    induction l with
    | nil => exact fun _ _ h => nomatch h
    | cons a r ih =>
      intro n hn hm
      obtain ⟨h1, h2⟩ := List.nodup_cons.mp hn
      by_cases e : a = u
      · subst e
        rw [List.idxOf_cons_self]
        exact valV_pos (p := ((Sum.inl a : Key), V.int (n : Nat))) rfl
      · refine Eq.trans (valV_neg (p := ((Sum.inl a : Key), V.int (n : Nat))) fun q => e (by cases q; rfl)) ?_
        rw [List.idxOf_cons, show (a == u) = false by simpa using e]
        show _ = some (V.int ((n + (r.idxOf u + 1) : Nat) : Nat))
        have := ih (n + 1) h2 ((List.mem_cons.mp hm).resolve_left fun q => e q.symm)
        rw [show n + (r.idxOf u + 1) = n + 1 + r.idxOf u by omega]
        exact this
  unfold rkD
  rw [List.take_length]
  have := key us 0 nd h
  rw [Nat.zero_add] at this
  exact this
theorem int2_at {α : Type} {f : α → Int} {l : List α} {i : Nat} {x : V} {z : α} (hz : l[i]? = some z) (h : ((l.map f).map V.int)[i]? = some x) : x = V.int (f z) := by
  rw [List.getElem?_map, List.getElem?_map, hz] at h
  exact (Option.some.inj h).symm
def spCR : Sp := fun vs H Q _ => ∃ (a : Addr) (xs : List Int) (e : Int), vs = [.ref a, .int e] ∧ LT H a (xs.map V.int) ∧ xs.length < 60 ∧ 1 ≤ e ∧ e ≤ 3000000 ∧
  ∀ (t c r : Addr) (H' : Hp), Same H H' → H' t = some (.tup [.ref c, .ref r, .int (manyOf xs e : Nat)]) → H' c = some (.lst ((xs.map fun x => x / e).map V.int)) → H' r = some (.lst ((ranksL xs e).map V.int)) → Q (.ref t) H'
theorem ok_cells_and_ranks (T : Txt K mg) : FnOk P w K mg base CX0 3 T.f_cells_and_ranks T.d_cells_and_ranks ["row", "tolerance"] spCR := by
  refine T.F_cells_and_ranks.ok sc_cells_and_ranks (fun vs H Q E h => ?_) (fun cdv A outer s H vs Q E hr h => ?_)
  · obtain ⟨a, xs, e, rfl, _⟩ := h
    rfl
  · obtain ⟨a, xs, e, rfl, hA, hl, e1, e2, k⟩ := h
    refine ⟨_, (C8.pss_cut (ps_setLc (i := 2) (own := [("number", 5)]) (by rfl) sc_cells_and_ranks.nd rfl rfl (sw_true rfl rfl rfl (by decide +kernel)) (pi_lt (pv 0)) (blkOk_by (own := [("number", 5)]) (N := ["row", "tolerance", "cells", "rests", "ranks", "number", "cell", "rank", "rest"]) (sc := defScope s_cells_and_ranks) (by decide +kernel)) (fun _ _ _ _ _ => (pg_name (i := 5) sc_cells_and_ranks.nd rfl (Or.inl rfl))) (fun _ _ _ _ _ => pts_nil) (fun _ _ _ _ _ => (pe_op op_fdivW (pv 5) (pv 1))))
      (pss_cons (ps_setLc (i := 3) (own := [("number", 5), ("cell", 6)]) (by rfl) sc_cells_and_ranks.nd rfl rfl (sw_true rfl rfl rfl (by decide +kernel)) (pi_zipZ (by rfl) T.m_zip (pa_cons (pv 0) (pa_cons (pv 2) pa_nil))) (blkOk_by (own := [("number", 5), ("cell", 6)]) (N := ["row", "tolerance", "cells", "rests", "ranks", "number", "cell", "rank", "rest"]) (sc := defScope s_cells_and_ranks) (by decide +kernel)) (fun _ _ _ _ _ => (show PG _ _ (gTup K 2 _) from (pg_tup (by rfl) (pgs_cons (pg_name (i := 5) sc_cells_and_ranks.nd rfl (Or.inl rfl)) (pgs_cons (pg_name (i := 6) sc_cells_and_ranks.nd rfl (Or.inl rfl)) pgs_nil))))) (fun _ _ _ _ _ => pts_nil) (fun _ _ _ _ _ => (pe_op op_sub (pv 5) (pe_op op_mul (pv 6) (pv 1)))))
      (pss_cons (ps_set (i := 4) sc_cells_and_ranks.nd rfl (Or.inr rfl) (pe_dc (own := [("rank", 7), ("rest", 8)]) (by rfl) sc_cells_and_ranks.nd (pi_enum (by rfl) T.m_enumerate (pa_cons (pe_callB (cr_sortedSet rfl) (by rfl) T.m_sorted (by decide +kernel) (pa_cons (pe_callTy (cr_setI rfl) (by rfl) T.m_set (by decide +kernel) (pa_cons (pv 3) pa_nil)) pa_nil)) pa_nil)) (blkOk_by (own := [("rank", 7), ("rest", 8)]) (N := ["row", "tolerance", "cells", "rests", "ranks", "number", "cell", "rank", "rest"]) (sc := defScope s_cells_and_ranks) (by decide +kernel)) (fun _ _ _ _ _ => (show PG _ _ (gTup K 2 _) from (pg_tup (by rfl) (pgs_cons (pg_name (i := 7) sc_cells_and_ranks.nd rfl (Or.inl rfl)) (pgs_cons (pg_name (i := 8) sc_cells_and_ranks.nd rfl (Or.inl rfl)) pgs_nil))))) (fun _ _ _ _ _ => pts_nil) (fun _ _ _ _ _ => (pv 8)) (fun _ _ _ _ _ => (pv 7))))
      (pss_one (ps_ret (pe_tup (pa_cons (pv 2) (pa_cons (pe_lc (own := [("rest", 8)]) (by rfl) sc_cells_and_ranks.nd (pi_list (pv 3)) (blkOk_by (own := [("rest", 8)]) (N := ["row", "tolerance", "cells", "rests", "ranks", "number", "cell", "rank", "rest"]) (sc := defScope s_cells_and_ranks) (by decide +kernel)) (fun _ _ _ _ _ => (pg_name (i := 8) sc_cells_and_ranks.nd rfl (Or.inl rfl))) (fun _ _ _ _ _ => pts_nil) (fun _ _ _ _ _ => (pe_dget (hu_of hr) (pv 4) (pv 8) (fun _ _ => rfl)))) (pa_cons (pe_callB call_lenD (by rfl) T.m_len (by decide +kernel) (pa_cons (pv 4) pa_nil)) pa_nil))))))))), ?_⟩
    refine ⟨fun σ H' => ∃ c : Addr, σ = [some (.ref a), some (.int e), some (.ref c), none, none, none, none, none, none] ∧ Same H H' ∧ H' c = some (.lst ((xs.map fun x => x / e).map V.int)), ?_, ?_⟩
    · have one : ∀ (i : Nat) (x : V) (D : Addr) (H2 : Hp), H D = none → (xs.map V.int)[i]? = some x → Same H H2 ∧ H2 D = some (.lst (((xs.take i).map fun x => x / e).map V.int)) → ∃ z, x = V.int z ∧ ∃ acc, H2 D = some (.lst acc) ∧ acc.length < sizeLine ∧ Same H (upd H2 D (.lst (acc ++ [V.int (z / e)]))) ∧ upd H2 D (.lst (acc ++ [V.int (z / e)])) D = some (.lst (((xs.take (i + 1)).map fun x => x / e).map V.int)) := fun i x D H2 hD hx ⟨s2, d2⟩ => by
        obtain ⟨z, rfl, hz⟩ := int_at hx
        refine ⟨z, rfl, _, d2, ?_, fun b o q => ?_, ?_⟩
        · rw [List.length_map, List.length_map, List.length_take]
          exact Nat.lt_of_le_of_lt (by omega : _ ≤ 60) (by decide)
        · rw [upd_ne (fun q2 => by rw [q2, hD] at q; cases q)]
          exact s2 b o q
        · rw [upd_same, take_more hz, List.map_append, List.map_append]
          rfl
      rcases hA with h | h
      · refine Or.inl ⟨_, rfl, a, rfl, ⟨_, SqL.of h⟩, fun D hD => ?_⟩
        refine lc_list (K := K) (a := a) (xs := xs.map V.int) (fun i H' => Same H H' ∧ H' D = some (.lst (((xs.take i).map fun x => x / e).map V.int))) ⟨Same.new hD, upd_same⟩ (fun i H' _ z => SqL.of (z.1 _ _ h)) ?_ ?_
        · rintro i x H2 hx p
          obtain ⟨z, rfl, fin⟩ := one i x D H2 hD hx p
          refine ⟨rfl, ?_⟩
          walk_at "rd"
          refine ⟨wide_div (b := 64) (by omega) (by omega) (by decide) (by decide), ?_⟩
          exact fin
        rintro H2 ⟨s2, d2⟩
        rw [List.length_map, List.take_length] at d2
        exact ⟨D, rfl, s2, d2⟩
      · refine Or.inr ⟨_, rfl, a, rfl, ⟨_, SqT.of h⟩, fun D hD => ?_⟩
        refine lc_tup (K := K) (a := a) (xs := xs.map V.int) (fun i H' => Same H H' ∧ H' D = some (.lst (((xs.take i).map fun x => x / e).map V.int))) ⟨Same.new hD, upd_same⟩ (fun i H' _ z => SqT.of (z.1 _ _ h)) ?_ ?_
        · rintro i x H2 hx p
          obtain ⟨z, rfl, fin⟩ := one i x D H2 hD hx p
          refine ⟨rfl, ?_⟩
          walk_at "rd"
          refine ⟨wide_div (b := 64) (by omega) (by omega) (by decide) (by decide), ?_⟩
          exact fin
        rintro H2 ⟨s2, d2⟩
        rw [List.length_map, List.take_length] at d2
        exact ⟨D, rfl, s2, d2⟩
    rintro σ H1 ⟨c, rfl, s1, d1⟩
    obtain ⟨b, qa⟩ := LT.sqZ (K := K) (hA.same s1)
    walk_at "rd"
    refine ⟨b, true, a, c, _, _, rfl, qa _ (Same.refl _), SqL.of d1, fun D hD => ?_⟩
    refine lc_it (walk_zipZ (K := K) (n := xs.length) (by rw [List.length_map, List.length_map, List.length_map, Nat.min_self])) (fun i H' => Same H1 H' ∧ H' D = some (.lst (((xs.take i).map fun x => x % e).map V.int))) ⟨Same.new hD, upd_same⟩ (fun i H' _ z => ⟨qa _ z.1, SqL.of (z.1 _ _ d1)⟩) ?_ ?_
    · rintro i v H2 H3 hi ⟨s2, d2⟩ ⟨t, x, y, rfl, ht, rfl, hx, hy⟩
      obtain ⟨z, rfl, hz⟩ := int_at hx
      have ey := int2_at hz hy
      subst ey
      refine ⟨_, _, rfl, SqT.of upd_same, rfl, ?_⟩
      walk_at "rd"
      refine ⟨Or.inr ⟨by omega, by omega⟩, ?_⟩
      walk_at "rd"
      rw [show (fun i j : Int => V.int (i - j)) z (z / e * e) = V.int (z % e) from congrArg V.int (cell_rest z e)]
      have tD : t ≠ D := fun q => by rw [q, d2] at ht; cases ht
      refine ⟨_, by rw [upd_ne tD.symm]; exact d2, ?_, fun b o q => ?_, ?_⟩
      · rw [List.length_map, List.length_map, List.length_take]
        exact Nat.lt_of_le_of_lt (by omega : _ ≤ 60) (by decide)
      · have q2 := s2 b o q
        rw [upd_ne (fun q3 => by rw [q3, hD] at q; cases q), upd_ne (fun q3 => by rw [q3, ht] at q2; cases q2)]
        exact q2
      · rw [upd_same, take_more hz, List.map_append, List.map_append]
        rfl
    rintro H2 ⟨s2, d2⟩
    rw [List.take_length] at d2
    have d2 : H2 D = some (.lst ((restsL xs e).map V.int)) := d2
    have c2 := s2 _ _ d1
    have s02 := s1.trans s2
    clear s1 s2 d1 qa hD
    walk_at "rd"
    refine ⟨D, restsL xs e, rfl, SqL.of d2, by unfold restsL; rw [List.length_map]; omega, fun p n hp hn => ?_⟩
    have e2' : n < 64 := by
      unfold restsL at hn
      rw [List.length_map] at hn
      omega
    refine ⟨p, _, n, rfl, upd_same, e2', fun us u hlt hmem hul hu => ?_⟩
    have eu : us = uqs (restsL xs e) := uqs_of hlt fun k => (hmem k).trans decide_eq_true_iff
    generalize hH : upd _ u _ = H3
    obtain ⟨s3, d3⟩ := new_of (o' := .lst (us.map V.int)) hH hu rfl
    clear hH
    have s23 : Same H2 H3 := (Same.new hp).trans s3
    have nd : us.Nodup := lt_nodup hlt
    have ul : us.length = manyOf xs e := by rw [eu]; rfl
    have um : us.length ≤ 60 := by
      have := many_le xs e
      omega
    refine ⟨u, _, rfl, SqL.of d3, fun G hG => ?_⟩
    refine dc_it (walk_enum (K := K) (a := u) (xs := us.map V.int)) (fun i H' => Same H3 H' ∧ H' G = some (.dK (rkD us i))) ⟨Same.new hG, upd_same⟩ (fun i H' _ z => SqL.of (z.1 _ _ d3)) ?_ ?_
    · rintro i v H4 H5 hi ⟨s4, d4⟩ ⟨t, x, y, rfl, ht, rfl, hx, hy⟩
      obtain rfl := Option.some.inj hx
      obtain ⟨z, rfl, hz⟩ := int_at hy
      refine ⟨_, _, rfl, SqT.of upd_same, rfl, ?_⟩
      walk_at "rd"
      have tG : t ≠ G := fun q => by rw [q, d4] at ht; cases ht
      refine ⟨_, Sum.inl z, rfl, by rw [upd_ne tG.symm]; exact d4, Nat.lt_of_le_of_lt (Nat.le_trans (rkD_len us i) um) (by decide), fun b o q => ?_, ?_⟩
      · have q2 := s4 b o q
        rw [upd_ne (fun q3 => by rw [q3, hG] at q; cases q), upd_ne (fun q3 => by rw [q3, ht] at q2; cases q2)]
        exact q2
      · rw [upd_same, rkD_put nd hz]
    rintro H4 ⟨s4, d4⟩
    rw [List.length_map] at d4
    have s24 := s23.trans s4
    have d24 := s24 _ _ d2
    walk_at "rd"
    refine ⟨⟨_, SqL.of d24⟩, fun R hR => ?_⟩
    refine lc_list (K := K) (a := D) (xs := (restsL xs e).map V.int) (fun i H' => Same H4 H' ∧ H' R = some (.lst (((xs.take i).map fun x => ((rkOf xs e x : Nat) : Int)).map V.int))) ⟨Same.new hR, upd_same⟩ (fun i H' _ z => SqL.of (z.1 _ _ d24)) ?_ ?_
    · rintro i x H5 hx ⟨s5, d5⟩
      obtain ⟨z, hz⟩ : ∃ z, xs[i]? = some z := by
        rw [List.getElem?_map] at hx
        cases q : xs[i]? with
        | some z => exact ⟨z, rfl⟩
        | none =>
          unfold restsL at hx
          rw [List.getElem?_map, q] at hx
          cases hx
      have ex : x = V.int (z % e) := int2_at (f := fun x => x % e) hz hx
      subst ex
      refine ⟨rfl, ?_⟩
      walk_at "rd"
      refine ⟨G, V.int ((us.idxOf (z % e) : Nat) : Int), rfl, ?_, ?_⟩
      · have q := DGet.k (k := Sum.inl (z % e)) (s5 _ _ d4)
        rw [rkD_val nd (by rw [eu]; exact rests_mem (List.mem_of_getElem? hz))] at q
        exact q
      refine ⟨_, d5, ?_, fun b o q => ?_, ?_⟩
      · rw [List.length_map, List.length_map, List.length_take]
        exact Nat.lt_of_le_of_lt (by omega : _ ≤ 60) (by decide)
      · rw [upd_ne (fun q2 => by rw [q2, hR] at q; cases q)]
        exact s5 b o q
      · rw [upd_same, take_more hz, List.map_append, List.map_append]
        rw [eu]
        rfl
    rintro H5 ⟨s5, d5⟩
    have rl : ((restsL xs e).map V.int).length = xs.length := by
      unfold restsL
      rw [List.length_map, List.length_map]
    rw [rl, List.take_length] at d5
    walk_at "rd"
    refine ⟨_, _, rfl, s5 _ _ d4, ?_⟩
    refine ⟨by show 3 ≤ sizeLine; decide, fun t ht => ?_⟩
    generalize hH : upd _ t _ = H6
    have rln : (rkD us us.length).length = manyOf xs e := by
      unfold rkD
      rw [List.length_map, List.length_zipIdx, List.take_length, ul]
    obtain ⟨s6, d6⟩ := new_of (o' := .tup [.ref c, .ref R, .int (manyOf xs e : Nat)]) hH ht (by rw [rln])
    clear hH
    have s56 := s5.trans s6
    exact k t c R H6 ((s02.trans s24).trans s56) d6 (s56 _ _ (s24 _ _ c2)) (s6 _ _ d5)
def spRanked : Sp := fun vs H Q _ => ∃ (a : Addr) (xs : List Int) (e : Int), vs = [.ref a, .int e] ∧ LT H a (xs.map V.int) ∧ xs.length < 60 ∧ (∀ x ∈ xs, -big < x ∧ x < big) ∧ 1 ≤ e ∧ e ≤ 3000000 ∧
  ∀ (t l : Addr) (H' : Hp), Same H H' → H l = none → H' t = some (.tup [.ref l, .int (wideOf xs e)]) → H' l = some (.lst ((rankedL xs e).map V.int)) → Q (.ref t) H'
theorem ok_ranked (T : Txt K mg) : FnOk P w K mg base CX0 4 T.f_ranked T.d_ranked ["row", "tolerance"] spRanked := by
  refine T.F_ranked.ok sc_ranked (fun vs H Q E h => ?_) (fun cdv A outer s H vs Q E hr h => ?_)
  · obtain ⟨a, xs, e, rfl, _⟩ := h
    rfl
  · obtain ⟨a, xs, e, rfl, hA, hl, hb, e1, e2, k⟩ := h
    refine ⟨_, (pss_cons (ps_expr (pe_call (ok_check_row T) (hr.mono (by decide)) (by rfl) T.m_check_row T.F_check_row.kp T.b_check_row .nil pass0 (pa_cons (pv 0) pa_nil)))
      (pss_cons (ps_expr (pe_call (ok_check_tolerance T) (hr.mono (by decide)) (by rfl) T.m_check_tolerance T.F_check_tolerance.kp T.b_check_tolerance .nil pass0 (pa_cons (pv 1) pa_nil)))
      (pss_cons (ps_asg (pe_call (ok_cells_and_ranks T) (hr.mono (by decide)) (by rfl) T.m_cells_and_ranks T.F_cells_and_ranks.kp T.b_cells_and_ranks .nil pass0 (pa_cons (pv 0) (pa_cons (pv 1) pa_nil))) (pg_tup (by rfl) (pgs_cons (pg_name (i := 2) sc_ranked.nd rfl (Or.inl rfl)) (pgs_cons (pg_name (i := 3) sc_ranked.nd rfl (Or.inl rfl)) (pgs_cons (pg_name (i := 4) sc_ranked.nd rfl (Or.inl rfl)) pgs_nil)))))
      (pss_cons (ps_set (i := 5) sc_ranked.nd rfl (Or.inr rfl) (pe_callB (call_max2 rfl) (by rfl) T.m_max (by decide +kernel) (pa_cons pe_int (pa_cons (pv 4) pa_nil))))
      (pss_one (ps_ret (pe_tup (pa_cons (pe_lc (own := [("cell", 6), ("rank", 7)]) (by rfl) sc_ranked.nd (pi_zip (by rfl) T.m_zip (pa_cons (pv 2) (pa_cons (pv 3) pa_nil))) (blkOk_by (own := [("cell", 6), ("rank", 7)]) (N := ["row", "tolerance", "cells", "ranks", "many", "least", "cell", "rank"]) (sc := defScope s_ranked) (by decide +kernel)) (fun _ _ _ _ _ => (show PG _ _ (gTup K 2 _) from (pg_tup (by rfl) (pgs_cons (pg_name (i := 6) sc_ranked.nd rfl (Or.inl rfl)) (pgs_cons (pg_name (i := 7) sc_ranked.nd rfl (Or.inl rfl)) pgs_nil))))) (fun _ _ _ _ _ => pts_nil) (fun _ _ _ _ _ => (pe_op op_add (pe_op op_mul (pv 6) (pv 5)) (pv 7)))) (pa_cons (pv 5) pa_nil))))))))), ?_⟩
    walk_at "rd"
    refine ⟨a, xs, rfl, hA, by omega, hb, fun H1 s1 => ?_⟩
    walk_at "rd"
    refine ⟨e1, by unfold big; omega, ?_⟩
    walk_at "rd"
    refine ⟨a, xs, e, rfl, hA.same s1, hl, e1, e2, fun t c r H2 s2 d2 dc dr => ?_⟩
    refine ⟨_, _, rfl, SqT.of d2, rfl, ?_⟩
    walk_at "rd"
    refine ⟨_, _, _, _, rfl, SqL.of dc, SqL.of dr, fun D hD => ?_⟩
    have wl := wide_le (e := e) (n := 60) (by omega : xs.length ≤ 60) (by decide)
    have wp := wide_pos xs e
    refine lc_it (walk_zip (K := K) (n := xs.length) (by unfold ranksL; rw [List.length_map, List.length_map, List.length_map, List.length_map, Nat.min_self])) (fun i H' => Same H2 H' ∧ H' D = some (.lst (((xs.take i).map fun x => x / e * wideOf xs e + ((rkOf xs e x : Nat) : Int)).map V.int))) ⟨Same.new hD, upd_same⟩ (fun i H' _ z => ⟨SqL.of (z.1 _ _ dc), SqL.of (z.1 _ _ dr)⟩) ?_ ?_
    · rintro i v H3 H4 hi ⟨s3, d3⟩ ⟨u, x, y, rfl, hu, rfl, hx, hy⟩
      obtain ⟨z, hz⟩ : ∃ z, xs[i]? = some z := ⟨_, List.getElem?_eq_getElem hi⟩
      have ex := int2_at hz hx
      have ey := int2_at (f := fun x => ((rkOf xs e x : Nat) : Int)) hz hy
      subst ex ey
      refine ⟨_, _, rfl, SqT.of upd_same, rfl, ?_⟩
      walk_at "rd"
      refine ⟨Or.inr ⟨?_, ?_⟩, ?_⟩
      · show -(2 ^ 64) < wideOf xs e
        omega
      · show wideOf xs e < 2 ^ 64
        omega
      walk_at "rd"
      have uD : u ≠ D := fun q => by rw [q, d3] at hu; cases hu
      refine ⟨_, by rw [upd_ne uD.symm]; exact d3, ?_, fun b o q => ?_, ?_⟩
      · rw [List.length_map, List.length_map, List.length_take]
        exact Nat.lt_of_le_of_lt (by omega : _ ≤ 60) (by decide)
      · have q2 := s3 b o q
        rw [upd_ne (fun q3 => by rw [q3, hD] at q; cases q), upd_ne (fun q3 => by rw [q3, hu] at q2; cases q2)]
        exact q2
      · rw [upd_same, take_more hz, List.map_append, List.map_append]
        rfl
    rintro H3 ⟨s3, d3⟩
    rw [List.take_length] at d3
    have s13 := (s1.trans s2).trans s3
    walk_at "rd"
    refine ⟨by show 2 ≤ sizeLine; decide, fun t2 ht2 => ?_⟩
    generalize hH : upd _ t2 _ = H4
    obtain ⟨s4, d4⟩ := new_of (o' := .tup [.ref D, .int (wideOf xs e)]) hH ht2 rfl
    clear hH
    exact k t2 D H4 (s13.trans s4) ((s1.trans s2).free hD) d4 (s4 _ _ d3)
/-! ### _law_unlike -/
def spUnlike : Sp := fun vs H Q _ => ∃ (a : Addr) (ns : List Int), vs = [.ref a] ∧ H a = some (.lst (ns.map V.int)) ∧ ns.length < 60 ∧ ∀ (l : Addr) (H' : Hp), Same H H' → H l = none → H' l = some (.lst ((uqs ns).map V.int)) → Q (.ref l) H'
/-- the numbers without those that stand behind an equal one -/
def thinL (l : List Int) (n : Nat) : List Int := uqs (l.take n)
theorem sorted_last {l : List Int} (h : l.Pairwise (· ≤ ·)) {n : Nat} {z : Int} (hz : l[n]? = some z) : ∀ k ∈ l.take n, k ≤ z := fun k hk => by
  obtain ⟨i, hi⟩ := List.getElem?_of_mem hk
  rw [List.getElem?_take] at hi
  split at hi
  · rename_i q
    obtain ⟨a1, a2⟩ := List.getElem?_eq_some_iff.mp hi
    obtain ⟨b1, b2⟩ := List.getElem?_eq_some_iff.mp hz
    have := List.pairwise_iff_getElem.mp h i n a1 b1 q
    omega
  · cases hi
theorem insU_end {z : Int} : ∀ {l : List Int}, l.Pairwise (· < ·) → (∀ k ∈ l, k < z) → insU z l = l ++ [z]
  | [], _, _ => rfl
  | b :: r, h, hk => by
    obtain ⟨_, h2⟩ := List.pairwise_cons.mp h
    have hb := hk b List.mem_cons_self
    unfold insU
    rw [if_neg (by omega), if_neg (by omega), insU_end h2 fun k hr => hk k (List.mem_cons_of_mem _ hr)]
    rfl
theorem uqs_snoc (l : List Int) (z : Int) : uqs (l ++ [z]) = insU z (uqs l) :=
  lt_unique (uqs_lt _) (insU_lt (uqs_lt l)) fun k => by
    rw [uqs_mem, insU_mem, uqs_mem, List.mem_append, List.mem_singleton]
    exact Or.comm
theorem insU_in {z : Int} : ∀ {l : List Int}, l.Pairwise (· < ·) → z ∈ l → insU z l = l := fun {l} h hz =>
  lt_unique (insU_lt h) h fun k => by
    rw [insU_mem]
    exact ⟨fun q => q.elim (fun e => e ▸ hz) id, .inr⟩
/-- the last of the ascending different numbers is the greatest -/
theorem last_max {us : List Int} (h : us.Pairwise (· < ·)) {m : Int} (hm : us.getLast? = some m) : ∀ k ∈ us, k ≤ m := fun k hk => by
  obtain ⟨ys, rfl⟩ := List.getLast?_eq_some_iff.mp hm
  rcases List.mem_append.mp hk with q | q
  · have := (List.pairwise_append.mp h).2.2 k q m (List.mem_singleton.mpr rfl)
    omega
  · rw [List.mem_singleton.mp q]
    exact Int.le_refl _
theorem thin_next {l : List Int} (h : l.Pairwise (· ≤ ·)) {n : Nat} {z : Int} (hz : l[n]? = some z) : uqs (l.take (n + 1)) = if (uqs (l.take n)).getLast? = some z then uqs (l.take n) else uqs (l.take n) ++ [z] := by
  rw [take_more hz, uqs_snoc]
  split
  · rename_i q
    exact insU_in (uqs_lt _) (List.mem_of_getLast? q)
  · rename_i q
    refine insU_end (uqs_lt _) fun k hk => ?_
    have h1 := sorted_last h hz k (uqs_mem.mp hk)
    refine Int.lt_iff_le_and_ne.mpr ⟨h1, fun e => q ?_⟩
    subst e
    have ne : uqs (l.take n) ≠ [] := fun w => by rw [w] at hk; cases hk
    cases hm : (uqs (l.take n)).getLast? with
    | none => exact absurd (List.getLast?_eq_none_iff.mp hm) ne
    | some m =>
      have a1 := last_max (uqs_lt _) hm k hk
      have a2 := sorted_last h hz m (uqs_mem.mp (List.mem_of_getLast? hm))
      rw [show m = k by omega]
theorem last_int {l : List Int} {k : Int} (h : l.getLast? = some k) : atI (l.map V.int) (-1) = some (V.int k) := by
  have h0 : l ≠ [] := fun q => by rw [q] at h; cases h
  have hl : 1 ≤ l.length := List.length_pos_iff.mpr h0
  unfold atI ixN
  rw [if_neg (by decide), if_pos (by rw [List.length_map]; omega)]
  show (l.map V.int)[((-1 : Int) + ((l.map V.int).length : Nat)).toNat]? = _
  rw [show ((-1 : Int) + ((l.map V.int).length : Nat)).toNat = l.length - 1 by rw [List.length_map]; omega, List.getElem?_map, ← List.getLast?_eq_getElem?, h]
  rfl
theorem ok_law_unlike (T : Txt K mg) : FnOk P w K mg base CX0 1 T.f_law_unlike T.d_law_unlike ["_law_numbers"] spUnlike := by
  refine T.F_law_unlike.ok sc_law_unlike (fun vs H Q E h => ?_) (fun cdv A outer s H vs Q E hr h => ?_)
  · obtain ⟨a, ns, rfl, _⟩ := h
    rfl
  · obtain ⟨a, ns, rfl, hA, hl, k⟩ := h
    refine ⟨_, (pss_cons (ps_set (i := 1) sc_law_unlike.nd rfl (Or.inl rfl) (pe_lst pa_nil))
      (pss_cons (ps_for PassesOwn.never rfl (pi_list (pe_callB cr_sorted (by rfl) T.m_sorted (by decide +kernel) (pa_cons (pe_lc (own := [("_law_one", 3)]) (by rfl) sc_law_unlike.nd (pi_list (pv 0)) (blkOk_by (own := [("_law_one", 3)]) (N := ["_law_numbers", "_law_found", "_law_number", "_law_one"]) (sc := defScope s_law_unlike) (by decide +kernel)) (fun _ _ _ _ _ => (pg_name (i := 3) sc_law_unlike.nd rfl (Or.inl rfl))) (fun _ _ _ _ _ => pts_nil) (fun _ _ _ _ _ => (pe_callTy call_int1 (by rfl) T.m_int (by decide +kernel) (pa_cons (pv 3) pa_nil)))) pa_nil))) (pg_name (i := 2) sc_law_unlike.nd rfl (Or.inl rfl))
      (pss_one (ps_if (PW.pt (pw_or (pt_cmpR (op_eqD hr.units) (pv 1) (pe_lst pa_nil) (nomark _)) (pw_or1 (pt_cmpR op_ne (pe_ix ix_list (pv 1) (pe_un un_neg pe_int) (fun _ _ => rfl)) (pv 2) (nomark _)))))
      (pss_one (ps_expr (pe_bm PySem.F.plainAttrs_list PySem.F.slot_list_append PySem.F.type_list_append mt_append (pv 1) (pa_cons (pv 2) pa_nil))))
      pss_nil)))
      (pss_one (ps_ret (pv 1))))), ?_⟩
    refine ⟨by show 0 ≤ sizeLine; decide, fun l hl0 => ?_⟩
    generalize hH : upd _ l _ = H1
    obtain ⟨s1, d1⟩ := new_of (o' := .lst (([] : List Int).map V.int)) hH hl0 rfl
    clear hH
    have a1 := s1 _ _ hA
    walk_at "rd"
    refine ⟨⟨_, SqL.of a1⟩, fun D hD => ?_⟩
    refine lc_list (K := K) (a := a) (xs := ns.map V.int) (fun i H' => Same H1 H' ∧ H' D = some (.lst ((ns.take i).map V.int))) ⟨Same.new hD, upd_same⟩ (fun i H' _ z => SqL.of (z.1 _ _ a1)) ?_ ?_
    · rintro i x H2 hx ⟨s2, d2⟩
      obtain ⟨z, rfl, hz⟩ := int_at hx
      refine ⟨rfl, ?_⟩
      walk_at "rd"
      refine Or.inl ?_
      walk_at "rd"
      refine ⟨_, d2, ?_, fun b o q => ?_, ?_⟩
      · rw [List.length_map, List.length_take]
        exact Nat.lt_of_le_of_lt (by omega : _ ≤ 60) (by decide)
      · rw [upd_ne (fun q2 => by rw [q2, hD] at q; cases q)]
        exact s2 b o q
      · rw [upd_same, take_more hz, List.map_append]
        rfl
    rintro H2 ⟨s2, d2⟩
    rw [List.length_map, List.take_length] at d2
    refine ⟨D, ns, rfl, SqL.of d2, by omega, fun ms p hp hs hp0 => ?_⟩
    generalize hH : upd _ p _ = H3
    obtain ⟨s3, d3⟩ := new_of (o' := .lst (ms.map V.int)) hH hp0 rfl
    clear hH
    have s13 := s2.trans s3
    have l3 := s13 _ _ d1
    have pl : p ≠ l := (ne_of_none (s2 _ _ d1) hp0).symm
    have s03 := s1.trans s13
    have eu : uqs ms = uqs ns := lt_unique (uqs_lt _) (uqs_lt _) fun k => by rw [uqs_mem, uqs_mem]; exact hp.mem_iff
    have ml : ms.length < 60 := by rw [hp.length_eq]; exact hl
    rw [← eu] at k
    refine ⟨p, rfl, ⟨_, SqL.of d3⟩, for_list (K := K) (a := p) (xs := ms.map V.int) (fun i σ H' => ∃ v2 : Option V, σ = [some (.ref a), some (.ref l), v2, none] ∧ Same H H' ∧ H' p = some (.lst (ms.map V.int)) ∧ H' l = some (.lst ((uqs (ms.take i)).map V.int)))
      ⟨none, rfl, s03, d3, l3⟩ (fun i σ H' _ ⟨_, _, _, z, _⟩ => SqL.of z) ?_ ?_⟩
    · rintro i x σ H4 hx ⟨v2, rfl, s4, p4, l4⟩
      obtain ⟨z, rfl, hz⟩ := int_at hx
      have tl : (uqs (ms.take i)).length ≤ 60 := by
        have := uqs_len (ms.take i)
        rw [List.length_take] at this
        omega
      have nx := thin_next hs hz
      have addIt : uqs (ms.take (i + 1)) = uqs (ms.take i) ++ [z] → ∀ H5, Same H4 H5 → ∃ acc, H5 l = some (.lst acc) ∧ acc.length < sizeLine ∧ (∃ v2 : Option V, [some (V.ref a), some (V.ref l), some (V.int z), none] = [some (.ref a), some (.ref l), v2, none] ∧ Same H (upd H5 l (.lst (acc ++ [V.int z]))) ∧ upd H5 l (.lst (acc ++ [V.int z])) p = some (.lst (ms.map V.int)) ∧ upd H5 l (.lst (acc ++ [V.int z])) l = some (.lst ((uqs (ms.take (i + 1))).map V.int))) := fun en H5 s5 => by
        refine ⟨_, s5 _ _ l4, ?_, _, rfl, fun b o q => ?_, ?_, ?_⟩
        · rw [List.length_map]
          exact Nat.lt_of_le_of_lt tl (by decide)
        · rw [upd_ne (fun q2 => by rw [q2, hl0] at q; cases q)]
          exact s5 _ _ (s4 b o q)
        · rw [upd_ne pl]
          exact s5 _ _ p4
        · rw [upd_same, en, List.map_append]
          rfl
      walk_at "rd"
      refine ⟨by show 0 ≤ sizeLine; decide, fun n0 hn0 => ?_⟩
      generalize hH : upd _ n0 _ = H5
      obtain ⟨s5, d5⟩ := new_of (o' := .lst []) hH hn0 rfl
      clear hH
      refine eq_nil (s5 _ _ l4) d5 ?_
      cases hu : uqs (ms.take i) with
      | nil =>
        rw [hu] at nx addIt
        rw [if_neg (by intro q; cases q)] at nx
        walk_at "rd"
        refine ⟨.inl ⟨rfl, _, SqL.of (s5 _ _ l4)⟩, ?_⟩
        walk_at "rd"
        obtain ⟨acc, h1, h2, h3⟩ := addIt nx H5 s5
        exact ⟨_, _, _, rfl, rfl, h1, h2, h3⟩
      | cons u us =>
        obtain ⟨m, hm⟩ : ∃ m, (uqs (ms.take i)).getLast? = some m := by
          cases q : (uqs (ms.take i)).getLast? with
          | none => rw [List.getLast?_eq_none_iff.mp q] at hu; cases hu
          | some m => exact ⟨m, rfl⟩
        walk_at "rd"
        refine ⟨_, _, _, _, rfl, rfl, SqL.of (s5 _ _ l4), last_int hm, ?_⟩
        walk_at "rd"
        by_cases e : m = z
        · subst e
          rw [if_pos hm] at nx
          rw [decide_eq_true (show V.int m = V.int m from rfl)]
          walk_at "rd"
          exact ⟨s4.trans s5, s5 _ _ p4, by rw [nx]; exact s5 _ _ l4⟩
        · rw [if_neg (by rw [hm]; exact fun q => e (Option.some.inj q))] at nx
          rw [decide_eq_false (show ¬ V.int m = V.int z from fun q => e (by injection q))]
          walk_at "rd"
          refine ⟨.inl ⟨rfl, _, SqL.of (s5 _ _ l4)⟩, ?_⟩
          walk_at "rd"
          obtain ⟨acc, h1, h2, h3⟩ := addIt nx H5 s5
          exact ⟨_, _, _, rfl, rfl, h1, h2, h3⟩
    · rintro σ H4 ⟨v2, rfl, s4, p4, l4⟩
      rw [List.length_map, List.take_length] at l4
      walk_at "rd"
      exact k l H4 s4 hl0 l4
--SPLIT
/-! ### same_shape -/
def shiftsL (xs : List Int) (e : Int) (ys : List Int) (f : Int) : List Int := (xs.zip ys).map fun p => p.2 / f - p.1 / e
def ShapeP (xs : List Int) (e : Int) (ys : List Int) (f : Int) : Prop := ranksL xs e = ranksL ys f ∧ ∀ d ∈ shiftsL xs e ys f, ∀ d' ∈ shiftsL xs e ys f, d = d'
theorem eqvI (a b : Int) : PyData.eqv (.int a) (.int b) = true ↔ a = b := by rw [PyData.eqv]; exact beq_iff_eq
theorem eqvB (a b : Bool) : PyData.eqv (.bool a) (.bool b) = true ↔ a = b := by rw [PyData.eqv]; exact beq_iff_eq
theorem eqvAl {α : Type} {g : α → PyData} (hg : ∀ a b, PyData.eqv (g a) (g b) = true ↔ a = b) : ∀ xs ys : List α, PyData.eqvAll (xs.map g) (ys.map g) = true ↔ xs = ys
  | [], [] => by simp [PyData.eqvAll]
  | [], _ :: _ => by simp [PyData.eqvAll]
  | _ :: _, [] => by simp [PyData.eqvAll]
  | a :: r, b :: t => by
    have ih := eqvAl hg r t
    rw [List.map_cons, List.map_cons, PyData.eqvAll, Bool.and_eq_true, hg, ih, List.cons.injEq]
theorem eqvLs {α : Type} {g : α → PyData} (hg : ∀ a b, PyData.eqv (g a) (g b) = true ↔ a = b) (xs ys : List α) : PyData.eqv (.list (xs.map g)) (.list (ys.map g)) = true ↔ xs = ys := by
  rw [PyData.eqv]
  exact eqvAl hg xs ys
theorem few_iff {ks l : List Int} (nd : ks.Nodup) (hm : ∀ k, k ∈ l ↔ k ∈ ks) : ((ks.length : Nat) : Int) ≤ 1 ↔ ∀ d ∈ l, ∀ d' ∈ l, d = d' := by
  cases ks with
  | nil => exact ⟨fun _ d hd => absurd ((hm d).mp hd) List.not_mem_nil, fun _ => by decide⟩
  | cons a r =>
    cases r with
    | nil =>
      refine ⟨fun _ d hd d' hd' => ?_, fun _ => by show ((1 : Nat) : Int) ≤ 1; decide⟩
      rw [List.mem_singleton.mp ((hm d).mp hd), List.mem_singleton.mp ((hm d').mp hd')]
    | cons b t =>
      refine ⟨fun h => absurd h (by rw [List.length_cons, List.length_cons]; omega), fun h => ?_⟩
      have e := h a ((hm a).mpr List.mem_cons_self) b ((hm b).mpr (List.mem_cons_of_mem _ List.mem_cons_self))
      exact absurd (e ▸ List.mem_cons_self) (List.nodup_cons.mp nd).1
def spShape : Sp := fun vs H Q _ => ∃ (a b : Addr) (xs ys : List Int) (e f : Int), vs = [.ref a, .int e, .ref b, .int f] ∧ LT H a (xs.map V.int) ∧ LT H b (ys.map V.int) ∧ xs.length < 60 ∧ ys.length < 60 ∧ (∀ x ∈ xs, -big < x ∧ x < big) ∧ (∀ x ∈ ys, -big < x ∧ x < big) ∧ 1 ≤ e ∧ e ≤ 3000000 ∧ 1 ≤ f ∧ f ≤ 3000000 ∧
  ∀ (v : Bool) (H' : Hp), (v = true ↔ ShapeP xs e ys f) → Same H H' → Q (.bl v) H'
theorem ok_same_shape (T : Txt K mg) : FnOk P w K mg base CX0 4 T.f_same_shape T.d_same_shape ["row", "tolerance", "other", "other_tolerance"] spShape := by
  refine T.F_same_shape.ok sc_same_shape (fun vs H Q E h => ?_) (fun cdv A outer s H vs Q E hr h => ?_)
  · obtain ⟨a, b, xs, ys, e, f, rfl, _⟩ := h
    rfl
  · obtain ⟨a, b, xs, ys, e, f, rfl, hA, hB, la, lb, ba, bb, e1, e2, f1, f2, k⟩ := h
    refine ⟨_, (pss_cons (ps_expr (pe_call (ok_check_row T) (hr.mono (by decide)) (by rfl) T.m_check_row T.F_check_row.kp T.b_check_row .nil pass0 (pa_cons (pv 0) pa_nil)))
      (pss_cons (ps_expr (pe_call (ok_check_tolerance T) (hr.mono (by decide)) (by rfl) T.m_check_tolerance T.F_check_tolerance.kp T.b_check_tolerance .nil pass0 (pa_cons (pv 1) pa_nil)))
      (pss_cons (ps_expr (pe_call (ok_check_row T) (hr.mono (by decide)) (by rfl) T.m_check_row T.F_check_row.kp T.b_check_row .nil pass0 (pa_cons (pv 2) pa_nil)))
      (pss_cons (ps_expr (pe_call (ok_check_tolerance T) (hr.mono (by decide)) (by rfl) T.m_check_tolerance T.F_check_tolerance.kp T.b_check_tolerance .nil pass0 (pa_cons (pv 3) pa_nil)))
      (pss_cons (ps_asg (pe_call (ok_cells_and_ranks T) (hr.mono (by decide)) (by rfl) T.m_cells_and_ranks T.F_cells_and_ranks.kp T.b_cells_and_ranks .nil pass0 (pa_cons (pv 0) (pa_cons (pv 1) pa_nil))) (pg_tup (by rfl) (pgs_cons (pg_name (i := 4) sc_same_shape.nd rfl (Or.inl rfl)) (pgs_cons (pg_name (i := 5) sc_same_shape.nd rfl (Or.inl rfl)) (pgs_cons (pg_name (i := 6) sc_same_shape.nd rfl (Or.inl rfl)) pgs_nil)))))
      (pss_cons (ps_asg (pe_call (ok_cells_and_ranks T) (hr.mono (by decide)) (by rfl) T.m_cells_and_ranks T.F_cells_and_ranks.kp T.b_cells_and_ranks .nil pass0 (pa_cons (pv 2) (pa_cons (pv 3) pa_nil))) (pg_tup (by rfl) (pgs_cons (pg_name (i := 7) sc_same_shape.nd rfl (Or.inl rfl)) (pgs_cons (pg_name (i := 8) sc_same_shape.nd rfl (Or.inl rfl)) (pgs_cons (pg_name (i := 6) sc_same_shape.nd rfl (Or.inl rfl)) pgs_nil)))))
      (pss_cons (ps_if (pt_cmpR (op_neD hr.units) (pv 5) (pv 8) (nomark _))
      (pss_one (ps_ret pe_bl))
      pss_nil)
      (pss_cons (ps_setLc (i := 9) (own := [("cell", 10), ("other_cell", 11)]) (by rfl) sc_same_shape.nd rfl rfl (sw_true rfl rfl rfl (by decide +kernel)) (pi_zip (by rfl) T.m_zip (pa_cons (pv 4) (pa_cons (pv 7) pa_nil))) (blkOk_by (own := [("cell", 10), ("other_cell", 11)]) (N := ["row", "tolerance", "other", "other_tolerance", "cells", "ranks", "_", "other_cells", "other_ranks", "shifts", "cell", "other_cell"]) (sc := defScope s_same_shape) (by decide +kernel)) (fun _ _ _ _ _ => (show PG _ _ (gTup K 2 _) from (pg_tup (by rfl) (pgs_cons (pg_name (i := 10) sc_same_shape.nd rfl (Or.inl rfl)) (pgs_cons (pg_name (i := 11) sc_same_shape.nd rfl (Or.inl rfl)) pgs_nil))))) (fun _ _ _ _ _ => pts_nil) (fun _ _ _ _ _ => (pe_op op_sub (pv 11) (pv 10))))
      (pss_one (ps_ret (pe_cmpR op_le (pe_callB call_lenSet (by rfl) T.m_len (by decide +kernel) (pa_cons (pe_callTy (cr_setI rfl) (by rfl) T.m_set (by decide +kernel) (pa_cons (pv 9) pa_nil)) pa_nil)) pe_int (nomark _)))))))))))), ?_⟩
    walk_at "rd"
    refine ⟨a, xs, rfl, hA, by omega, ba, fun H1 s1 => ?_⟩
    walk_at "rd"
    refine ⟨e1, by unfold big; omega, ?_⟩
    walk_at "rd"
    refine ⟨b, ys, rfl, hB.same s1, by omega, bb, fun H2 s2 => ?_⟩
    walk_at "rd"
    refine ⟨f1, by unfold big; omega, ?_⟩
    have s02 := s1.trans s2
    walk_at "rd"
    refine ⟨a, xs, e, rfl, hA.same s02, la, e1, e2, fun t c r H3 s3 dt dc dr => ?_⟩
    refine ⟨_, _, rfl, SqT.of dt, rfl, ?_⟩
    walk_at "rd"
    refine ⟨b, ys, f, rfl, (hB.same s02).same s3, lb, f1, f2, fun t2 c2 r2 H4 s4 dt2 dc2 dr2 => ?_⟩
    refine ⟨_, _, rfl, SqT.of dt2, rfl, ?_⟩
    have dc4 := s4 _ _ dc
    have dr4 := s4 _ _ dr
    have s04 := (s02.trans s3).trans s4
    clear dt dt2 dc dr s1 s2 s3 s4 s02
    walk_at "rd"
    refine ⟨_, _, .lst (SqL.of dr4) (at_int.all _), .lst (SqL.of dr2) (at_int.all _), at_int.shL (lay_int _), at_int.shL (lay_int _), ?_⟩
    by_cases er : ranksL xs e = ranksL ys f
    · rw [(eqvLs eqvI _ _).mpr er]
      have ll : xs.length = ys.length := by
        have := congrArg List.length er
        unfold ranksL at this
        rwa [List.length_map, List.length_map] at this
      walk_at "rd"
      refine ⟨_, _, _, _, rfl, SqL.of dc4, SqL.of dc2, fun D hD => ?_⟩
      refine lc_it (walk_zip (K := K) (n := xs.length) (by rw [List.length_map, List.length_map, List.length_map, List.length_map, ll, Nat.min_self])) (fun i H' => Same H4 H' ∧ H' D = some (.lst (((xs.zip ys).take i).map fun p => V.int (p.2 / f - p.1 / e)))) ⟨Same.new hD, upd_same⟩ (fun i H' _ z => ⟨SqL.of (z.1 _ _ dc4), SqL.of (z.1 _ _ dc2)⟩) ?_ ?_
      · rintro i v H5 H6 hi ⟨s5, d5⟩ ⟨u, x, y, rfl, hu, rfl, hx, hy⟩
        have hi2 : i < ys.length := by omega
        have ex := int2_at (f := fun x => x / e) (List.getElem?_eq_getElem hi) hx
        have ey := int2_at (f := fun x => x / f) (List.getElem?_eq_getElem hi2) hy
        subst ex ey
        have hz : (xs.zip ys)[i]? = some (xs[i], ys[i]) := by
          rw [List.getElem?_zip_eq_some]
          exact ⟨List.getElem?_eq_getElem hi, List.getElem?_eq_getElem hi2⟩
        refine ⟨_, _, rfl, SqT.of upd_same, rfl, ?_⟩
        walk_at "rd"
        have uD : u ≠ D := fun q => by rw [q, d5] at hu; cases hu
        refine ⟨_, by rw [upd_ne uD.symm]; exact d5, ?_, fun b o q => ?_, ?_⟩
        · rw [List.length_map, List.length_take, List.length_zip]
          exact Nat.lt_of_le_of_lt (by omega : _ ≤ 60) (by decide)
        · have q2 := s5 b o q
          rw [upd_ne (fun q3 => by rw [q3, hD] at q; cases q), upd_ne (fun q3 => by rw [q3, hu] at q2; cases q2)]
          exact q2
        · rw [upd_same, take_more hz, List.map_append]
          rfl
      rintro H5 ⟨s5, d5⟩
      have d5 : H5 D = some (.lst ((shiftsL xs e ys f).map V.int)) := by
        rw [d5, List.take_of_length_le (by rw [List.length_zip]; omega)]
        unfold shiftsL
        rw [List.map_map]
        rfl
      have sl : (shiftsL xs e ys f).length < 60 := by
        unfold shiftsL
        rw [List.length_map, List.length_zip]
        omega
      walk_at "rd"
      refine ⟨D, shiftsL xs e ys f, rfl, SqL.of d5, by omega, fun p n hp hn => ?_⟩
      refine ⟨p, _, n, rfl, upd_same, by omega, fun ks nd hm => ?_⟩
      have key := few_iff nd fun k => (decide_eq_true_iff (p := k ∈ shiftsL xs e ys f)).symm.trans (hm k)
      walk_at "rd"
      refine k _ _ ?_ ((s04.trans s5).trans (Same.new hp))
      rw [decide_eq_true_iff]
      exact ⟨fun h => ⟨er, key.mp h⟩, fun h => key.mpr h.2⟩
    · rw [Bool.eq_false_iff.mpr (fun z => er ((eqvLs eqvI _ _).mp z))]
      walk_at "rd"
      exact k false _ ⟨(fun h => nomatch h), fun h => absurd h.1 er⟩ s04
--SPLIT
/-! ### all rests, and the ranked row among them -/
def allR (w : Nat) : Nat → List (List Int)
  | 0 => [[]]
  | n + 1 => (allR w n).flatMap fun rs => (upTo w).map fun r => rs ++ [r]
theorem upTo_mem {w : Nat} {r : Int} : r ∈ upTo w ↔ 0 ≤ r ∧ r < (w : Nat) := by
  unfold upTo
  rw [List.mem_map]
  constructor
  · rintro ⟨i, hi, rfl⟩
    have := List.mem_range.mp hi
    omega
  · rintro ⟨h0, h1⟩
    exact ⟨r.toNat, List.mem_range.mpr (by omega), by omega⟩
theorem allR_mem {w : Nat} : ∀ {n : Nat} {rs : List Int}, rs ∈ allR w n ↔ rs.length = n ∧ ∀ r ∈ rs, 0 ≤ r ∧ r < (w : Nat)
  | 0, rs => by
    show rs ∈ [[]] ↔ _
    rw [List.mem_singleton]
    constructor
    · rintro rfl
      exact ⟨rfl, fun r hr => nomatch hr⟩
    · rintro ⟨h, _⟩
      exact List.length_eq_zero_iff.mp h
  | n + 1, rs => by
    show rs ∈ (allR w n).flatMap (fun rs => (upTo w).map fun r => rs ++ [r]) ↔ _
    rw [List.mem_flatMap]
    constructor
    · rintro ⟨qs, hq, hm⟩
      obtain ⟨r, hr, rfl⟩ := List.mem_map.mp hm
      obtain ⟨h1, h2⟩ := allR_mem.mp hq
      refine ⟨by rw [List.length_append, h1]; rfl, fun z hz => ?_⟩
      rcases List.mem_append.mp hz with q | q
      · exact h2 z q
      · rw [List.mem_singleton.mp q]
        exact upTo_mem.mp hr
    · rintro ⟨h1, h2⟩
      have ne : rs ≠ [] := fun q => by rw [q] at h1; cases h1
      refine ⟨rs.dropLast, allR_mem.mpr ⟨by rw [List.length_dropLast, h1]; rfl, fun z hz => h2 z ((List.dropLast_sublist rs).subset hz)⟩, ?_⟩
      refine List.mem_map.mpr ⟨rs.getLast ne, upTo_mem.mpr (h2 _ (List.getLast_mem ne)), List.dropLast_concat_getLast ne⟩
theorem allR_nd (w : Nat) : ∀ n, (allR w n).Nodup
  | 0 => by
    show [[]].Nodup
    simp
  | n + 1 => by
    show ((allR w n).flatMap fun rs => (upTo w).map fun r => rs ++ [r]).Pairwise (· ≠ ·)
    rw [List.pairwise_flatMap]
    refine ⟨fun rs _ => ?_, (allR_nd w n).imp fun {a b} ne x hx y hy => ?_⟩
    · rw [List.pairwise_map]
      exact (upTo_lt w).imp fun {a b} lt q => by
        have := (List.append_inj' q rfl).2
        simp at this
        omega
    · obtain ⟨r, _, rfl⟩ := List.mem_map.mp hx
      obtain ⟨s, _, rfl⟩ := List.mem_map.mp hy
      exact fun q => ne (List.append_inj' q rfl).1
theorem allR_len (w : Nat) : ∀ n, (allR w n).length = w ^ n
  | 0 => rfl
  | n + 1 => by
    show ((allR w n).flatMap fun rs => (upTo w).map fun r => rs ++ [r]).length = _
    rw [List.length_flatMap]
    have e : (allR w n).map (fun rs => ((upTo w).map fun r => rs ++ [r]).length) = List.replicate (w ^ n) w := by
      rw [← allR_len w n]
      refine List.eq_replicate_iff.mpr ⟨List.length_map _, fun b hb => ?_⟩
      obtain ⟨rs, _, rfl⟩ := List.mem_map.mp hb
      rw [List.length_map, upTo_len]
    rw [e, List.sum_replicate_nat, Nat.pow_succ]
/-- the row with the cells of xs and these rests -/
def mkR (xs : List Int) (e : Int) (w : Int) (rs : List Int) : List Int := (xs.zip rs).map fun p => p.1 / e * w + p.2
theorem mkR_len {xs rs : List Int} {e w : Int} (h : rs.length = xs.length) : (mkR xs e w rs).length = xs.length := by
  unfold mkR
  rw [List.length_map, List.length_zip, h, Nat.min_self]
theorem mkR_at {xs rs : List Int} {e w x r : Int} {k : Nat} (h1 : xs[k]? = some x) (h2 : rs[k]? = some r) : (mkR xs e w rs)[k]? = some (x / e * w + r) := by
  unfold mkR
  rw [List.getElem?_map, (List.getElem?_zip_eq_some.mpr ⟨h1, h2⟩ : (xs.zip rs)[k]? = some (x, r))]
  rfl
theorem put_parts {a r w : Int} (h0 : 0 ≤ r) (h1 : r < w) : (a * w + r) / w = a ∧ (a * w + r) % w = r := by
  have e1 : (a * w + r) / w = a := by
    rw [Int.add_comm, Int.add_mul_ediv_right _ _ (by omega), Int.ediv_eq_zero_of_lt h0 h1, Int.zero_add]
  have e2 : (a * w + r) % w = r := by
    rw [Int.add_comm, Int.add_mul_emod_self_right, Int.emod_eq_of_lt h0 h1]
  exact ⟨e1, e2⟩
theorem mkR_rests {xs rs : List Int} {e w : Int} (hl : rs.length = xs.length) (hb : ∀ r ∈ rs, 0 ≤ r ∧ r < w) : restsL (mkR xs e w rs) w = rs := by
  refine List.ext_getElem? fun k => ?_
  unfold restsL
  rw [List.getElem?_map]
  cases hr : rs[k]? with
  | none =>
    have : rs.length ≤ k := List.getElem?_eq_none_iff.mp hr
    rw [List.getElem?_eq_none_iff.mpr (by rw [mkR_len hl]; omega)]
    rfl
  | some r =>
    have hk : k < xs.length := by have := (List.getElem?_eq_some_iff.mp hr).1; omega
    have b := hb r (List.mem_of_getElem? hr)
    rw [mkR_at (List.getElem?_eq_getElem hk) hr]
    exact congrArg some (put_parts b.1 b.2).2
theorem mkR_inj {xs rs qs : List Int} {e w : Int} (h1 : rs.length = xs.length) (h2 : qs.length = xs.length) (b1 : ∀ r ∈ rs, 0 ≤ r ∧ r < w) (b2 : ∀ r ∈ qs, 0 ≤ r ∧ r < w) (h : mkR xs e w rs = mkR xs e w qs) : rs = qs := by
  rw [← mkR_rests (xs := xs) (e := e) h1 b1, h, mkR_rests h2 b2]
theorem ranked_mk (xs : List Int) (e : Int) : rankedL xs e = mkR xs e (wideOf xs e) (ranksL xs e) := by
  refine List.ext_getElem? fun k => ?_
  cases hx : xs[k]? with
  | none =>
    have h := List.getElem?_eq_none_iff.mp hx
    rw [List.getElem?_eq_none_iff.mpr (by unfold rankedL; rw [List.length_map]; exact h), List.getElem?_eq_none_iff.mpr (by rw [mkR_len (by unfold ranksL; rw [List.length_map])]; exact h)]
  | some x =>
    rw [mkR_at hx (show (ranksL xs e)[k]? = some ((rkOf xs e x : Nat) : Int) by unfold ranksL; rw [List.getElem?_map, hx]; rfl)]
    unfold rankedL
    rw [List.getElem?_map, hx]
    rfl
theorem ranks_in (xs : List Int) (e : Int) : ∀ r ∈ ranksL xs e, 0 ≤ r ∧ r < wideOf xs e := fun r hr => by
  obtain ⟨x, hx, rfl⟩ := List.mem_map.mp hr
  have h1 := rk_lt (e := e) hx
  have h2 := wide_many (many_pos (e := e) hx)
  show 0 ≤ ((rkOf xs e x : Nat) : Int) ∧ ((rkOf xs e x : Nat) : Int) < wideOf xs e
  omega
theorem ranks_len (xs : List Int) (e : Int) : (ranksL xs e).length = xs.length := by
  unfold ranksL
  rw [List.length_map]
/-- the ranks of rests alone -/
def rkL (rs : List Int) : List Int := rs.map fun r => (((uqs rs).idxOf r : Nat) : Int)
theorem ranks_rests (xs : List Int) (e : Int) : ranksL xs e = rkL (restsL xs e) := by
  unfold ranksL rkL
  show _ = List.map _ (List.map _ xs)
  rw [List.map_map]
  rfl
theorem uqs_many {xs ys : List Int} {e f : Int} (h : ranksL xs e = ranksL ys f) : manyOf xs e = manyOf ys f := by
  have h1 := uqs_ranks xs e
  rw [h, uqs_ranks] at h1
  have h2 := congrArg List.length h1
  rw [upTo_len, upTo_len] at h2
  exact h2.symm
theorem lt_few {w : Int} : ∀ {l : List Int} {lo : Int}, l.Pairwise (· < ·) → (∀ r ∈ l, lo ≤ r ∧ r < w) → ((l.length : Nat) : Int) ≤ w - lo ∨ l = []
  | [], _, _, _ => .inr rfl
  | a :: r, lo, h, hb => by
    obtain ⟨h1, h2⟩ := List.pairwise_cons.mp h
    have ba := hb a List.mem_cons_self
    rcases lt_few (l := r) (lo := a + 1) h2 fun z hz => ⟨h1 z hz, (hb z (List.mem_cons_of_mem _ hz)).2⟩ with q | q
    · left
      rw [List.length_cons]
      omega
    · left
      subst q
      show ((1 : Nat) : Int) ≤ w - lo
      omega
theorem shape_wide {xs rs : List Int} {e w : Int} (hl : rs.length = xs.length) (hb : ∀ r ∈ rs, 0 ≤ r ∧ r < w) (w1 : 1 ≤ w) (h : ranksL xs e = ranksL (mkR xs e w rs) w) : wideOf xs e ≤ w := by
  have hm := uqs_many h
  have e1 : manyOf (mkR xs e w rs) w = (uqs rs).length := by
    show (uqs (restsL (mkR xs e w rs) w)).length = _
    rw [mkR_rests hl hb]
  have h2 := lt_few (l := uqs rs) (lo := 0) (w := w) (uqs_lt rs) fun r hr => hb r (uqs_mem.mp hr)
  unfold wideOf
  rcases h2 with q | q
  · split <;> omega
  · rw [q] at e1
    have e1 : manyOf (mkR xs e w rs) w = 0 := e1
    split <;> omega
theorem shape_ranked {xs rs : List Int} {e : Int} {w : Nat} (hl : rs.length = xs.length) (hb : ∀ r ∈ rs, 0 ≤ r ∧ r < (w : Nat)) (w1 : 1 ≤ w) (h : ranksL xs e = ranksL (mkR xs e w rs) w) (hu : uqs rs = upTo w) : rs = ranksL xs e ∧ ((w : Nat) : Int) = wideOf xs e := by
  have h' := h
  rw [ranks_rests (mkR xs e w rs) w, mkR_rests hl hb] at h'
  have e1 : rkL rs = rs := by
    unfold rkL
    rw [hu]
    conv => rhs; rw [← List.map_id rs]
    refine List.map_congr_left fun r hr => ?_
    have b := hb r hr
    have q : (upTo w)[r.toNat]? = some r := by
      rw [upTo_at (by omega)]
      congr 1
      omega
    rw [idx_of (lt_nodup (upTo_lt w)) q]
    show ((r.toNat : Nat) : Int) = r
    omega
  refine ⟨(h'.trans e1).symm, ?_⟩
  have hm := uqs_many h
  have e2 : manyOf (mkR xs e w rs) w = w := by
    show (uqs (restsL (mkR xs e w rs) w)).length = _
    rw [mkR_rests hl hb, hu, upTo_len]
  rw [wide_many (by omega)]
  omega
theorem shape_mk {xs rs : List Int} {e w : Int} (hl : rs.length = xs.length) (hb : ∀ r ∈ rs, 0 ≤ r ∧ r < w) : ShapeP xs e (mkR xs e w rs) w ↔ ranksL xs e = ranksL (mkR xs e w rs) w := by
  refine ⟨And.left, fun h => ⟨h, ?_⟩⟩
  have zero : ∀ d ∈ shiftsL xs e (mkR xs e w rs) w, d = 0 := fun d hd => by
    obtain ⟨p, hp, rfl⟩ := List.mem_map.mp hd
    obtain ⟨k, hk⟩ := List.getElem?_of_mem hp
    obtain ⟨h1, h2⟩ := List.getElem?_zip_eq_some.mp hk
    have hk' : k < rs.length := by have := (List.getElem?_eq_some_iff.mp h1).1; omega
    have hr := List.getElem?_eq_getElem hk'
    rw [mkR_at h1 hr] at h2
    have b := hb _ (List.mem_of_getElem? hr)
    have h2 := (Option.some.inj h2).symm
    show p.2 / w - p.1 / e = 0
    rw [h2, (put_parts b.1 b.2).1]
    omega
  exact fun d hd d' hd' => by rw [zero d hd, zero d' hd']
theorem ranked_shape (xs : List Int) (e : Int) : ranksL xs e = ranksL (rankedL xs e) (wideOf xs e) := by
  rw [ranks_rests (rankedL xs e), ranked_rests]
  unfold rkL
  rw [uqs_ranks]
  conv => lhs; rw [← List.map_id (ranksL xs e)]
  refine List.map_congr_left fun r hr => ?_
  obtain ⟨x, hx, rfl⟩ := List.mem_map.mp hr
  have h := rk_lt (e := e) hx
  rw [idx_of (lt_nodup (upTo_lt _)) (upTo_at h)]
  rfl
/-- how often the ranked row is among the first so many -/
def Cand := List Int × Nat
instance : DecidableEq Cand := inferInstanceAs (DecidableEq (List Int × Nat))
theorem first_at {α : Type} {t : α} : ∀ {l : List α}, t ∈ l → ∃ j : Nat, l[j]? = some t ∧ ∀ m : Nat, m < j → l[m]? ≠ some t
  | a :: l, h => by
    by_cases e : a = t
    · exact ⟨0, by rw [e]; rfl, fun m hm => absurd hm (Nat.not_lt_zero _)⟩
    · obtain ⟨j, h1, h2⟩ := first_at ((List.mem_cons.mp h).resolve_left fun q => e q.symm)
      refine ⟨j + 1, h1, fun m hm => ?_⟩
      cases m with
      | zero => exact fun q => e (Option.some.inj q)
      | succ m => exact h2 m (by omega)
/-! ### _law_all_rests, _law_is_ranked -/
theorem upI (n : Nat) : rgV 0 ((n : Nat) : Int) = (upTo n).map V.int := by
  unfold rgV upTo
  rw [List.map_map, show (((n : Nat) : Int) - 0).toNat = n by omega]
  refine List.map_congr_left fun i _ => ?_
  show V.int (0 + (i : Nat)) = V.int (i : Nat)
  rw [Int.zero_add]
/-- lists of numbers, none of which stands at an address of av -/
def RowsX (av : List Addr) (H : Hp) (vs : List V) (rss : List (List Int)) : Prop := vs.length = rss.length ∧ ∀ (i : Nat) (v : V), vs[i]? = some v → ∃ (rs : List Int) (a : Addr), rss[i]? = some rs ∧ v = V.ref a ∧ a ∉ av ∧ H a = some (.lst (rs.map V.int))
theorem RowsX.nil (av : List Addr) (H : Hp) : RowsX av H [] [] := ⟨rfl, fun i v h => by simp at h⟩
theorem RowsX.same {av : List Addr} {H H' : Hp} {vs : List V} {rss : List (List Int)} (h : RowsX av H vs rss) (s : Same H H') : RowsX av H' vs rss := ⟨h.1, fun i v hv => by
  obtain ⟨rs, a, h1, h2, h3, h4⟩ := h.2 i v hv
  exact ⟨rs, a, h1, h2, h3, s _ _ h4⟩⟩
theorem RowsX.chg {av : List Addr} {D : Addr} {H H' : Hp} {vs : List V} {rss : List (List Int)} (h : RowsX av H vs rss) (hD : D ∈ av) (u : But D H H') : RowsX av H' vs rss := ⟨h.1, fun i v hv => by
  obtain ⟨rs, a, h1, h2, h3, h4⟩ := h.2 i v hv
  exact ⟨rs, a, h1, h2, h3, u _ _ (fun z => h3 (z ▸ hD)) h4⟩⟩
theorem RowsX.mono {av av' : List Addr} {H : Hp} {vs : List V} {rss : List (List Int)} (h : RowsX av H vs rss) (s : ∀ a ∈ av', a ∈ av) : RowsX av' H vs rss := ⟨h.1, fun i v hv => by
  obtain ⟨rs, a, h1, h2, h3, h4⟩ := h.2 i v hv
  exact ⟨rs, a, h1, h2, fun z => h3 (s _ z), h4⟩⟩
theorem RowsX.app {av : List Addr} {H : Hp} {vs us : List V} {rss qss : List (List Int)} (h : RowsX av H vs rss) (k : RowsX av H us qss) : RowsX av H (vs ++ us) (rss ++ qss) := ⟨by rw [List.length_append, List.length_append, h.1, k.1], fun i v hv => by
  have hl := h.1
  by_cases q : i < vs.length
  · rw [List.getElem?_append_left q] at hv
    obtain ⟨rs, a, h1, h2⟩ := h.2 i v hv
    exact ⟨rs, a, by rw [List.getElem?_append_left (by omega)]; exact h1, h2⟩
  · rw [List.getElem?_append_right (by omega)] at hv
    obtain ⟨rs, a, h1, h2⟩ := k.2 _ v hv
    exact ⟨rs, a, by rw [List.getElem?_append_right (by omega), ← hl]; exact h1, h2⟩⟩
theorem RowsX.one {av : List Addr} {H : Hp} {a : Addr} {rs : List Int} (h : a ∉ av) (k : H a = some (.lst (rs.map V.int))) : RowsX av H [.ref a] [rs] := ⟨rfl, fun i v hv => by
  match i, hv with
  | 0, hv =>
    cases Option.some.inj hv
    exact ⟨rs, a, rfl, rfl, h, k⟩⟩
def spAll : Sp := fun vs H Q _ => ∃ (n w : Nat) (av : List Addr), vs = [.int (n : Nat), .int (w : Nat)] ∧ n ≤ 4 ∧ w ≤ 4 ∧ (∀ a ∈ av, ∃ o, H a = some o) ∧
  ∀ (l : Addr) (us : List V) (H' : Hp), Same H H' → H' l = some (.lst us) → l ∉ av → RowsX av H' us (allR w n) → Q (.ref l) H'
theorem allR_few {w n : Nat} (hn : n ≤ 4) (hw : w ≤ 4) : (allR w n).length ≤ 256 := by
  rw [allR_len]
  calc w ^ n ≤ 4 ^ n := Nat.pow_le_pow_left hw n
    _ ≤ 4 ^ 4 := Nat.pow_le_pow_right (by decide) hn
    _ = 256 := by decide
theorem ok_law_all_rests (T : Txt K mg) : FnOk P w K mg base CX0 1 T.f_law_all_rests T.d_law_all_rests ["_law_many", "_law_width"] spAll := by
  refine T.F_law_all_rests.ok sc_law_all_rests (fun vs H Q E h => ?_) (fun cdv A outer s H vs Q E hr h => ?_)
  · obtain ⟨n, w, av, rfl, _⟩ := h
    rfl
  · obtain ⟨n, w', av, rfl, hn, hw, hav, k⟩ := h
    refine ⟨_, (pss_cons (ps_set (i := 2) sc_law_all_rests.nd rfl (Or.inl rfl) (pe_lst (pa_cons (pe_lst pa_nil) pa_nil)))
      (pss_cons (ps_for PassesOwn.never rfl (pi_range1 (by rfl) T.m_range (pa_cons (pv 0) pa_nil)) (pg_name (i := 3) sc_law_all_rests.nd rfl (Or.inl rfl))
      (pss_cons (ps_set (i := 4) sc_law_all_rests.nd rfl (Or.inl rfl) (pe_lst pa_nil))
      (pss_cons (ps_for PassesOwn.never rfl (pi_list (pv 2)) (pg_name (i := 5) sc_law_all_rests.nd rfl (Or.inr rfl))
      (pss_one (ps_expr (pe_bm PySem.F.plainAttrs_list PySem.F.slot_list_extend PySem.F.type_list_extend mt_extend (pv 4) (pa_cons (pe_lc (own := [("_law_rest", 6)]) (by rfl) sc_law_all_rests.nd (pi_range1 (by rfl) T.m_range (pa_cons (pv 1) pa_nil)) (blkOk_by (own := [("_law_rest", 6)]) (N := ["_law_many", "_law_width", "_law_found", "_law_k", "_law_longer", "_law_rests", "_law_rest"]) (sc := defScope s_law_all_rests) (by decide +kernel)) (fun _ _ _ _ _ => (pg_name (i := 6) sc_law_all_rests.nd rfl (Or.inl rfl))) (fun _ _ _ _ _ => pts_nil) (fun _ _ _ _ _ => (pe_op op_cat (pv 5) (pe_lst (pa_cons (pv 6) pa_nil))))) pa_nil)))))
      (pss_one (ps_set (i := 2) sc_law_all_rests.nd rfl (Or.inl rfl) (pv 4))))))
      (pss_one (ps_ret (pv 2))))), ?_⟩
    have out : ∀ {H' : Hp} {b : Addr}, Same H H' → H' b = none → b ∉ av := fun s hb m => by
      obtain ⟨o, ho⟩ := hav _ m
      rw [s _ _ ho] at hb
      cases hb
    refine ⟨by show 0 ≤ sizeLine; decide, fun a0 h0 => ?_⟩
    generalize hH : upd _ a0 _ = H1
    obtain ⟨s1, d1⟩ := new_of (o' := .lst (([] : List Int).map V.int)) hH h0 rfl
    clear hH
    refine ⟨by show 1 ≤ sizeLine; decide, fun F0 hF => ?_⟩
    generalize hH : upd _ F0 _ = H2
    obtain ⟨s2, d2⟩ := new_of (o' := .lst [.ref a0]) hH hF rfl
    clear hH
    have s02 := s1.trans s2
    have rw0 : RowsX av H2 [.ref a0] (allR w' 0) := RowsX.one (rs := []) (out (Same.refl _) h0) (s2 _ _ d1)
    have F0v : F0 ∉ av := out s1 hF
    walk_at "rd"
    refine ⟨by omega, by omega, ?_⟩
    refine for_range (lo := 0) (n := (n : Int).toNat) (fun i σ H' => ∃ (F : Addr) (us : List V) (v3 v4 v5 : Option V), σ = [some (.int (n : Nat)), some (.int (w' : Nat)), some (.ref F), v3, v4, v5, none] ∧ Same H H' ∧ H' F = some (.lst us) ∧ F ∉ av ∧ RowsX av H' us (allR w' i))
      ⟨F0, [.ref a0], none, none, none, rfl, s02, d2, F0v, rw0⟩ ?_ ?_
    · rintro i σ H3 hi ⟨F, us, v3, v4, v5, rfl, s3, dF, Fv, hus⟩
      have ulen : us.length ≤ 256 := by rw [hus.1]; exact allR_few (by omega) hw
      walk_at "rd"
      refine ⟨by show 0 ≤ sizeLine; decide, fun G hG => ?_⟩
      generalize hH : upd _ G _ = H4
      obtain ⟨s4, d4⟩ := new_of (o' := .lst []) hH hG rfl
      clear hH
      have dF4 := s4 _ _ dF
      walk_at "rd"
      refine ⟨⟨_, SqL.of dF4⟩, for_list (K := K) (a := F) (xs := us) (fun j σ H' => ∃ (gs : List V) (v5 : Option V), σ = [some (.int (n : Nat)), some (.int (w' : Nat)), some (.ref F), some (.int (0 + (i : Nat))), some (.ref G), v5, none] ∧ Same H3 H' ∧ H' G = some (.lst gs) ∧ gs.length = j * w' ∧ RowsX (G :: av) H' gs (((allR w' i).take j).flatMap fun rs => (upTo w').map fun r => rs ++ [r]))
        ⟨[], v5, rfl, s4, d4, by rw [Nat.zero_mul]; rfl, RowsX.nil _ _⟩ (fun j σ H' _ ⟨_, _, _, z, _⟩ => SqL.of (z _ _ dF)) ?_ ?_⟩
      · rintro j x σ H5 hx ⟨gs, v5, rfl, s5, d5, gl, hgs⟩
        have hj : j < us.length := (List.getElem?_eq_some_iff.mp hx).1
        obtain ⟨rs, ra, hrs, rfl, _, dra⟩ := hus.2 j x hx
        have ra5 := s5 _ _ dra
        have rsl : rs.length ≤ 4 := by
          have := (allR_mem.mp (List.mem_of_getElem? hrs)).1
          omega
        have glen : gs.length ≤ 1024 := by
          rw [gl]
          exact Nat.le_trans (Nat.mul_le_mul (show j ≤ 256 by omega) hw) (by decide)
        walk_at "rd"
        refine ⟨.inl ⟨rfl, _, SqL.of d5⟩, ?_⟩
        walk_at "rd"
        refine ⟨by omega, by omega, fun D hD => ?_⟩
        have GD : G ≠ D := ne_of_none d5 hD
        refine lc_range (lo := 0) (n := (w' : Int).toNat) (fun m H' => ∃ es : List V, Same H5 H' ∧ H' D = some (.lst es) ∧ RowsX (D :: G :: av) H' es (((upTo w').take m).map fun r => rs ++ [r])) ⟨[], Same.new hD, upd_same, RowsX.nil _ _⟩ ?_ ?_
        · rintro m H6 hm ⟨es, s6, d6, hes⟩
          have hm' : m < w' := by omega
          have el : es.length = m := by
            rw [hes.1, List.length_map, List.length_take, upTo_len]
            omega
          refine ⟨rfl, ?_⟩
          walk_at "rd"
          refine ⟨by show 1 ≤ sizeLine; decide, fun c1 hc1 => ?_⟩
          generalize hH : upd _ c1 _ = H7
          obtain ⟨s7, d7⟩ := new_of (o' := .lst (([(m : Int)] : List Int).map V.int)) hH hc1 (by show HO.lst [V.int (0 + (m : Nat))] = HO.lst [V.int (m : Nat)]; rw [Int.zero_add])
          clear hH
          refine ⟨_, _, _, _, rfl, rfl, s7 _ _ (s6 _ _ ra5), d7, by rw [List.length_map, List.length_map]; exact Nat.le_trans (by show rs.length + 1 ≤ 60; omega) (by decide), fun c2 hc2 => ?_⟩
          generalize hH : upd _ c2 _ = H8
          obtain ⟨s8, d8⟩ := new_of (o' := .lst ((rs ++ [(m : Int)]).map V.int)) hH hc2 (by rw [List.map_append])
          clear hH
          have s68 := s7.trans s8
          have cD : c2 ≠ D := (ne_of_none (s7 _ _ d6) hc2).symm
          have cG : c2 ≠ G := (ne_of_none (s7 _ _ (s6 _ _ d5)) hc2).symm
          have cv : c2 ∉ av := out (((s3.trans s5).trans s6).trans s7) hc2
          refine ⟨es, s68 _ _ d6, by rw [el]; exact Nat.lt_of_lt_of_le hm' (Nat.le_trans hw (by decide)), es ++ [.ref c2], fun b o q => ?_, upd_same, ?_⟩
          · rw [upd_ne (fun q2 => by rw [q2, hD] at q; cases q)]
            exact s68 _ _ (s6 b o q)
          · rw [take_more (upTo_at hm'), List.map_append]
            exact ((hes.same s68).app (RowsX.one (by simp [cD, cG, cv]) d8)).chg List.mem_cons_self (But.refl D H8).upd
        rintro H6 ⟨es, s6, d6, hes⟩
        rw [show ((w' : Nat) : Int).toNat = w' by omega, List.take_of_length_le (by rw [upTo_len]; exact Nat.le_refl _)] at hes
        have el : es.length = w' := by rw [hes.1, List.length_map, upTo_len]
        have d56 := s6 _ _ d5
        walk_at "rd"
        refine ⟨_, _, _, _, rfl, rfl, d56, d6, Nat.le_trans (by omega : _ ≤ 2000) (by decide), ?_⟩
        generalize hH : upd _ G _ = H7
        obtain ⟨u7, d7⟩ := chg_of (o' := .lst (gs ++ es)) hH rfl
        clear hH
        refine ⟨gs ++ es, _, rfl, fun b o q => u7 _ _ (fun z => by rw [z, hG] at q; cases q) (s6 _ _ (s5 _ _ q)), d7, by rw [List.length_append, gl, el, Nat.succ_mul], ?_⟩
        rw [take_more hrs, List.flatMap_append]
        refine RowsX.chg ?_ List.mem_cons_self u7
        refine (hgs.same s6).app ?_
        have e1 : ([rs].flatMap fun rs => (upTo w').map fun r => rs ++ [r]) = (upTo w').map fun r => rs ++ [r] := by simp
        rw [e1]
        exact hes.mono fun a ha => List.mem_cons_of_mem _ ha
      · rintro σ H5 ⟨gs, v5, rfl, s5, d5, gl, hgs⟩
        rw [hus.1, List.take_length] at hgs
        walk_at "rd"
        exact ⟨_, _, _, _, _, rfl, s3.trans s5, d5, out s3 hG, hgs.mono fun a ha => List.mem_cons_of_mem _ ha⟩
    · rintro σ H3 ⟨F, us, v3, v4, v5, rfl, s3, dF, Fv, hus⟩
      rw [show ((n : Nat) : Int).toNat = n by omega] at hus
      walk_at "rd"
      exact k F us H3 s3 dF Fv hus
def spIsR : Sp := fun vs H Q _ => ∃ (a : Addr) (ys : List Int) (w : Nat), vs = [.ref a, .int (w : Nat)] ∧ H a = some (.lst (ys.map V.int)) ∧ ys.length < 60 ∧ 1 ≤ w ∧ w ≤ 60 ∧ ∀ H', Same H H' → Q (.bl (decide (uqs (restsL ys w) = upTo w))) H'
theorem ok_law_is_ranked (T : Txt K mg) : FnOk P w K mg base CX0 2 T.f_law_is_ranked T.d_law_is_ranked ["_law_row_here", "_law_width"] spIsR := by
  refine T.F_law_is_ranked.ok sc_law_is_ranked (fun vs H Q E h => ?_) (fun cdv A outer s H vs Q E hr h => ?_)
  · obtain ⟨a, ys, w', rfl, _⟩ := h
    rfl
  · obtain ⟨a, ys, w', rfl, hA, hl, w1, w2, k⟩ := h
    refine ⟨_, (pss_one (ps_ret (pe_cmpR (op_eqD hr.units) (pe_call (ok_law_unlike T) (hr.mono (by decide)) (by rfl) T.m_law_unlike T.F_law_unlike.kp T.b_law_unlike .nil pass0 (pa_cons (pe_lc (own := [("_law_x", 2)]) (by rfl) sc_law_is_ranked.nd (pi_list (pv 0)) (blkOk_by (own := [("_law_x", 2)]) (N := ["_law_row_here", "_law_width", "_law_x"]) (sc := defScope s_law_is_ranked) (by decide +kernel)) (fun _ _ _ _ _ => (pg_name (i := 2) sc_law_is_ranked.nd rfl (Or.inl rfl))) (fun _ _ _ _ _ => pts_nil) (fun _ _ _ _ _ => (pe_op op_mod (pv 2) (pv 1)))) pa_nil)) (pe_listRg rfl (by rfl) T.m_list (prg_1 (by rfl) T.m_range (pv 1))) (nomark _)))), ?_⟩
    walk_at "rd"
    refine ⟨⟨_, SqL.of hA⟩, fun D hD => ?_⟩
    refine lc_list (K := K) (a := a) (xs := ys.map V.int) (fun i H' => Same H H' ∧ H' D = some (.lst (((ys.take i).map fun x : Int => x % ((w' : Nat) : Int)).map V.int))) ⟨Same.new hD, upd_same⟩ (fun i H' _ z => SqL.of (z.1 _ _ hA)) ?_ ?_
    · rintro i x H6 hx ⟨s6, d6⟩
      obtain ⟨z, rfl, hz⟩ := int_at hx
      refine ⟨rfl, ?_⟩
      walk_at "rd"
      refine ⟨by omega, ?_⟩
      refine ⟨_, d6, ?_, fun b o q => ?_, ?_⟩
      · rw [List.length_map, List.length_map, List.length_take]
        exact Nat.lt_of_le_of_lt (by omega : _ ≤ 60) (by decide)
      · rw [upd_ne (fun q2 => by rw [q2, hD] at q; cases q)]
        exact s6 b o q
      · rw [upd_same, take_more hz, List.map_append, List.map_append]
        rfl
    rintro H1 ⟨s1, d1⟩
    rw [List.length_map, List.take_length] at d1
    refine ⟨D, restsL ys w', rfl, d1, by unfold restsL; rw [List.length_map]; omega, fun U H2 s2 hU dU => ?_⟩
    walk_at "rd"
    refine ⟨RgOk.of_le (by omega) (by omega) (by omega) (by omega), fun L hL => ?_⟩
    generalize hH : upd _ L _ = H3
    obtain ⟨s3, d3⟩ := new_of (o' := .lst ((upTo w').map V.int)) hH hL (by rw [upI])
    clear hH
    refine ⟨_, _, .lst (SqL.of (s3 _ _ dU)) (at_int.all _), .lst (SqL.of d3) (at_int.all _), at_int.shL (lay_int _), at_int.shL (lay_int _), ?_⟩
    have e : PyData.eqv (.list ((uqs (restsL ys w')).map PyData.int)) (.list ((upTo w').map PyData.int)) = decide (uqs (restsL ys w') = upTo w') := by
      rw [Bool.eq_iff_iff, decide_eq_true_iff]
      exact eqvLs eqvI _ _
    rw [e]
    exact k H3 ((s1.trans s2).trans s3)
--SPLIT
/-! ### k24 -/
def prT (l : List Int) (w : Int) : PyData := .tuple [.list (l.map PyData.int), .int w]
theorem prT_lay (l : List Int) (w : Int) : (prT l w).canLay0 = true := by
  unfold prT
  simp only [PyData.canLay0, PyData.canLayAll0]
  rw [lay_all l (lay_int l)]
  rfl
theorem prT_sh (l : List Int) (w : Int) : SeqAt.shaped (prT l w) = true := shaped_of (prT_lay l w) (by
  have := at_int.deep l
  unfold prT
  simp only [PyData.depth, PyData.depthAll]
  omega)
def AlX (AL : Addr) (H : Hp) (vs : List V) (A : List (List Int × Nat)) : Prop := vs.length = A.length ∧ ∀ (i : Nat) (v : V), vs[i]? = some v → ∃ (p : List Int × Nat) (t o : Addr), A[i]? = some p ∧ v = V.ref t ∧ t ≠ AL ∧ o ≠ AL ∧ H t = some (.tup [.ref o, .int (p.2 : Nat)]) ∧ H o = some (.lst (p.1.map V.int))
theorem AlX.same {AL : Addr} {H H' : Hp} {vs : List V} {A : List (List Int × Nat)} (h : AlX AL H vs A) (s : Same H H') : AlX AL H' vs A := ⟨h.1, fun i v hv => by
  obtain ⟨p, t, o, h1, h2, h3, h4, h5, h6⟩ := h.2 i v hv
  exact ⟨p, t, o, h1, h2, h3, h4, s _ _ h5, s _ _ h6⟩⟩
theorem AlX.chg {AL : Addr} {H H' : Hp} {vs : List V} {A : List (List Int × Nat)} (h : AlX AL H vs A) (s : But AL H H') : AlX AL H' vs A := ⟨h.1, fun i v hv => by
  obtain ⟨p, t, o, h1, h2, h3, h4, h5, h6⟩ := h.2 i v hv
  exact ⟨p, t, o, h1, h2, h3, h4, s _ _ h3 h5, s _ _ h4 h6⟩⟩
theorem AlX.more {AL t o : Addr} {H : Hp} {vs : List V} {A : List (List Int × Nat)} {p : List Int × Nat} (h : AlX AL H vs A) (ht : t ≠ AL) (ho : o ≠ AL) (d1 : H t = some (.tup [.ref o, .int (p.2 : Nat)])) (d2 : H o = some (.lst (p.1.map V.int))) : AlX AL H (vs ++ [.ref t]) (A ++ [p]) :=
  ⟨by rw [List.length_append, List.length_append, h.1]; rfl, fun i v hv => by
    have hl := h.1
    by_cases q : i < vs.length
    · rw [List.getElem?_append_left q] at hv
      obtain ⟨p', t', o', h1, h2⟩ := h.2 i v hv
      exact ⟨p', t', o', by rw [List.getElem?_append_left (by omega)]; exact h1, h2⟩
    · have e : i = vs.length := by
        have := (List.getElem?_eq_some_iff.mp hv).1
        rw [List.length_append, List.length_singleton] at this
        omega
      subst e
      rw [List.getElem?_append_right (Nat.le_refl _), Nat.sub_self] at hv
      cases Option.some.inj hv
      exact ⟨p, t, o, by rw [List.getElem?_append_right (by omega), hl, Nat.sub_self]; rfl, rfl, ht, ho, d1, d2⟩⟩
theorem dpT {K : PySem.W.Frag} {H : Hp} {t o : Addr} {l : List Int} {w : Int} (ht : H t = some (.tup [.ref o, .int w])) (ho : H o = some (.lst (l.map V.int))) : Dp K H (.ref t) (prT l w) := .tup (SqT.of ht) (.cons (.lst (SqL.of ho) (at_int.all l)) (.cons (.int _) .nil))
theorem prT1_lay : (PyData.list [prT [] 1]).canLay0 = true := by
  simp only [PyData.canLay0, PyData.canLayAll0, prT_lay]
  rfl
theorem prT1_sh : SeqAt.shaped (.list [prT [] 1]) = true := shaped_of prT1_lay (by
  unfold prT
  simp only [PyData.depth, PyData.depthAll, List.map_nil]
  omega)
theorem cnt_bs {α : Type} [BEq α] [LawfulBEq α] [DecidableEq α] (t : α) : ∀ A : List α, (A.map fun p => decide (p = t)).count true = A.count t
  | [] => rfl
  | a :: r => by
    rw [List.map_cons, List.count_cons, List.count_cons, cnt_bs t r]
    by_cases h : a = t
    · simp [h]
    · simp [h]
theorem bl_at {xs : List Bool} {i : Nat} {x : V} (h : (xs.map V.bl)[i]? = some x) : ∃ b, x = V.bl b ∧ xs[i]? = some b := by
  rw [List.getElem?_map] at h
  obtain ⟨b, hb, rfl⟩ := Option.map_eq_some_iff.mp h
  exact ⟨b, rfl, hb⟩
def tauOf (xs : List Int) (e : Int) : List Int × Nat := (rankedL xs e, (wideOf xs e).toNat)
structure Good (xs : List Int) (e : Int) (p : List Int × Nat) : Prop where
  of : ∃ rs, rs ∈ allR p.2 xs.length ∧ p.1 = mkR xs e (p.2 : Nat) rs
  rk : ranksL xs e = ranksL p.1 (p.2 : Nat)
  lo : 1 ≤ p.2
  hi : p.2 ≤ 4
theorem Good.len {xs : List Int} {e : Int} {p : List Int × Nat} (h : Good xs e p) : p.1.length = xs.length := by
  obtain ⟨rs, h1, h2⟩ := h.of
  rw [h2, mkR_len (allR_mem.mp h1).1]
theorem Good.wide {xs : List Int} {e : Int} {p : List Int × Nat} (h : Good xs e p) : wideOf xs e ≤ (p.2 : Nat) := by
  obtain ⟨rs, h1, h2⟩ := h.of
  obtain ⟨a, b⟩ := allR_mem.mp h1
  have r := h.rk
  have lo := h.lo
  rw [h2] at r
  exact shape_wide a b (by omega) r
theorem wide_nat (xs : List Int) (e : Int) : (((wideOf xs e).toNat : Nat) : Int) = wideOf xs e := by
  have := wide_pos xs e
  omega
theorem Good.tau {xs : List Int} {e : Int} {p : List Int × Nat} (h : Good xs e p) (ne : xs ≠ []) : decide (uqs (restsL p.1 (p.2 : Nat)) = upTo p.2) = decide (p = tauOf xs e) := by
  obtain ⟨rs, h1, h2⟩ := h.of
  obtain ⟨a, b⟩ := allR_mem.mp h1
  have r := h.rk
  rw [h2] at r
  refine decide_eq_decide.mpr ⟨fun q => ?_, fun q => ?_⟩
  · rw [h2, mkR_rests a b] at q
    obtain ⟨z1, z2⟩ := shape_ranked a b h.lo r q
    have z3 := wide_nat xs e
    have w2 : p.2 = (wideOf xs e).toNat := by omega
    unfold tauOf
    rw [ranked_mk, ← z1, ← z2]
    refine Prod.ext h2 ?_
    show p.2 = ((p.2 : Nat) : Int).toNat
    omega
  · have z : xs.length ≥ 1 := List.length_pos_iff.mpr ne
    obtain ⟨x, hx⟩ : ∃ x, x ∈ xs := ⟨xs[0], List.getElem_mem _⟩
    have m1 := many_pos (e := e) hx
    have m2 := wide_many m1
    rw [q]
    show uqs (restsL (rankedL xs e) (((wideOf xs e).toNat : Nat) : Int)) = upTo (wideOf xs e).toNat
    rw [wide_nat, ranked_rests, uqs_ranks, m2]
    rfl
/-- how many of the first j rests of the width w, and of all lesser widths, make the ranked row -/
def cntOf (xs : List Int) (e : Int) (i j : Nat) : Nat := (if (wideOf xs e).toNat ≤ i then 1 else 0) + (if (wideOf xs e).toNat = i + 1 then ((allR (i + 1) xs.length).take j).count (ranksL xs e) else 0)
theorem cnt_done (xs : List Int) (e : Int) (i : Nat) : cntOf xs e i (allR (i + 1) xs.length).length = cntOf xs e (i + 1) 0 := by
  unfold cntOf
  rw [List.take_length]
  by_cases h : (wideOf xs e).toNat = i + 1
  · rw [if_pos h, if_neg (by omega), if_pos (by omega), if_neg (by omega)]
    have hm : ranksL xs e ∈ allR (i + 1) xs.length := allR_mem.mpr ⟨ranks_len xs e, fun r hr => by
      have := ranks_in xs e r hr
      have := wide_nat xs e
      omega⟩
    rw [(allR_nd _ _).count, if_pos hm]
  · rw [if_neg h]
    by_cases h2 : (wideOf xs e).toNat ≤ i
    · rw [if_pos h2, if_pos (by omega), if_neg (by omega)]
    · rw [if_neg h2, if_neg (by omega)]
      by_cases h3 : (wideOf xs e).toNat = i + 1 + 1
      · rw [if_pos h3, List.take_zero, List.count_nil]
      · rw [if_neg h3]
theorem cnt_next {xs rs : List Int} {e : Int} {i j : Nat} (h : (allR (i + 1) xs.length)[j]? = some rs) : cntOf xs e i (j + 1) = cntOf xs e i j + (if (mkR xs e ((i + 1 : Nat) : Int) rs, i + 1) = tauOf xs e then 1 else 0) := by
  unfold cntOf
  obtain ⟨a, b⟩ := allR_mem.mp (List.mem_of_getElem? h)
  have wn := wide_nat xs e
  by_cases hw : (wideOf xs e).toNat = i + 1
  · rw [if_pos hw, if_pos hw, take_more h, List.count_append, List.count_singleton]
    have key : (mkR xs e ((i + 1 : Nat) : Int) rs, i + 1) = tauOf xs e ↔ (rs == ranksL xs e) = true := by
      rw [beq_iff_eq]
      unfold tauOf
      have we : wideOf xs e = ((i + 1 : Nat) : Int) := by omega
      constructor
      · intro q
        have q1 : mkR xs e ((i + 1 : Nat) : Int) rs = rankedL xs e := congrArg Prod.fst q
        rw [ranked_mk, we] at q1
        exact mkR_inj a (ranks_len xs e) b (fun r hr => by have := ranks_in xs e r hr; omega) q1
      · intro q
        rw [ranked_mk, we, q]
        refine Prod.ext rfl ?_
        show i + 1 = ((i + 1 : Nat) : Int).toNat
        omega
    by_cases q : (rs == ranksL xs e) = true
    · rw [if_pos q, if_pos (key.mpr q)]
      omega
    · rw [if_neg q, if_neg (fun z => q (key.mp z))]
      omega
  · have nq : ¬ (mkR xs e ((i + 1 : Nat) : Int) rs, i + 1) = tauOf xs e := fun q => hw (show i + 1 = (wideOf xs e).toNat from congrArg Prod.snd q).symm
    rw [if_neg hw, if_neg hw, if_neg nq]
theorem count_more {xs : List Int} {e : Int} {A : List (List Int × Nat)} (p : List Int × Nat) : (A ++ [p]).count (tauOf xs e) = A.count (tauOf xs e) + (if p = tauOf xs e then 1 else 0) := by
  rw [List.count_append, List.count_singleton]
  by_cases h : p = tauOf xs e
  · rw [if_pos h, if_pos (by rw [h]; exact beq_self_eq_true _)]
  · rw [if_neg h, if_neg (by simpa using h)]
theorem tau_shape {xs rs : List Int} {e : Int} {i : Nat} (h : (mkR xs e ((i + 1 : Nat) : Int) rs, i + 1) = tauOf xs e) : ranksL xs e = ranksL (mkR xs e ((i + 1 : Nat) : Int) rs) ((i + 1 : Nat) : Int) := by
  have h1 : mkR xs e ((i + 1 : Nat) : Int) rs = rankedL xs e := congrArg Prod.fst h
  have h2 : i + 1 = (wideOf xs e).toNat := congrArg Prod.snd h
  have wn := wide_nat xs e
  rw [h1, show ((i + 1 : Nat) : Int) = wideOf xs e by omega]
  exact ranked_shape xs e
theorem mk_bound {xs rs : List Int} {e w : Int} (e1 : 1 ≤ e) (w0 : 1 ≤ w) (w4 : w ≤ 4) (hb : ∀ r ∈ rs, 0 ≤ r ∧ r < w) (hx : ∀ x ∈ xs, -20000000000000000000000000000 < x ∧ x < 20000000000000000000000000000) : ∀ y ∈ mkR xs e w rs, -big < y ∧ y < big := fun y hy => by
  obtain ⟨p, hp, rfl⟩ := List.mem_map.mp hy
  have b1 := hx p.1 (List.of_mem_zip (a := p.1) (b := p.2) hp).1
  have b2 := hb p.2 (List.of_mem_zip (a := p.1) (b := p.2) hp).2
  have c1 : -20000000000000000000000000000 ≤ p.1 / e := Int.le_ediv_of_mul_le (by omega) (by omega)
  have c2 : p.1 / e ≤ 20000000000000000000000000000 := Int.ediv_le_of_le_mul (by omega) (by omega)
  have q1 : p.1 / e * w ≤ 20000000000000000000000000000 * w := Int.mul_le_mul_of_nonneg_right c2 (by omega)
  have q2 : -20000000000000000000000000000 * w ≤ p.1 / e * w := Int.mul_le_mul_of_nonneg_right c1 (by omega)
  show -big < p.1 / e * w + p.2 ∧ p.1 / e * w + p.2 < big
  unfold big
  omega
theorem ok_law (T : Txt K mg) : FnOk P w K mg base CX0 6 T.f_law T.d_law ["_law_script"] (spLaw K) := by
  refine T.F_law.ok sc_law (fun vs H Q E h => ?_) (fun cdv A outer s H vs Q E hr h => ?_)
  · obtain ⟨a, ns, rfl, _⟩ := h
    rfl
  · obtain ⟨a, ns, rfl, hS, hlen, k⟩ := h
    refine ⟨_, (pss_cons (ps_set (i := 1) sc_law.nd rfl (Or.inl rfl) (pe_call (ok_law_source T) (hr.mono (by decide)) (by rfl) T.m_law_source T.F_law_source.kp T.b_law_source .nil pass0 (pa_cons (pv 0) pa_nil)))
      (pss_cons (ps_set (i := 2) sc_law.nd rfl (Or.inr rfl) (pe_call (ok_law_tolerance T) (hr.mono (by decide)) (by rfl) T.m_law_tolerance T.F_law_tolerance.kp T.b_law_tolerance .nil pass0 (pa_cons (pv 1) pa_nil)))
      (pss_cons (ps_set (i := 3) sc_law.nd rfl (Or.inl rfl) (pe_call (ok_law_row T) (hr.mono (by decide)) (by rfl) T.m_law_row T.F_law_row.kp T.b_law_row .nil pass0 (pa_cons (pv 1) (pa_cons pe_int (pa_cons (pv 2) pa_nil)))))
      (C8.pss_cut (ps_setLc (i := 4) (own := [("_law_x", 11)]) (by rfl) sc_law.nd rfl rfl (sw_true rfl rfl rfl (by decide +kernel)) (pi_list (pv 3)) (blkOk_by (own := [("_law_x", 11)]) (N := ["_law_script", "_law_source_here", "_law_tolerance_here", "_law_row_here", "_law_steps", "_law_alike", "_law_width", "_law_rests", "_law_other", "_law_fitting", "_law_told", "_law_x", "_law_cell", "_law_rest", "_law_one"]) (sc := defScope s_law) (by decide +kernel)) (fun _ _ _ _ _ => (pg_name (i := 11) sc_law.nd rfl (Or.inl rfl))) (fun _ _ _ _ _ => pts_nil) (fun _ _ _ _ _ => (pe_op op_fdivW (pv 11) (pv 2))))
      (pss_cons (ps_set (i := 5) sc_law.nd rfl (Or.inl rfl) (pe_lst pa_nil))
      (C8.pss_cut (ps_for PassesOwn.never rfl (pi_range2 (by rfl) T.m_range (pa_cons pe_int (pa_cons (pe_op op_add (pe_callB (call_max2 rfl) (by rfl) T.m_max (by decide +kernel) (pa_cons pe_int (pa_cons (pe_callB call_len_seq (by rfl) T.m_len (by decide +kernel) (pa_cons (pv 3) pa_nil)) pa_nil))) pe_int) pa_nil))) (pg_name (i := 6) sc_law.nd rfl (Or.inr rfl))
      (pss_one (ps_for PassesOwn.never rfl (pi_list (pe_call (ok_law_all_rests T) (hr.mono (by decide)) (by rfl) T.m_law_all_rests T.F_law_all_rests.kp T.b_law_all_rests .nil pass0 (pa_cons (pe_callB call_len_seq (by rfl) T.m_len (by decide +kernel) (pa_cons (pv 3) pa_nil)) (pa_cons (pv 6) pa_nil)))) (pg_name (i := 7) sc_law.nd rfl (Or.inl rfl))
      (pss_cons (ps_setLc (i := 8) (own := [("_law_cell", 12), ("_law_rest", 13)]) (by rfl) sc_law.nd rfl rfl (sw_true rfl rfl rfl (by decide +kernel)) (pi_zip (by rfl) T.m_zip (pa_cons (pv 4) (pa_cons (pv 7) pa_nil))) (blkOk_by (own := [("_law_cell", 12), ("_law_rest", 13)]) (N := ["_law_script", "_law_source_here", "_law_tolerance_here", "_law_row_here", "_law_steps", "_law_alike", "_law_width", "_law_rests", "_law_other", "_law_fitting", "_law_told", "_law_x", "_law_cell", "_law_rest", "_law_one"]) (sc := defScope s_law) (by decide +kernel)) (fun _ _ _ _ _ => (show PG _ _ (gTup K 2 _) from (pg_tup (by rfl) (pgs_cons (pg_name (i := 12) sc_law.nd rfl (Or.inl rfl)) (pgs_cons (pg_name (i := 13) sc_law.nd rfl (Or.inl rfl)) pgs_nil))))) (fun _ _ _ _ _ => pts_nil) (fun _ _ _ _ _ => (pe_op op_add (pe_op op_mul (pv 12) (pv 6)) (pv 13))))
      (pss_one (ps_if (pt_val (pe_call (ok_same_shape T) (hr.mono (by decide)) (by rfl) T.m_same_shape T.F_same_shape.kp T.b_same_shape .nil pass0 (pa_cons (pv 3) (pa_cons (pv 2) (pa_cons (pv 8) (pa_cons (pv 6) pa_nil))))))
      (pss_one (ps_expr (pe_bm PySem.F.plainAttrs_list PySem.F.slot_list_append PySem.F.type_list_append mt_append (pv 5) (pa_cons (pe_tup (pa_cons (pv 8) (pa_cons (pv 6) pa_nil))) pa_nil))))
      pss_nil))))))
      (C8.pss_cut (ps_setLc (i := 9) (own := [("_law_other", 8), ("_law_width", 6)]) (by rfl) sc_law.nd rfl rfl (sw_true rfl rfl rfl (by decide +kernel)) (pi_list (pv 5)) (blkOk_by (own := [("_law_other", 8), ("_law_width", 6)]) (N := ["_law_script", "_law_source_here", "_law_tolerance_here", "_law_row_here", "_law_steps", "_law_alike", "_law_width", "_law_rests", "_law_other", "_law_fitting", "_law_told", "_law_x", "_law_cell", "_law_rest", "_law_one"]) (sc := defScope s_law) (by decide +kernel)) (fun _ _ _ _ _ => (show PG _ _ (gTup K 2 _) from (pg_tup (by rfl) (pgs_cons (pg_name (i := 8) sc_law.nd rfl (Or.inl rfl)) (pgs_cons (pg_name (i := 6) sc_law.nd rfl (Or.inl rfl)) pgs_nil))))) (fun _ _ _ _ _ => pts_nil) (fun _ _ _ _ _ => (pe_call (ok_law_is_ranked T) (hr.mono (by decide)) (by rfl) T.m_law_is_ranked T.F_law_is_ranked.kp T.b_law_is_ranked .nil pass0 (pa_cons (pv 8) (pa_cons (pv 6) pa_nil)))))
      (pss_cons (ps_set (i := 10) sc_law.nd rfl (Or.inl rfl) (pe_call (ok_ranked T) (hr.mono (by decide)) (by rfl) T.m_ranked T.F_ranked.kp T.b_ranked .nil pass0 (pa_cons (pv 3) (pa_cons (pv 2) pa_nil))))
      (pss_cons (ps_if (pt_cmpR (op_eqD hr.units) (pv 3) (pe_lst pa_nil) (nomark _))
      (pss_one (ps_ret (pe_and (pe_cmpR (op_eqD hr.units) (pv 10) (pe_tup (pa_cons (pe_lst pa_nil) (pa_cons pe_int pa_nil))) (nomark _)) (pe_one (pe_cmpR (op_eqD hr.units) (pv 5) (pe_lst (pa_cons (pe_tup (pa_cons (pe_lst pa_nil) (pa_cons pe_int pa_nil))) pa_nil)) (nomark _))))))
      pss_nil)
      (pss_cons (ps_if (PW.pt (pw_or (pt_cmpR op_ne (pe_callB call_len_seq (by rfl) T.m_len (by decide +kernel) (pa_cons (pe_lc (own := [("_law_one", 14)]) (by rfl) sc_law.nd (pi_list (pv 9)) (blkOk_by (own := [("_law_one", 14)]) (N := ["_law_script", "_law_source_here", "_law_tolerance_here", "_law_row_here", "_law_steps", "_law_alike", "_law_width", "_law_rests", "_law_other", "_law_fitting", "_law_told", "_law_x", "_law_cell", "_law_rest", "_law_one"]) (sc := defScope s_law) (by decide +kernel)) (fun _ _ _ _ _ => (pg_name (i := 14) sc_law.nd rfl (Or.inl rfl))) (fun _ _ _ _ _ => (pts_one (pt_val (pv 14)))) (fun _ _ _ _ _ => (pv 14))) pa_nil)) pe_int (nomark _)) (pw_or1 (pt_cmpR (op_neD hr.units) (pe_ix ix_list (pv 5) (pe_bm PySem.F.plainAttrs_list PySem.F.slot_list_index PySem.F.type_list_index mt_index (pv 9) (pa_cons pe_bl pa_nil)) (fun _ _ => rfl)) (pv 10) (nomark _)))))
      (pss_one (ps_ret pe_bl))
      pss_nil)
      (pss_one (ps_ret (pe_cmpR op_eq (pe_callB (cr_min rfl) (by rfl) T.m_min (by decide +kernel) (pa_cons (pe_lc (own := [("_law_other", 8), ("_law_width", 6)]) (by rfl) sc_law.nd (pi_list (pv 5)) (blkOk_by (own := [("_law_other", 8), ("_law_width", 6)]) (N := ["_law_script", "_law_source_here", "_law_tolerance_here", "_law_row_here", "_law_steps", "_law_alike", "_law_width", "_law_rests", "_law_other", "_law_fitting", "_law_told", "_law_x", "_law_cell", "_law_rest", "_law_one"]) (sc := defScope s_law) (by decide +kernel)) (fun _ _ _ _ _ => (show PG _ _ (gTup K 2 _) from (pg_tup (by rfl) (pgs_cons (pg_name (i := 8) sc_law.nd rfl (Or.inl rfl)) (pgs_cons (pg_name (i := 6) sc_law.nd rfl (Or.inl rfl)) pgs_nil))))) (fun _ _ _ _ _ => pts_nil) (fun _ _ _ _ _ => (pv 6))) pa_nil)) (pe_ix ix_tup (pv 10) pe_int (fun _ _ => rfl)) (nomark _)))))))))))))), ?_⟩
    walk_at "rd"
    refine ⟨a, ns, rfl, hS, fun p H1 hp s1 S1 => ?_⟩
    clear hS hlen hp s1
    walk_at "rd"
    refine ⟨p, _, rfl, S1, by omega, fun e H2 e1 e2 u2 S2 => ?_⟩
    walk_at "rd"
    refine ⟨p, 4, e, _, rfl, S2, by omega, by decide, e1, e2, fun R xs H3 hxl hxb hR0 dR u3 S3 => ?_⟩
    have xb : ∀ x ∈ xs, -big < x ∧ x < big := fun x hx => by
      have := hxb x hx
      unfold big
      omega
    clear S1 S2 u2 u3 hR0 S3
    refine ⟨fun σ H' => ∃ (ST : Addr), σ = [some (.ref a), some (.ref p), some (.int e), some (.ref R), some (.ref ST), none, none, none, none, none, none, none, none, none, none] ∧ H' R = some (.lst (xs.map V.int)) ∧ H' ST = some (.lst ((xs.map fun x => x / e).map V.int)), ?_, ?_⟩
    · walk_at "rd"
      refine ⟨⟨_, SqL.of dR⟩, fun D hD => ?_⟩
      refine lc_list (K := K) (a := R) (xs := xs.map V.int) (fun i H' => Same H3 H' ∧ H' D = some (.lst (((xs.take i).map fun x => x / e).map V.int))) ⟨Same.new hD, upd_same⟩ (fun i H' _ z => SqL.of (z.1 _ _ dR)) ?_ ?_
      · rintro i x H6 hx ⟨s6, d6⟩
        obtain ⟨z, rfl, hz⟩ := int_at hx
        refine ⟨rfl, ?_⟩
        walk_at "rd"
        refine ⟨wide_div (b := 64) (by omega) (by omega) (by decide) (by decide), ?_⟩
        refine ⟨_, d6, ?_, fun b o q => ?_, ?_⟩
        · rw [List.length_map, List.length_map, List.length_take]
          exact Nat.lt_of_le_of_lt (by omega : _ ≤ 60) (by decide)
        · rw [upd_ne (fun q2 => by rw [q2, hD] at q; cases q)]
          exact s6 b o q
        · rw [upd_same, take_more hz, List.map_append, List.map_append]
          rfl
      rintro H4 ⟨s4, d4⟩
      rw [List.length_map, List.take_length] at d4
      exact ⟨D, rfl, s4 _ _ dR, d4⟩
    clear dR
    rintro σ H4 ⟨ST, rfl, dR, dS⟩
    refine ⟨by show 0 ≤ sizeLine; decide, fun AL hAL => ?_⟩
    have RA : R ≠ AL := ne_of_none dR hAL
    have SA : ST ≠ AL := ne_of_none dS hAL
    generalize hH : upd _ AL _ = H5
    obtain ⟨s5, d5⟩ := new_of (o' := .lst []) hH hAL rfl
    clear hH
    have dR5 := s5 _ _ dR
    have dS5 := s5 _ _ dS
    clear dR dS s5 hAL
    refine ⟨fun σ H' => ∃ (v6 v7 v8 : Option V) (vs : List V) (A : List (List Int × Nat)), σ = [some (.ref a), some (.ref p), some (.int e), some (.ref R), some (.ref ST), some (.ref AL), v6, v7, v8, none, none, none, none, none, none] ∧ H' R = some (.lst (xs.map V.int)) ∧ H' AL = some (.lst vs) ∧ AlX AL H' vs A ∧ (∀ q ∈ A, Good xs e q) ∧ A.count (tauOf xs e) = 1 ∧ vs.length ≤ 1024 ∧ (xs = [] → ∀ q ∈ A, q.2 = 1), ?_, ?_⟩
    · walk_at "rd"
      refine ⟨_, _, rfl, .inl (SqL.of dR5), ?_⟩
      walk_at "rd"
      obtain ⟨N, n1, n4, nx, n0, eN⟩ : ∃ N : Nat, 1 ≤ N ∧ N ≤ 4 ∧ xs.length ≤ N ∧ (xs = [] → N = 1) ∧ (if (((xs.map V.int).length : Nat) : Int) > 1 then (((xs.map V.int).length : Nat) : Int) else 1) = (N : Nat) := by
        rw [List.length_map]
        by_cases c : ((xs.length : Nat) : Int) > 1
        · exact ⟨xs.length, by omega, by omega, Nat.le_refl _, fun q => by rw [q] at c; exact absurd c (by decide), if_pos c⟩
        · exact ⟨1, by decide, by decide, by omega, fun _ => rfl, if_neg c⟩
      rw [eN]
      refine ⟨by omega, ?_⟩
      refine for_range (lo := 1) (n := ((N : Int) + 1 - 1).toNat) (fun i σ H' => ∃ (v6 v7 v8 : Option V) (vs : List V) (A : List (List Int × Nat)), σ = [some (.ref a), some (.ref p), some (.int e), some (.ref R), some (.ref ST), some (.ref AL), v6, v7, v8, none, none, none, none, none, none] ∧ H' R = some (.lst (xs.map V.int)) ∧ H' ST = some (.lst ((xs.map fun x => x / e).map V.int)) ∧ H' AL = some (.lst vs) ∧ AlX AL H' vs A ∧ (∀ q ∈ A, Good xs e q) ∧ A.count (tauOf xs e) = cntOf xs e i 0 ∧ vs.length ≤ 256 * i ∧ (xs = [] → ∀ q ∈ A, q.2 = 1))
        ⟨none, none, none, [], [], rfl, dR5, dS5, d5, ⟨rfl, fun i v h => by simp at h⟩, (fun q h => nomatch h), ?_, by simp, fun _ q h => nomatch h⟩ ?_ ?_
      · show 0 = cntOf xs e 0 0
        have := wide_pos xs e
        unfold cntOf
        rw [if_neg (by omega), List.take_zero, List.count_nil]
        split <;> rfl
      · rintro i σ H6 hi ⟨v6, v7, v8, vs, A, rfl, dR, dS, dA, al, gd, ct, vl, one⟩
        have hi4 : i < N := by omega
        walk_at "rd"
        refine ⟨_, _, rfl, .inl (SqL.of dR), ?_⟩
        walk_at "rd"
        rw [List.length_map]
        refine ⟨xs.length, i + 1, [AL], by rw [show (1 + ((i : Nat) : Int)) = ((i + 1 : Nat) : Int) by omega]; rfl, by omega, by omega, fun b hb => ⟨HO.lst vs, by rw [List.mem_singleton.mp hb]; exact dA⟩, fun l us H7 s7 dl lv hus => ?_⟩
        have lA : l ≠ AL := fun z => lv (z ▸ List.mem_singleton.mpr rfl)
        have few := allR_few (n := xs.length) (w := i + 1) hxl (by omega)
        refine ⟨l, rfl, ⟨_, SqL.of dl⟩, for_list (K := K) (a := l) (xs := us) (fun j σ H' => ∃ (v7 v8 : Option V) (vs : List V) (A : List (List Int × Nat)), σ = [some (.ref a), some (.ref p), some (.int e), some (.ref R), some (.ref ST), some (.ref AL), some (.int (1 + (i : Nat))), v7, v8, none, none, none, none, none, none] ∧ H' R = some (.lst (xs.map V.int)) ∧ H' ST = some (.lst ((xs.map fun x => x / e).map V.int)) ∧ H' AL = some (.lst vs) ∧ H' l = some (.lst us) ∧ RowsX [AL] H' us (allR (i + 1) xs.length) ∧ AlX AL H' vs A ∧ (∀ q ∈ A, Good xs e q) ∧ A.count (tauOf xs e) = cntOf xs e i j ∧ vs.length ≤ 256 * i + j ∧ (xs = [] → ∀ q ∈ A, q.2 = 1))
          ⟨v7, v8, vs, A, rfl, s7 _ _ dR, s7 _ _ dS, s7 _ _ dA, dl, hus, al.same s7, gd, ct, by omega, one⟩ (fun j σ H' _ ⟨_, _, _, _, _, _, _, _, z, _⟩ => SqL.of z) ?_ ?_⟩
        · clear dR dS dA al gd ct vl one dl hus s7
          rintro j x σ H8 hx ⟨v7, v8, vs, A, rfl, dR, dS, dA, dl, hus, al, gd, ct, vl, one⟩
          have hj : j < us.length := (List.getElem?_eq_some_iff.mp hx).1
          have hj2 := hus.1
          obtain ⟨rs, ra, hrs, rfl, _, dra⟩ := hus.2 j x hx
          obtain ⟨rl, rb⟩ := allR_mem.mp (List.mem_of_getElem? hrs)
          have w1 : (1 + ((i : Nat) : Int)) = ((i + 1 : Nat) : Int) := by omega
          walk_at "rd"
          refine ⟨_, _, _, _, rfl, SqL.of dS, SqL.of dra, fun D hD => ?_⟩
          have DA : D ≠ AL := (ne_of_none dA hD).symm
          refine lc_it (walk_zip (K := K) (n := xs.length) (by rw [List.length_map, List.length_map, List.length_map, rl, Nat.min_self])) (fun m H' => Same H8 H' ∧ H' D = some (.lst (((xs.zip rs).take m).map fun p => V.int (p.1 / e * (1 + ((i : Nat) : Int)) + p.2)))) ⟨Same.new hD, upd_same⟩ (fun m H' _ z => ⟨SqL.of (z.1 _ _ dS), SqL.of (z.1 _ _ dra)⟩) ?_ ?_
          · rintro m v H9 H10 hm ⟨s9, d9⟩ ⟨u, x, y, rfl, hu, rfl, hx', hy'⟩
            have hm2 : m < rs.length := by omega
            have ex := int2_at (f := fun x => x / e) (List.getElem?_eq_getElem hm) hx'
            obtain ⟨z, rfl, hz⟩ := int_at hy'
            subst ex
            have hz' : (xs.zip rs)[m]? = some (xs[m], z) := by
              rw [List.getElem?_zip_eq_some]
              exact ⟨List.getElem?_eq_getElem hm, hz⟩
            refine ⟨_, _, rfl, SqT.of upd_same, rfl, ?_⟩
            walk_at "rd"
            refine ⟨Or.inr ⟨by omega, by omega⟩, ?_⟩
            walk_at "rd"
            have uD : u ≠ D := fun q => by rw [q, d9] at hu; cases hu
            refine ⟨_, by rw [upd_ne uD.symm]; exact d9, ?_, fun b o q => ?_, ?_⟩
            · rw [List.length_map, List.length_take, List.length_zip]
              exact Nat.lt_of_le_of_lt (by omega : _ ≤ 60) (by decide)
            · have q2 := s9 b o q
              rw [upd_ne (fun q3 => by rw [q3, hD] at q; cases q), upd_ne (fun q3 => by rw [q3, hu] at q2; cases q2)]
              exact q2
            · rw [upd_same, take_more hz', List.map_append]
              rfl
          rintro H9 ⟨s9, d9⟩
          have d9 : H9 D = some (.lst ((mkR xs e ((i + 1 : Nat) : Int) rs).map V.int)) := by
            rw [d9, List.take_of_length_le (by rw [List.length_zip]; omega)]
            unfold mkR
            rw [List.map_map, w1]
            rfl
          have ml := mkR_len (e := e) (w := ((i + 1 : Nat) : Int)) rl
          walk_at "rd"
          refine ⟨R, D, xs, mkR xs e ((i + 1 : Nat) : Int) rs, e, ((i + 1 : Nat) : Int), by rw [w1]; rfl, .inl (s9 _ _ dR), .inl d9, by omega, by omega, xb, mk_bound e1 (by omega) (by omega) rb hxb, e1, by omega, by omega, by omega, fun b H10 ib s10 => ?_⟩
          have sh := ib.trans (shape_mk rl rb)
          have s80 := s9.trans s10
          have dA10 := s80 _ _ dA
          cases b with
          | true =>
            walk_at "rd"
            refine ⟨.inl ⟨rfl, _, SqL.of dA10⟩, ?_⟩
            walk_at "rd"
            refine ⟨by show 2 ≤ sizeLine; decide, fun t ht => ?_⟩
            generalize hH : upd _ t _ = H11
            obtain ⟨s11, d11⟩ := new_of (o' := .tup [.ref D, .int ((i + 1 : Nat) : Int)]) hH ht (by rw [w1])
            clear hH
            have tA : t ≠ AL := (ne_of_none dA10 ht).symm
            have s81 := s80.trans s11
            refine ⟨_, _, _, rfl, rfl, s11 _ _ dA10, Nat.lt_of_le_of_lt (by omega : _ ≤ 2000) (by decide), ?_⟩
            generalize hH : upd _ AL _ = H12
            obtain ⟨u12, d12⟩ := chg_of (o' := .lst (vs ++ [.ref t])) hH rfl
            clear hH
            have RA' := RA
            refine ⟨_, _, vs ++ [.ref t], A ++ [(mkR xs e ((i + 1 : Nat) : Int) rs, i + 1)], rfl, u12 _ _ RA (s81 _ _ dR), u12 _ _ SA (s81 _ _ dS), d12, u12 _ _ lA (s81 _ _ dl), (hus.same s81).chg (List.mem_singleton.mpr rfl) u12, ((al.same s81).more tA DA d11 (s11 _ _ (s10 _ _ d9))).chg u12, ?_, ?_, by rw [List.length_append, List.length_singleton]; omega, ?_⟩
            · intro q hq
              rcases List.mem_append.mp hq with z | z
              · exact gd q z
              · rw [List.mem_singleton.mp z]
                exact ⟨⟨rs, List.mem_of_getElem? hrs, rfl⟩, sh.mp rfl, by show 1 ≤ i + 1; omega, by show i + 1 ≤ 4; omega⟩
            · rw [count_more, cnt_next hrs, ct]
            · intro q0 q hq
              rcases List.mem_append.mp hq with z | z
              · exact one q0 q z
              · rw [List.mem_singleton.mp z]
                have := n0 q0
                show i + 1 = 1
                omega
          | false =>
            walk_at "rd"
            refine ⟨_, _, vs, A, rfl, s80 _ _ dR, s80 _ _ dS, dA10, s80 _ _ dl, hus.same s80, al.same s80, gd, ?_, by omega, one⟩
            rw [cnt_next hrs, if_neg (fun z => (by have h := sh.mpr (tau_shape z); cases h)), ct]
            rfl
        · rintro σ H8 ⟨v7, v8, vs, A, rfl, dR, dS, dA, dl, hus, al, gd, ct, vl, one⟩
          have hu := hus.1
          walk_at "rd"
          exact ⟨_, _, _, vs, A, rfl, dR, dS, dA, al, gd, by rw [ct, hu, cnt_done], by omega, one⟩
      · rintro σ H6 ⟨v6, v7, v8, vs, A, rfl, dR, dS, dA, al, gd, ct, vl, one⟩
        walk_at "rd"
        refine ⟨_, _, _, vs, A, rfl, dR, dA, al, gd, ?_, by omega, one⟩
        have h1 := wide_le (e := e) nx n1
        have h2 := wide_nat xs e
        rw [ct]
        unfold cntOf
        rw [if_pos (by omega), if_neg (by omega)]
    clear dR5 dS5 d5 SA
    rintro σ H6 ⟨v6, v7, v8, vs, A, rfl, dR, dA, al, gd, ct, vl, one⟩
    have al1 := al.1
    refine ⟨fun σ H' => ∃ (v6 v7 v8 : Option V) (FI : Addr), σ = [some (.ref a), some (.ref p), some (.int e), some (.ref R), some (.ref ST), some (.ref AL), v6, v7, v8, some (.ref FI), none, none, none, none, none] ∧ H' R = some (.lst (xs.map V.int)) ∧ H' AL = some (.lst vs) ∧ AlX AL H' vs A ∧ H' FI = some (.lst ((A.map fun p => decide (uqs (restsL p.1 (p.2 : Nat)) = upTo p.2)).map V.bl)), ?_, ?_⟩
    · walk_at "rd"
      refine ⟨⟨_, SqL.of dA⟩, fun D hD => ?_⟩
      have DA : D ≠ AL := (ne_of_none dA hD).symm
      refine lc_list (K := K) (a := AL) (xs := vs) (fun i H' => Same H6 H' ∧ H' D = some (.lst (((A.take i).map fun p => decide (uqs (restsL p.1 (p.2 : Nat)) = upTo p.2)).map V.bl))) ⟨Same.new hD, upd_same⟩ (fun i H' _ z => SqL.of (z.1 _ _ dA)) ?_ ?_
      · rintro i x H7 hx ⟨s7, d7⟩
        obtain ⟨q, t, o, hq, rfl, _, _, ht, ho⟩ := al.2 i x hx
        have gq := gd q (List.mem_of_getElem? hq)
        have ql := gq.len
        have q1 := gq.lo
        have q4 := gq.hi
        refine ⟨_, _, rfl, SqT.of (s7 _ _ ht), rfl, ?_⟩
        walk_at "rd"
        refine ⟨o, q.1, q.2, rfl, s7 _ _ ho, by omega, q1, by omega, fun H8 s8 => ?_⟩
        refine ⟨_, s8 _ _ d7, ?_, fun b o q => ?_, ?_⟩
        · rw [List.length_map, List.length_map, List.length_take]
          exact Nat.lt_of_le_of_lt (by omega : _ ≤ 2000) (by decide)
        · rw [upd_ne (fun q2 => by rw [q2, hD] at q; cases q)]
          exact s8 _ _ (s7 b o q)
        · rw [upd_same, take_more hq, List.map_append, List.map_append]
          rfl
      rintro H7 ⟨s7, d7⟩
      rw [al1, List.take_length] at d7
      exact ⟨_, _, _, D, rfl, s7 _ _ dR, s7 _ _ dA, al.same s7, d7⟩
    clear dR dA al
    rintro σ H7 ⟨v6, v7, v8, FI, rfl, dR, dA, al, dF⟩
    walk_at "rd"
    refine ⟨R, xs, e, rfl, .inl dR, by omega, xb, e1, by omega, fun t l H8 s8 hl dt dl => ?_⟩
    have dR8 := s8 _ _ dR
    have dA8 := s8 _ _ dA
    have dF8 := s8 _ _ dF
    have al8 := al.same s8
    clear dR dA dF al hl s8
    walk_at "rd"
    refine ⟨by show 0 ≤ sizeLine; decide, fun z0 hz0 => ?_⟩
    generalize hH : upd _ z0 _ = H9
    obtain ⟨s9, d9⟩ := new_of (o' := .lst []) hH hz0 rfl
    clear hH
    refine eq_nil (s9 _ _ dR8) d9 ?_
    have dR := s9 _ _ dR8
    have dA := s9 _ _ dA8
    have dF := s9 _ _ dF8
    have al := al8.same s9
    have dt := s9 _ _ dt
    have dl := s9 _ _ dl
    clear dR8 dA8 dF8 al8 s9 d9 hz0
    cases hxs : xs with
    | nil =>
      subst hxs
      have A1 : A = [(([] : List Int), 1)] := by
        have key : ∀ q ∈ A, tauOf [] e = q := fun q hq => by
          have h1 := (gd q hq).len
          have h2 := one rfl q hq
          have h3 : q.1 = [] := List.length_eq_zero_iff.mp h1
          exact (Prod.ext h3 h2 : q = (([] : List Int), 1)).symm
        have h1 : A.length = 1 := by rw [← List.count_eq_length.mpr key]; exact ct
        obtain ⟨q, rfl⟩ := List.length_eq_one_iff.mp h1
        rw [← key q List.mem_cons_self]
        rfl
      subst A1
      obtain ⟨v0, rfl⟩ := List.length_eq_one_iff.mp al.1
      obtain ⟨q, t2, o2, hq, rfl, _, _, dt2, do2⟩ := al.2 0 v0 rfl
      cases Option.some.inj hq
      walk_at "rd"
      refine ⟨by show 0 ≤ sizeLine; decide, fun z1 hz1 => ?_⟩
      generalize hH : upd _ z1 _ = H10
      obtain ⟨s10, d10⟩ := new_of (o' := .lst (([] : List Int).map V.int)) hH hz1 rfl
      clear hH
      walk_at "rd"
      refine ⟨by show 2 ≤ sizeLine; decide, fun z2 hz2 => ?_⟩
      generalize hH : upd _ z2 _ = H11
      obtain ⟨s11, d11⟩ := new_of (o' := .tup [.ref z1, .int 1]) hH hz2 rfl
      clear hH
      have s911 := s10.trans s11
      refine ⟨prT (rankedL [] e) (wideOf [] e), prT [] 1, dpT (s911 _ _ dt) (s911 _ _ dl), dpT d11 (s11 _ _ d10), prT_sh _ _, prT_sh _ _, ?_⟩
      rw [show PyData.eqv (prT (rankedL [] e) (wideOf [] e)) (prT [] 1) = true from SeqAt.eqv_refl _ (prT_lay [] 1)]
      walk_at "rd"
      refine ⟨by show 0 ≤ sizeLine; decide, fun z3 hz3 => ?_⟩
      generalize hH : upd _ z3 _ = H12
      obtain ⟨s12, d12⟩ := new_of (o' := .lst (([] : List Int).map V.int)) hH hz3 rfl
      clear hH
      walk_at "rd"
      refine ⟨by show 2 ≤ sizeLine; decide, fun z4 hz4 => ?_⟩
      generalize hH : upd _ z4 _ = H13
      obtain ⟨s13, d13⟩ := new_of (o' := .tup [.ref z3, .int 1]) hH hz4 rfl
      clear hH
      walk_at "rd"
      refine ⟨by show 1 ≤ sizeLine; decide, fun z5 hz5 => ?_⟩
      generalize hH : upd _ z5 _ = H14
      obtain ⟨s14, d14⟩ := new_of (o' := .lst [.ref z4]) hH hz5 rfl
      clear hH
      have s94 := s911.trans (s12.trans (s13.trans s14))
      refine ⟨.list [prT [] 1], .list [prT [] 1], .lst (SqL.of (s94 _ _ dA)) (.cons (dpT (s94 _ _ dt2) (s94 _ _ do2)) .nil), .lst (SqL.of d14) (.cons (dpT (s14 _ _ d13) (s14 _ _ (s13 _ _ d12))) .nil), prT1_sh, prT1_sh, ?_⟩
      rw [SeqAt.eqv_refl _ prT1_lay]
      walk_at "rd"
      exact k _
    | cons x0 xr =>
      have ne : xs ≠ [] := by rw [hxs]; exact fun h => nomatch h
      have eF : (A.map fun p => decide (uqs (restsL p.1 (p.2 : Nat)) = upTo p.2)) = A.map fun p => decide (p = tauOf xs e) := List.map_congr_left fun q hq => (gd q hq).tau ne
      rw [eF] at dF
      clear hxs eF
      have alen : A.length ≤ 1024 := by omega
      generalize hbs : (A.map fun p => decide (p = tauOf xs e)) = bs at dF
      have blen : bs.length = A.length := by rw [← hbs, List.length_map]
      have bct : bs.count true = 1 := by rw [← hbs, cnt_bs, ct]
      walk_at "rd"
      refine ⟨⟨_, SqL.of dF⟩, fun D hD => ?_⟩
      refine lc_list (K := K) (a := FI) (xs := bs.map V.bl) (fun i H' => Same H9 H' ∧ ∃ es : List V, H' D = some (.lst es) ∧ es.length = (bs.take i).count true) ⟨Same.new hD, [], upd_same, rfl⟩ (fun i H' _ z => SqL.of (z.1 _ _ dF)) ?_ ?_
      · rintro i x H10 hx ⟨s10, es, d10, el⟩
        obtain ⟨b, rfl, hb⟩ := bl_at hx
        have il : i < bs.length := (List.getElem?_eq_some_iff.mp hb).1
        refine ⟨rfl, ?_⟩
        cases b with
        | false =>
          walk_at "rd"
          exact ⟨s10, es, d10, by rw [el, take_more hb, List.count_append]; rfl⟩
        | true =>
          walk_at "rd"
          refine ⟨_, d10, ?_, fun b o q => ?_, _, upd_same, ?_⟩
          · have := List.count_le_length (a := true) (l := bs.take i)
            rw [List.length_take] at this
            exact Nat.lt_of_le_of_lt (by omega : _ ≤ 2000) (by decide)
          · rw [upd_ne (fun q2 => by rw [q2, hD] at q; cases q)]
            exact s10 b o q
          · rw [List.length_append, el, take_more hb, List.count_append]
            rfl
      rintro H10 ⟨s10, es, d10, el⟩
      rw [List.length_map, List.take_length, bct] at el
      have dR := s10 _ _ dR
      have dA := s10 _ _ dA
      have dF := s10 _ _ dF
      have al := al.same s10
      have dt := s10 _ _ dt
      have dl := s10 _ _ dl
      clear s10 hD
      have tin : true ∈ bs := List.count_pos_iff.mp (by omega)
      obtain ⟨j, hj, hno⟩ := first_at tin
      have hA : A[j]? = some (tauOf xs e) := by
        rw [← hbs, List.getElem?_map] at hj
        obtain ⟨q, hq, e2⟩ := Option.map_eq_some_iff.mp hj
        rw [hq, of_decide_eq_true e2]
      have jl : j < vs.length := by
        have := (List.getElem?_eq_some_iff.mp hA).1
        omega
      obtain ⟨q, tj, oj, hq, hv, _, _, dtj, doj⟩ := al.2 j _ (List.getElem?_eq_getElem jl)
      cases (Option.some.inj (hA.symm.trans hq))
      have hvj := (List.getElem?_eq_getElem jl).trans (congrArg some hv)
      walk_at "rd"
      refine ⟨_, _, rfl, .inl (SqL.of d10), ?_⟩
      rw [el]
      walk_at "rd"
      refine ⟨.inl ⟨rfl, _, SqL.of dF⟩, ?_⟩
      walk_at "rd"
      refine ⟨_, _, _, j, .bl true, rfl, rfl, SqL.of dF, rfl, ?_, ?_, rfl, ?_, ?_⟩
      · rw [List.all_eq_true]
        intro z hz
        obtain ⟨b, _, rfl⟩ := List.mem_map.mp hz
        rfl
      · rw [List.getElem?_map, hj]
        rfl
      · intro m z hm hz
        obtain ⟨b, rfl, hb⟩ := bl_at hz
        cases b with
        | false => rfl
        | true => exact absurd hb (hno m hm)
      walk_at "rd"
      refine ⟨_, _, _, _, rfl, rfl, SqL.of dA, at_of (j := j) (by omega) hvj, ?_⟩
      walk_at "rd"
      refine ⟨prT (rankedL xs e) (wideOf xs e), prT (rankedL xs e) (wideOf xs e), dpT (by rw [← wide_nat]; exact dtj) doj, dpT dt dl, prT_sh _ _, prT_sh _ _, ?_⟩
      rw [SeqAt.eqv_refl _ (prT_lay _ _)]
      walk_at "rd"
      have al1 := al.1
      clear d10 el hno
      refine ⟨⟨_, SqL.of dA⟩, fun D2 hD2 => ?_⟩
      refine lc_list (K := K) (a := AL) (xs := vs) (fun i H' => Same H10 H' ∧ H' D2 = some (.lst (((A.take i).map fun p => ((p.2 : Nat) : Int)).map V.int))) ⟨Same.new hD2, upd_same⟩ (fun i H' _ z => SqL.of (z.1 _ _ dA)) ?_ ?_
      · rintro i x H11 hx ⟨s11, d11⟩
        obtain ⟨q, t3, o3, hq3, rfl, _, _, ht3, _⟩ := al.2 i x hx
        have il : i < A.length := (List.getElem?_eq_some_iff.mp hq3).1
        refine ⟨_, _, rfl, SqT.of (s11 _ _ ht3), rfl, ?_⟩
        walk_at "rd"
        refine ⟨_, d11, ?_, fun b o q => ?_, ?_⟩
        · rw [List.length_map, List.length_map, List.length_take]
          exact Nat.lt_of_le_of_lt (by omega : _ ≤ 2000) (by decide)
        · rw [upd_ne (fun q2 => by rw [q2, hD2] at q; cases q)]
          exact s11 b o q
        · rw [upd_same, take_more hq3, List.map_append, List.map_append]
          rfl
      rintro H11 ⟨s11, d11⟩
      rw [al1, List.take_length] at d11
      walk_at "rd"
      refine ⟨_, _, rfl, SqL.of d11, by rw [List.length_map]; omega, fun m hm hlo => ?_⟩
      walk_at "rd"
      refine ⟨_, _, _, _, rfl, rfl, SqT.of (s11 _ _ dt), rfl, ?_⟩
      have em : m = wideOf xs e := by
        obtain ⟨q, hq4, rfl⟩ := List.mem_map.mp hm
        have h1 := (gd q hq4).wide
        have h2 := hlo _ (List.mem_map.mpr ⟨_, List.mem_of_getElem? hA, rfl⟩)
        have h3 := wide_nat xs e
        have h4 : (((tauOf xs e).2 : Nat) : Int) = wideOf xs e := h3
        omega
      walk_at "rd"
      rw [em, decide_eq_true (show V.int (wideOf xs e) = V.int (wideOf xs e) from rfl)]
      exact k _
--SPLIT
end
theorem all_mk {l : PySem.W.OpenLaw} {w : World} {K : PySem.W.Frag} {h : Heap} {mg : Str → Option Value} {fa : Addr} (X : K.In h) (G : h.Ns mainGlobals mg) (hfa : mg "law" = some (.ref fa))
    {f_is_number f_is_tolerance f_check_number f_check_tolerance f_check_row f_cells_and_ranks f_ranked f_same_shape f_law_source f_law_draw f_law_tolerance f_law_row f_law_unlike f_law_all_rests f_law_is_ranked f_law : Addr}
    {od_is_number an_is_number od_is_tolerance an_is_tolerance od_check_number an_check_number od_check_tolerance an_check_tolerance od_check_row an_check_row od_cells_and_ranks an_cells_and_ranks od_ranked an_ranked od_same_shape an_same_shape od_law_source an_law_source od_law_draw an_law_draw od_law_tolerance an_law_tolerance od_law_row an_law_row od_law_unlike an_law_unlike od_law_all_rests an_law_all_rests od_law_is_ranked an_law_is_ranked od_law an_law : Option Addr} {sl_is_number sl_is_tolerance sl_check_number sl_check_tolerance sl_check_row sl_cells_and_ranks sl_ranked sl_same_shape sl_law_source sl_law_draw sl_law_tolerance sl_law_row sl_law_unlike sl_law_all_rests sl_law_is_ranked sl_law : Array (Option Value)}
    {oc_is_number kV_is_number dc_is_number pm_is_number cd_is_number ct_is_number oc_is_tolerance kV_is_tolerance dc_is_tolerance pm_is_tolerance cd_is_tolerance ct_is_tolerance oc_check_number kV_check_number dc_check_number pm_check_number cd_check_number ct_check_number oc_check_tolerance kV_check_tolerance dc_check_tolerance pm_check_tolerance cd_check_tolerance ct_check_tolerance oc_check_row kV_check_row dc_check_row pm_check_row cd_check_row ct_check_row oc_cells_and_ranks kV_cells_and_ranks dc_cells_and_ranks pm_cells_and_ranks cd_cells_and_ranks ct_cells_and_ranks oc_ranked kV_ranked dc_ranked pm_ranked cd_ranked ct_ranked oc_same_shape kV_same_shape dc_same_shape pm_same_shape cd_same_shape ct_same_shape oc_law_source kV_law_source dc_law_source pm_law_source cd_law_source ct_law_source oc_law_draw kV_law_draw dc_law_draw pm_law_draw cd_law_draw ct_law_draw oc_law_tolerance kV_law_tolerance dc_law_tolerance pm_law_tolerance cd_law_tolerance ct_law_tolerance oc_law_row kV_law_row dc_law_row pm_law_row cd_law_row ct_law_row oc_law_unlike kV_law_unlike dc_law_unlike pm_law_unlike cd_law_unlike ct_law_unlike oc_law_all_rests kV_law_all_rests dc_law_all_rests pm_law_all_rests cd_law_all_rests ct_law_all_rests oc_law_is_ranked kV_law_is_ranked dc_law_is_ranked pm_law_is_ranked cd_law_is_ranked ct_law_is_ranked oc_law kV_law dc_law pm_law cd_law ct_law : Value}
    {t_MOST_ITEMS : Tok}
    (g_MOST_ITEMS : PySem.W.nsIn K mainGlobals "MOST_ITEMS" = some (some (.int 1000 t_MOST_ITEMS)))
    (a_is_number : PySem.W.nsIn K mainGlobals "is_number" = some (some (.ref f_is_number)))
    (l_is_number : K.lookup f_is_number = some ⟨oc_is_number, od_is_number, .func (PySem.W.fnOf "is_number" "is_number" (defArgs s_is_number) (defBody s_is_number) (defScope s_is_number) .none kV_is_number dc_is_number pm_is_number an_is_number cd_is_number ct_is_number), sl_is_number⟩)
    (c_is_number : PySem.W.codeIn K cd_is_number "is_number" = true)
    (k_is_number : PySem.W.keepIn K (.ref f_is_number) = true)
    (a_is_tolerance : PySem.W.nsIn K mainGlobals "is_tolerance" = some (some (.ref f_is_tolerance)))
    (l_is_tolerance : K.lookup f_is_tolerance = some ⟨oc_is_tolerance, od_is_tolerance, .func (PySem.W.fnOf "is_tolerance" "is_tolerance" (defArgs s_is_tolerance) (defBody s_is_tolerance) (defScope s_is_tolerance) .none kV_is_tolerance dc_is_tolerance pm_is_tolerance an_is_tolerance cd_is_tolerance ct_is_tolerance), sl_is_tolerance⟩)
    (c_is_tolerance : PySem.W.codeIn K cd_is_tolerance "is_tolerance" = true)
    (k_is_tolerance : PySem.W.keepIn K (.ref f_is_tolerance) = true)
    (a_check_number : PySem.W.nsIn K mainGlobals "check_number" = some (some (.ref f_check_number)))
    (l_check_number : K.lookup f_check_number = some ⟨oc_check_number, od_check_number, .func (PySem.W.fnOf "check_number" "check_number" (defArgs s_check_number) (defBody s_check_number) (defScope s_check_number) .none kV_check_number dc_check_number pm_check_number an_check_number cd_check_number ct_check_number), sl_check_number⟩)
    (c_check_number : PySem.W.codeIn K cd_check_number "check_number" = true)
    (k_check_number : PySem.W.keepIn K (.ref f_check_number) = true)
    (a_check_tolerance : PySem.W.nsIn K mainGlobals "check_tolerance" = some (some (.ref f_check_tolerance)))
    (l_check_tolerance : K.lookup f_check_tolerance = some ⟨oc_check_tolerance, od_check_tolerance, .func (PySem.W.fnOf "check_tolerance" "check_tolerance" (defArgs s_check_tolerance) (defBody s_check_tolerance) (defScope s_check_tolerance) .none kV_check_tolerance dc_check_tolerance pm_check_tolerance an_check_tolerance cd_check_tolerance ct_check_tolerance), sl_check_tolerance⟩)
    (c_check_tolerance : PySem.W.codeIn K cd_check_tolerance "check_tolerance" = true)
    (k_check_tolerance : PySem.W.keepIn K (.ref f_check_tolerance) = true)
    (a_check_row : PySem.W.nsIn K mainGlobals "check_row" = some (some (.ref f_check_row)))
    (l_check_row : K.lookup f_check_row = some ⟨oc_check_row, od_check_row, .func (PySem.W.fnOf "check_row" "check_row" (defArgs s_check_row) (defBody s_check_row) (defScope s_check_row) .none kV_check_row dc_check_row pm_check_row an_check_row cd_check_row ct_check_row), sl_check_row⟩)
    (c_check_row : PySem.W.codeIn K cd_check_row "check_row" = true)
    (k_check_row : PySem.W.keepIn K (.ref f_check_row) = true)
    (a_cells_and_ranks : PySem.W.nsIn K mainGlobals "_cells_and_ranks" = some (some (.ref f_cells_and_ranks)))
    (l_cells_and_ranks : K.lookup f_cells_and_ranks = some ⟨oc_cells_and_ranks, od_cells_and_ranks, .func (PySem.W.fnOf "_cells_and_ranks" "_cells_and_ranks" (defArgs s_cells_and_ranks) (defBody s_cells_and_ranks) (defScope s_cells_and_ranks) .none kV_cells_and_ranks dc_cells_and_ranks pm_cells_and_ranks an_cells_and_ranks cd_cells_and_ranks ct_cells_and_ranks), sl_cells_and_ranks⟩)
    (c_cells_and_ranks : PySem.W.codeIn K cd_cells_and_ranks "_cells_and_ranks" = true)
    (k_cells_and_ranks : PySem.W.keepIn K (.ref f_cells_and_ranks) = true)
    (a_ranked : PySem.W.nsIn K mainGlobals "ranked" = some (some (.ref f_ranked)))
    (l_ranked : K.lookup f_ranked = some ⟨oc_ranked, od_ranked, .func (PySem.W.fnOf "ranked" "ranked" (defArgs s_ranked) (defBody s_ranked) (defScope s_ranked) .none kV_ranked dc_ranked pm_ranked an_ranked cd_ranked ct_ranked), sl_ranked⟩)
    (c_ranked : PySem.W.codeIn K cd_ranked "ranked" = true)
    (k_ranked : PySem.W.keepIn K (.ref f_ranked) = true)
    (a_same_shape : PySem.W.nsIn K mainGlobals "same_shape" = some (some (.ref f_same_shape)))
    (l_same_shape : K.lookup f_same_shape = some ⟨oc_same_shape, od_same_shape, .func (PySem.W.fnOf "same_shape" "same_shape" (defArgs s_same_shape) (defBody s_same_shape) (defScope s_same_shape) .none kV_same_shape dc_same_shape pm_same_shape an_same_shape cd_same_shape ct_same_shape), sl_same_shape⟩)
    (c_same_shape : PySem.W.codeIn K cd_same_shape "same_shape" = true)
    (k_same_shape : PySem.W.keepIn K (.ref f_same_shape) = true)
    (a_law_source : PySem.W.nsIn K mainGlobals "_law_source" = some (some (.ref f_law_source)))
    (l_law_source : K.lookup f_law_source = some ⟨oc_law_source, od_law_source, .func (PySem.W.fnOf "_law_source" "_law_source" (defArgs s_law_source) (defBody s_law_source) (defScope s_law_source) .none kV_law_source dc_law_source pm_law_source an_law_source cd_law_source ct_law_source), sl_law_source⟩)
    (c_law_source : PySem.W.codeIn K cd_law_source "_law_source" = true)
    (k_law_source : PySem.W.keepIn K (.ref f_law_source) = true)
    (a_law_draw : PySem.W.nsIn K mainGlobals "_law_draw" = some (some (.ref f_law_draw)))
    (l_law_draw : K.lookup f_law_draw = some ⟨oc_law_draw, od_law_draw, .func (PySem.W.fnOf "_law_draw" "_law_draw" (defArgs s_law_draw) (defBody s_law_draw) (defScope s_law_draw) .none kV_law_draw dc_law_draw pm_law_draw an_law_draw cd_law_draw ct_law_draw), sl_law_draw⟩)
    (c_law_draw : PySem.W.codeIn K cd_law_draw "_law_draw" = true)
    (k_law_draw : PySem.W.keepIn K (.ref f_law_draw) = true)
    (a_law_tolerance : PySem.W.nsIn K mainGlobals "_law_tolerance" = some (some (.ref f_law_tolerance)))
    (l_law_tolerance : K.lookup f_law_tolerance = some ⟨oc_law_tolerance, od_law_tolerance, .func (PySem.W.fnOf "_law_tolerance" "_law_tolerance" (defArgs s_law_tolerance) (defBody s_law_tolerance) (defScope s_law_tolerance) .none kV_law_tolerance dc_law_tolerance pm_law_tolerance an_law_tolerance cd_law_tolerance ct_law_tolerance), sl_law_tolerance⟩)
    (c_law_tolerance : PySem.W.codeIn K cd_law_tolerance "_law_tolerance" = true)
    (k_law_tolerance : PySem.W.keepIn K (.ref f_law_tolerance) = true)
    (a_law_row : PySem.W.nsIn K mainGlobals "_law_row" = some (some (.ref f_law_row)))
    (l_law_row : K.lookup f_law_row = some ⟨oc_law_row, od_law_row, .func (PySem.W.fnOf "_law_row" "_law_row" (defArgs s_law_row) (defBody s_law_row) (defScope s_law_row) .none kV_law_row dc_law_row pm_law_row an_law_row cd_law_row ct_law_row), sl_law_row⟩)
    (c_law_row : PySem.W.codeIn K cd_law_row "_law_row" = true)
    (k_law_row : PySem.W.keepIn K (.ref f_law_row) = true)
    (a_law_unlike : PySem.W.nsIn K mainGlobals "_law_unlike" = some (some (.ref f_law_unlike)))
    (l_law_unlike : K.lookup f_law_unlike = some ⟨oc_law_unlike, od_law_unlike, .func (PySem.W.fnOf "_law_unlike" "_law_unlike" (defArgs s_law_unlike) (defBody s_law_unlike) (defScope s_law_unlike) .none kV_law_unlike dc_law_unlike pm_law_unlike an_law_unlike cd_law_unlike ct_law_unlike), sl_law_unlike⟩)
    (c_law_unlike : PySem.W.codeIn K cd_law_unlike "_law_unlike" = true)
    (k_law_unlike : PySem.W.keepIn K (.ref f_law_unlike) = true)
    (a_law_all_rests : PySem.W.nsIn K mainGlobals "_law_all_rests" = some (some (.ref f_law_all_rests)))
    (l_law_all_rests : K.lookup f_law_all_rests = some ⟨oc_law_all_rests, od_law_all_rests, .func (PySem.W.fnOf "_law_all_rests" "_law_all_rests" (defArgs s_law_all_rests) (defBody s_law_all_rests) (defScope s_law_all_rests) .none kV_law_all_rests dc_law_all_rests pm_law_all_rests an_law_all_rests cd_law_all_rests ct_law_all_rests), sl_law_all_rests⟩)
    (c_law_all_rests : PySem.W.codeIn K cd_law_all_rests "_law_all_rests" = true)
    (k_law_all_rests : PySem.W.keepIn K (.ref f_law_all_rests) = true)
    (a_law_is_ranked : PySem.W.nsIn K mainGlobals "_law_is_ranked" = some (some (.ref f_law_is_ranked)))
    (l_law_is_ranked : K.lookup f_law_is_ranked = some ⟨oc_law_is_ranked, od_law_is_ranked, .func (PySem.W.fnOf "_law_is_ranked" "_law_is_ranked" (defArgs s_law_is_ranked) (defBody s_law_is_ranked) (defScope s_law_is_ranked) .none kV_law_is_ranked dc_law_is_ranked pm_law_is_ranked an_law_is_ranked cd_law_is_ranked ct_law_is_ranked), sl_law_is_ranked⟩)
    (c_law_is_ranked : PySem.W.codeIn K cd_law_is_ranked "_law_is_ranked" = true)
    (k_law_is_ranked : PySem.W.keepIn K (.ref f_law_is_ranked) = true)
    (a_law : PySem.W.nsIn K mainGlobals "law" = some (some (.ref f_law)))
    (l_law : K.lookup f_law = some ⟨oc_law, od_law, .func (PySem.W.fnOf "law" "law" (defArgs s_law) (defBody s_law) (defScope s_law) .none kV_law dc_law pm_law an_law cd_law ct_law), sl_law⟩)
    (c_law : PySem.W.codeIn K cd_law "law" = true)
    (k_law : PySem.W.keepIn K (.ref f_law) = true)
    (z_int : PySem.W.nsIn K mainGlobals "int" = some none)
    (z_str : PySem.W.nsIn K mainGlobals "str" = some none)
    (z_bool : PySem.W.nsIn K mainGlobals "bool" = some none)
    (z_range : PySem.W.nsIn K mainGlobals "range" = some none)
    (z_len : PySem.W.nsIn K mainGlobals "len" = some none)
    (z_isinstance : PySem.W.nsIn K mainGlobals "isinstance" = some none)
    (z_list : PySem.W.nsIn K mainGlobals "list" = some none)
    (z_tuple : PySem.W.nsIn K mainGlobals "tuple" = some none)
    (z_enumerate : PySem.W.nsIn K mainGlobals "enumerate" = some none)
    (z_sorted : PySem.W.nsIn K mainGlobals "sorted" = some none)
    (z_abs : PySem.W.nsIn K mainGlobals "abs" = some none)
    (z_zip : PySem.W.nsIn K mainGlobals "zip" = some none)
    (z_min : PySem.W.nsIn K mainGlobals "min" = some none)
    (z_max : PySem.W.nsIn K mainGlobals "max" = some none)
    (z_set : PySem.W.nsIn K mainGlobals "set" = some none)
    : ∃ fd : FuncData, (∀ (s : Shared) (v : Value), BindsTo s fd ⟨[v], []⟩ [("_law_script", v)]) ∧ ∀ base : Heap, K.In base → base.Ns mainGlobals mg → FnOk l.prog w K mg base CX0 6 fa fd ["_law_script"] (spLaw K) := by
  have e := hfa.symm.trans (PySem.W.mg_of X G a_law)
  cases e
  have F_is_number := fun_mk (st := s_is_number) l_is_number c_is_number k_is_number
  have F_is_tolerance := fun_mk (st := s_is_tolerance) l_is_tolerance c_is_tolerance k_is_tolerance
  have F_check_number := fun_mk (st := s_check_number) l_check_number c_check_number k_check_number
  have F_check_tolerance := fun_mk (st := s_check_tolerance) l_check_tolerance c_check_tolerance k_check_tolerance
  have F_check_row := fun_mk (st := s_check_row) l_check_row c_check_row k_check_row
  have F_cells_and_ranks := fun_mk (st := s_cells_and_ranks) l_cells_and_ranks c_cells_and_ranks k_cells_and_ranks
  have F_ranked := fun_mk (st := s_ranked) l_ranked c_ranked k_ranked
  have F_same_shape := fun_mk (st := s_same_shape) l_same_shape c_same_shape k_same_shape
  have F_law_source := fun_mk (st := s_law_source) l_law_source c_law_source k_law_source
  have F_law_draw := fun_mk (st := s_law_draw) l_law_draw c_law_draw k_law_draw
  have F_law_tolerance := fun_mk (st := s_law_tolerance) l_law_tolerance c_law_tolerance k_law_tolerance
  have F_law_row := fun_mk (st := s_law_row) l_law_row c_law_row k_law_row
  have F_law_unlike := fun_mk (st := s_law_unlike) l_law_unlike c_law_unlike k_law_unlike
  have F_law_all_rests := fun_mk (st := s_law_all_rests) l_law_all_rests c_law_all_rests k_law_all_rests
  have F_law_is_ranked := fun_mk (st := s_law_is_ranked) l_law_is_ranked c_law_is_ranked k_law_is_ranked
  have F_law := fun_mk (st := s_law) l_law c_law k_law
  have b_is_number := F_is_number.binds (ps := ["thing"]) fun _ _ _ _ _ _ us hl => match us, hl with | [_], _ => rfl
  have b_is_tolerance := F_is_tolerance.binds (ps := ["thing"]) fun _ _ _ _ _ _ us hl => match us, hl with | [_], _ => rfl
  have b_check_number := F_check_number.binds (ps := ["number"]) fun _ _ _ _ _ _ us hl => match us, hl with | [_], _ => rfl
  have b_check_tolerance := F_check_tolerance.binds (ps := ["tolerance"]) fun _ _ _ _ _ _ us hl => match us, hl with | [_], _ => rfl
  have b_check_row := F_check_row.binds (ps := ["row"]) fun _ _ _ _ _ _ us hl => match us, hl with | [_], _ => rfl
  have b_cells_and_ranks := F_cells_and_ranks.binds (ps := ["row", "tolerance"]) fun _ _ _ _ _ _ us hl => match us, hl with | [_, _], _ => rfl
  have b_ranked := F_ranked.binds (ps := ["row", "tolerance"]) fun _ _ _ _ _ _ us hl => match us, hl with | [_, _], _ => rfl
  have b_same_shape := F_same_shape.binds (ps := ["row", "tolerance", "other", "other_tolerance"]) fun _ _ _ _ _ _ us hl => match us, hl with | [_, _, _, _], _ => rfl
  have b_law_source := F_law_source.binds (ps := ["_law_script"]) fun _ _ _ _ _ _ us hl => match us, hl with | [_], _ => rfl
  have b_law_draw := F_law_draw.binds (ps := ["_law_source_here", "_law_many"]) fun _ _ _ _ _ _ us hl => match us, hl with | [_, _], _ => rfl
  have b_law_tolerance := F_law_tolerance.binds (ps := ["_law_source_here"]) fun _ _ _ _ _ _ us hl => match us, hl with | [_], _ => rfl
  have b_law_row := F_law_row.binds (ps := ["_law_source_here", "_law_most", "_law_tolerance_here"]) fun _ _ _ _ _ _ us hl => match us, hl with | [_, _, _], _ => rfl
  have b_law_unlike := F_law_unlike.binds (ps := ["_law_numbers"]) fun _ _ _ _ _ _ us hl => match us, hl with | [_], _ => rfl
  have b_law_all_rests := F_law_all_rests.binds (ps := ["_law_many", "_law_width"]) fun _ _ _ _ _ _ us hl => match us, hl with | [_, _], _ => rfl
  have b_law_is_ranked := F_law_is_ranked.binds (ps := ["_law_row_here", "_law_width"]) fun _ _ _ _ _ _ us hl => match us, hl with | [_, _], _ => rfl
  have b_law := F_law.binds (ps := ["_law_script"]) fun _ _ _ _ _ _ us hl => match us, hl with | [_], _ => rfl
  let T : Txt K mg := {
t_MOST_ITEMS := t_MOST_ITEMS, m_MOST_ITEMS := PySem.W.mg_of X G g_MOST_ITEMS,
    f_is_number := f_is_number, d_is_number := _, F_is_number := F_is_number, b_is_number := b_is_number, m_is_number := PySem.W.mg_of X G a_is_number,
    f_is_tolerance := f_is_tolerance, d_is_tolerance := _, F_is_tolerance := F_is_tolerance, b_is_tolerance := b_is_tolerance, m_is_tolerance := PySem.W.mg_of X G a_is_tolerance,
    f_check_number := f_check_number, d_check_number := _, F_check_number := F_check_number, b_check_number := b_check_number, m_check_number := PySem.W.mg_of X G a_check_number,
    f_check_tolerance := f_check_tolerance, d_check_tolerance := _, F_check_tolerance := F_check_tolerance, b_check_tolerance := b_check_tolerance, m_check_tolerance := PySem.W.mg_of X G a_check_tolerance,
    f_check_row := f_check_row, d_check_row := _, F_check_row := F_check_row, b_check_row := b_check_row, m_check_row := PySem.W.mg_of X G a_check_row,
    f_cells_and_ranks := f_cells_and_ranks, d_cells_and_ranks := _, F_cells_and_ranks := F_cells_and_ranks, b_cells_and_ranks := b_cells_and_ranks, m_cells_and_ranks := PySem.W.mg_of X G a_cells_and_ranks,
    f_ranked := f_ranked, d_ranked := _, F_ranked := F_ranked, b_ranked := b_ranked, m_ranked := PySem.W.mg_of X G a_ranked,
    f_same_shape := f_same_shape, d_same_shape := _, F_same_shape := F_same_shape, b_same_shape := b_same_shape, m_same_shape := PySem.W.mg_of X G a_same_shape,
    f_law_source := f_law_source, d_law_source := _, F_law_source := F_law_source, b_law_source := b_law_source, m_law_source := PySem.W.mg_of X G a_law_source,
    f_law_draw := f_law_draw, d_law_draw := _, F_law_draw := F_law_draw, b_law_draw := b_law_draw, m_law_draw := PySem.W.mg_of X G a_law_draw,
    f_law_tolerance := f_law_tolerance, d_law_tolerance := _, F_law_tolerance := F_law_tolerance, b_law_tolerance := b_law_tolerance, m_law_tolerance := PySem.W.mg_of X G a_law_tolerance,
    f_law_row := f_law_row, d_law_row := _, F_law_row := F_law_row, b_law_row := b_law_row, m_law_row := PySem.W.mg_of X G a_law_row,
    f_law_unlike := f_law_unlike, d_law_unlike := _, F_law_unlike := F_law_unlike, b_law_unlike := b_law_unlike, m_law_unlike := PySem.W.mg_of X G a_law_unlike,
    f_law_all_rests := f_law_all_rests, d_law_all_rests := _, F_law_all_rests := F_law_all_rests, b_law_all_rests := b_law_all_rests, m_law_all_rests := PySem.W.mg_of X G a_law_all_rests,
    f_law_is_ranked := f_law_is_ranked, d_law_is_ranked := _, F_law_is_ranked := F_law_is_ranked, b_law_is_ranked := b_law_is_ranked, m_law_is_ranked := PySem.W.mg_of X G a_law_is_ranked,
    f_law := fa, d_law := _, F_law := F_law, b_law := b_law, m_law := hfa,
    m_int := PySem.W.mg_none_of X G z_int,
    m_str := PySem.W.mg_none_of X G z_str,
    m_bool := PySem.W.mg_none_of X G z_bool,
    m_range := PySem.W.mg_none_of X G z_range,
    m_len := PySem.W.mg_none_of X G z_len,
    m_isinstance := PySem.W.mg_none_of X G z_isinstance,
    m_list := PySem.W.mg_none_of X G z_list,
    m_tuple := PySem.W.mg_none_of X G z_tuple,
    m_enumerate := PySem.W.mg_none_of X G z_enumerate,
    m_sorted := PySem.W.mg_none_of X G z_sorted,
    m_abs := PySem.W.mg_none_of X G z_abs,
    m_zip := PySem.W.mg_none_of X G z_zip,
    m_min := PySem.W.mg_none_of X G z_min,
    m_max := PySem.W.mg_none_of X G z_max,
    m_set := PySem.W.mg_none_of X G z_set }
  exact ⟨PySem.W.fnOf "law" "law" (defArgs s_law) (defBody s_law) (defScope s_law) .none kV_law dc_law pm_law an_law cd_law ct_law, fun s v => .of_eq rfl, fun base _ _ => ok_law T⟩
theorem walk {l : PySem.W.OpenLaw} {q : Program} {loose : List Str} {XP : (Str → Option Value) → Heap → Prop} {YP : World → Heap → Prop} {d : DefRec} {K : Params → PySem.W.Frag} (hn : l.most = some 63) (hdf : d.params.defaults = [])
    (hY : ∀ (w : World) (h : Heap), YP w h → (K w.params).In h)
    (F : ∀ (w : World) (mg : Str → Option Value) (fa : Addr) (h : Heap), (K w.params).In h → h.Ns mainGlobals mg → mg d.name = some (.ref fa) →
      ∃ fd : FuncData, (∀ (s : Shared) (u : Value), BindsTo s fd ⟨[u], []⟩ [("_law_script", u)]) ∧ ∀ base : Heap, (K w.params).In base → base.Ns mainGlobals mg → FnOk l.prog w (K w.params) mg base CX0 6 fa fd ["_law_script"] (spLaw (K w.params))) :
    PySem.W.WalkO q loose XP YP l.row.toRowW d [] (fun f vs => PySem.call f vs) :=
  L2.walk_of (n := 63) (k := 6) (x := "_law_script") (CX := fun _ => CX0) (sp := fun w => spLaw (K w.params)) hn (by decide) hdf ⟨rfl, by decide, by decide⟩ hY F (fun _ _ a ns hl _ hS => ⟨a, ns, rfl, hS, hl, fun _ => rfl⟩) fun _ _ _ _ _ z => z
end Toy
open PySem PySem.W PyProof.Rows
set_option maxRecDepth 100000 in
set_option maxHeartbeats 0 in
theorem PySem.Challenge.cw_nearloops_k24_whole_one_ranked_row_holds : PySem.Challenge.rw_nearloops_k24_whole_one_ranked_row.Holds := by
  w_on; o_law; k_head; (case hw => w_witness2)
  k_fill
  refine Toy.walk (l := PySem.Challenge.rw_nearloops_k24_whole_one_ranked_row) rfl rfl (fun w h Y => PySem.W.kIn_of Y) ?F
  case F =>
    intro w mg fa h KX G hmg
    refine' Toy.all_mk KX G hmg ?g_MOST_ITEMS ?a_is_number ?l_is_number ?c_is_number ?k_is_number ?a_is_tolerance ?l_is_tolerance ?c_is_tolerance ?k_is_tolerance ?a_check_number ?l_check_number ?c_check_number ?k_check_number ?a_check_tolerance ?l_check_tolerance ?c_check_tolerance ?k_check_tolerance ?a_check_row ?l_check_row ?c_check_row ?k_check_row ?a_cells_and_ranks ?l_cells_and_ranks ?c_cells_and_ranks ?k_cells_and_ranks ?a_ranked ?l_ranked ?c_ranked ?k_ranked ?a_same_shape ?l_same_shape ?c_same_shape ?k_same_shape ?a_law_source ?l_law_source ?c_law_source ?k_law_source ?a_law_draw ?l_law_draw ?c_law_draw ?k_law_draw ?a_law_tolerance ?l_law_tolerance ?c_law_tolerance ?k_law_tolerance ?a_law_row ?l_law_row ?c_law_row ?k_law_row ?a_law_unlike ?l_law_unlike ?c_law_unlike ?k_law_unlike ?a_law_all_rests ?l_law_all_rests ?c_law_all_rests ?k_law_all_rests ?a_law_is_ranked ?l_law_is_ranked ?c_law_is_ranked ?k_law_is_ranked ?a_law ?l_law ?c_law ?k_law ?z_int ?z_str ?z_bool ?z_range ?z_len ?z_isinstance ?z_list ?z_tuple ?z_enumerate ?z_sorted ?z_abs ?z_zip ?z_min ?z_max ?z_set
    (case g_MOST_ITEMS => k_is)
    (case a_is_number => k_is)
    (case l_is_number => k_is)
    (case c_is_number => k_is)
    (case k_is_number => k_is)
    (case a_is_tolerance => k_is)
    (case l_is_tolerance => k_is)
    (case c_is_tolerance => k_is)
    (case k_is_tolerance => k_is)
    (case a_check_number => k_is)
    (case l_check_number => k_is)
    (case c_check_number => k_is)
    (case k_check_number => k_is)
    (case a_check_tolerance => k_is)
    (case l_check_tolerance => k_is)
    (case c_check_tolerance => k_is)
    (case k_check_tolerance => k_is)
    (case a_check_row => k_is)
    (case l_check_row => k_is)
    (case c_check_row => k_is)
    (case k_check_row => k_is)
    (case a_cells_and_ranks => k_is)
    (case l_cells_and_ranks => k_is)
    (case c_cells_and_ranks => k_is)
    (case k_cells_and_ranks => k_is)
    (case a_ranked => k_is)
    (case l_ranked => k_is)
    (case c_ranked => k_is)
    (case k_ranked => k_is)
    (case a_same_shape => k_is)
    (case l_same_shape => k_is)
    (case c_same_shape => k_is)
    (case k_same_shape => k_is)
    (case a_law_source => k_is)
    (case l_law_source => k_is)
    (case c_law_source => k_is)
    (case k_law_source => k_is)
    (case a_law_draw => k_is)
    (case l_law_draw => k_is)
    (case c_law_draw => k_is)
    (case k_law_draw => k_is)
    (case a_law_tolerance => k_is)
    (case l_law_tolerance => k_is)
    (case c_law_tolerance => k_is)
    (case k_law_tolerance => k_is)
    (case a_law_row => k_is)
    (case l_law_row => k_is)
    (case c_law_row => k_is)
    (case k_law_row => k_is)
    (case a_law_unlike => k_is)
    (case l_law_unlike => k_is)
    (case c_law_unlike => k_is)
    (case k_law_unlike => k_is)
    (case a_law_all_rests => k_is)
    (case l_law_all_rests => k_is)
    (case c_law_all_rests => k_is)
    (case k_law_all_rests => k_is)
    (case a_law_is_ranked => k_is)
    (case l_law_is_ranked => k_is)
    (case c_law_is_ranked => k_is)
    (case k_law_is_ranked => k_is)
    (case a_law => k_is)
    (case l_law => k_is)
    (case c_law => k_is)
    (case k_law => k_is)
    (case z_int => k_is)
    (case z_str => k_is)
    (case z_bool => k_is)
    (case z_range => k_is)
    (case z_len => k_is)
    (case z_isinstance => k_is)
    (case z_list => k_is)
    (case z_tuple => k_is)
    (case z_enumerate => k_is)
    (case z_sorted => k_is)
    (case z_abs => k_is)
    (case z_zip => k_is)
    (case z_min => k_is)
    (case z_max => k_is)
    (case z_set => k_is)

