import PyProof.Rows.All
import Wide.All
import OpenK.AllK
import Wide.FinOn
import HandS.Base
import HandS.Call
import HandS.List
import HandS.Ends
import HandS.Words
import HandS.WordsList
import HandS.Wide
import HandS.WideBits
import HandS.IsInst
import HandS.Comp
import HandS.Strs
import HandS.Codes
import HandS.More
import HandS.Dict
import HandS.WordsDict
import PySem.Challenge.RW_nearloops_k02_whole_groups_by_distance
set_option Elab.async false
set_option maxRecDepth 100000
set_option maxHeartbeats 4000000

namespace Toy
open PySem L2
def top (i : Nat) : Stmt := PySem.Challenge.pw_nearloops_k02_whole_groups_by_distance.main.body.getD i (.Pass ⟨0, 0, 0, 0⟩)
def l_GROUPS : List (Str × List Str) := [("any", ["below", "-<", "-=", "->", "<", "=", ">", "+<", "+=", "+>", "above"]), ("near", ["-=", "->", "<", "=", ">", "+<", "+="]), ("far", ["below", "-<", "+>", "above"]), ("less", ["below", "-<", "-=", "->", "<"]), ("more", [">", "+<", "+=", "+>", "above"]), ("under", ["below", "-<"]), ("over", ["+>", "above"]), ("cell", ["<", "=", ">"]), ("none", [])]
def c_PLACES : List V := [.str "below", .str "-<", .str "-=", .str "->", .str "<", .str "=", .str ">", .str "+<", .str "+=", .str "+>", .str "above"]
abbrev s_is_number : Stmt := top 6
abbrev s_is_tolerance : Stmt := top 7
abbrev s_check_number : Stmt := top 8
abbrev s_check_tolerance : Stmt := top 9
abbrev s_is_place : Stmt := top 13
abbrev s_is_group : Stmt := top 14
abbrev s_sign_of : Stmt := top 15
abbrev s_place_at : Stmt := top 16
abbrev s_place : Stmt := top 17
abbrev s_group : Stmt := top 18
abbrev s_law_source : Stmt := top 20
abbrev s_law_draw : Stmt := top 21
abbrev s_law_group_names : Stmt := top 22
abbrev s_law_tolerance : Stmt := top 23
abbrev s_law : Stmt := top 24
theorem sc_is_number : FnScope ["thing"] ["thing"] (defScope s_is_number) := ⟨rfl, rfl, rfl, by decide +kernel, rfl, by decide +kernel, by decide +kernel⟩
theorem sc_is_tolerance : FnScope ["thing"] ["thing"] (defScope s_is_tolerance) := ⟨rfl, rfl, rfl, by decide +kernel, rfl, by decide +kernel, by decide +kernel⟩
theorem sc_check_number : FnScope ["number"] ["number"] (defScope s_check_number) := ⟨rfl, rfl, rfl, by decide +kernel, rfl, by decide +kernel, by decide +kernel⟩
theorem sc_check_tolerance : FnScope ["tolerance"] ["tolerance"] (defScope s_check_tolerance) := ⟨rfl, rfl, rfl, by decide +kernel, rfl, by decide +kernel, by decide +kernel⟩
theorem sc_is_place : FnScope ["thing"] ["thing"] (defScope s_is_place) := ⟨rfl, rfl, rfl, by decide +kernel, rfl, by decide +kernel, by decide +kernel⟩
theorem sc_is_group : FnScope ["thing"] ["thing"] (defScope s_is_group) := ⟨rfl, rfl, rfl, by decide +kernel, rfl, by decide +kernel, by decide +kernel⟩
theorem sc_sign_of : FnScope ["rest", "other"] ["rest", "other"] (defScope s_sign_of) := ⟨rfl, rfl, rfl, by decide +kernel, rfl, by decide +kernel, by decide +kernel⟩
theorem sc_place_at : FnScope ["step", "sign"] ["step", "sign"] (defScope s_place_at) := ⟨rfl, rfl, rfl, by decide +kernel, rfl, by decide +kernel, by decide +kernel⟩
theorem sc_place : FnScope ["x", "kept", "tolerance", "cell", "rest", "kept_cell", "kept_rest"] ["x", "kept", "tolerance"] (defScope s_place) := ⟨rfl, rfl, rfl, by decide +kernel, rfl, by decide +kernel, by decide +kernel⟩
theorem sc_group : FnScope ["name"] ["name"] (defScope s_group) := ⟨rfl, rfl, rfl, by decide +kernel, rfl, by decide +kernel, by decide +kernel⟩
theorem sc_law_source : FnScope ["_law_script", "_law_great", "_law_seed", "_law_cell"] ["_law_script"] (defScope s_law_source) := ⟨rfl, rfl, rfl, by decide +kernel, rfl, by decide +kernel, by decide +kernel⟩
theorem sc_law_draw : FnScope ["_law_source_here", "_law_many", "_law_digit", "_law_mixed"] ["_law_source_here", "_law_many"] (defScope s_law_draw) := ⟨rfl, rfl, rfl, by decide +kernel, rfl, by decide +kernel, by decide +kernel⟩
theorem sc_law_group_names : FnScope [] [] (defScope s_law_group_names) := ⟨rfl, rfl, rfl, by decide +kernel, rfl, by decide +kernel, by decide +kernel⟩
theorem sc_law_tolerance : FnScope ["_law_source_here"] ["_law_source_here"] (defScope s_law_tolerance) := ⟨rfl, rfl, rfl, by decide +kernel, rfl, by decide +kernel, by decide +kernel⟩
theorem sc_law : FnScope ["_law_script", "_law_source_here", "_law_tolerance_here", "_law_kept", "_law_turn", "_law_step", "_law_x", "_law_where", "_law_due", "_law_name"] ["_law_script"] (defScope s_law) := ⟨rfl, rfl, rfl, by decide +kernel, rfl, by decide +kernel, by decide +kernel⟩

/-! ### the data -/
/-- H' tells all that H tells, but for what stands at p -/
def But (p : Addr) (H H' : Hp) : Prop := ∀ b o, b ≠ p → H b = some o → H' b = some o
theorem But.refl (p : Addr) (H : Hp) : But p H H := fun _ _ _ h => h
theorem But.trans {p : Addr} {H H1 H2 : Hp} (a : But p H H1) (b : But p H1 H2) : But p H H2 := fun c o n h => b c o n (a c o n h)
theorem But.upd {p : Addr} {H H' : Hp} {o : HO} (a : But p H H') : But p H (upd H' p o) := fun c o n h => by rw [upd_ne n]; exact a c o n h
theorem Same.but {p : Addr} {H H' : Hp} (a : Same H H') : But p H H' := fun c o _ h => a c o h
theorem Same.new {H : Hp} {p : Addr} {o : HO} (h : H p = none) : Same H (upd H p o) := fun b o e => by rw [upd_ne (ne_of_none e h)]; exact e
/-- a source of draws at p, at most n drawn so far -/
def Src (H : Hp) (p : Addr) (n : Int) : Prop := ∃ g s c : Int, H p = some (.lst [.int g, .int s, .int c]) ∧ 0 ≤ s ∧ s < 2147483647 ∧ 0 ≤ c ∧ c ≤ n
theorem Src.same {H H' : Hp} {p : Addr} {n : Int} (h : Src H p n) (e : Same H H') : Src H' p n := by
  obtain ⟨g, s, c, h, q⟩ := h
  exact ⟨g, s, c, e _ _ h, q⟩
theorem Src.le {H : Hp} {p : Addr} {n m : Int} (h : Src H p n) (e : n ≤ m) : Src H p m := by
  obtain ⟨g, s, c, h, q1, q2, q3, q4⟩ := h
  exact ⟨g, s, c, h, q1, q2, q3, by omega⟩

theorem draw_pow {x c : Int} (x0 : 0 ≤ x) (x1 : x < 2147483629) (c0 : 0 ≤ c) (c1 : c ≤ 1000000) : CPow (x * 48271 + 16807 * c * c + 11) 3 := by
  refine ⟨by decide, by decide, ?_⟩
  have h1 : 0 ≤ c * c := Int.mul_nonneg c0 c0
  have h2 : c * c ≤ 1000000 * 1000000 := Int.mul_le_mul c1 c1 c0 (by decide)
  have e : 16807 * c * c = 16807 * (c * c) := Int.mul_assoc _ _ _
  rw [e]
  generalize c * c = y at h1 h2
  show _ < 18446744073709551616
  omega
theorem ix_of {K : PySem.W.Frag} {H : Hp} {p : Addr} {xs : List V} {i : Int} {v : V} {Q : VK} (h : SqL K H p xs) (h2 : atI xs i = some v) (h3 : Q v H) : rIxL K (.ref p) (.int i) H Q := ⟨p, xs, i, v, rfl, rfl, h, h2, h3⟩
theorem set_of {H : Hp} {p : Addr} {xs : List V} {k : Int} {j : Nat} {v : V} {Q : Hp → Prop} (h : H p = some (.lst xs)) (h2 : ixN xs.length k = some j) (h3 : Q (upd H p (.lst (xs.set j v)))) : rSetL (.ref p) (.int k) v H Q := ⟨p, xs, k, j, rfl, rfl, h, h2, h3⟩
theorem ifne {x y : V} {A B : Prop} (h : x = y) (k : B) : if (!decide (x = y)) = true then A else B := by
  rw [decide_eq_true h]
  exact iteF k
theorem ifd {c A B : Prop} {inst : Decidable c} (h1 : c → A) (h2 : ¬ c → B) : if (@decide c inst) = true then A else B := by
  by_cases h : c
  · rw [if_pos (decide_eq_true h)]
    exact h1 h
  · rw [if_neg (by rw [decide_eq_false h]; exact Bool.false_ne_true)]
    exact h2 h
local macro_rules | `(tactic| walk_at "rd") => `(tactic| repeat (first
  | refine ⟨_, rfl, ?_⟩
  | refine ⟨_, _, rfl, rfl, ?_⟩
  | refine ⟨_, _, rfl, ?_⟩
  | refine ⟨rfl, ?_⟩
  | refine ⟨_, _, _, _, rfl, rfl, SqL.of upd_same, rfl, ?_⟩
  | refine ⟨_, _, _, _, rfl, rfl, upd_same, rfl, ?_⟩
  | refine iteT ?_
  | refine iteF ?_))
theorem take_more {α : Type} : ∀ {l : List α} {i : Nat} {x : α}, l[i]? = some x → l.take (i + 1) = l.take i ++ [x]
  | [], i, x, h => by simp at h
  | a :: l, 0, x, h => by
    have e : a = x := Option.some.inj h
    subst e
    rfl
  | a :: l, i + 1, x, h => by
    have ih := take_more (l := l) (i := i) (x := x) h
    show a :: l.take (i + 1) = a :: l.take i ++ [x]
    rw [ih]
    rfl
/-- a new object, the heap behind it a letter: generalize hH : upd H l _ = H' ahead of it -/
theorem new_of {H H' : Hp} {l : Addr} {o o' : HO} (hH : upd H l o = H') (h : H l = none) (e : o = o') : Same H H' ∧ H' l = some o' := by
  subst e hH
  exact ⟨Same.new h, upd_same⟩
/-- a changed object -/
theorem chg_of {H H' : Hp} {l : Addr} {o o' : HO} (hH : upd H l o = H') (e : o = o') : But l H H' ∧ H' l = some o' := by
  subst e hH
  exact ⟨(But.refl l H).upd, upd_same⟩
theorem Src.but {H H' : Hp} {p q : Addr} {n : Int} (h : Src H p n) (e : But q H H') (hne : p ≠ q) : Src H' p n := by
  obtain ⟨g, s, c, h, r⟩ := h
  exact ⟨g, s, c, e _ _ hne h, r⟩
theorem Src.ne {H : Hp} {p q : Addr} {n : Int} (h : Src H p n) (hq : H q = none) : q ≠ p := fun z => by
  obtain ⟨_, _, _, e, _⟩ := h
  rw [z, e] at hq
  cases hq
theorem int_at {l : List Int} {i : Nat} {x : V} (h : (l.map V.int)[i]? = some x) : ∃ z, x = V.int z ∧ l[i]? = some z := by
  rw [List.getElem?_map] at h
  cases e : l[i]? with
  | none => rw [e] at h; cases h
  | some z => rw [e] at h; exact ⟨z, (Option.some.inj h).symm, rfl⟩
/-! ### the promises -/
def spSource (K : PySem.W.Frag) : Sp := fun vs H Q _ => ∃ (a : Addr) (ns : List Int), vs = [.ref a] ∧ SqL K H a (ns.map V.int) ∧ ∀ (p : Addr) (H' : Hp), H p = none → Same H H' → Src H' p 0 → Q (.ref p) H'
def spDraw : Sp := fun vs H Q _ => ∃ (p : Addr) (m n : Int), vs = [.ref p, .int m] ∧ Src H p n ∧ n < 1000000 ∧ 0 < m ∧ m < 2 ^ 64 ∧
  ∀ (d : Int) (H' : Hp), 0 ≤ d → d < m → But p H H' → Src H' p (n + 1) → Q (.int d) H'
def spLaw (K : PySem.W.Frag) : Sp := fun vs H Q _ => ∃ (a : Addr) (ns : List Int), vs = [.ref a] ∧ SqL K H a (ns.map V.int) ∧ ns.length ≤ 63 ∧ ∀ H', Q (.bl true) H'
def spTol : Sp := fun vs H Q _ => ∃ (p : Addr) (n : Int), vs = [.ref p] ∧ Src H p n ∧ n < 1000000 ∧
  ∀ (d : Int) (H' : Hp), 1 ≤ d → d ≤ 1000000 → But p H H' → Src H' p (n + 1) → Q (.int d) H'
def big : Int := 1000000000000000000000000000000
theorem div_ok {x e : Int} (h1 : -big < x) (h2 : x < big) (h : 1 ≤ e) : CDivP x e := by
  refine divp_ok h ?_
  have b := PyProof.Rows.intBits_le (k := 100) (a := x) (by unfold big at *; show _ < 1267650600228229401496703205376; omega)
  omega
theorem big_eq : (10 : Int) ^ (30 : Int).toNat = big := by decide +kernel
def spIsNum : Sp := fun vs H Q _ => ∃ x : Int, vs = [.int x] ∧ -big < x ∧ x < big ∧ Q (.bl true) H
def spIsTol : Sp := fun vs H Q _ => ∃ x : Int, vs = [.int x] ∧ 1 ≤ x ∧ x < big ∧ Q (.bl true) H
def spChkNum : Sp := fun vs H Q _ => ∃ x : Int, vs = [.int x] ∧ -big < x ∧ x < big ∧ Q .non H
def spChkTol : Sp := fun vs H Q _ => ∃ x : Int, vs = [.int x] ∧ 1 ≤ x ∧ x < big ∧ Q .non H
def sgn (r s : Int) : Str := if r < s then "<" else if s < r then ">" else "="
theorem sgn_len (r s : Int) : 1 + (sgn r s).length ≤ sizeLine := by
  unfold sgn
  split
  · decide
  · split <;> decide
def plcD (d r s : Int) : Str := if d ≤ -2 then "below" else if 2 ≤ d then "above" else if d = -1 then "-" ++ sgn r s else if d = 1 then "+" ++ sgn r s else sgn r s
def plc (x k e : Int) : Str := plcD (x / e - k / e) (x % e) (k % e)
def spSign : Sp := fun vs H Q _ => ∃ r s : Int, vs = [.int r, .int s] ∧ Q (.str (sgn r s)) H
def spPlaceAt : Sp := fun vs H Q _ => ∃ d r s : Int, vs = [.int d, .str (sgn r s)] ∧ Q (.str (plcD d r s)) H
def spPlace : Sp := fun vs H Q _ => ∃ x k e : Int, vs = [.int x, .int k, .int e] ∧ -big < x ∧ x < big ∧ -big < k ∧ k < big ∧ 1 ≤ e ∧ e < big ∧ ∀ H', Same H H' → Q (.str (plc x k e)) H'
/-! ### the places by their numbers -/
def placesL : List Str := ["below", "-<", "-=", "->", "<", "=", ">", "+<", "+=", "+>", "above"]
theorem c_places : c_PLACES = placesL.map V.str := rfl
theorem inV_strs (z : Str) : ∀ l : List Str, inV (V.str z) (l.map V.str) = decide (z ∈ l)
  | [] => rfl
  | a :: r => by
    have ih := inV_strs z r
    unfold inV at ih ⊢
    rw [List.map_cons, List.any_cons, ih]
    by_cases e : a = z
    · subst e
      simp [eqV]
    · have e1 : eqV (V.str a) (V.str z) = false := by
        show (a == z) = false
        simpa using e
      have e2 : ¬ z = a := fun q => e q.symm
      simp [e1, e2]
theorem flat_strs : ∀ l : List Str, (l.map V.str).all flatV = true
  | [] => rfl
  | a :: r => by
    rw [List.map_cons, List.all_cons, flat_strs r]
    rfl
theorem dp_strs {K : PySem.W.Frag} {H : Hp} : ∀ l : List Str, DpAll K H (l.map V.str) (l.map PyData.str)
  | [] => .nil
  | a :: r => .cons (.str a) (dp_strs r)
theorem str_at {l : List Str} {i : Nat} {x : V} (h : (l.map V.str)[i]? = some x) : ∃ z, x = V.str z ∧ l[i]? = some z := by
  rw [List.getElem?_map] at h
  cases e : l[i]? with
  | none => rw [e] at h; cases h
  | some z => rw [e] at h; exact ⟨z, (Option.some.inj h).symm, rfl⟩
theorem places_nd : placesL.Nodup := by decide +kernel
theorem places_lt {j : Nat} {z : Str} (h : placesL[j]? = some z) : j < 11 := (List.getElem?_eq_some_iff.mp h).1
theorem places_first {j m : Nat} {z : Str} (h : placesL[j]? = some z) (hm : m < j) : placesL[m]? ≠ some z := fun e => by
  have q := nd_ix places_nd e h
  omega
theorem shaped_of {d : PyData} (h1 : d.canLay0 = true) (h2 : d.depth ≤ 64) : SeqAt.shaped d = true := by
  unfold SeqAt.shaped
  rw [h1, decide_eq_true h2]
  rfl
theorem lay_strs : ∀ l : List Str, (∀ z ∈ l, PyData.strOk z = true) → PyData.canLayAll0 (l.map PyData.str) = true
  | [], _ => rfl
  | a :: r, h => by
    rw [List.map_cons, PyData.canLayAll0, lay_strs r fun z hz => h z (List.mem_cons_of_mem _ hz), PyData.canLay0, h a List.mem_cons_self]
    rfl
theorem depth_strs : ∀ l : List Str, PyData.depthAll (l.map PyData.str) ≤ 1
  | [] => by simp [PyData.depthAll]
  | a :: r => by
    have ih := depth_strs r
    rw [List.map_cons, PyData.depthAll]
    have e : (PyData.str a).depth ≤ 1 := by simp [PyData.depth]
    omega
theorem shaped_strs {l : List Str} (h : ∀ z ∈ l, PyData.strOk z = true) : SeqAt.shaped (.list (l.map PyData.str)) = true :=
  shaped_of (by rw [PyData.canLay0]; exact lay_strs l h) (by rw [PyData.depth]; have := depth_strs l; omega)
theorem eqv_strs {l : List Str} (h : ∀ z ∈ l, PyData.strOk z = true) : PyData.eqv (.list (l.map PyData.str)) (.list (l.map PyData.str)) = true :=
  SeqAt.eqv_refl _ (by rw [PyData.canLay0]; exact lay_strs l h)
theorem places_ok : ∀ z ∈ placesL, PyData.strOk z = true := by decide +kernel
/-- the number of the place -/
def plcN (d r s : Int) : Nat := if d ≤ -2 then 0 else if 2 ≤ d then 10 else (if d = -1 then 1 else if d = 1 then 7 else 4) + (if r < s then 0 else if s < r then 2 else 1)
theorem plc_at (d r s : Int) : placesL[plcN d r s]? = some (plcD d r s) := by
  unfold plcN plcD sgn
  by_cases a : d ≤ -2
  · rw [if_pos a, if_pos a]; rfl
  by_cases b : 2 ≤ d
  · rw [if_neg a, if_pos b, if_neg a, if_pos b]; rfl
  rw [if_neg a, if_neg b, if_neg a, if_neg b]
  rcases (by omega : d = -1 ∨ d = 1 ∨ d = 0) with e | e | e
  all_goals subst e
  all_goals rcases (by omega : r < s ∨ s < r ∨ r = s) with c | c | c
  all_goals first
    | (rw [if_pos c, if_pos c]; rfl)
    | (rw [if_neg (by omega : ¬ r < s), if_pos c, if_neg (by omega : ¬ r < s), if_pos c]; rfl)
    | (subst c; rw [if_neg (Int.lt_irrefl r), if_neg (Int.lt_irrefl r), if_neg (Int.lt_irrefl r), if_neg (Int.lt_irrefl r)]; rfl)
    | (subst c; rw [if_neg (Int.lt_irrefl r), if_neg (Int.lt_irrefl r)]; rfl)
theorem plc_ok (x k e : Int) : PyData.strOk (plc x k e) = true := places_ok _ (List.mem_of_getElem? (plc_at _ _ _))
/-! ### is_place, turned -/
def spIsPlace : Sp := fun vs H Q _ => ∃ z : Str, vs = [.str z] ∧ Q (.bl (decide (z ∈ placesL))) H
/-! ### the groups -/
theorem isStr_ne {x z : Str} {t : Tok} (h : x ≠ z) : (Value.str x t).isStr z = false := by
  show (x == z) = false
  simpa using h
theorem groups_at : ∀ {l : List (Str × List Str)} {z : Str}, z ∈ l.map (·.1) → ∃ (j : Nat) (ps : List Str), l[j]? = some (z, ps)
  | (a, q) :: r, z, h => by
    rw [List.map_cons] at h
    rcases List.mem_cons.mp h with e | e
    · exact ⟨0, q, by rw [e]; rfl⟩
    · obtain ⟨j, ps, h'⟩ := groups_at e
      exact ⟨j + 1, ps, h'⟩
theorem names_in {j : Nat} {z : Str} {ps : List Str} (h : l_GROUPS[j]? = some (z, ps)) : z ∈ l_GROUPS.map (·.1) := List.mem_map.mpr ⟨_, List.mem_of_getElem? h, rfl⟩
theorem names_no : ∀ z ∈ l_GROUPS.map (·.1), z ∉ placesL := by decide +kernel
/-- group: of a name of the table, that is no place; of a place -/
def spIsGroup : Sp := fun vs H Q _ => ∃ z : Str, vs = [.str z] ∧ Q (.bl (decide (z ∈ placesL ∨ z ∈ l_GROUPS.map (·.1)))) H
def spGroup (K : PySem.W.Frag) : Sp := fun vs H Q _ => ∃ z : Str, vs = [.str z] ∧
  ((∃ (j : Nat) (ps : List Str), l_GROUPS[j]? = some (z, ps) ∧ ∀ u : Addr, (∀ H' : Hp, SqT K H' u (ps.map V.str)) → Q (.ref u) H) ∨
   (z ∈ placesL ∧ ∀ p : Addr, H p = none → Q (.ref p) (upd H p (.tup [.str z]))))
def namesL : List Str := ["any", "near", "far", "less", "more", "under", "over", "cell", "none"]
def spGroupNames : Sp := fun vs H Q _ => vs = [] ∧ ∀ p : Addr, H p = none → Q (.ref p) (upd H p (.lst (namesL.map V.str)))
theorem plc_facts {x k e : Int} (he : 1 ≤ e) : ∃ N : Nat, N ≤ 10 ∧ placesL[N]? = some (plc x k e) ∧ (N ≤ 1 ↔ x < k - e) ∧ (N ≤ 4 ↔ x < k) ∧ (N ≤ 8 ↔ x ≤ k + e) ∧ (6 ≤ N ↔ k < x) ∧ ((4 ≤ N ∧ N ≤ 6) ↔ x / e = k / e) := by
  refine ⟨plcN (x / e - k / e) (x % e) (k % e), ?_, plc_at _ _ _, ?_⟩
  · unfold plcN
    repeat' split
    all_goals omega
  have ex := Int.mul_ediv_add_emod x e
  have ek := Int.mul_ediv_add_emod k e
  have r0 := Int.emod_nonneg x (by omega : e ≠ 0)
  have r1 := Int.emod_lt_of_pos x (by omega : 0 < e)
  have s0 := Int.emod_nonneg k (by omega : e ≠ 0)
  have s1 := Int.emod_lt_of_pos k (by omega : 0 < e)
  generalize x / e = a at *
  generalize x % e = r at *
  generalize k / e = c at *
  generalize k % e = s at *
  by_cases d1 : a - c ≤ -2
  · have m : e * a ≤ e * (c - 2) := Int.mul_le_mul_of_nonneg_left (by omega) (by omega)
    rw [Int.mul_sub] at m
    rw [show plcN (a - c) r s = 0 by unfold plcN; rw [if_pos d1]]
    omega
  by_cases d2 : 2 ≤ a - c
  · have m : e * (c + 2) ≤ e * a := Int.mul_le_mul_of_nonneg_left (by omega) (by omega)
    rw [Int.mul_add] at m
    rw [show plcN (a - c) r s = 10 by unfold plcN; rw [if_neg d1, if_pos d2]]
    omega
  rcases (by omega : a = c - 1 ∨ a = c + 1 ∨ a = c) with q | q | q
  all_goals subst q
  all_goals try rw [Int.mul_sub] at ex
  all_goals try rw [Int.mul_add] at ex
  all_goals unfold plcN
  all_goals repeat' split
  all_goals omega
/-- which places a group has, by their numbers -/
theorem grp_of {x k e : Int} {N : Nat} {ps : List Str} (f : Nat → Bool) (hN : N ≤ 10) (hp : placesL[N]? = some (plc x k e)) (hf : ∀ j : _root_.Fin 11, decide (placesL.getD j.val "" ∈ ps) = f j.val) : decide (plc x k e ∈ ps) = f N := by
  have e1 : placesL.getD N "" = plc x k e := by rw [List.getD_eq_getElem?_getD, hp]; rfl
  rw [← e1]
  exact hf ⟨N, by omega⟩
def due (x k e : Int) : List (Key × V) := [(.inr "any", .bl true), (.inr "none", .bl false), (.inr "less", .bl (decide (x < k))), (.inr "more", .bl (decide (k < x))),
  (.inr "near", .bl (decide ((if x - k < 0 then -(x - k) else x - k) ≤ e))), (.inr "far", .bl (decide (e < (if x - k < 0 then -(x - k) else x - k)))),
  (.inr "under", .bl (decide (x < k - e))), (.inr "over", .bl (decide (k + e < x))), (.inr "cell", .bl (decide (V.int (x / e) = V.int (k / e))))]
theorem due_ok {x k e : Int} (he : 1 ≤ e) {j : Nat} {nm : Str} {ps : List Str} (h : l_GROUPS[j]? = some (nm, ps)) : valV (due x k e) (.inr nm : Key) = some (.bl (decide (plc x k e ∈ ps))) := by
  obtain ⟨N, hN, hp, f1, f2, f3, f4, f5⟩ := plc_facts (x := x) (k := k) he
  have fin : ∀ {b : Bool} (f : Nat → Bool), (∀ j : _root_.Fin 11, decide (placesL.getD j.val "" ∈ ps) = f j.val) → b = f N → (some (V.bl b)) = some (.bl (decide (plc x k e ∈ ps))) := fun {b} f hf hb => by
    rw [grp_of f hN hp hf, hb]
  have dd : ∀ {p q : Prop} [Decidable p] [Decidable q], (p ↔ q) → decide p = decide q := fun h => decide_eq_decide.mpr h
  match j, h with
  | 0, h =>
    cases Option.some.inj h
    refine Eq.trans (b := some (.bl true)) (by kernel_rfl) (fin (fun _ => true) (by decide +kernel) rfl)
  | 1, h =>
    cases Option.some.inj h
    refine Eq.trans (b := some (.bl (decide ((if x - k < 0 then -(x - k) else x - k) ≤ e)))) (by kernel_rfl) (fin (fun j => decide (2 ≤ j ∧ j ≤ 8)) (by decide +kernel) (dd ?_))
    split <;> omega
  | 2, h =>
    cases Option.some.inj h
    refine Eq.trans (b := some (.bl (decide (e < (if x - k < 0 then -(x - k) else x - k))))) (by kernel_rfl) (fin (fun j => decide (¬ (2 ≤ j ∧ j ≤ 8))) (by decide +kernel) (dd ?_))
    split <;> omega
  | 3, h =>
    cases Option.some.inj h
    exact Eq.trans (b := some (.bl (decide (x < k)))) (by kernel_rfl) (fin (fun j => decide (j ≤ 4)) (by decide +kernel) (dd (by omega)))
  | 4, h =>
    cases Option.some.inj h
    exact Eq.trans (b := some (.bl (decide (k < x)))) (by kernel_rfl) (fin (fun j => decide (6 ≤ j)) (by decide +kernel) (dd (by omega)))
  | 5, h =>
    cases Option.some.inj h
    exact Eq.trans (b := some (.bl (decide (x < k - e)))) (by kernel_rfl) (fin (fun j => decide (j ≤ 1)) (by decide +kernel) (dd (by omega)))
  | 6, h =>
    cases Option.some.inj h
    exact Eq.trans (b := some (.bl (decide (k + e < x)))) (by kernel_rfl) (fin (fun j => decide (9 ≤ j)) (by decide +kernel) (dd (by omega)))
  | 7, h =>
    cases Option.some.inj h
    refine Eq.trans (b := some (.bl (decide (V.int (x / e) = V.int (k / e))))) (by kernel_rfl) (fin (fun j => decide (4 ≤ j ∧ j ≤ 6)) (by decide +kernel) (dd ?_))
    exact ⟨fun q => f5.mpr (V.int.inj q), fun q => congrArg V.int (f5.mp q)⟩
  | 8, h =>
    cases Option.some.inj h
    exact Eq.trans (b := some (.bl false)) (by kernel_rfl) (fin (fun _ => false) (by decide +kernel) rfl)
  | _ + 9, h => cases h
/-- what the top has written: each def at its address, the built-ins not hidden -/
structure Txt (w : World) (K : PySem.W.Frag) (mg : Str → Option Value) where
  f_is_number : Addr
  d_is_number : FuncData
  F_is_number : Fun K "is_number" "is_number" s_is_number f_is_number d_is_number
  b_is_number : Binds K d_is_number ["thing"] []
  m_is_number : mg "is_number" = some (.ref f_is_number)
  f_is_tolerance : Addr
  d_is_tolerance : FuncData
  F_is_tolerance : Fun K "is_tolerance" "is_tolerance" s_is_tolerance f_is_tolerance d_is_tolerance
  b_is_tolerance : Binds K d_is_tolerance ["thing"] []
  m_is_tolerance : mg "is_tolerance" = some (.ref f_is_tolerance)
  f_check_number : Addr
  d_check_number : FuncData
  F_check_number : Fun K "check_number" "check_number" s_check_number f_check_number d_check_number
  b_check_number : Binds K d_check_number ["number"] []
  m_check_number : mg "check_number" = some (.ref f_check_number)
  f_check_tolerance : Addr
  d_check_tolerance : FuncData
  F_check_tolerance : Fun K "check_tolerance" "check_tolerance" s_check_tolerance f_check_tolerance d_check_tolerance
  b_check_tolerance : Binds K d_check_tolerance ["tolerance"] []
  m_check_tolerance : mg "check_tolerance" = some (.ref f_check_tolerance)
  f_is_place : Addr
  d_is_place : FuncData
  F_is_place : Fun K "is_place" "is_place" s_is_place f_is_place d_is_place
  b_is_place : Binds K d_is_place ["thing"] []
  m_is_place : mg "is_place" = some (.ref f_is_place)
  f_is_group : Addr
  d_is_group : FuncData
  F_is_group : Fun K "is_group" "is_group" s_is_group f_is_group d_is_group
  b_is_group : Binds K d_is_group ["thing"] []
  m_is_group : mg "is_group" = some (.ref f_is_group)
  f_sign_of : Addr
  d_sign_of : FuncData
  F_sign_of : Fun K "sign_of" "sign_of" s_sign_of f_sign_of d_sign_of
  b_sign_of : Binds K d_sign_of ["rest", "other"] []
  m_sign_of : mg "sign_of" = some (.ref f_sign_of)
  f_place_at : Addr
  d_place_at : FuncData
  F_place_at : Fun K "place_at" "place_at" s_place_at f_place_at d_place_at
  b_place_at : Binds K d_place_at ["step", "sign"] []
  m_place_at : mg "place_at" = some (.ref f_place_at)
  f_place : Addr
  d_place : FuncData
  F_place : Fun K "place" "place" s_place f_place d_place
  b_place : Binds K d_place ["x", "kept", "tolerance"] []
  m_place : mg "place" = some (.ref f_place)
  f_group : Addr
  d_group : FuncData
  F_group : Fun K "group" "group" s_group f_group d_group
  b_group : Binds K d_group ["name"] []
  m_group : mg "group" = some (.ref f_group)
  f_law_source : Addr
  d_law_source : FuncData
  F_law_source : Fun K "_law_source" "_law_source" s_law_source f_law_source d_law_source
  b_law_source : Binds K d_law_source ["_law_script"] []
  m_law_source : mg "_law_source" = some (.ref f_law_source)
  f_law_draw : Addr
  d_law_draw : FuncData
  F_law_draw : Fun K "_law_draw" "_law_draw" s_law_draw f_law_draw d_law_draw
  b_law_draw : Binds K d_law_draw ["_law_source_here", "_law_many"] []
  m_law_draw : mg "_law_draw" = some (.ref f_law_draw)
  f_law_group_names : Addr
  d_law_group_names : FuncData
  F_law_group_names : Fun K "_law_group_names" "_law_group_names" s_law_group_names f_law_group_names d_law_group_names
  b_law_group_names : Binds K d_law_group_names [] []
  m_law_group_names : mg "_law_group_names" = some (.ref f_law_group_names)
  f_law_tolerance : Addr
  d_law_tolerance : FuncData
  F_law_tolerance : Fun K "_law_tolerance" "_law_tolerance" s_law_tolerance f_law_tolerance d_law_tolerance
  b_law_tolerance : Binds K d_law_tolerance ["_law_source_here"] []
  m_law_tolerance : mg "_law_tolerance" = some (.ref f_law_tolerance)
  f_law : Addr
  d_law : FuncData
  F_law : Fun K "law" "law" s_law f_law d_law
  b_law : Binds K d_law ["_law_script"] []
  m_law : mg "law" = some (.ref f_law)
  m_int : mg "int" = none
  m_bool : mg "bool" = none
  m_str : mg "str" = none
  m_isinstance : mg "isinstance" = none
  m_abs : mg "abs" = none
  m_divmod : mg "divmod" = none
  m_range : mg "range" = none
  a_GROUPS : Addr
  m_GROUPS : mg "GROUPS" = some (.ref a_GROUPS)
  e_GROUPS : Array DictEntry
  n_GROUPS : Nat
  kd_GROUPS : KDict K w a_GROUPS e_GROUPS n_GROUPS
  y_GROUPS : ∀ (j : Nat) (nm : Str) (ps : List Str), l_GROUPS[j]? = some (nm, ps) → ∃ u : Addr, PySem.W.nsIn K a_GROUPS nm = some (some (.ref u)) ∧ ∀ H : Hp, SqT K H u (ps.map V.str)
  z_GROUPS : ∀ z : Str, z ∉ l_GROUPS.map (·.1) → PySem.W.nsIn K a_GROUPS z = some none
  a_PLACES : Addr
  q_PLACES : ∀ H : Hp, SqT K H a_PLACES c_PLACES
  o_PLACES : ∃ o, K.lookup a_PLACES = some o ∧ o.cls = .type "tuple" ∧ o.dict = none
  m_PLACES : mg "PLACES" = some (.ref a_PLACES)

section
variable {P : Program} {w : World} {K : PySem.W.Frag} {mg : Str → Option Value} {base : Heap}
theorem ok_is_number (T : Txt w K mg) : FnOk P w K mg base CX0 1 T.f_is_number T.d_is_number ["thing"] spIsNum := by
  refine T.F_is_number.ok sc_is_number (fun vs H Q E h => ?_) (fun cdv A outer s H vs Q E hr h => ?_)
  · obtain ⟨x, rfl, _⟩ := h
    rfl
  · obtain ⟨x, rfl, h1, h2, k⟩ := h
    refine ⟨_, (pss_cons (ps_if (PW.pt (pw_or (pt_not (pt_val (pe_callB call_isi (by rfl) T.m_isinstance (by decide +kernel) (pa_cons (pv 0) (pa_cons (pe_bltn (v := .ty "int") (by rfl) T.m_int (by decide +kernel) rfl) pa_nil))))) (pw_or1 (pt_val (pe_callB call_isi (by rfl) T.m_isinstance (by decide +kernel) (pa_cons (pv 0) (pa_cons (pe_bltn (v := .ty "bool") (by rfl) T.m_bool (by decide +kernel) rfl) pa_nil)))))))
      (pss_one (ps_ret pe_bl))
      pss_nil)
      (pss_one (ps_ret (pe_cmpR op_lt (pe_callB call_abs (by rfl) T.m_abs (by decide +kernel) (pa_cons (pv 0) pa_nil)) (pe_op op_pow pe_int pe_int) (nomark _))))), ?_⟩
    walk_at "rd"
    refine ⟨_, _, _, _, true, rfl, .ty _, .base (.int _), kit_ty (by decide +kernel), ?_⟩
    walk_at "rd"
    refine ⟨_, _, _, _, false, rfl, .ty _, .base (.int _), kit_ty (by decide +kernel), ?_⟩
    walk_at "rd"
    refine ⟨⟨by decide, by decide, by decide⟩, ?_⟩
    walk_at "rd"
    show Q (.bl (decide ((if x < 0 then -x else x) < (10 : Int) ^ (30 : Int).toNat))) _
    rw [big_eq, decide_eq_true (by split <;> omega)]
    exact k
theorem ok_is_tolerance (T : Txt w K mg) : FnOk P w K mg base CX0 2 T.f_is_tolerance T.d_is_tolerance ["thing"] spIsTol := by
  refine T.F_is_tolerance.ok sc_is_tolerance (fun vs H Q E h => ?_) (fun cdv A outer s H vs Q E hr h => ?_)
  · obtain ⟨x, rfl, _⟩ := h
    rfl
  · obtain ⟨x, rfl, h1, h2, k⟩ := h
    refine ⟨_, (pss_one (ps_ret (pe_and (pe_call (ok_is_number T) (hr.mono (by decide)) (by rfl) T.m_is_number T.F_is_number.kp T.b_is_number .nil pass0 (pa_cons (pv 0) pa_nil)) (pe_one (pe_cmpR op_ge (pv 0) pe_int (nomark _)))))), ?_⟩
    walk_at "rd"
    refine ⟨by unfold big at *; omega, h2, ?_⟩
    walk_at "rd"
    show Q (.bl (decide (1 ≤ x))) _
    rw [decide_eq_true h1]
    exact k
theorem ok_check_number (T : Txt w K mg) : FnOk P w K mg base CX0 2 T.f_check_number T.d_check_number ["number"] spChkNum := by
  refine T.F_check_number.ok sc_check_number (fun vs H Q E h => ?_) (fun cdv A outer s H vs Q E hr h => ?_)
  · obtain ⟨x, rfl, _⟩ := h
    rfl
  · obtain ⟨x, rfl, h1, h2, k⟩ := h
    refine ⟨_, (pss_one (ps_if (pt_not (pt_val (pe_call (ok_is_number T) (hr.mono (by decide)) (by rfl) T.m_is_number T.F_is_number.kp T.b_is_number .nil pass0 (pa_cons (pv 0) pa_nil))))
      (pss_one ps_never)
      pss_nil)), ?_⟩
    walk_at "rd"
    refine ⟨h1, h2, ?_⟩
    walk_at "rd"
    exact k
theorem ok_check_tolerance (T : Txt w K mg) : FnOk P w K mg base CX0 3 T.f_check_tolerance T.d_check_tolerance ["tolerance"] spChkTol := by
  refine T.F_check_tolerance.ok sc_check_tolerance (fun vs H Q E h => ?_) (fun cdv A outer s H vs Q E hr h => ?_)
  · obtain ⟨x, rfl, _⟩ := h
    rfl
  · obtain ⟨x, rfl, h1, h2, k⟩ := h
    refine ⟨_, (pss_one (ps_if (pt_not (pt_val (pe_call (ok_is_tolerance T) (hr.mono (by decide)) (by rfl) T.m_is_tolerance T.F_is_tolerance.kp T.b_is_tolerance .nil pass0 (pa_cons (pv 0) pa_nil))))
      (pss_one ps_never)
      pss_nil)), ?_⟩
    walk_at "rd"
    refine ⟨h1, h2, ?_⟩
    walk_at "rd"
    exact k
theorem ok_is_place (T : Txt w K mg) : FnOk P w K mg base CX0 1 T.f_is_place T.d_is_place ["thing"] spIsPlace := by
  refine T.F_is_place.ok sc_is_place (fun vs H Q E h => ?_) (fun cdv A outer s H vs Q E hr h => ?_)
  · obtain ⟨z, rfl, _⟩ := h
    rfl
  · obtain ⟨z, rfl, k⟩ := h
    refine ⟨_, (pss_one (ps_ret (pe_and (pe_callB call_isi (by rfl) T.m_isinstance (by decide +kernel) (pa_cons (pv 0) (pa_cons (pe_bltn (v := .ty "str") (by rfl) T.m_str (by decide +kernel) rfl) pa_nil))) (pe_one (pe_cmpR op_in_seq (pv 0) (pe_glob (v := .ref T.a_PLACES) rfl T.m_PLACES rfl) (by rfl)))))), ?_⟩
    walk_at "rd"
    refine ⟨_, _, _, _, true, rfl, .ty _, .base (.str _), kit_ty (by decide +kernel), ?_⟩
    walk_at "rd"
    refine ⟨_, _, rfl, .inr (T.q_PLACES _), rfl, flat_strs placesL, ?_⟩
    show Q (.bl (inV (.str z) (placesL.map V.str))) H
    rw [inV_strs]
    exact k
theorem ok_sign_of (T : Txt w K mg) : FnOk P w K mg base CX0 1 T.f_sign_of T.d_sign_of ["rest", "other"] spSign := by
  refine T.F_sign_of.ok sc_sign_of (fun vs H Q E h => ?_) (fun cdv A outer s H vs Q E hr h => ?_)
  · obtain ⟨r, s, rfl, _⟩ := h
    rfl
  · obtain ⟨r, s, rfl, k⟩ := h
    refine ⟨_, (pss_cons (ps_if (pt_cmpR op_lt (pv 0) (pv 1) (nomark _))
      (pss_one (ps_ret pe_str))
      pss_nil)
      (pss_cons (ps_if (pt_cmpR op_gt (pv 0) (pv 1) (nomark _))
      (pss_one (ps_ret pe_str))
      pss_nil)
      (pss_one (ps_ret pe_str)))), ?_⟩
    walk_at "rd"
    unfold sgn at k
    refine ifd (fun c => ?_) (fun c => ?_)
    · rw [if_pos c] at k
      exact k
    · rw [if_neg c] at k
      walk_at "rd"
      refine ifd (fun d => ?_) (fun d => ?_)
      · rw [if_pos d] at k
        exact k
      · rw [if_neg d] at k
        exact k
theorem ok_place_at (T : Txt w K mg) : FnOk P w K mg base CX0 1 T.f_place_at T.d_place_at ["step", "sign"] spPlaceAt := by
  refine T.F_place_at.ok sc_place_at (fun vs H Q E h => ?_) (fun cdv A outer s H vs Q E hr h => ?_)
  · obtain ⟨d, r, s, rfl, _⟩ := h
    rfl
  · obtain ⟨d, r, s, rfl, q'⟩ := h
    refine ⟨_, (pss_cons (ps_if (pt_cmpR op_le (pv 0) (pe_un un_neg pe_int) (nomark _))
      (pss_one (ps_ret pe_str))
      pss_nil)
      (pss_cons (ps_if (pt_cmpR op_ge (pv 0) pe_int (nomark _))
      (pss_one (ps_ret pe_str))
      pss_nil)
      (pss_cons (ps_if (pt_cmpR op_eq (pv 0) (pe_un un_neg pe_int) (nomark _))
      (pss_one (ps_ret (pe_op op_add_str pe_str (pv 1))))
      pss_nil)
      (pss_cons (ps_if (pt_cmpR op_eq (pv 0) pe_int (nomark _))
      (pss_one (ps_ret (pe_op op_add_str pe_str (pv 1))))
      pss_nil)
      (pss_one (ps_ret (pv 1))))))), ?_⟩
    unfold plcD at q'
    walk_at "rd"
    refine ifd (fun c => ?_) (fun c => ?_)
    · rw [if_pos c] at q'
      exact q'
    rw [if_neg c] at q'
    walk_at "rd"
    refine ifd (fun c => ?_) (fun c => ?_)
    · rw [if_pos c] at q'
      exact q'
    rw [if_neg c] at q'
    walk_at "rd"
    refine ifd (fun c => ?_) (fun c => ?_)
    · rw [if_pos (V.int.inj c)] at q'
      walk_at "rd"
      exact ⟨sgn_len _ _, q'⟩
    rw [if_neg (fun z => c (congrArg V.int z))] at q'
    walk_at "rd"
    refine ifd (fun c => ?_) (fun c => ?_)
    · rw [if_pos (V.int.inj c)] at q'
      walk_at "rd"
      exact ⟨sgn_len _ _, q'⟩
    rw [if_neg (fun z => c (congrArg V.int z))] at q'
    walk_at "rd"
    exact q'
theorem ok_place (T : Txt w K mg) : FnOk P w K mg base CX0 4 T.f_place T.d_place ["x", "kept", "tolerance"] spPlace := by
  refine T.F_place.ok sc_place (fun vs H Q E h => ?_) (fun cdv A outer s H vs Q E hr h => ?_)
  · obtain ⟨x, k, e, rfl, _⟩ := h
    rfl
  · obtain ⟨x, k, e, rfl, x1, x2, k1, k2, e1, e2, q⟩ := h
    refine ⟨_, (pss_cons (ps_expr (pe_call (ok_check_number T) (hr.mono (by decide)) (by rfl) T.m_check_number T.F_check_number.kp T.b_check_number .nil pass0 (pa_cons (pv 0) pa_nil)))
      (pss_cons (ps_expr (pe_call (ok_check_number T) (hr.mono (by decide)) (by rfl) T.m_check_number T.F_check_number.kp T.b_check_number .nil pass0 (pa_cons (pv 1) pa_nil)))
      (pss_cons (ps_expr (pe_call (ok_check_tolerance T) (hr.mono (by decide)) (by rfl) T.m_check_tolerance T.F_check_tolerance.kp T.b_check_tolerance .nil pass0 (pa_cons (pv 2) pa_nil)))
      (pss_cons (ps_asg (pe_callB call_divmodW (by rfl) T.m_divmod (by decide +kernel) (pa_cons (pv 0) (pa_cons (pv 2) pa_nil))) (pg_tup (by rfl) (pgs_cons (pg_name (i := 3) sc_place.nd rfl (Or.inl rfl)) (pgs_cons (pg_name (i := 4) sc_place.nd rfl (Or.inl rfl)) pgs_nil))))
      (pss_cons (ps_asg (pe_callB call_divmodW (by rfl) T.m_divmod (by decide +kernel) (pa_cons (pv 1) (pa_cons (pv 2) pa_nil))) (pg_tup (by rfl) (pgs_cons (pg_name (i := 5) sc_place.nd rfl (Or.inl rfl)) (pgs_cons (pg_name (i := 6) sc_place.nd rfl (Or.inl rfl)) pgs_nil))))
      (pss_one (ps_ret (pe_call (ok_place_at T) (hr.mono (by decide)) (by rfl) T.m_place_at T.F_place_at.kp T.b_place_at .nil pass0 (pa_cons (pe_op op_sub (pv 3) (pv 5)) (pa_cons (pe_call (ok_sign_of T) (hr.mono (by decide)) (by rfl) T.m_sign_of T.F_sign_of.kp T.b_sign_of .nil pass0 (pa_cons (pv 4) (pa_cons (pv 6) pa_nil))) pa_nil)))))))))), ?_⟩
    walk_at "rd"
    refine ⟨x1, x2, ?_⟩
    walk_at "rd"
    refine ⟨k1, k2, ?_⟩
    walk_at "rd"
    refine ⟨e1, e2, ?_⟩
    walk_at "rd"
    refine ⟨div_ok x1 x2 e1, fun p hp => ?_⟩
    have s1 : Same H (upd H p (.tup [.int (x / e), .int (x % e)])) := Same.new hp
    refine ⟨_, _, rfl, SqT.of upd_same, rfl, ?_⟩
    walk_at "rd"
    refine ⟨div_ok k1 k2 e1, fun p2 hp2 => ?_⟩
    refine ⟨_, _, rfl, SqT.of upd_same, rfl, ?_⟩
    have s2 := s1.trans (Same.new (o := .tup [.int (k / e), .int (k % e)]) hp2)
    walk_at "rd"
    exact ⟨_, _, _, rfl, q _ s2⟩
theorem ok_is_group (T : Txt w K mg) : FnOk P w K mg base CX0 1 T.f_is_group T.d_is_group ["thing"] spIsGroup := by
  refine T.F_is_group.ok sc_is_group (fun vs H Q E h => ?_) (fun cdv A outer s H vs Q E hr h => ?_)
  · obtain ⟨z, rfl, _⟩ := h
    rfl
  · obtain ⟨z, rfl, k⟩ := h
    refine ⟨_, (pss_one (ps_ret (pe_and (pe_callB call_isi (by rfl) T.m_isinstance (by decide +kernel) (pa_cons (pv 0) (pa_cons (pe_bltn (v := .ty "str") (by rfl) T.m_str (by decide +kernel) rfl) pa_nil))) (pe_one (pe_or (pe_cmpR op_in_seq (pv 0) (pe_glob (v := .ref T.a_PLACES) rfl T.m_PLACES rfl) (by rfl)) (pe_one (pe_cmpR (op_in_kd T.kd_GROUPS) (pv 0) (pe_glob (v := .ref T.a_GROUPS) rfl T.m_GROUPS rfl) (by rfl)))))))), ?_⟩
    walk_at "rd"
    refine ⟨_, _, _, _, true, rfl, .ty _, .base (.str _), kit_ty (by decide +kernel), ?_⟩
    walk_at "rd"
    refine ⟨_, _, rfl, .inr (T.q_PLACES _), rfl, flat_strs placesL, ?_⟩
    refine ⟨decide (z ∈ placesL), congrArg V.bl (inV_strs z placesL), ?_⟩
    by_cases h1 : z ∈ placesL
    · rw [decide_eq_true h1]
      rw [decide_eq_true (Or.inl h1)] at k
      refine iteT ?_
      exact k
    rw [decide_eq_false h1]
    refine iteF ?_
    walk_at "rd"
    by_cases h2 : z ∈ l_GROUPS.map (·.1)
    · obtain ⟨j, ps, hj⟩ := groups_at h2
      obtain ⟨u, hu, _⟩ := T.y_GROUPS j z ps hj
      refine ⟨_, _, rfl, rfl, hu, ?_⟩
      rw [decide_eq_true (Or.inr h2)] at k
      exact k
    · refine ⟨_, _, rfl, rfl, T.z_GROUPS z h2, ?_⟩
      rw [decide_eq_false (fun q => q.elim h1 h2)] at k
      exact k
theorem ok_group (T : Txt w K mg) : FnOk P w K mg base CX0 2 T.f_group T.d_group ["name"] (spGroup K) := by
  refine T.F_group.ok sc_group (fun vs H Q E h => ?_) (fun cdv A outer s H vs Q E hr h => ?_)
  · obtain ⟨z, rfl, _⟩ := h
    rfl
  · obtain ⟨z, rfl, k⟩ := h
    refine ⟨_, (pss_cons (ps_if (pt_not (pt_val (pe_call (ok_is_group T) (hr.mono (by decide)) (by rfl) T.m_is_group T.F_is_group.kp T.b_is_group .nil pass0 (pa_cons (pv 0) pa_nil))))
      (pss_one ps_never)
      pss_nil)
      (pss_cons (ps_if (pt_val (pe_call (ok_is_place T) (hr.mono (by decide)) (by rfl) T.m_is_place T.F_is_place.kp T.b_is_place .nil pass0 (pa_cons (pv 0) pa_nil)))
      (pss_one (ps_ret (pe_tup (pa_cons (pv 0) pa_nil))))
      pss_nil)
      (pss_one (ps_ret (pe_ix ix_kdict (pe_glob (v := .ref T.a_GROUPS) rfl T.m_GROUPS rfl) (pv 0) (fun _ _ => rfl)))))), ?_⟩
    have hin : decide (z ∈ placesL ∨ z ∈ l_GROUPS.map (·.1)) = true := decide_eq_true (by
      rcases k with ⟨j, ps, hj, _⟩ | ⟨h, _⟩
      · exact .inr (names_in hj)
      · exact .inl h)
    refine ⟨_, rfl, z, rfl, ?_⟩
    rw [hin]
    walk_at "rd"
    by_cases h1 : z ∈ placesL
    · rw [decide_eq_true h1]
      walk_at "rd"
      rcases k with ⟨j, ps, hj, _⟩ | ⟨_, k⟩
      · exact absurd h1 (names_no z (names_in hj))
      exact ⟨by show 1 ≤ sizeLine; decide, k⟩
    · rw [decide_eq_false h1]
      walk_at "rd"
      rcases k with ⟨j, ps, hj, k⟩ | ⟨h, _⟩
      · obtain ⟨u, hu, hq⟩ := T.y_GROUPS j z ps hj
        exact ⟨_, _, .ref u, rfl, rfl, ⟨_, _, _, T.kd_GROUPS.at_, T.kd_GROUPS.lit, hu, rfl⟩, k u hq⟩
      · exact absurd h h1
theorem ok_law_source (T : Txt w K mg) : FnOk P w K mg base CX0 1 T.f_law_source T.d_law_source ["_law_script"] (spSource K) := by
  refine T.F_law_source.ok sc_law_source (fun vs H Q E h => ?_) (fun cdv A outer s H vs Q E hr h => ?_)
  · obtain ⟨a, ns, rfl, _⟩ := h
    rfl
  · obtain ⟨a, ns, rfl, hS, k⟩ := h
    refine ⟨_, (pss_cons (ps_asg (pe_tup (pa_cons pe_int (pa_cons pe_int pa_nil))) (pg_tup (by rfl) (pgs_cons (pg_name (i := 1) sc_law_source.nd rfl (Or.inl rfl)) (pgs_cons (pg_name (i := 2) sc_law_source.nd rfl (Or.inl rfl)) pgs_nil))))
      (pss_cons (ps_for PassesOwn.never rfl (pi_list (pv 0)) (pg_name (i := 3) sc_law_source.nd rfl (Or.inl rfl))
      (pss_cons (ps_if (PW.pt (pw_and (pt_cmpR op_eq (pv 1) pe_int (nomark _)) (pw_and1 (pt_cmpR op_ge (pv 3) (pe_op op_pow pe_int pe_int) (nomark _)))))
      (pss_one (ps_set (i := 1) sc_law_source.nd rfl (Or.inl rfl) (pv 3)))
      pss_nil)
      (pss_one (ps_set (i := 2) sc_law_source.nd rfl (Or.inl rfl) (pe_op op_mod (pe_callTy call_int1 (by rfl) T.m_int (by decide +kernel) (pa_cons (pe_op op_add (pe_op op_add (pe_op op_mul (pv 2) pe_int) (pv 3)) pe_int) pa_nil)) pe_int)))))
      (pss_one (ps_ret (pe_lst (pa_cons (pv 1) (pa_cons (pv 2) (pa_cons pe_int pa_nil)))))))), ?_⟩
    refine ⟨by decide, fun p hp => ?_⟩
    have s1 : Same H (upd H p (.tup [.int 0, .int 17])) := Same.new hp
    refine ⟨_, _, rfl, SqT.of upd_same, rfl, ?_⟩
    walk_at "rd"
    refine ⟨⟨_, s1.seq hS⟩, for_list (K := K) (a := a) (xs := ns.map V.int) (fun i σ H' => ∃ (g s : Int) (v : Option V), σ = [some (.ref a), some (.int g), some (.int s), v] ∧ 0 ≤ s ∧ s < 2147483647 ∧ Same H H')
      ⟨0, 17, none, rfl, by decide, by decide, s1⟩ (fun i σ H' _ ⟨_, _, _, _, _, _, z⟩ => z.seq hS) ?_ ?_⟩
    · rintro i y σ H' hi ⟨g, s, v, rfl, s0, s2, z⟩
      obtain ⟨u, rfl⟩ : ∃ u, y = V.int u := by
        rw [List.getElem?_map] at hi
        cases e : ns[i]? with
        | none => rw [e] at hi; cases hi
        | some u => rw [e] at hi; exact ⟨u, (Option.some.inj hi).symm⟩
      have fin : ∀ g' : Int, ∃ (g'' s'' : Int) (v'' : Option V), ([some (V.ref a), some (V.int g'), some (V.int ((s * 31 + u + 7) % 2147483647)), some (V.int u)] : St) = [some (.ref a), some (.int g''), some (.int s''), v''] ∧ 0 ≤ s'' ∧ s'' < 2147483647 ∧ Same H H' :=
        fun g' => ⟨g', _, _, rfl, Int.emod_nonneg _ (by decide), Int.emod_lt_of_pos _ (by decide), z⟩
      walk_at "rd"
      refine ifd (fun cg => ?_) (fun cg => ?_)
      · walk_at "rd"
        refine ⟨⟨by decide, by decide, by decide⟩, ?_⟩
        walk_at "rd"
        refine ifd (fun ch => ?_) (fun ch => ?_)
        · walk_at "rd"
          refine ⟨Or.inr ⟨by decide, by decide⟩, ?_⟩
          walk_at "rd"
          refine Or.inl ?_
          walk_at "rd"
          refine ⟨(by decide : (0 : Int) < 2147483647), ?_⟩
          exact fin u
        · walk_at "rd"
          refine ⟨Or.inr ⟨by decide, by decide⟩, ?_⟩
          walk_at "rd"
          refine Or.inl ?_
          walk_at "rd"
          refine ⟨(by decide : (0 : Int) < 2147483647), ?_⟩
          exact fin g
      · walk_at "rd"
        refine ⟨Or.inr ⟨by decide, by decide⟩, ?_⟩
        walk_at "rd"
        refine Or.inl ?_
        walk_at "rd"
        refine ⟨(by decide : (0 : Int) < 2147483647), ?_⟩
        exact fin g
    · rintro σ H' ⟨g, s, v, rfl, s0, s2, z⟩
      walk_at "rd"
      refine ⟨by show 3 ≤ sizeLine; decide, fun p2 hp2 => ?_⟩
      exact k p2 _ (z.free hp2) (z.trans (Same.new hp2)) ⟨g, s, 0, upd_same, s0, s2, by decide, by decide⟩
theorem ok_law_draw (T : Txt w K mg) : FnOk P w K mg base CX0 1 T.f_law_draw T.d_law_draw ["_law_source_here", "_law_many"] spDraw := by
  refine T.F_law_draw.ok sc_law_draw (fun vs H Q E h => ?_) (fun cdv A outer s H vs Q E hr h => ?_)
  · obtain ⟨p, m, n, rfl, _⟩ := h
    rfl
  · obtain ⟨p, m, n, rfl, S, hn, m0, m1, k⟩ := h
    refine ⟨_, (pss_cons (ps_asg (pe_op op_add (pe_ix ix_list (pv 0) pe_int (fun _ _ => rfl)) pe_int) (pg_sub (pv 0) pe_int set_list))
      (pss_cons (ps_if (pt_cmpR op_gt (pe_ix ix_list (pv 0) pe_int (fun _ _ => rfl)) pe_int (nomark _))
      (pss_cons (ps_set (i := 2) sc_law_draw.nd rfl (Or.inl rfl) (pe_op op_mod (pe_callTy call_int1 (by rfl) T.m_int (by decide +kernel) (pa_cons (pe_ix ix_list (pv 0) pe_int (fun _ _ => rfl)) pa_nil)) (pv 1)))
      (pss_cons (ps_asg (pe_op op_fdivW (pe_ix ix_list (pv 0) pe_int (fun _ _ => rfl)) (pv 1)) (pg_sub (pv 0) pe_int set_list))
      (pss_one (ps_ret (pv 2)))))
      pss_nil)
      (pss_cons (ps_set (i := 3) sc_law_draw.nd rfl (Or.inl rfl) (pe_op op_mod (pe_op op_pow (pe_op op_add (pe_ix ix_list (pv 0) pe_int (fun _ _ => rfl)) (pe_op op_mul pe_int (pe_ix ix_list (pv 0) pe_int (fun _ _ => rfl)))) pe_int) pe_int))
      (pss_one (ps_ret (pe_op op_mod (pe_op op_mod (pe_op op_pow (pe_op op_add (pe_op op_add (pe_op op_mul (pv 3) pe_int) (pe_op op_mul (pe_op op_mul pe_int (pe_ix ix_list (pv 0) pe_int (fun _ _ => rfl))) (pe_ix ix_list (pv 0) pe_int (fun _ _ => rfl)))) pe_int) pe_int) pe_int) (pv 1))))))), ?_⟩
    obtain ⟨g, s, c, hp, s0, s1, c0, c1⟩ := S
    walk_at "rd"
    refine ⟨_, _, _, _, rfl, rfl, SqL.of hp, rfl, ?_⟩
    walk_at "rd"
    refine ⟨_, _, _, _, rfl, rfl, hp, rfl, ?_⟩
    walk_at "rd"
    refine ifd (fun cg => ?_) (fun cg => ?_)
    · walk_at "rd"
      refine Or.inl ?_
      walk_at "rd"
      refine ⟨m0, ?_⟩
      walk_at "rd"
      refine ⟨wide_div (b := 64) m0 (by omega) (by decide) (by decide), ?_⟩
      walk_at "rd"
      exact k _ _ (Int.emod_nonneg g (by omega)) (Int.emod_lt_of_pos g m0) (((But.refl p H).upd).upd) ⟨g / m, s, c + 1, upd_same, s0, s1, by omega, by omega⟩
    · walk_at "rd"
      refine ⟨Or.inl ⟨by decide, by decide⟩, ?_⟩
      walk_at "rd"
      refine ⟨⟨by decide, by decide, by omega⟩, ?_⟩
      walk_at "rd"
      refine ⟨(by decide : (0 : Int) < 2147483629), ?_⟩
      have x0 := Int.emod_nonneg ((s + 7919 * (c + 1)) ^ Int.toNat 5) (by decide : (2147483629 : Int) ≠ 0)
      have x1 := Int.emod_lt_of_pos ((s + 7919 * (c + 1)) ^ Int.toNat 5) (by decide : (0 : Int) < 2147483629)
      walk_at "rd"
      refine ⟨Or.inr ⟨by decide, by decide⟩, ?_⟩
      walk_at "rd"
      refine ⟨Or.inl ⟨by decide, by decide⟩, ?_⟩
      walk_at "rd"
      refine ⟨Or.inr ⟨by omega, by omega⟩, ?_⟩
      walk_at "rd"
      refine ⟨draw_pow x0 x1 (by omega) (by omega), ?_⟩
      walk_at "rd"
      refine ⟨(by decide : (0 : Int) < 1000000007), ?_⟩
      walk_at "rd"
      refine ⟨m0, ?_⟩
      exact k _ _ (Int.emod_nonneg _ (by omega)) (Int.emod_lt_of_pos _ m0) ((But.refl p H).upd) ⟨g, s, c + 1, upd_same, s0, s1, by omega, by omega⟩
theorem ok_law_tolerance (T : Txt w K mg) : FnOk P w K mg base CX0 2 T.f_law_tolerance T.d_law_tolerance ["_law_source_here"] spTol := by
  refine T.F_law_tolerance.ok sc_law_tolerance (fun vs H Q E h => ?_) (fun cdv A outer s H vs Q E hr h => ?_)
  · obtain ⟨p, n, rfl, _⟩ := h
    rfl
  · obtain ⟨p, n, rfl, S, hn, k⟩ := h
    refine ⟨_, (pss_one (ps_ret (pe_ix ix_list (pe_lst (pa_cons pe_int (pa_cons pe_int (pa_cons pe_int (pa_cons pe_int (pa_cons pe_int (pa_cons pe_int (pa_cons pe_int (pa_cons (pe_op op_pow pe_int pe_int) pa_nil))))))))) (pe_call (ok_law_draw T) (hr.mono (by decide)) (by rfl) T.m_law_draw T.F_law_draw.kp T.b_law_draw .nil pass0 (pa_cons (pv 0) (pa_cons pe_int pa_nil))) (fun _ _ => rfl)))), ?_⟩
    walk_at "rd"
    refine ⟨⟨by decide, by decide, by decide⟩, ?_⟩
    refine ⟨by show 8 ≤ sizeLine; decide, fun t ht => ?_⟩
    walk_at "rd"
    refine ⟨p, 8, n, rfl, S.same (Same.new ht), hn, by decide, by decide, fun d H' d0 d1 hb S' => ?_⟩
    have pt : t ≠ p := fun z => by
      obtain ⟨_, _, _, e, _⟩ := S
      rw [z, e] at ht
      cases ht
    have e1 := hb t _ pt upd_same
    have hk := fun (d : Int) (a : 1 ≤ d) (b : d ≤ 1000000) => k d H' a b ((Same.but (Same.new ht)).trans hb) S'
    rcases (by omega : d = 0 ∨ d = 1 ∨ d = 2 ∨ d = 3 ∨ d = 4 ∨ d = 5 ∨ d = 6 ∨ d = 7) with z | z | z | z | z | z | z | z
    all_goals subst z
    all_goals exact ix_of (SqL.of e1) rfl (hk _ (by decide) (by decide))
theorem ok_law_group_names (T : Txt w K mg) : FnOk P w K mg base CX0 1 T.f_law_group_names T.d_law_group_names [] spGroupNames := by
  refine T.F_law_group_names.ok sc_law_group_names (fun vs H Q E h => ?_) (fun cdv A outer s H vs Q E hr h => ?_)
  · obtain ⟨rfl, _⟩ := h
    rfl
  · obtain ⟨rfl, k⟩ := h
    refine ⟨_, (pss_one (ps_ret (pe_lst (pa_cons pe_str (pa_cons pe_str (pa_cons pe_str (pa_cons pe_str (pa_cons pe_str (pa_cons pe_str (pa_cons pe_str (pa_cons pe_str (pa_cons pe_str pa_nil)))))))))))), ?_⟩
    exact ⟨by show 9 ≤ sizeLine; decide, k⟩
theorem ok_law (T : Txt w K mg) : FnOk P w K mg base CX0 6 T.f_law T.d_law ["_law_script"] (spLaw K) := by
  refine T.F_law.ok sc_law (fun vs H Q E h => ?_) (fun cdv A outer s H vs Q E hr h => ?_)
  · obtain ⟨a, ns, rfl, _⟩ := h
    rfl
  · obtain ⟨a, ns, rfl, hS, hlen, k⟩ := h
    refine ⟨_, (pss_cons (ps_set (i := 1) sc_law.nd rfl (Or.inl rfl) (pe_call (ok_law_source T) (hr.mono (by decide)) (by rfl) T.m_law_source T.F_law_source.kp T.b_law_source .nil pass0 (pa_cons (pv 0) pa_nil)))
      (pss_cons (ps_set (i := 2) sc_law.nd rfl (Or.inl rfl) (pe_call (ok_law_tolerance T) (hr.mono (by decide)) (by rfl) T.m_law_tolerance T.F_law_tolerance.kp T.b_law_tolerance .nil pass0 (pa_cons (pv 1) pa_nil)))
      (pss_cons (ps_set (i := 3) sc_law.nd rfl (Or.inl rfl) (pe_op op_add (pe_op op_mul (pe_op op_sub (pe_call (ok_law_draw T) (hr.mono (by decide)) (by rfl) T.m_law_draw T.F_law_draw.kp T.b_law_draw .nil pass0 (pa_cons (pv 1) (pa_cons pe_int pa_nil))) pe_int) (pv 2)) (pe_call (ok_law_draw T) (hr.mono (by decide)) (by rfl) T.m_law_draw T.F_law_draw.kp T.b_law_draw .nil pass0 (pa_cons (pv 1) (pa_cons (pv 2) pa_nil)))))
      (pss_cons (ps_for PassesOwn.never rfl (pi_range1 (by rfl) T.m_range (pa_cons pe_int pa_nil)) (pg_name (i := 4) sc_law.nd rfl (Or.inl rfl))
      (pss_cons (ps_set (i := 5) sc_law.nd rfl (Or.inl rfl) (pe_op op_sub (pe_call (ok_law_draw T) (hr.mono (by decide)) (by rfl) T.m_law_draw T.F_law_draw.kp T.b_law_draw .nil pass0 (pa_cons (pv 1) (pa_cons (pe_op op_add (pe_op op_mul pe_int (pv 2)) pe_int) pa_nil))) (pv 2)))
      (pss_cons (ps_set (i := 6) sc_law.nd rfl (Or.inl rfl) (pe_op op_add (pe_op op_add (pv 3) (pe_op op_mul (pe_op op_sub (pe_call (ok_law_draw T) (hr.mono (by decide)) (by rfl) T.m_law_draw T.F_law_draw.kp T.b_law_draw .nil pass0 (pa_cons (pv 1) (pa_cons pe_int pa_nil))) pe_int) (pv 2))) (pv 5)))
      (pss_cons (ps_set (i := 7) sc_law.nd rfl (Or.inl rfl) (pe_call (ok_place T) (hr.mono (by decide)) (by rfl) T.m_place T.F_place.kp T.b_place .nil pass0 (pa_cons (pv 6) (pa_cons (pv 3) (pa_cons (pv 2) pa_nil)))))
      (pss_cons (ps_set (i := 8) sc_law.nd rfl (Or.inl rfl) (pe_disp (pps_cons pe_str pe_bl (pps_cons pe_str pe_bl (pps_cons pe_str (pe_cmpR op_lt (pv 6) (pv 3) (nomark _)) (pps_cons pe_str (pe_cmpR op_gt (pv 6) (pv 3) (nomark _)) pps_nil)))) (by rfl) (by rfl) (fun z => by cases z) (by decide)))
      (pss_cons (ps_dput (hu_of hr) (pv 8) pe_str (pe_cmpR op_le (pe_callB call_abs (by rfl) T.m_abs (by decide +kernel) (pa_cons (pe_op op_sub (pv 6) (pv 3)) pa_nil)) (pv 2) (nomark _)) rfl)
      (pss_cons (ps_dput (hu_of hr) (pv 8) pe_str (pe_cmpR op_gt (pe_callB call_abs (by rfl) T.m_abs (by decide +kernel) (pa_cons (pe_op op_sub (pv 6) (pv 3)) pa_nil)) (pv 2) (nomark _)) rfl)
      (pss_cons (ps_dput (hu_of hr) (pv 8) pe_str (pe_cmpR op_lt (pv 6) (pe_op op_sub (pv 3) (pv 2)) (nomark _)) rfl)
      (pss_cons (ps_dput (hu_of hr) (pv 8) pe_str (pe_cmpR op_gt (pv 6) (pe_op op_add (pv 3) (pv 2)) (nomark _)) rfl)
      (C8.pss_cut (ps_dput (hu_of hr) (pv 8) pe_str (pe_cmpR op_eq (pe_op op_fdivW (pv 6) (pv 2)) (pe_op op_fdivW (pv 3) (pv 2)) (nomark _)) rfl)
      (C8.pss_cut (ps_for PassesOwn.never rfl (pi_list (pe_call0 (ok_law_group_names T) (hr.mono (by decide)) (by rfl) T.m_law_group_names T.F_law_group_names.kp T.b_law_group_names .nil pass0)) (pg_name (i := 9) sc_law.nd rfl (Or.inl rfl))
      (pss_one (ps_if (pt_cmpR op_ne (pe_cmpR op_in_seq (pv 7) (pe_call (ok_group T) (hr.mono (by decide)) (by rfl) T.m_group T.F_group.kp T.b_group .nil pass0 (pa_cons (pv 9) pa_nil)) (by rfl)) (pe_dget (hu_of hr) (pv 8) (pv 9) (fun _ _ => rfl)) (nomark _))
      (pss_one (ps_ret pe_bl))
      pss_nil)))
      (pss_one (ps_if (PW.pt (pw_or (pt_cmpR op_ne (pe_cmpR op_eq (pv 7) pe_str (nomark _)) (pe_cmpR op_eq (pv 6) (pv 3) (nomark _)) (nomark _)) (pw_or1 (pt_cmpR (op_neD hr.units) (pe_call (ok_group T) (hr.mono (by decide)) (by rfl) T.m_group T.F_group.kp T.b_group .nil pass0 (pa_cons (pv 7) pa_nil)) (pe_tup (pa_cons (pv 7) pa_nil)) (nomark _)))))
      (pss_one (ps_ret pe_bl))
      pss_nil)))))))))))))
      (pss_one (ps_ret pe_bl)))))), ?_⟩
    walk_at "rd"
    refine ⟨a, ns, rfl, hS, fun p H1 hp s1 S1 => ?_⟩
    walk_at "rd"
    refine ⟨_, _, rfl, S1, by decide, fun e H2 e0 e1 _ S2 => ?_⟩
    walk_at "rd"
    refine ⟨_, _, _, rfl, S2, by decide, by decide, by decide, fun d1 H3 a1 b1 _ S3 => ?_⟩
    have m1 : (d1 - 4) * e ≤ 4 * e := Int.mul_le_mul_of_nonneg_right (by omega) (by omega)
    have m2 : -4 * e ≤ (d1 - 4) * e := Int.mul_le_mul_of_nonneg_right (by omega) (by omega)
    walk_at "rd"
    refine ⟨Or.inr ⟨by omega, by omega⟩, ?_⟩
    walk_at "rd"
    refine ⟨_, _, _, rfl, S3, by decide, by omega, by omega, fun d2 H4 a2 b2 _ S4 => ?_⟩
    generalize hk : (d1 - 4) * e + d2 = kk
    have k1 : -4 * e ≤ kk := by omega
    have k2 : kk < 5 * e := by omega
    walk_at "rd"
    refine ⟨by decide, by decide, ?_⟩
    subst hk
    refine for_range (lo := 0) (n := 12) (fun i σ H' => ∃ v4 v5 v6 v7 v8 v9 : Option V, σ = [some (.ref a), some (.ref p), some (.int e), some (.int ((d1 - 4) * e + d2)), v4, v5, v6, v7, v8, v9] ∧ Src H' p (10 + 10 * (i : Int)))
      ⟨none, none, none, none, none, none, rfl, S4.le (by decide)⟩ ?_ ?_
    · rintro i σ H5 hi ⟨v4, v5, v6, v7, v8, v9, rfl, S5⟩
      generalize (d1 - 4) * e + d2 = kk at k1 k2 ⊢
      walk_at "rd"
      refine ⟨Or.inl ⟨by decide, by decide⟩, ?_⟩
      walk_at "rd"
      refine ⟨_, _, _, rfl, S5, by omega, by omega, by omega, fun d3 H6 a3 b3 _ S6 => ?_⟩
      walk_at "rd"
      refine ⟨_, _, _, rfl, S6, by omega, by omega, by omega, fun d4 H7 a4 b4 _ S7 => ?_⟩
      have n1 : (d4 - 3) * e ≤ 3 * e := Int.mul_le_mul_of_nonneg_right (by omega) (by omega)
      have n2 : -3 * e ≤ (d4 - 3) * e := Int.mul_le_mul_of_nonneg_right (by omega) (by omega)
      walk_at "rd"
      refine ⟨Or.inr ⟨by omega, by omega⟩, ?_⟩
      obtain ⟨X, hX⟩ : ∃ X, X = kk + (d4 - 3) * e + (d3 - e) := ⟨_, rfl⟩
      have x1 : -8 * e ≤ X := by omega
      have x2 : X ≤ 9 * e := by omega
      walk_at "rd"
      refine ⟨X, kk, e, by rw [hX]; rfl, by unfold big; omega, by unfold big; omega, by unfold big; omega, by unfold big; omega, e0, by unfold big; omega, fun H8 s8 => ?_⟩
      have S8 := S7.same s8
      walk_at "rd"
      refine fun D hD => ?_
      have pD := S8.ne hD
      generalize hH : upd _ D _ = H9
      obtain ⟨s9, d9⟩ := new_of (o' := .dK []) hH hD rfl
      clear hH
      walk_at "rd"
      refine ⟨d9, [(.inr "any", .bl true), (.inr "none", .bl false), (.inr "less", .bl (decide (X < kk))), (.inr "more", .bl (decide (kk < X)))], by rw [hX]; rfl, by show 4 ≤ 15; decide, ?_⟩
      generalize hH : upd _ D _ = H10
      obtain ⟨u10, d10⟩ := chg_of (o' := .dK ((due X kk e).take 4)) hH (by kernel_rfl)
      clear hH
      have S10 := (S8.same s9).but u10 pD.symm
      walk_at "rd"
      refine ⟨D, _, rfl, DPut.k (k := .inr "near") d10 (by show 4 < sizeLine; decide), ?_⟩
      generalize hH : upd _ D _ = H11
      obtain ⟨u11, d11⟩ := chg_of (o' := .dK ((due X kk e).take 5)) hH (by subst hX; kernel_rfl)
      clear hH
      have S11 := S10.but u11 pD.symm
      walk_at "rd"
      refine ⟨D, _, rfl, DPut.k (k := .inr "far") d11 (by show 5 < sizeLine; decide), ?_⟩
      generalize hH : upd _ D _ = H12
      obtain ⟨u12, d12⟩ := chg_of (o' := .dK ((due X kk e).take 6)) hH (by subst hX; kernel_rfl)
      clear hH
      have S12 := S11.but u12 pD.symm
      walk_at "rd"
      refine ⟨D, _, rfl, DPut.k (k := .inr "under") d12 (by show 6 < sizeLine; decide), ?_⟩
      generalize hH : upd _ D _ = H13
      obtain ⟨u13, d13⟩ := chg_of (o' := .dK ((due X kk e).take 7)) hH (by subst hX; kernel_rfl)
      clear hH
      have S13 := S12.but u13 pD.symm
      walk_at "rd"
      refine ⟨D, _, rfl, DPut.k (k := .inr "over") d13 (by show 7 < sizeLine; decide), ?_⟩
      generalize hH : upd _ D _ = H14
      obtain ⟨u14, d14⟩ := chg_of (o' := .dK ((due X kk e).take 8)) hH (by subst hX; kernel_rfl)
      clear hH
      have S14 := S13.but u14 pD.symm
      refine ⟨fun σ H' => ∃ v4 v5 : Option V, σ = [some (.ref a), some (.ref p), some (.int e), some (.int kk), v4, v5, some (.int X), some (.str (plc X kk e)), some (.ref D), v9] ∧ H' D = some (.dK (due X kk e)) ∧ Src H' p (20 + 10 * (i : Int)), ?_, ?_⟩
      · walk_at "rd"
        refine ⟨wide_div (b := 64) (by omega) (by omega) (by decide) (by decide), ?_⟩
        walk_at "rd"
        refine ⟨wide_div (b := 64) (by omega) (by omega) (by decide) (by decide), ?_⟩
        walk_at "rd"
        refine ⟨D, _, rfl, DPut.k (k := .inr "cell") d14 (by show 8 < sizeLine; decide), ?_⟩
        generalize hH : upd _ D _ = H15
        obtain ⟨u15, d15⟩ := chg_of (o' := .dK (due X kk e)) hH (by subst hX; kernel_rfl)
        clear hH
        refine ⟨some (.int (0 + (i : Int))), some (.int (d3 - e)), ?_, d15, (S14.but u15 pD.symm).le (by omega)⟩
        rw [hX]
        rfl
      rintro σ H15 ⟨v4, v5, rfl, d15, S15⟩
      have hpl : plc X kk e ∈ placesL := List.mem_of_getElem? (plc_at _ _ _)
      refine ⟨fun σ H' => ∃ v9 : Option V, Same H15 H' ∧ σ = [some (.ref a), some (.ref p), some (.int e), some (.int kk), v4, v5, some (.int X), some (.str (plc X kk e)), some (.ref D), v9], ?_, ?_⟩
      · walk_at "rd"
        refine fun l hl => ?_
        generalize hH : upd _ l _ = H16
        obtain ⟨s16, d16⟩ := new_of (o' := .lst (namesL.map V.str)) hH hl rfl
        clear hH
        walk_at "rd"
        refine ⟨⟨_, SqL.of d16⟩, for_list (K := K) (a := l) (xs := namesL.map V.str) (fun i σ H' => ∃ v9 : Option V, Same H16 H' ∧ σ = [some (.ref a), some (.ref p), some (.int e), some (.int kk), v4, v5, some (.int X), some (.str (plc X kk e)), some (.ref D), v9])
          ⟨v9, Same.refl _, rfl⟩ (fun i σ H' _ ⟨_, z, _⟩ => SqL.of (z _ _ d16)) ?_ (fun σ H' ⟨v9, z, q⟩ => ⟨v9, s16.trans z, q⟩)⟩
        rintro j y σ H17 hy ⟨v9', s17, rfl⟩
        obtain ⟨nm, rfl, hnm⟩ := str_at hy
        have hg : ∃ ps, l_GROUPS[j]? = some (nm, ps) := by
          have q : (l_GROUPS.map (·.1))[j]? = some nm := hnm
          rw [List.getElem?_map] at q
          cases e : l_GROUPS[j]? with
          | none => rw [e] at q; cases q
          | some w => rw [e] at q; exact ⟨w.2, by rw [← Option.some.inj q]⟩
        obtain ⟨ps, hg⟩ := hg
        walk_at "rd"
        refine .inl ⟨j, ps, hg, fun u hu => ?_⟩
        refine ⟨_, _, rfl, .inr (hu _), rfl, flat_strs ps, ?_⟩
        walk_at "rd"
        have dg := DGet.k (k := .inr nm) (s17 _ _ (s16 _ _ d15))
        rw [due_ok e0 hg] at dg
        refine ⟨D, _, rfl, dg, ?_⟩
        walk_at "rd"
        refine ifne (congrArg V.bl (inV_strs _ ps)) ?_
        exact ⟨_, s17, rfl⟩
      rintro σ H16 ⟨v9', s16, rfl⟩
      walk_at "rd"
      refine ifne (congrArg V.bl ?_) ?_
      · obtain ⟨N, hN, hp', f1, f2, f3, f4, f5⟩ := plc_facts (x := X) (k := kk) e0
        refine decide_eq_decide.mpr ⟨fun q => congrArg V.int ?_, fun q => congrArg V.str ?_⟩
        · have q' := V.str.inj q
          rw [q'] at hp'
          have : N = 5 := nd_ix places_nd hp' rfl
          omega
        · have q' := V.int.inj q
          have : N = 5 := by
            have := f5.mpr (by rw [q'])
            omega
          rw [this] at hp'
          exact (Option.some.inj hp').symm
      walk_at "rd"
      refine .inr ⟨hpl, fun t ht => ?_⟩
      generalize hH : upd _ t _ = H17
      obtain ⟨s17, d17⟩ := new_of (o' := .tup [.str (plc X kk e)]) hH ht rfl
      clear hH
      walk_at "rd"
      refine ⟨by show 1 ≤ sizeLine; decide, fun t2 ht2 => ?_⟩
      generalize hH : upd _ t2 _ = H18
      obtain ⟨s18, d18⟩ := new_of (o' := .tup [.str (plc X kk e)]) hH ht2 rfl
      clear hH
      have sh : SeqAt.shaped (.tuple [PyData.str (plc X kk e)]) = true := shaped_of (by rw [PyData.canLay0]; exact lay_strs [plc X kk e] (fun z hz => by rw [List.mem_singleton.mp hz]; exact plc_ok _ _ _)) (by rw [PyData.depth]; have := depth_strs [plc X kk e]; show PyData.depthAll ([plc X kk e].map PyData.str) + 1 ≤ 64; omega)
      refine ⟨_, _, .tup (SqT.of (s18 _ _ d17)) (dp_strs [plc X kk e]), .tup (SqT.of d18) (dp_strs [plc X kk e]), sh, sh, ?_⟩
      rw [show PyData.eqv (.tuple ([plc X kk e].map PyData.str)) (.tuple ([plc X kk e].map PyData.str)) = true from SeqAt.eqv_refl _ (SeqAt.canLay_of_shaped sh)]
      walk_at "rd"
      exact ⟨_, _, _, _, _, _, rfl, (((S15.same s16).same s17).same s18).le (by omega)⟩
    · rintro σ H5 ⟨v4, v5, v6, v7, v8, v9, rfl, S5⟩
      walk_at "rd"
      exact k _
end
theorem all_mk {l : PySem.W.OpenLaw} {w : World} {K : PySem.W.Frag} {h : Heap} {mg : Str → Option Value} {fa : Addr} (X : K.In h) (G : h.Ns mainGlobals mg) (hfa : mg "law" = some (.ref fa))
    {f_is_number f_is_tolerance f_check_number f_check_tolerance f_is_place f_is_group f_sign_of f_place_at f_place f_group f_law_source f_law_draw f_law_group_names f_law_tolerance f_law : Addr}
    {od_is_number an_is_number od_is_tolerance an_is_tolerance od_check_number an_check_number od_check_tolerance an_check_tolerance od_is_place an_is_place od_is_group an_is_group od_sign_of an_sign_of od_place_at an_place_at od_place an_place od_group an_group od_law_source an_law_source od_law_draw an_law_draw od_law_group_names an_law_group_names od_law_tolerance an_law_tolerance od_law an_law : Option Addr} {sl_is_number sl_is_tolerance sl_check_number sl_check_tolerance sl_is_place sl_is_group sl_sign_of sl_place_at sl_place sl_group sl_law_source sl_law_draw sl_law_group_names sl_law_tolerance sl_law : Array (Option Value)}
    {oc_is_number kV_is_number dc_is_number pm_is_number cd_is_number ct_is_number oc_is_tolerance kV_is_tolerance dc_is_tolerance pm_is_tolerance cd_is_tolerance ct_is_tolerance oc_check_number kV_check_number dc_check_number pm_check_number cd_check_number ct_check_number oc_check_tolerance kV_check_tolerance dc_check_tolerance pm_check_tolerance cd_check_tolerance ct_check_tolerance oc_is_place kV_is_place dc_is_place pm_is_place cd_is_place ct_is_place oc_is_group kV_is_group dc_is_group pm_is_group cd_is_group ct_is_group oc_sign_of kV_sign_of dc_sign_of pm_sign_of cd_sign_of ct_sign_of oc_place_at kV_place_at dc_place_at pm_place_at cd_place_at ct_place_at oc_place kV_place dc_place pm_place cd_place ct_place oc_group kV_group dc_group pm_group cd_group ct_group oc_law_source kV_law_source dc_law_source pm_law_source cd_law_source ct_law_source oc_law_draw kV_law_draw dc_law_draw pm_law_draw cd_law_draw ct_law_draw oc_law_group_names kV_law_group_names dc_law_group_names pm_law_group_names cd_law_group_names ct_law_group_names oc_law_tolerance kV_law_tolerance dc_law_tolerance pm_law_tolerance cd_law_tolerance ct_law_tolerance oc_law kV_law dc_law pm_law cd_law ct_law : Value}
    {a_PLACES : Addr} {n_PLACES : Nat} {sl_PLACES : Array (Option Value)} {t_PLACES_0 t_PLACES_1 t_PLACES_2 t_PLACES_3 t_PLACES_4 t_PLACES_5 t_PLACES_6 t_PLACES_7 t_PLACES_8 t_PLACES_9 t_PLACES_10 : Tok}
    {a_GROUPS : Addr} {n_GROUPS : Nat} {g_GROUPS_0 g_GROUPS_1 g_GROUPS_2 g_GROUPS_3 g_GROUPS_4 g_GROUPS_5 g_GROUPS_6 g_GROUPS_7 g_GROUPS_8 : Addr} {t_GROUPS_0 t_GROUPS_1 t_GROUPS_2 t_GROUPS_3 t_GROUPS_4 t_GROUPS_5 t_GROUPS_6 t_GROUPS_7 t_GROUPS_8 : Tok} {h_GROUPS_0 h_GROUPS_1 h_GROUPS_2 h_GROUPS_3 h_GROUPS_4 h_GROUPS_5 h_GROUPS_6 h_GROUPS_7 h_GROUPS_8 : Int}
    {m_GROUPS_0 : Nat} {sl_GROUPS_0 : Array (Option Value)} {t_GROUPS_0_0 t_GROUPS_0_1 t_GROUPS_0_2 t_GROUPS_0_3 t_GROUPS_0_4 t_GROUPS_0_5 t_GROUPS_0_6 t_GROUPS_0_7 t_GROUPS_0_8 t_GROUPS_0_9 t_GROUPS_0_10 : Tok}
    {m_GROUPS_1 : Nat} {sl_GROUPS_1 : Array (Option Value)} {t_GROUPS_1_0 t_GROUPS_1_1 t_GROUPS_1_2 t_GROUPS_1_3 t_GROUPS_1_4 t_GROUPS_1_5 t_GROUPS_1_6 : Tok}
    {m_GROUPS_2 : Nat} {sl_GROUPS_2 : Array (Option Value)} {t_GROUPS_2_0 t_GROUPS_2_1 t_GROUPS_2_2 t_GROUPS_2_3 : Tok}
    {m_GROUPS_3 : Nat} {sl_GROUPS_3 : Array (Option Value)} {t_GROUPS_3_0 t_GROUPS_3_1 t_GROUPS_3_2 t_GROUPS_3_3 t_GROUPS_3_4 : Tok}
    {m_GROUPS_4 : Nat} {sl_GROUPS_4 : Array (Option Value)} {t_GROUPS_4_0 t_GROUPS_4_1 t_GROUPS_4_2 t_GROUPS_4_3 t_GROUPS_4_4 : Tok}
    {m_GROUPS_5 : Nat} {sl_GROUPS_5 : Array (Option Value)} {t_GROUPS_5_0 t_GROUPS_5_1 : Tok}
    {m_GROUPS_6 : Nat} {sl_GROUPS_6 : Array (Option Value)} {t_GROUPS_6_0 t_GROUPS_6_1 : Tok}
    {m_GROUPS_7 : Nat} {sl_GROUPS_7 : Array (Option Value)} {t_GROUPS_7_0 t_GROUPS_7_1 t_GROUPS_7_2 : Tok}
    {m_GROUPS_8 : Nat} {sl_GROUPS_8 : Array (Option Value)}
    (x_PLACES : PySem.W.nsIn K mainGlobals "PLACES" = some (some (.ref a_PLACES)))
    (lk_PLACES : K.lookup a_PLACES = some ⟨.type "tuple", none, .seq #[.str "below" t_PLACES_0, .str "-<" t_PLACES_1, .str "-=" t_PLACES_2, .str "->" t_PLACES_3, .str "<" t_PLACES_4, .str "=" t_PLACES_5, .str ">" t_PLACES_6, .str "+<" t_PLACES_7, .str "+=" t_PLACES_8, .str "+>" t_PLACES_9, .str "above" t_PLACES_10] n_PLACES, sl_PLACES⟩)
    (x_GROUPS : PySem.W.nsIn K mainGlobals "GROUPS" = some (some (.ref a_GROUPS)))
    (lk_GROUPS : K.lookup a_GROUPS = some ⟨.type "dict", none, .dict #[⟨h_GROUPS_0, .str "any" t_GROUPS_0, .ref g_GROUPS_0⟩, ⟨h_GROUPS_1, .str "near" t_GROUPS_1, .ref g_GROUPS_1⟩, ⟨h_GROUPS_2, .str "far" t_GROUPS_2, .ref g_GROUPS_2⟩, ⟨h_GROUPS_3, .str "less" t_GROUPS_3, .ref g_GROUPS_3⟩, ⟨h_GROUPS_4, .str "more" t_GROUPS_4, .ref g_GROUPS_4⟩, ⟨h_GROUPS_5, .str "under" t_GROUPS_5, .ref g_GROUPS_5⟩, ⟨h_GROUPS_6, .str "over" t_GROUPS_6, .ref g_GROUPS_6⟩, ⟨h_GROUPS_7, .str "cell" t_GROUPS_7, .ref g_GROUPS_7⟩, ⟨h_GROUPS_8, .str "none" t_GROUPS_8, .ref g_GROUPS_8⟩] n_GROUPS, #[]⟩)
    (ky_GROUPS : PySem.W.KeysLit w.params (#[⟨h_GROUPS_0, .str "any" t_GROUPS_0, .ref g_GROUPS_0⟩, ⟨h_GROUPS_1, .str "near" t_GROUPS_1, .ref g_GROUPS_1⟩, ⟨h_GROUPS_2, .str "far" t_GROUPS_2, .ref g_GROUPS_2⟩, ⟨h_GROUPS_3, .str "less" t_GROUPS_3, .ref g_GROUPS_3⟩, ⟨h_GROUPS_4, .str "more" t_GROUPS_4, .ref g_GROUPS_4⟩, ⟨h_GROUPS_5, .str "under" t_GROUPS_5, .ref g_GROUPS_5⟩, ⟨h_GROUPS_6, .str "over" t_GROUPS_6, .ref g_GROUPS_6⟩, ⟨h_GROUPS_7, .str "cell" t_GROUPS_7, .ref g_GROUPS_7⟩, ⟨h_GROUPS_8, .str "none" t_GROUPS_8, .ref g_GROUPS_8⟩] : Array DictEntry).toList)
    (lo_GROUPS : (a_GROUPS == sysModules) = false)
    (lg_GROUPS_0 : K.lookup g_GROUPS_0 = some ⟨.type "tuple", none, .seq #[.str "below" t_GROUPS_0_0, .str "-<" t_GROUPS_0_1, .str "-=" t_GROUPS_0_2, .str "->" t_GROUPS_0_3, .str "<" t_GROUPS_0_4, .str "=" t_GROUPS_0_5, .str ">" t_GROUPS_0_6, .str "+<" t_GROUPS_0_7, .str "+=" t_GROUPS_0_8, .str "+>" t_GROUPS_0_9, .str "above" t_GROUPS_0_10] m_GROUPS_0, sl_GROUPS_0⟩)
    (lg_GROUPS_1 : K.lookup g_GROUPS_1 = some ⟨.type "tuple", none, .seq #[.str "-=" t_GROUPS_1_0, .str "->" t_GROUPS_1_1, .str "<" t_GROUPS_1_2, .str "=" t_GROUPS_1_3, .str ">" t_GROUPS_1_4, .str "+<" t_GROUPS_1_5, .str "+=" t_GROUPS_1_6] m_GROUPS_1, sl_GROUPS_1⟩)
    (lg_GROUPS_2 : K.lookup g_GROUPS_2 = some ⟨.type "tuple", none, .seq #[.str "below" t_GROUPS_2_0, .str "-<" t_GROUPS_2_1, .str "+>" t_GROUPS_2_2, .str "above" t_GROUPS_2_3] m_GROUPS_2, sl_GROUPS_2⟩)
    (lg_GROUPS_3 : K.lookup g_GROUPS_3 = some ⟨.type "tuple", none, .seq #[.str "below" t_GROUPS_3_0, .str "-<" t_GROUPS_3_1, .str "-=" t_GROUPS_3_2, .str "->" t_GROUPS_3_3, .str "<" t_GROUPS_3_4] m_GROUPS_3, sl_GROUPS_3⟩)
    (lg_GROUPS_4 : K.lookup g_GROUPS_4 = some ⟨.type "tuple", none, .seq #[.str ">" t_GROUPS_4_0, .str "+<" t_GROUPS_4_1, .str "+=" t_GROUPS_4_2, .str "+>" t_GROUPS_4_3, .str "above" t_GROUPS_4_4] m_GROUPS_4, sl_GROUPS_4⟩)
    (lg_GROUPS_5 : K.lookup g_GROUPS_5 = some ⟨.type "tuple", none, .seq #[.str "below" t_GROUPS_5_0, .str "-<" t_GROUPS_5_1] m_GROUPS_5, sl_GROUPS_5⟩)
    (lg_GROUPS_6 : K.lookup g_GROUPS_6 = some ⟨.type "tuple", none, .seq #[.str "+>" t_GROUPS_6_0, .str "above" t_GROUPS_6_1] m_GROUPS_6, sl_GROUPS_6⟩)
    (lg_GROUPS_7 : K.lookup g_GROUPS_7 = some ⟨.type "tuple", none, .seq #[.str "<" t_GROUPS_7_0, .str "=" t_GROUPS_7_1, .str ">" t_GROUPS_7_2] m_GROUPS_7, sl_GROUPS_7⟩)
    (lg_GROUPS_8 : K.lookup g_GROUPS_8 = some ⟨.type "tuple", none, .seq #[] m_GROUPS_8, sl_GROUPS_8⟩)
    (a_is_number : PySem.W.nsIn K mainGlobals "is_number" = some (some (.ref f_is_number)))
    (l_is_number : K.lookup f_is_number = some ⟨oc_is_number, od_is_number, .func (PySem.W.fnOf "is_number" "is_number" (defArgs s_is_number) (defBody s_is_number) (defScope s_is_number) .none kV_is_number dc_is_number pm_is_number an_is_number cd_is_number ct_is_number), sl_is_number⟩)
    (c_is_number : PySem.W.codeIn K cd_is_number "is_number" = true)
    (k_is_number : PySem.W.keepIn K (.ref f_is_number) = true)
    (a_is_tolerance : PySem.W.nsIn K mainGlobals "is_tolerance" = some (some (.ref f_is_tolerance)))
    (l_is_tolerance : K.lookup f_is_tolerance = some ⟨oc_is_tolerance, od_is_tolerance, .func (PySem.W.fnOf "is_tolerance" "is_tolerance" (defArgs s_is_tolerance) (defBody s_is_tolerance) (defScope s_is_tolerance) .none kV_is_tolerance dc_is_tolerance pm_is_tolerance an_is_tolerance cd_is_tolerance ct_is_tolerance), sl_is_tolerance⟩)
    (c_is_tolerance : PySem.W.codeIn K cd_is_tolerance "is_tolerance" = true)
    (k_is_tolerance : PySem.W.keepIn K (.ref f_is_tolerance) = true)
    (a_check_number : PySem.W.nsIn K mainGlobals "check_number" = some (some (.ref f_check_number)))
    (l_check_number : K.lookup f_check_number = some ⟨oc_check_number, od_check_number, .func (PySem.W.fnOf "check_number" "check_number" (defArgs s_check_number) (defBody s_check_number) (defScope s_check_number) .none kV_check_number dc_check_number pm_check_number an_check_number cd_check_number ct_check_number), sl_check_number⟩)
    (c_check_number : PySem.W.codeIn K cd_check_number "check_number" = true)
    (k_check_number : PySem.W.keepIn K (.ref f_check_number) = true)
    (a_check_tolerance : PySem.W.nsIn K mainGlobals "check_tolerance" = some (some (.ref f_check_tolerance)))
    (l_check_tolerance : K.lookup f_check_tolerance = some ⟨oc_check_tolerance, od_check_tolerance, .func (PySem.W.fnOf "check_tolerance" "check_tolerance" (defArgs s_check_tolerance) (defBody s_check_tolerance) (defScope s_check_tolerance) .none kV_check_tolerance dc_check_tolerance pm_check_tolerance an_check_tolerance cd_check_tolerance ct_check_tolerance), sl_check_tolerance⟩)
    (c_check_tolerance : PySem.W.codeIn K cd_check_tolerance "check_tolerance" = true)
    (k_check_tolerance : PySem.W.keepIn K (.ref f_check_tolerance) = true)
    (a_is_place : PySem.W.nsIn K mainGlobals "is_place" = some (some (.ref f_is_place)))
    (l_is_place : K.lookup f_is_place = some ⟨oc_is_place, od_is_place, .func (PySem.W.fnOf "is_place" "is_place" (defArgs s_is_place) (defBody s_is_place) (defScope s_is_place) .none kV_is_place dc_is_place pm_is_place an_is_place cd_is_place ct_is_place), sl_is_place⟩)
    (c_is_place : PySem.W.codeIn K cd_is_place "is_place" = true)
    (k_is_place : PySem.W.keepIn K (.ref f_is_place) = true)
    (a_is_group : PySem.W.nsIn K mainGlobals "is_group" = some (some (.ref f_is_group)))
    (l_is_group : K.lookup f_is_group = some ⟨oc_is_group, od_is_group, .func (PySem.W.fnOf "is_group" "is_group" (defArgs s_is_group) (defBody s_is_group) (defScope s_is_group) .none kV_is_group dc_is_group pm_is_group an_is_group cd_is_group ct_is_group), sl_is_group⟩)
    (c_is_group : PySem.W.codeIn K cd_is_group "is_group" = true)
    (k_is_group : PySem.W.keepIn K (.ref f_is_group) = true)
    (a_sign_of : PySem.W.nsIn K mainGlobals "sign_of" = some (some (.ref f_sign_of)))
    (l_sign_of : K.lookup f_sign_of = some ⟨oc_sign_of, od_sign_of, .func (PySem.W.fnOf "sign_of" "sign_of" (defArgs s_sign_of) (defBody s_sign_of) (defScope s_sign_of) .none kV_sign_of dc_sign_of pm_sign_of an_sign_of cd_sign_of ct_sign_of), sl_sign_of⟩)
    (c_sign_of : PySem.W.codeIn K cd_sign_of "sign_of" = true)
    (k_sign_of : PySem.W.keepIn K (.ref f_sign_of) = true)
    (a_place_at : PySem.W.nsIn K mainGlobals "place_at" = some (some (.ref f_place_at)))
    (l_place_at : K.lookup f_place_at = some ⟨oc_place_at, od_place_at, .func (PySem.W.fnOf "place_at" "place_at" (defArgs s_place_at) (defBody s_place_at) (defScope s_place_at) .none kV_place_at dc_place_at pm_place_at an_place_at cd_place_at ct_place_at), sl_place_at⟩)
    (c_place_at : PySem.W.codeIn K cd_place_at "place_at" = true)
    (k_place_at : PySem.W.keepIn K (.ref f_place_at) = true)
    (a_place : PySem.W.nsIn K mainGlobals "place" = some (some (.ref f_place)))
    (l_place : K.lookup f_place = some ⟨oc_place, od_place, .func (PySem.W.fnOf "place" "place" (defArgs s_place) (defBody s_place) (defScope s_place) .none kV_place dc_place pm_place an_place cd_place ct_place), sl_place⟩)
    (c_place : PySem.W.codeIn K cd_place "place" = true)
    (k_place : PySem.W.keepIn K (.ref f_place) = true)
    (a_group : PySem.W.nsIn K mainGlobals "group" = some (some (.ref f_group)))
    (l_group : K.lookup f_group = some ⟨oc_group, od_group, .func (PySem.W.fnOf "group" "group" (defArgs s_group) (defBody s_group) (defScope s_group) .none kV_group dc_group pm_group an_group cd_group ct_group), sl_group⟩)
    (c_group : PySem.W.codeIn K cd_group "group" = true)
    (k_group : PySem.W.keepIn K (.ref f_group) = true)
    (a_law_source : PySem.W.nsIn K mainGlobals "_law_source" = some (some (.ref f_law_source)))
    (l_law_source : K.lookup f_law_source = some ⟨oc_law_source, od_law_source, .func (PySem.W.fnOf "_law_source" "_law_source" (defArgs s_law_source) (defBody s_law_source) (defScope s_law_source) .none kV_law_source dc_law_source pm_law_source an_law_source cd_law_source ct_law_source), sl_law_source⟩)
    (c_law_source : PySem.W.codeIn K cd_law_source "_law_source" = true)
    (k_law_source : PySem.W.keepIn K (.ref f_law_source) = true)
    (a_law_draw : PySem.W.nsIn K mainGlobals "_law_draw" = some (some (.ref f_law_draw)))
    (l_law_draw : K.lookup f_law_draw = some ⟨oc_law_draw, od_law_draw, .func (PySem.W.fnOf "_law_draw" "_law_draw" (defArgs s_law_draw) (defBody s_law_draw) (defScope s_law_draw) .none kV_law_draw dc_law_draw pm_law_draw an_law_draw cd_law_draw ct_law_draw), sl_law_draw⟩)
    (c_law_draw : PySem.W.codeIn K cd_law_draw "_law_draw" = true)
    (k_law_draw : PySem.W.keepIn K (.ref f_law_draw) = true)
    (a_law_group_names : PySem.W.nsIn K mainGlobals "_law_group_names" = some (some (.ref f_law_group_names)))
    (l_law_group_names : K.lookup f_law_group_names = some ⟨oc_law_group_names, od_law_group_names, .func (PySem.W.fnOf "_law_group_names" "_law_group_names" (defArgs s_law_group_names) (defBody s_law_group_names) (defScope s_law_group_names) .none kV_law_group_names dc_law_group_names pm_law_group_names an_law_group_names cd_law_group_names ct_law_group_names), sl_law_group_names⟩)
    (c_law_group_names : PySem.W.codeIn K cd_law_group_names "_law_group_names" = true)
    (k_law_group_names : PySem.W.keepIn K (.ref f_law_group_names) = true)
    (a_law_tolerance : PySem.W.nsIn K mainGlobals "_law_tolerance" = some (some (.ref f_law_tolerance)))
    (l_law_tolerance : K.lookup f_law_tolerance = some ⟨oc_law_tolerance, od_law_tolerance, .func (PySem.W.fnOf "_law_tolerance" "_law_tolerance" (defArgs s_law_tolerance) (defBody s_law_tolerance) (defScope s_law_tolerance) .none kV_law_tolerance dc_law_tolerance pm_law_tolerance an_law_tolerance cd_law_tolerance ct_law_tolerance), sl_law_tolerance⟩)
    (c_law_tolerance : PySem.W.codeIn K cd_law_tolerance "_law_tolerance" = true)
    (k_law_tolerance : PySem.W.keepIn K (.ref f_law_tolerance) = true)
    (a_law : PySem.W.nsIn K mainGlobals "law" = some (some (.ref f_law)))
    (l_law : K.lookup f_law = some ⟨oc_law, od_law, .func (PySem.W.fnOf "law" "law" (defArgs s_law) (defBody s_law) (defScope s_law) .none kV_law dc_law pm_law an_law cd_law ct_law), sl_law⟩)
    (c_law : PySem.W.codeIn K cd_law "law" = true)
    (k_law : PySem.W.keepIn K (.ref f_law) = true)
    (z_int : PySem.W.nsIn K mainGlobals "int" = some none)
    (z_bool : PySem.W.nsIn K mainGlobals "bool" = some none)
    (z_str : PySem.W.nsIn K mainGlobals "str" = some none)
    (z_isinstance : PySem.W.nsIn K mainGlobals "isinstance" = some none)
    (z_abs : PySem.W.nsIn K mainGlobals "abs" = some none)
    (z_divmod : PySem.W.nsIn K mainGlobals "divmod" = some none)
    (z_range : PySem.W.nsIn K mainGlobals "range" = some none)
    : ∃ fd : FuncData, (∀ (s : Shared) (v : Value), BindsTo s fd ⟨[v], []⟩ [("_law_script", v)]) ∧ ∀ base : Heap, K.In base → base.Ns mainGlobals mg → FnOk l.prog w K mg base CX0 6 fa fd ["_law_script"] (spLaw K) := by
  have e := hfa.symm.trans (PySem.W.mg_of X G a_law)
  cases e
  have F_is_number := fun_mk (st := s_is_number) l_is_number c_is_number k_is_number
  have F_is_tolerance := fun_mk (st := s_is_tolerance) l_is_tolerance c_is_tolerance k_is_tolerance
  have F_check_number := fun_mk (st := s_check_number) l_check_number c_check_number k_check_number
  have F_check_tolerance := fun_mk (st := s_check_tolerance) l_check_tolerance c_check_tolerance k_check_tolerance
  have F_is_place := fun_mk (st := s_is_place) l_is_place c_is_place k_is_place
  have F_is_group := fun_mk (st := s_is_group) l_is_group c_is_group k_is_group
  have F_sign_of := fun_mk (st := s_sign_of) l_sign_of c_sign_of k_sign_of
  have F_place_at := fun_mk (st := s_place_at) l_place_at c_place_at k_place_at
  have F_place := fun_mk (st := s_place) l_place c_place k_place
  have F_group := fun_mk (st := s_group) l_group c_group k_group
  have F_law_source := fun_mk (st := s_law_source) l_law_source c_law_source k_law_source
  have F_law_draw := fun_mk (st := s_law_draw) l_law_draw c_law_draw k_law_draw
  have F_law_group_names := fun_mk (st := s_law_group_names) l_law_group_names c_law_group_names k_law_group_names
  have F_law_tolerance := fun_mk (st := s_law_tolerance) l_law_tolerance c_law_tolerance k_law_tolerance
  have F_law := fun_mk (st := s_law) l_law c_law k_law
  have b_is_number := F_is_number.binds (ps := ["thing"]) fun _ _ _ _ _ _ us hl => match us, hl with | [_], _ => rfl
  have b_is_tolerance := F_is_tolerance.binds (ps := ["thing"]) fun _ _ _ _ _ _ us hl => match us, hl with | [_], _ => rfl
  have b_check_number := F_check_number.binds (ps := ["number"]) fun _ _ _ _ _ _ us hl => match us, hl with | [_], _ => rfl
  have b_check_tolerance := F_check_tolerance.binds (ps := ["tolerance"]) fun _ _ _ _ _ _ us hl => match us, hl with | [_], _ => rfl
  have b_is_place := F_is_place.binds (ps := ["thing"]) fun _ _ _ _ _ _ us hl => match us, hl with | [_], _ => rfl
  have b_is_group := F_is_group.binds (ps := ["thing"]) fun _ _ _ _ _ _ us hl => match us, hl with | [_], _ => rfl
  have b_sign_of := F_sign_of.binds (ps := ["rest", "other"]) fun _ _ _ _ _ _ us hl => match us, hl with | [_, _], _ => rfl
  have b_place_at := F_place_at.binds (ps := ["step", "sign"]) fun _ _ _ _ _ _ us hl => match us, hl with | [_, _], _ => rfl
  have b_place := F_place.binds (ps := ["x", "kept", "tolerance"]) fun _ _ _ _ _ _ us hl => match us, hl with | [_, _, _], _ => rfl
  have b_group := F_group.binds (ps := ["name"]) fun _ _ _ _ _ _ us hl => match us, hl with | [_], _ => rfl
  have b_law_source := F_law_source.binds (ps := ["_law_script"]) fun _ _ _ _ _ _ us hl => match us, hl with | [_], _ => rfl
  have b_law_draw := F_law_draw.binds (ps := ["_law_source_here", "_law_many"]) fun _ _ _ _ _ _ us hl => match us, hl with | [_, _], _ => rfl
  have b_law_group_names := F_law_group_names.binds (ps := []) fun _ _ _ _ _ _ us hl => match us, hl with | [], _ => rfl
  have b_law_tolerance := F_law_tolerance.binds (ps := ["_law_source_here"]) fun _ _ _ _ _ _ us hl => match us, hl with | [_], _ => rfl
  have b_law := F_law.binds (ps := ["_law_script"]) fun _ _ _ _ _ _ us hl => match us, hl with | [_], _ => rfl
  have y_GROUPS : ∀ (j : Nat) (nm : Str) (ps : List Str), l_GROUPS[j]? = some (nm, ps) → ∃ u : Addr, PySem.W.nsIn K a_GROUPS nm = some (some (.ref u)) ∧ ∀ H : Hp, SqT K H u (ps.map V.str) := fun j nm ps h => match j, h with
    | 0, h => by
      cases Option.some.inj h
      exact ⟨g_GROUPS_0, by rw [PySem.W.nsIn, lk_GROUPS] <;> rfl, fun H => .inr ⟨_, _, _, lg_GROUPS_0, rfl, rfl, (by show 11 ≤ sizeLine; decide), (.cons ⟨_, rfl⟩ (.cons ⟨_, rfl⟩ (.cons ⟨_, rfl⟩ (.cons ⟨_, rfl⟩ (.cons ⟨_, rfl⟩ (.cons ⟨_, rfl⟩ (.cons ⟨_, rfl⟩ (.cons ⟨_, rfl⟩ (.cons ⟨_, rfl⟩ (.cons ⟨_, rfl⟩ (.cons ⟨_, rfl⟩ .nil)))))))))))⟩⟩
    | 1, h => by
      cases Option.some.inj h
      exact ⟨g_GROUPS_1, by rw [PySem.W.nsIn, lk_GROUPS] <;> rfl, fun H => .inr ⟨_, _, _, lg_GROUPS_1, rfl, rfl, (by show 7 ≤ sizeLine; decide), (.cons ⟨_, rfl⟩ (.cons ⟨_, rfl⟩ (.cons ⟨_, rfl⟩ (.cons ⟨_, rfl⟩ (.cons ⟨_, rfl⟩ (.cons ⟨_, rfl⟩ (.cons ⟨_, rfl⟩ .nil)))))))⟩⟩
    | 2, h => by
      cases Option.some.inj h
      exact ⟨g_GROUPS_2, by rw [PySem.W.nsIn, lk_GROUPS] <;> rfl, fun H => .inr ⟨_, _, _, lg_GROUPS_2, rfl, rfl, (by show 4 ≤ sizeLine; decide), (.cons ⟨_, rfl⟩ (.cons ⟨_, rfl⟩ (.cons ⟨_, rfl⟩ (.cons ⟨_, rfl⟩ .nil))))⟩⟩
    | 3, h => by
      cases Option.some.inj h
      exact ⟨g_GROUPS_3, by rw [PySem.W.nsIn, lk_GROUPS] <;> rfl, fun H => .inr ⟨_, _, _, lg_GROUPS_3, rfl, rfl, (by show 5 ≤ sizeLine; decide), (.cons ⟨_, rfl⟩ (.cons ⟨_, rfl⟩ (.cons ⟨_, rfl⟩ (.cons ⟨_, rfl⟩ (.cons ⟨_, rfl⟩ .nil)))))⟩⟩
    | 4, h => by
      cases Option.some.inj h
      exact ⟨g_GROUPS_4, by rw [PySem.W.nsIn, lk_GROUPS] <;> rfl, fun H => .inr ⟨_, _, _, lg_GROUPS_4, rfl, rfl, (by show 5 ≤ sizeLine; decide), (.cons ⟨_, rfl⟩ (.cons ⟨_, rfl⟩ (.cons ⟨_, rfl⟩ (.cons ⟨_, rfl⟩ (.cons ⟨_, rfl⟩ .nil)))))⟩⟩
    | 5, h => by
      cases Option.some.inj h
      exact ⟨g_GROUPS_5, by rw [PySem.W.nsIn, lk_GROUPS] <;> rfl, fun H => .inr ⟨_, _, _, lg_GROUPS_5, rfl, rfl, (by show 2 ≤ sizeLine; decide), (.cons ⟨_, rfl⟩ (.cons ⟨_, rfl⟩ .nil))⟩⟩
    | 6, h => by
      cases Option.some.inj h
      exact ⟨g_GROUPS_6, by rw [PySem.W.nsIn, lk_GROUPS] <;> rfl, fun H => .inr ⟨_, _, _, lg_GROUPS_6, rfl, rfl, (by show 2 ≤ sizeLine; decide), (.cons ⟨_, rfl⟩ (.cons ⟨_, rfl⟩ .nil))⟩⟩
    | 7, h => by
      cases Option.some.inj h
      exact ⟨g_GROUPS_7, by rw [PySem.W.nsIn, lk_GROUPS] <;> rfl, fun H => .inr ⟨_, _, _, lg_GROUPS_7, rfl, rfl, (by show 3 ≤ sizeLine; decide), (.cons ⟨_, rfl⟩ (.cons ⟨_, rfl⟩ (.cons ⟨_, rfl⟩ .nil)))⟩⟩
    | 8, h => by
      cases Option.some.inj h
      exact ⟨g_GROUPS_8, by rw [PySem.W.nsIn, lk_GROUPS] <;> rfl, fun H => .inr ⟨_, _, _, lg_GROUPS_8, rfl, rfl, (by show 0 ≤ sizeLine; decide), .nil⟩⟩
    | _ + 9, h => by cases h
  have z_GROUPS : ∀ z : Str, z ∉ l_GROUPS.map (·.1) → PySem.W.nsIn K a_GROUPS z = some none := fun z hz => by
    have n0 : (Value.str "any" t_GROUPS_0).isStr z = false := isStr_ne (fun q => hz (by rw [← q]; decide +kernel))
    have n1 : (Value.str "near" t_GROUPS_1).isStr z = false := isStr_ne (fun q => hz (by rw [← q]; decide +kernel))
    have n2 : (Value.str "far" t_GROUPS_2).isStr z = false := isStr_ne (fun q => hz (by rw [← q]; decide +kernel))
    have n3 : (Value.str "less" t_GROUPS_3).isStr z = false := isStr_ne (fun q => hz (by rw [← q]; decide +kernel))
    have n4 : (Value.str "more" t_GROUPS_4).isStr z = false := isStr_ne (fun q => hz (by rw [← q]; decide +kernel))
    have n5 : (Value.str "under" t_GROUPS_5).isStr z = false := isStr_ne (fun q => hz (by rw [← q]; decide +kernel))
    have n6 : (Value.str "over" t_GROUPS_6).isStr z = false := isStr_ne (fun q => hz (by rw [← q]; decide +kernel))
    have n7 : (Value.str "cell" t_GROUPS_7).isStr z = false := isStr_ne (fun q => hz (by rw [← q]; decide +kernel))
    have n8 : (Value.str "none" t_GROUPS_8).isStr z = false := isStr_ne (fun q => hz (by rw [← q]; decide +kernel))
    rw [PySem.W.nsIn, lk_GROUPS]
    simp only [List.find?, List.any, n0, n1, n2, n3, n4, n5, n6, n7, n8]
    rfl
  let T : Txt w K mg := {
f_is_number := f_is_number, d_is_number := _, F_is_number := F_is_number, b_is_number := b_is_number, m_is_number := PySem.W.mg_of X G a_is_number,
    f_is_tolerance := f_is_tolerance, d_is_tolerance := _, F_is_tolerance := F_is_tolerance, b_is_tolerance := b_is_tolerance, m_is_tolerance := PySem.W.mg_of X G a_is_tolerance,
    f_check_number := f_check_number, d_check_number := _, F_check_number := F_check_number, b_check_number := b_check_number, m_check_number := PySem.W.mg_of X G a_check_number,
    f_check_tolerance := f_check_tolerance, d_check_tolerance := _, F_check_tolerance := F_check_tolerance, b_check_tolerance := b_check_tolerance, m_check_tolerance := PySem.W.mg_of X G a_check_tolerance,
    f_is_place := f_is_place, d_is_place := _, F_is_place := F_is_place, b_is_place := b_is_place, m_is_place := PySem.W.mg_of X G a_is_place,
    f_is_group := f_is_group, d_is_group := _, F_is_group := F_is_group, b_is_group := b_is_group, m_is_group := PySem.W.mg_of X G a_is_group,
    f_sign_of := f_sign_of, d_sign_of := _, F_sign_of := F_sign_of, b_sign_of := b_sign_of, m_sign_of := PySem.W.mg_of X G a_sign_of,
    f_place_at := f_place_at, d_place_at := _, F_place_at := F_place_at, b_place_at := b_place_at, m_place_at := PySem.W.mg_of X G a_place_at,
    f_place := f_place, d_place := _, F_place := F_place, b_place := b_place, m_place := PySem.W.mg_of X G a_place,
    f_group := f_group, d_group := _, F_group := F_group, b_group := b_group, m_group := PySem.W.mg_of X G a_group,
    f_law_source := f_law_source, d_law_source := _, F_law_source := F_law_source, b_law_source := b_law_source, m_law_source := PySem.W.mg_of X G a_law_source,
    f_law_draw := f_law_draw, d_law_draw := _, F_law_draw := F_law_draw, b_law_draw := b_law_draw, m_law_draw := PySem.W.mg_of X G a_law_draw,
    f_law_group_names := f_law_group_names, d_law_group_names := _, F_law_group_names := F_law_group_names, b_law_group_names := b_law_group_names, m_law_group_names := PySem.W.mg_of X G a_law_group_names,
    f_law_tolerance := f_law_tolerance, d_law_tolerance := _, F_law_tolerance := F_law_tolerance, b_law_tolerance := b_law_tolerance, m_law_tolerance := PySem.W.mg_of X G a_law_tolerance,
    f_law := fa, d_law := _, F_law := F_law, b_law := b_law, m_law := hfa,
    m_int := PySem.W.mg_none_of X G z_int,
    m_bool := PySem.W.mg_none_of X G z_bool,
    m_str := PySem.W.mg_none_of X G z_str,
    m_isinstance := PySem.W.mg_none_of X G z_isinstance,
    m_abs := PySem.W.mg_none_of X G z_abs,
    m_divmod := PySem.W.mg_none_of X G z_divmod,
    m_range := PySem.W.mg_none_of X G z_range,
    a_GROUPS := a_GROUPS, m_GROUPS := PySem.W.mg_of X G x_GROUPS, e_GROUPS := _, n_GROUPS := _, kd_GROUPS := ⟨lk_GROUPS, ky_GROUPS, lo_GROUPS⟩, y_GROUPS := y_GROUPS, z_GROUPS := z_GROUPS,
    a_PLACES := a_PLACES, q_PLACES := fun H => .inr ⟨_, _, _, lk_PLACES, rfl, rfl, (by show 11 ≤ sizeLine; decide), (.cons ⟨_, rfl⟩ (.cons ⟨_, rfl⟩ (.cons ⟨_, rfl⟩ (.cons ⟨_, rfl⟩ (.cons ⟨_, rfl⟩ (.cons ⟨_, rfl⟩ (.cons ⟨_, rfl⟩ (.cons ⟨_, rfl⟩ (.cons ⟨_, rfl⟩ (.cons ⟨_, rfl⟩ (.cons ⟨_, rfl⟩ .nil)))))))))))⟩, o_PLACES := ⟨_, lk_PLACES, rfl, rfl⟩, m_PLACES := PySem.W.mg_of X G x_PLACES }
  exact ⟨PySem.W.fnOf "law" "law" (defArgs s_law) (defBody s_law) (defScope s_law) .none kV_law dc_law pm_law an_law cd_law ct_law, fun s v => .of_eq rfl, fun base _ _ => ok_law T⟩
theorem walk {l : PySem.W.OpenLaw} {q : Program} {loose : List Str} {XP : (Str → Option Value) → Heap → Prop} {YP : World → Heap → Prop} {d : DefRec} {K : Params → PySem.W.Frag} (hn : l.most = some 63) (hdf : d.params.defaults = [])
    (hY : ∀ (w : World) (h : Heap), YP w h → (K w.params).In h)
    (F : ∀ (w : World) (mg : Str → Option Value) (fa : Addr) (h : Heap), (K w.params).In h → h.Ns mainGlobals mg → mg d.name = some (.ref fa) →
      ∃ fd : FuncData, (∀ (s : Shared) (u : Value), BindsTo s fd ⟨[u], []⟩ [("_law_script", u)]) ∧ ∀ base : Heap, (K w.params).In base → base.Ns mainGlobals mg → FnOk l.prog w (K w.params) mg base CX0 6 fa fd ["_law_script"] (spLaw (K w.params))) :
    PySem.W.WalkO q loose XP YP l.row.toRowW d [] (fun f vs => PySem.call f vs) :=
  L2.walk_of (n := 63) (k := 6) (x := "_law_script") (CX := fun _ => CX0) (sp := fun w => spLaw (K w.params)) hn (by decide) hdf ⟨rfl, by decide, by decide⟩ hY F (fun _ _ a ns hl _ hS => ⟨a, ns, rfl, hS, hl, fun _ => rfl⟩) fun _ _ _ _ _ z => z
end Toy
open PySem PySem.W PyProof.Rows
set_option maxRecDepth 100000 in
set_option maxHeartbeats 0 in
theorem PySem.Challenge.cw_nearloops_k02_whole_groups_by_distance_holds : PySem.Challenge.rw_nearloops_k02_whole_groups_by_distance.Holds := by
  w_on; o_law; k_head; (case hw => w_witness2)
  k_fill
  refine Toy.walk (l := PySem.Challenge.rw_nearloops_k02_whole_groups_by_distance) rfl rfl (fun w h Y => PySem.W.kIn_of Y) ?F
  case F =>
    intro w mg fa h KX G hmg
    refine' Toy.all_mk KX G hmg ?x_PLACES ?lk_PLACES ?x_GROUPS ?lk_GROUPS ?ky_GROUPS ?lo_GROUPS ?lg_GROUPS_0 ?lg_GROUPS_1 ?lg_GROUPS_2 ?lg_GROUPS_3 ?lg_GROUPS_4 ?lg_GROUPS_5 ?lg_GROUPS_6 ?lg_GROUPS_7 ?lg_GROUPS_8 ?a_is_number ?l_is_number ?c_is_number ?k_is_number ?a_is_tolerance ?l_is_tolerance ?c_is_tolerance ?k_is_tolerance ?a_check_number ?l_check_number ?c_check_number ?k_check_number ?a_check_tolerance ?l_check_tolerance ?c_check_tolerance ?k_check_tolerance ?a_is_place ?l_is_place ?c_is_place ?k_is_place ?a_is_group ?l_is_group ?c_is_group ?k_is_group ?a_sign_of ?l_sign_of ?c_sign_of ?k_sign_of ?a_place_at ?l_place_at ?c_place_at ?k_place_at ?a_place ?l_place ?c_place ?k_place ?a_group ?l_group ?c_group ?k_group ?a_law_source ?l_law_source ?c_law_source ?k_law_source ?a_law_draw ?l_law_draw ?c_law_draw ?k_law_draw ?a_law_group_names ?l_law_group_names ?c_law_group_names ?k_law_group_names ?a_law_tolerance ?l_law_tolerance ?c_law_tolerance ?k_law_tolerance ?a_law ?l_law ?c_law ?k_law ?z_int ?z_bool ?z_str ?z_isinstance ?z_abs ?z_divmod ?z_range
    (case x_PLACES => k_is)
    (case lk_PLACES => k_is)
    (case x_GROUPS => k_is)
    (case lk_GROUPS => k_is)
    (case ky_GROUPS => k_keys)
    (case lo_GROUPS => rfl)
    (case lg_GROUPS_0 => k_is)
    (case lg_GROUPS_1 => k_is)
    (case lg_GROUPS_2 => k_is)
    (case lg_GROUPS_3 => k_is)
    (case lg_GROUPS_4 => k_is)
    (case lg_GROUPS_5 => k_is)
    (case lg_GROUPS_6 => k_is)
    (case lg_GROUPS_7 => k_is)
    (case lg_GROUPS_8 => k_is)
    (case a_is_number => k_is)
    (case l_is_number => k_is)
    (case c_is_number => k_is)
    (case k_is_number => k_is)
    (case a_is_tolerance => k_is)
    (case l_is_tolerance => k_is)
    (case c_is_tolerance => k_is)
    (case k_is_tolerance => k_is)
    (case a_check_number => k_is)
    (case l_check_number => k_is)
    (case c_check_number => k_is)
    (case k_check_number => k_is)
    (case a_check_tolerance => k_is)
    (case l_check_tolerance => k_is)
    (case c_check_tolerance => k_is)
    (case k_check_tolerance => k_is)
    (case a_is_place => k_is)
    (case l_is_place => k_is)
    (case c_is_place => k_is)
    (case k_is_place => k_is)
    (case a_is_group => k_is)
    (case l_is_group => k_is)
    (case c_is_group => k_is)
    (case k_is_group => k_is)
    (case a_sign_of => k_is)
    (case l_sign_of => k_is)
    (case c_sign_of => k_is)
    (case k_sign_of => k_is)
    (case a_place_at => k_is)
    (case l_place_at => k_is)
    (case c_place_at => k_is)
    (case k_place_at => k_is)
    (case a_place => k_is)
    (case l_place => k_is)
    (case c_place => k_is)
    (case k_place => k_is)
    (case a_group => k_is)
    (case l_group => k_is)
    (case c_group => k_is)
    (case k_group => k_is)
    (case a_law_source => k_is)
    (case l_law_source => k_is)
    (case c_law_source => k_is)
    (case k_law_source => k_is)
    (case a_law_draw => k_is)
    (case l_law_draw => k_is)
    (case c_law_draw => k_is)
    (case k_law_draw => k_is)
    (case a_law_group_names => k_is)
    (case l_law_group_names => k_is)
    (case c_law_group_names => k_is)
    (case k_law_group_names => k_is)
    (case a_law_tolerance => k_is)
    (case l_law_tolerance => k_is)
    (case c_law_tolerance => k_is)
    (case k_law_tolerance => k_is)
    (case a_law => k_is)
    (case l_law => k_is)
    (case c_law => k_is)
    (case k_law => k_is)
    (case z_int => k_is)
    (case z_bool => k_is)
    (case z_str => k_is)
    (case z_isinstance => k_is)
    (case z_abs => k_is)
    (case z_divmod => k_is)
    (case z_range => k_is)

