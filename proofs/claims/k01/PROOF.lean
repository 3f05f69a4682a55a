import PyProof.Rows.All
import Wide.All
import OpenK.AllK
import Wide.FinOn
import HandS.Base
import HandS.Call
import HandS.List
import HandS.Ends
import HandS.Words
import HandS.WordsList
import HandS.Wide
import HandS.WideBits
import HandS.IsInst
import HandS.Comp
import HandS.Strs
import HandS.Iter
import HandS.Zip
import HandS.Codes
import PySem.Challenge.RW_nearloops_k01_places
set_option Elab.async false
set_option maxRecDepth 100000
set_option maxHeartbeats 4000000

namespace Toy
open PySem L2
def top (i : Nat) : Stmt := PySem.Challenge.pw_nearloops_k01_places.main.body.getD i (.Pass ⟨0, 0, 0, 0⟩)
def c_PLACES : List V := [.str "below", .str "-<", .str "-=", .str "->", .str "<", .str "=", .str ">", .str "+<", .str "+=", .str "+>", .str "above"]
abbrev s_is_number : Stmt := top 5
abbrev s_is_tolerance : Stmt := top 6
abbrev s_check_number : Stmt := top 7
abbrev s_check_tolerance : Stmt := top 8
abbrev s_sign_of : Stmt := top 11
abbrev s_place_at : Stmt := top 12
abbrev s_place : Stmt := top 13
abbrev s_law_source : Stmt := top 15
abbrev s_law_draw : Stmt := top 16
abbrev s_law_places : Stmt := top 17
abbrev s_law_place : Stmt := top 18
abbrev s_law_tolerance : Stmt := top 19
abbrev s_law : Stmt := top 20
theorem sc_is_number : FnScope ["thing"] ["thing"] (defScope s_is_number) := ⟨rfl, rfl, rfl, by decide +kernel, rfl, by decide +kernel, by decide +kernel⟩
theorem sc_is_tolerance : FnScope ["thing"] ["thing"] (defScope s_is_tolerance) := ⟨rfl, rfl, rfl, by decide +kernel, rfl, by decide +kernel, by decide +kernel⟩
theorem sc_check_number : FnScope ["number"] ["number"] (defScope s_check_number) := ⟨rfl, rfl, rfl, by decide +kernel, rfl, by decide +kernel, by decide +kernel⟩
theorem sc_check_tolerance : FnScope ["tolerance"] ["tolerance"] (defScope s_check_tolerance) := ⟨rfl, rfl, rfl, by decide +kernel, rfl, by decide +kernel, by decide +kernel⟩
theorem sc_sign_of : FnScope ["rest", "other"] ["rest", "other"] (defScope s_sign_of) := ⟨rfl, rfl, rfl, by decide +kernel, rfl, by decide +kernel, by decide +kernel⟩
theorem sc_place_at : FnScope ["step", "sign"] ["step", "sign"] (defScope s_place_at) := ⟨rfl, rfl, rfl, by decide +kernel, rfl, by decide +kernel, by decide +kernel⟩
theorem sc_place : FnScope ["x", "kept", "tolerance", "cell", "rest", "kept_cell", "kept_rest"] ["x", "kept", "tolerance"] (defScope s_place) := ⟨rfl, rfl, rfl, by decide +kernel, rfl, by decide +kernel, by decide +kernel⟩
theorem sc_law_source : FnScope ["_law_script", "_law_great", "_law_seed", "_law_cell"] ["_law_script"] (defScope s_law_source) := ⟨rfl, rfl, rfl, by decide +kernel, rfl, by decide +kernel, by decide +kernel⟩
theorem sc_law_draw : FnScope ["_law_source_here", "_law_many", "_law_digit", "_law_mixed"] ["_law_source_here", "_law_many"] (defScope s_law_draw) := ⟨rfl, rfl, rfl, by decide +kernel, rfl, by decide +kernel, by decide +kernel⟩
theorem sc_law_places : FnScope [] [] (defScope s_law_places) := ⟨rfl, rfl, rfl, by decide +kernel, rfl, by decide +kernel, by decide +kernel⟩
theorem sc_law_place : FnScope ["_law_x", "_law_kept", "_law_tolerance_here", "_law_base", "_law_ends", "_law_end"] ["_law_x", "_law_kept", "_law_tolerance_here"] (defScope s_law_place) := ⟨rfl, rfl, rfl, by decide +kernel, rfl, by decide +kernel, by decide +kernel⟩
theorem sc_law_tolerance : FnScope ["_law_source_here"] ["_law_source_here"] (defScope s_law_tolerance) := ⟨rfl, rfl, rfl, by decide +kernel, rfl, by decide +kernel, by decide +kernel⟩
theorem sc_law : FnScope ["_law_script", "_law_source_here", "_law_tolerance_here", "_law_kept", "_law_row", "_law_turn", "_law_step", "_law_x", "_law_found", "_law_first", "_law_y", "_law_second"] ["_law_script"] (defScope s_law) := ⟨rfl, rfl, rfl, by decide +kernel, rfl, by decide +kernel, by decide +kernel⟩

/-! ### the data -/
/-- H' tells all that H tells, but for what stands at p -/
def But (p : Addr) (H H' : Hp) : Prop := ∀ b o, b ≠ p → H b = some o → H' b = some o
theorem But.refl (p : Addr) (H : Hp) : But p H H := fun _ _ _ h => h
theorem But.trans {p : Addr} {H H1 H2 : Hp} (a : But p H H1) (b : But p H1 H2) : But p H H2 := fun c o n h => b c o n (a c o n h)
theorem But.upd {p : Addr} {H H' : Hp} {o : HO} (a : But p H H') : But p H (upd H' p o) := fun c o n h => by rw [upd_ne n]; exact a c o n h
theorem Same.but {p : Addr} {H H' : Hp} (a : Same H H') : But p H H' := fun c o _ h => a c o h
theorem Same.new {H : Hp} {p : Addr} {o : HO} (h : H p = none) : Same H (upd H p o) := fun b o e => by rw [upd_ne (ne_of_none e h)]; exact e
/-- a source of draws at p, at most n drawn so far -/
def Src (H : Hp) (p : Addr) (n : Int) : Prop := ∃ g s c : Int, H p = some (.lst [.int g, .int s, .int c]) ∧ 0 ≤ s ∧ s < 2147483647 ∧ 0 ≤ c ∧ c ≤ n
theorem Src.same {H H' : Hp} {p : Addr} {n : Int} (h : Src H p n) (e : Same H H') : Src H' p n := by
  obtain ⟨g, s, c, h, q⟩ := h
  exact ⟨g, s, c, e _ _ h, q⟩
theorem Src.le {H : Hp} {p : Addr} {n m : Int} (h : Src H p n) (e : n ≤ m) : Src H p m := by
  obtain ⟨g, s, c, h, q1, q2, q3, q4⟩ := h
  exact ⟨g, s, c, h, q1, q2, q3, by omega⟩

theorem draw_pow {x c : Int} (x0 : 0 ≤ x) (x1 : x < 2147483629) (c0 : 0 ≤ c) (c1 : c ≤ 1000000) : CPow (x * 48271 + 16807 * c * c + 11) 3 := by
  refine ⟨by decide, by decide, ?_⟩
  have h1 : 0 ≤ c * c := Int.mul_nonneg c0 c0
  have h2 : c * c ≤ 1000000 * 1000000 := Int.mul_le_mul c1 c1 c0 (by decide)
  have e : 16807 * c * c = 16807 * (c * c) := Int.mul_assoc _ _ _
  rw [e]
  generalize c * c = y at h1 h2
  show _ < 18446744073709551616
  omega
theorem ix_of {K : PySem.W.Frag} {H : Hp} {p : Addr} {xs : List V} {i : Int} {v : V} {Q : VK} (h : SqL K H p xs) (h2 : atI xs i = some v) (h3 : Q v H) : rIxL K (.ref p) (.int i) H Q := ⟨p, xs, i, v, rfl, rfl, h, h2, h3⟩
theorem set_of {H : Hp} {p : Addr} {xs : List V} {k : Int} {j : Nat} {v : V} {Q : Hp → Prop} (h : H p = some (.lst xs)) (h2 : ixN xs.length k = some j) (h3 : Q (upd H p (.lst (xs.set j v)))) : rSetL (.ref p) (.int k) v H Q := ⟨p, xs, k, j, rfl, rfl, h, h2, h3⟩
theorem ifne {x y : V} {A B : Prop} (h : x = y) (k : B) : if (!decide (x = y)) = true then A else B := by
  rw [decide_eq_true h]
  exact iteF k
theorem ifd {c A B : Prop} {inst : Decidable c} (h1 : c → A) (h2 : ¬ c → B) : if (@decide c inst) = true then A else B := by
  by_cases h : c
  · rw [if_pos (decide_eq_true h)]
    exact h1 h
  · rw [if_neg (by rw [decide_eq_false h]; exact Bool.false_ne_true)]
    exact h2 h
local macro_rules | `(tactic| walk_at "rd") => `(tactic| repeat (first
  | refine ⟨_, rfl, ?_⟩
  | refine ⟨_, _, rfl, rfl, ?_⟩
  | refine ⟨_, _, rfl, ?_⟩
  | refine ⟨rfl, ?_⟩
  | refine ⟨_, _, _, _, rfl, rfl, SqL.of upd_same, rfl, ?_⟩
  | refine ⟨_, _, _, _, rfl, rfl, upd_same, rfl, ?_⟩
  | refine iteT ?_
  | refine iteF ?_))
theorem take_more {α : Type} : ∀ {l : List α} {i : Nat} {x : α}, l[i]? = some x → l.take (i + 1) = l.take i ++ [x]
  | [], i, x, h => by simp at h
  | a :: l, 0, x, h => by
    have e : a = x := Option.some.inj h
    subst e
    rfl
  | a :: l, i + 1, x, h => by
    have ih := take_more (l := l) (i := i) (x := x) h
    show a :: l.take (i + 1) = a :: l.take i ++ [x]
    rw [ih]
    rfl
/-- a new object, the heap behind it a letter: generalize hH : upd H l _ = H' ahead of it -/
theorem new_of {H H' : Hp} {l : Addr} {o o' : HO} (hH : upd H l o = H') (h : H l = none) (e : o = o') : Same H H' ∧ H' l = some o' := by
  subst e hH
  exact ⟨Same.new h, upd_same⟩
/-- a changed object -/
theorem chg_of {H H' : Hp} {l : Addr} {o o' : HO} (hH : upd H l o = H') (e : o = o') : But l H H' ∧ H' l = some o' := by
  subst e hH
  exact ⟨(But.refl l H).upd, upd_same⟩
theorem Src.but {H H' : Hp} {p q : Addr} {n : Int} (h : Src H p n) (e : But q H H') (hne : p ≠ q) : Src H' p n := by
  obtain ⟨g, s, c, h, r⟩ := h
  exact ⟨g, s, c, e _ _ hne h, r⟩
theorem Src.ne {H : Hp} {p q : Addr} {n : Int} (h : Src H p n) (hq : H q = none) : q ≠ p := fun z => by
  obtain ⟨_, _, _, e, _⟩ := h
  rw [z, e] at hq
  cases hq
theorem int_at {l : List Int} {i : Nat} {x : V} (h : (l.map V.int)[i]? = some x) : ∃ z, x = V.int z ∧ l[i]? = some z := by
  rw [List.getElem?_map] at h
  cases e : l[i]? with
  | none => rw [e] at h; cases h
  | some z => rw [e] at h; exact ⟨z, (Option.some.inj h).symm, rfl⟩
/-! ### the promises -/
def spSource (K : PySem.W.Frag) : Sp := fun vs H Q _ => ∃ (a : Addr) (ns : List Int), vs = [.ref a] ∧ SqL K H a (ns.map V.int) ∧ ∀ (p : Addr) (H' : Hp), H p = none → Same H H' → Src H' p 0 → Q (.ref p) H'
def spDraw : Sp := fun vs H Q _ => ∃ (p : Addr) (m n : Int), vs = [.ref p, .int m] ∧ Src H p n ∧ n < 1000000 ∧ 0 < m ∧ m < 2 ^ 64 ∧
  ∀ (d : Int) (H' : Hp), 0 ≤ d → d < m → But p H H' → Src H' p (n + 1) → Q (.int d) H'
def spLaw (K : PySem.W.Frag) : Sp := fun vs H Q _ => ∃ (a : Addr) (ns : List Int), vs = [.ref a] ∧ SqL K H a (ns.map V.int) ∧ ns.length ≤ 63 ∧ ∀ H', Q (.bl true) H'
def spTol : Sp := fun vs H Q _ => ∃ (p : Addr) (n : Int), vs = [.ref p] ∧ Src H p n ∧ n < 1000000 ∧
  ∀ (d : Int) (H' : Hp), 1 ≤ d → d ≤ 1000000 → But p H H' → Src H' p (n + 1) → Q (.int d) H'
def big : Int := 1000000000000000000000000000000
theorem div_ok {x e : Int} (h1 : -big < x) (h2 : x < big) (h : 1 ≤ e) : CDivP x e := by
  refine divp_ok h ?_
  have b := PyProof.Rows.intBits_le (k := 100) (a := x) (by unfold big at *; show _ < 1267650600228229401496703205376; omega)
  omega
theorem big_eq : (10 : Int) ^ (30 : Int).toNat = big := by decide +kernel
def spIsNum : Sp := fun vs H Q _ => ∃ x : Int, vs = [.int x] ∧ -big < x ∧ x < big ∧ Q (.bl true) H
def spIsTol : Sp := fun vs H Q _ => ∃ x : Int, vs = [.int x] ∧ 1 ≤ x ∧ x < big ∧ Q (.bl true) H
def spChkNum : Sp := fun vs H Q _ => ∃ x : Int, vs = [.int x] ∧ -big < x ∧ x < big ∧ Q .non H
def spChkTol : Sp := fun vs H Q _ => ∃ x : Int, vs = [.int x] ∧ 1 ≤ x ∧ x < big ∧ Q .non H
def sgn (r s : Int) : Str := if r < s then "<" else if s < r then ">" else "="
theorem sgn_len (r s : Int) : 1 + (sgn r s).length ≤ sizeLine := by
  unfold sgn
  split
  · decide
  · split <;> decide
def plcD (d r s : Int) : Str := if d ≤ -2 then "below" else if 2 ≤ d then "above" else if d = -1 then "-" ++ sgn r s else if d = 1 then "+" ++ sgn r s else sgn r s
def plc (x k e : Int) : Str := plcD (x / e - k / e) (x % e) (k % e)
def spSign : Sp := fun vs H Q _ => ∃ r s : Int, vs = [.int r, .int s] ∧ Q (.str (sgn r s)) H
def spPlaceAt : Sp := fun vs H Q _ => ∃ d r s : Int, vs = [.int d, .str (sgn r s)] ∧ Q (.str (plcD d r s)) H
def spPlace : Sp := fun vs H Q _ => ∃ x k e : Int, vs = [.int x, .int k, .int e] ∧ -big < x ∧ x < big ∧ -big < k ∧ k < big ∧ 1 ≤ e ∧ e < big ∧ ∀ H', Same H H' → Q (.str (plc x k e)) H'
/-! ### the places by their numbers -/
def placesL : List Str := ["below", "-<", "-=", "->", "<", "=", ">", "+<", "+=", "+>", "above"]
theorem c_places : c_PLACES = placesL.map V.str := rfl
theorem inV_strs (z : Str) : ∀ l : List Str, inV (V.str z) (l.map V.str) = decide (z ∈ l)
  | [] => rfl
  | a :: r => by
    have ih := inV_strs z r
    unfold inV at ih ⊢
    rw [List.map_cons, List.any_cons, ih]
    by_cases e : a = z
    · subst e
      simp [eqV]
    · have e1 : eqV (V.str a) (V.str z) = false := by
        show (a == z) = false
        simpa using e
      have e2 : ¬ z = a := fun q => e q.symm
      simp [e1, e2]
theorem flat_strs : ∀ l : List Str, (l.map V.str).all flatV = true
  | [] => rfl
  | a :: r => by
    rw [List.map_cons, List.all_cons, flat_strs r]
    rfl
theorem dp_strs {K : PySem.W.Frag} {H : Hp} : ∀ l : List Str, DpAll K H (l.map V.str) (l.map PyData.str)
  | [] => .nil
  | a :: r => .cons (.str a) (dp_strs r)
theorem str_at {l : List Str} {i : Nat} {x : V} (h : (l.map V.str)[i]? = some x) : ∃ z, x = V.str z ∧ l[i]? = some z := by
  rw [List.getElem?_map] at h
  cases e : l[i]? with
  | none => rw [e] at h; cases h
  | some z => rw [e] at h; exact ⟨z, (Option.some.inj h).symm, rfl⟩
theorem places_nd : placesL.Nodup := by decide +kernel
theorem places_lt {j : Nat} {z : Str} (h : placesL[j]? = some z) : j < 11 := (List.getElem?_eq_some_iff.mp h).1
theorem places_first {j m : Nat} {z : Str} (h : placesL[j]? = some z) (hm : m < j) : placesL[m]? ≠ some z := fun e => by
  have q := nd_ix places_nd e h
  omega
theorem shaped_of {d : PyData} (h1 : d.canLay0 = true) (h2 : d.depth ≤ 64) : SeqAt.shaped d = true := by
  unfold SeqAt.shaped
  rw [h1, decide_eq_true h2]
  rfl
theorem lay_strs : ∀ l : List Str, (∀ z ∈ l, PyData.strOk z = true) → PyData.canLayAll0 (l.map PyData.str) = true
  | [], _ => rfl
  | a :: r, h => by
    rw [List.map_cons, PyData.canLayAll0, lay_strs r fun z hz => h z (List.mem_cons_of_mem _ hz), PyData.canLay0, h a List.mem_cons_self]
    rfl
theorem depth_strs : ∀ l : List Str, PyData.depthAll (l.map PyData.str) ≤ 1
  | [] => by simp [PyData.depthAll]
  | a :: r => by
    have ih := depth_strs r
    rw [List.map_cons, PyData.depthAll]
    have e : (PyData.str a).depth ≤ 1 := by simp [PyData.depth]
    omega
theorem shaped_strs {l : List Str} (h : ∀ z ∈ l, PyData.strOk z = true) : SeqAt.shaped (.list (l.map PyData.str)) = true :=
  shaped_of (by rw [PyData.canLay0]; exact lay_strs l h) (by rw [PyData.depth]; have := depth_strs l; omega)
theorem eqv_strs {l : List Str} (h : ∀ z ∈ l, PyData.strOk z = true) : PyData.eqv (.list (l.map PyData.str)) (.list (l.map PyData.str)) = true :=
  SeqAt.eqv_refl _ (by rw [PyData.canLay0]; exact lay_strs l h)
theorem places_ok : ∀ z ∈ placesL, PyData.strOk z = true := by decide +kernel
/-- the number of the place -/
def plcN (d r s : Int) : Nat := if d ≤ -2 then 0 else if 2 ≤ d then 10 else (if d = -1 then 1 else if d = 1 then 7 else 4) + (if r < s then 0 else if s < r then 2 else 1)
theorem plc_at (d r s : Int) : placesL[plcN d r s]? = some (plcD d r s) := by
  unfold plcN plcD sgn
  by_cases a : d ≤ -2
  · rw [if_pos a, if_pos a]; rfl
  by_cases b : 2 ≤ d
  · rw [if_neg a, if_pos b, if_neg a, if_pos b]; rfl
  rw [if_neg a, if_neg b, if_neg a, if_neg b]
  rcases (by omega : d = -1 ∨ d = 1 ∨ d = 0) with e | e | e
  all_goals subst e
  all_goals rcases (by omega : r < s ∨ s < r ∨ r = s) with c | c | c
  all_goals first
    | (rw [if_pos c, if_pos c]; rfl)
    | (rw [if_neg (by omega : ¬ r < s), if_pos c, if_neg (by omega : ¬ r < s), if_pos c]; rfl)
    | (subst c; rw [if_neg (Int.lt_irrefl r), if_neg (Int.lt_irrefl r), if_neg (Int.lt_irrefl r), if_neg (Int.lt_irrefl r)]; rfl)
    | (subst c; rw [if_neg (Int.lt_irrefl r), if_neg (Int.lt_irrefl r)]; rfl)
theorem plc_ok (x k e : Int) : PyData.strOk (plc x k e) = true := places_ok _ (List.mem_of_getElem? (plc_at _ _ _))
def spLawPlaces : Sp := fun vs H Q _ => vs = [] ∧ ∀ p : Addr, H p = none → Q (.ref p) (upd H p (.lst c_PLACES))
def spLawPlace : Sp := fun vs H Q _ => ∃ x k e : Int, vs = [.int x, .int k, .int e] ∧ -big < x ∧ x < big ∧ -big < k ∧ k < big ∧ 1 ≤ e ∧ e ≤ 1000000 ∧ ∀ H', Same H H' → Q (.str (plc x k e)) H'
theorem plcN_mono {x y k e : Int} (he : 1 ≤ e) (h : x < y) : plcN (x / e - k / e) (x % e) (k % e) ≤ plcN (y / e - k / e) (y % e) (k % e) := by
  have h1 : x / e ≤ y / e := Int.ediv_le_ediv (by omega) (by omega)
  have ex := Int.mul_ediv_add_emod x e
  have ey := Int.mul_ediv_add_emod y e
  have h2 : x / e = y / e → x % e < y % e := fun q => by rw [q] at ex; omega
  generalize x / e = a at *
  generalize y / e = b at *
  generalize x % e = r at *
  generalize y % e = t at *
  generalize k / e = c at *
  generalize k % e = s at *
  unfold plcN
  by_cases q : a = b
  · have := h2 q
    subst q
    repeat' split
    all_goals omega
  · repeat' split
    all_goals omega
def lends (x k e : Int) : List Int := [k - k % e - e, k - e, k - e + 1, k - k % e, k, k + 1, k - k % e + e, k + e, k + e + 1, k - k % e + 2 * e]
theorem cnt_of {l : List Int} {x : Int} {j : Nat} (h1 : ∀ z ∈ l.take j, z ≤ x) (h2 : ∀ z ∈ l.drop j, x < z) (hj : j ≤ l.length) : (l.filter fun z => decide (z ≤ x)).length = j := by
  have e : l = l.take j ++ l.drop j := (List.take_append_drop j l).symm
  have f1 : (l.take j).filter (fun z => decide (z ≤ x)) = l.take j := List.filter_eq_self.mpr fun z hz => decide_eq_true (h1 z hz)
  have f2 : (l.drop j).filter (fun z => decide (z ≤ x)) = [] := List.filter_eq_nil_iff.mpr fun z hz q => by
    have := of_decide_eq_true q
    have := h2 z hz
    omega
  rw [e, List.filter_append, f1, f2, List.append_nil, List.length_take]
  omega
theorem ends_cnt {x k e : Int} (he : 1 ≤ e) : ((lends x k e).filter fun z => decide (z ≤ x)).length = plcN (x / e - k / e) (x % e) (k % e) := by
  have ex := Int.mul_ediv_add_emod x e
  have ek := Int.mul_ediv_add_emod k e
  have r0 := Int.emod_nonneg x (by omega : e ≠ 0)
  have r1 := Int.emod_lt_of_pos x (by omega : 0 < e)
  have s0 := Int.emod_nonneg k (by omega : e ≠ 0)
  have s1 := Int.emod_lt_of_pos k (by omega : 0 < e)
  unfold lends
  generalize x / e = a at *
  generalize x % e = r at *
  generalize k / e = c at *
  generalize k % e = s at *
  have key : ∀ j : Nat, j ≤ 10 → plcN (a - c) r s = j → (∀ z ∈ ([k - s - e, k - e, k - e + 1, k - s, k, k + 1, k - s + e, k + e, k + e + 1, k - s + 2 * e] : List Int).take j, z ≤ x) →
      (∀ z ∈ ([k - s - e, k - e, k - e + 1, k - s, k, k + 1, k - s + e, k + e, k + e + 1, k - s + 2 * e] : List Int).drop j, x < z) →
      (([k - s - e, k - e, k - e + 1, k - s, k, k + 1, k - s + e, k + e, k + e + 1, k - s + 2 * e] : List Int).filter fun z => decide (z ≤ x)).length = plcN (a - c) r s := fun j hj e h1 h2 => by
    rw [e]
    exact cnt_of h1 h2 hj
  by_cases d1 : a - c ≤ -2
  · have m : e * a ≤ e * (c - 2) := Int.mul_le_mul_of_nonneg_left (by omega) (by omega)
    rw [Int.mul_sub] at m
    refine key 0 (by decide) (by unfold plcN; rw [if_pos d1]) ?_ ?_
    all_goals (simp only [List.take, List.drop, List.mem_cons, List.not_mem_nil, or_false]; intro z hz; first | omega | exact hz.elim)
  by_cases d2 : 2 ≤ a - c
  · have m : e * (c + 2) ≤ e * a := Int.mul_le_mul_of_nonneg_left (by omega) (by omega)
    rw [Int.mul_add] at m
    refine key 10 (by decide) (by unfold plcN; rw [if_neg d1, if_pos d2]) ?_ ?_
    all_goals (simp only [List.take, List.drop, List.mem_cons, List.not_mem_nil, or_false]; intro z hz; first | omega | exact hz.elim)
  rcases (by omega : a = c - 1 ∨ a = c + 1 ∨ a = c) with q | q | q
  all_goals subst q
  all_goals rcases (by omega : r < s ∨ s < r ∨ r = s) with v | v | v
  all_goals try rw [Int.mul_sub] at ex
  all_goals try rw [Int.mul_add] at ex
  · refine key 1 (by decide) (by unfold plcN; rw [if_neg d1, if_neg d2, if_pos (by omega), if_pos v]) ?_ ?_
    all_goals (simp only [List.take, List.drop, List.mem_cons, List.not_mem_nil, or_false]; intro z hz; first | omega | exact hz.elim)
  · refine key 3 (by decide) (by unfold plcN; rw [if_neg d1, if_neg d2, if_pos (by omega), if_neg (by omega), if_pos v]) ?_ ?_
    all_goals (simp only [List.take, List.drop, List.mem_cons, List.not_mem_nil, or_false]; intro z hz; first | omega | exact hz.elim)
  · refine key 2 (by decide) (by unfold plcN; rw [if_neg d1, if_neg d2, if_pos (by omega), if_neg (by omega), if_neg (by omega)]) ?_ ?_
    all_goals (simp only [List.take, List.drop, List.mem_cons, List.not_mem_nil, or_false]; intro z hz; first | omega | exact hz.elim)
  · refine key 7 (by decide) (by unfold plcN; rw [if_neg d1, if_neg d2, if_neg (by omega), if_pos (by omega), if_pos v]) ?_ ?_
    all_goals (simp only [List.take, List.drop, List.mem_cons, List.not_mem_nil, or_false]; intro z hz; first | omega | exact hz.elim)
  · refine key 9 (by decide) (by unfold plcN; rw [if_neg d1, if_neg d2, if_neg (by omega), if_pos (by omega), if_neg (by omega), if_pos v]) ?_ ?_
    all_goals (simp only [List.take, List.drop, List.mem_cons, List.not_mem_nil, or_false]; intro z hz; first | omega | exact hz.elim)
  · refine key 8 (by decide) (by unfold plcN; rw [if_neg d1, if_neg d2, if_neg (by omega), if_pos (by omega), if_neg (by omega), if_neg (by omega)]) ?_ ?_
    all_goals (simp only [List.take, List.drop, List.mem_cons, List.not_mem_nil, or_false]; intro z hz; first | omega | exact hz.elim)
  · refine key 4 (by decide) (by unfold plcN; rw [if_neg d1, if_neg d2, if_neg (by omega), if_neg (by omega), if_pos v]) ?_ ?_
    all_goals (simp only [List.take, List.drop, List.mem_cons, List.not_mem_nil, or_false]; intro z hz; first | omega | exact hz.elim)
  · refine key 6 (by decide) (by unfold plcN; rw [if_neg d1, if_neg d2, if_neg (by omega), if_neg (by omega), if_neg (by omega), if_pos v]) ?_ ?_
    all_goals (simp only [List.take, List.drop, List.mem_cons, List.not_mem_nil, or_false]; intro z hz; first | omega | exact hz.elim)
  · refine key 5 (by decide) (by unfold plcN; rw [if_neg d1, if_neg d2, if_neg (by omega), if_neg (by omega), if_neg (by omega), if_neg (by omega)]) ?_ ?_
    all_goals (simp only [List.take, List.drop, List.mem_cons, List.not_mem_nil, or_false]; intro z hz; first | omega | exact hz.elim)
theorem zb_of {z e : Int} (z1 : -3 ≤ z) (z2 : z ≤ 100000000000000000000) (e0 : 1 ≤ e) (e1 : e ≤ 1000000) : -3 * 1000000 ≤ z * e ∧ z * e ≤ 100000000000000000000 * 1000000 := by
  rcases Int.le_total 0 z with h | h
  · have a := Int.mul_nonneg h (by omega : 0 ≤ e)
    have b := Int.mul_le_mul z2 e1 (by omega) (by decide)
    omega
  · have a := Int.mul_nonneg (by omega : 0 ≤ -z) (by omega : 0 ≤ e)
    have b := Int.mul_le_mul (by omega : -z ≤ 3) e1 (by omega) (by decide)
    rw [Int.neg_mul] at a b
    omega
/-- what the top has written: each def at its address, the built-ins not hidden -/
structure Txt (K : PySem.W.Frag) (mg : Str → Option Value) where
  f_is_number : Addr
  d_is_number : FuncData
  F_is_number : Fun K "is_number" "is_number" s_is_number f_is_number d_is_number
  b_is_number : Binds K d_is_number ["thing"] []
  m_is_number : mg "is_number" = some (.ref f_is_number)
  f_is_tolerance : Addr
  d_is_tolerance : FuncData
  F_is_tolerance : Fun K "is_tolerance" "is_tolerance" s_is_tolerance f_is_tolerance d_is_tolerance
  b_is_tolerance : Binds K d_is_tolerance ["thing"] []
  m_is_tolerance : mg "is_tolerance" = some (.ref f_is_tolerance)
  f_check_number : Addr
  d_check_number : FuncData
  F_check_number : Fun K "check_number" "check_number" s_check_number f_check_number d_check_number
  b_check_number : Binds K d_check_number ["number"] []
  m_check_number : mg "check_number" = some (.ref f_check_number)
  f_check_tolerance : Addr
  d_check_tolerance : FuncData
  F_check_tolerance : Fun K "check_tolerance" "check_tolerance" s_check_tolerance f_check_tolerance d_check_tolerance
  b_check_tolerance : Binds K d_check_tolerance ["tolerance"] []
  m_check_tolerance : mg "check_tolerance" = some (.ref f_check_tolerance)
  f_sign_of : Addr
  d_sign_of : FuncData
  F_sign_of : Fun K "sign_of" "sign_of" s_sign_of f_sign_of d_sign_of
  b_sign_of : Binds K d_sign_of ["rest", "other"] []
  m_sign_of : mg "sign_of" = some (.ref f_sign_of)
  f_place_at : Addr
  d_place_at : FuncData
  F_place_at : Fun K "place_at" "place_at" s_place_at f_place_at d_place_at
  b_place_at : Binds K d_place_at ["step", "sign"] []
  m_place_at : mg "place_at" = some (.ref f_place_at)
  f_place : Addr
  d_place : FuncData
  F_place : Fun K "place" "place" s_place f_place d_place
  b_place : Binds K d_place ["x", "kept", "tolerance"] []
  m_place : mg "place" = some (.ref f_place)
  f_law_source : Addr
  d_law_source : FuncData
  F_law_source : Fun K "_law_source" "_law_source" s_law_source f_law_source d_law_source
  b_law_source : Binds K d_law_source ["_law_script"] []
  m_law_source : mg "_law_source" = some (.ref f_law_source)
  f_law_draw : Addr
  d_law_draw : FuncData
  F_law_draw : Fun K "_law_draw" "_law_draw" s_law_draw f_law_draw d_law_draw
  b_law_draw : Binds K d_law_draw ["_law_source_here", "_law_many"] []
  m_law_draw : mg "_law_draw" = some (.ref f_law_draw)
  f_law_places : Addr
  d_law_places : FuncData
  F_law_places : Fun K "_law_places" "_law_places" s_law_places f_law_places d_law_places
  b_law_places : Binds K d_law_places [] []
  m_law_places : mg "_law_places" = some (.ref f_law_places)
  f_law_place : Addr
  d_law_place : FuncData
  F_law_place : Fun K "_law_place" "_law_place" s_law_place f_law_place d_law_place
  b_law_place : Binds K d_law_place ["_law_x", "_law_kept", "_law_tolerance_here"] []
  m_law_place : mg "_law_place" = some (.ref f_law_place)
  f_law_tolerance : Addr
  d_law_tolerance : FuncData
  F_law_tolerance : Fun K "_law_tolerance" "_law_tolerance" s_law_tolerance f_law_tolerance d_law_tolerance
  b_law_tolerance : Binds K d_law_tolerance ["_law_source_here"] []
  m_law_tolerance : mg "_law_tolerance" = some (.ref f_law_tolerance)
  f_law : Addr
  d_law : FuncData
  F_law : Fun K "law" "law" s_law f_law d_law
  b_law : Binds K d_law ["_law_script"] []
  m_law : mg "law" = some (.ref f_law)
  m_int : mg "int" = none
  m_bool : mg "bool" = none
  m_isinstance : mg "isinstance" = none
  m_abs : mg "abs" = none
  m_divmod : mg "divmod" = none
  m_range : mg "range" = none
  m_len : mg "len" = none
  m_tuple : mg "tuple" = none
  m_max : mg "max" = none
  m_zip : mg "zip" = none
  a_PLACES : Addr
  q_PLACES : ∀ H : Hp, SqT K H a_PLACES c_PLACES
  o_PLACES : ∃ o, K.lookup a_PLACES = some o ∧ o.cls = .type "tuple" ∧ o.dict = none
  m_PLACES : mg "PLACES" = some (.ref a_PLACES)

section
variable {P : Program} {w : World} {K : PySem.W.Frag} {mg : Str → Option Value} {base : Heap}
theorem ok_is_number (T : Txt K mg) : FnOk P w K mg base CX0 1 T.f_is_number T.d_is_number ["thing"] spIsNum := by
  refine T.F_is_number.ok sc_is_number (fun vs H Q E h => ?_) (fun cdv A outer s H vs Q E hr h => ?_)
  · obtain ⟨x, rfl, _⟩ := h
    rfl
  · obtain ⟨x, rfl, h1, h2, k⟩ := h
    refine ⟨_, (pss_cons (ps_if (PW.pt (pw_or (pt_not (pt_val (pe_callB call_isi (by rfl) T.m_isinstance (by decide +kernel) (pa_cons (pv 0) (pa_cons (pe_bltn (v := .ty "int") (by rfl) T.m_int (by decide +kernel) rfl) pa_nil))))) (pw_or1 (pt_val (pe_callB call_isi (by rfl) T.m_isinstance (by decide +kernel) (pa_cons (pv 0) (pa_cons (pe_bltn (v := .ty "bool") (by rfl) T.m_bool (by decide +kernel) rfl) pa_nil)))))))
      (pss_one (ps_ret pe_bl))
      pss_nil)
      (pss_one (ps_ret (pe_cmpR op_lt (pe_callB call_abs (by rfl) T.m_abs (by decide +kernel) (pa_cons (pv 0) pa_nil)) (pe_op op_pow pe_int pe_int) (nomark _))))), ?_⟩
    walk_at "rd"
    refine ⟨_, _, _, _, true, rfl, .ty _, .base (.int _), kit_ty (by decide +kernel), ?_⟩
    walk_at "rd"
    refine ⟨_, _, _, _, false, rfl, .ty _, .base (.int _), kit_ty (by decide +kernel), ?_⟩
    walk_at "rd"
    refine ⟨⟨by decide, by decide, by decide⟩, ?_⟩
    walk_at "rd"
    show Q (.bl (decide ((if x < 0 then -x else x) < (10 : Int) ^ (30 : Int).toNat))) _
    rw [big_eq, decide_eq_true (by split <;> omega)]
    exact k
theorem ok_is_tolerance (T : Txt K mg) : FnOk P w K mg base CX0 2 T.f_is_tolerance T.d_is_tolerance ["thing"] spIsTol := by
  refine T.F_is_tolerance.ok sc_is_tolerance (fun vs H Q E h => ?_) (fun cdv A outer s H vs Q E hr h => ?_)
  · obtain ⟨x, rfl, _⟩ := h
    rfl
  · obtain ⟨x, rfl, h1, h2, k⟩ := h
    refine ⟨_, (pss_one (ps_ret (pe_and (pe_call (ok_is_number T) (hr.mono (by decide)) (by rfl) T.m_is_number T.F_is_number.kp T.b_is_number .nil pass0 (pa_cons (pv 0) pa_nil)) (pe_one (pe_cmpR op_ge (pv 0) pe_int (nomark _)))))), ?_⟩
    walk_at "rd"
    refine ⟨by unfold big at *; omega, h2, ?_⟩
    walk_at "rd"
    show Q (.bl (decide (1 ≤ x))) _
    rw [decide_eq_true h1]
    exact k
theorem ok_check_number (T : Txt K mg) : FnOk P w K mg base CX0 2 T.f_check_number T.d_check_number ["number"] spChkNum := by
  refine T.F_check_number.ok sc_check_number (fun vs H Q E h => ?_) (fun cdv A outer s H vs Q E hr h => ?_)
  · obtain ⟨x, rfl, _⟩ := h
    rfl
  · obtain ⟨x, rfl, h1, h2, k⟩ := h
    refine ⟨_, (pss_one (ps_if (pt_not (pt_val (pe_call (ok_is_number T) (hr.mono (by decide)) (by rfl) T.m_is_number T.F_is_number.kp T.b_is_number .nil pass0 (pa_cons (pv 0) pa_nil))))
      (pss_one ps_never)
      pss_nil)), ?_⟩
    walk_at "rd"
    refine ⟨h1, h2, ?_⟩
    walk_at "rd"
    exact k
theorem ok_check_tolerance (T : Txt K mg) : FnOk P w K mg base CX0 3 T.f_check_tolerance T.d_check_tolerance ["tolerance"] spChkTol := by
  refine T.F_check_tolerance.ok sc_check_tolerance (fun vs H Q E h => ?_) (fun cdv A outer s H vs Q E hr h => ?_)
  · obtain ⟨x, rfl, _⟩ := h
    rfl
  · obtain ⟨x, rfl, h1, h2, k⟩ := h
    refine ⟨_, (pss_one (ps_if (pt_not (pt_val (pe_call (ok_is_tolerance T) (hr.mono (by decide)) (by rfl) T.m_is_tolerance T.F_is_tolerance.kp T.b_is_tolerance .nil pass0 (pa_cons (pv 0) pa_nil))))
      (pss_one ps_never)
      pss_nil)), ?_⟩
    walk_at "rd"
    refine ⟨h1, h2, ?_⟩
    walk_at "rd"
    exact k
theorem ok_sign_of (T : Txt K mg) : FnOk P w K mg base CX0 1 T.f_sign_of T.d_sign_of ["rest", "other"] spSign := by
  refine T.F_sign_of.ok sc_sign_of (fun vs H Q E h => ?_) (fun cdv A outer s H vs Q E hr h => ?_)
  · obtain ⟨r, s, rfl, _⟩ := h
    rfl
  · obtain ⟨r, s, rfl, k⟩ := h
    refine ⟨_, (pss_cons (ps_if (pt_cmpR op_lt (pv 0) (pv 1) (nomark _))
      (pss_one (ps_ret pe_str))
      pss_nil)
      (pss_cons (ps_if (pt_cmpR op_gt (pv 0) (pv 1) (nomark _))
      (pss_one (ps_ret pe_str))
      pss_nil)
      (pss_one (ps_ret pe_str)))), ?_⟩
    walk_at "rd"
    unfold sgn at k
    refine ifd (fun c => ?_) (fun c => ?_)
    · rw [if_pos c] at k
      exact k
    · rw [if_neg c] at k
      walk_at "rd"
      refine ifd (fun d => ?_) (fun d => ?_)
      · rw [if_pos d] at k
        exact k
      · rw [if_neg d] at k
        exact k
theorem ok_place_at (T : Txt K mg) : FnOk P w K mg base CX0 1 T.f_place_at T.d_place_at ["step", "sign"] spPlaceAt := by
  refine T.F_place_at.ok sc_place_at (fun vs H Q E h => ?_) (fun cdv A outer s H vs Q E hr h => ?_)
  · obtain ⟨d, r, s, rfl, _⟩ := h
    rfl
  · obtain ⟨d, r, s, rfl, q'⟩ := h
    refine ⟨_, (pss_cons (ps_if (pt_cmpR op_le (pv 0) (pe_un un_neg pe_int) (nomark _))
      (pss_one (ps_ret pe_str))
      pss_nil)
      (pss_cons (ps_if (pt_cmpR op_ge (pv 0) pe_int (nomark _))
      (pss_one (ps_ret pe_str))
      pss_nil)
      (pss_cons (ps_if (pt_cmpR op_eq (pv 0) (pe_un un_neg pe_int) (nomark _))
      (pss_one (ps_ret (pe_op op_add_str pe_str (pv 1))))
      pss_nil)
      (pss_cons (ps_if (pt_cmpR op_eq (pv 0) pe_int (nomark _))
      (pss_one (ps_ret (pe_op op_add_str pe_str (pv 1))))
      pss_nil)
      (pss_one (ps_ret (pv 1))))))), ?_⟩
    unfold plcD at q'
    walk_at "rd"
    refine ifd (fun c => ?_) (fun c => ?_)
    · rw [if_pos c] at q'
      exact q'
    rw [if_neg c] at q'
    walk_at "rd"
    refine ifd (fun c => ?_) (fun c => ?_)
    · rw [if_pos c] at q'
      exact q'
    rw [if_neg c] at q'
    walk_at "rd"
    refine ifd (fun c => ?_) (fun c => ?_)
    · rw [if_pos (V.int.inj c)] at q'
      walk_at "rd"
      exact ⟨sgn_len _ _, q'⟩
    rw [if_neg (fun z => c (congrArg V.int z))] at q'
    walk_at "rd"
    refine ifd (fun c => ?_) (fun c => ?_)
    · rw [if_pos (V.int.inj c)] at q'
      walk_at "rd"
      exact ⟨sgn_len _ _, q'⟩
    rw [if_neg (fun z => c (congrArg V.int z))] at q'
    walk_at "rd"
    exact q'
theorem ok_place (T : Txt K mg) : FnOk P w K mg base CX0 4 T.f_place T.d_place ["x", "kept", "tolerance"] spPlace := by
  refine T.F_place.ok sc_place (fun vs H Q E h => ?_) (fun cdv A outer s H vs Q E hr h => ?_)
  · obtain ⟨x, k, e, rfl, _⟩ := h
    rfl
  · obtain ⟨x, k, e, rfl, x1, x2, k1, k2, e1, e2, q⟩ := h
    refine ⟨_, (pss_cons (ps_expr (pe_call (ok_check_number T) (hr.mono (by decide)) (by rfl) T.m_check_number T.F_check_number.kp T.b_check_number .nil pass0 (pa_cons (pv 0) pa_nil)))
      (pss_cons (ps_expr (pe_call (ok_check_number T) (hr.mono (by decide)) (by rfl) T.m_check_number T.F_check_number.kp T.b_check_number .nil pass0 (pa_cons (pv 1) pa_nil)))
      (pss_cons (ps_expr (pe_call (ok_check_tolerance T) (hr.mono (by decide)) (by rfl) T.m_check_tolerance T.F_check_tolerance.kp T.b_check_tolerance .nil pass0 (pa_cons (pv 2) pa_nil)))
      (pss_cons (ps_asg (pe_callB call_divmodW (by rfl) T.m_divmod (by decide +kernel) (pa_cons (pv 0) (pa_cons (pv 2) pa_nil))) (pg_tup (by rfl) (pgs_cons (pg_name (i := 3) sc_place.nd rfl (Or.inl rfl)) (pgs_cons (pg_name (i := 4) sc_place.nd rfl (Or.inl rfl)) pgs_nil))))
      (pss_cons (ps_asg (pe_callB call_divmodW (by rfl) T.m_divmod (by decide +kernel) (pa_cons (pv 1) (pa_cons (pv 2) pa_nil))) (pg_tup (by rfl) (pgs_cons (pg_name (i := 5) sc_place.nd rfl (Or.inl rfl)) (pgs_cons (pg_name (i := 6) sc_place.nd rfl (Or.inl rfl)) pgs_nil))))
      (pss_one (ps_ret (pe_call (ok_place_at T) (hr.mono (by decide)) (by rfl) T.m_place_at T.F_place_at.kp T.b_place_at .nil pass0 (pa_cons (pe_op op_sub (pv 3) (pv 5)) (pa_cons (pe_call (ok_sign_of T) (hr.mono (by decide)) (by rfl) T.m_sign_of T.F_sign_of.kp T.b_sign_of .nil pass0 (pa_cons (pv 4) (pa_cons (pv 6) pa_nil))) pa_nil)))))))))), ?_⟩
    walk_at "rd"
    refine ⟨x1, x2, ?_⟩
    walk_at "rd"
    refine ⟨k1, k2, ?_⟩
    walk_at "rd"
    refine ⟨e1, e2, ?_⟩
    walk_at "rd"
    refine ⟨div_ok x1 x2 e1, fun p hp => ?_⟩
    have s1 : Same H (upd H p (.tup [.int (x / e), .int (x % e)])) := Same.new hp
    refine ⟨_, _, rfl, SqT.of upd_same, rfl, ?_⟩
    walk_at "rd"
    refine ⟨div_ok k1 k2 e1, fun p2 hp2 => ?_⟩
    refine ⟨_, _, rfl, SqT.of upd_same, rfl, ?_⟩
    have s2 := s1.trans (Same.new (o := .tup [.int (k / e), .int (k % e)]) hp2)
    walk_at "rd"
    exact ⟨_, _, _, rfl, q _ s2⟩
theorem ok_law_source (T : Txt K mg) : FnOk P w K mg base CX0 1 T.f_law_source T.d_law_source ["_law_script"] (spSource K) := by
  refine T.F_law_source.ok sc_law_source (fun vs H Q E h => ?_) (fun cdv A outer s H vs Q E hr h => ?_)
  · obtain ⟨a, ns, rfl, _⟩ := h
    rfl
  · obtain ⟨a, ns, rfl, hS, k⟩ := h
    refine ⟨_, (pss_cons (ps_asg (pe_tup (pa_cons pe_int (pa_cons pe_int pa_nil))) (pg_tup (by rfl) (pgs_cons (pg_name (i := 1) sc_law_source.nd rfl (Or.inl rfl)) (pgs_cons (pg_name (i := 2) sc_law_source.nd rfl (Or.inl rfl)) pgs_nil))))
      (pss_cons (ps_for PassesOwn.never rfl (pi_list (pv 0)) (pg_name (i := 3) sc_law_source.nd rfl (Or.inl rfl))
      (pss_cons (ps_if (PW.pt (pw_and (pt_cmpR op_eq (pv 1) pe_int (nomark _)) (pw_and1 (pt_cmpR op_ge (pv 3) (pe_op op_pow pe_int pe_int) (nomark _)))))
      (pss_one (ps_set (i := 1) sc_law_source.nd rfl (Or.inl rfl) (pv 3)))
      pss_nil)
      (pss_one (ps_set (i := 2) sc_law_source.nd rfl (Or.inl rfl) (pe_op op_mod (pe_callTy call_int1 (by rfl) T.m_int (by decide +kernel) (pa_cons (pe_op op_add (pe_op op_add (pe_op op_mul (pv 2) pe_int) (pv 3)) pe_int) pa_nil)) pe_int)))))
      (pss_one (ps_ret (pe_lst (pa_cons (pv 1) (pa_cons (pv 2) (pa_cons pe_int pa_nil)))))))), ?_⟩
    refine ⟨by decide, fun p hp => ?_⟩
    have s1 : Same H (upd H p (.tup [.int 0, .int 17])) := Same.new hp
    refine ⟨_, _, rfl, SqT.of upd_same, rfl, ?_⟩
    walk_at "rd"
    refine ⟨⟨_, s1.seq hS⟩, for_list (K := K) (a := a) (xs := ns.map V.int) (fun i σ H' => ∃ (g s : Int) (v : Option V), σ = [some (.ref a), some (.int g), some (.int s), v] ∧ 0 ≤ s ∧ s < 2147483647 ∧ Same H H')
      ⟨0, 17, none, rfl, by decide, by decide, s1⟩ (fun i σ H' _ ⟨_, _, _, _, _, _, z⟩ => z.seq hS) ?_ ?_⟩
    · rintro i y σ H' hi ⟨g, s, v, rfl, s0, s2, z⟩
      obtain ⟨u, rfl⟩ : ∃ u, y = V.int u := by
        rw [List.getElem?_map] at hi
        cases e : ns[i]? with
        | none => rw [e] at hi; cases hi
        | some u => rw [e] at hi; exact ⟨u, (Option.some.inj hi).symm⟩
      have fin : ∀ g' : Int, ∃ (g'' s'' : Int) (v'' : Option V), ([some (V.ref a), some (V.int g'), some (V.int ((s * 31 + u + 7) % 2147483647)), some (V.int u)] : St) = [some (.ref a), some (.int g''), some (.int s''), v''] ∧ 0 ≤ s'' ∧ s'' < 2147483647 ∧ Same H H' :=
        fun g' => ⟨g', _, _, rfl, Int.emod_nonneg _ (by decide), Int.emod_lt_of_pos _ (by decide), z⟩
      walk_at "rd"
      refine ifd (fun cg => ?_) (fun cg => ?_)
      · walk_at "rd"
        refine ⟨⟨by decide, by decide, by decide⟩, ?_⟩
        walk_at "rd"
        refine ifd (fun ch => ?_) (fun ch => ?_)
        · walk_at "rd"
          refine ⟨Or.inr ⟨by decide, by decide⟩, ?_⟩
          walk_at "rd"
          refine Or.inl ?_
          walk_at "rd"
          refine ⟨(by decide : (0 : Int) < 2147483647), ?_⟩
          exact fin u
        · walk_at "rd"
          refine ⟨Or.inr ⟨by decide, by decide⟩, ?_⟩
          walk_at "rd"
          refine Or.inl ?_
          walk_at "rd"
          refine ⟨(by decide : (0 : Int) < 2147483647), ?_⟩
          exact fin g
      · walk_at "rd"
        refine ⟨Or.inr ⟨by decide, by decide⟩, ?_⟩
        walk_at "rd"
        refine Or.inl ?_
        walk_at "rd"
        refine ⟨(by decide : (0 : Int) < 2147483647), ?_⟩
        exact fin g
    · rintro σ H' ⟨g, s, v, rfl, s0, s2, z⟩
      walk_at "rd"
      refine ⟨by show 3 ≤ sizeLine; decide, fun p2 hp2 => ?_⟩
      exact k p2 _ (z.free hp2) (z.trans (Same.new hp2)) ⟨g, s, 0, upd_same, s0, s2, by decide, by decide⟩
theorem ok_law_draw (T : Txt K mg) : FnOk P w K mg base CX0 1 T.f_law_draw T.d_law_draw ["_law_source_here", "_law_many"] spDraw := by
  refine T.F_law_draw.ok sc_law_draw (fun vs H Q E h => ?_) (fun cdv A outer s H vs Q E hr h => ?_)
  · obtain ⟨p, m, n, rfl, _⟩ := h
    rfl
  · obtain ⟨p, m, n, rfl, S, hn, m0, m1, k⟩ := h
    refine ⟨_, (pss_cons (ps_asg (pe_op op_add (pe_ix ix_list (pv 0) pe_int (fun _ _ => rfl)) pe_int) (pg_sub (pv 0) pe_int set_list))
      (pss_cons (ps_if (pt_cmpR op_gt (pe_ix ix_list (pv 0) pe_int (fun _ _ => rfl)) pe_int (nomark _))
      (pss_cons (ps_set (i := 2) sc_law_draw.nd rfl (Or.inl rfl) (pe_op op_mod (pe_callTy call_int1 (by rfl) T.m_int (by decide +kernel) (pa_cons (pe_ix ix_list (pv 0) pe_int (fun _ _ => rfl)) pa_nil)) (pv 1)))
      (pss_cons (ps_asg (pe_op op_fdivW (pe_ix ix_list (pv 0) pe_int (fun _ _ => rfl)) (pv 1)) (pg_sub (pv 0) pe_int set_list))
      (pss_one (ps_ret (pv 2)))))
      pss_nil)
      (pss_cons (ps_set (i := 3) sc_law_draw.nd rfl (Or.inl rfl) (pe_op op_mod (pe_op op_pow (pe_op op_add (pe_ix ix_list (pv 0) pe_int (fun _ _ => rfl)) (pe_op op_mul pe_int (pe_ix ix_list (pv 0) pe_int (fun _ _ => rfl)))) pe_int) pe_int))
      (pss_one (ps_ret (pe_op op_mod (pe_op op_mod (pe_op op_pow (pe_op op_add (pe_op op_add (pe_op op_mul (pv 3) pe_int) (pe_op op_mul (pe_op op_mul pe_int (pe_ix ix_list (pv 0) pe_int (fun _ _ => rfl))) (pe_ix ix_list (pv 0) pe_int (fun _ _ => rfl)))) pe_int) pe_int) pe_int) (pv 1))))))), ?_⟩
    obtain ⟨g, s, c, hp, s0, s1, c0, c1⟩ := S
    walk_at "rd"
    refine ⟨_, _, _, _, rfl, rfl, SqL.of hp, rfl, ?_⟩
    walk_at "rd"
    refine ⟨_, _, _, _, rfl, rfl, hp, rfl, ?_⟩
    walk_at "rd"
    refine ifd (fun cg => ?_) (fun cg => ?_)
    · walk_at "rd"
      refine Or.inl ?_
      walk_at "rd"
      refine ⟨m0, ?_⟩
      walk_at "rd"
      refine ⟨wide_div (b := 64) m0 (by omega) (by decide) (by decide), ?_⟩
      walk_at "rd"
      exact k _ _ (Int.emod_nonneg g (by omega)) (Int.emod_lt_of_pos g m0) (((But.refl p H).upd).upd) ⟨g / m, s, c + 1, upd_same, s0, s1, by omega, by omega⟩
    · walk_at "rd"
      refine ⟨Or.inl ⟨by decide, by decide⟩, ?_⟩
      walk_at "rd"
      refine ⟨⟨by decide, by decide, by omega⟩, ?_⟩
      walk_at "rd"
      refine ⟨(by decide : (0 : Int) < 2147483629), ?_⟩
      have x0 := Int.emod_nonneg ((s + 7919 * (c + 1)) ^ Int.toNat 5) (by decide : (2147483629 : Int) ≠ 0)
      have x1 := Int.emod_lt_of_pos ((s + 7919 * (c + 1)) ^ Int.toNat 5) (by decide : (0 : Int) < 2147483629)
      walk_at "rd"
      refine ⟨Or.inr ⟨by decide, by decide⟩, ?_⟩
      walk_at "rd"
      refine ⟨Or.inl ⟨by decide, by decide⟩, ?_⟩
      walk_at "rd"
      refine ⟨Or.inr ⟨by omega, by omega⟩, ?_⟩
      walk_at "rd"
      refine ⟨draw_pow x0 x1 (by omega) (by omega), ?_⟩
      walk_at "rd"
      refine ⟨(by decide : (0 : Int) < 1000000007), ?_⟩
      walk_at "rd"
      refine ⟨m0, ?_⟩
      exact k _ _ (Int.emod_nonneg _ (by omega)) (Int.emod_lt_of_pos _ m0) ((But.refl p H).upd) ⟨g, s, c + 1, upd_same, s0, s1, by omega, by omega⟩
theorem ok_law_tolerance (T : Txt K mg) : FnOk P w K mg base CX0 2 T.f_law_tolerance T.d_law_tolerance ["_law_source_here"] spTol := by
  refine T.F_law_tolerance.ok sc_law_tolerance (fun vs H Q E h => ?_) (fun cdv A outer s H vs Q E hr h => ?_)
  · obtain ⟨p, n, rfl, _⟩ := h
    rfl
  · obtain ⟨p, n, rfl, S, hn, k⟩ := h
    refine ⟨_, (pss_one (ps_ret (pe_ix ix_list (pe_lst (pa_cons pe_int (pa_cons pe_int (pa_cons pe_int (pa_cons pe_int (pa_cons pe_int (pa_cons pe_int (pa_cons pe_int (pa_cons (pe_op op_pow pe_int pe_int) pa_nil))))))))) (pe_call (ok_law_draw T) (hr.mono (by decide)) (by rfl) T.m_law_draw T.F_law_draw.kp T.b_law_draw .nil pass0 (pa_cons (pv 0) (pa_cons pe_int pa_nil))) (fun _ _ => rfl)))), ?_⟩
    walk_at "rd"
    refine ⟨⟨by decide, by decide, by decide⟩, ?_⟩
    refine ⟨by show 8 ≤ sizeLine; decide, fun t ht => ?_⟩
    walk_at "rd"
    refine ⟨p, 8, n, rfl, S.same (Same.new ht), hn, by decide, by decide, fun d H' d0 d1 hb S' => ?_⟩
    have pt : t ≠ p := fun z => by
      obtain ⟨_, _, _, e, _⟩ := S
      rw [z, e] at ht
      cases ht
    have e1 := hb t _ pt upd_same
    have hk := fun (d : Int) (a : 1 ≤ d) (b : d ≤ 1000000) => k d H' a b ((Same.but (Same.new ht)).trans hb) S'
    rcases (by omega : d = 0 ∨ d = 1 ∨ d = 2 ∨ d = 3 ∨ d = 4 ∨ d = 5 ∨ d = 6 ∨ d = 7) with z | z | z | z | z | z | z | z
    all_goals subst z
    all_goals exact ix_of (SqL.of e1) rfl (hk _ (by decide) (by decide))
theorem ok_law_places (T : Txt K mg) : FnOk P w K mg base CX0 1 T.f_law_places T.d_law_places [] spLawPlaces := by
  refine T.F_law_places.ok sc_law_places (fun vs H Q E h => ?_) (fun cdv A outer s H vs Q E hr h => ?_)
  · obtain ⟨rfl, _⟩ := h
    rfl
  · obtain ⟨rfl, k⟩ := h
    refine ⟨_, (pss_one (ps_ret (pe_lst (pa_cons pe_str (pa_cons pe_str (pa_cons pe_str (pa_cons pe_str (pa_cons pe_str (pa_cons pe_str (pa_cons pe_str (pa_cons pe_str (pa_cons pe_str (pa_cons pe_str (pa_cons pe_str pa_nil)))))))))))))), ?_⟩
    exact ⟨by show 11 ≤ sizeLine; decide, k⟩
theorem ok_law_place (T : Txt K mg) : FnOk P w K mg base CX0 2 T.f_law_place T.d_law_place ["_law_x", "_law_kept", "_law_tolerance_here"] spLawPlace := by
  refine T.F_law_place.ok sc_law_place (fun vs H Q E h => ?_) (fun cdv A outer s H vs Q E hr h => ?_)
  · obtain ⟨x, k, e, rfl, _⟩ := h
    rfl
  · obtain ⟨x, k, e, rfl, x1, x2, k1, k2, e1, e2, q⟩ := h
    refine ⟨_, (pss_cons (ps_set (i := 3) sc_law_place.nd rfl (Or.inl rfl) (pe_op op_sub (pv 1) (pe_op op_mod (pv 1) (pv 2))))
      (pss_cons (ps_set (i := 4) sc_law_place.nd rfl (Or.inl rfl) (pe_lst (pa_cons (pe_op op_sub (pv 3) (pv 2)) (pa_cons (pe_op op_sub (pv 1) (pv 2)) (pa_cons (pe_op op_add (pe_op op_sub (pv 1) (pv 2)) pe_int) (pa_cons (pv 3) (pa_cons (pv 1) (pa_cons (pe_op op_add (pv 1) pe_int) pa_nil))))))))
      (pss_cons (ps_set (i := 4) sc_law_place.nd rfl (Or.inl rfl) (pe_op op_cat (pv 4) (pe_lst (pa_cons (pe_op op_add (pv 3) (pv 2)) (pa_cons (pe_op op_add (pv 1) (pv 2)) (pa_cons (pe_op op_add (pe_op op_add (pv 1) (pv 2)) pe_int) (pa_cons (pe_op op_add (pv 3) (pe_op op_mul pe_int (pv 2))) pa_nil)))))))
      (pss_one (ps_ret (pe_ix ix_list (pe_call0 (ok_law_places T) (hr.mono (by decide)) (by rfl) T.m_law_places T.F_law_places.kp T.b_law_places .nil pass0) (pe_callB call_len_seq (by rfl) T.m_len (by decide +kernel) (pa_cons (pe_lc (own := [("_law_end", 5)]) (by rfl) sc_law_place.nd (pi_list (pv 4)) (blkOk_by (own := [("_law_end", 5)]) (N := ["_law_x", "_law_kept", "_law_tolerance_here", "_law_base", "_law_ends", "_law_end"]) (sc := defScope s_law_place) (by decide +kernel)) (fun _ _ _ _ _ => (pg_name (i := 5) sc_law_place.nd rfl (Or.inl rfl))) (fun _ _ _ _ _ => (pts_one (pt_cmpR op_le (pv 5) (pv 0) (nomark _)))) (fun _ _ _ _ _ => (pv 5))) pa_nil)) (fun _ _ => rfl))))))), ?_⟩
    walk_at "rd"
    refine ⟨by show 0 < e; omega, ?_⟩
    walk_at "rd"
    refine ⟨by show 6 ≤ sizeLine; decide, fun l1 h1 => ?_⟩
    generalize hH : upd _ l1 _ = H1
    obtain ⟨s1, d1⟩ := new_of (o' := .lst [.int (k - k % e - e), .int (k - e), .int (k - e + 1), .int (k - k % e), .int k, .int (k + 1)]) hH h1 rfl
    clear hH
    walk_at "rd"
    refine ⟨Or.inl ⟨by decide, by decide⟩, ?_⟩
    walk_at "rd"
    refine ⟨by show 4 ≤ sizeLine; decide, fun l2 h2 => ?_⟩
    generalize hH : upd _ l2 _ = H2
    obtain ⟨s2, d2⟩ := new_of (o' := .lst [.int (k - k % e + e), .int (k + e), .int (k + e + 1), .int (k - k % e + 2 * e)]) hH h2 rfl
    clear hH
    refine ⟨_, _, _, _, rfl, rfl, s2 _ _ d1, d2, by show 10 ≤ sizeLine; decide, fun l3 h3 => ?_⟩
    generalize hH : upd _ l3 _ = H3
    obtain ⟨s3, d3⟩ := new_of (o' := .lst ((lends x k e).map V.int)) hH h3 rfl
    clear hH
    refine ⟨rfl, fun l4 h4 => ?_⟩
    generalize hH : upd _ l4 _ = H4
    obtain ⟨s4, d4⟩ := new_of (o' := .lst c_PLACES) hH h4 rfl
    clear hH
    walk_at "rd"
    refine ⟨⟨_, SqL.of (s4 _ _ d3)⟩, fun D hD => ?_⟩
    refine lc_list (K := K) (a := l3) (xs := (lends x k e).map V.int) (fun i H' => Same H4 H' ∧ H' D = some (.lst ((((lends x k e).take i).filter fun z => decide (z ≤ x)).map V.int))) ⟨Same.new hD, upd_same⟩ (fun i H' _ q => SqL.of (q.1 _ _ (s4 _ _ d3))) ?_ ?_
    · rintro i y H5 hy ⟨s5, d5⟩
      obtain ⟨z, rfl, hz⟩ := int_at hy
      refine ⟨rfl, ?_⟩
      walk_at "rd"
      refine ifd (fun c => ?_) (fun c => ?_)
      · walk_at "rd"
        refine ⟨_, d5, ?_, ?_⟩
        · rw [List.length_map]
          refine Nat.lt_of_le_of_lt (List.length_filter_le _ _) ?_
          rw [List.length_take]
          exact Nat.lt_of_le_of_lt (Nat.min_le_right _ _) (by show 10 < sizeLine; decide)
        refine ⟨fun b o q => ?_, ?_⟩
        · rw [upd_ne (fun w => by rw [w, hD] at q; cases q)]
          exact s5 b o q
        · rw [upd_same, take_more hz, List.filter_append, List.map_append]
          simp [c]
      · refine ⟨s5, ?_⟩
        rw [d5, take_more hz, List.filter_append]
        simp [c]
    rintro H5 ⟨s5, d5⟩
    have d5' : H5 D = some (.lst (((lends x k e).filter fun z => decide (z ≤ x)).map V.int)) := by
      rw [d5, List.length_map, List.take_length]
    refine ⟨_, _, rfl, Or.inl (SqL.of d5'), ?_⟩
    rw [List.length_map, ends_cnt e1]
    refine ⟨_, _, _, _, rfl, rfl, SqL.of (s5 _ _ d4), at_of rfl (by rw [c_places, List.getElem?_map, plc_at]; rfl), ?_⟩
    exact q _ (s1.trans (s2.trans (s3.trans (s4.trans s5))))
theorem ok_law (T : Txt K mg) : FnOk P w K mg base CX0 6 T.f_law T.d_law ["_law_script"] (spLaw K) := by
  refine T.F_law.ok sc_law (fun vs H Q E h => ?_) (fun cdv A outer s H vs Q E hr h => ?_)
  · obtain ⟨a, ns, rfl, _⟩ := h
    rfl
  · obtain ⟨a, ns, rfl, hS, hlen, k⟩ := h
    refine ⟨_, (pss_cons (ps_set (i := 1) sc_law.nd rfl (Or.inl rfl) (pe_call (ok_law_source T) (hr.mono (by decide)) (by rfl) T.m_law_source T.F_law_source.kp T.b_law_source .nil pass0 (pa_cons (pv 0) pa_nil)))
      (pss_cons (ps_if (pt_cmpR (op_neD hr.units) (pe_glob (v := .ref T.a_PLACES) rfl T.m_PLACES rfl) (pe_callTy call_tuple_of (by rfl) T.m_tuple (by decide +kernel) (pa_cons (pe_call0 (ok_law_places T) (hr.mono (by decide)) (by rfl) T.m_law_places T.F_law_places.kp T.b_law_places .nil pass0) pa_nil)) (nomark _))
      (pss_one (ps_ret pe_bl))
      pss_nil)
      (pss_cons (ps_set (i := 2) sc_law.nd rfl (Or.inr rfl) (pe_call (ok_law_tolerance T) (hr.mono (by decide)) (by rfl) T.m_law_tolerance T.F_law_tolerance.kp T.b_law_tolerance .nil pass0 (pa_cons (pv 1) pa_nil)))
      (pss_cons (ps_set (i := 3) sc_law.nd rfl (Or.inr rfl) (pe_op op_sub (pe_call (ok_law_draw T) (hr.mono (by decide)) (by rfl) T.m_law_draw T.F_law_draw.kp T.b_law_draw .nil pass0 (pa_cons (pv 1) (pa_cons pe_int pa_nil))) pe_int))
      (C8.pss_cut (ps_if (pt_cmpR op_eq (pe_call (ok_law_draw T) (hr.mono (by decide)) (by rfl) T.m_law_draw T.F_law_draw.kp T.b_law_draw .nil pass0 (pa_cons (pv 1) (pa_cons pe_int pa_nil))) pe_int (nomark _))
      (pss_one (ps_set (i := 3) sc_law.nd rfl (Or.inr rfl) (pe_ix ix_list (pe_lst (pa_cons (pe_op op_pow pe_int pe_int) (pa_cons (pe_op op_sub pe_int (pe_op op_pow pe_int pe_int)) (pa_cons (pe_op op_pow pe_int pe_int) pa_nil)))) (pe_call (ok_law_draw T) (hr.mono (by decide)) (by rfl) T.m_law_draw T.F_law_draw.kp T.b_law_draw .nil pass0 (pa_cons (pv 1) (pa_cons pe_int pa_nil))) (fun _ _ => rfl))))
      pss_nil)
      (pss_cons (ps_set (i := 4) sc_law.nd rfl (Or.inl rfl) (pe_lst pa_nil))
      (C8.pss_cut (ps_for PassesOwn.never rfl (pi_range1 (by rfl) T.m_range (pa_cons pe_int pa_nil)) (pg_name (i := 5) sc_law.nd rfl (Or.inl rfl))
      (pss_cons (ps_set (i := 6) sc_law.nd rfl (Or.inl rfl) (pe_op op_sub (pe_call (ok_law_draw T) (hr.mono (by decide)) (by rfl) T.m_law_draw T.F_law_draw.kp T.b_law_draw .nil pass0 (pa_cons (pv 1) (pa_cons (pe_op op_add (pe_op op_mul pe_int (pv 2)) pe_int) pa_nil))) (pv 2)))
      (pss_cons (ps_set (i := 6) sc_law.nd rfl (Or.inl rfl) (pe_op op_add (pv 6) (pe_op op_mul (pe_op op_sub (pe_call (ok_law_draw T) (hr.mono (by decide)) (by rfl) T.m_law_draw T.F_law_draw.kp T.b_law_draw .nil pass0 (pa_cons (pv 1) (pa_cons pe_int pa_nil))) pe_int) (pv 2))))
      (pss_one (ps_expr (pe_bm PySem.F.plainAttrs_list PySem.F.slot_list_append PySem.F.type_list_append mt_append (pv 4) (pa_cons (pe_callB (call_max2 rfl) (by rfl) T.m_max (by decide +kernel) (pa_cons (pe_op op_sub pe_int (pe_op op_pow pe_int pe_int)) (pa_cons (pe_op op_add (pv 3) (pv 6)) pa_nil))) pa_nil)))))))
      (pss_cons (ps_setLc (i := 8) (own := [("_law_x", 7)]) (by rfl) sc_law.nd rfl rfl (sw_true rfl rfl rfl (by decide +kernel)) (pi_list (pv 4)) (blkOk_by (own := [("_law_x", 7)]) (N := ["_law_script", "_law_source_here", "_law_tolerance_here", "_law_kept", "_law_row", "_law_turn", "_law_step", "_law_x", "_law_found", "_law_first", "_law_y", "_law_second"]) (sc := defScope s_law) (by decide +kernel)) (fun _ _ _ _ _ => (pg_name (i := 7) sc_law.nd rfl (Or.inl rfl))) (fun _ _ _ _ _ => pts_nil) (fun _ _ _ _ _ => (pe_call (ok_place T) (hr.mono (by decide)) (by rfl) T.m_place T.F_place.kp T.b_place .nil pass0 (pa_cons (pv 7) (pa_cons (pv 3) (pa_cons (pv 2) pa_nil))))))
      (C8.pss_cut (ps_if (pt_cmpR (op_neD hr.units) (pv 8) (pe_lc (own := [("_law_x", 7)]) (by rfl) sc_law.nd (pi_list (pv 4)) (blkOk_by (own := [("_law_x", 7)]) (N := ["_law_script", "_law_source_here", "_law_tolerance_here", "_law_kept", "_law_row", "_law_turn", "_law_step", "_law_x", "_law_found", "_law_first", "_law_y", "_law_second"]) (sc := defScope s_law) (by decide +kernel)) (fun _ _ _ _ _ => (pg_name (i := 7) sc_law.nd rfl (Or.inl rfl))) (fun _ _ _ _ _ => pts_nil) (fun _ _ _ _ _ => (pe_call (ok_law_place T) (hr.mono (by decide)) (by rfl) T.m_law_place T.F_law_place.kp T.b_law_place .nil pass0 (pa_cons (pv 7) (pa_cons (pv 3) (pa_cons (pv 2) pa_nil)))))) (nomark _))
      (pss_one (ps_ret pe_bl))
      pss_nil)
      (pss_cons (ps_for PassesOwn.never rfl (pi_zip (by rfl) T.m_zip (pa_cons (pv 4) (pa_cons (pv 8) pa_nil))) (pg_tup (by rfl) (pgs_cons (pg_name (i := 7) sc_law.nd rfl (Or.inl rfl)) (pgs_cons (pg_name (i := 9) sc_law.nd rfl (Or.inl rfl)) pgs_nil)))
      (pss_one (ps_for PassesOwn.never rfl (pi_zip (by rfl) T.m_zip (pa_cons (pv 4) (pa_cons (pv 8) pa_nil))) (pg_tup (by rfl) (pgs_cons (pg_name (i := 10) sc_law.nd rfl (Or.inl rfl)) (pgs_cons (pg_name (i := 11) sc_law.nd rfl (Or.inl rfl)) pgs_nil)))
      (pss_one (ps_if (PW.pt (pw_and (pt_cmpR op_lt (pv 7) (pv 10) (nomark _)) (pw_and1 (pt_cmpR op_gt (pe_bm PySem.F.plainAttrs_tuple PySem.F.slot_tuple_index PySem.F.type_tuple_index mt_tup_index (pe_glob (v := .ref T.a_PLACES) rfl T.m_PLACES rfl) (pa_cons (pv 9) pa_nil)) (pe_bm PySem.F.plainAttrs_tuple PySem.F.slot_tuple_index PySem.F.type_tuple_index mt_tup_index (pe_glob (v := .ref T.a_PLACES) rfl T.m_PLACES rfl) (pa_cons (pv 11) pa_nil)) (nomark _)))))
      (pss_one (ps_ret pe_bl))
      pss_nil)))))
      (pss_one (ps_ret pe_bl)))))))))))), ?_⟩
    walk_at "rd"
    refine ⟨a, ns, rfl, hS, fun p H1 hp s1 S1 => ?_⟩
    walk_at "rd"
    refine fun l2 h2 => ?_
    have n2 := S1.ne h2
    generalize hH : upd _ l2 _ = H2
    obtain ⟨s2, d2⟩ := new_of (o' := .lst c_PLACES) hH h2 rfl
    clear hH
    walk_at "rd"
    refine ⟨_, _, rfl, Or.inl ⟨SqL.of d2, fun l3 h3 => ?_⟩⟩
    generalize hH : upd _ l3 _ = H3
    obtain ⟨s3, d3⟩ := new_of (o' := .tup c_PLACES) hH h3 rfl
    clear hH
    refine ⟨_, _, .tup (T.q_PLACES _) (dp_strs placesL), .tup (SqT.of d3) (dp_strs placesL), by decide +kernel, by decide +kernel, ?_⟩
    rw [show PyData.eqv (.tuple (placesL.map PyData.str)) (.tuple (placesL.map PyData.str)) = true by decide +kernel]
    walk_at "rd"
    refine ⟨_, _, rfl, (S1.same s2).same s3, by decide, fun e H4 e0 e1 _ S4 => ?_⟩
    walk_at "rd"
    refine ⟨_, _, _, rfl, S4, by decide, by decide, by decide, fun d1 H5 a1 b1 _ S5 => ?_⟩
    walk_at "rd"
    refine ⟨fun σ H' => ∃ kk : Int, σ = [some (.ref a), some (.ref p), some (.int e), some (.int kk), none, none, none, none, none, none, none, none] ∧ -big < kk ∧ kk ≤ 100000000000000000000000000000 ∧ Src H' p 10, ?_, ?_⟩
    · walk_at "rd"
      refine ⟨_, _, _, rfl, S5, by decide, by decide, by decide, fun d2 H6 a2 b2 _ S6 => ?_⟩
      walk_at "rd"
      refine ifd (fun c => ?_) (fun c => ?_)
      · walk_at "rd"
        refine ⟨⟨by decide, by decide, by decide⟩, ?_⟩
        walk_at "rd"
        refine ⟨⟨by decide, by decide, by decide⟩, ?_⟩
        walk_at "rd"
        refine ⟨⟨by decide, by decide, by decide⟩, ?_⟩
        refine ⟨by show 3 ≤ sizeLine; decide, fun t ht => ?_⟩
        have pt := S6.ne ht
        generalize hH : upd _ t _ = H7
        obtain ⟨s7, d7⟩ := new_of (o' := .lst [.int ((10 : Int) ^ (29 : Int).toNat), .int (1 - (10 : Int) ^ (30 : Int).toNat), .int ((10 : Int) ^ (12 : Int).toNat)]) hH ht rfl
        clear hH
        walk_at "rd"
        refine ⟨_, _, _, rfl, S6.same s7, by decide, by decide, by decide, fun d3 H8 a3 b3 u8 S8 => ?_⟩
        have pick : ∃ z : Int, atI [V.int ((10 : Int) ^ (29 : Int).toNat), .int (1 - (10 : Int) ^ (30 : Int).toNat), .int ((10 : Int) ^ (12 : Int).toNat)] d3 = some (.int z) ∧ -big < z ∧ z ≤ 100000000000000000000000000000 := by
          rcases (by omega : d3 = 0 ∨ d3 = 1 ∨ d3 = 2) with q | q | q
          all_goals subst q
          · exact ⟨_, rfl, by decide, by decide⟩
          · exact ⟨_, rfl, by decide, by decide⟩
          · exact ⟨_, rfl, by decide, by decide⟩
        obtain ⟨z, hz, z1, z2⟩ := pick
        refine ⟨_, _, _, _, rfl, rfl, SqL.of (u8 t _ pt d7), hz, ?_⟩
        exact ⟨_, rfl, z1, z2, S8.le (by decide)⟩
      · exact ⟨_, rfl, by unfold big; omega, by omega, S6.le (by decide)⟩
    rintro σ H6 ⟨kk, rfl, kk1, kk2, S6⟩
    clear S5 S4 S1
    refine ⟨by decide, fun R hR => ?_⟩
    have pR := S6.ne hR
    generalize hH : upd _ R _ = H7
    obtain ⟨s7, d7⟩ := new_of (o' := .lst (([] : List Int).map V.int)) hH hR rfl
    clear hH
    refine ⟨fun σ H' => ∃ (v5 v6 : Option V) (xs : List Int), σ = [some (.ref a), some (.ref p), some (.int e), some (.int kk), some (.ref R), v5, v6, none, none, none, none, none] ∧ xs.length = 12 ∧ (∀ x ∈ xs, -big < x ∧ x < big) ∧ H' R = some (.lst (xs.map V.int)), ?_, ?_⟩
    · walk_at "rd"
      refine ⟨by decide, by decide, ?_⟩
      refine for_range (lo := 0) (n := 12) (fun i σ H' => ∃ (v5 v6 : Option V) (xs : List Int), σ = [some (.ref a), some (.ref p), some (.int e), some (.int kk), some (.ref R), v5, v6, none, none, none, none, none] ∧ xs.length = i ∧ (∀ x ∈ xs, -big < x ∧ x < big) ∧ H' R = some (.lst (xs.map V.int)) ∧ Src H' p (10 + 3 * (i : Int)))
        ⟨none, none, [], rfl, rfl, (fun x hx => by cases hx), d7, (S6.same s7).le (by decide)⟩ ?_ (fun σ H' ⟨v5, v6, xs, q1, q2, q3, q4, _⟩ => ⟨v5, v6, xs, q1, q2, q3, q4⟩)
      rintro i σ H8 hi ⟨v5, v6, xs, rfl, hl, hx, d8, S8⟩
      walk_at "rd"
      refine ⟨Or.inl ⟨by decide, by decide⟩, ?_⟩
      walk_at "rd"
      refine ⟨_, _, _, rfl, S8, by omega, by omega, by omega, fun d4 H9 a4 b4 u9 S9 => ?_⟩
      walk_at "rd"
      refine ⟨_, _, _, rfl, S9, by omega, by omega, by omega, fun d5 H10 a5 b5 u10 S10 => ?_⟩
      have d10 := u10 _ _ pR (u9 _ _ pR d8)
      have m0 : -3 * 1000000 ≤ (d5 - 3) * e ∧ (d5 - 3) * e ≤ 100000000000000000000 * 1000000 := zb_of (by omega) (by omega) e0 e1
      have m1 : (d5 - 3) * e ≤ 3 * e := Int.mul_le_mul_of_nonneg_right (by omega) (by omega)
      walk_at "rd"
      refine ⟨Or.inr ⟨by omega, by omega⟩, ?_⟩
      walk_at "rd"
      refine ⟨.inl ⟨rfl, _, SqL.of d10⟩, ?_⟩
      walk_at "rd"
      refine ⟨⟨by decide, by decide, by decide⟩, ?_⟩
      walk_at "rd"
      refine ⟨_, _, _, rfl, rfl, d10, by rw [List.length_map, hl]; exact Nat.lt_trans hi (by decide), ?_⟩
      generalize hH : upd _ R _ = H11
      obtain ⟨u11, d11⟩ := chg_of (o' := .lst ((xs ++ [if kk + (d4 - e + (d5 - 3) * e) > 1 - (10 : Int) ^ (30 : Int).toNat then kk + (d4 - e + (d5 - 3) * e) else 1 - (10 : Int) ^ (30 : Int).toNat]).map V.int)) hH (by rw [List.map_append]; rfl)
      clear hH
      refine ⟨_, _, _, rfl, by rw [List.length_append, hl]; rfl, ?_, d11, (S10.but u11 pR.symm).le (by omega)⟩
      intro x hm
      rcases List.mem_append.mp hm with q | q
      · exact hx x q
      · rw [List.mem_singleton.mp q, big_eq]
        generalize (d5 - 3) * e = m at m0 m1
        unfold big at kk1 ⊢
        split <;> omega
    rintro σ H8 ⟨v5, v6, xs, rfl, hl, hx, d8⟩
    walk_at "rd"
    refine ⟨⟨_, SqL.of d8⟩, fun D hD => ?_⟩
    refine lc_list (K := K) (a := R) (xs := xs.map V.int) (fun i H' => Same H8 H' ∧ H' D = some (.lst ((((xs.take i).map fun x => plc x kk e)).map V.str))) ⟨Same.new hD, upd_same⟩ (fun i H' _ q => SqL.of (q.1 _ _ d8)) ?_ ?_
    · rintro i y H9 hy ⟨s9, d9⟩
      obtain ⟨z, rfl, hz⟩ := int_at hy
      have hb := hx z (List.mem_of_getElem? hz)
      refine ⟨rfl, ?_⟩
      walk_at "rd"
      refine ⟨_, _, _, rfl, hb.1, hb.2, kk1, by unfold big; omega, e0, by unfold big; omega, fun H10 s10 => ?_⟩
      refine ⟨_, s10 _ _ d9, by rw [List.length_map, List.length_map, List.length_take]; exact Nat.lt_of_le_of_lt (Nat.min_le_right _ _) (by rw [hl]; decide), fun b o q => ?_, ?_⟩
      · rw [upd_ne (fun w => by rw [w, hD] at q; cases q)]
        exact s10 b o (s9 b o q)
      · rw [upd_same, take_more hz, List.map_append, List.map_append]
        rfl
    rintro H9 ⟨s9, d9⟩
    rw [List.length_map, List.take_length] at d9
    have d8' := s9 _ _ d8
    walk_at "rd"
    refine ⟨fun σ H' => Same H9 H' ∧ σ = [some (.ref a), some (.ref p), some (.int e), some (.int kk), some (.ref R), v5, v6, none, some (.ref D), none, none, none], ?_, ?_⟩
    · walk_at "rd"
      refine ⟨⟨_, SqL.of d8'⟩, fun D2 hD2 => ?_⟩
      refine lc_list (K := K) (a := R) (xs := xs.map V.int) (fun i H' => Same H9 H' ∧ H' D2 = some (.lst ((((xs.take i).map fun x => plc x kk e)).map V.str))) ⟨Same.new hD2, upd_same⟩ (fun i H' _ q => SqL.of (q.1 _ _ d8')) ?_ ?_
      · rintro i y H10 hy ⟨s10, d10⟩
        obtain ⟨z, rfl, hz⟩ := int_at hy
        have hb := hx z (List.mem_of_getElem? hz)
        refine ⟨rfl, ?_⟩
        walk_at "rd"
        refine ⟨_, _, _, rfl, hb.1, hb.2, kk1, by unfold big; omega, e0, e1, fun H11 s11 => ?_⟩
        refine ⟨_, s11 _ _ d10, by rw [List.length_map, List.length_map, List.length_take]; exact Nat.lt_of_le_of_lt (Nat.min_le_right _ _) (by rw [hl]; decide), fun b o q => ?_, ?_⟩
        · rw [upd_ne (fun w => by rw [w, hD2] at q; cases q)]
          exact s11 b o (s10 b o q)
        · rw [upd_same, take_more hz, List.map_append, List.map_append]
          rfl
      rintro H10 ⟨s10, d10⟩
      rw [List.length_map, List.take_length] at d10
      have ok : ∀ z ∈ xs.map fun x => plc x kk e, PyData.strOk z = true := fun z hz => by
        obtain ⟨x, _, rfl⟩ := List.mem_map.mp hz
        exact plc_ok _ _ _
      refine ⟨_, _, .lst (SqL.of (s10 _ _ d9)) (dp_strs _), .lst (SqL.of d10) (dp_strs _), shaped_strs ok, shaped_strs ok, ?_⟩
      rw [eqv_strs ok]
      walk_at "rd"
      exact ⟨s10, rfl⟩
    rintro σ H10 ⟨s10, rfl⟩
    have q8 := s10 _ _ d8'
    have q9 := s10 _ _ d9
    have fat : ∀ {i : Nat} {u y : V}, (xs.map V.int)[i]? = some u → ((xs.map fun x => plc x kk e).map V.str)[i]? = some y → ∃ x, u = .int x ∧ y = .str (plc x kk e) := fun {i u y} h1 h2 => by
      obtain ⟨x, rfl, hx⟩ := int_at h1
      obtain ⟨z, rfl, hz⟩ := str_at h2
      rw [List.getElem?_map, hx] at hz
      exact ⟨x, rfl, by rw [← Option.some.inj hz]⟩
    walk_at "rd"
    refine ⟨_, _, _, _, rfl, SqL.of q8, SqL.of q9, ?_⟩
    refine RZ.for_zipL (K := K) (xs := xs.map V.int) (ys := (xs.map fun x => plc x kk e).map V.str) (by simp) (fun i σ H' => ∃ v7 v9 v10 v11 : Option V, σ = [some (.ref a), some (.ref p), some (.int e), some (.int kk), some (.ref R), v5, v6, v7, some (.ref D), v9, v10, v11] ∧ Same H10 H')
      ⟨_, _, _, _, rfl, Same.refl _⟩ (fun i σ H' ⟨_, _, _, _, _, z⟩ => ⟨SqL.of (z _ _ q8), SqL.of (z _ _ q9)⟩) ?_ ?_
    · rintro i u y t σ H11 hu hy ⟨v7, v9, v10, v11, rfl, s11⟩ ht
      obtain ⟨x, rfl, rfl⟩ := fat hu hy
      generalize hH : upd _ t _ = H12
      obtain ⟨s12, d12⟩ := new_of (o' := .tup [.int x, .str (plc x kk e)]) hH ht rfl
      clear hH
      refine ⟨_, _, rfl, SqT.of d12, rfl, ?_⟩
      walk_at "rd"
      have z8 := s12 _ _ (s11 _ _ q8)
      have z9 := s12 _ _ (s11 _ _ q9)
      refine ⟨_, _, _, _, rfl, SqL.of z8, SqL.of z9, ?_⟩
      refine RZ.for_zipL (K := K) (xs := xs.map V.int) (ys := (xs.map fun x => plc x kk e).map V.str) (by simp) (fun i σ H' => ∃ v10 v11 : Option V, σ = [some (.ref a), some (.ref p), some (.int e), some (.int kk), some (.ref R), v5, v6, some (.int x), some (.ref D), some (.str (plc x kk e)), v10, v11] ∧ Same H12 H')
        ⟨_, _, rfl, Same.refl _⟩ (fun i σ H' ⟨_, _, _, z⟩ => ⟨SqL.of (z _ _ z8), SqL.of (z _ _ z9)⟩) ?_ ?_
      · rintro i2 u2 y2 t2 σ H13 hu2 hy2 ⟨v10, v11, rfl, s13⟩ ht2
        obtain ⟨x2, rfl, rfl⟩ := fat hu2 hy2
        generalize hH : upd _ t2 _ = H14
        obtain ⟨s14, d14⟩ := new_of (o' := .tup [.int x2, .str (plc x2 kk e)]) hH ht2 rfl
        clear hH
        refine ⟨_, _, rfl, SqT.of d14, rfl, ?_⟩
        walk_at "rd"
        refine ifd (fun c => ?_) (fun c => ?_)
        · walk_at "rd"
          refine ⟨.inr (.inl ⟨rfl, T.o_PLACES⟩), ?_⟩
          walk_at "rd"
          refine ⟨_, placesL, _, _, rfl, rfl, T.q_PLACES _, plc_at _ _ _, fun m hm => places_first (plc_at _ _ _) hm, ?_⟩
          refine ⟨.inr (.inl ⟨rfl, T.o_PLACES⟩), ?_⟩
          walk_at "rd"
          refine ⟨_, placesL, _, _, rfl, rfl, T.q_PLACES _, plc_at _ _ _, fun m hm => places_first (plc_at _ _ _) hm, ?_⟩
          walk_at "rd"
          refine ifd (fun c2 => ?_) (fun c2 => ?_)
          · have m := plcN_mono (k := kk) e0 c
            omega
          · exact ⟨_, _, rfl, s13.trans s14⟩
        · exact ⟨_, _, rfl, s13.trans s14⟩
      · rintro σ H13 ⟨v10, v11, rfl, s13⟩
        exact ⟨_, _, _, _, rfl, s11.trans (s12.trans s13)⟩
    · rintro σ H11 ⟨v7, v9, v10, v11, rfl, s11⟩
      walk_at "rd"
      exact k _
end
theorem all_mk {l : PySem.W.OpenLaw} {w : World} {K : PySem.W.Frag} {h : Heap} {mg : Str → Option Value} {fa : Addr} (X : K.In h) (G : h.Ns mainGlobals mg) (hfa : mg "law" = some (.ref fa))
    {f_is_number f_is_tolerance f_check_number f_check_tolerance f_sign_of f_place_at f_place f_law_source f_law_draw f_law_places f_law_place f_law_tolerance f_law : Addr}
    {od_is_number an_is_number od_is_tolerance an_is_tolerance od_check_number an_check_number od_check_tolerance an_check_tolerance od_sign_of an_sign_of od_place_at an_place_at od_place an_place od_law_source an_law_source od_law_draw an_law_draw od_law_places an_law_places od_law_place an_law_place od_law_tolerance an_law_tolerance od_law an_law : Option Addr} {sl_is_number sl_is_tolerance sl_check_number sl_check_tolerance sl_sign_of sl_place_at sl_place sl_law_source sl_law_draw sl_law_places sl_law_place sl_law_tolerance sl_law : Array (Option Value)}
    {oc_is_number kV_is_number dc_is_number pm_is_number cd_is_number ct_is_number oc_is_tolerance kV_is_tolerance dc_is_tolerance pm_is_tolerance cd_is_tolerance ct_is_tolerance oc_check_number kV_check_number dc_check_number pm_check_number cd_check_number ct_check_number oc_check_tolerance kV_check_tolerance dc_check_tolerance pm_check_tolerance cd_check_tolerance ct_check_tolerance oc_sign_of kV_sign_of dc_sign_of pm_sign_of cd_sign_of ct_sign_of oc_place_at kV_place_at dc_place_at pm_place_at cd_place_at ct_place_at oc_place kV_place dc_place pm_place cd_place ct_place oc_law_source kV_law_source dc_law_source pm_law_source cd_law_source ct_law_source oc_law_draw kV_law_draw dc_law_draw pm_law_draw cd_law_draw ct_law_draw oc_law_places kV_law_places dc_law_places pm_law_places cd_law_places ct_law_places oc_law_place kV_law_place dc_law_place pm_law_place cd_law_place ct_law_place oc_law_tolerance kV_law_tolerance dc_law_tolerance pm_law_tolerance cd_law_tolerance ct_law_tolerance oc_law kV_law dc_law pm_law cd_law ct_law : Value}
    {a_PLACES : Addr} {n_PLACES : Nat} {sl_PLACES : Array (Option Value)} {t_PLACES_0 t_PLACES_1 t_PLACES_2 t_PLACES_3 t_PLACES_4 t_PLACES_5 t_PLACES_6 t_PLACES_7 t_PLACES_8 t_PLACES_9 t_PLACES_10 : Tok}
    (x_PLACES : PySem.W.nsIn K mainGlobals "PLACES" = some (some (.ref a_PLACES)))
    (lk_PLACES : K.lookup a_PLACES = some ⟨.type "tuple", none, .seq #[.str "below" t_PLACES_0, .str "-<" t_PLACES_1, .str "-=" t_PLACES_2, .str "->" t_PLACES_3, .str "<" t_PLACES_4, .str "=" t_PLACES_5, .str ">" t_PLACES_6, .str "+<" t_PLACES_7, .str "+=" t_PLACES_8, .str "+>" t_PLACES_9, .str "above" t_PLACES_10] n_PLACES, sl_PLACES⟩)
    (a_is_number : PySem.W.nsIn K mainGlobals "is_number" = some (some (.ref f_is_number)))
    (l_is_number : K.lookup f_is_number = some ⟨oc_is_number, od_is_number, .func (PySem.W.fnOf "is_number" "is_number" (defArgs s_is_number) (defBody s_is_number) (defScope s_is_number) .none kV_is_number dc_is_number pm_is_number an_is_number cd_is_number ct_is_number), sl_is_number⟩)
    (c_is_number : PySem.W.codeIn K cd_is_number "is_number" = true)
    (k_is_number : PySem.W.keepIn K (.ref f_is_number) = true)
    (a_is_tolerance : PySem.W.nsIn K mainGlobals "is_tolerance" = some (some (.ref f_is_tolerance)))
    (l_is_tolerance : K.lookup f_is_tolerance = some ⟨oc_is_tolerance, od_is_tolerance, .func (PySem.W.fnOf "is_tolerance" "is_tolerance" (defArgs s_is_tolerance) (defBody s_is_tolerance) (defScope s_is_tolerance) .none kV_is_tolerance dc_is_tolerance pm_is_tolerance an_is_tolerance cd_is_tolerance ct_is_tolerance), sl_is_tolerance⟩)
    (c_is_tolerance : PySem.W.codeIn K cd_is_tolerance "is_tolerance" = true)
    (k_is_tolerance : PySem.W.keepIn K (.ref f_is_tolerance) = true)
    (a_check_number : PySem.W.nsIn K mainGlobals "check_number" = some (some (.ref f_check_number)))
    (l_check_number : K.lookup f_check_number = some ⟨oc_check_number, od_check_number, .func (PySem.W.fnOf "check_number" "check_number" (defArgs s_check_number) (defBody s_check_number) (defScope s_check_number) .none kV_check_number dc_check_number pm_check_number an_check_number cd_check_number ct_check_number), sl_check_number⟩)
    (c_check_number : PySem.W.codeIn K cd_check_number "check_number" = true)
    (k_check_number : PySem.W.keepIn K (.ref f_check_number) = true)
    (a_check_tolerance : PySem.W.nsIn K mainGlobals "check_tolerance" = some (some (.ref f_check_tolerance)))
    (l_check_tolerance : K.lookup f_check_tolerance = some ⟨oc_check_tolerance, od_check_tolerance, .func (PySem.W.fnOf "check_tolerance" "check_tolerance" (defArgs s_check_tolerance) (defBody s_check_tolerance) (defScope s_check_tolerance) .none kV_check_tolerance dc_check_tolerance pm_check_tolerance an_check_tolerance cd_check_tolerance ct_check_tolerance), sl_check_tolerance⟩)
    (c_check_tolerance : PySem.W.codeIn K cd_check_tolerance "check_tolerance" = true)
    (k_check_tolerance : PySem.W.keepIn K (.ref f_check_tolerance) = true)
    (a_sign_of : PySem.W.nsIn K mainGlobals "sign_of" = some (some (.ref f_sign_of)))
    (l_sign_of : K.lookup f_sign_of = some ⟨oc_sign_of, od_sign_of, .func (PySem.W.fnOf "sign_of" "sign_of" (defArgs s_sign_of) (defBody s_sign_of) (defScope s_sign_of) .none kV_sign_of dc_sign_of pm_sign_of an_sign_of cd_sign_of ct_sign_of), sl_sign_of⟩)
    (c_sign_of : PySem.W.codeIn K cd_sign_of "sign_of" = true)
    (k_sign_of : PySem.W.keepIn K (.ref f_sign_of) = true)
    (a_place_at : PySem.W.nsIn K mainGlobals "place_at" = some (some (.ref f_place_at)))
    (l_place_at : K.lookup f_place_at = some ⟨oc_place_at, od_place_at, .func (PySem.W.fnOf "place_at" "place_at" (defArgs s_place_at) (defBody s_place_at) (defScope s_place_at) .none kV_place_at dc_place_at pm_place_at an_place_at cd_place_at ct_place_at), sl_place_at⟩)
    (c_place_at : PySem.W.codeIn K cd_place_at "place_at" = true)
    (k_place_at : PySem.W.keepIn K (.ref f_place_at) = true)
    (a_place : PySem.W.nsIn K mainGlobals "place" = some (some (.ref f_place)))
    (l_place : K.lookup f_place = some ⟨oc_place, od_place, .func (PySem.W.fnOf "place" "place" (defArgs s_place) (defBody s_place) (defScope s_place) .none kV_place dc_place pm_place an_place cd_place ct_place), sl_place⟩)
    (c_place : PySem.W.codeIn K cd_place "place" = true)
    (k_place : PySem.W.keepIn K (.ref f_place) = true)
    (a_law_source : PySem.W.nsIn K mainGlobals "_law_source" = some (some (.ref f_law_source)))
    (l_law_source : K.lookup f_law_source = some ⟨oc_law_source, od_law_source, .func (PySem.W.fnOf "_law_source" "_law_source" (defArgs s_law_source) (defBody s_law_source) (defScope s_law_source) .none kV_law_source dc_law_source pm_law_source an_law_source cd_law_source ct_law_source), sl_law_source⟩)
    (c_law_source : PySem.W.codeIn K cd_law_source "_law_source" = true)
    (k_law_source : PySem.W.keepIn K (.ref f_law_source) = true)
    (a_law_draw : PySem.W.nsIn K mainGlobals "_law_draw" = some (some (.ref f_law_draw)))
    (l_law_draw : K.lookup f_law_draw = some ⟨oc_law_draw, od_law_draw, .func (PySem.W.fnOf "_law_draw" "_law_draw" (defArgs s_law_draw) (defBody s_law_draw) (defScope s_law_draw) .none kV_law_draw dc_law_draw pm_law_draw an_law_draw cd_law_draw ct_law_draw), sl_law_draw⟩)
    (c_law_draw : PySem.W.codeIn K cd_law_draw "_law_draw" = true)
    (k_law_draw : PySem.W.keepIn K (.ref f_law_draw) = true)
    (a_law_places : PySem.W.nsIn K mainGlobals "_law_places" = some (some (.ref f_law_places)))
    (l_law_places : K.lookup f_law_places = some ⟨oc_law_places, od_law_places, .func (PySem.W.fnOf "_law_places" "_law_places" (defArgs s_law_places) (defBody s_law_places) (defScope s_law_places) .none kV_law_places dc_law_places pm_law_places an_law_places cd_law_places ct_law_places), sl_law_places⟩)
    (c_law_places : PySem.W.codeIn K cd_law_places "_law_places" = true)
    (k_law_places : PySem.W.keepIn K (.ref f_law_places) = true)
    (a_law_place : PySem.W.nsIn K mainGlobals "_law_place" = some (some (.ref f_law_place)))
    (l_law_place : K.lookup f_law_place = some ⟨oc_law_place, od_law_place, .func (PySem.W.fnOf "_law_place" "_law_place" (defArgs s_law_place) (defBody s_law_place) (defScope s_law_place) .none kV_law_place dc_law_place pm_law_place an_law_place cd_law_place ct_law_place), sl_law_place⟩)
    (c_law_place : PySem.W.codeIn K cd_law_place "_law_place" = true)
    (k_law_place : PySem.W.keepIn K (.ref f_law_place) = true)
    (a_law_tolerance : PySem.W.nsIn K mainGlobals "_law_tolerance" = some (some (.ref f_law_tolerance)))
    (l_law_tolerance : K.lookup f_law_tolerance = some ⟨oc_law_tolerance, od_law_tolerance, .func (PySem.W.fnOf "_law_tolerance" "_law_tolerance" (defArgs s_law_tolerance) (defBody s_law_tolerance) (defScope s_law_tolerance) .none kV_law_tolerance dc_law_tolerance pm_law_tolerance an_law_tolerance cd_law_tolerance ct_law_tolerance), sl_law_tolerance⟩)
    (c_law_tolerance : PySem.W.codeIn K cd_law_tolerance "_law_tolerance" = true)
    (k_law_tolerance : PySem.W.keepIn K (.ref f_law_tolerance) = true)
    (a_law : PySem.W.nsIn K mainGlobals "law" = some (some (.ref f_law)))
    (l_law : K.lookup f_law = some ⟨oc_law, od_law, .func (PySem.W.fnOf "law" "law" (defArgs s_law) (defBody s_law) (defScope s_law) .none kV_law dc_law pm_law an_law cd_law ct_law), sl_law⟩)
    (c_law : PySem.W.codeIn K cd_law "law" = true)
    (k_law : PySem.W.keepIn K (.ref f_law) = true)
    (z_int : PySem.W.nsIn K mainGlobals "int" = some none)
    (z_bool : PySem.W.nsIn K mainGlobals "bool" = some none)
    (z_isinstance : PySem.W.nsIn K mainGlobals "isinstance" = some none)
    (z_abs : PySem.W.nsIn K mainGlobals "abs" = some none)
    (z_divmod : PySem.W.nsIn K mainGlobals "divmod" = some none)
    (z_range : PySem.W.nsIn K mainGlobals "range" = some none)
    (z_len : PySem.W.nsIn K mainGlobals "len" = some none)
    (z_tuple : PySem.W.nsIn K mainGlobals "tuple" = some none)
    (z_max : PySem.W.nsIn K mainGlobals "max" = some none)
    (z_zip : PySem.W.nsIn K mainGlobals "zip" = some none)
    : ∃ fd : FuncData, (∀ (s : Shared) (v : Value), BindsTo s fd ⟨[v], []⟩ [("_law_script", v)]) ∧ ∀ base : Heap, K.In base → base.Ns mainGlobals mg → FnOk l.prog w K mg base CX0 6 fa fd ["_law_script"] (spLaw K) := by
  have e := hfa.symm.trans (PySem.W.mg_of X G a_law)
  cases e
  have F_is_number := fun_mk (st := s_is_number) l_is_number c_is_number k_is_number
  have F_is_tolerance := fun_mk (st := s_is_tolerance) l_is_tolerance c_is_tolerance k_is_tolerance
  have F_check_number := fun_mk (st := s_check_number) l_check_number c_check_number k_check_number
  have F_check_tolerance := fun_mk (st := s_check_tolerance) l_check_tolerance c_check_tolerance k_check_tolerance
  have F_sign_of := fun_mk (st := s_sign_of) l_sign_of c_sign_of k_sign_of
  have F_place_at := fun_mk (st := s_place_at) l_place_at c_place_at k_place_at
  have F_place := fun_mk (st := s_place) l_place c_place k_place
  have F_law_source := fun_mk (st := s_law_source) l_law_source c_law_source k_law_source
  have F_law_draw := fun_mk (st := s_law_draw) l_law_draw c_law_draw k_law_draw
  have F_law_places := fun_mk (st := s_law_places) l_law_places c_law_places k_law_places
  have F_law_place := fun_mk (st := s_law_place) l_law_place c_law_place k_law_place
  have F_law_tolerance := fun_mk (st := s_law_tolerance) l_law_tolerance c_law_tolerance k_law_tolerance
  have F_law := fun_mk (st := s_law) l_law c_law k_law
  have b_is_number := F_is_number.binds (ps := ["thing"]) fun _ _ _ _ _ _ us hl => match us, hl with | [_], _ => rfl
  have b_is_tolerance := F_is_tolerance.binds (ps := ["thing"]) fun _ _ _ _ _ _ us hl => match us, hl with | [_], _ => rfl
  have b_check_number := F_check_number.binds (ps := ["number"]) fun _ _ _ _ _ _ us hl => match us, hl with | [_], _ => rfl
  have b_check_tolerance := F_check_tolerance.binds (ps := ["tolerance"]) fun _ _ _ _ _ _ us hl => match us, hl with | [_], _ => rfl
  have b_sign_of := F_sign_of.binds (ps := ["rest", "other"]) fun _ _ _ _ _ _ us hl => match us, hl with | [_, _], _ => rfl
  have b_place_at := F_place_at.binds (ps := ["step", "sign"]) fun _ _ _ _ _ _ us hl => match us, hl with | [_, _], _ => rfl
  have b_place := F_place.binds (ps := ["x", "kept", "tolerance"]) fun _ _ _ _ _ _ us hl => match us, hl with | [_, _, _], _ => rfl
  have b_law_source := F_law_source.binds (ps := ["_law_script"]) fun _ _ _ _ _ _ us hl => match us, hl with | [_], _ => rfl
  have b_law_draw := F_law_draw.binds (ps := ["_law_source_here", "_law_many"]) fun _ _ _ _ _ _ us hl => match us, hl with | [_, _], _ => rfl
  have b_law_places := F_law_places.binds (ps := []) fun _ _ _ _ _ _ us hl => match us, hl with | [], _ => rfl
  have b_law_place := F_law_place.binds (ps := ["_law_x", "_law_kept", "_law_tolerance_here"]) fun _ _ _ _ _ _ us hl => match us, hl with | [_, _, _], _ => rfl
  have b_law_tolerance := F_law_tolerance.binds (ps := ["_law_source_here"]) fun _ _ _ _ _ _ us hl => match us, hl with | [_], _ => rfl
  have b_law := F_law.binds (ps := ["_law_script"]) fun _ _ _ _ _ _ us hl => match us, hl with | [_], _ => rfl
  let T : Txt K mg := {
f_is_number := f_is_number, d_is_number := _, F_is_number := F_is_number, b_is_number := b_is_number, m_is_number := PySem.W.mg_of X G a_is_number,
    f_is_tolerance := f_is_tolerance, d_is_tolerance := _, F_is_tolerance := F_is_tolerance, b_is_tolerance := b_is_tolerance, m_is_tolerance := PySem.W.mg_of X G a_is_tolerance,
    f_check_number := f_check_number, d_check_number := _, F_check_number := F_check_number, b_check_number := b_check_number, m_check_number := PySem.W.mg_of X G a_check_number,
    f_check_tolerance := f_check_tolerance, d_check_tolerance := _, F_check_tolerance := F_check_tolerance, b_check_tolerance := b_check_tolerance, m_check_tolerance := PySem.W.mg_of X G a_check_tolerance,
    f_sign_of := f_sign_of, d_sign_of := _, F_sign_of := F_sign_of, b_sign_of := b_sign_of, m_sign_of := PySem.W.mg_of X G a_sign_of,
    f_place_at := f_place_at, d_place_at := _, F_place_at := F_place_at, b_place_at := b_place_at, m_place_at := PySem.W.mg_of X G a_place_at,
    f_place := f_place, d_place := _, F_place := F_place, b_place := b_place, m_place := PySem.W.mg_of X G a_place,
    f_law_source := f_law_source, d_law_source := _, F_law_source := F_law_source, b_law_source := b_law_source, m_law_source := PySem.W.mg_of X G a_law_source,
    f_law_draw := f_law_draw, d_law_draw := _, F_law_draw := F_law_draw, b_law_draw := b_law_draw, m_law_draw := PySem.W.mg_of X G a_law_draw,
    f_law_places := f_law_places, d_law_places := _, F_law_places := F_law_places, b_law_places := b_law_places, m_law_places := PySem.W.mg_of X G a_law_places,
    f_law_place := f_law_place, d_law_place := _, F_law_place := F_law_place, b_law_place := b_law_place, m_law_place := PySem.W.mg_of X G a_law_place,
    f_law_tolerance := f_law_tolerance, d_law_tolerance := _, F_law_tolerance := F_law_tolerance, b_law_tolerance := b_law_tolerance, m_law_tolerance := PySem.W.mg_of X G a_law_tolerance,
    f_law := fa, d_law := _, F_law := F_law, b_law := b_law, m_law := hfa,
    m_int := PySem.W.mg_none_of X G z_int,
    m_bool := PySem.W.mg_none_of X G z_bool,
    m_isinstance := PySem.W.mg_none_of X G z_isinstance,
    m_abs := PySem.W.mg_none_of X G z_abs,
    m_divmod := PySem.W.mg_none_of X G z_divmod,
    m_range := PySem.W.mg_none_of X G z_range,
    m_len := PySem.W.mg_none_of X G z_len,
    m_tuple := PySem.W.mg_none_of X G z_tuple,
    m_max := PySem.W.mg_none_of X G z_max,
    m_zip := PySem.W.mg_none_of X G z_zip,
    a_PLACES := a_PLACES, q_PLACES := fun H => .inr ⟨_, _, _, lk_PLACES, rfl, rfl, (by show 11 ≤ sizeLine; decide), (.cons ⟨_, rfl⟩ (.cons ⟨_, rfl⟩ (.cons ⟨_, rfl⟩ (.cons ⟨_, rfl⟩ (.cons ⟨_, rfl⟩ (.cons ⟨_, rfl⟩ (.cons ⟨_, rfl⟩ (.cons ⟨_, rfl⟩ (.cons ⟨_, rfl⟩ (.cons ⟨_, rfl⟩ (.cons ⟨_, rfl⟩ .nil)))))))))))⟩, o_PLACES := ⟨_, lk_PLACES, rfl, rfl⟩, m_PLACES := PySem.W.mg_of X G x_PLACES }
  exact ⟨PySem.W.fnOf "law" "law" (defArgs s_law) (defBody s_law) (defScope s_law) .none kV_law dc_law pm_law an_law cd_law ct_law, fun s v => .of_eq rfl, fun base _ _ => ok_law T⟩
theorem walk {l : PySem.W.OpenLaw} {q : Program} {loose : List Str} {XP : (Str → Option Value) → Heap → Prop} {YP : World → Heap → Prop} {d : DefRec} {K : Params → PySem.W.Frag} (hn : l.most = some 63) (hdf : d.params.defaults = [])
    (hY : ∀ (w : World) (h : Heap), YP w h → (K w.params).In h)
    (F : ∀ (w : World) (mg : Str → Option Value) (fa : Addr) (h : Heap), (K w.params).In h → h.Ns mainGlobals mg → mg d.name = some (.ref fa) →
      ∃ fd : FuncData, (∀ (s : Shared) (u : Value), BindsTo s fd ⟨[u], []⟩ [("_law_script", u)]) ∧ ∀ base : Heap, (K w.params).In base → base.Ns mainGlobals mg → FnOk l.prog w (K w.params) mg base CX0 6 fa fd ["_law_script"] (spLaw (K w.params))) :
    PySem.W.WalkO q loose XP YP l.row.toRowW d [] (fun f vs => PySem.call f vs) :=
  L2.walk_of (n := 63) (k := 6) (x := "_law_script") (CX := fun _ => CX0) (sp := fun w => spLaw (K w.params)) hn (by decide) hdf ⟨rfl, by decide, by decide⟩ hY F (fun _ _ a ns hl _ hS => ⟨a, ns, rfl, hS, hl, fun _ => rfl⟩) fun _ _ _ _ _ z => z
end Toy
open PySem PySem.W PyProof.Rows
set_option maxRecDepth 100000 in
set_option maxHeartbeats 0 in
theorem PySem.Challenge.cw_nearloops_k01_places_holds : PySem.Challenge.rw_nearloops_k01_places.Holds := by
  w_on; o_law; k_head; (case hw => w_witness2)
  k_fill
  refine Toy.walk (l := PySem.Challenge.rw_nearloops_k01_places) rfl rfl (fun w h Y => PySem.W.kIn_of Y) ?F
  case F =>
    intro w mg fa h KX G hmg
    refine' Toy.all_mk KX G hmg ?x_PLACES ?lk_PLACES ?a_is_number ?l_is_number ?c_is_number ?k_is_number ?a_is_tolerance ?l_is_tolerance ?c_is_tolerance ?k_is_tolerance ?a_check_number ?l_check_number ?c_check_number ?k_check_number ?a_check_tolerance ?l_check_tolerance ?c_check_tolerance ?k_check_tolerance ?a_sign_of ?l_sign_of ?c_sign_of ?k_sign_of ?a_place_at ?l_place_at ?c_place_at ?k_place_at ?a_place ?l_place ?c_place ?k_place ?a_law_source ?l_law_source ?c_law_source ?k_law_source ?a_law_draw ?l_law_draw ?c_law_draw ?k_law_draw ?a_law_places ?l_law_places ?c_law_places ?k_law_places ?a_law_place ?l_law_place ?c_law_place ?k_law_place ?a_law_tolerance ?l_law_tolerance ?c_law_tolerance ?k_law_tolerance ?a_law ?l_law ?c_law ?k_law ?z_int ?z_bool ?z_isinstance ?z_abs ?z_divmod ?z_range ?z_len ?z_tuple ?z_max ?z_zip
    (case x_PLACES => k_is)
    (case lk_PLACES => k_is)
    (case a_is_number => k_is)
    (case l_is_number => k_is)
    (case c_is_number => k_is)
    (case k_is_number => k_is)
    (case a_is_tolerance => k_is)
    (case l_is_tolerance => k_is)
    (case c_is_tolerance => k_is)
    (case k_is_tolerance => k_is)
    (case a_check_number => k_is)
    (case l_check_number => k_is)
    (case c_check_number => k_is)
    (case k_check_number => k_is)
    (case a_check_tolerance => k_is)
    (case l_check_tolerance => k_is)
    (case c_check_tolerance => k_is)
    (case k_check_tolerance => k_is)
    (case a_sign_of => k_is)
    (case l_sign_of => k_is)
    (case c_sign_of => k_is)
    (case k_sign_of => k_is)
    (case a_place_at => k_is)
    (case l_place_at => k_is)
    (case c_place_at => k_is)
    (case k_place_at => k_is)
    (case a_place => k_is)
    (case l_place => k_is)
    (case c_place => k_is)
    (case k_place => k_is)
    (case a_law_source => k_is)
    (case l_law_source => k_is)
    (case c_law_source => k_is)
    (case k_law_source => k_is)
    (case a_law_draw => k_is)
    (case l_law_draw => k_is)
    (case c_law_draw => k_is)
    (case k_law_draw => k_is)
    (case a_law_places => k_is)
    (case l_law_places => k_is)
    (case c_law_places => k_is)
    (case k_law_places => k_is)
    (case a_law_place => k_is)
    (case l_law_place => k_is)
    (case c_law_place => k_is)
    (case k_law_place => k_is)
    (case a_law_tolerance => k_is)
    (case l_law_tolerance => k_is)
    (case c_law_tolerance => k_is)
    (case k_law_tolerance => k_is)
    (case a_law => k_is)
    (case l_law => k_is)
    (case c_law => k_is)
    (case k_law => k_is)
    (case z_int => k_is)
    (case z_bool => k_is)
    (case z_isinstance => k_is)
    (case z_abs => k_is)
    (case z_divmod => k_is)
    (case z_range => k_is)
    (case z_len => k_is)
    (case z_tuple => k_is)
    (case z_max => k_is)
    (case z_zip => k_is)

