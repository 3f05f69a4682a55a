import PyProof.Rows.All
import Wide.All
import OpenK.AllK
import Wide.FinOn
import HandS.Base
import HandS.Call
import HandS.List
import HandS.Ends
import HandS.Words
import HandS.WordsList
import HandS.Wide
import HandS.WideBits
import HandS.IsInst
import PySem.Challenge.RW_nearloops_k05_whole_shifts_and_scales
set_option Elab.async false
set_option maxRecDepth 100000
set_option maxHeartbeats 4000000

namespace Toy
open PySem L2
def top (i : Nat) : Stmt := PySem.Challenge.pw_nearloops_k05_whole_shifts_and_scales.main.body.getD i (.Pass ⟨0, 0, 0, 0⟩)
abbrev s_is_number : Stmt := top 5
abbrev s_is_tolerance : Stmt := top 6
abbrev s_check_number : Stmt := top 7
abbrev s_check_tolerance : Stmt := top 8
abbrev s_sign_of : Stmt := top 10
abbrev s_place_at : Stmt := top 11
abbrev s_place : Stmt := top 12
abbrev s_law_source : Stmt := top 14
abbrev s_law_draw : Stmt := top 15
abbrev s_law_tolerance : Stmt := top 16
abbrev s_law : Stmt := top 17
theorem sc_is_number : FnScope ["thing"] ["thing"] (defScope s_is_number) := ⟨rfl, rfl, rfl, by decide +kernel, rfl, by decide +kernel, by decide +kernel⟩
theorem sc_is_tolerance : FnScope ["thing"] ["thing"] (defScope s_is_tolerance) := ⟨rfl, rfl, rfl, by decide +kernel, rfl, by decide +kernel, by decide +kernel⟩
theorem sc_check_number : FnScope ["number"] ["number"] (defScope s_check_number) := ⟨rfl, rfl, rfl, by decide +kernel, rfl, by decide +kernel, by decide +kernel⟩
theorem sc_check_tolerance : FnScope ["tolerance"] ["tolerance"] (defScope s_check_tolerance) := ⟨rfl, rfl, rfl, by decide +kernel, rfl, by decide +kernel, by decide +kernel⟩
theorem sc_sign_of : FnScope ["rest", "other"] ["rest", "other"] (defScope s_sign_of) := ⟨rfl, rfl, rfl, by decide +kernel, rfl, by decide +kernel, by decide +kernel⟩
theorem sc_place_at : FnScope ["step", "sign"] ["step", "sign"] (defScope s_place_at) := ⟨rfl, rfl, rfl, by decide +kernel, rfl, by decide +kernel, by decide +kernel⟩
theorem sc_place : FnScope ["x", "kept", "tolerance", "cell", "rest", "kept_cell", "kept_rest"] ["x", "kept", "tolerance"] (defScope s_place) := ⟨rfl, rfl, rfl, by decide +kernel, rfl, by decide +kernel, by decide +kernel⟩
theorem sc_law_source : FnScope ["_law_script", "_law_great", "_law_seed", "_law_cell"] ["_law_script"] (defScope s_law_source) := ⟨rfl, rfl, rfl, by decide +kernel, rfl, by decide +kernel, by decide +kernel⟩
theorem sc_law_draw : FnScope ["_law_source_here", "_law_many", "_law_digit", "_law_mixed"] ["_law_source_here", "_law_many"] (defScope s_law_draw) := ⟨rfl, rfl, rfl, by decide +kernel, rfl, by decide +kernel, by decide +kernel⟩
theorem sc_law_tolerance : FnScope ["_law_source_here"] ["_law_source_here"] (defScope s_law_tolerance) := ⟨rfl, rfl, rfl, by decide +kernel, rfl, by decide +kernel, by decide +kernel⟩
theorem sc_law : FnScope ["_law_script", "_law_source_here", "_law_tolerance_here", "_law_turn", "_law_kept", "_law_x", "_law_due", "_law_shift", "_law_times", "_law_more", "_law_wide", "_law_other"] ["_law_script"] (defScope s_law) := ⟨rfl, rfl, rfl, by decide +kernel, rfl, by decide +kernel, by decide +kernel⟩

/-! ### the data -/
/-- H' tells all that H tells, but for what stands at p -/
def But (p : Addr) (H H' : Hp) : Prop := ∀ b o, b ≠ p → H b = some o → H' b = some o
theorem But.refl (p : Addr) (H : Hp) : But p H H := fun _ _ _ h => h
theorem But.trans {p : Addr} {H H1 H2 : Hp} (a : But p H H1) (b : But p H1 H2) : But p H H2 := fun c o n h => b c o n (a c o n h)
theorem But.upd {p : Addr} {H H' : Hp} {o : HO} (a : But p H H') : But p H (upd H' p o) := fun c o n h => by rw [upd_ne n]; exact a c o n h
theorem Same.but {p : Addr} {H H' : Hp} (a : Same H H') : But p H H' := fun c o _ h => a c o h
theorem Same.new {H : Hp} {p : Addr} {o : HO} (h : H p = none) : Same H (upd H p o) := fun b o e => by rw [upd_ne (ne_of_none e h)]; exact e
/-- a source of draws at p, at most n drawn so far -/
def Src (H : Hp) (p : Addr) (n : Int) : Prop := ∃ g s c : Int, H p = some (.lst [.int g, .int s, .int c]) ∧ 0 ≤ s ∧ s < 2147483647 ∧ 0 ≤ c ∧ c ≤ n
theorem Src.same {H H' : Hp} {p : Addr} {n : Int} (h : Src H p n) (e : Same H H') : Src H' p n := by
  obtain ⟨g, s, c, h, q⟩ := h
  exact ⟨g, s, c, e _ _ h, q⟩
theorem Src.le {H : Hp} {p : Addr} {n m : Int} (h : Src H p n) (e : n ≤ m) : Src H p m := by
  obtain ⟨g, s, c, h, q1, q2, q3, q4⟩ := h
  exact ⟨g, s, c, h, q1, q2, q3, by omega⟩

theorem draw_pow {x c : Int} (x0 : 0 ≤ x) (x1 : x < 2147483629) (c0 : 0 ≤ c) (c1 : c ≤ 1000000) : CPow (x * 48271 + 16807 * c * c + 11) 3 := by
  refine ⟨by decide, by decide, ?_⟩
  have h1 : 0 ≤ c * c := Int.mul_nonneg c0 c0
  have h2 : c * c ≤ 1000000 * 1000000 := Int.mul_le_mul c1 c1 c0 (by decide)
  have e : 16807 * c * c = 16807 * (c * c) := Int.mul_assoc _ _ _
  rw [e]
  generalize c * c = y at h1 h2
  show _ < 18446744073709551616
  omega
theorem ix_of {K : PySem.W.Frag} {H : Hp} {p : Addr} {xs : List V} {i : Int} {v : V} {Q : VK} (h : SqL K H p xs) (h2 : atI xs i = some v) (h3 : Q v H) : rIxL K (.ref p) (.int i) H Q := ⟨p, xs, i, v, rfl, rfl, h, h2, h3⟩
theorem set_of {H : Hp} {p : Addr} {xs : List V} {k : Int} {j : Nat} {v : V} {Q : Hp → Prop} (h : H p = some (.lst xs)) (h2 : ixN xs.length k = some j) (h3 : Q (upd H p (.lst (xs.set j v)))) : rSetL (.ref p) (.int k) v H Q := ⟨p, xs, k, j, rfl, rfl, h, h2, h3⟩
theorem ifne {x y : V} {A B : Prop} (h : x = y) (k : B) : if (!decide (x = y)) = true then A else B := by
  rw [decide_eq_true h]
  exact iteF k
theorem ifd {c A B : Prop} {inst : Decidable c} (h1 : c → A) (h2 : ¬ c → B) : if (@decide c inst) = true then A else B := by
  by_cases h : c
  · rw [if_pos (decide_eq_true h)]
    exact h1 h
  · rw [if_neg (by rw [decide_eq_false h]; exact Bool.false_ne_true)]
    exact h2 h
local macro_rules | `(tactic| walk_at "rd") => `(tactic| repeat (first
  | refine ⟨_, rfl, ?_⟩
  | refine ⟨_, _, rfl, rfl, ?_⟩
  | refine ⟨_, _, rfl, ?_⟩
  | refine ⟨rfl, ?_⟩
  | refine ⟨_, _, _, _, rfl, rfl, SqL.of upd_same, rfl, ?_⟩
  | refine ⟨_, _, _, _, rfl, rfl, upd_same, rfl, ?_⟩
  | refine iteT ?_
  | refine iteF ?_))
theorem take_more {α : Type} : ∀ {l : List α} {i : Nat} {x : α}, l[i]? = some x → l.take (i + 1) = l.take i ++ [x]
  | [], i, x, h => by simp at h
  | a :: l, 0, x, h => by
    have e : a = x := Option.some.inj h
    subst e
    rfl
  | a :: l, i + 1, x, h => by
    have ih := take_more (l := l) (i := i) (x := x) h
    show a :: l.take (i + 1) = a :: l.take i ++ [x]
    rw [ih]
    rfl
/-- a new object, the heap behind it a letter: generalize hH : upd H l _ = H' ahead of it -/
theorem new_of {H H' : Hp} {l : Addr} {o o' : HO} (hH : upd H l o = H') (h : H l = none) (e : o = o') : Same H H' ∧ H' l = some o' := by
  subst e hH
  exact ⟨Same.new h, upd_same⟩
/-- a changed object -/
theorem chg_of {H H' : Hp} {l : Addr} {o o' : HO} (hH : upd H l o = H') (e : o = o') : But l H H' ∧ H' l = some o' := by
  subst e hH
  exact ⟨(But.refl l H).upd, upd_same⟩
theorem Src.but {H H' : Hp} {p q : Addr} {n : Int} (h : Src H p n) (e : But q H H') (hne : p ≠ q) : Src H' p n := by
  obtain ⟨g, s, c, h, r⟩ := h
  exact ⟨g, s, c, e _ _ hne h, r⟩
theorem Src.ne {H : Hp} {p q : Addr} {n : Int} (h : Src H p n) (hq : H q = none) : q ≠ p := fun z => by
  obtain ⟨_, _, _, e, _⟩ := h
  rw [z, e] at hq
  cases hq
theorem int_at {l : List Int} {i : Nat} {x : V} (h : (l.map V.int)[i]? = some x) : ∃ z, x = V.int z ∧ l[i]? = some z := by
  rw [List.getElem?_map] at h
  cases e : l[i]? with
  | none => rw [e] at h; cases h
  | some z => rw [e] at h; exact ⟨z, (Option.some.inj h).symm, rfl⟩
/-! ### the promises -/
def spSource (K : PySem.W.Frag) : Sp := fun vs H Q _ => ∃ (a : Addr) (ns : List Int), vs = [.ref a] ∧ SqL K H a (ns.map V.int) ∧ ∀ (p : Addr) (H' : Hp), H p = none → Same H H' → Src H' p 0 → Q (.ref p) H'
def spDraw : Sp := fun vs H Q _ => ∃ (p : Addr) (m n : Int), vs = [.ref p, .int m] ∧ Src H p n ∧ n < 1000000 ∧ 0 < m ∧ m < 2 ^ 64 ∧
  ∀ (d : Int) (H' : Hp), 0 ≤ d → d < m → But p H H' → Src H' p (n + 1) → Q (.int d) H'
def spLaw (K : PySem.W.Frag) : Sp := fun vs H Q _ => ∃ (a : Addr) (ns : List Int), vs = [.ref a] ∧ SqL K H a (ns.map V.int) ∧ ns.length ≤ 63 ∧ ∀ H', Q (.bl true) H'
def spTol : Sp := fun vs H Q _ => ∃ (p : Addr) (n : Int), vs = [.ref p] ∧ Src H p n ∧ n < 1000000 ∧
  ∀ (d : Int) (H' : Hp), 1 ≤ d → d ≤ 1000000 → But p H H' → Src H' p (n + 1) → Q (.int d) H'
def big : Int := 1000000000000000000000000000000
theorem div_ok {x e : Int} (h1 : -big < x) (h2 : x < big) (h : 1 ≤ e) : CDivP x e := by
  refine divp_ok h ?_
  have b := PyProof.Rows.intBits_le (k := 100) (a := x) (by unfold big at *; show _ < 1267650600228229401496703205376; omega)
  omega
theorem big_eq : (10 : Int) ^ (30 : Int).toNat = big := by decide +kernel
def spIsNum : Sp := fun vs H Q _ => ∃ x : Int, vs = [.int x] ∧ -big < x ∧ x < big ∧ Q (.bl true) H
def spIsTol : Sp := fun vs H Q _ => ∃ x : Int, vs = [.int x] ∧ 1 ≤ x ∧ x < big ∧ Q (.bl true) H
def spChkNum : Sp := fun vs H Q _ => ∃ x : Int, vs = [.int x] ∧ -big < x ∧ x < big ∧ Q .non H
def spChkTol : Sp := fun vs H Q _ => ∃ x : Int, vs = [.int x] ∧ 1 ≤ x ∧ x < big ∧ Q .non H
def sgn (r s : Int) : Str := if r < s then "<" else if s < r then ">" else "="
theorem sgn_len (r s : Int) : 1 + (sgn r s).length ≤ sizeLine := by
  unfold sgn
  split
  · decide
  · split <;> decide
def plcD (d r s : Int) : Str := if d ≤ -2 then "below" else if 2 ≤ d then "above" else if d = -1 then "-" ++ sgn r s else if d = 1 then "+" ++ sgn r s else sgn r s
def plc (x k e : Int) : Str := plcD (x / e - k / e) (x % e) (k % e)
def spSign : Sp := fun vs H Q _ => ∃ r s : Int, vs = [.int r, .int s] ∧ Q (.str (sgn r s)) H
def spPlaceAt : Sp := fun vs H Q _ => ∃ d r s : Int, vs = [.int d, .str (sgn r s)] ∧ Q (.str (plcD d r s)) H
def spPlace : Sp := fun vs H Q _ => ∃ x k e : Int, vs = [.int x, .int k, .int e] ∧ -big < x ∧ x < big ∧ -big < k ∧ k < big ∧ 1 ≤ e ∧ e < big ∧ ∀ H', Same H H' → Q (.str (plc x k e)) H'
theorem plc_shift (x k z : Int) {e : Int} (he : 1 ≤ e) : plc (x + z * e) (k + z * e) e = plc x k e := by
  unfold plc
  rw [Int.add_mul_ediv_right x z (by omega), Int.add_mul_ediv_right k z (by omega), Int.add_mul_emod_self_right, Int.add_mul_emod_self_right]
  congr 1
  omega
theorem sgn_scale (r s : Int) {t : Int} (ht : 0 < t) : sgn (r * t) (s * t) = sgn r s := by
  unfold sgn
  have e1 : (r * t < s * t) = (r < s) := propext (Int.mul_lt_mul_right ht)
  have e2 : (s * t < r * t) = (s < r) := propext (Int.mul_lt_mul_right ht)
  simp only [e1, e2]
theorem emod_scale (a b : Int) {t : Int} (ht : 0 < t) : a * t % (b * t) = a % b * t := by
  rw [Int.mul_comm a t, Int.mul_comm b t, Int.mul_emod_mul_of_pos _ _ ht, Int.mul_comm]
theorem plc_scale (x k e : Int) {t : Int} (ht : 0 < t) : plc (x * t) (k * t) (e * t) = plc x k e := by
  unfold plc
  rw [Int.mul_ediv_mul_of_pos_left _ _ ht, Int.mul_ediv_mul_of_pos_left _ _ ht, emod_scale _ _ ht, emod_scale _ _ ht]
  unfold plcD
  rw [sgn_scale _ _ ht]
theorem plc_wide (x k : Int) {e w : Int} (he : 1 ≤ e) (hw : e ≤ w) : plc (x / e * w + x % e) (k / e * w + k % e) w = plc x k e := by
  have r0 := Int.emod_nonneg x (by omega : e ≠ 0)
  have r1 := Int.emod_lt_of_pos x (by omega : 0 < e)
  have s0 := Int.emod_nonneg k (by omega : e ≠ 0)
  have s1 := Int.emod_lt_of_pos k (by omega : 0 < e)
  have q : ∀ a r : Int, 0 ≤ r → r < w → (a * w + r) / w = a ∧ (a * w + r) % w = r := fun a r h0 h1 => by
    have e1 : (a * w + r) / w = a := by
      rw [Int.add_comm, Int.add_mul_ediv_right _ _ (by omega), Int.ediv_eq_zero_of_lt h0 h1, Int.zero_add]
    have e2 : (a * w + r) % w = r := by
      rw [Int.add_comm, Int.add_mul_emod_self_right, Int.emod_eq_of_lt h0 h1]
    exact ⟨e1, e2⟩
  unfold plc
  rw [(q _ _ r0 (by omega)).1, (q _ _ r0 (by omega)).2, (q _ _ s0 (by omega)).1, (q _ _ s0 (by omega)).2]
theorem mul_bd {q w : Int} (h1 : -10 ≤ q) (h2 : q ≤ 10) (w0 : 0 ≤ w) (w1 : w ≤ 2000000) : -20000000 ≤ q * w ∧ q * w ≤ 20000000 := by
  rcases Int.le_total 0 q with h | h
  · have a := Int.mul_nonneg h w0
    have b := Int.mul_le_mul h2 w1 w0 (by decide)
    omega
  · have a := Int.mul_nonneg (by omega : 0 ≤ -q) w0
    have b := Int.mul_le_mul (by omega : -q ≤ 10) w1 w0 (by decide)
    rw [Int.neg_mul] at a b
    omega
theorem div_bd {x e : Int} (he : 1 ≤ e) (h1 : -4 * e ≤ x) (h2 : x < 6 * e) : -10 ≤ x / e ∧ x / e ≤ 10 := by
  have a := Int.le_ediv_of_mul_le (by omega : 0 < e) h1
  have b := Int.ediv_lt_of_lt_mul (by omega : 0 < e) h2
  omega
theorem zb_of {z e : Int} (z1 : -3 ≤ z) (z2 : z ≤ 100000000000000000000) (e0 : 1 ≤ e) (e1 : e ≤ 1000000) : -3 * 1000000 ≤ z * e ∧ z * e ≤ 100000000000000000000 * 1000000 := by
  rcases Int.le_total 0 z with h | h
  · have a := Int.mul_nonneg h (by omega : 0 ≤ e)
    have b := Int.mul_le_mul z2 e1 (by omega) (by decide)
    omega
  · have a := Int.mul_nonneg (by omega : 0 ≤ -z) (by omega : 0 ≤ e)
    have b := Int.mul_le_mul (by omega : -z ≤ 3) e1 (by omega) (by decide)
    rw [Int.neg_mul] at a b
    omega
theorem tb_of {z e : Int} (z1 : -10000000 ≤ z) (z2 : z ≤ 10000000) (e0 : 1 ≤ e) (e1 : e ≤ 5) : -10000000 * 5 ≤ z * e ∧ z * e ≤ 10000000 * 5 := by
  rcases Int.le_total 0 z with h | h
  · have a := Int.mul_nonneg h (by omega : 0 ≤ e)
    have b := Int.mul_le_mul z2 e1 (by omega) (by decide)
    omega
  · have a := Int.mul_nonneg (by omega : 0 ≤ -z) (by omega : 0 ≤ e)
    have b := Int.mul_le_mul (by omega : -z ≤ 10000000) e1 (by omega) (by decide)
    rw [Int.neg_mul] at a b
    omega
/-- what the top has written: each def at its address, the built-ins not hidden -/
structure Txt (K : PySem.W.Frag) (mg : Str → Option Value) where
  f_is_number : Addr
  d_is_number : FuncData
  F_is_number : Fun K "is_number" "is_number" s_is_number f_is_number d_is_number
  b_is_number : Binds K d_is_number ["thing"] []
  m_is_number : mg "is_number" = some (.ref f_is_number)
  f_is_tolerance : Addr
  d_is_tolerance : FuncData
  F_is_tolerance : Fun K "is_tolerance" "is_tolerance" s_is_tolerance f_is_tolerance d_is_tolerance
  b_is_tolerance : Binds K d_is_tolerance ["thing"] []
  m_is_tolerance : mg "is_tolerance" = some (.ref f_is_tolerance)
  f_check_number : Addr
  d_check_number : FuncData
  F_check_number : Fun K "check_number" "check_number" s_check_number f_check_number d_check_number
  b_check_number : Binds K d_check_number ["number"] []
  m_check_number : mg "check_number" = some (.ref f_check_number)
  f_check_tolerance : Addr
  d_check_tolerance : FuncData
  F_check_tolerance : Fun K "check_tolerance" "check_tolerance" s_check_tolerance f_check_tolerance d_check_tolerance
  b_check_tolerance : Binds K d_check_tolerance ["tolerance"] []
  m_check_tolerance : mg "check_tolerance" = some (.ref f_check_tolerance)
  f_sign_of : Addr
  d_sign_of : FuncData
  F_sign_of : Fun K "sign_of" "sign_of" s_sign_of f_sign_of d_sign_of
  b_sign_of : Binds K d_sign_of ["rest", "other"] []
  m_sign_of : mg "sign_of" = some (.ref f_sign_of)
  f_place_at : Addr
  d_place_at : FuncData
  F_place_at : Fun K "place_at" "place_at" s_place_at f_place_at d_place_at
  b_place_at : Binds K d_place_at ["step", "sign"] []
  m_place_at : mg "place_at" = some (.ref f_place_at)
  f_place : Addr
  d_place : FuncData
  F_place : Fun K "place" "place" s_place f_place d_place
  b_place : Binds K d_place ["x", "kept", "tolerance"] []
  m_place : mg "place" = some (.ref f_place)
  f_law_source : Addr
  d_law_source : FuncData
  F_law_source : Fun K "_law_source" "_law_source" s_law_source f_law_source d_law_source
  b_law_source : Binds K d_law_source ["_law_script"] []
  m_law_source : mg "_law_source" = some (.ref f_law_source)
  f_law_draw : Addr
  d_law_draw : FuncData
  F_law_draw : Fun K "_law_draw" "_law_draw" s_law_draw f_law_draw d_law_draw
  b_law_draw : Binds K d_law_draw ["_law_source_here", "_law_many"] []
  m_law_draw : mg "_law_draw" = some (.ref f_law_draw)
  f_law_tolerance : Addr
  d_law_tolerance : FuncData
  F_law_tolerance : Fun K "_law_tolerance" "_law_tolerance" s_law_tolerance f_law_tolerance d_law_tolerance
  b_law_tolerance : Binds K d_law_tolerance ["_law_source_here"] []
  m_law_tolerance : mg "_law_tolerance" = some (.ref f_law_tolerance)
  f_law : Addr
  d_law : FuncData
  F_law : Fun K "law" "law" s_law f_law d_law
  b_law : Binds K d_law ["_law_script"] []
  m_law : mg "law" = some (.ref f_law)
  m_int : mg "int" = none
  m_bool : mg "bool" = none
  m_isinstance : mg "isinstance" = none
  m_abs : mg "abs" = none
  m_divmod : mg "divmod" = none
  m_range : mg "range" = none

section
variable {P : Program} {w : World} {K : PySem.W.Frag} {mg : Str → Option Value} {base : Heap}
theorem ok_is_number (T : Txt K mg) : FnOk P w K mg base CX0 1 T.f_is_number T.d_is_number ["thing"] spIsNum := by
  refine T.F_is_number.ok sc_is_number (fun vs H Q E h => ?_) (fun cdv A outer s H vs Q E hr h => ?_)
  · obtain ⟨x, rfl, _⟩ := h
    rfl
  · obtain ⟨x, rfl, h1, h2, k⟩ := h
    refine ⟨_, (pss_cons (ps_if (PW.pt (pw_or (pt_not (pt_val (pe_callB call_isi (by rfl) T.m_isinstance (by decide +kernel) (pa_cons (pv 0) (pa_cons (pe_bltn (v := .ty "int") (by rfl) T.m_int (by decide +kernel) rfl) pa_nil))))) (pw_or1 (pt_val (pe_callB call_isi (by rfl) T.m_isinstance (by decide +kernel) (pa_cons (pv 0) (pa_cons (pe_bltn (v := .ty "bool") (by rfl) T.m_bool (by decide +kernel) rfl) pa_nil)))))))
      (pss_one (ps_ret pe_bl))
      pss_nil)
      (pss_one (ps_ret (pe_cmpR op_lt (pe_callB call_abs (by rfl) T.m_abs (by decide +kernel) (pa_cons (pv 0) pa_nil)) (pe_op op_pow pe_int pe_int) (nomark _))))), ?_⟩
    walk_at "rd"
    refine ⟨_, _, _, _, true, rfl, .ty _, .base (.int _), kit_ty (by decide +kernel), ?_⟩
    walk_at "rd"
    refine ⟨_, _, _, _, false, rfl, .ty _, .base (.int _), kit_ty (by decide +kernel), ?_⟩
    walk_at "rd"
    refine ⟨⟨by decide, by decide, by decide⟩, ?_⟩
    walk_at "rd"
    show Q (.bl (decide ((if x < 0 then -x else x) < (10 : Int) ^ (30 : Int).toNat))) _
    rw [big_eq, decide_eq_true (by split <;> omega)]
    exact k
theorem ok_is_tolerance (T : Txt K mg) : FnOk P w K mg base CX0 2 T.f_is_tolerance T.d_is_tolerance ["thing"] spIsTol := by
  refine T.F_is_tolerance.ok sc_is_tolerance (fun vs H Q E h => ?_) (fun cdv A outer s H vs Q E hr h => ?_)
  · obtain ⟨x, rfl, _⟩ := h
    rfl
  · obtain ⟨x, rfl, h1, h2, k⟩ := h
    refine ⟨_, (pss_one (ps_ret (pe_and (pe_call (ok_is_number T) (hr.mono (by decide)) (by rfl) T.m_is_number T.F_is_number.kp T.b_is_number .nil pass0 (pa_cons (pv 0) pa_nil)) (pe_one (pe_cmpR op_ge (pv 0) pe_int (nomark _)))))), ?_⟩
    walk_at "rd"
    refine ⟨by unfold big at *; omega, h2, ?_⟩
    walk_at "rd"
    show Q (.bl (decide (1 ≤ x))) _
    rw [decide_eq_true h1]
    exact k
theorem ok_check_number (T : Txt K mg) : FnOk P w K mg base CX0 2 T.f_check_number T.d_check_number ["number"] spChkNum := by
  refine T.F_check_number.ok sc_check_number (fun vs H Q E h => ?_) (fun cdv A outer s H vs Q E hr h => ?_)
  · obtain ⟨x, rfl, _⟩ := h
    rfl
  · obtain ⟨x, rfl, h1, h2, k⟩ := h
    refine ⟨_, (pss_one (ps_if (pt_not (pt_val (pe_call (ok_is_number T) (hr.mono (by decide)) (by rfl) T.m_is_number T.F_is_number.kp T.b_is_number .nil pass0 (pa_cons (pv 0) pa_nil))))
      (pss_one ps_never)
      pss_nil)), ?_⟩
    walk_at "rd"
    refine ⟨h1, h2, ?_⟩
    walk_at "rd"
    exact k
theorem ok_check_tolerance (T : Txt K mg) : FnOk P w K mg base CX0 3 T.f_check_tolerance T.d_check_tolerance ["tolerance"] spChkTol := by
  refine T.F_check_tolerance.ok sc_check_tolerance (fun vs H Q E h => ?_) (fun cdv A outer s H vs Q E hr h => ?_)
  · obtain ⟨x, rfl, _⟩ := h
    rfl
  · obtain ⟨x, rfl, h1, h2, k⟩ := h
    refine ⟨_, (pss_one (ps_if (pt_not (pt_val (pe_call (ok_is_tolerance T) (hr.mono (by decide)) (by rfl) T.m_is_tolerance T.F_is_tolerance.kp T.b_is_tolerance .nil pass0 (pa_cons (pv 0) pa_nil))))
      (pss_one ps_never)
      pss_nil)), ?_⟩
    walk_at "rd"
    refine ⟨h1, h2, ?_⟩
    walk_at "rd"
    exact k
theorem ok_sign_of (T : Txt K mg) : FnOk P w K mg base CX0 1 T.f_sign_of T.d_sign_of ["rest", "other"] spSign := by
  refine T.F_sign_of.ok sc_sign_of (fun vs H Q E h => ?_) (fun cdv A outer s H vs Q E hr h => ?_)
  · obtain ⟨r, s, rfl, _⟩ := h
    rfl
  · obtain ⟨r, s, rfl, k⟩ := h
    refine ⟨_, (pss_cons (ps_if (pt_cmpR op_lt (pv 0) (pv 1) (nomark _))
      (pss_one (ps_ret pe_str))
      pss_nil)
      (pss_cons (ps_if (pt_cmpR op_gt (pv 0) (pv 1) (nomark _))
      (pss_one (ps_ret pe_str))
      pss_nil)
      (pss_one (ps_ret pe_str)))), ?_⟩
    walk_at "rd"
    unfold sgn at k
    refine ifd (fun c => ?_) (fun c => ?_)
    · rw [if_pos c] at k
      exact k
    · rw [if_neg c] at k
      walk_at "rd"
      refine ifd (fun d => ?_) (fun d => ?_)
      · rw [if_pos d] at k
        exact k
      · rw [if_neg d] at k
        exact k
theorem ok_place_at (T : Txt K mg) : FnOk P w K mg base CX0 1 T.f_place_at T.d_place_at ["step", "sign"] spPlaceAt := by
  refine T.F_place_at.ok sc_place_at (fun vs H Q E h => ?_) (fun cdv A outer s H vs Q E hr h => ?_)
  · obtain ⟨d, r, s, rfl, _⟩ := h
    rfl
  · obtain ⟨d, r, s, rfl, q'⟩ := h
    refine ⟨_, (pss_cons (ps_if (pt_cmpR op_le (pv 0) (pe_un un_neg pe_int) (nomark _))
      (pss_one (ps_ret pe_str))
      pss_nil)
      (pss_cons (ps_if (pt_cmpR op_ge (pv 0) pe_int (nomark _))
      (pss_one (ps_ret pe_str))
      pss_nil)
      (pss_cons (ps_if (pt_cmpR op_eq (pv 0) (pe_un un_neg pe_int) (nomark _))
      (pss_one (ps_ret (pe_op op_add_str pe_str (pv 1))))
      pss_nil)
      (pss_cons (ps_if (pt_cmpR op_eq (pv 0) pe_int (nomark _))
      (pss_one (ps_ret (pe_op op_add_str pe_str (pv 1))))
      pss_nil)
      (pss_one (ps_ret (pv 1))))))), ?_⟩
    unfold plcD at q'
    walk_at "rd"
    refine ifd (fun c => ?_) (fun c => ?_)
    · rw [if_pos c] at q'
      exact q'
    rw [if_neg c] at q'
    walk_at "rd"
    refine ifd (fun c => ?_) (fun c => ?_)
    · rw [if_pos c] at q'
      exact q'
    rw [if_neg c] at q'
    walk_at "rd"
    refine ifd (fun c => ?_) (fun c => ?_)
    · rw [if_pos (V.int.inj c)] at q'
      walk_at "rd"
      exact ⟨sgn_len _ _, q'⟩
    rw [if_neg (fun z => c (congrArg V.int z))] at q'
    walk_at "rd"
    refine ifd (fun c => ?_) (fun c => ?_)
    · rw [if_pos (V.int.inj c)] at q'
      walk_at "rd"
      exact ⟨sgn_len _ _, q'⟩
    rw [if_neg (fun z => c (congrArg V.int z))] at q'
    walk_at "rd"
    exact q'
theorem ok_place (T : Txt K mg) : FnOk P w K mg base CX0 4 T.f_place T.d_place ["x", "kept", "tolerance"] spPlace := by
  refine T.F_place.ok sc_place (fun vs H Q E h => ?_) (fun cdv A outer s H vs Q E hr h => ?_)
  · obtain ⟨x, k, e, rfl, _⟩ := h
    rfl
  · obtain ⟨x, k, e, rfl, x1, x2, k1, k2, e1, e2, q⟩ := h
    refine ⟨_, (pss_cons (ps_expr (pe_call (ok_check_number T) (hr.mono (by decide)) (by rfl) T.m_check_number T.F_check_number.kp T.b_check_number .nil pass0 (pa_cons (pv 0) pa_nil)))
      (pss_cons (ps_expr (pe_call (ok_check_number T) (hr.mono (by decide)) (by rfl) T.m_check_number T.F_check_number.kp T.b_check_number .nil pass0 (pa_cons (pv 1) pa_nil)))
      (pss_cons (ps_expr (pe_call (ok_check_tolerance T) (hr.mono (by decide)) (by rfl) T.m_check_tolerance T.F_check_tolerance.kp T.b_check_tolerance .nil pass0 (pa_cons (pv 2) pa_nil)))
      (pss_cons (ps_asg (pe_callB call_divmodW (by rfl) T.m_divmod (by decide +kernel) (pa_cons (pv 0) (pa_cons (pv 2) pa_nil))) (pg_tup (by rfl) (pgs_cons (pg_name (i := 3) sc_place.nd rfl (Or.inl rfl)) (pgs_cons (pg_name (i := 4) sc_place.nd rfl (Or.inl rfl)) pgs_nil))))
      (pss_cons (ps_asg (pe_callB call_divmodW (by rfl) T.m_divmod (by decide +kernel) (pa_cons (pv 1) (pa_cons (pv 2) pa_nil))) (pg_tup (by rfl) (pgs_cons (pg_name (i := 5) sc_place.nd rfl (Or.inl rfl)) (pgs_cons (pg_name (i := 6) sc_place.nd rfl (Or.inl rfl)) pgs_nil))))
      (pss_one (ps_ret (pe_call (ok_place_at T) (hr.mono (by decide)) (by rfl) T.m_place_at T.F_place_at.kp T.b_place_at .nil pass0 (pa_cons (pe_op op_sub (pv 3) (pv 5)) (pa_cons (pe_call (ok_sign_of T) (hr.mono (by decide)) (by rfl) T.m_sign_of T.F_sign_of.kp T.b_sign_of .nil pass0 (pa_cons (pv 4) (pa_cons (pv 6) pa_nil))) pa_nil)))))))))), ?_⟩
    walk_at "rd"
    refine ⟨x1, x2, ?_⟩
    walk_at "rd"
    refine ⟨k1, k2, ?_⟩
    walk_at "rd"
    refine ⟨e1, e2, ?_⟩
    walk_at "rd"
    refine ⟨div_ok x1 x2 e1, fun p hp => ?_⟩
    have s1 : Same H (upd H p (.tup [.int (x / e), .int (x % e)])) := Same.new hp
    refine ⟨_, _, rfl, SqT.of upd_same, rfl, ?_⟩
    walk_at "rd"
    refine ⟨div_ok k1 k2 e1, fun p2 hp2 => ?_⟩
    refine ⟨_, _, rfl, SqT.of upd_same, rfl, ?_⟩
    have s2 := s1.trans (Same.new (o := .tup [.int (k / e), .int (k % e)]) hp2)
    walk_at "rd"
    exact ⟨_, _, _, rfl, q _ s2⟩
theorem ok_law_source (T : Txt K mg) : FnOk P w K mg base CX0 1 T.f_law_source T.d_law_source ["_law_script"] (spSource K) := by
  refine T.F_law_source.ok sc_law_source (fun vs H Q E h => ?_) (fun cdv A outer s H vs Q E hr h => ?_)
  · obtain ⟨a, ns, rfl, _⟩ := h
    rfl
  · obtain ⟨a, ns, rfl, hS, k⟩ := h
    refine ⟨_, (pss_cons (ps_asg (pe_tup (pa_cons pe_int (pa_cons pe_int pa_nil))) (pg_tup (by rfl) (pgs_cons (pg_name (i := 1) sc_law_source.nd rfl (Or.inl rfl)) (pgs_cons (pg_name (i := 2) sc_law_source.nd rfl (Or.inl rfl)) pgs_nil))))
      (pss_cons (ps_for PassesOwn.never rfl (pi_list (pv 0)) (pg_name (i := 3) sc_law_source.nd rfl (Or.inl rfl))
      (pss_cons (ps_if (PW.pt (pw_and (pt_cmpR op_eq (pv 1) pe_int (nomark _)) (pw_and1 (pt_cmpR op_ge (pv 3) (pe_op op_pow pe_int pe_int) (nomark _)))))
      (pss_one (ps_set (i := 1) sc_law_source.nd rfl (Or.inl rfl) (pv 3)))
      pss_nil)
      (pss_one (ps_set (i := 2) sc_law_source.nd rfl (Or.inl rfl) (pe_op op_mod (pe_callTy call_int1 (by rfl) T.m_int (by decide +kernel) (pa_cons (pe_op op_add (pe_op op_add (pe_op op_mul (pv 2) pe_int) (pv 3)) pe_int) pa_nil)) pe_int)))))
      (pss_one (ps_ret (pe_lst (pa_cons (pv 1) (pa_cons (pv 2) (pa_cons pe_int pa_nil)))))))), ?_⟩
    refine ⟨by decide, fun p hp => ?_⟩
    have s1 : Same H (upd H p (.tup [.int 0, .int 17])) := Same.new hp
    refine ⟨_, _, rfl, SqT.of upd_same, rfl, ?_⟩
    walk_at "rd"
    refine ⟨⟨_, s1.seq hS⟩, for_list (K := K) (a := a) (xs := ns.map V.int) (fun i σ H' => ∃ (g s : Int) (v : Option V), σ = [some (.ref a), some (.int g), some (.int s), v] ∧ 0 ≤ s ∧ s < 2147483647 ∧ Same H H')
      ⟨0, 17, none, rfl, by decide, by decide, s1⟩ (fun i σ H' _ ⟨_, _, _, _, _, _, z⟩ => z.seq hS) ?_ ?_⟩
    · rintro i y σ H' hi ⟨g, s, v, rfl, s0, s2, z⟩
      obtain ⟨u, rfl⟩ : ∃ u, y = V.int u := by
        rw [List.getElem?_map] at hi
        cases e : ns[i]? with
        | none => rw [e] at hi; cases hi
        | some u => rw [e] at hi; exact ⟨u, (Option.some.inj hi).symm⟩
      have fin : ∀ g' : Int, ∃ (g'' s'' : Int) (v'' : Option V), ([some (V.ref a), some (V.int g'), some (V.int ((s * 31 + u + 7) % 2147483647)), some (V.int u)] : St) = [some (.ref a), some (.int g''), some (.int s''), v''] ∧ 0 ≤ s'' ∧ s'' < 2147483647 ∧ Same H H' :=
        fun g' => ⟨g', _, _, rfl, Int.emod_nonneg _ (by decide), Int.emod_lt_of_pos _ (by decide), z⟩
      walk_at "rd"
      refine ifd (fun cg => ?_) (fun cg => ?_)
      · walk_at "rd"
        refine ⟨⟨by decide, by decide, by decide⟩, ?_⟩
        walk_at "rd"
        refine ifd (fun ch => ?_) (fun ch => ?_)
        · walk_at "rd"
          refine ⟨Or.inr ⟨by decide, by decide⟩, ?_⟩
          walk_at "rd"
          refine Or.inl ?_
          walk_at "rd"
          refine ⟨(by decide : (0 : Int) < 2147483647), ?_⟩
          exact fin u
        · walk_at "rd"
          refine ⟨Or.inr ⟨by decide, by decide⟩, ?_⟩
          walk_at "rd"
          refine Or.inl ?_
          walk_at "rd"
          refine ⟨(by decide : (0 : Int) < 2147483647), ?_⟩
          exact fin g
      · walk_at "rd"
        refine ⟨Or.inr ⟨by decide, by decide⟩, ?_⟩
        walk_at "rd"
        refine Or.inl ?_
        walk_at "rd"
        refine ⟨(by decide : (0 : Int) < 2147483647), ?_⟩
        exact fin g
    · rintro σ H' ⟨g, s, v, rfl, s0, s2, z⟩
      walk_at "rd"
      refine ⟨by show 3 ≤ sizeLine; decide, fun p2 hp2 => ?_⟩
      exact k p2 _ (z.free hp2) (z.trans (Same.new hp2)) ⟨g, s, 0, upd_same, s0, s2, by decide, by decide⟩
theorem ok_law_draw (T : Txt K mg) : FnOk P w K mg base CX0 1 T.f_law_draw T.d_law_draw ["_law_source_here", "_law_many"] spDraw := by
  refine T.F_law_draw.ok sc_law_draw (fun vs H Q E h => ?_) (fun cdv A outer s H vs Q E hr h => ?_)
  · obtain ⟨p, m, n, rfl, _⟩ := h
    rfl
  · obtain ⟨p, m, n, rfl, S, hn, m0, m1, k⟩ := h
    refine ⟨_, (pss_cons (ps_asg (pe_op op_add (pe_ix ix_list (pv 0) pe_int (fun _ _ => rfl)) pe_int) (pg_sub (pv 0) pe_int set_list))
      (pss_cons (ps_if (pt_cmpR op_gt (pe_ix ix_list (pv 0) pe_int (fun _ _ => rfl)) pe_int (nomark _))
      (pss_cons (ps_set (i := 2) sc_law_draw.nd rfl (Or.inl rfl) (pe_op op_mod (pe_callTy call_int1 (by rfl) T.m_int (by decide +kernel) (pa_cons (pe_ix ix_list (pv 0) pe_int (fun _ _ => rfl)) pa_nil)) (pv 1)))
      (pss_cons (ps_asg (pe_op op_fdivW (pe_ix ix_list (pv 0) pe_int (fun _ _ => rfl)) (pv 1)) (pg_sub (pv 0) pe_int set_list))
      (pss_one (ps_ret (pv 2)))))
      pss_nil)
      (pss_cons (ps_set (i := 3) sc_law_draw.nd rfl (Or.inl rfl) (pe_op op_mod (pe_op op_pow (pe_op op_add (pe_ix ix_list (pv 0) pe_int (fun _ _ => rfl)) (pe_op op_mul pe_int (pe_ix ix_list (pv 0) pe_int (fun _ _ => rfl)))) pe_int) pe_int))
      (pss_one (ps_ret (pe_op op_mod (pe_op op_mod (pe_op op_pow (pe_op op_add (pe_op op_add (pe_op op_mul (pv 3) pe_int) (pe_op op_mul (pe_op op_mul pe_int (pe_ix ix_list (pv 0) pe_int (fun _ _ => rfl))) (pe_ix ix_list (pv 0) pe_int (fun _ _ => rfl)))) pe_int) pe_int) pe_int) (pv 1))))))), ?_⟩
    obtain ⟨g, s, c, hp, s0, s1, c0, c1⟩ := S
    walk_at "rd"
    refine ⟨_, _, _, _, rfl, rfl, SqL.of hp, rfl, ?_⟩
    walk_at "rd"
    refine ⟨_, _, _, _, rfl, rfl, hp, rfl, ?_⟩
    walk_at "rd"
    refine ifd (fun cg => ?_) (fun cg => ?_)
    · walk_at "rd"
      refine Or.inl ?_
      walk_at "rd"
      refine ⟨m0, ?_⟩
      walk_at "rd"
      refine ⟨wide_div (b := 64) m0 (by omega) (by decide) (by decide), ?_⟩
      walk_at "rd"
      exact k _ _ (Int.emod_nonneg g (by omega)) (Int.emod_lt_of_pos g m0) (((But.refl p H).upd).upd) ⟨g / m, s, c + 1, upd_same, s0, s1, by omega, by omega⟩
    · walk_at "rd"
      refine ⟨Or.inl ⟨by decide, by decide⟩, ?_⟩
      walk_at "rd"
      refine ⟨⟨by decide, by decide, by omega⟩, ?_⟩
      walk_at "rd"
      refine ⟨(by decide : (0 : Int) < 2147483629), ?_⟩
      have x0 := Int.emod_nonneg ((s + 7919 * (c + 1)) ^ Int.toNat 5) (by decide : (2147483629 : Int) ≠ 0)
      have x1 := Int.emod_lt_of_pos ((s + 7919 * (c + 1)) ^ Int.toNat 5) (by decide : (0 : Int) < 2147483629)
      walk_at "rd"
      refine ⟨Or.inr ⟨by decide, by decide⟩, ?_⟩
      walk_at "rd"
      refine ⟨Or.inl ⟨by decide, by decide⟩, ?_⟩
      walk_at "rd"
      refine ⟨Or.inr ⟨by omega, by omega⟩, ?_⟩
      walk_at "rd"
      refine ⟨draw_pow x0 x1 (by omega) (by omega), ?_⟩
      walk_at "rd"
      refine ⟨(by decide : (0 : Int) < 1000000007), ?_⟩
      walk_at "rd"
      refine ⟨m0, ?_⟩
      exact k _ _ (Int.emod_nonneg _ (by omega)) (Int.emod_lt_of_pos _ m0) ((But.refl p H).upd) ⟨g, s, c + 1, upd_same, s0, s1, by omega, by omega⟩
theorem ok_law_tolerance (T : Txt K mg) : FnOk P w K mg base CX0 2 T.f_law_tolerance T.d_law_tolerance ["_law_source_here"] spTol := by
  refine T.F_law_tolerance.ok sc_law_tolerance (fun vs H Q E h => ?_) (fun cdv A outer s H vs Q E hr h => ?_)
  · obtain ⟨p, n, rfl, _⟩ := h
    rfl
  · obtain ⟨p, n, rfl, S, hn, k⟩ := h
    refine ⟨_, (pss_one (ps_ret (pe_ix ix_list (pe_lst (pa_cons pe_int (pa_cons pe_int (pa_cons pe_int (pa_cons pe_int (pa_cons pe_int (pa_cons pe_int (pa_cons pe_int (pa_cons (pe_op op_pow pe_int pe_int) pa_nil))))))))) (pe_call (ok_law_draw T) (hr.mono (by decide)) (by rfl) T.m_law_draw T.F_law_draw.kp T.b_law_draw .nil pass0 (pa_cons (pv 0) (pa_cons pe_int pa_nil))) (fun _ _ => rfl)))), ?_⟩
    walk_at "rd"
    refine ⟨⟨by decide, by decide, by decide⟩, ?_⟩
    refine ⟨by show 8 ≤ sizeLine; decide, fun t ht => ?_⟩
    walk_at "rd"
    refine ⟨p, 8, n, rfl, S.same (Same.new ht), hn, by decide, by decide, fun d H' d0 d1 hb S' => ?_⟩
    have pt : t ≠ p := fun z => by
      obtain ⟨_, _, _, e, _⟩ := S
      rw [z, e] at ht
      cases ht
    have e1 := hb t _ pt upd_same
    have hk := fun (d : Int) (a : 1 ≤ d) (b : d ≤ 1000000) => k d H' a b ((Same.but (Same.new ht)).trans hb) S'
    rcases (by omega : d = 0 ∨ d = 1 ∨ d = 2 ∨ d = 3 ∨ d = 4 ∨ d = 5 ∨ d = 6 ∨ d = 7) with z | z | z | z | z | z | z | z
    all_goals subst z
    all_goals exact ix_of (SqL.of e1) rfl (hk _ (by decide) (by decide))
theorem ok_law (T : Txt K mg) : FnOk P w K mg base CX0 6 T.f_law T.d_law ["_law_script"] (spLaw K) := by
  refine T.F_law.ok sc_law (fun vs H Q E h => ?_) (fun cdv A outer s H vs Q E hr h => ?_)
  · obtain ⟨a, ns, rfl, _⟩ := h
    rfl
  · obtain ⟨a, ns, rfl, hS, hlen, k⟩ := h
    refine ⟨_, (pss_cons (ps_set (i := 1) sc_law.nd rfl (Or.inl rfl) (pe_call (ok_law_source T) (hr.mono (by decide)) (by rfl) T.m_law_source T.F_law_source.kp T.b_law_source .nil pass0 (pa_cons (pv 0) pa_nil)))
      (pss_cons (ps_set (i := 2) sc_law.nd rfl (Or.inl rfl) (pe_call (ok_law_tolerance T) (hr.mono (by decide)) (by rfl) T.m_law_tolerance T.F_law_tolerance.kp T.b_law_tolerance .nil pass0 (pa_cons (pv 1) pa_nil)))
      (pss_cons (ps_for PassesOwn.never rfl (pi_range1 (by rfl) T.m_range (pa_cons pe_int pa_nil)) (pg_name (i := 3) sc_law.nd rfl (Or.inl rfl))
      (pss_cons (ps_set (i := 4) sc_law.nd rfl (Or.inl rfl) (pe_op op_sub (pe_call (ok_law_draw T) (hr.mono (by decide)) (by rfl) T.m_law_draw T.F_law_draw.kp T.b_law_draw .nil pass0 (pa_cons (pv 1) (pa_cons (pe_op op_mul pe_int (pv 2)) pa_nil))) (pe_op op_mul pe_int (pv 2))))
      (pss_cons (ps_set (i := 5) sc_law.nd rfl (Or.inl rfl) (pe_op op_sub (pe_op op_add (pv 4) (pe_call (ok_law_draw T) (hr.mono (by decide)) (by rfl) T.m_law_draw T.F_law_draw.kp T.b_law_draw .nil pass0 (pa_cons (pv 1) (pa_cons (pe_op op_mul pe_int (pv 2)) pa_nil)))) (pe_op op_mul pe_int (pv 2))))
      (pss_cons (ps_set (i := 6) sc_law.nd rfl (Or.inl rfl) (pe_call (ok_place T) (hr.mono (by decide)) (by rfl) T.m_place T.F_place.kp T.b_place .nil pass0 (pa_cons (pv 5) (pa_cons (pv 4) (pa_cons (pv 2) pa_nil)))))
      (pss_cons (ps_set (i := 7) sc_law.nd rfl (Or.inl rfl) (pe_op op_mul (pe_ix ix_list (pe_lst (pa_cons pe_int (pa_cons (pe_op op_sub pe_int pe_int) (pa_cons (pe_op op_pow pe_int pe_int) pa_nil)))) (pe_call (ok_law_draw T) (hr.mono (by decide)) (by rfl) T.m_law_draw T.F_law_draw.kp T.b_law_draw .nil pass0 (pa_cons (pv 1) (pa_cons pe_int pa_nil))) (fun _ _ => rfl)) (pv 2)))
      (pss_cons (ps_set (i := 8) sc_law.nd rfl (Or.inl rfl) (pe_op op_add pe_int (pe_call (ok_law_draw T) (hr.mono (by decide)) (by rfl) T.m_law_draw T.F_law_draw.kp T.b_law_draw .nil pass0 (pa_cons (pv 1) (pa_cons pe_int pa_nil)))))
      (pss_cons (ps_if (pt_cmpR op_ne (pe_call (ok_place T) (hr.mono (by decide)) (by rfl) T.m_place T.F_place.kp T.b_place .nil pass0 (pa_cons (pe_op op_add (pv 5) (pv 7)) (pa_cons (pe_op op_add (pv 4) (pv 7)) (pa_cons (pv 2) pa_nil)))) (pv 6) (nomark _))
      (pss_one (ps_ret pe_bl))
      pss_nil)
      (pss_cons (ps_if (pt_cmpR op_ne (pe_call (ok_place T) (hr.mono (by decide)) (by rfl) T.m_place T.F_place.kp T.b_place .nil pass0 (pa_cons (pe_op op_mul (pv 5) (pv 8)) (pa_cons (pe_op op_mul (pv 4) (pv 8)) (pa_cons (pe_op op_mul (pv 2) (pv 8)) pa_nil)))) (pv 6) (nomark _))
      (pss_one (ps_ret pe_bl))
      pss_nil)
      (pss_cons (ps_set (i := 9) sc_law.nd rfl (Or.inl rfl) (pe_call (ok_law_draw T) (hr.mono (by decide)) (by rfl) T.m_law_draw T.F_law_draw.kp T.b_law_draw .nil pass0 (pa_cons (pv 1) (pa_cons pe_int pa_nil))))
      (pss_cons (ps_set (i := 10) sc_law.nd rfl (Or.inl rfl) (pe_op op_add (pv 2) (pv 9)))
      (pss_cons (ps_set (i := 11) sc_law.nd rfl (Or.inl rfl) (pe_op op_add (pe_op op_mul (pe_op op_fdivW (pv 5) (pv 2)) (pv 10)) (pe_op op_mod (pv 5) (pv 2))))
      (pss_one (ps_if (pt_cmpR op_ne (pe_call (ok_place T) (hr.mono (by decide)) (by rfl) T.m_place T.F_place.kp T.b_place .nil pass0 (pa_cons (pv 11) (pa_cons (pe_op op_add (pe_op op_mul (pe_op op_fdivW (pv 4) (pv 2)) (pv 10)) (pe_op op_mod (pv 4) (pv 2))) (pa_cons (pv 10) pa_nil)))) (pv 6) (nomark _))
      (pss_one (ps_ret pe_bl))
      pss_nil)))))))))))))
      (pss_one (ps_ret pe_bl))))), ?_⟩
    walk_at "rd"
    refine ⟨a, ns, rfl, hS, fun p H1 hp s1 S1 => ?_⟩
    walk_at "rd"
    refine ⟨_, _, rfl, S1, by decide, fun e H2 e0 e1 b2 S2 => ?_⟩
    walk_at "rd"
    refine ⟨by decide, by decide, ?_⟩
    refine for_range (lo := 0) (n := 8) (fun i σ H' => ∃ v3 v4 v5 v6 v7 v8 v9 v10 v11 : Option V, σ = [some (.ref a), some (.ref p), some (.int e), v3, v4, v5, v6, v7, v8, v9, v10, v11] ∧ Src H' p (1 + 10 * (i : Int)))
      ⟨none, none, none, none, none, none, none, none, none, rfl, S2.le (by decide)⟩ ?_ ?_
    · rintro i σ H3 hi ⟨v3, v4, v5, v6, v7, v8, v9, v10, v11, rfl, S3⟩
      walk_at "rd"
      refine ⟨Or.inl ⟨by decide, by decide⟩, ?_⟩
      refine ⟨_, _, _, rfl, S3, by omega, by omega, by omega, fun d1 H4 a1 b1 _ S4 => ?_⟩
      walk_at "rd"
      refine ⟨Or.inl ⟨by decide, by decide⟩, ?_⟩
      walk_at "rd"
      refine ⟨Or.inl ⟨by decide, by decide⟩, ?_⟩
      refine ⟨_, _, _, rfl, S4, by omega, by omega, by omega, fun d2 H5 a2 b2 _ S5 => ?_⟩
      walk_at "rd"
      refine ⟨Or.inl ⟨by decide, by decide⟩, ?_⟩
      walk_at "rd"
      refine ⟨_, _, _, rfl, by unfold big; omega, by unfold big; omega, by unfold big; omega, by unfold big; omega, e0, by unfold big; omega, fun H6 z6 => ?_⟩
      have S6 := S5.same z6
      walk_at "rd"
      refine ⟨⟨by decide, by decide, by decide⟩, ?_⟩
      refine ⟨by show 3 ≤ sizeLine; decide, fun t ht => ?_⟩
      have pt : t ≠ p := fun z => by
        obtain ⟨_, _, _, q, _⟩ := S6
        rw [z, q] at ht
        cases ht
      walk_at "rd"
      refine ⟨_, _, _, rfl, S6.same (Same.new ht), by omega, by omega, by omega, fun d3 H7 a3 b3 u7 S7 => ?_⟩
      have t7 := u7 t _ pt upd_same
      have pick : ∃ z : Int, atI [V.int 1, V.int (0 - 3), V.int (10 ^ (20 : Int).toNat)] d3 = some (.int z) ∧ -3 ≤ z ∧ z ≤ 100000000000000000000 := by
        rcases (by omega : d3 = 0 ∨ d3 = 1 ∨ d3 = 2) with q | q | q
        all_goals subst q
        · exact ⟨1, rfl, by decide, by decide⟩
        · exact ⟨0 - 3, rfl, by decide, by decide⟩
        · exact ⟨10 ^ (20 : Int).toNat, rfl, by decide, by decide⟩
      obtain ⟨z, hz, z1, z2⟩ := pick
      refine ⟨_, _, _, _, rfl, rfl, SqL.of t7, hz, ?_⟩
      walk_at "rd"
      refine ⟨Or.inr ⟨by omega, by omega⟩, ?_⟩
      walk_at "rd"
      refine ⟨_, _, _, rfl, S7, by omega, by omega, by omega, fun d4 H8 a4 b4 u8 S8 => ?_⟩
      have zb : -3 * 1000000 ≤ z * e ∧ z * e ≤ 100000000000000000000 * 1000000 := zb_of z1 z2 e0 e1
      walk_at "rd"
      refine ⟨_, _, _, rfl, by unfold big; omega, by unfold big; omega, by unfold big; omega, by unfold big; omega, e0, by unfold big; omega, fun H9 z9 => ?_⟩
      have S9 := S8.same z9
      walk_at "rd"
      refine ifne (congrArg V.str (plc_shift _ _ _ e0)) ?_
      have x1 : -10000000 * 5 ≤ (d1 - 2 * e + d2 - 2 * e) * (1 + d4) ∧ (d1 - 2 * e + d2 - 2 * e) * (1 + d4) ≤ 10000000 * 5 := tb_of (by omega) (by omega) (by omega) (by omega)
      have x2 : -10000000 * 5 ≤ (d1 - 2 * e) * (1 + d4) ∧ (d1 - 2 * e) * (1 + d4) ≤ 10000000 * 5 := tb_of (by omega) (by omega) (by omega) (by omega)
      have x3 : -10000000 * 5 ≤ e * (1 + d4) ∧ e * (1 + d4) ≤ 10000000 * 5 := tb_of (by omega) (by omega) (by omega) (by omega)
      have x4 : 0 < e * (1 + d4) := Int.mul_pos (by omega) (by omega)
      walk_at "rd"
      refine ⟨Or.inr ⟨by omega, by omega⟩, ?_⟩
      walk_at "rd"
      refine ⟨Or.inr ⟨by omega, by omega⟩, ?_⟩
      walk_at "rd"
      refine ⟨Or.inr ⟨by omega, by omega⟩, ?_⟩
      walk_at "rd"
      refine ⟨_, _, _, rfl, by unfold big; omega, by unfold big; omega, by unfold big; omega, by unfold big; omega, by omega, by unfold big; omega, fun H10 z10 => ?_⟩
      have S10 := S9.same z10
      walk_at "rd"
      refine ifne (congrArg V.str (plc_scale _ _ _ (by omega))) ?_
      walk_at "rd"
      refine ⟨_, _, _, rfl, S10, by omega, by omega, by omega, fun d5 H11 a5 b5 u11 S11 => ?_⟩
      have y1 := div_bd (x := d1 - 2 * e + d2 - 2 * e) e0 (by omega) (by omega)
      have y2 := div_bd (x := d1 - 2 * e) e0 (by omega) (by omega)
      have y3 := mul_bd (w := e + d5) y1.1 y1.2 (by omega) (by omega)
      have y4 := mul_bd (w := e + d5) y2.1 y2.2 (by omega) (by omega)
      have r0 := Int.emod_nonneg (d1 - 2 * e + d2 - 2 * e) (by omega : e ≠ 0)
      have r1 := Int.emod_lt_of_pos (d1 - 2 * e + d2 - 2 * e) (by omega : 0 < e)
      have q0 := Int.emod_nonneg (d1 - 2 * e) (by omega : e ≠ 0)
      have q1 := Int.emod_lt_of_pos (d1 - 2 * e) (by omega : 0 < e)
      walk_at "rd"
      refine ⟨wide_div (b := 64) (by omega) (by omega) (by decide) (by decide), ?_⟩
      walk_at "rd"
      refine ⟨Or.inr ⟨by omega, by omega⟩, ?_⟩
      walk_at "rd"
      refine ⟨by show 0 < e; omega, ?_⟩
      walk_at "rd"
      refine ⟨wide_div (b := 64) (by omega) (by omega) (by decide) (by decide), ?_⟩
      walk_at "rd"
      refine ⟨Or.inr ⟨by omega, by omega⟩, ?_⟩
      walk_at "rd"
      refine ⟨by show 0 < e; omega, ?_⟩
      walk_at "rd"
      generalize hX : (d1 - 2 * e + d2 - 2 * e) / e * (e + d5) = X at y3
      generalize hY : (d1 - 2 * e) / e * (e + d5) = Y at y4
      refine ⟨X + (d1 - 2 * e + d2 - 2 * e) % e, Y + (d1 - 2 * e) % e, e + d5, by rw [← hX, ← hY]; rfl, by unfold big; omega, by unfold big; omega, by unfold big; omega, by unfold big; omega, by omega, by unfold big; omega, fun H12 z12 => ?_⟩
      have S12 := S11.same z12
      rw [← hX, ← hY]
      walk_at "rd"
      refine ifne (congrArg V.str (plc_wide _ _ e0 (by omega))) ?_
      exact ⟨_, _, _, _, _, _, _, _, _, rfl, S12.le (by omega)⟩
    · rintro σ H3 ⟨v3, v4, v5, v6, v7, v8, v9, v10, v11, rfl, S3⟩
      walk_at "rd"
      exact k _
end
theorem all_mk {l : PySem.W.OpenLaw} {w : World} {K : PySem.W.Frag} {h : Heap} {mg : Str → Option Value} {fa : Addr} (X : K.In h) (G : h.Ns mainGlobals mg) (hfa : mg "law" = some (.ref fa))
    {f_is_number f_is_tolerance f_check_number f_check_tolerance f_sign_of f_place_at f_place f_law_source f_law_draw f_law_tolerance f_law : Addr}
    {od_is_number an_is_number od_is_tolerance an_is_tolerance od_check_number an_check_number od_check_tolerance an_check_tolerance od_sign_of an_sign_of od_place_at an_place_at od_place an_place od_law_source an_law_source od_law_draw an_law_draw od_law_tolerance an_law_tolerance od_law an_law : Option Addr} {sl_is_number sl_is_tolerance sl_check_number sl_check_tolerance sl_sign_of sl_place_at sl_place sl_law_source sl_law_draw sl_law_tolerance sl_law : Array (Option Value)}
    {oc_is_number kV_is_number dc_is_number pm_is_number cd_is_number ct_is_number oc_is_tolerance kV_is_tolerance dc_is_tolerance pm_is_tolerance cd_is_tolerance ct_is_tolerance oc_check_number kV_check_number dc_check_number pm_check_number cd_check_number ct_check_number oc_check_tolerance kV_check_tolerance dc_check_tolerance pm_check_tolerance cd_check_tolerance ct_check_tolerance oc_sign_of kV_sign_of dc_sign_of pm_sign_of cd_sign_of ct_sign_of oc_place_at kV_place_at dc_place_at pm_place_at cd_place_at ct_place_at oc_place kV_place dc_place pm_place cd_place ct_place oc_law_source kV_law_source dc_law_source pm_law_source cd_law_source ct_law_source oc_law_draw kV_law_draw dc_law_draw pm_law_draw cd_law_draw ct_law_draw oc_law_tolerance kV_law_tolerance dc_law_tolerance pm_law_tolerance cd_law_tolerance ct_law_tolerance oc_law kV_law dc_law pm_law cd_law ct_law : Value}
    (a_is_number : PySem.W.nsIn K mainGlobals "is_number" = some (some (.ref f_is_number)))
    (l_is_number : K.lookup f_is_number = some ⟨oc_is_number, od_is_number, .func (PySem.W.fnOf "is_number" "is_number" (defArgs s_is_number) (defBody s_is_number) (defScope s_is_number) .none kV_is_number dc_is_number pm_is_number an_is_number cd_is_number ct_is_number), sl_is_number⟩)
    (c_is_number : PySem.W.codeIn K cd_is_number "is_number" = true)
    (k_is_number : PySem.W.keepIn K (.ref f_is_number) = true)
    (a_is_tolerance : PySem.W.nsIn K mainGlobals "is_tolerance" = some (some (.ref f_is_tolerance)))
    (l_is_tolerance : K.lookup f_is_tolerance = some ⟨oc_is_tolerance, od_is_tolerance, .func (PySem.W.fnOf "is_tolerance" "is_tolerance" (defArgs s_is_tolerance) (defBody s_is_tolerance) (defScope s_is_tolerance) .none kV_is_tolerance dc_is_tolerance pm_is_tolerance an_is_tolerance cd_is_tolerance ct_is_tolerance), sl_is_tolerance⟩)
    (c_is_tolerance : PySem.W.codeIn K cd_is_tolerance "is_tolerance" = true)
    (k_is_tolerance : PySem.W.keepIn K (.ref f_is_tolerance) = true)
    (a_check_number : PySem.W.nsIn K mainGlobals "check_number" = some (some (.ref f_check_number)))
    (l_check_number : K.lookup f_check_number = some ⟨oc_check_number, od_check_number, .func (PySem.W.fnOf "check_number" "check_number" (defArgs s_check_number) (defBody s_check_number) (defScope s_check_number) .none kV_check_number dc_check_number pm_check_number an_check_number cd_check_number ct_check_number), sl_check_number⟩)
    (c_check_number : PySem.W.codeIn K cd_check_number "check_number" = true)
    (k_check_number : PySem.W.keepIn K (.ref f_check_number) = true)
    (a_check_tolerance : PySem.W.nsIn K mainGlobals "check_tolerance" = some (some (.ref f_check_tolerance)))
    (l_check_tolerance : K.lookup f_check_tolerance = some ⟨oc_check_tolerance, od_check_tolerance, .func (PySem.W.fnOf "check_tolerance" "check_tolerance" (defArgs s_check_tolerance) (defBody s_check_tolerance) (defScope s_check_tolerance) .none kV_check_tolerance dc_check_tolerance pm_check_tolerance an_check_tolerance cd_check_tolerance ct_check_tolerance), sl_check_tolerance⟩)
    (c_check_tolerance : PySem.W.codeIn K cd_check_tolerance "check_tolerance" = true)
    (k_check_tolerance : PySem.W.keepIn K (.ref f_check_tolerance) = true)
    (a_sign_of : PySem.W.nsIn K mainGlobals "sign_of" = some (some (.ref f_sign_of)))
    (l_sign_of : K.lookup f_sign_of = some ⟨oc_sign_of, od_sign_of, .func (PySem.W.fnOf "sign_of" "sign_of" (defArgs s_sign_of) (defBody s_sign_of) (defScope s_sign_of) .none kV_sign_of dc_sign_of pm_sign_of an_sign_of cd_sign_of ct_sign_of), sl_sign_of⟩)
    (c_sign_of : PySem.W.codeIn K cd_sign_of "sign_of" = true)
    (k_sign_of : PySem.W.keepIn K (.ref f_sign_of) = true)
    (a_place_at : PySem.W.nsIn K mainGlobals "place_at" = some (some (.ref f_place_at)))
    (l_place_at : K.lookup f_place_at = some ⟨oc_place_at, od_place_at, .func (PySem.W.fnOf "place_at" "place_at" (defArgs s_place_at) (defBody s_place_at) (defScope s_place_at) .none kV_place_at dc_place_at pm_place_at an_place_at cd_place_at ct_place_at), sl_place_at⟩)
    (c_place_at : PySem.W.codeIn K cd_place_at "place_at" = true)
    (k_place_at : PySem.W.keepIn K (.ref f_place_at) = true)
    (a_place : PySem.W.nsIn K mainGlobals "place" = some (some (.ref f_place)))
    (l_place : K.lookup f_place = some ⟨oc_place, od_place, .func (PySem.W.fnOf "place" "place" (defArgs s_place) (defBody s_place) (defScope s_place) .none kV_place dc_place pm_place an_place cd_place ct_place), sl_place⟩)
    (c_place : PySem.W.codeIn K cd_place "place" = true)
    (k_place : PySem.W.keepIn K (.ref f_place) = true)
    (a_law_source : PySem.W.nsIn K mainGlobals "_law_source" = some (some (.ref f_law_source)))
    (l_law_source : K.lookup f_law_source = some ⟨oc_law_source, od_law_source, .func (PySem.W.fnOf "_law_source" "_law_source" (defArgs s_law_source) (defBody s_law_source) (defScope s_law_source) .none kV_law_source dc_law_source pm_law_source an_law_source cd_law_source ct_law_source), sl_law_source⟩)
    (c_law_source : PySem.W.codeIn K cd_law_source "_law_source" = true)
    (k_law_source : PySem.W.keepIn K (.ref f_law_source) = true)
    (a_law_draw : PySem.W.nsIn K mainGlobals "_law_draw" = some (some (.ref f_law_draw)))
    (l_law_draw : K.lookup f_law_draw = some ⟨oc_law_draw, od_law_draw, .func (PySem.W.fnOf "_law_draw" "_law_draw" (defArgs s_law_draw) (defBody s_law_draw) (defScope s_law_draw) .none kV_law_draw dc_law_draw pm_law_draw an_law_draw cd_law_draw ct_law_draw), sl_law_draw⟩)
    (c_law_draw : PySem.W.codeIn K cd_law_draw "_law_draw" = true)
    (k_law_draw : PySem.W.keepIn K (.ref f_law_draw) = true)
    (a_law_tolerance : PySem.W.nsIn K mainGlobals "_law_tolerance" = some (some (.ref f_law_tolerance)))
    (l_law_tolerance : K.lookup f_law_tolerance = some ⟨oc_law_tolerance, od_law_tolerance, .func (PySem.W.fnOf "_law_tolerance" "_law_tolerance" (defArgs s_law_tolerance) (defBody s_law_tolerance) (defScope s_law_tolerance) .none kV_law_tolerance dc_law_tolerance pm_law_tolerance an_law_tolerance cd_law_tolerance ct_law_tolerance), sl_law_tolerance⟩)
    (c_law_tolerance : PySem.W.codeIn K cd_law_tolerance "_law_tolerance" = true)
    (k_law_tolerance : PySem.W.keepIn K (.ref f_law_tolerance) = true)
    (a_law : PySem.W.nsIn K mainGlobals "law" = some (some (.ref f_law)))
    (l_law : K.lookup f_law = some ⟨oc_law, od_law, .func (PySem.W.fnOf "law" "law" (defArgs s_law) (defBody s_law) (defScope s_law) .none kV_law dc_law pm_law an_law cd_law ct_law), sl_law⟩)
    (c_law : PySem.W.codeIn K cd_law "law" = true)
    (k_law : PySem.W.keepIn K (.ref f_law) = true)
    (z_int : PySem.W.nsIn K mainGlobals "int" = some none)
    (z_bool : PySem.W.nsIn K mainGlobals "bool" = some none)
    (z_isinstance : PySem.W.nsIn K mainGlobals "isinstance" = some none)
    (z_abs : PySem.W.nsIn K mainGlobals "abs" = some none)
    (z_divmod : PySem.W.nsIn K mainGlobals "divmod" = some none)
    (z_range : PySem.W.nsIn K mainGlobals "range" = some none)
    : ∃ fd : FuncData, (∀ (s : Shared) (v : Value), BindsTo s fd ⟨[v], []⟩ [("_law_script", v)]) ∧ ∀ base : Heap, K.In base → base.Ns mainGlobals mg → FnOk l.prog w K mg base CX0 6 fa fd ["_law_script"] (spLaw K) := by
  have e := hfa.symm.trans (PySem.W.mg_of X G a_law)
  cases e
  have F_is_number := fun_mk (st := s_is_number) l_is_number c_is_number k_is_number
  have F_is_tolerance := fun_mk (st := s_is_tolerance) l_is_tolerance c_is_tolerance k_is_tolerance
  have F_check_number := fun_mk (st := s_check_number) l_check_number c_check_number k_check_number
  have F_check_tolerance := fun_mk (st := s_check_tolerance) l_check_tolerance c_check_tolerance k_check_tolerance
  have F_sign_of := fun_mk (st := s_sign_of) l_sign_of c_sign_of k_sign_of
  have F_place_at := fun_mk (st := s_place_at) l_place_at c_place_at k_place_at
  have F_place := fun_mk (st := s_place) l_place c_place k_place
  have F_law_source := fun_mk (st := s_law_source) l_law_source c_law_source k_law_source
  have F_law_draw := fun_mk (st := s_law_draw) l_law_draw c_law_draw k_law_draw
  have F_law_tolerance := fun_mk (st := s_law_tolerance) l_law_tolerance c_law_tolerance k_law_tolerance
  have F_law := fun_mk (st := s_law) l_law c_law k_law
  have b_is_number := F_is_number.binds (ps := ["thing"]) fun _ _ _ _ _ _ us hl => match us, hl with | [_], _ => rfl
  have b_is_tolerance := F_is_tolerance.binds (ps := ["thing"]) fun _ _ _ _ _ _ us hl => match us, hl with | [_], _ => rfl
  have b_check_number := F_check_number.binds (ps := ["number"]) fun _ _ _ _ _ _ us hl => match us, hl with | [_], _ => rfl
  have b_check_tolerance := F_check_tolerance.binds (ps := ["tolerance"]) fun _ _ _ _ _ _ us hl => match us, hl with | [_], _ => rfl
  have b_sign_of := F_sign_of.binds (ps := ["rest", "other"]) fun _ _ _ _ _ _ us hl => match us, hl with | [_, _], _ => rfl
  have b_place_at := F_place_at.binds (ps := ["step", "sign"]) fun _ _ _ _ _ _ us hl => match us, hl with | [_, _], _ => rfl
  have b_place := F_place.binds (ps := ["x", "kept", "tolerance"]) fun _ _ _ _ _ _ us hl => match us, hl with | [_, _, _], _ => rfl
  have b_law_source := F_law_source.binds (ps := ["_law_script"]) fun _ _ _ _ _ _ us hl => match us, hl with | [_], _ => rfl
  have b_law_draw := F_law_draw.binds (ps := ["_law_source_here", "_law_many"]) fun _ _ _ _ _ _ us hl => match us, hl with | [_, _], _ => rfl
  have b_law_tolerance := F_law_tolerance.binds (ps := ["_law_source_here"]) fun _ _ _ _ _ _ us hl => match us, hl with | [_], _ => rfl
  have b_law := F_law.binds (ps := ["_law_script"]) fun _ _ _ _ _ _ us hl => match us, hl with | [_], _ => rfl
  let T : Txt K mg := {
f_is_number := f_is_number, d_is_number := _, F_is_number := F_is_number, b_is_number := b_is_number, m_is_number := PySem.W.mg_of X G a_is_number,
    f_is_tolerance := f_is_tolerance, d_is_tolerance := _, F_is_tolerance := F_is_tolerance, b_is_tolerance := b_is_tolerance, m_is_tolerance := PySem.W.mg_of X G a_is_tolerance,
    f_check_number := f_check_number, d_check_number := _, F_check_number := F_check_number, b_check_number := b_check_number, m_check_number := PySem.W.mg_of X G a_check_number,
    f_check_tolerance := f_check_tolerance, d_check_tolerance := _, F_check_tolerance := F_check_tolerance, b_check_tolerance := b_check_tolerance, m_check_tolerance := PySem.W.mg_of X G a_check_tolerance,
    f_sign_of := f_sign_of, d_sign_of := _, F_sign_of := F_sign_of, b_sign_of := b_sign_of, m_sign_of := PySem.W.mg_of X G a_sign_of,
    f_place_at := f_place_at, d_place_at := _, F_place_at := F_place_at, b_place_at := b_place_at, m_place_at := PySem.W.mg_of X G a_place_at,
    f_place := f_place, d_place := _, F_place := F_place, b_place := b_place, m_place := PySem.W.mg_of X G a_place,
    f_law_source := f_law_source, d_law_source := _, F_law_source := F_law_source, b_law_source := b_law_source, m_law_source := PySem.W.mg_of X G a_law_source,
    f_law_draw := f_law_draw, d_law_draw := _, F_law_draw := F_law_draw, b_law_draw := b_law_draw, m_law_draw := PySem.W.mg_of X G a_law_draw,
    f_law_tolerance := f_law_tolerance, d_law_tolerance := _, F_law_tolerance := F_law_tolerance, b_law_tolerance := b_law_tolerance, m_law_tolerance := PySem.W.mg_of X G a_law_tolerance,
    f_law := fa, d_law := _, F_law := F_law, b_law := b_law, m_law := hfa,
    m_int := PySem.W.mg_none_of X G z_int,
    m_bool := PySem.W.mg_none_of X G z_bool,
    m_isinstance := PySem.W.mg_none_of X G z_isinstance,
    m_abs := PySem.W.mg_none_of X G z_abs,
    m_divmod := PySem.W.mg_none_of X G z_divmod,
    m_range := PySem.W.mg_none_of X G z_range }
  exact ⟨PySem.W.fnOf "law" "law" (defArgs s_law) (defBody s_law) (defScope s_law) .none kV_law dc_law pm_law an_law cd_law ct_law, fun s v => .of_eq rfl, fun base _ _ => ok_law T⟩
theorem walk {l : PySem.W.OpenLaw} {q : Program} {loose : List Str} {XP : (Str → Option Value) → Heap → Prop} {YP : World → Heap → Prop} {d : DefRec} {K : Params → PySem.W.Frag} (hn : l.most = some 63) (hdf : d.params.defaults = [])
    (hY : ∀ (w : World) (h : Heap), YP w h → (K w.params).In h)
    (F : ∀ (w : World) (mg : Str → Option Value) (fa : Addr) (h : Heap), (K w.params).In h → h.Ns mainGlobals mg → mg d.name = some (.ref fa) →
      ∃ fd : FuncData, (∀ (s : Shared) (u : Value), BindsTo s fd ⟨[u], []⟩ [("_law_script", u)]) ∧ ∀ base : Heap, (K w.params).In base → base.Ns mainGlobals mg → FnOk l.prog w (K w.params) mg base CX0 6 fa fd ["_law_script"] (spLaw (K w.params))) :
    PySem.W.WalkO q loose XP YP l.row.toRowW d [] (fun f vs => PySem.call f vs) :=
  L2.walk_of (n := 63) (k := 6) (x := "_law_script") (CX := fun _ => CX0) (sp := fun w => spLaw (K w.params)) hn (by decide) hdf ⟨rfl, by decide, by decide⟩ hY F (fun _ _ a ns hl _ hS => ⟨a, ns, rfl, hS, hl, fun _ => rfl⟩) fun _ _ _ _ _ z => z
end Toy
open PySem PySem.W PyProof.Rows
set_option maxRecDepth 100000 in
set_option maxHeartbeats 0 in
theorem PySem.Challenge.cw_nearloops_k05_whole_shifts_and_scales_holds : PySem.Challenge.rw_nearloops_k05_whole_shifts_and_scales.Holds := by
  w_on; o_law; k_head; (case hw => w_witness2)
  k_fill
  refine Toy.walk (l := PySem.Challenge.rw_nearloops_k05_whole_shifts_and_scales) rfl rfl (fun w h Y => PySem.W.kIn_of Y) ?F
  case F =>
    intro w mg fa h KX G hmg
    refine' Toy.all_mk KX G hmg ?a_is_number ?l_is_number ?c_is_number ?k_is_number ?a_is_tolerance ?l_is_tolerance ?c_is_tolerance ?k_is_tolerance ?a_check_number ?l_check_number ?c_check_number ?k_check_number ?a_check_tolerance ?l_check_tolerance ?c_check_tolerance ?k_check_tolerance ?a_sign_of ?l_sign_of ?c_sign_of ?k_sign_of ?a_place_at ?l_place_at ?c_place_at ?k_place_at ?a_place ?l_place ?c_place ?k_place ?a_law_source ?l_law_source ?c_law_source ?k_law_source ?a_law_draw ?l_law_draw ?c_law_draw ?k_law_draw ?a_law_tolerance ?l_law_tolerance ?c_law_tolerance ?k_law_tolerance ?a_law ?l_law ?c_law ?k_law ?z_int ?z_bool ?z_isinstance ?z_abs ?z_divmod ?z_range
    (case a_is_number => k_is)
    (case l_is_number => k_is)
    (case c_is_number => k_is)
    (case k_is_number => k_is)
    (case a_is_tolerance => k_is)
    (case l_is_tolerance => k_is)
    (case c_is_tolerance => k_is)
    (case k_is_tolerance => k_is)
    (case a_check_number => k_is)
    (case l_check_number => k_is)
    (case c_check_number => k_is)
    (case k_check_number => k_is)
    (case a_check_tolerance => k_is)
    (case l_check_tolerance => k_is)
    (case c_check_tolerance => k_is)
    (case k_check_tolerance => k_is)
    (case a_sign_of => k_is)
    (case l_sign_of => k_is)
    (case c_sign_of => k_is)
    (case k_sign_of => k_is)
    (case a_place_at => k_is)
    (case l_place_at => k_is)
    (case c_place_at => k_is)
    (case k_place_at => k_is)
    (case a_place => k_is)
    (case l_place => k_is)
    (case c_place => k_is)
    (case k_place => k_is)
    (case a_law_source => k_is)
    (case l_law_source => k_is)
    (case c_law_source => k_is)
    (case k_law_source => k_is)
    (case a_law_draw => k_is)
    (case l_law_draw => k_is)
    (case c_law_draw => k_is)
    (case k_law_draw => k_is)
    (case a_law_tolerance => k_is)
    (case l_law_tolerance => k_is)
    (case c_law_tolerance => k_is)
    (case k_law_tolerance => k_is)
    (case a_law => k_is)
    (case l_law => k_is)
    (case c_law => k_is)
    (case k_law => k_is)
    (case z_int => k_is)
    (case z_bool => k_is)
    (case z_isinstance => k_is)
    (case z_abs => k_is)
    (case z_divmod => k_is)
    (case z_range => k_is)

