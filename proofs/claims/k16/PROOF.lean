import PyProof.Rows.All
import Wide.All
import OpenK.AllK
import Wide.FinOn
import HandS.ForMost
import HandS.Wide
import HandS.Style
import HandS.IsInst
import HandS.Conv
import HandS.Codes
import HandS.TupAny
import HandS.NoneIn
import HandS.WideBits
import KE.OsArith
import HandS.Walk
import KE.GoesEnum
import HandS.EndBits
import PySem.Challenge.RW_figurerounds_k16_least_with
set_option Elab.async false
set_option linter.all false
set_option maxRecDepth 100000
set_option maxHeartbeats 4000000

/-! my own words for readings: "rd" goes on while there is one way only -/
local macro_rules | `(tactic| walk_at "cc") => `(tactic| first
  | (with_reducible exact rfl) | (dsimp only [CMul, CDivW]; omega) | (exact ⟨by decide +kernel, by decide +kernel⟩) | decide +kernel)
local macro_rules | `(tactic| walk_at "rd1") => `(tactic| first
  | refine ⟨_, rfl, ?_⟩ | refine ⟨_, _, rfl, rfl, ?_⟩ | refine ⟨rfl, ?_⟩)
local macro_rules | `(tactic| walk_at "rd") => `(tactic| repeat (walk_at "rd1"))

local macro_rules | `(tactic| walk_at "p") => `(tactic| ((show (0 : Int) < _); first | assumption | omega | decide))

namespace Fx
open PySem PySem.Spec PyProof.Rows L2

/-! ### rules named by their readings, for comprehensions -/
def rLenQ (K : PySem.W.Frag) : List V → Hp → VK → Prop := fun xs H Q => ∃ p ys, xs = [V.ref p] ∧ (SqL K H p ys ∨ SqT K H p ys) ∧ Q (.int ys.length) H
def rListQ (K : PySem.W.Frag) : List V → Hp → VK → Prop := fun xs H Q => ∃ p ys, xs = [V.ref p] ∧ (SqL K H p ys ∨ SqT K H p ys) ∧ ∀ l, H l = none → Q (.ref l) (upd H l (.lst ys))

/-! ### what stays -/
def But (d : Addr) (H H' : Hp) : Prop := ∀ b o, b ≠ d → H b = some o → H' b = some o
theorem But.refl (d : Addr) (H : Hp) : But d H H := fun _ _ _ h => h
theorem But.trans {d : Addr} {H H1 H2 : Hp} (a : But d H H1) (b : But d H1 H2) : But d H H2 := fun x o n h => b x o n (a x o n h)
theorem But.of {d : Addr} {H H' : Hp} (a : Same H H') : But d H H' := fun x o _ h => a x o h
theorem But.new {d p : Addr} {H : Hp} {o : HO} (h : H p = none) : But d H (upd H p o) := fun b u _ e => by
  rw [upd_ne (ne_of_none e h)]
  exact e
theorem But.set {d : Addr} {H : Hp} {o : HO} : But d H (upd H d o) := fun b u n e => by
  rw [upd_ne n]
  exact e
theorem But.fresh {d p : Addr} {H H' : Hp} (a : But d H H') (hd : ∃ o, H' d = some o) (h : H' p = none) : H p = none := by
  cases e : H p with
  | none => rfl
  | some o =>
    by_cases z : p = d
    · obtain ⟨u, hu⟩ := hd
      rw [z, hu] at h
      cases h
    · rw [a p o z e] at h
      cases h
theorem Same.new {p : Addr} {H : Hp} {o : HO} (h : H p = none) : Same H (upd H p o) := fun b u e => by
  rw [upd_ne (ne_of_none e h)]
  exact e

/-- behind a new object, named by «generalize g : upd H p _ = H'» -/
theorem new_of {H H' : Hp} {p : Addr} {o : HO} (g : upd H p o = H') (hp : H p = none) : Same H H' ∧ H' p = some o := by
  subst g
  exact ⟨Same.new hp, upd_same⟩
theorem set_of {H H' : Hp} {p : Addr} {o : HO} (g : upd H p o = H') : But p H H' ∧ H' p = some o := by
  subst g
  exact ⟨But.set, upd_same⟩

/-! ### the draws -/
/-- the cells at c, the deck at d, at most n draws so far -/
structure Deck (H : Hp) (d c : Addr) (n : Nat) : Prop where
  ex : ∃ (ns : List Int) (i l m t : Int), H d = some (.lst [.ref c, .int i, .int l, .int m, .int t]) ∧ H c = some (.lst (ns.map V.int)) ∧ 0 ≤ i ∧ i ≤ n ∧ 0 ≤ m ∧ m ≤ n
theorem Deck.there {H : Hp} {d c : Addr} {n : Nat} (h : Deck H d c n) : ∃ o, H d = some o := by
  obtain ⟨ns, i, l, m, t, e, _⟩ := h.ex
  exact ⟨_, e⟩
theorem Deck.some {H : Hp} {d c : Addr} {n : Nat} (h : Deck H d c n) : ∃ xs, H d = some (.lst xs) := by
  obtain ⟨ns, i, l, m, t, e, _⟩ := h.ex
  exact ⟨_, e⟩
theorem Deck.ne {H : Hp} {d c : Addr} {n : Nat} (h : Deck H d c n) : c ≠ d := by
  obtain ⟨ns, i, l, m, t, e, e2, _⟩ := h.ex
  intro z
  rw [z, e] at e2
  cases ns with
  | nil => cases e2
  | cons x r => cases e2
theorem Deck.mono {H : Hp} {d c : Addr} {n k : Nat} (h : Deck H d c n) (l : n ≤ k) : Deck H d c k := by
  obtain ⟨ns, i, l, m, t, e, e2, h1, h2, h3, h4⟩ := h.ex
  exact ⟨ns, i, l, m, t, e, e2, h1, by omega, h3, by omega⟩
theorem Deck.same {H H' : Hp} {d c : Addr} {n : Nat} (h : Deck H d c n) (a : Same H H') : Deck H' d c n := by
  obtain ⟨ns, i, l, m, t, e, e2, r⟩ := h.ex
  exact ⟨ns, i, l, m, t, a _ _ e, a _ _ e2, r⟩
theorem Deck.new {H : Hp} {d c p : Addr} {n : Nat} {o : HO} (h : Deck H d c n) (hp : H p = none) : Deck (upd H p o) d c n := h.same (Same.new hp)
/-- something else than the deck and its cells is written -/
theorem Deck.off {H : Hp} {d c p : Addr} {n : Nat} {o : HO} (h : Deck H d c n) (h1 : p ≠ d) (h2 : p ≠ c) : Deck (upd H p o) d c n := by
  obtain ⟨ns, i, l, m, t, e, e2, r⟩ := h.ex
  exact ⟨ns, i, l, m, t, by rw [upd_ne (Ne.symm h1)]; exact e, by rw [upd_ne (Ne.symm h2)]; exact e2, r⟩
/-- a list of our own grows -/
theorem But.own {d p : Addr} {H H' : Hp} {o : HO} (a : But d H H') (hp : H p = none) : But d H (upd H' p o) := fun b u n e => by
  rw [upd_ne (ne_of_none e hp)]
  exact a b u n e
theorem Deck.out {H : Hp} {d c p : Addr} {n : Nat} (h : Deck H d c n) (hp : H p = none) : p ≠ d ∧ p ≠ c := by
  obtain ⟨ns, i, l, m, t, e, e2, r⟩ := h.ex
  exact ⟨(ne_of_none e hp).symm, (ne_of_none e2 hp).symm⟩
/-- an object that is no list stays -/
theorem But.tup {d c p : Addr} {n : Nat} {H H' : Hp} {xs : List V} (a : But d H H') (h : Deck H d c n) (e : H p = some (.tup xs)) : H' p = some (.tup xs) := by
  obtain ⟨ys, q⟩ := h.some
  exact a p _ (ne_of e q (fun z => by cases z)) e

/-- a slice from the first on -/
theorem cut_to (xs : List V) (n : Nat) : cutV xs none (some (n : Int)) = xs.take n := by
  unfold cutV
  rw [HT.sIx_none, HT.sIx_nat]
  show List.take (min n xs.length - 0) (xs.drop 0) = _
  rw [List.drop_zero, Nat.sub_zero]
  by_cases h : n ≤ xs.length
  · rw [Nat.min_eq_left h]
  · rw [Nat.min_eq_right (by omega), List.take_length, List.take_of_length_le (by omega)]
/-- a slice from the n-th on -/
theorem cut_from (xs : List V) (n : Nat) : cutV xs (some (n : Int)) none = xs.drop n := by
  unfold cutV
  rw [HT.sIx_none, HT.sIx_nat]
  by_cases h : n ≤ xs.length
  · rw [Nat.min_eq_left h]
    exact List.take_of_length_le (by rw [List.length_drop]; omega)
  · rw [Nat.min_eq_right (by omega), Nat.sub_self, List.take_zero, List.drop_eq_nil_of_le (by omega)]

/-- a while's next turn -/
def Nx (W : Nat → L2.St → Hp → Prop) (m : Nat) : L2.St → Hp → Prop := fun σ' H' => ∃ m', m' < m ∧ W m' σ' H'
theorem Nx.id {W : Nat → L2.St → Hp → Prop} {m : Nat} : ∀ σ' H', Nx W m σ' H' → ∃ m', m' < m ∧ W m' σ' H' := fun _ _ h => h

theorem small5 {n : Nat} (h : n < 100000) : n < sizeLine := Nat.lt_of_lt_of_le h (by decide)

/-- a divisor's, a factor's bound -/
theorem divW {i j : Int} (b : Nat) (h : 0 < j) (hb : j < 2 ^ b) (h0 : 0 < b := by decide) (h9 : b ≤ 9000 := by decide) : CDivW i j := wide_div h (b := b) (by
  have e : ((2 ^ b : Nat) : Int) = (2 : Int) ^ b := by simp
  omega) h0 h9
end Fx

namespace Fx
open PySem PySem.Spec PyProof.Rows L2
/-! ### lists of numbers as they stand -/
def ivs (l : List Nat) : List V := l.map fun (k : Nat) => V.int (k : Int)
theorem ivs_map (l : List Nat) : ivs l = (l.map fun (k : Nat) => (k : Int)).map V.int := by
  unfold ivs
  rw [List.map_map]
  rfl
theorem ivs_append (l r : List Nat) : ivs (l ++ r) = ivs l ++ ivs r := List.map_append
theorem ivs_length (l : List Nat) : (ivs l).length = l.length := List.length_map ..
theorem ivs_reverse (l : List Nat) : (ivs l).reverse = ivs l.reverse := by
  unfold ivs
  rw [List.map_reverse]
theorem ivs_get {l : List Nat} {i : Nat} {x : V} (h : (ivs l)[i]? = some x) : ∃ k, l[i]? = some k ∧ x = V.int (k : Int) := by
  unfold ivs at h
  rw [List.getElem?_map] at h
  cases e : l[i]? with
  | none => rw [e] at h; cases h
  | some k =>
    rw [e] at h
    exact ⟨k, rfl, (Option.some.inj h).symm⟩
theorem ivs_at {l : List Nat} {i k : Nat} (h : l[i]? = some k) : (ivs l)[i]? = some (V.int (k : Int)) := by
  unfold ivs
  rw [List.getElem?_map, h]
  rfl
theorem sum_cast : ∀ l : List Nat, (l.map fun (k : Nat) => (k : Int)).sum = ((l.sum : Nat) : Int)
  | [] => rfl
  | a :: r => by
    rw [List.map_cons, List.sum_cons, List.sum_cons, sum_cast r]
    simp
theorem same_own {H H' : Hp} {p : Addr} {o : HO} (a : Same H H') (hp : H p = none) : Same H (upd H' p o) := fun b u e => by
  rw [upd_ne (ne_of_none e hp)]
  exact a b u e

/-! ### data that are compared -/
def dInts (l : List Int) : List PyData := l.map PyData.int
theorem dpAll_ints {K : PySem.W.Frag} {H : Hp} : ∀ l : List Int, DpAll K H (l.map V.int) (dInts l)
  | [] => .nil
  | a :: r => .cons (.int a) (dpAll_ints r)
theorem dpAll_ivs {K : PySem.W.Frag} {H : Hp} (l : List Nat) : DpAll K H (ivs l) (dInts (l.map fun (k : Nat) => (k : Int))) := by
  rw [ivs_map]
  exact dpAll_ints _
theorem canLay_ints : ∀ l : List Int, PyData.canLayAll0 (dInts l) = true
  | [] => rfl
  | a :: r => by
    unfold dInts
    rw [List.map_cons, PyData.canLayAll0]
    have h := canLay_ints r
    unfold dInts at h
    rw [h]
    rfl
theorem depth_ints : ∀ l : List Int, PyData.depthAll (dInts l) ≤ 1
  | [] => by unfold dInts; rw [List.map_nil]; unfold PyData.depthAll; decide
  | a :: r => by
    have h := depth_ints r
    unfold dInts at h ⊢
    rw [List.map_cons]
    unfold PyData.depthAll PyData.depth
    omega
theorem shaped_list {ds : List PyData} (h : PyData.canLayAll0 ds = true) (d : PyData.depthAll ds ≤ 60) : SeqAt.shaped (.list ds) = true := by
  unfold SeqAt.shaped
  rw [Bool.and_eq_true]
  refine ⟨by rw [PyData.canLay0]; exact h, decide_eq_true ?_⟩
  unfold PyData.depth
  omega
theorem shaped_tup {ds : List PyData} (h : PyData.canLayAll0 ds = true) (d : PyData.depthAll ds ≤ 60) : SeqAt.shaped (.tuple ds) = true := by
  unfold SeqAt.shaped
  rw [Bool.and_eq_true]
  refine ⟨by rw [PyData.canLay0]; exact h, decide_eq_true ?_⟩
  unfold PyData.depth
  omega
theorem shaped_ints (l : List Int) : SeqAt.shaped (.list (dInts l)) = true := shaped_list (canLay_ints l) (Nat.le_trans (depth_ints l) (by decide))
theorem shaped_tints (l : List Int) : SeqAt.shaped (.tuple (dInts l)) = true := shaped_tup (canLay_ints l) (Nat.le_trans (depth_ints l) (by decide))
theorem eqv_same {d : PyData} (h : SeqAt.shaped d = true) : PyData.eqv d d = true := SeqAt.eqv_refl d (SeqAt.canLay_of_shaped h)
end Fx

namespace Fx
/-! ### figures -/
/-- figures, the least place first -/
def lsd (b n : Nat) : List Nat := if h : 2 ≤ b ∧ b ≤ n then (n % b) :: lsd b (n / b) else [n]
termination_by n
decreasing_by exact Nat.div_lt_self (by omega) (by omega)
theorem lsd_lt {b n : Nat} (h : n < b) : lsd b n = [n] := by
  rw [lsd, dif_neg (by omega)]
theorem lsd_ge {b n : Nat} (hb : 2 ≤ b) (h : b ≤ n) : lsd b n = n % b :: lsd b (n / b) := by
  rw [lsd, dif_pos ⟨hb, h⟩]
theorem lsd_split {b r : Nat} (hb : 2 ≤ b) : lsd b r = r % b :: (if r / b = 0 then [] else lsd b (r / b)) := by
  by_cases h : b ≤ r
  · have : r / b ≠ 0 := by
      have := Nat.div_pos h (by omega)
      omega
    rw [if_neg this, lsd_ge hb h]
  · rw [if_pos (Nat.div_eq_of_lt (by omega)), lsd_lt (by omega), Nat.mod_eq_of_lt (by omega)]
theorem lsd_below {b : Nat} (hb : 2 ≤ b) : ∀ n : Nat, ∀ d ∈ lsd b n, d < b := fun n => by
  induction n using Nat.strongRecOn with
  | ind n ih =>
    intro d hd
    by_cases h : b ≤ n
    · rw [lsd_ge hb h] at hd
      rcases List.mem_cons.mp hd with rfl | hd
      · exact Nat.mod_lt _ (by omega)
      · exact ih (n / b) (Nat.div_lt_self (by omega) (by omega)) d hd
    · rw [lsd_lt (by omega)] at hd
      cases List.mem_singleton.mp hd
      omega
theorem lsd_ne {b n : Nat} : lsd b n ≠ [] := by
  rw [lsd]
  split <;> simp
theorem lsd_len {b : Nat} (hb : 2 ≤ b) : ∀ (k n : Nat), n < b ^ (k + 1) → (k = 0 ∨ b ^ k ≤ n) → (lsd b n).length = k + 1
  | 0, n, h, _ => by
    rw [Nat.zero_add, Nat.pow_one] at h
    rw [lsd_lt h]
    rfl
  | k + 1, n, h, g => by
    have g' : b ^ (k + 1) ≤ n := by
      rcases g with g | g
      · omega
      · exact g
    have p : 0 < b ^ k := Nat.pow_pos (by omega)
    have h1 : b ≤ n := by
      rw [Nat.pow_succ] at g'
      have := Nat.mul_le_mul_right b (show 1 ≤ b ^ k by omega)
      omega
    rw [lsd_ge hb h1, List.length_cons, lsd_len hb k (n / b)]
    · rw [Nat.div_lt_iff_lt_mul (by omega), ← Nat.pow_succ]
      exact h
    · right
      rw [Nat.le_div_iff_mul_le (by omega), ← Nat.pow_succ]
      exact g'
theorem lsd_get {b : Nat} (hb : 2 ≤ b) : ∀ (i n : Nat), i < (lsd b n).length → (lsd b n)[i]? = some (n / b ^ i % b)
  | 0, n, _ => by
    rw [lsd_split hb, Nat.pow_zero, Nat.div_one]
    rfl
  | i + 1, n, h => by
    rw [lsd_split hb] at h ⊢
    split at h
    · simp at h
    · rename_i hr
      rw [if_neg hr, List.getElem?_cons_succ, lsd_get hb i (n / b) (by simpa using h)]
      rw [Nat.div_div_eq_div_mul, Nat.pow_succ, Nat.mul_comm]
theorem lsd_len_le {b : Nat} (hb : 2 ≤ b) : ∀ (k n : Nat), n < 2 ^ (k + 1) → (lsd b n).length ≤ k + 1
  | 0, n, h => by
    rw [lsd_lt (by omega)]
    exact Nat.le_refl _
  | k + 1, n, h => by
    by_cases g : b ≤ n
    · rw [lsd_ge hb g, List.length_cons]
      have : n / b < 2 ^ (k + 1) := by
        rw [Nat.div_lt_iff_lt_mul (by omega)]
        have := Nat.mul_le_mul_left (2 ^ (k + 1)) hb
        rw [Nat.pow_succ] at h
        omega
      have := lsd_len_le hb k (n / b) this
      omega
    · rw [lsd_lt (by omega)]
      show 1 ≤ _
      omega
/-- figures, the greatest place first -/
def figs (b n : Nat) : List Nat := (lsd b n).reverse
theorem figs_len (b n : Nat) : (figs b n).length = (lsd b n).length := List.length_reverse ..
theorem figs_below {b n d : Nat} (hb : 2 ≤ b) (h : d ∈ figs b n) : d < b := lsd_below hb n d (List.mem_reverse.mp h)
theorem figs_le {b n : Nat} (hb : 2 ≤ b) (h : n < 2 ^ 900) : (figs b n).length ≤ 900 := by
  rw [figs_len]
  exact lsd_len_le hb 899 n h
/-! ### steps -/
def stepN (b p n : Nat) : Nat := ((figs b n).map (· ^ p)).sum
theorem sum_le_mul {l : List Nat} {m : Nat} (h : ∀ x ∈ l, x ≤ m) : l.sum ≤ l.length * m := by
  induction l with
  | nil => simp
  | cons a r ih =>
    rw [List.sum_cons, List.length_cons, Nat.succ_mul]
    have h1 := h a (List.mem_cons_self ..)
    have h2 := ih fun x hx => h x (List.mem_cons_of_mem _ hx)
    omega
theorem pow_le_base {d b p : Nat} (h : d < b) : d ^ p ≤ (b - 1) ^ p := Nat.pow_le_pow_left (by omega) p
theorem stepN_le {b p n : Nat} (hb : 2 ≤ b) : stepN b p n ≤ (figs b n).length * (b - 1) ^ p := by
  unfold stepN
  have := sum_le_mul (l := (figs b n).map (· ^ p)) (m := (b - 1) ^ p) fun x hx => by
    obtain ⟨d, hd, rfl⟩ := List.mem_map.mp hx
    exact pow_le_base (figs_below hb hd)
  rwa [List.length_map] at this
theorem worth_lt {b p : Nat} (hb : b ≤ 16) (hp : p ≤ 10) : (b - 1) ^ p < 2 ^ 40 := by
  have h1 : (b - 1) ^ p ≤ 15 ^ p := Nat.pow_le_pow_left (by omega) p
  have h2 : 15 ^ p ≤ 15 ^ 10 := Nat.pow_le_pow_right (by decide) hp
  have h3 : 15 ^ 10 < 2 ^ 40 := by decide
  omega
theorem stepN_lt {b p n : Nat} (hb : 2 ≤ b) (hb16 : b ≤ 16) (hp : p ≤ 10) (hn : n < 2 ^ 900) : stepN b p n < 2 ^ 50 := by
  have h1 := stepN_le (p := p) (n := n) hb
  have h2 := figs_le hb hn
  have h3 := worth_lt hb16 hp
  have h4 : (figs b n).length * (b - 1) ^ p ≤ 900 * 2 ^ 40 := Nat.mul_le_mul h2 (by omega)
  omega
/-- steps again and again -/
def itN (b p n : Nat) : Nat → Nat
  | 0 => n
  | k + 1 => stepN b p (itN b p n k)
theorem itN_lt {b p n : Nat} (hb : 2 ≤ b) (hb16 : b ≤ 16) (hp : p ≤ 10) (hn : n < 2 ^ 900) : ∀ k, itN b p n k < 2 ^ 900
  | 0 => hn
  | k + 1 => by
    have := stepN_lt hb hb16 hp (itN_lt hb hb16 hp hn k)
    have : itN b p n (k + 1) = stepN b p (itN b p n k) := rfl
    have e : (2 : Nat) ^ 50 ≤ 2 ^ 900 := Nat.pow_le_pow_right (by decide) (by decide)
    omega
def rowN (b p n : Nat) : Nat → List Nat
  | 0 => []
  | m + 1 => rowN b p n m ++ [itN b p n m]
theorem rowN_len (b p n : Nat) : ∀ m, (rowN b p n m).length = m
  | 0 => rfl
  | m + 1 => by
    rw [rowN, List.length_append, rowN_len b p n m]
    rfl
end Fx
namespace Fx
/-! ### the law's own figures -/
def powsN (b : Nat) : Nat → List Nat
  | 0 => []
  | k + 1 => powsN b k ++ [b ^ k]
theorem powsN_len (b : Nat) : ∀ k, (powsN b k).length = k
  | 0 => rfl
  | k + 1 => by
    rw [powsN, List.length_append, powsN_len b k]
    rfl
theorem powsN_get (b : Nat) : ∀ k i, i < k → (powsN b k)[i]? = some (b ^ i)
  | 0, _, h => by omega
  | k + 1, i, h => by
    rw [powsN]
    by_cases e : i = k
    · subst e
      rw [List.getElem?_append_right (by rw [powsN_len]; exact Nat.le_refl _), powsN_len, Nat.sub_self]
      rfl
    · rw [List.getElem?_append_left (by rw [powsN_len]; omega)]
      exact powsN_get b k i (by omega)
theorem powsN_rev {b k i : Nat} (h : i < k + 1) : (powsN b (k + 1)).reverse[i]? = some (b ^ (k - i)) := by
  rw [List.getElem?_reverse (by rw [powsN_len]; exact h), powsN_len, powsN_get b (k + 1) _ (by omega)]
  rw [show k + 1 - 1 - i = k - i by omega]
def fndN (b n k i : Nat) : List Nat := (List.range i).map fun t => n / b ^ (k - t) % b
theorem fndN_succ (b n k i : Nat) : fndN b n k (i + 1) = fndN b n k i ++ [n / b ^ (k - i) % b] := by
  unfold fndN
  rw [List.range_succ, List.map_append]
  rfl
theorem fndN_len (b n k i : Nat) : (fndN b n k i).length = i := by
  unfold fndN
  rw [List.length_map, List.length_range]
theorem fndN_all {b n k : Nat} (hb : 2 ≤ b) (h1 : n < b ^ (k + 1)) (h2 : k = 0 ∨ b ^ k ≤ n) : fndN b n k (k + 1) = figs b n := by
  have hl := lsd_len hb k n h1 h2
  refine List.ext_getElem? fun i => ?_
  by_cases hi : i < k + 1
  · unfold figs fndN
    rw [List.getElem?_reverse (by rw [hl]; exact hi), hl, lsd_get hb _ n (by rw [hl]; omega), List.getElem?_map, List.getElem?_range hi]
    have e : k + 1 - 1 - i = k - i := by omega
    rw [e]
    rfl
  · rw [List.getElem?_eq_none (by rw [fndN_len]; omega), List.getElem?_eq_none (by rw [figs_len, hl]; omega)]
theorem fig_div {b n j : Nat} : n % b ^ (j + 1) / b ^ j = n / b ^ j % b := by
  rw [Nat.pow_succ, Nat.mod_mul_right_div_self]
theorem fig_mod {b n j : Nat} : n % b ^ (j + 1) % b ^ j = n % b ^ j := by
  rw [Nat.pow_succ, Nat.mod_mul_right_mod]
theorem lt_pow' {b : Nat} (hb : 2 ≤ b) : ∀ k : Nat, k < b ^ k
  | 0 => by rw [Nat.pow_zero]; decide
  | k + 1 => by
    have := lt_pow' hb k
    rw [Nat.pow_succ]
    have := Nat.mul_le_mul_left (b ^ k) hb
    omega
open L2 in
theorem divN {x : Int} {j : Nat} (h0 : 0 < j) (h : j < 2 ^ 900) : CDivW x (j : Int) := wide_div (b := 900) (by omega) h (by decide) (by decide)
end Fx

namespace Fx
open PySem PySem.Spec PyProof.Rows L2
/-- the greatest power that a base lets -/
def mosts : List Int := [10, 9, 6, 4, 4, 3, 3, 3, 3, 3, 2, 2, 2, 2, 2]
def mostOf (b : Int) : Int := mosts.getD (b - 2).toNat 0
def OkPair (b p : Int) : Prop := 2 ≤ b ∧ b ≤ 16 ∧ 1 ≤ p ∧ p ≤ mostOf b
/-- all of a pair's places, to be shown one by one -/
def pairsAll : List (Int × Int) := (List.range 15).flatMap fun (i : Nat) => (List.range (mosts.getD i 0).toNat).map fun (j : Nat) => (((i : Nat) : Int) + 2, ((j : Nat) : Int) + 1)
theorem OkPair.mem {b p : Int} (h : OkPair b p) : (b, p) ∈ pairsAll := by
  obtain ⟨h1, h2, h3, h4⟩ := h
  refine List.mem_flatMap.mpr ⟨(b - 2).toNat, List.mem_range.mpr (by omega), List.mem_map.mpr ⟨(p - 1).toNat, List.mem_range.mpr ?_, ?_⟩⟩
  · unfold mostOf at h4
    omega
  · show (((b - 2).toNat : Int) + 2, ((p - 1).toNat : Int) + 1) = (b, p)
    rw [Prod.mk.injEq]
    omega
theorem OkPair.all {P : Int → Int → Prop} {b p : Int} (h : OkPair b p) (a : ∀ q ∈ pairsAll, P q.1 q.2) : P b p := a _ h.mem
theorem OkPair.le10 {b p : Int} (h : OkPair b p) : p ≤ 10 := h.all (P := fun _ p => p ≤ 10) (by decide +kernel)
/-- what the greatest figure is worth -/
def worth (b p : Int) : Int := (b - 1) ^ p.toNat
theorem OkPair.worth {b p : Int} (h : OkPair b p) : 1 ≤ worth b p ∧ worth b p ≤ 1000 + 24 := h.all (P := fun b p => 1 ≤ Fx.worth b p ∧ Fx.worth b p ≤ 1024) (by decide +kernel)
theorem most_pos {b : Int} (h1 : 2 ≤ b) (h2 : b ≤ 16) : 1 ≤ mostOf b ∧ mostOf b ≤ 10 := by
  have a : ∀ i ∈ List.range 15, 1 ≤ mosts.getD i 0 ∧ mosts.getD i 0 ≤ 10 := by decide +kernel
  exact a (b - 2).toNat (List.mem_range.mpr (by omega))
theorem most_at {b : Int} (h1 : 2 ≤ b) (h2 : b ≤ 16) : atI (mosts.map V.int) (b - 2) = some (.int (mostOf b)) := by
  have hi : (b - 2).toNat < mosts.length := by
    show (b - 2).toNat < 15
    omega
  have z : (mosts.map V.int)[(b - 2).toNat]? = some (.int (mostOf b)) := by
    rw [List.getElem?_map, List.getElem?_eq_getElem hi]
    unfold mostOf
    rw [List.getD_eq_getElem?_getD, List.getElem?_eq_getElem hi]
    rfl
  have y := atI_nat z
  rw [show (((b - 2).toNat : Nat) : Int) = b - 2 by omega] at y
  exact y
/-- a pair's tuple as it stands -/
def PairAt (H : Hp) (v : V) (b p : Int) : Prop := ∃ a, v = .ref a ∧ H a = some (.tup [.int b, .int p]) ∧ OkPair b p
theorem PairAt.but {H H' : Hp} {d c : Addr} {n : Nat} {v : V} {b p : Int} (h : PairAt H v b p) (D : Deck H d c n) (e : But d H H') : PairAt H' v b p := by
  obtain ⟨a, e1, e2, e3⟩ := h
  exact ⟨a, e1, e.tup D e2, e3⟩
theorem PairAt.same {H H' : Hp} {v : V} {b p : Int} (h : PairAt H v b p) (e : Same H H') : PairAt H' v b p := by
  obtain ⟨a, e1, e2, e3⟩ := h
  exact ⟨a, e1, e _ _ e2, e3⟩
theorem PairAt.upd {H : Hp} {D : Addr} {xs : List V} {o : HO} {v : V} {b p : Int} (h : PairAt H v b p) (e : H D = some (.lst xs)) : PairAt (upd H D o) v b p := by
  obtain ⟨a, e1, e2, e3⟩ := h
  exact ⟨a, e1, by rw [upd_ne (ne_of e2 e fun z => by cases z)]; exact e2, e3⟩
/-- all things of a list are pairs -/
def Pairs (H : Hp) (xs : List V) : Prop := ∀ v ∈ xs, ∃ b p, PairAt H v b p
theorem Pairs.mono {H H' : Hp} {xs : List V} (h : Pairs H xs) (k : ∀ v b p, PairAt H v b p → PairAt H' v b p) : Pairs H' xs := fun v hv => by
  obtain ⟨b, p, q⟩ := h v hv
  exact ⟨b, p, k v b p q⟩
theorem Pairs.app {H : Hp} {xs ys : List V} (h : Pairs H xs) (g : Pairs H ys) : Pairs H (xs ++ ys) := fun v hv => (List.mem_append.mp hv).elim (h v) (g v)
theorem Pairs.rev {H : Hp} {xs : List V} (h : Pairs H xs) : Pairs H xs.reverse := fun v hv => h v (List.mem_reverse.mp hv)
theorem Pairs.one {H : Hp} {v : V} {b p : Int} (h : PairAt H v b p) : Pairs H [v] := fun u hu => by
  cases List.mem_singleton.mp hu
  exact ⟨b, p, h⟩
/-- pairs drawn one by one: n at the start, k draws a pair -/
structure Drawn (H H' : Hp) (d c D : Addr) (n i : Nat) : Prop where
  but : But d H H'
  deck : Deck H' d c (n + 3 * i)
  list : ∃ acc, H' D = some (.lst acc) ∧ acc.length = i ∧ Pairs H' acc
theorem Drawn.next {H H1 H2 : Hp} {d c D p : Addr} {n i : Nat} {b pw : Int} (h : Drawn H H1 d c D n i) (hD : H D = none) (hd : D ≠ d) (hc : D ≠ c) (b1 : But d H1 H2) (D2 : Deck H2 d c (n + 3 * i + 3)) (e : H2 p = some (.tup [.int b, .int pw])) (ok : OkPair b pw) :
    ∃ acc, H2 D = some (.lst acc) ∧ acc.length = i ∧ Drawn H (L2.upd H2 D (.lst (acc ++ [.ref p]))) d c D n (i + 1) := by
  obtain ⟨acc, e1, e2, e3⟩ := h.list
  have e4 : H2 D = some (.lst acc) := b1 _ _ hd e1
  refine ⟨acc, e4, e2, (h.but.trans b1).own hD, D2.off hd hc, acc ++ [.ref p], upd_same, by rw [List.length_append, e2]; rfl, ?_⟩
  refine Pairs.app ?_ (Pairs.one (PairAt.upd ⟨p, rfl, e, ok⟩ e4))
  exact e3.mono fun v b p q => (q.but h.deck b1).upd e4
end Fx

namespace Fx
open PySem PySem.Spec PyProof.Rows L2
/-- the least length from which on numbers go down, w the worth of the greatest figure -/
structure IsLen (b w : Int) (L : Nat) : Prop where
  two : 2 ≤ L
  less : (L : Int) * w < b ^ (L - 1)
  least : ∀ k : Nat, 2 ≤ k → k < L → b ^ (k - 1) ≤ (k : Int) * w
theorem IsLen.uniq {b w : Int} {L M : Nat} (h : IsLen b w L) (g : IsLen b w M) : L = M := by
  rcases Nat.lt_trichotomy L M with l | l | l
  · have := g.least L h.two l
    have := h.less
    omega
  · exact l
  · have := h.least M g.two l
    have := g.less
    omega
theorem pow_mono {a b : Int} (h0 : 0 ≤ a) (h : a ≤ b) : ∀ n : Nat, a ^ n ≤ b ^ n
  | 0 => by rw [Int.pow_zero, Int.pow_zero]; exact Int.le_refl _
  | n + 1 => by
    rw [Int.pow_succ, Int.pow_succ]
    have i := pow_mono h0 h n
    have p : 0 ≤ a ^ n := Int.pow_nonneg h0
    exact Int.le_trans (Int.mul_le_mul_of_nonneg_right i h0) (Int.mul_le_mul_of_nonneg_left h (Int.le_trans p i))
theorem pow_pos {a : Int} (h : 0 < a) (n : Nat) : 0 < a ^ n := Int.pow_pos h
/-- at fifteen figures all is shown -/
theorem len15 {b w : Int} (h : 2 ≤ b) (hw : w ≤ 1024) : (15 : Int) * w < b ^ 14 := by
  have i := pow_mono (a := 2) (b := b) (by decide) h 14
  have e : (2 : Int) ^ 14 = 16384 := by decide
  omega
theorem len_step {b w : Int} {L : Nat} (h : ∀ k : Nat, 2 ≤ k → k < L → b ^ (k - 1) ≤ (k : Int) * w) (t : b ^ (L - 1) ≤ (L : Int) * w) : ∀ k : Nat, 2 ≤ k → k < L + 1 → b ^ (k - 1) ≤ (k : Int) * w := fun k h2 hk => by
  by_cases e : k = L
  · rw [e]
    exact t
  · exact h k h2 (by omega)
theorem len_lt {b w : Int} {L : Nat} (h : 2 ≤ b) (hw : w ≤ 1024) (l : L ≤ 15) (t : b ^ (L - 1) ≤ (L : Int) * w) : L < 15 := by
  by_cases e : L = 15
  · subst e
    have := len15 h hw
    have t' : b ^ 14 ≤ ((15 : Nat) : Int) * w := t
    omega
  · omega
/-- there is one -/
theorem len_ex {b w : Int} (h : 2 ≤ b) (hw : w ≤ 1024) : ∃ L : Nat, IsLen b w L ∧ L ≤ 15 := by
  have go : ∀ k L : Nat, 15 - L = k → 2 ≤ L → L ≤ 15 → (∀ j : Nat, 2 ≤ j → j < L → b ^ (j - 1) ≤ (j : Int) * w) → ∃ L : Nat, IsLen b w L ∧ L ≤ 15 := by
    intro k
    induction k with
    | zero =>
      intro L e l2 l15 ih
      refine ⟨L, ⟨l2, ?_, ih⟩, l15⟩
      obtain rfl : L = 15 := by omega
      exact len15 h hw
    | succ k ihk =>
      intro L e l2 l15 ih
      by_cases t : b ^ (L - 1) ≤ (L : Int) * w
      · exact ihk (L + 1) (by omega) (by omega) (by omega) (len_step ih t)
      · exact ⟨L, ⟨l2, by omega, ih⟩, l15⟩
  exact go 13 2 rfl (by decide) (by decide) fun j _ _ => by omega
end Fx

namespace Fx
/-! ### a step by its last figure, by parts -/
theorem zero_pow' {p : Nat} (h : 1 ≤ p) : 0 ^ p = 0 := Nat.zero_pow (by omega)
theorem stepN_lt_base {b p n : Nat} (h : n < b) : stepN b p n = n ^ p := by
  unfold stepN figs
  rw [lsd_lt h]
  show n ^ p + 0 = _
  omega
theorem stepN_zero {b p : Nat} (hb : 2 ≤ b) (hp : 1 ≤ p) : stepN b p 0 = 0 := by
  rw [stepN_lt_base (by omega), zero_pow' hp]
theorem sum_rev : ∀ l : List Nat, l.reverse.sum = l.sum
  | [] => rfl
  | a :: r => by
    rw [List.reverse_cons, List.sum_append, sum_rev r, List.sum_cons, List.sum_cons, List.sum_nil]
    omega
theorem stepN_lsd (b p n : Nat) : stepN b p n = ((lsd b n).map (· ^ p)).sum := by
  unfold stepN figs
  rw [List.map_reverse, sum_rev]
theorem stepN_rec {b p : Nat} (hb : 2 ≤ b) (hp : 1 ≤ p) (n : Nat) : stepN b p n = stepN b p (n / b) + (n % b) ^ p := by
  by_cases h : b ≤ n
  · rw [stepN_lsd, stepN_lsd, lsd_ge hb h, List.map_cons, List.sum_cons]
    omega
  · rw [stepN_lt_base (by omega), Nat.div_eq_of_lt (by omega), stepN_zero hb hp, Nat.mod_eq_of_lt (by omega)]
    omega
theorem stepN_push {b p x f : Nat} (hb : 2 ≤ b) (hp : 1 ≤ p) (hf : f < b) : stepN b p (x * b + f) = stepN b p x + f ^ p := by
  have e1 : (x * b + f) / b = x := by
    rw [Nat.mul_comm, Nat.mul_add_div (by omega), Nat.div_eq_of_lt hf]
    omega
  have e2 : (x * b + f) % b = f := by
    rw [Nat.mul_comm, Nat.mul_add_mod, Nat.mod_eq_of_lt hf]
  rw [stepN_rec hb hp, e1, e2]
theorem step_split {b p : Nat} (hb : 2 ≤ b) (hp : 1 ≤ p) : ∀ (k y r : Nat), r < b ^ k → stepN b p (y * b ^ k + r) = stepN b p y + stepN b p r
  | 0, y, r, h => by
    rw [Nat.pow_zero] at h
    have : r = 0 := by omega
    subst this
    rw [Nat.pow_zero, Nat.mul_one, stepN_zero hb hp]
    rfl
  | k + 1, y, r, h => by
    have e0 : y * b ^ (k + 1) + r = (y * b ^ k + r / b) * b + r % b := by
      have ep : b ^ k * b = b ^ (k + 1) := by rw [Nat.pow_succ]
      rw [Nat.add_mul, Nat.mul_assoc, ep]
      have := Nat.div_add_mod r b
      rw [Nat.mul_comm] at this
      omega
    have h1 : r / b < b ^ k := by
      rw [Nat.div_lt_iff_lt_mul (by omega), ← Nat.pow_succ]
      exact h
    rw [e0, stepN_push hb hp (Nat.mod_lt _ (by omega)), step_split hb hp k y (r / b) h1, stepN_rec hb hp r]
    omega
/-! ### lengths -/
theorem len_pow {b : Nat} (hb : 2 ≤ b) : ∀ n : Nat, 0 < n → b ^ ((figs b n).length - 1) ≤ n := fun n => by
  induction n using Nat.strongRecOn with
  | ind n ih =>
    intro h0
    by_cases h : b ≤ n
    · have i := ih (n / b) (Nat.div_lt_self (by omega) (by omega)) (Nat.div_pos h (by omega))
      rw [figs_len] at i ⊢
      rw [lsd_ge hb h, List.length_cons]
      have l0 : 0 < (lsd b (n / b)).length := List.length_pos_iff.mpr lsd_ne
      have e : (lsd b (n / b)).length + 1 - 1 = (lsd b (n / b)).length - 1 + 1 := by omega
      rw [e, Nat.pow_succ]
      have := Nat.mul_le_mul_right b i
      have := Nat.div_mul_le_self n b
      omega
    · rw [figs_len, lsd_lt (by omega)]
      exact h0
theorem len_gt {b n k : Nat} (hb : 2 ≤ b) (h : b ^ k ≤ n) : k < (figs b n).length := by
  refine Nat.lt_of_not_le fun z => ?_
  rw [figs_len] at z
  have up : ∀ m : Nat, n < b ^ (lsd b m).length ∨ m ≠ n := fun m => by
    by_cases e : m = n
    · subst e
      have go : ∀ m : Nat, m < b ^ (lsd b m).length := fun m => by
        induction m using Nat.strongRecOn with
        | ind m ih =>
          by_cases g : b ≤ m
          · rw [lsd_ge hb g, List.length_cons, Nat.pow_succ]
            have i := ih (m / b) (Nat.div_lt_self (by omega) (by omega))
            have := Nat.div_add_mod m b
            have := Nat.mod_lt m (show 0 < b by omega)
            have := Nat.mul_le_mul_right b (show m / b + 1 ≤ b ^ (lsd b (m / b)).length from i)
            rw [Nat.succ_mul, Nat.mul_comm (m / b) b] at this
            omega
          · rw [lsd_lt (by omega)]
            show m < b ^ 1
            rw [Nat.pow_one]
            omega
      exact .inl (go m)
    · exact .inr e
  rcases up n with u | u
  · have := Nat.pow_le_pow_right (show 0 < b by omega) z
    omega
  · exact u rfl
/-! ### what goes down -/
/-- the worth of the greatest figure -/
theorem worth_nat (b p : Nat) (hb : 1 ≤ b) : worth (b : Int) (p : Int) = (((b - 1) ^ p : Nat) : Int) := by
  unfold worth
  have e : (b : Int) - 1 = ((b - 1 : Nat) : Int) := by omega
  rw [e, Int.toNat_natCast, Int.natCast_pow]
theorem len_moreN {b w L : Nat} (h1 : L * w < b ^ (L - 1)) (hL : 2 ≤ L) (h2 : 2 ≤ b) : ∀ k : Nat, (L + k) * w < b ^ (L + k - 1)
  | 0 => h1
  | k + 1 => by
    have i := len_moreN h1 hL h2 k
    have e : b ^ (L + (k + 1) - 1) = b ^ (L + k - 1) * b := by
      rw [← Nat.pow_succ]
      congr 1
      omega
    have a1 : (L + (k + 1)) * w = (L + k) * w + w := by
      rw [← Nat.add_assoc, Nat.succ_mul]
    have a2 : w ≤ (L + k) * w := Nat.le_mul_of_pos_left w (by omega)
    have a3 : b ^ (L + k - 1) * 2 ≤ b ^ (L + k - 1) * b := Nat.mul_le_mul_left _ h2
    omega
theorem IsLen.nat {b p L : Nat} (hb : 2 ≤ b) (h : IsLen (b : Int) (worth (b : Int) (p : Int)) L) : L * (b - 1) ^ p < b ^ (L - 1) := by
  have := h.less
  rw [worth_nat b p (by omega), ← Int.natCast_mul, ← Int.natCast_pow] at this
  exact Int.ofNat_lt.mp this
theorem goes_down {b p L n : Nat} (hb : 2 ≤ b) (h : IsLen (b : Int) (worth (b : Int) (p : Int)) L) (hn : b ^ (L - 1) ≤ n) : stepN b p n < n := by
  have h1 := h.nat hb
  have l := len_gt hb hn
  have le := stepN_le (p := p) (n := n) hb
  have m := len_moreN h1 h.two hb ((figs b n).length - L)
  have h2 := h.two
  rw [show L + ((figs b n).length - L) = (figs b n).length by omega] at m
  have n0 : 0 < n := Nat.lt_of_lt_of_le (Nat.pow_pos (by omega)) hn
  have := len_pow hb n n0
  omega
/-- the greatest number whose step is no less -/
structure IsKept (b p G : Nat) : Prop where
  kept : G ≤ stepN b p G
  down : ∀ n, G < n → stepN b p n < n
theorem IsKept.uniq {b p G H : Nat} (h : IsKept b p G) (g : IsKept b p H) : G = H := by
  rcases Nat.lt_trichotomy G H with l | l | l
  · have := h.down H l
    have := g.kept
    omega
  · exact l
  · have := g.down G l
    have := h.kept
    omega
/-! ### place by place -/
def gain (b p j f : Nat) : Int := ((f ^ p : Nat) : Int) - (f : Int) * ((b ^ j : Nat) : Int)
def gainRow (b p j : Nat) : List Int := (List.range b).map (gain b p j)
theorem gainRow_len (b p j : Nat) : (gainRow b p j).length = b := by
  unfold gainRow
  rw [List.length_map, List.length_range]
theorem gainRow_get {b p j f : Nat} (h : f < b) : (gainRow b p j)[f]? = some (gain b p j f) := by
  unfold gainRow
  rw [List.getElem?_map, List.getElem?_range h]
  rfl
def rowMax (b p j : Nat) : Int := (gainRow b p j).max?.getD 0
theorem rowMax_spec {b p j : Nat} (hb : 2 ≤ b) : rowMax b p j ∈ gainRow b p j ∧ ∀ y ∈ gainRow b p j, y ≤ rowMax b p j := by
  unfold rowMax
  cases e : (gainRow b p j).max? with
  | none =>
    rw [List.max?_eq_none_iff] at e
    have := gainRow_len b p j
    rw [e] at this
    have e0 : (0 : Nat) = b := this
    omega
  | some m =>
    exact (List.max?_eq_some_iff).mp e
theorem rowMax_uniq {b p j : Nat} {m : Int} (hb : 2 ≤ b) (h1 : m ∈ gainRow b p j) (h2 : ∀ y ∈ gainRow b p j, y ≤ m) : m = rowMax b p j := by
  have s := rowMax_spec (p := p) (j := j) hb
  have := h2 _ s.1
  have := s.2 _ h1
  omega
theorem gain_le {b p j f : Nat} (hb : 2 ≤ b) (h : f < b) : gain b p j f ≤ rowMax b p j := (rowMax_spec hb).2 _ (List.mem_of_getElem? (gainRow_get h))
def restMax (b p : Nat) : Nat → Int
  | 0 => 0
  | k + 1 => restMax b p k + rowMax b p k
/-- what a number's step has beyond it, its figures at k places behind -/
def over (b p x k : Nat) : Int := (stepN b p x : Int) - (x : Int) * ((b ^ k : Nat) : Int)
theorem over_push {b p x k f : Nat} (hb : 2 ≤ b) (hp : 1 ≤ p) (hf : f < b) : over b p (x * b + f) k = over b p x (k + 1) + gain b p k f := by
  unfold over gain
  rw [stepN_push hb hp hf, Nat.pow_succ]
  simp only [Int.natCast_add, Int.natCast_mul, Int.add_mul, Int.mul_assoc, Int.mul_comm, Int.mul_left_comm]
  omega
theorem over_split {b p k y r : Nat} (hb : 2 ≤ b) (hp : 1 ≤ p) (h : r < b ^ k) : over b p (y * b ^ k + r) 0 = over b p y k + over b p r 0 := by
  unfold over
  rw [step_split hb hp k y r h]
  simp only [Int.natCast_add, Int.natCast_mul, Nat.pow_zero]
  omega
theorem rest_bound {b p : Nat} (hb : 2 ≤ b) (hp : 1 ≤ p) : ∀ k r : Nat, r < b ^ k → over b p r 0 ≤ restMax b p k
  | 0, r, h => by
    rw [Nat.pow_zero] at h
    obtain rfl : r = 0 := by omega
    unfold over restMax
    rw [stepN_zero hb hp]
    simp
  | k + 1, r, h => by
    have e : r / b ^ k < b := by
      rw [Nat.div_lt_iff_lt_mul (Nat.pow_pos (by omega)), Nat.mul_comm, ← Nat.pow_succ]
      exact h
    have e0 : r = r / b ^ k * b ^ k + r % b ^ k := by
      have := Nat.div_add_mod r (b ^ k)
      rw [Nat.mul_comm] at this
      omega
    have lt := Nat.mod_lt r (show 0 < b ^ k from Nat.pow_pos (by omega))
    have i := rest_bound hb hp k (r % b ^ k) lt
    have g := gain_le (p := p) (j := k) hb e
    have z : over b p (r / b ^ k) k = gain b p k (r / b ^ k) := by
      unfold over gain
      rw [stepN_lt_base e]
    rw [e0, over_split hb hp lt, z]
    show _ ≤ restMax b p k + rowMax b p k
    omega
/-- the greatest figures one by one: m places to come, x so far, what is to spare -/
structure Greedy (b p M m x : Nat) (spare : Int) : Prop where
  is : spare = over b p x m + restMax b p m
  pos : 0 ≤ spare
  most : ∀ n, n < b ^ M → n ≤ stepN b p n → n / b ^ m ≤ x
theorem restMax_pos {b p : Nat} (hb : 2 ≤ b) (hp : 1 ≤ p) (k : Nat) : 0 ≤ restMax b p k := by
  have := rest_bound hb hp k 0 (Nat.pow_pos (by omega))
  unfold over at this
  rw [stepN_zero hb hp] at this
  simp at this
  exact this
theorem Greedy.start {b p : Nat} (hb : 2 ≤ b) (hp : 1 ≤ p) (M : Nat) : Greedy b p M M 0 (restMax b p M) := by
  refine ⟨?_, restMax_pos hb hp M, fun n h _ => ?_⟩
  · unfold over
    rw [stepN_zero hb hp]
    simp
  · rw [Nat.div_eq_of_lt h]
    exact Nat.le_refl 0
theorem Greedy.next {b p M m x f : Nat} {spare : Int} (hb : 2 ≤ b) (hp : 1 ≤ p) (g : Greedy b p M (m + 1) x spare) (hf : f < b) (h1 : rowMax b p m - spare ≤ gain b p m f)
    (h2 : ∀ e, e < b → rowMax b p m - spare ≤ gain b p m e → e ≤ f) : Greedy b p M m (x * b + f) (spare - rowMax b p m + gain b p m f) := by
  have gi := g.is
  refine ⟨?_, by omega, fun n hn hk => ?_⟩
  · rw [over_push hb hp hf]
    have : restMax b p (m + 1) = restMax b p m + rowMax b p m := rfl
    omega
  · have y1 := g.most n hn hk
    have ed : n / b ^ (m + 1) = n / b ^ m / b := by rw [Nat.pow_succ, Nat.div_div_eq_div_mul]
    rw [ed] at y1
    generalize hy : n / b ^ m = y at y1 ⊢
    have yy := Nat.div_add_mod y b
    have yl := Nat.mod_lt y (show 0 < b by omega)
    by_cases c : y / b = x
    · have e0 : n = y * b ^ m + n % b ^ m := by
        have := Nat.div_add_mod n (b ^ m)
        rw [hy, Nat.mul_comm] at this
        omega
      have lt := Nat.mod_lt n (show 0 < b ^ m from Nat.pow_pos (by omega))
      have r1 := rest_bound hb hp m (n % b ^ m) lt
      have o1 : 0 ≤ over b p n 0 := by
        unfold over
        simp only [Nat.pow_zero]
        omega
      rw [e0, over_split hb hp lt] at o1
      have ey : y = x * b + y % b := by
        rw [← c, Nat.mul_comm]
        exact yy.symm
      rw [ey, over_push hb hp yl] at o1
      have rm : restMax b p (m + 1) = restMax b p m + rowMax b p m := rfl
      have := h2 (y % b) yl (by omega)
      rw [ey]
      omega
    · have : y / b + 1 ≤ x := by omega
      have := Nat.mul_le_mul_right b this
      rw [Nat.succ_mul, Nat.mul_comm (y / b) b] at this
      omega
theorem Greedy.done {b p L x : Nat} {spare : Int} (hb : 2 ≤ b) (h : IsLen (b : Int) (worth (b : Int) (p : Int)) L) (g : Greedy b p (L - 1) 0 x spare) : IsKept b p x := by
  have gi := g.is
  have gp := g.pos
  refine ⟨?_, fun n hn => ?_⟩
  · have : restMax b p 0 = 0 := rfl
    unfold over at gi
    simp only [Nat.pow_zero] at gi
    omega
  · by_cases c : n < b ^ (L - 1)
    · refine Nat.lt_of_not_le fun z => ?_
      have := g.most n c z
      rw [Nat.pow_zero, Nat.div_one] at this
      omega
    · exact goes_down hb h (by omega)
/-- no number from here on but goes down -/
theorem down_from {b p M n : Nat} (hb : 2 ≤ b) (h : IsLen (b : Int) (worth (b : Int) (p : Int)) M) (hn : (M - 1) * (b - 1) ^ p < n) : stepN b p n < n := by
  by_cases c : b ^ (M - 1) ≤ n
  · exact goes_down hb h c
  · have l := len_pow hb n (by omega)
    have k : (figs b n).length - 1 < M - 1 := by
      refine Nat.lt_of_not_le fun z => ?_
      have := Nat.pow_le_pow_right (show 0 < b by omega) z
      omega
    have le := stepN_le (p := p) (n := n) hb
    have := Nat.mul_le_mul_right ((b - 1) ^ p) (show (figs b n).length ≤ M - 1 by omega)
    omega
/-- a step that can be reckoned -/
def stepF (b p : Nat) : Nat → Nat → Nat
  | 0, _ => 0
  | k + 1, n => stepF b p k (n / b) + (n % b) ^ p
theorem stepF_eq {b p : Nat} (hb : 2 ≤ b) (hp : 1 ≤ p) : ∀ k n : Nat, n < b ^ k → stepF b p k n = stepN b p n
  | 0, n, h => by
    rw [Nat.pow_zero] at h
    obtain rfl : n = 0 := by omega
    rw [stepN_zero hb hp]
    rfl
  | k + 1, n, h => by
    rw [stepN_rec hb hp n, ← stepF_eq hb hp k (n / b)]
    · rfl
    · rw [Nat.div_lt_iff_lt_mul (by omega), ← Nat.pow_succ]
      exact h
end Fx

namespace Fx
/-! ### rows come down -/
theorem figs_len_lt {b n k : Nat} (hb : 2 ≤ b) (hk : 1 ≤ k) (h : n < b ^ k) : (figs b n).length ≤ k := by
  by_cases h0 : n = 0
  · subst h0
    rw [figs_len, lsd_lt (by omega)]
    exact hk
  · have l := len_pow hb n (by omega)
    refine Nat.le_of_not_lt fun z => ?_
    have := Nat.pow_le_pow_right (show 0 < b by omega) (show k ≤ (figs b n).length - 1 by omega)
    omega
theorem step_le_len {b p n k : Nat} (hb : 2 ≤ b) (h : (figs b n).length ≤ k) : stepN b p n ≤ k * (b - 1) ^ p := Nat.le_trans (stepN_le hb) (Nat.mul_le_mul_right _ h)
theorem down_one {b p L n k : Nat} (hb : 2 ≤ b) (h : IsLen (b : Int) (worth (b : Int) (p : Int)) L) (hn : n ≤ max (L - 1) k * (b - 1) ^ p) : stepN b p n ≤ max (L - 1) (k - 1) * (b - 1) ^ p := by
  have h1 := h.nat hb
  have h2 := h.two
  by_cases c : k ≤ L - 1
  · have e : max (L - 1) k = L - 1 := by omega
    rw [e] at hn
    refine step_le_len hb (figs_len_lt hb (by omega) ?_)
    have : n < b ^ (L - 1) := by
      have := Nat.mul_le_mul_right ((b - 1) ^ p) (show L - 1 ≤ L by omega)
      omega
    exact Nat.lt_of_lt_of_le this (Nat.pow_le_pow_right (by omega) (by omega))
  · have e : max (L - 1) k = k := by omega
    rw [e] at hn
    have m := len_moreN h1 h2 hb (k - L)
    rw [show L + (k - L) = k by omega] at m
    exact step_le_len hb (figs_len_lt hb (by omega) (Nat.lt_of_lt_of_le (show n < b ^ (k - 1) by omega) (Nat.pow_le_pow_right (by omega) (by omega))))
theorem row_down {b p L n : Nat} (hb : 2 ≤ b) (h : IsLen (b : Int) (worth (b : Int) (p : Int)) L) (hw : (b - 1) ^ p ≤ 1024) (hn : n < 2 ^ 160) : ∀ i, itN b p n (i + 2) ≤ max (L - 1) (18 - i) * (b - 1) ^ p
  | 0 => by
    have f1 : (figs b n).length ≤ 160 := by
      rw [figs_len]
      exact lsd_len_le hb 159 n hn
    have s1 : itN b p n 1 ≤ 160 * (b - 1) ^ p := step_le_len hb f1
    have s2 : itN b p n 1 < 2 ^ 18 := by
      have := Nat.mul_le_mul_left 160 hw
      omega
    have f2 : (figs b (itN b p n 1)).length ≤ 18 := by
      rw [figs_len]
      exact lsd_len_le hb 17 _ s2
    show stepN b p (itN b p n 1) ≤ _
    exact Nat.le_trans (step_le_len hb f2) (Nat.mul_le_mul_right _ (by omega))
  | i + 1 => by
    have ih := row_down hb h hw hn i
    have := down_one hb h ih
    rw [show 18 - (i + 1) = 18 - i - 1 by omega]
    exact this
theorem row_late {b p L n i : Nat} (hb : 2 ≤ b) (h : IsLen (b : Int) (worth (b : Int) (p : Int)) L) (hw : (b - 1) ^ p ≤ 1024) (hn : n < 2 ^ 160) (hi : 20 ≤ i) : itN b p n i ≤ (L - 1) * (b - 1) ^ p := by
  have := row_down hb h hw hn (i - 2)
  rw [show i - 2 + 2 = i by omega, show max (L - 1) (18 - (i - 2)) = L - 1 by omega] at this
  exact this
theorem rowN_get (b p n : Nat) : ∀ m i, i < m → (rowN b p n m)[i]? = some (itN b p n i)
  | 0, _, h => by omega
  | m + 1, i, h => by
    rw [rowN]
    by_cases e : i = m
    · subst e
      rw [List.getElem?_append_right (by rw [rowN_len]; exact Nat.le_refl _), rowN_len, Nat.sub_self]
      rfl
    · rw [List.getElem?_append_left (by rw [rowN_len]; omega)]
      exact rowN_get b p n m i (by omega)
theorem kept_lt {b p L G : Nat} (hb : 2 ≤ b) (h : IsLen (b : Int) (worth (b : Int) (p : Int)) L) (g : IsKept b p G) : G < b ^ (L - 1) := by
  refine Nat.lt_of_not_le fun z => ?_
  have := goes_down hb h z
  have := g.kept
  omega
end Fx

namespace Fx
open PySem PySem.Spec PyProof.Rows L2
/-- a pair's numbers as naturals -/
theorem OkPair.nat {b p : Int} (h : OkPair b p) : ∃ b' p' : Nat, b = (b' : Int) ∧ p = (p' : Int) ∧ 2 ≤ b' ∧ b' ≤ 16 ∧ 1 ≤ p' ∧ p' ≤ 10 := by
  obtain ⟨h1, h2, h3, h4⟩ := id h
  have h5 := h.le10
  exact ⟨b.toNat, p.toNat, by omega, by omega, by omega, by omega, by omega, by omega⟩
/-- a number with a pair and how many are asked -/
def QuadAt (H : Hp) (v : V) : Prop := ∃ (a : Addr) (n b p m : Nat), v = .ref a ∧ H a = some (.tup [.int (n : Int), .int (b : Int), .int (p : Int), .int (m : Int)]) ∧ 2 ≤ b ∧ b ≤ 16 ∧ p ≤ 10 ∧ n < 16 ^ 40 ∧ m ≤ 60
theorem QuadAt.mono {H H' : Hp} {v : V} (h : QuadAt H v) (k : ∀ a xs, H a = some (.tup xs) → H' a = some (.tup xs)) : QuadAt H' v := by
  obtain ⟨a, n, b, p, m, e1, e2, r⟩ := h
  exact ⟨a, n, b, p, m, e1, k _ _ e2, r⟩
theorem lt900 {n : Nat} (h : n < 16 ^ 40) : n < 2 ^ 900 := Nat.lt_of_lt_of_le h (by
  have e : (16 : Nat) ^ 40 = 2 ^ 160 := by decide
  rw [e]
  exact Nat.pow_le_pow_right (by decide) (by decide))
end Fx

namespace Fx
/-! ### where numbers end -/
theorem nodup_len : ∀ (M : Nat) (l : List Nat), l.Nodup → (∀ x ∈ l, x < M) → l.length ≤ M
  | 0, l, _, h => by
    cases l with
    | nil => exact Nat.le_refl _
    | cons a r => exact absurd (h a (List.mem_cons_self ..)) (Nat.not_lt_zero _)
  | M + 1, l, nd, h => by
    have e := nodup_len M (l.erase M) (nd.erase M) fun x hx => by
      have hx' := (List.Nodup.mem_erase_iff nd).mp hx
      have := h x hx'.2
      omega
    rw [List.length_erase] at e
    split at e <;> omega
theorem itN_zero (b p n : Nat) : itN b p n 0 = n := rfl
theorem itN_succ (b p n k : Nat) : itN b p n (k + 1) = stepN b p (itN b p n k) := rfl
theorem itN_add (b p n j : Nat) : ∀ k, itN b p n (j + k) = itN b p (itN b p n j) k
  | 0 => rfl
  | k + 1 => by
    rw [← Nat.add_assoc, itN_succ, itN_succ, itN_add b p n j k]
theorem itN_first (b p n k : Nat) : itN b p n (k + 1) = itN b p (stepN b p n) k := by
  rw [Nat.add_comm, itN_add]
  rfl
/-- it stands in a round -/
def Per (b p x : Nat) : Prop := ∃ k, 0 < k ∧ itN b p x k = x
theorem Per.it {b p x : Nat} (h : Per b p x) (j : Nat) : Per b p (itN b p x j) := by
  obtain ⟨k, k0, e⟩ := h
  refine ⟨k, k0, ?_⟩
  rw [← itN_add, Nat.add_comm, itN_add, e]
theorem Per.mul {b p x k : Nat} (e : itN b p x k = x) : ∀ m, itN b p x (m * k) = x
  | 0 => by rw [Nat.zero_mul]; rfl
  | m + 1 => by rw [Nat.succ_mul, itN_add, Per.mul e m, e]
/-- from a number of a round on, each later one leads back -/
theorem Per.back {b p x : Nat} (h : Per b p x) (j : Nat) : ∃ i, itN b p (itN b p x j) i = x := by
  obtain ⟨k, k0, e⟩ := h
  refine ⟨j * k - j, ?_⟩
  have : j ≤ j * k := Nat.le_mul_of_pos_right j k0
  rw [← itN_add, show j + (j * k - j) = j * k by omega]
  exact Per.mul e j
/-- a steps away from the round of the least number m -/
structure EndAt (b p n a m : Nat) : Prop where
  per : Per b p (itN b p n a)
  first : ∀ j, j < a → ¬ Per b p (itN b p n j)
  on : ∃ i, a ≤ i ∧ itN b p n i = m
  least : ∀ i, a ≤ i → m ≤ itN b p n i
theorem EndAt.uniq {b p n a m a' m' : Nat} (h : EndAt b p n a m) (g : EndAt b p n a' m') : a = a' ∧ m = m' := by
  have ea : a = a' := by
    rcases Nat.lt_trichotomy a a' with l | l | l
    · exact absurd h.per (g.first a l)
    · exact l
    · exact absurd g.per (h.first a' l)
  subst ea
  obtain ⟨i, hi, rfl⟩ := h.on
  obtain ⟨j, hj, rfl⟩ := g.on
  exact ⟨rfl, Nat.le_antisymm (h.least j hj) (g.least i hi)⟩
/-- the first number that stands twice -/
theorem EndAt.of_row {b p n A L : Nat} (hA : A < L) (e : itN b p n L = itN b p n A) (nd : ∀ i j, i < L → j < L → itN b p n i = itN b p n j → i = j) {m : Nat}
    (on : ∃ i, A ≤ i ∧ i < L ∧ itN b p n i = m) (le : ∀ i, A ≤ i → i < L → m ≤ itN b p n i) : EndAt b p n A m := by
  have round : ∀ i, A ≤ i → ∃ j, A ≤ j ∧ j < L ∧ itN b p n i = itN b p n j := fun i => by
    induction i with
    | zero => intro h; exact ⟨0, h, by omega, rfl⟩
    | succ i ih =>
      intro h
      by_cases c : A ≤ i
      · obtain ⟨j, j1, j2, ej⟩ := ih c
        by_cases d : j + 1 < L
        · exact ⟨j + 1, by omega, d, by rw [itN_succ, itN_succ, ej]⟩
        · have : j + 1 = L := by omega
          refine ⟨A, Nat.le_refl _, hA, ?_⟩
          rw [itN_succ, ej, ← itN_succ, this, e]
      · have : i + 1 = A := by omega
        exact ⟨A, Nat.le_refl _, hA, by rw [this]⟩
  refine ⟨⟨L - A, by omega, ?_⟩, fun j hj => ?_, ?_, fun i hi => ?_⟩
  · rw [← itN_add, show A + (L - A) = L by omega, e]
  · rintro ⟨k, k0, ek⟩
    have z := Per.mul ek A
    rw [← itN_add] at z
    have : A ≤ A * k := Nat.le_mul_of_pos_right A k0
    obtain ⟨i, i1, i2, ei⟩ := round (j + A * k) (by omega)
    have := nd j i (by omega) i2 (by rw [← z, ei])
    omega
  · obtain ⟨i, i1, i2, ei⟩ := on
    exact ⟨i, i1, ei⟩
  · obtain ⟨j, j1, j2, ej⟩ := round i hi
    rw [ej]
    exact le j j1 j2
theorem EndAt.step {b p n a m : Nat} (h : EndAt b p n (a + 1) m) : EndAt b p (stepN b p n) a m := by
  refine ⟨by rw [← itN_first]; exact h.per, fun j hj => by rw [← itN_first]; exact h.first (j + 1) (by omega), ?_, fun i hi => by rw [← itN_first]; exact h.least (i + 1) (by omega)⟩
  obtain ⟨i, i1, i2⟩ := h.on
  obtain ⟨i', rfl⟩ : ∃ i', i = i' + 1 := ⟨i - 1, by omega⟩
  exact ⟨i', by omega, by rw [← itN_first]; exact i2⟩
theorem EndAt.succ {b p n a m : Nat} (h : EndAt b p (stepN b p n) a m) (np : ¬ Per b p n) : EndAt b p n (a + 1) m := by
  refine ⟨by rw [itN_first]; exact h.per, fun j hj => ?_, ?_, fun i hi => ?_⟩
  · cases j with
    | zero => exact np
    | succ j => rw [itN_first]; exact h.first j (by omega)
  · obtain ⟨i, i1, i2⟩ := h.on
    exact ⟨i + 1, by omega, by rw [itN_first]; exact i2⟩
  · obtain ⟨i', rfl⟩ : ∃ i', i = i' + 1 := ⟨i - 1, by omega⟩
    rw [itN_first]
    exact h.least i' (by omega)
/-- in the round: each number of it ends in it, away no step -/
theorem EndAt.round {b p n m : Nat} (h : EndAt b p n 0 m) (j : Nat) : EndAt b p (itN b p n j) 0 m := by
  refine ⟨h.per.it j, fun i hi => by omega, ?_, fun i _ => ?_⟩
  · obtain ⟨i, _, e⟩ := h.on
    obtain ⟨k, ek⟩ := h.per.back j
    have ek' : itN b p (itN b p n j) k = n := ek
    exact ⟨k + i, Nat.zero_le _, by rw [itN_add, ek']; exact e⟩
  · rw [← itN_add]
    exact h.least _ (Nat.zero_le _)
theorem EndAt.later {b p n a m : Nat} (h : EndAt b p n a m) : ∀ j, EndAt b p (itN b p n j) (a - j) m
  | 0 => h
  | j + 1 => by
    have i := EndAt.later h j
    rw [itN_succ]
    by_cases c : a - j = 0
    · rw [c] at i
      have := i.round 1
      rw [show a - (j + 1) = 0 by omega]
      exact this
    · rw [show a - j = (a - (j + 1)) + 1 by omega] at i
      exact i.step
theorem EndAt.self {b p n a m : Nat} (h : EndAt b p n a m) : EndAt b p m 0 m := by
  obtain ⟨i, hi, e⟩ := h.on
  have := h.later i
  rw [e, show a - i = 0 by omega] at this
  exact this
/-- the least number is that of the step -/
theorem EndAt.least_step {b p n a m a' m' : Nat} (h : EndAt b p n a m) (g : EndAt b p (stepN b p n) a' m') : m = m' ∧ a' = a - 1 := by
  have := h.later 1
  have := this.uniq g
  exact ⟨this.2, this.1.symm⟩
theorem per_iff {b p n a m : Nat} (h : EndAt b p n a m) : Per b p n ↔ a = 0 := by
  constructor
  · intro z
    refine Nat.le_antisymm (Nat.le_of_not_lt fun c => h.first 0 c z) (Nat.zero_le _)
  · rintro rfl
    exact h.per
/-! ### each number ends -/
/-- a number beyond which no row goes far -/
structure Near (b p n : Nat) : Prop where
  hb : 2 ≤ b
  lt : ∀ i, 20 ≤ i → itN b p n i ≤ 15000
theorem Near.rep {b p n : Nat} (h : Near b p n) {L : Nat} (nd : ∀ i j, i < L → j < L → itN b p n i = itN b p n j → i = j) : L ≤ 15030 := by
  refine Nat.le_of_not_lt fun z => ?_
  have l := nodup_len 15001 ((List.range (L - 20)).map fun i => itN b p n (20 + i)) ?_ ?_
  · rw [List.length_map, List.length_range] at l
    omega
  · refine List.pairwise_map.mpr (List.Pairwise.imp_of_mem ?_ (List.nodup_range (n := L - 20)))
    intro x y hx hy ne e
    have := List.mem_range.mp hx
    have := List.mem_range.mp hy
    have := nd _ _ (by omega) (by omega) e
    omega
  · intro x hx
    obtain ⟨i, hi, rfl⟩ := List.mem_map.mp hx
    have := h.lt (20 + i) (by omega)
    omega
theorem exists_end {b p n : Nat} (h : Near b p n) : ∃ a m, EndAt b p n a m := by
  -- the first number that stood ahead
  have go : ∀ k L : Nat, 15031 - L = k → (∀ i j, i < L → j < L → itN b p n i = itN b p n j → i = j) → ∃ A L, A < L ∧ itN b p n L = itN b p n A ∧ ∀ i j, i < L → j < L → itN b p n i = itN b p n j → i = j := by
    intro k
    induction k with
    | zero =>
      intro L hL nd
      have := h.rep nd
      omega
    | succ k ih =>
      intro L hL nd
      by_cases c : ∃ A, A < L ∧ itN b p n L = itN b p n A
      · obtain ⟨A, a1, a2⟩ := c
        exact ⟨A, L, a1, a2, nd⟩
      · refine ih (L + 1) (by omega) fun i j hi hj e => ?_
        by_cases ci : i = L
        · by_cases cj : j = L
          · omega
          · subst ci
            exact absurd ⟨j, by omega, e⟩ c
        · by_cases cj : j = L
          · subst cj
            exact absurd ⟨i, by omega, e.symm⟩ c
          · exact nd i j (by omega) (by omega) e
  obtain ⟨A, L, hA, e, nd⟩ := go _ 0 rfl fun i j hi => by omega
  -- the least one of these
  have mn : ∀ k, A + k < L → ∃ m, (∃ i, A ≤ i ∧ i ≤ A + k ∧ itN b p n i = m) ∧ ∀ i, A ≤ i → i ≤ A + k → m ≤ itN b p n i := by
    intro k
    induction k with
    | zero =>
      intro _
      exact ⟨_, ⟨A, Nat.le_refl _, by omega, rfl⟩, fun i h1 h2 => by
        have : i = A := by omega
        subst this
        exact Nat.le_refl _⟩
    | succ k ih =>
      intro hk
      obtain ⟨m, ⟨i, i1, i2, i3⟩, lm⟩ := ih (by omega)
      by_cases c : itN b p n (A + (k + 1)) < m
      · refine ⟨_, ⟨A + (k + 1), by omega, Nat.le_refl _, rfl⟩, fun j h1 h2 => ?_⟩
        by_cases d : j = A + (k + 1)
        · subst d
          exact Nat.le_refl _
        · have := lm j h1 (by omega)
          omega
      · refine ⟨m, ⟨i, i1, by omega, i3⟩, fun j h1 h2 => ?_⟩
        by_cases d : j = A + (k + 1)
        · subst d
          omega
        · exact lm j h1 (by omega)
  obtain ⟨m, ⟨i, i1, i2, i3⟩, lm⟩ := mn (L - 1 - A) (by omega)
  exact ⟨A, m, .of_row hA e nd ⟨i, i1, by omega, i3⟩ fun j j1 j2 => lm j j1 (by omega)⟩
/-! ### pairs -/
structure OkN (b p : Nat) : Prop where
  ok : OkPair (b : Int) (p : Int)
theorem OkN.hb {b p : Nat} (h : OkN b p) : 2 ≤ b := by have := h.ok.1; omega
theorem OkN.hb16 {b p : Nat} (h : OkN b p) : b ≤ 16 := by have := h.ok.2.1; omega
theorem OkN.hp1 {b p : Nat} (h : OkN b p) : 1 ≤ p := by have := h.ok.2.2.1; omega
theorem OkN.hp {b p : Nat} (h : OkN b p) : p ≤ 10 := by have := h.ok.le10; omega
theorem OkN.worth {b p : Nat} (h : OkN b p) : 1 ≤ (b - 1) ^ p ∧ (b - 1) ^ p ≤ 1024 := by
  have h1 := h.ok.worth
  have h2 := h.hb
  rw [worth_nat b p (by omega)] at h1
  omega
theorem row_down2 {b p L n : Nat} (hb : 2 ≤ b) (h : IsLen (b : Int) (Fx.worth (b : Int) (p : Int)) L) (hw : (b - 1) ^ p ≤ 1024) (hn : n < 2 ^ 200) : ∀ i, itN b p n (i + 2) ≤ max (L - 1) (18 - i) * (b - 1) ^ p
  | 0 => by
    have f1 : (figs b n).length ≤ 200 := by
      rw [figs_len]
      exact lsd_len_le hb 199 n hn
    have s1 : itN b p n 1 ≤ 200 * (b - 1) ^ p := step_le_len hb f1
    have s2 : itN b p n 1 < 2 ^ 18 := by
      have := Nat.mul_le_mul_left 200 hw
      omega
    have f2 : (figs b (itN b p n 1)).length ≤ 18 := by
      rw [figs_len]
      exact lsd_len_le hb 17 _ s2
    show stepN b p (itN b p n 1) ≤ _
    exact Nat.le_trans (step_le_len hb f2) (Nat.mul_le_mul_right _ (by omega))
  | i + 1 => by
    have ih := row_down2 hb h hw hn i
    have := down_one hb h ih
    rw [show 18 - (i + 1) = 18 - i - 1 by omega]
    exact this
theorem near_of {b p n : Nat} (h : OkN b p) (hn : n < 2 ^ 200) : Near b p n := by
  have hw := h.worth
  obtain ⟨L, hL, l15⟩ := len_ex h.ok.1 (show Fx.worth (b : Int) (p : Int) ≤ 1024 by have := h.ok.worth; omega)
  refine ⟨h.hb, fun i hi => ?_⟩
  have := row_down2 h.hb hL hw.2 hn (i - 2)
  rw [show i - 2 + 2 = i by omega, show max (L - 1) (18 - (i - 2)) = L - 1 by omega] at this
  have := Nat.mul_le_mul (show L - 1 ≤ 14 by omega) hw.2
  omega
theorem lt200 {n : Nat} (h : n < 2 ^ 200) : n < 2 ^ 900 := Nat.lt_of_lt_of_le h (Nat.pow_le_pow_right (by decide) (by decide))
theorem itN_lt200 {b p n : Nat} (h : OkN b p) (hn : n < 2 ^ 200) : ∀ k, itN b p n k < 2 ^ 200
  | 0 => hn
  | k + 1 => by
    have := stepN_lt h.hb h.hb16 h.hp (lt200 (itN_lt200 h hn k))
    have e : itN b p n (k + 1) = stepN b p (itN b p n k) := rfl
    have u : (2 : Nat) ^ 50 ≤ 2 ^ 200 := Nat.pow_le_pow_right (by decide) (by decide)
    omega
/-- a way to the first number that stood ahead -/
structure Way (b p n A L : Nat) : Prop where
  lt : A < L
  back : itN b p n L = itN b p n A
  nd : ∀ i j, i < L → j < L → itN b p n i = itN b p n j → i = j
/-- a round from its least number on -/
structure Rnd (b p m k : Nat) : Prop where
  pos : 0 < k
  back : itN b p m k = m
  nd : ∀ i j, i < k → j < k → itN b p m i = itN b p m j → i = j
  least : ∀ i, m ≤ itN b p m i
theorem Way.end_of {b p n A L m : Nat} (w : Way b p n A L) (on : ∃ i, A ≤ i ∧ i < L ∧ itN b p n i = m) (le : ∀ i, A ≤ i → i < L → m ≤ itN b p n i) : EndAt b p n A m := .of_row w.lt w.back w.nd on le
theorem Way.turn {b p n A L : Nat} (w : Way b p n A L) (i : Nat) : itN b p n (L + i) = itN b p n (A + i) := by
  rw [itN_add, w.back, ← itN_add]
theorem Way.rnd {b p n A L i : Nat} (w : Way b p n A L) (h1 : A ≤ i) (h2 : i < L) (le : ∀ j, A ≤ j → j < L → itN b p n i ≤ itN b p n j) : Rnd b p (itN b p n i) (L - A) := by
  have e := w.end_of ⟨i, h1, h2, rfl⟩ le
  have lt := w.lt
  refine ⟨by omega, ?_, fun x y hx hy exy => ?_, fun j => ?_⟩
  · rw [← itN_add, show i + (L - A) = L + (i - A) by omega, w.turn, show A + (i - A) = i by omega]
  · rw [← itN_add, ← itN_add] at exy
    by_cases cx : i + x < L
    · by_cases cy : i + y < L
      · have := w.nd _ _ cx cy exy
        omega
      · rw [show i + y = L + (i + y - L) by omega, w.turn] at exy
        have := w.nd _ _ cx (by omega) exy
        omega
    · rw [show i + x = L + (i + x - L) by omega, w.turn] at exy
      by_cases cy : i + y < L
      · have := w.nd _ _ (by omega) cy exy
        omega
      · rw [show i + y = L + (i + y - L) by omega, w.turn] at exy
        have := w.nd _ _ (by omega) (by omega) exy
        omega
  · rw [← itN_add]
    exact e.least _ (by omega)
theorem Rnd.at0 {b p m k : Nat} (h : Rnd b p m k) : EndAt b p m 0 m := ⟨⟨k, h.pos, h.back⟩, fun j hj => by omega, ⟨0, Nat.le_refl _, rfl⟩, fun i _ => h.least i⟩
theorem Rnd.uniq {b p m k l : Nat} (h : Rnd b p m k) (g : Rnd b p m l) : k = l := by
  rcases Nat.lt_trichotomy k l with c | c | c
  · have := g.nd k 0 c g.pos (by rw [h.back]; rfl)
    have := h.pos
    omega
  · exact c
  · have := h.nd l 0 c h.pos (by rw [g.back]; rfl)
    have := g.pos
    omega
theorem Rnd.le {b p m k : Nat} (h : Rnd b p m k) (nr : Near b p m) : k ≤ 15030 := nr.rep h.nd
theorem rowN_eq (b p n : Nat) : ∀ m, rowN b p n m = (List.range m).map (itN b p n)
  | 0 => rfl
  | m + 1 => by
    rw [rowN, rowN_eq b p n m, List.range_succ, List.map_append]
    rfl
theorem rowN_drop {b p n A L : Nat} : (rowN b p n L).drop A = rowN b p (itN b p n A) (L - A) := by
  rw [rowN_eq, rowN_eq]
  refine List.ext_getElem? fun i => ?_
  rw [List.getElem?_drop, List.getElem?_map, List.getElem?_map]
  by_cases c : A + i < L
  · rw [List.getElem?_range c, List.getElem?_range (by omega)]
    show some (itN b p n (A + i)) = some (itN b p (itN b p n A) i)
    rw [itN_add]
  · rw [List.getElem?_eq_none (by rw [List.length_range]; omega), List.getElem?_eq_none (by rw [List.length_range]; omega)]
    rfl
theorem rowN_take {b p n i : Nat} {L : Nat} (h : i ≤ L) : (rowN b p n L).take i = rowN b p n i := by
  rw [rowN_eq, rowN_eq, ← List.map_take, List.take_range]
  rw [Nat.min_eq_left h]
theorem rowN_app {b p n i j : Nat} : rowN b p n i ++ rowN b p (itN b p n i) j = rowN b p n (i + j) := by
  rw [← rowN_take (L := i + j) (i := i) (by omega), show rowN b p (itN b p n i) j = (rowN b p n (i + j)).drop i by rw [rowN_drop]; congr 1; omega, List.take_append_drop]
theorem mem_rowN {b p n L x : Nat} : x ∈ rowN b p n L ↔ ∃ i, i < L ∧ itN b p n i = x := by
  rw [rowN_eq, List.mem_map]
  exact ⟨fun ⟨i, h, e⟩ => ⟨i, List.mem_range.mp h, e⟩, fun ⟨i, h, e⟩ => ⟨i, List.mem_range.mpr h, e⟩⟩
/-- from another number of a round on, gone round: the whole round -/
theorem Way.rot {b p n A L i : Nat} (w : Way b p n A L) (h1 : A ≤ i) (h2 : i < L) : ((rowN b p n L).drop A).drop (i - A) ++ ((rowN b p n L).drop A).take (i - A) = rowN b p (itN b p n i) (L - A) := by
  have lt := w.lt
  rw [rowN_drop, rowN_drop, rowN_take (by omega), ← itN_add, show A + (i - A) = i by omega]
  have e : itN b p n A = itN b p (itN b p n i) (L - A - (i - A)) := by
    rw [← itN_add, show i + (L - A - (i - A)) = L by omega, w.back]
  rw [e, rowN_app, show L - A - (i - A) + (i - A) = L - A by omega]
end Fx
namespace Fx
theorem itN_lt160 {b p n : Nat} (h : OkN b p) (hn : n < 16 ^ 40) : ∀ k, itN b p n k < 16 ^ 40
  | 0 => hn
  | k + 1 => by
    have u1 : (16 : Nat) ^ 40 < 2 ^ 200 := by decide
    have u2 : (2 : Nat) ^ 50 < 16 ^ 40 := by decide
    have ih := itN_lt160 h hn k
    have := stepN_lt h.hb h.hb16 h.hp (lt200 (show itN b p n k < 2 ^ 200 by omega))
    have e : itN b p n (k + 1) = stepN b p (itN b p n k) := rfl
    omega
end Fx

namespace Fx
open PySem PySem.Spec PyProof.Rows L2
/-! ### a dict by places -/
def kvsOf (f : Nat → Int) (g : Nat → V) (L : Nat) : List (Key × V) := (List.range L).map fun i => (Sum.inl (f i), g i)
theorem kvsOf_len (f : Nat → Int) (g : Nat → V) (L : Nat) : (kvsOf f g L).length = L := by
  unfold kvsOf
  rw [List.length_map, List.length_range]
theorem kvsOf_succ (f : Nat → Int) (g : Nat → V) (L : Nat) : kvsOf f g (L + 1) = kvsOf f g L ++ [(Sum.inl (f L), g L)] := by
  unfold kvsOf
  rw [List.range_succ, List.map_append]
  rfl
theorem kvsOf_none {f : Nat → Int} {g : Nat → V} {k : Int} {L : Nat} (h : ∀ i, i < L → f i ≠ k) : valV (kvsOf f g L) (Sum.inl k : Key) = none := by
  unfold valV kvsOf
  rw [List.find?_eq_none.mpr]
  · rfl
  · intro x hx
    obtain ⟨i, hi, rfl⟩ := List.mem_map.mp hx
    rw [decide_eq_true_iff]
    intro e
    exact h i (List.mem_range.mp hi) (Sum.inl.inj e)
theorem kvsOf_some {f : Nat → Int} {g : Nat → V} : ∀ {L i : Nat}, (∀ i j, i < L → j < L → f i = f j → i = j) → i < L → valV (kvsOf f g L) (Sum.inl (f i) : Key) = some (g i)
  | 0, i, _, h => by omega
  | L + 1, i, nd, h => by
    rw [kvsOf_succ, valV_snoc _ _ _ _ (kvsOf_none fun j hj e => by
      have := nd j L (by omega) (by omega) e
      omega)]
    by_cases c : i = L
    · subst c
      rw [if_pos rfl]
    · rw [if_neg (fun e => c (nd i L h (by omega) (Sum.inl.inj e))), kvsOf_some (fun a b ha hb => nd a b (by omega) (by omega)) (by omega)]
theorem kvsOf_put {f : Nat → Int} {g : Nat → V} {L : Nat} (h : ∀ i, i < L → f i ≠ f L) : putK (kvsOf f g L) (Sum.inl (f L) : Key) (g L) = kvsOf f g (L + 1) := by
  rw [putK_new _ (kvsOf_none h), kvsOf_succ]
theorem kvsOf_keys (f : Nat → Int) (g : Nat → V) (L : Nat) : ((kvsOf f g L).map fun kv => kV kv.1) = (List.range L).map fun i => V.int (f i) := by
  unfold kvsOf
  rw [List.map_map]
  rfl
/-! ### numbers in lists -/
theorem inV_ivs (n : Nat) (l : List Nat) : inV (.int (n : Int)) (ivs l) = decide (n ∈ l) := by
  unfold inV ivs
  rw [List.any_map]
  by_cases c : n ∈ l
  · rw [decide_eq_true c, List.any_eq_true]
    refine ⟨n, c, ?_⟩
    show ((n : Int) == (n : Int)) = true
    exact beq_self_eq_true _
  · rw [decide_eq_false c, List.any_eq_false]
    intro x hx e
    have e' : ((x : Int) == (n : Int)) = true := e
    have := eq_of_beq e'
    have : x = n := by omega
    exact c (this ▸ hx)
theorem flat_ivs (l : List Nat) : (ivs l).all flatV = true := by
  unfold ivs
  rw [List.all_map, List.all_eq_true]
  intro x _
  rfl
theorem eqV_int (a b : Nat) : eqV (.int (a : Int)) (.int (b : Int)) = decide (a = b) := by
  show ((a : Int) == (b : Int)) = _
  by_cases c : a = b
  · subst c
    rw [decide_eq_true rfl]
    exact beq_self_eq_true _
  · rw [decide_eq_false c]
    exact beq_eq_false_iff_ne.mpr (by omega)
theorem dget {H : Hp} {a : Addr} {kvs : List (Key × V)} {k : Key} {r : Option V} (e : H a = some (.dK kvs)) (v : valV kvs k = r) : DGet H a (kV k) r := by
  subst v
  exact .k e
theorem small_len {n : Nat} (h : n ≤ 16000000) : n < sizeLine := Nat.lt_of_le_of_lt h (by decide)
end Fx

namespace Fx
open PySem PySem.Spec PyProof.Rows L2
/-! ### the laws' draws from a seed -/
def Seed (H : Hp) (d : Addr) : Prop := ∃ a f t r : Int, H d = some (.lst [.int a, .int f, .int t, .int r])
theorem Seed.same {H H' : Hp} {d : Addr} (h : Seed H d) (s : Same H H') : Seed H' d := by
  obtain ⟨a, f, t, r, e⟩ := h
  exact ⟨a, f, t, r, s _ _ e⟩
theorem Seed.off {H : Hp} {d p : Addr} {o : HO} (h : Seed H d) (n : p ≠ d) : Seed (upd H p o) d := by
  obtain ⟨a, f, t, r, e⟩ := h
  exact ⟨a, f, t, r, by rw [upd_ne (Ne.symm n)]; exact e⟩
theorem Seed.there {H : Hp} {d : Addr} (h : Seed H d) : ∃ o, H d = some o := by
  obtain ⟨a, f, t, r, e⟩ := h
  exact ⟨_, e⟩
theorem Seed.out {H : Hp} {d p : Addr} (h : Seed H d) (hp : H p = none) : p ≠ d := by
  obtain ⟨o, e⟩ := h.there
  exact (ne_of_none e hp).symm
theorem Seed.tup {H H' : Hp} {d t : Addr} {xs : List V} (h : Seed H d) (b : But d H H') (e : H t = some (.tup xs)) : H' t = some (.tup xs) := by
  obtain ⟨_, _, _, _, q⟩ := h
  exact b t _ (ne_of e q (fun z => by cases z)) e
/-- what each figure is worth -/
def wts (b p : Nat) : List Nat := (List.range b).map (· ^ p)
theorem wts_len (b p : Nat) : (wts b p).length = b := by
  unfold wts
  rw [List.length_map, List.length_range]
theorem wts_get {b p i : Nat} (h : i < b) : (wts b p)[i]? = some (i ^ p) := by
  unfold wts
  rw [List.getElem?_map, List.getElem?_range h]
  rfl
/-- base, power, and what figures are worth -/
def PairW (H : Hp) (d t : Addr) (b p : Nat) : Prop := ∃ w, H t = some (.tup [.int (b : Int), .int (p : Int), .ref w]) ∧ H w = some (.lst (ivs (wts b p))) ∧ w ≠ d ∧ t ≠ d ∧ OkN b p
theorem PairW.but {H H' : Hp} {d t : Addr} {b p : Nat} (h : PairW H d t b p) (s : But d H H') : PairW H' d t b p := by
  obtain ⟨w, e1, e2, n1, n2, ok⟩ := h
  exact ⟨w, s _ _ n2 e1, s _ _ n1 e2, n1, n2, ok⟩
theorem PairW.same {H H' : Hp} {d t : Addr} {b p : Nat} (h : PairW H d t b p) (s : Same H H') : PairW H' d t b p := h.but (.of s)
theorem PairW.ok {H : Hp} {d t : Addr} {b p : Nat} (h : PairW H d t b p) : OkN b p := by
  obtain ⟨w, e1, e2, n1, n2, ok⟩ := h
  exact ok
theorem cut_ivs_to (l : List Nat) (i : Nat) : cutV (ivs l) none (some (i : Int)) = ivs (l.take i) := by
  rw [cut_to]
  unfold ivs
  rw [List.map_take]
theorem cut_ivs_from (l : List Nat) (i : Nat) : cutV (ivs l) (some (i : Int)) none = ivs (l.drop i) := by
  rw [cut_from]
  unfold ivs
  rw [List.map_drop]
/-- the powers that a base lets -/
def mostN (b : Nat) : Nat := (mostOf (b : Int)).toNat
def upTo (m : Nat) : List Nat := (List.range m).map (· + 1)
theorem upTo_len (m : Nat) : (upTo m).length = m := by
  unfold upTo
  rw [List.length_map, List.length_range]
theorem upTo_get {m i : Nat} (h : i < m) : (upTo m)[i]? = some (i + 1) := by
  unfold upTo
  rw [List.getElem?_map, List.getElem?_range h]
  rfl
theorem upTo_succ (m : Nat) : upTo (m + 1) = upTo m ++ [m + 1] := by
  unfold upTo
  rw [List.range_succ, List.map_append]
  rfl
theorem most_iff {b k : Nat} (h1 : 2 ≤ b) (h2 : b ≤ 16) (k1 : 1 ≤ k) (k2 : k ≤ 10) : (b - 1) ^ k ≤ 1000 ↔ k ≤ mostN b := by
  have a : ∀ i ∈ List.range 15, ∀ j ∈ List.range 10, ((i + 2 - 1) ^ (j + 1) ≤ 1000 ↔ j + 1 ≤ mostN (i + 2)) := by decide +kernel
  have := a (b - 2) (List.mem_range.mpr (by omega)) (k - 1) (List.mem_range.mpr (by omega))
  rwa [show b - 2 + 2 = b by omega, show k - 1 + 1 = k by omega] at this
theorem mostN_pos {b : Nat} (h1 : 2 ≤ b) (h2 : b ≤ 16) : 1 ≤ mostN b ∧ mostN b ≤ 10 := by
  have := most_pos (b := (b : Int)) (by omega) (by omega)
  unfold mostN
  omega
theorem okN_of {b p : Nat} (h1 : 2 ≤ b) (h2 : b ≤ 16) (h3 : 1 ≤ p) (h4 : p ≤ mostN b) : OkN b p := by
  have := most_pos (b := (b : Int)) (by omega) (by omega)
  unfold mostN at h4
  exact ⟨by omega, by omega, by omega, by omega⟩
end Fx

namespace Fx
open PySem PySem.Spec PyProof.Rows L2
/-! ### operators of naturals -/
section
variable {X : Cx}
def rShlNN : V → V → Hp → VK → Prop := fun x y H Q => ∃ n k : Nat, x = .int (n : Int) ∧ y = .int (k : Int) ∧ CShl (n : Int) (k : Int) ∧ Q (.int ((n <<< k : Nat) : Int)) H
theorem op_shlNN : OpR X (binaryOp .LShift) rShlNN := by
  intro pins s σ H x y v u Q I rx ry h
  obtain ⟨n, k, e1, e2, c, q⟩ := h
  refine op_shlN pins s σ H x y v u Q I rx ry ⟨(n : Int), k, e1, e2, c, ?_⟩
  have e : ((n <<< k : Nat) : Int) = (n : Int) * 2 ^ k := by
    rw [Nat.shiftLeft_eq, Int.natCast_mul, Int.natCast_pow]
    rfl
  rw [← e]
  exact q
def rShrNN : V → V → Hp → VK → Prop := fun x y H Q => ∃ n k : Nat, x = .int (n : Int) ∧ y = .int (k : Int) ∧ Q (.int ((n >>> k : Nat) : Int)) H
theorem op_shrNN : OpR X (binaryOp .RShift) rShrNN := by
  intro pins s σ H x y v u Q I rx ry h
  obtain ⟨n, k, e1, e2, q⟩ := h
  refine op_shrN pins s σ H x y v u Q I rx ry ⟨(n : Int), k, e1, e2, ?_⟩
  have e : ((n >>> k : Nat) : Int) = (n : Int) / 2 ^ k := by
    rw [Nat.shiftRight_eq_div_pow, Int.natCast_ediv, Int.natCast_pow]
    rfl
  rw [← e]
  exact q
def rBandN : V → V → Hp → VK → Prop := fun x y H Q => ∃ n k : Nat, x = .int (n : Int) ∧ y = .int (k : Int) ∧ Q (.int ((n &&& k : Nat) : Int)) H
theorem op_bandN : OpR X (binaryOp .BitAnd) rBandN := by
  intro pins s σ H x y v u Q I rx ry h
  obtain ⟨n, k, e1, e2, q⟩ := h
  refine op_and pins s σ H x y v u Q I rx ry ⟨(n : Int), (k : Int), e1, e2, ?_⟩
  show Q (.int (Builtin.bitAnd (n : Int) (k : Int))) H
  rw [PySem.W.os_band]
  exact q
def rBorN : V → V → Hp → VK → Prop := fun x y H Q => ∃ n k : Nat, x = .int (n : Int) ∧ y = .int (k : Int) ∧ Q (.int ((n ||| k : Nat) : Int)) H
theorem op_borN : OpR X (binaryOp .BitOr) rBorN := by
  intro pins s σ H x y v u Q I rx ry h
  obtain ⟨n, k, e1, e2, q⟩ := h
  refine op_or pins s σ H x y v u Q I rx ry ⟨(n : Int), (k : Int), e1, e2, ?_⟩
  show Q (.int (Builtin.bitOr (n : Int) (k : Int))) H
  rw [bitOr_nn (Int.natCast_nonneg _) (Int.natCast_nonneg _)]
  exact q
end
theorem shl_fit {n k c : Nat} (h : n < 2 ^ c) (hk : c + k ≤ 134217728) : CShl (n : Int) (k : Int) := shl_ok (n := c) (by rw [Int.natAbs_natCast]; exact h) hk
theorem and_none {a b : Nat} : a &&& b = 0 ↔ ∀ s, ¬ (a.testBit s = true ∧ b.testBit s = true) := by
  constructor
  · rintro e s ⟨h1, h2⟩
    have := congrArg (fun z => Nat.testBit z s) e
    simp [h1, h2] at this
  · intro h
    refine Nat.eq_of_testBit_eq fun s => ?_
    rw [Nat.testBit_and, Nat.zero_testBit]
    have := h s
    cases h1 : a.testBit s <;> cases h2 : b.testBit s <;> simp_all
theorem one_bit (s t : Nat) : (1 <<< s).testBit t = decide (t = s) := by
  rw [Nat.shiftLeft_eq, Nat.one_mul, Nat.testBit_two_pow, decide_eq_decide]
  exact ⟨fun h => h.symm, fun h => h.symm⟩
/-! ### what sums so many figures have, noughts ahead -/
def Rch (b p j s : Nat) : Prop := ∃ r, r < b ^ j ∧ stepN b p r = s
theorem Rch.zero {b p s : Nat} (hb : 2 ≤ b) (hp : 1 ≤ p) : Rch b p 0 s ↔ s = 0 := by
  constructor
  · rintro ⟨r, h, rfl⟩
    rw [Nat.pow_zero] at h
    obtain rfl : r = 0 := by omega
    exact stepN_zero hb hp
  · rintro rfl
    exact ⟨0, by rw [Nat.pow_zero]; decide, stepN_zero hb hp⟩
theorem Rch.succ {b p j s : Nat} (hb : 2 ≤ b) (hp : 1 ≤ p) : Rch b p (j + 1) s ↔ ∃ d, d < b ∧ ∃ s', Rch b p j s' ∧ s' + d ^ p = s := by
  constructor
  · rintro ⟨r, h, rfl⟩
    refine ⟨r % b, Nat.mod_lt _ (by omega), _, ⟨r / b, ?_, rfl⟩, (stepN_rec hb hp r).symm⟩
    rw [Nat.div_lt_iff_lt_mul (by omega), ← Nat.pow_succ]
    exact h
  · rintro ⟨d, hd, s', ⟨r, h, rfl⟩, rfl⟩
    refine ⟨r * b + d, ?_, stepN_push hb hp hd⟩
    rw [Nat.pow_succ]
    have := Nat.mul_le_mul_right b (show r + 1 ≤ b ^ j from h)
    rw [Nat.succ_mul] at this
    omega
theorem Rch.mono {b p j s : Nat} (hb : 2 ≤ b) (h : Rch b p j s) : Rch b p (j + 1) s := by
  obtain ⟨r, h1, h2⟩ := h
  exact ⟨r, Nat.lt_of_lt_of_le h1 (Nat.pow_le_pow_right (by omega) (by omega)), h2⟩
theorem Rch.le {b p : Nat} (hb : 2 ≤ b) (hp : 1 ≤ p) : ∀ {j s : Nat}, Rch b p j s → s ≤ j * (b - 1) ^ p
  | 0, s, h => by
    rw [(Rch.zero hb hp).mp h]
    exact Nat.zero_le _
  | j + 1, s, h => by
    obtain ⟨d, hd, s', h', rfl⟩ := (Rch.succ hb hp).mp h
    have := Rch.le hb hp h'
    have := pow_le_base (p := p) hd
    rw [Nat.succ_mul]
    omega
def BitsR (b p j M : Nat) : Prop := ∀ s, M.testBit s = true ↔ Rch b p j s
theorem BitsR.lt {b p j M : Nat} (ok : OkN b p) (h : BitsR b p j M) : M < 2 ^ (j * 1024 + 1) := by
  refine Nat.lt_pow_two_of_testBit _ fun i hi => ?_
  refine Bool.eq_false_iff.mpr fun z => ?_
  have := ((h i).mp z).le ok.hb ok.hp1
  have := Nat.mul_le_mul_left j ok.worth.2
  omega
def Meets (b p G j : Nat) : Prop := ∃ s, G.testBit s = true ∧ Rch b p j s
theorem meets_iff {b p G j M : Nat} (h : BitsR b p j M) : ¬ M &&& G = 0 ↔ Meets b p G j := by
  rw [and_none]
  constructor
  · intro z
    refine Classical.byContradiction fun n => z fun s ⟨h1, h2⟩ => n ⟨s, h2, (h s).mp h1⟩
  · rintro ⟨s, h1, h2⟩ z
    exact z s ⟨(h s).mpr h2, h1⟩
/-! ### the least number whose step is a goal, of at most forty figures -/
inductive LeastG (b p G : Nat) : Option Nat → Prop where
  | one (n : Nat) (h : n < b ^ 40) (at' : G.testBit (stepN b p n) = true) (least : ∀ x, x < n → ¬ G.testBit (stepN b p x) = true) : LeastG b p G (some n)
  | not (h : ∀ x, x < b ^ 40 → ¬ G.testBit (stepN b p x) = true) : LeastG b p G none
theorem LeastG.uniq {b p G : Nat} {o o' : Option Nat} (h : LeastG b p G o) (g : LeastG b p G o') : o = o' := by
  cases h with
  | one n h1 h2 h3 =>
    cases g with
    | one m g1 g2 g3 =>
      rcases Nat.lt_trichotomy n m with c | c | c
      · exact absurd h2 (g3 n c)
      · rw [c]
      · exact absurd g2 (h3 m c)
    | not g => exact absurd h2 (g n h1)
  | not h =>
    cases g with
    | one m g1 g2 g3 => exact absurd g2 (h m g1)
    | not g => rfl
def optV : Option Nat → V
  | none => .non
  | some n => .int (n : Int)
/-- gone on figure by figure: the first i figures write x -/
structure Pref (b p G k i x : Nat) : Prop where
  lt : x < b ^ i
  le : ∀ y, y < b ^ k → G.testBit (stepN b p y) = true → x ≤ y / b ^ (k - i)
  on : ∃ s, Rch b p (k - i) s ∧ G.testBit (stepN b p x + s) = true
def Hit (b p G x j d : Nat) : Prop := ∃ s, Rch b p j s ∧ G.testBit (stepN b p x + d ^ p + s) = true
theorem Pref.start {b p G k : Nat} (hb : 2 ≤ b) (hp : 1 ≤ p) (h : Meets b p G k) : Pref b p G k 0 0 := by
  obtain ⟨s, h1, h2⟩ := h
  refine ⟨by rw [Nat.pow_zero]; decide, fun y _ _ => Nat.zero_le _, s, h2, ?_⟩
  rw [stepN_zero hb hp, Nat.zero_add]
  exact h1
theorem Pref.hit {b p G k i x : Nat} (hb : 2 ≤ b) (hp : 1 ≤ p) (h : Pref b p G k i x) (hi : i < k) : ∃ d, d < b ∧ Hit b p G x (k - i - 1) d := by
  obtain ⟨s, h1, h2⟩ := h.on
  rw [show k - i = (k - i - 1) + 1 by omega] at h1
  obtain ⟨d, hd, s', h3, rfl⟩ := (Rch.succ hb hp).mp h1
  exact ⟨d, hd, s', h3, by rw [show stepN b p x + d ^ p + s' = stepN b p x + (s' + d ^ p) by omega]; exact h2⟩
theorem Pref.nought {b p G k i x : Nat} (hb : 2 ≤ b) (hp : 1 ≤ p) (h : Pref b p G k i x) (hi : i < k) (few : ∀ j, j < k → ¬ Meets b p G j) : ¬ Hit b p G x (k - i - 1) 0 := by
  rintro ⟨s, ⟨r, r1, rfl⟩, h2⟩
  refine few (k - 1) (by omega) ⟨_, h2, x * b ^ (k - i - 1) + r, ?_, ?_⟩
  · have e : b ^ (k - 1) = b ^ i * b ^ (k - i - 1) := by
      rw [← Nat.pow_add]
      congr 1
      omega
    have := Nat.mul_le_mul_right (b ^ (k - i - 1)) (show x + 1 ≤ b ^ i from h.lt)
    rw [Nat.succ_mul] at this
    omega
  · rw [step_split hb hp _ _ _ r1, zero_pow' hp]
    omega
theorem Pref.next {b p G k i x d : Nat} (hb : 2 ≤ b) (hp : 1 ≤ p) (h : Pref b p G k i x) (hi : i < k) (few : ∀ j, j < k → ¬ Meets b p G j) (hd : d < b) (hit : Hit b p G x (k - i - 1) d) (least : ∀ e, 1 ≤ e → e < d → ¬ Hit b p G x (k - i - 1) e) : Pref b p G k (i + 1) (x * b + d) := by
  have zr := h.nought hb hp hi few
  refine ⟨?_, fun y hy gy => ?_, ?_⟩
  · rw [Nat.pow_succ]
    have := Nat.mul_le_mul_right b (show x + 1 ≤ b ^ i from h.lt)
    rw [Nat.succ_mul] at this
    omega
  · have h1 := h.le y hy gy
    have e1 : y / b ^ (k - i) = y / b ^ (k - (i + 1)) / b := by
      rw [Nat.div_div_eq_div_mul, ← Nat.pow_succ]
      congr 2
      omega
    rw [e1] at h1
    have yr : y % b ^ (k - (i + 1)) < b ^ (k - (i + 1)) := Nat.mod_lt _ (Nat.pow_pos (by omega))
    have ys : stepN b p y = stepN b p (y / b ^ (k - (i + 1))) + stepN b p (y % b ^ (k - (i + 1))) := by
      have := step_split hb hp (k - (i + 1)) (y / b ^ (k - (i + 1))) (y % b ^ (k - (i + 1))) yr
      rw [← this, Nat.mul_comm, Nat.div_add_mod]
    generalize hz : y / b ^ (k - (i + 1)) = z at h1 ys ⊢
    have zr2 := Nat.div_add_mod z b
    have zm : z % b < b := Nat.mod_lt _ (by omega)
    rcases Nat.lt_or_ge x (z / b) with c | c
    · have := Nat.mul_le_mul_left b (show x + 1 ≤ z / b from c)
      rw [Nat.mul_add, Nat.mul_comm b x] at this
      omega
    · have xe : x = z / b := Nat.le_antisymm h1 c
      have hz' : Hit b p G x (k - i - 1) (z % b) := by
        refine ⟨_, ⟨_, by rw [show k - i - 1 = k - (i + 1) by omega]; exact yr, rfl⟩, ?_⟩
        rw [xe, ← stepN_rec hb hp z, ← ys]
        exact gy
      have : d ≤ z % b := by
        refine Nat.le_of_not_lt fun c2 => ?_
        by_cases z0 : z % b = 0
        · rw [z0] at hz'
          exact zr hz'
        · exact least _ (by omega) c2 hz'
      rw [xe, Nat.mul_comm]
      omega
  · obtain ⟨s, h1, h2⟩ := hit
    refine ⟨s, by rw [show k - (i + 1) = k - i - 1 by omega]; exact h1, ?_⟩
    rw [stepN_push hb hp hd]
    exact h2
theorem Pref.done {b p G k x : Nat} (hb : 2 ≤ b) (hp : 1 ≤ p) (h : Pref b p G k k x) (few : ∀ j, j < k → ¬ Meets b p G j) (hk : k ≤ 40) : LeastG b p G (some x) := by
  refine .one x (Nat.lt_of_lt_of_le h.lt (Nat.pow_le_pow_right (by omega) hk)) ?_ fun y hy gy => ?_
  · obtain ⟨s, h1, h2⟩ := h.on
    rw [Nat.sub_self] at h1
    rw [(Rch.zero hb hp).mp h1] at h2
    exact h2
  · have hx := h.lt
    have := h.le y (by omega) gy
    rw [Nat.sub_self, Nat.pow_zero, Nat.div_one] at this
    omega
theorem least_none {b p G : Nat} (h : ¬ Meets b p G 40) : LeastG b p G none := .not fun x hx gx => h ⟨_, gx, x, hx, rfl⟩
end Fx

namespace Fx
open PySem PySem.Spec PyProof.Rows L2
/-! ### a list of lists of numbers -/
def Lists (H : Hp) (vs : List V) (ls : List (List Int)) : Prop := vs.length = ls.length ∧ ∀ (i : Nat) v l, vs[i]? = some v → ls[i]? = some l → ∃ a, v = .ref a ∧ H a = some (.lst (l.map V.int))
theorem Lists.nil {H : Hp} : Lists H [] [] := ⟨rfl, fun i v l h => by simp at h⟩
theorem Lists.mono {H H' : Hp} {vs : List V} {ls : List (List Int)} (h : Lists H vs ls) (s : Same H H') : Lists H' vs ls := ⟨h.1, fun i v l a b => by
  obtain ⟨x, e1, e2⟩ := h.2 i v l a b
  exact ⟨x, e1, s _ _ e2⟩⟩
theorem Lists.off {H : Hp} {vs : List V} {ls : List (List Int)} {R : Addr} {o : HO} (h : Lists H vs ls) (n : ∀ a l, (V.ref a) ∈ vs → H a = some (.lst l) → a ≠ R) : Lists (upd H R o) vs ls := ⟨h.1, fun i v l a b => by
  obtain ⟨x, e1, e2⟩ := h.2 i v l a b
  refine ⟨x, e1, ?_⟩
  rw [upd_ne (n x _ (e1 ▸ List.mem_of_getElem? a) e2)]
  exact e2⟩
theorem Lists.push {H : Hp} {vs : List V} {ls : List (List Int)} {a : Addr} {l : List Int} (h : Lists H vs ls) (e : H a = some (.lst (l.map V.int))) : Lists H (vs ++ [.ref a]) (ls ++ [l]) := by
  refine ⟨by rw [List.length_append, List.length_append, h.1]; rfl, fun i v m p q => ?_⟩
  by_cases c : i < vs.length
  · rw [List.getElem?_append_left c] at p
    rw [List.getElem?_append_left (by rw [← h.1]; exact c)] at q
    exact h.2 i v m p q
  · rw [List.getElem?_append_right (by omega)] at p
    rw [List.getElem?_append_right (by rw [← h.1]; omega)] at q
    have z : i - vs.length = 0 := by
      have := (List.getElem?_eq_some_iff.mp p).1
      simp at this
      omega
    rw [z] at p
    rw [← h.1, z] at q
    cases p
    cases q
    exact ⟨a, rfl, e⟩
theorem Lists.rev {H : Hp} {vs : List V} {ls : List (List Int)} (h : Lists H vs ls) : Lists H vs.reverse ls.reverse := by
  refine ⟨by rw [List.length_reverse, List.length_reverse, h.1], fun i v l p q => ?_⟩
  have hi : i < vs.length := by
    have := (List.getElem?_eq_some_iff.mp p).1
    rwa [List.length_reverse] at this
  rw [List.getElem?_reverse hi] at p
  rw [List.getElem?_reverse (by rw [← h.1]; exact hi), ← h.1] at q
  exact h.2 _ v l p q
theorem Lists.at {H : Hp} {vs : List V} {ls : List (List Int)} (h : Lists H vs ls) {i : Nat} {v : V} (p : vs[i]? = some v) : ∃ l a, ls[i]? = some l ∧ v = .ref a ∧ H a = some (.lst (l.map V.int)) := by
  have hi := (List.getElem?_eq_some_iff.mp p).1
  have q : ls[i]? = some (ls[i]'(by rw [← h.1]; exact hi)) := List.getElem?_eq_getElem _
  obtain ⟨a, e1, e2⟩ := h.2 i v _ p q
  exact ⟨_, a, q, e1, e2⟩
theorem int_get {l : List Int} {i : Nat} {x : V} (h : (l.map V.int)[i]? = some x) : ∃ k, l[i]? = some k ∧ x = V.int k := by
  rw [List.getElem?_map] at h
  cases e : l[i]? with
  | none => rw [e] at h; cases h
  | some k =>
    rw [e] at h
    exact ⟨k, rfl, (Option.some.inj h).symm⟩
theorem int_at {l : List Int} {i : Nat} {k : Int} (h : l[i]? = some k) : (l.map V.int)[i]? = some (V.int k) := by
  rw [List.getElem?_map, h]
  rfl
end Fx

namespace Fx
open PySem PySem.Spec PyProof.Rows L2
/-! ### for i, c in enumerate(text) -/
def IteS (x : Str) : It := ⟨fun i _ => i < x.cps.size, fun i H v H' => ∃ (T : Addr) (c : Nat), v = .ref T ∧ H T = none ∧ x.cps[i]? = some c ∧ H' = upd H T (.tup [.int (i : Nat), .str ⟨#[c]⟩]), fun i _ => x.cps.size ≤ i⟩
theorem turn_enumS {P : Program} {w : World} {K : PySem.W.Frag} {elts : List Expr} {kk : Nat} {tpos : Pos} (x : Str) (t : Tok) (e it : Addr) (hne : e ≠ it) :
    Turn P w K (.Tuple elts kk tpos) (IteS x) [e, it] e (fun i h => (∃ old, IsEnum h e it (0 + (i : Int)) old) ∧ h.IsStrIter it (strIterType x) x t i ∧ i ≤ x.cps.size) where
  mem := by simp
  obj := fun i h st b hb => by
    obtain ⟨⟨_, he⟩, ⟨o, ho, _, hd⟩, _⟩ := st
    have two : b = e ∨ b = it := by simpa using hb
    rcases two with rfl | rfl
    · exact ⟨_, he, fun _ q => nomatch q⟩
    · exact ⟨o, ho, fun _ q => nomatch (hd.symm.trans q)⟩
  keep := fun i h h' st k => by
    obtain ⟨⟨old, he⟩, ⟨o, ho, r⟩, le⟩ := st
    exact ⟨⟨old, k e (by simp) _ he⟩, ⟨o, k it (by simp) o ho, r⟩, le⟩
  item := by
    intro X p1 p2 p3 hc i pins s σ H E I hf st hg
    subst p1 p2 p3
    have W := WalksT.enumFrom (prog := X.prog) (w := X.w) (A := X.A) 0 (Draws.text (A := X.A.in1) (I.ok.hd hc) it x t) e hne (fun z => hne (List.mem_singleton.mp z)) (List.mem_singleton.mpr rfl)
    refine W.item i s _ _ hg ⟨st.1, st.2.1⟩ fun T vals h1 tk hP hsz hT hM hk => ⟨_, rfl, W.go _ _ _ i T _ _ _ hM fun h2 st2 hk2 => ?_⟩
    obtain ⟨u, y, ⟨c, v, hcx, rfl⟩, rfl⟩ := hP
    have kk2 : ∀ b o, b ∉ [e, it] → s.heap.get? b = some o → h2.get? b = some o := fun b o hb z => hk2 b o hb (hk b o hb z)
    have hTn : T ∉ [e, it] := W.apart i T _ hM
    obtain ⟨oT, hT1, hT2, n3, hT3⟩ := hT
    have new : ObjOk X.prog X.w (upd H T (.tup [.int (i : Nat), .str ⟨#[c]⟩])) h2 T (.tup [.int (i : Nat), .str ⟨#[c]⟩]) := by
      refine ⟨by show 2 ≤ sizeLine; decide, [.int (0 + (i : Int)) u, .str ⟨#[c]⟩ v], .cons ⟨u, ?_⟩ (.cons ⟨v, rfl⟩ .nil), ⟨oT, hk2 T _ hTn hT1, hT2, n3, hT3⟩⟩
      rw [Int.zero_add]
    have I1 : Inv X pins σ (upd H T (.tup [.int (i : Nat), .str ⟨#[c]⟩])) { s with heap := h2, toks := tk } := I.turnedNew (ch := [e, it]) kk2 hf hsz new
    refine ⟨.ref T, _, I1, rfl, ⟨T, c, rfl, I.hok.fresh hsz, hcx, rfl⟩, ?_, fun b hb => ?_⟩
    · exact ⟨st2.1, st2.2, hg⟩
    · rw [upd_ne (fun z => hTn (by rw [← z]; exact hb))]
      exact (hf b hb).1
  done := by
    intro X p1 p2 p3 hc i pins s σ H E I hf st hg
    subst p1 p2 p3
    obtain ⟨⟨old, he⟩, hit, le⟩ := st
    have fit := hf it (by simp)
    obtain rfl : i = x.cps.size := Nat.le_antisymm le hg
    exact wpAny_pyNext_enum_endD (Draws.text (A := X.A.in1) (I.ok.hd hc) it x t) he hit fun h' eb => ⟨rfl, I.turned (t' := s.toks) (fun b o hb q => eb b o hb q) fit.1 fit.2.1 fit.2.2.2.1 fit.2.2.2.2.1 fit.2.2.2.2.2⟩
  self := fun _ _ _ _ _ st h => wpAny_pyIter_enum st.1.choose_spec h
def iEnumS (ta : TA) : TI := fun σ H R => ta σ H fun vs H1 => ∃ x, vs = [.str x] ∧ R (IteS x) H1
theorem pi_enumS {X : Cx} {e : Expr} {ta : TA} {p pos tpos : Pos} {elts : List Expr} {kk : Nat} (hg : Gl X "enumerate") (hm : X.mg "enumerate" = none) (ha : PA X [e] ta) (hs : starEach [e] X.env = [(false, eval e X.env)] := by rfl) :
    PI X (.Tuple elts kk tpos) (.Call (.Name "enumerate" p) [e] [] pos) (iEnumS ta) := by
  refine ⟨fun pn s σ H R I h => Call_ (ld_blt I hg hm boot_enumerate (PyProof.Rows.callWith_type1 (thn (ha.run pos pn s σ H _ I h) fun us s1 ⟨vs, H1, I1, r1, q1⟩ => ?_) hs rfl))⟩
  obtain ⟨x, ex, q⟩ := q1
  subst ex
  cases r1 with
  | cons r rr =>
    cases rr
    obtain ⟨t, rfl⟩ := r
    refine call_enumerate_str fun h' he hit hsz hk => wpAny_pyIter_enum he ?_
    have I2 : Inv X pn σ H1 { s1 with heap := h' } := I1.kept (t' := s1.toks) hk
    refine ⟨s1.heap.objs.size + 1, [s1.heap.objs.size + 1, s1.heap.objs.size], _, _, H1, rfl, I2, turn_enumS x t (s1.heap.objs.size + 1) s1.heap.objs.size (Nat.succ_ne_self _), ⟨⟨.none, he⟩, hit, Nat.zero_le _⟩, fun b hb => ?_, q⟩
    have two : b = s1.heap.objs.size + 1 ∨ b = s1.heap.objs.size := by simpa only [List.mem_cons, List.not_mem_nil, or_false] using hb
    have behind : s1.heap.objs.size ≤ b := two.elim (fun z => z ▸ Nat.le_succ _) fun z => Nat.le_of_eq z.symm
    exact I1.fpOk behind (I1.hok.fresh behind)
theorem walk_enumS {x : Str} : Walk (IteS x) x.cps.size (fun _ => True) (fun i H v H' => ∃ (T : Addr) (c : Nat), v = .ref T ∧ H T = none ∧ x.cps[i]? = some c ∧ H' = upd H T (.tup [.int (i : Nat), .str ⟨#[c]⟩])) :=
  ⟨fun _ _ hi _ => hi, fun _ _ => Nat.le_refl _, fun _ _ _ _ _ _ y => y⟩
end Fx

namespace Fx
open PySem PySem.Spec PyProof.Rows L2
/-! ### texts of figures -/
/-- the signs of the figures -/
def figCodes : List Nat := [48, 49, 50, 51, 52, 53, 54, 55, 56, 57, 97, 98, 99, 100, 101, 102]
def sg (d : Nat) : Nat := figCodes.getD d 0
abbrev one (c : Nat) : Str := ⟨#[c]⟩
def txt (ds : List Nat) : Str := ⟨(ds.map sg).toArray⟩
abbrev FIG : Str := "0123456789abcdef"
theorem fig_codes : FIG.cps.toList = figCodes := by decide +kernel
theorem fig_len : FIG.length ≤ sizeLine := by decide +kernel
theorem fig_at {d : Nat} (h : d < 16) : atI FIG.cps.toList (d : Int) = some (sg d) := by
  refine atI_nat ?_
  rw [fig_codes]
  have a : ∀ d ∈ List.range 16, figCodes[d]? = some (sg d) := by decide +kernel
  exact a d (List.mem_range.mpr h)
theorem fig_find {d : Nat} (h : d < 16) : Txt.find FIG (one (sg d)) = (d : Int) := by
  have a : ∀ d ∈ List.range 16, Txt.find FIG (one (sg d)) = (d : Int) := by decide +kernel
  exact a d (List.mem_range.mpr h)
theorem sg_inj {d e : Nat} (h : d < 16) (h' : e < 16) (q : sg d = sg e) : d = e := by
  have a : ∀ d ∈ List.range 16, ∀ e ∈ List.range 16, sg d = sg e → d = e := by decide +kernel
  exact a d (List.mem_range.mpr h) e (List.mem_range.mpr h') q
theorem tl_txt (ds : List Nat) : (txt ds).cps.toList = ds.map sg := rfl
theorem txt_len (ds : List Nat) : (txt ds).length = ds.length := by
  show (ds.map sg).toArray.size = _
  rw [List.size_toArray, List.length_map]
theorem txt_at {ds : List Nat} {i : Nat} {d : Nat} (h : ds[i]? = some d) : (txt ds).cps[i]? = some (sg d) := by
  show ((ds.map sg).toArray)[i]? = _
  rw [List.getElem?_toArray, List.getElem?_map, h]
  rfl
theorem txt_atI {ds : List Nat} {i : Nat} {d : Nat} (h : ds[i]? = some d) : atI (txt ds).cps.toList (i : Int) = some (sg d) := by
  refine atI_nat ?_
  rw [tl_txt, List.getElem?_map, h]
  rfl
/-- signs joined -/
theorem joinL_ones : ∀ cs : List Nat, TL.joinL [] (cs.map fun c => [c]) = cs
  | [] => rfl
  | [c] => rfl
  | c :: e :: r => by
    show [c] ++ ([] ++ TL.joinL [] ((e :: r).map fun c => [c])) = _
    rw [joinL_ones (e :: r)]
    rfl
theorem join_ones (cs : List Nat) : Txt.join "" (cs.map one) = ⟨cs.toArray⟩ := by
  rw [TL.join_eq]
  have e : TL.tl (Str.join "" (cs.map one)) = TL.tl ⟨cs.toArray⟩ := by
    rw [TL.tl_join, List.map_map]
    exact joinL_ones cs
  have f : ∀ x y : Str, TL.tl x = TL.tl y → x = y := fun x y h => by
    cases x with
    | mk a =>
      cases y with
      | mk b =>
        have h' : a.toList = b.toList := h
        rw [show a = b from Array.toList_inj.mp h']
  exact f _ _ e
/-- what figures are worth -/
def val (b : Nat) (ds : List Nat) : Nat := ds.foldl (fun a d => a * b + d) 0
theorem val_take {b : Nat} {ds : List Nat} {i d : Nat} (h : ds[i]? = some d) : val b (ds.take (i + 1)) = val b (ds.take i) * b + d := by
  unfold val
  rw [List.take_add_one, h, List.foldl_append]
  rfl
theorem val_figs {b : Nat} (hb : 2 ≤ b) : ∀ n : Nat, val b (figs b n) = n := fun n => by
  induction n using Nat.strongRecOn with
  | ind n ih =>
    by_cases h : b ≤ n
    · have e : figs b n = figs b (n / b) ++ [n % b] := by
        unfold figs
        rw [lsd_ge hb h, List.reverse_cons]
      have i := ih (n / b) (Nat.div_lt_self (by omega) (by omega))
      rw [e]
      unfold val at i ⊢
      rw [List.foldl_append, i]
      show n / b * b + n % b = n
      rw [Nat.mul_comm]
      exact Nat.div_add_mod n b
    · unfold figs
      rw [lsd_lt (by omega)]
      show 0 * b + n = n
      omega
theorem val_lt {b : Nat} (hb : 2 ≤ b) : ∀ ds : List Nat, (∀ d ∈ ds, d < b) → val b ds < b ^ ds.length := fun ds h => by
  have go : ∀ (ds : List Nat) (a k : Nat), (∀ d ∈ ds, d < b) → a < b ^ k → ds.foldl (fun a d => a * b + d) a < b ^ (k + ds.length) := by
    intro ds
    induction ds with
    | nil => intro a k _ h; exact h
    | cons d r ih =>
      intro a k h0 h1
      have hd := h0 d (List.mem_cons_self ..)
      have := ih (a * b + d) (k + 1) (fun e he => h0 e (List.mem_cons_of_mem _ he)) (by
        rw [Nat.pow_succ]
        have := Nat.mul_le_mul_right b (show a + 1 ≤ b ^ k from h1)
        rw [Nat.succ_mul] at this
        omega)
      rw [List.length_cons]
      rw [show k + (r.length + 1) = k + 1 + r.length by omega]
      exact this
  have := go ds 0 0 h (by rw [Nat.pow_zero]; decide)
  rwa [Nat.zero_add] at this
/-- a number's figures: no nought ahead of others -/
theorem figs_head {b : Nat} (hb : 2 ≤ b) : ∀ n : Nat, ∀ d : Nat, (figs b n)[0]? = some d → d = 0 → (figs b n).length = 1 := fun n => by
  induction n using Nat.strongRecOn with
  | ind n ih =>
    intro d hd h0
    by_cases h : b ≤ n
    · have e : figs b n = figs b (n / b) ++ [n % b] := by
        unfold figs
        rw [lsd_ge hb h, List.reverse_cons]
      have hlen : 0 < (figs b (n / b)).length := by
        rw [figs_len]
        exact List.length_pos_iff.mpr lsd_ne
      rw [e, List.getElem?_append_left hlen] at hd
      have l1 := ih (n / b) (Nat.div_lt_self (by omega) (by omega)) d hd h0
      have hq : 0 < n / b := Nat.div_pos h (by omega)
      have ev := val_figs hb (n / b)
      have : ∃ x, figs b (n / b) = [x] := List.length_eq_one_iff.mp l1
      obtain ⟨x, hx⟩ := this
      rw [hx] at hd ev
      have : x = d := Option.some.inj hd
      have ev' : 0 * b + x = n / b := ev
      omega
    · unfold figs
      rw [lsd_lt (by omega)]
      rfl
theorem figs_ne {b n : Nat} : figs b n ≠ [] := fun h => lsd_ne (List.reverse_eq_nil_iff.mp h)
/-- figures that may be read: some, below the base, no nought ahead of others -/
structure Reads (b : Nat) (ds : List Nat) : Prop where
  ne : ds ≠ []
  below : ∀ d ∈ ds, d < b
  head : ∀ d, ds[0]? = some d → d = 0 → ds.length = 1
theorem Reads.figs {b : Nat} (hb : 2 ≤ b) (n : Nat) : Reads b (figs b n) := ⟨figs_ne, fun _ h => figs_below hb h, figs_head hb n⟩
end Fx

namespace Fx
open PySem PySem.Spec PyProof.Rows L2
/-! ### the laws' draws from one great number -/
def Deck3 (H : Hp) (d : Addr) (n : Nat) : Prop := ∃ g m t : Int, H d = some (.lst [.int g, .int m, .int t]) ∧ 0 ≤ t ∧ t ≤ n
theorem Deck3.same {H H' : Hp} {d : Addr} {n : Nat} (h : Deck3 H d n) (s : Same H H') : Deck3 H' d n := by
  obtain ⟨g, m, t, e, r⟩ := h
  exact ⟨g, m, t, s _ _ e, r⟩
theorem Deck3.mono {H : Hp} {d : Addr} {n k : Nat} (h : Deck3 H d n) (l : n ≤ k) : Deck3 H d k := by
  obtain ⟨g, m, t, e, r1, r2⟩ := h
  exact ⟨g, m, t, e, r1, by omega⟩
theorem Deck3.off {H : Hp} {d p : Addr} {n : Nat} {o : HO} (h : Deck3 H d n) (z : p ≠ d) : Deck3 (upd H p o) d n := by
  obtain ⟨g, m, t, e, r⟩ := h
  exact ⟨g, m, t, by rw [upd_ne (Ne.symm z)]; exact e, r⟩
theorem Deck3.there {H : Hp} {d : Addr} {n : Nat} (h : Deck3 H d n) : ∃ o, H d = some o := by
  obtain ⟨g, m, t, e, r⟩ := h
  exact ⟨_, e⟩
theorem Deck3.out {H : Hp} {d p : Addr} {n : Nat} (h : Deck3 H d n) (hp : H p = none) : p ≠ d := by
  obtain ⟨o, e⟩ := h.there
  exact (ne_of_none e hp).symm
theorem Deck3.tup {H H' : Hp} {d t : Addr} {n : Nat} {xs : List V} (h : Deck3 H d n) (b : But d H H') (e : H t = some (.tup xs)) : H' t = some (.tup xs) := by
  obtain ⟨_, _, _, q, _⟩ := h
  exact b t _ (ne_of e q (fun z => by cases z)) e
/-- the last of what figures are worth -/
theorem wts_last {b p : Nat} (hb : 1 ≤ b) : atI (ivs (wts b p)) (-1) = some (.int (((b - 1) ^ p : Nat) : Int)) := by
  have e : ivs (wts b p) = ivs (wts (b - 1) p) ++ [V.int (((b - 1) ^ p : Nat) : Int)] := by
    have : wts b p = wts (b - 1) p ++ [(b - 1) ^ p] := by
      unfold wts
      have := List.range_succ (n := b - 1)
      rw [show (b - 1).succ = b by omega] at this
      rw [this, List.map_append]
      rfl
    rw [this, ivs_append]
    rfl
  rw [e]
  exact atI_last _ _
theorem upTo_mem {m x : Nat} : x ∈ upTo m ↔ 1 ≤ x ∧ x ≤ m := by
  unfold upTo
  rw [List.mem_map]
  constructor
  · rintro ⟨i, hi, rfl⟩
    have := List.mem_range.mp hi
    omega
  · rintro ⟨h1, h2⟩
    exact ⟨x - 1, List.mem_range.mpr (by omega), by omega⟩
end Fx

namespace Fx
open PySem PySem.Spec PyProof.Rows L2
/-! ### sums of figures that are no noughts -/
def NZ (b p : Nat) : Nat → Nat → Prop
  | 0, s => s = 0
  | j + 1, s => ∃ d, 1 ≤ d ∧ d < b ∧ ∃ s', NZ b p j s' ∧ s' + d ^ p = s
theorem NZ.rch {b p : Nat} (hb : 2 ≤ b) (hp : 1 ≤ p) : ∀ {j s : Nat}, NZ b p j s → Rch b p j s
  | 0, s, h => (Rch.zero hb hp).mpr h
  | j + 1, s, ⟨d, _, hd, s', h, e⟩ => (Rch.succ hb hp).mpr ⟨d, hd, s', NZ.rch hb hp h, e⟩
theorem rch_nz {b p : Nat} (hb : 2 ≤ b) (hp : 1 ≤ p) : ∀ {j s : Nat}, Rch b p j s → ∃ i, i ≤ j ∧ NZ b p i s
  | 0, s, h => ⟨0, Nat.le_refl _, (Rch.zero hb hp).mp h⟩
  | j + 1, s, h => by
    obtain ⟨d, hd, s', h', e⟩ := (Rch.succ hb hp).mp h
    obtain ⟨i, hi, g⟩ := rch_nz hb hp h'
    by_cases c : d = 0
    · subst c
      rw [zero_pow' hp, Nat.add_zero] at e
      subst e
      exact ⟨i, by omega, g⟩
    · exact ⟨i + 1, by omega, d, by omega, hd, s', g, e⟩
theorem rch_up {b p s i : Nat} (hb : 2 ≤ b) (h : Rch b p i s) : ∀ j, i ≤ j → Rch b p j s := fun j hj => by
  obtain ⟨r, h1, h2⟩ := h
  exact ⟨r, Nat.lt_of_lt_of_le h1 (Nat.pow_le_pow_right (by omega) hj), h2⟩
theorem meets_one {b p t j : Nat} : Meets b p (1 <<< t) j ↔ Rch b p j t := by
  constructor
  · rintro ⟨s, h1, h2⟩
    rw [one_bit, decide_eq_true_iff] at h1
    rw [← h1]
    exact h2
  · intro h
    exact ⟨t, by rw [one_bit]; exact decide_eq_true rfl, h⟩
theorem few_of {b p t k : Nat} (hb : 2 ≤ b) (hp : 1 ≤ p) (h : ∀ j, j < k → ¬ NZ b p j t) : ∀ j, j < k → ¬ Meets b p (1 <<< t) j := fun j hj m => by
  obtain ⟨i, hi, g⟩ := rch_nz hb hp (meets_one.mp m)
  exact h i (by omega) g
theorem low_bit (a t : Nat) : (a >>> t &&& 1 = 0) ↔ a.testBit t = false := by
  rw [and_none]
  constructor
  · intro h
    have := h 0
    rw [Nat.testBit_shiftRight, Nat.add_zero] at this
    cases e : a.testBit t with
    | false => rfl
    | true => exact absurd ⟨e, by decide⟩ this
  · rintro h s ⟨h1, h2⟩
    have s0 : s = 0 := by
      rw [show (1 : Nat) = 1 <<< 0 from rfl, one_bit, decide_eq_true_iff] at h2
      exact h2
    subst s0
    rw [Nat.testBit_shiftRight, Nat.add_zero, h] at h1
    cases h1
theorem low_bit1 (a t : Nat) : (a >>> t &&& 1 = 1) ↔ a.testBit t = true := by
  have h := low_bit a t
  have m : a >>> t &&& 1 = a >>> t % 2 := Nat.and_one_is_mod _
  have l : a >>> t % 2 < 2 := Nat.mod_lt _ (by decide)
  cases e : a.testBit t with
  | false =>
    rw [h.mpr e]
    simp
  | true =>
    have : ¬ (a >>> t &&& 1 = 0) := fun z => by
      rw [h.mp z] at e
      cases e
    constructor
    · intro _; rfl
    · intro _; omega
/-- marks of the sums to a total -/
def BitsZ (b p t j M : Nat) : Prop := ∀ s, M.testBit s = true ↔ s ≤ t ∧ NZ b p j s
theorem BitsZ.lt {b p t j M : Nat} (h : BitsZ b p t j M) : M < 2 ^ (t + 1) := by
  refine Nat.lt_pow_two_of_testBit _ fun i hi => ?_
  refine Bool.eq_false_iff.mpr fun z => ?_
  have := ((h i).mp z).1
  omega
theorem hit_iff {b p t k i x d : Nat} (hb : 2 ≤ b) (hp : 1 ≤ p) (pf : Pref b p (1 <<< t) k i x) (hi : i < k) (few : ∀ j, j < k → ¬ Meets b p (1 <<< t) j) (hd : d < b) : (stepN b p x + d ^ p ≤ t ∧ NZ b p (k - i - 1) (t - stepN b p x - d ^ p)) ↔ Hit b p (1 <<< t) x (k - i - 1) d := by
  constructor
  · rintro ⟨h1, h2⟩
    exact ⟨_, h2.rch hb hp, by rw [one_bit]; exact decide_eq_true (by omega)⟩
  · rintro ⟨s, h1, h2⟩
    rw [one_bit, decide_eq_true_iff] at h2
    obtain ⟨i', hi', g⟩ := rch_nz hb hp h1
    have es : t - stepN b p x - d ^ p = s := by omega
    refine ⟨by omega, ?_⟩
    rw [es]
    by_cases c : i' = k - i - 1
    · rw [← c]
      exact g
    · obtain ⟨r, r1, r2⟩ := g.rch hb hp
      refine absurd (meets_one.mpr ⟨(x * b + d) * b ^ i' + r, ?_, ?_⟩) (few (i + 1 + i') (by omega))
      · have h3 := Nat.mul_le_mul_right b (show x + 1 ≤ b ^ i from pf.lt)
        rw [Nat.succ_mul] at h3
        have e3 : b ^ (i + 1) = b ^ i * b := Nat.pow_succ ..
        have h5 : x * b + d + 1 ≤ b ^ (i + 1) := by omega
        have h4 := Nat.mul_le_mul_right (b ^ i') h5
        rw [Nat.succ_mul, ← Nat.pow_add] at h4
        generalize (x * b + d) * b ^ i' = z at h4 ⊢
        omega
      · rw [step_split hb hp _ _ _ r1, stepN_push hb hp hd, r2]
        exact h2
end Fx

namespace Fx
open PySem PySem.Spec PyProof.Rows L2
def topS (i : Nat) : Stmt := PySem.Challenge.pw_figurerounds_k16_least_with.main.body.getD i (.Pass ⟨0, 0, 0, 0⟩)
abbrev s_power_of : Stmt := topS 1
theorem sc_power_of : FnScope ["figure", "power", "worth", "_"] ["figure", "power"] (defScope s_power_of) := ⟨rfl, rfl, rfl, by decide +kernel, rfl, by decide +kernel, by decide +kernel⟩
abbrev s_worths_of : Stmt := topS 3
theorem sc_worths_of : FnScope ["base", "power", "figure"] ["base", "power"] (defScope s_worths_of) := ⟨rfl, rfl, rfl, by decide +kernel, rfl, by decide +kernel, by decide +kernel⟩
abbrev s_least_within : Stmt := topS 9
theorem sc_least_within : FnScope ["goals", "worths", "within", "number", "rests", "figure"] ["goals", "worths", "within"] (defScope s_least_within) := ⟨rfl, rfl, rfl, by decide +kernel, rfl, by decide +kernel, by decide +kernel⟩
abbrev s_sums_with_one_more : Stmt := topS 8
theorem sc_sums_with_one_more : FnScope ["sums", "worths", "more", "worth"] ["sums", "worths"] (defScope s_sums_with_one_more) := ⟨rfl, rfl, rfl, by decide +kernel, rfl, by decide +kernel, by decide +kernel⟩
abbrev s_least_of_sums : Stmt := topS 7
theorem sc_least_of_sums : FnScope ["goals", "worths", "within"] ["goals", "worths"] (defScope s_least_of_sums) := ⟨rfl, rfl, rfl, by decide +kernel, rfl, by decide +kernel, by decide +kernel⟩
abbrev s_least_with : Stmt := topS 6
theorem sc_least_with : FnScope ["total", "base", "power"] ["total", "base", "power"] (defScope s_least_with) := ⟨rfl, rfl, rfl, by decide +kernel, rfl, by decide +kernel, by decide +kernel⟩
abbrev s__law_deck : Stmt := topS 11
theorem sc__law_deck : FnScope ["script", "great", "mixed", "cell"] ["script"] (defScope s__law_deck) := ⟨rfl, rfl, rfl, by decide +kernel, rfl, by decide +kernel, by decide +kernel⟩
abbrev s__law_draw : Stmt := topS 12
theorem sc__law_draw : FnScope ["deck", "most", "found", "turn", "one"] ["deck", "most"] (defScope s__law_draw) := ⟨rfl, rfl, rfl, by decide +kernel, rfl, by decide +kernel, by decide +kernel⟩
abbrev s__law_powers : Stmt := topS 13
theorem sc__law_powers : FnScope ["base", "power", "found", "figure", "number", "k"] ["base", "power"] (defScope s__law_powers) := ⟨rfl, rfl, rfl, by decide +kernel, rfl, by decide +kernel, by decide +kernel⟩
abbrev s__law_pair : Stmt := topS 14
theorem sc__law_pair : FnScope ["deck", "base", "most", "power"] ["deck"] (defScope s__law_pair) := ⟨rfl, rfl, rfl, by decide +kernel, rfl, by decide +kernel, by decide +kernel⟩
abbrev s__law_step : Stmt := topS 15
theorem sc__law_step : FnScope ["number", "powers", "total"] ["number", "powers"] (defScope s__law_step) := ⟨rfl, rfl, rfl, by decide +kernel, rfl, by decide +kernel, by decide +kernel⟩
abbrev s__law_number_by : Stmt := topS 16
theorem sc__law_number_by : FnScope ["figures", "base", "number", "figure"] ["figures", "base"] (defScope s__law_number_by) := ⟨rfl, rfl, rfl, by decide +kernel, rfl, by decide +kernel, by decide +kernel⟩
abbrev s__law_same : Stmt := topS 17
theorem sc__law_same : FnScope ["found", "due", "one", "other"] ["found", "due"] (defScope s__law_same) := ⟨rfl, rfl, rfl, by decide +kernel, rfl, by decide +kernel, by decide +kernel⟩
abbrev s__law_due : Stmt := topS 18
theorem sc__law_due : FnScope ["total", "powers", "reach", "marks", "one", "figures", "left", "good", "k"] ["total", "powers"] (defScope s__law_due) := ⟨rfl, rfl, rfl, by decide +kernel, rfl, by decide +kernel, by decide +kernel⟩
abbrev s__law_by_trial : Stmt := topS 19
theorem sc__law_by_trial : FnScope ["total", "powers", "number"] ["total", "powers"] (defScope s__law_by_trial) := ⟨rfl, rfl, rfl, by decide +kernel, rfl, by decide +kernel, by decide +kernel⟩
abbrev s_law : Stmt := topS 20
theorem sc_law : FnScope ["script", "deck", "turn", "base", "power", "powers", "most", "totals", "total", "due", "near"] ["script"] (defScope s_law) := ⟨rfl, rfl, rfl, by decide +kernel, rfl, by decide +kernel, by decide +kernel⟩
structure Txt (K : PySem.W.Frag) (mg : Str → Option Value) where
  f_power_of : Addr
  fd_power_of : FuncData
  F_power_of : Fun K "power_of" "power_of" s_power_of f_power_of fd_power_of
  g_power_of : mg "power_of" = some (.ref f_power_of)
  b_power_of : Binds K fd_power_of ["figure", "power"] []
  f_worths_of : Addr
  fd_worths_of : FuncData
  F_worths_of : Fun K "worths_of" "worths_of" s_worths_of f_worths_of fd_worths_of
  g_worths_of : mg "worths_of" = some (.ref f_worths_of)
  b_worths_of : Binds K fd_worths_of ["base", "power"] []
  f_least_within : Addr
  fd_least_within : FuncData
  F_least_within : Fun K "least_within" "least_within" s_least_within f_least_within fd_least_within
  g_least_within : mg "least_within" = some (.ref f_least_within)
  b_least_within : Binds K fd_least_within ["goals", "worths", "within"] []
  f_sums_with_one_more : Addr
  fd_sums_with_one_more : FuncData
  F_sums_with_one_more : Fun K "sums_with_one_more" "sums_with_one_more" s_sums_with_one_more f_sums_with_one_more fd_sums_with_one_more
  g_sums_with_one_more : mg "sums_with_one_more" = some (.ref f_sums_with_one_more)
  b_sums_with_one_more : Binds K fd_sums_with_one_more ["sums", "worths"] []
  f_least_of_sums : Addr
  fd_least_of_sums : FuncData
  F_least_of_sums : Fun K "least_of_sums" "least_of_sums" s_least_of_sums f_least_of_sums fd_least_of_sums
  g_least_of_sums : mg "least_of_sums" = some (.ref f_least_of_sums)
  b_least_of_sums : Binds K fd_least_of_sums ["goals", "worths"] []
  f_least_with : Addr
  fd_least_with : FuncData
  F_least_with : Fun K "least_with" "least_with" s_least_with f_least_with fd_least_with
  g_least_with : mg "least_with" = some (.ref f_least_with)
  b_least_with : Binds K fd_least_with ["total", "base", "power"] []
  f__law_deck : Addr
  fd__law_deck : FuncData
  F__law_deck : Fun K "_law_deck" "_law_deck" s__law_deck f__law_deck fd__law_deck
  g__law_deck : mg "_law_deck" = some (.ref f__law_deck)
  b__law_deck : Binds K fd__law_deck ["script"] []
  f__law_draw : Addr
  fd__law_draw : FuncData
  F__law_draw : Fun K "_law_draw" "_law_draw" s__law_draw f__law_draw fd__law_draw
  g__law_draw : mg "_law_draw" = some (.ref f__law_draw)
  b__law_draw : Binds K fd__law_draw ["deck", "most"] []
  f__law_powers : Addr
  fd__law_powers : FuncData
  F__law_powers : Fun K "_law_powers" "_law_powers" s__law_powers f__law_powers fd__law_powers
  g__law_powers : mg "_law_powers" = some (.ref f__law_powers)
  b__law_powers : Binds K fd__law_powers ["base", "power"] []
  f__law_pair : Addr
  fd__law_pair : FuncData
  F__law_pair : Fun K "_law_pair" "_law_pair" s__law_pair f__law_pair fd__law_pair
  g__law_pair : mg "_law_pair" = some (.ref f__law_pair)
  b__law_pair : Binds K fd__law_pair ["deck"] []
  f__law_step : Addr
  fd__law_step : FuncData
  F__law_step : Fun K "_law_step" "_law_step" s__law_step f__law_step fd__law_step
  g__law_step : mg "_law_step" = some (.ref f__law_step)
  b__law_step : Binds K fd__law_step ["number", "powers"] []
  f__law_number_by : Addr
  fd__law_number_by : FuncData
  F__law_number_by : Fun K "_law_number_by" "_law_number_by" s__law_number_by f__law_number_by fd__law_number_by
  g__law_number_by : mg "_law_number_by" = some (.ref f__law_number_by)
  b__law_number_by : Binds K fd__law_number_by ["figures", "base"] []
  f__law_same : Addr
  fd__law_same : FuncData
  F__law_same : Fun K "_law_same" "_law_same" s__law_same f__law_same fd__law_same
  g__law_same : mg "_law_same" = some (.ref f__law_same)
  b__law_same : Binds K fd__law_same ["found", "due"] []
  f__law_due : Addr
  fd__law_due : FuncData
  F__law_due : Fun K "_law_due" "_law_due" s__law_due f__law_due fd__law_due
  g__law_due : mg "_law_due" = some (.ref f__law_due)
  b__law_due : Binds K fd__law_due ["total", "powers"] []
  f__law_by_trial : Addr
  fd__law_by_trial : FuncData
  F__law_by_trial : Fun K "_law_by_trial" "_law_by_trial" s__law_by_trial f__law_by_trial fd__law_by_trial
  g__law_by_trial : mg "_law_by_trial" = some (.ref f__law_by_trial)
  b__law_by_trial : Binds K fd__law_by_trial ["total", "powers"] []
  f_law : Addr
  fd_law : FuncData
  F_law : Fun K "law" "law" s_law f_law fd_law
  g_law : mg "law" = some (.ref f_law)
  b_law : Binds K fd_law ["script"] []
  m_abs : mg "abs" = none
  m_bool : mg "bool" = none
  m_int : mg "int" = none
  m_isinstance : mg "isinstance" = none
  m_len : mg "len" = none
  m_max : mg "max" = none
  m_min : mg "min" = none
  m_range : mg "range" = none
  m_str : mg "str" = none
  m_tuple : mg "tuple" = none
  m_zip : mg "zip" = none
  t_MOST_FIGURES : Tok
  c_MOST_FIGURES : mg "MOST_FIGURES" = some (.int 40 t_MOST_FIGURES)
section
variable {P : Program} {w : World} {K : PySem.W.Frag} {mg : Str → Option Value} {base : Heap}
/-! ### power_of -/
def sp_power_of (K : PySem.W.Frag) : Sp := fun vs H Q _ => ∃ f p : Int, vs = [.int f, .int p] ∧ 0 ≤ p ∧ p < 2 ^ 62 ∧ -(2 ^ 64) < f ∧ f < 2 ^ 64 ∧ Q (.int (f ^ p.toNat)) H
theorem ok_power_of (T : Txt K mg) : FnOk P w K mg base CX0 1 T.f_power_of T.fd_power_of ["figure", "power"] (sp_power_of K) := by
  refine T.F_power_of.ok sc_power_of (fun vs H Q E h => ?_) (fun cdv A outer s H vs Q E hr h => ?_)
  · obtain ⟨_, _, rfl, _⟩ := h
    rfl
  · obtain ⟨f, p, rfl, h0, h1, h2, h3, q⟩ := h
    refine ⟨_, (pss_cons (ps_set (i := 2) sc_power_of.nd rfl (Or.inl rfl) pe_int)
      (pss_cons (ps_for PassesOwn.never rfl (pi_range1 (by rfl) T.m_range (pa_cons (pv 1) pa_nil)) (pg_name (i := 3) sc_power_of.nd rfl (Or.inl rfl)) (pss_one (ps_set (i := 2) sc_power_of.nd rfl (Or.inl rfl) (pe_op op_mul (pv 2) (pv 0)))))
      (pss_one (ps_ret (pv 2))))), ?_⟩
    refine ⟨_, rfl, _, rfl, by omega, by omega, for_range (lo := 0) (n := p.toNat) (fun i σ' H' => H' = H ∧ ∃ y, σ' = [some (.int f), some (.int p), some (.int (f ^ i)), y]) ⟨rfl, none, by rw [Int.pow_zero]; rfl⟩ ?_ ?_⟩
    · rintro i σ' H' hi ⟨rfl, y, rfl⟩
      refine ⟨_, rfl, _, rfl, _, _, rfl, rfl, .inr ⟨h2, h3⟩, rfl, some (.int (0 + i)), ?_⟩
      rw [Int.pow_succ]
      rfl
    · rintro σ' H' ⟨rfl, y, rfl⟩
      exact ⟨_, rfl, q⟩

/-! ### worths_of -/
def sp_worths_of (K : PySem.W.Frag) : Sp := fun vs H Q _ => ∃ b p : Nat, vs = [.int (b : Int), .int (p : Int)] ∧ b ≤ 16 ∧ p ≤ 10 ∧ ∀ H' w, Same H H' → H w = none → H' w = some (.lst (ivs (wts b p))) → Q (.ref w) H'
theorem ok_worths_of (T : Txt K mg) : FnOk P w K mg base CX0 2 T.f_worths_of T.fd_worths_of ["base", "power"] (sp_worths_of K) := by
  refine T.F_worths_of.ok sc_worths_of (fun vs H Q E h => ?_) (fun cdv A outer s H vs Q E hr h => ?_)
  · obtain ⟨_, _, rfl, _⟩ := h
    rfl
  · obtain ⟨b, p, rfl, hb, hp, q⟩ := h
    refine ⟨_, (pss_one (ps_ret (pe_lc (own := [("figure", 2)]) (g := (gName 2)) (tt := tYes) rfl sc_worths_of.nd (pi_range1 (by rfl) T.m_range (pa_cons (pv 0) pa_nil)) (blkOk_by (own := [("figure", 2)]) (N := ["base", "power", "figure"]) (sc := defScope s_worths_of) (by decide +kernel)) (fun _ _ _ _ _ => (pg_name (i := 2) sc_worths_of.nd rfl (Or.inl rfl))) (fun _ _ _ _ _ => pts_nil) (fun _ _ _ _ _ => (pe_call (ok_power_of T) hr (by rfl) T.g_power_of T.F_power_of.kp T.b_power_of .nil pass0 (pa_cons (pv 2) (pa_cons (pv 1) pa_nil))))))), ?_⟩
    refine ⟨_, rfl, _, rfl, by omega, by omega, fun D hD => lc_range (lo := 0) (n := b) (fun i H' => Same H H' ∧ H' D = some (.lst (ivs ((wts b p).take i)))) ⟨Same.new hD, upd_same⟩ ?_ ?_⟩
    · rintro i H' hi ⟨s2, e2⟩
      refine ⟨rfl, _, rfl, _, rfl, ((0 + i : Nat) : Int), (p : Int), by rw [Int.natCast_add]; rfl, by omega, by omega, by omega, by omega, ?_⟩
      refine ⟨_, e2, small_len (by rw [ivs_length, List.length_take, wts_len]; omega), same_own s2 hD, ?_⟩
      rw [upd_same, List.take_add_one, wts_get hi, ivs_append, Nat.zero_add]
      show some (HO.lst (_ ++ [V.int ((i : Int) ^ p)])) = some (HO.lst (_ ++ [V.int ((i ^ p : Nat) : Int)]))
      rw [Int.natCast_pow]
    · rintro H' ⟨s2, e2⟩
      rw [List.take_of_length_le (by rw [wts_len]; exact Nat.le_refl _)] at e2
      exact q H' D s2 hD e2

/-! ### least_within -/
def sp_least_within (K : PySem.W.Frag) : Sp := fun vs H Q _ => ∃ (G b p k : Nat) (W L : Addr) (ms : List Nat), vs = [.int (G : Int), .ref W, .ref L] ∧ H W = some (.lst (ivs (wts b p))) ∧ H L = some (.lst (ivs ms)) ∧ OkN b p ∧ ms.length = k ∧ k ≤ 40 ∧ (∀ (j : Nat) M, ms[j]? = some M → BitsR b p j M) ∧ Meets b p G k ∧ (∀ j, j < k → ¬ Meets b p G j) ∧
  ∀ H' n, Same H H' → LeastG b p G (some n) → Q (.int ((n : Nat) : Int)) H'
def W_least_within (G b p x j : Nat) (H : Hp) (σ0 : Nat → L2.St) (m : Nat) (σ' : L2.St) (H' : Hp) : Prop := ∃ f : Nat, m = b - f ∧ 1 ≤ f ∧ H' = H ∧ σ' = σ0 f ∧ ∀ e, 1 ≤ e → e < f → ¬ Hit b p G x j e
theorem ok_least_within (T : Txt K mg) : FnOk P w K mg base CX0 1 T.f_least_within T.fd_least_within ["goals", "worths", "within"] (sp_least_within K) := by
  refine T.F_least_within.ok sc_least_within (fun vs H Q E h => ?_) (fun cdv A outer s H vs Q E hr h => ?_)
  · obtain ⟨_, _, _, _, _, _, _, rfl, _⟩ := h
    rfl
  · obtain ⟨G, b, p, k, W, L, ms, rfl, eW, eL, ok, lk, k40, B, mk, few, q⟩ := h
    have hb := ok.hb
    have hb16 := ok.hb16
    have hp1 := ok.hp1
    refine ⟨_, (pss_cons (ps_set (i := 3) sc_least_within.nd rfl (Or.inl rfl) pe_int)
      (pss_cons (ps_for PassesOwn.never rfl (pi_list (pe_revL (pv 2))) (pg_name (i := 4) sc_least_within.nd rfl (Or.inl rfl)) (pss_cons (ps_set (i := 5) sc_least_within.nd rfl (Or.inl rfl) pe_int)
      (pss_cons (ps_while PassesOwn.never (pt_cmpR op_eq (pe_op op_bandN (pe_op op_shrNN (pv 0) (pe_ix ix_list (pv 1) (pv 5) (fun _ _ => rfl))) (pv 4)) pe_int (nomark _)) (pss_one (ps_aug (i := 5) sc_least_within.nd rfl (Or.inl rfl) pe_int ip_add)))
      (pss_cons (ps_set (i := 0) sc_least_within.nd rfl (Or.inl rfl) (pe_op op_shrNN (pv 0) (pe_ix ix_list (pv 1) (pv 5) (fun _ _ => rfl))))
      (pss_one (ps_set (i := 3) sc_least_within.nd rfl (Or.inl rfl) (pe_op op_add (pe_op op_mul (pv 3) (pe_callB (id := "len") call_len_seq (by rfl) T.m_len (by decide +kernel) (pa_cons (pv 1) pa_nil))) (pv 5))))))))
      (pss_one (ps_ret (pv 3))))), ?_⟩
    refine ⟨_, rfl, L, _, rfl, .of eL, fun R hR => ?_⟩
    rw [ivs_reverse]
    generalize g1 : upd H R _ = H1
    obtain ⟨s1, t1⟩ := new_of g1 hR
    have eW1 := s1 _ _ eW
    refine ⟨R, rfl, ⟨_, .of t1⟩, for_list (xs := ivs ms.reverse) (fun i σ' H' => H' = H1 ∧ ∃ (x : Nat) (y4 y5 : Option V), i ≤ k ∧ Pref b p G k i x ∧ σ' = [some (.int ((G >>> stepN b p x : Nat) : Int)), some (.ref W), some (.ref L), some (.int (x : Int)), y4, y5]) ⟨rfl, 0, none, none, Nat.zero_le _, Pref.start hb hp1 mk, ?_⟩ ?_ ?_ ?_⟩
    · rw [stepN_zero hb hp1, Nat.shiftRight_zero]
      rfl
    · rintro i σ' H' hi ⟨rfl, _⟩
      exact .of t1
    · rintro i v σ' H' hv ⟨rfl, x, y4, y5, ik, pf, rfl⟩
      obtain ⟨M, hM, rfl⟩ := ivs_get hv
      have hi : i < k := by
        have := (List.getElem?_eq_some_iff.mp hM).1
        rwa [List.length_reverse, lk] at this
      rw [List.getElem?_reverse (by omega), lk] at hM
      have BM := B _ _ hM
      rw [show k - 1 - i = k - i - 1 by omega] at BM
      obtain ⟨e, eb, he⟩ := pf.hit hb hp1 hi
      have e1 : 1 ≤ e := by
        refine Nat.pos_of_ne_zero fun z => ?_
        subst z
        exact pf.nought hb hp1 hi few he
      have hitIff : ∀ d, ¬ (G >>> stepN b p x) >>> d ^ p &&& M = 0 ↔ Hit b p G x (k - i - 1) d := fun d => by
        rw [and_none]
        have tb : ∀ s, ((G >>> stepN b p x) >>> d ^ p).testBit s = G.testBit (stepN b p x + d ^ p + s) := fun s => by
          rw [Nat.testBit_shiftRight, Nat.testBit_shiftRight]
          congr 1
          omega
        constructor
        · intro z
          refine Classical.byContradiction fun n => z fun s ⟨h1, h2⟩ => n ⟨s, (BM s).mp h2, ?_⟩
          rw [tb] at h1
          exact h1
        · rintro ⟨s, h1, h2⟩ z
          exact z s ⟨by rw [tb]; exact h2, (BM s).mpr h1⟩
      refine ⟨W_least_within G b p x (k - i - 1) H' (fun f => [some (.int ((G >>> stepN b p x : Nat) : Int)), some (.ref W), some (.ref L), some (.int (x : Int)), some (.int (M : Int)), some (.int (f : Int))]), ⟨b - 1, 1, rfl, Nat.le_refl _, rfl, rfl, fun e h1 h2 => by omega⟩, ?_⟩
      rintro m σ' H2 ⟨f, rfl, f1, rfl, rfl, nf⟩
      have fe : f ≤ e := Nat.le_of_not_lt fun z => nf e e1 z he
      have fb : f < b := by omega
      have wf : atI (ivs (wts b p)) (f : Int) = some (.int ((f ^ p : Nat) : Int)) := atI_nat (ivs_at (wts_get fb))
      refine ⟨_, rfl, _, rfl, _, rfl, W, _, _, _, rfl, rfl, .of eW1, wf, G >>> stepN b p x, f ^ p, rfl, rfl, _, rfl, (G >>> stepN b p x) >>> f ^ p, M, rfl, rfl, rfl, _, rfl, ite2 (fun c => ?_) (fun c => ?_)⟩
      · have c0 : (G >>> stepN b p x) >>> f ^ p &&& M = 0 := by
          have := V.int.inj (of_decide_eq_true c)
          omega
        have nh : ¬ Hit b p G x (k - i - 1) f := fun z => (hitIff f).mpr z c0
        refine ⟨Nx (W_least_within G b p x (k - i - 1) H2 (fun f => [some (.int ((G >>> stepN b p x : Nat) : Int)), some (.ref W), some (.ref L), some (.int (x : Int)), some (.int (M : Int)), some (.int (f : Int))])) (b - f), Nx.id, ?_⟩
        refine ⟨_, rfl, _, _, rfl, rfl, b - (f + 1), by omega, f + 1, rfl, by omega, rfl, rfl, fun e' h1 h2 => ?_⟩
        by_cases ce : e' = f
        · subst ce
          exact nh
        · exact nf e' h1 (by omega)
      · have c0 : ¬ (G >>> stepN b p x) >>> f ^ p &&& M = 0 := fun z => c (decide_eq_true (by rw [z]; rfl))
        have hh := (hitIff f).mp c0
        have pn := pf.next hb hp1 hi few fb hh nf
        refine ⟨_, rfl, _, rfl, _, rfl, W, _, _, _, rfl, rfl, .of eW1, wf, G >>> stepN b p x, f ^ p, rfl, rfl, ?_⟩
        refine ⟨_, rfl, _, rfl, W, _, rfl, .inl (.of eW1), _, _, rfl, rfl, .inr (by rw [ivs_length, wts_len]; omega), _, rfl, _, _, rfl, rfl, rfl, x * b + f, some (.int (M : Int)), some (.int (f : Int)), hi, pn, ?_⟩
        rw [stepN_push hb hp1 fb, Nat.shiftRight_add]
        rw [Int.natCast_add, Int.natCast_mul, ivs_length, wts_len]
        rfl
    · rintro σ' H' ⟨rfl, x, y4, y5, ik, pf, rfl⟩
      rw [ivs_length, List.length_reverse, lk] at pf
      exact ⟨_, rfl, q _ x s1 (pf.done hb hp1 few k40)⟩

/-! ### sums_with_one_more -/
def sp_sums_with_one_more (K : PySem.W.Frag) : Sp := fun vs H Q _ => ∃ (S b p j : Nat) (W : Addr), vs = [.int (S : Int), .ref W] ∧ H W = some (.lst (ivs (wts b p))) ∧ OkN b p ∧ BitsR b p j S ∧ j ≤ 100 ∧ ∀ M, BitsR b p (j + 1) M → Q (.int ((M : Nat) : Int)) H
theorem ok_sums_with_one_more (T : Txt K mg) : FnOk P w K mg base CX0 1 T.f_sums_with_one_more T.fd_sums_with_one_more ["sums", "worths"] (sp_sums_with_one_more K) := by
  refine T.F_sums_with_one_more.ok sc_sums_with_one_more (fun vs H Q E h => ?_) (fun cdv A outer s H vs Q E hr h => ?_)
  · obtain ⟨_, _, _, _, _, rfl, _⟩ := h
    rfl
  · obtain ⟨S, b, p, j, W, rfl, eW, ok, B, hj, q⟩ := h
    have sl := B.lt ok
    refine ⟨_, (pss_cons (ps_set (i := 2) sc_sums_with_one_more.nd rfl (Or.inl rfl) pe_int)
      (pss_cons (ps_for PassesOwn.never rfl (pi_list (pv 1)) (pg_name (i := 3) sc_sums_with_one_more.nd rfl (Or.inl rfl)) (pss_one (ps_set (i := 2) sc_sums_with_one_more.nd rfl (Or.inl rfl) (pe_op op_borN (pv 2) (pe_op op_shlNN (pv 0) (pv 3))))))
      (pss_one (ps_ret (pv 2))))), ?_⟩
    refine ⟨_, rfl, W, rfl, ⟨_, .of eW⟩, for_list (xs := ivs (wts b p)) (fun i σ' H' => H' = H ∧ ∃ (M : Nat) (y : Option V), (∀ s, M.testBit s = true ↔ ∃ d, d < i ∧ ∃ s', Rch b p j s' ∧ s' + d ^ p = s) ∧ σ' = [some (.int (S : Int)), some (.ref W), some (.int (M : Int)), y]) ⟨rfl, 0, none, fun s => ⟨fun h => by simp at h, fun ⟨d, hd, _⟩ => by omega⟩, rfl⟩ ?_ ?_ ?_⟩
    · rintro i σ' H' hi ⟨rfl, _⟩
      exact .of eW
    · rintro i x σ' H' hx ⟨rfl, M, y, hM, rfl⟩
      obtain ⟨w, hw, rfl⟩ := ivs_get hx
      have hi := (List.getElem?_eq_some_iff.mp hw).1
      rw [wts_len] at hi
      rw [wts_get hi] at hw
      obtain rfl : i ^ p = w := Option.some.inj hw
      have wl : i ^ p ≤ 1024 := Nat.le_trans (pow_le_base hi) ok.worth.2
      refine ⟨_, rfl, _, rfl, _, rfl, S, i ^ p, rfl, rfl, shl_fit sl (by omega), M, S <<< i ^ p, rfl, rfl, rfl, M ||| S <<< i ^ p, _, fun s => ?_, rfl⟩
      rw [Nat.testBit_or, Nat.testBit_shiftLeft, Bool.or_eq_true, Bool.and_eq_true, decide_eq_true_iff, hM]
      constructor
      · rintro (⟨d, hd, s', h1, h2⟩ | ⟨h1, h2⟩)
        · exact ⟨d, by omega, s', h1, h2⟩
        · exact ⟨i, by omega, s - i ^ p, (B _).mp h2, by omega⟩
      · rintro ⟨d, hd, s', h1, h2⟩
        by_cases c : d = i
        · subst c
          right
          exact ⟨by omega, by rw [show s - d ^ p = s' by omega]; exact (B s').mpr h1⟩
        · exact .inl ⟨d, by omega, s', h1, h2⟩
    · rintro σ' H' ⟨rfl, M, y, hM, rfl⟩
      rw [ivs_length, wts_len] at hM
      exact ⟨_, rfl, q M fun s => by rw [hM, Rch.succ ok.hb ok.hp1]⟩

/-! ### least_of_sums -/
def sp_least_of_sums (K : PySem.W.Frag) : Sp := fun vs H Q _ => ∃ (G b p : Nat) (W : Addr), vs = [.int (G : Int), .ref W] ∧ H W = some (.lst (ivs (wts b p))) ∧ OkN b p ∧ ∀ H' o, Same H H' → LeastG b p G o → Q (optV o) H'
def W_least_of_sums (G b p : Nat) (W : Addr) (H : Hp) (L : Addr) (m : Nat) (σ' : L2.St) (H' : Hp) : Prop := ∃ (k : Nat) (ms : List Nat), m = 41 - k ∧ k ≤ 40 ∧ σ' = [some (.int (G : Int)), some (.ref W), some (.ref L)] ∧ Same H H' ∧ H' L = some (.lst (ivs ms)) ∧ ms.length = k + 1 ∧ (∀ (j : Nat) M, ms[j]? = some M → BitsR b p j M) ∧ ∀ j, j < k → ¬ Meets b p G j
theorem ok_least_of_sums (T : Txt K mg) : FnOk P w K mg base CX0 2 T.f_least_of_sums T.fd_least_of_sums ["goals", "worths"] (sp_least_of_sums K) := by
  refine T.F_least_of_sums.ok sc_least_of_sums (fun vs H Q E h => ?_) (fun cdv A outer s H vs Q E hr h => ?_)
  · obtain ⟨_, _, _, _, rfl, _⟩ := h
    rfl
  · obtain ⟨G, b, p, W, rfl, eW, ok, q⟩ := h
    have hb := ok.hb
    have hp1 := ok.hp1
    refine ⟨_, (pss_cons (ps_set (i := 2) sc_least_of_sums.nd rfl (Or.inl rfl) (pe_lst (pa_cons pe_int pa_nil)))
      (pss_cons (ps_while PassesOwn.never (pt_cmpR op_eq (pe_op op_bandN (pe_ix ix_list (pv 2) (pe_un un_neg pe_int) (fun _ _ => rfl)) (pv 0)) pe_int (nomark _)) (pss_cons (ps_if (pt_cmpR op_gt (pe_callB (id := "len") call_len_seq (by rfl) T.m_len (by decide +kernel) (pa_cons (pv 2) pa_nil)) (pe_glob (v := .int 40) (by rfl) T.c_MOST_FIGURES ⟨_, rfl⟩) (nomark _)) (pss_one (ps_ret pe_non)) pss_nil)
      (pss_one (ps_expr (pe_bm PySem.F.plainAttrs_list PySem.F.slot_list_append PySem.F.type_list_append mt_append (pv 2) (pa_cons (pe_call (ok_sums_with_one_more T) hr (by rfl) T.g_sums_with_one_more T.F_sums_with_one_more.kp T.b_sums_with_one_more .nil pass0 (pa_cons (pe_ix ix_list (pv 2) (pe_un un_neg pe_int) (fun _ _ => rfl)) (pa_cons (pv 1) pa_nil))) pa_nil))))))
      (pss_one (ps_ret (pe_call (ok_least_within T) hr (by rfl) T.g_least_within T.F_least_within.kp T.b_least_within .nil pass0 (pa_cons (pv 0) (pa_cons (pv 1) (pa_cons (pe_slice sl_list (pv 2) po_none (po_some (pe_un un_neg pe_int))) pa_nil)))))))), ?_⟩
    refine ⟨by show 1 ≤ sizeLine; decide, fun L hL => ?_⟩
    generalize g1 : upd H L _ = H1
    obtain ⟨s1, t1⟩ := new_of g1 hL
    have B0 : BitsR b p 0 1 := fun s => by
      rw [Rch.zero hb hp1, show (1 : Nat) = 1 <<< 0 from rfl, one_bit, decide_eq_true_iff]
    refine ⟨W_least_of_sums G b p W H L, ⟨41, 0, [1], rfl, Nat.zero_le _, rfl, s1, t1, rfl, fun j M e => ?_, fun j hj => by omega⟩, ?_⟩
    · have : j = 0 := by
        have := (List.getElem?_eq_some_iff.mp e).1
        simpa using this
      subst this
      cases e
      exact B0
    rintro m σ' H2 ⟨k, ms, rfl, k40, rfl, s2, t2, lm, B, few⟩
    obtain ⟨M, hM⟩ : ∃ M, ms[k]? = some M := ⟨_, List.getElem?_eq_getElem (by omega)⟩
    have BM := B _ _ hM
    have eM : ms = ms.take k ++ [M] := by
      have e := List.take_add_one (l := ms) (i := k)
      rw [hM, ← lm, List.take_length] at e
      exact e
    have t2' := t2
    rw [eM, ivs_append] at t2'
    have eW2 := s2 _ _ eW
    have lastM : atI (ivs (ms.take k) ++ ivs [M]) (-1) = some (.int (M : Int)) := atI_last _ _
    refine ⟨_, rfl, 1, rfl, L, _, -1, _, rfl, rfl, .of t2', lastM, _, rfl, M, G, rfl, rfl, rfl, _, rfl, ite2 (fun c => ?_) (fun c => ?_)⟩
    · have c0 : M &&& G = 0 := by
        have := V.int.inj (of_decide_eq_true c)
        omega
      have nm : ¬ Meets b p G k := fun z => (meets_iff BM).mpr z c0
      refine ⟨Nx (W_least_of_sums G b p W H L) (41 - k), Nx.id, ?_⟩
      refine ⟨_, rfl, L, _, rfl, .inl (.of t2), _, _, rfl, rfl, _, rfl, ite2 (fun c2 => ?_) (fun c2 => ?_)⟩
      · have k41 : k = 40 := by
          have := of_decide_eq_true c2
          rw [ivs_length, lm] at this
          omega
        subst k41
        exact q H2 none s2 (least_none nm)
      · have k41 : k < 40 := by
          have := of_decide_eq_false (Bool.eq_false_iff.mpr c2)
          rw [ivs_length, lm] at this
          omega
        refine ⟨_, rfl, .inl ⟨rfl, _, .of t2⟩, _, rfl, 1, rfl, L, _, -1, _, rfl, rfl, .of t2', lastM, _, rfl, M, b, p, k, W, rfl, eW2, ok, BM, by omega, fun M' BM' => ?_⟩
        refine ⟨L, _, _, rfl, rfl, t2, small_len (by rw [ivs_length]; omega), ?_⟩
        refine ⟨41 - (k + 1), by omega, k + 1, ms ++ [M'], rfl, k41, rfl, same_own s2 hL, ?_, by rw [List.length_append, lm]; rfl, fun j N e => ?_, fun j hj => ?_⟩
        · rw [upd_same, ivs_append]
          rfl
        · by_cases cj : j < ms.length
          · rw [List.getElem?_append_left cj] at e
            exact B j N e
          · rw [List.getElem?_append_right (by omega)] at e
            have z : j - ms.length = 0 := by
              have := (List.getElem?_eq_some_iff.mp e).1
              simp at this
              omega
            rw [z] at e
            cases e
            rw [show j = k + 1 by omega]
            exact BM'
        · by_cases cj : j = k
          · subst cj
            exact nm
          · exact few j (by omega)
    · have c0 : ¬ M &&& G = 0 := fun z => c (decide_eq_true (by rw [z]; rfl))
      have mt := (meets_iff BM).mp c0
      refine ⟨_, rfl, _, rfl, _, rfl, 1, rfl, _, rfl, L, _, rfl, .of t2, fun X hX => ?_⟩
      have ec : cutV (ivs ms) none (some (-1)) = ivs (ms.take k) := by
        have h1 : cutV (ivs ms) none (some (-1)) = (ivs ms).take k := by
          unfold cutV
          rw [HT.sIx_none, List.drop_zero, Nat.sub_zero]
          congr 1
          rw [ivs_length, lm]
          show (if (-1 : Int) < 0 then ((-1 : Int) + ((k + 1 : Nat) : Int)).toNat else min (-1 : Int).toNat (k + 1)) = k
          rw [if_pos (by decide)]
          omega
        rw [h1]
        unfold ivs
        rw [List.map_take]
      rw [ec]
      generalize g3 : upd H2 X _ = H3
      obtain ⟨s3, t3⟩ := new_of g3 hX
      refine ⟨G, b, p, k, W, X, ms.take k, rfl, s3 _ _ eW2, t3, ok, by rw [List.length_take]; omega, k40, fun j N e => ?_, mt, few, fun H4 n s4 ln => q H4 (some n) (s2.trans (s3.trans s4)) ln⟩
      have jk : j < k := by
        have := (List.getElem?_eq_some_iff.mp e).1
        rw [List.length_take] at this
        omega
      rw [List.getElem?_take_of_lt jk] at e
      exact B j N e

/-! ### least_with -/
def sp_least_with (K : PySem.W.Frag) : Sp := fun vs H Q _ => ∃ t b p : Nat, vs = [.int (t : Int), .int (b : Int), .int (p : Int)] ∧ OkN b p ∧ t ≤ 1000000 ∧ ∀ H' o, Same H H' → LeastG b p (1 <<< t) o → Q (optV o) H'
theorem ok_least_with (T : Txt K mg) : FnOk P w K mg base CX0 3 T.f_least_with T.fd_least_with ["total", "base", "power"] (sp_least_with K) := by
  refine T.F_least_with.ok sc_least_with (fun vs H Q E h => ?_) (fun cdv A outer s H vs Q E hr h => ?_)
  · obtain ⟨_, _, _, rfl, _⟩ := h
    rfl
  · obtain ⟨t, b, p, rfl, ok, ht, q⟩ := h
    refine ⟨_, (pss_one (ps_ret (pe_call (ok_least_of_sums T) hr (by rfl) T.g_least_of_sums T.F_least_of_sums.kp T.b_least_of_sums .nil pass0 (pa_cons (pe_op op_shlNN pe_int (pv 0)) (pa_cons (pe_call (ok_worths_of T) hr (by rfl) T.g_worths_of T.F_worths_of.kp T.b_worths_of .nil pass0 (pa_cons (pv 1) (pa_cons (pv 2) pa_nil))) pa_nil))))), ?_⟩
    refine ⟨_, rfl, 1, t, rfl, rfl, shl_fit (c := 1) (by decide) (by omega), _, rfl, _, rfl, b, p, rfl, ok.hb16, ok.hp, fun H1 w s1 nw ew => ?_⟩
    exact ⟨1 <<< t, b, p, w, rfl, ew, ok, fun H2 o s2 lo => q H2 o (s1.trans s2) lo⟩

/-! ### _law_deck -/
def sp__law_deck (K : PySem.W.Frag) : Sp := fun vs H Q _ => ∃ (a : Addr) (ns : List Int) (B : Nat), vs = [.ref a] ∧ SqL K H a (ns.map V.int) ∧ ns.length ≤ 63 ∧ B ≤ 1100000 ∧ (∀ z ∈ ns, z.natAbs < 2 ^ B) ∧ ∀ H' d, Same H H' → H d = none → Deck3 H' d 0 → Q (.ref d) H'
theorem deck_step {g c : Nat} {k B i : Nat} (h : g < 2 ^ (B + 206 * i)) (hc : c < 2 ^ B) : g <<< 205 + c < 2 ^ (B + 206 * (i + 1)) := by
  have e1 : 2 ^ (B + 206 * (i + 1)) = 2 ^ (B + 206 * i) * 2 ^ 205 * 2 := by
    rw [show B + 206 * (i + 1) = (B + 206 * i) + 205 + 1 by omega, Nat.pow_succ, Nat.pow_add]
  have e2 : 2 ^ B ≤ 2 ^ (B + 206 * i) * 2 ^ 205 := by
    rw [← Nat.pow_add]
    exact Nat.pow_le_pow_right (by decide) (by omega)
  rw [Nat.shiftLeft_eq, e1]
  have := Nat.mul_le_mul_right (2 ^ 205) (Nat.le_of_lt h)
  have h3 : g * 2 ^ 205 + 2 ^ 205 ≤ 2 ^ (B + 206 * i) * 2 ^ 205 := by
    have := Nat.mul_le_mul_right (2 ^ 205) (show g + 1 ≤ 2 ^ (B + 206 * i) from h)
    rw [Nat.succ_mul] at this
    exact this
  omega
theorem ok__law_deck (T : Txt K mg) : FnOk P w K mg base CX0 1 T.f__law_deck T.fd__law_deck ["script"] (sp__law_deck K) := by
  refine T.F__law_deck.ok sc__law_deck (fun vs H Q E h => ?_) (fun cdv A outer s H vs Q E hr h => ?_)
  · obtain ⟨_, _, _, rfl, _⟩ := h
    rfl
  · obtain ⟨a, ns, B, rfl, hS, hl, hB, bits, q⟩ := h
    refine ⟨_, (pss_cons (ps_set (i := 1) sc__law_deck.nd rfl (Or.inl rfl) pe_int)
      (pss_cons (ps_set (i := 2) sc__law_deck.nd rfl (Or.inl rfl) (pe_op op_add (pe_op op_mul pe_int (pe_callB (id := "len") call_len_seq (by rfl) T.m_len (by decide +kernel) (pa_cons (pv 0) pa_nil))) pe_int))
      (pss_cons (ps_for PassesOwn.never rfl (pi_list (pe_slice sl_list (pv 0) po_none (po_some pe_int))) (pg_name (i := 3) sc__law_deck.nd rfl (Or.inl rfl)) (pss_one (ps_if (pt_cmpR op_ge (pe_callB (id := "abs") call_abs (by rfl) T.m_abs (by decide +kernel) (pa_cons (pv 3) pa_nil)) (pe_op op_pow pe_int pe_int) (nomark _)) (pss_one (ps_set (i := 1) sc__law_deck.nd rfl (Or.inl rfl) (pe_op op_add (pe_op op_shlNN (pv 1) pe_int) (pe_callB (id := "abs") call_abs (by rfl) T.m_abs (by decide +kernel) (pa_cons (pv 3) pa_nil))))) (pss_one (ps_set (i := 2) sc__law_deck.nd rfl (Or.inl rfl) (pe_op op_mod (pe_op op_add (pe_op op_mul (pv 2) pe_int) (pv 3)) pe_int))))))
      (pss_one (ps_ret (pe_lst (pa_cons (pv 1) (pa_cons (pv 2) (pa_cons pe_int pa_nil))))))))), ?_⟩
    refine ⟨_, rfl, a, _, rfl, .inl hS, _, _, rfl, rfl, .inl (by decide), _, _, rfl, rfl, ?_⟩
    refine ⟨_, rfl, _, rfl, a, _, rfl, hS, fun D hD => ?_⟩
    rw [show (some (63 : Int)) = some ((63 : Nat) : Int) from rfl, cut_to, ← List.map_take, List.take_of_length_le hl]
    generalize g1 : upd H D _ = H1
    obtain ⟨s1, t1⟩ := new_of g1 hD
    refine ⟨D, rfl, ⟨_, .of t1⟩, for_list (xs := ns.map V.int) (fun i σ' H' => H' = H1 ∧ ∃ (g : Nat) (m : Int) (y : Option V), g < 2 ^ (B + 206 * i) ∧ σ' = [some (.ref a), some (.int (g : Int)), some (.int m), y]) ⟨rfl, 0, _, none, Nat.pow_pos (by decide), rfl⟩ ?_ ?_ ?_⟩
    · rintro i σ' H' hi ⟨rfl, _⟩
      exact .of t1
    · rintro i x σ' H' hx ⟨rfl, g, m, y, gb, rfl⟩
      obtain ⟨c, hc, rfl⟩ := int_get hx
      have hi := (List.getElem?_eq_some_iff.mp hc).1
      have cb := bits c (List.mem_of_getElem? hc)
      have ab : (if c < 0 then -c else c) = ((c.natAbs : Nat) : Int) := by
        split <;> omega
      have gb' : g < 2 ^ (B + 206 * (i + 1)) := Nat.lt_of_lt_of_le gb (Nat.pow_le_pow_right (by decide) (by omega))
      refine ⟨_, rfl, _, rfl, 10, 18, rfl, rfl, ⟨by decide, by decide, by decide⟩, _, _, rfl, rfl, _, rfl, ite2 (fun cc => ?_) (fun cc => ?_)⟩
      · refine ⟨_, rfl, g, 205, rfl, rfl, shl_fit gb (by omega), _, rfl, _, rfl, _, _, rfl, rfl, rfl, g <<< 205 + c.natAbs, m, some (.int c), deck_step (k := 0) gb cb, ?_⟩
        rw [Int.natCast_add, ← ab]
        rfl
      · exact ⟨_, rfl, _, _, rfl, rfl, .inr (by decide), _, rfl, _, _, rfl, rfl, _, _, rfl, rfl, by walk_at "p", rfl, g, _, _, gb', rfl⟩
    · rintro σ' H' ⟨rfl, g, m, y, gb, rfl⟩
      refine ⟨_, rfl, _, rfl, by show 3 ≤ sizeLine; decide, fun d hd => ?_⟩
      exact q _ d (s1.trans (Same.new hd)) (s1.free hd) ⟨_, _, 0, upd_same, Int.le_refl _, Int.le_refl _⟩

/-! ### _law_draw -/
def sp__law_draw (K : PySem.W.Frag) : Sp := fun vs H Q _ => ∃ (d : Addr) (m : Int) (n : Nat), vs = [.ref d, .int m] ∧ Deck3 H d n ∧ n < 2 ^ 40 ∧ 0 < m ∧ m < 2 ^ 900 ∧ ∀ H' (r : Int), But d H H' → Deck3 H' d (n + 1) → 0 ≤ r → r < m → Q (.int r) H'
theorem ok__law_draw (T : Txt K mg) : FnOk P w K mg base CX0 1 T.f__law_draw T.fd__law_draw ["deck", "most"] (sp__law_draw K) := by
  refine T.F__law_draw.ok sc__law_draw (fun vs H Q E h => ?_) (fun cdv A outer s H vs Q E hr h => ?_)
  · obtain ⟨_, _, _, rfl, _⟩ := h
    rfl
  · obtain ⟨d, m, n, rfl, ⟨g, x, t, eD, t0, tn⟩, n40, m0, m9, q⟩ := h
    have hw : ∀ x : Int, CDivW x m := fun x => divW 900 m0 m9
    have r0 : ∀ x : Int, 0 ≤ x % m := fun x => Int.emod_nonneg _ (by omega)
    have r1 : ∀ x : Int, x % m < m := fun x => Int.emod_lt_of_pos _ m0
    refine ⟨_, (pss_cons (ps_asg (pe_op op_add (pe_ix ix_list (pv 0) pe_int (fun _ _ => rfl)) pe_int) (pg_sub (pv 0) pe_int set_list))
      (C8.pss_cut (ps_if (pt_cmpR op_gt (pe_ix ix_list (pv 0) pe_int (fun _ _ => rfl)) pe_int (nomark _)) (pss_cons (ps_set (i := 2) sc__law_draw.nd rfl (Or.inl rfl) (pe_op op_mod (pe_ix ix_list (pv 0) pe_int (fun _ _ => rfl)) (pv 1)))
      (pss_cons (ps_asg (pe_op op_fdivW (pe_ix ix_list (pv 0) pe_int (fun _ _ => rfl)) (pv 1)) (pg_sub (pv 0) pe_int set_list))
      (pss_one (ps_ret (pv 2))))) pss_nil)
      (pss_cons (ps_set (i := 3) sc__law_draw.nd rfl (Or.inl rfl) (pe_ix ix_list (pv 0) pe_int (fun _ _ => rfl)))
      (pss_cons (ps_set (i := 4) sc__law_draw.nd rfl (Or.inl rfl) (pe_op op_mod (pe_op op_add (pe_op op_add (pe_ix ix_list (pv 0) pe_int (fun _ _ => rfl)) (pe_op op_mul (pe_op op_mul pe_int (pv 3)) (pv 3))) (pe_op op_mul pe_int (pv 3))) pe_int))
      (pss_cons (ps_set (i := 4) sc__law_draw.nd rfl (Or.inl rfl) (pe_op op_mod (pe_op op_mul (pv 4) (pv 4)) pe_int))
      (pss_one (ps_ret (pe_op op_mod (pe_op op_fdivW (pe_op op_mod (pe_op op_add (pe_op op_mul (pv 4) pe_int) (pe_op op_mul (pv 3) pe_int)) pe_int) pe_int) (pv 1))))))))), ?_⟩
    refine ⟨_, rfl, d, _, 2, .int t, rfl, rfl, .of eD, atI_nat (j := 2) rfl, _, _, rfl, rfl, _, rfl, d, _, 2, 2, rfl, rfl, eD, rfl, ?_⟩
    generalize g1 : upd H d _ = H1
    obtain ⟨b1, e1⟩ := set_of g1
    have e1' : H1 d = some (.lst [.int g, .int x, .int (t + 1)]) := e1
    refine ⟨fun σ' H' => H' = H1 ∧ σ' = [some (.ref d), some (.int m), none, none, none], ?_, ?_⟩
    · refine ⟨_, rfl, d, _, 0, .int g, rfl, rfl, .of e1', atI_nat (j := 0) rfl, _, _, rfl, rfl, _, rfl, ite2 (fun c => ?_) (fun c => ?_)⟩
      · refine ⟨_, rfl, d, _, 0, .int g, rfl, rfl, .of e1', atI_nat (j := 0) rfl, _, rfl, _, _, rfl, rfl, m0, ?_⟩
        refine ⟨_, rfl, d, _, 0, .int g, rfl, rfl, .of e1', atI_nat (j := 0) rfl, _, rfl, _, _, rfl, rfl, hw _, _, rfl, d, _, 0, 0, rfl, rfl, e1', rfl, ?_⟩
        refine ⟨_, rfl, q _ _ (b1.trans But.set) ⟨_, _, _, upd_same, by omega, by omega⟩ (r0 _) (r1 _)⟩
      · exact ⟨rfl, rfl⟩
    · rintro σ' H' ⟨rfl, rfl⟩
      refine ⟨_, rfl, d, _, 2, .int (t + 1), rfl, rfl, .of e1', atI_nat (j := 2) rfl, ?_⟩
      have tb : -(2 ^ 64) < t + 1 ∧ t + 1 < 2 ^ 64 := by omega
      refine ⟨_, rfl, d, _, 1, .int x, rfl, rfl, .of e1', atI_nat (j := 1) rfl, _, rfl, _, _, rfl, rfl, .inl (by decide), _, rfl, _, _, rfl, rfl, .inr tb, _, _, rfl, rfl, _, rfl, _, _, rfl, rfl, .inl (by decide), _, _, rfl, rfl, _, _, rfl, rfl, by walk_at "p", ?_⟩
      have b := Int.emod_lt_of_pos (x + 70003 * (t + 1) * (t + 1) + 5003 * (t + 1)) (b := 2147483543) (by decide)
      have b' := Int.emod_nonneg (x + 70003 * (t + 1) * (t + 1) + 5003 * (t + 1)) (b := 2147483543) (by decide)
      generalize (x + 70003 * (t + 1) * (t + 1) + 5003 * (t + 1)) % 2147483543 = n1 at b b'
      refine ⟨_, rfl, _, rfl, _, _, rfl, rfl, .inl (by omega), _, _, rfl, rfl, by walk_at "p", ?_⟩
      refine ⟨_, rfl, _, _, rfl, rfl, .inr (by decide), _, rfl, _, _, rfl, rfl, .inr (by decide), _, _, rfl, rfl, _, _, rfl, rfl, by walk_at "p", _, _, rfl, rfl, ⟨by decide, by decide +kernel⟩, _, rfl, _, _, rfl, rfl, m0, q _ _ b1 ⟨_, _, _, e1', by omega, by omega⟩ (r0 _) (r1 _)⟩

/-! ### _law_powers -/
def sp__law_powers (K : PySem.W.Frag) : Sp := fun vs H Q _ => ∃ b p : Nat, vs = [.int (b : Int), .int (p : Int)] ∧ b ≤ 16 ∧ p ≤ 10 ∧ ∀ H' w, Same H H' → H w = none → H' w = some (.lst (ivs (wts b p))) → Q (.ref w) H'
theorem ok__law_powers (T : Txt K mg) : FnOk P w K mg base CX0 1 T.f__law_powers T.fd__law_powers ["base", "power"] (sp__law_powers K) := by
  refine T.F__law_powers.ok sc__law_powers (fun vs H Q E h => ?_) (fun cdv A outer s H vs Q E hr h => ?_)
  · obtain ⟨_, _, rfl, _⟩ := h
    rfl
  · obtain ⟨b, p, rfl, hb, hp, q⟩ := h
    refine ⟨_, (pss_cons (ps_set (i := 2) sc__law_powers.nd rfl (Or.inl rfl) (pe_lst pa_nil))
      (pss_cons (ps_for PassesOwn.never rfl (pi_range1 (by rfl) T.m_range (pa_cons (pv 0) pa_nil)) (pg_name (i := 3) sc__law_powers.nd rfl (Or.inl rfl)) (pss_cons (ps_set (i := 4) sc__law_powers.nd rfl (Or.inl rfl) pe_int)
      (pss_cons (ps_for PassesOwn.never rfl (pi_range1 (by rfl) T.m_range (pa_cons (pv 1) pa_nil)) (pg_name (i := 5) sc__law_powers.nd rfl (Or.inl rfl)) (pss_one (ps_set (i := 4) sc__law_powers.nd rfl (Or.inl rfl) (pe_op op_mul (pv 4) (pv 3)))))
      (pss_one (ps_expr (pe_bm PySem.F.plainAttrs_list PySem.F.slot_list_append PySem.F.type_list_append mt_append (pv 2) (pa_cons (pv 4) pa_nil)))))))
      (pss_one (ps_ret (pv 2))))), ?_⟩
    refine ⟨Nat.zero_le _, fun F hF => ?_⟩
    generalize g1 : upd H F _ = H1
    obtain ⟨s1, t1⟩ := new_of g1 hF
    refine ⟨_, rfl, _, rfl, by omega, by omega, for_range (lo := 0) (n := b) (fun i σ' H' => Same H H' ∧ H' F = some (.lst (ivs ((wts b p).take i))) ∧ ∃ y3 y4 y5, σ' = [some (.int (b : Int)), some (.int (p : Int)), some (.ref F), y3, y4, y5]) ⟨s1, t1, _, _, _, rfl⟩ ?_ ?_⟩
    · rintro i σ' H2 hi ⟨s2, t2, y3, y4, y5, rfl⟩
      refine ⟨_, rfl, _, rfl, by omega, by omega, for_range (lo := 0) (n := p) (fun j σ' H' => H' = H2 ∧ ∃ y5, σ' = [some (.int (b : Int)), some (.int (p : Int)), some (.ref F), some (.int (0 + (i : Int))), some (.int ((i : Int) ^ j)), y5]) ⟨rfl, y5, by rw [Int.pow_zero]; rfl⟩ ?_ ?_⟩
      · rintro j σ' H' hj ⟨rfl, y5, rfl⟩
        refine ⟨_, rfl, _, rfl, _, _, rfl, rfl, .inr (by omega), rfl, some (.int (0 + (j : Int))), ?_⟩
        rw [Int.pow_succ, Int.zero_add (i : Int)]
        rfl
      · rintro σ' H' ⟨rfl, y5, rfl⟩
        refine ⟨_, rfl, .inl ⟨rfl, _, .of t2⟩, _, rfl, F, _, _, rfl, rfl, t2, small_len (by rw [ivs_length, List.length_take, wts_len]; omega), same_own s2 hF, ?_, _, _, _, rfl⟩
        rw [upd_same, List.take_add_one, wts_get hi, ivs_append]
        show some (HO.lst (_ ++ [V.int ((i : Int) ^ p)])) = some (HO.lst (_ ++ [V.int ((i ^ p : Nat) : Int)]))
        rw [Int.natCast_pow]
    · rintro σ' H2 ⟨s2, t2, y3, y4, y5, rfl⟩
      rw [List.take_of_length_le (by rw [wts_len]; exact Nat.le_refl _)] at t2
      exact ⟨_, rfl, q H2 F s2 hF t2⟩

/-! ### _law_pair -/
def sp__law_pair (K : PySem.W.Frag) : Sp := fun vs H Q _ => ∃ (d : Addr) (n : Nat), vs = [.ref d] ∧ Deck3 H d n ∧ n < 2 ^ 39 ∧ ∀ H' t b p, But d H H' → Deck3 H' d (n + 4) → H t = none → H' t = some (.tup [.int ((b : Nat) : Int), .int ((p : Nat) : Int)]) → OkN b p → Q (.ref t) H'
theorem ok__law_pair (T : Txt K mg) : FnOk P w K mg base CX0 2 T.f__law_pair T.fd__law_pair ["deck"] (sp__law_pair K) := by
  refine T.F__law_pair.ok sc__law_pair (fun vs H Q E h => ?_) (fun cdv A outer s H vs Q E hr h => ?_)
  · obtain ⟨_, _, rfl, _⟩ := h
    rfl
  · obtain ⟨d, n, rfl, hD, n9, q⟩ := h
    refine ⟨_, (pss_cons (ps_set (i := 1) sc__law_pair.nd rfl (Or.inr rfl) (pe_ix ix_list (pe_lst (pa_cons (pe_op op_add pe_int (pe_call (ok__law_draw T) hr (by rfl) T.g__law_draw T.F__law_draw.kp T.b__law_draw .nil pass0 (pa_cons (pv 0) (pa_cons pe_int pa_nil)))) (pa_cons pe_int (pa_cons pe_int (pa_cons pe_int pa_nil))))) (pe_callB (id := "max") (call_max2 rfl) (by rfl) T.m_max (by decide +kernel) (pa_cons pe_int (pa_cons (pe_op op_sub (pe_call (ok__law_draw T) hr (by rfl) T.g__law_draw T.F__law_draw.kp T.b__law_draw .nil pass0 (pa_cons (pv 0) (pa_cons pe_int pa_nil))) pe_int) pa_nil))) (fun _ _ => rfl)))
      (pss_cons (ps_set (i := 2) sc__law_pair.nd rfl (Or.inl rfl) (pe_callB (id := "max") (cr_max rfl) (by rfl) T.m_max (by decide +kernel) (pa_cons (pe_lc (own := [("power", 3)]) (g := (gName 3)) rfl sc__law_pair.nd (pi_range2 (by rfl) T.m_range (pa_cons pe_int (pa_cons pe_int pa_nil))) (blkOk_by (own := [("power", 3)]) (N := ["deck", "base", "most", "power"]) (sc := defScope s__law_pair) (by decide +kernel)) (fun _ _ _ _ _ => (pg_name (i := 3) sc__law_pair.nd rfl (Or.inl rfl))) (fun _ _ _ _ _ => pts_one (pt_cmpR op_le (pe_ix (show IxR _ (rIxL K) from ix_list) (pe_call (ok__law_powers T) hr (by rfl) T.g__law_powers T.F__law_powers.kp T.b__law_powers .nil pass0 (pa_cons (pv 1) (pa_cons (pv 3) pa_nil))) (pe_un un_neg pe_int) (fun _ _ => rfl)) pe_int (nomark _))) (fun _ _ _ _ _ => (pv 3))) pa_nil)))
      (pss_one (ps_ret (pe_tup (pa_cons (pv 1) (pa_cons (pe_ix ix_list (pe_lst (pa_cons (pe_op op_add pe_int (pe_call (ok__law_draw T) hr (by rfl) T.g__law_draw T.F__law_draw.kp T.b__law_draw .nil pass0 (pa_cons (pv 0) (pa_cons (pv 2) pa_nil)))) (pa_cons (pv 2) (pa_cons (pe_callB (id := "min") (call_min2 rfl) (by rfl) T.m_min (by decide +kernel) (pa_cons (pv 2) (pa_cons pe_int pa_nil))) pa_nil)))) (pe_call (ok__law_draw T) hr (by rfl) T.g__law_draw T.F__law_draw.kp T.b__law_draw .nil pass0 (pa_cons (pv 0) (pa_cons pe_int pa_nil))) (fun _ _ => rfl)) pa_nil))))))), ?_⟩
    refine ⟨_, rfl, d, 15, n, rfl, hD, by omega, by decide, by decide, fun H1 r1 b1 D1 u1 v1 => ⟨_, _, rfl, rfl, by show 4 ≤ sizeLine; decide, fun l hl => ?_⟩⟩
    generalize g2 : upd H1 l _ = H2
    obtain ⟨s2, t2⟩ := new_of g2 hl
    have D2 := D1.same s2
    have nl := D1.out hl
    refine ⟨_, rfl, d, 8, _, rfl, D2, by omega, by decide, by decide, fun H3 r3 b3 D3 u3 v3 => ⟨_, _, rfl, rfl, _, _, rfl, ?_⟩⟩
    have t3 := b3 _ _ nl t2
    obtain ⟨b, hb, hb16, eb⟩ : ∃ b : Nat, 2 ≤ b ∧ b ≤ 16 ∧ atI [V.int (2 + r1), V.int 10, V.int 2, V.int 16] (if r3 - 4 > 0 then r3 - 4 else 0) = some (.int (b : Int)) := by
      by_cases c : r3 - 4 > 0
      · rw [if_pos c]
        have c3 : r3 - 4 = 1 ∨ r3 - 4 = 2 ∨ r3 - 4 = 3 := by omega
        rcases c3 with c3 | c3 | c3
        · rw [c3]
          exact ⟨10, by omega, by omega, rfl⟩
        · rw [c3]
          exact ⟨2, by omega, by omega, rfl⟩
        · rw [c3]
          exact ⟨16, by omega, by omega, rfl⟩
      · rw [if_neg c]
        exact ⟨(2 + r1).toNat, by omega, by omega, by rw [show (((2 + r1).toNat : Nat) : Int) = 2 + r1 by omega]; rfl⟩
    refine ⟨l, _, _, _, rfl, rfl, .of t3, eb, ?_⟩
    have mp := mostN_pos hb hb16
    -- most
    refine ⟨1, 11, rfl, by decide, fun A hA => lc_range (lo := 1) (n := 10) (fun i H' => Same H3 H' ∧ H' A = some (.lst (ivs (upTo (min i (mostN b)))))) ⟨Same.new hA, upd_same⟩ ?_ ?_⟩
    · rintro i H5 hi ⟨s5, e5⟩
      have mi := most_iff hb hb16 (k := i + 1) (by omega) (by omega)
      refine ⟨rfl, _, rfl, _, rfl, b, i + 1, by rw [show ((i + 1 : Nat) : Int) = 1 + (i : Int) by omega]; rfl, hb16, by omega, fun H6 w s6 nw ew => ?_⟩
      refine ⟨1, rfl, w, _, -1, _, rfl, rfl, .of ew, wts_last (by omega), _, _, rfl, rfl, _, rfl, ?_⟩
      have e6 := s6 _ _ e5
      by_cases c : i + 1 ≤ mostN b
      · have c2 := mi.mpr c
        rw [decide_eq_true (by omega)]
        refine iteT ⟨_, rfl, _, e6, small_len (by rw [ivs_length, upTo_len]; omega), same_own (s5.trans s6) hA, ?_⟩
        rw [upd_same, show min i (mostN b) = i by omega, show min (i + 1) (mostN b) = i + 1 by omega, upTo_succ, ivs_append]
        show some (HO.lst (_ ++ [V.int (1 + (i : Int))])) = some (HO.lst (_ ++ [V.int ((i + 1 : Nat) : Int)]))
        rw [show (1 : Int) + (i : Int) = ((i + 1 : Nat) : Int) by omega]
      · have c2 : ¬ (b - 1) ^ (i + 1) ≤ 1000 := fun z => c (mi.mp z)
        rw [decide_eq_false (by omega)]
        refine iteF ⟨s5.trans s6, ?_⟩
        rw [show min (i + 1) (mostN b) = min i (mostN b) by omega]
        exact e6
    rintro H5 ⟨s5, e5⟩
    rw [show min 10 (mostN b) = mostN b by omega, ivs_map] at e5
    refine ⟨A, _, rfl, .of e5, by rw [List.length_map, upTo_len]; omega, fun m h1 h2 => ?_⟩
    have em : m = ((mostN b : Nat) : Int) := by
      obtain ⟨x, hx, rfl⟩ := List.mem_map.mp h1
      have hx' := upTo_mem.mp hx
      have := h2 ((mostN b : Nat) : Int) (List.mem_map.mpr ⟨_, upTo_mem.mpr ⟨mp.1, Nat.le_refl _⟩, rfl⟩)
      omega
    subst em
    have D5 := D3.same s5
    -- the pair
    refine ⟨_, rfl, _, rfl, _, rfl, d, ((mostN b : Nat) : Int), _, rfl, D5, by omega, by omega, by omega, fun H6 r6 b6 D6 u6 v6 => ⟨_, _, rfl, rfl, _, rfl, _, rfl, _, _, rfl, by show 3 ≤ sizeLine; decide, fun l2 hl2 => ?_⟩⟩
    generalize g7 : upd H6 l2 _ = H7
    obtain ⟨s7, t7⟩ := new_of g7 hl2
    have D7 := D6.same s7
    have nl2 := D6.out hl2
    refine ⟨_, rfl, d, 3, _, rfl, D7, by omega, by decide, by decide, fun H8 r8 b8 D8 u8 v8 => ?_⟩
    have t8 := b8 _ _ nl2 t7
    obtain ⟨p, hp1, hp2, ep⟩ : ∃ p : Nat, 1 ≤ p ∧ p ≤ mostN b ∧ atI [V.int (1 + r6), V.int ((mostN b : Nat) : Int), V.int (if 2 < ((mostN b : Nat) : Int) then 2 else ((mostN b : Nat) : Int))] r8 = some (V.int (p : Int)) := by
      have c3 : r8 = 0 ∨ r8 = 1 ∨ r8 = 2 := by omega
      rcases c3 with rfl | rfl | rfl
      · exact ⟨(1 + r6).toNat, by omega, by omega, by rw [show (((1 + r6).toNat : Nat) : Int) = 1 + r6 by omega]; rfl⟩
      · exact ⟨mostN b, by omega, by omega, rfl⟩
      · refine ⟨min 2 (mostN b), by omega, by omega, ?_⟩
        have : ((min 2 (mostN b) : Nat) : Int) = if 2 < ((mostN b : Nat) : Int) then 2 else ((mostN b : Nat) : Int) := by split <;> omega
        rw [this]
        rfl
    refine ⟨l2, _, _, _, rfl, rfl, .of t8, ep, by show 2 ≤ sizeLine; decide, fun t ht => ?_⟩
    have b08 : But d H H8 := b1.trans ((But.of s2).trans (b3.trans ((But.of s5).trans (b6.trans ((But.of s7).trans b8)))))
    exact q _ t b p (b08.trans (.of (Same.new ht))) (D8.same (Same.new ht)) (b08.fresh D8.there ht) upd_same (okN_of hb hb16 hp1 hp2)

/-! ### _law_step -/
def sp__law_step (K : PySem.W.Frag) : Sp := fun vs H Q _ => ∃ (n b p : Nat) (W : Addr), vs = [.int (n : Int), .ref W] ∧ H W = some (.lst (ivs (wts b p))) ∧ OkN b p ∧ Q (.int ((stepN b p n : Nat) : Int)) H
def W__law_step (n b p : Nat) (t : Addr) (H : Hp) (m : Nat) (σ' : L2.St) (H' : Hp) : Prop := ∃ f : Nat, H' = H ∧ σ' = [some (.int (m : Int)), some (.ref t), some (.int (f : Int))] ∧ f + stepN b p m = stepN b p n
theorem ok__law_step (T : Txt K mg) : FnOk P w K mg base CX0 1 T.f__law_step T.fd__law_step ["number", "powers"] (sp__law_step K) := by
  refine T.F__law_step.ok sc__law_step (fun vs H Q E h => ?_) (fun cdv A outer s H vs Q E hr h => ?_)
  · obtain ⟨_, _, _, _, rfl, _⟩ := h
    rfl
  · obtain ⟨n, b, p, w, rfl, ew, ok, q⟩ := h
    have hb := ok.hb
    have hb16 := ok.hb16
    refine ⟨_, (pss_cons (ps_set (i := 2) sc__law_step.nd rfl (Or.inl rfl) pe_int)
      (pss_cons (ps_while PassesOwn.never (pt_cmpR op_gt (pv 0) pe_int (nomark _)) (pss_cons (ps_set (i := 2) sc__law_step.nd rfl (Or.inl rfl) (pe_op op_add (pv 2) (pe_ix ix_list (pv 1) (pe_op op_mod (pv 0) (pe_callB (id := "len") call_len_seq (by rfl) T.m_len (by decide +kernel) (pa_cons (pv 1) pa_nil))) (fun _ _ => rfl))))
      (pss_one (ps_set (i := 0) sc__law_step.nd rfl (Or.inl rfl) (pe_op op_fdivW (pv 0) (pe_callB (id := "len") call_len_seq (by rfl) T.m_len (by decide +kernel) (pa_cons (pv 1) pa_nil)))))))
      (pss_one (ps_ret (pv 2))))), ?_⟩
    refine ⟨W__law_step n b p w H, ⟨n, 0, rfl, rfl, Nat.zero_add _⟩, ?_⟩
    rintro m σ' H' ⟨f, rfl, rfl, e⟩
    refine ⟨_, rfl, _, _, rfl, rfl, _, rfl, ?_⟩
    by_cases c : 0 < m
    · rw [decide_eq_true (by omega)]
      refine iteT ⟨Nx (W__law_step n b p w H') m, Nx.id, ?_⟩
      have mb : m % b < b := Nat.mod_lt _ (by omega)
      have lw : ((ivs (wts b p)).length : Int) = (b : Int) := by rw [ivs_length, wts_len]
      have at1 : atI (ivs (wts b p)) ((m : Int) % ((ivs (wts b p)).length : Int)) = some (.int (((m % b) ^ p : Nat) : Int)) := by
        rw [lw, ← Int.natCast_emod]
        exact atI_nat (ivs_at (wts_get mb))
      refine ⟨_, rfl, _, rfl, _, rfl, _, rfl, w, _, rfl, .inl (.of ew), _, _, rfl, rfl, by show (0 : Int) < ((ivs (wts b p)).length : Int); omega, w, _, _, _, rfl, rfl, .of ew, at1, _, _, rfl, rfl, ?_⟩
      refine ⟨_, rfl, _, rfl, w, _, rfl, .inl (.of ew), _, _, rfl, rfl, divW 60 (by omega) (by omega), ?_⟩
      refine ⟨m / b, Nat.div_lt_self c (by omega), f + (m % b) ^ p, rfl, by rw [Int.natCast_ediv, Int.natCast_add, ← lw]; rfl, ?_⟩
      rw [stepN_rec hb ok.hp1 m] at e
      omega
    · rw [decide_eq_false (by omega)]
      have m0 : m = 0 := by omega
      subst m0
      rw [stepN_zero hb ok.hp1] at e
      refine iteF ⟨_, rfl, ?_⟩
      rw [show f = stepN b p n by omega]
      exact q

/-! ### _law_number_by -/
def sp__law_number_by (K : PySem.W.Frag) : Sp := fun vs H Q _ => ∃ (F : Addr) (ds : List Nat) (b : Nat), vs = [.ref F, .int (b : Int)] ∧ H F = some (.lst (ivs ds)) ∧ b ≤ 16 ∧ Q (.int ((val b ds : Nat) : Int)) H
theorem ok__law_number_by (T : Txt K mg) : FnOk P w K mg base CX0 1 T.f__law_number_by T.fd__law_number_by ["figures", "base"] (sp__law_number_by K) := by
  refine T.F__law_number_by.ok sc__law_number_by (fun vs H Q E h => ?_) (fun cdv A outer s H vs Q E hr h => ?_)
  · obtain ⟨_, _, _, rfl, _⟩ := h
    rfl
  · obtain ⟨F, ds, b, rfl, eF, hb, q⟩ := h
    refine ⟨_, (pss_cons (ps_set (i := 2) sc__law_number_by.nd rfl (Or.inl rfl) pe_int)
      (pss_cons (ps_for PassesOwn.never rfl (pi_list (pv 0)) (pg_name (i := 3) sc__law_number_by.nd rfl (Or.inl rfl)) (pss_one (ps_set (i := 2) sc__law_number_by.nd rfl (Or.inl rfl) (pe_op op_add (pe_op op_mul (pv 2) (pv 1)) (pv 3)))))
      (pss_one (ps_ret (pv 2))))), ?_⟩
    refine ⟨_, rfl, F, rfl, ⟨_, .of eF⟩, for_list (xs := ivs ds) (fun i σ' H' => H' = H ∧ ∃ y, σ' = [some (.ref F), some (.int (b : Int)), some (.int ((val b (ds.take i) : Nat) : Int)), y]) ⟨rfl, none, rfl⟩ ?_ ?_ ?_⟩
    · rintro i σ' H' hi ⟨rfl, _⟩
      exact .of eF
    · rintro i x σ' H' hx ⟨rfl, y, rfl⟩
      obtain ⟨k, hk, rfl⟩ := ivs_get hx
      refine ⟨_, rfl, _, rfl, _, _, rfl, rfl, .inr (by omega), _, rfl, _, _, rfl, rfl, rfl, some (.int (k : Int)), ?_⟩
      rw [val_take hk, Int.natCast_add, Int.natCast_mul]
      rfl
    · rintro σ' H' ⟨rfl, y, rfl⟩
      rw [ivs_length, List.take_length]
      exact ⟨_, rfl, q⟩

/-! ### _law_same -/
def sp__law_same (K : PySem.W.Frag) : Sp := fun vs H Q _ => ∃ o o' : Option Nat, vs = [optV o, optV o'] ∧ Q (.bl (decide (o = o'))) H
theorem ok__law_same (T : Txt K mg) : FnOk P w K mg base CX0 1 T.f__law_same T.fd__law_same ["found", "due"] (sp__law_same K) := by
  refine T.F__law_same.ok sc__law_same (fun vs H Q E h => ?_) (fun cdv A outer s H vs Q E hr h => ?_)
  · obtain ⟨_, _, rfl, _⟩ := h
    rfl
  · obtain ⟨o, o', rfl, q⟩ := h
    refine ⟨_, (pss_cons (ps_if (pt_cmpR op_isN (pv 1) pe_non (nomark _)) (pss_one (ps_ret (pe_cmpR op_isN (pv 0) pe_non (nomark _)))) pss_nil)
      (pss_cons (ps_if (pt_val (pe_callB (id := "isinstance") call_isi (by rfl) T.m_isinstance (by decide +kernel) (pa_cons (pv 1) (pa_cons (pe_bltn (v := .ty "tuple") (by rfl) T.m_tuple (by decide +kernel) rfl) pa_nil)))) (pss_cons ps_never
      (pss_one ps_never)) pss_nil)
      (pss_cons (ps_if (pt_val (pe_callB (id := "isinstance") call_isi (by rfl) T.m_isinstance (by decide +kernel) (pa_cons (pv 1) (pa_cons (pe_bltn (v := .ty "str") (by rfl) T.m_str (by decide +kernel) rfl) pa_nil)))) (pss_one ps_never) pss_nil)
      (pss_one (ps_ret (pe_and (pe_callB (id := "isinstance") call_isi (by rfl) T.m_isinstance (by decide +kernel) (pa_cons (pv 0) (pa_cons (pe_bltn (v := .ty "int") (by rfl) T.m_int (by decide +kernel) rfl) pa_nil))) (pe_and (pe_not (pe_callB (id := "isinstance") call_isi (by rfl) T.m_isinstance (by decide +kernel) (pa_cons (pv 0) (pa_cons (pe_bltn (v := .ty "bool") (by rfl) T.m_bool (by decide +kernel) rfl) pa_nil)))) (pe_one (pe_cmpR op_eq (pv 0) (pv 1) (nomark _)))))))))), ?_⟩
    cases o' with
    | none =>
      refine ⟨_, rfl, rfl, true, rfl, iteT ?_⟩
      cases o with
      | none => exact ⟨_, rfl, rfl, q⟩
      | some n => exact ⟨_, rfl, rfl, q⟩
    | some m =>
      refine ⟨_, rfl, rfl, false, rfl, iteF ?_⟩
      refine ⟨_, rfl, _, _, _, _, false, rfl, .ty "tuple", .base (.int _), kit_ty (by decide +kernel), false, rfl, iteF ?_⟩
      refine ⟨_, rfl, _, _, _, _, false, rfl, .ty "str", .base (.int _), kit_ty (by decide +kernel), false, rfl, iteF ?_⟩
      cases o with
      | none => exact ⟨_, rfl, _, _, _, _, false, rfl, .ty "int", .base .non, kit_ty (by decide +kernel), false, rfl, iteF q⟩
      | some n =>
        refine ⟨_, rfl, _, _, _, _, true, rfl, .ty "int", .base (.int _), kit_ty (by decide +kernel), true, rfl, iteT ?_⟩
        refine ⟨_, rfl, _, _, _, _, false, rfl, .ty "bool", .base (.int _), kit_ty (by decide +kernel), _, rfl, true, rfl, iteT ?_⟩
        refine ⟨_, rfl, _, rfl, rfl, ?_⟩
        have e : decide (V.int (n : Int) = V.int (m : Int)) = decide (some n = some m) := by
          rw [decide_eq_decide]
          constructor
          · intro z
            have := V.int.inj z
            rw [show n = m by omega]
          · intro z
            cases z
            rfl
        rw [← e] at q
        exact q

/-! ### _law_due -/
def sp__law_due (K : PySem.W.Frag) : Sp := fun vs H Q _ => ∃ (t b p : Nat) (W : Addr), vs = [.int (t : Int), .ref W] ∧ H W = some (.lst (ivs (wts b p))) ∧ OkN b p ∧ t ≤ 1000000 ∧ ∀ H' o, Same H H' → LeastG b p (1 <<< t) o → Q (optV o) H'
def W__law_due (t b p : Nat) (W : Addr) (H : Hp) (L : Addr) (m : Nat) (σ' : L2.St) (H' : Hp) : Prop := ∃ (k : Nat) (ms : List Nat) (y3 y4 : Option V), m = 41 - k ∧ k ≤ 41 ∧ σ' = [some (.int (t : Int)), some (.ref W), some (.ref L), y3, y4, none, none, none, none] ∧ Same H H' ∧ H' L = some (.lst (ivs ms)) ∧ ms.length = k + 1 ∧ (∀ (j : Nat) M, ms[j]? = some M → BitsZ b p t j M) ∧ ∀ j, j < k → ¬ NZ b p j t
def M__law_due (t b p : Nat) (W : Addr) (H : Hp) (L : Addr) (σ' : L2.St) (H' : Hp) : Prop := ∃ (k : Nat) (ms : List Nat) (y3 y4 : Option V), k ≤ 41 ∧ σ' = [some (.int (t : Int)), some (.ref W), some (.ref L), y3, y4, none, none, none, none] ∧ Same H H' ∧ H' L = some (.lst (ivs ms)) ∧ ms.length = k + 1 ∧ (∀ (j : Nat) M, ms[j]? = some M → BitsZ b p t j M) ∧ (∀ j, j < k → ¬ NZ b p j t) ∧ (k = 41 ∨ (k ≤ 40 ∧ NZ b p k t))
theorem val_append1 {b d : Nat} (ds : List Nat) : val b (ds ++ [d]) = val b ds * b + d := by
  unfold val
  rw [List.foldl_append]
  rfl
theorem take_last {ms : List Nat} {k M : Nat} (lm : ms.length = k + 1) (hM : ms[k]? = some M) : ms = ms.take k ++ [M] := by
  have e := List.take_add_one (l := ms) (i := k)
  rw [hM, ← lm, List.take_length] at e
  exact e
theorem ok__law_due (T : Txt K mg) : FnOk P w K mg base CX0 2 T.f__law_due T.fd__law_due ["total", "powers"] (sp__law_due K) := by
  refine T.F__law_due.ok sc__law_due (fun vs H Q E h => ?_) (fun cdv A outer s H vs Q E hr h => ?_)
  · obtain ⟨_, _, _, _, rfl, _⟩ := h
    rfl
  · obtain ⟨t, b, p, W, rfl, eW, ok, ht, q⟩ := h
    have hb := ok.hb
    have hb16 := ok.hb16
    have hp1 := ok.hp1
    refine ⟨_, (pss_cons (ps_set (i := 2) sc__law_due.nd rfl (Or.inl rfl) (pe_lst (pa_cons pe_int pa_nil)))
      (C8.pss_cut (ps_while PassesOwn.never (PW.pt (pw_and (pt_cmpR op_lt (pe_callB (id := "len") call_len_seq (by rfl) T.m_len (by decide +kernel) (pa_cons (pv 2) pa_nil)) pe_int (nomark _)) (pw_and1 (pt_cmpR op_eq (pe_op op_bandN (pe_op op_shrNN (pe_ix ix_list (pv 2) (pe_un un_neg pe_int) (fun _ _ => rfl)) (pv 0)) pe_int) pe_int (nomark _))))) (pss_cons (ps_set (i := 3) sc__law_due.nd rfl (Or.inr rfl) pe_int)
      (pss_cons (ps_for PassesOwn.never rfl (pi_list (pe_slice sl_list (pv 1) (po_some pe_int) po_none)) (pg_name (i := 4) sc__law_due.nd rfl (Or.inl rfl)) (pss_one (ps_set (i := 3) sc__law_due.nd rfl (Or.inr rfl) (pe_op op_borN (pv 3) (pe_op op_shlNN (pe_ix ix_list (pv 2) (pe_un un_neg pe_int) (fun _ _ => rfl)) (pv 4))))))
      (pss_one (ps_expr (pe_bm PySem.F.plainAttrs_list PySem.F.slot_list_append PySem.F.type_list_append mt_append (pv 2) (pa_cons (pe_op op_bandN (pv 3) (pe_op op_sub (pe_op op_shlNN pe_int (pe_op op_add (pv 0) pe_int)) pe_int)) pa_nil)))))))
      (pss_cons (ps_if (pt_cmpR op_gt (pe_callB (id := "len") call_len_seq (by rfl) T.m_len (by decide +kernel) (pa_cons (pv 2) pa_nil)) pe_int (nomark _)) (pss_one (ps_ret pe_non)) pss_nil)
      (pss_cons (ps_set (i := 5) sc__law_due.nd rfl (Or.inl rfl) (pe_lst pa_nil))
      (pss_cons (ps_set (i := 6) sc__law_due.nd rfl (Or.inr rfl) (pv 0))
      (pss_cons (ps_for PassesOwn.never rfl (pi_list (pe_revL (pe_slice sl_list (pv 2) po_none (po_some (pe_un un_neg pe_int))))) (pg_name (i := 3) sc__law_due.nd rfl (Or.inr rfl)) (pss_cons (ps_setLc (i := 7) (own := [("k", 8)]) (g := (gName 8)) rfl sc__law_due.nd rfl rfl (sw_true rfl rfl rfl (by decide +kernel)) (pi_range2 (by rfl) T.m_range (pa_cons pe_int (pa_cons (pe_callB (id := "len") call_len_seq (by rfl) T.m_len (by decide +kernel) (pa_cons (pv 1) pa_nil)) pa_nil))) (blkOk_by (own := [("k", 8)]) (N := ["total", "powers", "reach", "marks", "one", "figures", "left", "good", "k"]) (sc := defScope s__law_due) (by decide +kernel)) (fun _ _ _ _ _ => (pg_name (i := 8) sc__law_due.nd rfl (Or.inl rfl))) (fun _ _ _ _ _ => pts_one (PW.pt (pw_and (pt_cmpR op_le (pe_ix (show IxR _ (rIxL K) from ix_list) (pv 1) (pv 8) (fun _ _ => rfl)) (pv 6) (nomark _)) (pw_and1 (pt_cmpR op_eq (pe_op op_bandN (pe_op op_shrNN (pv 3) (pe_op op_sub (pv 6) (pe_ix (show IxR _ (rIxL K) from ix_list) (pv 1) (pv 8) (fun _ _ => rfl)))) pe_int) pe_int (nomark _)))))) (fun _ _ _ _ _ => (pv 8)))
      (pss_cons (ps_expr (pe_bm PySem.F.plainAttrs_list PySem.F.slot_list_append PySem.F.type_list_append mt_append (pv 5) (pa_cons (pe_ix ix_list (pv 7) pe_int (fun _ _ => rfl)) pa_nil)))
      (pss_one (ps_set (i := 6) sc__law_due.nd rfl (Or.inr rfl) (pe_op op_sub (pv 6) (pe_ix ix_list (pv 1) (pe_ix ix_list (pv 7) pe_int (fun _ _ => rfl)) (fun _ _ => rfl))))))))
      (pss_one (ps_ret (pe_call (ok__law_number_by T) hr (by rfl) T.g__law_number_by T.F__law_number_by.kp T.b__law_number_by .nil pass0 (pa_cons (pv 5) (pa_cons (pe_callB (id := "len") call_len_seq (by rfl) T.m_len (by decide +kernel) (pa_cons (pv 1) pa_nil)) pa_nil))))))))))), ?_⟩
    refine ⟨by show 1 ≤ sizeLine; decide, fun L hL => ?_⟩
    generalize g1 : upd H L _ = H1
    obtain ⟨s1, t1⟩ := new_of g1 hL
    have B0 : BitsZ b p t 0 1 := fun s => by
      rw [show (1 : Nat) = 1 <<< 0 from rfl, one_bit, decide_eq_true_iff]
      show s = 0 ↔ s ≤ t ∧ s = 0
      omega
    refine ⟨M__law_due t b p W H L, ?_, ?_⟩
    · refine ⟨W__law_due t b p W H L, ⟨41, 0, [1], none, none, rfl, Nat.zero_le _, rfl, s1, t1, rfl, fun j M e => ?_, fun j hj => by omega⟩, ?_⟩
      · have : j = 0 := by
          have := (List.getElem?_eq_some_iff.mp e).1
          simpa using this
        subst this
        cases e
        exact B0
      rintro m σ' H2 ⟨k, ms, y3, y4, rfl, k41, rfl, s2, t2, lm, B, few⟩
      obtain ⟨M, hM⟩ : ∃ M, ms[k]? = some M := ⟨_, List.getElem?_eq_getElem (by omega)⟩
      have BM := B _ _ hM
      have Ml := BM.lt
      have t2' := t2
      rw [take_last lm hM, ivs_append] at t2'
      have eW2 := s2 _ _ eW
      have lastM : atI (ivs (ms.take k) ++ ivs [M]) (-1) = some (.int (M : Int)) := atI_last _ _
      refine ⟨_, rfl, L, _, rfl, .inl (.of t2), _, _, rfl, rfl, _, rfl, ?_⟩
      rw [ivs_length, lm]
      by_cases kk : k = 41
      · subst kk
        refine iteF (iteF ?_)
        exact ⟨41, ms, y3, y4, k41, rfl, s2, t2, lm, B, few, .inl rfl⟩
      · rw [decide_eq_true (by omega)]
        refine iteT ⟨_, rfl, 1, rfl, L, _, -1, _, rfl, rfl, .of t2', lastM, _, rfl, M, t, rfl, rfl, M >>> t, 1, rfl, rfl, rfl, _, rfl, ite2 (fun c => ?_) (fun c => ?_)⟩
        · have c0 : M >>> t &&& 1 = 0 := by
            have := V.int.inj (of_decide_eq_true c)
            omega
          have nt : ¬ NZ b p k t := fun z => by
            have := (BM t).mpr ⟨Nat.le_refl _, z⟩
            rw [(low_bit M t).mp c0] at this
            cases this
          refine ⟨Nx (W__law_due t b p W H L) (41 - k), Nx.id, ?_⟩
          refine ⟨_, rfl, _, rfl, W, _, rfl, .of eW2, fun D hD => ?_⟩
          rw [show (some (1 : Int)) = some ((1 : Nat) : Int) from rfl, cut_ivs_from]
          generalize g3 : upd H2 D _ = H3
          obtain ⟨s3, t3⟩ := new_of g3 hD
          have t23 := s3 _ _ t2
          have t23' := s3 _ _ t2'
          refine ⟨D, rfl, ⟨_, .of t3⟩, for_list (xs := ivs ((wts b p).drop 1)) (fun i σ' H' => H' = H3 ∧ ∃ (X : Nat) (y4 : Option V), (∀ s, X.testBit s = true ↔ ∃ d, 1 ≤ d ∧ d ≤ i ∧ ∃ s', (s' ≤ t ∧ NZ b p k s') ∧ s' + d ^ p = s) ∧ σ' = [some (.int (t : Int)), some (.ref W), some (.ref L), some (.int (X : Int)), y4, none, none, none, none]) ⟨rfl, 0, y4, fun s => ⟨fun h => by simp at h, fun ⟨d, h1, h2, _⟩ => by omega⟩, rfl⟩ ?_ ?_ ?_⟩
          · rintro i σ' H' hi ⟨rfl, _⟩
            exact .of t3
          · rintro i x σ' H' hx ⟨rfl, X, y4, hX, rfl⟩
            obtain ⟨w, hw, rfl⟩ := ivs_get hx
            have hi := (List.getElem?_eq_some_iff.mp hw).1
            rw [List.length_drop, wts_len] at hi
            rw [List.getElem?_drop, wts_get (by omega)] at hw
            obtain rfl : (1 + i) ^ p = w := Option.some.inj hw
            have wl : (1 + i) ^ p ≤ 1024 := Nat.le_trans (pow_le_base (b := b) (by omega)) ok.worth.2
            refine ⟨_, rfl, _, rfl, 1, rfl, L, _, -1, _, rfl, rfl, .of t23', lastM, _, rfl, M, (1 + i) ^ p, rfl, rfl, shl_fit Ml (by omega), X, M <<< (1 + i) ^ p, rfl, rfl, rfl, X ||| M <<< (1 + i) ^ p, _, fun s => ?_, rfl⟩
            rw [Nat.testBit_or, Nat.testBit_shiftLeft, Bool.or_eq_true, Bool.and_eq_true, decide_eq_true_iff, hX]
            constructor
            · rintro (⟨d, h0, h1, s', h2, h3⟩ | ⟨h1, h2⟩)
              · exact ⟨d, h0, by omega, s', h2, h3⟩
              · exact ⟨1 + i, by omega, by omega, s - (1 + i) ^ p, (BM _).mp h2, by omega⟩
            · rintro ⟨d, h0, h1, s', h2, h3⟩
              by_cases c : d = 1 + i
              · subst c
                right
                exact ⟨by omega, by rw [show s - (1 + i) ^ p = s' by omega]; exact (BM s').mpr h2⟩
              · exact .inl ⟨d, h0, by omega, s', h2, h3⟩
          · rintro σ' H' ⟨rfl, X, y4, hX, rfl⟩
            rw [ivs_length, List.length_drop, wts_len] at hX
            have mk : (1 : Nat) <<< (t + 1) = 2 ^ (t + 1) := by rw [Nat.shiftLeft_eq, Nat.one_mul]
            have mp : 0 < (1 : Nat) <<< (t + 1) := by
              rw [mk]
              exact Nat.pow_pos (by decide)
            refine ⟨_, rfl, .inl ⟨rfl, _, .of t23⟩, _, rfl, _, rfl, _, _, rfl, rfl, 1, t + 1, rfl, rfl, shl_fit (c := 1) (by decide) (by omega), _, _, rfl, rfl, X, 1 <<< (t + 1) - 1, rfl, ?_, L, _, _, rfl, rfl, t23, small_len (by rw [ivs_length]; omega), ?_⟩
            · show V.int (((1 <<< (t + 1) : Nat) : Int) - 1) = V.int ((1 <<< (t + 1) - 1 : Nat) : Int)
              congr 1
              omega
            refine ⟨41 - (k + 1), by omega, k + 1, ms ++ [X &&& (1 <<< (t + 1) - 1)], _, _, rfl, by omega, rfl, same_own (s2.trans s3) hL, ?_, by rw [List.length_append, lm]; rfl, fun j N e => ?_, fun j hj => ?_⟩
            · rw [upd_same, ivs_append]
              rfl
            · by_cases cj : j < ms.length
              · rw [List.getElem?_append_left cj] at e
                exact B j N e
              · rw [List.getElem?_append_right (by omega)] at e
                have z : j - ms.length = 0 := by
                  have := (List.getElem?_eq_some_iff.mp e).1
                  simp at this
                  omega
                rw [z] at e
                cases e
                rw [show j = k + 1 by omega]
                intro s
                rw [Nat.testBit_and, mk, Nat.testBit_two_pow_sub_one, Bool.and_eq_true, decide_eq_true_iff, hX]
                constructor
                · rintro ⟨⟨d, h0, h1, s', h2, h3⟩, h4⟩
                  exact ⟨by omega, d, h0, by omega, s', h2.2, h3⟩
                · rintro ⟨h4, d, h0, h1, s', h2, h3⟩
                  exact ⟨⟨d, h0, by omega, s', ⟨by omega, h2⟩, h3⟩, by omega⟩
            · by_cases cj : j = k
              · subst cj
                exact nt
              · exact few j (by omega)
        · have c0 : ¬ (M >>> t &&& 1 = 0) := fun z => c (decide_eq_true (by rw [z]; rfl))
          have nz : NZ b p k t := by
            refine ((BM t).mp ?_).2
            cases e : M.testBit t with
            | true => rfl
            | false => exact absurd ((low_bit M t).mpr e) c0
          exact ⟨k, ms, y3, y4, k41, rfl, s2, t2, lm, B, few, .inr ⟨by omega, nz⟩⟩
    rintro σ' H2 ⟨k, ms, y3, y4, k41, rfl, s2, t2, lm, B, few, en⟩
    have eW2 := s2 _ _ eW
    refine ⟨_, rfl, L, _, rfl, .inl (.of t2), _, _, rfl, rfl, _, rfl, ?_⟩
    rw [ivs_length, lm]
    by_cases kk : k = 41
    · subst kk
      rw [decide_eq_true (by decide)]
      exact iteT (q H2 none s2 (least_none fun m => by
        obtain ⟨i, hi, g⟩ := rch_nz hb hp1 (meets_one.mp m)
        exact few i (by omega) g))
    rw [decide_eq_false (by omega)]
    refine iteF ?_
    obtain ⟨k40, nz⟩ : k ≤ 40 ∧ NZ b p k t := by
      rcases en with e | e
      · exact absurd e kk
      · exact e
    have few' := few_of hb hp1 few
    refine ⟨Nat.zero_le _, fun F hF => ?_⟩
    generalize g3 : upd H2 F _ = H3
    obtain ⟨s3, t3⟩ := new_of g3 hF
    refine ⟨_, rfl, ?_⟩
    have t23 := s3 _ _ t2
    have eW3 := s3 _ _ eW2
    refine ⟨_, rfl, 1, rfl, _, rfl, L, _, rfl, .of t23, fun X hX => ?_⟩
    have ec : cutV (ivs ms) none (some (-1)) = ivs (ms.take k) := by
      have h1 : cutV (ivs ms) none (some (-1)) = (ivs ms).take k := by
        unfold cutV
        rw [HT.sIx_none, List.drop_zero, Nat.sub_zero]
        congr 1
        rw [ivs_length, lm]
        show (if (-1 : Int) < 0 then ((-1 : Int) + ((k + 1 : Nat) : Int)).toNat else min (-1 : Int).toNat (k + 1)) = k
        rw [if_pos (by decide)]
        omega
      rw [h1]
      unfold ivs
      rw [List.map_take]
    rw [ec]
    generalize g4 : upd H3 X _ = H4
    obtain ⟨s4, t4⟩ := new_of g4 hX
    refine ⟨X, _, rfl, .of t4, fun R hR => ?_⟩
    rw [ivs_reverse]
    generalize g5 : upd H4 R _ = H5
    obtain ⟨s5, t5⟩ := new_of g5 hR
    have s35 := s4.trans s5
    have FR : F ≠ R := ne_of_none (s4 _ _ t3) hR
    have F0 : H F = none := s2.free hF
    have FW : W ≠ F := ne_of_none eW2 hF
    have lk : (ms.take k).length = k := by rw [List.length_take]; omega
    have lw : ((ivs (wts b p)).length : Int) = (b : Int) := by rw [ivs_length, wts_len]
    refine ⟨R, rfl, ⟨_, .of t5⟩, for_list (xs := ivs (ms.take k).reverse) (fun i σ' H' => But F H5 H' ∧ ∃ (ds : List Nat) (x : Nat) (y3 y4 y7 y8 : Option V), H' F = some (.lst (ivs ds)) ∧ ds.length = i ∧ i ≤ k ∧ x = val b ds ∧ stepN b p x ≤ t ∧ Pref b p (1 <<< t) k i x ∧ σ' = [some (.int (t : Int)), some (.ref W), some (.ref L), y3, y4, some (.ref F), some (.int ((t - stepN b p x : Nat) : Int)), y7, y8]) ⟨But.refl _ _, [], 0, y3, y4, none, none, s35 _ _ t3, rfl, Nat.zero_le _, rfl, by rw [stepN_zero hb hp1]; exact Nat.zero_le _, Pref.start hb hp1 (meets_one.mpr (nz.rch hb hp1)), by rw [stepN_zero hb hp1]; rfl⟩ ?_ ?_ ?_⟩
    · rintro i σ' H' hi ⟨z, _⟩
      exact .of (z _ _ FR.symm t5)
    · rintro i v σ' H6 hv ⟨b6, ds, x, y3, y4, y7, y8, eF, ld, ik, ex, xt, pf, rfl⟩
      obtain ⟨M, hM, rfl⟩ := ivs_get hv
      have hi : i < k := by
        have := (List.getElem?_eq_some_iff.mp hM).1
        rwa [List.length_reverse, lk] at this
      rw [List.getElem?_reverse (by omega), lk, List.getElem?_take_of_lt (by omega)] at hM
      have BM := B _ _ hM
      rw [show k - 1 - i = k - i - 1 by omega] at BM
      have eW6 := b6 _ _ FW (s35 _ _ eW3)
      have gw : ∀ d, d < b → atI (ivs (wts b p)) (d : Int) = some (.int ((d ^ p : Nat) : Int)) := fun d hd => atI_nat (ivs_at (wts_get hd))
      -- good
      refine ⟨_, rfl, W, _, rfl, .inl (.of eW6), ?_⟩
      refine ⟨1, _, rfl, by rw [lw]; omega, fun A hA => lc_range (lo := 1) (n := (((ivs (wts b p)).length : Int) - 1).toNat) (fun i' H' => Same H6 H' ∧ ∃ acc, H' A = some (.lst acc) ∧ acc.length ≤ i' ∧ ((acc = [] ∧ ∀ e, 1 ≤ e → e ≤ i' → ¬ Hit b p (1 <<< t) x (k - i - 1) e) ∨ ∃ d : Nat, acc[0]? = some (.int (d : Int)) ∧ 1 ≤ d ∧ d ≤ i' ∧ Hit b p (1 <<< t) x (k - i - 1) d ∧ ∀ e, 1 ≤ e → e < d → ¬ Hit b p (1 <<< t) x (k - i - 1) e)) ⟨Same.new hA, [], upd_same, Nat.le_refl _, .inl ⟨rfl, fun e h1 h2 => by omega⟩⟩ ?_ ?_⟩
      · rintro i' H7 hi' ⟨s7, acc, e7, l7, iv⟩
        have db : 1 + i' < b := by
          rw [lw] at hi'
          omega
        have ed : (1 : Int) + (i' : Int) = ((1 + i' : Nat) : Int) := by omega
        have hh := hit_iff hb hp1 pf hi few' db
        have eW7 := s7 _ _ eW6
        have gd := gw (1 + i') db
        rw [← ed] at gd
        have no : ¬ Hit b p (1 <<< t) x (k - i - 1) (1 + i') → Same H6 H7 ∧ ∃ acc, H7 A = some (.lst acc) ∧ acc.length ≤ i' + 1 ∧ ((acc = [] ∧ ∀ e, 1 ≤ e → e ≤ i' + 1 → ¬ Hit b p (1 <<< t) x (k - i - 1) e) ∨ ∃ d : Nat, acc[0]? = some (.int (d : Int)) ∧ 1 ≤ d ∧ d ≤ i' + 1 ∧ Hit b p (1 <<< t) x (k - i - 1) d ∧ ∀ e, 1 ≤ e → e < d → ¬ Hit b p (1 <<< t) x (k - i - 1) e) := fun nh => by
          refine ⟨s7, acc, e7, by omega, ?_⟩
          rcases iv with ⟨a0, h0⟩ | ⟨d, h1, h2, h3, h4, h5⟩
          · refine .inl ⟨a0, fun e x1 x2 => ?_⟩
            by_cases ce : e = 1 + i'
            · subst ce
              exact nh
            · exact h0 e x1 (by omega)
          · exact .inr ⟨d, h1, h2, by omega, h4, h5⟩
        refine ⟨rfl, _, rfl, _, rfl, W, _, _, _, rfl, rfl, .of eW7, gd, _, rfl, _, _, rfl, rfl, _, rfl, ite2 (fun c => ?_) (fun c => ?_)⟩
        · have c1 : (1 + i') ^ p ≤ t - stepN b p x := by
            have := of_decide_eq_true c
            omega
          refine ⟨_, rfl, _, rfl, _, rfl, _, rfl, W, _, _, _, rfl, rfl, .of eW7, gd, _, _, rfl, rfl, M, t - stepN b p x - (1 + i') ^ p, rfl, ?_, M >>> (t - stepN b p x - (1 + i') ^ p), 1, rfl, rfl, rfl, _, rfl, ite2 (fun c2 => ?_) (fun c2 => ?_)⟩
          · show V.int (((t - stepN b p x : Nat) : Int) - (((1 + i') ^ p : Nat) : Int)) = _
            congr 1
            omega
          · have c3 : M >>> (t - stepN b p x - (1 + i') ^ p) &&& 1 = 1 := by
              have := V.int.inj (of_decide_eq_true c2)
              omega
            have h := hh.mp ⟨by omega, ((BM _).mp ((low_bit1 _ _).mp c3)).2⟩
            refine ⟨_, rfl, acc, e7, small_len (by omega), same_own s7 hA, _, upd_same, by rw [List.length_append]; show _ + 1 ≤ _; omega, ?_⟩
            rcases iv with ⟨a0, h0⟩ | ⟨d, h1, h2, h3, h4, h5⟩
            · refine .inr ⟨1 + i', by rw [a0, ed]; rfl, by omega, by omega, h, fun e x1 x2 => h0 e x1 (by omega)⟩
            · refine .inr ⟨d, ?_, h2, by omega, h4, h5⟩
              rw [List.getElem?_append_left (List.getElem?_eq_some_iff.mp h1).1]
              exact h1
          · refine no fun h => ?_
            have := hh.mpr h
            refine c2 (decide_eq_true ?_)
            have c3 := (low_bit1 M _).mpr ((BM _).mpr ⟨by omega, this.2⟩)
            rw [c3]
            rfl
        · refine no fun h => ?_
          have := hh.mpr h
          exact c (decide_eq_true (by omega))
      rintro H7 ⟨s7, acc, e7, l7, iv⟩
      rw [lw, show ((b : Int) - 1).toNat = b - 1 by omega] at iv
      obtain ⟨d0, d0b, hd0⟩ := pf.hit hb hp1 hi
      have d01 : 1 ≤ d0 := by
        refine Nat.pos_of_ne_zero fun z => ?_
        subst z
        exact pf.nought hb hp1 hi few' hd0
      obtain ⟨d, a0, d1, db, hd, least⟩ : ∃ d : Nat, acc[0]? = some (.int (d : Int)) ∧ 1 ≤ d ∧ d ≤ b - 1 ∧ Hit b p (1 <<< t) x (k - i - 1) d ∧ ∀ e, 1 ≤ e → e < d → ¬ Hit b p (1 <<< t) x (k - i - 1) e := by
        rcases iv with ⟨_, h0⟩ | h
        · exact absurd hd0 (h0 d0 d01 (by omega))
        · exact h
      have pn := pf.next hb hp1 hi few' (by omega) hd least
      have eF7 := s7 _ _ eF
      have dt := ((hit_iff hb hp1 pf hi few' (show d < b by omega)).mpr hd).1
      have sp := stepN_push (x := x) hb hp1 (show d < b by omega)
      refine ⟨_, rfl, .inl ⟨rfl, _, .of eF7⟩, _, rfl, A, _, 0, _, rfl, rfl, .of e7, atI_nat (j := 0) a0, F, _, _, rfl, rfl, eF7, small_len (by rw [ivs_length]; omega), ?_⟩
      have AF : A ≠ F := (ne_of_none eF hA).symm
      have e7' : (upd H7 F (.lst (ivs ds ++ [.int (d : Int)]))) A = some (.lst acc) := by
        rw [upd_ne AF]
        exact e7
      have eW7' : (upd H7 F (.lst (ivs ds ++ [.int (d : Int)]))) W = some (.lst (ivs (wts b p))) := by
        rw [upd_ne FW]
        exact s7 _ _ eW6
      refine ⟨_, rfl, _, rfl, _, rfl, A, _, 0, _, rfl, rfl, .of e7', atI_nat (j := 0) a0, W, _, _, _, rfl, rfl, .of eW7', gw d (by omega), _, _, rfl, rfl, ?_⟩
      refine ⟨b6.trans ((But.of s7).trans But.set), ds ++ [d], x * b + d, some (.int (M : Int)), y4, some (.ref A), y8, ?_, by rw [List.length_append, ld]; rfl, hi, ?_, by rw [sp]; exact dt, pn, ?_⟩
      · rw [upd_same, ivs_append]
        rfl
      · rw [ex, val_append1]
      · rw [sp, show ((t - (stepN b p x + d ^ p) : Nat) : Int) = ((t - stepN b p x : Nat) : Int) - ((d ^ p : Nat) : Int) by omega]
        rfl
    · rintro σ' H6 ⟨b6, ds, x, y3, y4, y7, y8, eF, ld, ik, ex, xt, pf, rfl⟩
      rw [ivs_length, List.length_reverse, lk] at pf
      have eW6 := b6 _ _ FW (s35 _ _ eW3)
      refine ⟨_, rfl, _, rfl, W, _, rfl, .inl (.of eW6), F, ds, b, by rw [← lw]; rfl, eF, hb16, ?_⟩
      rw [← ex]
      exact q H6 (some x) (fun z o e => b6 _ _ (ne_of_none e F0) (s35 _ _ (s3 _ _ (s2 _ _ e)))) (pf.done hb hp1 few' k40)

/-! ### _law_by_trial -/
/-- the least one below four hundred, or none -/
def Trial (b p t : Nat) : Option Nat → Prop
  | some n => n < 400 ∧ stepN b p n = t ∧ ∀ x, x < n → stepN b p x ≠ t
  | none => ∀ x, x < 400 → stepN b p x ≠ t
def sp__law_by_trial (K : PySem.W.Frag) : Sp := fun vs H Q _ => ∃ (t b p : Nat) (W : Addr), vs = [.int (t : Int), .ref W] ∧ H W = some (.lst (ivs (wts b p))) ∧ OkN b p ∧ ∀ o, Trial b p t o → Q (optV o) H
theorem ok__law_by_trial (T : Txt K mg) : FnOk P w K mg base CX0 2 T.f__law_by_trial T.fd__law_by_trial ["total", "powers"] (sp__law_by_trial K) := by
  refine T.F__law_by_trial.ok sc__law_by_trial (fun vs H Q E h => ?_) (fun cdv A outer s H vs Q E hr h => ?_)
  · obtain ⟨_, _, _, _, rfl, _⟩ := h
    rfl
  · obtain ⟨t, b, p, W, rfl, eW, ok, q⟩ := h
    refine ⟨_, (pss_cons (ps_for PassesOwn.never rfl (pi_range1 (by rfl) T.m_range (pa_cons pe_int pa_nil)) (pg_name (i := 2) sc__law_by_trial.nd rfl (Or.inl rfl)) (pss_one (ps_if (pt_cmpR op_eq (pe_call (ok__law_step T) hr (by rfl) T.g__law_step T.F__law_step.kp T.b__law_step .nil pass0 (pa_cons (pv 2) (pa_cons (pv 1) pa_nil))) (pv 0) (nomark _)) (pss_one (ps_ret (pv 2))) pss_nil)))
      (pss_one (ps_ret pe_non))), ?_⟩
    refine ⟨400, rfl, by decide, by decide, for_range (lo := 0) (n := 400) (fun i σ' H' => H' = H ∧ (∀ x, x < i → stepN b p x ≠ t) ∧ ∃ y, σ' = [some (.int (t : Int)), some (.ref W), y]) ⟨rfl, fun x hx => by omega, none, rfl⟩ ?_ ?_⟩
    · rintro i σ' H' hi ⟨rfl, no, y, rfl⟩
      refine ⟨_, rfl, _, rfl, i, b, p, W, by rw [Int.zero_add]; rfl, eW, ok, _, rfl, rfl, _, rfl, ite2 (fun c => ?_) (fun c => ?_)⟩
      · have ce : stepN b p i = t := by
          have := V.int.inj (of_decide_eq_true c)
          omega
        have := q (some i) ⟨hi, ce, no⟩
        refine ⟨_, rfl, ?_⟩
        rw [Int.zero_add]
        exact this
      · refine ⟨rfl, fun x hx => ?_, _, rfl⟩
        by_cases cx : x = i
        · subst cx
          intro z
          exact c (decide_eq_true (by rw [z]))
        · exact no x (by omega)
    · rintro σ' H' ⟨rfl, no, y, rfl⟩
      exact q none no

/-! ### law -/
def sp_law (K : PySem.W.Frag) : Sp := fun vs H Q _ => ∃ (a : Addr) (ns : List Int), vs = [.ref a] ∧ SqL K H a (ns.map V.int) ∧ ns.length ≤ 63 ∧ (∀ z ∈ ns, PySem.Builtin.Int.intBits z ≤ 1048576) ∧ ∀ H', Q (.bl true) H'
theorem law_start {K : PySem.W.Frag} {H : Hp} {a : Addr} {ns : List Int} {E : XK} (hl : ns.length ≤ 63) (hb : ∀ z ∈ ns, PySem.Builtin.Int.intBits z ≤ 1048576) (hS : SqL K H a (ns.map V.int)) : sp_law K [.ref a] H (fun v _ => v = .bl true) E := ⟨a, ns, rfl, hS, hl, hb, fun _ => rfl⟩
theorem near_due {b p t : Nat} {o n : Option Nat} (hb : 2 ≤ b) (h : LeastG b p (1 <<< t) o) (g : Trial b p t n) : (∀ x, n = some x → o = some x) ∧ (n = none → ∀ x, o = some x → 400 ≤ x) := by
  have big : 400 < b ^ 40 := by
    have h1 : 2 ^ 40 ≤ b ^ 40 := Nat.pow_le_pow_left hb 40
    omega
  have bt : ∀ s, (1 <<< t).testBit s = true ↔ s = t := fun s => by rw [one_bit, decide_eq_true_iff]
  constructor
  · rintro x rfl
    obtain ⟨g1, g2, g3⟩ := g
    cases h with
    | one m h1 h2 h3 =>
      rcases Nat.lt_trichotomy m x with c | c | c
      · exact absurd ((bt _).mp h2) (g3 m c)
      · rw [c]
      · exact absurd ((bt _).mpr g2) (h3 x c)
    | not h => exact absurd ((bt _).mpr g2) (h x (by omega))
  · rintro rfl x rfl
    cases h with
    | one m h1 h2 h3 => exact Nat.le_of_not_lt fun c => g x c ((bt _).mp h2)
theorem ok_law (T : Txt K mg) : FnOk P w K mg base CX0 4 T.f_law T.fd_law ["script"] (sp_law K) := by
  refine T.F_law.ok sc_law (fun vs H Q E h => ?_) (fun cdv A outer s H vs Q E hr h => ?_)
  · obtain ⟨_, _, rfl, _⟩ := h
    rfl
  · obtain ⟨a, ns, rfl, hS, hl, hbits, q⟩ := h
    refine ⟨_, (pss_cons (ps_set (i := 1) sc_law.nd rfl (Or.inl rfl) (pe_call (ok__law_deck T) (hr.mono (by decide)) (by rfl) T.g__law_deck T.F__law_deck.kp T.b__law_deck .nil pass0 (pa_cons (pv 0) pa_nil)))
      (pss_cons (ps_for PassesOwn.never rfl (pi_range1 (by rfl) T.m_range (pa_cons pe_int pa_nil)) (pg_name (i := 2) sc_law.nd rfl (Or.inl rfl)) (pss_cons (ps_asg (pe_call (ok__law_pair T) (hr.mono (by decide)) (by rfl) T.g__law_pair T.F__law_pair.kp T.b__law_pair .nil pass0 (pa_cons (pv 1) pa_nil)) (pg_tup rfl (pgs_cons (pg_name (i := 3) sc_law.nd rfl (Or.inl rfl)) (pgs_cons (pg_name (i := 4) sc_law.nd rfl (Or.inl rfl)) pgs_nil))))
      (pss_cons (ps_set (i := 5) sc_law.nd rfl (Or.inl rfl) (pe_call (ok__law_powers T) (hr.mono (by decide)) (by rfl) T.g__law_powers T.F__law_powers.kp T.b__law_powers .nil pass0 (pa_cons (pv 3) (pa_cons (pv 4) pa_nil))))
      (pss_cons (ps_set (i := 6) sc_law.nd rfl (Or.inl rfl) (pe_op op_mul pe_int (pe_ix ix_list (pv 5) (pe_un un_neg pe_int) (fun _ _ => rfl))))
      (pss_cons (ps_set (i := 7) sc_law.nd rfl (Or.inl rfl) (pe_lst (pa_cons pe_int (pa_cons (pe_call (ok__law_draw T) (hr.mono (by decide)) (by rfl) T.g__law_draw T.F__law_draw.kp T.b__law_draw .nil pass0 (pa_cons (pv 1) (pa_cons pe_int pa_nil))) (pa_cons (pe_call (ok__law_draw T) (hr.mono (by decide)) (by rfl) T.g__law_draw T.F__law_draw.kp T.b__law_draw .nil pass0 (pa_cons (pv 1) (pa_cons (pe_op op_add (pe_op op_mul pe_int (pe_ix ix_list (pv 5) (pe_un un_neg pe_int) (fun _ _ => rfl))) pe_int) pa_nil))) (pa_cons (pe_call (ok__law_draw T) (hr.mono (by decide)) (by rfl) T.g__law_draw T.F__law_draw.kp T.b__law_draw .nil pass0 (pa_cons (pv 1) (pa_cons (pe_op op_add (pv 6) pe_int) pa_nil))) pa_nil))))))
      (pss_cons (ps_set (i := 7) sc_law.nd rfl (Or.inl rfl) (pe_op op_cat (pv 7) (pe_lst (pa_cons (pe_ix ix_list (pe_lst (pa_cons (pe_op op_sub (pv 6) pe_int) (pa_cons (pv 6) (pa_cons (pe_op op_add (pv 6) pe_int) pa_nil)))) (pe_call (ok__law_draw T) (hr.mono (by decide)) (by rfl) T.g__law_draw T.F__law_draw.kp T.b__law_draw .nil pass0 (pa_cons (pv 1) (pa_cons pe_int pa_nil))) (fun _ _ => rfl)) (pa_cons (pe_call (ok__law_draw T) (hr.mono (by decide)) (by rfl) T.g__law_draw T.F__law_draw.kp T.b__law_draw .nil pass0 (pa_cons (pv 1) (pa_cons (pe_op op_pow pe_int pe_int) pa_nil))) pa_nil)))))
      (pss_cons (ps_set (i := 7) sc_law.nd rfl (Or.inl rfl) (pe_op op_cat (pv 7) (pe_lst (pa_cons (pe_call (ok__law_step T) (hr.mono (by decide)) (by rfl) T.g__law_step T.F__law_step.kp T.b__law_step .nil pass0 (pa_cons (pe_call (ok__law_draw T) (hr.mono (by decide)) (by rfl) T.g__law_draw T.F__law_draw.kp T.b__law_draw .nil pass0 (pa_cons (pv 1) (pa_cons (pe_op op_pow pe_int pe_int) pa_nil))) (pa_cons (pv 5) pa_nil))) (pa_cons (pe_ix ix_list (pe_lst (pa_cons pe_int (pa_cons pe_int pa_nil))) (pe_call (ok__law_draw T) (hr.mono (by decide)) (by rfl) T.g__law_draw T.F__law_draw.kp T.b__law_draw .nil pass0 (pa_cons (pv 1) (pa_cons pe_int pa_nil))) (fun _ _ => rfl)) pa_nil)))))
      (pss_one (ps_for PassesOwn.never rfl (pi_list (pv 7)) (pg_name (i := 8) sc_law.nd rfl (Or.inl rfl)) (pss_cons (ps_set (i := 9) sc_law.nd rfl (Or.inl rfl) (pe_call (ok__law_due T) (hr.mono (by decide)) (by rfl) T.g__law_due T.F__law_due.kp T.b__law_due .nil pass0 (pa_cons (pv 8) (pa_cons (pv 5) pa_nil))))
      (pss_cons (ps_set (i := 10) sc_law.nd rfl (Or.inl rfl) (pe_call (ok__law_by_trial T) (hr.mono (by decide)) (by rfl) T.g__law_by_trial T.F__law_by_trial.kp T.b__law_by_trial .nil pass0 (pa_cons (pv 8) (pa_cons (pv 5) pa_nil))))
      (C8.pss_cut (ps_if (PW.pt (pw_or (PW.pt (pw_and (pt_cmpR op_notN (pv 10) pe_non (nomark _)) (pw_and1 (pt_cmpR op_ne (pv 10) (pv 9) (nomark _))))) (pw_or1 (PW.pt (pw_and (pt_cmpR op_isN (pv 10) pe_non (nomark _)) (pw_and (pt_cmpR op_notN (pv 9) pe_non (nomark _)) (pw_and1 (pt_cmpR op_lt (pv 9) pe_int (nomark _))))))))) (pss_one (ps_ret pe_bl)) pss_nil)
      (pss_cons (ps_if (pt_not (pt_val (pe_call (ok__law_same T) (hr.mono (by decide)) (by rfl) T.g__law_same T.F__law_same.kp T.b__law_same .nil pass0 (pa_cons (pe_call (ok_least_with T) hr (by rfl) T.g_least_with T.F_least_with.kp T.b_least_with .nil pass0 (pa_cons (pv 8) (pa_cons (pv 3) (pa_cons (pv 4) pa_nil)))) (pa_cons (pv 9) pa_nil))))) (pss_one (ps_ret pe_bl)) pss_nil)
      (pss_one (ps_if (PW.pt (pw_and (pt_cmpR op_lt (pv 8) pe_int (nomark _)) (pw_and1 (pt_cmpR op_ne (pe_call (ok_least_with T) hr (by rfl) T.g_least_with T.F_least_with.kp T.b_least_with .nil pass0 (pa_cons (pv 8) (pa_cons (pv 3) (pa_cons (pv 4) pa_nil)))) (pv 9) (nomark _))))) (pss_one (ps_ret pe_bl)) pss_nil)))))))))))))))
      (pss_one (ps_ret pe_bl)))), ?_⟩
    refine ⟨_, rfl, a, ns, 1048576, rfl, hS, hl, by decide, fun z hz => Nat.lt_of_lt_of_le (PyProof.Rows.natAbs_lt_pow_bits z) (Nat.pow_le_pow_right (by decide) (hbits z hz)), fun H1 d s1 nd D1 => ?_⟩
    refine ⟨5, rfl, by decide, by decide, for_range (lo := 0) (n := 5) (fun i σ' H' => Deck3 H' d (20 * i) ∧ ∃ y2 y3 y4 y5 y6 y7 y8 y9 y10, σ' = [some (.ref a), some (.ref d), y2, y3, y4, y5, y6, y7, y8, y9, y10]) ⟨D1, _, _, _, _, _, _, _, _, _, rfl⟩ ?_ ?_⟩
    · rintro i σ' H2 hi ⟨D2, y2, y3, y4, y5, y6, y7, y8, y9, y10, rfl⟩
      refine ⟨_, rfl, d, _, rfl, D2, by omega, fun H3 t b p b3 D3 nt et ok => ?_⟩
      have hb := ok.hb
      have wl := ok.worth
      refine ⟨t, _, rfl, .of et, rfl, _, _, rfl, _, _, rfl, rfl, ?_⟩
      refine ⟨_, rfl, _, rfl, b, p, rfl, ok.hb16, ok.hp, fun H4 W s4 nW eW => ?_⟩
      have D4 := D3.same s4
      have nWd := D3.out nW
      -- most
      have lastW : ∀ H' : Hp, H' W = some (.lst (ivs (wts b p))) → atI (ivs (wts b p)) (-1) = some (.int (((b - 1) ^ p : Nat) : Int)) := fun _ _ => wts_last (by omega)
      generalize hw : (b - 1) ^ p = w at wl lastW
      refine ⟨_, rfl, 1, rfl, W, _, -1, _, rfl, rfl, .of eW, lastW _ eW, _, _, rfl, rfl, .inl (by decide), ?_⟩
      -- totals
      refine ⟨_, rfl, d, 60, _, rfl, D4, by omega, by decide, by decide, fun H5 r5 b5 D5 u5 v5 => ?_⟩
      have e5 := b5 _ _ nWd eW
      refine ⟨_, rfl, _, rfl, 1, rfl, W, _, -1, _, rfl, rfl, .of e5, lastW _ e5, _, _, rfl, rfl, .inl (by decide), _, _, rfl, rfl, d, _, _, rfl, D5, by omega, by omega, by omega, fun H6 r6 b6 D6 u6 v6 => ?_⟩
      have e6 := b6 _ _ nWd e5
      refine ⟨_, rfl, _, rfl, _, _, rfl, rfl, d, _, _, rfl, D6, by omega, by omega, by omega, fun H7 r7 b7 D7 u7 v7 => ⟨by show 4 ≤ sizeLine; decide, fun A1 hA1 => ?_⟩⟩
      have e7 := b7 _ _ nWd e6
      generalize g8 : upd H7 A1 _ = H8
      obtain ⟨s8, t8⟩ := new_of g8 hA1
      have D8 := D7.same s8
      have n1 := D7.out hA1
      refine ⟨_, rfl, _, rfl, _, _, rfl, rfl, _, rfl, _, rfl, _, _, rfl, rfl, by show 3 ≤ sizeLine; decide, fun A2 hA2 => ?_⟩
      generalize g9 : upd H8 A2 _ = H9
      obtain ⟨s9, t9⟩ := new_of g9 hA2
      have D9 := D8.same s9
      have n2 := D8.out hA2
      refine ⟨_, rfl, d, 3, _, rfl, D9, by omega, by decide, by decide, fun Ha ra ba Da ua va => ?_⟩
      have ta := ba _ _ n2 t9
      obtain ⟨x4, x4l, ex4⟩ : ∃ x : Nat, x ≤ 1000000 ∧ atI [V.int (40 * (w : Int) - 1), V.int (40 * (w : Int)), V.int (40 * (w : Int) + 1)] ra = some (.int (x : Int)) := by
        have c3 : ra = 0 ∨ ra = 1 ∨ ra = 2 := by omega
        rcases c3 with rfl | rfl | rfl
        · exact ⟨40 * w - 1, by omega, by rw [show ((40 * w - 1 : Nat) : Int) = 40 * (w : Int) - 1 by omega]; rfl⟩
        · exact ⟨40 * w, by omega, by rw [show ((40 * w : Nat) : Int) = 40 * (w : Int) by omega]; rfl⟩
        · exact ⟨40 * w + 1, by omega, by rw [show ((40 * w + 1 : Nat) : Int) = 40 * (w : Int) + 1 by omega]; rfl⟩
      refine ⟨A2, _, _, _, rfl, rfl, .of ta, ex4, _, rfl, 10, 5, rfl, rfl, ⟨by decide, by decide, by decide⟩, d, _, _, rfl, Da, by omega, by decide, by decide, fun Hb rb bb Db ub vb => ⟨by show 2 ≤ sizeLine; decide, fun A3 hA3 => ?_⟩⟩
      generalize gc : upd Hb A3 _ = Hc
      obtain ⟨sc, tc⟩ := new_of gc hA3
      have t8c := sc _ _ (bb _ _ n1 (ba _ _ n1 (s9 _ _ t8)))
      refine ⟨A1, A3, _, _, rfl, rfl, t8c, tc, by show 6 ≤ sizeLine; decide, fun A4 hA4 => ?_⟩
      generalize gd : upd Hc A4 _ = Hd
      obtain ⟨sd, td⟩ := new_of gd hA4
      have Dd := (Db.same sc).same sd
      have n4 := (Db.same sc).out hA4
      -- two more
      have eWd := sd _ _ (sc _ _ (bb _ _ nWd (ba _ _ nWd (s9 _ _ (s8 _ _ e7)))))
      refine ⟨_, rfl, _, rfl, 10, 7, rfl, rfl, ⟨by decide, by decide, by decide⟩, d, _, _, rfl, Dd, by omega, by decide, by decide, fun He re be De ue ve => ?_⟩
      have eWe := be _ _ nWd eWd
      refine ⟨_, rfl, re.toNat, b, p, W, by rw [show ((re.toNat : Nat) : Int) = re by omega]; rfl, eWe, ok, ?_⟩
      have st : stepN b p re.toNat ≤ 1000000 := by
        have h24 : re.toNat < 2 ^ 24 := by
          have : (10 : Int) ^ (7 : Int).toNat = 10000000 := rfl
          omega
        have f1 : (figs b re.toNat).length ≤ 24 := by
          rw [figs_len]
          exact lsd_len_le hb 23 _ h24
        have := step_le_len (p := p) hb f1
        rw [hw] at this
        omega
      generalize stepN b p re.toNat = x6 at st
      refine ⟨by show 2 ≤ sizeLine; decide, fun A5 hA5 => ?_⟩
      generalize gf : upd He A5 _ = Hf
      obtain ⟨sf, tf⟩ := new_of gf hA5
      have Df := De.same sf
      have n5 := De.out hA5
      refine ⟨_, rfl, d, 2, _, rfl, Df, by omega, by decide, by decide, fun Hg rg bg Dg ug vg => ?_⟩
      have tg := bg _ _ n5 tf
      obtain ⟨x7, x7l, ex7⟩ : ∃ x : Nat, x ≤ 1000000 ∧ atI [V.int 40, V.int 41] rg = some (.int (x : Int)) := by
        have c2 : rg = 0 ∨ rg = 1 := by omega
        rcases c2 with rfl | rfl
        · exact ⟨40, by decide, rfl⟩
        · exact ⟨41, by decide, rfl⟩
      refine ⟨A5, _, _, _, rfl, rfl, .of tg, ex7, by show 2 ≤ sizeLine; decide, fun A6 hA6 => ?_⟩
      generalize gh : upd Hg A6 _ = Hh
      obtain ⟨sh, th⟩ := new_of gh hA6
      have t4h := sh _ _ (bg _ _ n4 (sf _ _ (be _ _ n4 td)))
      refine ⟨A4, A6, _, _, rfl, rfl, t4h, th, by show 8 ≤ sizeLine; decide, fun A7 hA7 => ?_⟩
      generalize gi : upd Hh A7 _ = Hi
      obtain ⟨si, ti⟩ := new_of gi hA7
      have Di := (Dg.same sh).same si
      have eWi := si _ _ (sh _ _ (bg _ _ nWd (sf _ _ eWe)))
      obtain ⟨ts, ets, bts⟩ : ∃ ts : List Nat, ([.int 0, .int r5, .int r6, .int r7] ++ [.int (x4 : Int), .int rb] ++ [.int (x6 : Int), .int (x7 : Int)] : List V) = ivs ts ∧ ∀ x ∈ ts, x ≤ 1000000 := by
        have h5 : (10 : Int) ^ (5 : Int).toNat = 100000 := rfl
        rw [h5] at vb
        refine ⟨[0, r5.toNat, r6.toNat, r7.toNat, x4, rb.toNat, x6, x7], ?_, ?_⟩
        · unfold ivs
          simp only [List.map_cons, List.map_nil, List.cons_append, List.nil_append]
          rw [show ((r5.toNat : Nat) : Int) = r5 by omega, show ((r6.toNat : Nat) : Int) = r6 by omega, show ((r7.toNat : Nat) : Int) = r7 by omega, show ((rb.toNat : Nat) : Int) = rb by omega]
          rfl
        · intro x hx
          simp only [List.mem_cons, List.not_mem_nil, or_false] at hx
          rcases hx with rfl | rfl | rfl | rfl | rfl | rfl | rfl | rfl <;> omega
      have ti' : Hi A7 = some (.lst (ivs ts)) := by
        rw [ti, ← ets]
      refine ⟨_, rfl, A7, rfl, ⟨_, .of ti'⟩, for_list (xs := ivs ts) (fun j σ' H' => Same Hi H' ∧ ∃ y8 y9 y10, σ' = [some (.ref a), some (.ref d), some (.int (0 + (i : Int))), some (.int (b : Int)), some (.int (p : Int)), some (.ref W), some (.int (40 * (w : Int))), some (.ref A7), y8, y9, y10]) ⟨Same.refl _, _, _, _, rfl⟩ ?_ ?_ ?_⟩
      · rintro j σ' H' hj ⟨z, _⟩
        exact .of (z _ _ ti')
      · rintro j x σ' Hj hx ⟨sj, y8, y9, y10, rfl⟩
        obtain ⟨u, hu, rfl⟩ := ivs_get hx
        have ub := bts u (List.mem_of_getElem? hu)
        have eWj := sj _ _ eWi
        refine ⟨_, rfl, _, rfl, u, b, p, W, rfl, eWj, ok, ub, fun Hk o sk lo => ?_⟩
        refine ⟨_, rfl, _, rfl, u, b, p, W, rfl, sk _ _ eWj, ok, fun n tn => ?_⟩
        obtain ⟨nd1, nd2⟩ := near_due hb lo tn
        refine ⟨fun σ' H' => H' = Hk ∧ σ' = [some (.ref a), some (.ref d), some (.int (0 + (i : Int))), some (.int (b : Int)), some (.int (p : Int)), some (.ref W), some (.int (40 * (w : Int))), some (.ref A7), some (.int (u : Int)), some (optV o), some (optV n)], ?_, ?_⟩
        · cases n with
          | some x =>
            obtain rfl := nd1 x rfl
            refine ⟨_, rfl, rfl, true, rfl, iteT ⟨_, rfl, _, rfl, rfl, false, ?_, iteF ?_⟩⟩
            · rw [decide_eq_true rfl]
              rfl
            · exact ⟨_, rfl, rfl, false, rfl, iteF (iteF ⟨rfl, rfl⟩)⟩
          | none =>
            refine ⟨_, rfl, rfl, false, rfl, iteF (iteF ?_)⟩
            refine ⟨_, rfl, rfl, true, rfl, iteT ?_⟩
            cases o with
            | none => exact ⟨_, rfl, rfl, false, rfl, iteF (iteF ⟨rfl, rfl⟩)⟩
            | some m =>
              have m4 := nd2 rfl m rfl
              refine ⟨_, rfl, rfl, true, rfl, iteT ⟨_, rfl, _, _, rfl, rfl, false, ?_, iteF ⟨rfl, rfl⟩⟩⟩
              show V.bl (decide ((m : Int) < 400)) = V.bl false
              rw [decide_eq_false (by omega)]
        rintro σ' H' ⟨rfl, rfl⟩
        refine ⟨_, rfl, _, rfl, _, rfl, u, b, p, rfl, ok, ub, fun Hl o2 sl lo2 => ?_⟩
        obtain rfl := lo2.uniq lo
        refine ⟨_, rfl, o2, o2, rfl, true, by rw [decide_eq_true rfl], iteF ?_⟩
        refine ⟨_, rfl, _, _, rfl, rfl, _, rfl, ite2 (fun c => ?_) (fun c => iteF ?_)⟩
        · refine ⟨_, rfl, _, rfl, _, rfl, u, b, p, rfl, ok, ub, fun Hm o3 sm lo3 => ?_⟩
          obtain rfl := lo3.uniq lo
          refine ⟨_, rfl, by cases o3 <;> rfl, _, rfl, iteNS rfl ?_⟩
          exact ⟨sj.trans (sk.trans (sl.trans sm)), _, _, _, rfl⟩
        · exact ⟨sj.trans (sk.trans sl), _, _, _, rfl⟩
      · rintro σ' Hj ⟨sj, y8, y9, y10, rfl⟩
        exact ⟨(Di.same sj).mono (by omega), _, _, _, _, _, _, _, _, _, rfl⟩
    · rintro σ' H2 ⟨D2, y2, y3, y4, y5, y6, y7, y8, y9, y10, rfl⟩
      exact q _

end
theorem all_mk {l : PySem.W.OpenLaw} {w : World} {K : PySem.W.Frag} {h : Heap} {mg : Str → Option Value} {fa f0 f1 f2 f3 f4 f5 f6 f7 f8 f9 f10 f11 f12 f13 f14 f15 : Addr} (X : K.In h) (G : h.Ns mainGlobals mg) (hfa : mg "law" = some (.ref fa))
    {od0 an0 od1 an1 od2 an2 od3 an3 od4 an4 od5 an5 od6 an6 od7 an7 od8 an8 od9 an9 od10 an10 od11 an11 od12 an12 od13 an13 od14 an14 od15 an15 : Option Addr} {sl0 sl1 sl2 sl3 sl4 sl5 sl6 sl7 sl8 sl9 sl10 sl11 sl12 sl13 sl14 sl15 : Array (Option Value)} {oc0 kV0 dc0 pm0 cd0 ct0 oc1 kV1 dc1 pm1 cd1 ct1 oc2 kV2 dc2 pm2 cd2 ct2 oc3 kV3 dc3 pm3 cd3 ct3 oc4 kV4 dc4 pm4 cd4 ct4 oc5 kV5 dc5 pm5 cd5 ct5 oc6 kV6 dc6 pm6 cd6 ct6 oc7 kV7 dc7 pm7 cd7 ct7 oc8 kV8 dc8 pm8 cd8 ct8 oc9 kV9 dc9 pm9 cd9 ct9 oc10 kV10 dc10 pm10 cd10 ct10 oc11 kV11 dc11 pm11 cd11 ct11 oc12 kV12 dc12 pm12 cd12 ct12 oc13 kV13 dc13 pm13 cd13 ct13 oc14 kV14 dc14 pm14 cd14 ct14 oc15 kV15 dc15 pm15 cd15 ct15 : Value}
    (a0 : PySem.W.nsIn K mainGlobals "power_of" = some (some (.ref f0))) (l0 : K.lookup f0 = some ⟨oc0, od0, .func (PySem.W.fnOf "power_of" "power_of" (defArgs s_power_of) (defBody s_power_of) (defScope s_power_of) .none kV0 dc0 pm0 an0 cd0 ct0), sl0⟩) (c0 : PySem.W.codeIn K cd0 "power_of" = true) (k0 : PySem.W.keepIn K (.ref f0) = true)
    (a1 : PySem.W.nsIn K mainGlobals "worths_of" = some (some (.ref f1))) (l1 : K.lookup f1 = some ⟨oc1, od1, .func (PySem.W.fnOf "worths_of" "worths_of" (defArgs s_worths_of) (defBody s_worths_of) (defScope s_worths_of) .none kV1 dc1 pm1 an1 cd1 ct1), sl1⟩) (c1 : PySem.W.codeIn K cd1 "worths_of" = true) (k1 : PySem.W.keepIn K (.ref f1) = true)
    (a2 : PySem.W.nsIn K mainGlobals "least_within" = some (some (.ref f2))) (l2 : K.lookup f2 = some ⟨oc2, od2, .func (PySem.W.fnOf "least_within" "least_within" (defArgs s_least_within) (defBody s_least_within) (defScope s_least_within) .none kV2 dc2 pm2 an2 cd2 ct2), sl2⟩) (c2 : PySem.W.codeIn K cd2 "least_within" = true) (k2 : PySem.W.keepIn K (.ref f2) = true)
    (a3 : PySem.W.nsIn K mainGlobals "sums_with_one_more" = some (some (.ref f3))) (l3 : K.lookup f3 = some ⟨oc3, od3, .func (PySem.W.fnOf "sums_with_one_more" "sums_with_one_more" (defArgs s_sums_with_one_more) (defBody s_sums_with_one_more) (defScope s_sums_with_one_more) .none kV3 dc3 pm3 an3 cd3 ct3), sl3⟩) (c3 : PySem.W.codeIn K cd3 "sums_with_one_more" = true) (k3 : PySem.W.keepIn K (.ref f3) = true)
    (a4 : PySem.W.nsIn K mainGlobals "least_of_sums" = some (some (.ref f4))) (l4 : K.lookup f4 = some ⟨oc4, od4, .func (PySem.W.fnOf "least_of_sums" "least_of_sums" (defArgs s_least_of_sums) (defBody s_least_of_sums) (defScope s_least_of_sums) .none kV4 dc4 pm4 an4 cd4 ct4), sl4⟩) (c4 : PySem.W.codeIn K cd4 "least_of_sums" = true) (k4 : PySem.W.keepIn K (.ref f4) = true)
    (a5 : PySem.W.nsIn K mainGlobals "least_with" = some (some (.ref f5))) (l5 : K.lookup f5 = some ⟨oc5, od5, .func (PySem.W.fnOf "least_with" "least_with" (defArgs s_least_with) (defBody s_least_with) (defScope s_least_with) .none kV5 dc5 pm5 an5 cd5 ct5), sl5⟩) (c5 : PySem.W.codeIn K cd5 "least_with" = true) (k5 : PySem.W.keepIn K (.ref f5) = true)
    (a6 : PySem.W.nsIn K mainGlobals "_law_deck" = some (some (.ref f6))) (l6 : K.lookup f6 = some ⟨oc6, od6, .func (PySem.W.fnOf "_law_deck" "_law_deck" (defArgs s__law_deck) (defBody s__law_deck) (defScope s__law_deck) .none kV6 dc6 pm6 an6 cd6 ct6), sl6⟩) (c6 : PySem.W.codeIn K cd6 "_law_deck" = true) (k6 : PySem.W.keepIn K (.ref f6) = true)
    (a7 : PySem.W.nsIn K mainGlobals "_law_draw" = some (some (.ref f7))) (l7 : K.lookup f7 = some ⟨oc7, od7, .func (PySem.W.fnOf "_law_draw" "_law_draw" (defArgs s__law_draw) (defBody s__law_draw) (defScope s__law_draw) .none kV7 dc7 pm7 an7 cd7 ct7), sl7⟩) (c7 : PySem.W.codeIn K cd7 "_law_draw" = true) (k7 : PySem.W.keepIn K (.ref f7) = true)
    (a8 : PySem.W.nsIn K mainGlobals "_law_powers" = some (some (.ref f8))) (l8 : K.lookup f8 = some ⟨oc8, od8, .func (PySem.W.fnOf "_law_powers" "_law_powers" (defArgs s__law_powers) (defBody s__law_powers) (defScope s__law_powers) .none kV8 dc8 pm8 an8 cd8 ct8), sl8⟩) (c8 : PySem.W.codeIn K cd8 "_law_powers" = true) (k8 : PySem.W.keepIn K (.ref f8) = true)
    (a9 : PySem.W.nsIn K mainGlobals "_law_pair" = some (some (.ref f9))) (l9 : K.lookup f9 = some ⟨oc9, od9, .func (PySem.W.fnOf "_law_pair" "_law_pair" (defArgs s__law_pair) (defBody s__law_pair) (defScope s__law_pair) .none kV9 dc9 pm9 an9 cd9 ct9), sl9⟩) (c9 : PySem.W.codeIn K cd9 "_law_pair" = true) (k9 : PySem.W.keepIn K (.ref f9) = true)
    (a10 : PySem.W.nsIn K mainGlobals "_law_step" = some (some (.ref f10))) (l10 : K.lookup f10 = some ⟨oc10, od10, .func (PySem.W.fnOf "_law_step" "_law_step" (defArgs s__law_step) (defBody s__law_step) (defScope s__law_step) .none kV10 dc10 pm10 an10 cd10 ct10), sl10⟩) (c10 : PySem.W.codeIn K cd10 "_law_step" = true) (k10 : PySem.W.keepIn K (.ref f10) = true)
    (a11 : PySem.W.nsIn K mainGlobals "_law_number_by" = some (some (.ref f11))) (l11 : K.lookup f11 = some ⟨oc11, od11, .func (PySem.W.fnOf "_law_number_by" "_law_number_by" (defArgs s__law_number_by) (defBody s__law_number_by) (defScope s__law_number_by) .none kV11 dc11 pm11 an11 cd11 ct11), sl11⟩) (c11 : PySem.W.codeIn K cd11 "_law_number_by" = true) (k11 : PySem.W.keepIn K (.ref f11) = true)
    (a12 : PySem.W.nsIn K mainGlobals "_law_same" = some (some (.ref f12))) (l12 : K.lookup f12 = some ⟨oc12, od12, .func (PySem.W.fnOf "_law_same" "_law_same" (defArgs s__law_same) (defBody s__law_same) (defScope s__law_same) .none kV12 dc12 pm12 an12 cd12 ct12), sl12⟩) (c12 : PySem.W.codeIn K cd12 "_law_same" = true) (k12 : PySem.W.keepIn K (.ref f12) = true)
    (a13 : PySem.W.nsIn K mainGlobals "_law_due" = some (some (.ref f13))) (l13 : K.lookup f13 = some ⟨oc13, od13, .func (PySem.W.fnOf "_law_due" "_law_due" (defArgs s__law_due) (defBody s__law_due) (defScope s__law_due) .none kV13 dc13 pm13 an13 cd13 ct13), sl13⟩) (c13 : PySem.W.codeIn K cd13 "_law_due" = true) (k13 : PySem.W.keepIn K (.ref f13) = true)
    (a14 : PySem.W.nsIn K mainGlobals "_law_by_trial" = some (some (.ref f14))) (l14 : K.lookup f14 = some ⟨oc14, od14, .func (PySem.W.fnOf "_law_by_trial" "_law_by_trial" (defArgs s__law_by_trial) (defBody s__law_by_trial) (defScope s__law_by_trial) .none kV14 dc14 pm14 an14 cd14 ct14), sl14⟩) (c14 : PySem.W.codeIn K cd14 "_law_by_trial" = true) (k14 : PySem.W.keepIn K (.ref f14) = true)
    (a15 : PySem.W.nsIn K mainGlobals "law" = some (some (.ref f15))) (l15 : K.lookup f15 = some ⟨oc15, od15, .func (PySem.W.fnOf "law" "law" (defArgs s_law) (defBody s_law) (defScope s_law) .none kV15 dc15 pm15 an15 cd15 ct15), sl15⟩) (c15 : PySem.W.codeIn K cd15 "law" = true) (k15 : PySem.W.keepIn K (.ref f15) = true)
    (z0 : PySem.W.nsIn K mainGlobals "abs" = some none)
    (z1 : PySem.W.nsIn K mainGlobals "bool" = some none)
    (z2 : PySem.W.nsIn K mainGlobals "int" = some none)
    (z3 : PySem.W.nsIn K mainGlobals "isinstance" = some none)
    (z4 : PySem.W.nsIn K mainGlobals "len" = some none)
    (z5 : PySem.W.nsIn K mainGlobals "max" = some none)
    (z6 : PySem.W.nsIn K mainGlobals "min" = some none)
    (z7 : PySem.W.nsIn K mainGlobals "range" = some none)
    (z8 : PySem.W.nsIn K mainGlobals "str" = some none)
    (z9 : PySem.W.nsIn K mainGlobals "tuple" = some none)
    (z10 : PySem.W.nsIn K mainGlobals "zip" = some none)
    {u0 : Tok} (y0 : PySem.W.nsIn K mainGlobals "MOST_FIGURES" = some (some (.int 40 u0)))
    : ∃ fd : FuncData, (∀ (s : Shared) (v : Value), BindsTo s fd ⟨[v], []⟩ [("script", v)]) ∧ ∀ base : Heap, K.In base → base.Ns mainGlobals mg → FnOk l.prog w K mg base CX0 4 fa fd ["script"] (sp_law K) := by
  have e := hfa.symm.trans (PySem.W.mg_of X G a15)
  cases e
  have F0 := fun_mk (st := s_power_of) l0 c0 k0
  have F1 := fun_mk (st := s_worths_of) l1 c1 k1
  have F2 := fun_mk (st := s_least_within) l2 c2 k2
  have F3 := fun_mk (st := s_sums_with_one_more) l3 c3 k3
  have F4 := fun_mk (st := s_least_of_sums) l4 c4 k4
  have F5 := fun_mk (st := s_least_with) l5 c5 k5
  have F6 := fun_mk (st := s__law_deck) l6 c6 k6
  have F7 := fun_mk (st := s__law_draw) l7 c7 k7
  have F8 := fun_mk (st := s__law_powers) l8 c8 k8
  have F9 := fun_mk (st := s__law_pair) l9 c9 k9
  have F10 := fun_mk (st := s__law_step) l10 c10 k10
  have F11 := fun_mk (st := s__law_number_by) l11 c11 k11
  have F12 := fun_mk (st := s__law_same) l12 c12 k12
  have F13 := fun_mk (st := s__law_due) l13 c13 k13
  have F14 := fun_mk (st := s__law_by_trial) l14 c14 k14
  have F15 := fun_mk (st := s_law) l15 c15 k15
  let T : Txt K mg := {
    f_power_of := f0,
    fd_power_of := _,
    F_power_of := F0,
    g_power_of := PySem.W.mg_of X G a0,
    b_power_of := F0.binds (ps := ["figure", "power"]) (fun _ _ _ _ _ _ us hl => match us, hl with | [_, _], _ => rfl),
    f_worths_of := f1,
    fd_worths_of := _,
    F_worths_of := F1,
    g_worths_of := PySem.W.mg_of X G a1,
    b_worths_of := F1.binds (ps := ["base", "power"]) (fun _ _ _ _ _ _ us hl => match us, hl with | [_, _], _ => rfl),
    f_least_within := f2,
    fd_least_within := _,
    F_least_within := F2,
    g_least_within := PySem.W.mg_of X G a2,
    b_least_within := F2.binds (ps := ["goals", "worths", "within"]) (fun _ _ _ _ _ _ us hl => match us, hl with | [_, _, _], _ => rfl),
    f_sums_with_one_more := f3,
    fd_sums_with_one_more := _,
    F_sums_with_one_more := F3,
    g_sums_with_one_more := PySem.W.mg_of X G a3,
    b_sums_with_one_more := F3.binds (ps := ["sums", "worths"]) (fun _ _ _ _ _ _ us hl => match us, hl with | [_, _], _ => rfl),
    f_least_of_sums := f4,
    fd_least_of_sums := _,
    F_least_of_sums := F4,
    g_least_of_sums := PySem.W.mg_of X G a4,
    b_least_of_sums := F4.binds (ps := ["goals", "worths"]) (fun _ _ _ _ _ _ us hl => match us, hl with | [_, _], _ => rfl),
    f_least_with := f5,
    fd_least_with := _,
    F_least_with := F5,
    g_least_with := PySem.W.mg_of X G a5,
    b_least_with := F5.binds (ps := ["total", "base", "power"]) (fun _ _ _ _ _ _ us hl => match us, hl with | [_, _, _], _ => rfl),
    f__law_deck := f6,
    fd__law_deck := _,
    F__law_deck := F6,
    g__law_deck := PySem.W.mg_of X G a6,
    b__law_deck := F6.binds (ps := ["script"]) (fun _ _ _ _ _ _ us hl => match us, hl with | [_], _ => rfl),
    f__law_draw := f7,
    fd__law_draw := _,
    F__law_draw := F7,
    g__law_draw := PySem.W.mg_of X G a7,
    b__law_draw := F7.binds (ps := ["deck", "most"]) (fun _ _ _ _ _ _ us hl => match us, hl with | [_, _], _ => rfl),
    f__law_powers := f8,
    fd__law_powers := _,
    F__law_powers := F8,
    g__law_powers := PySem.W.mg_of X G a8,
    b__law_powers := F8.binds (ps := ["base", "power"]) (fun _ _ _ _ _ _ us hl => match us, hl with | [_, _], _ => rfl),
    f__law_pair := f9,
    fd__law_pair := _,
    F__law_pair := F9,
    g__law_pair := PySem.W.mg_of X G a9,
    b__law_pair := F9.binds (ps := ["deck"]) (fun _ _ _ _ _ _ us hl => match us, hl with | [_], _ => rfl),
    f__law_step := f10,
    fd__law_step := _,
    F__law_step := F10,
    g__law_step := PySem.W.mg_of X G a10,
    b__law_step := F10.binds (ps := ["number", "powers"]) (fun _ _ _ _ _ _ us hl => match us, hl with | [_, _], _ => rfl),
    f__law_number_by := f11,
    fd__law_number_by := _,
    F__law_number_by := F11,
    g__law_number_by := PySem.W.mg_of X G a11,
    b__law_number_by := F11.binds (ps := ["figures", "base"]) (fun _ _ _ _ _ _ us hl => match us, hl with | [_, _], _ => rfl),
    f__law_same := f12,
    fd__law_same := _,
    F__law_same := F12,
    g__law_same := PySem.W.mg_of X G a12,
    b__law_same := F12.binds (ps := ["found", "due"]) (fun _ _ _ _ _ _ us hl => match us, hl with | [_, _], _ => rfl),
    f__law_due := f13,
    fd__law_due := _,
    F__law_due := F13,
    g__law_due := PySem.W.mg_of X G a13,
    b__law_due := F13.binds (ps := ["total", "powers"]) (fun _ _ _ _ _ _ us hl => match us, hl with | [_, _], _ => rfl),
    f__law_by_trial := f14,
    fd__law_by_trial := _,
    F__law_by_trial := F14,
    g__law_by_trial := PySem.W.mg_of X G a14,
    b__law_by_trial := F14.binds (ps := ["total", "powers"]) (fun _ _ _ _ _ _ us hl => match us, hl with | [_, _], _ => rfl),
    f_law := fa,
    fd_law := _,
    F_law := F15,
    g_law := PySem.W.mg_of X G a15,
    b_law := F15.binds (ps := ["script"]) (fun _ _ _ _ _ _ us hl => match us, hl with | [_], _ => rfl),
    m_abs := PySem.W.mg_none_of X G z0,
    m_bool := PySem.W.mg_none_of X G z1,
    m_int := PySem.W.mg_none_of X G z2,
    m_isinstance := PySem.W.mg_none_of X G z3,
    m_len := PySem.W.mg_none_of X G z4,
    m_max := PySem.W.mg_none_of X G z5,
    m_min := PySem.W.mg_none_of X G z6,
    m_range := PySem.W.mg_none_of X G z7,
    m_str := PySem.W.mg_none_of X G z8,
    m_tuple := PySem.W.mg_none_of X G z9,
    m_zip := PySem.W.mg_none_of X G z10,
    t_MOST_FIGURES := u0,
    c_MOST_FIGURES := PySem.W.mg_of X G y0 }
  exact ⟨_, fun s v => .of_eq rfl, fun base _ _ => ok_law T⟩
end Fx
open PySem PySem.W PyProof.Rows
set_option maxHeartbeats 0 in
theorem PySem.Challenge.cw_figurerounds_k16_least_with_holds : PySem.Challenge.rw_figurerounds_k16_least_with.Holds := by
  w_on; o_law; k_head; (case hw => w_witness2)
  k_fill
  refine L2.walk_ofB (l := PySem.Challenge.rw_figurerounds_k16_least_with) (n := 63) (k := 4) (x := "script") (CX := fun _ => L2.CX0) (sp := fun w => Fx.sp_law _) rfl (by decide) rfl ⟨rfl, by decide, by decide⟩ (fun w h Y => PySem.W.kIn_of Y) ?F (fun _ _ a ns hl hb _ hS => Fx.law_start hl hb hS) (fun _ _ _ _ _ h => h)
  case F =>
    intro w mg fa h KX G hmg
    refine' Fx.all_mk KX G hmg ?a0 ?l0 ?c0 ?k0 ?a1 ?l1 ?c1 ?k1 ?a2 ?l2 ?c2 ?k2 ?a3 ?l3 ?c3 ?k3 ?a4 ?l4 ?c4 ?k4 ?a5 ?l5 ?c5 ?k5 ?a6 ?l6 ?c6 ?k6 ?a7 ?l7 ?c7 ?k7 ?a8 ?l8 ?c8 ?k8 ?a9 ?l9 ?c9 ?k9 ?a10 ?l10 ?c10 ?k10 ?a11 ?l11 ?c11 ?k11 ?a12 ?l12 ?c12 ?k12 ?a13 ?l13 ?c13 ?k13 ?a14 ?l14 ?c14 ?k14 ?a15 ?l15 ?c15 ?k15 ?z0 ?z1 ?z2 ?z3 ?z4 ?z5 ?z6 ?z7 ?z8 ?z9 ?z10 ?y0
    (case a0 => k_is); (case l0 => k_is); (case c0 => k_is); (case k0 => k_is); (case a1 => k_is); (case l1 => k_is); (case c1 => k_is); (case k1 => k_is); (case a2 => k_is); (case l2 => k_is); (case c2 => k_is); (case k2 => k_is); (case a3 => k_is); (case l3 => k_is); (case c3 => k_is); (case k3 => k_is); (case a4 => k_is); (case l4 => k_is); (case c4 => k_is); (case k4 => k_is); (case a5 => k_is); (case l5 => k_is); (case c5 => k_is); (case k5 => k_is); (case a6 => k_is); (case l6 => k_is); (case c6 => k_is); (case k6 => k_is); (case a7 => k_is); (case l7 => k_is); (case c7 => k_is); (case k7 => k_is); (case a8 => k_is); (case l8 => k_is); (case c8 => k_is); (case k8 => k_is); (case a9 => k_is); (case l9 => k_is); (case c9 => k_is); (case k9 => k_is); (case a10 => k_is); (case l10 => k_is); (case c10 => k_is); (case k10 => k_is); (case a11 => k_is); (case l11 => k_is); (case c11 => k_is); (case k11 => k_is); (case a12 => k_is); (case l12 => k_is); (case c12 => k_is); (case k12 => k_is); (case a13 => k_is); (case l13 => k_is); (case c13 => k_is); (case k13 => k_is); (case a14 => k_is); (case l14 => k_is); (case c14 => k_is); (case k14 => k_is); (case a15 => k_is); (case l15 => k_is); (case c15 => k_is); (case k15 => k_is); (case z0 => k_is); (case z1 => k_is); (case z2 => k_is); (case z3 => k_is); (case z4 => k_is); (case z5 => k_is); (case z6 => k_is); (case z7 => k_is); (case z8 => k_is); (case z9 => k_is); (case z10 => k_is); (case y0 => k_is)
