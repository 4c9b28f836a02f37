import PyProof.Rows.All
import Wide.All
import OpenK.AllK
import Wide.FinOn
import HandS.ForMost
import HandS.Wide
import HandS.Style
import HandS.IsInst
import HandS.Conv
import HandS.Codes
import HandS.Walk
import KE.GoesEnum
import PySem.Challenge.RW_figurerounds_k08_whole_going_down
set_option Elab.async false
set_option linter.all false
set_option maxRecDepth 100000
set_option maxHeartbeats 4000000

/-! my own words for readings: "rd" goes on while there is one way only -/
local macro_rules | `(tactic| walk_at "cc") => `(tactic| first
  | (with_reducible exact rfl) | (dsimp only [CMul, CDivW]; omega) | (exact ⟨by decide +kernel, by decide +kernel⟩) | decide +kernel)
local macro_rules | `(tactic| walk_at "rd1") => `(tactic| first
  | refine ⟨_, rfl, ?_⟩ | refine ⟨_, _, rfl, rfl, ?_⟩ | refine ⟨rfl, ?_⟩)
local macro_rules | `(tactic| walk_at "rd") => `(tactic| repeat (walk_at "rd1"))

local macro_rules | `(tactic| walk_at "p") => `(tactic| ((show (0 : Int) < _); first | assumption | omega | decide))

namespace Fx
open PySem PySem.Spec PyProof.Rows L2

/-! ### rules named by their readings, for comprehensions -/
def rLenQ (K : PySem.W.Frag) : List V → Hp → VK → Prop := fun xs H Q => ∃ p ys, xs = [V.ref p] ∧ (SqL K H p ys ∨ SqT K H p ys) ∧ Q (.int ys.length) H
def rListQ (K : PySem.W.Frag) : List V → Hp → VK → Prop := fun xs H Q => ∃ p ys, xs = [V.ref p] ∧ (SqL K H p ys ∨ SqT K H p ys) ∧ ∀ l, H l = none → Q (.ref l) (upd H l (.lst ys))

/-! ### what stays -/
def But (d : Addr) (H H' : Hp) : Prop := ∀ b o, b ≠ d → H b = some o → H' b = some o
theorem But.refl (d : Addr) (H : Hp) : But d H H := fun _ _ _ h => h
theorem But.trans {d : Addr} {H H1 H2 : Hp} (a : But d H H1) (b : But d H1 H2) : But d H H2 := fun x o n h => b x o n (a x o n h)
theorem But.of {d : Addr} {H H' : Hp} (a : Same H H') : But d H H' := fun x o _ h => a x o h
theorem But.new {d p : Addr} {H : Hp} {o : HO} (h : H p = none) : But d H (upd H p o) := fun b u _ e => by
  rw [upd_ne (ne_of_none e h)]
  exact e
theorem But.set {d : Addr} {H : Hp} {o : HO} : But d H (upd H d o) := fun b u n e => by
  rw [upd_ne n]
  exact e
theorem But.fresh {d p : Addr} {H H' : Hp} (a : But d H H') (hd : ∃ o, H' d = some o) (h : H' p = none) : H p = none := by
  cases e : H p with
  | none => rfl
  | some o =>
    by_cases z : p = d
    · obtain ⟨u, hu⟩ := hd
      rw [z, hu] at h
      cases h
    · rw [a p o z e] at h
      cases h
theorem Same.new {p : Addr} {H : Hp} {o : HO} (h : H p = none) : Same H (upd H p o) := fun b u e => by
  rw [upd_ne (ne_of_none e h)]
  exact e

/-- behind a new object, named by «generalize g : upd H p _ = H'» -/
theorem new_of {H H' : Hp} {p : Addr} {o : HO} (g : upd H p o = H') (hp : H p = none) : Same H H' ∧ H' p = some o := by
  subst g
  exact ⟨Same.new hp, upd_same⟩
theorem set_of {H H' : Hp} {p : Addr} {o : HO} (g : upd H p o = H') : But p H H' ∧ H' p = some o := by
  subst g
  exact ⟨But.set, upd_same⟩

/-! ### the draws -/
/-- the cells at c, the deck at d, at most n draws so far -/
structure Deck (H : Hp) (d c : Addr) (n : Nat) : Prop where
  ex : ∃ (ns : List Int) (i l m t : Int), H d = some (.lst [.ref c, .int i, .int l, .int m, .int t]) ∧ H c = some (.lst (ns.map V.int)) ∧ 0 ≤ i ∧ i ≤ n ∧ 0 ≤ m ∧ m ≤ n
theorem Deck.there {H : Hp} {d c : Addr} {n : Nat} (h : Deck H d c n) : ∃ o, H d = some o := by
  obtain ⟨ns, i, l, m, t, e, _⟩ := h.ex
  exact ⟨_, e⟩
theorem Deck.some {H : Hp} {d c : Addr} {n : Nat} (h : Deck H d c n) : ∃ xs, H d = some (.lst xs) := by
  obtain ⟨ns, i, l, m, t, e, _⟩ := h.ex
  exact ⟨_, e⟩
theorem Deck.ne {H : Hp} {d c : Addr} {n : Nat} (h : Deck H d c n) : c ≠ d := by
  obtain ⟨ns, i, l, m, t, e, e2, _⟩ := h.ex
  intro z
  rw [z, e] at e2
  cases ns with
  | nil => cases e2
  | cons x r => cases e2
theorem Deck.mono {H : Hp} {d c : Addr} {n k : Nat} (h : Deck H d c n) (l : n ≤ k) : Deck H d c k := by
  obtain ⟨ns, i, l, m, t, e, e2, h1, h2, h3, h4⟩ := h.ex
  exact ⟨ns, i, l, m, t, e, e2, h1, by omega, h3, by omega⟩
theorem Deck.same {H H' : Hp} {d c : Addr} {n : Nat} (h : Deck H d c n) (a : Same H H') : Deck H' d c n := by
  obtain ⟨ns, i, l, m, t, e, e2, r⟩ := h.ex
  exact ⟨ns, i, l, m, t, a _ _ e, a _ _ e2, r⟩
theorem Deck.new {H : Hp} {d c p : Addr} {n : Nat} {o : HO} (h : Deck H d c n) (hp : H p = none) : Deck (upd H p o) d c n := h.same (Same.new hp)
/-- something else than the deck and its cells is written -/
theorem Deck.off {H : Hp} {d c p : Addr} {n : Nat} {o : HO} (h : Deck H d c n) (h1 : p ≠ d) (h2 : p ≠ c) : Deck (upd H p o) d c n := by
  obtain ⟨ns, i, l, m, t, e, e2, r⟩ := h.ex
  exact ⟨ns, i, l, m, t, by rw [upd_ne (Ne.symm h1)]; exact e, by rw [upd_ne (Ne.symm h2)]; exact e2, r⟩
/-- a list of our own grows -/
theorem But.own {d p : Addr} {H H' : Hp} {o : HO} (a : But d H H') (hp : H p = none) : But d H (upd H' p o) := fun b u n e => by
  rw [upd_ne (ne_of_none e hp)]
  exact a b u n e
theorem Deck.out {H : Hp} {d c p : Addr} {n : Nat} (h : Deck H d c n) (hp : H p = none) : p ≠ d ∧ p ≠ c := by
  obtain ⟨ns, i, l, m, t, e, e2, r⟩ := h.ex
  exact ⟨(ne_of_none e hp).symm, (ne_of_none e2 hp).symm⟩
/-- an object that is no list stays -/
theorem But.tup {d c p : Addr} {n : Nat} {H H' : Hp} {xs : List V} (a : But d H H') (h : Deck H d c n) (e : H p = some (.tup xs)) : H' p = some (.tup xs) := by
  obtain ⟨ys, q⟩ := h.some
  exact a p _ (ne_of e q (fun z => by cases z)) e

/-- a slice from the first on -/
theorem cut_to (xs : List V) (n : Nat) : cutV xs none (some (n : Int)) = xs.take n := by
  unfold cutV
  rw [HT.sIx_none, HT.sIx_nat]
  show List.take (min n xs.length - 0) (xs.drop 0) = _
  rw [List.drop_zero, Nat.sub_zero]
  by_cases h : n ≤ xs.length
  · rw [Nat.min_eq_left h]
  · rw [Nat.min_eq_right (by omega), List.take_length, List.take_of_length_le (by omega)]
/-- a slice from the n-th on -/
theorem cut_from (xs : List V) (n : Nat) : cutV xs (some (n : Int)) none = xs.drop n := by
  unfold cutV
  rw [HT.sIx_none, HT.sIx_nat]
  by_cases h : n ≤ xs.length
  · rw [Nat.min_eq_left h]
    exact List.take_of_length_le (by rw [List.length_drop]; omega)
  · rw [Nat.min_eq_right (by omega), Nat.sub_self, List.take_zero, List.drop_eq_nil_of_le (by omega)]

/-- a while's next turn -/
def Nx (W : Nat → L2.St → Hp → Prop) (m : Nat) : L2.St → Hp → Prop := fun σ' H' => ∃ m', m' < m ∧ W m' σ' H'
theorem Nx.id {W : Nat → L2.St → Hp → Prop} {m : Nat} : ∀ σ' H', Nx W m σ' H' → ∃ m', m' < m ∧ W m' σ' H' := fun _ _ h => h

theorem small5 {n : Nat} (h : n < 100000) : n < sizeLine := Nat.lt_of_lt_of_le h (by decide)

/-- a divisor's, a factor's bound -/
theorem divW {i j : Int} (b : Nat) (h : 0 < j) (hb : j < 2 ^ b) (h0 : 0 < b := by decide) (h9 : b ≤ 9000 := by decide) : CDivW i j := wide_div h (b := b) (by
  have e : ((2 ^ b : Nat) : Int) = (2 : Int) ^ b := by simp
  omega) h0 h9
end Fx

namespace Fx
open PySem PySem.Spec PyProof.Rows L2
/-! ### lists of numbers as they stand -/
def ivs (l : List Nat) : List V := l.map fun (k : Nat) => V.int (k : Int)
theorem ivs_map (l : List Nat) : ivs l = (l.map fun (k : Nat) => (k : Int)).map V.int := by
  unfold ivs
  rw [List.map_map]
  rfl
theorem ivs_append (l r : List Nat) : ivs (l ++ r) = ivs l ++ ivs r := List.map_append
theorem ivs_length (l : List Nat) : (ivs l).length = l.length := List.length_map ..
theorem ivs_reverse (l : List Nat) : (ivs l).reverse = ivs l.reverse := by
  unfold ivs
  rw [List.map_reverse]
theorem ivs_get {l : List Nat} {i : Nat} {x : V} (h : (ivs l)[i]? = some x) : ∃ k, l[i]? = some k ∧ x = V.int (k : Int) := by
  unfold ivs at h
  rw [List.getElem?_map] at h
  cases e : l[i]? with
  | none => rw [e] at h; cases h
  | some k =>
    rw [e] at h
    exact ⟨k, rfl, (Option.some.inj h).symm⟩
theorem ivs_at {l : List Nat} {i k : Nat} (h : l[i]? = some k) : (ivs l)[i]? = some (V.int (k : Int)) := by
  unfold ivs
  rw [List.getElem?_map, h]
  rfl
theorem sum_cast : ∀ l : List Nat, (l.map fun (k : Nat) => (k : Int)).sum = ((l.sum : Nat) : Int)
  | [] => rfl
  | a :: r => by
    rw [List.map_cons, List.sum_cons, List.sum_cons, sum_cast r]
    simp
theorem same_own {H H' : Hp} {p : Addr} {o : HO} (a : Same H H') (hp : H p = none) : Same H (upd H' p o) := fun b u e => by
  rw [upd_ne (ne_of_none e hp)]
  exact a b u e

/-! ### data that are compared -/
def dInts (l : List Int) : List PyData := l.map PyData.int
theorem dpAll_ints {K : PySem.W.Frag} {H : Hp} : ∀ l : List Int, DpAll K H (l.map V.int) (dInts l)
  | [] => .nil
  | a :: r => .cons (.int a) (dpAll_ints r)
theorem dpAll_ivs {K : PySem.W.Frag} {H : Hp} (l : List Nat) : DpAll K H (ivs l) (dInts (l.map fun (k : Nat) => (k : Int))) := by
  rw [ivs_map]
  exact dpAll_ints _
theorem canLay_ints : ∀ l : List Int, PyData.canLayAll0 (dInts l) = true
  | [] => rfl
  | a :: r => by
    unfold dInts
    rw [List.map_cons, PyData.canLayAll0]
    have h := canLay_ints r
    unfold dInts at h
    rw [h]
    rfl
theorem depth_ints : ∀ l : List Int, PyData.depthAll (dInts l) ≤ 1
  | [] => by unfold dInts; rw [List.map_nil]; unfold PyData.depthAll; decide
  | a :: r => by
    have h := depth_ints r
    unfold dInts at h ⊢
    rw [List.map_cons]
    unfold PyData.depthAll PyData.depth
    omega
theorem shaped_list {ds : List PyData} (h : PyData.canLayAll0 ds = true) (d : PyData.depthAll ds ≤ 60) : SeqAt.shaped (.list ds) = true := by
  unfold SeqAt.shaped
  rw [Bool.and_eq_true]
  refine ⟨by rw [PyData.canLay0]; exact h, decide_eq_true ?_⟩
  unfold PyData.depth
  omega
theorem shaped_tup {ds : List PyData} (h : PyData.canLayAll0 ds = true) (d : PyData.depthAll ds ≤ 60) : SeqAt.shaped (.tuple ds) = true := by
  unfold SeqAt.shaped
  rw [Bool.and_eq_true]
  refine ⟨by rw [PyData.canLay0]; exact h, decide_eq_true ?_⟩
  unfold PyData.depth
  omega
theorem shaped_ints (l : List Int) : SeqAt.shaped (.list (dInts l)) = true := shaped_list (canLay_ints l) (Nat.le_trans (depth_ints l) (by decide))
theorem shaped_tints (l : List Int) : SeqAt.shaped (.tuple (dInts l)) = true := shaped_tup (canLay_ints l) (Nat.le_trans (depth_ints l) (by decide))
theorem eqv_same {d : PyData} (h : SeqAt.shaped d = true) : PyData.eqv d d = true := SeqAt.eqv_refl d (SeqAt.canLay_of_shaped h)
end Fx

namespace Fx
/-! ### figures -/
/-- figures, the least place first -/
def lsd (b n : Nat) : List Nat := if h : 2 ≤ b ∧ b ≤ n then (n % b) :: lsd b (n / b) else [n]
termination_by n
decreasing_by exact Nat.div_lt_self (by omega) (by omega)
theorem lsd_lt {b n : Nat} (h : n < b) : lsd b n = [n] := by
  rw [lsd, dif_neg (by omega)]
theorem lsd_ge {b n : Nat} (hb : 2 ≤ b) (h : b ≤ n) : lsd b n = n % b :: lsd b (n / b) := by
  rw [lsd, dif_pos ⟨hb, h⟩]
theorem lsd_split {b r : Nat} (hb : 2 ≤ b) : lsd b r = r % b :: (if r / b = 0 then [] else lsd b (r / b)) := by
  by_cases h : b ≤ r
  · have : r / b ≠ 0 := by
      have := Nat.div_pos h (by omega)
      omega
    rw [if_neg this, lsd_ge hb h]
  · rw [if_pos (Nat.div_eq_of_lt (by omega)), lsd_lt (by omega), Nat.mod_eq_of_lt (by omega)]
theorem lsd_below {b : Nat} (hb : 2 ≤ b) : ∀ n : Nat, ∀ d ∈ lsd b n, d < b := fun n => by
  induction n using Nat.strongRecOn with
  | ind n ih =>
    intro d hd
    by_cases h : b ≤ n
    · rw [lsd_ge hb h] at hd
      rcases List.mem_cons.mp hd with rfl | hd
      · exact Nat.mod_lt _ (by omega)
      · exact ih (n / b) (Nat.div_lt_self (by omega) (by omega)) d hd
    · rw [lsd_lt (by omega)] at hd
      cases List.mem_singleton.mp hd
      omega
theorem lsd_ne {b n : Nat} : lsd b n ≠ [] := by
  rw [lsd]
  split <;> simp
theorem lsd_len {b : Nat} (hb : 2 ≤ b) : ∀ (k n : Nat), n < b ^ (k + 1) → (k = 0 ∨ b ^ k ≤ n) → (lsd b n).length = k + 1
  | 0, n, h, _ => by
    rw [Nat.zero_add, Nat.pow_one] at h
    rw [lsd_lt h]
    rfl
  | k + 1, n, h, g => by
    have g' : b ^ (k + 1) ≤ n := by
      rcases g with g | g
      · omega
      · exact g
    have p : 0 < b ^ k := Nat.pow_pos (by omega)
    have h1 : b ≤ n := by
      rw [Nat.pow_succ] at g'
      have := Nat.mul_le_mul_right b (show 1 ≤ b ^ k by omega)
      omega
    rw [lsd_ge hb h1, List.length_cons, lsd_len hb k (n / b)]
    · rw [Nat.div_lt_iff_lt_mul (by omega), ← Nat.pow_succ]
      exact h
    · right
      rw [Nat.le_div_iff_mul_le (by omega), ← Nat.pow_succ]
      exact g'
theorem lsd_get {b : Nat} (hb : 2 ≤ b) : ∀ (i n : Nat), i < (lsd b n).length → (lsd b n)[i]? = some (n / b ^ i % b)
  | 0, n, _ => by
    rw [lsd_split hb, Nat.pow_zero, Nat.div_one]
    rfl
  | i + 1, n, h => by
    rw [lsd_split hb] at h ⊢
    split at h
    · simp at h
    · rename_i hr
      rw [if_neg hr, List.getElem?_cons_succ, lsd_get hb i (n / b) (by simpa using h)]
      rw [Nat.div_div_eq_div_mul, Nat.pow_succ, Nat.mul_comm]
theorem lsd_len_le {b : Nat} (hb : 2 ≤ b) : ∀ (k n : Nat), n < 2 ^ (k + 1) → (lsd b n).length ≤ k + 1
  | 0, n, h => by
    rw [lsd_lt (by omega)]
    exact Nat.le_refl _
  | k + 1, n, h => by
    by_cases g : b ≤ n
    · rw [lsd_ge hb g, List.length_cons]
      have : n / b < 2 ^ (k + 1) := by
        rw [Nat.div_lt_iff_lt_mul (by omega)]
        have := Nat.mul_le_mul_left (2 ^ (k + 1)) hb
        rw [Nat.pow_succ] at h
        omega
      have := lsd_len_le hb k (n / b) this
      omega
    · rw [lsd_lt (by omega)]
      show 1 ≤ _
      omega
/-- figures, the greatest place first -/
def figs (b n : Nat) : List Nat := (lsd b n).reverse
theorem figs_len (b n : Nat) : (figs b n).length = (lsd b n).length := List.length_reverse ..
theorem figs_below {b n d : Nat} (hb : 2 ≤ b) (h : d ∈ figs b n) : d < b := lsd_below hb n d (List.mem_reverse.mp h)
theorem figs_le {b n : Nat} (hb : 2 ≤ b) (h : n < 2 ^ 900) : (figs b n).length ≤ 900 := by
  rw [figs_len]
  exact lsd_len_le hb 899 n h
/-! ### steps -/
def stepN (b p n : Nat) : Nat := ((figs b n).map (· ^ p)).sum
theorem sum_le_mul {l : List Nat} {m : Nat} (h : ∀ x ∈ l, x ≤ m) : l.sum ≤ l.length * m := by
  induction l with
  | nil => simp
  | cons a r ih =>
    rw [List.sum_cons, List.length_cons, Nat.succ_mul]
    have h1 := h a (List.mem_cons_self ..)
    have h2 := ih fun x hx => h x (List.mem_cons_of_mem _ hx)
    omega
theorem pow_le_base {d b p : Nat} (h : d < b) : d ^ p ≤ (b - 1) ^ p := Nat.pow_le_pow_left (by omega) p
theorem stepN_le {b p n : Nat} (hb : 2 ≤ b) : stepN b p n ≤ (figs b n).length * (b - 1) ^ p := by
  unfold stepN
  have := sum_le_mul (l := (figs b n).map (· ^ p)) (m := (b - 1) ^ p) fun x hx => by
    obtain ⟨d, hd, rfl⟩ := List.mem_map.mp hx
    exact pow_le_base (figs_below hb hd)
  rwa [List.length_map] at this
theorem worth_lt {b p : Nat} (hb : b ≤ 16) (hp : p ≤ 10) : (b - 1) ^ p < 2 ^ 40 := by
  have h1 : (b - 1) ^ p ≤ 15 ^ p := Nat.pow_le_pow_left (by omega) p
  have h2 : 15 ^ p ≤ 15 ^ 10 := Nat.pow_le_pow_right (by decide) hp
  have h3 : 15 ^ 10 < 2 ^ 40 := by decide
  omega
theorem stepN_lt {b p n : Nat} (hb : 2 ≤ b) (hb16 : b ≤ 16) (hp : p ≤ 10) (hn : n < 2 ^ 900) : stepN b p n < 2 ^ 50 := by
  have h1 := stepN_le (p := p) (n := n) hb
  have h2 := figs_le hb hn
  have h3 := worth_lt hb16 hp
  have h4 : (figs b n).length * (b - 1) ^ p ≤ 900 * 2 ^ 40 := Nat.mul_le_mul h2 (by omega)
  omega
/-- steps again and again -/
def itN (b p n : Nat) : Nat → Nat
  | 0 => n
  | k + 1 => stepN b p (itN b p n k)
theorem itN_lt {b p n : Nat} (hb : 2 ≤ b) (hb16 : b ≤ 16) (hp : p ≤ 10) (hn : n < 2 ^ 900) : ∀ k, itN b p n k < 2 ^ 900
  | 0 => hn
  | k + 1 => by
    have := stepN_lt hb hb16 hp (itN_lt hb hb16 hp hn k)
    have : itN b p n (k + 1) = stepN b p (itN b p n k) := rfl
    have e : (2 : Nat) ^ 50 ≤ 2 ^ 900 := Nat.pow_le_pow_right (by decide) (by decide)
    omega
def rowN (b p n : Nat) : Nat → List Nat
  | 0 => []
  | m + 1 => rowN b p n m ++ [itN b p n m]
theorem rowN_len (b p n : Nat) : ∀ m, (rowN b p n m).length = m
  | 0 => rfl
  | m + 1 => by
    rw [rowN, List.length_append, rowN_len b p n m]
    rfl
end Fx
namespace Fx
/-! ### the law's own figures -/
def powsN (b : Nat) : Nat → List Nat
  | 0 => []
  | k + 1 => powsN b k ++ [b ^ k]
theorem powsN_len (b : Nat) : ∀ k, (powsN b k).length = k
  | 0 => rfl
  | k + 1 => by
    rw [powsN, List.length_append, powsN_len b k]
    rfl
theorem powsN_get (b : Nat) : ∀ k i, i < k → (powsN b k)[i]? = some (b ^ i)
  | 0, _, h => by omega
  | k + 1, i, h => by
    rw [powsN]
    by_cases e : i = k
    · subst e
      rw [List.getElem?_append_right (by rw [powsN_len]; exact Nat.le_refl _), powsN_len, Nat.sub_self]
      rfl
    · rw [List.getElem?_append_left (by rw [powsN_len]; omega)]
      exact powsN_get b k i (by omega)
theorem powsN_rev {b k i : Nat} (h : i < k + 1) : (powsN b (k + 1)).reverse[i]? = some (b ^ (k - i)) := by
  rw [List.getElem?_reverse (by rw [powsN_len]; exact h), powsN_len, powsN_get b (k + 1) _ (by omega)]
  rw [show k + 1 - 1 - i = k - i by omega]
def fndN (b n k i : Nat) : List Nat := (List.range i).map fun t => n / b ^ (k - t) % b
theorem fndN_succ (b n k i : Nat) : fndN b n k (i + 1) = fndN b n k i ++ [n / b ^ (k - i) % b] := by
  unfold fndN
  rw [List.range_succ, List.map_append]
  rfl
theorem fndN_len (b n k i : Nat) : (fndN b n k i).length = i := by
  unfold fndN
  rw [List.length_map, List.length_range]
theorem fndN_all {b n k : Nat} (hb : 2 ≤ b) (h1 : n < b ^ (k + 1)) (h2 : k = 0 ∨ b ^ k ≤ n) : fndN b n k (k + 1) = figs b n := by
  have hl := lsd_len hb k n h1 h2
  refine List.ext_getElem? fun i => ?_
  by_cases hi : i < k + 1
  · unfold figs fndN
    rw [List.getElem?_reverse (by rw [hl]; exact hi), hl, lsd_get hb _ n (by rw [hl]; omega), List.getElem?_map, List.getElem?_range hi]
    have e : k + 1 - 1 - i = k - i := by omega
    rw [e]
    rfl
  · rw [List.getElem?_eq_none (by rw [fndN_len]; omega), List.getElem?_eq_none (by rw [figs_len, hl]; omega)]
theorem fig_div {b n j : Nat} : n % b ^ (j + 1) / b ^ j = n / b ^ j % b := by
  rw [Nat.pow_succ, Nat.mod_mul_right_div_self]
theorem fig_mod {b n j : Nat} : n % b ^ (j + 1) % b ^ j = n % b ^ j := by
  rw [Nat.pow_succ, Nat.mod_mul_right_mod]
theorem lt_pow' {b : Nat} (hb : 2 ≤ b) : ∀ k : Nat, k < b ^ k
  | 0 => by rw [Nat.pow_zero]; decide
  | k + 1 => by
    have := lt_pow' hb k
    rw [Nat.pow_succ]
    have := Nat.mul_le_mul_left (b ^ k) hb
    omega
open L2 in
theorem divN {x : Int} {j : Nat} (h0 : 0 < j) (h : j < 2 ^ 900) : CDivW x (j : Int) := wide_div (b := 900) (by omega) h (by decide) (by decide)
end Fx

namespace Fx
open PySem PySem.Spec PyProof.Rows L2
/-- the greatest power that a base lets -/
def mosts : List Int := [10, 9, 6, 4, 4, 3, 3, 3, 3, 3, 2, 2, 2, 2, 2]
def mostOf (b : Int) : Int := mosts.getD (b - 2).toNat 0
def OkPair (b p : Int) : Prop := 2 ≤ b ∧ b ≤ 16 ∧ 1 ≤ p ∧ p ≤ mostOf b
/-- all of a pair's places, to be shown one by one -/
def pairsAll : List (Int × Int) := (List.range 15).flatMap fun (i : Nat) => (List.range (mosts.getD i 0).toNat).map fun (j : Nat) => (((i : Nat) : Int) + 2, ((j : Nat) : Int) + 1)
theorem OkPair.mem {b p : Int} (h : OkPair b p) : (b, p) ∈ pairsAll := by
  obtain ⟨h1, h2, h3, h4⟩ := h
  refine List.mem_flatMap.mpr ⟨(b - 2).toNat, List.mem_range.mpr (by omega), List.mem_map.mpr ⟨(p - 1).toNat, List.mem_range.mpr ?_, ?_⟩⟩
  · unfold mostOf at h4
    omega
  · show (((b - 2).toNat : Int) + 2, ((p - 1).toNat : Int) + 1) = (b, p)
    rw [Prod.mk.injEq]
    omega
theorem OkPair.all {P : Int → Int → Prop} {b p : Int} (h : OkPair b p) (a : ∀ q ∈ pairsAll, P q.1 q.2) : P b p := a _ h.mem
theorem OkPair.le10 {b p : Int} (h : OkPair b p) : p ≤ 10 := h.all (P := fun _ p => p ≤ 10) (by decide +kernel)
/-- what the greatest figure is worth -/
def worth (b p : Int) : Int := (b - 1) ^ p.toNat
theorem OkPair.worth {b p : Int} (h : OkPair b p) : 1 ≤ worth b p ∧ worth b p ≤ 1000 + 24 := h.all (P := fun b p => 1 ≤ Fx.worth b p ∧ Fx.worth b p ≤ 1024) (by decide +kernel)
theorem most_pos {b : Int} (h1 : 2 ≤ b) (h2 : b ≤ 16) : 1 ≤ mostOf b ∧ mostOf b ≤ 10 := by
  have a : ∀ i ∈ List.range 15, 1 ≤ mosts.getD i 0 ∧ mosts.getD i 0 ≤ 10 := by decide +kernel
  exact a (b - 2).toNat (List.mem_range.mpr (by omega))
theorem most_at {b : Int} (h1 : 2 ≤ b) (h2 : b ≤ 16) : atI (mosts.map V.int) (b - 2) = some (.int (mostOf b)) := by
  have hi : (b - 2).toNat < mosts.length := by
    show (b - 2).toNat < 15
    omega
  have z : (mosts.map V.int)[(b - 2).toNat]? = some (.int (mostOf b)) := by
    rw [List.getElem?_map, List.getElem?_eq_getElem hi]
    unfold mostOf
    rw [List.getD_eq_getElem?_getD, List.getElem?_eq_getElem hi]
    rfl
  have y := atI_nat z
  rw [show (((b - 2).toNat : Nat) : Int) = b - 2 by omega] at y
  exact y
/-- a pair's tuple as it stands -/
def PairAt (H : Hp) (v : V) (b p : Int) : Prop := ∃ a, v = .ref a ∧ H a = some (.tup [.int b, .int p]) ∧ OkPair b p
theorem PairAt.but {H H' : Hp} {d c : Addr} {n : Nat} {v : V} {b p : Int} (h : PairAt H v b p) (D : Deck H d c n) (e : But d H H') : PairAt H' v b p := by
  obtain ⟨a, e1, e2, e3⟩ := h
  exact ⟨a, e1, e.tup D e2, e3⟩
theorem PairAt.same {H H' : Hp} {v : V} {b p : Int} (h : PairAt H v b p) (e : Same H H') : PairAt H' v b p := by
  obtain ⟨a, e1, e2, e3⟩ := h
  exact ⟨a, e1, e _ _ e2, e3⟩
theorem PairAt.upd {H : Hp} {D : Addr} {xs : List V} {o : HO} {v : V} {b p : Int} (h : PairAt H v b p) (e : H D = some (.lst xs)) : PairAt (upd H D o) v b p := by
  obtain ⟨a, e1, e2, e3⟩ := h
  exact ⟨a, e1, by rw [upd_ne (ne_of e2 e fun z => by cases z)]; exact e2, e3⟩
/-- all things of a list are pairs -/
def Pairs (H : Hp) (xs : List V) : Prop := ∀ v ∈ xs, ∃ b p, PairAt H v b p
theorem Pairs.mono {H H' : Hp} {xs : List V} (h : Pairs H xs) (k : ∀ v b p, PairAt H v b p → PairAt H' v b p) : Pairs H' xs := fun v hv => by
  obtain ⟨b, p, q⟩ := h v hv
  exact ⟨b, p, k v b p q⟩
theorem Pairs.app {H : Hp} {xs ys : List V} (h : Pairs H xs) (g : Pairs H ys) : Pairs H (xs ++ ys) := fun v hv => (List.mem_append.mp hv).elim (h v) (g v)
theorem Pairs.rev {H : Hp} {xs : List V} (h : Pairs H xs) : Pairs H xs.reverse := fun v hv => h v (List.mem_reverse.mp hv)
theorem Pairs.one {H : Hp} {v : V} {b p : Int} (h : PairAt H v b p) : Pairs H [v] := fun u hu => by
  cases List.mem_singleton.mp hu
  exact ⟨b, p, h⟩
/-- pairs drawn one by one: n at the start, k draws a pair -/
structure Drawn (H H' : Hp) (d c D : Addr) (n i : Nat) : Prop where
  but : But d H H'
  deck : Deck H' d c (n + 3 * i)
  list : ∃ acc, H' D = some (.lst acc) ∧ acc.length = i ∧ Pairs H' acc
theorem Drawn.next {H H1 H2 : Hp} {d c D p : Addr} {n i : Nat} {b pw : Int} (h : Drawn H H1 d c D n i) (hD : H D = none) (hd : D ≠ d) (hc : D ≠ c) (b1 : But d H1 H2) (D2 : Deck H2 d c (n + 3 * i + 3)) (e : H2 p = some (.tup [.int b, .int pw])) (ok : OkPair b pw) :
    ∃ acc, H2 D = some (.lst acc) ∧ acc.length = i ∧ Drawn H (L2.upd H2 D (.lst (acc ++ [.ref p]))) d c D n (i + 1) := by
  obtain ⟨acc, e1, e2, e3⟩ := h.list
  have e4 : H2 D = some (.lst acc) := b1 _ _ hd e1
  refine ⟨acc, e4, e2, (h.but.trans b1).own hD, D2.off hd hc, acc ++ [.ref p], upd_same, by rw [List.length_append, e2]; rfl, ?_⟩
  refine Pairs.app ?_ (Pairs.one (PairAt.upd ⟨p, rfl, e, ok⟩ e4))
  exact e3.mono fun v b p q => (q.but h.deck b1).upd e4
end Fx

namespace Fx
open PySem PySem.Spec PyProof.Rows L2
/-- the least length from which on numbers go down, w the worth of the greatest figure -/
structure IsLen (b w : Int) (L : Nat) : Prop where
  two : 2 ≤ L
  less : (L : Int) * w < b ^ (L - 1)
  least : ∀ k : Nat, 2 ≤ k → k < L → b ^ (k - 1) ≤ (k : Int) * w
theorem IsLen.uniq {b w : Int} {L M : Nat} (h : IsLen b w L) (g : IsLen b w M) : L = M := by
  rcases Nat.lt_trichotomy L M with l | l | l
  · have := g.least L h.two l
    have := h.less
    omega
  · exact l
  · have := h.least M g.two l
    have := g.less
    omega
theorem pow_mono {a b : Int} (h0 : 0 ≤ a) (h : a ≤ b) : ∀ n : Nat, a ^ n ≤ b ^ n
  | 0 => by rw [Int.pow_zero, Int.pow_zero]; exact Int.le_refl _
  | n + 1 => by
    rw [Int.pow_succ, Int.pow_succ]
    have i := pow_mono h0 h n
    have p : 0 ≤ a ^ n := Int.pow_nonneg h0
    exact Int.le_trans (Int.mul_le_mul_of_nonneg_right i h0) (Int.mul_le_mul_of_nonneg_left h (Int.le_trans p i))
theorem pow_pos {a : Int} (h : 0 < a) (n : Nat) : 0 < a ^ n := Int.pow_pos h
/-- at fifteen figures all is shown -/
theorem len15 {b w : Int} (h : 2 ≤ b) (hw : w ≤ 1024) : (15 : Int) * w < b ^ 14 := by
  have i := pow_mono (a := 2) (b := b) (by decide) h 14
  have e : (2 : Int) ^ 14 = 16384 := by decide
  omega
theorem len_step {b w : Int} {L : Nat} (h : ∀ k : Nat, 2 ≤ k → k < L → b ^ (k - 1) ≤ (k : Int) * w) (t : b ^ (L - 1) ≤ (L : Int) * w) : ∀ k : Nat, 2 ≤ k → k < L + 1 → b ^ (k - 1) ≤ (k : Int) * w := fun k h2 hk => by
  by_cases e : k = L
  · rw [e]
    exact t
  · exact h k h2 (by omega)
theorem len_lt {b w : Int} {L : Nat} (h : 2 ≤ b) (hw : w ≤ 1024) (l : L ≤ 15) (t : b ^ (L - 1) ≤ (L : Int) * w) : L < 15 := by
  by_cases e : L = 15
  · subst e
    have := len15 h hw
    have t' : b ^ 14 ≤ ((15 : Nat) : Int) * w := t
    omega
  · omega
/-- there is one -/
theorem len_ex {b w : Int} (h : 2 ≤ b) (hw : w ≤ 1024) : ∃ L : Nat, IsLen b w L ∧ L ≤ 15 := by
  have go : ∀ k L : Nat, 15 - L = k → 2 ≤ L → L ≤ 15 → (∀ j : Nat, 2 ≤ j → j < L → b ^ (j - 1) ≤ (j : Int) * w) → ∃ L : Nat, IsLen b w L ∧ L ≤ 15 := by
    intro k
    induction k with
    | zero =>
      intro L e l2 l15 ih
      refine ⟨L, ⟨l2, ?_, ih⟩, l15⟩
      obtain rfl : L = 15 := by omega
      exact len15 h hw
    | succ k ihk =>
      intro L e l2 l15 ih
      by_cases t : b ^ (L - 1) ≤ (L : Int) * w
      · exact ihk (L + 1) (by omega) (by omega) (by omega) (len_step ih t)
      · exact ⟨L, ⟨l2, by omega, ih⟩, l15⟩
  exact go 13 2 rfl (by decide) (by decide) fun j _ _ => by omega
end Fx

namespace Fx
/-! ### a step by its last figure, by parts -/
theorem zero_pow' {p : Nat} (h : 1 ≤ p) : 0 ^ p = 0 := Nat.zero_pow (by omega)
theorem stepN_lt_base {b p n : Nat} (h : n < b) : stepN b p n = n ^ p := by
  unfold stepN figs
  rw [lsd_lt h]
  show n ^ p + 0 = _
  omega
theorem stepN_zero {b p : Nat} (hb : 2 ≤ b) (hp : 1 ≤ p) : stepN b p 0 = 0 := by
  rw [stepN_lt_base (by omega), zero_pow' hp]
theorem sum_rev : ∀ l : List Nat, l.reverse.sum = l.sum
  | [] => rfl
  | a :: r => by
    rw [List.reverse_cons, List.sum_append, sum_rev r, List.sum_cons, List.sum_cons, List.sum_nil]
    omega
theorem stepN_lsd (b p n : Nat) : stepN b p n = ((lsd b n).map (· ^ p)).sum := by
  unfold stepN figs
  rw [List.map_reverse, sum_rev]
theorem stepN_rec {b p : Nat} (hb : 2 ≤ b) (hp : 1 ≤ p) (n : Nat) : stepN b p n = stepN b p (n / b) + (n % b) ^ p := by
  by_cases h : b ≤ n
  · rw [stepN_lsd, stepN_lsd, lsd_ge hb h, List.map_cons, List.sum_cons]
    omega
  · rw [stepN_lt_base (by omega), Nat.div_eq_of_lt (by omega), stepN_zero hb hp, Nat.mod_eq_of_lt (by omega)]
    omega
theorem stepN_push {b p x f : Nat} (hb : 2 ≤ b) (hp : 1 ≤ p) (hf : f < b) : stepN b p (x * b + f) = stepN b p x + f ^ p := by
  have e1 : (x * b + f) / b = x := by
    rw [Nat.mul_comm, Nat.mul_add_div (by omega), Nat.div_eq_of_lt hf]
    omega
  have e2 : (x * b + f) % b = f := by
    rw [Nat.mul_comm, Nat.mul_add_mod, Nat.mod_eq_of_lt hf]
  rw [stepN_rec hb hp, e1, e2]
theorem step_split {b p : Nat} (hb : 2 ≤ b) (hp : 1 ≤ p) : ∀ (k y r : Nat), r < b ^ k → stepN b p (y * b ^ k + r) = stepN b p y + stepN b p r
  | 0, y, r, h => by
    rw [Nat.pow_zero] at h
    have : r = 0 := by omega
    subst this
    rw [Nat.pow_zero, Nat.mul_one, stepN_zero hb hp]
    rfl
  | k + 1, y, r, h => by
    have e0 : y * b ^ (k + 1) + r = (y * b ^ k + r / b) * b + r % b := by
      have ep : b ^ k * b = b ^ (k + 1) := by rw [Nat.pow_succ]
      rw [Nat.add_mul, Nat.mul_assoc, ep]
      have := Nat.div_add_mod r b
      rw [Nat.mul_comm] at this
      omega
    have h1 : r / b < b ^ k := by
      rw [Nat.div_lt_iff_lt_mul (by omega), ← Nat.pow_succ]
      exact h
    rw [e0, stepN_push hb hp (Nat.mod_lt _ (by omega)), step_split hb hp k y (r / b) h1, stepN_rec hb hp r]
    omega
/-! ### lengths -/
theorem len_pow {b : Nat} (hb : 2 ≤ b) : ∀ n : Nat, 0 < n → b ^ ((figs b n).length - 1) ≤ n := fun n => by
  induction n using Nat.strongRecOn with
  | ind n ih =>
    intro h0
    by_cases h : b ≤ n
    · have i := ih (n / b) (Nat.div_lt_self (by omega) (by omega)) (Nat.div_pos h (by omega))
      rw [figs_len] at i ⊢
      rw [lsd_ge hb h, List.length_cons]
      have l0 : 0 < (lsd b (n / b)).length := List.length_pos_iff.mpr lsd_ne
      have e : (lsd b (n / b)).length + 1 - 1 = (lsd b (n / b)).length - 1 + 1 := by omega
      rw [e, Nat.pow_succ]
      have := Nat.mul_le_mul_right b i
      have := Nat.div_mul_le_self n b
      omega
    · rw [figs_len, lsd_lt (by omega)]
      exact h0
theorem len_gt {b n k : Nat} (hb : 2 ≤ b) (h : b ^ k ≤ n) : k < (figs b n).length := by
  refine Nat.lt_of_not_le fun z => ?_
  rw [figs_len] at z
  have up : ∀ m : Nat, n < b ^ (lsd b m).length ∨ m ≠ n := fun m => by
    by_cases e : m = n
    · subst e
      have go : ∀ m : Nat, m < b ^ (lsd b m).length := fun m => by
        induction m using Nat.strongRecOn with
        | ind m ih =>
          by_cases g : b ≤ m
          · rw [lsd_ge hb g, List.length_cons, Nat.pow_succ]
            have i := ih (m / b) (Nat.div_lt_self (by omega) (by omega))
            have := Nat.div_add_mod m b
            have := Nat.mod_lt m (show 0 < b by omega)
            have := Nat.mul_le_mul_right b (show m / b + 1 ≤ b ^ (lsd b (m / b)).length from i)
            rw [Nat.succ_mul, Nat.mul_comm (m / b) b] at this
            omega
          · rw [lsd_lt (by omega)]
            show m < b ^ 1
            rw [Nat.pow_one]
            omega
      exact .inl (go m)
    · exact .inr e
  rcases up n with u | u
  · have := Nat.pow_le_pow_right (show 0 < b by omega) z
    omega
  · exact u rfl
/-! ### what goes down -/
/-- the worth of the greatest figure -/
theorem worth_nat (b p : Nat) (hb : 1 ≤ b) : worth (b : Int) (p : Int) = (((b - 1) ^ p : Nat) : Int) := by
  unfold worth
  have e : (b : Int) - 1 = ((b - 1 : Nat) : Int) := by omega
  rw [e, Int.toNat_natCast, Int.natCast_pow]
theorem len_moreN {b w L : Nat} (h1 : L * w < b ^ (L - 1)) (hL : 2 ≤ L) (h2 : 2 ≤ b) : ∀ k : Nat, (L + k) * w < b ^ (L + k - 1)
  | 0 => h1
  | k + 1 => by
    have i := len_moreN h1 hL h2 k
    have e : b ^ (L + (k + 1) - 1) = b ^ (L + k - 1) * b := by
      rw [← Nat.pow_succ]
      congr 1
      omega
    have a1 : (L + (k + 1)) * w = (L + k) * w + w := by
      rw [← Nat.add_assoc, Nat.succ_mul]
    have a2 : w ≤ (L + k) * w := Nat.le_mul_of_pos_left w (by omega)
    have a3 : b ^ (L + k - 1) * 2 ≤ b ^ (L + k - 1) * b := Nat.mul_le_mul_left _ h2
    omega
theorem IsLen.nat {b p L : Nat} (hb : 2 ≤ b) (h : IsLen (b : Int) (worth (b : Int) (p : Int)) L) : L * (b - 1) ^ p < b ^ (L - 1) := by
  have := h.less
  rw [worth_nat b p (by omega), ← Int.natCast_mul, ← Int.natCast_pow] at this
  exact Int.ofNat_lt.mp this
theorem goes_down {b p L n : Nat} (hb : 2 ≤ b) (h : IsLen (b : Int) (worth (b : Int) (p : Int)) L) (hn : b ^ (L - 1) ≤ n) : stepN b p n < n := by
  have h1 := h.nat hb
  have l := len_gt hb hn
  have le := stepN_le (p := p) (n := n) hb
  have m := len_moreN h1 h.two hb ((figs b n).length - L)
  have h2 := h.two
  rw [show L + ((figs b n).length - L) = (figs b n).length by omega] at m
  have n0 : 0 < n := Nat.lt_of_lt_of_le (Nat.pow_pos (by omega)) hn
  have := len_pow hb n n0
  omega
/-- the greatest number whose step is no less -/
structure IsKept (b p G : Nat) : Prop where
  kept : G ≤ stepN b p G
  down : ∀ n, G < n → stepN b p n < n
theorem IsKept.uniq {b p G H : Nat} (h : IsKept b p G) (g : IsKept b p H) : G = H := by
  rcases Nat.lt_trichotomy G H with l | l | l
  · have := h.down H l
    have := g.kept
    omega
  · exact l
  · have := g.down G l
    have := h.kept
    omega
/-! ### place by place -/
def gain (b p j f : Nat) : Int := ((f ^ p : Nat) : Int) - (f : Int) * ((b ^ j : Nat) : Int)
def gainRow (b p j : Nat) : List Int := (List.range b).map (gain b p j)
theorem gainRow_len (b p j : Nat) : (gainRow b p j).length = b := by
  unfold gainRow
  rw [List.length_map, List.length_range]
theorem gainRow_get {b p j f : Nat} (h : f < b) : (gainRow b p j)[f]? = some (gain b p j f) := by
  unfold gainRow
  rw [List.getElem?_map, List.getElem?_range h]
  rfl
def rowMax (b p j : Nat) : Int := (gainRow b p j).max?.getD 0
theorem rowMax_spec {b p j : Nat} (hb : 2 ≤ b) : rowMax b p j ∈ gainRow b p j ∧ ∀ y ∈ gainRow b p j, y ≤ rowMax b p j := by
  unfold rowMax
  cases e : (gainRow b p j).max? with
  | none =>
    rw [List.max?_eq_none_iff] at e
    have := gainRow_len b p j
    rw [e] at this
    have e0 : (0 : Nat) = b := this
    omega
  | some m =>
    exact (List.max?_eq_some_iff).mp e
theorem rowMax_uniq {b p j : Nat} {m : Int} (hb : 2 ≤ b) (h1 : m ∈ gainRow b p j) (h2 : ∀ y ∈ gainRow b p j, y ≤ m) : m = rowMax b p j := by
  have s := rowMax_spec (p := p) (j := j) hb
  have := h2 _ s.1
  have := s.2 _ h1
  omega
theorem gain_le {b p j f : Nat} (hb : 2 ≤ b) (h : f < b) : gain b p j f ≤ rowMax b p j := (rowMax_spec hb).2 _ (List.mem_of_getElem? (gainRow_get h))
def restMax (b p : Nat) : Nat → Int
  | 0 => 0
  | k + 1 => restMax b p k + rowMax b p k
/-- what a number's step has beyond it, its figures at k places behind -/
def over (b p x k : Nat) : Int := (stepN b p x : Int) - (x : Int) * ((b ^ k : Nat) : Int)
theorem over_push {b p x k f : Nat} (hb : 2 ≤ b) (hp : 1 ≤ p) (hf : f < b) : over b p (x * b + f) k = over b p x (k + 1) + gain b p k f := by
  unfold over gain
  rw [stepN_push hb hp hf, Nat.pow_succ]
  simp only [Int.natCast_add, Int.natCast_mul, Int.add_mul, Int.mul_assoc, Int.mul_comm, Int.mul_left_comm]
  omega
theorem over_split {b p k y r : Nat} (hb : 2 ≤ b) (hp : 1 ≤ p) (h : r < b ^ k) : over b p (y * b ^ k + r) 0 = over b p y k + over b p r 0 := by
  unfold over
  rw [step_split hb hp k y r h]
  simp only [Int.natCast_add, Int.natCast_mul, Nat.pow_zero]
  omega
theorem rest_bound {b p : Nat} (hb : 2 ≤ b) (hp : 1 ≤ p) : ∀ k r : Nat, r < b ^ k → over b p r 0 ≤ restMax b p k
  | 0, r, h => by
    rw [Nat.pow_zero] at h
    obtain rfl : r = 0 := by omega
    unfold over restMax
    rw [stepN_zero hb hp]
    simp
  | k + 1, r, h => by
    have e : r / b ^ k < b := by
      rw [Nat.div_lt_iff_lt_mul (Nat.pow_pos (by omega)), Nat.mul_comm, ← Nat.pow_succ]
      exact h
    have e0 : r = r / b ^ k * b ^ k + r % b ^ k := by
      have := Nat.div_add_mod r (b ^ k)
      rw [Nat.mul_comm] at this
      omega
    have lt := Nat.mod_lt r (show 0 < b ^ k from Nat.pow_pos (by omega))
    have i := rest_bound hb hp k (r % b ^ k) lt
    have g := gain_le (p := p) (j := k) hb e
    have z : over b p (r / b ^ k) k = gain b p k (r / b ^ k) := by
      unfold over gain
      rw [stepN_lt_base e]
    rw [e0, over_split hb hp lt, z]
    show _ ≤ restMax b p k + rowMax b p k
    omega
/-- the greatest figures one by one: m places to come, x so far, what is to spare -/
structure Greedy (b p M m x : Nat) (spare : Int) : Prop where
  is : spare = over b p x m + restMax b p m
  pos : 0 ≤ spare
  most : ∀ n, n < b ^ M → n ≤ stepN b p n → n / b ^ m ≤ x
theorem restMax_pos {b p : Nat} (hb : 2 ≤ b) (hp : 1 ≤ p) (k : Nat) : 0 ≤ restMax b p k := by
  have := rest_bound hb hp k 0 (Nat.pow_pos (by omega))
  unfold over at this
  rw [stepN_zero hb hp] at this
  simp at this
  exact this
theorem Greedy.start {b p : Nat} (hb : 2 ≤ b) (hp : 1 ≤ p) (M : Nat) : Greedy b p M M 0 (restMax b p M) := by
  refine ⟨?_, restMax_pos hb hp M, fun n h _ => ?_⟩
  · unfold over
    rw [stepN_zero hb hp]
    simp
  · rw [Nat.div_eq_of_lt h]
    exact Nat.le_refl 0
theorem Greedy.next {b p M m x f : Nat} {spare : Int} (hb : 2 ≤ b) (hp : 1 ≤ p) (g : Greedy b p M (m + 1) x spare) (hf : f < b) (h1 : rowMax b p m - spare ≤ gain b p m f)
    (h2 : ∀ e, e < b → rowMax b p m - spare ≤ gain b p m e → e ≤ f) : Greedy b p M m (x * b + f) (spare - rowMax b p m + gain b p m f) := by
  have gi := g.is
  refine ⟨?_, by omega, fun n hn hk => ?_⟩
  · rw [over_push hb hp hf]
    have : restMax b p (m + 1) = restMax b p m + rowMax b p m := rfl
    omega
  · have y1 := g.most n hn hk
    have ed : n / b ^ (m + 1) = n / b ^ m / b := by rw [Nat.pow_succ, Nat.div_div_eq_div_mul]
    rw [ed] at y1
    generalize hy : n / b ^ m = y at y1 ⊢
    have yy := Nat.div_add_mod y b
    have yl := Nat.mod_lt y (show 0 < b by omega)
    by_cases c : y / b = x
    · have e0 : n = y * b ^ m + n % b ^ m := by
        have := Nat.div_add_mod n (b ^ m)
        rw [hy, Nat.mul_comm] at this
        omega
      have lt := Nat.mod_lt n (show 0 < b ^ m from Nat.pow_pos (by omega))
      have r1 := rest_bound hb hp m (n % b ^ m) lt
      have o1 : 0 ≤ over b p n 0 := by
        unfold over
        simp only [Nat.pow_zero]
        omega
      rw [e0, over_split hb hp lt] at o1
      have ey : y = x * b + y % b := by
        rw [← c, Nat.mul_comm]
        exact yy.symm
      rw [ey, over_push hb hp yl] at o1
      have rm : restMax b p (m + 1) = restMax b p m + rowMax b p m := rfl
      have := h2 (y % b) yl (by omega)
      rw [ey]
      omega
    · have : y / b + 1 ≤ x := by omega
      have := Nat.mul_le_mul_right b this
      rw [Nat.succ_mul, Nat.mul_comm (y / b) b] at this
      omega
theorem Greedy.done {b p L x : Nat} {spare : Int} (hb : 2 ≤ b) (h : IsLen (b : Int) (worth (b : Int) (p : Int)) L) (g : Greedy b p (L - 1) 0 x spare) : IsKept b p x := by
  have gi := g.is
  have gp := g.pos
  refine ⟨?_, fun n hn => ?_⟩
  · have : restMax b p 0 = 0 := rfl
    unfold over at gi
    simp only [Nat.pow_zero] at gi
    omega
  · by_cases c : n < b ^ (L - 1)
    · refine Nat.lt_of_not_le fun z => ?_
      have := g.most n c z
      rw [Nat.pow_zero, Nat.div_one] at this
      omega
    · exact goes_down hb h (by omega)
/-- no number from here on but goes down -/
theorem down_from {b p M n : Nat} (hb : 2 ≤ b) (h : IsLen (b : Int) (worth (b : Int) (p : Int)) M) (hn : (M - 1) * (b - 1) ^ p < n) : stepN b p n < n := by
  by_cases c : b ^ (M - 1) ≤ n
  · exact goes_down hb h c
  · have l := len_pow hb n (by omega)
    have k : (figs b n).length - 1 < M - 1 := by
      refine Nat.lt_of_not_le fun z => ?_
      have := Nat.pow_le_pow_right (show 0 < b by omega) z
      omega
    have le := stepN_le (p := p) (n := n) hb
    have := Nat.mul_le_mul_right ((b - 1) ^ p) (show (figs b n).length ≤ M - 1 by omega)
    omega
/-- a step that can be reckoned -/
def stepF (b p : Nat) : Nat → Nat → Nat
  | 0, _ => 0
  | k + 1, n => stepF b p k (n / b) + (n % b) ^ p
theorem stepF_eq {b p : Nat} (hb : 2 ≤ b) (hp : 1 ≤ p) : ∀ k n : Nat, n < b ^ k → stepF b p k n = stepN b p n
  | 0, n, h => by
    rw [Nat.pow_zero] at h
    obtain rfl : n = 0 := by omega
    rw [stepN_zero hb hp]
    rfl
  | k + 1, n, h => by
    rw [stepN_rec hb hp n, ← stepF_eq hb hp k (n / b)]
    · rfl
    · rw [Nat.div_lt_iff_lt_mul (by omega), ← Nat.pow_succ]
      exact h
end Fx

namespace Fx
open PySem PySem.Spec PyProof.Rows L2
/-! ### a list of lists of numbers -/
def Lists (H : Hp) (vs : List V) (ls : List (List Int)) : Prop := vs.length = ls.length ∧ ∀ (i : Nat) v l, vs[i]? = some v → ls[i]? = some l → ∃ a, v = .ref a ∧ H a = some (.lst (l.map V.int))
theorem Lists.nil {H : Hp} : Lists H [] [] := ⟨rfl, fun i v l h => by simp at h⟩
theorem Lists.mono {H H' : Hp} {vs : List V} {ls : List (List Int)} (h : Lists H vs ls) (s : Same H H') : Lists H' vs ls := ⟨h.1, fun i v l a b => by
  obtain ⟨x, e1, e2⟩ := h.2 i v l a b
  exact ⟨x, e1, s _ _ e2⟩⟩
theorem Lists.off {H : Hp} {vs : List V} {ls : List (List Int)} {R : Addr} {o : HO} (h : Lists H vs ls) (n : ∀ a l, (V.ref a) ∈ vs → H a = some (.lst l) → a ≠ R) : Lists (upd H R o) vs ls := ⟨h.1, fun i v l a b => by
  obtain ⟨x, e1, e2⟩ := h.2 i v l a b
  refine ⟨x, e1, ?_⟩
  rw [upd_ne (n x _ (e1 ▸ List.mem_of_getElem? a) e2)]
  exact e2⟩
theorem Lists.push {H : Hp} {vs : List V} {ls : List (List Int)} {a : Addr} {l : List Int} (h : Lists H vs ls) (e : H a = some (.lst (l.map V.int))) : Lists H (vs ++ [.ref a]) (ls ++ [l]) := by
  refine ⟨by rw [List.length_append, List.length_append, h.1]; rfl, fun i v m p q => ?_⟩
  by_cases c : i < vs.length
  · rw [List.getElem?_append_left c] at p
    rw [List.getElem?_append_left (by rw [← h.1]; exact c)] at q
    exact h.2 i v m p q
  · rw [List.getElem?_append_right (by omega)] at p
    rw [List.getElem?_append_right (by rw [← h.1]; omega)] at q
    have z : i - vs.length = 0 := by
      have := (List.getElem?_eq_some_iff.mp p).1
      simp at this
      omega
    rw [z] at p
    rw [← h.1, z] at q
    cases p
    cases q
    exact ⟨a, rfl, e⟩
theorem Lists.rev {H : Hp} {vs : List V} {ls : List (List Int)} (h : Lists H vs ls) : Lists H vs.reverse ls.reverse := by
  refine ⟨by rw [List.length_reverse, List.length_reverse, h.1], fun i v l p q => ?_⟩
  have hi : i < vs.length := by
    have := (List.getElem?_eq_some_iff.mp p).1
    rwa [List.length_reverse] at this
  rw [List.getElem?_reverse hi] at p
  rw [List.getElem?_reverse (by rw [← h.1]; exact hi), ← h.1] at q
  exact h.2 _ v l p q
theorem Lists.at {H : Hp} {vs : List V} {ls : List (List Int)} (h : Lists H vs ls) {i : Nat} {v : V} (p : vs[i]? = some v) : ∃ l a, ls[i]? = some l ∧ v = .ref a ∧ H a = some (.lst (l.map V.int)) := by
  have hi := (List.getElem?_eq_some_iff.mp p).1
  have q : ls[i]? = some (ls[i]'(by rw [← h.1]; exact hi)) := List.getElem?_eq_getElem _
  obtain ⟨a, e1, e2⟩ := h.2 i v _ p q
  exact ⟨_, a, q, e1, e2⟩
theorem int_get {l : List Int} {i : Nat} {x : V} (h : (l.map V.int)[i]? = some x) : ∃ k, l[i]? = some k ∧ x = V.int k := by
  rw [List.getElem?_map] at h
  cases e : l[i]? with
  | none => rw [e] at h; cases h
  | some k =>
    rw [e] at h
    exact ⟨k, rfl, (Option.some.inj h).symm⟩
theorem int_at {l : List Int} {i : Nat} {k : Int} (h : l[i]? = some k) : (l.map V.int)[i]? = some (V.int k) := by
  rw [List.getElem?_map, h]
  rfl
end Fx

namespace Fx
open PySem PySem.Spec PyProof.Rows L2
/-! ### for i, c in enumerate(text) -/
def IteS (x : Str) : It := ⟨fun i _ => i < x.cps.size, fun i H v H' => ∃ (T : Addr) (c : Nat), v = .ref T ∧ H T = none ∧ x.cps[i]? = some c ∧ H' = upd H T (.tup [.int (i : Nat), .str ⟨#[c]⟩]), fun i _ => x.cps.size ≤ i⟩
theorem turn_enumS {P : Program} {w : World} {K : PySem.W.Frag} {elts : List Expr} {kk : Nat} {tpos : Pos} (x : Str) (t : Tok) (e it : Addr) (hne : e ≠ it) :
    Turn P w K (.Tuple elts kk tpos) (IteS x) [e, it] e (fun i h => (∃ old, IsEnum h e it (0 + (i : Int)) old) ∧ h.IsStrIter it (strIterType x) x t i ∧ i ≤ x.cps.size) where
  mem := by simp
  obj := fun i h st b hb => by
    obtain ⟨⟨old, he⟩, ⟨o, ho, hc, hd⟩, _⟩ := st
    have e' : b = e ∨ b = it := by simpa using hb
    rcases e' with z | z
    · rw [z]; exact ⟨_, he, fun v q => nomatch q⟩
    · rw [z]; exact ⟨o, ho, fun v q => by rw [hd] at q; cases q⟩
  keep := fun i h h' st k => by
    obtain ⟨⟨old, he⟩, ⟨o, ho, r⟩, le⟩ := st
    exact ⟨⟨old, k e (by simp) _ he⟩, ⟨o, k it (by simp) o ho, r⟩, le⟩
  item := by
    intro X hP hw hK hc i pins s σ H E I hf st hg
    subst hP hw hK
    have W := WalksT.enumFrom (prog := X.prog) (w := X.w) (A := X.A) 0 (Draws.text (A := X.A.in1) (I.ok.hd hc) it x t) e hne (fun z => hne (List.mem_singleton.mp z)) (List.mem_singleton.mpr rfl)
    refine W.item i s _ _ hg ⟨st.1, st.2.1⟩ fun T vals h1 tk hP hsz hT hM hk => ⟨_, rfl, W.go _ _ _ i T _ _ _ hM fun h2 st2 hk2 => ?_⟩
    obtain ⟨u, y, ⟨c, v, hcx, rfl⟩, rfl⟩ := hP
    have kk2 : ∀ b o, b ∉ [e, it] → s.heap.get? b = some o → h2.get? b = some o := fun b o hb z => hk2 b o hb (hk b o hb z)
    have hTn : T ∉ [e, it] := W.apart i T _ hM
    obtain ⟨oT, hT1, hT2, n3, hT3⟩ := hT
    have new : ObjOk X.prog X.w (upd H T (.tup [.int (i : Nat), .str ⟨#[c]⟩])) h2 T (.tup [.int (i : Nat), .str ⟨#[c]⟩]) := by
      refine ⟨by show 2 ≤ sizeLine; decide, [.int (0 + (i : Int)) u, .str ⟨#[c]⟩ v], .cons ⟨u, ?_⟩ (.cons ⟨v, rfl⟩ .nil), ⟨oT, hk2 T _ hTn hT1, hT2, n3, hT3⟩⟩
      rw [Int.zero_add]
    have I1 : Inv X pins σ (upd H T (.tup [.int (i : Nat), .str ⟨#[c]⟩])) { s with heap := h2, toks := tk } := I.turnedNew (ch := [e, it]) kk2 hf hsz new
    refine ⟨.ref T, _, I1, rfl, ⟨T, c, rfl, I.hok.fresh hsz, hcx, rfl⟩, ?_, fun b hb => ?_⟩
    · exact ⟨st2.1, st2.2, hg⟩
    · rw [upd_ne (fun z => hTn (by rw [← z]; exact hb))]
      exact (hf b hb).1
  done := by
    intro X hP hw hK hc i pins s σ H E I hf st hg
    subst hP hw hK
    obtain ⟨⟨old, he⟩, hit, le⟩ := st
    obtain ⟨f0, f1, f2, f3, f4, f5⟩ := hf it (by simp)
    obtain rfl : i = x.cps.size := Nat.le_antisymm le hg
    exact wpAny_pyNext_enum_endD (Draws.text (A := X.A.in1) (I.ok.hd hc) it x t) he hit fun h' eb => ⟨rfl, I.turned (t' := s.toks) (fun b o hb q => eb b o hb q) f0 f1 f3 f4 f5⟩
  self := fun A i s Q E st h => let ⟨⟨_, he⟩, _⟩ := st; wpAny_pyIter_enum he h
def iEnumS (ta : TA) : TI := fun σ H R => ta σ H fun vs H1 => ∃ x, vs = [.str x] ∧ R (IteS x) H1
theorem pi_enumS {X : Cx} {e : Expr} {ta : TA} {p pos tpos : Pos} {elts : List Expr} {kk : Nat} (hg : Gl X "enumerate") (hm : X.mg "enumerate" = none) (ha : PA X [e] ta) (hs : starEach [e] X.env = [(false, eval e X.env)] := by rfl) :
    PI X (.Tuple elts kk tpos) (.Call (.Name "enumerate" p) [e] [] pos) (iEnumS ta) := by
  refine ⟨fun pins s σ H R I h => ?_⟩
  refine Call_ (ld_blt I hg hm boot_enumerate (PyProof.Rows.callWith_type1 (thn (ha.run pos pins s σ H _ I h) fun us s1 ⟨vs, H1, I1, r1, q1⟩ => ?_) hs rfl))
  obtain ⟨x, ex, q⟩ := q1
  subst ex
  cases r1 with
  | cons r rr =>
    cases rr
    obtain ⟨t, rfl⟩ := r
    refine call_enumerate_str fun h' he hit hsz hk => wpAny_pyIter_enum he ?_
    have I2 : Inv X pins σ H1 { s1 with heap := h' } := I1.kept (t' := s1.toks) hk
    refine ⟨s1.heap.objs.size + 1, [s1.heap.objs.size + 1, s1.heap.objs.size], _, _, H1, rfl, I2, turn_enumS x t (s1.heap.objs.size + 1) s1.heap.objs.size (Nat.succ_ne_self _), ⟨⟨.none, he⟩, hit, Nat.zero_le _⟩, fun b hb => ?_, q⟩
    have e' : b = s1.heap.objs.size + 1 ∨ b = s1.heap.objs.size := by simpa using hb
    have hle : s1.heap.objs.size ≤ b := by
      rcases e' with z | z
      · rw [z]; exact Nat.le_add_right _ _
      · rw [z]; exact Nat.le_refl _
    exact I1.fpOk hle (I1.hok.fresh hle)
theorem walk_enumS {x : Str} : Walk (IteS x) x.cps.size (fun _ => True) (fun i H v H' => ∃ (T : Addr) (c : Nat), v = .ref T ∧ H T = none ∧ x.cps[i]? = some c ∧ H' = upd H T (.tup [.int (i : Nat), .str ⟨#[c]⟩])) :=
  ⟨fun _ _ hi _ => hi, fun _ _ => Nat.le_refl _, fun _ _ _ _ _ _ y => y⟩
end Fx

namespace Fx
open PySem PySem.Spec PyProof.Rows L2
/-- a pair's numbers as naturals -/
theorem OkPair.nat {b p : Int} (h : OkPair b p) : ∃ b' p' : Nat, b = (b' : Int) ∧ p = (p' : Int) ∧ 2 ≤ b' ∧ b' ≤ 16 ∧ 1 ≤ p' ∧ p' ≤ 10 := by
  obtain ⟨h1, h2, h3, h4⟩ := id h
  have h5 := h.le10
  exact ⟨b.toNat, p.toNat, by omega, by omega, by omega, by omega, by omega, by omega⟩
/-- a number with a pair and how many are asked -/
def QuadAt (H : Hp) (v : V) : Prop := ∃ (a : Addr) (n b p m : Nat), v = .ref a ∧ H a = some (.tup [.int (n : Int), .int (b : Int), .int (p : Int), .int (m : Int)]) ∧ 2 ≤ b ∧ b ≤ 16 ∧ p ≤ 10 ∧ n < 16 ^ 40 ∧ m ≤ 60
theorem QuadAt.mono {H H' : Hp} {v : V} (h : QuadAt H v) (k : ∀ a xs, H a = some (.tup xs) → H' a = some (.tup xs)) : QuadAt H' v := by
  obtain ⟨a, n, b, p, m, e1, e2, r⟩ := h
  exact ⟨a, n, b, p, m, e1, k _ _ e2, r⟩
theorem lt900 {n : Nat} (h : n < 16 ^ 40) : n < 2 ^ 900 := Nat.lt_of_lt_of_le h (by
  have e : (16 : Nat) ^ 40 = 2 ^ 160 := by decide
  rw [e]
  exact Nat.pow_le_pow_right (by decide) (by decide))
end Fx

namespace Fx
open PySem PySem.Spec PyProof.Rows L2
/-- a bound of all numbers that are drawn -/
theorem same_step {b s f : Int} {i : Nat} (hb : 2 ≤ b) (h0 : 0 ≤ s) (h1 : s < b ^ i) (f0 : 0 ≤ f) (f1 : f < b) : 0 ≤ b * s + f ∧ b * s + f < b ^ (i + 1) := by
  have e : b ^ (i + 1) = b * b ^ i := by rw [Int.pow_succ, Int.mul_comm]
  have h2 : s + 1 ≤ b ^ i := h1
  have h3 := Int.mul_le_mul_of_nonneg_left h2 (show 0 ≤ b by omega)
  have h4 : 0 ≤ b * s := Int.mul_nonneg (by omega) h0
  rw [Int.mul_add, Int.mul_one] at h3
  rw [e]
  omega
theorem pow_le16 {b : Int} (h0 : 2 ≤ b) (h1 : b ≤ 16) {i : Nat} (hi : i ≤ 40) : b ^ i ≤ 16 ^ 40 := by
  have mono : ∀ n : Nat, b ^ n ≤ 16 ^ n := fun n => by
    induction n with
    | zero => rw [Int.pow_zero, Int.pow_zero]; exact Int.le_refl _
    | succ n ih =>
      rw [Int.pow_succ, Int.pow_succ]
      exact Int.le_trans (Int.mul_le_mul_of_nonneg_right ih (by omega)) (Int.mul_le_mul_of_nonneg_left h1 (Int.le_of_lt (Int.pow_pos (by decide))))
  have up : ∀ n : Nat, (16 : Int) ^ i ≤ 16 ^ (i + n) := fun n => by
    induction n with
    | zero => exact Int.le_refl _
    | succ n ih =>
      rw [← Nat.add_assoc, Int.pow_succ]
      have p : (0 : Int) < 16 ^ (i + n) := Int.pow_pos (by decide)
      omega
  have u := up (40 - i)
  rw [show i + (40 - i) = 40 by omega] at u
  exact Int.le_trans (mono i) u
theorem div_le {x y : Int} (h0 : 0 ≤ x) (h1 : 1 ≤ y) : 0 ≤ x / y ∧ x / y ≤ x := ⟨Int.ediv_nonneg h0 (by omega), Int.ediv_le_self y h0⟩
end Fx

namespace Fx
/-! ### rows come down -/
theorem figs_len_lt {b n k : Nat} (hb : 2 ≤ b) (hk : 1 ≤ k) (h : n < b ^ k) : (figs b n).length ≤ k := by
  by_cases h0 : n = 0
  · subst h0
    rw [figs_len, lsd_lt (by omega)]
    exact hk
  · have l := len_pow hb n (by omega)
    refine Nat.le_of_not_lt fun z => ?_
    have := Nat.pow_le_pow_right (show 0 < b by omega) (show k ≤ (figs b n).length - 1 by omega)
    omega
theorem step_le_len {b p n k : Nat} (hb : 2 ≤ b) (h : (figs b n).length ≤ k) : stepN b p n ≤ k * (b - 1) ^ p := Nat.le_trans (stepN_le hb) (Nat.mul_le_mul_right _ h)
theorem down_one {b p L n k : Nat} (hb : 2 ≤ b) (h : IsLen (b : Int) (worth (b : Int) (p : Int)) L) (hn : n ≤ max (L - 1) k * (b - 1) ^ p) : stepN b p n ≤ max (L - 1) (k - 1) * (b - 1) ^ p := by
  have h1 := h.nat hb
  have h2 := h.two
  by_cases c : k ≤ L - 1
  · have e : max (L - 1) k = L - 1 := by omega
    rw [e] at hn
    refine step_le_len hb (figs_len_lt hb (by omega) ?_)
    have : n < b ^ (L - 1) := by
      have := Nat.mul_le_mul_right ((b - 1) ^ p) (show L - 1 ≤ L by omega)
      omega
    exact Nat.lt_of_lt_of_le this (Nat.pow_le_pow_right (by omega) (by omega))
  · have e : max (L - 1) k = k := by omega
    rw [e] at hn
    have m := len_moreN h1 h2 hb (k - L)
    rw [show L + (k - L) = k by omega] at m
    exact step_le_len hb (figs_len_lt hb (by omega) (Nat.lt_of_lt_of_le (show n < b ^ (k - 1) by omega) (Nat.pow_le_pow_right (by omega) (by omega))))
theorem row_down {b p L n : Nat} (hb : 2 ≤ b) (h : IsLen (b : Int) (worth (b : Int) (p : Int)) L) (hw : (b - 1) ^ p ≤ 1024) (hn : n < 2 ^ 160) : ∀ i, itN b p n (i + 2) ≤ max (L - 1) (18 - i) * (b - 1) ^ p
  | 0 => by
    have f1 : (figs b n).length ≤ 160 := by
      rw [figs_len]
      exact lsd_len_le hb 159 n hn
    have s1 : itN b p n 1 ≤ 160 * (b - 1) ^ p := step_le_len hb f1
    have s2 : itN b p n 1 < 2 ^ 18 := by
      have := Nat.mul_le_mul_left 160 hw
      omega
    have f2 : (figs b (itN b p n 1)).length ≤ 18 := by
      rw [figs_len]
      exact lsd_len_le hb 17 _ s2
    show stepN b p (itN b p n 1) ≤ _
    exact Nat.le_trans (step_le_len hb f2) (Nat.mul_le_mul_right _ (by omega))
  | i + 1 => by
    have ih := row_down hb h hw hn i
    have := down_one hb h ih
    rw [show 18 - (i + 1) = 18 - i - 1 by omega]
    exact this
theorem row_late {b p L n i : Nat} (hb : 2 ≤ b) (h : IsLen (b : Int) (worth (b : Int) (p : Int)) L) (hw : (b - 1) ^ p ≤ 1024) (hn : n < 2 ^ 160) (hi : 20 ≤ i) : itN b p n i ≤ (L - 1) * (b - 1) ^ p := by
  have := row_down hb h hw hn (i - 2)
  rw [show i - 2 + 2 = i by omega, show max (L - 1) (18 - (i - 2)) = L - 1 by omega] at this
  exact this
theorem rowN_get (b p n : Nat) : ∀ m i, i < m → (rowN b p n m)[i]? = some (itN b p n i)
  | 0, _, h => by omega
  | m + 1, i, h => by
    rw [rowN]
    by_cases e : i = m
    · subst e
      rw [List.getElem?_append_right (by rw [rowN_len]; exact Nat.le_refl _), rowN_len, Nat.sub_self]
      rfl
    · rw [List.getElem?_append_left (by rw [rowN_len]; omega)]
      exact rowN_get b p n m i (by omega)
theorem kept_lt {b p L G : Nat} (hb : 2 ≤ b) (h : IsLen (b : Int) (worth (b : Int) (p : Int)) L) (g : IsKept b p G) : G < b ^ (L - 1) := by
  refine Nat.lt_of_not_le fun z => ?_
  have := goes_down hb h z
  have := g.kept
  omega
end Fx

namespace Fx
open PySem PySem.Spec PyProof.Rows L2
def topS (i : Nat) : Stmt := PySem.Challenge.pw_figurerounds_k08_whole_going_down.main.body.getD i (.Pass ⟨0, 0, 0, 0⟩)
abbrev s_figures_of : Stmt := topS 1
theorem sc_figures_of : FnScope ["number", "base", "figures", "rest"] ["number", "base"] (defScope s_figures_of) := ⟨rfl, rfl, rfl, by decide +kernel, rfl, by decide +kernel, by decide +kernel⟩
abbrev s_power_of : Stmt := topS 2
theorem sc_power_of : FnScope ["figure", "power", "worth", "_"] ["figure", "power"] (defScope s_power_of) := ⟨rfl, rfl, rfl, by decide +kernel, rfl, by decide +kernel, by decide +kernel⟩
abbrev s_step_of : Stmt := topS 3
theorem sc_step_of : FnScope ["number", "base", "power", "figure"] ["number", "base", "power"] (defScope s_step_of) := ⟨rfl, rfl, rfl, by decide +kernel, rfl, by decide +kernel, by decide +kernel⟩
abbrev s_row_from : Stmt := topS 4
theorem sc_row_from : FnScope ["number", "base", "power", "many", "row", "_"] ["number", "base", "power", "many"] (defScope s_row_from) := ⟨rfl, rfl, rfl, by decide +kernel, rfl, by decide +kernel, by decide +kernel⟩
abbrev s_length_down : Stmt := topS 6
theorem sc_length_down : FnScope ["base", "power", "most", "length", "least"] ["base", "power"] (defScope s_length_down) := ⟨rfl, rfl, rfl, by decide +kernel, rfl, by decide +kernel, by decide +kernel⟩
abbrev s_length_shown : Stmt := topS 7
theorem sc_length_shown : FnScope ["base", "power", "length"] ["base", "power", "length"] (defScope s_length_shown) := ⟨rfl, rfl, rfl, by decide +kernel, rfl, by decide +kernel, by decide +kernel⟩
abbrev s_gains_by_place : Stmt := topS 9
theorem sc_gains_by_place : FnScope ["base", "power", "many", "powers", "figure", "rows", "weight", "_"] ["base", "power", "many"] (defScope s_gains_by_place) := ⟨rfl, rfl, rfl, by decide +kernel, rfl, by decide +kernel, by decide +kernel⟩
abbrev s_greatest_figure : Stmt := topS 10
theorem sc_greatest_figure : FnScope ["gains", "needed", "figure", "gain"] ["gains", "needed"] (defScope s_greatest_figure) := ⟨rfl, rfl, rfl, by decide +kernel, rfl, by decide +kernel, by decide +kernel⟩
abbrev s_greatest_kept : Stmt := topS 8
theorem sc_greatest_kept : FnScope ["base", "power", "rows", "spare", "gains", "number", "figure"] ["base", "power"] (defScope s_greatest_kept) := ⟨rfl, rfl, rfl, by decide +kernel, rfl, by decide +kernel, by decide +kernel⟩
abbrev s__law_mix : Stmt := topS 12
theorem sc__law_mix : FnScope ["cell", "k", "number"] ["cell", "k"] (defScope s__law_mix) := ⟨rfl, rfl, rfl, by decide +kernel, rfl, by decide +kernel, by decide +kernel⟩
abbrev s__law_deck : Stmt := topS 13
theorem sc__law_deck : FnScope ["script"] ["script"] (defScope s__law_deck) := ⟨rfl, rfl, rfl, by decide +kernel, rfl, by decide +kernel, by decide +kernel⟩
abbrev s__law_next : Stmt := topS 14
theorem sc__law_next : FnScope ["deck", "many", "cell", "found"] ["deck", "many"] (defScope s__law_next) := ⟨rfl, rfl, rfl, by decide +kernel, rfl, by decide +kernel, by decide +kernel⟩
abbrev s__law_pair : Stmt := topS 15
theorem sc__law_pair : FnScope ["deck", "base", "most"] ["deck"] (defScope s__law_pair) := ⟨rfl, rfl, rfl, by decide +kernel, rfl, by decide +kernel, by decide +kernel⟩
abbrev s__law_number : Stmt := topS 16
theorem sc__law_number : FnScope ["deck", "base", "great", "k", "same", "figure", "edge", "some"] ["deck", "base"] (defScope s__law_number) := ⟨rfl, rfl, rfl, by decide +kernel, rfl, by decide +kernel, by decide +kernel⟩
abbrev s__law_power : Stmt := topS 17
theorem sc__law_power : FnScope ["number", "often", "found", "turn"] ["number", "often"] (defScope s__law_power) := ⟨rfl, rfl, rfl, by decide +kernel, rfl, by decide +kernel, by decide +kernel⟩
abbrev s__law_goes_down : Stmt := topS 18
theorem sc__law_goes_down : FnScope ["number", "base", "power"] ["number", "base", "power"] (defScope s__law_goes_down) := ⟨rfl, rfl, rfl, by decide +kernel, rfl, by decide +kernel, by decide +kernel⟩
abbrev s__law_numbers_right : Stmt := topS 19
theorem sc__law_numbers_right : FnScope ["deck", "base", "power", "kept", "length", "some", "k", "low", "number"] ["deck", "base", "power", "kept", "length"] (defScope s__law_numbers_right) := ⟨rfl, rfl, rfl, by decide +kernel, rfl, by decide +kernel, by decide +kernel⟩
abbrev s_law : Stmt := topS 20
theorem sc_law : FnScope ["script", "deck", "turn", "base", "power", "kept", "length", "one", "most", "row", "number"] ["script"] (defScope s_law) := ⟨rfl, rfl, rfl, by decide +kernel, rfl, by decide +kernel, by decide +kernel⟩
structure Txt (K : PySem.W.Frag) (mg : Str → Option Value) where
  f_figures_of : Addr
  fd_figures_of : FuncData
  F_figures_of : Fun K "figures_of" "figures_of" s_figures_of f_figures_of fd_figures_of
  g_figures_of : mg "figures_of" = some (.ref f_figures_of)
  b_figures_of : Binds K fd_figures_of ["number", "base"] []
  f_power_of : Addr
  fd_power_of : FuncData
  F_power_of : Fun K "power_of" "power_of" s_power_of f_power_of fd_power_of
  g_power_of : mg "power_of" = some (.ref f_power_of)
  b_power_of : Binds K fd_power_of ["figure", "power"] []
  f_step_of : Addr
  fd_step_of : FuncData
  F_step_of : Fun K "step_of" "step_of" s_step_of f_step_of fd_step_of
  g_step_of : mg "step_of" = some (.ref f_step_of)
  b_step_of : Binds K fd_step_of ["number", "base", "power"] []
  f_row_from : Addr
  fd_row_from : FuncData
  F_row_from : Fun K "row_from" "row_from" s_row_from f_row_from fd_row_from
  g_row_from : mg "row_from" = some (.ref f_row_from)
  b_row_from : Binds K fd_row_from ["number", "base", "power", "many"] []
  f_length_down : Addr
  fd_length_down : FuncData
  F_length_down : Fun K "length_down" "length_down" s_length_down f_length_down fd_length_down
  g_length_down : mg "length_down" = some (.ref f_length_down)
  b_length_down : Binds K fd_length_down ["base", "power"] []
  f_length_shown : Addr
  fd_length_shown : FuncData
  F_length_shown : Fun K "length_shown" "length_shown" s_length_shown f_length_shown fd_length_shown
  g_length_shown : mg "length_shown" = some (.ref f_length_shown)
  b_length_shown : Binds K fd_length_shown ["base", "power", "length"] []
  f_gains_by_place : Addr
  fd_gains_by_place : FuncData
  F_gains_by_place : Fun K "gains_by_place" "gains_by_place" s_gains_by_place f_gains_by_place fd_gains_by_place
  g_gains_by_place : mg "gains_by_place" = some (.ref f_gains_by_place)
  b_gains_by_place : Binds K fd_gains_by_place ["base", "power", "many"] []
  f_greatest_figure : Addr
  fd_greatest_figure : FuncData
  F_greatest_figure : Fun K "greatest_figure" "greatest_figure" s_greatest_figure f_greatest_figure fd_greatest_figure
  g_greatest_figure : mg "greatest_figure" = some (.ref f_greatest_figure)
  b_greatest_figure : Binds K fd_greatest_figure ["gains", "needed"] []
  f_greatest_kept : Addr
  fd_greatest_kept : FuncData
  F_greatest_kept : Fun K "greatest_kept" "greatest_kept" s_greatest_kept f_greatest_kept fd_greatest_kept
  g_greatest_kept : mg "greatest_kept" = some (.ref f_greatest_kept)
  b_greatest_kept : Binds K fd_greatest_kept ["base", "power"] []
  f__law_mix : Addr
  fd__law_mix : FuncData
  F__law_mix : Fun K "_law_mix" "_law_mix" s__law_mix f__law_mix fd__law_mix
  g__law_mix : mg "_law_mix" = some (.ref f__law_mix)
  b__law_mix : Binds K fd__law_mix ["cell", "k"] []
  f__law_deck : Addr
  fd__law_deck : FuncData
  F__law_deck : Fun K "_law_deck" "_law_deck" s__law_deck f__law_deck fd__law_deck
  g__law_deck : mg "_law_deck" = some (.ref f__law_deck)
  b__law_deck : Binds K fd__law_deck ["script"] []
  f__law_next : Addr
  fd__law_next : FuncData
  F__law_next : Fun K "_law_next" "_law_next" s__law_next f__law_next fd__law_next
  g__law_next : mg "_law_next" = some (.ref f__law_next)
  b__law_next : Binds K fd__law_next ["deck", "many"] []
  f__law_pair : Addr
  fd__law_pair : FuncData
  F__law_pair : Fun K "_law_pair" "_law_pair" s__law_pair f__law_pair fd__law_pair
  g__law_pair : mg "_law_pair" = some (.ref f__law_pair)
  b__law_pair : Binds K fd__law_pair ["deck"] []
  f__law_number : Addr
  fd__law_number : FuncData
  F__law_number : Fun K "_law_number" "_law_number" s__law_number f__law_number fd__law_number
  g__law_number : mg "_law_number" = some (.ref f__law_number)
  b__law_number : Binds K fd__law_number ["deck", "base"] []
  f__law_power : Addr
  fd__law_power : FuncData
  F__law_power : Fun K "_law_power" "_law_power" s__law_power f__law_power fd__law_power
  g__law_power : mg "_law_power" = some (.ref f__law_power)
  b__law_power : Binds K fd__law_power ["number", "often"] []
  f__law_goes_down : Addr
  fd__law_goes_down : FuncData
  F__law_goes_down : Fun K "_law_goes_down" "_law_goes_down" s__law_goes_down f__law_goes_down fd__law_goes_down
  g__law_goes_down : mg "_law_goes_down" = some (.ref f__law_goes_down)
  b__law_goes_down : Binds K fd__law_goes_down ["number", "base", "power"] []
  f__law_numbers_right : Addr
  fd__law_numbers_right : FuncData
  F__law_numbers_right : Fun K "_law_numbers_right" "_law_numbers_right" s__law_numbers_right f__law_numbers_right fd__law_numbers_right
  g__law_numbers_right : mg "_law_numbers_right" = some (.ref f__law_numbers_right)
  b__law_numbers_right : Binds K fd__law_numbers_right ["deck", "base", "power", "kept", "length"] []
  f_law : Addr
  fd_law : FuncData
  F_law : Fun K "law" "law" s_law f_law fd_law
  g_law : mg "law" = some (.ref f_law)
  b_law : Binds K fd_law ["script"] []
  m_enumerate : mg "enumerate" = none
  m_int : mg "int" = none
  m_len : mg "len" = none
  m_list : mg "list" = none
  m_max : mg "max" = none
  m_range : mg "range" = none
  m_sum : mg "sum" = none
  m_tuple : mg "tuple" = none
section
variable {P : Program} {w : World} {K : PySem.W.Frag} {mg : Str → Option Value} {base : Heap}
/-! ### figures_of -/
def sp_figures_of (K : PySem.W.Frag) : Sp := fun vs H Q _ => ∃ n b : Nat, vs = [.int (n : Int), .int (b : Int)] ∧ 2 ≤ b ∧ b ≤ 16 ∧ n < 2 ^ 900 ∧ ∀ H' p, Same H H' → H p = none → H' p = some (.tup (ivs (figs b n))) → Q (.ref p) H'
def W_figures_of (n b : Nat) (H : Hp) (fl : Addr) (m : Nat) (σ' : L2.St) (H' : Hp) : Prop := ∃ pre : List Nat, σ' = [some (.int (n : Int)), some (.int (b : Int)), some (.ref fl), some (.int (m : Int))] ∧ Same H H' ∧ H' fl = some (.lst (ivs pre)) ∧ pre ++ (if m = 0 then [] else lsd b m) = lsd b n
theorem W_figures_of.len {n b : Nat} {pre : List Nat} {r : Nat} (hb : 2 ≤ b) (hn : n < 2 ^ 900) (h : pre ++ (if r = 0 then [] else lsd b r) = lsd b n) : pre.length ≤ 900 := by
  have h1 := congrArg List.length h
  rw [List.length_append] at h1
  have h2 := lsd_len_le hb 899 n hn
  omega
theorem ok_figures_of (T : Txt K mg) : FnOk P w K mg base CX0 1 T.f_figures_of T.fd_figures_of ["number", "base"] (sp_figures_of K) := by
  refine T.F_figures_of.ok sc_figures_of (fun vs H Q E h => ?_) (fun cdv A outer s H vs Q E hr h => ?_)
  · obtain ⟨_, _, rfl, _⟩ := h
    rfl
  · obtain ⟨n, b, rfl, hb, hb16, hn, q⟩ := h
    have wd : ∀ x : Int, CDivW x (b : Int) := fun x => divW 60 (by omega) (by omega)
    refine ⟨_, (pss_cons (ps_set (i := 2) sc_figures_of.nd rfl (Or.inl rfl) (pe_lst (pa_cons (pe_op op_mod (pv 0) (pv 1)) pa_nil)))
      (pss_cons (ps_set (i := 3) sc_figures_of.nd rfl (Or.inl rfl) (pe_op op_fdivW (pv 0) (pv 1)))
      (pss_cons (ps_while PassesOwn.never (pt_cmpR op_gt (pv 3) pe_int (nomark _)) (pss_cons (ps_expr (pe_bm PySem.F.plainAttrs_list PySem.F.slot_list_append PySem.F.type_list_append mt_append (pv 2) (pa_cons (pe_op op_mod (pv 3) (pv 1)) pa_nil)))
      (pss_one (ps_set (i := 3) sc_figures_of.nd rfl (Or.inl rfl) (pe_op op_fdivW (pv 3) (pv 1))))))
      (pss_one (ps_ret (pe_callTy (T := "tuple") call_tuple_of (by rfl) T.m_tuple (by decide +kernel) (pa_cons (pe_revL (pv 2)) pa_nil))))))), ?_⟩
    refine ⟨_, rfl, _, rfl, _, _, rfl, rfl, by walk_at "p", by show 1 ≤ sizeLine; decide, fun fl hfl => ?_⟩
    generalize g1 : upd H fl _ = H1
    obtain ⟨s1, t1⟩ := new_of g1 hfl
    refine ⟨_, rfl, _, rfl, _, _, rfl, rfl, wd _, ?_⟩
    refine ⟨W_figures_of n b H fl, ⟨n / b, [n % b], rfl, s1, t1, (lsd_split hb).symm⟩, ?_⟩
    rintro r σ' H2 ⟨pre, rfl, s2, t2, e⟩
    have lp := W_figures_of.len hb hn e
    refine ⟨_, rfl, _, _, rfl, rfl, _, rfl, ?_⟩
    by_cases h0 : r = 0
    · subst h0
      rw [if_pos rfl, List.append_nil] at e
      subst e
      refine iteF ?_
      refine ⟨_, rfl, fl, _, rfl, .of t2, fun p3 hp3 => ?_⟩
      generalize g3 : upd H2 p3 _ = H3
      obtain ⟨s3, t3⟩ := new_of g3 hp3
      refine ⟨p3, _, rfl, .inl ⟨.of t3, fun p4 hp4 => ?_⟩⟩
      rw [ivs_reverse]
      exact q _ p4 (s2.trans (s3.trans (Same.new hp4))) (s2.free (s3.free hp4)) upd_same
    · have hr : (0 : Int) < (r : Int) := by omega
      rw [decide_eq_true hr]
      refine iteT ⟨Nx (W_figures_of n b H fl) r, Nx.id, ?_⟩
      refine ⟨_, rfl, .inl ⟨rfl, _, .of t2⟩, _, rfl, _, rfl, _, _, rfl, rfl, by walk_at "p", fl, _, _, rfl, rfl, t2, small1000 (by rw [ivs_length]; omega), ?_⟩
      refine ⟨_, rfl, _, rfl, _, _, rfl, rfl, wd _, ?_⟩
      refine ⟨r / b, Nat.div_lt_self (by omega) (by omega), pre ++ [r % b], rfl, same_own s2 hfl, ?_, ?_⟩
      · rw [upd_same, ivs_append]
        rfl
      · rw [if_neg h0, lsd_split hb] at e
        rw [List.append_assoc]
        exact e

/-! ### power_of -/
def sp_power_of (K : PySem.W.Frag) : Sp := fun vs H Q _ => ∃ f p : Int, vs = [.int f, .int p] ∧ 0 ≤ p ∧ p < 2 ^ 62 ∧ -(2 ^ 64) < f ∧ f < 2 ^ 64 ∧ Q (.int (f ^ p.toNat)) H
theorem ok_power_of (T : Txt K mg) : FnOk P w K mg base CX0 1 T.f_power_of T.fd_power_of ["figure", "power"] (sp_power_of K) := by
  refine T.F_power_of.ok sc_power_of (fun vs H Q E h => ?_) (fun cdv A outer s H vs Q E hr h => ?_)
  · obtain ⟨_, _, rfl, _⟩ := h
    rfl
  · obtain ⟨f, p, rfl, h0, h1, h2, h3, q⟩ := h
    refine ⟨_, (pss_cons (ps_set (i := 2) sc_power_of.nd rfl (Or.inl rfl) pe_int)
      (pss_cons (ps_for PassesOwn.never rfl (pi_range1 (by rfl) T.m_range (pa_cons (pv 1) pa_nil)) (pg_name (i := 3) sc_power_of.nd rfl (Or.inl rfl)) (pss_one (ps_set (i := 2) sc_power_of.nd rfl (Or.inl rfl) (pe_op op_mul (pv 2) (pv 0)))))
      (pss_one (ps_ret (pv 2))))), ?_⟩
    refine ⟨_, rfl, _, rfl, by omega, by omega, for_range (lo := 0) (n := p.toNat) (fun i σ' H' => H' = H ∧ ∃ y, σ' = [some (.int f), some (.int p), some (.int (f ^ i)), y]) ⟨rfl, none, by rw [Int.pow_zero]; rfl⟩ ?_ ?_⟩
    · rintro i σ' H' hi ⟨rfl, y, rfl⟩
      refine ⟨_, rfl, _, rfl, _, _, rfl, rfl, .inr ⟨h2, h3⟩, rfl, some (.int (0 + i)), ?_⟩
      rw [Int.pow_succ]
      rfl
    · rintro σ' H' ⟨rfl, y, rfl⟩
      exact ⟨_, rfl, q⟩

/-! ### step_of -/
def sp_step_of (K : PySem.W.Frag) : Sp := fun vs H Q _ => ∃ n b p : Nat, vs = [.int (n : Int), .int (b : Int), .int (p : Int)] ∧ 2 ≤ b ∧ b ≤ 16 ∧ p ≤ 10 ∧ n < 2 ^ 900 ∧ ∀ H', Same H H' → Q (.int (stepN b p n : Nat)) H'
theorem ok_step_of (T : Txt K mg) : FnOk P w K mg base CX0 2 T.f_step_of T.fd_step_of ["number", "base", "power"] (sp_step_of K) := by
  refine T.F_step_of.ok sc_step_of (fun vs H Q E h => ?_) (fun cdv A outer s H vs Q E hr h => ?_)
  · obtain ⟨_, _, _, rfl, _⟩ := h
    rfl
  · obtain ⟨n, b, p, rfl, hb, hb16, hp, hn, q⟩ := h
    have fl := figs_le hb hn
    refine ⟨_, (pss_one (ps_ret (pe_callB (id := "sum") (cr_sum rfl) (by rfl) T.m_sum (by decide +kernel) (pa_cons (pe_lc (own := [("figure", 3)]) (g := (gName 3)) (tt := tYes) rfl sc_step_of.nd (pi_tup (pe_call (ok_figures_of T) hr (by rfl) T.g_figures_of T.F_figures_of.kp T.b_figures_of .nil pass0 (pa_cons (pv 0) (pa_cons (pv 1) pa_nil)))) (blkOk_by (own := [("figure", 3)]) (N := ["number", "base", "power", "figure"]) (sc := defScope s_step_of) (by decide +kernel)) (fun _ _ _ _ _ => (pg_name (i := 3) sc_step_of.nd rfl (Or.inl rfl))) (fun _ _ _ _ _ => pts_nil) (fun _ _ _ _ _ => (pe_call (ok_power_of T) hr (by rfl) T.g_power_of T.F_power_of.kp T.b_power_of .nil pass0 (pa_cons (pv 3) (pa_cons (pv 2) pa_nil))))) pa_nil)))), ?_⟩
    refine ⟨_, rfl, _, rfl, n, b, rfl, hb, hb16, hn, fun H1 t s1 n1 e1 => ⟨t, rfl, ⟨_, .of e1⟩, fun D hD => ?_⟩⟩
    refine lc_tup (xs := ivs (figs b n)) (fun i H' => Same H1 H' ∧ H' D = some (.lst (ivs (((figs b n).take i).map (· ^ p))))) ⟨Same.new hD, upd_same⟩ ?_ ?_ ?_
    · rintro i H' hi ⟨s2, e2⟩
      exact .of (s2 _ _ e1)
    · rintro i x H' hx ⟨s2, e2⟩
      obtain ⟨k, hk, rfl⟩ := ivs_get hx
      have kb := figs_below hb (List.mem_of_getElem? hk)
      have hi : i < (figs b n).length := (List.getElem?_eq_some_iff.mp hk).1
      refine ⟨rfl, _, rfl, _, rfl, (k : Int), (p : Int), rfl, by omega, by omega, by omega, by omega, ?_⟩
      refine ⟨_, e2, small1000 ?_, same_own s2 hD, ?_⟩
      · rw [ivs_length, List.length_map, List.length_take]
        omega
      · rw [upd_same, List.take_add_one, hk, List.map_append, ivs_append]
        show some (HO.lst (_ ++ [V.int ((k : Int) ^ p)])) = some (HO.lst (_ ++ [V.int ((k ^ p : Nat) : Int)]))
        rw [Int.natCast_pow]
    · rintro H' ⟨s2, e2⟩
      rw [ivs_length, List.take_length, ivs_map] at e2
      refine ⟨D, _, rfl, .of e2, ?_⟩
      rw [sum_cast]
      exact q H' (s1.trans s2)

/-! ### row_from -/
def sp_row_from (K : PySem.W.Frag) : Sp := fun vs H Q _ => ∃ n b p m : Nat, vs = [.int (n : Int), .int (b : Int), .int (p : Int), .int (m : Int)] ∧ 2 ≤ b ∧ b ≤ 16 ∧ p ≤ 10 ∧ n < 2 ^ 900 ∧ m ≤ 900 ∧ ∀ H' t, Same H H' → H t = none → H' t = some (.tup (ivs (rowN b p n m))) → Q (.ref t) H'
theorem ok_row_from (T : Txt K mg) : FnOk P w K mg base CX0 3 T.f_row_from T.fd_row_from ["number", "base", "power", "many"] (sp_row_from K) := by
  refine T.F_row_from.ok sc_row_from (fun vs H Q E h => ?_) (fun cdv A outer s H vs Q E hr h => ?_)
  · obtain ⟨_, _, _, _, rfl, _⟩ := h
    rfl
  · obtain ⟨n, b, p, m, rfl, hb, hb16, hp, hn, hm, q⟩ := h
    refine ⟨_, (pss_cons (ps_set (i := 4) sc_row_from.nd rfl (Or.inl rfl) (pe_lst pa_nil))
      (pss_cons (ps_for PassesOwn.never rfl (pi_range1 (by rfl) T.m_range (pa_cons (pv 3) pa_nil)) (pg_name (i := 5) sc_row_from.nd rfl (Or.inl rfl)) (pss_cons (ps_expr (pe_bm PySem.F.plainAttrs_list PySem.F.slot_list_append PySem.F.type_list_append mt_append (pv 4) (pa_cons (pv 0) pa_nil)))
      (pss_one (ps_set (i := 0) sc_row_from.nd rfl (Or.inl rfl) (pe_call (ok_step_of T) hr (by rfl) T.g_step_of T.F_step_of.kp T.b_step_of .nil pass0 (pa_cons (pv 0) (pa_cons (pv 1) (pa_cons (pv 2) pa_nil))))))))
      (pss_one (ps_ret (pe_callTy (T := "tuple") call_tuple_of (by rfl) T.m_tuple (by decide +kernel) (pa_cons (pv 4) pa_nil)))))), ?_⟩
    refine ⟨Nat.zero_le _, fun r hr => ?_⟩
    generalize g1 : upd H r _ = H1
    obtain ⟨s1, t1⟩ := new_of g1 hr
    refine ⟨_, rfl, _, rfl, by omega, by omega, for_range (lo := 0) (n := m) (fun i σ' H' => Same H H' ∧ H' r = some (.lst (ivs (rowN b p n i))) ∧ ∃ y, σ' = [some (.int (itN b p n i : Nat)), some (.int (b : Int)), some (.int (p : Int)), some (.int (m : Int)), some (.ref r), y]) ⟨s1, t1, none, rfl⟩ ?_ ?_⟩
    · rintro i σ' H2 hi ⟨s2, t2, y, rfl⟩
      refine ⟨_, rfl, .inl ⟨rfl, _, .of t2⟩, _, rfl, r, _, _, rfl, rfl, t2, small1000 (by rw [ivs_length, rowN_len]; omega), ?_⟩
      have s3 := same_own (o := .lst (ivs (rowN b p n i) ++ [.int (itN b p n i : Nat)])) s2 hr
      refine ⟨_, rfl, _, rfl, _, rfl, itN b p n i, b, p, rfl, hb, hb16, hp, itN_lt hb hb16 hp hn i, fun H4 s4 => ?_⟩
      refine ⟨s3.trans s4, ?_, _, rfl⟩
      rw [s4 _ _ upd_same, rowN, ivs_append]
      rfl
    · rintro σ' H2 ⟨s2, t2, y, rfl⟩
      refine ⟨_, rfl, r, _, rfl, .inl ⟨.of t2, fun t ht => ?_⟩⟩
      exact q _ t (s2.trans (Same.new ht)) (s2.free ht) upd_same

/-! ### length_down -/
def sp_length_down (K : PySem.W.Frag) : Sp := fun vs H Q _ => ∃ b p : Int, vs = [.int b, .int p] ∧ OkPair b p ∧ ∀ L : Nat, IsLen b (worth b p) L → L ≤ 15 → Q (.int (L : Int)) H
def W_length_down (b p : Int) (H : Hp) (m : Nat) (σ' : L2.St) (H' : Hp) : Prop := ∃ L : Nat, m = 15 - L ∧ H' = H ∧ σ' = [some (.int b), some (.int p), some (.int (worth b p)), some (.int (L : Int)), some (.int (b ^ (L - 1)))] ∧ 2 ≤ L ∧ L ≤ 15 ∧ ∀ k : Nat, 2 ≤ k → k < L → b ^ (k - 1) ≤ (k : Int) * worth b p
theorem ok_length_down (T : Txt K mg) : FnOk P w K mg base CX0 2 T.f_length_down T.fd_length_down ["base", "power"] (sp_length_down K) := by
  refine T.F_length_down.ok sc_length_down (fun vs H Q E h => ?_) (fun cdv A outer s H vs Q E hr h => ?_)
  · obtain ⟨_, _, rfl, _⟩ := h
    rfl
  · obtain ⟨b, p, rfl, hp, q⟩ := h
    obtain ⟨h1, h2, h3, h4⟩ := id hp
    have p10 := hp.le10
    have hw := hp.worth
    refine ⟨_, (pss_cons (ps_set (i := 2) sc_length_down.nd rfl (Or.inl rfl) (pe_call (ok_power_of T) hr (by rfl) T.g_power_of T.F_power_of.kp T.b_power_of .nil pass0 (pa_cons (pe_op op_sub (pv 0) pe_int) (pa_cons (pv 1) pa_nil))))
      (pss_cons (ps_set (i := 3) sc_length_down.nd rfl (Or.inl rfl) pe_int)
      (pss_cons (ps_set (i := 4) sc_length_down.nd rfl (Or.inl rfl) (pv 0))
      (pss_cons (ps_while PassesOwn.never (pt_cmpR op_ge (pe_op op_mul (pv 3) (pv 2)) (pv 4) (nomark _)) (pss_cons (ps_aug (i := 3) sc_length_down.nd rfl (Or.inl rfl) pe_int ip_add)
      (pss_one (ps_set (i := 4) sc_length_down.nd rfl (Or.inl rfl) (pe_op op_mul (pv 4) (pv 0))))))
      (pss_one (ps_ret (pv 3))))))), ?_⟩
    refine ⟨_, rfl, b, 1, rfl, rfl, _, rfl, b - 1, p, rfl, by omega, by omega, by omega, by omega, ?_⟩
    refine ⟨_, rfl, W_length_down b p H, ⟨13, 2, rfl, rfl, ?_, by decide, by decide, fun k _ _ => by omega⟩, ?_⟩
    · have e : b ^ (2 - 1) = b := Int.pow_one b
      rw [e]
      rfl
    · rintro m σ' H' ⟨L, rfl, rfl, rfl, l2, l15, ih⟩
      have w1 : ∀ x : Int, -(2 ^ 64) < (L : Int) ∧ (L : Int) < 2 ^ 64 := fun _ => by omega
      refine ⟨_, rfl, _, rfl, _, _, rfl, rfl, .inl (w1 0), _, rfl, _, _, rfl, rfl, _, rfl, ?_⟩
      by_cases t : b ^ (L - 1) ≤ (L : Int) * worth b p
      · rw [decide_eq_true t]
        have l := len_lt h1 (by omega) l15 t
        refine iteT ⟨Nx (W_length_down b p H') (15 - L), Nx.id, ?_⟩
        refine ⟨_, rfl, _, _, rfl, rfl, _, rfl, _, rfl, _, _, rfl, rfl, .inr (by omega), ?_⟩
        refine ⟨15 - (L + 1), by omega, L + 1, rfl, rfl, ?_, by omega, by omega, len_step ih t⟩
        have e : b ^ (L + 1 - 1) = b ^ (L - 1) * b := by
          rw [← Int.pow_succ]
          congr 1
          omega
        rw [e]
        rfl
      · rw [decide_eq_false t]
        exact iteF ⟨_, rfl, q L ⟨l2, by omega, ih⟩ l15⟩

/-! ### length_shown -/
def sp_length_shown (K : PySem.W.Frag) : Sp := fun vs H Q _ => ∃ b p n : Int, vs = [.int b, .int p, .int n] ∧ OkPair b p ∧ ∀ L : Nat, IsLen b (worth b p) L → L ≤ 15 → Q (.bl (decide ((L : Int) ≤ n))) H
theorem ok_length_shown (T : Txt K mg) : FnOk P w K mg base CX0 3 T.f_length_shown T.fd_length_shown ["base", "power", "length"] (sp_length_shown K) := by
  refine T.F_length_shown.ok sc_length_shown (fun vs H Q E h => ?_) (fun cdv A outer s H vs Q E hr h => ?_)
  · obtain ⟨_, _, _, rfl, _⟩ := h
    rfl
  · obtain ⟨b, p, n, rfl, hp, q⟩ := h
    refine ⟨_, (pss_one (ps_ret (pe_cmpR op_ge (pv 2) (pe_call (ok_length_down T) hr (by rfl) T.g_length_down T.F_length_down.kp T.b_length_down .nil pass0 (pa_cons (pv 0) (pa_cons (pv 1) pa_nil))) (nomark _)))), ?_⟩
    exact ⟨_, rfl, _, rfl, _, rfl, b, p, rfl, hp, fun L hL l15 => ⟨_, _, rfl, rfl, q L hL l15⟩⟩

/-! ### gains_by_place -/
def sp_gains_by_place (K : PySem.W.Frag) : Sp := fun vs H Q _ => ∃ b p m : Nat, vs = [.int (b : Int), .int (p : Int), .int (m : Int)] ∧ 2 ≤ b ∧ b ≤ 16 ∧ p ≤ 10 ∧ m ≤ 15 ∧
  ∀ H' R rs, Same H H' → H R = none → H' R = some (.lst rs) → Lists H' rs ((List.range m).map (gainRow b p)).reverse → Q (.ref R) H'
def powsB (b p : Nat) : List Int := (List.range b).map fun f => ((f ^ p : Nat) : Int)
theorem ok_gains_by_place (T : Txt K mg) : FnOk P w K mg base CX0 2 T.f_gains_by_place T.fd_gains_by_place ["base", "power", "many"] (sp_gains_by_place K) := by
  refine T.F_gains_by_place.ok sc_gains_by_place (fun vs H Q E h => ?_) (fun cdv A outer s H vs Q E hr h => ?_)
  · obtain ⟨_, _, _, rfl, _⟩ := h
    rfl
  · obtain ⟨b, p, m, rfl, hb, hb16, hp, hm, q⟩ := h
    refine ⟨_, (pss_cons (ps_set (i := 3) sc_gains_by_place.nd rfl (Or.inr rfl) (pe_lc (own := [("figure", 4)]) (g := (gName 4)) (tt := tYes) rfl sc_gains_by_place.nd (pi_range1 (by rfl) T.m_range (pa_cons (pv 0) pa_nil)) (blkOk_by (own := [("figure", 4)]) (N := ["base", "power", "many", "powers", "figure", "rows", "weight", "_"]) (sc := defScope s_gains_by_place) (by decide +kernel)) (fun _ _ _ _ _ => (pg_name (i := 4) sc_gains_by_place.nd rfl (Or.inl rfl))) (fun _ _ _ _ _ => pts_nil) (fun _ _ _ _ _ => (pe_call (ok_power_of T) hr (by rfl) T.g_power_of T.F_power_of.kp T.b_power_of .nil pass0 (pa_cons (pv 4) (pa_cons (pv 1) pa_nil))))))
      (pss_cons (ps_set (i := 5) sc_gains_by_place.nd rfl (Or.inl rfl) (pe_lst pa_nil))
      (pss_cons (ps_set (i := 6) sc_gains_by_place.nd rfl (Or.inr rfl) pe_int)
      (pss_cons (ps_for PassesOwn.never rfl (pi_range1 (by rfl) T.m_range (pa_cons (pv 2) pa_nil)) (pg_name (i := 7) sc_gains_by_place.nd rfl (Or.inl rfl)) (pss_cons (ps_expr (pe_bm PySem.F.plainAttrs_list PySem.F.slot_list_append PySem.F.type_list_append mt_append (pv 5) (pa_cons (pe_lc (own := [("figure", 4)]) (g := (gName 4)) (tt := tYes) rfl sc_gains_by_place.nd (pi_range1 (by rfl) T.m_range (pa_cons (pv 0) pa_nil)) (blkOk_by (own := [("figure", 4)]) (N := ["base", "power", "many", "powers", "figure", "rows", "weight", "_"]) (sc := defScope s_gains_by_place) (by decide +kernel)) (fun _ _ _ _ _ => (pg_name (i := 4) sc_gains_by_place.nd rfl (Or.inl rfl))) (fun _ _ _ _ _ => pts_nil) (fun _ _ _ _ _ => (pe_op op_sub (pe_ix (show IxR _ (rIxL K) from ix_list) (pv 3) (pv 4) (fun _ _ => rfl)) (pe_op op_mul (pv 4) (pv 6))))) pa_nil)))
      (pss_one (ps_set (i := 6) sc_gains_by_place.nd rfl (Or.inr rfl) (pe_op op_mul (pv 6) (pv 0))))))
      (pss_one (ps_ret (pe_revL (pv 5)))))))), ?_⟩
    refine ⟨_, rfl, _, rfl, by omega, by omega, fun D hD => lc_range (lo := 0) (n := b) (fun i H' => Same H H' ∧ H' D = some (.lst (((List.range i).map fun f => ((f ^ p : Nat) : Int)).map V.int))) ⟨Same.new hD, upd_same⟩ ?_ ?_⟩
    · rintro i H' hi ⟨s1, e1⟩
      refine ⟨rfl, _, rfl, _, rfl, (0 + (i : Int)), (p : Int), rfl, by omega, by omega, by omega, by omega, _, e1, small1000 ?_, same_own s1 hD, ?_⟩
      · rw [List.length_map, List.length_map, List.length_range]
        omega
      · rw [upd_same, List.range_succ, List.map_append, List.map_append, Int.zero_add, Int.toNat_natCast]
        show _ = some (HO.lst (_ ++ [V.int ((i ^ p : Nat) : Int)]))
        rw [Int.natCast_pow]
    rintro H1 ⟨s1, e1⟩
    refine ⟨Nat.zero_le _, fun R hR => ?_⟩
    generalize g2 : upd H1 R _ = H2
    obtain ⟨s2, t2⟩ := new_of g2 hR
    have eP : H2 D = some (.lst ((powsB b p).map V.int)) := s2 _ _ e1
    have hRD : D ≠ R := ne_of_none e1 hR
    refine ⟨_, rfl, _, rfl, by omega, by omega, for_range (lo := 0) (n := m) (fun i σ' H' => Same H1 H' ∧ (∃ rs, H' R = some (.lst rs) ∧ rs.length = i ∧ (∀ a, V.ref a ∈ rs → a ≠ R) ∧ Lists H' rs ((List.range i).map (gainRow b p))) ∧ ∃ y4 y7, σ' = [some (.int (b : Int)), some (.int (p : Int)), some (.int (m : Int)), some (.ref D), y4, some (.ref R), some (.int ((b ^ i : Nat) : Int)), y7]) ⟨s2, ⟨[], t2, rfl, (fun a h => nomatch h), Lists.nil⟩, none, none, rfl⟩ ?_ ?_⟩
    · rintro i σ' H3 hi ⟨s3, ⟨rs, e3, l3, n3, ls⟩, y4, y7, rfl⟩
      have eP3 : H3 D = some (.lst ((powsB b p).map V.int)) := s3 _ _ e1
      refine ⟨_, rfl, .inl ⟨rfl, _, .of e3⟩, ?_⟩
      refine ⟨_, rfl, _, rfl, by omega, by omega, fun D2 hD2 => lc_range (lo := 0) (n := b) (fun k H' => Same H3 H' ∧ H' D2 = some (.lst (((List.range k).map (gain b p i)).map V.int))) ⟨Same.new hD2, upd_same⟩ ?_ ?_⟩
      · rintro k H4 hk ⟨s4, e4⟩
        have ak : atI ((powsB b p).map V.int) (0 + (k : Int)) = some (.int ((k ^ p : Nat) : Int)) := by
          rw [Int.zero_add]
          refine atI_nat (int_at ?_)
          unfold powsB
          rw [List.getElem?_map, List.getElem?_range hk]
          rfl
        refine ⟨rfl, _, rfl, _, rfl, D, _, _, _, rfl, rfl, .of (s4 _ _ eP3), ak, _, rfl, _, rfl, _, _, rfl, rfl, .inl (by omega), _, _, rfl, rfl, _, e4, small1000 ?_, same_own s4 hD2, ?_⟩
        · rw [List.length_map, List.length_map, List.length_range]
          omega
        · rw [upd_same, List.range_succ, List.map_append, List.map_append, Int.zero_add]
          rfl
      · rintro H4 ⟨s4, e4⟩
        have e4R : H4 R = some (.lst rs) := s4 _ _ e3
        have nD2 : D2 ≠ R := (ne_of_none e3 hD2).symm
        refine ⟨R, rs, _, rfl, rfl, e4R, small1000 (by omega), ?_⟩
        refine ⟨_, rfl, _, rfl, _, _, rfl, rfl, .inr (by omega), ?_⟩
        refine ⟨fun x o e => ?_, ⟨rs ++ [.ref D2], upd_same, by rw [List.length_append, l3]; rfl, ?_, ?_⟩, y4, some (.int (0 + (i : Int))), ?_⟩
        · rw [upd_ne (ne_of_none e hR)]
          exact s4 _ _ (s3 _ _ e)
        · intro a ha
          rcases List.mem_append.mp ha with ha | ha
          · exact n3 a ha
          · cases List.mem_singleton.mp ha
            exact nD2
        · rw [List.range_succ, List.map_append]
          refine Lists.off ((ls.mono s4).push e4) fun a l ha _ => ?_
          rcases List.mem_append.mp ha with ha | ha
          · exact n3 a ha
          · cases List.mem_singleton.mp ha
            exact nD2
        · rw [Nat.pow_succ]
          rfl
    · rintro σ' H3 ⟨s3, ⟨rs, e3, l3, n3, ls⟩, y4, y7, rfl⟩
      refine ⟨_, rfl, R, _, rfl, .of e3, fun R2 hR2 => ?_⟩
      generalize g5 : upd H3 R2 _ = H5
      obtain ⟨s5, t5⟩ := new_of g5 hR2
      refine q H5 R2 rs.reverse (s1.trans (s3.trans s5)) (s1.free (s3.free hR2)) t5 (ls.mono s5).rev

/-! ### greatest_figure -/
def sp_greatest_figure (K : PySem.W.Frag) : Sp := fun vs H Q _ => ∃ (a : Addr) (l : List Int) (x : Int), vs = [.ref a, .int x] ∧ H a = some (.lst (l.map V.int)) ∧ l.length ≤ 16 ∧ (∃ y ∈ l, x ≤ y) ∧
  ∀ H' (f : Nat) y, Same H H' → l[f]? = some y → x ≤ y → (∀ e z, l[e]? = some z → x ≤ z → e ≤ f) → Q (.int (f : Int)) H'
/-- the places of what is as great, among the first i -/
def goodAt (l : List Int) (x : Int) (i : Nat) : List Nat := (List.range i).filter fun k => decide (x ≤ l.getD k 0)
theorem goodAt_succ (l : List Int) (x : Int) (i : Nat) : goodAt l x (i + 1) = goodAt l x i ++ (if x ≤ l.getD i 0 then [i] else []) := by
  unfold goodAt
  rw [List.range_succ, List.filter_append]
  by_cases h : x ≤ l.getD i 0
  · rw [if_pos h, List.filter_cons_of_pos (by simpa using h)]
    rfl
  · rw [if_neg h, List.filter_cons_of_neg (by simpa using h)]
    rfl
theorem goodAt_mem {l : List Int} {x : Int} {i k : Nat} : k ∈ goodAt l x i ↔ k < i ∧ x ≤ l.getD k 0 := by
  unfold goodAt
  rw [List.mem_filter, List.mem_range]
  simp
theorem goodAt_len (l : List Int) (x : Int) (i : Nat) : (goodAt l x i).length ≤ i := by
  unfold goodAt
  have := List.length_filter_le (fun k => decide (x ≤ l.getD k 0)) (List.range i)
  rwa [List.length_range] at this
theorem getD_of {l : List Int} {i : Nat} {y : Int} (h : l[i]? = some y) : l.getD i 0 = y := by
  rw [List.getD_eq_getElem?_getD, h]
  rfl
theorem ok_greatest_figure (T : Txt K mg) : FnOk P w K mg base CX0 1 T.f_greatest_figure T.fd_greatest_figure ["gains", "needed"] (sp_greatest_figure K) := by
  refine T.F_greatest_figure.ok sc_greatest_figure (fun vs H Q E h => ?_) (fun cdv A outer s H vs Q E hr h => ?_)
  · obtain ⟨_, _, _, rfl, _⟩ := h
    rfl
  · obtain ⟨a, l, x, rfl, ha, hl, ⟨y0, hy0, hx0⟩, q⟩ := h
    refine ⟨_, (pss_one (ps_ret (pe_callB (id := "max") (cr_max rfl) (by rfl) T.m_max (by decide +kernel) (pa_cons (pe_lc (own := [("figure", 2), ("gain", 3)]) (g := (gTup K 2 (gCons (gName 2) (gCons (gName 3) gNil)))) rfl sc_greatest_figure.nd (pi_enum (by rfl) T.m_enumerate (pa_cons (pv 0) pa_nil)) (blkOk_by (own := [("figure", 2), ("gain", 3)]) (N := ["gains", "needed", "figure", "gain"]) (sc := defScope s_greatest_figure) (by decide +kernel)) (fun _ _ _ _ _ => (pg_tup rfl (pgs_cons (pg_name (i := 2) sc_greatest_figure.nd rfl (Or.inl rfl)) (pgs_cons (pg_name (i := 3) sc_greatest_figure.nd rfl (Or.inl rfl)) pgs_nil)))) (fun _ _ _ _ _ => pts_one (pt_cmpR op_ge (pv 3) (pv 1) (nomark _))) (fun _ _ _ _ _ => (pv 2))) pa_nil)))), ?_⟩
    refine ⟨_, rfl, a, _, rfl, .of ha, fun D hD => ?_⟩
    refine lc_it (walk_enum (a := a) (xs := l.map V.int)) (fun i H' => Same H H' ∧ H' D = some (.lst (ivs (goodAt l x i)))) ⟨Same.new hD, upd_same⟩ (fun i H' _ z => .of (z.1 _ _ ha)) ?_ ?_
    · rintro i v H1 H2 hi ⟨s1, e1⟩ ⟨t, x0, y, rfl, ht, rfl, ex0, hy⟩
      cases ex0
      obtain ⟨k, hk, rfl⟩ := int_get hy
      have hD2 : (upd H1 t (.tup [.int (i : Nat), .int k])) D = some (.lst (ivs (goodAt l x i))) := by
        rw [upd_ne (ne_of_none e1 ht)]
        exact e1
      refine ⟨t, _, rfl, .of upd_same, rfl, _, _, rfl, _, _, rfl, rfl, rfl, ?_⟩
      refine ⟨_, rfl, _, rfl, _, _, rfl, rfl, _, rfl, ?_⟩
      rw [goodAt_succ, getD_of hk]
      have ln := goodAt_len l x i
      rw [List.length_map] at hi
      by_cases c : x ≤ k
      · rw [decide_eq_true c, if_pos c]
        refine ⟨_, rfl, _, hD2, small1000 (by rw [ivs_length]; omega), same_own (s1.trans (Same.new ht)) hD, ?_⟩
        rw [upd_same, ivs_append]
        rfl
      · rw [decide_eq_false c, if_neg c, List.append_nil]
        exact ⟨s1.trans (Same.new ht), hD2⟩
    · rintro H1 ⟨s1, e1⟩
      rw [List.length_map] at e1
      obtain ⟨i0, hi0, ei0⟩ := List.getElem_of_mem hy0
      have m0 : i0 ∈ goodAt l x l.length := goodAt_mem.mpr ⟨hi0, by rw [getD_of (List.getElem?_eq_getElem hi0), ei0]; exact hx0⟩
      rw [ivs_map] at e1
      refine ⟨D, _, rfl, .of e1, ?_, fun m hm hmax => ?_⟩
      · rw [List.length_map]
        exact List.length_pos_iff.mpr fun z => by rw [z] at m0; cases m0
      obtain ⟨f, hf, rfl⟩ := List.mem_map.mp hm
      obtain ⟨f1, f2⟩ := goodAt_mem.mp hf
      have ef : l[f]? = some l[f] := List.getElem?_eq_getElem f1
      rw [getD_of ef] at f2
      refine q H1 f _ s1 ef f2 fun e z he hz => ?_
      have he1 := (List.getElem?_eq_some_iff.mp he).1
      have := hmax (e : Int) (List.mem_map.mpr ⟨e, goodAt_mem.mpr ⟨he1, by rw [getD_of he]; exact hz⟩, rfl⟩)
      omega

/-! ### greatest_kept -/
def sp_greatest_kept (K : PySem.W.Frag) : Sp := fun vs H Q _ => ∃ b p : Nat, vs = [.int (b : Int), .int (p : Int)] ∧ OkPair (b : Int) (p : Int) ∧ ∀ H' G, Same H H' → IsKept b p G → G < b ^ 14 → Q (.int (G : Int)) H'
theorem revRange {α : Type} {f : Nat → α} {M i : Nat} (h : i < M) : ((List.range M).map f).reverse[i]? = some (f (M - 1 - i)) := by
  rw [List.getElem?_reverse (by rw [List.length_map, List.length_range]; exact h), List.length_map, List.length_range, List.getElem?_map, List.getElem?_range (by omega)]
  rfl
/-- the greatest ones of the first i rows, together -/
def maxRow (b p M i : Nat) : List Int := (List.range i).map fun k => rowMax b p (M - 1 - k)
theorem maxRow_sum (b p M : Nat) : ∀ i, i ≤ M → (maxRow b p M i).sum + restMax b p (M - i) = restMax b p M
  | 0, _ => by
    show (0 : Int) + _ = _
    rw [Int.zero_add, Nat.sub_zero]
  | i + 1, h => by
    have ih := maxRow_sum b p M i (by omega)
    unfold maxRow at ih ⊢
    rw [List.range_succ, List.map_append, List.sum_append, List.map_singleton, List.sum_singleton]
    have e : M - i = (M - (i + 1)) + 1 := by omega
    rw [e] at ih
    have e2 : M - 1 - i = M - (i + 1) := by omega
    rw [e2]
    have e3 : restMax b p (M - (i + 1) + 1) = restMax b p (M - (i + 1)) + rowMax b p (M - (i + 1)) := rfl
    omega
theorem ok_greatest_kept (T : Txt K mg) : FnOk P w K mg base CX0 3 T.f_greatest_kept T.fd_greatest_kept ["base", "power"] (sp_greatest_kept K) := by
  refine T.F_greatest_kept.ok sc_greatest_kept (fun vs H Q E h => ?_) (fun cdv A outer s H vs Q E hr h => ?_)
  · obtain ⟨_, _, rfl, _⟩ := h
    rfl
  · obtain ⟨b, p, rfl, ok, q⟩ := h
    have hb : 2 ≤ b := by have := ok.1; omega
    have hb16 : b ≤ 16 := by have := ok.2.1; omega
    have hp1 : 1 ≤ p := by have := ok.2.2.1; omega
    have hp : p ≤ 10 := by have := ok.le10; omega
    refine ⟨_, (pss_cons (ps_set (i := 2) sc_greatest_kept.nd rfl (Or.inl rfl) (pe_call (ok_gains_by_place T) hr (by rfl) T.g_gains_by_place T.F_gains_by_place.kp T.b_gains_by_place .nil pass0 (pa_cons (pv 0) (pa_cons (pv 1) (pa_cons (pe_op op_sub (pe_call (ok_length_down T) hr (by rfl) T.g_length_down T.F_length_down.kp T.b_length_down .nil pass0 (pa_cons (pv 0) (pa_cons (pv 1) pa_nil))) pe_int) pa_nil)))))
      (pss_cons (ps_set (i := 3) sc_greatest_kept.nd rfl (Or.inl rfl) (pe_callB (id := "sum") (cr_sum rfl) (by rfl) T.m_sum (by decide +kernel) (pa_cons (pe_lc (own := [("gains", 4)]) (g := (gName 4)) (tt := tYes) rfl sc_greatest_kept.nd (pi_list (pv 2)) (blkOk_by (own := [("gains", 4)]) (N := ["base", "power", "rows", "spare", "gains", "number", "figure"]) (sc := defScope s_greatest_kept) (by decide +kernel)) (fun _ _ _ _ _ => (pg_name (i := 4) sc_greatest_kept.nd rfl (Or.inl rfl))) (fun _ _ _ _ _ => pts_nil) (fun _ _ _ _ _ => (pe_callB (id := "max") (show CallR _ (.builtin "max") (rMax K) from (cr_max rfl)) (by rfl) T.m_max (by decide +kernel) (pa_cons (pv 4) pa_nil)))) pa_nil)))
      (pss_cons (ps_set (i := 5) sc_greatest_kept.nd rfl (Or.inl rfl) pe_int)
      (pss_cons (ps_for PassesOwn.never rfl (pi_list (pv 2)) (pg_name (i := 4) sc_greatest_kept.nd rfl (Or.inl rfl)) (pss_cons (ps_set (i := 6) sc_greatest_kept.nd rfl (Or.inl rfl) (pe_call (ok_greatest_figure T) (hr.mono (by decide)) (by rfl) T.g_greatest_figure T.F_greatest_figure.kp T.b_greatest_figure .nil pass0 (pa_cons (pv 4) (pa_cons (pe_op op_sub (pe_callB (id := "max") (cr_max rfl) (by rfl) T.m_max (by decide +kernel) (pa_cons (pv 4) pa_nil)) (pv 3)) pa_nil))))
      (pss_cons (ps_set (i := 3) sc_greatest_kept.nd rfl (Or.inl rfl) (pe_op op_add (pe_op op_sub (pv 3) (pe_callB (id := "max") (cr_max rfl) (by rfl) T.m_max (by decide +kernel) (pa_cons (pv 4) pa_nil))) (pe_ix ix_list (pv 4) (pv 6) (fun _ _ => rfl))))
      (pss_one (ps_set (i := 5) sc_greatest_kept.nd rfl (Or.inl rfl) (pe_op op_add (pe_op op_mul (pv 5) (pv 0)) (pv 6)))))))
      (pss_one (ps_ret (pv 5))))))), ?_⟩
    refine ⟨_, rfl, _, rfl, _, rfl, _, rfl, (b : Int), (p : Int), rfl, ok, fun L hL l15 => ?_⟩
    have l2 := hL.two
    have eM : (L : Int) - 1 = ((L - 1 : Nat) : Int) := by omega
    refine ⟨_, _, rfl, rfl, b, p, L - 1, ?_, hb, hb16, hp, by omega, fun H1 R rs s1 nR eR lR => ?_⟩
    · rw [← eM]
      rfl
    have lrs : rs.length = L - 1 := by rw [lR.1, List.length_reverse, List.length_map, List.length_range]
    have rowAt : ∀ {H' : Hp} {i : Nat} {v : V}, Same H1 H' → rs[i]? = some v → i < L - 1 ∧ ∃ a, v = .ref a ∧ H' a = some (.lst ((gainRow b p (L - 1 - 1 - i)).map V.int)) := fun {H' i v} s hv => by
      have hi := (List.getElem?_eq_some_iff.mp hv).1
      rw [lrs] at hi
      obtain ⟨l, a, e1, e2, e3⟩ := lR.at hv
      rw [revRange hi] at e1
      cases e1
      exact ⟨hi, a, e2, s _ _ e3⟩
    -- spare
    refine ⟨_, rfl, R, rfl, ⟨_, .of eR⟩, fun D hD => lc_list (xs := rs) (fun i H' => Same H1 H' ∧ H' D = some (.lst ((maxRow b p (L - 1) i).map V.int))) ⟨Same.new hD, upd_same⟩ ?_ ?_ ?_⟩
    · rintro i H' hi ⟨s2, e2⟩
      exact .of (s2 _ _ eR)
    · rintro i v H' hv ⟨s2, e2⟩
      obtain ⟨hi, a, rfl, ea⟩ := rowAt s2 hv
      refine ⟨rfl, _, rfl, a, _, rfl, .of ea, ?_, fun m h1 h2 => ?_⟩
      · rw [gainRow_len]
        omega
      · rw [rowMax_uniq hb h1 h2]
        refine ⟨_, e2, small1000 ?_, same_own s2 hD, ?_⟩
        · unfold maxRow
          rw [List.length_map, List.length_map, List.length_range]
          omega
        · rw [upd_same]
          unfold maxRow
          rw [List.range_succ, List.map_append, List.map_append]
          rfl
    rintro H2 ⟨s2, e2⟩
    rw [lrs] at e2
    have sm := maxRow_sum b p (L - 1) (L - 1) (Nat.le_refl _)
    rw [Nat.sub_self] at sm
    have r0 : restMax b p 0 = 0 := rfl
    have sm2 : (maxRow b p (L - 1) (L - 1)).sum = restMax b p (L - 1) := by omega
    refine ⟨D, _, rfl, .of e2, ?_⟩
    -- the loop
    refine ⟨_, rfl, R, rfl, ⟨_, .of (s2 _ _ eR)⟩, for_list (xs := rs) (fun i σ' H' => Same H1 H' ∧ ∃ (x : Nat) (sp : Int) (y4 y6 : Option V), Greedy b p (L - 1) (L - 1 - i) x sp ∧ x < b ^ i ∧ σ' = [some (.int (b : Int)), some (.int (p : Int)), some (.ref R), some (.int sp), y4, some (.int (x : Int)), y6]) ⟨s2, 0, restMax b p (L - 1), none, none, Greedy.start hb hp1 _, by rw [Nat.pow_zero]; decide, by rw [← sm2]; rfl⟩ ?_ ?_ ?_⟩
    · rintro i σ' H' hi ⟨s3, _⟩
      exact .of (s3 _ _ eR)
    · rintro i v σ' H3 hv ⟨s3, x, sp, y4, y6, g, xb, rfl⟩
      obtain ⟨hi, a, rfl, ea⟩ := rowAt s3 hv
      have ej : L - 1 - i = (L - 1 - 1 - i) + 1 := by omega
      have spec := rowMax_spec (p := p) (j := L - 1 - 1 - i) hb
      have g0 := g.pos
      refine ⟨_, rfl, _, rfl, a, _, rfl, .of ea, by rw [gainRow_len]; omega, fun m h1 h2 => ?_⟩
      rw [rowMax_uniq hb h1 h2]
      refine ⟨_, rfl, _, _, rfl, rfl, a, gainRow b p (L - 1 - 1 - i), _, rfl, ea, by rw [gainRow_len]; omega, ⟨_, spec.1, by omega⟩, fun H4 f y s4 hf hy hmost => ?_⟩
      have fb : f < b := by
        have := (List.getElem?_eq_some_iff.mp hf).1
        rwa [gainRow_len] at this
      rw [gainRow_get fb] at hf
      cases hf
      have ea4 := s4 _ _ ea
      refine ⟨_, rfl, _, rfl, a, _, rfl, .of ea4, by rw [gainRow_len]; omega, fun m2 h3 h4 => ?_⟩
      rw [rowMax_uniq hb h3 h4]
      refine ⟨_, _, rfl, rfl, _, rfl, _, rfl, a, _, _, _, rfl, rfl, .of ea4, atI_nat (int_at (gainRow_get fb)), _, _, rfl, rfl, ?_⟩
      refine ⟨_, rfl, _, rfl, _, _, rfl, rfl, .inr (by omega), _, rfl, _, _, rfl, rfl, s3.trans s4, x * b + f, sp - rowMax b p (L - 1 - 1 - i) + gain b p (L - 1 - 1 - i) f, some (.ref a), some (.int (f : Int)), ?_, ?_, ?_⟩
      · rw [show L - 1 - (i + 1) = L - 1 - 1 - i by omega]
        rw [ej] at g
        refine g.next hb hp1 fb hy fun e he hz => hmost e _ (gainRow_get he) hz
      · rw [Nat.pow_succ]
        have := Nat.mul_le_mul_right b (show x + 1 ≤ b ^ i from xb)
        rw [Nat.succ_mul] at this
        omega
      · rw [Int.natCast_add, Int.natCast_mul]
        rfl
    · rintro σ' H3 ⟨s3, x, sp, y4, y6, g, xb, rfl⟩
      rw [lrs] at g xb
      rw [Nat.sub_self] at g
      refine ⟨_, rfl, q H3 x (s1.trans s3) (g.done hb hL) (Nat.lt_of_lt_of_le xb (Nat.pow_le_pow_right (by omega) (by omega)))⟩

/-! ### _law_mix -/
def sp__law_mix (K : PySem.W.Frag) : Sp := fun vs H Q _ => ∃ c k : Int, vs = [.int c, .int k] ∧ 0 ≤ k ∧ k < 2 ^ 44 ∧ ∀ r : Int, Q (.int r) H
theorem mix_bound {a b : Int} (h : 0 < b) : 0 ≤ a % b ∧ a % b < b := ⟨Int.emod_nonneg _ (by omega), Int.emod_lt_of_pos _ h⟩
theorem ok__law_mix (T : Txt K mg) : FnOk P w K mg base CX0 1 T.f__law_mix T.fd__law_mix ["cell", "k"] (sp__law_mix K) := by
  refine T.F__law_mix.ok sc__law_mix (fun vs H Q E h => ?_) (fun cdv A outer s H vs Q E hr h => ?_)
  · obtain ⟨_, _, rfl, _⟩ := h
    rfl
  · obtain ⟨c, k, rfl, h0, h1, q⟩ := h
    refine ⟨_, (pss_cons (ps_set (i := 2) sc__law_mix.nd rfl (Or.inl rfl) (pe_op op_add (pe_op op_mod (pv 0) pe_int) (pe_op op_mul (pe_op op_mul pe_int (pv 1)) (pv 1))))
      (pss_cons (ps_set (i := 2) sc__law_mix.nd rfl (Or.inl rfl) (pe_op op_mod (pe_op op_add (pv 2) (pe_op op_mul pe_int (pv 1))) pe_int))
      (pss_cons (ps_set (i := 2) sc__law_mix.nd rfl (Or.inl rfl) (pe_op op_mod (pe_op op_mul (pv 2) (pv 2)) pe_int))
      (pss_one (ps_ret (pe_op op_fdivW (pe_op op_mod (pe_op op_mul (pv 2) (pe_op op_add (pv 2) pe_int)) pe_int) pe_int)))))), ?_⟩
    have hk : -(2 ^ 64) < 1000003 * k ∧ 1000003 * k < 2 ^ 64 := by omega
    refine ⟨_, rfl, _, _, rfl, rfl, by walk_at "p", _, rfl, _, _, rfl, rfl, .inl (by decide), _, rfl, _, _, rfl, rfl, .inl hk, _, _, rfl, rfl, ?_⟩
    refine ⟨_, rfl, _, rfl, _, _, rfl, rfl, .inl (by decide), _, _, rfl, rfl, _, _, rfl, rfl, by walk_at "p", ?_⟩
    refine ⟨_, rfl, _, rfl, _, _, rfl, rfl, .inl ?_, _, _, rfl, rfl, by walk_at "p", ?_⟩
    · have b := mix_bound (a := c % 2147483629 + 1000003 * k * k + 7919 * k) (b := 2147483629) (by decide)
      exact ⟨by omega, by omega⟩
    generalize (c % 2147483629 + 1000003 * k * k + 7919 * k) % 2147483629 = n1
    have b := mix_bound (a := n1 * n1) (b := 2147483587) (by decide)
    generalize n1 * n1 % 2147483587 = n2 at b ⊢
    refine ⟨_, rfl, _, rfl, _, _, rfl, rfl, _, _, rfl, rfl, .inl ⟨by omega, by omega⟩, _, _, rfl, rfl, by walk_at "p", _, _, rfl, rfl, ⟨by decide, by decide +kernel⟩, ?_⟩
    exact q _

/-! ### _law_deck -/
def sp__law_deck (K : PySem.W.Frag) : Sp := fun vs H Q _ => ∃ (a : Addr) (ns : List Int), vs = [.ref a] ∧ SqL K H a (ns.map V.int) ∧ ∀ H' d c, Same H H' → H d = none → H c = none → Deck H' d c 0 → Q (.ref d) H'
theorem ok__law_deck (T : Txt K mg) : FnOk P w K mg base CX0 1 T.f__law_deck T.fd__law_deck ["script"] (sp__law_deck K) := by
  refine T.F__law_deck.ok sc__law_deck (fun vs H Q E h => ?_) (fun cdv A outer s H vs Q E hr h => ?_)
  · obtain ⟨_, _, rfl, _⟩ := h
    rfl
  · obtain ⟨a, ns, rfl, hS, q⟩ := h
    refine ⟨_, (pss_one (ps_ret (pe_lst (pa_cons (pe_slice sl_list (pv 0) po_none (po_some pe_int)) (pa_cons pe_int (pa_cons pe_int (pa_cons pe_int (pa_cons (pe_callB (id := "sum") (cr_sum rfl) (by rfl) T.m_sum (by decide +kernel) (pa_cons (pe_slice sl_list (pv 0) po_none (po_some pe_int)) pa_nil)) pa_nil)))))))), ?_⟩
    have ec : cutV (ns.map V.int) none (some 63) = (ns.take 63).map V.int := by
      rw [List.map_take]
      exact cut_to _ 63
    refine ⟨_, rfl, _, rfl, a, _, rfl, hS, fun c hc => ?_⟩
    rw [ec]
    have s1 : Same H (upd H c (.lst ((ns.take 63).map V.int))) := Same.new hc
    refine ⟨_, rfl, _, rfl, a, _, rfl, s1.seq hS, fun e he => ?_⟩
    rw [ec]
    generalize hH1 : upd H c (.lst ((ns.take 63).map V.int)) = H1 at s1 he ⊢
    have s2 : Same H1 (upd H1 e (.lst ((ns.take 63).map V.int))) := Same.new he
    refine ⟨e, _, rfl, .of upd_same, by show 5 ≤ sizeLine; decide, fun d hd => ?_⟩
    generalize hH2 : upd H1 e (.lst ((ns.take 63).map V.int)) = H2 at s2 hd ⊢
    have hc1 : H1 c = some (.lst ((ns.take 63).map V.int)) := by rw [← hH1]; exact upd_same
    have s3 : Same H2 (upd H2 d (.lst [.ref c, .int 0, .int 0, .int 0, .int (ns.take 63).sum])) := Same.new hd
    refine q _ d c (s1.trans (s2.trans s3)) (s1.free (s2.free hd)) hc ⟨ns.take 63, 0, 0, 0, (ns.take 63).sum, upd_same, s3 _ _ (s2 _ _ hc1), ?_⟩
    omega

/-! ### _law_next -/
def sp__law_next (K : PySem.W.Frag) : Sp := fun vs H Q _ => ∃ (d : Addr) (many : Int) (c : Addr) (n : Nat), vs = [.ref d, .int many] ∧ Deck H d c n ∧ n < 2 ^ 40 ∧ 0 < many ∧ many < 2 ^ 200 ∧
  ∀ H' (r : Int), But d H H' → Deck H' d c (n + 1) → 0 ≤ r → r < many → Q (.int r) H'
theorem ok__law_next (T : Txt K mg) : FnOk P w K mg base CX0 2 T.f__law_next T.fd__law_next ["deck", "many"] (sp__law_next K) := by
  refine T.F__law_next.ok sc__law_next (fun vs H Q E h => ?_) (fun cdv A outer s H vs Q E hr h => ?_)
  · obtain ⟨_, _, _, _, rfl, _⟩ := h
    rfl
  · obtain ⟨d, many, c, n, rfl, hD, hn, h0, h9, q⟩ := h
    have hcd := hD.ne
    obtain ⟨ns, i, l, m, t, eD, eC, i0, i1, m0, m1⟩ := hD.ex
    have hw : ∀ x : Int, CDivW x many := fun x => divW 200 h0 h9
    have r0 : ∀ x : Int, 0 ≤ x % many := fun x => Int.emod_nonneg _ (by omega)
    have r1 : ∀ x : Int, x % many < many := fun x => Int.emod_lt_of_pos _ h0
    refine ⟨_, (C8.pss_cut (ps_if (PW.pt (pw_and (pt_cmpR op_eq (pe_ix ix_list (pv 0) pe_int (fun _ _ => rfl)) pe_int (nomark _)) (pw_and1 (pt_cmpR op_lt (pe_ix ix_list (pv 0) pe_int (fun _ _ => rfl)) (pe_callB (id := "len") call_len_seq (by rfl) T.m_len (by decide +kernel) (pa_cons (pe_ix ix_list (pv 0) pe_int (fun _ _ => rfl)) pa_nil)) (nomark _))))) (pss_cons (ps_set (i := 2) sc__law_next.nd rfl (Or.inl rfl) (pe_ix ix_list (pe_ix ix_list (pv 0) pe_int (fun _ _ => rfl)) (pe_ix ix_list (pv 0) pe_int (fun _ _ => rfl)) (fun _ _ => rfl)))
      (pss_cons (ps_asg (pe_op op_add (pe_ix ix_list (pv 0) pe_int (fun _ _ => rfl)) pe_int) (pg_sub (pv 0) pe_int set_list))
      (pss_cons (ps_if (pt_cmpR op_lt (pv 2) (pe_op op_pow pe_int pe_int) (nomark _)) (pss_one (ps_ret (pe_op op_mod (pe_call (ok__law_mix T) hr (by rfl) T.g__law_mix T.F__law_mix.kp T.b__law_mix .nil pass0 (pa_cons (pv 2) (pa_cons (pe_ix ix_list (pv 0) pe_int (fun _ _ => rfl)) pa_nil))) (pv 1)))) pss_nil)
      (pss_one (ps_asg (pv 2) (pg_sub (pv 0) pe_int set_list)))))) pss_nil)
      (pss_cons (ps_if (pt_cmpR op_gt (pe_ix ix_list (pv 0) pe_int (fun _ _ => rfl)) pe_int (nomark _)) (pss_cons (ps_set (i := 3) sc__law_next.nd rfl (Or.inl rfl) (pe_op op_mod (pe_ix ix_list (pv 0) pe_int (fun _ _ => rfl)) (pv 1)))
      (pss_cons (ps_asg (pe_op op_fdivW (pe_ix ix_list (pv 0) pe_int (fun _ _ => rfl)) (pv 1)) (pg_sub (pv 0) pe_int set_list))
      (pss_one (ps_ret (pv 3))))) pss_nil)
      (pss_cons (ps_asg (pe_op op_add (pe_ix ix_list (pv 0) pe_int (fun _ _ => rfl)) pe_int) (pg_sub (pv 0) pe_int set_list))
      (pss_one (ps_ret (pe_op op_mod (pe_call (ok__law_mix T) hr (by rfl) T.g__law_mix T.F__law_mix.kp T.b__law_mix .nil pass0 (pa_cons (pe_ix ix_list (pv 0) pe_int (fun _ _ => rfl)) (pa_cons (pe_op op_add (pe_ix ix_list (pv 0) pe_int (fun _ _ => rfl)) pe_int) pa_nil))) (pv 1))))))), ?_⟩
    refine ⟨fun σ' H1 => ∃ i' l' y, σ' = [some (.ref d), some (.int many), y, none] ∧ But d H H1 ∧ H1 d = some (.lst [.ref c, .int i', .int l', .int m, .int t]) ∧ H1 c = some (.lst (ns.map V.int)) ∧ 0 ≤ i' ∧ i' ≤ i + 1, ?_, ?_⟩
    · -- deck[2] == 0 and deck[1] < len(deck[0])
      refine ⟨_, rfl, d, _, 2, .int l, rfl, rfl, .of eD, atI_nat (j := 2) rfl, rfl, _, rfl, ite2 (fun e => ?_) (fun e => ?_)⟩
      · refine ⟨_, rfl, d, _, 1, .int i, rfl, rfl, .of eD, atI_nat (j := 1) rfl, _, rfl, d, _, 0, .ref c, rfl, rfl, .of eD, atI_nat (j := 0) rfl, c, _, rfl, .inl (.of eC), _, _, rfl, rfl, _, rfl, ite2 (fun e2 => ?_) (fun e2 => ?_)⟩
        · -- cell = deck[0][deck[1]]
          have e3 : i < (ns.length : Int) := by
            have z := of_decide_eq_true e2
            rw [List.length_map] at z
            exact z
          have hi : i.toNat < ns.length := by omega
          have ci : atI (ns.map V.int) i = some (.int ns[i.toNat]) := by
            have z : (ns.map V.int)[i.toNat]? = some (.int ns[i.toNat]) := by
              rw [List.getElem?_map, List.getElem?_eq_getElem hi]
              rfl
            have y := atI_nat z
            rw [show ((i.toNat : Nat) : Int) = i by omega] at y
            exact y
          generalize ns[i.toNat] = cell at ci
          refine ⟨_, rfl, d, _, 0, .ref c, rfl, rfl, .of eD, atI_nat (j := 0) rfl, _, rfl, d, _, 1, .int i, rfl, rfl, .of eD, atI_nat (j := 1) rfl, c, _, i, .int cell, rfl, rfl, .of eC, ci, ?_⟩
          -- deck[1] = deck[1] + 1
          refine ⟨_, rfl, d, _, 1, .int i, rfl, rfl, .of eD, atI_nat (j := 1) rfl, _, _, rfl, rfl, _, rfl, d, _, 1, 1, rfl, rfl, eD, rfl, ?_⟩
          have b1 : But d H (upd H d (.lst [.ref c, .int (i + 1), .int l, .int m, .int t])) := But.set
          have d1 : (upd H d (.lst [.ref c, .int (i + 1), .int l, .int m, .int t])) d = some (.lst [.ref c, .int (i + 1), .int l, .int m, .int t]) := upd_same
          have c1 : (upd H d (.lst [.ref c, .int (i + 1), .int l, .int m, .int t])) c = some (.lst (ns.map V.int)) := by rw [upd_ne hcd]; exact eC
          -- if cell < 10 ** 18
          refine ⟨_, rfl, 10, 18, rfl, rfl, ⟨by decide, by decide, by decide⟩, _, _, rfl, rfl, _, rfl, ite2 (fun e4 => ?_) (fun e4 => ?_)⟩
          · refine ⟨_, rfl, _, rfl, d, _, 1, .int (i + 1), rfl, rfl, .of d1, atI_nat (j := 1) rfl, cell, i + 1, rfl, by omega, by omega, fun r => ?_⟩
            exact ⟨_, rfl, _, _, rfl, rfl, h0, q _ _ b1 ⟨ns, i + 1, l, m, t, d1, c1, by omega, by omega, m0, by omega⟩ (r0 _) (r1 _)⟩
          · refine ⟨_, rfl, _, rfl, d, _, 2, 2, rfl, rfl, d1, rfl, ?_⟩
            refine ⟨i + 1, cell, some (.int cell), rfl, b1.trans But.set, upd_same, ?_, by omega, by omega⟩
            rw [upd_ne hcd]
            exact c1
        · exact ⟨i, l, none, rfl, But.refl _ _, eD, eC, i0, by omega⟩
      · exact ⟨i, l, none, rfl, But.refl _ _, eD, eC, i0, by omega⟩
    · -- if deck[2] > 0
      rintro σ' H1 ⟨i', l', y, rfl, b1, d1, c1, j0, j1⟩
      refine ⟨_, rfl, d, _, 2, .int l', rfl, rfl, .of d1, atI_nat (j := 2) rfl, _, _, rfl, rfl, _, rfl, ite2 (fun e => ?_) (fun e => ?_)⟩
      · refine ⟨_, rfl, d, _, 2, .int l', rfl, rfl, .of d1, atI_nat (j := 2) rfl, _, rfl, _, _, rfl, rfl, h0, ?_⟩
        refine ⟨_, rfl, d, _, 2, .int l', rfl, rfl, .of d1, atI_nat (j := 2) rfl, _, rfl, _, _, rfl, rfl, hw _, _, rfl, d, _, 2, 2, rfl, rfl, d1, rfl, ?_⟩
        refine ⟨_, rfl, q _ _ (b1.trans But.set) ⟨ns, i', l' / many, m, t, upd_same, ?_, j0, by omega, m0, by omega⟩ (r0 _) (r1 _)⟩
        rw [upd_ne hcd]
        exact c1
      · refine ⟨_, rfl, d, _, 3, .int m, rfl, rfl, .of d1, atI_nat (j := 3) rfl, _, _, rfl, rfl, _, rfl, d, _, 3, 3, rfl, rfl, d1, rfl, ?_⟩
        have d2 : (upd H1 d (.lst [.ref c, .int i', .int l', .int (m + 1), .int t])) d = some (.lst [.ref c, .int i', .int l', .int (m + 1), .int t]) := upd_same
        have c2 : (upd H1 d (.lst [.ref c, .int i', .int l', .int (m + 1), .int t])) c = some (.lst (ns.map V.int)) := by rw [upd_ne hcd]; exact c1
        refine ⟨_, rfl, d, _, 4, .int t, rfl, rfl, .of d2, atI_nat (j := 4) rfl, _, rfl, d, _, 3, .int (m + 1), rfl, rfl, .of d2, atI_nat (j := 3) rfl, _, _, rfl, rfl, t, _, rfl, by omega, by omega, fun r => ?_⟩
        exact ⟨_, rfl, _, _, rfl, rfl, h0, q _ _ (b1.trans But.set) ⟨ns, i', l', m + 1, t, d2, c2, j0, by omega, by omega, by omega⟩ (r0 _) (r1 _)⟩

/-! ### _law_pair -/
def sp__law_pair (K : PySem.W.Frag) : Sp := fun vs H Q _ => ∃ (d c : Addr) (n : Nat), vs = [.ref d] ∧ Deck H d c n ∧ n < 2 ^ 39 ∧
  ∀ H' (p : Addr) (b pw : Int), But d H H' → Deck H' d c (n + 3) → H p = none → H' p = some (.tup [.int b, .int pw]) → OkPair b pw → Q (.ref p) H'
theorem ok__law_pair (T : Txt K mg) : FnOk P w K mg base CX0 3 T.f__law_pair T.fd__law_pair ["deck"] (sp__law_pair K) := by
  refine T.F__law_pair.ok sc__law_pair (fun vs H Q E h => ?_) (fun cdv A outer s H vs Q E hr h => ?_)
  · obtain ⟨_, _, _, rfl, _⟩ := h
    rfl
  · obtain ⟨d, c, n, rfl, hD, hn, q⟩ := h
    refine ⟨_, (pss_cons (ps_set (i := 1) sc__law_pair.nd rfl (Or.inl rfl) (pe_op op_add pe_int (pe_call (ok__law_next T) hr (by rfl) T.g__law_next T.F__law_next.kp T.b__law_next .nil pass0 (pa_cons (pv 0) (pa_cons pe_int pa_nil)))))
      (pss_cons (ps_set (i := 2) sc__law_pair.nd rfl (Or.inl rfl) (pe_ix ix_list (pe_lst (pa_cons pe_int (pa_cons pe_int (pa_cons pe_int (pa_cons pe_int (pa_cons pe_int (pa_cons pe_int (pa_cons pe_int (pa_cons pe_int (pa_cons pe_int (pa_cons pe_int (pa_cons pe_int (pa_cons pe_int (pa_cons pe_int (pa_cons pe_int (pa_cons pe_int pa_nil)))))))))))))))) (pe_op op_sub (pv 1) pe_int) (fun _ _ => rfl)))
      (pss_one (ps_ret (pe_ix ix_list (pe_lst (pa_cons (pe_tup (pa_cons (pv 1) (pa_cons (pe_op op_add pe_int (pe_call (ok__law_next T) hr (by rfl) T.g__law_next T.F__law_next.kp T.b__law_next .nil pass0 (pa_cons (pv 0) (pa_cons (pv 2) pa_nil)))) pa_nil))) (pa_cons (pe_tup (pa_cons (pv 1) (pa_cons (pv 2) pa_nil))) pa_nil))) (pe_call (ok__law_next T) hr (by rfl) T.g__law_next T.F__law_next.kp T.b__law_next .nil pass0 (pa_cons (pv 0) (pa_cons pe_int pa_nil))) (fun _ _ => rfl)))))), ?_⟩
    refine ⟨_, rfl, d, 15, c, n, rfl, hD, by omega, by decide, by decide, fun H1 r b1 D1 r0 r1 => ?_⟩
    refine ⟨2, r, rfl, rfl, ?_⟩
    -- most = [..][base - 2]
    refine ⟨by show 15 ≤ sizeLine; decide, fun p1 hp1 => ?_⟩
    generalize g2 : upd _ p1 _ = H2
    obtain ⟨s2, t2⟩ := new_of g2 hp1
    have e1 : 2 ≤ 2 + r := by omega
    have e2 : 2 + r ≤ 16 := by omega
    have bm := most_pos e1 e2
    refine ⟨_, rfl, _, _, rfl, rfl, p1, mosts.map V.int, _, _, rfl, rfl, .of t2, most_at e1 e2, ?_⟩
    have D2 := D1.same s2
    -- the two pairs
    refine ⟨_, rfl, _, rfl, _, rfl, d, mostOf (2 + r), c, n + 1, rfl, D2, by omega, by omega, by omega, fun H3 r3 b3 D3 r30 r31 => ?_⟩
    refine ⟨1, r3, rfl, rfl, by show 2 ≤ sizeLine; decide, fun p4 hp4 => ?_⟩
    generalize g4 : upd _ p4 _ = H4
    obtain ⟨s4, t4⟩ := new_of g4 hp4
    refine ⟨_, rfl, _, rfl, by show 2 ≤ sizeLine; decide, fun p5 hp5 => ?_⟩
    generalize g5 : upd _ p5 _ = H5
    obtain ⟨s5, t5⟩ := new_of g5 hp5
    refine ⟨by show 2 ≤ sizeLine; decide, fun p6 hp6 => ?_⟩
    generalize g6 : upd _ p6 _ = H6
    obtain ⟨s6, t6⟩ := new_of g6 hp6
    have D6 : Deck H6 d c (n + 1 + 1) := ((D3.same s4).same s5).same s6
    refine ⟨_, rfl, d, 2, c, n + 1 + 1, rfl, D6, by omega, by decide, by decide, fun H7 r7 b7 D7 r70 r71 => ?_⟩
    have bAll : But d H H7 := b1.trans ((But.of s2).trans (b3.trans ((But.of (s4.trans (s5.trans s6))).trans b7)))
    have n6 : p6 ≠ d := by
      obtain ⟨xs, z⟩ := (((D3.same s4).same s5)).some
      exact (ne_of_none z hp6).symm
    have l7 : H7 p6 = some (.lst [.ref p4, .ref p5]) := b7 _ _ n6 t6
    have f0 : ∀ {p : Addr}, H3 p = none → H p = none := fun {p} z => b1.fresh D1.there (s2.free (b3.fresh D3.there z))
    have c01 : r7 = 0 ∨ r7 = 1 := by omega
    rcases c01 with rfl | rfl
    · refine ⟨p6, _, 0, .ref p4, rfl, rfl, .of l7, atI_nat (j := 0) rfl, ?_⟩
      exact q H7 p4 (2 + r) (1 + r3) bAll D7 (f0 hp4) (b7.tup D6 (s6 _ _ (s5 _ _ t4))) ⟨e1, e2, by omega, by omega⟩
    · refine ⟨p6, _, 1, .ref p5, rfl, rfl, .of l7, atI_nat (j := 1) rfl, ?_⟩
      exact q H7 p5 (2 + r) (mostOf (2 + r)) bAll D7 (f0 (s4.free hp5)) (b7.tup D6 (s6 _ _ t5)) ⟨e1, e2, by omega, by omega⟩

/-! ### _law_number -/
def sp__law_number (K : PySem.W.Frag) : Sp := fun vs H Q _ => ∃ (d : Addr) (b : Int) (c : Addr) (n : Nat), vs = [.ref d, .int b] ∧ Deck H d c n ∧ n < 2 ^ 39 ∧ 2 ≤ b ∧ b ≤ 16 ∧
  ∀ H' (r : Int), But d H H' → Deck H' d c (n + 17) → 0 ≤ r → r < 16 ^ 40 → Q (.int r) H'
theorem ok__law_number (T : Txt K mg) : FnOk P w K mg base CX0 3 T.f__law_number T.fd__law_number ["deck", "base"] (sp__law_number K) := by
  refine T.F__law_number.ok sc__law_number (fun vs H Q E h => ?_) (fun cdv A outer s H vs Q E hr h => ?_)
  · obtain ⟨_, _, _, _, rfl, _⟩ := h
    rfl
  · obtain ⟨d, b, c, n, rfl, hD, hn, hb, hb16, q⟩ := h
    have e40 : (16 : Int) ^ Int.toNat 40 = 16 ^ 40 := rfl
    have e6 : (10 : Int) ^ Int.toNat 6 = 1000000 := rfl
    refine ⟨_, (pss_cons (ps_set (i := 2) sc__law_number.nd rfl (Or.inl rfl) pe_int)
      (pss_cons (ps_for PassesOwn.never rfl (pi_range1 (by rfl) T.m_range (pa_cons pe_int pa_nil)) (pg_name (i := 3) sc__law_number.nd rfl (Or.inl rfl)) (pss_one (ps_set (i := 2) sc__law_number.nd rfl (Or.inl rfl) (pe_op op_add (pe_op op_mul (pv 2) (pe_op op_pow pe_int pe_int)) (pe_call (ok__law_next T) hr (by rfl) T.g__law_next T.F__law_next.kp T.b__law_next .nil pass0 (pa_cons (pv 0) (pa_cons (pe_op op_pow pe_int pe_int) pa_nil)))))))
      (pss_cons (ps_set (i := 2) sc__law_number.nd rfl (Or.inl rfl) (pe_op op_mod (pv 2) (pe_op op_pow pe_int pe_int)))
      (pss_cons (ps_set (i := 4) sc__law_number.nd rfl (Or.inl rfl) pe_int)
      (pss_cons (ps_set (i := 5) sc__law_number.nd rfl (Or.inl rfl) (pe_call (ok__law_next T) hr (by rfl) T.g__law_next T.F__law_next.kp T.b__law_next .nil pass0 (pa_cons (pv 0) (pa_cons (pv 1) pa_nil))))
      (pss_cons (ps_for PassesOwn.never rfl (pi_range1 (by rfl) T.m_range (pa_cons (pe_op op_add pe_int (pe_call (ok__law_next T) hr (by rfl) T.g__law_next T.F__law_next.kp T.b__law_next .nil pass0 (pa_cons (pv 0) (pa_cons pe_int pa_nil)))) pa_nil)) (pg_name (i := 3) sc__law_number.nd rfl (Or.inl rfl)) (pss_one (ps_set (i := 4) sc__law_number.nd rfl (Or.inl rfl) (pe_op op_add (pe_op op_mul (pv 1) (pv 4)) (pv 5)))))
      (pss_cons (ps_set (i := 6) sc__law_number.nd rfl (Or.inl rfl) pe_int)
      (pss_cons (ps_for PassesOwn.never rfl (pi_range1 (by rfl) T.m_range (pa_cons (pe_call (ok__law_next T) hr (by rfl) T.g__law_next T.F__law_next.kp T.b__law_next .nil pass0 (pa_cons (pv 0) (pa_cons pe_int pa_nil))) pa_nil)) (pg_name (i := 3) sc__law_number.nd rfl (Or.inl rfl)) (pss_one (ps_set (i := 6) sc__law_number.nd rfl (Or.inl rfl) (pe_op op_mul (pv 6) (pe_ix ix_list (pe_lst (pa_cons pe_int (pa_cons (pv 1) pa_nil))) (pe_callTy (T := "int") call_int1 (by rfl) T.m_int (by decide +kernel) (pa_cons (pe_cmpR op_lt (pe_op op_mul (pv 6) (pv 1)) (pe_op op_pow pe_int pe_int) (nomark _)) pa_nil)) (fun _ _ => rfl))))))
      (pss_cons (ps_set (i := 7) sc__law_number.nd rfl (Or.inl rfl) (pe_lst (pa_cons (pe_call (ok__law_next T) hr (by rfl) T.g__law_next T.F__law_next.kp T.b__law_next .nil pass0 (pa_cons (pv 0) (pa_cons pe_int pa_nil))) (pa_cons (pe_call (ok__law_next T) hr (by rfl) T.g__law_next T.F__law_next.kp T.b__law_next .nil pass0 (pa_cons (pv 0) (pa_cons (pe_op op_pow pe_int pe_int) pa_nil))) (pa_cons (pv 2) (pa_cons (pe_op op_sub (pe_op op_sub (pe_op op_pow pe_int pe_int) pe_int) (pe_call (ok__law_next T) hr (by rfl) T.g__law_next T.F__law_next.kp T.b__law_next .nil pass0 (pa_cons (pv 0) (pa_cons pe_int pa_nil)))) (pa_cons (pv 4) pa_nil)))))))
      (pss_one (ps_ret (pe_ix ix_list (pe_op op_cat (pv 7) (pe_lst (pa_cons (pe_callB (id := "max") (call_max2 rfl) (by rfl) T.m_max (by decide +kernel) (pa_cons pe_int (pa_cons (pe_op op_sub (pv 6) (pe_call (ok__law_next T) hr (by rfl) T.g__law_next T.F__law_next.kp T.b__law_next .nil pass0 (pa_cons (pv 0) (pa_cons pe_int pa_nil)))) pa_nil))) (pa_cons (pe_op op_fdivW (pv 2) (pv 6)) pa_nil)))) (pe_call (ok__law_next T) hr (by rfl) T.g__law_next T.F__law_next.kp T.b__law_next .nil pass0 (pa_cons (pv 0) (pa_cons pe_int pa_nil))) (fun _ _ => rfl))))))))))))), ?_⟩
    -- great
    refine ⟨9, rfl, by decide, by decide, for_range (lo := 0) (n := 9) (fun i σ' H' => But d H H' ∧ Deck H' d c (n + i) ∧ ∃ (g : Int) (y : Option V), 0 ≤ g ∧ σ' = [some (.ref d), some (.int b), some (.int g), y, none, none, none, none]) ⟨But.refl _ _, hD, 0, none, Int.le_refl _, rfl⟩ ?_ ?_⟩
    · rintro i σ' H1 hi ⟨b1, D1, g, y, g0, rfl⟩
      refine ⟨_, rfl, 10, 6, rfl, rfl, ⟨by decide, by decide, by decide⟩, _, _, rfl, rfl, .inr (by decide), ?_⟩
      refine ⟨_, rfl, 10, 6, rfl, rfl, ⟨by decide, by decide, by decide⟩, d, _, c, n + i, rfl, D1, by omega, by decide, by decide, fun H2 r b2 D2 r0 r1 => ?_⟩
      refine ⟨_, _, rfl, rfl, b1.trans b2, D2, _, _, ?_, rfl⟩
      rw [e6]
      omega
    rintro σ' H1 ⟨b1, D1, g, y, g0, rfl⟩
    refine ⟨_, rfl, 16, 40, rfl, rfl, ⟨by decide, by decide, by decide⟩, _, _, rfl, rfl, by show (0 : Int) < 16 ^ 40; decide, ?_⟩
    rw [e40]
    have gb : 0 ≤ g % 16 ^ 40 ∧ g % 16 ^ 40 < 16 ^ 40 := ⟨Int.emod_nonneg _ (by decide), Int.emod_lt_of_pos _ (by decide)⟩
    -- same
    refine ⟨_, rfl, _, rfl, d, b, c, n + 9, rfl, D1, by omega, by omega, by omega, fun H2 f b2 D2 f0 f1 => ?_⟩
    refine ⟨_, rfl, d, 40, c, n + 10, rfl, D2, by omega, by decide, by decide, fun H3 r3 b3 D3 u3 v3 => ?_⟩
    refine ⟨_, _, rfl, rfl, _, rfl, by omega, by omega, ?_⟩
    have en : (1 + r3).toNat ≤ 40 := by omega
    refine for_range (lo := 0) (n := (1 + r3).toNat) (fun i σ' H' => H' = H3 ∧ ∃ (z : Int) (y : Option V), 0 ≤ z ∧ z < b ^ i ∧ σ' = [some (.ref d), some (.int b), some (.int (g % 16 ^ 40)), y, some (.int z), some (.int f), none, none]) ⟨rfl, 0, y, Int.le_refl _, by rw [Int.pow_zero]; decide, rfl⟩ ?_ ?_
    · rintro i σ' H' hi ⟨rfl, z, y, z0, z1, rfl⟩
      have st := same_step hb z0 z1 f0 f1
      exact ⟨_, rfl, _, rfl, _, _, rfl, rfl, .inl (by omega), _, rfl, _, _, rfl, rfl, rfl, _, _, st.1, st.2, rfl⟩
    rintro σ' H' ⟨rfl, z, y, z0, z1, rfl⟩
    have z2 : z < 16 ^ 40 := Int.lt_of_lt_of_le z1 (pow_le16 hb hb16 en)
    -- edge
    refine ⟨_, rfl, d, 160, c, n + 11, rfl, D3, by omega, by decide, by decide, fun H4 r4 b4 D4 u4 v4 => ?_⟩
    refine ⟨_, rfl, by omega, by omega, ?_⟩
    refine for_range (lo := 0) (n := r4.toNat) (fun i σ' H5 => Same H4 H5 ∧ ∃ (e : Int) (y : Option V), 1 ≤ e ∧ e < 16 ^ 40 ∧ σ' = [some (.ref d), some (.int b), some (.int (g % 16 ^ 40)), y, some (.int z), some (.int f), some (.int e), none]) ⟨Same.refl _, 1, y, by decide, by decide, rfl⟩ ?_ ?_
    · rintro i σ' H5 hi ⟨s5, e, y, e0, e1, rfl⟩
      refine ⟨_, rfl, _, rfl, by show 2 ≤ sizeLine; decide, fun p hp => ?_⟩
      generalize g6 : upd H5 p _ = H6
      obtain ⟨s6, t6⟩ := new_of g6 hp
      refine ⟨_, rfl, _, rfl, _, _, rfl, rfl, .inr (by omega), 16, 40, rfl, rfl, ⟨by decide, by decide, by decide⟩, _, _, rfl, rfl, .inr ⟨_, rfl, ?_⟩⟩
      rw [e40]
      by_cases t : e * b < 16 ^ 40
      · rw [decide_eq_true t]
        refine ⟨p, _, 1, .int b, rfl, rfl, .of t6, atI_nat (j := 1) rfl, _, _, rfl, rfl, .inr (by omega), ?_⟩
        have e2 : 1 ≤ e * b := by
          have := Int.mul_le_mul_of_nonneg_left (show (1 : Int) ≤ b by omega) (show 0 ≤ e by omega)
          omega
        exact ⟨s5.trans s6, _, _, e2, t, rfl⟩
      · rw [decide_eq_false t]
        refine ⟨p, _, 0, .int 1, rfl, rfl, .of t6, atI_nat (j := 0) rfl, _, _, rfl, rfl, .inr (by decide), ?_⟩
        exact ⟨s5.trans s6, _, _, by omega, by omega, rfl⟩
    rintro σ' H5 ⟨s5, e, y, e0, e1, rfl⟩
    have D5 := D4.same s5
    -- some
    refine ⟨_, rfl, d, 40, c, n + 12, rfl, D5, by omega, by decide, by decide, fun H6 r6 b6 D6 u6 v6 => ?_⟩
    refine ⟨_, rfl, 10, 6, rfl, rfl, ⟨by decide, by decide, by decide⟩, d, _, c, n + 13, rfl, D6, by omega, by decide, by decide, fun H7 r7 b7 D7 u7 v7 => ?_⟩
    refine ⟨_, rfl, 16, 40, rfl, rfl, ⟨by decide, by decide, by decide⟩, _, _, rfl, rfl, _, rfl, d, 9, c, n + 14, rfl, D7, by omega, by decide, by decide, fun H8 r8 b8 D8 u8 v8 => ?_⟩
    refine ⟨_, _, rfl, rfl, _, rfl, by show 5 ≤ sizeLine; decide, fun p9 hp9 => ?_⟩
    rw [e40]
    generalize g9 : upd H8 p9 _ = H9
    obtain ⟨s9, t9⟩ := new_of g9 hp9
    have o9 := D8.out hp9
    have D9 := D8.same s9
    refine ⟨_, rfl, _, rfl, _, rfl, d, 3, c, n + 15, rfl, D9, by omega, by decide, by decide, fun Ha ra ba Da ua va => ?_⟩
    refine ⟨_, _, rfl, rfl, 0, e - ra, rfl, ?_⟩
    refine ⟨_, rfl, _, rfl, _, _, rfl, rfl, divW 200 (by omega) (by omega), by show 2 ≤ sizeLine; decide, fun pb hpb => ?_⟩
    generalize gb' : upd Ha pb _ = Hb
    obtain ⟨sb, tb⟩ := new_of gb' hpb
    refine ⟨p9, pb, _, _, rfl, rfl, sb _ _ (ba _ _ o9.1 t9), tb, by show 7 ≤ sizeLine; decide, fun pc hpc => ?_⟩
    generalize gc : upd Hb pc _ = Hc
    obtain ⟨sc, tc⟩ := new_of gc hpc
    have Db := Da.same sb
    have oc := Db.out hpc
    refine ⟨_, rfl, d, 7, c, n + 16, rfl, Db.same sc, by omega, by decide, by decide, fun Hd rd bd Dd ud vd => ?_⟩
    have tl := bd _ _ oc.1 tc
    have bAll : But d H Hd := b1.trans (b2.trans (b3.trans (b4.trans ((But.of s5).trans (b6.trans (b7.trans (b8.trans ((But.of s9).trans (ba.trans ((But.of (sb.trans sc)).trans bd))))))))))
    have mx : 0 ≤ (if e - ra > 0 then e - ra else (0 : Int)) ∧ (if e - ra > 0 then e - ra else (0 : Int)) < 16 ^ 40 := by split <;> omega
    have dv := div_le gb.1 e0
    have cases7 : rd = 0 ∨ rd = 1 ∨ rd = 2 ∨ rd = 3 ∨ rd = 4 ∨ rd = 5 ∨ rd = 6 := by omega
    rcases cases7 with rfl | rfl | rfl | rfl | rfl | rfl | rfl
    · exact ⟨pc, _, 0, _, rfl, rfl, .of tl, atI_nat (j := 0) rfl, q _ _ bAll Dd (by omega) (by omega)⟩
    · exact ⟨pc, _, 1, _, rfl, rfl, .of tl, atI_nat (j := 1) rfl, q _ _ bAll Dd (by omega) (by omega)⟩
    · exact ⟨pc, _, 2, _, rfl, rfl, .of tl, atI_nat (j := 2) rfl, q _ _ bAll Dd (by omega) (by omega)⟩
    · exact ⟨pc, _, 3, _, rfl, rfl, .of tl, atI_nat (j := 3) rfl, q _ _ bAll Dd (by omega) (by omega)⟩
    · exact ⟨pc, _, 4, _, rfl, rfl, .of tl, atI_nat (j := 4) rfl, q _ _ bAll Dd z0 z2⟩
    · exact ⟨pc, _, 5, _, rfl, rfl, .of tl, atI_nat (j := 5) rfl, q _ _ bAll Dd mx.1 mx.2⟩
    · exact ⟨pc, _, 6, _, rfl, rfl, .of tl, atI_nat (j := 6) rfl, q _ _ bAll Dd dv.1 (by omega)⟩

/-! ### _law_power -/
def sp__law_power (K : PySem.W.Frag) : Sp := fun vs H Q _ => ∃ f p : Int, vs = [.int f, .int p] ∧ 0 ≤ p ∧ p < 2 ^ 62 ∧ -(2 ^ 64) < f ∧ f < 2 ^ 64 ∧ Q (.int (f ^ p.toNat)) H
theorem ok__law_power (T : Txt K mg) : FnOk P w K mg base CX0 1 T.f__law_power T.fd__law_power ["number", "often"] (sp__law_power K) := by
  refine T.F__law_power.ok sc__law_power (fun vs H Q E h => ?_) (fun cdv A outer s H vs Q E hr h => ?_)
  · obtain ⟨_, _, rfl, _⟩ := h
    rfl
  · obtain ⟨f, p, rfl, h0, h1, h2, h3, q⟩ := h
    refine ⟨_, (pss_cons (ps_set (i := 2) sc__law_power.nd rfl (Or.inl rfl) pe_int)
      (pss_cons (ps_for PassesOwn.never rfl (pi_range1 (by rfl) T.m_range (pa_cons (pv 1) pa_nil)) (pg_name (i := 3) sc__law_power.nd rfl (Or.inl rfl)) (pss_one (ps_set (i := 2) sc__law_power.nd rfl (Or.inl rfl) (pe_op op_mul (pv 2) (pv 0)))))
      (pss_one (ps_ret (pv 2))))), ?_⟩
    refine ⟨_, rfl, _, rfl, by omega, by omega, for_range (lo := 0) (n := p.toNat) (fun i σ' H' => H' = H ∧ ∃ y, σ' = [some (.int f), some (.int p), some (.int (f ^ i)), y]) ⟨rfl, none, by rw [Int.pow_zero]; rfl⟩ ?_ ?_⟩
    · rintro i σ' H' hi ⟨rfl, y, rfl⟩
      refine ⟨_, rfl, _, rfl, _, _, rfl, rfl, .inr ⟨h2, h3⟩, rfl, some (.int (0 + i)), ?_⟩
      rw [Int.pow_succ]
      rfl
    · rintro σ' H' ⟨rfl, y, rfl⟩
      exact ⟨_, rfl, q⟩

/-! ### _law_goes_down -/
def sp__law_goes_down (K : PySem.W.Frag) : Sp := fun vs H Q _ => ∃ n b p : Nat, vs = [.int (n : Int), .int (b : Int), .int (p : Int)] ∧ 2 ≤ b ∧ b ≤ 16 ∧ p ≤ 10 ∧ n < 2 ^ 900 ∧ ∀ H', Same H H' → Q (.bl (decide ((stepN b p n : Int) < (n : Int)))) H'
theorem ok__law_goes_down (T : Txt K mg) : FnOk P w K mg base CX0 3 T.f__law_goes_down T.fd__law_goes_down ["number", "base", "power"] (sp__law_goes_down K) := by
  refine T.F__law_goes_down.ok sc__law_goes_down (fun vs H Q E h => ?_) (fun cdv A outer s H vs Q E hr h => ?_)
  · obtain ⟨_, _, _, rfl, _⟩ := h
    rfl
  · obtain ⟨n, b, p, rfl, hb, hb16, hp, hn, q⟩ := h
    refine ⟨_, (pss_one (ps_ret (pe_cmpR op_lt (pe_call (ok_step_of T) hr (by rfl) T.g_step_of T.F_step_of.kp T.b_step_of .nil pass0 (pa_cons (pv 0) (pa_cons (pv 1) (pa_cons (pv 2) pa_nil)))) (pv 0) (nomark _)))), ?_⟩
    exact ⟨_, rfl, _, rfl, _, rfl, n, b, p, rfl, hb, hb16, hp, hn, fun H1 s1 => ⟨_, rfl, _, _, rfl, rfl, q _ s1⟩⟩

/-! ### _law_numbers_right -/
def sp__law_numbers_right (K : PySem.W.Frag) : Sp := fun vs H Q _ => ∃ (d c : Addr) (n b p G L : Nat), vs = [.ref d, .int (b : Int), .int (p : Int), .int (G : Int), .int (L : Int)] ∧ Deck H d c n ∧ n < 2 ^ 38 ∧ OkPair (b : Int) (p : Int) ∧ IsKept b p G ∧ G < b ^ 14 ∧ IsLen (b : Int) (worth (b : Int) (p : Int)) L ∧ L ≤ 15 ∧
  ∀ H', Deck H' d c (n + 104) → Q (.bl true) H'
theorem rgV_nat (G k : Nat) : rgV ((G : Int) + 1) ((G : Int) + 1 + (k : Int)) = ivs ((List.range k).map fun i => G + 1 + i) := by
  unfold rgV ivs
  rw [List.map_map, show ((G : Int) + 1 + (k : Int) - ((G : Int) + 1)).toNat = k by omega]
  refine List.map_congr_left fun i _ => ?_
  show V.int _ = V.int _
  congr 1
/-- numbers of which all go down -/
def AllDown (b p : Nat) (l : List Nat) : Prop := ∀ x ∈ l, stepN b p x < x ∧ x < 2 ^ 900
theorem AllDown.app {b p : Nat} {l r : List Nat} (h : AllDown b p l) (g : AllDown b p r) : AllDown b p (l ++ r) := fun x hx => (List.mem_append.mp hx).elim (h x) (g x)
theorem big900 : (16 : Nat) ^ 40 + 16 ^ 14 + 1000 < 2 ^ 900 ∧ (16 : Nat) ^ 30 < 2 ^ 900 := by
  have e : (16 : Nat) ^ 40 = 2 ^ 160 := by decide
  have e2 : (16 : Nat) ^ 14 = 2 ^ 56 := by decide
  have e3 : (16 : Nat) ^ 30 = 2 ^ 120 := by decide
  have u : (2 : Nat) ^ 170 ≤ 2 ^ 900 := Nat.pow_le_pow_right (by decide) (by decide)
  omega
theorem ok__law_numbers_right (T : Txt K mg) : FnOk P w K mg base CX0 4 T.f__law_numbers_right T.fd__law_numbers_right ["deck", "base", "power", "kept", "length"] (sp__law_numbers_right K) := by
  refine T.F__law_numbers_right.ok sc__law_numbers_right (fun vs H Q E h => ?_) (fun cdv A outer s H vs Q E hr h => ?_)
  · obtain ⟨_, _, _, _, _, _, _, rfl, _⟩ := h
    rfl
  · obtain ⟨d, c, n, b, p, G, L, rfl, hD, hn, ok, kG, hG, hL, l15, q⟩ := h
    have hb : 2 ≤ b := by have := ok.1; omega
    have hb16 : b ≤ 16 := by have := ok.2.1; omega
    have hp1 : 1 ≤ p := by have := ok.2.2.1; omega
    have hp : p ≤ 10 := by have := ok.le10; omega
    have l2 := hL.two
    have b14 : b ^ 14 ≤ 16 ^ 14 := Nat.pow_le_pow_left hb16 14
    have n9 := big900
    have G9 : G < 2 ^ 56 := by
      have e2 : (16 : Nat) ^ 14 = 2 ^ 56 := by decide
      omega
    have dG : ∀ x : Nat, G < x → x < 2 ^ 900 → stepN b p x < x ∧ x < 2 ^ 900 := fun x h1 h2 => ⟨kG.down x h1, h2⟩
    refine ⟨_, (pss_cons (ps_if (pt_val (pe_call (ok__law_goes_down T) hr (by rfl) T.g__law_goes_down T.F__law_goes_down.kp T.b__law_goes_down .nil pass0 (pa_cons (pv 3) (pa_cons (pv 1) (pa_cons (pv 2) pa_nil))))) (pss_one (ps_ret pe_bl)) pss_nil)
      (pss_cons (ps_set (i := 5) sc__law_numbers_right.nd rfl (Or.inl rfl) (pe_op op_cat (pe_listRg rfl (by rfl) T.m_list (prg_2 (by rfl) T.m_range (pe_op op_add (pv 3) pe_int) (pe_op op_add (pv 3) pe_int))) (pe_lc (own := [("k", 6)]) (g := (gName 6)) (tt := tYes) rfl sc__law_numbers_right.nd (pi_range1 (by rfl) T.m_range (pa_cons pe_int pa_nil)) (blkOk_by (own := [("k", 6)]) (N := ["deck", "base", "power", "kept", "length", "some", "k", "low", "number"]) (sc := defScope s__law_numbers_right) (by decide +kernel)) (fun _ _ _ _ _ => (pg_name (i := 6) sc__law_numbers_right.nd rfl (Or.inl rfl))) (fun _ _ _ _ _ => pts_nil) (fun _ _ _ _ _ => (pe_op op_add (pe_op op_add (pv 3) pe_int) (pe_op op_fdivW (pe_call (ok__law_number T) hr (by rfl) T.g__law_number T.F__law_number.kp T.b__law_number .nil pass0 (pa_cons (pv 0) (pa_cons (pv 1) pa_nil))) (pv 1)))))))
      (pss_cons (ps_set (i := 7) sc__law_numbers_right.nd rfl (Or.inl rfl) (pe_call (ok__law_power T) (hr.mono (by decide)) (by rfl) T.g__law_power T.F__law_power.kp T.b__law_power .nil pass0 (pa_cons (pv 1) (pa_cons (pe_op op_sub (pv 4) pe_int) pa_nil))))
      (pss_cons (ps_set (i := 5) sc__law_numbers_right.nd rfl (Or.inl rfl) (pe_op op_cat (pv 5) (pe_lst (pa_cons (pv 7) (pa_cons (pe_op op_sub (pe_op op_mul (pv 7) (pv 1)) pe_int) (pa_cons (pe_op op_add (pv 7) (pe_call (ok__law_next T) (hr.mono (by decide)) (by rfl) T.g__law_next T.F__law_next.kp T.b__law_next .nil pass0 (pa_cons (pv 0) (pa_cons (pv 7) pa_nil)))) (pa_cons (pe_op op_add (pe_op op_add (pv 3) pe_int) (pe_call (ok__law_next T) (hr.mono (by decide)) (by rfl) T.g__law_next T.F__law_next.kp T.b__law_next .nil pass0 (pa_cons (pv 0) (pa_cons (pv 7) pa_nil)))) pa_nil)))))))
      (pss_one (ps_ret (pe_cmpR (op_eqD hr.units) (pe_lc (own := [("number", 8)]) (g := (gName 8)) rfl sc__law_numbers_right.nd (pi_list (pv 5)) (blkOk_by (own := [("number", 8)]) (N := ["deck", "base", "power", "kept", "length", "some", "k", "low", "number"]) (sc := defScope s__law_numbers_right) (by decide +kernel)) (fun _ _ _ _ _ => (pg_name (i := 8) sc__law_numbers_right.nd rfl (Or.inl rfl))) (fun _ _ _ _ _ => pts_one (pt_not (pt_val (pe_call (ok__law_goes_down T) hr (by rfl) T.g__law_goes_down T.F__law_goes_down.kp T.b__law_goes_down .nil pass0 (pa_cons (pv 8) (pa_cons (pv 1) (pa_cons (pv 2) pa_nil))))))) (fun _ _ _ _ _ => (pv 8))) (pe_lst pa_nil) (nomark _)))))))), ?_⟩
    refine ⟨_, rfl, _, rfl, _, rfl, G, b, p, rfl, hb, hb16, hp, by omega, fun H1 s1 => ⟨_, rfl, ?_⟩⟩
    have kk := kG.kept
    rw [decide_eq_false (by omega)]
    refine iteF ?_
    have D1 := hD.same s1
    -- some
    refine ⟨_, rfl, _, _, rfl, rfl, _, rfl, _, _, rfl, rfl, _, _, rfl, rfl, ⟨by omega, by omega, by omega, by omega, by omega⟩, fun A1 hA1 => ?_⟩
    have er : rgV ((G : Int) + 1) ((G : Int) + 101) = ivs ((List.range 100).map fun i => G + 1 + i) := by
      have := rgV_nat G 100
      rw [show (G : Int) + 1 + ((100 : Nat) : Int) = (G : Int) + 101 by omega] at this
      exact this
    rw [er]
    generalize g2 : upd H1 A1 _ = H2
    obtain ⟨s2, t2⟩ := new_of g2 hA1
    have o1 := D1.out hA1
    have D2 := D1.same s2
    refine ⟨6, rfl, by decide, by decide, fun A2 hA2 => lc_range (lo := 0) (n := 6) (fun i H' => But d H2 H' ∧ Deck H' d c (n + 17 * i) ∧ ∃ l : List Nat, H' A2 = some (.lst (ivs l)) ∧ l.length = i ∧ AllDown b p l) ⟨But.new hA2, D2.new hA2, [], upd_same, rfl, fun x hx => nomatch hx⟩ ?_ ?_⟩
    · rintro i H3 hi ⟨b3, D3, l, e3, ll, al⟩
      have o2 := D2.out hA2
      refine ⟨rfl, _, rfl, _, _, rfl, rfl, _, rfl, _, rfl, d, (b : Int), c, n + 17 * i, rfl, D3, by omega, by omega, by omega, fun H4 r b4 D4 r0 r1 => ?_⟩
      refine ⟨_, rfl, _, _, rfl, rfl, divW 60 (by omega) (by omega), _, _, rfl, rfl, ?_⟩
      have e4 := b4 _ _ o2.1 e3
      have er' : (G : Int) + 1 + r / (b : Int) = ((G + 1 + r.toNat / b : Nat) : Int) := by
        rw [Int.natCast_add, Int.natCast_ediv, Int.toNat_of_nonneg r0]
        rfl
      refine ⟨_, e4, small1000 (by rw [ivs_length]; omega), (b3.trans b4).own hA2, (D4.off o2.1 o2.2), l ++ [G + 1 + r.toNat / b], ?_, by rw [List.length_append, ll]; rfl, al.app fun x hx => ?_⟩
      · rw [upd_same, ivs_append]
        show some (HO.lst (_ ++ [V.int ((G : Int) + 1 + r / (b : Int))])) = _
        rw [er']
        rfl
      · cases List.mem_singleton.mp hx
        have h1 := Nat.div_le_self r.toNat b
        have h2 : r.toNat < 16 ^ 40 := by omega
        generalize r.toNat / b = rq at h1
        exact dG _ (by omega) (by omega)
    rintro H3 ⟨b3, D3, l, e3, ll, al⟩
    have o2 := D2.out hA2
    have e1 := b3 _ _ o1.1 t2
    refine ⟨A1, A2, _, _, rfl, rfl, e1, e3, ?_, fun A3 hA3 => ?_⟩
    · rw [ivs_length, ivs_length, List.length_map, List.length_range, ll]
      decide
    rw [← ivs_append]
    generalize g4 : upd H3 A3 _ = H4
    obtain ⟨s4, t4⟩ := new_of g4 hA3
    have D4 := D3.same s4
    have o3 := D3.out hA3
    -- low
    have eL : ((L : Int) - 1).toNat = L - 1 := by omega
    refine ⟨_, rfl, _, rfl, (L : Int), 1, rfl, rfl, (b : Int), (L : Int) - 1, rfl, by omega, by omega, by omega, by omega, ?_⟩
    rw [eL, ← Int.natCast_pow]
    have lw0 : 0 < b ^ (L - 1) := Nat.pow_pos (by omega)
    have lw1 : b ^ (L - 1) ≤ 2 ^ 56 := by
      have h1 : b ^ (L - 1) ≤ b ^ 14 := Nat.pow_le_pow_right (by omega) (by omega)
      have e2 : (16 : Nat) ^ 14 = 2 ^ 56 := by decide
      omega
    have dL : ∀ x : Nat, b ^ (L - 1) ≤ x → x < 2 ^ 900 → stepN b p x < x ∧ x < 2 ^ 900 := fun x h1 h2 => ⟨goes_down hb hL h1, h2⟩
    generalize b ^ (L - 1) = low at lw0 lw1 dL
    refine ⟨_, rfl, _, rfl, _, rfl, _, rfl, _, _, rfl, rfl, .inr (by omega), _, _, rfl, rfl, ?_⟩
    refine ⟨_, rfl, _, rfl, _, rfl, d, (low : Int), c, n + 17 * 6, rfl, D4, by omega, by omega, by omega, fun H5 r5 b5 D5 u5 v5 => ⟨_, _, rfl, rfl, ?_⟩⟩
    refine ⟨_, rfl, _, _, rfl, rfl, _, rfl, _, rfl, d, (low : Int), c, _, rfl, D5, by omega, by omega, by omega, fun H6 r6 b6 D6 u6 v6 => ⟨_, _, rfl, rfl, ?_⟩⟩
    refine ⟨by show 4 ≤ sizeLine; decide, fun A4 hA4 => ?_⟩
    generalize g7 : upd H6 A4 _ = H7
    obtain ⟨s7, t7⟩ := new_of g7 hA4
    have t4' := s7 _ _ (b6 _ _ o3.1 (b5 _ _ o3.1 t4))
    have lb := Nat.mul_le_mul_left low hb
    have lb16 := Nat.mul_le_mul_left low hb16
    have e7 : H7 A4 = some (.lst (ivs [low, low * b - 1, low + r5.toNat, G + 1 + r6.toNat])) := by
      rw [t7]
      show some (HO.lst [V.int (low : Int), V.int ((low : Int) * (b : Int) - 1), V.int ((low : Int) + r5), V.int ((G : Int) + 1 + r6)]) = some (HO.lst [V.int ((low : Nat) : Int), V.int ((low * b - 1 : Nat) : Int), V.int ((low + r5.toNat : Nat) : Int), V.int ((G + 1 + r6.toNat : Nat) : Int)])
      rw [show (low : Int) * (b : Int) - 1 = ((low * b - 1 : Nat) : Int) by rw [← Int.natCast_mul]; omega, show (low : Int) + r5 = ((low + r5.toNat : Nat) : Int) by omega, show (G : Int) + 1 + r6 = ((G + 1 + r6.toNat : Nat) : Int) by omega]
    refine ⟨A3, A4, _, _, rfl, rfl, t4', e7, ?_, fun A5 hA5 => ?_⟩
    · rw [ivs_length, ivs_length, List.length_append, List.length_map, List.length_range, ll]
      show 110 ≤ sizeLine
      decide
    rw [← ivs_append]
    have u170 : (2 : Nat) ^ 170 ≤ 2 ^ 900 := Nat.pow_le_pow_right (by decide) (by decide)
    have ad : AllDown b p ((((List.range 100).map fun i => G + 1 + i) ++ l) ++ [low, low * b - 1, low + r5.toNat, G + 1 + r6.toNat]) := by
      refine AllDown.app (AllDown.app (fun x hx => ?_) al) fun x hx => ?_
      · obtain ⟨i, hi, rfl⟩ := List.mem_map.mp hx
        have := List.mem_range.mp hi
        exact dG _ (by omega) (by omega)
      · simp only [List.mem_cons, List.not_mem_nil, or_false] at hx
        rcases hx with rfl | rfl | rfl | rfl
        · exact dL _ (Nat.le_refl _) (by omega)
        · exact dL _ (by omega) (by omega)
        · exact dL _ (by omega) (by omega)
        · exact dG _ (by omega) (by omega)
    generalize (((List.range 100).map fun i => G + 1 + i) ++ l) ++ [low, low * b - 1, low + r5.toNat, G + 1 + r6.toNat] = zs at ad
    generalize g8 : upd H7 A5 _ = H8
    obtain ⟨s8, t8⟩ := new_of g8 hA5
    have D8 := (D6.same s7).same s8
    -- all of them go down
    refine ⟨_, rfl, A5, rfl, ⟨_, .of t8⟩, fun A6 hA6 => lc_list (xs := ivs zs) (fun i H' => Same H8 H' ∧ H' A6 = some (.lst [])) ⟨Same.new hA6, upd_same⟩ ?_ ?_ ?_⟩
    · rintro i H' hi ⟨z, _⟩
      exact .of (z _ _ t8)
    · rintro i x H9 hx ⟨s9, e9⟩
      obtain ⟨k, hk, rfl⟩ := ivs_get hx
      obtain ⟨k1, k2⟩ := ad k (List.mem_of_getElem? hk)
      refine ⟨rfl, _, rfl, _, rfl, _, rfl, k, b, p, rfl, hb, hb16, hp, k2, fun Ha sa => ⟨_, rfl, ?_⟩⟩
      rw [decide_eq_true (by omega)]
      exact iteF ⟨s9.trans sa, sa _ _ e9⟩
    · rintro H9 ⟨s9, e9⟩
      refine ⟨Nat.zero_le _, fun A7 hA7 => ?_⟩
      generalize ga : upd H9 A7 _ = Ha
      obtain ⟨sa, ta⟩ := new_of ga hA7
      refine ⟨.list [], .list [], .lst (.of (sa _ _ e9)) .nil, .lst (.of ta) .nil, shaped_ints [], shaped_ints [], ?_⟩
      exact q _ (((D8.same s9).same sa).mono (by omega))

/-! ### law -/
def sp_law (K : PySem.W.Frag) : Sp := fun vs H Q _ => ∃ (a : Addr) (ns : List Int), vs = [.ref a] ∧ SqL K H a (ns.map V.int) ∧ ns.length ≤ 63 ∧ ∀ H', Q (.bl true) H'
theorem law_start {K : PySem.W.Frag} {H : Hp} {a : Addr} {ns : List Int} {E : XK} (hl : ns.length ≤ 63) (hS : SqL K H a (ns.map V.int)) : sp_law K [.ref a] H (fun v _ => v = .bl true) E := ⟨a, ns, rfl, hS, hl, fun _ => rfl⟩
theorem row_drop {b p n i k : Nat} (h : ((rowN b p n 60).drop 30)[i]? = some k) : ∃ j, 30 ≤ j ∧ k = itN b p n j := by
  rw [List.getElem?_drop] at h
  have hi := (List.getElem?_eq_some_iff.mp h).1
  rw [rowN_len] at hi
  rw [rowN_get b p n 60 (30 + i) hi] at h
  exact ⟨30 + i, by omega, (Option.some.inj h).symm⟩
theorem ok_law (T : Txt K mg) : FnOk P w K mg base CX0 5 T.f_law T.fd_law ["script"] (sp_law K) := by
  refine T.F_law.ok sc_law (fun vs H Q E h => ?_) (fun cdv A outer s H vs Q E hr h => ?_)
  · obtain ⟨_, _, rfl, _⟩ := h
    rfl
  · obtain ⟨a, ns, rfl, hS, hl, q⟩ := h
    refine ⟨_, (pss_cons (ps_set (i := 1) sc_law.nd rfl (Or.inl rfl) (pe_call (ok__law_deck T) (hr.mono (by decide)) (by rfl) T.g__law_deck T.F__law_deck.kp T.b__law_deck .nil pass0 (pa_cons (pv 0) pa_nil)))
      (pss_cons (ps_for PassesOwn.never rfl (pi_range1 (by rfl) T.m_range (pa_cons pe_int pa_nil)) (pg_name (i := 2) sc_law.nd rfl (Or.inl rfl)) (pss_cons (ps_asg (pe_call (ok__law_pair T) (hr.mono (by decide)) (by rfl) T.g__law_pair T.F__law_pair.kp T.b__law_pair .nil pass0 (pa_cons (pv 1) pa_nil)) (pg_tup rfl (pgs_cons (pg_name (i := 3) sc_law.nd rfl (Or.inr rfl)) (pgs_cons (pg_name (i := 4) sc_law.nd rfl (Or.inr rfl)) pgs_nil))))
      (pss_cons (ps_set (i := 5) sc_law.nd rfl (Or.inl rfl) (pe_call (ok_greatest_kept T) (hr.mono (by decide)) (by rfl) T.g_greatest_kept T.F_greatest_kept.kp T.b_greatest_kept .nil pass0 (pa_cons (pv 3) (pa_cons (pv 4) pa_nil))))
      (pss_cons (ps_set (i := 6) sc_law.nd rfl (Or.inr rfl) (pe_call (ok_length_down T) (hr.mono (by decide)) (by rfl) T.g_length_down T.F_length_down.kp T.b_length_down .nil pass0 (pa_cons (pv 3) (pa_cons (pv 4) pa_nil))))
      (pss_cons (ps_if (PW.pt (pw_or (pt_not (pt_val (pe_call (ok__law_numbers_right T) hr (by rfl) T.g__law_numbers_right T.F__law_numbers_right.kp T.b__law_numbers_right .nil pass0 (pa_cons (pv 1) (pa_cons (pv 3) (pa_cons (pv 4) (pa_cons (pv 5) (pa_cons (pv 6) pa_nil)))))))) (pw_or1 (pt_cmpR op_ge (pe_callB (id := "len") call_len_seq (by rfl) T.m_len (by decide +kernel) (pa_cons (pe_call (ok_figures_of T) (hr.mono (by decide)) (by rfl) T.g_figures_of T.F_figures_of.kp T.b_figures_of .nil pass0 (pa_cons (pv 5) (pa_cons (pv 3) pa_nil))) pa_nil)) (pv 6) (nomark _))))) (pss_one (ps_ret pe_bl)) pss_nil)
      (pss_cons (ps_if (pt_cmpR (op_neD hr.units) (pe_lc (own := [("one", 7)]) (g := (gName 7)) rfl sc_law.nd (pi_range1 (by rfl) T.m_range (pa_cons (pe_op op_add (pv 6) pe_int) pa_nil)) (blkOk_by (own := [("one", 7)]) (N := ["script", "deck", "turn", "base", "power", "kept", "length", "one", "most", "row", "number"]) (sc := defScope s_law) (by decide +kernel)) (fun _ _ _ _ _ => (pg_name (i := 7) sc_law.nd rfl (Or.inl rfl))) (fun _ _ _ _ _ => pts_one (pt_cmpR op_ne (pe_call (ok_length_shown T) (hr.mono (by decide)) (by rfl) T.g_length_shown T.F_length_shown.kp T.b_length_shown .nil pass0 (pa_cons (pv 3) (pa_cons (pv 4) (pa_cons (pv 7) pa_nil)))) (pe_cmpR op_ge (pv 7) (pv 6) (nomark _)) (nomark _))) (fun _ _ _ _ _ => (pv 7))) (pe_lst pa_nil) (nomark _)) (pss_one (ps_ret pe_bl)) pss_nil)
      (pss_cons (ps_set (i := 8) sc_law.nd rfl (Or.inr rfl) (pe_op op_mul (pe_op op_sub (pv 6) pe_int) (pe_call (ok__law_power T) (hr.mono (by decide)) (by rfl) T.g__law_power T.F__law_power.kp T.b__law_power .nil pass0 (pa_cons (pe_op op_sub (pv 3) pe_int) (pa_cons (pv 4) pa_nil)))))
      (pss_cons (ps_set (i := 9) sc_law.nd rfl (Or.inl rfl) (pe_call (ok_row_from T) (hr.mono (by decide)) (by rfl) T.g_row_from T.F_row_from.kp T.b_row_from .nil pass0 (pa_cons (pe_call (ok__law_number T) (hr.mono (by decide)) (by rfl) T.g__law_number T.F__law_number.kp T.b__law_number .nil pass0 (pa_cons (pv 1) (pa_cons (pv 3) pa_nil))) (pa_cons (pv 3) (pa_cons (pv 4) (pa_cons pe_int pa_nil))))))
      (pss_one (ps_if (pt_cmpR (op_neD hr.units) (pe_lc (own := [("number", 10)]) (g := (gName 10)) rfl sc_law.nd (pi_tup (pe_slice sl_tup (pv 9) (po_some pe_int) po_none)) (blkOk_by (own := [("number", 10)]) (N := ["script", "deck", "turn", "base", "power", "kept", "length", "one", "most", "row", "number"]) (sc := defScope s_law) (by decide +kernel)) (fun _ _ _ _ _ => (pg_name (i := 10) sc_law.nd rfl (Or.inl rfl))) (fun _ _ _ _ _ => pts_one (pt_cmpR op_gt (pv 10) (pv 8) (nomark _))) (fun _ _ _ _ _ => (pv 10))) (pe_lst pa_nil) (nomark _)) (pss_one (ps_ret pe_bl)) pss_nil))))))))))
      (pss_one (ps_ret pe_bl)))), ?_⟩
    refine ⟨_, rfl, a, ns, rfl, hS, fun H1 d c s1 nd nc D1 => ?_⟩
    refine ⟨3, rfl, by decide, by decide, for_range (lo := 0) (n := 3) (fun i σ' H' => Deck H' d c (200 * i) ∧ ∃ y2 y3 y4 y5 y6 y7 y8 y9 y10, σ' = [some (.ref a), some (.ref d), y2, y3, y4, y5, y6, y7, y8, y9, y10]) ⟨D1, _, _, _, _, _, _, _, _, _, rfl⟩ ?_ ?_⟩
    · rintro i σ' H2 hi ⟨D2, y2, y3, y4, y5, y6, y7, y8, y9, y10, rfl⟩
      refine ⟨_, rfl, d, c, 200 * i, rfl, D2, by omega, fun H3 pa b' p' b3 D3 n3 e3 ok => ?_⟩
      obtain ⟨b, p, rfl, rfl, hb, hb16, hp1, hp⟩ := ok.nat
      have wb := ok.worth
      have ew := worth_nat b p (by omega)
      rw [ew] at wb
      have wN : (b - 1) ^ p ≤ 1024 := by omega
      refine ⟨pa, _, rfl, .of e3, rfl, _, _, rfl, _, _, rfl, rfl, ?_⟩
      refine ⟨_, rfl, _, rfl, b, p, rfl, ok, fun H4 G s4 kG hG => ?_⟩
      refine ⟨_, rfl, _, rfl, (b : Int), (p : Int), rfl, ok, fun L hL l15 => ?_⟩
      have D4 := D3.same s4
      have l2 := hL.two
      have b14 : b ^ 14 ≤ 16 ^ 14 := Nat.pow_le_pow_left hb16 14
      have e1614 : (16 : Nat) ^ 14 = 2 ^ 56 := by decide
      refine ⟨_, rfl, _, rfl, _, rfl, _, rfl, _, rfl, d, c, _, b, p, G, L, rfl, D4, by omega, ok, kG, hG, hL, l15, fun H5 D5 => ⟨_, rfl, iteF ?_⟩⟩
      -- its figures
      have u56 : (2 : Nat) ^ 56 ≤ 2 ^ 900 := Nat.pow_le_pow_right (by decide) (by decide)
      refine ⟨_, rfl, _, rfl, G, b, rfl, hb, hb16, by omega, fun H6 f s6 n6 e6 => ?_⟩
      have fl : (figs b G).length ≤ L - 1 := figs_len_lt hb (by omega) (kept_lt hb hL kG)
      refine ⟨f, _, rfl, .inr (.of e6), _, rfl, _, _, rfl, rfl, _, rfl, ?_⟩
      rw [ivs_length, decide_eq_false (by omega)]
      refine iteF ?_
      have D6 := D5.same s6
      -- lengths shown
      refine ⟨_, rfl, _, _, rfl, rfl, _, rfl, by omega, by omega, fun E1 hE1 => lc_range (lo := 0) (n := ((L : Int) + 20).toNat) (fun j H' => Same H6 H' ∧ H' E1 = some (.lst [])) ⟨Same.new hE1, upd_same⟩ ?_ ?_⟩
      · rintro j H7 hj ⟨s7, e7⟩
        refine ⟨rfl, _, rfl, _, rfl, _, rfl, (b : Int), (p : Int), 0 + (j : Int), rfl, ok, fun L2 hL2 _ => ?_⟩
        rw [hL2.uniq hL]
        refine ⟨_, rfl, _, rfl, _, _, rfl, rfl, rfl, _, rfl, ?_⟩
        rw [decide_eq_true (p := V.bl _ = V.bl _) rfl]
        exact iteF ⟨s7, e7⟩
      rintro H7 ⟨s7, e7⟩
      refine ⟨Nat.zero_le _, fun E2 hE2 => ?_⟩
      generalize g8 : upd H7 E2 _ = H8
      obtain ⟨s8, t8⟩ := new_of g8 hE2
      refine ⟨.list [], .list [], .lst (.of (s8 _ _ e7)) .nil, .lst (.of t8) .nil, shaped_ints [], shaped_ints [], _, rfl, ?_⟩
      rw [show PyData.eqv (.list []) (.list []) = true from eqv_same (shaped_ints [])]
      refine iteF ?_
      have D8 := (D6.same s7).same s8
      -- the row
      refine ⟨_, rfl, _, _, rfl, rfl, _, rfl, _, _, rfl, rfl, _, rfl, (b : Int) - 1, (p : Int), rfl, by omega, by omega, by omega, by omega, _, _, rfl, rfl, .inl (by omega), ?_⟩
      have eM : ((L : Int) - 1) * ((b : Int) - 1) ^ (p : Int).toNat = (((L - 1) * (b - 1) ^ p : Nat) : Int) := by
        rw [Int.natCast_mul, ← ew]
        unfold worth
        rw [show ((L - 1 : Nat) : Int) = (L : Int) - 1 by omega]
      show tSeq _ _ _ (List.set _ 8 (some (V.int (((L : Int) - 1) * ((b : Int) - 1) ^ (p : Int).toNat)))) _
      rw [eM]
      refine ⟨_, rfl, _, rfl, d, (b : Int), c, _, rfl, D8, by omega, by omega, by omega, fun H9 r b9 D9 r0 r1 => ?_⟩
      have rn : r.toNat < 16 ^ 40 := by omega
      refine ⟨_, rfl, _, rfl, r.toNat, b, p, 60, ?_, hb, hb16, hp, lt900 rn, by decide, fun Ha ro sa na ea => ?_⟩
      · rw [Int.toNat_of_nonneg r0]
        rfl
      have Da := D9.same sa
      have ec : cutV (ivs (rowN b p r.toNat 60)) (some 30) none = ivs ((rowN b p r.toNat 60).drop 30) := by
        unfold ivs
        rw [List.map_drop]
        exact cut_from _ 30
      refine ⟨_, rfl, _, rfl, ro, _, rfl, .of ea, ?_, fun Z hZ => ?_⟩
      · rintro ⟨z, _⟩
        rw [ivs_length, rowN_len, show HT.sIx 60 0 (some 30) = min 30 60 from HT.sIx_nat 60 0 30] at z
        exact absurd z (by decide)
      rw [ec]
      generalize gb : upd Ha Z _ = Hb
      obtain ⟨sb, tb⟩ := new_of gb hZ
      have rlate : ∀ j, 30 ≤ j → itN b p r.toNat j ≤ (L - 1) * (b - 1) ^ p := fun j hj => row_late hb hL wN (by
        have e : (16 : Nat) ^ 40 = 2 ^ 160 := by decide
        omega) (by omega)
      refine ⟨Z, rfl, ⟨_, .of tb⟩, fun E3 hE3 => lc_tup (xs := ivs ((rowN b p r.toNat 60).drop 30)) (fun j H' => Same Hb H' ∧ H' E3 = some (.lst [])) ⟨Same.new hE3, upd_same⟩ ?_ ?_ ?_⟩
      · rintro j H' hj ⟨z, _⟩
        exact .of (z _ _ tb)
      · rintro j x Hc hx ⟨sc, ec'⟩
        obtain ⟨k, hk, rfl⟩ := ivs_get hx
        obtain ⟨t, ht, rfl⟩ := row_drop hk
        have := rlate t ht
        refine ⟨rfl, _, rfl, _, rfl, _, _, rfl, rfl, _, rfl, ?_⟩
        rw [decide_eq_false (by omega)]
        exact iteF ⟨sc, ec'⟩
      · rintro Hc ⟨sc, ec'⟩
        refine ⟨Nat.zero_le _, fun E4 hE4 => ?_⟩
        generalize gd : upd Hc E4 _ = Hd
        obtain ⟨sd, td⟩ := new_of gd hE4
        refine ⟨.list [], .list [], .lst (.of (sd _ _ ec')) .nil, .lst (.of td) .nil, shaped_ints [], shaped_ints [], _, rfl, ?_⟩
        rw [show PyData.eqv (.list []) (.list []) = true from eqv_same (shaped_ints [])]
        refine iteF ?_
        exact ⟨(((Da.same sb).same sc).same sd).mono (by omega), _, _, _, _, _, _, _, _, _, rfl⟩
    · rintro σ' H2 ⟨D2, y2, y3, y4, y5, y6, y7, y8, y9, y10, rfl⟩
      exact q _

end
theorem all_mk {l : PySem.W.OpenLaw} {w : World} {K : PySem.W.Frag} {h : Heap} {mg : Str → Option Value} {fa f0 f1 f2 f3 f4 f5 f6 f7 f8 f9 f10 f11 f12 f13 f14 f15 f16 f17 : Addr} (X : K.In h) (G : h.Ns mainGlobals mg) (hfa : mg "law" = some (.ref fa))
    {od0 an0 od1 an1 od2 an2 od3 an3 od4 an4 od5 an5 od6 an6 od7 an7 od8 an8 od9 an9 od10 an10 od11 an11 od12 an12 od13 an13 od14 an14 od15 an15 od16 an16 od17 an17 : Option Addr} {sl0 sl1 sl2 sl3 sl4 sl5 sl6 sl7 sl8 sl9 sl10 sl11 sl12 sl13 sl14 sl15 sl16 sl17 : Array (Option Value)} {oc0 kV0 dc0 pm0 cd0 ct0 oc1 kV1 dc1 pm1 cd1 ct1 oc2 kV2 dc2 pm2 cd2 ct2 oc3 kV3 dc3 pm3 cd3 ct3 oc4 kV4 dc4 pm4 cd4 ct4 oc5 kV5 dc5 pm5 cd5 ct5 oc6 kV6 dc6 pm6 cd6 ct6 oc7 kV7 dc7 pm7 cd7 ct7 oc8 kV8 dc8 pm8 cd8 ct8 oc9 kV9 dc9 pm9 cd9 ct9 oc10 kV10 dc10 pm10 cd10 ct10 oc11 kV11 dc11 pm11 cd11 ct11 oc12 kV12 dc12 pm12 cd12 ct12 oc13 kV13 dc13 pm13 cd13 ct13 oc14 kV14 dc14 pm14 cd14 ct14 oc15 kV15 dc15 pm15 cd15 ct15 oc16 kV16 dc16 pm16 cd16 ct16 oc17 kV17 dc17 pm17 cd17 ct17 : Value}
    (a0 : PySem.W.nsIn K mainGlobals "figures_of" = some (some (.ref f0))) (l0 : K.lookup f0 = some ⟨oc0, od0, .func (PySem.W.fnOf "figures_of" "figures_of" (defArgs s_figures_of) (defBody s_figures_of) (defScope s_figures_of) .none kV0 dc0 pm0 an0 cd0 ct0), sl0⟩) (c0 : PySem.W.codeIn K cd0 "figures_of" = true) (k0 : PySem.W.keepIn K (.ref f0) = true)
    (a1 : PySem.W.nsIn K mainGlobals "power_of" = some (some (.ref f1))) (l1 : K.lookup f1 = some ⟨oc1, od1, .func (PySem.W.fnOf "power_of" "power_of" (defArgs s_power_of) (defBody s_power_of) (defScope s_power_of) .none kV1 dc1 pm1 an1 cd1 ct1), sl1⟩) (c1 : PySem.W.codeIn K cd1 "power_of" = true) (k1 : PySem.W.keepIn K (.ref f1) = true)
    (a2 : PySem.W.nsIn K mainGlobals "step_of" = some (some (.ref f2))) (l2 : K.lookup f2 = some ⟨oc2, od2, .func (PySem.W.fnOf "step_of" "step_of" (defArgs s_step_of) (defBody s_step_of) (defScope s_step_of) .none kV2 dc2 pm2 an2 cd2 ct2), sl2⟩) (c2 : PySem.W.codeIn K cd2 "step_of" = true) (k2 : PySem.W.keepIn K (.ref f2) = true)
    (a3 : PySem.W.nsIn K mainGlobals "row_from" = some (some (.ref f3))) (l3 : K.lookup f3 = some ⟨oc3, od3, .func (PySem.W.fnOf "row_from" "row_from" (defArgs s_row_from) (defBody s_row_from) (defScope s_row_from) .none kV3 dc3 pm3 an3 cd3 ct3), sl3⟩) (c3 : PySem.W.codeIn K cd3 "row_from" = true) (k3 : PySem.W.keepIn K (.ref f3) = true)
    (a4 : PySem.W.nsIn K mainGlobals "length_down" = some (some (.ref f4))) (l4 : K.lookup f4 = some ⟨oc4, od4, .func (PySem.W.fnOf "length_down" "length_down" (defArgs s_length_down) (defBody s_length_down) (defScope s_length_down) .none kV4 dc4 pm4 an4 cd4 ct4), sl4⟩) (c4 : PySem.W.codeIn K cd4 "length_down" = true) (k4 : PySem.W.keepIn K (.ref f4) = true)
    (a5 : PySem.W.nsIn K mainGlobals "length_shown" = some (some (.ref f5))) (l5 : K.lookup f5 = some ⟨oc5, od5, .func (PySem.W.fnOf "length_shown" "length_shown" (defArgs s_length_shown) (defBody s_length_shown) (defScope s_length_shown) .none kV5 dc5 pm5 an5 cd5 ct5), sl5⟩) (c5 : PySem.W.codeIn K cd5 "length_shown" = true) (k5 : PySem.W.keepIn K (.ref f5) = true)
    (a6 : PySem.W.nsIn K mainGlobals "gains_by_place" = some (some (.ref f6))) (l6 : K.lookup f6 = some ⟨oc6, od6, .func (PySem.W.fnOf "gains_by_place" "gains_by_place" (defArgs s_gains_by_place) (defBody s_gains_by_place) (defScope s_gains_by_place) .none kV6 dc6 pm6 an6 cd6 ct6), sl6⟩) (c6 : PySem.W.codeIn K cd6 "gains_by_place" = true) (k6 : PySem.W.keepIn K (.ref f6) = true)
    (a7 : PySem.W.nsIn K mainGlobals "greatest_figure" = some (some (.ref f7))) (l7 : K.lookup f7 = some ⟨oc7, od7, .func (PySem.W.fnOf "greatest_figure" "greatest_figure" (defArgs s_greatest_figure) (defBody s_greatest_figure) (defScope s_greatest_figure) .none kV7 dc7 pm7 an7 cd7 ct7), sl7⟩) (c7 : PySem.W.codeIn K cd7 "greatest_figure" = true) (k7 : PySem.W.keepIn K (.ref f7) = true)
    (a8 : PySem.W.nsIn K mainGlobals "greatest_kept" = some (some (.ref f8))) (l8 : K.lookup f8 = some ⟨oc8, od8, .func (PySem.W.fnOf "greatest_kept" "greatest_kept" (defArgs s_greatest_kept) (defBody s_greatest_kept) (defScope s_greatest_kept) .none kV8 dc8 pm8 an8 cd8 ct8), sl8⟩) (c8 : PySem.W.codeIn K cd8 "greatest_kept" = true) (k8 : PySem.W.keepIn K (.ref f8) = true)
    (a9 : PySem.W.nsIn K mainGlobals "_law_mix" = some (some (.ref f9))) (l9 : K.lookup f9 = some ⟨oc9, od9, .func (PySem.W.fnOf "_law_mix" "_law_mix" (defArgs s__law_mix) (defBody s__law_mix) (defScope s__law_mix) .none kV9 dc9 pm9 an9 cd9 ct9), sl9⟩) (c9 : PySem.W.codeIn K cd9 "_law_mix" = true) (k9 : PySem.W.keepIn K (.ref f9) = true)
    (a10 : PySem.W.nsIn K mainGlobals "_law_deck" = some (some (.ref f10))) (l10 : K.lookup f10 = some ⟨oc10, od10, .func (PySem.W.fnOf "_law_deck" "_law_deck" (defArgs s__law_deck) (defBody s__law_deck) (defScope s__law_deck) .none kV10 dc10 pm10 an10 cd10 ct10), sl10⟩) (c10 : PySem.W.codeIn K cd10 "_law_deck" = true) (k10 : PySem.W.keepIn K (.ref f10) = true)
    (a11 : PySem.W.nsIn K mainGlobals "_law_next" = some (some (.ref f11))) (l11 : K.lookup f11 = some ⟨oc11, od11, .func (PySem.W.fnOf "_law_next" "_law_next" (defArgs s__law_next) (defBody s__law_next) (defScope s__law_next) .none kV11 dc11 pm11 an11 cd11 ct11), sl11⟩) (c11 : PySem.W.codeIn K cd11 "_law_next" = true) (k11 : PySem.W.keepIn K (.ref f11) = true)
    (a12 : PySem.W.nsIn K mainGlobals "_law_pair" = some (some (.ref f12))) (l12 : K.lookup f12 = some ⟨oc12, od12, .func (PySem.W.fnOf "_law_pair" "_law_pair" (defArgs s__law_pair) (defBody s__law_pair) (defScope s__law_pair) .none kV12 dc12 pm12 an12 cd12 ct12), sl12⟩) (c12 : PySem.W.codeIn K cd12 "_law_pair" = true) (k12 : PySem.W.keepIn K (.ref f12) = true)
    (a13 : PySem.W.nsIn K mainGlobals "_law_number" = some (some (.ref f13))) (l13 : K.lookup f13 = some ⟨oc13, od13, .func (PySem.W.fnOf "_law_number" "_law_number" (defArgs s__law_number) (defBody s__law_number) (defScope s__law_number) .none kV13 dc13 pm13 an13 cd13 ct13), sl13⟩) (c13 : PySem.W.codeIn K cd13 "_law_number" = true) (k13 : PySem.W.keepIn K (.ref f13) = true)
    (a14 : PySem.W.nsIn K mainGlobals "_law_power" = some (some (.ref f14))) (l14 : K.lookup f14 = some ⟨oc14, od14, .func (PySem.W.fnOf "_law_power" "_law_power" (defArgs s__law_power) (defBody s__law_power) (defScope s__law_power) .none kV14 dc14 pm14 an14 cd14 ct14), sl14⟩) (c14 : PySem.W.codeIn K cd14 "_law_power" = true) (k14 : PySem.W.keepIn K (.ref f14) = true)
    (a15 : PySem.W.nsIn K mainGlobals "_law_goes_down" = some (some (.ref f15))) (l15 : K.lookup f15 = some ⟨oc15, od15, .func (PySem.W.fnOf "_law_goes_down" "_law_goes_down" (defArgs s__law_goes_down) (defBody s__law_goes_down) (defScope s__law_goes_down) .none kV15 dc15 pm15 an15 cd15 ct15), sl15⟩) (c15 : PySem.W.codeIn K cd15 "_law_goes_down" = true) (k15 : PySem.W.keepIn K (.ref f15) = true)
    (a16 : PySem.W.nsIn K mainGlobals "_law_numbers_right" = some (some (.ref f16))) (l16 : K.lookup f16 = some ⟨oc16, od16, .func (PySem.W.fnOf "_law_numbers_right" "_law_numbers_right" (defArgs s__law_numbers_right) (defBody s__law_numbers_right) (defScope s__law_numbers_right) .none kV16 dc16 pm16 an16 cd16 ct16), sl16⟩) (c16 : PySem.W.codeIn K cd16 "_law_numbers_right" = true) (k16 : PySem.W.keepIn K (.ref f16) = true)
    (a17 : PySem.W.nsIn K mainGlobals "law" = some (some (.ref f17))) (l17 : K.lookup f17 = some ⟨oc17, od17, .func (PySem.W.fnOf "law" "law" (defArgs s_law) (defBody s_law) (defScope s_law) .none kV17 dc17 pm17 an17 cd17 ct17), sl17⟩) (c17 : PySem.W.codeIn K cd17 "law" = true) (k17 : PySem.W.keepIn K (.ref f17) = true)
    (z0 : PySem.W.nsIn K mainGlobals "enumerate" = some none)
    (z1 : PySem.W.nsIn K mainGlobals "int" = some none)
    (z2 : PySem.W.nsIn K mainGlobals "len" = some none)
    (z3 : PySem.W.nsIn K mainGlobals "list" = some none)
    (z4 : PySem.W.nsIn K mainGlobals "max" = some none)
    (z5 : PySem.W.nsIn K mainGlobals "range" = some none)
    (z6 : PySem.W.nsIn K mainGlobals "sum" = some none)
    (z7 : PySem.W.nsIn K mainGlobals "tuple" = some none)
    : ∃ fd : FuncData, (∀ (s : Shared) (v : Value), BindsTo s fd ⟨[v], []⟩ [("script", v)]) ∧ ∀ base : Heap, K.In base → base.Ns mainGlobals mg → FnOk l.prog w K mg base CX0 5 fa fd ["script"] (sp_law K) := by
  have e := hfa.symm.trans (PySem.W.mg_of X G a17)
  cases e
  have F0 := fun_mk (st := s_figures_of) l0 c0 k0
  have F1 := fun_mk (st := s_power_of) l1 c1 k1
  have F2 := fun_mk (st := s_step_of) l2 c2 k2
  have F3 := fun_mk (st := s_row_from) l3 c3 k3
  have F4 := fun_mk (st := s_length_down) l4 c4 k4
  have F5 := fun_mk (st := s_length_shown) l5 c5 k5
  have F6 := fun_mk (st := s_gains_by_place) l6 c6 k6
  have F7 := fun_mk (st := s_greatest_figure) l7 c7 k7
  have F8 := fun_mk (st := s_greatest_kept) l8 c8 k8
  have F9 := fun_mk (st := s__law_mix) l9 c9 k9
  have F10 := fun_mk (st := s__law_deck) l10 c10 k10
  have F11 := fun_mk (st := s__law_next) l11 c11 k11
  have F12 := fun_mk (st := s__law_pair) l12 c12 k12
  have F13 := fun_mk (st := s__law_number) l13 c13 k13
  have F14 := fun_mk (st := s__law_power) l14 c14 k14
  have F15 := fun_mk (st := s__law_goes_down) l15 c15 k15
  have F16 := fun_mk (st := s__law_numbers_right) l16 c16 k16
  have F17 := fun_mk (st := s_law) l17 c17 k17
  let T : Txt K mg := {
    f_figures_of := f0,
    fd_figures_of := _,
    F_figures_of := F0,
    g_figures_of := PySem.W.mg_of X G a0,
    b_figures_of := F0.binds (ps := ["number", "base"]) (fun _ _ _ _ _ _ us hl => match us, hl with | [_, _], _ => rfl),
    f_power_of := f1,
    fd_power_of := _,
    F_power_of := F1,
    g_power_of := PySem.W.mg_of X G a1,
    b_power_of := F1.binds (ps := ["figure", "power"]) (fun _ _ _ _ _ _ us hl => match us, hl with | [_, _], _ => rfl),
    f_step_of := f2,
    fd_step_of := _,
    F_step_of := F2,
    g_step_of := PySem.W.mg_of X G a2,
    b_step_of := F2.binds (ps := ["number", "base", "power"]) (fun _ _ _ _ _ _ us hl => match us, hl with | [_, _, _], _ => rfl),
    f_row_from := f3,
    fd_row_from := _,
    F_row_from := F3,
    g_row_from := PySem.W.mg_of X G a3,
    b_row_from := F3.binds (ps := ["number", "base", "power", "many"]) (fun _ _ _ _ _ _ us hl => match us, hl with | [_, _, _, _], _ => rfl),
    f_length_down := f4,
    fd_length_down := _,
    F_length_down := F4,
    g_length_down := PySem.W.mg_of X G a4,
    b_length_down := F4.binds (ps := ["base", "power"]) (fun _ _ _ _ _ _ us hl => match us, hl with | [_, _], _ => rfl),
    f_length_shown := f5,
    fd_length_shown := _,
    F_length_shown := F5,
    g_length_shown := PySem.W.mg_of X G a5,
    b_length_shown := F5.binds (ps := ["base", "power", "length"]) (fun _ _ _ _ _ _ us hl => match us, hl with | [_, _, _], _ => rfl),
    f_gains_by_place := f6,
    fd_gains_by_place := _,
    F_gains_by_place := F6,
    g_gains_by_place := PySem.W.mg_of X G a6,
    b_gains_by_place := F6.binds (ps := ["base", "power", "many"]) (fun _ _ _ _ _ _ us hl => match us, hl with | [_, _, _], _ => rfl),
    f_greatest_figure := f7,
    fd_greatest_figure := _,
    F_greatest_figure := F7,
    g_greatest_figure := PySem.W.mg_of X G a7,
    b_greatest_figure := F7.binds (ps := ["gains", "needed"]) (fun _ _ _ _ _ _ us hl => match us, hl with | [_, _], _ => rfl),
    f_greatest_kept := f8,
    fd_greatest_kept := _,
    F_greatest_kept := F8,
    g_greatest_kept := PySem.W.mg_of X G a8,
    b_greatest_kept := F8.binds (ps := ["base", "power"]) (fun _ _ _ _ _ _ us hl => match us, hl with | [_, _], _ => rfl),
    f__law_mix := f9,
    fd__law_mix := _,
    F__law_mix := F9,
    g__law_mix := PySem.W.mg_of X G a9,
    b__law_mix := F9.binds (ps := ["cell", "k"]) (fun _ _ _ _ _ _ us hl => match us, hl with | [_, _], _ => rfl),
    f__law_deck := f10,
    fd__law_deck := _,
    F__law_deck := F10,
    g__law_deck := PySem.W.mg_of X G a10,
    b__law_deck := F10.binds (ps := ["script"]) (fun _ _ _ _ _ _ us hl => match us, hl with | [_], _ => rfl),
    f__law_next := f11,
    fd__law_next := _,
    F__law_next := F11,
    g__law_next := PySem.W.mg_of X G a11,
    b__law_next := F11.binds (ps := ["deck", "many"]) (fun _ _ _ _ _ _ us hl => match us, hl with | [_, _], _ => rfl),
    f__law_pair := f12,
    fd__law_pair := _,
    F__law_pair := F12,
    g__law_pair := PySem.W.mg_of X G a12,
    b__law_pair := F12.binds (ps := ["deck"]) (fun _ _ _ _ _ _ us hl => match us, hl with | [_], _ => rfl),
    f__law_number := f13,
    fd__law_number := _,
    F__law_number := F13,
    g__law_number := PySem.W.mg_of X G a13,
    b__law_number := F13.binds (ps := ["deck", "base"]) (fun _ _ _ _ _ _ us hl => match us, hl with | [_, _], _ => rfl),
    f__law_power := f14,
    fd__law_power := _,
    F__law_power := F14,
    g__law_power := PySem.W.mg_of X G a14,
    b__law_power := F14.binds (ps := ["number", "often"]) (fun _ _ _ _ _ _ us hl => match us, hl with | [_, _], _ => rfl),
    f__law_goes_down := f15,
    fd__law_goes_down := _,
    F__law_goes_down := F15,
    g__law_goes_down := PySem.W.mg_of X G a15,
    b__law_goes_down := F15.binds (ps := ["number", "base", "power"]) (fun _ _ _ _ _ _ us hl => match us, hl with | [_, _, _], _ => rfl),
    f__law_numbers_right := f16,
    fd__law_numbers_right := _,
    F__law_numbers_right := F16,
    g__law_numbers_right := PySem.W.mg_of X G a16,
    b__law_numbers_right := F16.binds (ps := ["deck", "base", "power", "kept", "length"]) (fun _ _ _ _ _ _ us hl => match us, hl with | [_, _, _, _, _], _ => rfl),
    f_law := fa,
    fd_law := _,
    F_law := F17,
    g_law := PySem.W.mg_of X G a17,
    b_law := F17.binds (ps := ["script"]) (fun _ _ _ _ _ _ us hl => match us, hl with | [_], _ => rfl),
    m_enumerate := PySem.W.mg_none_of X G z0,
    m_int := PySem.W.mg_none_of X G z1,
    m_len := PySem.W.mg_none_of X G z2,
    m_list := PySem.W.mg_none_of X G z3,
    m_max := PySem.W.mg_none_of X G z4,
    m_range := PySem.W.mg_none_of X G z5,
    m_sum := PySem.W.mg_none_of X G z6,
    m_tuple := PySem.W.mg_none_of X G z7 }
  exact ⟨_, fun s v => .of_eq rfl, fun base _ _ => ok_law T⟩
end Fx
open PySem PySem.W PyProof.Rows
set_option maxHeartbeats 0 in
theorem PySem.Challenge.cw_figurerounds_k08_whole_going_down_holds : PySem.Challenge.rw_figurerounds_k08_whole_going_down.Holds := by
  w_on; o_law; k_head; (case hw => w_witness2)
  k_fill
  refine L2.walk_of (l := PySem.Challenge.rw_figurerounds_k08_whole_going_down) (n := 63) (k := 5) (x := "script") (CX := fun _ => L2.CX0) (sp := fun w => Fx.sp_law _) rfl (by decide) rfl ⟨rfl, by decide, by decide⟩ (fun w h Y => PySem.W.kIn_of Y) ?F (fun _ _ a ns hl _ hS => Fx.law_start hl hS) (fun _ _ _ _ _ h => h)
  case F =>
    intro w mg fa h KX G hmg
    refine' Fx.all_mk KX G hmg ?a0 ?l0 ?c0 ?k0 ?a1 ?l1 ?c1 ?k1 ?a2 ?l2 ?c2 ?k2 ?a3 ?l3 ?c3 ?k3 ?a4 ?l4 ?c4 ?k4 ?a5 ?l5 ?c5 ?k5 ?a6 ?l6 ?c6 ?k6 ?a7 ?l7 ?c7 ?k7 ?a8 ?l8 ?c8 ?k8 ?a9 ?l9 ?c9 ?k9 ?a10 ?l10 ?c10 ?k10 ?a11 ?l11 ?c11 ?k11 ?a12 ?l12 ?c12 ?k12 ?a13 ?l13 ?c13 ?k13 ?a14 ?l14 ?c14 ?k14 ?a15 ?l15 ?c15 ?k15 ?a16 ?l16 ?c16 ?k16 ?a17 ?l17 ?c17 ?k17 ?z0 ?z1 ?z2 ?z3 ?z4 ?z5 ?z6 ?z7
    (case a0 => k_is); (case l0 => k_is); (case c0 => k_is); (case k0 => k_is); (case a1 => k_is); (case l1 => k_is); (case c1 => k_is); (case k1 => k_is); (case a2 => k_is); (case l2 => k_is); (case c2 => k_is); (case k2 => k_is); (case a3 => k_is); (case l3 => k_is); (case c3 => k_is); (case k3 => k_is); (case a4 => k_is); (case l4 => k_is); (case c4 => k_is); (case k4 => k_is); (case a5 => k_is); (case l5 => k_is); (case c5 => k_is); (case k5 => k_is); (case a6 => k_is); (case l6 => k_is); (case c6 => k_is); (case k6 => k_is); (case a7 => k_is); (case l7 => k_is); (case c7 => k_is); (case k7 => k_is); (case a8 => k_is); (case l8 => k_is); (case c8 => k_is); (case k8 => k_is); (case a9 => k_is); (case l9 => k_is); (case c9 => k_is); (case k9 => k_is); (case a10 => k_is); (case l10 => k_is); (case c10 => k_is); (case k10 => k_is); (case a11 => k_is); (case l11 => k_is); (case c11 => k_is); (case k11 => k_is); (case a12 => k_is); (case l12 => k_is); (case c12 => k_is); (case k12 => k_is); (case a13 => k_is); (case l13 => k_is); (case c13 => k_is); (case k13 => k_is); (case a14 => k_is); (case l14 => k_is); (case c14 => k_is); (case k14 => k_is); (case a15 => k_is); (case l15 => k_is); (case c15 => k_is); (case k15 => k_is); (case a16 => k_is); (case l16 => k_is); (case c16 => k_is); (case k16 => k_is); (case a17 => k_is); (case l17 => k_is); (case c17 => k_is); (case k17 => k_is); (case z0 => k_is); (case z1 => k_is); (case z2 => k_is); (case z3 => k_is); (case z4 => k_is); (case z5 => k_is); (case z6 => k_is); (case z7 => k_is)
