import PyProof.Rows.All
import Wide.All
import OpenK.AllK
import Wide.FinOn
import HandS.ForMost
import HandS.Wide
import HandS.Style
import HandS.IsInst
import HandS.Conv
import HandS.Codes
import HandS.TupAny
import HandS.NoneIn
import HandS.SetFor
import HandS.Walk
import HandS.More
import HandS.TupMul
import PyProof.MinMaxWalk
import PyProof.WalkInts
import HandS.SortInts
import HandS.Zip
import KE.GoesMore
import KE.GoesEnum
import PySem.Challenge.RW_figurerounds_k10_ends_told
set_option Elab.async false
set_option linter.all false
set_option maxRecDepth 100000
set_option maxHeartbeats 4000000

/-! my own words for readings: "rd" goes on while there is one way only -/
local macro_rules | `(tactic| walk_at "cc") => `(tactic| first
  | (with_reducible exact rfl) | (dsimp only [CMul, CDivW]; omega) | (exact ⟨by decide +kernel, by decide +kernel⟩) | decide +kernel)
local macro_rules | `(tactic| walk_at "rd1") => `(tactic| first
  | refine ⟨_, rfl, ?_⟩ | refine ⟨_, _, rfl, rfl, ?_⟩ | refine ⟨rfl, ?_⟩)
local macro_rules | `(tactic| walk_at "rd") => `(tactic| repeat (walk_at "rd1"))

local macro_rules | `(tactic| walk_at "p") => `(tactic| ((show (0 : Int) < _); first | assumption | omega | decide))

namespace Fx
open PySem PySem.Spec PyProof.Rows L2

/-! ### rules named by their readings, for comprehensions -/
def rLenQ (K : PySem.W.Frag) : List V → Hp → VK → Prop := fun xs H Q => ∃ p ys, xs = [V.ref p] ∧ (SqL K H p ys ∨ SqT K H p ys) ∧ Q (.int ys.length) H
def rListQ (K : PySem.W.Frag) : List V → Hp → VK → Prop := fun xs H Q => ∃ p ys, xs = [V.ref p] ∧ (SqL K H p ys ∨ SqT K H p ys) ∧ ∀ l, H l = none → Q (.ref l) (upd H l (.lst ys))

def rTupQ (K : PySem.W.Frag) : List V → Hp → VK → Prop := fun xs H Q => ∃ p ys, xs = [V.ref p] ∧ ((SqL K H p ys ∧ ∀ l, H l = none → Q (.ref l) (upd H l (.tup ys))) ∨ SqT K H p ys ∧ Q (.ref p) H)

/-! ### what stays -/
def But (d : Addr) (H H' : Hp) : Prop := ∀ b o, b ≠ d → H b = some o → H' b = some o
theorem But.refl (d : Addr) (H : Hp) : But d H H := fun _ _ _ h => h
theorem But.trans {d : Addr} {H H1 H2 : Hp} (a : But d H H1) (b : But d H1 H2) : But d H H2 := fun x o n h => b x o n (a x o n h)
theorem But.of {d : Addr} {H H' : Hp} (a : Same H H') : But d H H' := fun x o _ h => a x o h
theorem But.new {d p : Addr} {H : Hp} {o : HO} (h : H p = none) : But d H (upd H p o) := fun b u _ e => by
  rw [upd_ne (ne_of_none e h)]
  exact e
theorem But.set {d : Addr} {H : Hp} {o : HO} : But d H (upd H d o) := fun b u n e => by
  rw [upd_ne n]
  exact e
theorem But.fresh {d p : Addr} {H H' : Hp} (a : But d H H') (hd : ∃ o, H' d = some o) (h : H' p = none) : H p = none := by
  cases e : H p with
  | none => rfl
  | some o =>
    by_cases z : p = d
    · obtain ⟨u, hu⟩ := hd
      rw [z, hu] at h
      cases h
    · rw [a p o z e] at h
      cases h
theorem Same.new {p : Addr} {H : Hp} {o : HO} (h : H p = none) : Same H (upd H p o) := fun b u e => by
  rw [upd_ne (ne_of_none e h)]
  exact e

/-- behind a new object, named by «generalize g : upd H p _ = H'» -/
theorem new_of {H H' : Hp} {p : Addr} {o : HO} (g : upd H p o = H') (hp : H p = none) : Same H H' ∧ H' p = some o := by
  subst g
  exact ⟨Same.new hp, upd_same⟩
theorem set_of {H H' : Hp} {p : Addr} {o : HO} (g : upd H p o = H') : But p H H' ∧ H' p = some o := by
  subst g
  exact ⟨But.set, upd_same⟩

/-! ### the draws -/
/-- the cells at c, the deck at d, at most n draws so far -/
structure Deck (H : Hp) (d c : Addr) (n : Nat) : Prop where
  ex : ∃ (ns : List Int) (i l m t : Int), H d = some (.lst [.ref c, .int i, .int l, .int m, .int t]) ∧ H c = some (.lst (ns.map V.int)) ∧ 0 ≤ i ∧ i ≤ n ∧ 0 ≤ m ∧ m ≤ n
theorem Deck.there {H : Hp} {d c : Addr} {n : Nat} (h : Deck H d c n) : ∃ o, H d = some o := by
  obtain ⟨ns, i, l, m, t, e, _⟩ := h.ex
  exact ⟨_, e⟩
theorem Deck.some {H : Hp} {d c : Addr} {n : Nat} (h : Deck H d c n) : ∃ xs, H d = some (.lst xs) := by
  obtain ⟨ns, i, l, m, t, e, _⟩ := h.ex
  exact ⟨_, e⟩
theorem Deck.ne {H : Hp} {d c : Addr} {n : Nat} (h : Deck H d c n) : c ≠ d := by
  obtain ⟨ns, i, l, m, t, e, e2, _⟩ := h.ex
  intro z
  rw [z, e] at e2
  cases ns with
  | nil => cases e2
  | cons x r => cases e2
theorem Deck.mono {H : Hp} {d c : Addr} {n k : Nat} (h : Deck H d c n) (l : n ≤ k) : Deck H d c k := by
  obtain ⟨ns, i, l, m, t, e, e2, h1, h2, h3, h4⟩ := h.ex
  exact ⟨ns, i, l, m, t, e, e2, h1, by omega, h3, by omega⟩
theorem Deck.same {H H' : Hp} {d c : Addr} {n : Nat} (h : Deck H d c n) (a : Same H H') : Deck H' d c n := by
  obtain ⟨ns, i, l, m, t, e, e2, r⟩ := h.ex
  exact ⟨ns, i, l, m, t, a _ _ e, a _ _ e2, r⟩
theorem Deck.new {H : Hp} {d c p : Addr} {n : Nat} {o : HO} (h : Deck H d c n) (hp : H p = none) : Deck (upd H p o) d c n := h.same (Same.new hp)
/-- something else than the deck and its cells is written -/
theorem Deck.off {H : Hp} {d c p : Addr} {n : Nat} {o : HO} (h : Deck H d c n) (h1 : p ≠ d) (h2 : p ≠ c) : Deck (upd H p o) d c n := by
  obtain ⟨ns, i, l, m, t, e, e2, r⟩ := h.ex
  exact ⟨ns, i, l, m, t, by rw [upd_ne (Ne.symm h1)]; exact e, by rw [upd_ne (Ne.symm h2)]; exact e2, r⟩
/-- a list of our own grows -/
theorem But.own {d p : Addr} {H H' : Hp} {o : HO} (a : But d H H') (hp : H p = none) : But d H (upd H' p o) := fun b u n e => by
  rw [upd_ne (ne_of_none e hp)]
  exact a b u n e
theorem Deck.out {H : Hp} {d c p : Addr} {n : Nat} (h : Deck H d c n) (hp : H p = none) : p ≠ d ∧ p ≠ c := by
  obtain ⟨ns, i, l, m, t, e, e2, r⟩ := h.ex
  exact ⟨(ne_of_none e hp).symm, (ne_of_none e2 hp).symm⟩
/-- an object that is no list stays -/
theorem But.tup {d c p : Addr} {n : Nat} {H H' : Hp} {xs : List V} (a : But d H H') (h : Deck H d c n) (e : H p = some (.tup xs)) : H' p = some (.tup xs) := by
  obtain ⟨ys, q⟩ := h.some
  exact a p _ (ne_of e q (fun z => by cases z)) e

/-- a slice from the first on -/
theorem cut_to (xs : List V) (n : Nat) : cutV xs none (some (n : Int)) = xs.take n := by
  unfold cutV
  rw [HT.sIx_none, HT.sIx_nat]
  show List.take (min n xs.length - 0) (xs.drop 0) = _
  rw [List.drop_zero, Nat.sub_zero]
  by_cases h : n ≤ xs.length
  · rw [Nat.min_eq_left h]
  · rw [Nat.min_eq_right (by omega), List.take_length, List.take_of_length_le (by omega)]
/-- a slice from the n-th on -/
theorem cut_from (xs : List V) (n : Nat) : cutV xs (some (n : Int)) none = xs.drop n := by
  unfold cutV
  rw [HT.sIx_none, HT.sIx_nat]
  by_cases h : n ≤ xs.length
  · rw [Nat.min_eq_left h]
    exact List.take_of_length_le (by rw [List.length_drop]; omega)
  · rw [Nat.min_eq_right (by omega), Nat.sub_self, List.take_zero, List.drop_eq_nil_of_le (by omega)]

/-- a while's next turn -/
def Nx (W : Nat → L2.St → Hp → Prop) (m : Nat) : L2.St → Hp → Prop := fun σ' H' => ∃ m', m' < m ∧ W m' σ' H'
theorem Nx.id {W : Nat → L2.St → Hp → Prop} {m : Nat} : ∀ σ' H', Nx W m σ' H' → ∃ m', m' < m ∧ W m' σ' H' := fun _ _ h => h

theorem small5 {n : Nat} (h : n < 100000) : n < sizeLine := Nat.lt_of_lt_of_le h (by decide)

/-- a divisor's, a factor's bound -/
theorem divW {i j : Int} (b : Nat) (h : 0 < j) (hb : j < 2 ^ b) (h0 : 0 < b := by decide) (h9 : b ≤ 9000 := by decide) : CDivW i j := wide_div h (b := b) (by
  have e : ((2 ^ b : Nat) : Int) = (2 : Int) ^ b := by simp
  omega) h0 h9
end Fx

namespace Fx
open PySem PySem.Spec PyProof.Rows L2
/-! ### lists of numbers as they stand -/
def ivs (l : List Nat) : List V := l.map fun (k : Nat) => V.int (k : Int)
theorem ivs_map (l : List Nat) : ivs l = (l.map fun (k : Nat) => (k : Int)).map V.int := by
  unfold ivs
  rw [List.map_map]
  rfl
theorem ivs_append (l r : List Nat) : ivs (l ++ r) = ivs l ++ ivs r := List.map_append
theorem ivs_length (l : List Nat) : (ivs l).length = l.length := List.length_map ..
theorem ivs_reverse (l : List Nat) : (ivs l).reverse = ivs l.reverse := by
  unfold ivs
  rw [List.map_reverse]
theorem ivs_get {l : List Nat} {i : Nat} {x : V} (h : (ivs l)[i]? = some x) : ∃ k, l[i]? = some k ∧ x = V.int (k : Int) := by
  unfold ivs at h
  rw [List.getElem?_map] at h
  cases e : l[i]? with
  | none => rw [e] at h; cases h
  | some k =>
    rw [e] at h
    exact ⟨k, rfl, (Option.some.inj h).symm⟩
theorem ivs_at {l : List Nat} {i k : Nat} (h : l[i]? = some k) : (ivs l)[i]? = some (V.int (k : Int)) := by
  unfold ivs
  rw [List.getElem?_map, h]
  rfl
theorem sum_cast : ∀ l : List Nat, (l.map fun (k : Nat) => (k : Int)).sum = ((l.sum : Nat) : Int)
  | [] => rfl
  | a :: r => by
    rw [List.map_cons, List.sum_cons, List.sum_cons, sum_cast r]
    simp
theorem same_own {H H' : Hp} {p : Addr} {o : HO} (a : Same H H') (hp : H p = none) : Same H (upd H' p o) := fun b u e => by
  rw [upd_ne (ne_of_none e hp)]
  exact a b u e

/-! ### data that are compared -/
def dInts (l : List Int) : List PyData := l.map PyData.int
theorem dpAll_ints {K : PySem.W.Frag} {H : Hp} : ∀ l : List Int, DpAll K H (l.map V.int) (dInts l)
  | [] => .nil
  | a :: r => .cons (.int a) (dpAll_ints r)
theorem dpAll_ivs {K : PySem.W.Frag} {H : Hp} (l : List Nat) : DpAll K H (ivs l) (dInts (l.map fun (k : Nat) => (k : Int))) := by
  rw [ivs_map]
  exact dpAll_ints _
theorem canLay_ints : ∀ l : List Int, PyData.canLayAll0 (dInts l) = true
  | [] => rfl
  | a :: r => by
    unfold dInts
    rw [List.map_cons, PyData.canLayAll0]
    have h := canLay_ints r
    unfold dInts at h
    rw [h]
    rfl
theorem depth_ints : ∀ l : List Int, PyData.depthAll (dInts l) ≤ 1
  | [] => by unfold dInts; rw [List.map_nil]; unfold PyData.depthAll; decide
  | a :: r => by
    have h := depth_ints r
    unfold dInts at h ⊢
    rw [List.map_cons]
    unfold PyData.depthAll PyData.depth
    omega
theorem shaped_list {ds : List PyData} (h : PyData.canLayAll0 ds = true) (d : PyData.depthAll ds ≤ 60) : SeqAt.shaped (.list ds) = true := by
  unfold SeqAt.shaped
  rw [Bool.and_eq_true]
  refine ⟨by rw [PyData.canLay0]; exact h, decide_eq_true ?_⟩
  unfold PyData.depth
  omega
theorem shaped_tup {ds : List PyData} (h : PyData.canLayAll0 ds = true) (d : PyData.depthAll ds ≤ 60) : SeqAt.shaped (.tuple ds) = true := by
  unfold SeqAt.shaped
  rw [Bool.and_eq_true]
  refine ⟨by rw [PyData.canLay0]; exact h, decide_eq_true ?_⟩
  unfold PyData.depth
  omega
theorem shaped_ints (l : List Int) : SeqAt.shaped (.list (dInts l)) = true := shaped_list (canLay_ints l) (Nat.le_trans (depth_ints l) (by decide))
theorem shaped_tints (l : List Int) : SeqAt.shaped (.tuple (dInts l)) = true := shaped_tup (canLay_ints l) (Nat.le_trans (depth_ints l) (by decide))
theorem eqv_same {d : PyData} (h : SeqAt.shaped d = true) : PyData.eqv d d = true := SeqAt.eqv_refl d (SeqAt.canLay_of_shaped h)
end Fx

namespace Fx
/-! ### figures -/
/-- figures, the least place first -/
def lsd (b n : Nat) : List Nat := if h : 2 ≤ b ∧ b ≤ n then (n % b) :: lsd b (n / b) else [n]
termination_by n
decreasing_by exact Nat.div_lt_self (by omega) (by omega)
theorem lsd_lt {b n : Nat} (h : n < b) : lsd b n = [n] := by
  rw [lsd, dif_neg (by omega)]
theorem lsd_ge {b n : Nat} (hb : 2 ≤ b) (h : b ≤ n) : lsd b n = n % b :: lsd b (n / b) := by
  rw [lsd, dif_pos ⟨hb, h⟩]
theorem lsd_split {b r : Nat} (hb : 2 ≤ b) : lsd b r = r % b :: (if r / b = 0 then [] else lsd b (r / b)) := by
  by_cases h : b ≤ r
  · have : r / b ≠ 0 := by
      have := Nat.div_pos h (by omega)
      omega
    rw [if_neg this, lsd_ge hb h]
  · rw [if_pos (Nat.div_eq_of_lt (by omega)), lsd_lt (by omega), Nat.mod_eq_of_lt (by omega)]
theorem lsd_below {b : Nat} (hb : 2 ≤ b) : ∀ n : Nat, ∀ d ∈ lsd b n, d < b := fun n => by
  induction n using Nat.strongRecOn with
  | ind n ih =>
    intro d hd
    by_cases h : b ≤ n
    · rw [lsd_ge hb h] at hd
      rcases List.mem_cons.mp hd with rfl | hd
      · exact Nat.mod_lt _ (by omega)
      · exact ih (n / b) (Nat.div_lt_self (by omega) (by omega)) d hd
    · rw [lsd_lt (by omega)] at hd
      cases List.mem_singleton.mp hd
      omega
theorem lsd_ne {b n : Nat} : lsd b n ≠ [] := by
  rw [lsd]
  split <;> simp
theorem lsd_len {b : Nat} (hb : 2 ≤ b) : ∀ (k n : Nat), n < b ^ (k + 1) → (k = 0 ∨ b ^ k ≤ n) → (lsd b n).length = k + 1
  | 0, n, h, _ => by
    rw [Nat.zero_add, Nat.pow_one] at h
    rw [lsd_lt h]
    rfl
  | k + 1, n, h, g => by
    have g' : b ^ (k + 1) ≤ n := by
      rcases g with g | g
      · omega
      · exact g
    have p : 0 < b ^ k := Nat.pow_pos (by omega)
    have h1 : b ≤ n := by
      rw [Nat.pow_succ] at g'
      have := Nat.mul_le_mul_right b (show 1 ≤ b ^ k by omega)
      omega
    rw [lsd_ge hb h1, List.length_cons, lsd_len hb k (n / b)]
    · rw [Nat.div_lt_iff_lt_mul (by omega), ← Nat.pow_succ]
      exact h
    · right
      rw [Nat.le_div_iff_mul_le (by omega), ← Nat.pow_succ]
      exact g'
theorem lsd_get {b : Nat} (hb : 2 ≤ b) : ∀ (i n : Nat), i < (lsd b n).length → (lsd b n)[i]? = some (n / b ^ i % b)
  | 0, n, _ => by
    rw [lsd_split hb, Nat.pow_zero, Nat.div_one]
    rfl
  | i + 1, n, h => by
    rw [lsd_split hb] at h ⊢
    split at h
    · simp at h
    · rename_i hr
      rw [if_neg hr, List.getElem?_cons_succ, lsd_get hb i (n / b) (by simpa using h)]
      rw [Nat.div_div_eq_div_mul, Nat.pow_succ, Nat.mul_comm]
theorem lsd_len_le {b : Nat} (hb : 2 ≤ b) : ∀ (k n : Nat), n < 2 ^ (k + 1) → (lsd b n).length ≤ k + 1
  | 0, n, h => by
    rw [lsd_lt (by omega)]
    exact Nat.le_refl _
  | k + 1, n, h => by
    by_cases g : b ≤ n
    · rw [lsd_ge hb g, List.length_cons]
      have : n / b < 2 ^ (k + 1) := by
        rw [Nat.div_lt_iff_lt_mul (by omega)]
        have := Nat.mul_le_mul_left (2 ^ (k + 1)) hb
        rw [Nat.pow_succ] at h
        omega
      have := lsd_len_le hb k (n / b) this
      omega
    · rw [lsd_lt (by omega)]
      show 1 ≤ _
      omega
/-- figures, the greatest place first -/
def figs (b n : Nat) : List Nat := (lsd b n).reverse
theorem figs_len (b n : Nat) : (figs b n).length = (lsd b n).length := List.length_reverse ..
theorem figs_below {b n d : Nat} (hb : 2 ≤ b) (h : d ∈ figs b n) : d < b := lsd_below hb n d (List.mem_reverse.mp h)
theorem figs_le {b n : Nat} (hb : 2 ≤ b) (h : n < 2 ^ 900) : (figs b n).length ≤ 900 := by
  rw [figs_len]
  exact lsd_len_le hb 899 n h
/-! ### steps -/
def stepN (b p n : Nat) : Nat := ((figs b n).map (· ^ p)).sum
theorem sum_le_mul {l : List Nat} {m : Nat} (h : ∀ x ∈ l, x ≤ m) : l.sum ≤ l.length * m := by
  induction l with
  | nil => simp
  | cons a r ih =>
    rw [List.sum_cons, List.length_cons, Nat.succ_mul]
    have h1 := h a (List.mem_cons_self ..)
    have h2 := ih fun x hx => h x (List.mem_cons_of_mem _ hx)
    omega
theorem pow_le_base {d b p : Nat} (h : d < b) : d ^ p ≤ (b - 1) ^ p := Nat.pow_le_pow_left (by omega) p
theorem stepN_le {b p n : Nat} (hb : 2 ≤ b) : stepN b p n ≤ (figs b n).length * (b - 1) ^ p := by
  unfold stepN
  have := sum_le_mul (l := (figs b n).map (· ^ p)) (m := (b - 1) ^ p) fun x hx => by
    obtain ⟨d, hd, rfl⟩ := List.mem_map.mp hx
    exact pow_le_base (figs_below hb hd)
  rwa [List.length_map] at this
theorem worth_lt {b p : Nat} (hb : b ≤ 16) (hp : p ≤ 10) : (b - 1) ^ p < 2 ^ 40 := by
  have h1 : (b - 1) ^ p ≤ 15 ^ p := Nat.pow_le_pow_left (by omega) p
  have h2 : 15 ^ p ≤ 15 ^ 10 := Nat.pow_le_pow_right (by decide) hp
  have h3 : 15 ^ 10 < 2 ^ 40 := by decide
  omega
theorem stepN_lt {b p n : Nat} (hb : 2 ≤ b) (hb16 : b ≤ 16) (hp : p ≤ 10) (hn : n < 2 ^ 900) : stepN b p n < 2 ^ 50 := by
  have h1 := stepN_le (p := p) (n := n) hb
  have h2 := figs_le hb hn
  have h3 := worth_lt hb16 hp
  have h4 : (figs b n).length * (b - 1) ^ p ≤ 900 * 2 ^ 40 := Nat.mul_le_mul h2 (by omega)
  omega
/-- steps again and again -/
def itN (b p n : Nat) : Nat → Nat
  | 0 => n
  | k + 1 => stepN b p (itN b p n k)
theorem itN_lt {b p n : Nat} (hb : 2 ≤ b) (hb16 : b ≤ 16) (hp : p ≤ 10) (hn : n < 2 ^ 900) : ∀ k, itN b p n k < 2 ^ 900
  | 0 => hn
  | k + 1 => by
    have := stepN_lt hb hb16 hp (itN_lt hb hb16 hp hn k)
    have : itN b p n (k + 1) = stepN b p (itN b p n k) := rfl
    have e : (2 : Nat) ^ 50 ≤ 2 ^ 900 := Nat.pow_le_pow_right (by decide) (by decide)
    omega
def rowN (b p n : Nat) : Nat → List Nat
  | 0 => []
  | m + 1 => rowN b p n m ++ [itN b p n m]
theorem rowN_len (b p n : Nat) : ∀ m, (rowN b p n m).length = m
  | 0 => rfl
  | m + 1 => by
    rw [rowN, List.length_append, rowN_len b p n m]
    rfl
end Fx
namespace Fx
/-! ### the law's own figures -/
def powsN (b : Nat) : Nat → List Nat
  | 0 => []
  | k + 1 => powsN b k ++ [b ^ k]
theorem powsN_len (b : Nat) : ∀ k, (powsN b k).length = k
  | 0 => rfl
  | k + 1 => by
    rw [powsN, List.length_append, powsN_len b k]
    rfl
theorem powsN_get (b : Nat) : ∀ k i, i < k → (powsN b k)[i]? = some (b ^ i)
  | 0, _, h => by omega
  | k + 1, i, h => by
    rw [powsN]
    by_cases e : i = k
    · subst e
      rw [List.getElem?_append_right (by rw [powsN_len]; exact Nat.le_refl _), powsN_len, Nat.sub_self]
      rfl
    · rw [List.getElem?_append_left (by rw [powsN_len]; omega)]
      exact powsN_get b k i (by omega)
theorem powsN_rev {b k i : Nat} (h : i < k + 1) : (powsN b (k + 1)).reverse[i]? = some (b ^ (k - i)) := by
  rw [List.getElem?_reverse (by rw [powsN_len]; exact h), powsN_len, powsN_get b (k + 1) _ (by omega)]
  rw [show k + 1 - 1 - i = k - i by omega]
def fndN (b n k i : Nat) : List Nat := (List.range i).map fun t => n / b ^ (k - t) % b
theorem fndN_succ (b n k i : Nat) : fndN b n k (i + 1) = fndN b n k i ++ [n / b ^ (k - i) % b] := by
  unfold fndN
  rw [List.range_succ, List.map_append]
  rfl
theorem fndN_len (b n k i : Nat) : (fndN b n k i).length = i := by
  unfold fndN
  rw [List.length_map, List.length_range]
theorem fndN_all {b n k : Nat} (hb : 2 ≤ b) (h1 : n < b ^ (k + 1)) (h2 : k = 0 ∨ b ^ k ≤ n) : fndN b n k (k + 1) = figs b n := by
  have hl := lsd_len hb k n h1 h2
  refine List.ext_getElem? fun i => ?_
  by_cases hi : i < k + 1
  · unfold figs fndN
    rw [List.getElem?_reverse (by rw [hl]; exact hi), hl, lsd_get hb _ n (by rw [hl]; omega), List.getElem?_map, List.getElem?_range hi]
    have e : k + 1 - 1 - i = k - i := by omega
    rw [e]
    rfl
  · rw [List.getElem?_eq_none (by rw [fndN_len]; omega), List.getElem?_eq_none (by rw [figs_len, hl]; omega)]
theorem fig_div {b n j : Nat} : n % b ^ (j + 1) / b ^ j = n / b ^ j % b := by
  rw [Nat.pow_succ, Nat.mod_mul_right_div_self]
theorem fig_mod {b n j : Nat} : n % b ^ (j + 1) % b ^ j = n % b ^ j := by
  rw [Nat.pow_succ, Nat.mod_mul_right_mod]
theorem lt_pow' {b : Nat} (hb : 2 ≤ b) : ∀ k : Nat, k < b ^ k
  | 0 => by rw [Nat.pow_zero]; decide
  | k + 1 => by
    have := lt_pow' hb k
    rw [Nat.pow_succ]
    have := Nat.mul_le_mul_left (b ^ k) hb
    omega
open L2 in
theorem divN {x : Int} {j : Nat} (h0 : 0 < j) (h : j < 2 ^ 900) : CDivW x (j : Int) := wide_div (b := 900) (by omega) h (by decide) (by decide)
end Fx

namespace Fx
open PySem PySem.Spec PyProof.Rows L2
/-- the greatest power that a base lets -/
def mosts : List Int := [10, 9, 6, 4, 4, 3, 3, 3, 3, 3, 2, 2, 2, 2, 2]
def mostOf (b : Int) : Int := mosts.getD (b - 2).toNat 0
def OkPair (b p : Int) : Prop := 2 ≤ b ∧ b ≤ 16 ∧ 1 ≤ p ∧ p ≤ mostOf b
/-- all of a pair's places, to be shown one by one -/
def pairsAll : List (Int × Int) := (List.range 15).flatMap fun (i : Nat) => (List.range (mosts.getD i 0).toNat).map fun (j : Nat) => (((i : Nat) : Int) + 2, ((j : Nat) : Int) + 1)
theorem OkPair.mem {b p : Int} (h : OkPair b p) : (b, p) ∈ pairsAll := by
  obtain ⟨h1, h2, h3, h4⟩ := h
  refine List.mem_flatMap.mpr ⟨(b - 2).toNat, List.mem_range.mpr (by omega), List.mem_map.mpr ⟨(p - 1).toNat, List.mem_range.mpr ?_, ?_⟩⟩
  · unfold mostOf at h4
    omega
  · show (((b - 2).toNat : Int) + 2, ((p - 1).toNat : Int) + 1) = (b, p)
    rw [Prod.mk.injEq]
    omega
theorem OkPair.all {P : Int → Int → Prop} {b p : Int} (h : OkPair b p) (a : ∀ q ∈ pairsAll, P q.1 q.2) : P b p := a _ h.mem
theorem OkPair.le10 {b p : Int} (h : OkPair b p) : p ≤ 10 := h.all (P := fun _ p => p ≤ 10) (by decide +kernel)
/-- what the greatest figure is worth -/
def worth (b p : Int) : Int := (b - 1) ^ p.toNat
theorem OkPair.worth {b p : Int} (h : OkPair b p) : 1 ≤ worth b p ∧ worth b p ≤ 1000 + 24 := h.all (P := fun b p => 1 ≤ Fx.worth b p ∧ Fx.worth b p ≤ 1024) (by decide +kernel)
theorem most_pos {b : Int} (h1 : 2 ≤ b) (h2 : b ≤ 16) : 1 ≤ mostOf b ∧ mostOf b ≤ 10 := by
  have a : ∀ i ∈ List.range 15, 1 ≤ mosts.getD i 0 ∧ mosts.getD i 0 ≤ 10 := by decide +kernel
  exact a (b - 2).toNat (List.mem_range.mpr (by omega))
theorem most_at {b : Int} (h1 : 2 ≤ b) (h2 : b ≤ 16) : atI (mosts.map V.int) (b - 2) = some (.int (mostOf b)) := by
  have hi : (b - 2).toNat < mosts.length := by
    show (b - 2).toNat < 15
    omega
  have z : (mosts.map V.int)[(b - 2).toNat]? = some (.int (mostOf b)) := by
    rw [List.getElem?_map, List.getElem?_eq_getElem hi]
    unfold mostOf
    rw [List.getD_eq_getElem?_getD, List.getElem?_eq_getElem hi]
    rfl
  have y := atI_nat z
  rw [show (((b - 2).toNat : Nat) : Int) = b - 2 by omega] at y
  exact y
/-- a pair's tuple as it stands -/
def PairAt (H : Hp) (v : V) (b p : Int) : Prop := ∃ a, v = .ref a ∧ H a = some (.tup [.int b, .int p]) ∧ OkPair b p
theorem PairAt.but {H H' : Hp} {d c : Addr} {n : Nat} {v : V} {b p : Int} (h : PairAt H v b p) (D : Deck H d c n) (e : But d H H') : PairAt H' v b p := by
  obtain ⟨a, e1, e2, e3⟩ := h
  exact ⟨a, e1, e.tup D e2, e3⟩
theorem PairAt.same {H H' : Hp} {v : V} {b p : Int} (h : PairAt H v b p) (e : Same H H') : PairAt H' v b p := by
  obtain ⟨a, e1, e2, e3⟩ := h
  exact ⟨a, e1, e _ _ e2, e3⟩
theorem PairAt.upd {H : Hp} {D : Addr} {xs : List V} {o : HO} {v : V} {b p : Int} (h : PairAt H v b p) (e : H D = some (.lst xs)) : PairAt (upd H D o) v b p := by
  obtain ⟨a, e1, e2, e3⟩ := h
  exact ⟨a, e1, by rw [upd_ne (ne_of e2 e fun z => by cases z)]; exact e2, e3⟩
/-- all things of a list are pairs -/
def Pairs (H : Hp) (xs : List V) : Prop := ∀ v ∈ xs, ∃ b p, PairAt H v b p
theorem Pairs.mono {H H' : Hp} {xs : List V} (h : Pairs H xs) (k : ∀ v b p, PairAt H v b p → PairAt H' v b p) : Pairs H' xs := fun v hv => by
  obtain ⟨b, p, q⟩ := h v hv
  exact ⟨b, p, k v b p q⟩
theorem Pairs.app {H : Hp} {xs ys : List V} (h : Pairs H xs) (g : Pairs H ys) : Pairs H (xs ++ ys) := fun v hv => (List.mem_append.mp hv).elim (h v) (g v)
theorem Pairs.rev {H : Hp} {xs : List V} (h : Pairs H xs) : Pairs H xs.reverse := fun v hv => h v (List.mem_reverse.mp hv)
theorem Pairs.one {H : Hp} {v : V} {b p : Int} (h : PairAt H v b p) : Pairs H [v] := fun u hu => by
  cases List.mem_singleton.mp hu
  exact ⟨b, p, h⟩
/-- pairs drawn one by one: n at the start, k draws a pair -/
structure Drawn (H H' : Hp) (d c D : Addr) (n i : Nat) : Prop where
  but : But d H H'
  deck : Deck H' d c (n + 3 * i)
  list : ∃ acc, H' D = some (.lst acc) ∧ acc.length = i ∧ Pairs H' acc
theorem Drawn.next {H H1 H2 : Hp} {d c D p : Addr} {n i : Nat} {b pw : Int} (h : Drawn H H1 d c D n i) (hD : H D = none) (hd : D ≠ d) (hc : D ≠ c) (b1 : But d H1 H2) (D2 : Deck H2 d c (n + 3 * i + 3)) (e : H2 p = some (.tup [.int b, .int pw])) (ok : OkPair b pw) :
    ∃ acc, H2 D = some (.lst acc) ∧ acc.length = i ∧ Drawn H (L2.upd H2 D (.lst (acc ++ [.ref p]))) d c D n (i + 1) := by
  obtain ⟨acc, e1, e2, e3⟩ := h.list
  have e4 : H2 D = some (.lst acc) := b1 _ _ hd e1
  refine ⟨acc, e4, e2, (h.but.trans b1).own hD, D2.off hd hc, acc ++ [.ref p], upd_same, by rw [List.length_append, e2]; rfl, ?_⟩
  refine Pairs.app ?_ (Pairs.one (PairAt.upd ⟨p, rfl, e, ok⟩ e4))
  exact e3.mono fun v b p q => (q.but h.deck b1).upd e4
end Fx

namespace Fx
open PySem PySem.Spec PyProof.Rows L2
/-- the least length from which on numbers go down, w the worth of the greatest figure -/
structure IsLen (b w : Int) (L : Nat) : Prop where
  two : 2 ≤ L
  less : (L : Int) * w < b ^ (L - 1)
  least : ∀ k : Nat, 2 ≤ k → k < L → b ^ (k - 1) ≤ (k : Int) * w
theorem IsLen.uniq {b w : Int} {L M : Nat} (h : IsLen b w L) (g : IsLen b w M) : L = M := by
  rcases Nat.lt_trichotomy L M with l | l | l
  · have := g.least L h.two l
    have := h.less
    omega
  · exact l
  · have := h.least M g.two l
    have := g.less
    omega
theorem pow_mono {a b : Int} (h0 : 0 ≤ a) (h : a ≤ b) : ∀ n : Nat, a ^ n ≤ b ^ n
  | 0 => by rw [Int.pow_zero, Int.pow_zero]; exact Int.le_refl _
  | n + 1 => by
    rw [Int.pow_succ, Int.pow_succ]
    have i := pow_mono h0 h n
    have p : 0 ≤ a ^ n := Int.pow_nonneg h0
    exact Int.le_trans (Int.mul_le_mul_of_nonneg_right i h0) (Int.mul_le_mul_of_nonneg_left h (Int.le_trans p i))
theorem pow_pos {a : Int} (h : 0 < a) (n : Nat) : 0 < a ^ n := Int.pow_pos h
/-- at fifteen figures all is shown -/
theorem len15 {b w : Int} (h : 2 ≤ b) (hw : w ≤ 1024) : (15 : Int) * w < b ^ 14 := by
  have i := pow_mono (a := 2) (b := b) (by decide) h 14
  have e : (2 : Int) ^ 14 = 16384 := by decide
  omega
theorem len_step {b w : Int} {L : Nat} (h : ∀ k : Nat, 2 ≤ k → k < L → b ^ (k - 1) ≤ (k : Int) * w) (t : b ^ (L - 1) ≤ (L : Int) * w) : ∀ k : Nat, 2 ≤ k → k < L + 1 → b ^ (k - 1) ≤ (k : Int) * w := fun k h2 hk => by
  by_cases e : k = L
  · rw [e]
    exact t
  · exact h k h2 (by omega)
theorem len_lt {b w : Int} {L : Nat} (h : 2 ≤ b) (hw : w ≤ 1024) (l : L ≤ 15) (t : b ^ (L - 1) ≤ (L : Int) * w) : L < 15 := by
  by_cases e : L = 15
  · subst e
    have := len15 h hw
    have t' : b ^ 14 ≤ ((15 : Nat) : Int) * w := t
    omega
  · omega
/-- there is one -/
theorem len_ex {b w : Int} (h : 2 ≤ b) (hw : w ≤ 1024) : ∃ L : Nat, IsLen b w L ∧ L ≤ 15 := by
  have go : ∀ k L : Nat, 15 - L = k → 2 ≤ L → L ≤ 15 → (∀ j : Nat, 2 ≤ j → j < L → b ^ (j - 1) ≤ (j : Int) * w) → ∃ L : Nat, IsLen b w L ∧ L ≤ 15 := by
    intro k
    induction k with
    | zero =>
      intro L e l2 l15 ih
      refine ⟨L, ⟨l2, ?_, ih⟩, l15⟩
      obtain rfl : L = 15 := by omega
      exact len15 h hw
    | succ k ihk =>
      intro L e l2 l15 ih
      by_cases t : b ^ (L - 1) ≤ (L : Int) * w
      · exact ihk (L + 1) (by omega) (by omega) (by omega) (len_step ih t)
      · exact ⟨L, ⟨l2, by omega, ih⟩, l15⟩
  exact go 13 2 rfl (by decide) (by decide) fun j _ _ => by omega
end Fx

namespace Fx
/-! ### a step by its last figure, by parts -/
theorem zero_pow' {p : Nat} (h : 1 ≤ p) : 0 ^ p = 0 := Nat.zero_pow (by omega)
theorem stepN_lt_base {b p n : Nat} (h : n < b) : stepN b p n = n ^ p := by
  unfold stepN figs
  rw [lsd_lt h]
  show n ^ p + 0 = _
  omega
theorem stepN_zero {b p : Nat} (hb : 2 ≤ b) (hp : 1 ≤ p) : stepN b p 0 = 0 := by
  rw [stepN_lt_base (by omega), zero_pow' hp]
theorem sum_rev : ∀ l : List Nat, l.reverse.sum = l.sum
  | [] => rfl
  | a :: r => by
    rw [List.reverse_cons, List.sum_append, sum_rev r, List.sum_cons, List.sum_cons, List.sum_nil]
    omega
theorem stepN_lsd (b p n : Nat) : stepN b p n = ((lsd b n).map (· ^ p)).sum := by
  unfold stepN figs
  rw [List.map_reverse, sum_rev]
theorem stepN_rec {b p : Nat} (hb : 2 ≤ b) (hp : 1 ≤ p) (n : Nat) : stepN b p n = stepN b p (n / b) + (n % b) ^ p := by
  by_cases h : b ≤ n
  · rw [stepN_lsd, stepN_lsd, lsd_ge hb h, List.map_cons, List.sum_cons]
    omega
  · rw [stepN_lt_base (by omega), Nat.div_eq_of_lt (by omega), stepN_zero hb hp, Nat.mod_eq_of_lt (by omega)]
    omega
theorem stepN_push {b p x f : Nat} (hb : 2 ≤ b) (hp : 1 ≤ p) (hf : f < b) : stepN b p (x * b + f) = stepN b p x + f ^ p := by
  have e1 : (x * b + f) / b = x := by
    rw [Nat.mul_comm, Nat.mul_add_div (by omega), Nat.div_eq_of_lt hf]
    omega
  have e2 : (x * b + f) % b = f := by
    rw [Nat.mul_comm, Nat.mul_add_mod, Nat.mod_eq_of_lt hf]
  rw [stepN_rec hb hp, e1, e2]
theorem step_split {b p : Nat} (hb : 2 ≤ b) (hp : 1 ≤ p) : ∀ (k y r : Nat), r < b ^ k → stepN b p (y * b ^ k + r) = stepN b p y + stepN b p r
  | 0, y, r, h => by
    rw [Nat.pow_zero] at h
    have : r = 0 := by omega
    subst this
    rw [Nat.pow_zero, Nat.mul_one, stepN_zero hb hp]
    rfl
  | k + 1, y, r, h => by
    have e0 : y * b ^ (k + 1) + r = (y * b ^ k + r / b) * b + r % b := by
      have ep : b ^ k * b = b ^ (k + 1) := by rw [Nat.pow_succ]
      rw [Nat.add_mul, Nat.mul_assoc, ep]
      have := Nat.div_add_mod r b
      rw [Nat.mul_comm] at this
      omega
    have h1 : r / b < b ^ k := by
      rw [Nat.div_lt_iff_lt_mul (by omega), ← Nat.pow_succ]
      exact h
    rw [e0, stepN_push hb hp (Nat.mod_lt _ (by omega)), step_split hb hp k y (r / b) h1, stepN_rec hb hp r]
    omega
/-! ### lengths -/
theorem len_pow {b : Nat} (hb : 2 ≤ b) : ∀ n : Nat, 0 < n → b ^ ((figs b n).length - 1) ≤ n := fun n => by
  induction n using Nat.strongRecOn with
  | ind n ih =>
    intro h0
    by_cases h : b ≤ n
    · have i := ih (n / b) (Nat.div_lt_self (by omega) (by omega)) (Nat.div_pos h (by omega))
      rw [figs_len] at i ⊢
      rw [lsd_ge hb h, List.length_cons]
      have l0 : 0 < (lsd b (n / b)).length := List.length_pos_iff.mpr lsd_ne
      have e : (lsd b (n / b)).length + 1 - 1 = (lsd b (n / b)).length - 1 + 1 := by omega
      rw [e, Nat.pow_succ]
      have := Nat.mul_le_mul_right b i
      have := Nat.div_mul_le_self n b
      omega
    · rw [figs_len, lsd_lt (by omega)]
      exact h0
theorem len_gt {b n k : Nat} (hb : 2 ≤ b) (h : b ^ k ≤ n) : k < (figs b n).length := by
  refine Nat.lt_of_not_le fun z => ?_
  rw [figs_len] at z
  have up : ∀ m : Nat, n < b ^ (lsd b m).length ∨ m ≠ n := fun m => by
    by_cases e : m = n
    · subst e
      have go : ∀ m : Nat, m < b ^ (lsd b m).length := fun m => by
        induction m using Nat.strongRecOn with
        | ind m ih =>
          by_cases g : b ≤ m
          · rw [lsd_ge hb g, List.length_cons, Nat.pow_succ]
            have i := ih (m / b) (Nat.div_lt_self (by omega) (by omega))
            have := Nat.div_add_mod m b
            have := Nat.mod_lt m (show 0 < b by omega)
            have := Nat.mul_le_mul_right b (show m / b + 1 ≤ b ^ (lsd b (m / b)).length from i)
            rw [Nat.succ_mul, Nat.mul_comm (m / b) b] at this
            omega
          · rw [lsd_lt (by omega)]
            show m < b ^ 1
            rw [Nat.pow_one]
            omega
      exact .inl (go m)
    · exact .inr e
  rcases up n with u | u
  · have := Nat.pow_le_pow_right (show 0 < b by omega) z
    omega
  · exact u rfl
/-! ### what goes down -/
/-- the worth of the greatest figure -/
theorem worth_nat (b p : Nat) (hb : 1 ≤ b) : worth (b : Int) (p : Int) = (((b - 1) ^ p : Nat) : Int) := by
  unfold worth
  have e : (b : Int) - 1 = ((b - 1 : Nat) : Int) := by omega
  rw [e, Int.toNat_natCast, Int.natCast_pow]
theorem len_moreN {b w L : Nat} (h1 : L * w < b ^ (L - 1)) (hL : 2 ≤ L) (h2 : 2 ≤ b) : ∀ k : Nat, (L + k) * w < b ^ (L + k - 1)
  | 0 => h1
  | k + 1 => by
    have i := len_moreN h1 hL h2 k
    have e : b ^ (L + (k + 1) - 1) = b ^ (L + k - 1) * b := by
      rw [← Nat.pow_succ]
      congr 1
      omega
    have a1 : (L + (k + 1)) * w = (L + k) * w + w := by
      rw [← Nat.add_assoc, Nat.succ_mul]
    have a2 : w ≤ (L + k) * w := Nat.le_mul_of_pos_left w (by omega)
    have a3 : b ^ (L + k - 1) * 2 ≤ b ^ (L + k - 1) * b := Nat.mul_le_mul_left _ h2
    omega
theorem IsLen.nat {b p L : Nat} (hb : 2 ≤ b) (h : IsLen (b : Int) (worth (b : Int) (p : Int)) L) : L * (b - 1) ^ p < b ^ (L - 1) := by
  have := h.less
  rw [worth_nat b p (by omega), ← Int.natCast_mul, ← Int.natCast_pow] at this
  exact Int.ofNat_lt.mp this
theorem goes_down {b p L n : Nat} (hb : 2 ≤ b) (h : IsLen (b : Int) (worth (b : Int) (p : Int)) L) (hn : b ^ (L - 1) ≤ n) : stepN b p n < n := by
  have h1 := h.nat hb
  have l := len_gt hb hn
  have le := stepN_le (p := p) (n := n) hb
  have m := len_moreN h1 h.two hb ((figs b n).length - L)
  have h2 := h.two
  rw [show L + ((figs b n).length - L) = (figs b n).length by omega] at m
  have n0 : 0 < n := Nat.lt_of_lt_of_le (Nat.pow_pos (by omega)) hn
  have := len_pow hb n n0
  omega
/-- the greatest number whose step is no less -/
structure IsKept (b p G : Nat) : Prop where
  kept : G ≤ stepN b p G
  down : ∀ n, G < n → stepN b p n < n
theorem IsKept.uniq {b p G H : Nat} (h : IsKept b p G) (g : IsKept b p H) : G = H := by
  rcases Nat.lt_trichotomy G H with l | l | l
  · have := h.down H l
    have := g.kept
    omega
  · exact l
  · have := g.down G l
    have := h.kept
    omega
/-! ### place by place -/
def gain (b p j f : Nat) : Int := ((f ^ p : Nat) : Int) - (f : Int) * ((b ^ j : Nat) : Int)
def gainRow (b p j : Nat) : List Int := (List.range b).map (gain b p j)
theorem gainRow_len (b p j : Nat) : (gainRow b p j).length = b := by
  unfold gainRow
  rw [List.length_map, List.length_range]
theorem gainRow_get {b p j f : Nat} (h : f < b) : (gainRow b p j)[f]? = some (gain b p j f) := by
  unfold gainRow
  rw [List.getElem?_map, List.getElem?_range h]
  rfl
def rowMax (b p j : Nat) : Int := (gainRow b p j).max?.getD 0
theorem rowMax_spec {b p j : Nat} (hb : 2 ≤ b) : rowMax b p j ∈ gainRow b p j ∧ ∀ y ∈ gainRow b p j, y ≤ rowMax b p j := by
  unfold rowMax
  cases e : (gainRow b p j).max? with
  | none =>
    rw [List.max?_eq_none_iff] at e
    have := gainRow_len b p j
    rw [e] at this
    have e0 : (0 : Nat) = b := this
    omega
  | some m =>
    exact (List.max?_eq_some_iff).mp e
theorem rowMax_uniq {b p j : Nat} {m : Int} (hb : 2 ≤ b) (h1 : m ∈ gainRow b p j) (h2 : ∀ y ∈ gainRow b p j, y ≤ m) : m = rowMax b p j := by
  have s := rowMax_spec (p := p) (j := j) hb
  have := h2 _ s.1
  have := s.2 _ h1
  omega
theorem gain_le {b p j f : Nat} (hb : 2 ≤ b) (h : f < b) : gain b p j f ≤ rowMax b p j := (rowMax_spec hb).2 _ (List.mem_of_getElem? (gainRow_get h))
def restMax (b p : Nat) : Nat → Int
  | 0 => 0
  | k + 1 => restMax b p k + rowMax b p k
/-- what a number's step has beyond it, its figures at k places behind -/
def over (b p x k : Nat) : Int := (stepN b p x : Int) - (x : Int) * ((b ^ k : Nat) : Int)
theorem over_push {b p x k f : Nat} (hb : 2 ≤ b) (hp : 1 ≤ p) (hf : f < b) : over b p (x * b + f) k = over b p x (k + 1) + gain b p k f := by
  unfold over gain
  rw [stepN_push hb hp hf, Nat.pow_succ]
  simp only [Int.natCast_add, Int.natCast_mul, Int.add_mul, Int.mul_assoc, Int.mul_comm, Int.mul_left_comm]
  omega
theorem over_split {b p k y r : Nat} (hb : 2 ≤ b) (hp : 1 ≤ p) (h : r < b ^ k) : over b p (y * b ^ k + r) 0 = over b p y k + over b p r 0 := by
  unfold over
  rw [step_split hb hp k y r h]
  simp only [Int.natCast_add, Int.natCast_mul, Nat.pow_zero]
  omega
theorem rest_bound {b p : Nat} (hb : 2 ≤ b) (hp : 1 ≤ p) : ∀ k r : Nat, r < b ^ k → over b p r 0 ≤ restMax b p k
  | 0, r, h => by
    rw [Nat.pow_zero] at h
    obtain rfl : r = 0 := by omega
    unfold over restMax
    rw [stepN_zero hb hp]
    simp
  | k + 1, r, h => by
    have e : r / b ^ k < b := by
      rw [Nat.div_lt_iff_lt_mul (Nat.pow_pos (by omega)), Nat.mul_comm, ← Nat.pow_succ]
      exact h
    have e0 : r = r / b ^ k * b ^ k + r % b ^ k := by
      have := Nat.div_add_mod r (b ^ k)
      rw [Nat.mul_comm] at this
      omega
    have lt := Nat.mod_lt r (show 0 < b ^ k from Nat.pow_pos (by omega))
    have i := rest_bound hb hp k (r % b ^ k) lt
    have g := gain_le (p := p) (j := k) hb e
    have z : over b p (r / b ^ k) k = gain b p k (r / b ^ k) := by
      unfold over gain
      rw [stepN_lt_base e]
    rw [e0, over_split hb hp lt, z]
    show _ ≤ restMax b p k + rowMax b p k
    omega
/-- the greatest figures one by one: m places to come, x so far, what is to spare -/
structure Greedy (b p M m x : Nat) (spare : Int) : Prop where
  is : spare = over b p x m + restMax b p m
  pos : 0 ≤ spare
  most : ∀ n, n < b ^ M → n ≤ stepN b p n → n / b ^ m ≤ x
theorem restMax_pos {b p : Nat} (hb : 2 ≤ b) (hp : 1 ≤ p) (k : Nat) : 0 ≤ restMax b p k := by
  have := rest_bound hb hp k 0 (Nat.pow_pos (by omega))
  unfold over at this
  rw [stepN_zero hb hp] at this
  simp at this
  exact this
theorem Greedy.start {b p : Nat} (hb : 2 ≤ b) (hp : 1 ≤ p) (M : Nat) : Greedy b p M M 0 (restMax b p M) := by
  refine ⟨?_, restMax_pos hb hp M, fun n h _ => ?_⟩
  · unfold over
    rw [stepN_zero hb hp]
    simp
  · rw [Nat.div_eq_of_lt h]
    exact Nat.le_refl 0
theorem Greedy.next {b p M m x f : Nat} {spare : Int} (hb : 2 ≤ b) (hp : 1 ≤ p) (g : Greedy b p M (m + 1) x spare) (hf : f < b) (h1 : rowMax b p m - spare ≤ gain b p m f)
    (h2 : ∀ e, e < b → rowMax b p m - spare ≤ gain b p m e → e ≤ f) : Greedy b p M m (x * b + f) (spare - rowMax b p m + gain b p m f) := by
  have gi := g.is
  refine ⟨?_, by omega, fun n hn hk => ?_⟩
  · rw [over_push hb hp hf]
    have : restMax b p (m + 1) = restMax b p m + rowMax b p m := rfl
    omega
  · have y1 := g.most n hn hk
    have ed : n / b ^ (m + 1) = n / b ^ m / b := by rw [Nat.pow_succ, Nat.div_div_eq_div_mul]
    rw [ed] at y1
    generalize hy : n / b ^ m = y at y1 ⊢
    have yy := Nat.div_add_mod y b
    have yl := Nat.mod_lt y (show 0 < b by omega)
    by_cases c : y / b = x
    · have e0 : n = y * b ^ m + n % b ^ m := by
        have := Nat.div_add_mod n (b ^ m)
        rw [hy, Nat.mul_comm] at this
        omega
      have lt := Nat.mod_lt n (show 0 < b ^ m from Nat.pow_pos (by omega))
      have r1 := rest_bound hb hp m (n % b ^ m) lt
      have o1 : 0 ≤ over b p n 0 := by
        unfold over
        simp only [Nat.pow_zero]
        omega
      rw [e0, over_split hb hp lt] at o1
      have ey : y = x * b + y % b := by
        rw [← c, Nat.mul_comm]
        exact yy.symm
      rw [ey, over_push hb hp yl] at o1
      have rm : restMax b p (m + 1) = restMax b p m + rowMax b p m := rfl
      have := h2 (y % b) yl (by omega)
      rw [ey]
      omega
    · have : y / b + 1 ≤ x := by omega
      have := Nat.mul_le_mul_right b this
      rw [Nat.succ_mul, Nat.mul_comm (y / b) b] at this
      omega
theorem Greedy.done {b p L x : Nat} {spare : Int} (hb : 2 ≤ b) (h : IsLen (b : Int) (worth (b : Int) (p : Int)) L) (g : Greedy b p (L - 1) 0 x spare) : IsKept b p x := by
  have gi := g.is
  have gp := g.pos
  refine ⟨?_, fun n hn => ?_⟩
  · have : restMax b p 0 = 0 := rfl
    unfold over at gi
    simp only [Nat.pow_zero] at gi
    omega
  · by_cases c : n < b ^ (L - 1)
    · refine Nat.lt_of_not_le fun z => ?_
      have := g.most n c z
      rw [Nat.pow_zero, Nat.div_one] at this
      omega
    · exact goes_down hb h (by omega)
/-- no number from here on but goes down -/
theorem down_from {b p M n : Nat} (hb : 2 ≤ b) (h : IsLen (b : Int) (worth (b : Int) (p : Int)) M) (hn : (M - 1) * (b - 1) ^ p < n) : stepN b p n < n := by
  by_cases c : b ^ (M - 1) ≤ n
  · exact goes_down hb h c
  · have l := len_pow hb n (by omega)
    have k : (figs b n).length - 1 < M - 1 := by
      refine Nat.lt_of_not_le fun z => ?_
      have := Nat.pow_le_pow_right (show 0 < b by omega) z
      omega
    have le := stepN_le (p := p) (n := n) hb
    have := Nat.mul_le_mul_right ((b - 1) ^ p) (show (figs b n).length ≤ M - 1 by omega)
    omega
/-- a step that can be reckoned -/
def stepF (b p : Nat) : Nat → Nat → Nat
  | 0, _ => 0
  | k + 1, n => stepF b p k (n / b) + (n % b) ^ p
theorem stepF_eq {b p : Nat} (hb : 2 ≤ b) (hp : 1 ≤ p) : ∀ k n : Nat, n < b ^ k → stepF b p k n = stepN b p n
  | 0, n, h => by
    rw [Nat.pow_zero] at h
    obtain rfl : n = 0 := by omega
    rw [stepN_zero hb hp]
    rfl
  | k + 1, n, h => by
    rw [stepN_rec hb hp n, ← stepF_eq hb hp k (n / b)]
    · rfl
    · rw [Nat.div_lt_iff_lt_mul (by omega), ← Nat.pow_succ]
      exact h
end Fx

namespace Fx
/-! ### rows come down -/
theorem figs_len_lt {b n k : Nat} (hb : 2 ≤ b) (hk : 1 ≤ k) (h : n < b ^ k) : (figs b n).length ≤ k := by
  by_cases h0 : n = 0
  · subst h0
    rw [figs_len, lsd_lt (by omega)]
    exact hk
  · have l := len_pow hb n (by omega)
    refine Nat.le_of_not_lt fun z => ?_
    have := Nat.pow_le_pow_right (show 0 < b by omega) (show k ≤ (figs b n).length - 1 by omega)
    omega
theorem step_le_len {b p n k : Nat} (hb : 2 ≤ b) (h : (figs b n).length ≤ k) : stepN b p n ≤ k * (b - 1) ^ p := Nat.le_trans (stepN_le hb) (Nat.mul_le_mul_right _ h)
theorem down_one {b p L n k : Nat} (hb : 2 ≤ b) (h : IsLen (b : Int) (worth (b : Int) (p : Int)) L) (hn : n ≤ max (L - 1) k * (b - 1) ^ p) : stepN b p n ≤ max (L - 1) (k - 1) * (b - 1) ^ p := by
  have h1 := h.nat hb
  have h2 := h.two
  by_cases c : k ≤ L - 1
  · have e : max (L - 1) k = L - 1 := by omega
    rw [e] at hn
    refine step_le_len hb (figs_len_lt hb (by omega) ?_)
    have : n < b ^ (L - 1) := by
      have := Nat.mul_le_mul_right ((b - 1) ^ p) (show L - 1 ≤ L by omega)
      omega
    exact Nat.lt_of_lt_of_le this (Nat.pow_le_pow_right (by omega) (by omega))
  · have e : max (L - 1) k = k := by omega
    rw [e] at hn
    have m := len_moreN h1 h2 hb (k - L)
    rw [show L + (k - L) = k by omega] at m
    exact step_le_len hb (figs_len_lt hb (by omega) (Nat.lt_of_lt_of_le (show n < b ^ (k - 1) by omega) (Nat.pow_le_pow_right (by omega) (by omega))))
theorem row_down {b p L n : Nat} (hb : 2 ≤ b) (h : IsLen (b : Int) (worth (b : Int) (p : Int)) L) (hw : (b - 1) ^ p ≤ 1024) (hn : n < 2 ^ 160) : ∀ i, itN b p n (i + 2) ≤ max (L - 1) (18 - i) * (b - 1) ^ p
  | 0 => by
    have f1 : (figs b n).length ≤ 160 := by
      rw [figs_len]
      exact lsd_len_le hb 159 n hn
    have s1 : itN b p n 1 ≤ 160 * (b - 1) ^ p := step_le_len hb f1
    have s2 : itN b p n 1 < 2 ^ 18 := by
      have := Nat.mul_le_mul_left 160 hw
      omega
    have f2 : (figs b (itN b p n 1)).length ≤ 18 := by
      rw [figs_len]
      exact lsd_len_le hb 17 _ s2
    show stepN b p (itN b p n 1) ≤ _
    exact Nat.le_trans (step_le_len hb f2) (Nat.mul_le_mul_right _ (by omega))
  | i + 1 => by
    have ih := row_down hb h hw hn i
    have := down_one hb h ih
    rw [show 18 - (i + 1) = 18 - i - 1 by omega]
    exact this
theorem row_late {b p L n i : Nat} (hb : 2 ≤ b) (h : IsLen (b : Int) (worth (b : Int) (p : Int)) L) (hw : (b - 1) ^ p ≤ 1024) (hn : n < 2 ^ 160) (hi : 20 ≤ i) : itN b p n i ≤ (L - 1) * (b - 1) ^ p := by
  have := row_down hb h hw hn (i - 2)
  rw [show i - 2 + 2 = i by omega, show max (L - 1) (18 - (i - 2)) = L - 1 by omega] at this
  exact this
theorem rowN_get (b p n : Nat) : ∀ m i, i < m → (rowN b p n m)[i]? = some (itN b p n i)
  | 0, _, h => by omega
  | m + 1, i, h => by
    rw [rowN]
    by_cases e : i = m
    · subst e
      rw [List.getElem?_append_right (by rw [rowN_len]; exact Nat.le_refl _), rowN_len, Nat.sub_self]
      rfl
    · rw [List.getElem?_append_left (by rw [rowN_len]; omega)]
      exact rowN_get b p n m i (by omega)
theorem kept_lt {b p L G : Nat} (hb : 2 ≤ b) (h : IsLen (b : Int) (worth (b : Int) (p : Int)) L) (g : IsKept b p G) : G < b ^ (L - 1) := by
  refine Nat.lt_of_not_le fun z => ?_
  have := goes_down hb h z
  have := g.kept
  omega
end Fx

namespace Fx
open PySem PySem.Spec PyProof.Rows L2
/-- a pair's numbers as naturals -/
theorem OkPair.nat {b p : Int} (h : OkPair b p) : ∃ b' p' : Nat, b = (b' : Int) ∧ p = (p' : Int) ∧ 2 ≤ b' ∧ b' ≤ 16 ∧ 1 ≤ p' ∧ p' ≤ 10 := by
  obtain ⟨h1, h2, h3, h4⟩ := id h
  have h5 := h.le10
  exact ⟨b.toNat, p.toNat, by omega, by omega, by omega, by omega, by omega, by omega⟩
/-- a number with a pair and how many are asked -/
def QuadAt (H : Hp) (v : V) : Prop := ∃ (a : Addr) (n b p m : Nat), v = .ref a ∧ H a = some (.tup [.int (n : Int), .int (b : Int), .int (p : Int), .int (m : Int)]) ∧ 2 ≤ b ∧ b ≤ 16 ∧ p ≤ 10 ∧ n < 16 ^ 40 ∧ m ≤ 60
theorem QuadAt.mono {H H' : Hp} {v : V} (h : QuadAt H v) (k : ∀ a xs, H a = some (.tup xs) → H' a = some (.tup xs)) : QuadAt H' v := by
  obtain ⟨a, n, b, p, m, e1, e2, r⟩ := h
  exact ⟨a, n, b, p, m, e1, k _ _ e2, r⟩
theorem lt900 {n : Nat} (h : n < 16 ^ 40) : n < 2 ^ 900 := Nat.lt_of_lt_of_le h (by
  have e : (16 : Nat) ^ 40 = 2 ^ 160 := by decide
  rw [e]
  exact Nat.pow_le_pow_right (by decide) (by decide))
end Fx

namespace Fx
/-! ### where numbers end -/
theorem nodup_len : ∀ (M : Nat) (l : List Nat), l.Nodup → (∀ x ∈ l, x < M) → l.length ≤ M
  | 0, l, _, h => by
    cases l with
    | nil => exact Nat.le_refl _
    | cons a r => exact absurd (h a (List.mem_cons_self ..)) (Nat.not_lt_zero _)
  | M + 1, l, nd, h => by
    have e := nodup_len M (l.erase M) (nd.erase M) fun x hx => by
      have hx' := (List.Nodup.mem_erase_iff nd).mp hx
      have := h x hx'.2
      omega
    rw [List.length_erase] at e
    split at e <;> omega
theorem itN_zero (b p n : Nat) : itN b p n 0 = n := rfl
theorem itN_succ (b p n k : Nat) : itN b p n (k + 1) = stepN b p (itN b p n k) := rfl
theorem itN_add (b p n j : Nat) : ∀ k, itN b p n (j + k) = itN b p (itN b p n j) k
  | 0 => rfl
  | k + 1 => by
    rw [← Nat.add_assoc, itN_succ, itN_succ, itN_add b p n j k]
theorem itN_first (b p n k : Nat) : itN b p n (k + 1) = itN b p (stepN b p n) k := by
  rw [Nat.add_comm, itN_add]
  rfl
/-- it stands in a round -/
def Per (b p x : Nat) : Prop := ∃ k, 0 < k ∧ itN b p x k = x
theorem Per.it {b p x : Nat} (h : Per b p x) (j : Nat) : Per b p (itN b p x j) := by
  obtain ⟨k, k0, e⟩ := h
  refine ⟨k, k0, ?_⟩
  rw [← itN_add, Nat.add_comm, itN_add, e]
theorem Per.mul {b p x k : Nat} (e : itN b p x k = x) : ∀ m, itN b p x (m * k) = x
  | 0 => by rw [Nat.zero_mul]; rfl
  | m + 1 => by rw [Nat.succ_mul, itN_add, Per.mul e m, e]
/-- from a number of a round on, each later one leads back -/
theorem Per.back {b p x : Nat} (h : Per b p x) (j : Nat) : ∃ i, itN b p (itN b p x j) i = x := by
  obtain ⟨k, k0, e⟩ := h
  refine ⟨j * k - j, ?_⟩
  have : j ≤ j * k := Nat.le_mul_of_pos_right j k0
  rw [← itN_add, show j + (j * k - j) = j * k by omega]
  exact Per.mul e j
/-- a steps away from the round of the least number m -/
structure EndAt (b p n a m : Nat) : Prop where
  per : Per b p (itN b p n a)
  first : ∀ j, j < a → ¬ Per b p (itN b p n j)
  on : ∃ i, a ≤ i ∧ itN b p n i = m
  least : ∀ i, a ≤ i → m ≤ itN b p n i
theorem EndAt.uniq {b p n a m a' m' : Nat} (h : EndAt b p n a m) (g : EndAt b p n a' m') : a = a' ∧ m = m' := by
  have ea : a = a' := by
    rcases Nat.lt_trichotomy a a' with l | l | l
    · exact absurd h.per (g.first a l)
    · exact l
    · exact absurd g.per (h.first a' l)
  subst ea
  obtain ⟨i, hi, rfl⟩ := h.on
  obtain ⟨j, hj, rfl⟩ := g.on
  exact ⟨rfl, Nat.le_antisymm (h.least j hj) (g.least i hi)⟩
/-- the first number that stands twice -/
theorem EndAt.of_row {b p n A L : Nat} (hA : A < L) (e : itN b p n L = itN b p n A) (nd : ∀ i j, i < L → j < L → itN b p n i = itN b p n j → i = j) {m : Nat}
    (on : ∃ i, A ≤ i ∧ i < L ∧ itN b p n i = m) (le : ∀ i, A ≤ i → i < L → m ≤ itN b p n i) : EndAt b p n A m := by
  have round : ∀ i, A ≤ i → ∃ j, A ≤ j ∧ j < L ∧ itN b p n i = itN b p n j := fun i => by
    induction i with
    | zero => intro h; exact ⟨0, h, by omega, rfl⟩
    | succ i ih =>
      intro h
      by_cases c : A ≤ i
      · obtain ⟨j, j1, j2, ej⟩ := ih c
        by_cases d : j + 1 < L
        · exact ⟨j + 1, by omega, d, by rw [itN_succ, itN_succ, ej]⟩
        · have : j + 1 = L := by omega
          refine ⟨A, Nat.le_refl _, hA, ?_⟩
          rw [itN_succ, ej, ← itN_succ, this, e]
      · have : i + 1 = A := by omega
        exact ⟨A, Nat.le_refl _, hA, by rw [this]⟩
  refine ⟨⟨L - A, by omega, ?_⟩, fun j hj => ?_, ?_, fun i hi => ?_⟩
  · rw [← itN_add, show A + (L - A) = L by omega, e]
  · rintro ⟨k, k0, ek⟩
    have z := Per.mul ek A
    rw [← itN_add] at z
    have : A ≤ A * k := Nat.le_mul_of_pos_right A k0
    obtain ⟨i, i1, i2, ei⟩ := round (j + A * k) (by omega)
    have := nd j i (by omega) i2 (by rw [← z, ei])
    omega
  · obtain ⟨i, i1, i2, ei⟩ := on
    exact ⟨i, i1, ei⟩
  · obtain ⟨j, j1, j2, ej⟩ := round i hi
    rw [ej]
    exact le j j1 j2
theorem EndAt.step {b p n a m : Nat} (h : EndAt b p n (a + 1) m) : EndAt b p (stepN b p n) a m := by
  refine ⟨by rw [← itN_first]; exact h.per, fun j hj => by rw [← itN_first]; exact h.first (j + 1) (by omega), ?_, fun i hi => by rw [← itN_first]; exact h.least (i + 1) (by omega)⟩
  obtain ⟨i, i1, i2⟩ := h.on
  obtain ⟨i', rfl⟩ : ∃ i', i = i' + 1 := ⟨i - 1, by omega⟩
  exact ⟨i', by omega, by rw [← itN_first]; exact i2⟩
theorem EndAt.succ {b p n a m : Nat} (h : EndAt b p (stepN b p n) a m) (np : ¬ Per b p n) : EndAt b p n (a + 1) m := by
  refine ⟨by rw [itN_first]; exact h.per, fun j hj => ?_, ?_, fun i hi => ?_⟩
  · cases j with
    | zero => exact np
    | succ j => rw [itN_first]; exact h.first j (by omega)
  · obtain ⟨i, i1, i2⟩ := h.on
    exact ⟨i + 1, by omega, by rw [itN_first]; exact i2⟩
  · obtain ⟨i', rfl⟩ : ∃ i', i = i' + 1 := ⟨i - 1, by omega⟩
    rw [itN_first]
    exact h.least i' (by omega)
/-- in the round: each number of it ends in it, away no step -/
theorem EndAt.round {b p n m : Nat} (h : EndAt b p n 0 m) (j : Nat) : EndAt b p (itN b p n j) 0 m := by
  refine ⟨h.per.it j, fun i hi => by omega, ?_, fun i _ => ?_⟩
  · obtain ⟨i, _, e⟩ := h.on
    obtain ⟨k, ek⟩ := h.per.back j
    have ek' : itN b p (itN b p n j) k = n := ek
    exact ⟨k + i, Nat.zero_le _, by rw [itN_add, ek']; exact e⟩
  · rw [← itN_add]
    exact h.least _ (Nat.zero_le _)
theorem EndAt.later {b p n a m : Nat} (h : EndAt b p n a m) : ∀ j, EndAt b p (itN b p n j) (a - j) m
  | 0 => h
  | j + 1 => by
    have i := EndAt.later h j
    rw [itN_succ]
    by_cases c : a - j = 0
    · rw [c] at i
      have := i.round 1
      rw [show a - (j + 1) = 0 by omega]
      exact this
    · rw [show a - j = (a - (j + 1)) + 1 by omega] at i
      exact i.step
theorem EndAt.self {b p n a m : Nat} (h : EndAt b p n a m) : EndAt b p m 0 m := by
  obtain ⟨i, hi, e⟩ := h.on
  have := h.later i
  rw [e, show a - i = 0 by omega] at this
  exact this
/-- the least number is that of the step -/
theorem EndAt.least_step {b p n a m a' m' : Nat} (h : EndAt b p n a m) (g : EndAt b p (stepN b p n) a' m') : m = m' ∧ a' = a - 1 := by
  have := h.later 1
  have := this.uniq g
  exact ⟨this.2, this.1.symm⟩
theorem per_iff {b p n a m : Nat} (h : EndAt b p n a m) : Per b p n ↔ a = 0 := by
  constructor
  · intro z
    refine Nat.le_antisymm (Nat.le_of_not_lt fun c => h.first 0 c z) (Nat.zero_le _)
  · rintro rfl
    exact h.per
/-! ### each number ends -/
/-- a number beyond which no row goes far -/
structure Near (b p n : Nat) : Prop where
  hb : 2 ≤ b
  lt : ∀ i, 20 ≤ i → itN b p n i ≤ 15000
theorem Near.rep {b p n : Nat} (h : Near b p n) {L : Nat} (nd : ∀ i j, i < L → j < L → itN b p n i = itN b p n j → i = j) : L ≤ 15030 := by
  refine Nat.le_of_not_lt fun z => ?_
  have l := nodup_len 15001 ((List.range (L - 20)).map fun i => itN b p n (20 + i)) ?_ ?_
  · rw [List.length_map, List.length_range] at l
    omega
  · refine List.pairwise_map.mpr (List.Pairwise.imp_of_mem ?_ (List.nodup_range (n := L - 20)))
    intro x y hx hy ne e
    have := List.mem_range.mp hx
    have := List.mem_range.mp hy
    have := nd _ _ (by omega) (by omega) e
    omega
  · intro x hx
    obtain ⟨i, hi, rfl⟩ := List.mem_map.mp hx
    have := h.lt (20 + i) (by omega)
    omega
theorem exists_end {b p n : Nat} (h : Near b p n) : ∃ a m, EndAt b p n a m := by
  -- the first number that stood ahead
  have go : ∀ k L : Nat, 15031 - L = k → (∀ i j, i < L → j < L → itN b p n i = itN b p n j → i = j) → ∃ A L, A < L ∧ itN b p n L = itN b p n A ∧ ∀ i j, i < L → j < L → itN b p n i = itN b p n j → i = j := by
    intro k
    induction k with
    | zero =>
      intro L hL nd
      have := h.rep nd
      omega
    | succ k ih =>
      intro L hL nd
      by_cases c : ∃ A, A < L ∧ itN b p n L = itN b p n A
      · obtain ⟨A, a1, a2⟩ := c
        exact ⟨A, L, a1, a2, nd⟩
      · refine ih (L + 1) (by omega) fun i j hi hj e => ?_
        by_cases ci : i = L
        · by_cases cj : j = L
          · omega
          · subst ci
            exact absurd ⟨j, by omega, e⟩ c
        · by_cases cj : j = L
          · subst cj
            exact absurd ⟨i, by omega, e.symm⟩ c
          · exact nd i j (by omega) (by omega) e
  obtain ⟨A, L, hA, e, nd⟩ := go _ 0 rfl fun i j hi => by omega
  -- the least one of these
  have mn : ∀ k, A + k < L → ∃ m, (∃ i, A ≤ i ∧ i ≤ A + k ∧ itN b p n i = m) ∧ ∀ i, A ≤ i → i ≤ A + k → m ≤ itN b p n i := by
    intro k
    induction k with
    | zero =>
      intro _
      exact ⟨_, ⟨A, Nat.le_refl _, by omega, rfl⟩, fun i h1 h2 => by
        have : i = A := by omega
        subst this
        exact Nat.le_refl _⟩
    | succ k ih =>
      intro hk
      obtain ⟨m, ⟨i, i1, i2, i3⟩, lm⟩ := ih (by omega)
      by_cases c : itN b p n (A + (k + 1)) < m
      · refine ⟨_, ⟨A + (k + 1), by omega, Nat.le_refl _, rfl⟩, fun j h1 h2 => ?_⟩
        by_cases d : j = A + (k + 1)
        · subst d
          exact Nat.le_refl _
        · have := lm j h1 (by omega)
          omega
      · refine ⟨m, ⟨i, i1, by omega, i3⟩, fun j h1 h2 => ?_⟩
        by_cases d : j = A + (k + 1)
        · subst d
          omega
        · exact lm j h1 (by omega)
  obtain ⟨m, ⟨i, i1, i2, i3⟩, lm⟩ := mn (L - 1 - A) (by omega)
  exact ⟨A, m, .of_row hA e nd ⟨i, i1, by omega, i3⟩ fun j j1 j2 => lm j j1 (by omega)⟩
/-! ### pairs -/
structure OkN (b p : Nat) : Prop where
  ok : OkPair (b : Int) (p : Int)
theorem OkN.hb {b p : Nat} (h : OkN b p) : 2 ≤ b := by have := h.ok.1; omega
theorem OkN.hb16 {b p : Nat} (h : OkN b p) : b ≤ 16 := by have := h.ok.2.1; omega
theorem OkN.hp1 {b p : Nat} (h : OkN b p) : 1 ≤ p := by have := h.ok.2.2.1; omega
theorem OkN.hp {b p : Nat} (h : OkN b p) : p ≤ 10 := by have := h.ok.le10; omega
theorem OkN.worth {b p : Nat} (h : OkN b p) : 1 ≤ (b - 1) ^ p ∧ (b - 1) ^ p ≤ 1024 := by
  have h1 := h.ok.worth
  have h2 := h.hb
  rw [worth_nat b p (by omega)] at h1
  omega
theorem row_down2 {b p L n : Nat} (hb : 2 ≤ b) (h : IsLen (b : Int) (Fx.worth (b : Int) (p : Int)) L) (hw : (b - 1) ^ p ≤ 1024) (hn : n < 2 ^ 200) : ∀ i, itN b p n (i + 2) ≤ max (L - 1) (18 - i) * (b - 1) ^ p
  | 0 => by
    have f1 : (figs b n).length ≤ 200 := by
      rw [figs_len]
      exact lsd_len_le hb 199 n hn
    have s1 : itN b p n 1 ≤ 200 * (b - 1) ^ p := step_le_len hb f1
    have s2 : itN b p n 1 < 2 ^ 18 := by
      have := Nat.mul_le_mul_left 200 hw
      omega
    have f2 : (figs b (itN b p n 1)).length ≤ 18 := by
      rw [figs_len]
      exact lsd_len_le hb 17 _ s2
    show stepN b p (itN b p n 1) ≤ _
    exact Nat.le_trans (step_le_len hb f2) (Nat.mul_le_mul_right _ (by omega))
  | i + 1 => by
    have ih := row_down2 hb h hw hn i
    have := down_one hb h ih
    rw [show 18 - (i + 1) = 18 - i - 1 by omega]
    exact this
theorem near_of {b p n : Nat} (h : OkN b p) (hn : n < 2 ^ 200) : Near b p n := by
  have hw := h.worth
  obtain ⟨L, hL, l15⟩ := len_ex h.ok.1 (show Fx.worth (b : Int) (p : Int) ≤ 1024 by have := h.ok.worth; omega)
  refine ⟨h.hb, fun i hi => ?_⟩
  have := row_down2 h.hb hL hw.2 hn (i - 2)
  rw [show i - 2 + 2 = i by omega, show max (L - 1) (18 - (i - 2)) = L - 1 by omega] at this
  have := Nat.mul_le_mul (show L - 1 ≤ 14 by omega) hw.2
  omega
theorem lt200 {n : Nat} (h : n < 2 ^ 200) : n < 2 ^ 900 := Nat.lt_of_lt_of_le h (Nat.pow_le_pow_right (by decide) (by decide))
theorem itN_lt200 {b p n : Nat} (h : OkN b p) (hn : n < 2 ^ 200) : ∀ k, itN b p n k < 2 ^ 200
  | 0 => hn
  | k + 1 => by
    have := stepN_lt h.hb h.hb16 h.hp (lt200 (itN_lt200 h hn k))
    have e : itN b p n (k + 1) = stepN b p (itN b p n k) := rfl
    have u : (2 : Nat) ^ 50 ≤ 2 ^ 200 := Nat.pow_le_pow_right (by decide) (by decide)
    omega
/-- a way to the first number that stood ahead -/
structure Way (b p n A L : Nat) : Prop where
  lt : A < L
  back : itN b p n L = itN b p n A
  nd : ∀ i j, i < L → j < L → itN b p n i = itN b p n j → i = j
/-- a round from its least number on -/
structure Rnd (b p m k : Nat) : Prop where
  pos : 0 < k
  back : itN b p m k = m
  nd : ∀ i j, i < k → j < k → itN b p m i = itN b p m j → i = j
  least : ∀ i, m ≤ itN b p m i
theorem Way.end_of {b p n A L m : Nat} (w : Way b p n A L) (on : ∃ i, A ≤ i ∧ i < L ∧ itN b p n i = m) (le : ∀ i, A ≤ i → i < L → m ≤ itN b p n i) : EndAt b p n A m := .of_row w.lt w.back w.nd on le
theorem Way.turn {b p n A L : Nat} (w : Way b p n A L) (i : Nat) : itN b p n (L + i) = itN b p n (A + i) := by
  rw [itN_add, w.back, ← itN_add]
theorem Way.rnd {b p n A L i : Nat} (w : Way b p n A L) (h1 : A ≤ i) (h2 : i < L) (le : ∀ j, A ≤ j → j < L → itN b p n i ≤ itN b p n j) : Rnd b p (itN b p n i) (L - A) := by
  have e := w.end_of ⟨i, h1, h2, rfl⟩ le
  have lt := w.lt
  refine ⟨by omega, ?_, fun x y hx hy exy => ?_, fun j => ?_⟩
  · rw [← itN_add, show i + (L - A) = L + (i - A) by omega, w.turn, show A + (i - A) = i by omega]
  · rw [← itN_add, ← itN_add] at exy
    by_cases cx : i + x < L
    · by_cases cy : i + y < L
      · have := w.nd _ _ cx cy exy
        omega
      · rw [show i + y = L + (i + y - L) by omega, w.turn] at exy
        have := w.nd _ _ cx (by omega) exy
        omega
    · rw [show i + x = L + (i + x - L) by omega, w.turn] at exy
      by_cases cy : i + y < L
      · have := w.nd _ _ (by omega) cy exy
        omega
      · rw [show i + y = L + (i + y - L) by omega, w.turn] at exy
        have := w.nd _ _ (by omega) (by omega) exy
        omega
  · rw [← itN_add]
    exact e.least _ (by omega)
theorem Rnd.at0 {b p m k : Nat} (h : Rnd b p m k) : EndAt b p m 0 m := ⟨⟨k, h.pos, h.back⟩, fun j hj => by omega, ⟨0, Nat.le_refl _, rfl⟩, fun i _ => h.least i⟩
theorem Rnd.uniq {b p m k l : Nat} (h : Rnd b p m k) (g : Rnd b p m l) : k = l := by
  rcases Nat.lt_trichotomy k l with c | c | c
  · have := g.nd k 0 c g.pos (by rw [h.back]; rfl)
    have := h.pos
    omega
  · exact c
  · have := h.nd l 0 c h.pos (by rw [g.back]; rfl)
    have := g.pos
    omega
theorem Rnd.le {b p m k : Nat} (h : Rnd b p m k) (nr : Near b p m) : k ≤ 15030 := nr.rep h.nd
theorem rowN_eq (b p n : Nat) : ∀ m, rowN b p n m = (List.range m).map (itN b p n)
  | 0 => rfl
  | m + 1 => by
    rw [rowN, rowN_eq b p n m, List.range_succ, List.map_append]
    rfl
theorem rowN_drop {b p n A L : Nat} : (rowN b p n L).drop A = rowN b p (itN b p n A) (L - A) := by
  rw [rowN_eq, rowN_eq]
  refine List.ext_getElem? fun i => ?_
  rw [List.getElem?_drop, List.getElem?_map, List.getElem?_map]
  by_cases c : A + i < L
  · rw [List.getElem?_range c, List.getElem?_range (by omega)]
    show some (itN b p n (A + i)) = some (itN b p (itN b p n A) i)
    rw [itN_add]
  · rw [List.getElem?_eq_none (by rw [List.length_range]; omega), List.getElem?_eq_none (by rw [List.length_range]; omega)]
    rfl
theorem rowN_take {b p n i : Nat} {L : Nat} (h : i ≤ L) : (rowN b p n L).take i = rowN b p n i := by
  rw [rowN_eq, rowN_eq, ← List.map_take, List.take_range]
  rw [Nat.min_eq_left h]
theorem rowN_app {b p n i j : Nat} : rowN b p n i ++ rowN b p (itN b p n i) j = rowN b p n (i + j) := by
  rw [← rowN_take (L := i + j) (i := i) (by omega), show rowN b p (itN b p n i) j = (rowN b p n (i + j)).drop i by rw [rowN_drop]; congr 1; omega, List.take_append_drop]
theorem mem_rowN {b p n L x : Nat} : x ∈ rowN b p n L ↔ ∃ i, i < L ∧ itN b p n i = x := by
  rw [rowN_eq, List.mem_map]
  exact ⟨fun ⟨i, h, e⟩ => ⟨i, List.mem_range.mp h, e⟩, fun ⟨i, h, e⟩ => ⟨i, List.mem_range.mpr h, e⟩⟩
/-- from another number of a round on, gone round: the whole round -/
theorem Way.rot {b p n A L i : Nat} (w : Way b p n A L) (h1 : A ≤ i) (h2 : i < L) : ((rowN b p n L).drop A).drop (i - A) ++ ((rowN b p n L).drop A).take (i - A) = rowN b p (itN b p n i) (L - A) := by
  have lt := w.lt
  rw [rowN_drop, rowN_drop, rowN_take (by omega), ← itN_add, show A + (i - A) = i by omega]
  have e : itN b p n A = itN b p (itN b p n i) (L - A - (i - A)) := by
    rw [← itN_add, show i + (L - A - (i - A)) = L by omega, w.back]
  rw [e, rowN_app, show L - A - (i - A) + (i - A) = L - A by omega]
end Fx
namespace Fx
theorem itN_lt160 {b p n : Nat} (h : OkN b p) (hn : n < 16 ^ 40) : ∀ k, itN b p n k < 16 ^ 40
  | 0 => hn
  | k + 1 => by
    have u1 : (16 : Nat) ^ 40 < 2 ^ 200 := by decide
    have u2 : (2 : Nat) ^ 50 < 16 ^ 40 := by decide
    have ih := itN_lt160 h hn k
    have := stepN_lt h.hb h.hb16 h.hp (lt200 (show itN b p n k < 2 ^ 200 by omega))
    have e : itN b p n (k + 1) = stepN b p (itN b p n k) := rfl
    omega
end Fx

namespace Fx
open PySem PySem.Spec PyProof.Rows L2
/-! ### a dict by places -/
def kvsOf (f : Nat → Int) (g : Nat → V) (L : Nat) : List (Key × V) := (List.range L).map fun i => (Sum.inl (f i), g i)
theorem kvsOf_len (f : Nat → Int) (g : Nat → V) (L : Nat) : (kvsOf f g L).length = L := by
  unfold kvsOf
  rw [List.length_map, List.length_range]
theorem kvsOf_succ (f : Nat → Int) (g : Nat → V) (L : Nat) : kvsOf f g (L + 1) = kvsOf f g L ++ [(Sum.inl (f L), g L)] := by
  unfold kvsOf
  rw [List.range_succ, List.map_append]
  rfl
theorem kvsOf_none {f : Nat → Int} {g : Nat → V} {k : Int} {L : Nat} (h : ∀ i, i < L → f i ≠ k) : valV (kvsOf f g L) (Sum.inl k : Key) = none := by
  unfold valV kvsOf
  rw [List.find?_eq_none.mpr]
  · rfl
  · intro x hx
    obtain ⟨i, hi, rfl⟩ := List.mem_map.mp hx
    rw [decide_eq_true_iff]
    intro e
    exact h i (List.mem_range.mp hi) (Sum.inl.inj e)
theorem kvsOf_some {f : Nat → Int} {g : Nat → V} : ∀ {L i : Nat}, (∀ i j, i < L → j < L → f i = f j → i = j) → i < L → valV (kvsOf f g L) (Sum.inl (f i) : Key) = some (g i)
  | 0, i, _, h => by omega
  | L + 1, i, nd, h => by
    rw [kvsOf_succ, valV_snoc _ _ _ _ (kvsOf_none fun j hj e => by
      have := nd j L (by omega) (by omega) e
      omega)]
    by_cases c : i = L
    · subst c
      rw [if_pos rfl]
    · rw [if_neg (fun e => c (nd i L h (by omega) (Sum.inl.inj e))), kvsOf_some (fun a b ha hb => nd a b (by omega) (by omega)) (by omega)]
theorem kvsOf_put {f : Nat → Int} {g : Nat → V} {L : Nat} (h : ∀ i, i < L → f i ≠ f L) : putK (kvsOf f g L) (Sum.inl (f L) : Key) (g L) = kvsOf f g (L + 1) := by
  rw [putK_new _ (kvsOf_none h), kvsOf_succ]
theorem kvsOf_keys (f : Nat → Int) (g : Nat → V) (L : Nat) : ((kvsOf f g L).map fun kv => kV kv.1) = (List.range L).map fun i => V.int (f i) := by
  unfold kvsOf
  rw [List.map_map]
  rfl
/-! ### numbers in lists -/
theorem inV_ivs (n : Nat) (l : List Nat) : inV (.int (n : Int)) (ivs l) = decide (n ∈ l) := by
  unfold inV ivs
  rw [List.any_map]
  by_cases c : n ∈ l
  · rw [decide_eq_true c, List.any_eq_true]
    refine ⟨n, c, ?_⟩
    show ((n : Int) == (n : Int)) = true
    exact beq_self_eq_true _
  · rw [decide_eq_false c, List.any_eq_false]
    intro x hx e
    have e' : ((x : Int) == (n : Int)) = true := e
    have := eq_of_beq e'
    have : x = n := by omega
    exact c (this ▸ hx)
theorem flat_ivs (l : List Nat) : (ivs l).all flatV = true := by
  unfold ivs
  rw [List.all_map, List.all_eq_true]
  intro x _
  rfl
theorem eqV_int (a b : Nat) : eqV (.int (a : Int)) (.int (b : Int)) = decide (a = b) := by
  show ((a : Int) == (b : Int)) = _
  by_cases c : a = b
  · subst c
    rw [decide_eq_true rfl]
    exact beq_self_eq_true _
  · rw [decide_eq_false c]
    exact beq_eq_false_iff_ne.mpr (by omega)
theorem dget {H : Hp} {a : Addr} {kvs : List (Key × V)} {k : Key} {r : Option V} (e : H a = some (.dK kvs)) (v : valV kvs k = r) : DGet H a (kV k) r := by
  subst v
  exact .k e
theorem small_len {n : Nat} (h : n ≤ 16000000) : n < sizeLine := Nat.lt_of_le_of_lt h (by decide)
end Fx

namespace Fx
open PySem PySem.Spec PyProof.Rows L2
/-! ### the laws' draws from a seed -/
def Seed (H : Hp) (d : Addr) : Prop := ∃ a f t r : Int, H d = some (.lst [.int a, .int f, .int t, .int r])
theorem Seed.same {H H' : Hp} {d : Addr} (h : Seed H d) (s : Same H H') : Seed H' d := by
  obtain ⟨a, f, t, r, e⟩ := h
  exact ⟨a, f, t, r, s _ _ e⟩
theorem Seed.off {H : Hp} {d p : Addr} {o : HO} (h : Seed H d) (n : p ≠ d) : Seed (upd H p o) d := by
  obtain ⟨a, f, t, r, e⟩ := h
  exact ⟨a, f, t, r, by rw [upd_ne (Ne.symm n)]; exact e⟩
theorem Seed.there {H : Hp} {d : Addr} (h : Seed H d) : ∃ o, H d = some o := by
  obtain ⟨a, f, t, r, e⟩ := h
  exact ⟨_, e⟩
theorem Seed.out {H : Hp} {d p : Addr} (h : Seed H d) (hp : H p = none) : p ≠ d := by
  obtain ⟨o, e⟩ := h.there
  exact (ne_of_none e hp).symm
theorem Seed.tup {H H' : Hp} {d t : Addr} {xs : List V} (h : Seed H d) (b : But d H H') (e : H t = some (.tup xs)) : H' t = some (.tup xs) := by
  obtain ⟨_, _, _, _, q⟩ := h
  exact b t _ (ne_of e q (fun z => by cases z)) e
/-- what each figure is worth -/
def wts (b p : Nat) : List Nat := (List.range b).map (· ^ p)
theorem wts_len (b p : Nat) : (wts b p).length = b := by
  unfold wts
  rw [List.length_map, List.length_range]
theorem wts_get {b p i : Nat} (h : i < b) : (wts b p)[i]? = some (i ^ p) := by
  unfold wts
  rw [List.getElem?_map, List.getElem?_range h]
  rfl
/-- base, power, and what figures are worth -/
def PairW (H : Hp) (d t : Addr) (b p : Nat) : Prop := ∃ w, H t = some (.tup [.int (b : Int), .int (p : Int), .ref w]) ∧ H w = some (.lst (ivs (wts b p))) ∧ w ≠ d ∧ t ≠ d ∧ OkN b p
theorem PairW.but {H H' : Hp} {d t : Addr} {b p : Nat} (h : PairW H d t b p) (s : But d H H') : PairW H' d t b p := by
  obtain ⟨w, e1, e2, n1, n2, ok⟩ := h
  exact ⟨w, s _ _ n2 e1, s _ _ n1 e2, n1, n2, ok⟩
theorem PairW.same {H H' : Hp} {d t : Addr} {b p : Nat} (h : PairW H d t b p) (s : Same H H') : PairW H' d t b p := h.but (.of s)
theorem PairW.ok {H : Hp} {d t : Addr} {b p : Nat} (h : PairW H d t b p) : OkN b p := by
  obtain ⟨w, e1, e2, n1, n2, ok⟩ := h
  exact ok
theorem cut_ivs_to (l : List Nat) (i : Nat) : cutV (ivs l) none (some (i : Int)) = ivs (l.take i) := by
  rw [cut_to]
  unfold ivs
  rw [List.map_take]
theorem cut_ivs_from (l : List Nat) (i : Nat) : cutV (ivs l) (some (i : Int)) none = ivs (l.drop i) := by
  rw [cut_from]
  unfold ivs
  rw [List.map_drop]
/-- the powers that a base lets -/
def mostN (b : Nat) : Nat := (mostOf (b : Int)).toNat
def upTo (m : Nat) : List Nat := (List.range m).map (· + 1)
theorem upTo_len (m : Nat) : (upTo m).length = m := by
  unfold upTo
  rw [List.length_map, List.length_range]
theorem upTo_get {m i : Nat} (h : i < m) : (upTo m)[i]? = some (i + 1) := by
  unfold upTo
  rw [List.getElem?_map, List.getElem?_range h]
  rfl
theorem upTo_succ (m : Nat) : upTo (m + 1) = upTo m ++ [m + 1] := by
  unfold upTo
  rw [List.range_succ, List.map_append]
  rfl
theorem most_iff {b k : Nat} (h1 : 2 ≤ b) (h2 : b ≤ 16) (k1 : 1 ≤ k) (k2 : k ≤ 10) : (b - 1) ^ k ≤ 1000 ↔ k ≤ mostN b := by
  have a : ∀ i ∈ List.range 15, ∀ j ∈ List.range 10, ((i + 2 - 1) ^ (j + 1) ≤ 1000 ↔ j + 1 ≤ mostN (i + 2)) := by decide +kernel
  have := a (b - 2) (List.mem_range.mpr (by omega)) (k - 1) (List.mem_range.mpr (by omega))
  rwa [show b - 2 + 2 = b by omega, show k - 1 + 1 = k by omega] at this
theorem mostN_pos {b : Nat} (h1 : 2 ≤ b) (h2 : b ≤ 16) : 1 ≤ mostN b ∧ mostN b ≤ 10 := by
  have := most_pos (b := (b : Int)) (by omega) (by omega)
  unfold mostN
  omega
theorem okN_of {b p : Nat} (h1 : 2 ≤ b) (h2 : b ≤ 16) (h3 : 1 ≤ p) (h4 : p ≤ mostN b) : OkN b p := by
  have := most_pos (b := (b : Int)) (by omega) (by omega)
  unfold mostN at h4
  exact ⟨by omega, by omega, by omega, by omega⟩
end Fx

namespace Fx
open PySem PySem.Spec PyProof.Rows L2
/-! ### papers -/
structure PaperAt (b p n m s t : Nat) : Prop where
  lt : t < s
  one : itN b p n t = m
  two : itN b p n s = m
  only : ∀ i, i < s → itN b p n i = m → i = t
def PaperOf (b p n s : Nat) : Prop := ∃ A m t, EndAt b p n A m ∧ PaperAt b p n m s t
theorem PaperAt.uniq {b p n m s t s' t' : Nat} (h : PaperAt b p n m s t) (g : PaperAt b p n m s' t') : s = s' := by
  rcases Nat.lt_trichotomy s s' with c | c | c
  · have := g.only s c h.two
    have := g.only t (by have := h.lt; omega) h.one
    have := h.lt
    omega
  · exact c
  · have := h.only s' c g.two
    have := h.only t' (by have := g.lt; omega) g.one
    have := g.lt
    omega
theorem PaperOf.uniq {b p n s s' : Nat} (h : PaperOf b p n s) (g : PaperOf b p n s') : s = s' := by
  obtain ⟨A, m, t, e, w⟩ := h
  obtain ⟨A', m', t', e', w'⟩ := g
  obtain ⟨rfl, rfl⟩ := e.uniq e'
  exact w.uniq w'
theorem Way.paper {b p n A L t : Nat} (w : Way b p n A L) (h1 : A ≤ t) (h2 : t < L) : PaperAt b p n (itN b p n t) (t + (L - A)) t := by
  have lt := w.lt
  refine ⟨by omega, rfl, ?_, fun i hi e => ?_⟩
  · rw [show t + (L - A) = L + (t - A) by omega, w.turn, show A + (t - A) = t by omega]
  · by_cases c : i < L
    · exact w.nd i t c h2 e
    · rw [show i = L + (i - L) by omega, w.turn] at e
      have := w.nd _ _ (by omega) h2 e
      omega
/-- one that ends at m comes there -/
theorem EndAt.ge {b p n A m t : Nat} (h : EndAt b p n A m) (e : itN b p n t = m) : A ≤ t := by
  refine Nat.le_of_not_lt fun c => h.first t c ?_
  rw [e]
  exact h.self.per
/-! ### how often a number stands in a row -/
theorem cnt_succ {f : Nat → Int} {x : Int} (K : Nat) : (((List.range (K + 1)).map f).count x) = ((List.range K).map f).count x + if f K = x then 1 else 0 := by
  rw [List.range_succ, List.map_append, List.count_append]
  congr 1
  show [f K].count x = _
  rw [List.count_singleton]
  by_cases c : f K = x
  · rw [if_pos c, if_pos (by rw [c]; exact beq_self_eq_true _)]
  · rw [if_neg c, if_neg (by rw [beq_iff_eq]; exact c)]
theorem cnt_none {f : Nat → Int} {x : Int} : ∀ K, (∀ i, i < K → f i ≠ x) → ((List.range K).map f).count x = 0
  | 0, _ => rfl
  | K + 1, h => by rw [cnt_succ, cnt_none K (fun i hi => h i (by omega)), if_neg (h K (by omega))]
theorem cnt_zero {f : Nat → Int} {x : Int} : ∀ K, ((List.range K).map f).count x = 0 → ∀ i, i < K → f i ≠ x
  | 0, _, i, hi => by omega
  | K + 1, h, i, hi => by
    rw [cnt_succ] at h
    by_cases c : i = K
    · subst c
      intro e
      rw [if_pos e] at h
      omega
    · exact cnt_zero K (by omega) i (by omega)
theorem cnt_one {f : Nat → Int} {x : Int} : ∀ K, ((List.range K).map f).count x = 1 → ∃ j, j < K ∧ f j = x ∧ ∀ i, i < K → f i = x → i = j
  | 0, h => by simp at h
  | K + 1, h => by
    rw [cnt_succ] at h
    by_cases c : f K = x
    · rw [if_pos c] at h
      have z := cnt_zero (f := f) (x := x) K (by omega)
      exact ⟨K, by omega, c, fun i hi e => by
        by_cases d : i = K
        · exact d
        · exact absurd e (z i (by omega))⟩
    · rw [if_neg c] at h
      obtain ⟨j, j1, j2, j3⟩ := cnt_one K (by omega)
      refine ⟨j, by omega, j2, fun i hi e => ?_⟩
      by_cases d : i = K
      · subst d
        exact absurd e c
      · exact j3 i (by omega) e
theorem cnt_of_one {f : Nat → Int} {x : Int} {j : Nat} : ∀ K, j < K → f j = x → (∀ i, i < K → f i = x → i = j) → ((List.range K).map f).count x = 1
  | 0, h, _, _ => by omega
  | K + 1, h, e, u => by
    rw [cnt_succ]
    by_cases c : j = K
    · subst c
      rw [if_pos e, cnt_none j fun i hi z => by
        have := u i (by omega) z
        omega]
    · rw [if_neg fun z => c (u K (by omega) z).symm, cnt_of_one K (by omega) e fun i hi z => u i (by omega) z]
/-- the row as whole numbers -/
def seqI (b p n K : Nat) : List Int := (List.range K).map fun i => ((itN b p n i : Nat) : Int)
theorem ivs_row (b p n K : Nat) : ivs (rowN b p n K) = (seqI b p n K).map V.int := by
  unfold ivs seqI
  rw [rowN_eq, List.map_map, List.map_map]
  rfl
theorem seqI_len (b p n K : Nat) : (seqI b p n K).length = K := by
  unfold seqI
  rw [List.length_map, List.length_range]
theorem seqI_get {b p n K i : Nat} (h : i < K) : (seqI b p n K)[i]? = some ((itN b p n i : Nat) : Int) := by
  unfold seqI
  rw [List.getElem?_map, List.getElem?_range h]
  rfl
theorem seqI_succ (b p n K : Nat) : seqI b p n (K + 1) = seqI b p n K ++ [((itN b p n K : Nat) : Int)] := by
  unfold seqI
  rw [List.range_succ, List.map_append]
  rfl
theorem PaperAt.cnt {b p n m s t : Nat} (h : PaperAt b p n m s t) {K : Nat} (hK : K ≤ s) : (seqI b p n K).count (m : Int) < 2 := by
  unfold seqI
  by_cases c : t < K
  · rw [cnt_of_one (f := fun i => ((itN b p n i : Nat) : Int)) (x := (m : Int)) (j := t) K c (by show ((itN b p n t : Nat) : Int) = _; rw [h.one]) fun i hi e => h.only i (by omega) (Int.ofNat.inj e)]
    decide
  · rw [cnt_none (f := fun i => ((itN b p n i : Nat) : Int)) (x := (m : Int)) K fun i hi e => by
      have := h.only i (by omega) (Int.ofNat.inj e)
      omega]
    decide
theorem PaperAt.cnt2 {b p n m s t : Nat} (h : PaperAt b p n m s t) : (seqI b p n (s + 1)).count (m : Int) = 2 := by
  unfold seqI
  rw [cnt_succ, if_pos (by rw [h.two]), cnt_of_one (f := fun i => ((itN b p n i : Nat) : Int)) (x := (m : Int)) (j := t) s h.lt (by show ((itN b p n t : Nat) : Int) = _; rw [h.one]) fun i hi e => h.only i hi (Int.ofNat.inj e)]
/-- what is asked of a paper, in order -/
structure Heads (n : Nat) (xs : List Int) (l : Int) : Prop where
  two : 2 ≤ xs.length
  zero : xs[0]? = some (n : Int)
  last : xs[xs.length - 1]? = some l
  count : xs.count l = 2
theorem heads_of {b p n s : Nat} (h : PaperOf b p n s) : ∃ l, Heads n (seqI b p n (s + 1)) l := by
  obtain ⟨A, m, t, e, w⟩ := h
  have := w.lt
  refine ⟨(m : Int), by rw [seqI_len]; omega, seqI_get (by omega), ?_, w.cnt2⟩
  rw [seqI_len, seqI_get (by omega), show s + 1 - 1 = s by omega, w.two]
/-- all that is asked -/
theorem seq_of_steps {b p n : Nat} {xs : List Int} (h0 : xs[0]? = some (n : Int)) (hs : ∀ i x y, xs[i]? = some x → xs[i + 1]? = some y → ∃ k : Nat, x = (k : Int) ∧ y = ((stepN b p k : Nat) : Int)) : xs = seqI b p n xs.length := by
  have go : ∀ i, i < xs.length → xs[i]? = some ((itN b p n i : Nat) : Int) := fun i => by
    induction i with
    | zero => intro _; exact h0
    | succ i ih =>
      intro hi
      have e := ih (by omega)
      have e2 : xs[i + 1]? = some xs[i + 1] := List.getElem?_eq_getElem hi
      obtain ⟨k, k1, k2⟩ := hs i _ _ e e2
      rw [e2, k2, ← Int.ofNat.inj k1]
      rfl
  refine List.ext_getElem? fun i => ?_
  by_cases c : i < xs.length
  · rw [go i c, seqI_get c]
  · rw [List.getElem?_eq_none (by omega), List.getElem?_eq_none (by rw [seqI_len]; omega)]
/-- gone round for ever -/
theorem it_far {b p n j k : Nat} (h : j < k) (e : itN b p n k = itN b p n j) (i : Nat) (hi : j ≤ i) (N : Nat) : ∃ i', N ≤ i' ∧ itN b p n i' = itN b p n i := by
  have pr : itN b p (itN b p n i) (k - j) = itN b p n i := by
    rw [← itN_add, show i + (k - j) = k + (i - j) by omega, itN_add, e, ← itN_add, show j + (i - j) = i by omega]
  refine ⟨i + N * (k - j), ?_, ?_⟩
  · have : N ≤ N * (k - j) := Nat.le_mul_of_pos_right N (by omega)
    omega
  · rw [itN_add]
    exact Per.mul pr N
theorem it_within {b p n j k : Nat} (h : j < k) (e : itN b p n k = itN b p n j) : ∀ i, j ≤ i → ∃ i', j ≤ i' ∧ i' < k ∧ itN b p n i' = itN b p n i := fun i => by
  induction i with
  | zero => intro z; exact ⟨0, z, by omega, rfl⟩
  | succ i ih =>
    intro hi
    by_cases c : j ≤ i
    · obtain ⟨i', a1, a2, a3⟩ := ih c
      by_cases d : i' + 1 < k
      · exact ⟨i' + 1, by omega, d, by rw [itN_succ, itN_succ, a3]⟩
      · refine ⟨j, Nat.le_refl _, h, ?_⟩
        rw [itN_succ, ← a3, ← itN_succ, show i' + 1 = k by omega, e]
    · exact ⟨j, Nat.le_refl _, h, by rw [show j = i + 1 by omega]⟩
/-- the last one is the least from its first time on: then it is the paper -/
theorem paper_last {b p n s k j : Nat} (hp : PaperOf b p n s) (hj : j < k) (ej : itN b p n j = itN b p n k) (u : ∀ i, i < k → itN b p n i = itN b p n k → i = j) : (∀ i, j ≤ i → i ≤ k → itN b p n k ≤ itN b p n i) ↔ k = s := by
  obtain ⟨A, m, t, e, w⟩ := hp
  constructor
  · intro le
    have far : ∀ i, j ≤ i → itN b p n k ≤ itN b p n i := fun i hi => by
      obtain ⟨i', a1, a2, a3⟩ := it_within hj ej.symm i hi
      rw [← a3]
      exact le i' a1 (by omega)
    have km : itN b p n k = m := by
      refine Nat.le_antisymm ?_ ?_
      · obtain ⟨i, i1, i2⟩ := e.on
        obtain ⟨x, x0, ex⟩ := e.per
        have : itN b p n (i + j * x) = m := by
          have pi : itN b p m x = m := by
            rw [← i2, ← itN_add, show i + x = A + (i - A + x) by omega, itN_add, Nat.add_comm, itN_add, ex, ← itN_add, show A + (i - A) = i by omega]
          rw [itN_add, i2]
          exact Per.mul pi j
        rw [← this]
        refine far _ ?_
        have : j ≤ j * x := Nat.le_mul_of_pos_right j x0
        omega
      · obtain ⟨i', a1, a2⟩ := it_far hj ej.symm k (by omega) A
        rw [← a2]
        exact e.least i' a1
    have w' : PaperAt b p n m k j := ⟨hj, ej.trans km, km, fun i hi ei => u i hi (ei.trans km.symm)⟩
    exact w'.uniq w
  · rintro rfl
    intro i i1 i2
    have tj : t = j := u t w.lt (w.one.trans w.two.symm)
    rw [w.two]
    exact e.least i (by have := e.ge w.one; omega)
end Fx
namespace Fx
open PySem PySem.Spec PyProof.Rows L2
/-! ### data compared, alike or not -/
theorem eqvAll_ints : ∀ xs ys : List Int, PyData.eqvAll (dInts xs) (dInts ys) = decide (xs = ys)
  | [], [] => by unfold dInts; simp [PyData.eqvAll]
  | [], _ :: _ => by unfold dInts; simp [PyData.eqvAll]
  | _ :: _, [] => by unfold dInts; simp [PyData.eqvAll]
  | a :: r, b :: q => by
    have ih := eqvAll_ints r q
    unfold dInts at ih ⊢
    rw [List.map_cons, List.map_cons, PyData.eqvAll, ih]
    by_cases c : a = b
    · subst c
      simp [PyData.eqv]
    · simp [PyData.eqv, c]
theorem eqv_ints (xs ys : List Int) : PyData.eqv (.list (dInts xs)) (.list (dInts ys)) = decide (xs = ys) := by
  rw [PyData.eqv]
  exact eqvAll_ints xs ys
theorem eqv_tints (xs ys : List Int) : PyData.eqv (.tuple (dInts xs)) (.tuple (dInts ys)) = decide (xs = ys) := by
  rw [PyData.eqv]
  exact eqvAll_ints xs ys
end Fx
namespace Fx
theorem way_ex {b p n : Nat} (h : Near b p n) : ∃ A L, Way b p n A L := by
  have go : ∀ k L : Nat, 15031 - L = k → (∀ i j, i < L → j < L → itN b p n i = itN b p n j → i = j) → ∃ A L, Way b p n A L := by
    intro k
    induction k with
    | zero =>
      intro L hL nd
      have := h.rep nd
      omega
    | succ k ih =>
      intro L hL nd
      by_cases c : ∃ A, A < L ∧ itN b p n L = itN b p n A
      · obtain ⟨A, a1, a2⟩ := c
        exact ⟨A, L, a1, a2, nd⟩
      · refine ih (L + 1) (by omega) fun i j hi hj e => ?_
        by_cases ci : i = L
        · by_cases cj : j = L
          · omega
          · subst ci
            exact absurd ⟨j, by omega, e⟩ c
        · by_cases cj : j = L
          · subst cj
            exact absurd ⟨i, by omega, e.symm⟩ c
          · exact nd i j (by omega) (by omega) e
  exact go _ 0 rfl fun i j hi => by omega
theorem Way.least {b p n A L : Nat} (w : Way b p n A L) : ∃ t, A ≤ t ∧ t < L ∧ ∀ j, A ≤ j → j < L → itN b p n t ≤ itN b p n j := by
  have lt := w.lt
  have go : ∀ k, A + k < L → ∃ t, A ≤ t ∧ t ≤ A + k ∧ ∀ j, A ≤ j → j ≤ A + k → itN b p n t ≤ itN b p n j := by
    intro k
    induction k with
    | zero =>
      intro _
      exact ⟨A, Nat.le_refl _, Nat.le_refl _, fun j h1 h2 => by
        obtain rfl : j = A := by omega
        exact Nat.le_refl _⟩
    | succ k ih =>
      intro hk
      obtain ⟨t, t1, t2, t3⟩ := ih (by omega)
      by_cases c : itN b p n t ≤ itN b p n (A + (k + 1))
      · refine ⟨t, t1, by omega, fun j h1 h2 => ?_⟩
        by_cases d : j = A + (k + 1)
        · subst d
          exact c
        · exact t3 j h1 (by omega)
      · refine ⟨A + (k + 1), by omega, Nat.le_refl _, fun j h1 h2 => ?_⟩
        by_cases d : j = A + (k + 1)
        · subst d
          exact Nat.le_refl _
        · have := t3 j h1 (by omega)
          omega
  obtain ⟨t, t1, t2, t3⟩ := go (L - 1 - A) (by omega)
  exact ⟨t, t1, by omega, fun j h1 h2 => t3 j h1 (by omega)⟩
theorem paper_at {b p n A m : Nat} (nr : Near b p n) (e : EndAt b p n A m) : ∃ s t, PaperAt b p n m s t ∧ s ≤ 30100 := by
  obtain ⟨A', L, w⟩ := way_ex nr
  have := nr.rep w.nd
  obtain ⟨t, t1, t2, t3⟩ := w.least
  have e' := w.end_of ⟨t, t1, t2, rfl⟩ t3
  obtain ⟨rfl, rfl⟩ := e.uniq e'
  exact ⟨_, t, w.paper t1 t2, by omega⟩
theorem paper_ex {b p n : Nat} (nr : Near b p n) : ∃ s, PaperOf b p n s ∧ s ≤ 30100 := by
  obtain ⟨A, m, e⟩ := exists_end nr
  obtain ⟨s, t, w, h⟩ := paper_at nr e
  exact ⟨s, ⟨A, m, t, e, w⟩, h⟩
end Fx
namespace Fx
open PySem PySem.Spec PyProof.Rows L2
theorem at_last {xs : List Int} {l : Int} (h : xs[xs.length - 1]? = some l) : atI (xs.map V.int) (-1) = some (.int l) := by
  have h1 : xs.length - 1 < xs.length := (List.getElem?_eq_some_iff.mp h).1
  have h2 : xs = xs.take (xs.length - 1) ++ [l] := by
    have e := List.take_add_one (l := xs) (i := xs.length - 1)
    rw [show xs.length - 1 + 1 = xs.length by omega, List.take_length, h] at e
    exact e
  rw [h2, List.map_append]
  exact atI_last _ _
theorem flat_ints (xs : List Int) : (xs.map V.int).all flatV = true := by
  rw [List.all_map, List.all_eq_true]
  intro x _
  rfl
theorem seqI_inj {b p n k l : Nat} (h : seqI b p n k = seqI b p n l) : k = l := by
  have := congrArg List.length h
  rwa [seqI_len, seqI_len] at this
theorem map_erase (f : Int → V) : ∀ (l : List Int) (k : Nat), (l.map f).eraseIdx k = (l.eraseIdx k).map f
  | [], _ => rfl
  | _ :: _, 0 => rfl
  | a :: r, k + 1 => by
    show f a :: (r.map f).eraseIdx k = f a :: (r.eraseIdx k).map f
    rw [map_erase f r k]
theorem cut_i_to (l : List Int) (i : Nat) : cutV (l.map V.int) none (some (i : Int)) = (l.take i).map V.int := by
  rw [cut_to, List.map_take]
theorem cut_i_from (l : List Int) (i : Nat) : cutV (l.map V.int) (some (i : Int)) none = (l.drop i).map V.int := by
  rw [cut_from, List.map_drop]
theorem ixN_lt {n j : Nat} (h : j < n) : ixN n (j : Int) = some j := by
  unfold ixN
  rw [if_pos (by omega), if_pos (by omega)]
  simp
theorem seq_lt {n j : Nat} (h : j < n) : seqIndex? (j : Int) n = some j := (ixN_seq (ixN_lt h)).1
theorem get_lt {xs : List Int} {i : Nat} (h : i < xs.length) : ∃ x, xs[i]? = some x := ⟨_, List.getElem?_eq_getElem h⟩
/-! ### lists of lists of numbers, whatever they hold -/
def LL (d : Addr) (H : Hp) (vs : List V) : Prop := ∀ v ∈ vs, ∃ (a : Addr) (xs : List Int), v = .ref a ∧ H a = some (.lst (xs.map V.int)) ∧ a ≠ d ∧ xs.length ≤ 2000000
theorem LL.nil {d : Addr} {H : Hp} : LL d H [] := fun v h => nomatch h
theorem LL.but {d : Addr} {H H' : Hp} {vs : List V} (h : LL d H vs) (b : But d H H') : LL d H' vs := fun v hv => by
  obtain ⟨a, xs, e1, e2, e3, e4⟩ := h v hv
  exact ⟨a, xs, e1, b _ _ e3 e2, e3, e4⟩
theorem LL.same {d : Addr} {H H' : Hp} {vs : List V} (h : LL d H vs) (b : Same H H') : LL d H' vs := h.but (.of b)
theorem LL.app {d : Addr} {H : Hp} {vs us : List V} (h : LL d H vs) (g : LL d H us) : LL d H (vs ++ us) := fun v hv => (List.mem_append.mp hv).elim (h v) (g v)
theorem LL.cons {d a : Addr} {H : Hp} {us : List V} {xs : List Int} (e : H a = some (.lst (xs.map V.int))) (n : a ≠ d) (l : xs.length ≤ 2000000) (g : LL d H us) : LL d H (.ref a :: us) := fun v hv => by
  rcases List.mem_cons.mp hv with rfl | hv
  · exact ⟨a, xs, rfl, e, n, l⟩
  · exact g v hv
theorem LL.put {d R a : Addr} {H : Hp} {vs r : List V} {o : HO} (h : LL d H vs) (e : H R = some (.lst (.ref a :: r))) : LL d (upd H R o) vs := fun v hv => by
  obtain ⟨a', xs, e1, e2, e3, e4⟩ := h v hv
  refine ⟨a', xs, e1, ?_, e3, e4⟩
  rw [upd_ne]
  · exact e2
  · rintro rfl
    rw [e] at e2
    cases xs with
    | nil => cases e2
    | cons x xs => cases e2
/-- behind a store to a list that stands nowhere ahead -/
theorem LL.new {d R : Addr} {H H' : Hp} {vs : List V} {o : HO} (h : LL d H vs) (hR : H R = none) (b : But d H H') : LL d (upd H' R o) vs := h.but (b.own hR)
end Fx

namespace Fx
open PySem PySem.Spec PyProof.Rows L2
/-! ### steps in a row -/
theorem wts_steps' {b m : Nat} : wts b m = (List.range b).map (stepN b m) := by
  unfold wts
  refine List.map_congr_left fun r hr => ?_
  exact (stepN_lt_base (List.mem_range.mp hr)).symm
def stpN (b m k : Nat) : List Nat := (List.range k).map (stepN b m)
theorem stpN_len (b m k : Nat) : (stpN b m k).length = k := by
  unfold stpN
  rw [List.length_map, List.length_range]
theorem stpN_get {b m k i : Nat} (h : i < k) : (stpN b m k)[i]? = some (stepN b m i) := by
  unfold stpN
  rw [List.getElem?_map, List.getElem?_range h]
  rfl
theorem stpN_succ (b m k : Nat) : stpN b m (k + 1) = stpN b m k ++ [stepN b m k] := by
  unfold stpN
  rw [List.range_succ, List.map_append]
  rfl
/-! ### where all numbers end, in a dict -/
structure EK (H : Hp) (E : Addr) (b p N : Nat) (ks : List Nat) (kvs : List (Key × V)) : Prop where
  at' : H E = some (.dK kvs)
  keys : kvs.map (·.1) = ks.map fun (n : Nat) => (Sum.inl (n : Int) : Key)
  nd : ks.Nodup
  lt : ∀ n ∈ ks, n < N
  val : ∀ n ∈ ks, ∃ t a m, valV kvs (Sum.inl ((n : Nat) : Int) : Key) = some (.ref t) ∧ H t = some (.tup (ivs [a, m])) ∧ EndAt b p n a m
theorem EK.len {H : Hp} {E : Addr} {b p N : Nat} {ks : List Nat} {kvs : List (Key × V)} (h : EK H E b p N ks kvs) : kvs.length ≤ N := by
  have := congrArg List.length h.keys
  rw [List.length_map, List.length_map] at this
  rw [this]
  exact nodup_len N ks h.nd h.lt
theorem EK.no {H : Hp} {E : Addr} {b p N n : Nat} {ks : List Nat} {kvs : List (Key × V)} (h : EK H E b p N ks kvs) (hn : n ∉ ks) : valV kvs (Sum.inl ((n : Nat) : Int) : Key) = none := by
  cases e : valV kvs (Sum.inl ((n : Nat) : Int) : Key) with
  | none => rfl
  | some v =>
    have := valV_in e
    rw [h.keys] at this
    obtain ⟨m, hm, z⟩ := List.mem_map.mp this
    have : m = n := by
      have := Sum.inl.inj z
      omega
    exact absurd (this ▸ hm) hn
theorem EK.keep {H H' : Hp} {E : Addr} {b p N : Nat} {ks : List Nat} {kvs : List (Key × V)} (h : EK H E b p N ks kvs) (s : Same H H') : EK H' E b p N ks kvs :=
  ⟨s _ _ h.at', h.keys, h.nd, h.lt, fun n hn => by
    obtain ⟨t, a, m, e1, e2, e3⟩ := h.val n hn
    exact ⟨t, a, m, e1, s _ _ e2, e3⟩⟩
theorem EK.put {H : Hp} {E t : Addr} {b p N n a m : Nat} {ks : List Nat} {kvs : List (Key × V)} (h : EK H E b p N ks kvs) (hn : n ∉ ks) (lt : n < N) (et : H t = some (.tup (ivs [a, m]))) (en : EndAt b p n a m) :
    EK (upd H E (.dK (putK kvs (Sum.inl ((n : Nat) : Int)) (.ref t)))) E b p N (ks ++ [n]) (putK kvs (Sum.inl ((n : Nat) : Int)) (.ref t)) := by
  have off : ∀ x xs, H x = some (HO.tup xs) → x ≠ E := fun x xs e => (ne_of h.at' e fun z => by cases z).symm
  have vn := h.no hn
  refine ⟨upd_same, ?_, ?_, fun x hx => ?_, fun x hx => ?_⟩
  · rw [putK_new _ vn, List.map_append, List.map_append, h.keys]
    rfl
  · exact nd_snoc h.nd hn
  · rcases List.mem_append.mp hx with c | c
    · exact h.lt x c
    · cases List.mem_singleton.mp c
      exact lt
  · rcases List.mem_append.mp hx with c | c
    · obtain ⟨t', a', m', e1, e2, e3⟩ := h.val x c
      refine ⟨t', a', m', ?_, by rw [upd_ne (off _ _ e2)]; exact e2, e3⟩
      rw [valV_put, if_neg]
      · exact e1
      · intro z
        have : x = n := by
          have := Sum.inl.inj z
          omega
        exact hn (this ▸ c)
    · cases List.mem_singleton.mp c
      exact ⟨t, a, m, by rw [valV_put, if_pos rfl], by rw [upd_ne (off _ _ et)]; exact et, en⟩
/-- steps lead to numbers that stand there -/
def Cl (b p : Nat) (ks : List Nat) : Prop := ∀ n ∈ ks, stepN b p n ∈ ks
theorem Cl.it {b p n : Nat} {ks : List Nat} (h : Cl b p ks) (hn : n ∈ ks) : ∀ j, itN b p n j ∈ ks
  | 0 => hn
  | j + 1 => h _ (Cl.it h hn j)
/-- a way from a number of a round on comes round at the first number -/
theorem EndAt.from {b p n a m : Nat} (h : EndAt b p n a m) (np : ¬ Per b p n → True) : True := trivial
theorem rnd_at {b p n A L m : Nat} (w : Way b p n A L) (h : EndAt b p n A m) {i : Nat} (h1 : A ≤ i) : EndAt b p (itN b p n i) 0 m := by
  have := h.later i
  rwa [show A - i = 0 by omega] at this
theorem before_at {b p n A m : Nat} (h : EndAt b p n A m) {i : Nat} : EndAt b p (itN b p n i) (A - i) m := h.later i
/-- periodic numbers are few -/
theorem per_le {b p L x : Nat} (hb : 2 ≤ b) (hL : IsLen (b : Int) (Fx.worth (b : Int) (p : Int)) L) (h : Per b p x) : x ≤ (L - 1) * (b - 1) ^ p := by
  obtain ⟨k, k0, e⟩ := h
  -- the greatest one of the round
  have mx : ∀ n, 0 < n → ∃ i, i < n ∧ ∀ j, j < n → itN b p x j ≤ itN b p x i := by
    intro n
    induction n with
    | zero => intro h; omega
    | succ n ih =>
      intro _
      by_cases c : n = 0
      · subst c
        exact ⟨0, by omega, fun j hj => by
          obtain rfl : j = 0 := by omega
          exact Nat.le_refl _⟩
      · obtain ⟨i, i1, i2⟩ := ih (by omega)
        by_cases d : itN b p x n ≤ itN b p x i
        · exact ⟨i, by omega, fun j hj => by
            by_cases ej : j = n
            · subst ej; exact d
            · exact i2 j (by omega)⟩
        · exact ⟨n, by omega, fun j hj => by
            by_cases ej : j = n
            · subst ej; exact Nat.le_refl _
            · have := i2 j (by omega)
              omega⟩
  obtain ⟨i, i1, i2⟩ := mx k k0
  have all : ∀ j, itN b p x j ≤ itN b p x i := fun j => by
    have : ∀ q, itN b p x (q * k + j) = itN b p x j := fun q => by
      rw [itN_add, Per.mul e q]
    rw [← Nat.div_add_mod j k, Nat.mul_comm]
    have e2 : itN b p x (j / k * k + j % k) = itN b p x (j % k) := by rw [itN_add, Per.mul e (j / k)]
    rw [e2]
    exact i2 _ (Nat.mod_lt _ k0)
  -- the one ahead of it
  have pr : ∃ j, itN b p x (j + 1) = itN b p x i := by
    refine ⟨i + k - 1, ?_⟩
    rw [show i + k - 1 + 1 = k + i by omega, itN_add, e]
  obtain ⟨j, ej⟩ := pr
  have hx := all 0
  rw [itN_zero] at hx
  have h2 := hL.two
  by_cases c : b ^ (L - 1) ≤ itN b p x j
  · have := goes_down hb hL c
    rw [itN_succ] at ej
    have := all j
    omega
  · rw [← ej, itN_succ] at hx
    have := step_le_len (b := b) (p := p) hb (figs_len_lt (k := L - 1) hb (by omega) (Nat.lt_of_not_le c))
    omega
/-- a table that steps do not leave -/
structure Big (b p N : Nat) : Prop where
  closed : ∀ x, x < N → stepN b p x < N
  per : ∀ x, Per b p x → x < N
theorem big_of {b p L N : Nat} (hb : 2 ≤ b) (hL : IsLen (b : Int) (Fx.worth (b : Int) (p : Int)) L) (h : (L - 1) * (b - 1) ^ p < N) : Big b p N := by
  refine ⟨fun x hx => ?_, fun x hx => Nat.lt_of_le_of_lt (per_le hb hL hx) h⟩
  have h2 := hL.two
  by_cases c : b ^ (L - 1) ≤ x
  · have := goes_down hb hL c
    omega
  · have := step_le_len (b := b) (p := p) hb (figs_len_lt (k := L - 1) hb (by omega) (Nat.lt_of_not_le c))
    omega
/-- least numbers of all rounds -/
def LeastsAt (b p : Nat) (ls : List Nat) : Prop := ∀ i m, ls[i]? = some m → ∃ A, EndAt b p i A m
end Fx

namespace Fx
open PySem PySem.Spec PyProof.Rows L2
/-! ### a list of lists of numbers -/
def Lists (H : Hp) (vs : List V) (ls : List (List Int)) : Prop := vs.length = ls.length ∧ ∀ (i : Nat) v l, vs[i]? = some v → ls[i]? = some l → ∃ a, v = .ref a ∧ H a = some (.lst (l.map V.int))
theorem Lists.nil {H : Hp} : Lists H [] [] := ⟨rfl, fun i v l h => by simp at h⟩
theorem Lists.mono {H H' : Hp} {vs : List V} {ls : List (List Int)} (h : Lists H vs ls) (s : Same H H') : Lists H' vs ls := ⟨h.1, fun i v l a b => by
  obtain ⟨x, e1, e2⟩ := h.2 i v l a b
  exact ⟨x, e1, s _ _ e2⟩⟩
theorem Lists.off {H : Hp} {vs : List V} {ls : List (List Int)} {R : Addr} {o : HO} (h : Lists H vs ls) (n : ∀ a l, (V.ref a) ∈ vs → H a = some (.lst l) → a ≠ R) : Lists (upd H R o) vs ls := ⟨h.1, fun i v l a b => by
  obtain ⟨x, e1, e2⟩ := h.2 i v l a b
  refine ⟨x, e1, ?_⟩
  rw [upd_ne (n x _ (e1 ▸ List.mem_of_getElem? a) e2)]
  exact e2⟩
theorem Lists.push {H : Hp} {vs : List V} {ls : List (List Int)} {a : Addr} {l : List Int} (h : Lists H vs ls) (e : H a = some (.lst (l.map V.int))) : Lists H (vs ++ [.ref a]) (ls ++ [l]) := by
  refine ⟨by rw [List.length_append, List.length_append, h.1]; rfl, fun i v m p q => ?_⟩
  by_cases c : i < vs.length
  · rw [List.getElem?_append_left c] at p
    rw [List.getElem?_append_left (by rw [← h.1]; exact c)] at q
    exact h.2 i v m p q
  · rw [List.getElem?_append_right (by omega)] at p
    rw [List.getElem?_append_right (by rw [← h.1]; omega)] at q
    have z : i - vs.length = 0 := by
      have := (List.getElem?_eq_some_iff.mp p).1
      simp at this
      omega
    rw [z] at p
    rw [← h.1, z] at q
    cases p
    cases q
    exact ⟨a, rfl, e⟩
theorem Lists.rev {H : Hp} {vs : List V} {ls : List (List Int)} (h : Lists H vs ls) : Lists H vs.reverse ls.reverse := by
  refine ⟨by rw [List.length_reverse, List.length_reverse, h.1], fun i v l p q => ?_⟩
  have hi : i < vs.length := by
    have := (List.getElem?_eq_some_iff.mp p).1
    rwa [List.length_reverse] at this
  rw [List.getElem?_reverse hi] at p
  rw [List.getElem?_reverse (by rw [← h.1]; exact hi), ← h.1] at q
  exact h.2 _ v l p q
theorem Lists.at {H : Hp} {vs : List V} {ls : List (List Int)} (h : Lists H vs ls) {i : Nat} {v : V} (p : vs[i]? = some v) : ∃ l a, ls[i]? = some l ∧ v = .ref a ∧ H a = some (.lst (l.map V.int)) := by
  have hi := (List.getElem?_eq_some_iff.mp p).1
  have q : ls[i]? = some (ls[i]'(by rw [← h.1]; exact hi)) := List.getElem?_eq_getElem _
  obtain ⟨a, e1, e2⟩ := h.2 i v _ p q
  exact ⟨_, a, q, e1, e2⟩
theorem int_get {l : List Int} {i : Nat} {x : V} (h : (l.map V.int)[i]? = some x) : ∃ k, l[i]? = some k ∧ x = V.int k := by
  rw [List.getElem?_map] at h
  cases e : l[i]? with
  | none => rw [e] at h; cases h
  | some k =>
    rw [e] at h
    exact ⟨k, rfl, (Option.some.inj h).symm⟩
theorem int_at {l : List Int} {i : Nat} {k : Int} (h : l[i]? = some k) : (l.map V.int)[i]? = some (V.int k) := by
  rw [List.getElem?_map, h]
  rfl
end Fx

namespace Fx
open PySem PySem.Spec PyProof.Rows L2
/-! ### min of a tuple, a list that grows by a tuple, a tuple once -/
section
variable {pg : Program} {wd : World} {B : Around} {Er : Value → Shared → Prop} {st : Shared} {tp : Addr} {vals : List Value} {nums : List Int} {Z : Value → Shared → Prop}
theorem min_tup (calm : B.handled = none) (isT : st.heap.IsTuple tp vals.toArray) (whole : IntsAre vals nums) (some1 : 0 < nums.length)
    (go : ∀ hp tk M t', (∀ b o, st.heap.get? b = some o → hp.get? b = some o) → M ∈ nums → (∀ a, a ∈ nums → M ≤ a) → Z (.int M t') { st with heap := hp, toks := tk }) : wpAny (model pg wd) B (call (.builtin "min") [.ref tp]) Z Er st := by
  obtain ⟨ys, ey⟩ := whole.allInts.items
  have en : numsOf (intItems ys).toList = nums := ey ▸ whole.numsOf
  rw [nums_intItems] at en
  subst en
  rw [ey] at isT
  have below : tp < st.heap.objs.size := by
    obtain ⟨ob, hob, _⟩ := isT
    exact Heap.lt_size hob
  refine call_min_walk (wpAny_pyIter_tuple isT ?_)
  have st0 : (st.heap.push { cls := .type "tuple_iterator", data := .fields #[.ref tp, .int 0 0] }).IsTupleIter st.heap.objs.size tp 0 := ⟨_, Heap.get?_push_size _ rfl, rfl, rfl⟩
  refine ⟨_, [st.heap.objs.size, tp], [st.heap.objs.size], _, _, _, _, rfl, Walks.tuple (A := B.in1) calm _ tp (Nat.ne_of_lt below) (intItems ys), ⟨st0, isT.push _⟩, fun b hb => ?_, by simpa [intItems] using some1, CmpOf.ints_lt (numAt ys) (fun _ _ => intItems_at), fun v hp tk at' keep => ?_⟩
  · show b < (st.heap.push _).objs.size
    rw [Heap.size_push]
    have hb2 : b = st.heap.objs.size ∨ b = tp := by simpa using hb
    rcases hb2 with e | e
    · rw [e]
      exact Nat.lt_succ_self _
    · rw [e]
      exact Nat.lt_succ_of_lt below
  · have at2 : (intItems ys)[argBest (fun i j => decide (numAt ys i < numAt ys j)) (ys.size - 1)]? = some v := by simpa [intItems] using at'
    obtain ⟨t, rfl⟩ := intItems_at at2
    obtain ⟨lt1, lt2⟩ := argBest_lt (numAt ys) (ys.size - 1)
    have sz : 0 < ys.size := by simpa using some1
    refine go hp tk _ t (fun b o e => keep b o (fun hm => ?_) (Heap.get?_push_of_some _ e)) ?_ fun a ha => ?_
    · have eb : b = st.heap.objs.size := by simpa using hm
      exact absurd (eb ▸ Heap.lt_size e) (Nat.lt_irrefl _)
    · rw [numAt_eq]
      refine PySem.getD_mem ?_
      rw [List.length_map, Array.length_toList]
      omega
    · obtain ⟨j, hj, rfl⟩ := mem_getD ha
      rw [List.length_map, Array.length_toList] at hj
      have := lt2 j (by omega)
      rw [numAt_eq ys j] at this
      exact this
end
section
variable {X : Cx}
def rMinT (K : PySem.W.Frag) : List V → Hp → VK → Prop := fun vs H Q => ∃ (a : Addr) (ns : List Int), vs = [V.ref a] ∧ SqT K H a (ns.map V.int) ∧ 0 < ns.length ∧ ∀ m, m ∈ ns → (∀ y, y ∈ ns → m ≤ y) → Q (.int m) H
theorem cr_minT (hc : X.calm = true) : CallR X (.builtin "min") (rMinT X.K) := by
  intro pins s σ H vs us Q I r h
  obtain ⟨tp, nums, rfl, isT, some1, z⟩ := h
  obtain ⟨vals, rv, plain, _⟩ := I.tuple isT
  rw [Vals.ref1 r]
  have is2 : s.heap.IsTuple tp vals.toArray := plain
  exact min_tup (I.ok.hd hc) is2 rv.ints some1 fun hp tk m t' keep h1 h2 => ⟨.int _, H, I.kept keep, ⟨_, rfl⟩, z m h1 h2⟩
/-- the model's own walk through extend, the tuple whatever its other parts -/
theorem extend_tup (p : Addr) (own : Array Value) (n : Nat) (q : Addr) (more : Array Value) (k : Nat) (dd : Option Addr) (sl : Array (Option Value)) (few : ¬(!own.isEmpty && Builtin.List.listTooLong (own.size + more.size)) = true) (fit1 : own.size ≤ sizeLine) (fit2 : own.size + more.size ≤ sizeLine + 1) :
    Meets (Builtin.«list.extend» ⟨[.ref p, .ref q], []⟩) (fun _ R s => s.heap.get? p = some { cls := .type "list", dict := none, data := .seq own n, slots := #[] } ∧
      s.heap.get? q = some { cls := .type "tuple", dict := dd, data := .seq more k, slots := sl } ∧
      R (.ok (.ret Value.none)) { s with heap := s.heap.update p (Obj.mapSeq fun x => x ++ more), toks := s.toks }) :=
  .of_wp fun prog w A R s ask => by
    obtain ⟨hp, g, d, tk, os⟩ := s
    obtain ⟨at1, at2, ask⟩ := ask
    have i1 := AutoSeq1.idx_int
    have i2 := AutoSeq1.sub_tuple_tuple
    have i3 := AutoSeq1.sub_list_list
    have i4 := AutoSeq1.sub_tuple_list
    have i5 := AutoSeq1.sub_list_tuple
    have fit3 : (own ++ more).size ≤ sizeLine + 1 := by
      rw [Array.size_append]
      exact fit2
    wp_walk using (wpAny_updateSeq at1 rfl (hz := fit1) (_hz' := fit3)), wpAny_loadPart' at1, wpAny_loadPart' at2
    exact ⟨_, rfl, ask⟩
def rExtendT (K : PySem.W.Frag) : V → List V → Hp → VK → Prop := fun x vs H Q => ∃ l b xs zs, x = .ref l ∧ vs = [.ref b] ∧ H l = some (.lst xs) ∧ SqT K H b zs ∧ xs.length + zs.length < sizeLine ∧ Q .non (upd H l (.lst (xs ++ zs)))
theorem mt_extendT : MtM X "list.extend" (rExtendT X.K) := by
  intro pins s σ H x vs v us Q I rx rv h
  obtain ⟨l, b, xs, zs, rfl, rfl, hL, hT, fit, z⟩ := h
  cases rx
  obtain ⟨u, rfl, ru⟩ := rv.one
  cases ru
  obtain ⟨z1, its, n, r1, hl, e1⟩ := I.lstM hL
  obtain ⟨its2, r2, ⟨⟨cls, dd, data, sl⟩, e2, hc2, n2, hd2⟩, hs2⟩ := I.tuple hT
  simp only at hc2 hd2
  subst hc2 hd2
  have l2 : zs.length = its2.length := r2.length
  have fit1 : its.toArray.size + its2.toArray.size ≤ sizeLine := by
    rw [List.size_toArray, List.size_toArray]
    omega
  have few : ¬ (!its.toArray.isEmpty && Builtin.List.listTooLong (its.toArray.size + its2.toArray.size)) = true := by
    rw [notLongL fit1, Bool.and_false]
    exact Bool.false_ne_true
  refine call_meets F.slot_list_extend ⟨_, e1, rfl⟩ F.entry_list_extend (F.args_list_extend_2 _ _) (extend_tup l its.toArray n b its2.toArray n2 dd sl few (by rw [List.size_toArray]; omega) (by omega)) ⟨e1, e2, ?_⟩
  have len : (xs ++ zs).length ≤ sizeLine := by
    rw [List.length_append]
    omega
  exact ⟨.non, _, I.lset (its' := its ++ its2) hL e1 (by simp) (r1.append r2) len, rfl, z⟩
/-- a tuple once is the tuple itself -/
theorem tuple_mul1 (l : Addr) (items : Array Value) (n : Nat) (dd : Option Addr) (sl : Array (Option Value)) (x : Int) (u : Tok) (c0 : (decide (x < -(2 ^ 63)) || decide (x ≥ 2 ^ 63)) = false) (c1 : (items.isEmpty || x == 1) = true) :
    Meets (Builtin.«tuple.__mul__» ⟨[.ref l, .int x u], []⟩) (fun _ R s => s.heap.get? l = some { cls := .type "tuple", dict := dd, data := .seq items n, slots := sl } ∧ R (.ok (.ret (Value.ref l))) { s with heap := s.heap, toks := s.toks }) :=
  .of_wp fun prog w A R s h => by
    obtain ⟨hp, g, d, tk, os⟩ := s
    obtain ⟨hl, h⟩ := h
    have f1 := AutoSeq1.idx_int
    wp_walk using wpAny_loadPart' hl
    repeat (first
      | (refine wpAny_ite_false (decide_eq_false (by rw [c0]; exact Bool.false_ne_true)) ?_; wp_walk using wpAny_loadPart' hl)
      | (refine wpAny_ite_true (decide_eq_true c1) ?_; wp_walk using wpAny_loadPart' hl))
    exact ⟨_, rfl, h⟩
def rRepT1 (K : PySem.W.Frag) : R2 := fun x y H Q => ∃ l k xs, x = .ref l ∧ y = .int k ∧ SqT K H l xs ∧ xs ≠ [] ∧ 1 ≤ k ∧ k ≤ 1000 ∧ xs.length ≤ 1000 ∧ (k = 1 → Q (.ref l) H) ∧ (2 ≤ k → ∀ p, H p = none → Q (.ref p) (upd H p (.tup (List.replicate k.toNat xs).flatten)))
theorem op_repT1 : OpR X (binaryOp .Mult) (rRepT1 X.K) := by
  intro pins s σ H x y v u Q I rx ry h
  obtain ⟨l, k, xs, rfl, rfl, hT, hne, h1, h2, hz, q1, q2⟩ := h
  by_cases c : k = 1
  · subst c
    cases rx
    obtain ⟨t, rfl⟩ := ry
    obtain ⟨its, r, ⟨⟨cls, dd, data, sl⟩, ho, hc, n, hd⟩, hs⟩ := I.tuple hT
    simp only at hc hd
    subst hc hd
    have c0 : (decide ((1 : Int) < -(2 ^ 63)) || decide ((1 : Int) ≥ 2 ^ 63)) = false := by decide
    have c1 : (its.toArray.isEmpty || (1 : Int) == 1) = true := by
      rw [show ((1 : Int) == 1) = true from rfl, Bool.or_true]
    exact wpAny_binaryOp_repeat_ref (T := "tuple") (U := "int") (by decide) ⟨_, ho, rfl⟩ (fun s' => typeIs_int s' 1 t) noFill_tuple_mul F.fills_int_mul F.slot_int_rmul repeat_tuple F.slot_int_index.lookup
      (call_meets F.slot_int_rmul (typeIs_int s 1 t) F.entry_int_rmul (F.args_int_rmul_2 _ _) (int_rmul_tuple 1 t l its.toArray n dd sl)
        ⟨ho, rfl, ⟨_, ho, rfl⟩, call_meets F.slot_tuple_mul ⟨_, ho, rfl⟩ F.entry_tuple_mul (F.args_tuple_mul_2 _ _) (tuple_mul1 l its.toArray n dd sl 1 t c0 c1) ⟨ho, .ref l, H, I, rfl, q1 rfl⟩⟩)
  · exact op_repT pins s σ H _ _ v u Q I rx ry ⟨l, k, xs, rfl, rfl, hT, hne, by omega, h2, hz, q2 (by omega)⟩
end
end Fx

namespace Fx
open PySem PySem.Spec PyProof.Rows L2
/-- all rounds by their least numbers, as they stand in a tuple -/
structure RoundsAt (b p : Nat) (H : Hp) (vs : List V) (ms ks : List Nat) : Prop where
  l1 : vs.length = ms.length
  l2 : ks.length = ms.length
  at' : ∀ (i : Nat) v m k, vs[i]? = some v → ms[i]? = some m → ks[i]? = some k → ∃ t, v = .ref t ∧ H t = some (.tup (ivs (rowN b p m k))) ∧ Rnd b p m k
  srt : ms.Pairwise (· < ·)
  all : ∀ m, m ∈ ms ↔ EndAt b p m 0 m
/-- a slice of a tuple, the whole one or a new one -/
theorem slice_tup {K : PySem.W.Frag} {H : Hp} {a : Addr} {xs : List V} {lo hi : Option Int} {Q : V → Hp → Prop} (h : H a = some (.tup xs)) (k : ∀ H' p, Same H H' → H' p = some (.tup (cutV xs lo hi)) → Q (.ref p) H') : rSlA K (.ref a) lo hi H Q := by
  refine ⟨a, xs, rfl, .of h, fun ⟨z1, z2⟩ => ?_, fun _ p hp => k _ p (Same.new hp) upd_same⟩
  refine k H a (Same.refl _) ?_
  rw [h]
  unfold cutV
  rw [z1, z2, List.drop_zero, Nat.sub_zero, List.take_length]
theorem slice_tupF {K : PySem.W.Frag} {σ : L2.St} {H : Hp} {a : Addr} {xs : List V} {lo : Option Int} {Q : V → Hp → Prop} (h : H a = some (.tup xs)) (k : ∀ H' p, Same H H' → H' p = some (.tup (cutV xs lo none)) → Q (.ref p) H') : tNoPart σ H fun u H3 => rSlA K (.ref a) lo u H3 Q := slice_tup h k
theorem cat_tup {K : PySem.W.Frag} {H : Hp} {a b : Addr} {xs ys : List V} {Q : V → Hp → Prop} (ha : H a = some (.tup xs)) (hb : H b = some (.tup ys)) (l : xs.length + ys.length ≤ sizeLine) (k : ∀ H' p, Same H H' → H' p = some (.tup (xs ++ ys)) → Q (.ref p) H') : rCatA K (.ref a) (.ref b) H Q :=
  ⟨a, b, xs, ys, rfl, rfl, .of ha, .of hb, l, fun e => k H b (Same.refl _) (by subst e; exact hb), fun _ e => k H a (Same.refl _) (by subst e; rw [List.append_nil]; exact ha), fun _ _ p hp => k _ p (Same.new hp) upd_same⟩
theorem rep_flat (v : V) : ∀ n : Nat, (List.replicate n [v]).flatten = List.replicate n v
  | 0 => rfl
  | n + 1 => by
    rw [List.replicate_succ, List.flatten_cons, rep_flat v n, List.replicate_succ]
    rfl
theorem rep_tup {K : PySem.W.Frag} {H : Hp} {a : Addr} {v : V} {n : Nat} {Q : V → Hp → Prop} (h : H a = some (.tup [v])) (h1 : 1 ≤ n) (h2 : n ≤ 1000) (k : ∀ H' p, Same H H' → H' p = some (.tup (List.replicate n v)) → Q (.ref p) H') : rRepT1 K (.ref a) (.int (n : Int)) H Q := by
  refine ⟨a, n, [v], rfl, rfl, .of h, (by simp), by omega, by omega, by show 1 ≤ 1000; omega, fun e => k H a (Same.refl _) ?_, fun _ p hp => k _ p (Same.new hp) ?_⟩
  · obtain rfl : n = 1 := by omega
    exact h
  · rw [upd_same, Int.toNat_natCast, rep_flat]
theorem RoundsAt.same {b p : Nat} {H H' : Hp} {vs : List V} {ms ks : List Nat} (h : RoundsAt b p H vs ms ks) (s : Same H H') : RoundsAt b p H' vs ms ks :=
  ⟨h.l1, h.l2, fun i v m k a1 a2 a3 => by
    obtain ⟨t, x1, x2, x3⟩ := h.at' i v m k a1 a2 a3
    exact ⟨t, x1, s _ _ x2, x3⟩, h.srt, h.all⟩
theorem RoundsAt.get {b p : Nat} {H : Hp} {vs : List V} {ms ks : List Nat} (h : RoundsAt b p H vs ms ks) {i : Nat} {v : V} (e : vs[i]? = some v) : ∃ t m k, v = .ref t ∧ ms[i]? = some m ∧ ks[i]? = some k ∧ H t = some (.tup (ivs (rowN b p m k))) ∧ Rnd b p m k := by
  have li := (List.getElem?_eq_some_iff.mp e).1
  have l1 := h.l1
  have l2 := h.l2
  have e1 : ms[i]? = some (ms[i]'(by omega)) := List.getElem?_eq_getElem _
  have e2 : ks[i]? = some (ks[i]'(by omega)) := List.getElem?_eq_getElem _
  obtain ⟨t, x1, x2, x3⟩ := h.at' i v _ _ e e1 e2
  exact ⟨t, _, _, x1, e1, e2, x2, x3⟩
theorem per_bound {b p x : Nat} (ok : OkN b p) (h : Per b p x) : x < 15000 := by
  obtain ⟨L, hL, l15⟩ := len_ex ok.ok.1 (show Fx.worth (b : Int) (p : Int) ≤ 1024 by have := ok.ok.worth; omega)
  have h1 := per_le ok.hb hL h
  have h2 := Nat.mul_le_mul (show L - 1 ≤ 14 by omega) ok.worth.2
  omega
theorem lt_of_bound {x : Nat} (h : x < 15000) : x < 2 ^ 200 := Nat.lt_of_lt_of_le (show x < 2 ^ 20 by omega) (Nat.pow_le_pow_right (by decide) (by decide))
theorem dpAll_rep {K : PySem.W.Frag} {H : Hp} {d : PyData} : ∀ {vs : List V}, (∀ v ∈ vs, Dp K H v d) → DpAll K H vs (List.replicate vs.length d)
  | [], _ => .nil
  | v :: vs, h => .cons (h v (List.mem_cons_self ..)) (dpAll_rep fun u hu => h u (List.mem_cons_of_mem _ hu))
theorem dpAll_same {K : PySem.W.Frag} {H : Hp} {d : PyData} {v : V} (h : Dp K H v d) : ∀ n : Nat, DpAll K H (List.replicate n v) (List.replicate n d)
  | 0 => .nil
  | n + 1 => .cons h (dpAll_same h n)
theorem canLay_reps (l : List Int) : ∀ n : Nat, PyData.canLayAll0 (List.replicate n (.tuple (dInts l))) = true
  | 0 => rfl
  | n + 1 => by
    rw [List.replicate_succ, PyData.canLayAll0, canLay_reps l n, PyData.canLay0, canLay_ints l]
    rfl
theorem depth_reps (l : List Int) : ∀ n : Nat, PyData.depthAll (List.replicate n (.tuple (dInts l))) ≤ 2
  | 0 => by rw [List.replicate_zero]; unfold PyData.depthAll; decide
  | n + 1 => by
    have h := depth_reps l n
    have g := depth_ints l
    rw [List.replicate_succ]
    unfold PyData.depthAll PyData.depth
    omega
theorem shaped_reps (l : List Int) (n : Nat) : SeqAt.shaped (.tuple (List.replicate n (.tuple (dInts l)))) = true := shaped_tup (canLay_reps l n) (Nat.le_trans (depth_reps l n) (by decide))
end Fx

namespace Fx
open PySem PySem.Spec PyProof.Rows L2
/-! ### zip of a tuple and a list -/
/-- a tuple and a list side by side -/
def SideAt (K : PySem.W.Frag) (H : Hp) (a b : Addr) (xs ys : List V) : Prop := SqT K H a xs ∧ SqL K H b ys
def ItzM (K : PySem.W.Frag) (a b : Addr) : It where
  go := fun i H => ∃ xs ys v u, SideAt K H a b xs ys ∧ xs[i]? = some v ∧ ys[i]? = some u
  yld := fun i H p H' => ∃ R v u, p = .ref R ∧ H R = none ∧ H' = upd H R (.tup [v, u]) ∧ (∀ xs, SqT K H a xs → xs[i]? = some v) ∧ (∀ ys, SqL K H b ys → ys[i]? = some u)
  stop := fun i H => ∃ xs ys, SideAt K H a b xs ys ∧ i ≤ xs.length ∧ i ≤ ys.length ∧ (i = xs.length ∨ i = ys.length)
/-- the five cells of a zip and what they stand for -/
structure ZipCells (a b z p q i j : Addr) (n : Nat) (h : Heap) : Prop where
  self : IsZip h z p q .none
  its : IsTupOf2 h p (.ref i) (.ref j)
  out : ∃ x y, IsTupOf2 h q x y
  one : h.IsTupleIter i a n
  two : h.IsListIter j b n
theorem five {z p q i j c : Addr} {G : Addr → Prop} (hz : G z) (hp : G p) (hq : G q) (hi : G i) (hj : G j) (h : c ∈ [z, p, q, i, j]) : G c := by
  rcases List.mem_cons.mp h with rfl | h
  · exact hz
  rcases List.mem_cons.mp h with rfl | h
  · exact hp
  rcases List.mem_cons.mp h with rfl | h
  · exact hq
  rcases List.mem_cons.mp h with rfl | h
  · exact hi
  cases List.mem_singleton.mp h
  exact hj
theorem notFive {z p q i j c : Addr} (h : c ∉ [z, p, q, i, j]) : c ≠ z ∧ c ≠ p ∧ c ≠ q ∧ c ≠ i ∧ c ≠ j := by
  refine ⟨?_, ?_, ?_, ?_, ?_⟩ <;> (rintro rfl; exact h (by simp))
theorem turn_zipM {P : Program} {w : World} {K : PySem.W.Frag} {elts : List Expr} {kk : Nat} {tpos : Pos} {a b z p q i j : Addr} (S : ZipSep2 z p q i j [i, a] [j, b]) (na : a ≠ i) (nb : b ≠ j) :
    Turn P w K (.Tuple elts kk tpos) (ItzM K a b) [z, p, q, i, j] z (ZipCells a b z p q i j) where
  mem := List.mem_cons_self ..
  obj := fun n h st c hc => by
    obtain ⟨x, y, hq⟩ := st.out
    obtain ⟨o1, e1, _, d1⟩ := st.one
    obtain ⟨o2, e2, _, d2⟩ := st.two
    exact five (G := fun c => ∃ o, h.get? c = some o ∧ ∀ v, o.data ≠ .cell v) ⟨_, st.self, fun v e => nomatch e⟩ ⟨_, st.its, fun v e => nomatch e⟩ ⟨_, hq, fun v e => nomatch e⟩ ⟨o1, e1, fun v e => by rw [d1] at e; cases e⟩ ⟨o2, e2, fun v e => by rw [d2] at e; cases e⟩ hc
  keep := fun n h h' st k => by
    obtain ⟨x, y, hq⟩ := st.out
    exact ⟨k z (by simp) _ st.self, k p (by simp) _ st.its, ⟨x, y, k q (by simp) _ hq⟩, st.one.at fun o e => k i (by simp) o e, st.two.at fun o e => k j (by simp) o e⟩
  item := by
    intro X hP hw hK hc n pins s σ H E I hf st hg
    subst hP hw hK
    have calm := I.ok.hd hc
    obtain ⟨x0, y0, hq⟩ := st.out
    obtain ⟨xs, ys, x, y, ⟨hx, hy⟩, ex, ey⟩ := hg
    obtain ⟨us, r1, p1, _⟩ := I.tuple hx
    obtain ⟨vs, r2, p2, _⟩ := I.list hy
    obtain ⟨u, eu, ru⟩ := r1.get ex
    obtain ⟨v, ev, rv⟩ := r2.get ey
    have lu := (List.getElem?_eq_some_iff.mp eu).1
    have lv := (List.getElem?_eq_some_iff.mp ev).1
    have zl := Heap.lt_size st.self
    refine wpAny_pyNext_zipD2_item S (Draws.tuple (A := X.A.in1) calm i a na us.toArray) (Draws.list (A := X.A.in1) calm j b nb vs.toArray) st.self st.its hq ⟨st.one, p1⟩ ⟨st.two, p2.isList⟩ (by simpa using lu) (by simpa using lv) fun u' v' h1 tk e1 e2 z1 q1 n1 n2 T1 sz1 k1 => ?_
    obtain rfl : u' = u := by
      have e1' : us.toArray[n]? = some u' := e1
      rw [List.getElem?_toArray, eu] at e1'
      exact (Option.some.inj e1').symm
    obtain rfl : v' = v := by
      have e2' : vs.toArray[n]? = some v' := e2
      rw [List.getElem?_toArray, ev] at e2'
      exact (Option.some.inj e2').symm
    refine ⟨_, rfl, wpAny_letOwnedTupleGo_zip (s := { s with heap := h1, toks := tk }) z1 fun h2 z2 b2 => ?_⟩
    have up : ∀ c o, c ≠ z → h1.get? c = some o → h2.get? c = some o := fun c o nc e => (b2.2 c nc).trans e
    have made := up _ _ (Nat.ne_of_gt zl) T1
    have fits : ObjOk X.prog X.w (upd H s.heap.objs.size (.tup [x, y])) h2 s.heap.objs.size (.tup [x, y]) := by
      refine ⟨by show 2 ≤ sizeLine; decide, [u', v'], ?_, ⟨_, made, rfl, _, rfl⟩⟩
      exact .cons ru (.cons rv .nil)
    have J : Inv X pins σ (upd H s.heap.objs.size (.tup [x, y])) { s with heap := h2, toks := tk } := by
      refine I.turnedNew (t' := tk) (ch := [z, p, q, i, j]) (fun c o off e => ?_) hf (Nat.le_refl _) fits
      obtain ⟨c1, _, c3, c4, c5⟩ := notFive off
      exact up c o c1 (k1 c o c1 c3 c4 c5 e)
    refine ⟨.ref s.heap.objs.size, _, J, rfl, ⟨_, x, y, rfl, I.hok.fresh (Nat.le_refl _), rfl, fun l hl => ?_, fun l hl => ?_⟩, ⟨z2, up _ _ S.TIz (k1 _ _ S.TIz S.TITO S.TIi1 S.TIi2 st.its), ⟨_, _, up _ _ S.TOz q1⟩, n1.1.at fun o e => up _ _ S.zi1.symm e, n2.1.at fun o e => up _ _ S.zi2.symm e⟩, fun c hcm => ?_⟩
    · rw [I.tuple_inj hl hx]
      exact ex
    · rw [I.list_inj hl hy]
      exact ey
    · have lt : c < s.heap.objs.size := by
        obtain ⟨_, g1, _⟩ := st.one
        obtain ⟨_, g2, _⟩ := st.two
        exact five (G := fun c => c < s.heap.objs.size) zl (Heap.lt_size st.its) (Heap.lt_size hq) (Heap.lt_size g1) (Heap.lt_size g2) hcm
      rw [upd_ne (Nat.ne_of_lt lt)]
      exact (hf c hcm).1
  done := by
    intro X hP hw hK hc n pins s σ H E I hf st hg
    subst hP hw hK
    have calm := I.ok.hd hc
    obtain ⟨x0, y0, hq⟩ := st.out
    obtain ⟨xs, ys, ⟨hx, hy⟩, b1, b2, ends⟩ := hg
    obtain ⟨us, r1, p1, _⟩ := I.tuple hx
    obtain ⟨vs, r2, p2, _⟩ := I.list hy
    have l1 : us.toArray.size = xs.length := by rw [List.size_toArray, r1.length]
    have l2 : vs.toArray.size = ys.length := by rw [List.size_toArray, r2.length]
    refine wpAny_pyNext_zipD2_end S (Draws.tuple (A := X.A.in1) calm i a na us.toArray) (Draws.list (A := X.A.in1) calm j b nb vs.toArray) st.self st.its hq ⟨st.one, p1⟩ ⟨st.two, p2.isList⟩ (by omega) (by omega) (by omega) fun h1 tk k1 => ⟨rfl, ?_⟩
    refine I.turnedL (t' := tk) (ch := [z, p, q, i, j]) (fun c o off e => ?_) hf
    obtain ⟨c1, _, c3, c4, c5⟩ := notFive off
    exact k1 c o c1 c3 c4 c5 e
  self := fun A n s Q E st h => wpAny_pyIter_zip st.self h
def iZipM (K : PySem.W.Frag) (ta : TA) : TI := fun σ H R => ta σ H fun vs H1 => ∃ a b xs ys, vs = [.ref a, .ref b] ∧ SideAt K H1 a b xs ys ∧ R (ItzM K a b) H1
theorem pi_zipM {X : Cx} {e e2 : Expr} {ta : TA} {p pos tpos : Pos} {elts : List Expr} {kk : Nat} (hg : Gl X "zip") (hm : X.mg "zip" = none) (ha : PA X [e, e2] ta)
    (hs : starEach [e, e2] X.env = (false, eval e X.env) :: starEach [e2] X.env := by rfl) (hpl : (backTo pos (starEach [e2] X.env)).any (·.1) = false := by rfl) :
    PI X (.Tuple elts kk tpos) (.Call (.Name "zip" p) [e, e2] [] pos) (iZipM X.K ta) := by
  refine ⟨fun pins s σ H R I h => Call_ (ld_blt I hg hm PyProof.Rows.boot_zip (PyProof.Rows.callWith_type1 (thn (ha.run pos pins s σ H _ I h) fun ws t ⟨vs, G, J, rs, ask⟩ => ?_) hs hpl))⟩
  obtain ⟨a, b, xs, ys, rfl, ⟨hx, hy⟩, ask⟩ := ask
  obtain ⟨us, r1, p1, _⟩ := J.tuple hx
  obtain ⟨vs, r2, p2, _⟩ := J.list hy
  cases rs with
  | cons k1 rs =>
    cases rs with
    | cons k2 rs =>
    cases rs
    cases k1
    cases k2
    obtain ⟨o1, g1, _⟩ := id p1
    have la := Heap.lt_size g1
    have lb := p2.lt
    refine zip_begins2 (begins_tuple a us.toArray) (begins_list b vs.toArray) p1 p2.isList fun h' z its out i1 i2 _ keep => wpAny_pyIter_zip z ?_
    have new : ∀ c, c ∈ [t.heap.objs.size + 4, t.heap.objs.size + 2, t.heap.objs.size + 3, t.heap.objs.size, t.heap.objs.size + 1] → FpOk X pins G c := fun c hc => by
      have le : t.heap.objs.size ≤ c := five (G := fun c => t.heap.objs.size ≤ c) (Nat.le_add_right ..) (Nat.le_add_right ..) (Nat.le_add_right ..) (Nat.le_refl _) (Nat.le_add_right ..) hc
      exact J.fpOk le (J.hok.fresh le)
    exact ⟨_, _, _, _, G, rfl, J.kept (t' := t.toks) keep, turn_zipM (zip_sep2 (fp1 := [a]) (fp2 := [b]) (fun c hc => by cases List.mem_singleton.mp hc; exact la) (fun c hc => by cases List.mem_singleton.mp hc; exact lb)) (Nat.ne_of_lt la) (Nat.ne_of_lt (Nat.lt_succ_of_lt lb)), ⟨z, its, ⟨_, _, out⟩, ⟨_, i1, rfl, rfl⟩, ⟨_, i2, rfl, rfl⟩⟩, new, ask⟩
theorem walk_zipM {K : PySem.W.Frag} {a b : Addr} {xs ys : List V} {n : Nat} (h1 : xs.length = n) (h2 : ys.length = n) : Walk (ItzM K a b) n (fun H => SideAt K H a b xs ys) (YPair (fun i => xs[i]?) (fun i => ys[i]?)) := by
  refine ⟨fun i _ hi s => ⟨xs, ys, xs[i], ys[i], s, by simp [h1, hi], by simp [h2, hi]⟩, fun _ s => ⟨xs, ys, s, by omega, by omega, .inl h1.symm⟩, fun i H v H' _ s y => ?_⟩
  obtain ⟨T, x, u, e1, e2, e3, e4, e5⟩ := y
  exact ⟨T, x, u, e1, e2, e3, e4 xs s.1, e5 ys s.2⟩
end Fx

namespace Fx
open PySem PySem.Spec PyProof.Rows L2
def topS (i : Nat) : Stmt := PySem.Challenge.pw_figurerounds_k10_ends_told.main.body.getD i (.Pass ⟨0, 0, 0, 0⟩)
abbrev s_figures_of : Stmt := topS 1
theorem sc_figures_of : FnScope ["number", "base", "figures", "rest"] ["number", "base"] (defScope s_figures_of) := ⟨rfl, rfl, rfl, by decide +kernel, rfl, by decide +kernel, by decide +kernel⟩
abbrev s_power_of : Stmt := topS 2
theorem sc_power_of : FnScope ["figure", "power", "worth", "_"] ["figure", "power"] (defScope s_power_of) := ⟨rfl, rfl, rfl, by decide +kernel, rfl, by decide +kernel, by decide +kernel⟩
abbrev s_step_of : Stmt := topS 3
theorem sc_step_of : FnScope ["number", "base", "power", "figure"] ["number", "base", "power"] (defScope s_step_of) := ⟨rfl, rfl, rfl, by decide +kernel, rfl, by decide +kernel, by decide +kernel⟩
abbrev s_way_of : Stmt := topS 7
theorem sc_way_of : FnScope ["number", "base", "power", "places"] ["number", "base", "power"] (defScope s_way_of) := ⟨rfl, rfl, rfl, by decide +kernel, rfl, by decide +kernel, by decide +kernel⟩
abbrev s_end_of : Stmt := topS 5
theorem sc_end_of : FnScope ["number", "base", "power", "way", "away"] ["number", "base", "power"] (defScope s_end_of) := ⟨rfl, rfl, rfl, by decide +kernel, rfl, by decide +kernel, by decide +kernel⟩
abbrev s_ends_of : Stmt := topS 6
theorem sc_ends_of : FnScope ["numbers", "base", "power", "number"] ["numbers", "base", "power"] (defScope s_ends_of) := ⟨rfl, rfl, rfl, by decide +kernel, rfl, by decide +kernel, by decide +kernel⟩
abbrev s__law_folded : Stmt := topS 9
theorem sc__law_folded : FnScope ["script", "found", "cell"] ["script"] (defScope s__law_folded) := ⟨rfl, rfl, rfl, by decide +kernel, rfl, by decide +kernel, by decide +kernel⟩
abbrev s__law_seed : Stmt := topS 10
theorem sc__law_seed : FnScope ["cell", "number"] ["cell"] (defScope s__law_seed) := ⟨rfl, rfl, rfl, by decide +kernel, rfl, by decide +kernel, by decide +kernel⟩
abbrev s__law_draw : Stmt := topS 11
theorem sc__law_draw : FnScope ["seed", "most", "found", "number"] ["seed", "most"] (defScope s__law_draw) := ⟨rfl, rfl, rfl, by decide +kernel, rfl, by decide +kernel, by decide +kernel⟩
abbrev s__law_power : Stmt := topS 12
theorem sc__law_power : FnScope ["number", "often", "found", "turn"] ["number", "often"] (defScope s__law_power) := ⟨rfl, rfl, rfl, by decide +kernel, rfl, by decide +kernel, by decide +kernel⟩
abbrev s__law_worths : Stmt := topS 13
theorem sc__law_worths : FnScope ["base", "often", "figure"] ["base", "often"] (defScope s__law_worths) := ⟨rfl, rfl, rfl, by decide +kernel, rfl, by decide +kernel, by decide +kernel⟩
abbrev s__law_pair : Stmt := topS 14
theorem sc__law_pair : FnScope ["seed", "base", "powers", "often"] ["seed"] (defScope s__law_pair) := ⟨rfl, rfl, rfl, by decide +kernel, rfl, by decide +kernel, by decide +kernel⟩
abbrev s__law_step : Stmt := topS 15
theorem sc__law_step : FnScope ["number", "pair", "found"] ["number", "pair"] (defScope s__law_step) := ⟨rfl, rfl, rfl, by decide +kernel, rfl, by decide +kernel, by decide +kernel⟩
abbrev s__law_end : Stmt := topS 16
theorem sc__law_end : FnScope ["number", "pair", "row", "at", "held", "least"] ["number", "pair"] (defScope s__law_end) := ⟨rfl, rfl, rfl, by decide +kernel, rfl, by decide +kernel, by decide +kernel⟩
abbrev s__law_number : Stmt := topS 17
theorem sc__law_number : FnScope ["seed", "pair", "way", "number", "turn", "often", "figure"] ["seed", "pair"] (defScope s__law_number) := ⟨rfl, rfl, rfl, by decide +kernel, rfl, by decide +kernel, by decide +kernel⟩
abbrev s__law_is_pair : Stmt := topS 18
theorem sc__law_is_pair : FnScope ["found", "due", "one"] ["found", "due"] (defScope s__law_is_pair) := ⟨rfl, rfl, rfl, by decide +kernel, rfl, by decide +kernel, by decide +kernel⟩
abbrev s__law_right : Stmt := topS 19
theorem sc__law_right : FnScope ["numbers", "pair", "due", "number", "away", "row", "found", "one", "other"] ["numbers", "pair"] (defScope s__law_right) := ⟨rfl, rfl, rfl, by decide +kernel, rfl, by decide +kernel, by decide +kernel⟩
abbrev s_law : Stmt := topS 20
theorem sc_law : FnScope ["script", "cell", "seed", "pair", "many", "k"] ["script"] (defScope s_law) := ⟨rfl, rfl, rfl, by decide +kernel, rfl, by decide +kernel, by decide +kernel⟩
structure Txt (K : PySem.W.Frag) (mg : Str → Option Value) where
  f_figures_of : Addr
  fd_figures_of : FuncData
  F_figures_of : Fun K "figures_of" "figures_of" s_figures_of f_figures_of fd_figures_of
  g_figures_of : mg "figures_of" = some (.ref f_figures_of)
  b_figures_of : Binds K fd_figures_of ["number", "base"] []
  f_power_of : Addr
  fd_power_of : FuncData
  F_power_of : Fun K "power_of" "power_of" s_power_of f_power_of fd_power_of
  g_power_of : mg "power_of" = some (.ref f_power_of)
  b_power_of : Binds K fd_power_of ["figure", "power"] []
  f_step_of : Addr
  fd_step_of : FuncData
  F_step_of : Fun K "step_of" "step_of" s_step_of f_step_of fd_step_of
  g_step_of : mg "step_of" = some (.ref f_step_of)
  b_step_of : Binds K fd_step_of ["number", "base", "power"] []
  f_way_of : Addr
  fd_way_of : FuncData
  F_way_of : Fun K "way_of" "way_of" s_way_of f_way_of fd_way_of
  g_way_of : mg "way_of" = some (.ref f_way_of)
  b_way_of : Binds K fd_way_of ["number", "base", "power"] []
  f_end_of : Addr
  fd_end_of : FuncData
  F_end_of : Fun K "end_of" "end_of" s_end_of f_end_of fd_end_of
  g_end_of : mg "end_of" = some (.ref f_end_of)
  b_end_of : Binds K fd_end_of ["number", "base", "power"] []
  f_ends_of : Addr
  fd_ends_of : FuncData
  F_ends_of : Fun K "ends_of" "ends_of" s_ends_of f_ends_of fd_ends_of
  g_ends_of : mg "ends_of" = some (.ref f_ends_of)
  b_ends_of : Binds K fd_ends_of ["numbers", "base", "power"] []
  f__law_folded : Addr
  fd__law_folded : FuncData
  F__law_folded : Fun K "_law_folded" "_law_folded" s__law_folded f__law_folded fd__law_folded
  g__law_folded : mg "_law_folded" = some (.ref f__law_folded)
  b__law_folded : Binds K fd__law_folded ["script"] []
  f__law_seed : Addr
  fd__law_seed : FuncData
  F__law_seed : Fun K "_law_seed" "_law_seed" s__law_seed f__law_seed fd__law_seed
  g__law_seed : mg "_law_seed" = some (.ref f__law_seed)
  b__law_seed : Binds K fd__law_seed ["cell"] []
  f__law_draw : Addr
  fd__law_draw : FuncData
  F__law_draw : Fun K "_law_draw" "_law_draw" s__law_draw f__law_draw fd__law_draw
  g__law_draw : mg "_law_draw" = some (.ref f__law_draw)
  b__law_draw : Binds K fd__law_draw ["seed", "most"] []
  f__law_power : Addr
  fd__law_power : FuncData
  F__law_power : Fun K "_law_power" "_law_power" s__law_power f__law_power fd__law_power
  g__law_power : mg "_law_power" = some (.ref f__law_power)
  b__law_power : Binds K fd__law_power ["number", "often"] []
  f__law_worths : Addr
  fd__law_worths : FuncData
  F__law_worths : Fun K "_law_worths" "_law_worths" s__law_worths f__law_worths fd__law_worths
  g__law_worths : mg "_law_worths" = some (.ref f__law_worths)
  b__law_worths : Binds K fd__law_worths ["base", "often"] []
  f__law_pair : Addr
  fd__law_pair : FuncData
  F__law_pair : Fun K "_law_pair" "_law_pair" s__law_pair f__law_pair fd__law_pair
  g__law_pair : mg "_law_pair" = some (.ref f__law_pair)
  b__law_pair : Binds K fd__law_pair ["seed"] []
  f__law_step : Addr
  fd__law_step : FuncData
  F__law_step : Fun K "_law_step" "_law_step" s__law_step f__law_step fd__law_step
  g__law_step : mg "_law_step" = some (.ref f__law_step)
  b__law_step : Binds K fd__law_step ["number", "pair"] []
  f__law_end : Addr
  fd__law_end : FuncData
  F__law_end : Fun K "_law_end" "_law_end" s__law_end f__law_end fd__law_end
  g__law_end : mg "_law_end" = some (.ref f__law_end)
  b__law_end : Binds K fd__law_end ["number", "pair"] []
  f__law_number : Addr
  fd__law_number : FuncData
  F__law_number : Fun K "_law_number" "_law_number" s__law_number f__law_number fd__law_number
  g__law_number : mg "_law_number" = some (.ref f__law_number)
  b__law_number : Binds K fd__law_number ["seed", "pair"] []
  f__law_is_pair : Addr
  fd__law_is_pair : FuncData
  F__law_is_pair : Fun K "_law_is_pair" "_law_is_pair" s__law_is_pair f__law_is_pair fd__law_is_pair
  g__law_is_pair : mg "_law_is_pair" = some (.ref f__law_is_pair)
  b__law_is_pair : Binds K fd__law_is_pair ["found", "due"] []
  f__law_right : Addr
  fd__law_right : FuncData
  F__law_right : Fun K "_law_right" "_law_right" s__law_right f__law_right fd__law_right
  g__law_right : mg "_law_right" = some (.ref f__law_right)
  b__law_right : Binds K fd__law_right ["numbers", "pair"] []
  f_law : Addr
  fd_law : FuncData
  F_law : Fun K "law" "law" s_law f_law fd_law
  g_law : mg "law" = some (.ref f_law)
  b_law : Binds K fd_law ["script"] []
  m_bool : mg "bool" = none
  m_int : mg "int" = none
  m_isinstance : mg "isinstance" = none
  m_len : mg "len" = none
  m_list : mg "list" = none
  m_max : mg "max" = none
  m_min : mg "min" = none
  m_range : mg "range" = none
  m_sum : mg "sum" = none
  m_tuple : mg "tuple" = none
  m_zip : mg "zip" = none
section
variable {P : Program} {w : World} {K : PySem.W.Frag} {mg : Str → Option Value} {base : Heap}
/-! ### figures_of -/
def sp_figures_of (K : PySem.W.Frag) : Sp := fun vs H Q _ => ∃ n b : Nat, vs = [.int (n : Int), .int (b : Int)] ∧ 2 ≤ b ∧ b ≤ 16 ∧ n < 2 ^ 900 ∧ ∀ H' p, Same H H' → H p = none → H' p = some (.tup (ivs (figs b n))) → Q (.ref p) H'
def W_figures_of (n b : Nat) (H : Hp) (fl : Addr) (m : Nat) (σ' : L2.St) (H' : Hp) : Prop := ∃ pre : List Nat, σ' = [some (.int (n : Int)), some (.int (b : Int)), some (.ref fl), some (.int (m : Int))] ∧ Same H H' ∧ H' fl = some (.lst (ivs pre)) ∧ pre ++ (if m = 0 then [] else lsd b m) = lsd b n
theorem W_figures_of.len {n b : Nat} {pre : List Nat} {r : Nat} (hb : 2 ≤ b) (hn : n < 2 ^ 900) (h : pre ++ (if r = 0 then [] else lsd b r) = lsd b n) : pre.length ≤ 900 := by
  have h1 := congrArg List.length h
  rw [List.length_append] at h1
  have h2 := lsd_len_le hb 899 n hn
  omega
theorem ok_figures_of (T : Txt K mg) : FnOk P w K mg base CX0 1 T.f_figures_of T.fd_figures_of ["number", "base"] (sp_figures_of K) := by
  refine T.F_figures_of.ok sc_figures_of (fun vs H Q E h => ?_) (fun cdv A outer s H vs Q E hr h => ?_)
  · obtain ⟨_, _, rfl, _⟩ := h
    rfl
  · obtain ⟨n, b, rfl, hb, hb16, hn, q⟩ := h
    have wd : ∀ x : Int, CDivW x (b : Int) := fun x => divW 60 (by omega) (by omega)
    refine ⟨_, (pss_cons (ps_set (i := 2) sc_figures_of.nd rfl (Or.inl rfl) (pe_lst (pa_cons (pe_op op_mod (pv 0) (pv 1)) pa_nil)))
      (pss_cons (ps_set (i := 3) sc_figures_of.nd rfl (Or.inl rfl) (pe_op op_fdivW (pv 0) (pv 1)))
      (pss_cons (ps_while PassesOwn.never (pt_cmpR op_gt (pv 3) pe_int (nomark _)) (pss_cons (ps_expr (pe_bm PySem.F.plainAttrs_list PySem.F.slot_list_append PySem.F.type_list_append mt_append (pv 2) (pa_cons (pe_op op_mod (pv 3) (pv 1)) pa_nil)))
      (pss_one (ps_set (i := 3) sc_figures_of.nd rfl (Or.inl rfl) (pe_op op_fdivW (pv 3) (pv 1))))))
      (pss_one (ps_ret (pe_callTy (T := "tuple") call_tuple_of (by rfl) T.m_tuple (by decide +kernel) (pa_cons (pe_revL (pv 2)) pa_nil))))))), ?_⟩
    refine ⟨_, rfl, _, rfl, _, _, rfl, rfl, by walk_at "p", by show 1 ≤ sizeLine; decide, fun fl hfl => ?_⟩
    generalize g1 : upd H fl _ = H1
    obtain ⟨s1, t1⟩ := new_of g1 hfl
    refine ⟨_, rfl, _, rfl, _, _, rfl, rfl, wd _, ?_⟩
    refine ⟨W_figures_of n b H fl, ⟨n / b, [n % b], rfl, s1, t1, (lsd_split hb).symm⟩, ?_⟩
    rintro r σ' H2 ⟨pre, rfl, s2, t2, e⟩
    have lp := W_figures_of.len hb hn e
    refine ⟨_, rfl, _, _, rfl, rfl, _, rfl, ?_⟩
    by_cases h0 : r = 0
    · subst h0
      rw [if_pos rfl, List.append_nil] at e
      subst e
      refine iteF ?_
      refine ⟨_, rfl, fl, _, rfl, .of t2, fun p3 hp3 => ?_⟩
      generalize g3 : upd H2 p3 _ = H3
      obtain ⟨s3, t3⟩ := new_of g3 hp3
      refine ⟨p3, _, rfl, .inl ⟨.of t3, fun p4 hp4 => ?_⟩⟩
      rw [ivs_reverse]
      exact q _ p4 (s2.trans (s3.trans (Same.new hp4))) (s2.free (s3.free hp4)) upd_same
    · have hr : (0 : Int) < (r : Int) := by omega
      rw [decide_eq_true hr]
      refine iteT ⟨Nx (W_figures_of n b H fl) r, Nx.id, ?_⟩
      refine ⟨_, rfl, .inl ⟨rfl, _, .of t2⟩, _, rfl, _, rfl, _, _, rfl, rfl, by walk_at "p", fl, _, _, rfl, rfl, t2, small1000 (by rw [ivs_length]; omega), ?_⟩
      refine ⟨_, rfl, _, rfl, _, _, rfl, rfl, wd _, ?_⟩
      refine ⟨r / b, Nat.div_lt_self (by omega) (by omega), pre ++ [r % b], rfl, same_own s2 hfl, ?_, ?_⟩
      · rw [upd_same, ivs_append]
        rfl
      · rw [if_neg h0, lsd_split hb] at e
        rw [List.append_assoc]
        exact e

/-! ### power_of -/
def sp_power_of (K : PySem.W.Frag) : Sp := fun vs H Q _ => ∃ f p : Int, vs = [.int f, .int p] ∧ 0 ≤ p ∧ p < 2 ^ 62 ∧ -(2 ^ 64) < f ∧ f < 2 ^ 64 ∧ Q (.int (f ^ p.toNat)) H
theorem ok_power_of (T : Txt K mg) : FnOk P w K mg base CX0 1 T.f_power_of T.fd_power_of ["figure", "power"] (sp_power_of K) := by
  refine T.F_power_of.ok sc_power_of (fun vs H Q E h => ?_) (fun cdv A outer s H vs Q E hr h => ?_)
  · obtain ⟨_, _, rfl, _⟩ := h
    rfl
  · obtain ⟨f, p, rfl, h0, h1, h2, h3, q⟩ := h
    refine ⟨_, (pss_cons (ps_set (i := 2) sc_power_of.nd rfl (Or.inl rfl) pe_int)
      (pss_cons (ps_for PassesOwn.never rfl (pi_range1 (by rfl) T.m_range (pa_cons (pv 1) pa_nil)) (pg_name (i := 3) sc_power_of.nd rfl (Or.inl rfl)) (pss_one (ps_set (i := 2) sc_power_of.nd rfl (Or.inl rfl) (pe_op op_mul (pv 2) (pv 0)))))
      (pss_one (ps_ret (pv 2))))), ?_⟩
    refine ⟨_, rfl, _, rfl, by omega, by omega, for_range (lo := 0) (n := p.toNat) (fun i σ' H' => H' = H ∧ ∃ y, σ' = [some (.int f), some (.int p), some (.int (f ^ i)), y]) ⟨rfl, none, by rw [Int.pow_zero]; rfl⟩ ?_ ?_⟩
    · rintro i σ' H' hi ⟨rfl, y, rfl⟩
      refine ⟨_, rfl, _, rfl, _, _, rfl, rfl, .inr ⟨h2, h3⟩, rfl, some (.int (0 + i)), ?_⟩
      rw [Int.pow_succ]
      rfl
    · rintro σ' H' ⟨rfl, y, rfl⟩
      exact ⟨_, rfl, q⟩

/-! ### step_of -/
def sp_step_of (K : PySem.W.Frag) : Sp := fun vs H Q _ => ∃ n b p : Nat, vs = [.int (n : Int), .int (b : Int), .int (p : Int)] ∧ 2 ≤ b ∧ b ≤ 16 ∧ p ≤ 10 ∧ n < 2 ^ 900 ∧ ∀ H', Same H H' → Q (.int (stepN b p n : Nat)) H'
theorem ok_step_of (T : Txt K mg) : FnOk P w K mg base CX0 2 T.f_step_of T.fd_step_of ["number", "base", "power"] (sp_step_of K) := by
  refine T.F_step_of.ok sc_step_of (fun vs H Q E h => ?_) (fun cdv A outer s H vs Q E hr h => ?_)
  · obtain ⟨_, _, _, rfl, _⟩ := h
    rfl
  · obtain ⟨n, b, p, rfl, hb, hb16, hp, hn, q⟩ := h
    have fl := figs_le hb hn
    refine ⟨_, (pss_one (ps_ret (pe_callB (id := "sum") (cr_sum rfl) (by rfl) T.m_sum (by decide +kernel) (pa_cons (pe_lc (own := [("figure", 3)]) (g := (gName 3)) (tt := tYes) rfl sc_step_of.nd (pi_tup (pe_call (ok_figures_of T) hr (by rfl) T.g_figures_of T.F_figures_of.kp T.b_figures_of .nil pass0 (pa_cons (pv 0) (pa_cons (pv 1) pa_nil)))) (blkOk_by (own := [("figure", 3)]) (N := ["number", "base", "power", "figure"]) (sc := defScope s_step_of) (by decide +kernel)) (fun _ _ _ _ _ => (pg_name (i := 3) sc_step_of.nd rfl (Or.inl rfl))) (fun _ _ _ _ _ => pts_nil) (fun _ _ _ _ _ => (pe_call (ok_power_of T) hr (by rfl) T.g_power_of T.F_power_of.kp T.b_power_of .nil pass0 (pa_cons (pv 3) (pa_cons (pv 2) pa_nil))))) pa_nil)))), ?_⟩
    refine ⟨_, rfl, _, rfl, n, b, rfl, hb, hb16, hn, fun H1 t s1 n1 e1 => ⟨t, rfl, ⟨_, .of e1⟩, fun D hD => ?_⟩⟩
    refine lc_tup (xs := ivs (figs b n)) (fun i H' => Same H1 H' ∧ H' D = some (.lst (ivs (((figs b n).take i).map (· ^ p))))) ⟨Same.new hD, upd_same⟩ ?_ ?_ ?_
    · rintro i H' hi ⟨s2, e2⟩
      exact .of (s2 _ _ e1)
    · rintro i x H' hx ⟨s2, e2⟩
      obtain ⟨k, hk, rfl⟩ := ivs_get hx
      have kb := figs_below hb (List.mem_of_getElem? hk)
      have hi : i < (figs b n).length := (List.getElem?_eq_some_iff.mp hk).1
      refine ⟨rfl, _, rfl, _, rfl, (k : Int), (p : Int), rfl, by omega, by omega, by omega, by omega, ?_⟩
      refine ⟨_, e2, small1000 ?_, same_own s2 hD, ?_⟩
      · rw [ivs_length, List.length_map, List.length_take]
        omega
      · rw [upd_same, List.take_add_one, hk, List.map_append, ivs_append]
        show some (HO.lst (_ ++ [V.int ((k : Int) ^ p)])) = some (HO.lst (_ ++ [V.int ((k ^ p : Nat) : Int)]))
        rw [Int.natCast_pow]
    · rintro H' ⟨s2, e2⟩
      rw [ivs_length, List.take_length, ivs_map] at e2
      refine ⟨D, _, rfl, .of e2, ?_⟩
      rw [sum_cast]
      exact q H' (s1.trans s2)

/-! ### way_of -/
def sp_way_of (K : PySem.W.Frag) : Sp := fun vs H Q _ => ∃ n b p : Nat, vs = [.int (n : Int), .int (b : Int), .int (p : Int)] ∧ OkN b p ∧ n < 2 ^ 200 ∧ ∀ H' t w A L, Same H H' → H t = none → H' t = some (.tup [.ref w, .int ((A : Nat) : Int)]) → H w = none → H' w = some (.lst (ivs (rowN b p n L))) → Way b p n A L → Q (.ref t) H'
def W_way_of (n b p : Nat) (H : Hp) (P : Addr) (m : Nat) (σ' : L2.St) (H' : Hp) : Prop := ∃ L : Nat, m = 15031 - L ∧ σ' = [some (.int ((itN b p n L : Nat) : Int)), some (.int (b : Int)), some (.int (p : Int)), some (.ref P)] ∧ Same H H' ∧ H' P = some (.dK (kvsOf (fun i => ((itN b p n i : Nat) : Int)) (fun i => .int (i : Int)) L)) ∧ ∀ i j, i < L → j < L → itN b p n i = itN b p n j → i = j
theorem ok_way_of (T : Txt K mg) : FnOk P w K mg base CX0 3 T.f_way_of T.fd_way_of ["number", "base", "power"] (sp_way_of K) := by
  refine T.F_way_of.ok sc_way_of (fun vs H Q E h => ?_) (fun cdv A outer s H vs Q E hr h => ?_)
  · obtain ⟨_, _, _, rfl, _⟩ := h
    rfl
  · obtain ⟨n, b, p, rfl, ok, hn, q⟩ := h
    have nr := near_of ok hn
    refine ⟨_, (pss_cons (ps_set (i := 3) sc_way_of.nd rfl (Or.inl rfl) pe_dnewK)
      (pss_cons (ps_while PassesOwn.never (pt_cmp (pc_dnotin (hu_of hr) (pv 0) (pv 3)) rfl) (pss_cons (ps_dput (hu_of hr) (pv 3) (pv 0) (pe_callB (id := "len") call_lenD (by rfl) T.m_len (by decide +kernel) (pa_cons (pv 3) pa_nil)) rfl)
      (pss_one (ps_set (i := 0) sc_way_of.nd rfl (Or.inl rfl) (pe_call (ok_step_of T) hr (by rfl) T.g_step_of T.F_step_of.kp T.b_step_of .nil pass0 (pa_cons (pv 0) (pa_cons (pv 1) (pa_cons (pv 2) pa_nil))))))))
      (pss_one (ps_ret (pe_tup (pa_cons (pe_callTy (T := "list") (call_list_dK rfl) (by rfl) T.m_list (by decide +kernel) (pa_cons (pv 3) pa_nil)) (pa_cons (pe_dget (hu_of hr) (pv 3) (pv 0) (fun _ _ => rfl)) pa_nil))))))), ?_⟩
    refine fun P hP => ?_
    generalize g1 : upd H P _ = H1
    obtain ⟨s1, t1⟩ := new_of g1 hP
    refine ⟨W_way_of n b p H P, ⟨15031, 0, rfl, rfl, s1, t1, fun i j hi => by omega⟩, ?_⟩
    rintro m σ' H2 ⟨L, rfl, rfl, s2, t2, nd⟩
    have lL := nr.rep nd
    by_cases c : ∃ i, i < L ∧ itN b p n i = itN b p n L
    · obtain ⟨A, hA, e⟩ := c
      have v : valV (kvsOf (fun i => ((itN b p n i : Nat) : Int)) (fun i => V.int (i : Int)) L) (Sum.inl ((itN b p n L : Nat) : Int) : Key) = some (.int (A : Int)) := by
        rw [← e]
        exact kvsOf_some (f := fun i => ((itN b p n i : Nat) : Int)) (g := fun i => V.int (i : Int)) (fun i j hi hj z => nd i j hi hj (Int.ofNat.inj z)) hA
      refine ⟨_, rfl, _, rfl, P, some (.int (A : Int)), rfl, dget (k := Sum.inl _) t2 v, false, rfl, iteF ?_⟩
      refine ⟨_, rfl, P, _, rfl, t2, fun w hw => ?_⟩
      rw [kvsOf_keys]
      generalize g3 : upd H2 w _ = H3
      obtain ⟨s3, t3⟩ := new_of g3 hw
      have t3' : H3 w = some (.lst (ivs (rowN b p n L))) := by
        rw [t3, rowN_eq]
        unfold ivs
        rw [List.map_map]
        rfl
      refine ⟨_, rfl, _, rfl, P, _, rfl, dget (k := Sum.inl _) (s3 _ _ t2) v, by show 2 ≤ sizeLine; decide, fun t ht => ?_⟩
      exact q _ t w A L (s2.trans (s3.trans (Same.new ht))) (s2.free (s3.free ht)) upd_same (s2.free hw) (Same.new ht _ _ t3') ⟨hA, e.symm, nd⟩
    · have v : valV (kvsOf (fun i => ((itN b p n i : Nat) : Int)) (fun i => V.int (i : Int)) L) (Sum.inl ((itN b p n L : Nat) : Int) : Key) = none := kvsOf_none fun i hi z => c ⟨i, hi, Int.ofNat.inj z⟩
      refine ⟨_, rfl, _, rfl, P, none, rfl, dget (k := Sum.inl _) t2 v, true, rfl, iteT ⟨Nx (W_way_of n b p H P) (15031 - L), Nx.id, ?_⟩⟩
      refine ⟨_, rfl, P, _, rfl, t2, ?_⟩
      rw [kvsOf_len]
      refine ⟨_, rfl, _, rfl, P, _, rfl, .k (k := Sum.inl _) t2 (small_len (by rw [kvsOf_len]; omega)), ?_⟩
      have z := kvsOf_put (f := fun i => ((itN b p n i : Nat) : Int)) (g := fun i => V.int (i : Int)) (L := L) fun i hi z => c ⟨i, hi, Int.ofNat.inj z⟩
      rw [z]
      have s3 := same_own (o := .dK (kvsOf (fun i => ((itN b p n i : Nat) : Int)) (fun i => V.int (i : Int)) (L + 1))) s2 hP
      refine ⟨_, rfl, _, rfl, _, rfl, itN b p n L, b, p, rfl, ok.hb, ok.hb16, ok.hp, lt200 (itN_lt200 ok hn L), fun H4 s4 => ?_⟩
      refine ⟨15031 - (L + 1), by omega, L + 1, rfl, rfl, s3.trans s4, s4 _ _ upd_same, fun i j hi hj ez => ?_⟩
      by_cases ci : i = L
      · by_cases cj : j = L
        · omega
        · subst ci
          exact absurd ⟨j, by omega, ez.symm⟩ c
      · by_cases cj : j = L
        · subst cj
          exact absurd ⟨i, by omega, ez⟩ c
        · exact nd i j (by omega) (by omega) ez

/-! ### end_of -/
def sp_end_of (K : PySem.W.Frag) : Sp := fun vs H Q _ => ∃ n b p : Nat, vs = [.int (n : Int), .int (b : Int), .int (p : Int)] ∧ OkN b p ∧ n < 2 ^ 200 ∧ ∀ H' t A m, Same H H' → H t = none → H' t = some (.tup (ivs [A, m])) → EndAt b p n A m → Q (.ref t) H'
theorem ok_end_of (T : Txt K mg) : FnOk P w K mg base CX0 4 T.f_end_of T.fd_end_of ["number", "base", "power"] (sp_end_of K) := by
  refine T.F_end_of.ok sc_end_of (fun vs H Q E h => ?_) (fun cdv A outer s H vs Q E hr h => ?_)
  · obtain ⟨_, _, _, rfl, _⟩ := h
    rfl
  · obtain ⟨n, b, p, rfl, ok, hn, q⟩ := h
    refine ⟨_, (pss_cons (ps_asg (pe_call (ok_way_of T) hr (by rfl) T.g_way_of T.F_way_of.kp T.b_way_of .nil pass0 (pa_cons (pv 0) (pa_cons (pv 1) (pa_cons (pv 2) pa_nil)))) (pg_tup rfl (pgs_cons (pg_name (i := 3) sc_end_of.nd rfl (Or.inl rfl)) (pgs_cons (pg_name (i := 4) sc_end_of.nd rfl (Or.inl rfl)) pgs_nil))))
      (pss_one (ps_ret (pe_tup (pa_cons (pv 4) (pa_cons (pe_callB (id := "min") (cr_min rfl) (by rfl) T.m_min (by decide +kernel) (pa_cons (pe_slice sl_list (pv 3) (po_some (pv 4)) po_none) pa_nil)) pa_nil)))))), ?_⟩
    refine ⟨_, rfl, _, rfl, _, rfl, n, b, p, rfl, ok, hn, fun H1 t w A L s1 nt et nw ew wy => ?_⟩
    have lt := wy.lt
    refine ⟨t, _, rfl, .of et, rfl, _, _, rfl, _, _, rfl, rfl, ?_⟩
    refine ⟨_, rfl, _, rfl, _, rfl, _, rfl, w, _, rfl, .of ew, fun D hD => ?_⟩
    rw [cut_ivs_from]
    generalize g2 : upd H1 D _ = H2
    obtain ⟨s2, t2⟩ := new_of g2 hD
    rw [rowN_drop, ivs_map] at t2
    refine ⟨D, _, rfl, .of t2, by rw [List.length_map, rowN_len]; omega, fun m h1 h2 => ?_⟩
    obtain ⟨k, hk, rfl⟩ := List.mem_map.mp h1
    obtain ⟨i, hi, rfl⟩ := mem_rowN.mp hk
    refine ⟨by show 2 ≤ sizeLine; decide, fun T hT => ?_⟩
    refine q _ T A _ (s1.trans (s2.trans (Same.new hT))) (s1.free (s2.free hT)) upd_same (wy.end_of ⟨A + i, by omega, by omega, itN_add ..⟩ fun j j1 j2 => ?_)
    have := h2 ((itN b p n j : Nat) : Int) (List.mem_map.mpr ⟨_, mem_rowN.mpr ⟨j - A, by omega, rfl⟩, by rw [← itN_add, show A + (j - A) = j by omega]⟩)
    omega

/-! ### ends_of -/
/-- where numbers end, one by one, as it stands in a tuple -/
structure EndsAt (b p : Nat) (H : Hp) (vs : List V) (ns : List Nat) : Prop where
  len : vs.length = ns.length
  at' : ∀ (i : Nat) v n, vs[i]? = some v → ns[i]? = some n → ∃ t A m, v = .ref t ∧ H t = some (.tup (ivs [A, m])) ∧ EndAt b p n A m
def sp_ends_of (K : PySem.W.Frag) : Sp := fun vs H Q _ => ∃ (t : Addr) (ns : List Nat) (b p : Nat), vs = [.ref t, .int (b : Int), .int (p : Int)] ∧ OkN b p ∧ H t = some (.tup (ivs ns)) ∧ (∀ n ∈ ns, n < 2 ^ 200) ∧ ns.length ≤ 1000 ∧ ∀ H' T vs, Same H H' → H T = none → H' T = some (.tup vs) → EndsAt b p H' vs ns → Q (.ref T) H'
theorem ok_ends_of (T : Txt K mg) : FnOk P w K mg base CX0 5 T.f_ends_of T.fd_ends_of ["numbers", "base", "power"] (sp_ends_of K) := by
  refine T.F_ends_of.ok sc_ends_of (fun vs H Q E h => ?_) (fun cdv A outer s H vs Q E hr h => ?_)
  · obtain ⟨_, _, _, _, rfl, _⟩ := h
    rfl
  · obtain ⟨t, ns, b, p, rfl, ok, et, hn, hl, q⟩ := h
    refine ⟨_, (pss_one (ps_ret (pe_callTy (T := "tuple") call_tuple_of (by rfl) T.m_tuple (by decide +kernel) (pa_cons (pe_lc (own := [("number", 3)]) (g := (gName 3)) (tt := tYes) rfl sc_ends_of.nd (pi_tup (pv 0)) (blkOk_by (own := [("number", 3)]) (N := ["numbers", "base", "power", "number"]) (sc := defScope s_ends_of) (by decide +kernel)) (fun _ _ _ _ _ => (pg_name (i := 3) sc_ends_of.nd rfl (Or.inl rfl))) (fun _ _ _ _ _ => pts_nil) (fun _ _ _ _ _ => (pe_call (ok_end_of T) hr (by rfl) T.g_end_of T.F_end_of.kp T.b_end_of .nil pass0 (pa_cons (pv 3) (pa_cons (pv 1) (pa_cons (pv 2) pa_nil)))))) pa_nil)))), ?_⟩
    refine ⟨_, rfl, t, rfl, ⟨_, .of et⟩, fun D hD => lc_tup (xs := ivs ns) (fun i H' => Same H H' ∧ ∃ vs : List V, H' D = some (.lst vs) ∧ vs.length = i ∧ ∀ (j : Nat) v n, vs[j]? = some v → ns[j]? = some n → ∃ t A m, v = .ref t ∧ H' t = some (.tup (ivs [A, m])) ∧ EndAt b p n A m) ⟨Same.new hD, [], upd_same, rfl, fun j v n e => by simp at e⟩ ?_ ?_ ?_⟩
    · rintro i H' hi ⟨z, _⟩
      exact .of (z _ _ et)
    · rintro i x H3 hx ⟨s3, vs, e3, lv, at3⟩
      obtain ⟨n, hm, rfl⟩ := ivs_get hx
      have hi := (List.getElem?_eq_some_iff.mp hm).1
      refine ⟨rfl, _, rfl, _, rfl, _, rfl, n, b, p, rfl, ok, hn n (List.mem_of_getElem? hm), fun H4 u A m s4 nu eu en => ?_⟩
      have e4 := s4 _ _ e3
      have nuD : ∀ x xs, H4 x = some (HO.tup xs) → x ≠ D := fun x xs e => ne_of e e4 fun z => by cases z
      refine ⟨vs, e4, small_len (by omega), same_own (s3.trans s4) hD, vs ++ [.ref u], upd_same, by rw [List.length_append, lv]; rfl, fun j v n' a1 a2 => ?_⟩
      by_cases cj : j < i
      · rw [List.getElem?_append_left (by omega)] at a1
        obtain ⟨t', A', m', x1, x2, x3⟩ := at3 j v n' a1 a2
        have x2' := s4 _ _ x2
        exact ⟨t', A', m', x1, by rw [upd_ne (nuD _ _ x2')]; exact x2', x3⟩
      · have jl : j < (vs ++ [V.ref u]).length := (List.getElem?_eq_some_iff.mp a1).1
        rw [List.length_append] at jl
        have ji : j = i := by
          have : [V.ref u].length = 1 := rfl
          omega
        subst ji
        rw [List.getElem?_append_right (by omega), lv, Nat.sub_self] at a1
        cases a1
        rw [hm] at a2
        cases a2
        exact ⟨u, A, m, rfl, by rw [upd_ne (nuD _ _ eu)]; exact eu, en⟩
    · rintro H3 ⟨s3, vs, e3, lv, at3⟩
      rw [ivs_length] at lv
      refine ⟨D, _, rfl, .inl ⟨.of e3, fun T hT => ?_⟩⟩
      exact q _ T vs (s3.trans (Same.new hT)) (s3.free hT) upd_same ⟨lv, fun i v n a1 a2 => by
        obtain ⟨t, A, m, x1, x2, x3⟩ := at3 i v n a1 a2
        exact ⟨t, A, m, x1, Same.new hT _ _ x2, x3⟩⟩

/-! ### _law_folded -/
def sp__law_folded (K : PySem.W.Frag) : Sp := fun vs H Q _ => ∃ (a : Addr) (ns : List Int), vs = [.ref a] ∧ SqL K H a (ns.map V.int) ∧ ∀ r : Int, Q (.int r) H
theorem ok__law_folded (T : Txt K mg) : FnOk P w K mg base CX0 1 T.f__law_folded T.fd__law_folded ["script"] (sp__law_folded K) := by
  refine T.F__law_folded.ok sc__law_folded (fun vs H Q E h => ?_) (fun cdv A outer s H vs Q E hr h => ?_)
  · obtain ⟨_, _, rfl, _⟩ := h
    rfl
  · obtain ⟨a, ns, rfl, hS, q⟩ := h
    refine ⟨_, (pss_cons (ps_set (i := 1) sc__law_folded.nd rfl (Or.inl rfl) (pe_callB (id := "len") call_len_seq (by rfl) T.m_len (by decide +kernel) (pa_cons (pv 0) pa_nil)))
      (pss_cons (ps_for PassesOwn.never rfl (pi_list (pv 0)) (pg_name (i := 2) sc__law_folded.nd rfl (Or.inl rfl)) (pss_one (ps_set (i := 1) sc__law_folded.nd rfl (Or.inl rfl) (pe_op op_mod (pe_op op_add (pe_op op_mul (pv 1) pe_int) (pe_op op_mod (pv 2) pe_int)) pe_int))))
      (pss_one (ps_ret (pv 1))))), ?_⟩
    refine ⟨_, rfl, a, _, rfl, .inl hS, ?_⟩
    refine ⟨_, rfl, a, rfl, ⟨_, hS⟩, for_list (xs := ns.map V.int) (fun i σ' H' => H' = H ∧ ∃ (r : Int) (y : Option V), σ' = [some (.ref a), some (.int r), y]) ⟨rfl, _, none, rfl⟩ ?_ ?_ ?_⟩
    · rintro i σ' H' hi ⟨rfl, _⟩
      exact hS
    · rintro i x σ' H' hx ⟨rfl, r, y, rfl⟩
      obtain ⟨c, hc, rfl⟩ := int_get hx
      exact ⟨_, rfl, _, _, rfl, rfl, .inr (by decide), _, rfl, _, _, rfl, rfl, by walk_at "p", _, _, rfl, rfl, _, _, rfl, rfl, by walk_at "p", rfl, _, _, rfl⟩
    · rintro σ' H' ⟨rfl, r, y, rfl⟩
      exact ⟨_, rfl, q r⟩

/-! ### _law_seed -/
def sp__law_seed (K : PySem.W.Frag) : Sp := fun vs H Q _ => ∃ x : Int, vs = [.int x] ∧ ∀ H' d, Same H H' → H d = none → Seed H' d → Q (.ref d) H'
theorem ok__law_seed (T : Txt K mg) : FnOk P w K mg base CX0 1 T.f__law_seed T.fd__law_seed ["cell"] (sp__law_seed K) := by
  refine T.F__law_seed.ok sc__law_seed (fun vs H Q E h => ?_) (fun cdv A outer s H vs Q E hr h => ?_)
  · obtain ⟨_, rfl, _⟩ := h
    rfl
  · obtain ⟨x, rfl, q⟩ := h
    refine ⟨_, (pss_cons (ps_set (i := 1) sc__law_seed.nd rfl (Or.inl rfl) (pe_callB (id := "max") (call_max2 rfl) (by rfl) T.m_max (by decide +kernel) (pa_cons (pv 0) (pa_cons (pe_op op_sub pe_int (pv 0)) pa_nil))))
      (pss_one (ps_ret (pe_lst (pa_cons (pv 1) (pa_cons (pe_callTy (T := "int") call_int1 (by rfl) T.m_int (by decide +kernel) (pa_cons (pe_cmpR op_ge (pv 1) (pe_op op_pow pe_int pe_int) (nomark _)) pa_nil)) (pa_cons pe_int (pa_cons (pe_op op_mod (pv 0) pe_int) pa_nil)))))))), ?_⟩
    refine ⟨_, rfl, _, rfl, _, _, rfl, rfl, _, _, rfl, ?_⟩
    refine ⟨_, rfl, _, rfl, 10, 18, rfl, rfl, ⟨by decide, by decide, by decide⟩, _, _, rfl, rfl, .inr ⟨_, rfl, ?_⟩⟩
    refine ⟨_, rfl, _, _, rfl, rfl, by walk_at "p", by show 4 ≤ sizeLine; decide, fun d hd => ?_⟩
    exact q _ d (Same.new hd) hd ⟨_, _, _, _, upd_same⟩

/-! ### _law_draw -/
def sp__law_draw (K : PySem.W.Frag) : Sp := fun vs H Q _ => ∃ (d : Addr) (m : Int), vs = [.ref d, .int m] ∧ Seed H d ∧ 0 < m ∧ m < 2 ^ 900 ∧ ∀ H' (r : Int), But d H H' → Seed H' d → 0 ≤ r → r < m → Q (.int r) H'
theorem ok__law_draw (T : Txt K mg) : FnOk P w K mg base CX0 1 T.f__law_draw T.fd__law_draw ["seed", "most"] (sp__law_draw K) := by
  refine T.F__law_draw.ok sc__law_draw (fun vs H Q E h => ?_) (fun cdv A outer s H vs Q E hr h => ?_)
  · obtain ⟨_, _, rfl, _⟩ := h
    rfl
  · obtain ⟨d, m, rfl, ⟨a, f, t, r, eD⟩, m0, m9, q⟩ := h
    have hw : ∀ x : Int, CDivW x m := fun x => divW 900 m0 m9
    have r0 : ∀ x : Int, 0 ≤ x % m := fun x => Int.emod_nonneg _ (by omega)
    have r1 : ∀ x : Int, x % m < m := fun x => Int.emod_lt_of_pos _ m0
    refine ⟨_, (pss_cons (ps_asg (pe_op op_add (pe_ix ix_list (pv 0) pe_int (fun _ _ => rfl)) pe_int) (pg_sub (pv 0) pe_int set_list))
      (C8.pss_cut (ps_if (PW.pt (pw_and (pt_cmpR op_eq (pe_ix ix_list (pv 0) pe_int (fun _ _ => rfl)) pe_int (nomark _)) (pw_and1 (pt_cmpR op_gt (pe_ix ix_list (pv 0) pe_int (fun _ _ => rfl)) pe_int (nomark _))))) (pss_cons (ps_set (i := 2) sc__law_draw.nd rfl (Or.inl rfl) (pe_op op_mod (pe_ix ix_list (pv 0) pe_int (fun _ _ => rfl)) (pv 1)))
      (pss_cons (ps_asg (pe_op op_fdivW (pe_ix ix_list (pv 0) pe_int (fun _ _ => rfl)) (pv 1)) (pg_sub (pv 0) pe_int set_list))
      (pss_one (ps_ret (pv 2))))) pss_nil)
      (pss_cons (ps_set (i := 3) sc__law_draw.nd rfl (Or.inl rfl) (pe_op op_mod (pe_op op_mul (pe_op op_add (pe_op op_add (pe_ix ix_list (pv 0) pe_int (fun _ _ => rfl)) (pe_op op_mul pe_int (pe_ix ix_list (pv 0) pe_int (fun _ _ => rfl)))) pe_int) pe_int) pe_int))
      (pss_cons (ps_set (i := 3) sc__law_draw.nd rfl (Or.inl rfl) (pe_op op_mod (pe_op op_mul (pe_op op_mod (pe_op op_mul (pv 3) (pv 3)) pe_int) pe_int) pe_int))
      (pss_one (ps_ret (pe_op op_mod (pe_op op_fdivW (pv 3) pe_int) (pv 1)))))))), ?_⟩
    refine ⟨_, rfl, d, _, 2, .int t, rfl, rfl, .of eD, atI_nat (j := 2) rfl, _, _, rfl, rfl, _, rfl, d, _, 2, 2, rfl, rfl, eD, rfl, ?_⟩
    generalize g1 : upd H d _ = H1
    obtain ⟨b1, e1⟩ := set_of g1
    have e1' : H1 d = some (.lst [.int a, .int f, .int (t + 1), .int r]) := e1
    refine ⟨fun σ' H' => H' = H1 ∧ σ' = [some (.ref d), some (.int m), none, none], ?_, ?_⟩
    · refine ⟨_, rfl, d, _, 1, .int f, rfl, rfl, .of e1', atI_nat (j := 1) rfl, rfl, _, rfl, ite2 (fun c => ?_) (fun c => ?_)⟩
      · refine ⟨_, rfl, d, _, 0, .int a, rfl, rfl, .of e1', atI_nat (j := 0) rfl, _, _, rfl, rfl, _, rfl, ite2 (fun c2 => ?_) (fun c2 => ?_)⟩
        · refine ⟨_, rfl, d, _, 0, .int a, rfl, rfl, .of e1', atI_nat (j := 0) rfl, _, rfl, _, _, rfl, rfl, m0, ?_⟩
          refine ⟨_, rfl, d, _, 0, .int a, rfl, rfl, .of e1', atI_nat (j := 0) rfl, _, rfl, _, _, rfl, rfl, hw _, _, rfl, d, _, 0, 0, rfl, rfl, e1', rfl, ?_⟩
          refine ⟨_, rfl, q _ _ (b1.trans But.set) ⟨_, _, _, _, upd_same⟩ (r0 _) (r1 _)⟩
        · exact ⟨rfl, rfl⟩
      · exact ⟨rfl, rfl⟩
    · rintro σ' H' ⟨rfl, rfl⟩
      refine ⟨_, rfl, d, _, 3, .int r, rfl, rfl, .of e1', atI_nat (j := 3) rfl, _, rfl, d, _, 2, .int (t + 1), rfl, rfl, .of e1', atI_nat (j := 2) rfl, _, _, rfl, rfl, .inl (by decide), _, _, rfl, rfl, _, _, rfl, rfl, _, _, rfl, rfl, .inr (by decide), _, _, rfl, rfl, by walk_at "p", ?_⟩
      have b := Int.emod_lt_of_pos ((r + 6997 * (t + 1) + 11) * 48271) (b := 2147483647) (by decide)
      have b' := Int.emod_nonneg ((r + 6997 * (t + 1) + 11) * 48271) (b := 2147483647) (by decide)
      generalize (r + 6997 * (t + 1) + 11) * 48271 % 2147483647 = n1 at b b'
      refine ⟨_, rfl, _, rfl, _, _, rfl, rfl, .inl (by omega), _, _, rfl, rfl, by walk_at "p", _, _, rfl, rfl, .inr (by decide), _, _, rfl, rfl, by walk_at "p", ?_⟩
      refine ⟨_, rfl, _, _, rfl, rfl, ⟨by decide, by decide +kernel⟩, _, rfl, _, _, rfl, rfl, m0, q _ _ b1 ⟨_, _, _, _, e1'⟩ (r0 _) (r1 _)⟩

/-! ### _law_power -/
def sp__law_power (K : PySem.W.Frag) : Sp := fun vs H Q _ => ∃ f p : Int, vs = [.int f, .int p] ∧ 0 ≤ p ∧ p < 2 ^ 62 ∧ -(2 ^ 64) < f ∧ f < 2 ^ 64 ∧ Q (.int (f ^ p.toNat)) H
theorem ok__law_power (T : Txt K mg) : FnOk P w K mg base CX0 1 T.f__law_power T.fd__law_power ["number", "often"] (sp__law_power K) := by
  refine T.F__law_power.ok sc__law_power (fun vs H Q E h => ?_) (fun cdv A outer s H vs Q E hr h => ?_)
  · obtain ⟨_, _, rfl, _⟩ := h
    rfl
  · obtain ⟨f, p, rfl, h0, h1, h2, h3, q⟩ := h
    refine ⟨_, (pss_cons (ps_set (i := 2) sc__law_power.nd rfl (Or.inl rfl) pe_int)
      (pss_cons (ps_for PassesOwn.never rfl (pi_range1 (by rfl) T.m_range (pa_cons (pv 1) pa_nil)) (pg_name (i := 3) sc__law_power.nd rfl (Or.inl rfl)) (pss_one (ps_set (i := 2) sc__law_power.nd rfl (Or.inl rfl) (pe_op op_mul (pv 2) (pv 0)))))
      (pss_one (ps_ret (pv 2))))), ?_⟩
    refine ⟨_, rfl, _, rfl, by omega, by omega, for_range (lo := 0) (n := p.toNat) (fun i σ' H' => H' = H ∧ ∃ y, σ' = [some (.int f), some (.int p), some (.int (f ^ i)), y]) ⟨rfl, none, by rw [Int.pow_zero]; rfl⟩ ?_ ?_⟩
    · rintro i σ' H' hi ⟨rfl, y, rfl⟩
      refine ⟨_, rfl, _, rfl, _, _, rfl, rfl, .inr ⟨h2, h3⟩, rfl, some (.int (0 + i)), ?_⟩
      rw [Int.pow_succ]
      rfl
    · rintro σ' H' ⟨rfl, y, rfl⟩
      exact ⟨_, rfl, q⟩

/-! ### _law_worths -/
def sp__law_worths (K : PySem.W.Frag) : Sp := fun vs H Q _ => ∃ b p : Nat, vs = [.int (b : Int), .int (p : Int)] ∧ b ≤ 16 ∧ p ≤ 10 ∧ ∀ H' t w, Same H H' → H t = none → H w = none → H' t = some (.tup [.int (b : Int), .int (p : Int), .ref w]) → H' w = some (.lst (ivs (wts b p))) → Q (.ref t) H'
theorem ok__law_worths (T : Txt K mg) : FnOk P w K mg base CX0 2 T.f__law_worths T.fd__law_worths ["base", "often"] (sp__law_worths K) := by
  refine T.F__law_worths.ok sc__law_worths (fun vs H Q E h => ?_) (fun cdv A outer s H vs Q E hr h => ?_)
  · obtain ⟨_, _, rfl, _⟩ := h
    rfl
  · obtain ⟨b, p, rfl, hb, hp, q⟩ := h
    refine ⟨_, (pss_one (ps_ret (pe_tup (pa_cons (pv 0) (pa_cons (pv 1) (pa_cons (pe_lc (own := [("figure", 2)]) (g := (gName 2)) (tt := tYes) rfl sc__law_worths.nd (pi_range1 (by rfl) T.m_range (pa_cons (pv 0) pa_nil)) (blkOk_by (own := [("figure", 2)]) (N := ["base", "often", "figure"]) (sc := defScope s__law_worths) (by decide +kernel)) (fun _ _ _ _ _ => (pg_name (i := 2) sc__law_worths.nd rfl (Or.inl rfl))) (fun _ _ _ _ _ => pts_nil) (fun _ _ _ _ _ => (pe_call (ok__law_power T) hr (by rfl) T.g__law_power T.F__law_power.kp T.b__law_power .nil pass0 (pa_cons (pv 2) (pa_cons (pv 1) pa_nil))))) pa_nil)))))), ?_⟩
    refine ⟨_, rfl, _, rfl, _, rfl, _, rfl, by omega, by omega, fun D hD => lc_range (lo := 0) (n := b) (fun i H' => Same H H' ∧ H' D = some (.lst (ivs ((wts b p).take i)))) ⟨Same.new hD, upd_same⟩ ?_ ?_⟩
    · rintro i H' hi ⟨s2, e2⟩
      refine ⟨rfl, _, rfl, _, rfl, ((0 + i : Nat) : Int), (p : Int), by rw [Int.natCast_add]; rfl, by omega, by omega, by omega, by omega, ?_⟩
      refine ⟨_, e2, small_len (by rw [ivs_length, List.length_take, wts_len]; omega), same_own s2 hD, ?_⟩
      rw [upd_same, List.take_add_one, wts_get hi, ivs_append, Nat.zero_add]
      show some (HO.lst (_ ++ [V.int ((i : Int) ^ p)])) = some (HO.lst (_ ++ [V.int ((i ^ p : Nat) : Int)]))
      rw [Int.natCast_pow]
    · rintro H' ⟨s2, e2⟩
      rw [List.take_of_length_le (by rw [wts_len]; exact Nat.le_refl _)] at e2
      refine ⟨by show 3 ≤ sizeLine; decide, fun t ht => ?_⟩
      exact q _ t D (s2.trans (Same.new ht)) (s2.free ht) hD upd_same (Same.new ht _ _ e2)

/-! ### _law_pair -/
def sp__law_pair (K : PySem.W.Frag) : Sp := fun vs H Q _ => ∃ d : Addr, vs = [.ref d] ∧ Seed H d ∧ ∀ H' t b p, But d H H' → Seed H' d → H t = none → PairW H' d t b p → Q (.ref t) H'
theorem ok__law_pair (T : Txt K mg) : FnOk P w K mg base CX0 3 T.f__law_pair T.fd__law_pair ["seed"] (sp__law_pair K) := by
  refine T.F__law_pair.ok sc__law_pair (fun vs H Q E h => ?_) (fun cdv A outer s H vs Q E hr h => ?_)
  · obtain ⟨_, rfl, _⟩ := h
    rfl
  · obtain ⟨d, rfl, hS, q⟩ := h
    refine ⟨_, (pss_cons (ps_set (i := 1) sc__law_pair.nd rfl (Or.inr rfl) (pe_ix ix_list (pe_lst (pa_cons (pe_op op_add pe_int (pe_call (ok__law_draw T) (hr.mono (by decide)) (by rfl) T.g__law_draw T.F__law_draw.kp T.b__law_draw .nil pass0 (pa_cons (pv 0) (pa_cons pe_int pa_nil)))) (pa_cons pe_int (pa_cons (pe_op op_add pe_int (pe_call (ok__law_draw T) (hr.mono (by decide)) (by rfl) T.g__law_draw T.F__law_draw.kp T.b__law_draw .nil pass0 (pa_cons (pv 0) (pa_cons pe_int pa_nil)))) (pa_cons pe_int pa_nil))))) (pe_call (ok__law_draw T) (hr.mono (by decide)) (by rfl) T.g__law_draw T.F__law_draw.kp T.b__law_draw .nil pass0 (pa_cons (pv 0) (pa_cons pe_int pa_nil))) (fun _ _ => rfl)))
      (pss_cons (ps_setLc (i := 2) (own := [("often", 3)]) (g := (gName 3)) rfl sc__law_pair.nd rfl rfl (sw_true rfl rfl rfl (by decide +kernel)) (pi_range2 (by rfl) T.m_range (pa_cons pe_int (pa_cons pe_int pa_nil))) (blkOk_by (own := [("often", 3)]) (N := ["seed", "base", "powers", "often"]) (sc := defScope s__law_pair) (by decide +kernel)) (fun _ _ _ _ _ => (pg_name (i := 3) sc__law_pair.nd rfl (Or.inl rfl))) (fun _ _ _ _ _ => pts_one (pt_cmpR op_le (pe_call (ok__law_power T) (hr.mono (by decide)) (by rfl) T.g__law_power T.F__law_power.kp T.b__law_power .nil pass0 (pa_cons (pe_op op_sub (pv 1) pe_int) (pa_cons (pv 3) pa_nil))) pe_int (nomark _))) (fun _ _ _ _ _ => (pv 3)))
      (pss_cons (ps_set (i := 3) sc__law_pair.nd rfl (Or.inl rfl) (pe_ix ix_list (pe_lst (pa_cons (pe_ix ix_list (pv 2) (pe_call (ok__law_draw T) (hr.mono (by decide)) (by rfl) T.g__law_draw T.F__law_draw.kp T.b__law_draw .nil pass0 (pa_cons (pv 0) (pa_cons (pe_callB (id := "len") call_len_seq (by rfl) T.m_len (by decide +kernel) (pa_cons (pv 2) pa_nil)) pa_nil))) (fun _ _ => rfl)) (pa_cons (pe_ix ix_list (pv 2) (pe_un un_neg pe_int) (fun _ _ => rfl)) pa_nil))) (pe_call (ok__law_draw T) (hr.mono (by decide)) (by rfl) T.g__law_draw T.F__law_draw.kp T.b__law_draw .nil pass0 (pa_cons (pv 0) (pa_cons pe_int pa_nil))) (fun _ _ => rfl)))
      (pss_one (ps_ret (pe_call (ok__law_worths T) hr (by rfl) T.g__law_worths T.F__law_worths.kp T.b__law_worths .nil pass0 (pa_cons (pv 1) (pa_cons (pv 3) pa_nil)))))))), ?_⟩
    -- base
    refine ⟨_, rfl, d, 15, rfl, hS, by decide, by decide, fun H1 r1 b1 S1 u1 v1 => ⟨_, _, rfl, rfl, ?_⟩⟩
    refine ⟨_, rfl, d, 5, rfl, S1, by decide, by decide, fun H2 r2 b2 S2 u2 v2 => ⟨_, _, rfl, rfl, by show 4 ≤ sizeLine; decide, fun l hl => ?_⟩⟩
    generalize g3 : upd H2 l _ = H3
    obtain ⟨s3, t3⟩ := new_of g3 hl
    have S3 := S2.same s3
    have nl := S2.out hl
    refine ⟨_, rfl, d, 4, rfl, S3, by decide, by decide, fun H4 r4 b4 S4 u4 v4 => ?_⟩
    have b04 : But d H H4 := b1.trans (b2.trans ((But.of s3).trans b4))
    have t4 := b4 _ _ nl t3
    obtain ⟨b, hb, hb16, eb⟩ : ∃ b : Nat, 2 ≤ b ∧ b ≤ 16 ∧ atI [V.int (2 + r1), V.int 10, V.int (2 + r2), V.int 16] r4 = some (V.int (b : Int)) := by
      have c4 : r4 = 0 ∨ r4 = 1 ∨ r4 = 2 ∨ r4 = 3 := by omega
      rcases c4 with rfl | rfl | rfl | rfl
      · exact ⟨(2 + r1).toNat, by omega, by omega, by rw [show (((2 + r1).toNat : Nat) : Int) = 2 + r1 by omega]; rfl⟩
      · exact ⟨10, by omega, by omega, rfl⟩
      · exact ⟨(2 + r2).toNat, by omega, by omega, by rw [show (((2 + r2).toNat : Nat) : Int) = 2 + r2 by omega]; rfl⟩
      · exact ⟨16, by omega, by omega, rfl⟩
    refine ⟨l, _, _, _, rfl, rfl, .of t4, eb, ?_⟩
    -- powers
    have mp := mostN_pos hb hb16
    refine ⟨1, 11, rfl, by decide, fun D hD => lc_range (lo := 1) (n := 10) (fun i H' => Same H4 H' ∧ H' D = some (.lst (ivs (upTo (min i (mostN b)))))) ⟨Same.new hD, upd_same⟩ ?_ ?_⟩
    · rintro i H5 hi ⟨s5, e5⟩
      have e1 : ((1 : Int) + (i : Int)).toNat = i + 1 := by omega
      have mi := most_iff hb hb16 (k := i + 1) (by omega) (by omega)
      refine ⟨rfl, _, rfl, _, _, rfl, rfl, _, rfl, (b : Int) - 1, 1 + (i : Int), rfl, by omega, by omega, by omega, by omega, ?_⟩
      rw [e1, show (b : Int) - 1 = ((b - 1 : Nat) : Int) by omega, ← Int.natCast_pow]
      refine ⟨_, _, rfl, rfl, _, rfl, ?_⟩
      by_cases c : i + 1 ≤ mostN b
      · have c2 := mi.mpr c
        rw [decide_eq_true (by omega)]
        refine iteT ⟨_, rfl, _, e5, small_len (by rw [ivs_length, upTo_len]; omega), same_own s5 hD, ?_⟩
        rw [upd_same, show min i (mostN b) = i by omega, show min (i + 1) (mostN b) = i + 1 by omega, upTo_succ, ivs_append]
        show some (HO.lst (_ ++ [V.int (1 + (i : Int))])) = some (HO.lst (_ ++ [V.int ((i + 1 : Nat) : Int)]))
        rw [show (1 : Int) + (i : Int) = ((i + 1 : Nat) : Int) by omega]
      · have c2 : ¬ (b - 1) ^ (i + 1) ≤ 1000 := fun z => c (mi.mp z)
        rw [decide_eq_false (by omega)]
        refine iteF ⟨s5, ?_⟩
        rw [show min (i + 1) (mostN b) = min i (mostN b) by omega]
        exact e5
    rintro H5 ⟨s5, e5⟩
    rw [show min 10 (mostN b) = mostN b by omega] at e5
    have S5 := S4.same s5
    have nD := S4.out hD
    -- often
    refine ⟨_, rfl, _, rfl, _, rfl, D, _, rfl, .inl (.of e5), d, _, rfl, S5, by rw [ivs_length, upTo_len]; omega, by rw [ivs_length, upTo_len]; omega, fun H6 r6 b6 S6 u6 v6 => ?_⟩
    rw [ivs_length, upTo_len] at v6
    have e6 := b6 _ _ nD e5
    obtain ⟨k6, rfl⟩ : ∃ k : Nat, r6 = (k : Int) := ⟨r6.toNat, by omega⟩
    have k6l : k6 < mostN b := by omega
    refine ⟨D, _, _, _, rfl, rfl, .of e6, atI_nat (ivs_at (upTo_get k6l)), ?_⟩
    have el : ivs (upTo (mostN b)) = ivs (upTo (mostN b - 1)) ++ [V.int ((mostN b : Nat) : Int)] := by
      have := upTo_succ (mostN b - 1)
      rw [show mostN b - 1 + 1 = mostN b by omega] at this
      rw [this, ivs_append]
      rfl
    have e6' := e6
    rw [el] at e6'
    refine ⟨_, rfl, 1, rfl, D, _, -1, _, rfl, rfl, .of e6', atI_last _ _, by show 2 ≤ sizeLine; decide, fun l2 hl2 => ?_⟩
    generalize g7 : upd H6 l2 _ = H7
    obtain ⟨s7, t7⟩ := new_of g7 hl2
    have S7 := S6.same s7
    have nl2 := S6.out hl2
    refine ⟨_, rfl, d, 2, rfl, S7, by decide, by decide, fun H8 r8 b8 S8 u8 v8 => ?_⟩
    have t8 := b8 _ _ nl2 t7
    obtain ⟨p, hp1, hp2, ep⟩ : ∃ p : Nat, 1 ≤ p ∧ p ≤ mostN b ∧ atI [V.int ((k6 + 1 : Nat) : Int), V.int ((mostN b : Nat) : Int)] r8 = some (V.int (p : Int)) := by
      have c2 : r8 = 0 ∨ r8 = 1 := by omega
      rcases c2 with rfl | rfl
      · exact ⟨k6 + 1, by omega, by omega, rfl⟩
      · exact ⟨mostN b, by omega, by omega, rfl⟩
    refine ⟨l2, _, _, _, rfl, rfl, .of t8, ep, ?_⟩
    have b08 : But d H H8 := b04.trans ((But.of s5).trans (b6.trans ((But.of s7).trans b8)))
    refine ⟨_, rfl, _, rfl, b, p, rfl, hb16, by omega, fun H9 t w s9 nt nw et ew => ?_⟩
    have S9 := S8.same s9
    exact q H9 t b p (b08.trans (.of s9)) S9 (b08.fresh S8.there nt) ⟨w, et, ew, S8.out nw, S8.out nt, okN_of hb hb16 hp1 hp2⟩

/-! ### _law_step -/
def sp__law_step (K : PySem.W.Frag) : Sp := fun vs H Q _ => ∃ (n b p : Nat) (d t : Addr), vs = [.int (n : Int), .ref t] ∧ PairW H d t b p ∧ Q (.int ((stepN b p n : Nat) : Int)) H
def W__law_step (n b p : Nat) (t : Addr) (H : Hp) (m : Nat) (σ' : L2.St) (H' : Hp) : Prop := ∃ f : Nat, H' = H ∧ σ' = [some (.int (m : Int)), some (.ref t), some (.int (f : Int))] ∧ f + stepN b p m = stepN b p n
theorem ok__law_step (T : Txt K mg) : FnOk P w K mg base CX0 1 T.f__law_step T.fd__law_step ["number", "pair"] (sp__law_step K) := by
  refine T.F__law_step.ok sc__law_step (fun vs H Q E h => ?_) (fun cdv A outer s H vs Q E hr h => ?_)
  · obtain ⟨_, _, _, _, _, rfl, _⟩ := h
    rfl
  · obtain ⟨n, b, p, d, t, rfl, ⟨w, et, ew, nw, nt, ok⟩, q⟩ := h
    have hb := ok.hb
    have hb16 := ok.hb16
    refine ⟨_, (pss_cons (ps_set (i := 2) sc__law_step.nd rfl (Or.inl rfl) pe_int)
      (pss_cons (ps_while PassesOwn.never (pt_cmpR op_gt (pv 0) pe_int (nomark _)) (pss_cons (ps_set (i := 2) sc__law_step.nd rfl (Or.inl rfl) (pe_op op_add (pv 2) (pe_ix ix_list (pe_ix ix_tup (pv 1) pe_int (fun _ _ => rfl)) (pe_op op_mod (pv 0) (pe_ix ix_tup (pv 1) pe_int (fun _ _ => rfl))) (fun _ _ => rfl))))
      (pss_one (ps_set (i := 0) sc__law_step.nd rfl (Or.inl rfl) (pe_op op_fdivW (pv 0) (pe_ix ix_tup (pv 1) pe_int (fun _ _ => rfl)))))))
      (pss_one (ps_ret (pv 2))))), ?_⟩
    refine ⟨W__law_step n b p t H, ⟨n, 0, rfl, rfl, Nat.zero_add _⟩, ?_⟩
    rintro m σ' H' ⟨f, rfl, rfl, e⟩
    refine ⟨_, rfl, _, _, rfl, rfl, _, rfl, ?_⟩
    by_cases c : 0 < m
    · rw [decide_eq_true (by omega)]
      refine iteT ⟨Nx (W__law_step n b p t H') m, Nx.id, ?_⟩
      have mb : m % b < b := Nat.mod_lt _ (by omega)
      refine ⟨_, rfl, _, rfl, t, _, 2, _, rfl, rfl, .of et, atI_nat (j := 2) rfl, _, rfl, _, rfl, t, _, 0, _, rfl, rfl, .of et, atI_nat (j := 0) rfl, _, _, rfl, rfl, by walk_at "p", ?_⟩
      have at1 : atI (ivs (wts b p)) ((m : Int) % (b : Int)) = some (.int (((m % b) ^ p : Nat) : Int)) := by
        rw [← Int.natCast_emod]
        exact atI_nat (ivs_at (wts_get mb))
      refine ⟨w, _, _, _, rfl, rfl, .of ew, at1, _, _, rfl, rfl, ?_⟩
      refine ⟨_, rfl, _, rfl, t, _, 0, _, rfl, rfl, .of et, atI_nat (j := 0) rfl, _, _, rfl, rfl, divW 60 (by omega) (by omega), ?_⟩
      refine ⟨m / b, Nat.div_lt_self c (by omega), f + (m % b) ^ p, rfl, by rw [Int.natCast_ediv, Int.natCast_add]; rfl, ?_⟩
      rw [stepN_rec hb ok.hp1 m] at e
      omega
    · rw [decide_eq_false (by omega)]
      have m0 : m = 0 := by omega
      subst m0
      rw [stepN_zero hb ok.hp1] at e
      refine iteF ⟨_, rfl, ?_⟩
      rw [show f = stepN b p n by omega]
      exact q

/-! ### _law_end -/
def sp__law_end (K : PySem.W.Frag) : Sp := fun vs H Q _ => ∃ (n b p : Nat) (d t : Addr), vs = [.int (n : Int), .ref t] ∧ PairW H d t b p ∧ n < 2 ^ 200 ∧ ∀ H' e r A m k, Same H H' → H e = none → H' e = some (.lst [.int ((A : Nat) : Int), .ref r]) → H r = none → H' r = some (.lst (ivs (rowN b p m k))) → EndAt b p n A m → Rnd b p m k → Q (.ref e) H'
def W__law_end (n b p : Nat) (t : Addr) (H : Hp) (P : Addr) (m : Nat) (σ' : L2.St) (H' : Hp) : Prop := ∃ L : Nat, m = 15031 - L ∧ σ' = [some (.int ((itN b p n L : Nat) : Int)), some (.ref t), some (.ref P), none, none, none] ∧ Same H H' ∧ H' P = some (.lst (ivs (rowN b p n L))) ∧ ∀ i j, i < L → j < L → itN b p n i = itN b p n j → i = j
theorem ok__law_end (T : Txt K mg) : FnOk P w K mg base CX0 2 T.f__law_end T.fd__law_end ["number", "pair"] (sp__law_end K) := by
  refine T.F__law_end.ok sc__law_end (fun vs H Q E h => ?_) (fun cdv A outer s H vs Q E hr h => ?_)
  · obtain ⟨_, _, _, _, _, rfl, _⟩ := h
    rfl
  · obtain ⟨n, b, p, d, t, rfl, hP, hn, q⟩ := h
    have ok := hP.ok
    have nr := near_of ok hn
    refine ⟨_, (pss_cons (ps_set (i := 2) sc__law_end.nd rfl (Or.inl rfl) (pe_lst pa_nil))
      (pss_cons (ps_while PassesOwn.never (pt_cmpR op_notIn_seq (pv 0) (pv 2) rfl) (pss_cons (ps_expr (pe_bm PySem.F.plainAttrs_list PySem.F.slot_list_append PySem.F.type_list_append mt_append (pv 2) (pa_cons (pv 0) pa_nil)))
      (pss_one (ps_set (i := 0) sc__law_end.nd rfl (Or.inl rfl) (pe_call (ok__law_step T) hr (by rfl) T.g__law_step T.F__law_step.kp T.b__law_step .nil pass0 (pa_cons (pv 0) (pa_cons (pv 1) pa_nil)))))))
      (pss_cons (ps_set (i := 3) sc__law_end.nd rfl (Or.inl rfl) (pe_bm PySem.F.plainAttrs_list PySem.F.slot_list_index PySem.F.type_list_index mt_index (pv 2) (pa_cons (pv 0) pa_nil)))
      (pss_cons (ps_set (i := 4) sc__law_end.nd rfl (Or.inl rfl) (pe_slice sl_list (pv 2) (po_some (pv 3)) po_none))
      (pss_cons (ps_set (i := 5) sc__law_end.nd rfl (Or.inl rfl) (pe_bm PySem.F.plainAttrs_list PySem.F.slot_list_index PySem.F.type_list_index mt_index (pv 4) (pa_cons (pe_callB (id := "min") (cr_min rfl) (by rfl) T.m_min (by decide +kernel) (pa_cons (pv 4) pa_nil)) pa_nil)))
      (pss_one (ps_ret (pe_lst (pa_cons (pv 3) (pa_cons (pe_op op_cat (pe_slice sl_list (pv 4) (po_some (pv 5)) po_none) (pe_slice sl_list (pv 4) po_none (po_some (pv 5)))) pa_nil)))))))))), ?_⟩
    refine ⟨Nat.zero_le _, fun R hR => ?_⟩
    generalize g1 : upd H R _ = H1
    obtain ⟨s1, t1⟩ := new_of g1 hR
    refine ⟨W__law_end n b p t H R, ⟨15031, 0, rfl, rfl, s1, t1, fun i j hi => by omega⟩, ?_⟩
    rintro m σ' H2 ⟨L, rfl, rfl, s2, t2, nd⟩
    have lL := nr.rep nd
    by_cases c : ∃ i, i < L ∧ itN b p n i = itN b p n L
    · obtain ⟨A, hA, e⟩ := c
      have wy : Way b p n A L := ⟨hA, e.symm, nd⟩
      have iv : V.bl (!inV (.int ((itN b p n L : Nat) : Int)) (ivs (rowN b p n L))) = .bl false := by
        rw [inV_ivs, decide_eq_true (mem_rowN.mpr ⟨A, hA, e⟩)]
        rfl
      refine ⟨_, rfl, _, rfl, R, _, rfl, .inl (.of t2), rfl, flat_ivs _, false, iv, iteF ?_⟩
      -- at
      have gA : ∀ i, i < L → (rowN b p n L)[i]? = some (itN b p n i) := fun i hi => rowN_get b p n L i hi
      refine ⟨_, rfl, .inl ⟨rfl, _, .of t2⟩, _, rfl, R, _, _, A, _, rfl, rfl, .of t2, rfl, flat_ivs _, ivs_at (gA A hA), by rw [eqV_int, e]; exact decide_eq_true rfl, fun j z hj hz => ?_, ?_⟩
      · rw [ivs_at (gA j (by omega))] at hz
        cases hz
        rw [eqV_int, decide_eq_false]
        intro ez
        have := nd j A (by omega) hA (ez.trans e.symm)
        omega
      -- held
      refine ⟨_, rfl, _, rfl, _, rfl, R, _, rfl, .of t2, fun D hD => ?_⟩
      rw [cut_ivs_from]
      generalize g3 : upd H2 D _ = H3
      obtain ⟨s3, t3⟩ := new_of g3 hD
      have t3' := t3
      rw [ivs_map] at t3'
      refine ⟨_, rfl, .inl ⟨rfl, _, .of t3⟩, _, rfl, D, _, rfl, .of t3', by rw [List.length_map, List.length_drop, rowN_len]; omega, fun m h1 h2 => ?_⟩
      obtain ⟨k, hk, rfl⟩ := List.mem_map.mp h1
      rw [rowN_drop] at hk
      obtain ⟨j, hj, rfl⟩ := mem_rowN.mp hk
      rw [← itN_add]
      have lem : ∀ x, A ≤ x → x < L → itN b p n (A + j) ≤ itN b p n x := fun x x1 x2 => by
        have := h2 ((itN b p n x : Nat) : Int) (List.mem_map.mpr ⟨_, by rw [rowN_drop]; exact mem_rowN.mpr ⟨x - A, by omega, rfl⟩, by rw [← itN_add, show A + (x - A) = x by omega]⟩)
        rw [← itN_add] at this
        omega
      have gD : ∀ i, i < L - A → ((rowN b p n L).drop A)[i]? = some (itN b p n (A + i)) := fun i hi => by
        rw [List.getElem?_drop]
        exact gA _ (by omega)
      refine ⟨D, _, _, j, _, rfl, rfl, .of t3, rfl, flat_ivs _, ivs_at (gD j hj), by rw [eqV_int]; exact decide_eq_true rfl, fun i z hi hz => ?_, ?_⟩
      · rw [ivs_at (gD i (by omega))] at hz
        cases hz
        rw [eqV_int, decide_eq_false]
        intro ez
        have := nd (A + i) (A + j) (by omega) (by omega) ez
        omega
      -- the round from there on
      refine ⟨_, rfl, _, rfl, _, rfl, _, rfl, D, _, rfl, .of t3, fun D2 hD2 => ?_⟩
      rw [cut_ivs_from]
      generalize g4 : upd H3 D2 _ = H4
      obtain ⟨s4, t4⟩ := new_of g4 hD2
      refine ⟨_, rfl, _, rfl, _, rfl, D, _, rfl, .of (s4 _ _ t3), fun D3 hD3 => ?_⟩
      rw [cut_ivs_to]
      generalize g5 : upd H4 D3 _ = H5
      obtain ⟨s5, t5⟩ := new_of g5 hD3
      refine ⟨D2, D3, _, _, rfl, rfl, s5 _ _ t4, t5, ?_, fun D4 hD4 => ?_⟩
      · rw [ivs_length, ivs_length, List.length_drop, List.length_take, List.length_drop, rowN_len]
        exact Nat.le_of_lt (small_len (by omega))
      rw [← ivs_append]
      have rot := wy.rot (i := A + j) (by omega) (by omega)
      rw [show A + j - A = j by omega] at rot
      rw [rot]
      generalize g6 : upd H5 D4 _ = H6
      obtain ⟨s6, t6⟩ := new_of g6 hD4
      refine ⟨by show 2 ≤ sizeLine; decide, fun E hE => ?_⟩
      have s26 : Same H H6 := s2.trans (s3.trans (s4.trans (s5.trans s6)))
      exact q _ E D4 A _ _ (s26.trans (Same.new hE)) (s26.free hE) upd_same (s2.free (s3.free (s4.free (s5.free hD4)))) (Same.new hE _ _ t6) (wy.end_of ⟨A + j, by omega, by omega, rfl⟩ lem) (wy.rnd (by omega) (by omega) lem)
    · have iv : V.bl (!inV (.int ((itN b p n L : Nat) : Int)) (ivs (rowN b p n L))) = .bl true := by
        rw [inV_ivs, decide_eq_false (fun z => by
          obtain ⟨i, hi, ei⟩ := mem_rowN.mp z
          exact c ⟨i, hi, ei⟩)]
        rfl
      refine ⟨_, rfl, _, rfl, R, _, rfl, .inl (.of t2), rfl, flat_ivs _, true, iv, iteT ⟨Nx (W__law_end n b p t H R) (15031 - L), Nx.id, ?_⟩⟩
      refine ⟨_, rfl, .inl ⟨rfl, _, .of t2⟩, _, rfl, R, _, _, rfl, rfl, t2, small_len (by rw [ivs_length, rowN_len]; omega), ?_⟩
      have s3 := same_own (o := .lst (ivs (rowN b p n L) ++ [.int ((itN b p n L : Nat) : Int)])) s2 hR
      refine ⟨_, rfl, _, rfl, itN b p n L, b, p, d, t, rfl, hP.same s3, ?_⟩
      refine ⟨15031 - (L + 1), by omega, L + 1, rfl, rfl, s3, ?_, fun i j hi hj ez => ?_⟩
      · rw [upd_same, rowN, ivs_append]
        rfl
      by_cases ci : i = L
      · by_cases cj : j = L
        · omega
        · subst ci
          exact absurd ⟨j, by omega, ez.symm⟩ c
      · by_cases cj : j = L
        · subst cj
          exact absurd ⟨i, by omega, ez⟩ c
        · exact nd i j (by omega) (by omega) ez

/-! ### _law_number -/
def sp__law_number (K : PySem.W.Frag) : Sp := fun vs H Q _ => ∃ (d t : Addr) (b p : Nat), vs = [.ref d, .ref t] ∧ Seed H d ∧ PairW H d t b p ∧ ∀ H' (r : Nat), But d H H' → Seed H' d → r < 16 ^ 40 → Q (.int (r : Int)) H'
def M__law_number (d t : Addr) (H : Hp) (σ' : L2.St) (H' : Hp) : Prop := ∃ (way : Int) (n : Nat) (y4 y5 y6 : Option V), σ' = [some (.ref d), some (.ref t), some (.int way), some (.int (n : Int)), y4, y5, y6] ∧ But d H H' ∧ Seed H' d
theorem ok__law_number (T : Txt K mg) : FnOk P w K mg base CX0 2 T.f__law_number T.fd__law_number ["seed", "pair"] (sp__law_number K) := by
  refine T.F__law_number.ok sc__law_number (fun vs H Q E h => ?_) (fun cdv A outer s H vs Q E hr h => ?_)
  · obtain ⟨_, _, _, _, rfl, _⟩ := h
    rfl
  · obtain ⟨d, t, b, p, rfl, hS, hP, q⟩ := h
    have ok := hP.ok
    have hb := ok.hb
    have hb16 := ok.hb16
    refine ⟨_, (pss_cons (ps_set (i := 2) sc__law_number.nd rfl (Or.inl rfl) (pe_call (ok__law_draw T) hr (by rfl) T.g__law_draw T.F__law_draw.kp T.b__law_draw .nil pass0 (pa_cons (pv 0) (pa_cons pe_int pa_nil))))
      (pss_cons (ps_if (pt_cmpR op_eq (pv 2) pe_int (nomark _)) (pss_one (ps_ret (pe_call (ok__law_draw T) hr (by rfl) T.g__law_draw T.F__law_draw.kp T.b__law_draw .nil pass0 (pa_cons (pv 0) (pa_cons pe_int pa_nil))))) pss_nil)
      (pss_cons (ps_if (pt_cmpR op_eq (pv 2) pe_int (nomark _)) (pss_one (ps_ret (pe_call (ok__law_draw T) hr (by rfl) T.g__law_draw T.F__law_draw.kp T.b__law_draw .nil pass0 (pa_cons (pv 0) (pa_cons pe_int pa_nil))))) pss_nil)
      (pss_cons (ps_set (i := 3) sc__law_number.nd rfl (Or.inl rfl) pe_int)
      (pss_cons (ps_for PassesOwn.never rfl (pi_range1 (by rfl) T.m_range (pa_cons (pe_op op_add pe_int (pe_call (ok__law_draw T) hr (by rfl) T.g__law_draw T.F__law_draw.kp T.b__law_draw .nil pass0 (pa_cons (pv 0) (pa_cons pe_int pa_nil)))) pa_nil)) (pg_name (i := 4) sc__law_number.nd rfl (Or.inl rfl)) (pss_one (ps_set (i := 3) sc__law_number.nd rfl (Or.inl rfl) (pe_op op_add (pe_op op_mul (pv 3) (pe_op op_pow pe_int pe_int)) (pe_call (ok__law_draw T) hr (by rfl) T.g__law_draw T.F__law_draw.kp T.b__law_draw .nil pass0 (pa_cons (pv 0) (pa_cons (pe_op op_pow pe_int pe_int) pa_nil)))))))
      (C8.pss_cut (ps_if (pt_cmpR op_eq (pv 2) pe_int (nomark _)) (pss_cons (ps_set (i := 5) sc__law_number.nd rfl (Or.inl rfl) (pe_op op_add pe_int (pe_call (ok__law_draw T) hr (by rfl) T.g__law_draw T.F__law_draw.kp T.b__law_draw .nil pass0 (pa_cons (pv 0) (pa_cons (pe_ix ix_list (pe_lst (pa_cons pe_int (pa_cons pe_int pa_nil))) (pe_call (ok__law_draw T) hr (by rfl) T.g__law_draw T.F__law_draw.kp T.b__law_draw .nil pass0 (pa_cons (pv 0) (pa_cons pe_int pa_nil))) (fun _ _ => rfl)) pa_nil)))))
      (pss_one (ps_set (i := 3) sc__law_number.nd rfl (Or.inl rfl) (pe_op op_sub (pe_call (ok__law_power T) hr (by rfl) T.g__law_power T.F__law_power.kp T.b__law_power .nil pass0 (pa_cons (pe_ix ix_tup (pv 1) pe_int (fun _ _ => rfl)) (pa_cons (pv 5) pa_nil))) (pe_call (ok__law_draw T) hr (by rfl) T.g__law_draw T.F__law_draw.kp T.b__law_draw .nil pass0 (pa_cons (pv 0) (pa_cons pe_int pa_nil))))))) pss_nil)
      (C8.pss_cut (ps_if (pt_cmpR op_eq (pv 2) pe_int (nomark _)) (pss_cons (ps_set (i := 3) sc__law_number.nd rfl (Or.inl rfl) pe_int)
      (pss_cons (ps_set (i := 6) sc__law_number.nd rfl (Or.inl rfl) (pe_op op_add pe_int (pe_call (ok__law_draw T) hr (by rfl) T.g__law_draw T.F__law_draw.kp T.b__law_draw .nil pass0 (pa_cons (pv 0) (pa_cons (pe_op op_sub (pe_ix ix_tup (pv 1) pe_int (fun _ _ => rfl)) pe_int) pa_nil)))))
      (pss_cons (ps_for PassesOwn.never rfl (pi_range1 (by rfl) T.m_range (pa_cons (pe_op op_add pe_int (pe_call (ok__law_draw T) hr (by rfl) T.g__law_draw T.F__law_draw.kp T.b__law_draw .nil pass0 (pa_cons (pv 0) (pa_cons pe_int pa_nil)))) pa_nil)) (pg_name (i := 4) sc__law_number.nd rfl (Or.inl rfl)) (pss_one (ps_set (i := 3) sc__law_number.nd rfl (Or.inl rfl) (pe_op op_add (pe_op op_mul (pv 3) (pe_ix ix_tup (pv 1) pe_int (fun _ _ => rfl))) (pv 6)))))
      (pss_one (ps_set (i := 3) sc__law_number.nd rfl (Or.inl rfl) (pe_op op_mul (pv 3) (pe_call (ok__law_power T) hr (by rfl) T.g__law_power T.F__law_power.kp T.b__law_power .nil pass0 (pa_cons (pe_ix ix_tup (pv 1) pe_int (fun _ _ => rfl)) (pa_cons (pe_call (ok__law_draw T) hr (by rfl) T.g__law_draw T.F__law_draw.kp T.b__law_draw .nil pass0 (pa_cons (pv 0) (pa_cons pe_int pa_nil))) pa_nil))))))))) pss_nil)
      (pss_one (ps_ret (pe_callB (id := "min") (call_min2 rfl) (by rfl) T.m_min (by decide +kernel) (pa_cons (pv 3) (pa_cons (pe_op op_sub (pe_op op_pow pe_int pe_int) pe_int) pa_nil)))))))))))), ?_⟩
    refine ⟨_, rfl, d, 6, rfl, hS, by decide, by decide, fun H1 r1 b1 S1 u1 v1 => ?_⟩
    have big : (5000 : Nat) < 16 ^ 40 := by decide
    refine ⟨_, rfl, rfl, _, rfl, ite2 (fun c => ?_) (fun c => ?_)⟩
    · refine ⟨_, rfl, d, 30, rfl, S1, by decide, by decide, fun H2 r2 b2 S2 u2 v2 => ?_⟩
      have := q H2 r2.toNat (b1.trans b2) S2 (by omega)
      rwa [show ((r2.toNat : Nat) : Int) = r2 by omega] at this
    refine ⟨_, rfl, rfl, _, rfl, ite2 (fun c => ?_) (fun c => ?_)⟩
    · refine ⟨_, rfl, d, 5000, rfl, S1, by decide, by decide, fun H2 r2 b2 S2 u2 v2 => ?_⟩
      have := q H2 r2.toNat (b1.trans b2) S2 (by omega)
      rwa [show ((r2.toNat : Nat) : Int) = r2 by omega] at this
    refine ⟨_, rfl, d, 10, rfl, S1, by decide, by decide, fun H2 r2 b2 S2 u2 v2 => ?_⟩
    refine ⟨_, _, rfl, rfl, _, rfl, by omega, by omega, for_range (lo := 0) (n := (1 + r2).toNat) (fun i σ' H' => M__law_number d t H σ' H') ⟨r1, 0, none, none, none, rfl, b1.trans b2, S2⟩ ?_ ?_⟩
    · rintro i σ' H3 hi ⟨way, n, y4, y5, y6, rfl, b3, S3⟩
      refine ⟨_, rfl, 10, 5, rfl, rfl, ⟨by decide, by decide, by decide⟩, _, _, rfl, rfl, .inr (by decide), _, rfl, 10, 5, rfl, rfl, ⟨by decide, by decide, by decide⟩, d, _, rfl, S3, by decide, by decide, fun H4 r4 b4 S4 u4 v4 => ⟨_, _, rfl, rfl, ?_⟩⟩
      refine ⟨way, n * 10 ^ 5 + r4.toNat, some (.int (0 + (i : Int))), y5, y6, ?_, b3.trans b4, S4⟩
      rw [Int.natCast_add, Int.natCast_mul, show ((r4.toNat : Nat) : Int) = r4 by omega]
      rfl
    rintro σ' H3 ⟨way, n, y4, y5, y6, rfl, b3, S3⟩
    have P3 := hP.but b3
    -- way 2
    refine ⟨M__law_number d t H, ?_, ?_⟩
    · refine ⟨_, rfl, rfl, _, rfl, ite2 (fun c => ?_) (fun c => ?_)⟩
      · refine ⟨_, rfl, by show 2 ≤ sizeLine; decide, fun l hl => ?_⟩
        generalize g4 : upd H3 l _ = H4
        obtain ⟨s4, t4⟩ := new_of g4 hl
        have S4 := S3.same s4
        have nl := S3.out hl
        refine ⟨_, rfl, d, 2, rfl, S4, by decide, by decide, fun H5 r5 b5 S5 u5 v5 => ?_⟩
        have t5 := b5 _ _ nl t4
        obtain ⟨m, m1, m2, em⟩ : ∃ m : Int, 0 < m ∧ m ≤ 160 ∧ atI [V.int 40, V.int 160] r5 = some (V.int m) := by
          have c2 : r5 = 0 ∨ r5 = 1 := by omega
          rcases c2 with rfl | rfl
          · exact ⟨40, by decide, by decide, rfl⟩
          · exact ⟨160, by decide, by decide, rfl⟩
        refine ⟨l, _, _, _, rfl, rfl, .of t5, em, d, m, rfl, S5, m1, by omega, fun H6 r6 b6 S6 u6 v6 => ⟨_, _, rfl, rfl, ?_⟩⟩
        have b06 : But d H H6 := b3.trans ((But.of s4).trans (b5.trans b6))
        obtain ⟨w, et, ew, nw, nt, _⟩ := hP.but b06
        refine ⟨_, rfl, t, _, 0, _, rfl, rfl, .of et, atI_nat (j := 0) rfl, _, rfl, (b : Int), 1 + r6, rfl, by omega, by omega, by omega, by omega, ?_⟩
        refine ⟨_, rfl, d, 2, rfl, S6, by decide, by decide, fun H7 r7 b7 S7 u7 v7 => ⟨_, _, rfl, rfl, ?_⟩⟩
        have bp : 0 < b ^ (1 + r6).toNat := Nat.pow_pos (by omega)
        refine ⟨way, b ^ (1 + r6).toNat - r7.toNat, y4, some (.int (1 + r6)), y6, ?_, b06.trans b7, S7⟩
        have e : ((b ^ (1 + r6).toNat - r7.toNat : Nat) : Int) = (b : Int) ^ (1 + r6).toNat - r7 := by
          rw [← Int.natCast_pow]
          generalize b ^ (1 + r6).toNat = z at bp
          omega
        rw [e]
        rfl
      · exact ⟨way, n, y4, y5, y6, rfl, b3, S3⟩
    rintro σ' H4 ⟨way, n, y4, y5, y6, rfl, b4, S4⟩
    refine ⟨M__law_number d t H, ?_, ?_⟩
    · refine ⟨_, rfl, rfl, _, rfl, ite2 (fun c => ?_) (fun c => ?_)⟩
      · obtain ⟨w, et, ew, nw, nt, _⟩ := hP.but b4
        refine ⟨_, rfl, _, rfl, t, _, 0, _, rfl, rfl, .of et, atI_nat (j := 0) rfl, _, _, rfl, rfl, d, _, rfl, S4, by omega, by omega, fun H5 r5 b5 S5 u5 v5 => ⟨_, _, rfl, rfl, ?_⟩⟩
        refine ⟨_, rfl, d, 33, rfl, S5, by decide, by decide, fun H6 r6 b6 S6 u6 v6 => ?_⟩
        have b06 : But d H H6 := b4.trans (b5.trans b6)
        refine ⟨_, _, rfl, rfl, _, rfl, by omega, by omega, for_range (lo := 0) (n := (1 + r6).toNat) (fun i σ' H' => H' = H6 ∧ ∃ (n : Nat) (y4 y5 : Option V), σ' = [some (.ref d), some (.ref t), some (.int way), some (.int (n : Int)), y4, y5, some (.int (1 + r5))]) ⟨rfl, 0, y4, y5, rfl⟩ ?_ ?_⟩
        · rintro i σ' H' hi ⟨rfl, n, y4, y5, rfl⟩
          obtain ⟨w, et, ew, nw, nt, _⟩ := hP.but b06
          refine ⟨_, rfl, _, rfl, t, _, 0, _, rfl, rfl, .of et, atI_nat (j := 0) rfl, _, _, rfl, rfl, .inr (by omega), _, rfl, _, _, rfl, rfl, rfl, n * b + (1 + r5).toNat, some (.int (0 + (i : Int))), y5, ?_⟩
          rw [Int.natCast_add, Int.natCast_mul, show (((1 + r5).toNat : Nat) : Int) = 1 + r5 by omega]
          rfl
        · rintro σ' H' ⟨rfl, n, y4, y5, rfl⟩
          obtain ⟨w, et, ew, nw, nt, _⟩ := hP.but b06
          refine ⟨_, rfl, _, rfl, t, _, 0, _, rfl, rfl, .of et, atI_nat (j := 0) rfl, ?_⟩
          refine ⟨_, rfl, d, 8, rfl, S6, by decide, by decide, fun H7 r7 b7 S7 u7 v7 => ?_⟩
          refine ⟨(b : Int), r7, rfl, by omega, by omega, by omega, by omega, ?_⟩
          have pl : (b : Int) ^ r7.toNat < 2 ^ 64 := by
            have h1 : b ^ r7.toNat ≤ b ^ 8 := Nat.pow_le_pow_right (by omega) (by omega)
            have h2 : b ^ 8 ≤ 16 ^ 8 := Nat.pow_le_pow_left hb16 8
            rw [← Int.natCast_pow]
            omega
          have pg : 0 ≤ (b : Int) ^ r7.toNat := Int.pow_nonneg (by omega)
          refine ⟨_, _, rfl, rfl, .inr ⟨by omega, pl⟩, way, n * b ^ r7.toNat, y4, y5, some (.int (1 + r5)), ?_, b06.trans b7, S7⟩
          rw [Int.natCast_mul, Int.natCast_pow]
          rfl
      · exact ⟨way, n, y4, y5, y6, rfl, b4, S4⟩
    rintro σ' H5 ⟨way, n, y4, y5, y6, rfl, b5, S5⟩
    refine ⟨_, rfl, 16, 40, rfl, rfl, ⟨by decide, by decide, by decide⟩, _, _, rfl, rfl, _, _, rfl, ?_⟩
    have z := q H5 (min n (16 ^ 40 - 1)) b5 S5 (by have := Nat.min_le_right n (16 ^ 40 - 1); omega)
    have e : ((min n (16 ^ 40 - 1) : Nat) : Int) = if (16 : Int) ^ (40 : Int).toNat - 1 < (n : Int) then (16 : Int) ^ (40 : Int).toNat - 1 else (n : Int) := by
      have e2 : (16 : Int) ^ (40 : Int).toNat = 16 ^ 40 := rfl
      rw [e2]
      split <;> omega
    rw [e] at z
    exact z

/-! ### _law_is_pair -/
def sp__law_is_pair (K : PySem.W.Frag) : Sp := fun vs H Q _ => ∃ (f e : Addr) (xs : List Int), vs = [.ref f, .ref e] ∧ H f = some (.tup (xs.map V.int)) ∧ H e = some (.tup (xs.map V.int)) ∧ ∀ H', Same H H' → Q (.bl true) H'
theorem ok__law_is_pair (T : Txt K mg) : FnOk P w K mg base CX0 1 T.f__law_is_pair T.fd__law_is_pair ["found", "due"] (sp__law_is_pair K) := by
  refine T.F__law_is_pair.ok sc__law_is_pair (fun vs H Q E h => ?_) (fun cdv A outer s H vs Q E hr h => ?_)
  · obtain ⟨_, _, _, rfl, _⟩ := h
    rfl
  · obtain ⟨f, e, xs, rfl, ef, ee, q⟩ := h
    refine ⟨_, (pss_cons (ps_if (PW.pt (pw_or (pt_not (pt_val (pe_callB (id := "isinstance") call_isi (by rfl) T.m_isinstance (by decide +kernel) (pa_cons (pv 0) (pa_cons (pe_bltn (v := .ty "tuple") (by rfl) T.m_tuple (by decide +kernel) rfl) pa_nil))))) (pw_or1 (pt_cmpR (op_neD hr.units) (pv 0) (pv 1) (nomark _))))) (pss_one (ps_ret pe_bl)) pss_nil)
      (pss_one (ps_ret (pe_cmpR (op_eqD hr.units) (pe_lc (own := [("one", 2)]) (g := (gName 2)) rfl sc__law_is_pair.nd (pi_tup (pv 0)) (blkOk_by (own := [("one", 2)]) (N := ["found", "due", "one"]) (sc := defScope s__law_is_pair) (by decide +kernel)) (fun _ _ _ _ _ => (pg_name (i := 2) sc__law_is_pair.nd rfl (Or.inl rfl))) (fun _ _ _ _ _ => pts_one (PW.pt (pw_or (pt_val (pe_callB (id := "isinstance") (show CallR _ (.builtin "isinstance") (rIsi K) from call_isi) (by rfl) T.m_isinstance (by decide +kernel) (pa_cons (pv 2) (pa_cons (pe_bltn (v := .ty "bool") (by rfl) T.m_bool (by decide +kernel) rfl) pa_nil)))) (pw_or1 (pt_not (pt_val (pe_callB (id := "isinstance") (show CallR _ (.builtin "isinstance") (rIsi K) from call_isi) (by rfl) T.m_isinstance (by decide +kernel) (pa_cons (pv 2) (pa_cons (pe_bltn (v := .ty "int") (by rfl) T.m_int (by decide +kernel) rfl) pa_nil))))))))) (fun _ _ _ _ _ => pe_int)) (pe_lst pa_nil) (nomark _))))), ?_⟩
    refine ⟨_, rfl, _, _, _, _, true, rfl, .ty "tuple", .base (.tup ef), kit_ty (by decide +kernel), true, rfl, iteF ?_⟩
    refine ⟨_, rfl, _, rfl, _, _, .tup (.of ef) (dpAll_ints _), .tup (.of ee) (dpAll_ints _), shaped_tints _, shaped_tints _, _, rfl, ?_⟩
    rw [eqv_same (shaped_tints _)]
    refine ite2 (fun c => nomatch c) (fun _ => ?_)
    refine ⟨_, rfl, f, rfl, ⟨_, .of ef⟩, fun D hD => lc_tup (xs := xs.map V.int) (fun i H' => Same H H' ∧ H' D = some (.lst [])) ⟨Same.new hD, upd_same⟩ ?_ ?_ ?_⟩
    · rintro i H' hi ⟨z, _⟩
      exact .of (z _ _ ef)
    · rintro i x H' hx ⟨z, e⟩
      obtain ⟨k, hk, rfl⟩ := int_get hx
      exact ⟨rfl, _, rfl, _, _, _, _, false, rfl, .ty "bool", .base (.int _), kit_ty (by decide +kernel), false, rfl, iteF ⟨_, rfl, _, _, _, _, true, rfl, .ty "int", .base (.int _), kit_ty (by decide +kernel), true, rfl, ite2 (fun c => nomatch c) (fun _ => ⟨z, e⟩)⟩⟩
    rintro H1 ⟨s1, e1⟩
    refine ⟨Nat.zero_le _, fun z hz => ?_⟩
    generalize g2 : upd H1 z _ = H2
    obtain ⟨s2, t2⟩ := new_of g2 hz
    refine ⟨.list [], .list [], .lst (.of (s2 _ _ e1)) .nil, .lst (.of t2) .nil, shaped_ints [], shaped_ints [], ?_⟩
    rw [eqv_same (show SeqAt.shaped (.list []) = true from shaped_ints [])]
    exact q _ (s1.trans s2)

/-! ### _law_right -/
theorem EndsAt.put {b p : Nat} {H H' : Hp} {vs : List V} {ns : List Nat} (h : EndsAt b p H vs ns) (k : ∀ x xs, H x = some (HO.tup xs) → H' x = some (HO.tup xs)) : EndsAt b p H' vs ns :=
  ⟨h.len, fun i v n a1 a2 => by
    obtain ⟨t, A, m, x1, x2, x3⟩ := h.at' i v n a1 a2
    exact ⟨t, A, m, x1, k _ _ x2, x3⟩⟩
theorem EndsAt.push {b p : Nat} {H : Hp} {vs : List V} {ns : List Nat} {t : Addr} {n A m : Nat} (h : EndsAt b p H vs ns) (e : H t = some (.tup (ivs [A, m]))) (en : EndAt b p n A m) : EndsAt b p H (vs ++ [.ref t]) (ns ++ [n]) := by
  have l := h.len
  refine ⟨by rw [List.length_append, List.length_append, l]; rfl, fun i v k a1 a2 => ?_⟩
  by_cases c : i < ns.length
  · rw [List.getElem?_append_left (by omega)] at a1 a2
    exact h.at' i v k a1 a2
  · rw [List.getElem?_append_right (by omega)] at a1 a2
    rw [l] at a1
    have ii := (List.getElem?_eq_some_iff.mp a2).1
    have i0 : i - ns.length = 0 := by
      have : [n].length = 1 := rfl
      omega
    rw [i0] at a1 a2
    cases a1
    cases a2
    exact ⟨t, A, m, rfl, e, en⟩
theorem EndsAt.dp {K : PySem.W.Frag} {b p : Nat} {H : Hp} : ∀ {ns : List Nat} {vs us : List V}, EndsAt b p H vs ns → EndsAt b p H us ns → ∃ ds, DpAll K H vs ds ∧ DpAll K H us ds ∧ PyData.canLayAll0 ds = true ∧ PyData.depthAll ds ≤ 2
  | [], vs, us, h, g => by
    obtain rfl := List.eq_nil_of_length_eq_zero h.len
    obtain rfl := List.eq_nil_of_length_eq_zero g.len
    exact ⟨[], .nil, .nil, rfl, by unfold PyData.depthAll; decide⟩
  | n :: ns, v :: vs, u :: us, h, g => by
    obtain ⟨t, A, m, rfl, e, en⟩ := h.at' 0 v n rfl rfl
    obtain ⟨t', A', m', rfl, e', en'⟩ := g.at' 0 u n rfl rfl
    obtain ⟨rfl, rfl⟩ := en.uniq en'
    obtain ⟨ds, d1, d2, d3, d4⟩ := EndsAt.dp (K := K) (ns := ns) (vs := vs) (us := us) ⟨Nat.succ.inj h.len, fun i => h.at' (i + 1)⟩ ⟨Nat.succ.inj g.len, fun i => g.at' (i + 1)⟩
    refine ⟨.tuple (dInts ([A, m].map fun (k : Nat) => (k : Int))) :: ds, .cons (.tup (.of e) (dpAll_ivs _)) d1, .cons (.tup (.of e') (dpAll_ivs _)) d2, ?_, ?_⟩
    · rw [PyData.canLayAll0, d3, PyData.canLay0, canLay_ints]
      rfl
    · have := depth_ints ([A, m].map fun (k : Nat) => (k : Int))
      unfold PyData.depthAll PyData.depth
      omega
  | n :: ns, [], us, h, g => nomatch h.len
  | n :: ns, v :: vs, [], h, g => nomatch g.len
def sp__law_right (K : PySem.W.Frag) : Sp := fun vs H Q _ => ∃ (d t L : Addr) (b p : Nat) (ns : List Nat), vs = [.ref L, .ref t] ∧ PairW H d t b p ∧ H L = some (.lst (ivs ns)) ∧ (∀ n ∈ ns, n < 2 ^ 200) ∧ ns.length ≤ 60 ∧ ∀ H', Same H H' → Q (.bl true) H'
theorem ok__law_right (T : Txt K mg) : FnOk P w K mg base CX0 6 T.f__law_right T.fd__law_right ["numbers", "pair"] (sp__law_right K) := by
  refine T.F__law_right.ok sc__law_right (fun vs H Q E h => ?_) (fun cdv A outer s H vs Q E hr h => ?_)
  · obtain ⟨_, _, _, _, _, _, rfl, _⟩ := h
    rfl
  · obtain ⟨d, t, L, b, p, ns, rfl, hP, eL, hn, h6, q⟩ := h
    have ok := hP.ok
    refine ⟨_, (pss_cons (ps_set (i := 2) sc__law_right.nd rfl (Or.inl rfl) (pe_lst pa_nil))
      (pss_cons (ps_for PassesOwn.never rfl (pi_list (pv 0)) (pg_name (i := 3) sc__law_right.nd rfl (Or.inl rfl)) (pss_cons (ps_asg (pe_call (ok__law_end T) (hr.mono (by decide)) (by rfl) T.g__law_end T.F__law_end.kp T.b__law_end .nil pass0 (pa_cons (pv 3) (pa_cons (pv 1) pa_nil))) (pg_unl rfl (pgs_cons (pg_name (i := 4) sc__law_right.nd rfl (Or.inl rfl)) (pgs_cons (pg_name (i := 5) sc__law_right.nd rfl (Or.inl rfl)) pgs_nil))))
      (pss_cons (ps_expr (pe_bm PySem.F.plainAttrs_list PySem.F.slot_list_append PySem.F.type_list_append mt_append (pv 2) (pa_cons (pe_tup (pa_cons (pv 4) (pa_cons (pe_ix ix_list (pv 5) pe_int (fun _ _ => rfl)) pa_nil))) pa_nil)))
      (pss_cons (ps_if (pt_not (pt_val (pe_call (ok__law_is_pair T) (hr.mono (by decide)) (by rfl) T.g__law_is_pair T.F__law_is_pair.kp T.b__law_is_pair .nil pass0 (pa_cons (pe_call (ok_end_of T) (hr.mono (by decide)) (by rfl) T.g_end_of T.F_end_of.kp T.b_end_of .nil pass0 (pa_cons (pv 3) (pa_cons (pe_ix ix_tup (pv 1) pe_int (fun _ _ => rfl)) (pa_cons (pe_ix ix_tup (pv 1) pe_int (fun _ _ => rfl)) pa_nil)))) (pa_cons (pe_tup (pa_cons (pv 4) (pa_cons (pe_ix ix_list (pv 5) pe_int (fun _ _ => rfl)) pa_nil))) pa_nil))))) (pss_one (ps_ret pe_bl)) pss_nil)
      (pss_one (ps_if (pt_cmpR (op_neD hr.units) (pe_call (ok_end_of T) (hr.mono (by decide)) (by rfl) T.g_end_of T.F_end_of.kp T.b_end_of .nil pass0 (pa_cons (pe_ix ix_list (pv 5) (pe_un un_neg pe_int) (fun _ _ => rfl)) (pa_cons (pe_ix ix_tup (pv 1) pe_int (fun _ _ => rfl)) (pa_cons (pe_ix ix_tup (pv 1) pe_int (fun _ _ => rfl)) pa_nil)))) (pe_tup (pa_cons pe_int (pa_cons (pe_ix ix_list (pv 5) pe_int (fun _ _ => rfl)) pa_nil))) (nomark _)) (pss_one (ps_ret pe_bl)) pss_nil))))))
      (pss_cons (ps_set (i := 6) sc__law_right.nd rfl (Or.inl rfl) (pe_call (ok_ends_of T) hr (by rfl) T.g_ends_of T.F_ends_of.kp T.b_ends_of .nil pass0 (pa_cons (pe_callTy (T := "tuple") call_tuple_of (by rfl) T.m_tuple (by decide +kernel) (pa_cons (pv 0) pa_nil)) (pa_cons (pe_ix ix_tup (pv 1) pe_int (fun _ _ => rfl)) (pa_cons (pe_ix ix_tup (pv 1) pe_int (fun _ _ => rfl)) pa_nil)))))
      (pss_cons (ps_if (PW.pt (pw_or (pt_not (pt_val (pe_callB (id := "isinstance") call_isi (by rfl) T.m_isinstance (by decide +kernel) (pa_cons (pv 6) (pa_cons (pe_bltn (v := .ty "tuple") (by rfl) T.m_tuple (by decide +kernel) rfl) pa_nil))))) (pw_or1 (pt_cmpR op_ne (pe_callB (id := "len") call_len_seq (by rfl) T.m_len (by decide +kernel) (pa_cons (pv 6) pa_nil)) (pe_callB (id := "len") call_len_seq (by rfl) T.m_len (by decide +kernel) (pa_cons (pv 2) pa_nil)) (nomark _))))) (pss_one (ps_ret pe_bl)) pss_nil)
      (pss_cons (ps_if (pt_cmpR (op_neD hr.units) (pe_lc (own := [("one", 7), ("other", 8)]) (g := (gTup K 2 (gCons (gName 7) (gCons (gName 8) gNil)))) rfl sc__law_right.nd (pi_zipM (by rfl) T.m_zip (pa_cons (pv 6) (pa_cons (pv 2) pa_nil))) (blkOk_by (own := [("one", 7), ("other", 8)]) (N := ["numbers", "pair", "due", "number", "away", "row", "found", "one", "other"]) (sc := defScope s__law_right) (by decide +kernel)) (fun _ _ _ _ _ => (pg_tup rfl (pgs_cons (pg_name (i := 7) sc__law_right.nd rfl (Or.inl rfl)) (pgs_cons (pg_name (i := 8) sc__law_right.nd rfl (Or.inl rfl)) pgs_nil)))) (fun _ _ _ _ _ => pts_one (pt_not (pt_val (pe_call (ok__law_is_pair T) (hr.mono (by decide)) (by rfl) T.g__law_is_pair T.F__law_is_pair.kp T.b__law_is_pair .nil pass0 (pa_cons (pv 7) (pa_cons (pv 8) pa_nil)))))) (fun _ _ _ _ _ => pe_int)) (pe_lst pa_nil) (nomark _)) (pss_one (ps_ret pe_bl)) pss_nil)
      (pss_one (ps_ret (pe_cmpR (op_eqD hr.units) (pe_call (ok_ends_of T) hr (by rfl) T.g_ends_of T.F_ends_of.kp T.b_ends_of .nil pass0 (pa_cons (pe_callTy (T := "tuple") call_tuple_of (by rfl) T.m_tuple (by decide +kernel) (pa_cons (pv 0) pa_nil)) (pa_cons (pe_ix ix_tup (pv 1) pe_int (fun _ _ => rfl)) (pa_cons (pe_ix ix_tup (pv 1) pe_int (fun _ _ => rfl)) pa_nil)))) (pv 6) (nomark _))))))))), ?_⟩
    refine ⟨Nat.zero_le _, fun D hD => ?_⟩
    generalize g1 : upd H D _ = H1
    obtain ⟨s1, t1⟩ := new_of g1 hD
    refine ⟨_, rfl, L, rfl, ⟨_, .of (s1 _ _ eL)⟩, for_list (xs := ivs ns) (fun i σ' H' => Same H H' ∧ (∃ y3 y4 y5 : Option V, σ' = [some (.ref L), some (.ref t), some (.ref D), y3, y4, y5, none, none, none]) ∧ ∃ ds, H' D = some (.lst ds) ∧ EndsAt b p H' ds (ns.take i)) ⟨s1, ⟨none, none, none, rfl⟩, [], t1, ⟨rfl, fun i v n e => by simp at e⟩⟩ ?_ ?_ ?_⟩
    · rintro i σ' H' hi ⟨z, _⟩
      exact .of (z _ _ eL)
    · rintro i v σ' H2 hv ⟨s2, ⟨y3, y4, y5, rfl⟩, ds, eD, ea⟩
      obtain ⟨n, hi, rfl⟩ := ivs_get hv
      have il := (List.getElem?_eq_some_iff.mp hi).1
      have n2 := hn n (List.mem_of_getElem? hi)
      have P2 := hP.same s2
      refine ⟨_, rfl, _, rfl, n, b, p, d, t, rfl, P2, n2, fun H3 e r A m k s3 ne ee nr er en rn => ?_⟩
      have k0 := rn.pos
      have e0 : (rowN b p m k)[0]? = some m := rowN_get b p m k 0 k0
      refine ⟨e, _, rfl, .of ee, rfl, _, _, rfl, _, _, rfl, rfl, ?_⟩
      have eD3 := s3 _ _ eD
      refine ⟨_, rfl, .inl ⟨rfl, _, .of eD3⟩, _, rfl, _, rfl, r, _, 0, _, rfl, rfl, .of er, atI_nat (ivs_at e0), by show 2 ≤ sizeLine; decide, fun T4 h4 => ?_⟩
      generalize g4 : upd H3 T4 _ = H4
      obtain ⟨s4, t4⟩ := new_of g4 h4
      have eD4 := s4 _ _ eD3
      have dl := ea.len
      rw [List.length_take] at dl
      refine ⟨D, _, _, rfl, rfl, eD4, small_len (by omega), ?_⟩
      have s04 := s2.trans (s3.trans s4)
      have s05 := same_own s04 hD (o := .lst (ds ++ [V.ref T4]))
      have tupD : ∀ x xs, H4 x = some (HO.tup xs) → (upd H4 D (.lst (ds ++ [V.ref T4]))) x = some (HO.tup xs) := fun x xs e => by
        rw [upd_ne (ne_of e eD4 fun z => by cases z)]
        exact e
      have ea5 : EndsAt b p (upd H4 D (.lst (ds ++ [V.ref T4]))) (ds ++ [.ref T4]) (ns.take (i + 1)) := by
        rw [List.take_add_one, hi]
        refine EndsAt.put (H := H4) (EndsAt.push (ea.put fun x xs e => s4 _ _ (s3 _ _ e)) t4 en) tupD
      have eD5 : (upd H4 D (.lst (ds ++ [V.ref T4]))) D = some (.lst (ds ++ [V.ref T4])) := upd_same
      have er5 : (upd H4 D (.lst (ds ++ [V.ref T4]))) r = some (.lst (ivs (rowN b p m k))) := by
        rw [upd_ne]
        · exact s4 _ _ er
        · rintro rfl
          rw [eD] at nr
          cases nr
      generalize upd H4 D (.lst (ds ++ [V.ref T4])) = H5 at s05 ea5 eD5 er5
      obtain ⟨w, et, ew, nw, nt, _⟩ := id (hP.same s05)
      refine ⟨_, rfl, _, rfl, t, _, 0, _, rfl, rfl, .of et, atI_nat (j := 0) rfl, _, rfl, t, _, 1, _, rfl, rfl, .of et, atI_nat (j := 1) rfl, n, b, p, rfl, ok, n2, fun H6 f A' m' s6 nf ef en' => ?_⟩
      obtain ⟨rfl, rfl⟩ := en.uniq en'
      refine ⟨_, rfl, _, rfl, r, _, 0, _, rfl, rfl, .of (s6 _ _ er5), atI_nat (ivs_at e0), by show 2 ≤ sizeLine; decide, fun T7 h7 => ?_⟩
      generalize g7 : upd H6 T7 _ = H7
      obtain ⟨s7, t7⟩ := new_of g7 h7
      refine ⟨f, T7, [(A : Int), (m : Int)], rfl, s7 _ _ ef, t7, fun H8 s8 => ⟨true, rfl, iteF ?_⟩⟩
      have s58 := s6.trans (s7.trans s8)
      have er8 := s58 _ _ er5
      obtain ⟨w8, et8, _⟩ := id (hP.same (s05.trans s58))
      have el : atI (ivs (rowN b p m k)) (-1) = some (.int ((itN b p m (k - 1) : Nat) : Int)) := by
        rw [ivs_map]
        exact at_last (by rw [List.length_map, rowN_len, List.getElem?_map, rowN_get b p m k (k - 1) (by omega)]; rfl)
      have l2 : itN b p m (k - 1) < 2 ^ 200 := itN_lt200 ok (lt_of_bound (per_bound ok rn.at0.per)) _
      refine ⟨_, rfl, 1, rfl, r, _, -1, _, rfl, rfl, .of er8, el, _, rfl, t, _, 0, _, rfl, rfl, .of et8, atI_nat (j := 0) rfl, _, rfl, t, _, 1, _, rfl, rfl, .of et8, atI_nat (j := 1) rfl, itN b p m (k - 1), b, p, rfl, ok, l2, fun H9 f9 A9 m9 s9 nf9 ef9 en9 => ?_⟩
      obtain ⟨rfl, rfl⟩ := (rn.at0.round (k - 1)).uniq en9
      refine ⟨_, rfl, r, _, 0, _, rfl, rfl, .of (s9 _ _ er8), atI_nat (ivs_at e0), by show 2 ≤ sizeLine; decide, fun Ta ha => ?_⟩
      generalize gb : upd H9 Ta _ = Hb
      obtain ⟨sb, tb⟩ := new_of gb ha
      refine ⟨_, _, .tup (.of (sb _ _ ef9)) (dpAll_ivs _), .tup (xs := ivs [0, m]) (.of tb) (dpAll_ivs _), shaped_tints _, shaped_tints _, false, by rw [eqv_same (shaped_tints _)]; rfl, iteF ?_⟩
      have s5b := s58.trans (s9.trans sb)
      exact ⟨s05.trans s5b, ⟨_, _, _, rfl⟩, _, s5b _ _ eD5, ea5.put fun x xs e => s5b _ _ e⟩
    · rintro σ' H2 ⟨s2, ⟨y3, y4, y5, rfl⟩, ds, eD, ea⟩
      rw [ivs_length, List.take_length] at ea
      obtain ⟨w, et, _⟩ := id hP
      refine ⟨_, rfl, L, _, rfl, .inl ⟨.of (s2 _ _ eL), fun T3 h3 => ?_⟩⟩
      generalize g3 : upd H2 T3 _ = H3
      obtain ⟨s3, t3⟩ := new_of g3 h3
      have et3 := s3 _ _ (s2 _ _ et)
      refine ⟨_, rfl, t, _, 0, _, rfl, rfl, .of et3, atI_nat (j := 0) rfl, _, rfl, t, _, 1, _, rfl, rfl, .of et3, atI_nat (j := 1) rfl, T3, ns, b, p, rfl, ok, t3, hn, by omega, fun H4 F vs s4 nF eF EA => ?_⟩
      have s24 := s3.trans s4
      have eD4 := s24 _ _ eD
      have ea4 := ea.put (H' := H4) fun x xs e => s24 _ _ e
      refine ⟨_, rfl, _, _, _, _, true, rfl, .ty "tuple", .base (.tup eF), kit_ty (by decide +kernel), true, rfl, iteF ?_⟩
      refine ⟨_, rfl, F, _, rfl, .inr (.of eF), _, rfl, D, _, rfl, .inl (.of eD4), rfl, _, rfl, ite2 (fun c => absurd c (by rw [EA.len, ea.len, decide_eq_true rfl]; exact Bool.false_ne_true)) (fun _ => ?_)⟩
      refine ⟨_, rfl, _, rfl, F, D, vs, ds, rfl, ⟨.of eF, .of eD4⟩, fun Dc hDc => lc_it (walk_zipM (n := ns.length) EA.len ea.len) (fun i H' => Same H4 H' ∧ H' Dc = some (.lst [])) ⟨Same.new hDc, upd_same⟩ ?_ ?_ ?_⟩
      · rintro i H' hi ⟨z, _⟩
        exact ⟨.of (z _ _ eF), .of (z _ _ eD4)⟩
      · rintro i x H5 H6 hi ⟨s5, e5⟩ ⟨T, u, v, rfl, hT, rfl, hu, hv⟩
        have s6 : Same H5 (upd H5 T (.tup [u, v])) := Same.new hT
        obtain ⟨n, hn'⟩ : ∃ n, ns[i]? = some n := ⟨_, List.getElem?_eq_getElem hi⟩
        obtain ⟨t1, A1, m1, rfl, x1, y1⟩ := EA.at' i u n hu hn'
        obtain ⟨t2, A2, m2, rfl, x2, y2⟩ := ea4.at' i v n hv hn'
        obtain ⟨rfl, rfl⟩ := y1.uniq y2
        have s46 := s5.trans s6
        refine ⟨T, _, rfl, .of upd_same, rfl, _, _, rfl, _, _, rfl, rfl, rfl, _, rfl, _, rfl, t1, t2, [(A1 : Int), (m1 : Int)], rfl, s46 _ _ x1, s46 _ _ x2, fun H7 s7 => ⟨true, rfl, iteF ⟨s46.trans s7, s7 _ _ (s6 _ _ e5)⟩⟩⟩
      rintro H5 ⟨s5, e5⟩
      refine ⟨Nat.zero_le _, fun z hz => ?_⟩
      generalize g6 : upd H5 z _ = H6
      obtain ⟨s6, t6⟩ := new_of g6 hz
      refine ⟨.list [], .list [], .lst (.of (s6 _ _ e5)) .nil, .lst (.of t6) .nil, shaped_ints [], shaped_ints [], false, by rw [eqv_same (show SeqAt.shaped (.list []) = true from shaped_ints [])]; rfl, iteF ?_⟩
      have s46 := s5.trans s6
      have s26 := s24.trans s46
      refine ⟨_, rfl, L, _, rfl, .inl ⟨.of (s26 _ _ (s2 _ _ eL)), fun T7 h7 => ?_⟩⟩
      generalize g7 : upd H6 T7 _ = H7
      obtain ⟨s7, t7⟩ := new_of g7 h7
      have s27 := s26.trans s7
      have et7 := s27 _ _ (s2 _ _ et)
      refine ⟨_, rfl, t, _, 0, _, rfl, rfl, .of et7, atI_nat (j := 0) rfl, _, rfl, t, _, 1, _, rfl, rfl, .of et7, atI_nat (j := 1) rfl, T7, ns, b, p, rfl, ok, t7, hn, by omega, fun H8 F8 us s8 nF8 eF8 EA8 => ?_⟩
      have s48 := s46.trans (s7.trans s8)
      obtain ⟨dd, d1, d2, d3, d4⟩ := EA8.dp (EA.put (H' := H8) fun x xs e => s48 _ _ e)
      refine ⟨_, rfl, _, _, .tup (.of eF8) d1, .tup (.of (s48 _ _ eF)) d2, shaped_tup d3 (Nat.le_trans d4 (by decide)), shaped_tup d3 (Nat.le_trans d4 (by decide)), ?_⟩
      rw [eqv_same (shaped_tup d3 (Nat.le_trans d4 (by decide)))]
      exact q _ (s2.trans (s27.trans s8))

/-! ### law -/
def sp_law (K : PySem.W.Frag) : Sp := fun vs H Q _ => ∃ (a : Addr) (ns : List Int), vs = [.ref a] ∧ SqL K H a (ns.map V.int) ∧ ns.length ≤ 63 ∧ ∀ H', Q (.bl true) H'
theorem law_start {K : PySem.W.Frag} {H : Hp} {a : Addr} {ns : List Int} {E : XK} (hl : ns.length ≤ 63) (hS : SqL K H a (ns.map V.int)) : sp_law K [.ref a] H (fun v _ => v = .bl true) E := ⟨a, ns, rfl, hS, hl, fun _ => rfl⟩
theorem ok_law (T : Txt K mg) : FnOk P w K mg base CX0 7 T.f_law T.fd_law ["script"] (sp_law K) := by
  refine T.F_law.ok sc_law (fun vs H Q E h => ?_) (fun cdv A outer s H vs Q E hr h => ?_)
  · obtain ⟨_, _, rfl, _⟩ := h
    rfl
  · obtain ⟨a, ns, rfl, hS, hl, q⟩ := h
    refine ⟨_, (pss_cons (ps_for PassesOwn.never rfl (pi_list (pe_op op_cat (pe_slice sl_list (pv 0) po_none (po_some pe_int)) (pe_lst (pa_cons (pe_call (ok__law_folded T) (hr.mono (by decide)) (by rfl) T.g__law_folded T.F__law_folded.kp T.b__law_folded .nil pass0 (pa_cons (pv 0) pa_nil)) pa_nil)))) (pg_name (i := 1) sc_law.nd rfl (Or.inl rfl)) (pss_cons (ps_set (i := 2) sc_law.nd rfl (Or.inr rfl) (pe_call (ok__law_seed T) (hr.mono (by decide)) (by rfl) T.g__law_seed T.F__law_seed.kp T.b__law_seed .nil pass0 (pa_cons (pv 1) pa_nil)))
      (pss_cons (ps_set (i := 3) sc_law.nd rfl (Or.inr rfl) (pe_call (ok__law_pair T) (hr.mono (by decide)) (by rfl) T.g__law_pair T.F__law_pair.kp T.b__law_pair .nil pass0 (pa_cons (pv 2) pa_nil)))
      (pss_cons (ps_set (i := 4) sc_law.nd rfl (Or.inl rfl) (pe_ix ix_list (pe_lst (pa_cons (pe_call (ok__law_draw T) (hr.mono (by decide)) (by rfl) T.g__law_draw T.F__law_draw.kp T.b__law_draw .nil pass0 (pa_cons (pv 2) (pa_cons pe_int pa_nil))) (pa_cons (pe_call (ok__law_draw T) (hr.mono (by decide)) (by rfl) T.g__law_draw T.F__law_draw.kp T.b__law_draw .nil pass0 (pa_cons (pv 2) (pa_cons pe_int pa_nil))) (pa_cons pe_int pa_nil)))) (pe_call (ok__law_draw T) (hr.mono (by decide)) (by rfl) T.g__law_draw T.F__law_draw.kp T.b__law_draw .nil pass0 (pa_cons (pv 2) (pa_cons pe_int pa_nil))) (fun _ _ => rfl)))
      (pss_one (ps_if (pt_not (pt_val (pe_call (ok__law_right T) hr (by rfl) T.g__law_right T.F__law_right.kp T.b__law_right .nil pass0 (pa_cons (pe_lc (own := [("k", 5)]) (g := (gName 5)) (tt := tYes) rfl sc_law.nd (pi_range1 (by rfl) T.m_range (pa_cons (pv 4) pa_nil)) (blkOk_by (own := [("k", 5)]) (N := ["script", "cell", "seed", "pair", "many", "k"]) (sc := defScope s_law) (by decide +kernel)) (fun _ _ _ _ _ => (pg_name (i := 5) sc_law.nd rfl (Or.inl rfl))) (fun _ _ _ _ _ => pts_nil) (fun _ _ _ _ _ => (pe_call (ok__law_number T) (hr.mono (by decide)) (by rfl) T.g__law_number T.F__law_number.kp T.b__law_number .nil pass0 (pa_cons (pv 2) (pa_cons (pv 3) pa_nil))))) (pa_cons (pv 3) pa_nil))))) (pss_one (ps_ret pe_bl)) pss_nil))))))
      (pss_one (ps_ret pe_bl))), ?_⟩
    refine ⟨_, rfl, _, rfl, a, _, rfl, hS, fun D1 h1 => ?_⟩
    rw [show (some (2 : Int)) = some ((2 : Nat) : Int) from rfl, cut_i_to]
    generalize g1 : upd H D1 _ = H1
    obtain ⟨s1, t1⟩ := new_of g1 h1
    refine ⟨_, rfl, a, ns, rfl, s1.seq hS, fun r => ⟨by show 1 ≤ sizeLine; decide, fun D2 h2 => ?_⟩⟩
    generalize g2 : upd H1 D2 _ = H2
    obtain ⟨s2, t2⟩ := new_of g2 h2
    refine ⟨D1, D2, _, [.int r], rfl, rfl, s2 _ _ t1, t2, ?_, fun D3 h3 => ?_⟩
    · rw [List.length_map, List.length_take]
      exact Nat.le_of_lt (small_len (by show _ + 1 ≤ _; omega))
    rw [show [V.int r] = [r].map V.int from rfl, ← List.map_append]
    generalize g3 : upd H2 D3 _ = H3
    obtain ⟨s3, t3⟩ := new_of g3 h3
    refine ⟨D3, rfl, ⟨_, .of t3⟩, for_list (xs := (ns.take 2 ++ [r]).map V.int) (fun i σ' H' => Same H3 H' ∧ ∃ y1 y2 y3 y4 y5 : Option V, σ' = [some (.ref a), y1, y2, y3, y4, y5]) ⟨Same.refl _, none, none, none, none, none, rfl⟩ ?_ ?_ ?_⟩
    · rintro i σ' H' hi ⟨z, _⟩
      exact .of (z _ _ t3)
    · rintro i v σ' H4 hv ⟨s4, y1, y2, y3, y4, y5, rfl⟩
      obtain ⟨c, hc, rfl⟩ := int_get hv
      refine ⟨_, rfl, c, rfl, fun H5 d s5 nd S5 => ?_⟩
      refine ⟨_, rfl, d, rfl, S5, fun H6 t b p b6 S6 nt P6 => ?_⟩
      refine ⟨_, rfl, d, 6, rfl, S6, by decide, by decide, fun H7 r7 b7 S7 u7 v7 => ?_⟩
      refine ⟨_, rfl, d, 61, rfl, S7, by decide, by decide, fun H8 r8 b8 S8 u8 v8 => ⟨by show 3 ≤ sizeLine; decide, fun l hl => ?_⟩⟩
      generalize g9 : upd H8 l _ = H9
      obtain ⟨s9, t9⟩ := new_of g9 hl
      refine ⟨_, rfl, d, 3, rfl, S8.same s9, by decide, by decide, fun Ha ra ba Sa ua va => ?_⟩
      obtain ⟨mm, m0, m1, em⟩ : ∃ mm : Int, 0 ≤ mm ∧ mm ≤ 60 ∧ atI [V.int r7, V.int r8, V.int 60] ra = some (V.int mm) := by
        have c3 : ra = 0 ∨ ra = 1 ∨ ra = 2 := by omega
        rcases c3 with rfl | rfl | rfl
        · exact ⟨r7, by omega, by omega, rfl⟩
        · exact ⟨r8, by omega, by omega, rfl⟩
        · exact ⟨60, by decide, by decide, rfl⟩
      refine ⟨l, _, ra, _, rfl, rfl, .of (ba _ _ (S8.out hl) t9), em, ?_⟩
      have Pa : PairW Ha d t b p := (((P6.but b7).but b8).same s9).but ba
      have b5a : But d H5 Ha := b6.trans (b7.trans (b8.trans ((But.of s9).trans ba)))
      refine ⟨_, rfl, mm, rfl, by omega, by omega, fun D hD => lc_range (lo := 0) (n := mm.toNat) (fun i H' => But d Ha H' ∧ Seed H' d ∧ ∃ xs : List Nat, H' D = some (.lst (ivs xs)) ∧ xs.length = i ∧ ∀ x ∈ xs, x < 2 ^ 200) ⟨But.new hD, Sa.same (Same.new hD), [], upd_same, rfl, fun x hx => nomatch hx⟩ ?_ ?_⟩
      · rintro i Hc hi ⟨bc, Sc, xs, ec, lc, bx⟩
        refine ⟨rfl, _, rfl, _, rfl, d, t, b, p, rfl, Sc, Pa.but bc, fun Hd n bd Sd hn => ?_⟩
        have nD : D ≠ d := Sa.out hD
        refine ⟨_, bd _ _ nD ec, small_len (by rw [ivs_length]; omega), (bc.trans bd).own hD, Sd.off nD, xs ++ [n], ?_, by rw [List.length_append, lc]; rfl, fun x hx => ?_⟩
        · rw [upd_same, ivs_append]
          rfl
        · rcases List.mem_append.mp hx with h | h
          · exact bx x h
          · cases List.mem_singleton.mp h
            exact Nat.lt_trans hn (by decide)
      rintro Hc ⟨bc, Sc, xs, ec, lc, bx⟩
      refine ⟨_, rfl, d, t, D, b, p, xs, rfl, Pa.but bc, ec, bx, by omega, fun Hd sd => ⟨true, rfl, iteF ?_⟩⟩
      have bAll : But d H5 Hd := (b5a.trans bc).trans (.of sd)
      refine ⟨fun x o e => ?_, _, _, _, _, _, rfl⟩
      have e5 := s5 _ _ (s4 _ _ e)
      exact bAll _ _ (ne_of_none (s4 _ _ e) nd) e5
    · rintro σ' H4 ⟨s4, y1, y2, y3, y4, y5, rfl⟩
      exact q _

end
theorem all_mk {l : PySem.W.OpenLaw} {w : World} {K : PySem.W.Frag} {h : Heap} {mg : Str → Option Value} {fa f0 f1 f2 f3 f4 f5 f6 f7 f8 f9 f10 f11 f12 f13 f14 f15 f16 f17 : Addr} (X : K.In h) (G : h.Ns mainGlobals mg) (hfa : mg "law" = some (.ref fa))
    {od0 an0 od1 an1 od2 an2 od3 an3 od4 an4 od5 an5 od6 an6 od7 an7 od8 an8 od9 an9 od10 an10 od11 an11 od12 an12 od13 an13 od14 an14 od15 an15 od16 an16 od17 an17 : Option Addr} {sl0 sl1 sl2 sl3 sl4 sl5 sl6 sl7 sl8 sl9 sl10 sl11 sl12 sl13 sl14 sl15 sl16 sl17 : Array (Option Value)} {oc0 kV0 dc0 pm0 cd0 ct0 oc1 kV1 dc1 pm1 cd1 ct1 oc2 kV2 dc2 pm2 cd2 ct2 oc3 kV3 dc3 pm3 cd3 ct3 oc4 kV4 dc4 pm4 cd4 ct4 oc5 kV5 dc5 pm5 cd5 ct5 oc6 kV6 dc6 pm6 cd6 ct6 oc7 kV7 dc7 pm7 cd7 ct7 oc8 kV8 dc8 pm8 cd8 ct8 oc9 kV9 dc9 pm9 cd9 ct9 oc10 kV10 dc10 pm10 cd10 ct10 oc11 kV11 dc11 pm11 cd11 ct11 oc12 kV12 dc12 pm12 cd12 ct12 oc13 kV13 dc13 pm13 cd13 ct13 oc14 kV14 dc14 pm14 cd14 ct14 oc15 kV15 dc15 pm15 cd15 ct15 oc16 kV16 dc16 pm16 cd16 ct16 oc17 kV17 dc17 pm17 cd17 ct17 : Value}
    (a0 : PySem.W.nsIn K mainGlobals "figures_of" = some (some (.ref f0))) (l0 : K.lookup f0 = some ⟨oc0, od0, .func (PySem.W.fnOf "figures_of" "figures_of" (defArgs s_figures_of) (defBody s_figures_of) (defScope s_figures_of) .none kV0 dc0 pm0 an0 cd0 ct0), sl0⟩) (c0 : PySem.W.codeIn K cd0 "figures_of" = true) (k0 : PySem.W.keepIn K (.ref f0) = true)
    (a1 : PySem.W.nsIn K mainGlobals "power_of" = some (some (.ref f1))) (l1 : K.lookup f1 = some ⟨oc1, od1, .func (PySem.W.fnOf "power_of" "power_of" (defArgs s_power_of) (defBody s_power_of) (defScope s_power_of) .none kV1 dc1 pm1 an1 cd1 ct1), sl1⟩) (c1 : PySem.W.codeIn K cd1 "power_of" = true) (k1 : PySem.W.keepIn K (.ref f1) = true)
    (a2 : PySem.W.nsIn K mainGlobals "step_of" = some (some (.ref f2))) (l2 : K.lookup f2 = some ⟨oc2, od2, .func (PySem.W.fnOf "step_of" "step_of" (defArgs s_step_of) (defBody s_step_of) (defScope s_step_of) .none kV2 dc2 pm2 an2 cd2 ct2), sl2⟩) (c2 : PySem.W.codeIn K cd2 "step_of" = true) (k2 : PySem.W.keepIn K (.ref f2) = true)
    (a3 : PySem.W.nsIn K mainGlobals "way_of" = some (some (.ref f3))) (l3 : K.lookup f3 = some ⟨oc3, od3, .func (PySem.W.fnOf "way_of" "way_of" (defArgs s_way_of) (defBody s_way_of) (defScope s_way_of) .none kV3 dc3 pm3 an3 cd3 ct3), sl3⟩) (c3 : PySem.W.codeIn K cd3 "way_of" = true) (k3 : PySem.W.keepIn K (.ref f3) = true)
    (a4 : PySem.W.nsIn K mainGlobals "end_of" = some (some (.ref f4))) (l4 : K.lookup f4 = some ⟨oc4, od4, .func (PySem.W.fnOf "end_of" "end_of" (defArgs s_end_of) (defBody s_end_of) (defScope s_end_of) .none kV4 dc4 pm4 an4 cd4 ct4), sl4⟩) (c4 : PySem.W.codeIn K cd4 "end_of" = true) (k4 : PySem.W.keepIn K (.ref f4) = true)
    (a5 : PySem.W.nsIn K mainGlobals "ends_of" = some (some (.ref f5))) (l5 : K.lookup f5 = some ⟨oc5, od5, .func (PySem.W.fnOf "ends_of" "ends_of" (defArgs s_ends_of) (defBody s_ends_of) (defScope s_ends_of) .none kV5 dc5 pm5 an5 cd5 ct5), sl5⟩) (c5 : PySem.W.codeIn K cd5 "ends_of" = true) (k5 : PySem.W.keepIn K (.ref f5) = true)
    (a6 : PySem.W.nsIn K mainGlobals "_law_folded" = some (some (.ref f6))) (l6 : K.lookup f6 = some ⟨oc6, od6, .func (PySem.W.fnOf "_law_folded" "_law_folded" (defArgs s__law_folded) (defBody s__law_folded) (defScope s__law_folded) .none kV6 dc6 pm6 an6 cd6 ct6), sl6⟩) (c6 : PySem.W.codeIn K cd6 "_law_folded" = true) (k6 : PySem.W.keepIn K (.ref f6) = true)
    (a7 : PySem.W.nsIn K mainGlobals "_law_seed" = some (some (.ref f7))) (l7 : K.lookup f7 = some ⟨oc7, od7, .func (PySem.W.fnOf "_law_seed" "_law_seed" (defArgs s__law_seed) (defBody s__law_seed) (defScope s__law_seed) .none kV7 dc7 pm7 an7 cd7 ct7), sl7⟩) (c7 : PySem.W.codeIn K cd7 "_law_seed" = true) (k7 : PySem.W.keepIn K (.ref f7) = true)
    (a8 : PySem.W.nsIn K mainGlobals "_law_draw" = some (some (.ref f8))) (l8 : K.lookup f8 = some ⟨oc8, od8, .func (PySem.W.fnOf "_law_draw" "_law_draw" (defArgs s__law_draw) (defBody s__law_draw) (defScope s__law_draw) .none kV8 dc8 pm8 an8 cd8 ct8), sl8⟩) (c8 : PySem.W.codeIn K cd8 "_law_draw" = true) (k8 : PySem.W.keepIn K (.ref f8) = true)
    (a9 : PySem.W.nsIn K mainGlobals "_law_power" = some (some (.ref f9))) (l9 : K.lookup f9 = some ⟨oc9, od9, .func (PySem.W.fnOf "_law_power" "_law_power" (defArgs s__law_power) (defBody s__law_power) (defScope s__law_power) .none kV9 dc9 pm9 an9 cd9 ct9), sl9⟩) (c9 : PySem.W.codeIn K cd9 "_law_power" = true) (k9 : PySem.W.keepIn K (.ref f9) = true)
    (a10 : PySem.W.nsIn K mainGlobals "_law_worths" = some (some (.ref f10))) (l10 : K.lookup f10 = some ⟨oc10, od10, .func (PySem.W.fnOf "_law_worths" "_law_worths" (defArgs s__law_worths) (defBody s__law_worths) (defScope s__law_worths) .none kV10 dc10 pm10 an10 cd10 ct10), sl10⟩) (c10 : PySem.W.codeIn K cd10 "_law_worths" = true) (k10 : PySem.W.keepIn K (.ref f10) = true)
    (a11 : PySem.W.nsIn K mainGlobals "_law_pair" = some (some (.ref f11))) (l11 : K.lookup f11 = some ⟨oc11, od11, .func (PySem.W.fnOf "_law_pair" "_law_pair" (defArgs s__law_pair) (defBody s__law_pair) (defScope s__law_pair) .none kV11 dc11 pm11 an11 cd11 ct11), sl11⟩) (c11 : PySem.W.codeIn K cd11 "_law_pair" = true) (k11 : PySem.W.keepIn K (.ref f11) = true)
    (a12 : PySem.W.nsIn K mainGlobals "_law_step" = some (some (.ref f12))) (l12 : K.lookup f12 = some ⟨oc12, od12, .func (PySem.W.fnOf "_law_step" "_law_step" (defArgs s__law_step) (defBody s__law_step) (defScope s__law_step) .none kV12 dc12 pm12 an12 cd12 ct12), sl12⟩) (c12 : PySem.W.codeIn K cd12 "_law_step" = true) (k12 : PySem.W.keepIn K (.ref f12) = true)
    (a13 : PySem.W.nsIn K mainGlobals "_law_end" = some (some (.ref f13))) (l13 : K.lookup f13 = some ⟨oc13, od13, .func (PySem.W.fnOf "_law_end" "_law_end" (defArgs s__law_end) (defBody s__law_end) (defScope s__law_end) .none kV13 dc13 pm13 an13 cd13 ct13), sl13⟩) (c13 : PySem.W.codeIn K cd13 "_law_end" = true) (k13 : PySem.W.keepIn K (.ref f13) = true)
    (a14 : PySem.W.nsIn K mainGlobals "_law_number" = some (some (.ref f14))) (l14 : K.lookup f14 = some ⟨oc14, od14, .func (PySem.W.fnOf "_law_number" "_law_number" (defArgs s__law_number) (defBody s__law_number) (defScope s__law_number) .none kV14 dc14 pm14 an14 cd14 ct14), sl14⟩) (c14 : PySem.W.codeIn K cd14 "_law_number" = true) (k14 : PySem.W.keepIn K (.ref f14) = true)
    (a15 : PySem.W.nsIn K mainGlobals "_law_is_pair" = some (some (.ref f15))) (l15 : K.lookup f15 = some ⟨oc15, od15, .func (PySem.W.fnOf "_law_is_pair" "_law_is_pair" (defArgs s__law_is_pair) (defBody s__law_is_pair) (defScope s__law_is_pair) .none kV15 dc15 pm15 an15 cd15 ct15), sl15⟩) (c15 : PySem.W.codeIn K cd15 "_law_is_pair" = true) (k15 : PySem.W.keepIn K (.ref f15) = true)
    (a16 : PySem.W.nsIn K mainGlobals "_law_right" = some (some (.ref f16))) (l16 : K.lookup f16 = some ⟨oc16, od16, .func (PySem.W.fnOf "_law_right" "_law_right" (defArgs s__law_right) (defBody s__law_right) (defScope s__law_right) .none kV16 dc16 pm16 an16 cd16 ct16), sl16⟩) (c16 : PySem.W.codeIn K cd16 "_law_right" = true) (k16 : PySem.W.keepIn K (.ref f16) = true)
    (a17 : PySem.W.nsIn K mainGlobals "law" = some (some (.ref f17))) (l17 : K.lookup f17 = some ⟨oc17, od17, .func (PySem.W.fnOf "law" "law" (defArgs s_law) (defBody s_law) (defScope s_law) .none kV17 dc17 pm17 an17 cd17 ct17), sl17⟩) (c17 : PySem.W.codeIn K cd17 "law" = true) (k17 : PySem.W.keepIn K (.ref f17) = true)
    (z0 : PySem.W.nsIn K mainGlobals "bool" = some none)
    (z1 : PySem.W.nsIn K mainGlobals "int" = some none)
    (z2 : PySem.W.nsIn K mainGlobals "isinstance" = some none)
    (z3 : PySem.W.nsIn K mainGlobals "len" = some none)
    (z4 : PySem.W.nsIn K mainGlobals "list" = some none)
    (z5 : PySem.W.nsIn K mainGlobals "max" = some none)
    (z6 : PySem.W.nsIn K mainGlobals "min" = some none)
    (z7 : PySem.W.nsIn K mainGlobals "range" = some none)
    (z8 : PySem.W.nsIn K mainGlobals "sum" = some none)
    (z9 : PySem.W.nsIn K mainGlobals "tuple" = some none)
    (z10 : PySem.W.nsIn K mainGlobals "zip" = some none)
    : ∃ fd : FuncData, (∀ (s : Shared) (v : Value), BindsTo s fd ⟨[v], []⟩ [("script", v)]) ∧ ∀ base : Heap, K.In base → base.Ns mainGlobals mg → FnOk l.prog w K mg base CX0 7 fa fd ["script"] (sp_law K) := by
  have e := hfa.symm.trans (PySem.W.mg_of X G a17)
  cases e
  have F0 := fun_mk (st := s_figures_of) l0 c0 k0
  have F1 := fun_mk (st := s_power_of) l1 c1 k1
  have F2 := fun_mk (st := s_step_of) l2 c2 k2
  have F3 := fun_mk (st := s_way_of) l3 c3 k3
  have F4 := fun_mk (st := s_end_of) l4 c4 k4
  have F5 := fun_mk (st := s_ends_of) l5 c5 k5
  have F6 := fun_mk (st := s__law_folded) l6 c6 k6
  have F7 := fun_mk (st := s__law_seed) l7 c7 k7
  have F8 := fun_mk (st := s__law_draw) l8 c8 k8
  have F9 := fun_mk (st := s__law_power) l9 c9 k9
  have F10 := fun_mk (st := s__law_worths) l10 c10 k10
  have F11 := fun_mk (st := s__law_pair) l11 c11 k11
  have F12 := fun_mk (st := s__law_step) l12 c12 k12
  have F13 := fun_mk (st := s__law_end) l13 c13 k13
  have F14 := fun_mk (st := s__law_number) l14 c14 k14
  have F15 := fun_mk (st := s__law_is_pair) l15 c15 k15
  have F16 := fun_mk (st := s__law_right) l16 c16 k16
  have F17 := fun_mk (st := s_law) l17 c17 k17
  let T : Txt K mg := {
    f_figures_of := f0,
    fd_figures_of := _,
    F_figures_of := F0,
    g_figures_of := PySem.W.mg_of X G a0,
    b_figures_of := F0.binds (ps := ["number", "base"]) (fun _ _ _ _ _ _ us hl => match us, hl with | [_, _], _ => rfl),
    f_power_of := f1,
    fd_power_of := _,
    F_power_of := F1,
    g_power_of := PySem.W.mg_of X G a1,
    b_power_of := F1.binds (ps := ["figure", "power"]) (fun _ _ _ _ _ _ us hl => match us, hl with | [_, _], _ => rfl),
    f_step_of := f2,
    fd_step_of := _,
    F_step_of := F2,
    g_step_of := PySem.W.mg_of X G a2,
    b_step_of := F2.binds (ps := ["number", "base", "power"]) (fun _ _ _ _ _ _ us hl => match us, hl with | [_, _, _], _ => rfl),
    f_way_of := f3,
    fd_way_of := _,
    F_way_of := F3,
    g_way_of := PySem.W.mg_of X G a3,
    b_way_of := F3.binds (ps := ["number", "base", "power"]) (fun _ _ _ _ _ _ us hl => match us, hl with | [_, _, _], _ => rfl),
    f_end_of := f4,
    fd_end_of := _,
    F_end_of := F4,
    g_end_of := PySem.W.mg_of X G a4,
    b_end_of := F4.binds (ps := ["number", "base", "power"]) (fun _ _ _ _ _ _ us hl => match us, hl with | [_, _, _], _ => rfl),
    f_ends_of := f5,
    fd_ends_of := _,
    F_ends_of := F5,
    g_ends_of := PySem.W.mg_of X G a5,
    b_ends_of := F5.binds (ps := ["numbers", "base", "power"]) (fun _ _ _ _ _ _ us hl => match us, hl with | [_, _, _], _ => rfl),
    f__law_folded := f6,
    fd__law_folded := _,
    F__law_folded := F6,
    g__law_folded := PySem.W.mg_of X G a6,
    b__law_folded := F6.binds (ps := ["script"]) (fun _ _ _ _ _ _ us hl => match us, hl with | [_], _ => rfl),
    f__law_seed := f7,
    fd__law_seed := _,
    F__law_seed := F7,
    g__law_seed := PySem.W.mg_of X G a7,
    b__law_seed := F7.binds (ps := ["cell"]) (fun _ _ _ _ _ _ us hl => match us, hl with | [_], _ => rfl),
    f__law_draw := f8,
    fd__law_draw := _,
    F__law_draw := F8,
    g__law_draw := PySem.W.mg_of X G a8,
    b__law_draw := F8.binds (ps := ["seed", "most"]) (fun _ _ _ _ _ _ us hl => match us, hl with | [_, _], _ => rfl),
    f__law_power := f9,
    fd__law_power := _,
    F__law_power := F9,
    g__law_power := PySem.W.mg_of X G a9,
    b__law_power := F9.binds (ps := ["number", "often"]) (fun _ _ _ _ _ _ us hl => match us, hl with | [_, _], _ => rfl),
    f__law_worths := f10,
    fd__law_worths := _,
    F__law_worths := F10,
    g__law_worths := PySem.W.mg_of X G a10,
    b__law_worths := F10.binds (ps := ["base", "often"]) (fun _ _ _ _ _ _ us hl => match us, hl with | [_, _], _ => rfl),
    f__law_pair := f11,
    fd__law_pair := _,
    F__law_pair := F11,
    g__law_pair := PySem.W.mg_of X G a11,
    b__law_pair := F11.binds (ps := ["seed"]) (fun _ _ _ _ _ _ us hl => match us, hl with | [_], _ => rfl),
    f__law_step := f12,
    fd__law_step := _,
    F__law_step := F12,
    g__law_step := PySem.W.mg_of X G a12,
    b__law_step := F12.binds (ps := ["number", "pair"]) (fun _ _ _ _ _ _ us hl => match us, hl with | [_, _], _ => rfl),
    f__law_end := f13,
    fd__law_end := _,
    F__law_end := F13,
    g__law_end := PySem.W.mg_of X G a13,
    b__law_end := F13.binds (ps := ["number", "pair"]) (fun _ _ _ _ _ _ us hl => match us, hl with | [_, _], _ => rfl),
    f__law_number := f14,
    fd__law_number := _,
    F__law_number := F14,
    g__law_number := PySem.W.mg_of X G a14,
    b__law_number := F14.binds (ps := ["seed", "pair"]) (fun _ _ _ _ _ _ us hl => match us, hl with | [_, _], _ => rfl),
    f__law_is_pair := f15,
    fd__law_is_pair := _,
    F__law_is_pair := F15,
    g__law_is_pair := PySem.W.mg_of X G a15,
    b__law_is_pair := F15.binds (ps := ["found", "due"]) (fun _ _ _ _ _ _ us hl => match us, hl with | [_, _], _ => rfl),
    f__law_right := f16,
    fd__law_right := _,
    F__law_right := F16,
    g__law_right := PySem.W.mg_of X G a16,
    b__law_right := F16.binds (ps := ["numbers", "pair"]) (fun _ _ _ _ _ _ us hl => match us, hl with | [_, _], _ => rfl),
    f_law := fa,
    fd_law := _,
    F_law := F17,
    g_law := PySem.W.mg_of X G a17,
    b_law := F17.binds (ps := ["script"]) (fun _ _ _ _ _ _ us hl => match us, hl with | [_], _ => rfl),
    m_bool := PySem.W.mg_none_of X G z0,
    m_int := PySem.W.mg_none_of X G z1,
    m_isinstance := PySem.W.mg_none_of X G z2,
    m_len := PySem.W.mg_none_of X G z3,
    m_list := PySem.W.mg_none_of X G z4,
    m_max := PySem.W.mg_none_of X G z5,
    m_min := PySem.W.mg_none_of X G z6,
    m_range := PySem.W.mg_none_of X G z7,
    m_sum := PySem.W.mg_none_of X G z8,
    m_tuple := PySem.W.mg_none_of X G z9,
    m_zip := PySem.W.mg_none_of X G z10 }
  exact ⟨_, fun s v => .of_eq rfl, fun base _ _ => ok_law T⟩
end Fx
open PySem PySem.W PyProof.Rows
set_option maxHeartbeats 0 in
theorem PySem.Challenge.cw_figurerounds_k10_ends_told_holds : PySem.Challenge.rw_figurerounds_k10_ends_told.Holds := by
  w_on; o_law; k_head; (case hw => w_witness2)
  k_fill
  refine L2.walk_of (l := PySem.Challenge.rw_figurerounds_k10_ends_told) (n := 63) (k := 7) (x := "script") (CX := fun _ => L2.CX0) (sp := fun w => Fx.sp_law _) rfl (by decide) rfl ⟨rfl, by decide, by decide⟩ (fun w h Y => PySem.W.kIn_of Y) ?F (fun _ _ a ns hl _ hS => Fx.law_start hl hS) (fun _ _ _ _ _ h => h)
  case F =>
    intro w mg fa h KX G hmg
    refine' Fx.all_mk KX G hmg ?a0 ?l0 ?c0 ?k0 ?a1 ?l1 ?c1 ?k1 ?a2 ?l2 ?c2 ?k2 ?a3 ?l3 ?c3 ?k3 ?a4 ?l4 ?c4 ?k4 ?a5 ?l5 ?c5 ?k5 ?a6 ?l6 ?c6 ?k6 ?a7 ?l7 ?c7 ?k7 ?a8 ?l8 ?c8 ?k8 ?a9 ?l9 ?c9 ?k9 ?a10 ?l10 ?c10 ?k10 ?a11 ?l11 ?c11 ?k11 ?a12 ?l12 ?c12 ?k12 ?a13 ?l13 ?c13 ?k13 ?a14 ?l14 ?c14 ?k14 ?a15 ?l15 ?c15 ?k15 ?a16 ?l16 ?c16 ?k16 ?a17 ?l17 ?c17 ?k17 ?z0 ?z1 ?z2 ?z3 ?z4 ?z5 ?z6 ?z7 ?z8 ?z9 ?z10
    (case a0 => k_is); (case l0 => k_is); (case c0 => k_is); (case k0 => k_is); (case a1 => k_is); (case l1 => k_is); (case c1 => k_is); (case k1 => k_is); (case a2 => k_is); (case l2 => k_is); (case c2 => k_is); (case k2 => k_is); (case a3 => k_is); (case l3 => k_is); (case c3 => k_is); (case k3 => k_is); (case a4 => k_is); (case l4 => k_is); (case c4 => k_is); (case k4 => k_is); (case a5 => k_is); (case l5 => k_is); (case c5 => k_is); (case k5 => k_is); (case a6 => k_is); (case l6 => k_is); (case c6 => k_is); (case k6 => k_is); (case a7 => k_is); (case l7 => k_is); (case c7 => k_is); (case k7 => k_is); (case a8 => k_is); (case l8 => k_is); (case c8 => k_is); (case k8 => k_is); (case a9 => k_is); (case l9 => k_is); (case c9 => k_is); (case k9 => k_is); (case a10 => k_is); (case l10 => k_is); (case c10 => k_is); (case k10 => k_is); (case a11 => k_is); (case l11 => k_is); (case c11 => k_is); (case k11 => k_is); (case a12 => k_is); (case l12 => k_is); (case c12 => k_is); (case k12 => k_is); (case a13 => k_is); (case l13 => k_is); (case c13 => k_is); (case k13 => k_is); (case a14 => k_is); (case l14 => k_is); (case c14 => k_is); (case k14 => k_is); (case a15 => k_is); (case l15 => k_is); (case c15 => k_is); (case k15 => k_is); (case a16 => k_is); (case l16 => k_is); (case c16 => k_is); (case k16 => k_is); (case a17 => k_is); (case l17 => k_is); (case c17 => k_is); (case k17 => k_is); (case z0 => k_is); (case z1 => k_is); (case z2 => k_is); (case z3 => k_is); (case z4 => k_is); (case z5 => k_is); (case z6 => k_is); (case z7 => k_is); (case z8 => k_is); (case z9 => k_is); (case z10 => k_is)
