import PyProof.Rows.All
import Wide.All
import OpenK.AllK
import Wide.FinOn
import HandS.ForMost
import HandS.Wide
import HandS.Style
import HandS.IsInst
import HandS.Conv
import HandS.Codes
import HandS.TupAny
import HandS.Walk
import KE.GoesEnum
import HandS.NoneIn
import KE.DataCmp
import KE.KEqDeep
import PySem.Challenge.RW_figurerounds_k33_whole_kept_as_afresh
set_option Elab.async false
set_option linter.all false
set_option maxRecDepth 100000
set_option maxHeartbeats 4000000

/-! my own words for readings: "rd" goes on while there is one way only -/
local macro_rules | `(tactic| walk_at "cc") => `(tactic| first
  | (with_reducible exact rfl) | (dsimp only [CMul, CDivW]; omega) | (exact ⟨by decide +kernel, by decide +kernel⟩) | decide +kernel)
local macro_rules | `(tactic| walk_at "rd1") => `(tactic| first
  | refine ⟨_, rfl, ?_⟩ | refine ⟨_, _, rfl, rfl, ?_⟩ | refine ⟨rfl, ?_⟩)
local macro_rules | `(tactic| walk_at "rd") => `(tactic| repeat (walk_at "rd1"))

local macro_rules | `(tactic| walk_at "p") => `(tactic| ((show (0 : Int) < _); first | assumption | omega | decide))

namespace Fx
open PySem PySem.Spec PyProof.Rows L2

/-! ### rules named by their readings, for comprehensions -/
def rLenQ (K : PySem.W.Frag) : List V → Hp → VK → Prop := fun xs H Q => ∃ p ys, xs = [V.ref p] ∧ (SqL K H p ys ∨ SqT K H p ys) ∧ Q (.int ys.length) H
def rListQ (K : PySem.W.Frag) : List V → Hp → VK → Prop := fun xs H Q => ∃ p ys, xs = [V.ref p] ∧ (SqL K H p ys ∨ SqT K H p ys) ∧ ∀ l, H l = none → Q (.ref l) (upd H l (.lst ys))

def rTupQ (K : PySem.W.Frag) : List V → Hp → VK → Prop := fun xs H Q => ∃ p ys, xs = [V.ref p] ∧ ((SqL K H p ys ∧ ∀ l, H l = none → Q (.ref l) (upd H l (.tup ys))) ∨ SqT K H p ys ∧ Q (.ref p) H)

/-! ### what stays -/
def But (d : Addr) (H H' : Hp) : Prop := ∀ b o, b ≠ d → H b = some o → H' b = some o
theorem But.refl (d : Addr) (H : Hp) : But d H H := fun _ _ _ h => h
theorem But.trans {d : Addr} {H H1 H2 : Hp} (a : But d H H1) (b : But d H1 H2) : But d H H2 := fun x o n h => b x o n (a x o n h)
theorem But.of {d : Addr} {H H' : Hp} (a : Same H H') : But d H H' := fun x o _ h => a x o h
theorem But.new {d p : Addr} {H : Hp} {o : HO} (h : H p = none) : But d H (upd H p o) := fun b u _ e => by
  rw [upd_ne (ne_of_none e h)]
  exact e
theorem But.set {d : Addr} {H : Hp} {o : HO} : But d H (upd H d o) := fun b u n e => by
  rw [upd_ne n]
  exact e
theorem But.fresh {d p : Addr} {H H' : Hp} (a : But d H H') (hd : ∃ o, H' d = some o) (h : H' p = none) : H p = none := by
  cases e : H p with
  | none => rfl
  | some o =>
    by_cases z : p = d
    · obtain ⟨u, hu⟩ := hd
      rw [z, hu] at h
      cases h
    · rw [a p o z e] at h
      cases h
theorem Same.new {p : Addr} {H : Hp} {o : HO} (h : H p = none) : Same H (upd H p o) := fun b u e => by
  rw [upd_ne (ne_of_none e h)]
  exact e

/-- behind a new object, named by «generalize g : upd H p _ = H'» -/
theorem new_of {H H' : Hp} {p : Addr} {o : HO} (g : upd H p o = H') (hp : H p = none) : Same H H' ∧ H' p = some o := by
  subst g
  exact ⟨Same.new hp, upd_same⟩
theorem set_of {H H' : Hp} {p : Addr} {o : HO} (g : upd H p o = H') : But p H H' ∧ H' p = some o := by
  subst g
  exact ⟨But.set, upd_same⟩

/-! ### the draws -/
/-- the cells at c, the deck at d, at most n draws so far -/
structure Deck (H : Hp) (d c : Addr) (n : Nat) : Prop where
  ex : ∃ (ns : List Int) (i l m t : Int), H d = some (.lst [.ref c, .int i, .int l, .int m, .int t]) ∧ H c = some (.lst (ns.map V.int)) ∧ 0 ≤ i ∧ i ≤ n ∧ 0 ≤ m ∧ m ≤ n
theorem Deck.there {H : Hp} {d c : Addr} {n : Nat} (h : Deck H d c n) : ∃ o, H d = some o := by
  obtain ⟨ns, i, l, m, t, e, _⟩ := h.ex
  exact ⟨_, e⟩
theorem Deck.some {H : Hp} {d c : Addr} {n : Nat} (h : Deck H d c n) : ∃ xs, H d = some (.lst xs) := by
  obtain ⟨ns, i, l, m, t, e, _⟩ := h.ex
  exact ⟨_, e⟩
theorem Deck.ne {H : Hp} {d c : Addr} {n : Nat} (h : Deck H d c n) : c ≠ d := by
  obtain ⟨ns, i, l, m, t, e, e2, _⟩ := h.ex
  intro z
  rw [z, e] at e2
  cases ns with
  | nil => cases e2
  | cons x r => cases e2
theorem Deck.mono {H : Hp} {d c : Addr} {n k : Nat} (h : Deck H d c n) (l : n ≤ k) : Deck H d c k := by
  obtain ⟨ns, i, l, m, t, e, e2, h1, h2, h3, h4⟩ := h.ex
  exact ⟨ns, i, l, m, t, e, e2, h1, by omega, h3, by omega⟩
theorem Deck.same {H H' : Hp} {d c : Addr} {n : Nat} (h : Deck H d c n) (a : Same H H') : Deck H' d c n := by
  obtain ⟨ns, i, l, m, t, e, e2, r⟩ := h.ex
  exact ⟨ns, i, l, m, t, a _ _ e, a _ _ e2, r⟩
theorem Deck.new {H : Hp} {d c p : Addr} {n : Nat} {o : HO} (h : Deck H d c n) (hp : H p = none) : Deck (upd H p o) d c n := h.same (Same.new hp)
/-- something else than the deck and its cells is written -/
theorem Deck.off {H : Hp} {d c p : Addr} {n : Nat} {o : HO} (h : Deck H d c n) (h1 : p ≠ d) (h2 : p ≠ c) : Deck (upd H p o) d c n := by
  obtain ⟨ns, i, l, m, t, e, e2, r⟩ := h.ex
  exact ⟨ns, i, l, m, t, by rw [upd_ne (Ne.symm h1)]; exact e, by rw [upd_ne (Ne.symm h2)]; exact e2, r⟩
/-- a list of our own grows -/
theorem But.own {d p : Addr} {H H' : Hp} {o : HO} (a : But d H H') (hp : H p = none) : But d H (upd H' p o) := fun b u n e => by
  rw [upd_ne (ne_of_none e hp)]
  exact a b u n e
theorem Deck.out {H : Hp} {d c p : Addr} {n : Nat} (h : Deck H d c n) (hp : H p = none) : p ≠ d ∧ p ≠ c := by
  obtain ⟨ns, i, l, m, t, e, e2, r⟩ := h.ex
  exact ⟨(ne_of_none e hp).symm, (ne_of_none e2 hp).symm⟩
/-- an object that is no list stays -/
theorem But.tup {d c p : Addr} {n : Nat} {H H' : Hp} {xs : List V} (a : But d H H') (h : Deck H d c n) (e : H p = some (.tup xs)) : H' p = some (.tup xs) := by
  obtain ⟨ys, q⟩ := h.some
  exact a p _ (ne_of e q (fun z => by cases z)) e

/-- a slice from the first on -/
theorem cut_to (xs : List V) (n : Nat) : cutV xs none (some (n : Int)) = xs.take n := by
  unfold cutV
  rw [HT.sIx_none, HT.sIx_nat]
  show List.take (min n xs.length - 0) (xs.drop 0) = _
  rw [List.drop_zero, Nat.sub_zero]
  by_cases h : n ≤ xs.length
  · rw [Nat.min_eq_left h]
  · rw [Nat.min_eq_right (by omega), List.take_length, List.take_of_length_le (by omega)]
/-- a slice from the n-th on -/
theorem cut_from (xs : List V) (n : Nat) : cutV xs (some (n : Int)) none = xs.drop n := by
  unfold cutV
  rw [HT.sIx_none, HT.sIx_nat]
  by_cases h : n ≤ xs.length
  · rw [Nat.min_eq_left h]
    exact List.take_of_length_le (by rw [List.length_drop]; omega)
  · rw [Nat.min_eq_right (by omega), Nat.sub_self, List.take_zero, List.drop_eq_nil_of_le (by omega)]

/-- a while's next turn -/
def Nx (W : Nat → L2.St → Hp → Prop) (m : Nat) : L2.St → Hp → Prop := fun σ' H' => ∃ m', m' < m ∧ W m' σ' H'
theorem Nx.id {W : Nat → L2.St → Hp → Prop} {m : Nat} : ∀ σ' H', Nx W m σ' H' → ∃ m', m' < m ∧ W m' σ' H' := fun _ _ h => h

theorem small5 {n : Nat} (h : n < 100000) : n < sizeLine := Nat.lt_of_lt_of_le h (by decide)

/-- a divisor's, a factor's bound -/
theorem divW {i j : Int} (b : Nat) (h : 0 < j) (hb : j < 2 ^ b) (h0 : 0 < b := by decide) (h9 : b ≤ 9000 := by decide) : CDivW i j := wide_div h (b := b) (by
  have e : ((2 ^ b : Nat) : Int) = (2 : Int) ^ b := by simp
  omega) h0 h9
end Fx

namespace Fx
open PySem PySem.Spec PyProof.Rows L2
/-! ### for i, c in enumerate(text) -/
def IteS (x : Str) : It := ⟨fun i _ => i < x.cps.size, fun i H v H' => ∃ (T : Addr) (c : Nat), v = .ref T ∧ H T = none ∧ x.cps[i]? = some c ∧ H' = upd H T (.tup [.int (i : Nat), .str ⟨#[c]⟩]), fun i _ => x.cps.size ≤ i⟩
theorem turn_enumS {P : Program} {w : World} {K : PySem.W.Frag} {elts : List Expr} {kk : Nat} {tpos : Pos} (x : Str) (t : Tok) (e it : Addr) (hne : e ≠ it) :
    Turn P w K (.Tuple elts kk tpos) (IteS x) [e, it] e (fun i h => (∃ old, IsEnum h e it (0 + (i : Int)) old) ∧ h.IsStrIter it (strIterType x) x t i ∧ i ≤ x.cps.size) where
  mem := by simp
  obj := fun i h st b hb => by
    obtain ⟨⟨_, he⟩, ⟨o, ho, _, hd⟩, _⟩ := st
    have two : b = e ∨ b = it := by simpa using hb
    rcases two with rfl | rfl
    · exact ⟨_, he, fun _ q => nomatch q⟩
    · exact ⟨o, ho, fun _ q => nomatch (hd.symm.trans q)⟩
  keep := fun i h h' st k => by
    obtain ⟨⟨old, he⟩, ⟨o, ho, r⟩, le⟩ := st
    exact ⟨⟨old, k e (by simp) _ he⟩, ⟨o, k it (by simp) o ho, r⟩, le⟩
  item := by
    intro X p1 p2 p3 hc i pins s σ H E I hf st hg
    subst p1 p2 p3
    have W := WalksT.enumFrom (prog := X.prog) (w := X.w) (A := X.A) 0 (Draws.text (A := X.A.in1) (I.ok.hd hc) it x t) e hne (fun z => hne (List.mem_singleton.mp z)) (List.mem_singleton.mpr rfl)
    refine W.item i s _ _ hg ⟨st.1, st.2.1⟩ fun T vals h1 tk hP hsz hT hM hk => ⟨_, rfl, W.go _ _ _ i T _ _ _ hM fun h2 st2 hk2 => ?_⟩
    obtain ⟨u, y, ⟨c, v, hcx, rfl⟩, rfl⟩ := hP
    have kk2 : ∀ b o, b ∉ [e, it] → s.heap.get? b = some o → h2.get? b = some o := fun b o hb z => hk2 b o hb (hk b o hb z)
    have hTn : T ∉ [e, it] := W.apart i T _ hM
    obtain ⟨oT, hT1, hT2, n3, hT3⟩ := hT
    have new : ObjOk X.prog X.w (upd H T (.tup [.int (i : Nat), .str ⟨#[c]⟩])) h2 T (.tup [.int (i : Nat), .str ⟨#[c]⟩]) := by
      refine ⟨by show 2 ≤ sizeLine; decide, [.int (0 + (i : Int)) u, .str ⟨#[c]⟩ v], .cons ⟨u, ?_⟩ (.cons ⟨v, rfl⟩ .nil), ⟨oT, hk2 T _ hTn hT1, hT2, n3, hT3⟩⟩
      rw [Int.zero_add]
    have I1 : Inv X pins σ (upd H T (.tup [.int (i : Nat), .str ⟨#[c]⟩])) { s with heap := h2, toks := tk } := I.turnedNew (ch := [e, it]) kk2 hf hsz new
    refine ⟨.ref T, _, I1, rfl, ⟨T, c, rfl, I.hok.fresh hsz, hcx, rfl⟩, ?_, fun b hb => ?_⟩
    · exact ⟨st2.1, st2.2, hg⟩
    · rw [upd_ne (fun z => hTn (by rw [← z]; exact hb))]
      exact (hf b hb).1
  done := by
    intro X p1 p2 p3 hc i pins s σ H E I hf st hg
    subst p1 p2 p3
    obtain ⟨⟨old, he⟩, hit, le⟩ := st
    have fit := hf it (by simp)
    obtain rfl : i = x.cps.size := Nat.le_antisymm le hg
    exact wpAny_pyNext_enum_endD (Draws.text (A := X.A.in1) (I.ok.hd hc) it x t) he hit fun h' eb => ⟨rfl, I.turned (t' := s.toks) (fun b o hb q => eb b o hb q) fit.1 fit.2.1 fit.2.2.2.1 fit.2.2.2.2.1 fit.2.2.2.2.2⟩
  self := fun _ _ _ _ _ st h => wpAny_pyIter_enum st.1.choose_spec h
def iEnumS (ta : TA) : TI := fun σ H R => ta σ H fun vs H1 => ∃ x, vs = [.str x] ∧ R (IteS x) H1
theorem pi_enumS {X : Cx} {e : Expr} {ta : TA} {p pos tpos : Pos} {elts : List Expr} {kk : Nat} (hg : Gl X "enumerate") (hm : X.mg "enumerate" = none) (ha : PA X [e] ta) (hs : starEach [e] X.env = [(false, eval e X.env)] := by rfl) :
    PI X (.Tuple elts kk tpos) (.Call (.Name "enumerate" p) [e] [] pos) (iEnumS ta) := by
  refine ⟨fun pn s σ H R I h => Call_ (ld_blt I hg hm boot_enumerate (PyProof.Rows.callWith_type1 (thn (ha.run pos pn s σ H _ I h) fun us s1 ⟨vs, H1, I1, r1, q1⟩ => ?_) hs rfl))⟩
  obtain ⟨x, ex, q⟩ := q1
  subst ex
  cases r1 with
  | cons r rr =>
    cases rr
    obtain ⟨t, rfl⟩ := r
    refine call_enumerate_str fun h' he hit hsz hk => wpAny_pyIter_enum he ?_
    have I2 : Inv X pn σ H1 { s1 with heap := h' } := I1.kept (t' := s1.toks) hk
    refine ⟨s1.heap.objs.size + 1, [s1.heap.objs.size + 1, s1.heap.objs.size], _, _, H1, rfl, I2, turn_enumS x t (s1.heap.objs.size + 1) s1.heap.objs.size (Nat.succ_ne_self _), ⟨⟨.none, he⟩, hit, Nat.zero_le _⟩, fun b hb => ?_, q⟩
    have two : b = s1.heap.objs.size + 1 ∨ b = s1.heap.objs.size := by simpa only [List.mem_cons, List.not_mem_nil, or_false] using hb
    have behind : s1.heap.objs.size ≤ b := two.elim (fun z => z ▸ Nat.le_succ _) fun z => Nat.le_of_eq z.symm
    exact I1.fpOk behind (I1.hok.fresh behind)
theorem walk_enumS {x : Str} : Walk (IteS x) x.cps.size (fun _ => True) (fun i H v H' => ∃ (T : Addr) (c : Nat), v = .ref T ∧ H T = none ∧ x.cps[i]? = some c ∧ H' = upd H T (.tup [.int (i : Nat), .str ⟨#[c]⟩])) :=
  ⟨fun _ _ hi _ => hi, fun _ _ => Nat.le_refl _, fun _ _ _ _ _ _ y => y⟩
end Fx

namespace Fx
open PySem PySem.Spec PyProof.Rows L2
/-! ### lists of numbers as they stand -/
def ivs (l : List Nat) : List V := l.map fun (k : Nat) => V.int (k : Int)
theorem ivs_map (l : List Nat) : ivs l = (l.map fun (k : Nat) => (k : Int)).map V.int := by
  unfold ivs
  rw [List.map_map]
  rfl
theorem ivs_append (l r : List Nat) : ivs (l ++ r) = ivs l ++ ivs r := List.map_append
theorem ivs_length (l : List Nat) : (ivs l).length = l.length := List.length_map ..
theorem ivs_reverse (l : List Nat) : (ivs l).reverse = ivs l.reverse := by
  unfold ivs
  rw [List.map_reverse]
theorem ivs_get {l : List Nat} {i : Nat} {x : V} (h : (ivs l)[i]? = some x) : ∃ k, l[i]? = some k ∧ x = V.int (k : Int) := by
  unfold ivs at h
  rw [List.getElem?_map] at h
  cases e : l[i]? with
  | none => rw [e] at h; cases h
  | some k =>
    rw [e] at h
    exact ⟨k, rfl, (Option.some.inj h).symm⟩
theorem ivs_at {l : List Nat} {i k : Nat} (h : l[i]? = some k) : (ivs l)[i]? = some (V.int (k : Int)) := by
  unfold ivs
  rw [List.getElem?_map, h]
  rfl
theorem sum_cast : ∀ l : List Nat, (l.map fun (k : Nat) => (k : Int)).sum = ((l.sum : Nat) : Int)
  | [] => rfl
  | a :: r => by
    rw [List.map_cons, List.sum_cons, List.sum_cons, sum_cast r]
    simp
theorem same_own {H H' : Hp} {p : Addr} {o : HO} (a : Same H H') (hp : H p = none) : Same H (upd H' p o) := fun b u e => by
  rw [upd_ne (ne_of_none e hp)]
  exact a b u e

/-! ### data that are compared -/
def dInts (l : List Int) : List PyData := l.map PyData.int
theorem dpAll_ints {K : PySem.W.Frag} {H : Hp} : ∀ l : List Int, DpAll K H (l.map V.int) (dInts l)
  | [] => .nil
  | a :: r => .cons (.int a) (dpAll_ints r)
theorem dpAll_ivs {K : PySem.W.Frag} {H : Hp} (l : List Nat) : DpAll K H (ivs l) (dInts (l.map fun (k : Nat) => (k : Int))) := by
  rw [ivs_map]
  exact dpAll_ints _
theorem canLay_ints : ∀ l : List Int, PyData.canLayAll0 (dInts l) = true
  | [] => rfl
  | a :: r => by
    unfold dInts
    rw [List.map_cons, PyData.canLayAll0]
    have h := canLay_ints r
    unfold dInts at h
    rw [h]
    rfl
theorem depth_ints : ∀ l : List Int, PyData.depthAll (dInts l) ≤ 1
  | [] => by unfold dInts; rw [List.map_nil]; unfold PyData.depthAll; decide
  | a :: r => by
    have h := depth_ints r
    unfold dInts at h ⊢
    rw [List.map_cons]
    unfold PyData.depthAll PyData.depth
    omega
theorem shaped_list {ds : List PyData} (h : PyData.canLayAll0 ds = true) (d : PyData.depthAll ds ≤ 60) : SeqAt.shaped (.list ds) = true := by
  unfold SeqAt.shaped
  rw [Bool.and_eq_true]
  refine ⟨by rw [PyData.canLay0]; exact h, decide_eq_true ?_⟩
  unfold PyData.depth
  omega
theorem shaped_tup {ds : List PyData} (h : PyData.canLayAll0 ds = true) (d : PyData.depthAll ds ≤ 60) : SeqAt.shaped (.tuple ds) = true := by
  unfold SeqAt.shaped
  rw [Bool.and_eq_true]
  refine ⟨by rw [PyData.canLay0]; exact h, decide_eq_true ?_⟩
  unfold PyData.depth
  omega
theorem shaped_ints (l : List Int) : SeqAt.shaped (.list (dInts l)) = true := shaped_list (canLay_ints l) (Nat.le_trans (depth_ints l) (by decide))
theorem shaped_tints (l : List Int) : SeqAt.shaped (.tuple (dInts l)) = true := shaped_tup (canLay_ints l) (Nat.le_trans (depth_ints l) (by decide))
theorem eqv_same {d : PyData} (h : SeqAt.shaped d = true) : PyData.eqv d d = true := SeqAt.eqv_refl d (SeqAt.canLay_of_shaped h)
end Fx

namespace Fx
/-! ### figures -/
/-- figures, the least place first -/
def lsd (b n : Nat) : List Nat := if h : 2 ≤ b ∧ b ≤ n then (n % b) :: lsd b (n / b) else [n]
termination_by n
decreasing_by exact Nat.div_lt_self (by omega) (by omega)
theorem lsd_lt {b n : Nat} (h : n < b) : lsd b n = [n] := by
  rw [lsd, dif_neg (by omega)]
theorem lsd_ge {b n : Nat} (hb : 2 ≤ b) (h : b ≤ n) : lsd b n = n % b :: lsd b (n / b) := by
  rw [lsd, dif_pos ⟨hb, h⟩]
theorem lsd_split {b r : Nat} (hb : 2 ≤ b) : lsd b r = r % b :: (if r / b = 0 then [] else lsd b (r / b)) := by
  by_cases h : b ≤ r
  · have : r / b ≠ 0 := by
      have := Nat.div_pos h (by omega)
      omega
    rw [if_neg this, lsd_ge hb h]
  · rw [if_pos (Nat.div_eq_of_lt (by omega)), lsd_lt (by omega), Nat.mod_eq_of_lt (by omega)]
theorem lsd_below {b : Nat} (hb : 2 ≤ b) : ∀ n : Nat, ∀ d ∈ lsd b n, d < b := fun n => by
  induction n using Nat.strongRecOn with
  | ind n ih =>
    intro d hd
    by_cases h : b ≤ n
    · rw [lsd_ge hb h] at hd
      rcases List.mem_cons.mp hd with rfl | hd
      · exact Nat.mod_lt _ (by omega)
      · exact ih (n / b) (Nat.div_lt_self (by omega) (by omega)) d hd
    · rw [lsd_lt (by omega)] at hd
      cases List.mem_singleton.mp hd
      omega
theorem lsd_ne {b n : Nat} : lsd b n ≠ [] := by
  rw [lsd]
  split <;> simp
theorem lsd_len {b : Nat} (hb : 2 ≤ b) : ∀ (k n : Nat), n < b ^ (k + 1) → (k = 0 ∨ b ^ k ≤ n) → (lsd b n).length = k + 1
  | 0, n, h, _ => by
    rw [Nat.zero_add, Nat.pow_one] at h
    rw [lsd_lt h]
    rfl
  | k + 1, n, h, g => by
    have g' : b ^ (k + 1) ≤ n := by
      rcases g with g | g
      · omega
      · exact g
    have p : 0 < b ^ k := Nat.pow_pos (by omega)
    have h1 : b ≤ n := by
      rw [Nat.pow_succ] at g'
      have := Nat.mul_le_mul_right b (show 1 ≤ b ^ k by omega)
      omega
    rw [lsd_ge hb h1, List.length_cons, lsd_len hb k (n / b)]
    · rw [Nat.div_lt_iff_lt_mul (by omega), ← Nat.pow_succ]
      exact h
    · right
      rw [Nat.le_div_iff_mul_le (by omega), ← Nat.pow_succ]
      exact g'
theorem lsd_get {b : Nat} (hb : 2 ≤ b) : ∀ (i n : Nat), i < (lsd b n).length → (lsd b n)[i]? = some (n / b ^ i % b)
  | 0, n, _ => by
    rw [lsd_split hb, Nat.pow_zero, Nat.div_one]
    rfl
  | i + 1, n, h => by
    rw [lsd_split hb] at h ⊢
    split at h
    · simp at h
    · rename_i hr
      rw [if_neg hr, List.getElem?_cons_succ, lsd_get hb i (n / b) (by simpa using h)]
      rw [Nat.div_div_eq_div_mul, Nat.pow_succ, Nat.mul_comm]
theorem lsd_len_le {b : Nat} (hb : 2 ≤ b) : ∀ (k n : Nat), n < 2 ^ (k + 1) → (lsd b n).length ≤ k + 1
  | 0, n, h => by
    rw [lsd_lt (by omega)]
    exact Nat.le_refl _
  | k + 1, n, h => by
    by_cases g : b ≤ n
    · rw [lsd_ge hb g, List.length_cons]
      have : n / b < 2 ^ (k + 1) := by
        rw [Nat.div_lt_iff_lt_mul (by omega)]
        have := Nat.mul_le_mul_left (2 ^ (k + 1)) hb
        rw [Nat.pow_succ] at h
        omega
      have := lsd_len_le hb k (n / b) this
      omega
    · rw [lsd_lt (by omega)]
      show 1 ≤ _
      omega
/-- figures, the greatest place first -/
def figs (b n : Nat) : List Nat := (lsd b n).reverse
theorem figs_len (b n : Nat) : (figs b n).length = (lsd b n).length := List.length_reverse ..
theorem figs_below {b n d : Nat} (hb : 2 ≤ b) (h : d ∈ figs b n) : d < b := lsd_below hb n d (List.mem_reverse.mp h)
theorem figs_le {b n : Nat} (hb : 2 ≤ b) (h : n < 2 ^ 900) : (figs b n).length ≤ 900 := by
  rw [figs_len]
  exact lsd_len_le hb 899 n h
/-! ### steps -/
def stepN (b p n : Nat) : Nat := ((figs b n).map (· ^ p)).sum
theorem sum_le_mul {l : List Nat} {m : Nat} (h : ∀ x ∈ l, x ≤ m) : l.sum ≤ l.length * m := by
  induction l with
  | nil => simp
  | cons a r ih =>
    rw [List.sum_cons, List.length_cons, Nat.succ_mul]
    have h1 := h a (List.mem_cons_self ..)
    have h2 := ih fun x hx => h x (List.mem_cons_of_mem _ hx)
    omega
theorem pow_le_base {d b p : Nat} (h : d < b) : d ^ p ≤ (b - 1) ^ p := Nat.pow_le_pow_left (by omega) p
theorem stepN_le {b p n : Nat} (hb : 2 ≤ b) : stepN b p n ≤ (figs b n).length * (b - 1) ^ p := by
  unfold stepN
  have := sum_le_mul (l := (figs b n).map (· ^ p)) (m := (b - 1) ^ p) fun x hx => by
    obtain ⟨d, hd, rfl⟩ := List.mem_map.mp hx
    exact pow_le_base (figs_below hb hd)
  rwa [List.length_map] at this
theorem worth_lt {b p : Nat} (hb : b ≤ 16) (hp : p ≤ 10) : (b - 1) ^ p < 2 ^ 40 := by
  have h1 : (b - 1) ^ p ≤ 15 ^ p := Nat.pow_le_pow_left (by omega) p
  have h2 : 15 ^ p ≤ 15 ^ 10 := Nat.pow_le_pow_right (by decide) hp
  have h3 : 15 ^ 10 < 2 ^ 40 := by decide
  omega
theorem stepN_lt {b p n : Nat} (hb : 2 ≤ b) (hb16 : b ≤ 16) (hp : p ≤ 10) (hn : n < 2 ^ 900) : stepN b p n < 2 ^ 50 := by
  have h1 := stepN_le (p := p) (n := n) hb
  have h2 := figs_le hb hn
  have h3 := worth_lt hb16 hp
  have h4 : (figs b n).length * (b - 1) ^ p ≤ 900 * 2 ^ 40 := Nat.mul_le_mul h2 (by omega)
  omega
/-- steps again and again -/
def itN (b p n : Nat) : Nat → Nat
  | 0 => n
  | k + 1 => stepN b p (itN b p n k)
theorem itN_lt {b p n : Nat} (hb : 2 ≤ b) (hb16 : b ≤ 16) (hp : p ≤ 10) (hn : n < 2 ^ 900) : ∀ k, itN b p n k < 2 ^ 900
  | 0 => hn
  | k + 1 => by
    have := stepN_lt hb hb16 hp (itN_lt hb hb16 hp hn k)
    have : itN b p n (k + 1) = stepN b p (itN b p n k) := rfl
    have e : (2 : Nat) ^ 50 ≤ 2 ^ 900 := Nat.pow_le_pow_right (by decide) (by decide)
    omega
def rowN (b p n : Nat) : Nat → List Nat
  | 0 => []
  | m + 1 => rowN b p n m ++ [itN b p n m]
theorem rowN_len (b p n : Nat) : ∀ m, (rowN b p n m).length = m
  | 0 => rfl
  | m + 1 => by
    rw [rowN, List.length_append, rowN_len b p n m]
    rfl
end Fx
namespace Fx
/-! ### the law's own figures -/
def powsN (b : Nat) : Nat → List Nat
  | 0 => []
  | k + 1 => powsN b k ++ [b ^ k]
theorem powsN_len (b : Nat) : ∀ k, (powsN b k).length = k
  | 0 => rfl
  | k + 1 => by
    rw [powsN, List.length_append, powsN_len b k]
    rfl
theorem powsN_get (b : Nat) : ∀ k i, i < k → (powsN b k)[i]? = some (b ^ i)
  | 0, _, h => by omega
  | k + 1, i, h => by
    rw [powsN]
    by_cases e : i = k
    · subst e
      rw [List.getElem?_append_right (by rw [powsN_len]; exact Nat.le_refl _), powsN_len, Nat.sub_self]
      rfl
    · rw [List.getElem?_append_left (by rw [powsN_len]; omega)]
      exact powsN_get b k i (by omega)
theorem powsN_rev {b k i : Nat} (h : i < k + 1) : (powsN b (k + 1)).reverse[i]? = some (b ^ (k - i)) := by
  rw [List.getElem?_reverse (by rw [powsN_len]; exact h), powsN_len, powsN_get b (k + 1) _ (by omega)]
  rw [show k + 1 - 1 - i = k - i by omega]
def fndN (b n k i : Nat) : List Nat := (List.range i).map fun t => n / b ^ (k - t) % b
theorem fndN_succ (b n k i : Nat) : fndN b n k (i + 1) = fndN b n k i ++ [n / b ^ (k - i) % b] := by
  unfold fndN
  rw [List.range_succ, List.map_append]
  rfl
theorem fndN_len (b n k i : Nat) : (fndN b n k i).length = i := by
  unfold fndN
  rw [List.length_map, List.length_range]
theorem fndN_all {b n k : Nat} (hb : 2 ≤ b) (h1 : n < b ^ (k + 1)) (h2 : k = 0 ∨ b ^ k ≤ n) : fndN b n k (k + 1) = figs b n := by
  have hl := lsd_len hb k n h1 h2
  refine List.ext_getElem? fun i => ?_
  by_cases hi : i < k + 1
  · unfold figs fndN
    rw [List.getElem?_reverse (by rw [hl]; exact hi), hl, lsd_get hb _ n (by rw [hl]; omega), List.getElem?_map, List.getElem?_range hi]
    have e : k + 1 - 1 - i = k - i := by omega
    rw [e]
    rfl
  · rw [List.getElem?_eq_none (by rw [fndN_len]; omega), List.getElem?_eq_none (by rw [figs_len, hl]; omega)]
theorem fig_div {b n j : Nat} : n % b ^ (j + 1) / b ^ j = n / b ^ j % b := by
  rw [Nat.pow_succ, Nat.mod_mul_right_div_self]
theorem fig_mod {b n j : Nat} : n % b ^ (j + 1) % b ^ j = n % b ^ j := by
  rw [Nat.pow_succ, Nat.mod_mul_right_mod]
theorem lt_pow' {b : Nat} (hb : 2 ≤ b) : ∀ k : Nat, k < b ^ k
  | 0 => by rw [Nat.pow_zero]; decide
  | k + 1 => by
    have := lt_pow' hb k
    rw [Nat.pow_succ]
    have := Nat.mul_le_mul_left (b ^ k) hb
    omega
open L2 in
theorem divN {x : Int} {j : Nat} (h0 : 0 < j) (h : j < 2 ^ 900) : CDivW x (j : Int) := wide_div (b := 900) (by omega) h (by decide) (by decide)
end Fx

namespace Fx
open PySem PySem.Spec PyProof.Rows L2
/-! ### texts of figures -/
/-- the signs of the figures -/
def figCodes : List Nat := [48, 49, 50, 51, 52, 53, 54, 55, 56, 57, 97, 98, 99, 100, 101, 102]
def sg (d : Nat) : Nat := figCodes.getD d 0
abbrev one (c : Nat) : Str := ⟨#[c]⟩
def txt (ds : List Nat) : Str := ⟨(ds.map sg).toArray⟩
abbrev FIG : Str := "0123456789abcdef"
theorem fig_codes : FIG.cps.toList = figCodes := by decide +kernel
theorem fig_len : FIG.length ≤ sizeLine := by decide +kernel
theorem fig_at {d : Nat} (h : d < 16) : atI FIG.cps.toList (d : Int) = some (sg d) := by
  refine atI_nat ?_
  rw [fig_codes]
  have a : ∀ d ∈ List.range 16, figCodes[d]? = some (sg d) := by decide +kernel
  exact a d (List.mem_range.mpr h)
theorem fig_find {d : Nat} (h : d < 16) : Txt.find FIG (one (sg d)) = (d : Int) := by
  have a : ∀ d ∈ List.range 16, Txt.find FIG (one (sg d)) = (d : Int) := by decide +kernel
  exact a d (List.mem_range.mpr h)
theorem sg_inj {d e : Nat} (h : d < 16) (h' : e < 16) (q : sg d = sg e) : d = e := by
  have a : ∀ d ∈ List.range 16, ∀ e ∈ List.range 16, sg d = sg e → d = e := by decide +kernel
  exact a d (List.mem_range.mpr h) e (List.mem_range.mpr h') q
theorem tl_txt (ds : List Nat) : (txt ds).cps.toList = ds.map sg := rfl
theorem txt_len (ds : List Nat) : (txt ds).length = ds.length := by
  show (ds.map sg).toArray.size = _
  rw [List.size_toArray, List.length_map]
theorem txt_at {ds : List Nat} {i : Nat} {d : Nat} (h : ds[i]? = some d) : (txt ds).cps[i]? = some (sg d) := by
  show ((ds.map sg).toArray)[i]? = _
  rw [List.getElem?_toArray, List.getElem?_map, h]
  rfl
theorem txt_atI {ds : List Nat} {i : Nat} {d : Nat} (h : ds[i]? = some d) : atI (txt ds).cps.toList (i : Int) = some (sg d) := by
  refine atI_nat ?_
  rw [tl_txt, List.getElem?_map, h]
  rfl
/-- signs joined -/
theorem joinL_ones : ∀ cs : List Nat, TL.joinL [] (cs.map fun c => [c]) = cs
  | [] => rfl
  | [c] => rfl
  | c :: e :: r => by
    show [c] ++ ([] ++ TL.joinL [] ((e :: r).map fun c => [c])) = _
    rw [joinL_ones (e :: r)]
    rfl
theorem join_ones (cs : List Nat) : Txt.join "" (cs.map one) = ⟨cs.toArray⟩ := by
  rw [TL.join_eq]
  have e : TL.tl (Str.join "" (cs.map one)) = TL.tl ⟨cs.toArray⟩ := by
    rw [TL.tl_join, List.map_map]
    exact joinL_ones cs
  have f : ∀ x y : Str, TL.tl x = TL.tl y → x = y := fun x y h => by
    cases x with
    | mk a =>
      cases y with
      | mk b =>
        have h' : a.toList = b.toList := h
        rw [show a = b from Array.toList_inj.mp h']
  exact f _ _ e
/-- what figures are worth -/
def val (b : Nat) (ds : List Nat) : Nat := ds.foldl (fun a d => a * b + d) 0
theorem val_take {b : Nat} {ds : List Nat} {i d : Nat} (h : ds[i]? = some d) : val b (ds.take (i + 1)) = val b (ds.take i) * b + d := by
  unfold val
  rw [List.take_add_one, h, List.foldl_append]
  rfl
theorem val_figs {b : Nat} (hb : 2 ≤ b) : ∀ n : Nat, val b (figs b n) = n := fun n => by
  induction n using Nat.strongRecOn with
  | ind n ih =>
    by_cases h : b ≤ n
    · have e : figs b n = figs b (n / b) ++ [n % b] := by
        unfold figs
        rw [lsd_ge hb h, List.reverse_cons]
      have i := ih (n / b) (Nat.div_lt_self (by omega) (by omega))
      rw [e]
      unfold val at i ⊢
      rw [List.foldl_append, i]
      show n / b * b + n % b = n
      rw [Nat.mul_comm]
      exact Nat.div_add_mod n b
    · unfold figs
      rw [lsd_lt (by omega)]
      show 0 * b + n = n
      omega
theorem val_lt {b : Nat} (hb : 2 ≤ b) : ∀ ds : List Nat, (∀ d ∈ ds, d < b) → val b ds < b ^ ds.length := fun ds h => by
  have go : ∀ (ds : List Nat) (a k : Nat), (∀ d ∈ ds, d < b) → a < b ^ k → ds.foldl (fun a d => a * b + d) a < b ^ (k + ds.length) := by
    intro ds
    induction ds with
    | nil => intro a k _ h; exact h
    | cons d r ih =>
      intro a k h0 h1
      have hd := h0 d (List.mem_cons_self ..)
      have := ih (a * b + d) (k + 1) (fun e he => h0 e (List.mem_cons_of_mem _ he)) (by
        rw [Nat.pow_succ]
        have := Nat.mul_le_mul_right b (show a + 1 ≤ b ^ k from h1)
        rw [Nat.succ_mul] at this
        omega)
      rw [List.length_cons]
      rw [show k + (r.length + 1) = k + 1 + r.length by omega]
      exact this
  have := go ds 0 0 h (by rw [Nat.pow_zero]; decide)
  rwa [Nat.zero_add] at this
/-- a number's figures: no nought ahead of others -/
theorem figs_head {b : Nat} (hb : 2 ≤ b) : ∀ n : Nat, ∀ d : Nat, (figs b n)[0]? = some d → d = 0 → (figs b n).length = 1 := fun n => by
  induction n using Nat.strongRecOn with
  | ind n ih =>
    intro d hd h0
    by_cases h : b ≤ n
    · have e : figs b n = figs b (n / b) ++ [n % b] := by
        unfold figs
        rw [lsd_ge hb h, List.reverse_cons]
      have hlen : 0 < (figs b (n / b)).length := by
        rw [figs_len]
        exact List.length_pos_iff.mpr lsd_ne
      rw [e, List.getElem?_append_left hlen] at hd
      have l1 := ih (n / b) (Nat.div_lt_self (by omega) (by omega)) d hd h0
      have hq : 0 < n / b := Nat.div_pos h (by omega)
      have ev := val_figs hb (n / b)
      have : ∃ x, figs b (n / b) = [x] := List.length_eq_one_iff.mp l1
      obtain ⟨x, hx⟩ := this
      rw [hx] at hd ev
      have : x = d := Option.some.inj hd
      have ev' : 0 * b + x = n / b := ev
      omega
    · unfold figs
      rw [lsd_lt (by omega)]
      rfl
theorem figs_ne {b n : Nat} : figs b n ≠ [] := fun h => lsd_ne (List.reverse_eq_nil_iff.mp h)
/-- figures that may be read: some, below the base, no nought ahead of others -/
structure Reads (b : Nat) (ds : List Nat) : Prop where
  ne : ds ≠ []
  below : ∀ d ∈ ds, d < b
  head : ∀ d, ds[0]? = some d → d = 0 → ds.length = 1
theorem Reads.figs {b : Nat} (hb : 2 ≤ b) (n : Nat) : Reads b (figs b n) := ⟨figs_ne, fun _ h => figs_below hb h, figs_head hb n⟩
end Fx

namespace Fx
open PySem PySem.Spec PyProof.Rows L2
/-- the greatest power that a base lets -/
def mosts : List Int := [10, 9, 6, 4, 4, 3, 3, 3, 3, 3, 2, 2, 2, 2, 2]
def mostOf (b : Int) : Int := mosts.getD (b - 2).toNat 0
def OkPair (b p : Int) : Prop := 2 ≤ b ∧ b ≤ 16 ∧ 1 ≤ p ∧ p ≤ mostOf b
/-- all of a pair's places, to be shown one by one -/
def pairsAll : List (Int × Int) := (List.range 15).flatMap fun (i : Nat) => (List.range (mosts.getD i 0).toNat).map fun (j : Nat) => (((i : Nat) : Int) + 2, ((j : Nat) : Int) + 1)
theorem OkPair.mem {b p : Int} (h : OkPair b p) : (b, p) ∈ pairsAll := by
  obtain ⟨h1, h2, h3, h4⟩ := h
  refine List.mem_flatMap.mpr ⟨(b - 2).toNat, List.mem_range.mpr (by omega), List.mem_map.mpr ⟨(p - 1).toNat, List.mem_range.mpr ?_, ?_⟩⟩
  · unfold mostOf at h4
    omega
  · show (((b - 2).toNat : Int) + 2, ((p - 1).toNat : Int) + 1) = (b, p)
    rw [Prod.mk.injEq]
    omega
theorem OkPair.all {P : Int → Int → Prop} {b p : Int} (h : OkPair b p) (a : ∀ q ∈ pairsAll, P q.1 q.2) : P b p := a _ h.mem
theorem OkPair.le10 {b p : Int} (h : OkPair b p) : p ≤ 10 := h.all (P := fun _ p => p ≤ 10) (by decide +kernel)
/-- what the greatest figure is worth -/
def worth (b p : Int) : Int := (b - 1) ^ p.toNat
theorem OkPair.worth {b p : Int} (h : OkPair b p) : 1 ≤ worth b p ∧ worth b p ≤ 1000 + 24 := h.all (P := fun b p => 1 ≤ Fx.worth b p ∧ Fx.worth b p ≤ 1024) (by decide +kernel)
theorem most_pos {b : Int} (h1 : 2 ≤ b) (h2 : b ≤ 16) : 1 ≤ mostOf b ∧ mostOf b ≤ 10 := by
  have a : ∀ i ∈ List.range 15, 1 ≤ mosts.getD i 0 ∧ mosts.getD i 0 ≤ 10 := by decide +kernel
  exact a (b - 2).toNat (List.mem_range.mpr (by omega))
theorem most_at {b : Int} (h1 : 2 ≤ b) (h2 : b ≤ 16) : atI (mosts.map V.int) (b - 2) = some (.int (mostOf b)) := by
  have hi : (b - 2).toNat < mosts.length := by
    show (b - 2).toNat < 15
    omega
  have z : (mosts.map V.int)[(b - 2).toNat]? = some (.int (mostOf b)) := by
    rw [List.getElem?_map, List.getElem?_eq_getElem hi]
    unfold mostOf
    rw [List.getD_eq_getElem?_getD, List.getElem?_eq_getElem hi]
    rfl
  have y := atI_nat z
  rw [show (((b - 2).toNat : Nat) : Int) = b - 2 by omega] at y
  exact y
/-- a pair's tuple as it stands -/
def PairAt (H : Hp) (v : V) (b p : Int) : Prop := ∃ a, v = .ref a ∧ H a = some (.tup [.int b, .int p]) ∧ OkPair b p
theorem PairAt.but {H H' : Hp} {d c : Addr} {n : Nat} {v : V} {b p : Int} (h : PairAt H v b p) (D : Deck H d c n) (e : But d H H') : PairAt H' v b p := by
  obtain ⟨a, e1, e2, e3⟩ := h
  exact ⟨a, e1, e.tup D e2, e3⟩
theorem PairAt.same {H H' : Hp} {v : V} {b p : Int} (h : PairAt H v b p) (e : Same H H') : PairAt H' v b p := by
  obtain ⟨a, e1, e2, e3⟩ := h
  exact ⟨a, e1, e _ _ e2, e3⟩
theorem PairAt.upd {H : Hp} {D : Addr} {xs : List V} {o : HO} {v : V} {b p : Int} (h : PairAt H v b p) (e : H D = some (.lst xs)) : PairAt (upd H D o) v b p := by
  obtain ⟨a, e1, e2, e3⟩ := h
  exact ⟨a, e1, by rw [upd_ne (ne_of e2 e fun z => by cases z)]; exact e2, e3⟩
/-- all things of a list are pairs -/
def Pairs (H : Hp) (xs : List V) : Prop := ∀ v ∈ xs, ∃ b p, PairAt H v b p
theorem Pairs.mono {H H' : Hp} {xs : List V} (h : Pairs H xs) (k : ∀ v b p, PairAt H v b p → PairAt H' v b p) : Pairs H' xs := fun v hv => by
  obtain ⟨b, p, q⟩ := h v hv
  exact ⟨b, p, k v b p q⟩
theorem Pairs.app {H : Hp} {xs ys : List V} (h : Pairs H xs) (g : Pairs H ys) : Pairs H (xs ++ ys) := fun v hv => (List.mem_append.mp hv).elim (h v) (g v)
theorem Pairs.rev {H : Hp} {xs : List V} (h : Pairs H xs) : Pairs H xs.reverse := fun v hv => h v (List.mem_reverse.mp hv)
theorem Pairs.one {H : Hp} {v : V} {b p : Int} (h : PairAt H v b p) : Pairs H [v] := fun u hu => by
  cases List.mem_singleton.mp hu
  exact ⟨b, p, h⟩
/-- pairs drawn one by one: n at the start, k draws a pair -/
structure Drawn (H H' : Hp) (d c D : Addr) (n i : Nat) : Prop where
  but : But d H H'
  deck : Deck H' d c (n + 3 * i)
  list : ∃ acc, H' D = some (.lst acc) ∧ acc.length = i ∧ Pairs H' acc
theorem Drawn.next {H H1 H2 : Hp} {d c D p : Addr} {n i : Nat} {b pw : Int} (h : Drawn H H1 d c D n i) (hD : H D = none) (hd : D ≠ d) (hc : D ≠ c) (b1 : But d H1 H2) (D2 : Deck H2 d c (n + 3 * i + 3)) (e : H2 p = some (.tup [.int b, .int pw])) (ok : OkPair b pw) :
    ∃ acc, H2 D = some (.lst acc) ∧ acc.length = i ∧ Drawn H (L2.upd H2 D (.lst (acc ++ [.ref p]))) d c D n (i + 1) := by
  obtain ⟨acc, e1, e2, e3⟩ := h.list
  have e4 : H2 D = some (.lst acc) := b1 _ _ hd e1
  refine ⟨acc, e4, e2, (h.but.trans b1).own hD, D2.off hd hc, acc ++ [.ref p], upd_same, by rw [List.length_append, e2]; rfl, ?_⟩
  refine Pairs.app ?_ (Pairs.one (PairAt.upd ⟨p, rfl, e, ok⟩ e4))
  exact e3.mono fun v b p q => (q.but h.deck b1).upd e4
end Fx

namespace Fx
open PySem PySem.Spec PyProof.Rows L2
/-- the least length from which on numbers go down, w the worth of the greatest figure -/
structure IsLen (b w : Int) (L : Nat) : Prop where
  two : 2 ≤ L
  less : (L : Int) * w < b ^ (L - 1)
  least : ∀ k : Nat, 2 ≤ k → k < L → b ^ (k - 1) ≤ (k : Int) * w
theorem IsLen.uniq {b w : Int} {L M : Nat} (h : IsLen b w L) (g : IsLen b w M) : L = M := by
  rcases Nat.lt_trichotomy L M with l | l | l
  · have := g.least L h.two l
    have := h.less
    omega
  · exact l
  · have := h.least M g.two l
    have := g.less
    omega
theorem pow_mono {a b : Int} (h0 : 0 ≤ a) (h : a ≤ b) : ∀ n : Nat, a ^ n ≤ b ^ n
  | 0 => by rw [Int.pow_zero, Int.pow_zero]; exact Int.le_refl _
  | n + 1 => by
    rw [Int.pow_succ, Int.pow_succ]
    have i := pow_mono h0 h n
    have p : 0 ≤ a ^ n := Int.pow_nonneg h0
    exact Int.le_trans (Int.mul_le_mul_of_nonneg_right i h0) (Int.mul_le_mul_of_nonneg_left h (Int.le_trans p i))
theorem pow_pos {a : Int} (h : 0 < a) (n : Nat) : 0 < a ^ n := Int.pow_pos h
/-- at fifteen figures all is shown -/
theorem len15 {b w : Int} (h : 2 ≤ b) (hw : w ≤ 1024) : (15 : Int) * w < b ^ 14 := by
  have i := pow_mono (a := 2) (b := b) (by decide) h 14
  have e : (2 : Int) ^ 14 = 16384 := by decide
  omega
theorem len_step {b w : Int} {L : Nat} (h : ∀ k : Nat, 2 ≤ k → k < L → b ^ (k - 1) ≤ (k : Int) * w) (t : b ^ (L - 1) ≤ (L : Int) * w) : ∀ k : Nat, 2 ≤ k → k < L + 1 → b ^ (k - 1) ≤ (k : Int) * w := fun k h2 hk => by
  by_cases e : k = L
  · rw [e]
    exact t
  · exact h k h2 (by omega)
theorem len_lt {b w : Int} {L : Nat} (h : 2 ≤ b) (hw : w ≤ 1024) (l : L ≤ 15) (t : b ^ (L - 1) ≤ (L : Int) * w) : L < 15 := by
  by_cases e : L = 15
  · subst e
    have := len15 h hw
    have t' : b ^ 14 ≤ ((15 : Nat) : Int) * w := t
    omega
  · omega
/-- there is one -/
theorem len_ex {b w : Int} (h : 2 ≤ b) (hw : w ≤ 1024) : ∃ L : Nat, IsLen b w L ∧ L ≤ 15 := by
  have go : ∀ k L : Nat, 15 - L = k → 2 ≤ L → L ≤ 15 → (∀ j : Nat, 2 ≤ j → j < L → b ^ (j - 1) ≤ (j : Int) * w) → ∃ L : Nat, IsLen b w L ∧ L ≤ 15 := by
    intro k
    induction k with
    | zero =>
      intro L e l2 l15 ih
      refine ⟨L, ⟨l2, ?_, ih⟩, l15⟩
      obtain rfl : L = 15 := by omega
      exact len15 h hw
    | succ k ihk =>
      intro L e l2 l15 ih
      by_cases t : b ^ (L - 1) ≤ (L : Int) * w
      · exact ihk (L + 1) (by omega) (by omega) (by omega) (len_step ih t)
      · exact ⟨L, ⟨l2, by omega, ih⟩, l15⟩
  exact go 13 2 rfl (by decide) (by decide) fun j _ _ => by omega
end Fx

namespace Fx
/-! ### a step by its last figure, by parts -/
theorem zero_pow' {p : Nat} (h : 1 ≤ p) : 0 ^ p = 0 := Nat.zero_pow (by omega)
theorem stepN_lt_base {b p n : Nat} (h : n < b) : stepN b p n = n ^ p := by
  unfold stepN figs
  rw [lsd_lt h]
  show n ^ p + 0 = _
  omega
theorem stepN_zero {b p : Nat} (hb : 2 ≤ b) (hp : 1 ≤ p) : stepN b p 0 = 0 := by
  rw [stepN_lt_base (by omega), zero_pow' hp]
theorem sum_rev : ∀ l : List Nat, l.reverse.sum = l.sum
  | [] => rfl
  | a :: r => by
    rw [List.reverse_cons, List.sum_append, sum_rev r, List.sum_cons, List.sum_cons, List.sum_nil]
    omega
theorem stepN_lsd (b p n : Nat) : stepN b p n = ((lsd b n).map (· ^ p)).sum := by
  unfold stepN figs
  rw [List.map_reverse, sum_rev]
theorem stepN_rec {b p : Nat} (hb : 2 ≤ b) (hp : 1 ≤ p) (n : Nat) : stepN b p n = stepN b p (n / b) + (n % b) ^ p := by
  by_cases h : b ≤ n
  · rw [stepN_lsd, stepN_lsd, lsd_ge hb h, List.map_cons, List.sum_cons]
    omega
  · rw [stepN_lt_base (by omega), Nat.div_eq_of_lt (by omega), stepN_zero hb hp, Nat.mod_eq_of_lt (by omega)]
    omega
theorem stepN_push {b p x f : Nat} (hb : 2 ≤ b) (hp : 1 ≤ p) (hf : f < b) : stepN b p (x * b + f) = stepN b p x + f ^ p := by
  have e1 : (x * b + f) / b = x := by
    rw [Nat.mul_comm, Nat.mul_add_div (by omega), Nat.div_eq_of_lt hf]
    omega
  have e2 : (x * b + f) % b = f := by
    rw [Nat.mul_comm, Nat.mul_add_mod, Nat.mod_eq_of_lt hf]
  rw [stepN_rec hb hp, e1, e2]
theorem step_split {b p : Nat} (hb : 2 ≤ b) (hp : 1 ≤ p) : ∀ (k y r : Nat), r < b ^ k → stepN b p (y * b ^ k + r) = stepN b p y + stepN b p r
  | 0, y, r, h => by
    rw [Nat.pow_zero] at h
    have : r = 0 := by omega
    subst this
    rw [Nat.pow_zero, Nat.mul_one, stepN_zero hb hp]
    rfl
  | k + 1, y, r, h => by
    have e0 : y * b ^ (k + 1) + r = (y * b ^ k + r / b) * b + r % b := by
      have ep : b ^ k * b = b ^ (k + 1) := by rw [Nat.pow_succ]
      rw [Nat.add_mul, Nat.mul_assoc, ep]
      have := Nat.div_add_mod r b
      rw [Nat.mul_comm] at this
      omega
    have h1 : r / b < b ^ k := by
      rw [Nat.div_lt_iff_lt_mul (by omega), ← Nat.pow_succ]
      exact h
    rw [e0, stepN_push hb hp (Nat.mod_lt _ (by omega)), step_split hb hp k y (r / b) h1, stepN_rec hb hp r]
    omega
/-! ### lengths -/
theorem len_pow {b : Nat} (hb : 2 ≤ b) : ∀ n : Nat, 0 < n → b ^ ((figs b n).length - 1) ≤ n := fun n => by
  induction n using Nat.strongRecOn with
  | ind n ih =>
    intro h0
    by_cases h : b ≤ n
    · have i := ih (n / b) (Nat.div_lt_self (by omega) (by omega)) (Nat.div_pos h (by omega))
      rw [figs_len] at i ⊢
      rw [lsd_ge hb h, List.length_cons]
      have l0 : 0 < (lsd b (n / b)).length := List.length_pos_iff.mpr lsd_ne
      have e : (lsd b (n / b)).length + 1 - 1 = (lsd b (n / b)).length - 1 + 1 := by omega
      rw [e, Nat.pow_succ]
      have := Nat.mul_le_mul_right b i
      have := Nat.div_mul_le_self n b
      omega
    · rw [figs_len, lsd_lt (by omega)]
      exact h0
theorem len_gt {b n k : Nat} (hb : 2 ≤ b) (h : b ^ k ≤ n) : k < (figs b n).length := by
  refine Nat.lt_of_not_le fun z => ?_
  rw [figs_len] at z
  have up : ∀ m : Nat, n < b ^ (lsd b m).length ∨ m ≠ n := fun m => by
    by_cases e : m = n
    · subst e
      have go : ∀ m : Nat, m < b ^ (lsd b m).length := fun m => by
        induction m using Nat.strongRecOn with
        | ind m ih =>
          by_cases g : b ≤ m
          · rw [lsd_ge hb g, List.length_cons, Nat.pow_succ]
            have i := ih (m / b) (Nat.div_lt_self (by omega) (by omega))
            have := Nat.div_add_mod m b
            have := Nat.mod_lt m (show 0 < b by omega)
            have := Nat.mul_le_mul_right b (show m / b + 1 ≤ b ^ (lsd b (m / b)).length from i)
            rw [Nat.succ_mul, Nat.mul_comm (m / b) b] at this
            omega
          · rw [lsd_lt (by omega)]
            show m < b ^ 1
            rw [Nat.pow_one]
            omega
      exact .inl (go m)
    · exact .inr e
  rcases up n with u | u
  · have := Nat.pow_le_pow_right (show 0 < b by omega) z
    omega
  · exact u rfl
/-! ### what goes down -/
/-- the worth of the greatest figure -/
theorem worth_nat (b p : Nat) (hb : 1 ≤ b) : worth (b : Int) (p : Int) = (((b - 1) ^ p : Nat) : Int) := by
  unfold worth
  have e : (b : Int) - 1 = ((b - 1 : Nat) : Int) := by omega
  rw [e, Int.toNat_natCast, Int.natCast_pow]
theorem len_moreN {b w L : Nat} (h1 : L * w < b ^ (L - 1)) (hL : 2 ≤ L) (h2 : 2 ≤ b) : ∀ k : Nat, (L + k) * w < b ^ (L + k - 1)
  | 0 => h1
  | k + 1 => by
    have i := len_moreN h1 hL h2 k
    have e : b ^ (L + (k + 1) - 1) = b ^ (L + k - 1) * b := by
      rw [← Nat.pow_succ]
      congr 1
      omega
    have a1 : (L + (k + 1)) * w = (L + k) * w + w := by
      rw [← Nat.add_assoc, Nat.succ_mul]
    have a2 : w ≤ (L + k) * w := Nat.le_mul_of_pos_left w (by omega)
    have a3 : b ^ (L + k - 1) * 2 ≤ b ^ (L + k - 1) * b := Nat.mul_le_mul_left _ h2
    omega
theorem IsLen.nat {b p L : Nat} (hb : 2 ≤ b) (h : IsLen (b : Int) (worth (b : Int) (p : Int)) L) : L * (b - 1) ^ p < b ^ (L - 1) := by
  have := h.less
  rw [worth_nat b p (by omega), ← Int.natCast_mul, ← Int.natCast_pow] at this
  exact Int.ofNat_lt.mp this
theorem goes_down {b p L n : Nat} (hb : 2 ≤ b) (h : IsLen (b : Int) (worth (b : Int) (p : Int)) L) (hn : b ^ (L - 1) ≤ n) : stepN b p n < n := by
  have h1 := h.nat hb
  have l := len_gt hb hn
  have le := stepN_le (p := p) (n := n) hb
  have m := len_moreN h1 h.two hb ((figs b n).length - L)
  have h2 := h.two
  rw [show L + ((figs b n).length - L) = (figs b n).length by omega] at m
  have n0 : 0 < n := Nat.lt_of_lt_of_le (Nat.pow_pos (by omega)) hn
  have := len_pow hb n n0
  omega
/-- the greatest number whose step is no less -/
structure IsKept (b p G : Nat) : Prop where
  kept : G ≤ stepN b p G
  down : ∀ n, G < n → stepN b p n < n
theorem IsKept.uniq {b p G H : Nat} (h : IsKept b p G) (g : IsKept b p H) : G = H := by
  rcases Nat.lt_trichotomy G H with l | l | l
  · have := h.down H l
    have := g.kept
    omega
  · exact l
  · have := g.down G l
    have := h.kept
    omega
/-! ### place by place -/
def gain (b p j f : Nat) : Int := ((f ^ p : Nat) : Int) - (f : Int) * ((b ^ j : Nat) : Int)
def gainRow (b p j : Nat) : List Int := (List.range b).map (gain b p j)
theorem gainRow_len (b p j : Nat) : (gainRow b p j).length = b := by
  unfold gainRow
  rw [List.length_map, List.length_range]
theorem gainRow_get {b p j f : Nat} (h : f < b) : (gainRow b p j)[f]? = some (gain b p j f) := by
  unfold gainRow
  rw [List.getElem?_map, List.getElem?_range h]
  rfl
def rowMax (b p j : Nat) : Int := (gainRow b p j).max?.getD 0
theorem rowMax_spec {b p j : Nat} (hb : 2 ≤ b) : rowMax b p j ∈ gainRow b p j ∧ ∀ y ∈ gainRow b p j, y ≤ rowMax b p j := by
  unfold rowMax
  cases e : (gainRow b p j).max? with
  | none =>
    rw [List.max?_eq_none_iff] at e
    have := gainRow_len b p j
    rw [e] at this
    have e0 : (0 : Nat) = b := this
    omega
  | some m =>
    exact (List.max?_eq_some_iff).mp e
theorem rowMax_uniq {b p j : Nat} {m : Int} (hb : 2 ≤ b) (h1 : m ∈ gainRow b p j) (h2 : ∀ y ∈ gainRow b p j, y ≤ m) : m = rowMax b p j := by
  have s := rowMax_spec (p := p) (j := j) hb
  have := h2 _ s.1
  have := s.2 _ h1
  omega
theorem gain_le {b p j f : Nat} (hb : 2 ≤ b) (h : f < b) : gain b p j f ≤ rowMax b p j := (rowMax_spec hb).2 _ (List.mem_of_getElem? (gainRow_get h))
def restMax (b p : Nat) : Nat → Int
  | 0 => 0
  | k + 1 => restMax b p k + rowMax b p k
/-- what a number's step has beyond it, its figures at k places behind -/
def over (b p x k : Nat) : Int := (stepN b p x : Int) - (x : Int) * ((b ^ k : Nat) : Int)
theorem over_push {b p x k f : Nat} (hb : 2 ≤ b) (hp : 1 ≤ p) (hf : f < b) : over b p (x * b + f) k = over b p x (k + 1) + gain b p k f := by
  unfold over gain
  rw [stepN_push hb hp hf, Nat.pow_succ]
  simp only [Int.natCast_add, Int.natCast_mul, Int.add_mul, Int.mul_assoc, Int.mul_comm, Int.mul_left_comm]
  omega
theorem over_split {b p k y r : Nat} (hb : 2 ≤ b) (hp : 1 ≤ p) (h : r < b ^ k) : over b p (y * b ^ k + r) 0 = over b p y k + over b p r 0 := by
  unfold over
  rw [step_split hb hp k y r h]
  simp only [Int.natCast_add, Int.natCast_mul, Nat.pow_zero]
  omega
theorem rest_bound {b p : Nat} (hb : 2 ≤ b) (hp : 1 ≤ p) : ∀ k r : Nat, r < b ^ k → over b p r 0 ≤ restMax b p k
  | 0, r, h => by
    rw [Nat.pow_zero] at h
    obtain rfl : r = 0 := by omega
    unfold over restMax
    rw [stepN_zero hb hp]
    simp
  | k + 1, r, h => by
    have e : r / b ^ k < b := by
      rw [Nat.div_lt_iff_lt_mul (Nat.pow_pos (by omega)), Nat.mul_comm, ← Nat.pow_succ]
      exact h
    have e0 : r = r / b ^ k * b ^ k + r % b ^ k := by
      have := Nat.div_add_mod r (b ^ k)
      rw [Nat.mul_comm] at this
      omega
    have lt := Nat.mod_lt r (show 0 < b ^ k from Nat.pow_pos (by omega))
    have i := rest_bound hb hp k (r % b ^ k) lt
    have g := gain_le (p := p) (j := k) hb e
    have z : over b p (r / b ^ k) k = gain b p k (r / b ^ k) := by
      unfold over gain
      rw [stepN_lt_base e]
    rw [e0, over_split hb hp lt, z]
    show _ ≤ restMax b p k + rowMax b p k
    omega
/-- the greatest figures one by one: m places to come, x so far, what is to spare -/
structure Greedy (b p M m x : Nat) (spare : Int) : Prop where
  is : spare = over b p x m + restMax b p m
  pos : 0 ≤ spare
  most : ∀ n, n < b ^ M → n ≤ stepN b p n → n / b ^ m ≤ x
theorem restMax_pos {b p : Nat} (hb : 2 ≤ b) (hp : 1 ≤ p) (k : Nat) : 0 ≤ restMax b p k := by
  have := rest_bound hb hp k 0 (Nat.pow_pos (by omega))
  unfold over at this
  rw [stepN_zero hb hp] at this
  simp at this
  exact this
theorem Greedy.start {b p : Nat} (hb : 2 ≤ b) (hp : 1 ≤ p) (M : Nat) : Greedy b p M M 0 (restMax b p M) := by
  refine ⟨?_, restMax_pos hb hp M, fun n h _ => ?_⟩
  · unfold over
    rw [stepN_zero hb hp]
    simp
  · rw [Nat.div_eq_of_lt h]
    exact Nat.le_refl 0
theorem Greedy.next {b p M m x f : Nat} {spare : Int} (hb : 2 ≤ b) (hp : 1 ≤ p) (g : Greedy b p M (m + 1) x spare) (hf : f < b) (h1 : rowMax b p m - spare ≤ gain b p m f)
    (h2 : ∀ e, e < b → rowMax b p m - spare ≤ gain b p m e → e ≤ f) : Greedy b p M m (x * b + f) (spare - rowMax b p m + gain b p m f) := by
  have gi := g.is
  refine ⟨?_, by omega, fun n hn hk => ?_⟩
  · rw [over_push hb hp hf]
    have : restMax b p (m + 1) = restMax b p m + rowMax b p m := rfl
    omega
  · have y1 := g.most n hn hk
    have ed : n / b ^ (m + 1) = n / b ^ m / b := by rw [Nat.pow_succ, Nat.div_div_eq_div_mul]
    rw [ed] at y1
    generalize hy : n / b ^ m = y at y1 ⊢
    have yy := Nat.div_add_mod y b
    have yl := Nat.mod_lt y (show 0 < b by omega)
    by_cases c : y / b = x
    · have e0 : n = y * b ^ m + n % b ^ m := by
        have := Nat.div_add_mod n (b ^ m)
        rw [hy, Nat.mul_comm] at this
        omega
      have lt := Nat.mod_lt n (show 0 < b ^ m from Nat.pow_pos (by omega))
      have r1 := rest_bound hb hp m (n % b ^ m) lt
      have o1 : 0 ≤ over b p n 0 := by
        unfold over
        simp only [Nat.pow_zero]
        omega
      rw [e0, over_split hb hp lt] at o1
      have ey : y = x * b + y % b := by
        rw [← c, Nat.mul_comm]
        exact yy.symm
      rw [ey, over_push hb hp yl] at o1
      have rm : restMax b p (m + 1) = restMax b p m + rowMax b p m := rfl
      have := h2 (y % b) yl (by omega)
      rw [ey]
      omega
    · have : y / b + 1 ≤ x := by omega
      have := Nat.mul_le_mul_right b this
      rw [Nat.succ_mul, Nat.mul_comm (y / b) b] at this
      omega
theorem Greedy.done {b p L x : Nat} {spare : Int} (hb : 2 ≤ b) (h : IsLen (b : Int) (worth (b : Int) (p : Int)) L) (g : Greedy b p (L - 1) 0 x spare) : IsKept b p x := by
  have gi := g.is
  have gp := g.pos
  refine ⟨?_, fun n hn => ?_⟩
  · have : restMax b p 0 = 0 := rfl
    unfold over at gi
    simp only [Nat.pow_zero] at gi
    omega
  · by_cases c : n < b ^ (L - 1)
    · refine Nat.lt_of_not_le fun z => ?_
      have := g.most n c z
      rw [Nat.pow_zero, Nat.div_one] at this
      omega
    · exact goes_down hb h (by omega)
/-- no number from here on but goes down -/
theorem down_from {b p M n : Nat} (hb : 2 ≤ b) (h : IsLen (b : Int) (worth (b : Int) (p : Int)) M) (hn : (M - 1) * (b - 1) ^ p < n) : stepN b p n < n := by
  by_cases c : b ^ (M - 1) ≤ n
  · exact goes_down hb h c
  · have l := len_pow hb n (by omega)
    have k : (figs b n).length - 1 < M - 1 := by
      refine Nat.lt_of_not_le fun z => ?_
      have := Nat.pow_le_pow_right (show 0 < b by omega) z
      omega
    have le := stepN_le (p := p) (n := n) hb
    have := Nat.mul_le_mul_right ((b - 1) ^ p) (show (figs b n).length ≤ M - 1 by omega)
    omega
/-- a step that can be reckoned -/
def stepF (b p : Nat) : Nat → Nat → Nat
  | 0, _ => 0
  | k + 1, n => stepF b p k (n / b) + (n % b) ^ p
theorem stepF_eq {b p : Nat} (hb : 2 ≤ b) (hp : 1 ≤ p) : ∀ k n : Nat, n < b ^ k → stepF b p k n = stepN b p n
  | 0, n, h => by
    rw [Nat.pow_zero] at h
    obtain rfl : n = 0 := by omega
    rw [stepN_zero hb hp]
    rfl
  | k + 1, n, h => by
    rw [stepN_rec hb hp n, ← stepF_eq hb hp k (n / b)]
    · rfl
    · rw [Nat.div_lt_iff_lt_mul (by omega), ← Nat.pow_succ]
      exact h
end Fx

namespace Fx
/-! ### rows come down -/
theorem figs_len_lt {b n k : Nat} (hb : 2 ≤ b) (hk : 1 ≤ k) (h : n < b ^ k) : (figs b n).length ≤ k := by
  by_cases h0 : n = 0
  · subst h0
    rw [figs_len, lsd_lt (by omega)]
    exact hk
  · have l := len_pow hb n (by omega)
    refine Nat.le_of_not_lt fun z => ?_
    have := Nat.pow_le_pow_right (show 0 < b by omega) (show k ≤ (figs b n).length - 1 by omega)
    omega
theorem step_le_len {b p n k : Nat} (hb : 2 ≤ b) (h : (figs b n).length ≤ k) : stepN b p n ≤ k * (b - 1) ^ p := Nat.le_trans (stepN_le hb) (Nat.mul_le_mul_right _ h)
theorem down_one {b p L n k : Nat} (hb : 2 ≤ b) (h : IsLen (b : Int) (worth (b : Int) (p : Int)) L) (hn : n ≤ max (L - 1) k * (b - 1) ^ p) : stepN b p n ≤ max (L - 1) (k - 1) * (b - 1) ^ p := by
  have h1 := h.nat hb
  have h2 := h.two
  by_cases c : k ≤ L - 1
  · have e : max (L - 1) k = L - 1 := by omega
    rw [e] at hn
    refine step_le_len hb (figs_len_lt hb (by omega) ?_)
    have : n < b ^ (L - 1) := by
      have := Nat.mul_le_mul_right ((b - 1) ^ p) (show L - 1 ≤ L by omega)
      omega
    exact Nat.lt_of_lt_of_le this (Nat.pow_le_pow_right (by omega) (by omega))
  · have e : max (L - 1) k = k := by omega
    rw [e] at hn
    have m := len_moreN h1 h2 hb (k - L)
    rw [show L + (k - L) = k by omega] at m
    exact step_le_len hb (figs_len_lt hb (by omega) (Nat.lt_of_lt_of_le (show n < b ^ (k - 1) by omega) (Nat.pow_le_pow_right (by omega) (by omega))))
theorem row_down {b p L n : Nat} (hb : 2 ≤ b) (h : IsLen (b : Int) (worth (b : Int) (p : Int)) L) (hw : (b - 1) ^ p ≤ 1024) (hn : n < 2 ^ 160) : ∀ i, itN b p n (i + 2) ≤ max (L - 1) (18 - i) * (b - 1) ^ p
  | 0 => by
    have f1 : (figs b n).length ≤ 160 := by
      rw [figs_len]
      exact lsd_len_le hb 159 n hn
    have s1 : itN b p n 1 ≤ 160 * (b - 1) ^ p := step_le_len hb f1
    have s2 : itN b p n 1 < 2 ^ 18 := by
      have := Nat.mul_le_mul_left 160 hw
      omega
    have f2 : (figs b (itN b p n 1)).length ≤ 18 := by
      rw [figs_len]
      exact lsd_len_le hb 17 _ s2
    show stepN b p (itN b p n 1) ≤ _
    exact Nat.le_trans (step_le_len hb f2) (Nat.mul_le_mul_right _ (by omega))
  | i + 1 => by
    have ih := row_down hb h hw hn i
    have := down_one hb h ih
    rw [show 18 - (i + 1) = 18 - i - 1 by omega]
    exact this
theorem row_late {b p L n i : Nat} (hb : 2 ≤ b) (h : IsLen (b : Int) (worth (b : Int) (p : Int)) L) (hw : (b - 1) ^ p ≤ 1024) (hn : n < 2 ^ 160) (hi : 20 ≤ i) : itN b p n i ≤ (L - 1) * (b - 1) ^ p := by
  have := row_down hb h hw hn (i - 2)
  rw [show i - 2 + 2 = i by omega, show max (L - 1) (18 - (i - 2)) = L - 1 by omega] at this
  exact this
theorem rowN_get (b p n : Nat) : ∀ m i, i < m → (rowN b p n m)[i]? = some (itN b p n i)
  | 0, _, h => by omega
  | m + 1, i, h => by
    rw [rowN]
    by_cases e : i = m
    · subst e
      rw [List.getElem?_append_right (by rw [rowN_len]; exact Nat.le_refl _), rowN_len, Nat.sub_self]
      rfl
    · rw [List.getElem?_append_left (by rw [rowN_len]; omega)]
      exact rowN_get b p n m i (by omega)
theorem kept_lt {b p L G : Nat} (hb : 2 ≤ b) (h : IsLen (b : Int) (worth (b : Int) (p : Int)) L) (g : IsKept b p G) : G < b ^ (L - 1) := by
  refine Nat.lt_of_not_le fun z => ?_
  have := goes_down hb h z
  have := g.kept
  omega
end Fx

namespace Fx
open PySem PySem.Spec PyProof.Rows L2
/-- a pair's numbers as naturals -/
theorem OkPair.nat {b p : Int} (h : OkPair b p) : ∃ b' p' : Nat, b = (b' : Int) ∧ p = (p' : Int) ∧ 2 ≤ b' ∧ b' ≤ 16 ∧ 1 ≤ p' ∧ p' ≤ 10 := by
  obtain ⟨h1, h2, h3, h4⟩ := id h
  have h5 := h.le10
  exact ⟨b.toNat, p.toNat, by omega, by omega, by omega, by omega, by omega, by omega⟩
/-- a number with a pair and how many are asked -/
def QuadAt (H : Hp) (v : V) : Prop := ∃ (a : Addr) (n b p m : Nat), v = .ref a ∧ H a = some (.tup [.int (n : Int), .int (b : Int), .int (p : Int), .int (m : Int)]) ∧ 2 ≤ b ∧ b ≤ 16 ∧ p ≤ 10 ∧ n < 16 ^ 40 ∧ m ≤ 60
theorem QuadAt.mono {H H' : Hp} {v : V} (h : QuadAt H v) (k : ∀ a xs, H a = some (.tup xs) → H' a = some (.tup xs)) : QuadAt H' v := by
  obtain ⟨a, n, b, p, m, e1, e2, r⟩ := h
  exact ⟨a, n, b, p, m, e1, k _ _ e2, r⟩
theorem lt900 {n : Nat} (h : n < 16 ^ 40) : n < 2 ^ 900 := Nat.lt_of_lt_of_le h (by
  have e : (16 : Nat) ^ 40 = 2 ^ 160 := by decide
  rw [e]
  exact Nat.pow_le_pow_right (by decide) (by decide))
end Fx

namespace Fx
/-! ### where numbers end -/
theorem nodup_len : ∀ (M : Nat) (l : List Nat), l.Nodup → (∀ x ∈ l, x < M) → l.length ≤ M
  | 0, l, _, h => by
    cases l with
    | nil => exact Nat.le_refl _
    | cons a r => exact absurd (h a (List.mem_cons_self ..)) (Nat.not_lt_zero _)
  | M + 1, l, nd, h => by
    have e := nodup_len M (l.erase M) (nd.erase M) fun x hx => by
      have hx' := (List.Nodup.mem_erase_iff nd).mp hx
      have := h x hx'.2
      omega
    rw [List.length_erase] at e
    split at e <;> omega
theorem itN_zero (b p n : Nat) : itN b p n 0 = n := rfl
theorem itN_succ (b p n k : Nat) : itN b p n (k + 1) = stepN b p (itN b p n k) := rfl
theorem itN_add (b p n j : Nat) : ∀ k, itN b p n (j + k) = itN b p (itN b p n j) k
  | 0 => rfl
  | k + 1 => by
    rw [← Nat.add_assoc, itN_succ, itN_succ, itN_add b p n j k]
theorem itN_first (b p n k : Nat) : itN b p n (k + 1) = itN b p (stepN b p n) k := by
  rw [Nat.add_comm, itN_add]
  rfl
/-- it stands in a round -/
def Per (b p x : Nat) : Prop := ∃ k, 0 < k ∧ itN b p x k = x
theorem Per.it {b p x : Nat} (h : Per b p x) (j : Nat) : Per b p (itN b p x j) := by
  obtain ⟨k, k0, e⟩ := h
  refine ⟨k, k0, ?_⟩
  rw [← itN_add, Nat.add_comm, itN_add, e]
theorem Per.mul {b p x k : Nat} (e : itN b p x k = x) : ∀ m, itN b p x (m * k) = x
  | 0 => by rw [Nat.zero_mul]; rfl
  | m + 1 => by rw [Nat.succ_mul, itN_add, Per.mul e m, e]
/-- from a number of a round on, each later one leads back -/
theorem Per.back {b p x : Nat} (h : Per b p x) (j : Nat) : ∃ i, itN b p (itN b p x j) i = x := by
  obtain ⟨k, k0, e⟩ := h
  refine ⟨j * k - j, ?_⟩
  have : j ≤ j * k := Nat.le_mul_of_pos_right j k0
  rw [← itN_add, show j + (j * k - j) = j * k by omega]
  exact Per.mul e j
/-- a steps away from the round of the least number m -/
structure EndAt (b p n a m : Nat) : Prop where
  per : Per b p (itN b p n a)
  first : ∀ j, j < a → ¬ Per b p (itN b p n j)
  on : ∃ i, a ≤ i ∧ itN b p n i = m
  least : ∀ i, a ≤ i → m ≤ itN b p n i
theorem EndAt.uniq {b p n a m a' m' : Nat} (h : EndAt b p n a m) (g : EndAt b p n a' m') : a = a' ∧ m = m' := by
  have ea : a = a' := by
    rcases Nat.lt_trichotomy a a' with l | l | l
    · exact absurd h.per (g.first a l)
    · exact l
    · exact absurd g.per (h.first a' l)
  subst ea
  obtain ⟨i, hi, rfl⟩ := h.on
  obtain ⟨j, hj, rfl⟩ := g.on
  exact ⟨rfl, Nat.le_antisymm (h.least j hj) (g.least i hi)⟩
/-- the first number that stands twice -/
theorem EndAt.of_row {b p n A L : Nat} (hA : A < L) (e : itN b p n L = itN b p n A) (nd : ∀ i j, i < L → j < L → itN b p n i = itN b p n j → i = j) {m : Nat}
    (on : ∃ i, A ≤ i ∧ i < L ∧ itN b p n i = m) (le : ∀ i, A ≤ i → i < L → m ≤ itN b p n i) : EndAt b p n A m := by
  have round : ∀ i, A ≤ i → ∃ j, A ≤ j ∧ j < L ∧ itN b p n i = itN b p n j := fun i => by
    induction i with
    | zero => intro h; exact ⟨0, h, by omega, rfl⟩
    | succ i ih =>
      intro h
      by_cases c : A ≤ i
      · obtain ⟨j, j1, j2, ej⟩ := ih c
        by_cases d : j + 1 < L
        · exact ⟨j + 1, by omega, d, by rw [itN_succ, itN_succ, ej]⟩
        · have : j + 1 = L := by omega
          refine ⟨A, Nat.le_refl _, hA, ?_⟩
          rw [itN_succ, ej, ← itN_succ, this, e]
      · have : i + 1 = A := by omega
        exact ⟨A, Nat.le_refl _, hA, by rw [this]⟩
  refine ⟨⟨L - A, by omega, ?_⟩, fun j hj => ?_, ?_, fun i hi => ?_⟩
  · rw [← itN_add, show A + (L - A) = L by omega, e]
  · rintro ⟨k, k0, ek⟩
    have z := Per.mul ek A
    rw [← itN_add] at z
    have : A ≤ A * k := Nat.le_mul_of_pos_right A k0
    obtain ⟨i, i1, i2, ei⟩ := round (j + A * k) (by omega)
    have := nd j i (by omega) i2 (by rw [← z, ei])
    omega
  · obtain ⟨i, i1, i2, ei⟩ := on
    exact ⟨i, i1, ei⟩
  · obtain ⟨j, j1, j2, ej⟩ := round i hi
    rw [ej]
    exact le j j1 j2
theorem EndAt.step {b p n a m : Nat} (h : EndAt b p n (a + 1) m) : EndAt b p (stepN b p n) a m := by
  refine ⟨by rw [← itN_first]; exact h.per, fun j hj => by rw [← itN_first]; exact h.first (j + 1) (by omega), ?_, fun i hi => by rw [← itN_first]; exact h.least (i + 1) (by omega)⟩
  obtain ⟨i, i1, i2⟩ := h.on
  obtain ⟨i', rfl⟩ : ∃ i', i = i' + 1 := ⟨i - 1, by omega⟩
  exact ⟨i', by omega, by rw [← itN_first]; exact i2⟩
theorem EndAt.succ {b p n a m : Nat} (h : EndAt b p (stepN b p n) a m) (np : ¬ Per b p n) : EndAt b p n (a + 1) m := by
  refine ⟨by rw [itN_first]; exact h.per, fun j hj => ?_, ?_, fun i hi => ?_⟩
  · cases j with
    | zero => exact np
    | succ j => rw [itN_first]; exact h.first j (by omega)
  · obtain ⟨i, i1, i2⟩ := h.on
    exact ⟨i + 1, by omega, by rw [itN_first]; exact i2⟩
  · obtain ⟨i', rfl⟩ : ∃ i', i = i' + 1 := ⟨i - 1, by omega⟩
    rw [itN_first]
    exact h.least i' (by omega)
/-- in the round: each number of it ends in it, away no step -/
theorem EndAt.round {b p n m : Nat} (h : EndAt b p n 0 m) (j : Nat) : EndAt b p (itN b p n j) 0 m := by
  refine ⟨h.per.it j, fun i hi => by omega, ?_, fun i _ => ?_⟩
  · obtain ⟨i, _, e⟩ := h.on
    obtain ⟨k, ek⟩ := h.per.back j
    have ek' : itN b p (itN b p n j) k = n := ek
    exact ⟨k + i, Nat.zero_le _, by rw [itN_add, ek']; exact e⟩
  · rw [← itN_add]
    exact h.least _ (Nat.zero_le _)
theorem EndAt.later {b p n a m : Nat} (h : EndAt b p n a m) : ∀ j, EndAt b p (itN b p n j) (a - j) m
  | 0 => h
  | j + 1 => by
    have i := EndAt.later h j
    rw [itN_succ]
    by_cases c : a - j = 0
    · rw [c] at i
      have := i.round 1
      rw [show a - (j + 1) = 0 by omega]
      exact this
    · rw [show a - j = (a - (j + 1)) + 1 by omega] at i
      exact i.step
theorem EndAt.self {b p n a m : Nat} (h : EndAt b p n a m) : EndAt b p m 0 m := by
  obtain ⟨i, hi, e⟩ := h.on
  have := h.later i
  rw [e, show a - i = 0 by omega] at this
  exact this
/-- the least number is that of the step -/
theorem EndAt.least_step {b p n a m a' m' : Nat} (h : EndAt b p n a m) (g : EndAt b p (stepN b p n) a' m') : m = m' ∧ a' = a - 1 := by
  have := h.later 1
  have := this.uniq g
  exact ⟨this.2, this.1.symm⟩
theorem per_iff {b p n a m : Nat} (h : EndAt b p n a m) : Per b p n ↔ a = 0 := by
  constructor
  · intro z
    refine Nat.le_antisymm (Nat.le_of_not_lt fun c => h.first 0 c z) (Nat.zero_le _)
  · rintro rfl
    exact h.per
/-! ### each number ends -/
/-- a number beyond which no row goes far -/
structure Near (b p n : Nat) : Prop where
  hb : 2 ≤ b
  lt : ∀ i, 20 ≤ i → itN b p n i ≤ 15000
theorem Near.rep {b p n : Nat} (h : Near b p n) {L : Nat} (nd : ∀ i j, i < L → j < L → itN b p n i = itN b p n j → i = j) : L ≤ 15030 := by
  refine Nat.le_of_not_lt fun z => ?_
  have l := nodup_len 15001 ((List.range (L - 20)).map fun i => itN b p n (20 + i)) ?_ ?_
  · rw [List.length_map, List.length_range] at l
    omega
  · refine List.pairwise_map.mpr (List.Pairwise.imp_of_mem ?_ (List.nodup_range (n := L - 20)))
    intro x y hx hy ne e
    have := List.mem_range.mp hx
    have := List.mem_range.mp hy
    have := nd _ _ (by omega) (by omega) e
    omega
  · intro x hx
    obtain ⟨i, hi, rfl⟩ := List.mem_map.mp hx
    have := h.lt (20 + i) (by omega)
    omega
theorem exists_end {b p n : Nat} (h : Near b p n) : ∃ a m, EndAt b p n a m := by
  -- the first number that stood ahead
  have go : ∀ k L : Nat, 15031 - L = k → (∀ i j, i < L → j < L → itN b p n i = itN b p n j → i = j) → ∃ A L, A < L ∧ itN b p n L = itN b p n A ∧ ∀ i j, i < L → j < L → itN b p n i = itN b p n j → i = j := by
    intro k
    induction k with
    | zero =>
      intro L hL nd
      have := h.rep nd
      omega
    | succ k ih =>
      intro L hL nd
      by_cases c : ∃ A, A < L ∧ itN b p n L = itN b p n A
      · obtain ⟨A, a1, a2⟩ := c
        exact ⟨A, L, a1, a2, nd⟩
      · refine ih (L + 1) (by omega) fun i j hi hj e => ?_
        by_cases ci : i = L
        · by_cases cj : j = L
          · omega
          · subst ci
            exact absurd ⟨j, by omega, e⟩ c
        · by_cases cj : j = L
          · subst cj
            exact absurd ⟨i, by omega, e.symm⟩ c
          · exact nd i j (by omega) (by omega) e
  obtain ⟨A, L, hA, e, nd⟩ := go _ 0 rfl fun i j hi => by omega
  -- the least one of these
  have mn : ∀ k, A + k < L → ∃ m, (∃ i, A ≤ i ∧ i ≤ A + k ∧ itN b p n i = m) ∧ ∀ i, A ≤ i → i ≤ A + k → m ≤ itN b p n i := by
    intro k
    induction k with
    | zero =>
      intro _
      exact ⟨_, ⟨A, Nat.le_refl _, by omega, rfl⟩, fun i h1 h2 => by
        have : i = A := by omega
        subst this
        exact Nat.le_refl _⟩
    | succ k ih =>
      intro hk
      obtain ⟨m, ⟨i, i1, i2, i3⟩, lm⟩ := ih (by omega)
      by_cases c : itN b p n (A + (k + 1)) < m
      · refine ⟨_, ⟨A + (k + 1), by omega, Nat.le_refl _, rfl⟩, fun j h1 h2 => ?_⟩
        by_cases d : j = A + (k + 1)
        · subst d
          exact Nat.le_refl _
        · have := lm j h1 (by omega)
          omega
      · refine ⟨m, ⟨i, i1, by omega, i3⟩, fun j h1 h2 => ?_⟩
        by_cases d : j = A + (k + 1)
        · subst d
          omega
        · exact lm j h1 (by omega)
  obtain ⟨m, ⟨i, i1, i2, i3⟩, lm⟩ := mn (L - 1 - A) (by omega)
  exact ⟨A, m, .of_row hA e nd ⟨i, i1, by omega, i3⟩ fun j j1 j2 => lm j j1 (by omega)⟩
/-! ### pairs -/
structure OkN (b p : Nat) : Prop where
  ok : OkPair (b : Int) (p : Int)
theorem OkN.hb {b p : Nat} (h : OkN b p) : 2 ≤ b := by have := h.ok.1; omega
theorem OkN.hb16 {b p : Nat} (h : OkN b p) : b ≤ 16 := by have := h.ok.2.1; omega
theorem OkN.hp1 {b p : Nat} (h : OkN b p) : 1 ≤ p := by have := h.ok.2.2.1; omega
theorem OkN.hp {b p : Nat} (h : OkN b p) : p ≤ 10 := by have := h.ok.le10; omega
theorem OkN.worth {b p : Nat} (h : OkN b p) : 1 ≤ (b - 1) ^ p ∧ (b - 1) ^ p ≤ 1024 := by
  have h1 := h.ok.worth
  have h2 := h.hb
  rw [worth_nat b p (by omega)] at h1
  omega
theorem row_down2 {b p L n : Nat} (hb : 2 ≤ b) (h : IsLen (b : Int) (Fx.worth (b : Int) (p : Int)) L) (hw : (b - 1) ^ p ≤ 1024) (hn : n < 2 ^ 200) : ∀ i, itN b p n (i + 2) ≤ max (L - 1) (18 - i) * (b - 1) ^ p
  | 0 => by
    have f1 : (figs b n).length ≤ 200 := by
      rw [figs_len]
      exact lsd_len_le hb 199 n hn
    have s1 : itN b p n 1 ≤ 200 * (b - 1) ^ p := step_le_len hb f1
    have s2 : itN b p n 1 < 2 ^ 18 := by
      have := Nat.mul_le_mul_left 200 hw
      omega
    have f2 : (figs b (itN b p n 1)).length ≤ 18 := by
      rw [figs_len]
      exact lsd_len_le hb 17 _ s2
    show stepN b p (itN b p n 1) ≤ _
    exact Nat.le_trans (step_le_len hb f2) (Nat.mul_le_mul_right _ (by omega))
  | i + 1 => by
    have ih := row_down2 hb h hw hn i
    have := down_one hb h ih
    rw [show 18 - (i + 1) = 18 - i - 1 by omega]
    exact this
theorem near_of {b p n : Nat} (h : OkN b p) (hn : n < 2 ^ 200) : Near b p n := by
  have hw := h.worth
  obtain ⟨L, hL, l15⟩ := len_ex h.ok.1 (show Fx.worth (b : Int) (p : Int) ≤ 1024 by have := h.ok.worth; omega)
  refine ⟨h.hb, fun i hi => ?_⟩
  have := row_down2 h.hb hL hw.2 hn (i - 2)
  rw [show i - 2 + 2 = i by omega, show max (L - 1) (18 - (i - 2)) = L - 1 by omega] at this
  have := Nat.mul_le_mul (show L - 1 ≤ 14 by omega) hw.2
  omega
theorem lt200 {n : Nat} (h : n < 2 ^ 200) : n < 2 ^ 900 := Nat.lt_of_lt_of_le h (Nat.pow_le_pow_right (by decide) (by decide))
theorem itN_lt200 {b p n : Nat} (h : OkN b p) (hn : n < 2 ^ 200) : ∀ k, itN b p n k < 2 ^ 200
  | 0 => hn
  | k + 1 => by
    have := stepN_lt h.hb h.hb16 h.hp (lt200 (itN_lt200 h hn k))
    have e : itN b p n (k + 1) = stepN b p (itN b p n k) := rfl
    have u : (2 : Nat) ^ 50 ≤ 2 ^ 200 := Nat.pow_le_pow_right (by decide) (by decide)
    omega
/-- a way to the first number that stood ahead -/
structure Way (b p n A L : Nat) : Prop where
  lt : A < L
  back : itN b p n L = itN b p n A
  nd : ∀ i j, i < L → j < L → itN b p n i = itN b p n j → i = j
/-- a round from its least number on -/
structure Rnd (b p m k : Nat) : Prop where
  pos : 0 < k
  back : itN b p m k = m
  nd : ∀ i j, i < k → j < k → itN b p m i = itN b p m j → i = j
  least : ∀ i, m ≤ itN b p m i
theorem Way.end_of {b p n A L m : Nat} (w : Way b p n A L) (on : ∃ i, A ≤ i ∧ i < L ∧ itN b p n i = m) (le : ∀ i, A ≤ i → i < L → m ≤ itN b p n i) : EndAt b p n A m := .of_row w.lt w.back w.nd on le
theorem Way.turn {b p n A L : Nat} (w : Way b p n A L) (i : Nat) : itN b p n (L + i) = itN b p n (A + i) := by
  rw [itN_add, w.back, ← itN_add]
theorem Way.rnd {b p n A L i : Nat} (w : Way b p n A L) (h1 : A ≤ i) (h2 : i < L) (le : ∀ j, A ≤ j → j < L → itN b p n i ≤ itN b p n j) : Rnd b p (itN b p n i) (L - A) := by
  have e := w.end_of ⟨i, h1, h2, rfl⟩ le
  have lt := w.lt
  refine ⟨by omega, ?_, fun x y hx hy exy => ?_, fun j => ?_⟩
  · rw [← itN_add, show i + (L - A) = L + (i - A) by omega, w.turn, show A + (i - A) = i by omega]
  · rw [← itN_add, ← itN_add] at exy
    by_cases cx : i + x < L
    · by_cases cy : i + y < L
      · have := w.nd _ _ cx cy exy
        omega
      · rw [show i + y = L + (i + y - L) by omega, w.turn] at exy
        have := w.nd _ _ cx (by omega) exy
        omega
    · rw [show i + x = L + (i + x - L) by omega, w.turn] at exy
      by_cases cy : i + y < L
      · have := w.nd _ _ (by omega) cy exy
        omega
      · rw [show i + y = L + (i + y - L) by omega, w.turn] at exy
        have := w.nd _ _ (by omega) (by omega) exy
        omega
  · rw [← itN_add]
    exact e.least _ (by omega)
theorem Rnd.at0 {b p m k : Nat} (h : Rnd b p m k) : EndAt b p m 0 m := ⟨⟨k, h.pos, h.back⟩, fun j hj => by omega, ⟨0, Nat.le_refl _, rfl⟩, fun i _ => h.least i⟩
theorem Rnd.uniq {b p m k l : Nat} (h : Rnd b p m k) (g : Rnd b p m l) : k = l := by
  rcases Nat.lt_trichotomy k l with c | c | c
  · have := g.nd k 0 c g.pos (by rw [h.back]; rfl)
    have := h.pos
    omega
  · exact c
  · have := h.nd l 0 c h.pos (by rw [g.back]; rfl)
    have := g.pos
    omega
theorem Rnd.le {b p m k : Nat} (h : Rnd b p m k) (nr : Near b p m) : k ≤ 15030 := nr.rep h.nd
theorem rowN_eq (b p n : Nat) : ∀ m, rowN b p n m = (List.range m).map (itN b p n)
  | 0 => rfl
  | m + 1 => by
    rw [rowN, rowN_eq b p n m, List.range_succ, List.map_append]
    rfl
theorem rowN_drop {b p n A L : Nat} : (rowN b p n L).drop A = rowN b p (itN b p n A) (L - A) := by
  rw [rowN_eq, rowN_eq]
  refine List.ext_getElem? fun i => ?_
  rw [List.getElem?_drop, List.getElem?_map, List.getElem?_map]
  by_cases c : A + i < L
  · rw [List.getElem?_range c, List.getElem?_range (by omega)]
    show some (itN b p n (A + i)) = some (itN b p (itN b p n A) i)
    rw [itN_add]
  · rw [List.getElem?_eq_none (by rw [List.length_range]; omega), List.getElem?_eq_none (by rw [List.length_range]; omega)]
    rfl
theorem rowN_take {b p n i : Nat} {L : Nat} (h : i ≤ L) : (rowN b p n L).take i = rowN b p n i := by
  rw [rowN_eq, rowN_eq, ← List.map_take, List.take_range]
  rw [Nat.min_eq_left h]
theorem rowN_app {b p n i j : Nat} : rowN b p n i ++ rowN b p (itN b p n i) j = rowN b p n (i + j) := by
  rw [← rowN_take (L := i + j) (i := i) (by omega), show rowN b p (itN b p n i) j = (rowN b p n (i + j)).drop i by rw [rowN_drop]; congr 1; omega, List.take_append_drop]
theorem mem_rowN {b p n L x : Nat} : x ∈ rowN b p n L ↔ ∃ i, i < L ∧ itN b p n i = x := by
  rw [rowN_eq, List.mem_map]
  exact ⟨fun ⟨i, h, e⟩ => ⟨i, List.mem_range.mp h, e⟩, fun ⟨i, h, e⟩ => ⟨i, List.mem_range.mpr h, e⟩⟩
/-- from another number of a round on, gone round: the whole round -/
theorem Way.rot {b p n A L i : Nat} (w : Way b p n A L) (h1 : A ≤ i) (h2 : i < L) : ((rowN b p n L).drop A).drop (i - A) ++ ((rowN b p n L).drop A).take (i - A) = rowN b p (itN b p n i) (L - A) := by
  have lt := w.lt
  rw [rowN_drop, rowN_drop, rowN_take (by omega), ← itN_add, show A + (i - A) = i by omega]
  have e : itN b p n A = itN b p (itN b p n i) (L - A - (i - A)) := by
    rw [← itN_add, show i + (L - A - (i - A)) = L by omega, w.back]
  rw [e, rowN_app, show L - A - (i - A) + (i - A) = L - A by omega]
end Fx
namespace Fx
theorem itN_lt160 {b p n : Nat} (h : OkN b p) (hn : n < 16 ^ 40) : ∀ k, itN b p n k < 16 ^ 40
  | 0 => hn
  | k + 1 => by
    have u1 : (16 : Nat) ^ 40 < 2 ^ 200 := by decide
    have u2 : (2 : Nat) ^ 50 < 16 ^ 40 := by decide
    have ih := itN_lt160 h hn k
    have := stepN_lt h.hb h.hb16 h.hp (lt200 (show itN b p n k < 2 ^ 200 by omega))
    have e : itN b p n (k + 1) = stepN b p (itN b p n k) := rfl
    omega
end Fx

namespace Fx
open PySem PySem.Spec PyProof.Rows L2
/-! ### a dict by places -/
def kvsOf (f : Nat → Int) (g : Nat → V) (L : Nat) : List (Key × V) := (List.range L).map fun i => (Sum.inl (f i), g i)
theorem kvsOf_len (f : Nat → Int) (g : Nat → V) (L : Nat) : (kvsOf f g L).length = L := by
  unfold kvsOf
  rw [List.length_map, List.length_range]
theorem kvsOf_succ (f : Nat → Int) (g : Nat → V) (L : Nat) : kvsOf f g (L + 1) = kvsOf f g L ++ [(Sum.inl (f L), g L)] := by
  unfold kvsOf
  rw [List.range_succ, List.map_append]
  rfl
theorem kvsOf_none {f : Nat → Int} {g : Nat → V} {k : Int} {L : Nat} (h : ∀ i, i < L → f i ≠ k) : valV (kvsOf f g L) (Sum.inl k : Key) = none := by
  unfold valV kvsOf
  rw [List.find?_eq_none.mpr]
  · rfl
  · intro x hx
    obtain ⟨i, hi, rfl⟩ := List.mem_map.mp hx
    rw [decide_eq_true_iff]
    intro e
    exact h i (List.mem_range.mp hi) (Sum.inl.inj e)
theorem kvsOf_some {f : Nat → Int} {g : Nat → V} : ∀ {L i : Nat}, (∀ i j, i < L → j < L → f i = f j → i = j) → i < L → valV (kvsOf f g L) (Sum.inl (f i) : Key) = some (g i)
  | 0, i, _, h => by omega
  | L + 1, i, nd, h => by
    rw [kvsOf_succ, valV_snoc _ _ _ _ (kvsOf_none fun j hj e => by
      have := nd j L (by omega) (by omega) e
      omega)]
    by_cases c : i = L
    · subst c
      rw [if_pos rfl]
    · rw [if_neg (fun e => c (nd i L h (by omega) (Sum.inl.inj e))), kvsOf_some (fun a b ha hb => nd a b (by omega) (by omega)) (by omega)]
theorem kvsOf_put {f : Nat → Int} {g : Nat → V} {L : Nat} (h : ∀ i, i < L → f i ≠ f L) : putK (kvsOf f g L) (Sum.inl (f L) : Key) (g L) = kvsOf f g (L + 1) := by
  rw [putK_new _ (kvsOf_none h), kvsOf_succ]
theorem kvsOf_keys (f : Nat → Int) (g : Nat → V) (L : Nat) : ((kvsOf f g L).map fun kv => kV kv.1) = (List.range L).map fun i => V.int (f i) := by
  unfold kvsOf
  rw [List.map_map]
  rfl
/-! ### numbers in lists -/
theorem inV_ivs (n : Nat) (l : List Nat) : inV (.int (n : Int)) (ivs l) = decide (n ∈ l) := by
  unfold inV ivs
  rw [List.any_map]
  by_cases c : n ∈ l
  · rw [decide_eq_true c, List.any_eq_true]
    refine ⟨n, c, ?_⟩
    show ((n : Int) == (n : Int)) = true
    exact beq_self_eq_true _
  · rw [decide_eq_false c, List.any_eq_false]
    intro x hx e
    have e' : ((x : Int) == (n : Int)) = true := e
    have := eq_of_beq e'
    have : x = n := by omega
    exact c (this ▸ hx)
theorem flat_ivs (l : List Nat) : (ivs l).all flatV = true := by
  unfold ivs
  rw [List.all_map, List.all_eq_true]
  intro x _
  rfl
theorem eqV_int (a b : Nat) : eqV (.int (a : Int)) (.int (b : Int)) = decide (a = b) := by
  show ((a : Int) == (b : Int)) = _
  by_cases c : a = b
  · subst c
    rw [decide_eq_true rfl]
    exact beq_self_eq_true _
  · rw [decide_eq_false c]
    exact beq_eq_false_iff_ne.mpr (by omega)
theorem dget {H : Hp} {a : Addr} {kvs : List (Key × V)} {k : Key} {r : Option V} (e : H a = some (.dK kvs)) (v : valV kvs k = r) : DGet H a (kV k) r := by
  subst v
  exact .k e
theorem small_len {n : Nat} (h : n ≤ 16000000) : n < sizeLine := Nat.lt_of_le_of_lt h (by decide)
end Fx

namespace Fx
open PySem PySem.Spec PyProof.Rows L2
/-! ### the laws' draws from a seed -/
def Seed (H : Hp) (d : Addr) : Prop := ∃ a f t r : Int, H d = some (.lst [.int a, .int f, .int t, .int r])
theorem Seed.same {H H' : Hp} {d : Addr} (h : Seed H d) (s : Same H H') : Seed H' d := by
  obtain ⟨a, f, t, r, e⟩ := h
  exact ⟨a, f, t, r, s _ _ e⟩
theorem Seed.off {H : Hp} {d p : Addr} {o : HO} (h : Seed H d) (n : p ≠ d) : Seed (upd H p o) d := by
  obtain ⟨a, f, t, r, e⟩ := h
  exact ⟨a, f, t, r, by rw [upd_ne (Ne.symm n)]; exact e⟩
theorem Seed.there {H : Hp} {d : Addr} (h : Seed H d) : ∃ o, H d = some o := by
  obtain ⟨a, f, t, r, e⟩ := h
  exact ⟨_, e⟩
theorem Seed.out {H : Hp} {d p : Addr} (h : Seed H d) (hp : H p = none) : p ≠ d := by
  obtain ⟨o, e⟩ := h.there
  exact (ne_of_none e hp).symm
theorem Seed.tup {H H' : Hp} {d t : Addr} {xs : List V} (h : Seed H d) (b : But d H H') (e : H t = some (.tup xs)) : H' t = some (.tup xs) := by
  obtain ⟨_, _, _, _, q⟩ := h
  exact b t _ (ne_of e q (fun z => by cases z)) e
/-- what each figure is worth -/
def wts (b p : Nat) : List Nat := (List.range b).map (· ^ p)
theorem wts_len (b p : Nat) : (wts b p).length = b := by
  unfold wts
  rw [List.length_map, List.length_range]
theorem wts_get {b p i : Nat} (h : i < b) : (wts b p)[i]? = some (i ^ p) := by
  unfold wts
  rw [List.getElem?_map, List.getElem?_range h]
  rfl
/-- base, power, and what figures are worth -/
def PairW (H : Hp) (d t : Addr) (b p : Nat) : Prop := ∃ w, H t = some (.tup [.int (b : Int), .int (p : Int), .ref w]) ∧ H w = some (.lst (ivs (wts b p))) ∧ w ≠ d ∧ t ≠ d ∧ OkN b p
theorem PairW.but {H H' : Hp} {d t : Addr} {b p : Nat} (h : PairW H d t b p) (s : But d H H') : PairW H' d t b p := by
  obtain ⟨w, e1, e2, n1, n2, ok⟩ := h
  exact ⟨w, s _ _ n2 e1, s _ _ n1 e2, n1, n2, ok⟩
theorem PairW.same {H H' : Hp} {d t : Addr} {b p : Nat} (h : PairW H d t b p) (s : Same H H') : PairW H' d t b p := h.but (.of s)
theorem PairW.ok {H : Hp} {d t : Addr} {b p : Nat} (h : PairW H d t b p) : OkN b p := by
  obtain ⟨w, e1, e2, n1, n2, ok⟩ := h
  exact ok
theorem cut_ivs_to (l : List Nat) (i : Nat) : cutV (ivs l) none (some (i : Int)) = ivs (l.take i) := by
  rw [cut_to]
  unfold ivs
  rw [List.map_take]
theorem cut_ivs_from (l : List Nat) (i : Nat) : cutV (ivs l) (some (i : Int)) none = ivs (l.drop i) := by
  rw [cut_from]
  unfold ivs
  rw [List.map_drop]
/-- the powers that a base lets -/
def mostN (b : Nat) : Nat := (mostOf (b : Int)).toNat
def upTo (m : Nat) : List Nat := (List.range m).map (· + 1)
theorem upTo_len (m : Nat) : (upTo m).length = m := by
  unfold upTo
  rw [List.length_map, List.length_range]
theorem upTo_get {m i : Nat} (h : i < m) : (upTo m)[i]? = some (i + 1) := by
  unfold upTo
  rw [List.getElem?_map, List.getElem?_range h]
  rfl
theorem upTo_succ (m : Nat) : upTo (m + 1) = upTo m ++ [m + 1] := by
  unfold upTo
  rw [List.range_succ, List.map_append]
  rfl
theorem most_iff {b k : Nat} (h1 : 2 ≤ b) (h2 : b ≤ 16) (k1 : 1 ≤ k) (k2 : k ≤ 10) : (b - 1) ^ k ≤ 1000 ↔ k ≤ mostN b := by
  have a : ∀ i ∈ List.range 15, ∀ j ∈ List.range 10, ((i + 2 - 1) ^ (j + 1) ≤ 1000 ↔ j + 1 ≤ mostN (i + 2)) := by decide +kernel
  have := a (b - 2) (List.mem_range.mpr (by omega)) (k - 1) (List.mem_range.mpr (by omega))
  rwa [show b - 2 + 2 = b by omega, show k - 1 + 1 = k by omega] at this
theorem mostN_pos {b : Nat} (h1 : 2 ≤ b) (h2 : b ≤ 16) : 1 ≤ mostN b ∧ mostN b ≤ 10 := by
  have := most_pos (b := (b : Int)) (by omega) (by omega)
  unfold mostN
  omega
theorem okN_of {b p : Nat} (h1 : 2 ≤ b) (h2 : b ≤ 16) (h3 : 1 ≤ p) (h4 : p ≤ mostN b) : OkN b p := by
  have := most_pos (b := (b : Int)) (by omega) (by omega)
  unfold mostN at h4
  exact ⟨by omega, by omega, by omega, by omega⟩
end Fx

namespace Fx
open PySem PySem.Spec PyProof.Rows L2
/-! ### a < b of data; a walk over a list or a tuple -/
def rLtD (K : PySem.W.Frag) : R2 := fun x y H Q => ∃ d e, Dp K H x d ∧ Dp K H y e ∧ PySem.W.alike d e = true ∧ d ≠ .none ∧ d.depth ≤ 60 ∧ Q (.bl (PySem.W.dataLt d e)) H
theorem op_ltD {X : Cx} (hu : X.A.units + 64 < cLine) : OpR X (compareOp .Lt) (rLtD X.K) := by
  intro pins s σ H x y v u Q I rx ry h
  obtain ⟨d, e, hd, he, al, nn, dp, q⟩ := h
  obtain ⟨as, r1⟩ := Dp.reads I d x v hd rx
  obtain ⟨bs, r2⟩ := Dp.reads I e y u he ry
  have hm : min d.depth e.depth ≤ d.depth := Nat.min_le_left _ _
  exact PySem.W.lt_data r1 r2 al nn (by omega) ⟨.bl _, H, I, rfl, q⟩
theorem pi_or {X : Cx} {tg e : Expr} {w1 w2 : TI} (h1 : PI X tg e w1) (h2 : PI X tg e w2) : PI X tg e (fun σ H R => w1 σ H R ∨ w2 σ H R) :=
  ⟨fun pins s σ H R I h => h.elim (h1.run pins s σ H R I) (h2.run pins s σ H R I)⟩
/-! ### lists without one place -/
theorem ixN_of {n j : Nat} (h : j < n) : ixN n (j : Int) = some j := by
  unfold ixN
  rw [if_pos (by omega), if_pos (by omega)]
  simp
theorem seq_of {n j : Nat} (h : j < n) : seqIndex? (j : Int) n = some j := (ixN_seq (ixN_of h)).1
theorem erase_sum : ∀ {l : List Nat} {k : Nat} {d : Nat} (f : Nat → Nat), l[k]? = some d → ((l.eraseIdx k).map f).sum + f d = (l.map f).sum
  | [], _, _, _, h => by simp at h
  | a :: r, 0, d, f, h => by
    cases Option.some.inj h
    show (r.map f).sum + f a = (f a :: r.map f).sum
    rw [List.sum_cons]
    omega
  | a :: r, k + 1, d, f, h => by
    have ih := erase_sum (l := r) (k := k) (d := d) f h
    show ((f a) :: (r.eraseIdx k).map f).sum + f d = (f a :: r.map f).sum
    rw [List.sum_cons, List.sum_cons]
    omega
theorem ivs_erase : ∀ (l : List Nat) (k : Nat), (ivs l).eraseIdx k = ivs (l.eraseIdx k)
  | [], _ => rfl
  | _ :: _, 0 => rfl
  | a :: r, k + 1 => by
    show V.int (a : Int) :: (ivs r).eraseIdx k = V.int (a : Int) :: ivs (r.eraseIdx k)
    rw [ivs_erase r k]
/-! ### steps of what figures are worth -/
theorem step_val {b p : Nat} (hb : 2 ≤ b) (hp : 1 ≤ p) (ds : List Nat) (h : ∀ d ∈ ds, d < b) : stepN b p (val b ds) = (ds.map (· ^ p)).sum := by
  have go : ∀ (ds : List Nat) (a : Nat), (∀ d ∈ ds, d < b) → stepN b p (ds.foldl (fun a d => a * b + d) a) = stepN b p a + (ds.map (· ^ p)).sum := by
    intro ds
    induction ds with
    | nil => intro a _; rfl
    | cons d r ih =>
      intro a h
      show stepN b p (r.foldl (fun a d => a * b + d) (a * b + d)) = _
      rw [ih (a * b + d) (fun e he => h e (List.mem_cons_of_mem _ he)), stepN_push hb hp (h d (List.mem_cons_self ..)), List.map_cons, List.sum_cons]
      omega
  have := go ds 0 h
  rw [stepN_zero hb hp, Nat.zero_add] at this
  exact this
theorem val_lt900 {b : Nat} (hb : 2 ≤ b) (hb16 : b ≤ 16) {ds : List Nat} (h : ∀ d ∈ ds, d < b) (hl : ds.length ≤ 200) : val b ds < 2 ^ 900 := by
  have h1 := val_lt hb ds h
  have h2 : b ^ ds.length ≤ b ^ 200 := Nat.pow_le_pow_right (by omega) hl
  have h3 : b ^ 200 ≤ 16 ^ 200 := Nat.pow_le_pow_left hb16 200
  have h4 : (16 : Nat) ^ 200 = 2 ^ 800 := by
    rw [show (16 : Nat) = 2 ^ 4 by decide, ← Nat.pow_mul]
  have h5 : (2 : Nat) ^ 800 ≤ 2 ^ 900 := Nat.pow_le_pow_right (by decide) (by decide)
  omega
theorem val_append {b : Nat} (ds es : List Nat) : val b (ds ++ es) = val b ds * b ^ es.length + val b es := by
  have go : ∀ (es : List Nat) (a : Nat), es.foldl (fun a d => a * b + d) a = a * b ^ es.length + val b es := by
    intro es
    induction es with
    | nil =>
      intro a
      show a = a * b ^ 0 + 0
      rw [Nat.pow_zero]
      omega
    | cons d r ih =>
      intro a
      show r.foldl (fun a d => a * b + d) (a * b + d) = _
      rw [ih (a * b + d)]
      have e : val b (d :: r) = d * b ^ r.length + val b r := by
        show r.foldl (fun a d => a * b + d) (0 * b + d) = _
        rw [ih (0 * b + d), Nat.zero_mul, Nat.zero_add]
      rw [e, List.length_cons, Nat.pow_succ, Nat.add_mul, Nat.mul_assoc, Nat.mul_comm b]
      omega
  unfold val
  rw [List.foldl_append]
  exact go es _
theorem val_cons {b d : Nat} (r : List Nat) : val b (d :: r) = d * b ^ r.length + val b r := by
  have := val_append (b := b) [d] r
  rw [show val b [d] = d by show 0 * b + d = d; omega] at this
  exact this
/-! ### the order of texts is that of numbers -/
theorem sg_lt {d e : Nat} (h : d < 16) (h' : e < 16) : sg d < sg e ↔ d < e := by
  have a : ∀ d ∈ List.range 16, ∀ e ∈ List.range 16, (sg d < sg e ↔ d < e) := by decide +kernel
  exact a d (List.mem_range.mpr h) e (List.mem_range.mpr h')
theorem lex_val {b : Nat} (hb : 2 ≤ b) (hb16 : b ≤ 16) : ∀ ds es : List Nat, ds.length = es.length → (∀ d ∈ ds, d < b) → (∀ d ∈ es, d < b) → (ds.map sg < es.map sg ↔ val b ds < val b es)
  | [], [], _, _, _ => by
    constructor
    · intro h; exact absurd h (List.not_lt_nil _)
    · intro h; exact absurd h (Nat.lt_irrefl _)
  | [], _ :: _, h, _, _ => by simp at h
  | _ :: _, [], h, _, _ => by simp at h
  | d :: ds, e :: es, hl, h1, h2 => by
    have hl' : ds.length = es.length := by simpa using hl
    have hd := h1 d (List.mem_cons_self ..)
    have he := h2 e (List.mem_cons_self ..)
    have i1 : ∀ x ∈ ds, x < b := fun x hx => h1 x (List.mem_cons_of_mem _ hx)
    have i2 : ∀ x ∈ es, x < b := fun x hx => h2 x (List.mem_cons_of_mem _ hx)
    have ih := lex_val hb hb16 ds es hl' i1 i2
    have v1 := val_lt hb ds i1
    have v2 := val_lt hb es i2
    rw [List.map_cons, List.map_cons, List.cons_lt_cons_iff, ih, sg_lt (by omega) (by omega), val_cons, val_cons, hl']
    rw [hl'] at v1
    constructor
    · rintro (h | ⟨h, g⟩)
      · have := Nat.mul_le_mul_right (b ^ es.length) (show d + 1 ≤ e from h)
        rw [Nat.succ_mul] at this
        omega
      · have := sg_inj (by omega) (by omega) h
        subst this
        omega
    · intro h
      by_cases c : d < e
      · exact .inl c
      · right
        have de : d = e := by
          refine Nat.le_antisymm (Nat.le_of_not_lt fun z => ?_) (by omega)
          have := Nat.mul_le_mul_right (b ^ es.length) (show e + 1 ≤ d from z)
          rw [Nat.succ_mul] at this
          omega
        subst de
        exact ⟨rfl, by omega⟩
theorem len_lt_num {b n m : Nat} (hb : 2 ≤ b) (h : (figs b n).length < (figs b m).length) : n < m := by
  have l0 : 0 < (figs b n).length := List.length_pos_iff.mpr figs_ne
  have h1 := val_lt hb (figs b n) fun d hd => figs_below hb hd
  rw [val_figs hb] at h1
  have m0 : 0 < m := by
    refine Nat.pos_of_ne_zero fun z => ?_
    subst z
    rw [figs_len b 0, lsd_lt (by omega)] at h
    have : [0].length = 1 := rfl
    omega
  have h2 := len_pow hb m m0
  have := Nat.pow_le_pow_right (show 0 < b by omega) (show (figs b n).length ≤ (figs b m).length - 1 by omega)
  omega
theorem txt_inj {b n m : Nat} (hb : 2 ≤ b) (hb16 : b ≤ 16) (h : txt (figs b n) = txt (figs b m)) : n = m := by
  have e := congrArg (fun x : Str => x.cps.toList) h
  have e' : (figs b n).map sg = (figs b m).map sg := e
  have l : (figs b n).length = (figs b m).length := by
    have := congrArg List.length e'
    simpa using this
  rcases Nat.lt_trichotomy n m with c | c | c
  · have := (lex_val hb hb16 _ _ l (fun d hd => figs_below hb hd) (fun d hd => figs_below hb hd)).mpr (by rw [val_figs hb, val_figs hb]; exact c)
    rw [e'] at this
    exact absurd this (List.lt_irrefl _)
  · exact c
  · have := (lex_val hb hb16 _ _ l.symm (fun d hd => figs_below hb hd) (fun d hd => figs_below hb hd)).mpr (by rw [val_figs hb, val_figs hb]; exact c)
    rw [e'] at this
    exact absurd this (List.lt_irrefl _)
/-- (its length, its text), as data -/
def lenTxt (ds : List Nat) : PyData := .tuple [.int (ds.length : Int), .str (txt ds)]
theorem lenTxt_lt {b n m : Nat} (hb : 2 ≤ b) (hb16 : b ≤ 16) : PySem.W.dataLt (lenTxt (figs b n)) (lenTxt (figs b m)) = decide ((n : Int) < (m : Int)) := by
  unfold lenTxt
  rw [PySem.W.dataLt_tuple]
  by_cases c : (figs b n).length = (figs b m).length
  · rw [PySem.W.dataLt_all_yes (by rfl) (by rw [c]; simp [PyData.eqv])]
    by_cases d : txt (figs b n) = txt (figs b m)
    · have nm := txt_inj hb hb16 d
      subst nm
      rw [decide_eq_false (Int.lt_irrefl _)]
      rw [PySem.W.dataLt_all_yes (by rfl) (by simp [PyData.eqv])]
      decide +kernel
    · rw [PySem.W.dataLt_all_no (by rfl) (by simp [PyData.eqv, d]), PySem.W.dataLt_str]
      rw [decide_eq_decide, tl_txt, tl_txt, lex_val hb hb16 _ _ c (fun d hd => figs_below hb hd) (fun d hd => figs_below hb hd), val_figs hb, val_figs hb]
      omega
  · rw [PySem.W.dataLt_all_no (by rfl) (by simp [PyData.eqv]; omega), PySem.W.dataLt_int, decide_eq_decide]
    constructor
    · intro h
      have := len_lt_num hb (n := n) (m := m) (by omega)
      omega
    · intro h
      refine Int.ofNat_lt.mpr (Nat.lt_of_le_of_ne (Nat.le_of_not_lt fun z => ?_) c)
      have := len_lt_num hb z
      omega
end Fx

namespace Fx
open PySem PySem.Spec PyProof.Rows L2
/-! ### what stays but for some -/
structure Frm (S : List Addr) (H H' : Hp) : Prop where
  kp : ∀ q o, q ∉ S → H q = some o → H' q = some o
  fr : ∀ q, H' q = none → H q = none
theorem Frm.refl (S : List Addr) (H : Hp) : Frm S H H := ⟨fun _ _ _ h => h, fun _ h => h⟩
theorem Frm.trans {S : List Addr} {H H1 H2 : Hp} (a : Frm S H H1) (b : Frm S H1 H2) : Frm S H H2 := ⟨fun q o n h => b.kp q o n (a.kp q o n h), fun q h => a.fr q (b.fr q h)⟩
theorem Frm.mono {S T : List Addr} {H H' : Hp} (a : Frm S H H') (h : ∀ x ∈ S, x ∈ T) : Frm T H H' := ⟨fun q o n e => a.kp q o (fun z => n (h q z)) e, a.fr⟩
theorem Frm.of {H H' : Hp} (S : List Addr) (a : Same H H') : Frm S H H' := ⟨fun q o _ h => a q o h, fun _ h => a.free h⟩
theorem Frm.but {d : Addr} {H H' : Hp} (a : But d H H') (h : ∃ o, H' d = some o) : Frm [d] H H' := ⟨fun q o n e => a q o (fun z => n (by rw [z]; exact List.mem_singleton.mpr rfl)) e, fun _ e => a.fresh h e⟩
theorem Frm.set {p : Addr} {H : Hp} {o u : HO} (h : H p = some u) : Frm [p] H (upd H p o) := Frm.but But.set ⟨_, upd_same⟩
theorem Frm.to {d : Addr} {S : List Addr} {H H' : Hp} (a : Frm S H H') (h : ∀ x ∈ S, x = d) : But d H H' := fun b o n e => a.kp b o (fun z => n (h b z)) e
/-- a fresh thing of our own was changed: nothing was -/
theorem Frm.drop {p : Addr} {S : List Addr} {H H' : Hp} (a : Frm (p :: S) H H') (h : H p = none) : Frm S H H' := ⟨fun q o n e => a.kp q o (fun z => (List.mem_cons.mp z).elim (fun z => by rw [z, h] at e; cases e) n) e, a.fr⟩
theorem Frm.same {H H' : Hp} (a : Frm [] H H') : Same H H' := fun q o e => a.kp q o (by simp) e
theorem Deck.frm {S : List Addr} {H H' : Hp} {d c : Addr} {n : Nat} (h : Deck H d c n) (a : Frm S H H') (h1 : d ∉ S) (h2 : c ∉ S) : Deck H' d c n := by
  obtain ⟨ns, i, l, m, t, e, e2, r⟩ := h.ex
  exact ⟨ns, i, l, m, t, a.kp _ _ h1 e, a.kp _ _ h2 e2, r⟩
/-- the deck's list is no list of numbers -/
theorem Deck.notInts {H : Hp} {d c p : Addr} {n : Nat} {l : List Nat} (h : Deck H d c n) (e : H p = Option.some (HO.lst (ivs l))) : p ≠ d := by
  obtain ⟨ns, i, k, m, t, e1, _⟩ := h.ex
  intro z
  rw [z, e1] at e
  cases l with
  | nil => cases e
  | cons x r => cases e

theorem Deck.notTup' {H : Hp} {d c x : Addr} {n : Nat} {xs : List V} (h : Deck H d c n) (g : H x = Option.some (HO.tup xs)) : x ≠ d := fun z => by
  obtain ⟨ns, i, l, m, t, e, _⟩ := h.ex
  rw [z, e] at g
  cases g
/-! ### a kept number as it stands -/
theorem kb1 : ¬ (("base" : Str) = "power") := by decide +kernel
theorem kb2 : ¬ (("base" : Str) = "worths") := by decide +kernel
theorem kb3 : ¬ (("base" : Str) = "figures") := by decide +kernel
theorem kp2 : ¬ (("power" : Str) = "worths") := by decide +kernel
theorem kp3 : ¬ (("power" : Str) = "figures") := by decide +kernel
theorem kw3 : ¬ (("worths" : Str) = "figures") := by decide +kernel
def kf (b p : Int) (w f : Addr) : List (Str × V) := putF "figures" (.ref f) (putF "worths" (.ref w) (putF "power" (.int p) (putF "base" (.int b) [])))
theorem kf_eq (b p : Int) (w f : Addr) : kf b p w f = ([("base", V.int b), ("power", V.int p), ("worths", V.ref w), ("figures", V.ref f)] : List (Str × V)) := by
  show putF "figures" (.ref f) (putF "worths" (.ref w) (if ("base" : Str) = "power" then [(("base" : Str), V.int p)] else (("base" : Str), V.int b) :: [(("power" : Str), V.int p)])) = _
  rw [if_neg kb1]
  show putF "figures" (.ref f) (if ("base" : Str) = "worths" then _ else (("base" : Str), V.int b) :: (if ("power" : Str) = "worths" then _ else (("power" : Str), V.int p) :: [(("worths" : Str), V.ref w)])) = _
  rw [if_neg kb2, if_neg kp2]
  show (if ("base" : Str) = "figures" then _ else (("base" : Str), V.int b) :: (if ("power" : Str) = "figures" then _ else (("power" : Str), V.int p) :: (if ("worths" : Str) = "figures" then _ else (("worths" : Str), V.ref w) :: [(("figures" : Str), V.ref f)]))) = _
  rw [if_neg kb3, if_neg kp3, if_neg kw3]
theorem kf_len (b p : Int) (w f : Addr) : (kf b p w f).length < 1000 := by
  rw [kf_eq]
  show 4 < 1000
  decide
theorem putF_len {f : Str} {v : V} {fs : List (Str × V)} {n : Nat} (h : fs.length ≤ n) : (putF f v fs).length ≤ n + 1 := Nat.le_trans (length_putF ..) (by omega)
theorem kf2_len (b p : Int) : (putF "power" (.int p) (putF "base" (.int b) [])).length < 1000 := Nat.lt_of_le_of_lt (putF_len (putF_len (Nat.le_refl 0))) (by decide)
theorem kf3_len (b p : Int) (w : Addr) : (putF "worths" (.ref w) (putF "power" (.int p) (putF "base" (.int b) []))).length < 1000 := Nat.lt_of_le_of_lt (putF_len (putF_len (putF_len (Nat.le_refl 0)))) (by decide)
theorem kf_base (b p : Int) (w f : Addr) : (kf b p w f).lookup ("base" : Str) = some (.int b) := by
  unfold kf
  rw [lookup_putF, if_neg kb3, lookup_putF, if_neg kb2, lookup_putF, if_neg kb1, lookup_putF, if_pos rfl]
theorem kf_power (b p : Int) (w f : Addr) : (kf b p w f).lookup ("power" : Str) = some (.int p) := by
  unfold kf
  rw [lookup_putF, if_neg kp3, lookup_putF, if_neg kp2, lookup_putF, if_pos rfl]
theorem kf_worths (b p : Int) (w f : Addr) : (kf b p w f).lookup ("worths" : Str) = some (.ref w) := by
  unfold kf
  rw [lookup_putF, if_neg kw3, lookup_putF, if_pos rfl]
theorem kf_figures (b p : Int) (w f : Addr) : (kf b p w f).lookup ("figures" : Str) = some (.ref f) := by
  unfold kf
  rw [lookup_putF, if_pos rfl]
theorem kf_no (b p : Int) (w f : Addr) {m : Str} (h1 : ¬ m = "base") (h2 : ¬ m = "power") (h3 : ¬ m = "worths") (h4 : ¬ m = "figures") : (kf b p w f).lookup m = none := by
  unfold kf
  rw [lookup_putF, if_neg h4, lookup_putF, if_neg h3, lookup_putF, if_neg h2, lookup_putF, if_neg h1]
  rfl
theorem kf_put (b p : Int) (w f g : Addr) : putF "figures" (.ref g) (kf b p w f) = kf b p w g := by
  rw [kf_eq, kf_eq]
  show (if ("base" : Str) = "figures" then _ else (("base" : Str), V.int b) :: (if ("power" : Str) = "figures" then _ else (("power" : Str), V.int p) :: (if ("worths" : Str) = "figures" then _ else (("worths" : Str), V.ref w) :: (if ("figures" : Str) = "figures" then [(("figures" : Str), V.ref g)] else _)))) = _
  rw [if_neg kb3, if_neg kp3, if_neg kw3, if_pos rfl]
/-- figures of a number, the greatest place first -/
structure Good (b : Nat) (fs : List Nat) : Prop where
  lt : ∀ f ∈ fs, f < b
  ne : fs ≠ []
  len : fs.length ≤ 40
/-- a number of the pair at p, its worths at w, its figures at l -/
structure KeptAt (C : Addr) (H : Hp) (p w l : Addr) (b pw : Nat) (fs : List Nat) : Prop where
  ins : ∃ dx, H p = some (.ins C dx (kf (b : Int) (pw : Int) w l))
  ws : H w = some (.lst (ivs (wts b pw)))
  fg : H l = some (.lst (ivs fs))
  wl : w ≠ l
  ok : OkN b pw
  good : Good b fs
theorem KeptAt.pw {C : Addr} {H : Hp} {p w l : Addr} {b pw : Nat} {fs : List Nat} (h : KeptAt C H p w l b pw fs) : p ≠ w := by
  obtain ⟨dx, e⟩ := h.ins
  exact ne_of e h.ws (fun z => by cases z)
theorem KeptAt.pl {C : Addr} {H : Hp} {p w l : Addr} {b pw : Nat} {fs : List Nat} (h : KeptAt C H p w l b pw fs) : p ≠ l := by
  obtain ⟨dx, e⟩ := h.ins
  exact ne_of e h.fg (fun z => by cases z)
theorem KeptAt.frm {C : Addr} {S : List Addr} {H H' : Hp} {p w l : Addr} {b pw : Nat} {fs : List Nat} (h : KeptAt C H p w l b pw fs) (a : Frm S H H') (h1 : p ∉ S) (h2 : w ∉ S) (h3 : l ∉ S) : KeptAt C H' p w l b pw fs := by
  obtain ⟨dx, e⟩ := h.ins
  exact ⟨⟨dx, a.kp _ _ h1 e⟩, a.kp _ _ h2 h.ws, a.kp _ _ h3 h.fg, h.wl, h.ok, h.good⟩
theorem KeptAt.same {C : Addr} {H H' : Hp} {p w l : Addr} {b pw : Nat} {fs : List Nat} (h : KeptAt C H p w l b pw fs) (a : Same H H') : KeptAt C H' p w l b pw fs := h.frm (Frm.of [] a) (by simp) (by simp) (by simp)
theorem KeptAt.deck {C : Addr} {H : Hp} {p w l d c : Addr} {b pw n : Nat} {fs : List Nat} (h : KeptAt C H p w l b pw fs) (D : Deck H d c n) : p ≠ d ∧ w ≠ d ∧ l ≠ d := by
  obtain ⟨dx, e⟩ := h.ins
  obtain ⟨xs, e2⟩ := D.some
  refine ⟨ne_of e e2 (fun z => ?_), D.notInts h.ws, D.notInts h.fg⟩
  cases z
theorem KeptAt.but {C : Addr} {H H' : Hp} {p w l d c : Addr} {b pw n : Nat} {fs : List Nat} (h : KeptAt C H p w l b pw fs) (D : Deck H d c n) (a : But d H H') : KeptAt C H' p w l b pw fs := by
  obtain ⟨h1, h2, h3⟩ := h.deck D
  obtain ⟨dx, e⟩ := h.ins
  exact ⟨⟨dx, a _ _ h1 e⟩, a _ _ h2 h.ws, a _ _ h3 h.fg, h.wl, h.ok, h.good⟩
theorem Good.val_lt {b : Nat} {fs : List Nat} (h : Good b fs) (hb : 2 ≤ b) (hb16 : b ≤ 16) : val b fs < 16 ^ 40 := by
  have h1 := Fx.val_lt hb fs h.lt
  have h2 : b ^ fs.length ≤ 16 ^ fs.length := Nat.pow_le_pow_left hb16 _
  have h3 : (16 : Nat) ^ fs.length ≤ 16 ^ 40 := Nat.pow_le_pow_right (by decide) h.len
  omega
theorem Good.val200 {b : Nat} {fs : List Nat} (h : Good b fs) (hb : 2 ≤ b) (hb16 : b ≤ 16) : val b fs < 2 ^ 200 := Nat.lt_of_lt_of_le (h.val_lt hb hb16) (by decide)
theorem Good.zero {b : Nat} (hb : 2 ≤ b) : Good b [0] := ⟨fun f hf => by cases List.mem_singleton.mp hf; omega, by simp, by decide⟩
theorem Good.push {b f : Nat} {fs : List Nat} (h : Good b fs) (hf : f < b) (hl : fs.length < 40) : Good b (fs ++ [f]) := ⟨fun x hx => by
  rcases List.mem_append.mp hx with z | z
  · exact h.lt x z
  · cases List.mem_singleton.mp z; exact hf, by simp, by rw [List.length_append]; show fs.length + 1 ≤ 40; omega⟩
theorem Good.one {b f : Nat} (hf : f < b) : Good b [f] := ⟨fun x hx => by cases List.mem_singleton.mp hx; exact hf, by simp, by show 1 ≤ 40; decide⟩
/-- figures once a figure is put behind -/
def putFs (fs : List Nat) (f : Nat) : List Nat := (if fs = [0] then [] else fs) ++ [f]
theorem Good.put {b f : Nat} {fs : List Nat} (h : Good b fs) (hf : f < b) (hl : fs.length < 40) : Good b (putFs fs f) := by
  unfold putFs
  by_cases c : fs = [0]
  · rw [if_pos c]
    exact Good.one hf
  · rw [if_neg c]
    exact h.push hf hl
/-- once the last one is taken off -/
def offFs (fs : List Nat) : List Nat := if fs.length = 1 then [0] else fs.dropLast
theorem Good.off {b : Nat} {fs : List Nat} (h : Good b fs) (hb : 2 ≤ b) : Good b (offFs fs) := by
  unfold offFs
  by_cases c : fs.length = 1
  · rw [if_pos c]
    exact Good.zero hb
  · rw [if_neg c]
    refine ⟨fun x hx => h.lt x (List.dropLast_subset _ hx), fun z => ?_, by rw [List.length_dropLast]; have := h.len; omega⟩
    have z2 := congrArg List.length z
    rw [List.length_dropLast] at z2
    have := List.length_pos_iff.mpr h.ne
    simp at z2
    omega
theorem Good.set {b f i : Nat} {fs : List Nat} (h : Good b fs) (hf : f < b) : Good b (fs.set i f) := ⟨fun x hx => by
  rcases List.mem_or_eq_of_mem_set hx with z | z
  · exact h.lt x z
  · rw [z]; exact hf, fun z => h.ne (by
  have := congrArg List.length z
  rw [List.length_set] at this
  exact List.length_eq_zero_iff.mp this), by rw [List.length_set]; exact h.len⟩
theorem ivs_set (l : List Nat) (i f : Nat) : (ivs l).set i (.int (f : Int)) = ivs (l.set i f) := by
  unfold ivs
  rw [List.map_set]
theorem ivs_dropLast (l : List Nat) : (ivs l).dropLast = ivs l.dropLast := by
  unfold ivs
  rw [List.map_dropLast]
theorem ivs_inj {l r : List Nat} (h : ivs l = ivs r) : l = r := by
  induction l generalizing r with
  | nil => cases r with
    | nil => rfl
    | cons a r => cases h
  | cons a l ih => cases r with
    | nil => cases h
    | cons c r =>
      have h' : V.int (a : Int) :: ivs l = V.int (c : Int) :: ivs r := h
      injection h' with h1 h2
      injection h1 with h1
      rw [ih h2, Int.ofNat.inj h1]
theorem cut_butlast (xs : List V) : cutV xs none (some (-1)) = xs.take (xs.length - 1) := by
  unfold cutV
  rw [HT.sIx_none]
  have e : HT.sIx xs.length xs.length (some (-1)) = xs.length - 1 := by
    show (if (-1 : Int) < 0 then ((-1 : Int) + (xs.length : Int)).toNat else min (-1 : Int).toNat xs.length) = _
    rw [if_pos (by decide)]
    omega
  rw [e, List.drop_zero, Nat.sub_zero]
theorem cut_ivs_butlast (l : List Nat) : cutV (ivs l) none (some (-1)) = ivs (l.take (l.length - 1)) := by
  rw [cut_butlast, ivs_length]
  unfold ivs
  rw [List.map_take]
theorem ivs_noughts (k : Nat) : (List.replicate k [V.int 0]).flatten = ivs (List.replicate k [0]).flatten := by
  induction k with
  | zero => rfl
  | succ k ih =>
    rw [List.replicate_succ, List.replicate_succ, List.flatten_cons, List.flatten_cons, ivs_append, ih]
    rfl
/-- the answer of == between two rows of numbers -/
theorem eqv_ints : ∀ l r : List Int, PyData.eqv (.list (dInts l)) (.list (dInts r)) = decide (l = r) := fun l r => by
  rw [PyData.eqv]
  exact PySem.W.ked_eqvAll l r
theorem cast_inj {l r : List Nat} : (l.map fun (k : Nat) => (k : Int)) = (r.map fun (k : Nat) => (k : Int)) ↔ l = r := by
  refine ⟨fun h => ?_, fun h => by rw [h]⟩
  refine ivs_inj ?_
  rw [ivs_map, ivs_map, h]
theorem eqv_nats (l r : List Nat) : PyData.eqv (.list (dInts (l.map fun (k : Nat) => (k : Int)))) (.list (dInts (r.map fun (k : Nat) => (k : Int)))) = decide (l = r) := by
  rw [eqv_ints]
  exact decide_eq_decide.mpr cast_inj
/-- a kept number that was made: what stood stands -/
theorem made {C : Addr} {H H2 : Hp} {x dx w l : Addr} {b pw : Nat} (nx : H x = none) (ndx : H dx = none) (nex : dx ≠ x) (k : KeptAt C H2 x w l b pw [0]) (nw : upd (upd H dx (.own x)) x (.ins C dx []) w = none) (nl : upd (upd H dx (.own x)) x (.ins C dx []) l = none)
    (F : Frm [x] (upd (upd H dx (.own x)) x (.ins C dx [])) H2) : Same H H2 ∧ H w = none ∧ H l = none := by
  have s1 : Same H (upd (upd H dx (.own x)) x (.ins C dx [])) := same_own (Same.new ndx) nx
  have F2 : Frm [x] H H2 := (Frm.of _ s1).trans F
  exact ⟨(F2.drop nx).same, s1.free nw, s1.free nl⟩
end Fx

namespace Fx
open PySem PySem.Spec PyProof.Rows L2
/-! ### figures and what they write -/
theorem figs_small {b n : Nat} (h : n < b) : figs b n = [n] := by
  unfold figs
  rw [lsd_lt h]
  rfl
theorem figs_push {b n d : Nat} (hb : 2 ≤ b) (hd : d < b) (hn : 0 < n) : figs b (n * b + d) = figs b n ++ [d] := by
  have h1 : b ≤ n * b + d := by
    have := Nat.mul_le_mul_right b hn
    omega
  have e1 : (n * b + d) / b = n := by
    rw [Nat.mul_comm, Nat.mul_add_div (by omega), Nat.div_eq_of_lt hd]
    omega
  have e2 : (n * b + d) % b = d := by
    rw [Nat.mul_comm, Nat.mul_add_mod, Nat.mod_eq_of_lt hd]
  unfold figs
  rw [lsd_ge hb h1, List.reverse_cons, e1, e2]
theorem val_snoc {b d : Nat} (r : List Nat) : val b (r ++ [d]) = val b r * b + d := by
  unfold val
  rw [List.foldl_append]
  rfl
theorem val_nil {b : Nat} : val b [] = 0 := rfl
theorem val_one {b d : Nat} : val b [d] = d := by
  show 0 * b + d = d
  omega
theorem val_pos {b : Nat} : ∀ (r : List Nat) (d : Nat), d ≠ 0 → 2 ≤ b → 0 < val b (d :: r) := fun r d hd hb => by
  rw [val_cons]
  have : 0 < d * b ^ r.length := Nat.mul_pos (by omega) (Nat.pow_pos (by omega))
  omega
theorem Reads.zero {b : Nat} {fs : List Nat} (hb : 2 ≤ b) (h : Reads b fs) (z : val b fs = 0) : fs = [0] := by
  match fs, h with
  | [], h => exact absurd rfl h.ne
  | d :: r, h =>
    by_cases c : d = 0
    · have := h.head d rfl c
      rw [List.length_cons] at this
      obtain rfl : r = [] := List.length_eq_zero_iff.mp (by omega)
      rw [c]
    · have := val_pos r d c hb
      omega
theorem Reads.front {b d : Nat} {r : List Nat} (h : Reads b (r ++ [d])) (ne : r ≠ []) : Reads b r ∧ ∀ x, r[0]? = some x → x ≠ 0 := by
  have l0 := List.length_pos_iff.mpr ne
  have nz : ∀ x, r[0]? = some x → x ≠ 0 := fun x hx z => by
    have := h.head x (by rw [List.getElem?_append_left l0]; exact hx) z
    rw [List.length_append] at this
    have : [d].length = 1 := rfl
    omega
  exact ⟨⟨ne, fun x hx => h.below x (List.mem_append_left _ hx), fun x hx z => absurd z (nz x hx)⟩, nz⟩
theorem figs_val {b : Nat} (hb : 2 ≤ b) : ∀ (n : Nat) (fs : List Nat), fs.length = n → Reads b fs → figs b (val b fs) = fs
  | 0, fs, hl, h => absurd (List.length_eq_zero_iff.mp hl) h.ne
  | n + 1, fs, hl, h => by
    obtain ⟨r, d, rfl⟩ : ∃ r d, fs = r ++ [d] := ⟨fs.dropLast, fs.getLast h.ne, (List.dropLast_concat_getLast h.ne).symm⟩
    have hd : d < b := h.below d (by simp)
    rw [List.length_append] at hl
    have hl' : r.length = n := by
      have : [d].length = 1 := rfl
      omega
    by_cases c : r = []
    · subst c
      rw [List.nil_append, val_one, figs_small hd]
    · obtain ⟨h', nz⟩ := h.front c
      have i := figs_val hb n r hl' h'
      have p : 0 < val b r := by
        match r, c, nz with
        | x :: t, _, nz => exact val_pos t x (nz x rfl) hb
      rw [val_snoc, figs_push hb hd p, i]
theorem Reads.of0 {b : Nat} (hb : 2 ≤ b) : Reads b [0] := ⟨by simp, fun d hd => by cases List.mem_singleton.mp hd; omega, fun _ _ _ => rfl⟩
theorem Reads.put {b f : Nat} {fs : List Nat} (h : Reads b fs) (hf : f < b) : Reads b (putFs fs f) := by
  unfold putFs
  by_cases c : fs = [0]
  · rw [if_pos c]
    exact ⟨by simp, fun d hd => by cases List.mem_singleton.mp hd; exact hf, fun _ _ _ => rfl⟩
  · rw [if_neg c]
    have l0 := List.length_pos_iff.mpr h.ne
    refine ⟨by simp, fun d hd => ?_, fun d hd z => ?_⟩
    · rcases List.mem_append.mp hd with x | x
      · exact h.below d x
      · cases List.mem_singleton.mp x
        exact hf
    · rw [List.getElem?_append_left l0] at hd
      have l1 := h.head d hd z
      obtain ⟨x, rfl⟩ := List.length_eq_one_iff.mp l1
      cases hd
      exact absurd (by rw [z]) c
theorem val_put {b f : Nat} {fs : List Nat} : val b (putFs fs f) = val b fs * b + f := by
  unfold putFs
  by_cases c : fs = [0]
  · rw [if_pos c, c, List.nil_append, val_one, val_one]
    omega
  · rw [if_neg c, val_snoc]
theorem stp_put {p f : Nat} {fs : List Nat} (hp : 1 ≤ p) : ((putFs fs f).map (· ^ p)).sum = (fs.map (· ^ p)).sum + f ^ p := by
  unfold putFs
  by_cases c : fs = [0]
  · rw [if_pos c, c]
    show f ^ p + 0 = (0 ^ p + 0) + f ^ p
    rw [zero_pow' hp]
    omega
  · rw [if_neg c, List.map_append, List.sum_append]
    show _ + (f ^ p + 0) = _
    omega
theorem off_put {f : Nat} {fs : List Nat} (h : fs ≠ []) : offFs (putFs fs f) = fs := by
  unfold putFs offFs
  by_cases c : fs = [0]
  · rw [if_pos c, c]
    rfl
  · rw [if_neg c, List.length_append]
    have := List.length_pos_iff.mpr h
    rw [if_neg (by show ¬ (fs.length + 1 = 1); omega), List.dropLast_concat]
theorem putFs_len {f : Nat} {fs : List Nat} : (putFs fs f).length ≤ fs.length + 1 := by
  unfold putFs
  by_cases c : fs = [0]
  · rw [if_pos c]
    show 1 ≤ _
    omega
  · rw [if_neg c, List.length_append]
    exact Nat.le_refl _
theorem Reads.off {b : Nat} {fs : List Nat} (hb : 2 ≤ b) (h : Reads b fs) : Reads b (offFs fs) := by
  unfold offFs
  by_cases c : fs.length = 1
  · rw [if_pos c]
    exact Reads.of0 hb
  · rw [if_neg c]
    have l0 := List.length_pos_iff.mpr h.ne
    refine ⟨fun z => ?_, fun d hd => h.below d (List.dropLast_subset _ hd), fun d hd z => ?_⟩
    · have z2 := congrArg List.length z
      rw [List.length_dropLast] at z2
      simp at z2
      omega
    · rw [List.getElem?_dropLast] at hd
      split at hd
      · exact absurd (h.head d hd z) c
      · cases hd
theorem Reads.set {b i f : Nat} {fs : List Nat} (h : Reads b fs) (hf : f < b) (hz : f = 0 → i = 0 → fs.length = 1) : Reads b (fs.set i f) := by
  refine ⟨fun z => h.ne ?_, fun d hd => ?_, fun d hd z => ?_⟩
  · have := congrArg List.length z
    rw [List.length_set] at this
    exact List.length_eq_zero_iff.mp this
  · rcases List.mem_or_eq_of_mem_set hd with z | z
    · exact h.below d z
    · rw [z]; exact hf
  · rw [List.length_set]
    rw [List.getElem?_set] at hd
    split at hd
    · rename_i i0
      split at hd
      · cases hd
        exact hz z i0
      · cases hd
    · exact h.head d hd z
theorem offFs_len (fs : List Nat) (h : fs ≠ []) : (offFs fs).length ≤ fs.length ∧ (fs.length = 1 → (offFs fs).length = 1) := by
  unfold offFs
  have := List.length_pos_iff.mpr h
  by_cases c : fs.length = 1
  · rw [if_pos c]
    exact ⟨by show 1 ≤ _; omega, fun _ => rfl⟩
  · rw [if_neg c, List.length_dropLast]
    exact ⟨by omega, fun z => absurd z c⟩
/-- figures put one by one make the row -/
theorem put_take {b k x : Nat} {fs : List Nat} (h : Reads b fs) (hk : fs[k]? = some x) (hk0 : 0 < k) : putFs (fs.take k) x = fs.take (k + 1) := by
  unfold putFs
  have c : fs.take k ≠ [0] := fun z => by
    have l := (List.getElem?_eq_some_iff.mp hk).1
    have z1 := congrArg List.length z
    rw [List.length_take] at z1
    have : ([0] : List Nat).length = 1 := rfl
    obtain rfl : k = 1 := by omega
    have z0 : fs[0]? = some 0 := by
      have := congrArg (fun l => l[0]?) z
      rw [List.getElem?_take] at this
      simpa using this
    have := h.head 0 z0 rfl
    omega
  rw [if_neg c, List.take_add_one, hk]
  rfl
theorem put_first {x : Nat} : putFs [0] x = [x] := by
  unfold putFs
  rw [if_pos rfl]
  rfl
/-- what was put, one by one -/
structure Puts (b : Nat) (F : Nat → List Nat) (i : Nat) : Prop where
  zero : F 0 = [0]
  succ : ∀ k, k < i → ∃ f, f < b ∧ F (k + 1) = putFs (F k) f
theorem Puts.len {b i : Nat} {F : Nat → List Nat} (h : Puts b F i) : ∀ k, k ≤ i → (F k).length ≤ max 1 k
  | 0, _ => by
    rw [h.zero]
    exact Nat.le_refl _
  | k + 1, hk => by
    obtain ⟨f, hf, e⟩ := h.succ k (by omega)
    have i1 := Puts.len h k (by omega)
    by_cases c : k = 0
    · subst c
      rw [e, h.zero]
      show 1 ≤ _
      omega
    · have := putFs_len (f := f) (fs := F k)
      rw [e]
      omega
theorem Puts.reads {b i : Nat} {F : Nat → List Nat} (hb : 2 ≤ b) (h : Puts b F i) : ∀ k, k ≤ i → Reads b (F k)
  | 0, _ => by
    rw [h.zero]
    exact Reads.of0 hb
  | k + 1, hk => by
    obtain ⟨f, hf, e⟩ := h.succ k (by omega)
    rw [e]
    exact (Puts.reads hb h k (by omega)).put hf
theorem Puts.more {b i f : Nat} {F : Nat → List Nat} (h : Puts b F i) (hf : f < b) : Puts b (fun k => if k ≤ i then F k else putFs (F i) f) (i + 1) := by
  refine ⟨?_, fun k hk => ?_⟩
  · show (if 0 ≤ i then F 0 else _) = _
    rw [if_pos (by omega)]
    exact h.zero
  · by_cases c : k = i
    · subst c
      refine ⟨f, hf, ?_⟩
      show (if k + 1 ≤ k then _ else putFs (F k) f) = putFs (if k ≤ k then F k else _) f
      rw [if_neg (by omega), if_pos (by omega)]
    · obtain ⟨g, hg, e⟩ := h.succ k (by omega)
      refine ⟨g, hg, ?_⟩
      show (if k + 1 ≤ i then F (k + 1) else _) = putFs (if k ≤ i then F k else _) g
      rw [if_pos (by omega), if_pos (by omega)]
      exact e
/-- what was, number and step, row by row -/
def RowsAt (b pw : Nat) (F : Nat → List Nat) (H : Hp) (vs : List V) : Prop := ∀ k v, vs[k]? = some v → ∃ t, v = .ref t ∧ H t = some (.tup (ivs [val b (F k), ((F k).map (· ^ pw)).sum]))
theorem RowsAt.nil {b pw : Nat} {F : Nat → List Nat} {H : Hp} : RowsAt b pw F H [] := fun k v h => by simp at h
theorem RowsAt.mono {b pw : Nat} {F : Nat → List Nat} {H H' : Hp} {vs : List V} (h : RowsAt b pw F H vs) (k : ∀ t xs, H t = some (.tup xs) → H' t = some (.tup xs)) : RowsAt b pw F H' vs := fun i v e => by
  obtain ⟨t, x, y⟩ := h i v e
  exact ⟨t, x, k _ _ y⟩
theorem RowsAt.push {b pw : Nat} {F : Nat → List Nat} {H : Hp} {vs : List V} {t : Addr} (h : RowsAt b pw F H vs) (e : H t = some (.tup (ivs [val b (F vs.length), ((F vs.length).map (· ^ pw)).sum]))) : RowsAt b pw F H (vs ++ [.ref t]) := fun i v x => by
  by_cases c : i < vs.length
  · rw [List.getElem?_append_left c] at x
    exact h i v x
  · have z := (List.getElem?_eq_some_iff.mp x).1
    rw [List.length_append] at z
    have : [V.ref t].length = 1 := rfl
    obtain rfl : i = vs.length := by omega
    rw [List.getElem?_append_right (Nat.le_refl _), Nat.sub_self] at x
    cases x
    exact ⟨t, rfl, e⟩
theorem RowsAt.take {b pw n : Nat} {F : Nat → List Nat} {H : Hp} {vs : List V} (h : RowsAt b pw F H vs) : RowsAt b pw F H (vs.take n) := fun i v x => by
  rw [List.getElem?_take] at x
  split at x
  · exact h i v x
  · cases x
theorem RowsAt.dp {K : PySem.W.Frag} {b pw : Nat} {H : Hp} : ∀ {vs : List V} {F : Nat → List Nat}, RowsAt b pw F H vs → ∃ ds, DpAll K H vs ds ∧ ds.length = vs.length ∧ PyData.canLayAll0 ds = true ∧ PyData.depthAll ds ≤ 2
  | [], F, _ => ⟨[], .nil, rfl, rfl, by unfold PyData.depthAll; decide⟩
  | v :: vs, F, h => by
    obtain ⟨t, rfl, e⟩ := h 0 v rfl
    obtain ⟨ds, d1, d2, d3, d4⟩ := RowsAt.dp (K := K) (vs := vs) (F := fun k => F (k + 1)) fun i v x => h (i + 1) v x
    refine ⟨.tuple (dInts ([val b (F 0), ((F 0).map (· ^ pw)).sum].map fun (k : Nat) => (k : Int))) :: ds, .cons (.tup (.of e) (dpAll_ivs _)) d1, by rw [List.length_cons, List.length_cons, d2], ?_, ?_⟩
    · rw [PyData.canLayAll0, d3, PyData.canLay0, canLay_ints]
      rfl
    · have := depth_ints ([val b (F 0), ((F 0).map (· ^ pw)).sum].map fun (k : Nat) => (k : Int))
      unfold PyData.depthAll PyData.depth
      omega
theorem eqv_none (ds : List PyData) : PyData.eqv (.list ds) (.list []) = decide (ds.length = 0) := by
  cases ds with
  | nil =>
    rw [PyData.eqv, PyData.eqvAll]
    rfl
  | cons a r =>
    rw [PyData.eqv, PyData.eqvAll]
    exact (decide_eq_false (by rw [List.length_cons]; omega)).symm
    all_goals simp
theorem end_zero {b p : Nat} (ok : OkN b p) : EndAt b p 0 0 0 := ⟨⟨1, by decide, stepN_zero ok.hb ok.hp1⟩, fun j hj => by omega, ⟨0, Nat.le_refl _, rfl⟩, fun i _ => Nat.zero_le _⟩
theorem val_rep {b f k : Nat} : val b (List.replicate (k + 1) f) = val b (List.replicate k f) * b + f := by
  rw [List.replicate_succ', val_snoc]
theorem set_rep {fs : List Nat} {i x : Nat} (hi : i < fs.length) : (fs.take (fs.length - i) ++ List.replicate i x).set (fs.length - 1 - i) x = fs.take (fs.length - (i + 1)) ++ List.replicate (i + 1) x := by
  have e : fs.length - i = fs.length - 1 - i + 1 := by omega
  have e2 : fs.length - (i + 1) = fs.length - 1 - i := by omega
  rw [e, e2, List.take_add_one, List.getElem?_eq_getElem (show fs.length - 1 - i < fs.length by omega)]
  have l : (fs.take (fs.length - 1 - i)).length = fs.length - 1 - i := by
    rw [List.length_take]
    omega
  show (fs.take (fs.length - 1 - i) ++ [_] ++ List.replicate i x).set (fs.length - 1 - i) x = _
  rw [List.append_assoc, List.set_append_right _ _ (by omega), l, Nat.sub_self]
  rfl
theorem sum_rep (x : Nat) : ∀ k : Nat, (List.replicate k x).sum = k * x
  | 0 => by simp
  | k + 1 => by
    rw [List.replicate_succ, List.sum_cons, sum_rep x k, Nat.succ_mul]
    omega
end Fx

namespace Fx
open PySem PySem.Spec PyProof.Rows L2
def topS (i : Nat) : Stmt := PySem.Challenge.pw_figurerounds_k33_whole_kept_as_afresh.main.body.getD i (.Pass ⟨0, 0, 0, 0⟩)
abbrev s_read_number : Stmt := topS 8
theorem sc_read_number : FnScope ["text", "base", "number", "place", "sign", "figure"] ["text", "base"] (defScope s_read_number) := ⟨rfl, rfl, rfl, by decide +kernel, rfl, by decide +kernel, by decide +kernel⟩
abbrev s_figures_of : Stmt := topS 10
theorem sc_figures_of : FnScope ["number", "base", "figures", "rest"] ["number", "base"] (defScope s_figures_of) := ⟨rfl, rfl, rfl, by decide +kernel, rfl, by decide +kernel, by decide +kernel⟩
abbrev s_number_shown : Stmt := topS 9
theorem sc_number_shown : FnScope ["number", "base", "figure"] ["number", "base"] (defScope s_number_shown) := ⟨rfl, rfl, rfl, by decide +kernel, rfl, by decide +kernel, by decide +kernel⟩
abbrev s_power_of : Stmt := topS 11
theorem sc_power_of : FnScope ["figure", "power", "worth", "_"] ["figure", "power"] (defScope s_power_of) := ⟨rfl, rfl, rfl, by decide +kernel, rfl, by decide +kernel, by decide +kernel⟩
abbrev s_step_of : Stmt := topS 12
theorem sc_step_of : FnScope ["number", "base", "power", "figure"] ["number", "base", "power"] (defScope s_step_of) := ⟨rfl, rfl, rfl, by decide +kernel, rfl, by decide +kernel, by decide +kernel⟩
abbrev s_worths_of : Stmt := topS 14
theorem sc_worths_of : FnScope ["base", "power", "figure"] ["base", "power"] (defScope s_worths_of) := ⟨rfl, rfl, rfl, by decide +kernel, rfl, by decide +kernel, by decide +kernel⟩
abbrev s_way_of : Stmt := topS 17
theorem sc_way_of : FnScope ["number", "base", "power", "places"] ["number", "base", "power"] (defScope s_way_of) := ⟨rfl, rfl, rfl, by decide +kernel, rfl, by decide +kernel, by decide +kernel⟩
abbrev s_end_of : Stmt := topS 16
theorem sc_end_of : FnScope ["number", "base", "power", "way", "away"] ["number", "base", "power"] (defScope s_end_of) := ⟨rfl, rfl, rfl, by decide +kernel, rfl, by decide +kernel, by decide +kernel⟩
abbrev s__law_mix : Stmt := topS 21
theorem sc__law_mix : FnScope ["cell", "k", "number"] ["cell", "k"] (defScope s__law_mix) := ⟨rfl, rfl, rfl, by decide +kernel, rfl, by decide +kernel, by decide +kernel⟩
abbrev s__law_deck : Stmt := topS 22
theorem sc__law_deck : FnScope ["script"] ["script"] (defScope s__law_deck) := ⟨rfl, rfl, rfl, by decide +kernel, rfl, by decide +kernel, by decide +kernel⟩
abbrev s__law_next : Stmt := topS 23
theorem sc__law_next : FnScope ["deck", "many", "cell", "found"] ["deck", "many"] (defScope s__law_next) := ⟨rfl, rfl, rfl, by decide +kernel, rfl, by decide +kernel, by decide +kernel⟩
abbrev s__law_pair : Stmt := topS 24
theorem sc__law_pair : FnScope ["deck", "base", "most"] ["deck"] (defScope s__law_pair) := ⟨rfl, rfl, rfl, by decide +kernel, rfl, by decide +kernel, by decide +kernel⟩
abbrev s_KeptNumber__number_now : Stmt := inClass (topS 19) 4
theorem sc_KeptNumber__number_now : FnScope ["self", "number", "figure"] ["self"] (defScope s_KeptNumber__number_now) := ⟨rfl, rfl, rfl, by decide +kernel, rfl, by decide +kernel, by decide +kernel⟩
abbrev s_KeptNumber__end_now : Stmt := inClass (topS 19) 6
theorem sc_KeptNumber__end_now : FnScope ["self"] ["self"] (defScope s_KeptNumber__end_now) := ⟨rfl, rfl, rfl, by decide +kernel, rfl, by decide +kernel, by decide +kernel⟩
abbrev s_KeptNumber__step_now : Stmt := inClass (topS 19) 5
theorem sc_KeptNumber__step_now : FnScope ["self", "figure"] ["self"] (defScope s_KeptNumber__step_now) := ⟨rfl, rfl, rfl, by decide +kernel, rfl, by decide +kernel, by decide +kernel⟩
abbrev s__law_told : Stmt := topS 25
theorem sc__law_told : FnScope ["kept", "end", "step"] ["kept"] (defScope s__law_told) := ⟨rfl, rfl, rfl, by decide +kernel, rfl, by decide +kernel, by decide +kernel⟩
abbrev s_KeptNumber__check_figure : Stmt := inClass (topS 19) 8
theorem sc_KeptNumber__check_figure : FnScope ["self", "figure"] ["self", "figure"] (defScope s_KeptNumber__check_figure) := ⟨rfl, rfl, rfl, by decide +kernel, rfl, by decide +kernel, by decide +kernel⟩
abbrev s_KeptNumber__set_figure : Stmt := inClass (topS 19) 3
theorem sc_KeptNumber__set_figure : FnScope ["self", "place", "figure", "many"] ["self", "place", "figure"] (defScope s_KeptNumber__set_figure) := ⟨rfl, rfl, rfl, by decide +kernel, rfl, by decide +kernel, by decide +kernel⟩
abbrev s_KeptNumber__put_figure : Stmt := inClass (topS 19) 1
theorem sc_KeptNumber__put_figure : FnScope ["self", "figure"] ["self", "figure"] (defScope s_KeptNumber__put_figure) := ⟨rfl, rfl, rfl, by decide +kernel, rfl, by decide +kernel, by decide +kernel⟩
abbrev s_KeptNumber__take_off : Stmt := inClass (topS 19) 2
theorem sc_KeptNumber__take_off : FnScope ["self"] ["self"] (defScope s_KeptNumber__take_off) := ⟨rfl, rfl, rfl, by decide +kernel, rfl, by decide +kernel, by decide +kernel⟩
abbrev s__law_deed : Stmt := topS 26
theorem sc__law_deed : FnScope ["deck", "kept", "figures", "base", "way", "figure", "place", "at"] ["deck", "kept", "figures", "base"] (defScope s__law_deed) := ⟨rfl, rfl, rfl, by decide +kernel, rfl, by decide +kernel, by decide +kernel⟩
abbrev s_KeptNumber__init : Stmt := inClass (topS 19) 0
theorem sc_KeptNumber__init : FnScope ["self", "base", "power"] ["self", "base", "power"] (defScope s_KeptNumber__init) := ⟨rfl, rfl, rfl, by decide +kernel, rfl, by decide +kernel, by decide +kernel⟩
abbrev s__law_afresh : Stmt := topS 27
theorem sc__law_afresh : FnScope ["base", "power", "figures", "other", "kept", "figure", "k"] ["base", "power", "figures", "other"] (defScope s__law_afresh) := ⟨rfl, rfl, rfl, by decide +kernel, rfl, by decide +kernel, by decide +kernel⟩
abbrev s__law_back_right : Stmt := topS 28
theorem sc__law_back_right : FnScope ["deck", "kept", "base", "ahead", "figures", "place"] ["deck", "kept", "base"] (defScope s__law_back_right) := ⟨rfl, rfl, rfl, by decide +kernel, rfl, by decide +kernel, by decide +kernel⟩
abbrev s_law : Stmt := topS 29
theorem sc_law : FnScope ["script", "deck", "base", "power", "kept", "figures", "turn", "number", "step", "end", "other"] ["script"] (defScope s_law) := ⟨rfl, rfl, rfl, by decide +kernel, rfl, by decide +kernel, by decide +kernel⟩
structure Txt (K : PySem.W.Frag) (mg : Str → Option Value) where
  k_KeptNumber : Addr
  gk_KeptNumber : mg "KeptNumber" = some (.ref k_KeptNumber)
  cl_KeptNumber : Cls K k_KeptNumber
  na_KeptNumber_base : NoAttr K k_KeptNumber "base"
  na_KeptNumber_power : NoAttr K k_KeptNumber "power"
  na_KeptNumber_worths : NoAttr K k_KeptNumber "worths"
  na_KeptNumber_figures : NoAttr K k_KeptNumber "figures"
  f_read_number : Addr
  fd_read_number : FuncData
  F_read_number : Fun K "read_number" "read_number" s_read_number f_read_number fd_read_number
  g_read_number : mg "read_number" = some (.ref f_read_number)
  b_read_number : Binds K fd_read_number ["text", "base"] []
  f_figures_of : Addr
  fd_figures_of : FuncData
  F_figures_of : Fun K "figures_of" "figures_of" s_figures_of f_figures_of fd_figures_of
  g_figures_of : mg "figures_of" = some (.ref f_figures_of)
  b_figures_of : Binds K fd_figures_of ["number", "base"] []
  f_number_shown : Addr
  fd_number_shown : FuncData
  F_number_shown : Fun K "number_shown" "number_shown" s_number_shown f_number_shown fd_number_shown
  g_number_shown : mg "number_shown" = some (.ref f_number_shown)
  b_number_shown : Binds K fd_number_shown ["number", "base"] []
  f_power_of : Addr
  fd_power_of : FuncData
  F_power_of : Fun K "power_of" "power_of" s_power_of f_power_of fd_power_of
  g_power_of : mg "power_of" = some (.ref f_power_of)
  b_power_of : Binds K fd_power_of ["figure", "power"] []
  f_step_of : Addr
  fd_step_of : FuncData
  F_step_of : Fun K "step_of" "step_of" s_step_of f_step_of fd_step_of
  g_step_of : mg "step_of" = some (.ref f_step_of)
  b_step_of : Binds K fd_step_of ["number", "base", "power"] []
  f_worths_of : Addr
  fd_worths_of : FuncData
  F_worths_of : Fun K "worths_of" "worths_of" s_worths_of f_worths_of fd_worths_of
  g_worths_of : mg "worths_of" = some (.ref f_worths_of)
  b_worths_of : Binds K fd_worths_of ["base", "power"] []
  f_way_of : Addr
  fd_way_of : FuncData
  F_way_of : Fun K "way_of" "way_of" s_way_of f_way_of fd_way_of
  g_way_of : mg "way_of" = some (.ref f_way_of)
  b_way_of : Binds K fd_way_of ["number", "base", "power"] []
  f_end_of : Addr
  fd_end_of : FuncData
  F_end_of : Fun K "end_of" "end_of" s_end_of f_end_of fd_end_of
  g_end_of : mg "end_of" = some (.ref f_end_of)
  b_end_of : Binds K fd_end_of ["number", "base", "power"] []
  f__law_mix : Addr
  fd__law_mix : FuncData
  F__law_mix : Fun K "_law_mix" "_law_mix" s__law_mix f__law_mix fd__law_mix
  g__law_mix : mg "_law_mix" = some (.ref f__law_mix)
  b__law_mix : Binds K fd__law_mix ["cell", "k"] []
  f__law_deck : Addr
  fd__law_deck : FuncData
  F__law_deck : Fun K "_law_deck" "_law_deck" s__law_deck f__law_deck fd__law_deck
  g__law_deck : mg "_law_deck" = some (.ref f__law_deck)
  b__law_deck : Binds K fd__law_deck ["script"] []
  f__law_next : Addr
  fd__law_next : FuncData
  F__law_next : Fun K "_law_next" "_law_next" s__law_next f__law_next fd__law_next
  g__law_next : mg "_law_next" = some (.ref f__law_next)
  b__law_next : Binds K fd__law_next ["deck", "many"] []
  f__law_pair : Addr
  fd__law_pair : FuncData
  F__law_pair : Fun K "_law_pair" "_law_pair" s__law_pair f__law_pair fd__law_pair
  g__law_pair : mg "_law_pair" = some (.ref f__law_pair)
  b__law_pair : Binds K fd__law_pair ["deck"] []
  f_KeptNumber__number_now : Addr
  fd_KeptNumber__number_now : FuncData
  F_KeptNumber__number_now : Fun K "number_now" "KeptNumber.number_now" s_KeptNumber__number_now f_KeptNumber__number_now fd_KeptNumber__number_now
  b_KeptNumber__number_now : Binds K fd_KeptNumber__number_now ["self"] []
  me_KeptNumber__number_now : Meth K k_KeptNumber "number_now" f_KeptNumber__number_now
  f_KeptNumber__end_now : Addr
  fd_KeptNumber__end_now : FuncData
  F_KeptNumber__end_now : Fun K "end_now" "KeptNumber.end_now" s_KeptNumber__end_now f_KeptNumber__end_now fd_KeptNumber__end_now
  b_KeptNumber__end_now : Binds K fd_KeptNumber__end_now ["self"] []
  me_KeptNumber__end_now : Meth K k_KeptNumber "end_now" f_KeptNumber__end_now
  f_KeptNumber__step_now : Addr
  fd_KeptNumber__step_now : FuncData
  F_KeptNumber__step_now : Fun K "step_now" "KeptNumber.step_now" s_KeptNumber__step_now f_KeptNumber__step_now fd_KeptNumber__step_now
  b_KeptNumber__step_now : Binds K fd_KeptNumber__step_now ["self"] []
  me_KeptNumber__step_now : Meth K k_KeptNumber "step_now" f_KeptNumber__step_now
  f__law_told : Addr
  fd__law_told : FuncData
  F__law_told : Fun K "_law_told" "_law_told" s__law_told f__law_told fd__law_told
  g__law_told : mg "_law_told" = some (.ref f__law_told)
  b__law_told : Binds K fd__law_told ["kept"] []
  f_KeptNumber__check_figure : Addr
  fd_KeptNumber__check_figure : FuncData
  F_KeptNumber__check_figure : Fun K "check_figure" "KeptNumber.check_figure" s_KeptNumber__check_figure f_KeptNumber__check_figure fd_KeptNumber__check_figure
  b_KeptNumber__check_figure : Binds K fd_KeptNumber__check_figure ["self", "figure"] []
  me_KeptNumber__check_figure : Meth K k_KeptNumber "check_figure" f_KeptNumber__check_figure
  f_KeptNumber__set_figure : Addr
  fd_KeptNumber__set_figure : FuncData
  F_KeptNumber__set_figure : Fun K "set_figure" "KeptNumber.set_figure" s_KeptNumber__set_figure f_KeptNumber__set_figure fd_KeptNumber__set_figure
  b_KeptNumber__set_figure : Binds K fd_KeptNumber__set_figure ["self", "place", "figure"] []
  me_KeptNumber__set_figure : Meth K k_KeptNumber "set_figure" f_KeptNumber__set_figure
  f_KeptNumber__put_figure : Addr
  fd_KeptNumber__put_figure : FuncData
  F_KeptNumber__put_figure : Fun K "put_figure" "KeptNumber.put_figure" s_KeptNumber__put_figure f_KeptNumber__put_figure fd_KeptNumber__put_figure
  b_KeptNumber__put_figure : Binds K fd_KeptNumber__put_figure ["self", "figure"] []
  me_KeptNumber__put_figure : Meth K k_KeptNumber "put_figure" f_KeptNumber__put_figure
  f_KeptNumber__take_off : Addr
  fd_KeptNumber__take_off : FuncData
  F_KeptNumber__take_off : Fun K "take_off" "KeptNumber.take_off" s_KeptNumber__take_off f_KeptNumber__take_off fd_KeptNumber__take_off
  b_KeptNumber__take_off : Binds K fd_KeptNumber__take_off ["self"] []
  me_KeptNumber__take_off : Meth K k_KeptNumber "take_off" f_KeptNumber__take_off
  f__law_deed : Addr
  fd__law_deed : FuncData
  F__law_deed : Fun K "_law_deed" "_law_deed" s__law_deed f__law_deed fd__law_deed
  g__law_deed : mg "_law_deed" = some (.ref f__law_deed)
  b__law_deed : Binds K fd__law_deed ["deck", "kept", "figures", "base"] []
  f_KeptNumber__init : Addr
  fd_KeptNumber__init : FuncData
  F_KeptNumber__init : Fun K "__init__" "KeptNumber.__init__" s_KeptNumber__init f_KeptNumber__init fd_KeptNumber__init
  b_KeptNumber__init : Binds K fd_KeptNumber__init ["self", "base", "power"] []
  M_KeptNumber : Mk K k_KeptNumber f_KeptNumber__init
  f__law_afresh : Addr
  fd__law_afresh : FuncData
  F__law_afresh : Fun K "_law_afresh" "_law_afresh" s__law_afresh f__law_afresh fd__law_afresh
  g__law_afresh : mg "_law_afresh" = some (.ref f__law_afresh)
  b__law_afresh : Binds K fd__law_afresh ["base", "power", "figures", "other"] []
  f__law_back_right : Addr
  fd__law_back_right : FuncData
  F__law_back_right : Fun K "_law_back_right" "_law_back_right" s__law_back_right f__law_back_right fd__law_back_right
  g__law_back_right : mg "_law_back_right" = some (.ref f__law_back_right)
  b__law_back_right : Binds K fd__law_back_right ["deck", "kept", "base"] []
  f_law : Addr
  fd_law : FuncData
  F_law : Fun K "law" "law" s_law f_law fd_law
  g_law : mg "law" = some (.ref f_law)
  b_law : Binds K fd_law ["script"] []
  m_enumerate : mg "enumerate" = none
  m_int : mg "int" = none
  m_len : mg "len" = none
  m_list : mg "list" = none
  m_max : mg "max" = none
  m_min : mg "min" = none
  m_range : mg "range" = none
  m_sum : mg "sum" = none
  m_tuple : mg "tuple" = none
  t_FIGURES : Tok
  c_FIGURES : mg "FIGURES" = some (.str "0123456789abcdef" t_FIGURES)
section
variable {P : Program} {w : World} {K : PySem.W.Frag} {mg : Str → Option Value} {base : Heap}
/-! ### read_number -/
def sp_read_number (K : PySem.W.Frag) : Sp := fun vs H Q _ => ∃ (ds : List Nat) (b : Nat), vs = [.str (txt ds), .int (b : Int)] ∧ 2 ≤ b ∧ b ≤ 16 ∧ Reads b ds ∧ ds.length ≤ 900 ∧ ∀ H', Same H H' → Q (.int (val b ds : Nat)) H'
theorem txt_ne {ds : List Nat} (h : ds ≠ []) : txt ds ≠ ("" : Str) := fun e => by
  have e1 := congrArg (fun x : Str => x.cps.toList.length) e
  have e2 : ("" : Str).cps.toList.length = 0 := by decide +kernel
  simp only [tl_txt, List.length_map, e2] at e1
  exact h (List.length_eq_zero_iff.mp e1)
theorem one_nought {d : Nat} (h : d < 16) (e : V.str (one (sg d)) = V.str ("0" : Str)) : d = 0 := by
  have e0 : ("0" : Str) = one (sg 0) := by decide +kernel
  rw [e0] at e
  injection e with e
  injection e with e
  have e1 := congrArg Array.toList e
  injection e1 with e1 _
  exact sg_inj h (by decide) e1
theorem ok_read_number (T : Txt K mg) : FnOk P w K mg base CX0 1 T.f_read_number T.fd_read_number ["text", "base"] (sp_read_number K) := by
  refine T.F_read_number.ok sc_read_number (fun vs H Q E h => ?_) (fun cdv A outer s H vs Q E hr h => ?_)
  · obtain ⟨_, _, rfl, _⟩ := h
    rfl
  · obtain ⟨ds, b, rfl, hb, hb16, hr, hl, q⟩ := h
    obtain ⟨d0, h0⟩ : ∃ d0, ds[0]? = some d0 := by
      cases ds with
      | nil => exact absurd rfl hr.ne
      | cons x r => exact ⟨x, rfl⟩
    have zl : (txt ds).length ≤ sizeLine := by
      rw [txt_len]
      exact Nat.le_of_lt (small1000 (by omega))
    have d0b := hr.below d0 (List.mem_of_getElem? h0)
    refine ⟨_, (C8.pss_cut (ps_if (PW.pt (pw_or (pt_cmpR op_eq (pv 0) pe_str (nomark _)) (pw_or1 (PW.pt (pw_and (pt_cmpR op_eq (pe_ix ix_str (pv 0) pe_int (fun _ _ => rfl)) pe_str (nomark _)) (pw_and1 (pt_cmpR op_gt (pe_callB (id := "len") call_len_str (by rfl) T.m_len (by decide +kernel) (pa_cons (pv 0) pa_nil)) pe_int (nomark _)))))))) (pss_one ps_never) pss_nil)
      (pss_cons (ps_set (i := 2) sc_read_number.nd rfl (Or.inl rfl) pe_int)
      (pss_cons (ps_for PassesOwn.never rfl (pi_enumS (by rfl) T.m_enumerate (pa_cons (pv 0) pa_nil)) (pg_tup rfl (pgs_cons (pg_name (i := 3) sc_read_number.nd rfl (Or.inl rfl)) (pgs_cons (pg_name (i := 4) sc_read_number.nd rfl (Or.inl rfl)) pgs_nil))) (pss_cons (ps_set (i := 5) sc_read_number.nd rfl (Or.inl rfl) (pe_m1 PySem.F.slot_str_find PySem.F.type_str_find mt_find (pe_glob (v := .str "0123456789abcdef") (by rfl) T.c_FIGURES ⟨_, rfl⟩) (pv 4)))
      (pss_cons (ps_if (PW.pt (pw_or (pt_cmpR op_lt (pv 5) pe_int (nomark _)) (pw_or1 (pt_cmpR op_ge (pv 5) (pv 1) (nomark _))))) (pss_one ps_never) pss_nil)
      (pss_one (ps_set (i := 2) sc_read_number.nd rfl (Or.inl rfl) (pe_op op_add (pe_op op_mul (pv 2) (pv 1)) (pv 5)))))))
      (pss_one (ps_ret (pv 2)))))), ?_⟩
    refine ⟨fun σ' H' => H' = H ∧ σ' = [some (.str (txt ds)), some (.int (b : Int)), none, none, none, none], ?_, ?_⟩
    · refine ⟨_, rfl, rfl, _, rfl, ?_⟩
      rw [decide_eq_false (fun z => txt_ne hr.ne (V.str.inj z))]
      refine iteF ?_
      refine ⟨_, rfl, _, 0, _, rfl, rfl, zl, txt_atI h0, rfl, _, rfl, ite2 (fun e => ?_) (fun e => ?_)⟩
      · have e1 := one_nought (by omega) (of_decide_eq_true e)
        have e2 := hr.head d0 h0 e1
        refine ⟨_, rfl, _, rfl, zl, _, _, rfl, rfl, _, rfl, ?_⟩
        rw [txt_len, e2]
        exact ⟨rfl, rfl⟩
      · exact ⟨rfl, rfl⟩
    · rintro σ' H' ⟨rfl, rfl⟩
      refine ⟨_, rfl, _, rfl, for_it walk_enumS (fun i σ' H1 => Same H' H1 ∧ ∃ y3 y4 y5, σ' = [some (.str (txt ds)), some (.int (b : Int)), some (.int (val b (ds.take i) : Nat)), y3, y4, y5]) ⟨Same.refl _, _, _, _, rfl⟩ (fun _ _ _ _ _ => trivial) ?_ ?_⟩
      · rintro i x σ' H1 H2 hi ⟨s1, y3, y4, y5, rfl⟩ ⟨t, c, rfl, ht, hc, rfl⟩
        have hi' : i < ds.length := by
          have z := txt_len ds
          unfold Str.length at z
          omega
        have hd : ds[i]? = some ds[i] := List.getElem?_eq_getElem hi'
        rw [txt_at hd] at hc
        cases hc
        have db := hr.below _ (List.mem_of_getElem? hd)
        refine ⟨t, _, rfl, .of upd_same, rfl, _, _, rfl, _, _, rfl, rfl, ?_⟩
        refine ⟨⟨_, rfl⟩, _, rfl, FIG, _, rfl, rfl, ?_⟩
        rw [fig_find (by omega)]
        refine ⟨_, rfl, _, _, rfl, rfl, _, rfl, ?_⟩
        rw [decide_eq_false (by omega)]
        refine iteF ?_
        refine ⟨_, rfl, _, rfl, _, _, rfl, rfl, _, rfl, ?_⟩
        rw [decide_eq_false (by omega)]
        refine iteF ?_
        refine ⟨_, rfl, _, rfl, _, _, rfl, rfl, .inr (by omega), _, rfl, _, _, rfl, rfl, s1.trans (Same.new ht), some (.int (i : Nat)), some (.str (one (sg ds[i]))), some (.int (ds[i] : Nat)), ?_⟩
        rw [val_take hd]
        rfl
      · rintro σ' H1 ⟨s1, y3, y4, y5, rfl⟩
        have z := txt_len ds
        unfold Str.length at z
        rw [z, List.take_length]
        exact ⟨_, rfl, q _ s1⟩

/-! ### figures_of -/
def sp_figures_of (K : PySem.W.Frag) : Sp := fun vs H Q _ => ∃ n b : Nat, vs = [.int (n : Int), .int (b : Int)] ∧ 2 ≤ b ∧ b ≤ 16 ∧ n < 2 ^ 900 ∧ ∀ H' p, Same H H' → H p = none → H' p = some (.tup (ivs (figs b n))) → Q (.ref p) H'
def W_figures_of (n b : Nat) (H : Hp) (fl : Addr) (m : Nat) (σ' : L2.St) (H' : Hp) : Prop := ∃ pre : List Nat, σ' = [some (.int (n : Int)), some (.int (b : Int)), some (.ref fl), some (.int (m : Int))] ∧ Same H H' ∧ H' fl = some (.lst (ivs pre)) ∧ pre ++ (if m = 0 then [] else lsd b m) = lsd b n
theorem W_figures_of.len {n b : Nat} {pre : List Nat} {r : Nat} (hb : 2 ≤ b) (hn : n < 2 ^ 900) (h : pre ++ (if r = 0 then [] else lsd b r) = lsd b n) : pre.length ≤ 900 := by
  have h1 := congrArg List.length h
  rw [List.length_append] at h1
  have h2 := lsd_len_le hb 899 n hn
  omega
theorem ok_figures_of (T : Txt K mg) : FnOk P w K mg base CX0 1 T.f_figures_of T.fd_figures_of ["number", "base"] (sp_figures_of K) := by
  refine T.F_figures_of.ok sc_figures_of (fun vs H Q E h => ?_) (fun cdv A outer s H vs Q E hr h => ?_)
  · obtain ⟨_, _, rfl, _⟩ := h
    rfl
  · obtain ⟨n, b, rfl, hb, hb16, hn, q⟩ := h
    have wd : ∀ x : Int, CDivW x (b : Int) := fun x => divW 60 (by omega) (by omega)
    refine ⟨_, (pss_cons (ps_set (i := 2) sc_figures_of.nd rfl (Or.inl rfl) (pe_lst (pa_cons (pe_op op_mod (pv 0) (pv 1)) pa_nil)))
      (pss_cons (ps_set (i := 3) sc_figures_of.nd rfl (Or.inl rfl) (pe_op op_fdivW (pv 0) (pv 1)))
      (pss_cons (ps_while PassesOwn.never (pt_cmpR op_gt (pv 3) pe_int (nomark _)) (pss_cons (ps_expr (pe_bm PySem.F.plainAttrs_list PySem.F.slot_list_append PySem.F.type_list_append mt_append (pv 2) (pa_cons (pe_op op_mod (pv 3) (pv 1)) pa_nil)))
      (pss_one (ps_set (i := 3) sc_figures_of.nd rfl (Or.inl rfl) (pe_op op_fdivW (pv 3) (pv 1))))))
      (pss_one (ps_ret (pe_callTy (T := "tuple") call_tuple_of (by rfl) T.m_tuple (by decide +kernel) (pa_cons (pe_revL (pv 2)) pa_nil))))))), ?_⟩
    refine ⟨_, rfl, _, rfl, _, _, rfl, rfl, by walk_at "p", by show 1 ≤ sizeLine; decide, fun fl hfl => ?_⟩
    generalize g1 : upd H fl _ = H1
    obtain ⟨s1, t1⟩ := new_of g1 hfl
    refine ⟨_, rfl, _, rfl, _, _, rfl, rfl, wd _, ?_⟩
    refine ⟨W_figures_of n b H fl, ⟨n / b, [n % b], rfl, s1, t1, (lsd_split hb).symm⟩, ?_⟩
    rintro r σ' H2 ⟨pre, rfl, s2, t2, e⟩
    have lp := W_figures_of.len hb hn e
    refine ⟨_, rfl, _, _, rfl, rfl, _, rfl, ?_⟩
    by_cases h0 : r = 0
    · subst h0
      rw [if_pos rfl, List.append_nil] at e
      subst e
      refine iteF ?_
      refine ⟨_, rfl, fl, _, rfl, .of t2, fun p3 hp3 => ?_⟩
      generalize g3 : upd H2 p3 _ = H3
      obtain ⟨s3, t3⟩ := new_of g3 hp3
      refine ⟨p3, _, rfl, .inl ⟨.of t3, fun p4 hp4 => ?_⟩⟩
      rw [ivs_reverse]
      exact q _ p4 (s2.trans (s3.trans (Same.new hp4))) (s2.free (s3.free hp4)) upd_same
    · have hr : (0 : Int) < (r : Int) := by omega
      rw [decide_eq_true hr]
      refine iteT ⟨Nx (W_figures_of n b H fl) r, Nx.id, ?_⟩
      refine ⟨_, rfl, .inl ⟨rfl, _, .of t2⟩, _, rfl, _, rfl, _, _, rfl, rfl, by walk_at "p", fl, _, _, rfl, rfl, t2, small1000 (by rw [ivs_length]; omega), ?_⟩
      refine ⟨_, rfl, _, rfl, _, _, rfl, rfl, wd _, ?_⟩
      refine ⟨r / b, Nat.div_lt_self (by omega) (by omega), pre ++ [r % b], rfl, same_own s2 hfl, ?_, ?_⟩
      · rw [upd_same, ivs_append]
        rfl
      · rw [if_neg h0, lsd_split hb] at e
        rw [List.append_assoc]
        exact e

/-! ### number_shown -/
def sp_number_shown (K : PySem.W.Frag) : Sp := fun vs H Q _ => ∃ n b : Nat, vs = [.int (n : Int), .int (b : Int)] ∧ 2 ≤ b ∧ b ≤ 16 ∧ n < 2 ^ 900 ∧ ∀ H', Same H H' → Q (.str (txt (figs b n))) H'
theorem ok_number_shown (T : Txt K mg) : FnOk P w K mg base CX0 2 T.f_number_shown T.fd_number_shown ["number", "base"] (sp_number_shown K) := by
  refine T.F_number_shown.ok sc_number_shown (fun vs H Q E h => ?_) (fun cdv A outer s H vs Q E hr h => ?_)
  · obtain ⟨_, _, rfl, _⟩ := h
    rfl
  · obtain ⟨n, b, rfl, hb, hb16, hn, q⟩ := h
    have fl := figs_le hb hn
    refine ⟨_, (pss_one (ps_ret (pe_join pe_str (pe_lc (own := [("figure", 2)]) (g := (gName 2)) (tt := tYes) rfl sc_number_shown.nd (pi_tup (pe_call (ok_figures_of T) hr (by rfl) T.g_figures_of T.F_figures_of.kp T.b_figures_of .nil pass0 (pa_cons (pv 0) (pa_cons (pv 1) pa_nil)))) (blkOk_by (own := [("figure", 2)]) (N := ["number", "base", "figure"]) (sc := defScope s_number_shown) (by decide +kernel)) (fun _ _ _ _ _ => (pg_name (i := 2) sc_number_shown.nd rfl (Or.inl rfl))) (fun _ _ _ _ _ => pts_nil) (fun _ _ _ _ _ => (pe_ix ix_str (pe_glob (v := .str "0123456789abcdef") (by rfl) T.c_FIGURES ⟨_, rfl⟩) (pv 2) (fun _ _ => rfl))))))), ?_⟩
    refine ⟨⟨_, rfl⟩, ?_⟩
    refine ⟨_, rfl, _, rfl, n, b, rfl, hb, hb16, hn, fun H1 t s1 n1 e1 => ⟨t, rfl, ⟨_, .of e1⟩, fun D hD => ?_⟩⟩
    refine lc_tup (xs := ivs (figs b n)) (fun i H' => Same H1 H' ∧ H' D = some (.lst ((((figs b n).take i).map fun d => one (sg d)).map V.str))) ⟨Same.new hD, upd_same⟩ ?_ ?_ ?_
    · rintro i H' hi ⟨s2, e2⟩
      exact .of (s2 _ _ e1)
    · rintro i x H' hx ⟨s2, e2⟩
      obtain ⟨k, hk, rfl⟩ := ivs_get hx
      have kb := figs_below hb (List.mem_of_getElem? hk)
      have hi : i < (figs b n).length := (List.getElem?_eq_some_iff.mp hk).1
      refine ⟨rfl, _, rfl, _, _, _, rfl, rfl, fig_len, fig_at (by omega), ?_⟩
      refine ⟨_, e2, small1000 ?_, same_own s2 hD, ?_⟩
      · rw [List.length_map, List.length_map, List.length_take]
        omega
      · rw [upd_same, List.take_add_one, hk, List.map_append, List.map_append]
        rfl
    · rintro H' ⟨s2, e2⟩
      rw [ivs_length, List.take_length] at e2
      refine ⟨"", D, (figs b n).map fun d => one (sg d), rfl, rfl, .inl (.of e2), ?_, ?_⟩
      · have e : (((figs b n).map fun d => one (sg d)).map (·.length)).sum ≤ ((figs b n).map fun d => one (sg d)).length * 1 := by
          refine Nat.le_trans (sum_le_mul (m := 1) fun x hx => ?_) ?_
          · obtain ⟨y, hy, rfl⟩ := List.mem_map.mp hx
            obtain ⟨d, hd, rfl⟩ := List.mem_map.mp hy
            exact Nat.le_refl 1
          · rw [List.length_map]
            exact Nat.le_refl _
        have z : ("" : Str).length = 0 := by decide +kernel
        rw [List.length_map] at e ⊢
        rw [z]
        omega
      · have e3 : ((figs b n).map fun d => one (sg d)) = ((figs b n).map sg).map one := by rw [List.map_map]; rfl
        rw [e3, join_ones]
        exact q H' (s1.trans s2)

/-! ### power_of -/
def sp_power_of (K : PySem.W.Frag) : Sp := fun vs H Q _ => ∃ f p : Int, vs = [.int f, .int p] ∧ 0 ≤ p ∧ p < 2 ^ 62 ∧ -(2 ^ 64) < f ∧ f < 2 ^ 64 ∧ Q (.int (f ^ p.toNat)) H
theorem ok_power_of (T : Txt K mg) : FnOk P w K mg base CX0 1 T.f_power_of T.fd_power_of ["figure", "power"] (sp_power_of K) := by
  refine T.F_power_of.ok sc_power_of (fun vs H Q E h => ?_) (fun cdv A outer s H vs Q E hr h => ?_)
  · obtain ⟨_, _, rfl, _⟩ := h
    rfl
  · obtain ⟨f, p, rfl, h0, h1, h2, h3, q⟩ := h
    refine ⟨_, (pss_cons (ps_set (i := 2) sc_power_of.nd rfl (Or.inl rfl) pe_int)
      (pss_cons (ps_for PassesOwn.never rfl (pi_range1 (by rfl) T.m_range (pa_cons (pv 1) pa_nil)) (pg_name (i := 3) sc_power_of.nd rfl (Or.inl rfl)) (pss_one (ps_set (i := 2) sc_power_of.nd rfl (Or.inl rfl) (pe_op op_mul (pv 2) (pv 0)))))
      (pss_one (ps_ret (pv 2))))), ?_⟩
    refine ⟨_, rfl, _, rfl, by omega, by omega, for_range (lo := 0) (n := p.toNat) (fun i σ' H' => H' = H ∧ ∃ y, σ' = [some (.int f), some (.int p), some (.int (f ^ i)), y]) ⟨rfl, none, by rw [Int.pow_zero]; rfl⟩ ?_ ?_⟩
    · rintro i σ' H' hi ⟨rfl, y, rfl⟩
      refine ⟨_, rfl, _, rfl, _, _, rfl, rfl, .inr ⟨h2, h3⟩, rfl, some (.int (0 + i)), ?_⟩
      rw [Int.pow_succ]
      rfl
    · rintro σ' H' ⟨rfl, y, rfl⟩
      exact ⟨_, rfl, q⟩

/-! ### step_of -/
def sp_step_of (K : PySem.W.Frag) : Sp := fun vs H Q _ => ∃ n b p : Nat, vs = [.int (n : Int), .int (b : Int), .int (p : Int)] ∧ 2 ≤ b ∧ b ≤ 16 ∧ p ≤ 10 ∧ n < 2 ^ 900 ∧ ∀ H', Same H H' → Q (.int (stepN b p n : Nat)) H'
theorem ok_step_of (T : Txt K mg) : FnOk P w K mg base CX0 2 T.f_step_of T.fd_step_of ["number", "base", "power"] (sp_step_of K) := by
  refine T.F_step_of.ok sc_step_of (fun vs H Q E h => ?_) (fun cdv A outer s H vs Q E hr h => ?_)
  · obtain ⟨_, _, _, rfl, _⟩ := h
    rfl
  · obtain ⟨n, b, p, rfl, hb, hb16, hp, hn, q⟩ := h
    have fl := figs_le hb hn
    refine ⟨_, (pss_one (ps_ret (pe_callB (id := "sum") (cr_sum rfl) (by rfl) T.m_sum (by decide +kernel) (pa_cons (pe_lc (own := [("figure", 3)]) (g := (gName 3)) (tt := tYes) rfl sc_step_of.nd (pi_tup (pe_call (ok_figures_of T) hr (by rfl) T.g_figures_of T.F_figures_of.kp T.b_figures_of .nil pass0 (pa_cons (pv 0) (pa_cons (pv 1) pa_nil)))) (blkOk_by (own := [("figure", 3)]) (N := ["number", "base", "power", "figure"]) (sc := defScope s_step_of) (by decide +kernel)) (fun _ _ _ _ _ => (pg_name (i := 3) sc_step_of.nd rfl (Or.inl rfl))) (fun _ _ _ _ _ => pts_nil) (fun _ _ _ _ _ => (pe_call (ok_power_of T) hr (by rfl) T.g_power_of T.F_power_of.kp T.b_power_of .nil pass0 (pa_cons (pv 3) (pa_cons (pv 2) pa_nil))))) pa_nil)))), ?_⟩
    refine ⟨_, rfl, _, rfl, n, b, rfl, hb, hb16, hn, fun H1 t s1 n1 e1 => ⟨t, rfl, ⟨_, .of e1⟩, fun D hD => ?_⟩⟩
    refine lc_tup (xs := ivs (figs b n)) (fun i H' => Same H1 H' ∧ H' D = some (.lst (ivs (((figs b n).take i).map (· ^ p))))) ⟨Same.new hD, upd_same⟩ ?_ ?_ ?_
    · rintro i H' hi ⟨s2, e2⟩
      exact .of (s2 _ _ e1)
    · rintro i x H' hx ⟨s2, e2⟩
      obtain ⟨k, hk, rfl⟩ := ivs_get hx
      have kb := figs_below hb (List.mem_of_getElem? hk)
      have hi : i < (figs b n).length := (List.getElem?_eq_some_iff.mp hk).1
      refine ⟨rfl, _, rfl, _, rfl, (k : Int), (p : Int), rfl, by omega, by omega, by omega, by omega, ?_⟩
      refine ⟨_, e2, small1000 ?_, same_own s2 hD, ?_⟩
      · rw [ivs_length, List.length_map, List.length_take]
        omega
      · rw [upd_same, List.take_add_one, hk, List.map_append, ivs_append]
        show some (HO.lst (_ ++ [V.int ((k : Int) ^ p)])) = some (HO.lst (_ ++ [V.int ((k ^ p : Nat) : Int)]))
        rw [Int.natCast_pow]
    · rintro H' ⟨s2, e2⟩
      rw [ivs_length, List.take_length, ivs_map] at e2
      refine ⟨D, _, rfl, .of e2, ?_⟩
      rw [sum_cast]
      exact q H' (s1.trans s2)

/-! ### worths_of -/
def sp_worths_of (K : PySem.W.Frag) : Sp := fun vs H Q _ => ∃ b p : Nat, vs = [.int (b : Int), .int (p : Int)] ∧ b ≤ 16 ∧ p ≤ 10 ∧ ∀ H' w, Same H H' → H w = none → H' w = some (.lst (ivs (wts b p))) → Q (.ref w) H'
theorem ok_worths_of (T : Txt K mg) : FnOk P w K mg base CX0 2 T.f_worths_of T.fd_worths_of ["base", "power"] (sp_worths_of K) := by
  refine T.F_worths_of.ok sc_worths_of (fun vs H Q E h => ?_) (fun cdv A outer s H vs Q E hr h => ?_)
  · obtain ⟨_, _, rfl, _⟩ := h
    rfl
  · obtain ⟨b, p, rfl, hb, hp, q⟩ := h
    refine ⟨_, (pss_one (ps_ret (pe_lc (own := [("figure", 2)]) (g := (gName 2)) (tt := tYes) rfl sc_worths_of.nd (pi_range1 (by rfl) T.m_range (pa_cons (pv 0) pa_nil)) (blkOk_by (own := [("figure", 2)]) (N := ["base", "power", "figure"]) (sc := defScope s_worths_of) (by decide +kernel)) (fun _ _ _ _ _ => (pg_name (i := 2) sc_worths_of.nd rfl (Or.inl rfl))) (fun _ _ _ _ _ => pts_nil) (fun _ _ _ _ _ => (pe_call (ok_power_of T) hr (by rfl) T.g_power_of T.F_power_of.kp T.b_power_of .nil pass0 (pa_cons (pv 2) (pa_cons (pv 1) pa_nil))))))), ?_⟩
    refine ⟨_, rfl, _, rfl, by omega, by omega, fun D hD => lc_range (lo := 0) (n := b) (fun i H' => Same H H' ∧ H' D = some (.lst (ivs ((wts b p).take i)))) ⟨Same.new hD, upd_same⟩ ?_ ?_⟩
    · rintro i H' hi ⟨s2, e2⟩
      refine ⟨rfl, _, rfl, _, rfl, ((0 + i : Nat) : Int), (p : Int), by rw [Int.natCast_add]; rfl, by omega, by omega, by omega, by omega, ?_⟩
      refine ⟨_, e2, small_len (by rw [ivs_length, List.length_take, wts_len]; omega), same_own s2 hD, ?_⟩
      rw [upd_same, List.take_add_one, wts_get hi, ivs_append, Nat.zero_add]
      show some (HO.lst (_ ++ [V.int ((i : Int) ^ p)])) = some (HO.lst (_ ++ [V.int ((i ^ p : Nat) : Int)]))
      rw [Int.natCast_pow]
    · rintro H' ⟨s2, e2⟩
      rw [List.take_of_length_le (by rw [wts_len]; exact Nat.le_refl _)] at e2
      exact q H' D s2 hD e2

/-! ### way_of -/
def sp_way_of (K : PySem.W.Frag) : Sp := fun vs H Q _ => ∃ n b p : Nat, vs = [.int (n : Int), .int (b : Int), .int (p : Int)] ∧ OkN b p ∧ n < 2 ^ 200 ∧ ∀ H' t w A L, Same H H' → H t = none → H' t = some (.tup [.ref w, .int ((A : Nat) : Int)]) → H w = none → H' w = some (.lst (ivs (rowN b p n L))) → Way b p n A L → Q (.ref t) H'
def W_way_of (n b p : Nat) (H : Hp) (P : Addr) (m : Nat) (σ' : L2.St) (H' : Hp) : Prop := ∃ L : Nat, m = 15031 - L ∧ σ' = [some (.int ((itN b p n L : Nat) : Int)), some (.int (b : Int)), some (.int (p : Int)), some (.ref P)] ∧ Same H H' ∧ H' P = some (.dK (kvsOf (fun i => ((itN b p n i : Nat) : Int)) (fun i => .int (i : Int)) L)) ∧ ∀ i j, i < L → j < L → itN b p n i = itN b p n j → i = j
theorem ok_way_of (T : Txt K mg) : FnOk P w K mg base CX0 3 T.f_way_of T.fd_way_of ["number", "base", "power"] (sp_way_of K) := by
  refine T.F_way_of.ok sc_way_of (fun vs H Q E h => ?_) (fun cdv A outer s H vs Q E hr h => ?_)
  · obtain ⟨_, _, _, rfl, _⟩ := h
    rfl
  · obtain ⟨n, b, p, rfl, ok, hn, q⟩ := h
    have nr := near_of ok hn
    refine ⟨_, (pss_cons (ps_set (i := 3) sc_way_of.nd rfl (Or.inl rfl) pe_dnewK)
      (pss_cons (ps_while PassesOwn.never (pt_cmp (pc_dnotin (hu_of hr) (pv 0) (pv 3)) rfl) (pss_cons (ps_dput (hu_of hr) (pv 3) (pv 0) (pe_callB (id := "len") call_lenD (by rfl) T.m_len (by decide +kernel) (pa_cons (pv 3) pa_nil)) rfl)
      (pss_one (ps_set (i := 0) sc_way_of.nd rfl (Or.inl rfl) (pe_call (ok_step_of T) hr (by rfl) T.g_step_of T.F_step_of.kp T.b_step_of .nil pass0 (pa_cons (pv 0) (pa_cons (pv 1) (pa_cons (pv 2) pa_nil))))))))
      (pss_one (ps_ret (pe_tup (pa_cons (pe_callTy (T := "list") (call_list_dK rfl) (by rfl) T.m_list (by decide +kernel) (pa_cons (pv 3) pa_nil)) (pa_cons (pe_dget (hu_of hr) (pv 3) (pv 0) (fun _ _ => rfl)) pa_nil))))))), ?_⟩
    refine fun P hP => ?_
    generalize g1 : upd H P _ = H1
    obtain ⟨s1, t1⟩ := new_of g1 hP
    refine ⟨W_way_of n b p H P, ⟨15031, 0, rfl, rfl, s1, t1, fun i j hi => by omega⟩, ?_⟩
    rintro m σ' H2 ⟨L, rfl, rfl, s2, t2, nd⟩
    have lL := nr.rep nd
    by_cases c : ∃ i, i < L ∧ itN b p n i = itN b p n L
    · obtain ⟨A, hA, e⟩ := c
      have v : valV (kvsOf (fun i => ((itN b p n i : Nat) : Int)) (fun i => V.int (i : Int)) L) (Sum.inl ((itN b p n L : Nat) : Int) : Key) = some (.int (A : Int)) := by
        rw [← e]
        exact kvsOf_some (f := fun i => ((itN b p n i : Nat) : Int)) (g := fun i => V.int (i : Int)) (fun i j hi hj z => nd i j hi hj (Int.ofNat.inj z)) hA
      refine ⟨_, rfl, _, rfl, P, some (.int (A : Int)), rfl, dget (k := Sum.inl _) t2 v, false, rfl, iteF ?_⟩
      refine ⟨_, rfl, P, _, rfl, t2, fun w hw => ?_⟩
      rw [kvsOf_keys]
      generalize g3 : upd H2 w _ = H3
      obtain ⟨s3, t3⟩ := new_of g3 hw
      have t3' : H3 w = some (.lst (ivs (rowN b p n L))) := by
        rw [t3, rowN_eq]
        unfold ivs
        rw [List.map_map]
        rfl
      refine ⟨_, rfl, _, rfl, P, _, rfl, dget (k := Sum.inl _) (s3 _ _ t2) v, by show 2 ≤ sizeLine; decide, fun t ht => ?_⟩
      exact q _ t w A L (s2.trans (s3.trans (Same.new ht))) (s2.free (s3.free ht)) upd_same (s2.free hw) (Same.new ht _ _ t3') ⟨hA, e.symm, nd⟩
    · have v : valV (kvsOf (fun i => ((itN b p n i : Nat) : Int)) (fun i => V.int (i : Int)) L) (Sum.inl ((itN b p n L : Nat) : Int) : Key) = none := kvsOf_none fun i hi z => c ⟨i, hi, Int.ofNat.inj z⟩
      refine ⟨_, rfl, _, rfl, P, none, rfl, dget (k := Sum.inl _) t2 v, true, rfl, iteT ⟨Nx (W_way_of n b p H P) (15031 - L), Nx.id, ?_⟩⟩
      refine ⟨_, rfl, P, _, rfl, t2, ?_⟩
      rw [kvsOf_len]
      refine ⟨_, rfl, _, rfl, P, _, rfl, .k (k := Sum.inl _) t2 (small_len (by rw [kvsOf_len]; omega)), ?_⟩
      have z := kvsOf_put (f := fun i => ((itN b p n i : Nat) : Int)) (g := fun i => V.int (i : Int)) (L := L) fun i hi z => c ⟨i, hi, Int.ofNat.inj z⟩
      rw [z]
      have s3 := same_own (o := .dK (kvsOf (fun i => ((itN b p n i : Nat) : Int)) (fun i => V.int (i : Int)) (L + 1))) s2 hP
      refine ⟨_, rfl, _, rfl, _, rfl, itN b p n L, b, p, rfl, ok.hb, ok.hb16, ok.hp, lt200 (itN_lt200 ok hn L), fun H4 s4 => ?_⟩
      refine ⟨15031 - (L + 1), by omega, L + 1, rfl, rfl, s3.trans s4, s4 _ _ upd_same, fun i j hi hj ez => ?_⟩
      by_cases ci : i = L
      · by_cases cj : j = L
        · omega
        · subst ci
          exact absurd ⟨j, by omega, ez.symm⟩ c
      · by_cases cj : j = L
        · subst cj
          exact absurd ⟨i, by omega, ez⟩ c
        · exact nd i j (by omega) (by omega) ez

/-! ### end_of -/
def sp_end_of (K : PySem.W.Frag) : Sp := fun vs H Q _ => ∃ n b p : Nat, vs = [.int (n : Int), .int (b : Int), .int (p : Int)] ∧ OkN b p ∧ n < 2 ^ 200 ∧ ∀ H' t A m, Same H H' → H t = none → H' t = some (.tup (ivs [A, m])) → EndAt b p n A m → Q (.ref t) H'
theorem ok_end_of (T : Txt K mg) : FnOk P w K mg base CX0 4 T.f_end_of T.fd_end_of ["number", "base", "power"] (sp_end_of K) := by
  refine T.F_end_of.ok sc_end_of (fun vs H Q E h => ?_) (fun cdv A outer s H vs Q E hr h => ?_)
  · obtain ⟨_, _, _, rfl, _⟩ := h
    rfl
  · obtain ⟨n, b, p, rfl, ok, hn, q⟩ := h
    refine ⟨_, (pss_cons (ps_asg (pe_call (ok_way_of T) hr (by rfl) T.g_way_of T.F_way_of.kp T.b_way_of .nil pass0 (pa_cons (pv 0) (pa_cons (pv 1) (pa_cons (pv 2) pa_nil)))) (pg_tup rfl (pgs_cons (pg_name (i := 3) sc_end_of.nd rfl (Or.inl rfl)) (pgs_cons (pg_name (i := 4) sc_end_of.nd rfl (Or.inl rfl)) pgs_nil))))
      (pss_one (ps_ret (pe_tup (pa_cons (pv 4) (pa_cons (pe_callB (id := "min") (cr_min rfl) (by rfl) T.m_min (by decide +kernel) (pa_cons (pe_slice sl_list (pv 3) (po_some (pv 4)) po_none) pa_nil)) pa_nil)))))), ?_⟩
    refine ⟨_, rfl, _, rfl, _, rfl, n, b, p, rfl, ok, hn, fun H1 t w A L s1 nt et nw ew wy => ?_⟩
    have lt := wy.lt
    refine ⟨t, _, rfl, .of et, rfl, _, _, rfl, _, _, rfl, rfl, ?_⟩
    refine ⟨_, rfl, _, rfl, _, rfl, _, rfl, w, _, rfl, .of ew, fun D hD => ?_⟩
    rw [cut_ivs_from]
    generalize g2 : upd H1 D _ = H2
    obtain ⟨s2, t2⟩ := new_of g2 hD
    rw [rowN_drop, ivs_map] at t2
    refine ⟨D, _, rfl, .of t2, by rw [List.length_map, rowN_len]; omega, fun m h1 h2 => ?_⟩
    obtain ⟨k, hk, rfl⟩ := List.mem_map.mp h1
    obtain ⟨i, hi, rfl⟩ := mem_rowN.mp hk
    refine ⟨by show 2 ≤ sizeLine; decide, fun T hT => ?_⟩
    refine q _ T A _ (s1.trans (s2.trans (Same.new hT))) (s1.free (s2.free hT)) upd_same (wy.end_of ⟨A + i, by omega, by omega, itN_add ..⟩ fun j j1 j2 => ?_)
    have := h2 ((itN b p n j : Nat) : Int) (List.mem_map.mpr ⟨_, mem_rowN.mpr ⟨j - A, by omega, rfl⟩, by rw [← itN_add, show A + (j - A) = j by omega]⟩)
    omega

/-! ### _law_mix -/
def sp__law_mix (K : PySem.W.Frag) : Sp := fun vs H Q _ => ∃ c k : Int, vs = [.int c, .int k] ∧ 0 ≤ k ∧ k < 2 ^ 44 ∧ ∀ r : Int, Q (.int r) H
theorem mix_bound {a b : Int} (h : 0 < b) : 0 ≤ a % b ∧ a % b < b := ⟨Int.emod_nonneg _ (by omega), Int.emod_lt_of_pos _ h⟩
theorem ok__law_mix (T : Txt K mg) : FnOk P w K mg base CX0 1 T.f__law_mix T.fd__law_mix ["cell", "k"] (sp__law_mix K) := by
  refine T.F__law_mix.ok sc__law_mix (fun vs H Q E h => ?_) (fun cdv A outer s H vs Q E hr h => ?_)
  · obtain ⟨_, _, rfl, _⟩ := h
    rfl
  · obtain ⟨c, k, rfl, h0, h1, q⟩ := h
    refine ⟨_, (pss_cons (ps_set (i := 2) sc__law_mix.nd rfl (Or.inl rfl) (pe_op op_add (pe_op op_mod (pv 0) pe_int) (pe_op op_mul (pe_op op_mul pe_int (pv 1)) (pv 1))))
      (pss_cons (ps_set (i := 2) sc__law_mix.nd rfl (Or.inl rfl) (pe_op op_mod (pe_op op_add (pv 2) (pe_op op_mul pe_int (pv 1))) pe_int))
      (pss_cons (ps_set (i := 2) sc__law_mix.nd rfl (Or.inl rfl) (pe_op op_mod (pe_op op_mul (pv 2) (pv 2)) pe_int))
      (pss_one (ps_ret (pe_op op_fdivW (pe_op op_mod (pe_op op_mul (pv 2) (pe_op op_add (pv 2) pe_int)) pe_int) pe_int)))))), ?_⟩
    have hk : -(2 ^ 64) < 1000003 * k ∧ 1000003 * k < 2 ^ 64 := by omega
    refine ⟨_, rfl, _, _, rfl, rfl, by walk_at "p", _, rfl, _, _, rfl, rfl, .inl (by decide), _, rfl, _, _, rfl, rfl, .inl hk, _, _, rfl, rfl, ?_⟩
    refine ⟨_, rfl, _, rfl, _, _, rfl, rfl, .inl (by decide), _, _, rfl, rfl, _, _, rfl, rfl, by walk_at "p", ?_⟩
    refine ⟨_, rfl, _, rfl, _, _, rfl, rfl, .inl ?_, _, _, rfl, rfl, by walk_at "p", ?_⟩
    · have b := mix_bound (a := c % 2147483629 + 1000003 * k * k + 7919 * k) (b := 2147483629) (by decide)
      exact ⟨by omega, by omega⟩
    generalize (c % 2147483629 + 1000003 * k * k + 7919 * k) % 2147483629 = n1
    have b := mix_bound (a := n1 * n1) (b := 2147483587) (by decide)
    generalize n1 * n1 % 2147483587 = n2 at b ⊢
    refine ⟨_, rfl, _, rfl, _, _, rfl, rfl, _, _, rfl, rfl, .inl ⟨by omega, by omega⟩, _, _, rfl, rfl, by walk_at "p", _, _, rfl, rfl, ⟨by decide, by decide +kernel⟩, ?_⟩
    exact q _

/-! ### _law_deck -/
def sp__law_deck (K : PySem.W.Frag) : Sp := fun vs H Q _ => ∃ (a : Addr) (ns : List Int), vs = [.ref a] ∧ SqL K H a (ns.map V.int) ∧ ∀ H' d c, Same H H' → H d = none → H c = none → Deck H' d c 0 → Q (.ref d) H'
theorem ok__law_deck (T : Txt K mg) : FnOk P w K mg base CX0 1 T.f__law_deck T.fd__law_deck ["script"] (sp__law_deck K) := by
  refine T.F__law_deck.ok sc__law_deck (fun vs H Q E h => ?_) (fun cdv A outer s H vs Q E hr h => ?_)
  · obtain ⟨_, _, rfl, _⟩ := h
    rfl
  · obtain ⟨a, ns, rfl, hS, q⟩ := h
    refine ⟨_, (pss_one (ps_ret (pe_lst (pa_cons (pe_slice sl_list (pv 0) po_none (po_some pe_int)) (pa_cons pe_int (pa_cons pe_int (pa_cons pe_int (pa_cons (pe_callB (id := "sum") (cr_sum rfl) (by rfl) T.m_sum (by decide +kernel) (pa_cons (pe_slice sl_list (pv 0) po_none (po_some pe_int)) pa_nil)) pa_nil)))))))), ?_⟩
    have ec : cutV (ns.map V.int) none (some 63) = (ns.take 63).map V.int := by
      rw [List.map_take]
      exact cut_to _ 63
    refine ⟨_, rfl, _, rfl, a, _, rfl, hS, fun c hc => ?_⟩
    rw [ec]
    have s1 : Same H (upd H c (.lst ((ns.take 63).map V.int))) := Same.new hc
    refine ⟨_, rfl, _, rfl, a, _, rfl, s1.seq hS, fun e he => ?_⟩
    rw [ec]
    generalize hH1 : upd H c (.lst ((ns.take 63).map V.int)) = H1 at s1 he ⊢
    have s2 : Same H1 (upd H1 e (.lst ((ns.take 63).map V.int))) := Same.new he
    refine ⟨e, _, rfl, .of upd_same, by show 5 ≤ sizeLine; decide, fun d hd => ?_⟩
    generalize hH2 : upd H1 e (.lst ((ns.take 63).map V.int)) = H2 at s2 hd ⊢
    have hc1 : H1 c = some (.lst ((ns.take 63).map V.int)) := by rw [← hH1]; exact upd_same
    have s3 : Same H2 (upd H2 d (.lst [.ref c, .int 0, .int 0, .int 0, .int (ns.take 63).sum])) := Same.new hd
    refine q _ d c (s1.trans (s2.trans s3)) (s1.free (s2.free hd)) hc ⟨ns.take 63, 0, 0, 0, (ns.take 63).sum, upd_same, s3 _ _ (s2 _ _ hc1), ?_⟩
    omega

/-! ### _law_next -/
def sp__law_next (K : PySem.W.Frag) : Sp := fun vs H Q _ => ∃ (d : Addr) (many : Int) (c : Addr) (n : Nat), vs = [.ref d, .int many] ∧ Deck H d c n ∧ n < 2 ^ 40 ∧ 0 < many ∧ many < 2 ^ 200 ∧
  ∀ H' (r : Int), But d H H' → Deck H' d c (n + 1) → 0 ≤ r → r < many → Q (.int r) H'
theorem ok__law_next (T : Txt K mg) : FnOk P w K mg base CX0 2 T.f__law_next T.fd__law_next ["deck", "many"] (sp__law_next K) := by
  refine T.F__law_next.ok sc__law_next (fun vs H Q E h => ?_) (fun cdv A outer s H vs Q E hr h => ?_)
  · obtain ⟨_, _, _, _, rfl, _⟩ := h
    rfl
  · obtain ⟨d, many, c, n, rfl, hD, hn, h0, h9, q⟩ := h
    have hcd := hD.ne
    obtain ⟨ns, i, l, m, t, eD, eC, i0, i1, m0, m1⟩ := hD.ex
    have hw : ∀ x : Int, CDivW x many := fun x => divW 200 h0 h9
    have r0 : ∀ x : Int, 0 ≤ x % many := fun x => Int.emod_nonneg _ (by omega)
    have r1 : ∀ x : Int, x % many < many := fun x => Int.emod_lt_of_pos _ h0
    refine ⟨_, (C8.pss_cut (ps_if (PW.pt (pw_and (pt_cmpR op_eq (pe_ix ix_list (pv 0) pe_int (fun _ _ => rfl)) pe_int (nomark _)) (pw_and1 (pt_cmpR op_lt (pe_ix ix_list (pv 0) pe_int (fun _ _ => rfl)) (pe_callB (id := "len") call_len_seq (by rfl) T.m_len (by decide +kernel) (pa_cons (pe_ix ix_list (pv 0) pe_int (fun _ _ => rfl)) pa_nil)) (nomark _))))) (pss_cons (ps_set (i := 2) sc__law_next.nd rfl (Or.inl rfl) (pe_ix ix_list (pe_ix ix_list (pv 0) pe_int (fun _ _ => rfl)) (pe_ix ix_list (pv 0) pe_int (fun _ _ => rfl)) (fun _ _ => rfl)))
      (pss_cons (ps_asg (pe_op op_add (pe_ix ix_list (pv 0) pe_int (fun _ _ => rfl)) pe_int) (pg_sub (pv 0) pe_int set_list))
      (pss_cons (ps_if (pt_cmpR op_lt (pv 2) (pe_op op_pow pe_int pe_int) (nomark _)) (pss_one (ps_ret (pe_op op_mod (pe_call (ok__law_mix T) hr (by rfl) T.g__law_mix T.F__law_mix.kp T.b__law_mix .nil pass0 (pa_cons (pv 2) (pa_cons (pe_ix ix_list (pv 0) pe_int (fun _ _ => rfl)) pa_nil))) (pv 1)))) pss_nil)
      (pss_one (ps_asg (pv 2) (pg_sub (pv 0) pe_int set_list)))))) pss_nil)
      (pss_cons (ps_if (pt_cmpR op_gt (pe_ix ix_list (pv 0) pe_int (fun _ _ => rfl)) pe_int (nomark _)) (pss_cons (ps_set (i := 3) sc__law_next.nd rfl (Or.inl rfl) (pe_op op_mod (pe_ix ix_list (pv 0) pe_int (fun _ _ => rfl)) (pv 1)))
      (pss_cons (ps_asg (pe_op op_fdivW (pe_ix ix_list (pv 0) pe_int (fun _ _ => rfl)) (pv 1)) (pg_sub (pv 0) pe_int set_list))
      (pss_one (ps_ret (pv 3))))) pss_nil)
      (pss_cons (ps_asg (pe_op op_add (pe_ix ix_list (pv 0) pe_int (fun _ _ => rfl)) pe_int) (pg_sub (pv 0) pe_int set_list))
      (pss_one (ps_ret (pe_op op_mod (pe_call (ok__law_mix T) hr (by rfl) T.g__law_mix T.F__law_mix.kp T.b__law_mix .nil pass0 (pa_cons (pe_ix ix_list (pv 0) pe_int (fun _ _ => rfl)) (pa_cons (pe_op op_add (pe_ix ix_list (pv 0) pe_int (fun _ _ => rfl)) pe_int) pa_nil))) (pv 1))))))), ?_⟩
    refine ⟨fun σ' H1 => ∃ i' l' y, σ' = [some (.ref d), some (.int many), y, none] ∧ But d H H1 ∧ H1 d = some (.lst [.ref c, .int i', .int l', .int m, .int t]) ∧ H1 c = some (.lst (ns.map V.int)) ∧ 0 ≤ i' ∧ i' ≤ i + 1, ?_, ?_⟩
    · -- deck[2] == 0 and deck[1] < len(deck[0])
      refine ⟨_, rfl, d, _, 2, .int l, rfl, rfl, .of eD, atI_nat (j := 2) rfl, rfl, _, rfl, ite2 (fun e => ?_) (fun e => ?_)⟩
      · refine ⟨_, rfl, d, _, 1, .int i, rfl, rfl, .of eD, atI_nat (j := 1) rfl, _, rfl, d, _, 0, .ref c, rfl, rfl, .of eD, atI_nat (j := 0) rfl, c, _, rfl, .inl (.of eC), _, _, rfl, rfl, _, rfl, ite2 (fun e2 => ?_) (fun e2 => ?_)⟩
        · -- cell = deck[0][deck[1]]
          have e3 : i < (ns.length : Int) := by
            have z := of_decide_eq_true e2
            rw [List.length_map] at z
            exact z
          have hi : i.toNat < ns.length := by omega
          have ci : atI (ns.map V.int) i = some (.int ns[i.toNat]) := by
            have z : (ns.map V.int)[i.toNat]? = some (.int ns[i.toNat]) := by
              rw [List.getElem?_map, List.getElem?_eq_getElem hi]
              rfl
            have y := atI_nat z
            rw [show ((i.toNat : Nat) : Int) = i by omega] at y
            exact y
          generalize ns[i.toNat] = cell at ci
          refine ⟨_, rfl, d, _, 0, .ref c, rfl, rfl, .of eD, atI_nat (j := 0) rfl, _, rfl, d, _, 1, .int i, rfl, rfl, .of eD, atI_nat (j := 1) rfl, c, _, i, .int cell, rfl, rfl, .of eC, ci, ?_⟩
          -- deck[1] = deck[1] + 1
          refine ⟨_, rfl, d, _, 1, .int i, rfl, rfl, .of eD, atI_nat (j := 1) rfl, _, _, rfl, rfl, _, rfl, d, _, 1, 1, rfl, rfl, eD, rfl, ?_⟩
          have b1 : But d H (upd H d (.lst [.ref c, .int (i + 1), .int l, .int m, .int t])) := But.set
          have d1 : (upd H d (.lst [.ref c, .int (i + 1), .int l, .int m, .int t])) d = some (.lst [.ref c, .int (i + 1), .int l, .int m, .int t]) := upd_same
          have c1 : (upd H d (.lst [.ref c, .int (i + 1), .int l, .int m, .int t])) c = some (.lst (ns.map V.int)) := by rw [upd_ne hcd]; exact eC
          -- if cell < 10 ** 18
          refine ⟨_, rfl, 10, 18, rfl, rfl, ⟨by decide, by decide, by decide⟩, _, _, rfl, rfl, _, rfl, ite2 (fun e4 => ?_) (fun e4 => ?_)⟩
          · refine ⟨_, rfl, _, rfl, d, _, 1, .int (i + 1), rfl, rfl, .of d1, atI_nat (j := 1) rfl, cell, i + 1, rfl, by omega, by omega, fun r => ?_⟩
            exact ⟨_, rfl, _, _, rfl, rfl, h0, q _ _ b1 ⟨ns, i + 1, l, m, t, d1, c1, by omega, by omega, m0, by omega⟩ (r0 _) (r1 _)⟩
          · refine ⟨_, rfl, _, rfl, d, _, 2, 2, rfl, rfl, d1, rfl, ?_⟩
            refine ⟨i + 1, cell, some (.int cell), rfl, b1.trans But.set, upd_same, ?_, by omega, by omega⟩
            rw [upd_ne hcd]
            exact c1
        · exact ⟨i, l, none, rfl, But.refl _ _, eD, eC, i0, by omega⟩
      · exact ⟨i, l, none, rfl, But.refl _ _, eD, eC, i0, by omega⟩
    · -- if deck[2] > 0
      rintro σ' H1 ⟨i', l', y, rfl, b1, d1, c1, j0, j1⟩
      refine ⟨_, rfl, d, _, 2, .int l', rfl, rfl, .of d1, atI_nat (j := 2) rfl, _, _, rfl, rfl, _, rfl, ite2 (fun e => ?_) (fun e => ?_)⟩
      · refine ⟨_, rfl, d, _, 2, .int l', rfl, rfl, .of d1, atI_nat (j := 2) rfl, _, rfl, _, _, rfl, rfl, h0, ?_⟩
        refine ⟨_, rfl, d, _, 2, .int l', rfl, rfl, .of d1, atI_nat (j := 2) rfl, _, rfl, _, _, rfl, rfl, hw _, _, rfl, d, _, 2, 2, rfl, rfl, d1, rfl, ?_⟩
        refine ⟨_, rfl, q _ _ (b1.trans But.set) ⟨ns, i', l' / many, m, t, upd_same, ?_, j0, by omega, m0, by omega⟩ (r0 _) (r1 _)⟩
        rw [upd_ne hcd]
        exact c1
      · refine ⟨_, rfl, d, _, 3, .int m, rfl, rfl, .of d1, atI_nat (j := 3) rfl, _, _, rfl, rfl, _, rfl, d, _, 3, 3, rfl, rfl, d1, rfl, ?_⟩
        have d2 : (upd H1 d (.lst [.ref c, .int i', .int l', .int (m + 1), .int t])) d = some (.lst [.ref c, .int i', .int l', .int (m + 1), .int t]) := upd_same
        have c2 : (upd H1 d (.lst [.ref c, .int i', .int l', .int (m + 1), .int t])) c = some (.lst (ns.map V.int)) := by rw [upd_ne hcd]; exact c1
        refine ⟨_, rfl, d, _, 4, .int t, rfl, rfl, .of d2, atI_nat (j := 4) rfl, _, rfl, d, _, 3, .int (m + 1), rfl, rfl, .of d2, atI_nat (j := 3) rfl, _, _, rfl, rfl, t, _, rfl, by omega, by omega, fun r => ?_⟩
        exact ⟨_, rfl, _, _, rfl, rfl, h0, q _ _ (b1.trans But.set) ⟨ns, i', l', m + 1, t, d2, c2, j0, by omega, by omega, by omega⟩ (r0 _) (r1 _)⟩

/-! ### _law_pair -/
def sp__law_pair (K : PySem.W.Frag) : Sp := fun vs H Q _ => ∃ (d c : Addr) (n : Nat), vs = [.ref d] ∧ Deck H d c n ∧ n < 2 ^ 39 ∧
  ∀ H' (p : Addr) (b pw : Int), But d H H' → Deck H' d c (n + 3) → H p = none → H' p = some (.tup [.int b, .int pw]) → OkPair b pw → Q (.ref p) H'
theorem ok__law_pair (T : Txt K mg) : FnOk P w K mg base CX0 3 T.f__law_pair T.fd__law_pair ["deck"] (sp__law_pair K) := by
  refine T.F__law_pair.ok sc__law_pair (fun vs H Q E h => ?_) (fun cdv A outer s H vs Q E hr h => ?_)
  · obtain ⟨_, _, _, rfl, _⟩ := h
    rfl
  · obtain ⟨d, c, n, rfl, hD, hn, q⟩ := h
    refine ⟨_, (pss_cons (ps_set (i := 1) sc__law_pair.nd rfl (Or.inl rfl) (pe_op op_add pe_int (pe_call (ok__law_next T) hr (by rfl) T.g__law_next T.F__law_next.kp T.b__law_next .nil pass0 (pa_cons (pv 0) (pa_cons pe_int pa_nil)))))
      (pss_cons (ps_set (i := 2) sc__law_pair.nd rfl (Or.inl rfl) (pe_ix ix_list (pe_lst (pa_cons pe_int (pa_cons pe_int (pa_cons pe_int (pa_cons pe_int (pa_cons pe_int (pa_cons pe_int (pa_cons pe_int (pa_cons pe_int (pa_cons pe_int (pa_cons pe_int (pa_cons pe_int (pa_cons pe_int (pa_cons pe_int (pa_cons pe_int (pa_cons pe_int pa_nil)))))))))))))))) (pe_op op_sub (pv 1) pe_int) (fun _ _ => rfl)))
      (pss_one (ps_ret (pe_ix ix_list (pe_lst (pa_cons (pe_tup (pa_cons (pv 1) (pa_cons (pe_op op_add pe_int (pe_call (ok__law_next T) hr (by rfl) T.g__law_next T.F__law_next.kp T.b__law_next .nil pass0 (pa_cons (pv 0) (pa_cons (pv 2) pa_nil)))) pa_nil))) (pa_cons (pe_tup (pa_cons (pv 1) (pa_cons (pv 2) pa_nil))) pa_nil))) (pe_call (ok__law_next T) hr (by rfl) T.g__law_next T.F__law_next.kp T.b__law_next .nil pass0 (pa_cons (pv 0) (pa_cons pe_int pa_nil))) (fun _ _ => rfl)))))), ?_⟩
    refine ⟨_, rfl, d, 15, c, n, rfl, hD, by omega, by decide, by decide, fun H1 r b1 D1 r0 r1 => ?_⟩
    refine ⟨2, r, rfl, rfl, ?_⟩
    -- most = [..][base - 2]
    refine ⟨by show 15 ≤ sizeLine; decide, fun p1 hp1 => ?_⟩
    generalize g2 : upd _ p1 _ = H2
    obtain ⟨s2, t2⟩ := new_of g2 hp1
    have e1 : 2 ≤ 2 + r := by omega
    have e2 : 2 + r ≤ 16 := by omega
    have bm := most_pos e1 e2
    refine ⟨_, rfl, _, _, rfl, rfl, p1, mosts.map V.int, _, _, rfl, rfl, .of t2, most_at e1 e2, ?_⟩
    have D2 := D1.same s2
    -- the two pairs
    refine ⟨_, rfl, _, rfl, _, rfl, d, mostOf (2 + r), c, n + 1, rfl, D2, by omega, by omega, by omega, fun H3 r3 b3 D3 r30 r31 => ?_⟩
    refine ⟨1, r3, rfl, rfl, by show 2 ≤ sizeLine; decide, fun p4 hp4 => ?_⟩
    generalize g4 : upd _ p4 _ = H4
    obtain ⟨s4, t4⟩ := new_of g4 hp4
    refine ⟨_, rfl, _, rfl, by show 2 ≤ sizeLine; decide, fun p5 hp5 => ?_⟩
    generalize g5 : upd _ p5 _ = H5
    obtain ⟨s5, t5⟩ := new_of g5 hp5
    refine ⟨by show 2 ≤ sizeLine; decide, fun p6 hp6 => ?_⟩
    generalize g6 : upd _ p6 _ = H6
    obtain ⟨s6, t6⟩ := new_of g6 hp6
    have D6 : Deck H6 d c (n + 1 + 1) := ((D3.same s4).same s5).same s6
    refine ⟨_, rfl, d, 2, c, n + 1 + 1, rfl, D6, by omega, by decide, by decide, fun H7 r7 b7 D7 r70 r71 => ?_⟩
    have bAll : But d H H7 := b1.trans ((But.of s2).trans (b3.trans ((But.of (s4.trans (s5.trans s6))).trans b7)))
    have n6 : p6 ≠ d := by
      obtain ⟨xs, z⟩ := (((D3.same s4).same s5)).some
      exact (ne_of_none z hp6).symm
    have l7 : H7 p6 = some (.lst [.ref p4, .ref p5]) := b7 _ _ n6 t6
    have f0 : ∀ {p : Addr}, H3 p = none → H p = none := fun {p} z => b1.fresh D1.there (s2.free (b3.fresh D3.there z))
    have c01 : r7 = 0 ∨ r7 = 1 := by omega
    rcases c01 with rfl | rfl
    · refine ⟨p6, _, 0, .ref p4, rfl, rfl, .of l7, atI_nat (j := 0) rfl, ?_⟩
      exact q H7 p4 (2 + r) (1 + r3) bAll D7 (f0 hp4) (b7.tup D6 (s6 _ _ (s5 _ _ t4))) ⟨e1, e2, by omega, by omega⟩
    · refine ⟨p6, _, 1, .ref p5, rfl, rfl, .of l7, atI_nat (j := 1) rfl, ?_⟩
      exact q H7 p5 (2 + r) (mostOf (2 + r)) bAll D7 (f0 (s4.free hp5)) (b7.tup D6 (s6 _ _ t5)) ⟨e1, e2, by omega, by omega⟩

/-! ### KeptNumber__number_now -/
def sp_KeptNumber__number_now (C : Addr) : Sp := fun vs H Q _ => ∃ (p w l : Addr) (b pw : Nat) (fs : List Nat), vs = [.ref p] ∧ KeptAt C H p w l b pw fs ∧ Q (.int (val b fs : Nat)) H
theorem ok_KeptNumber__number_now (T : Txt K mg) : FnOk P w K mg base CX0 1 T.f_KeptNumber__number_now T.fd_KeptNumber__number_now ["self"] (sp_KeptNumber__number_now T.k_KeptNumber) := by
  refine T.F_KeptNumber__number_now.ok sc_KeptNumber__number_now (fun vs H Q E h => ?_) (fun cdv A outer s H vs Q E hr h => ?_)
  · obtain ⟨_, _, _, _, _, _, rfl, _⟩ := h
    rfl
  · obtain ⟨p, w, l, b, pw, fs, rfl, hK, q⟩ := h
    have hb16 := hK.ok.hb16
    obtain ⟨dx, e⟩ := hK.ins
    have turn : ∀ (i d : Nat), fs[i]? = some d → ((val b (fs.take i) : Nat) : Int) * (b : Int) + (d : Int) = ((val b (fs.take (i + 1)) : Nat) : Int) := fun i d h => by
      rw [val_take h, Int.natCast_add, Int.natCast_mul]
    refine ⟨_, (pss_cons (ps_set (i := 1) sc_KeptNumber__number_now.nd rfl (Or.inl rfl) pe_int)
      (pss_cons (ps_for PassesOwn.never rfl (pi_list (pe_fld (pv 0) rfl)) (pg_name (i := 2) sc_KeptNumber__number_now.nd rfl (Or.inl rfl)) (pss_one (ps_set (i := 1) sc_KeptNumber__number_now.nd rfl (Or.inl rfl) (pe_op op_add (pe_op op_mul (pv 1) (pe_fld (pv 0) rfl)) (pv 2)))))
      (pss_one (ps_ret (pv 1))))), ?_⟩
    refine ⟨_, rfl, p, _, dx, _, _, rfl, e, T.cl_KeptNumber, T.na_KeptNumber_figures, kf_figures _ _ _ _, l, rfl, ⟨_, .of hK.fg⟩, for_list (xs := ivs fs) (fun i σ' H' => H' = H ∧ ∃ y, σ' = [some (.ref p), some (.int (val b (fs.take i) : Nat)), y]) ⟨rfl, none, rfl⟩ ?_ ?_ ?_⟩
    · rintro i σ' H' hi ⟨rfl, _⟩
      exact .of hK.fg
    · rintro i x σ' H' hx ⟨rfl, y, rfl⟩
      obtain ⟨d, hd, rfl⟩ := ivs_get hx
      refine ⟨_, rfl, _, rfl, p, _, dx, _, _, rfl, e, T.cl_KeptNumber, T.na_KeptNumber_base, kf_base _ _ _ _, _, _, rfl, rfl, .inr (by omega), _, rfl, _, _, rfl, rfl, rfl, some (.int (d : Int)), ?_⟩
      rw [← turn i d hd]
      rfl
    · rintro σ' H' ⟨rfl, y, rfl⟩
      rw [ivs_length, List.take_length]
      exact ⟨_, rfl, q⟩

/-! ### KeptNumber__end_now -/
def sp_KeptNumber__end_now (C : Addr) : Sp := fun vs H Q _ => ∃ (p w l : Addr) (b pw : Nat) (fs : List Nat), vs = [.ref p] ∧ KeptAt C H p w l b pw fs ∧ ∀ H' t A m, Same H H' → H t = none → H' t = some (.tup (ivs [A, m])) → EndAt b pw (val b fs) A m → Q (.ref t) H'
theorem ok_KeptNumber__end_now (T : Txt K mg) : FnOk P w K mg base CX0 5 T.f_KeptNumber__end_now T.fd_KeptNumber__end_now ["self"] (sp_KeptNumber__end_now T.k_KeptNumber) := by
  refine T.F_KeptNumber__end_now.ok sc_KeptNumber__end_now (fun vs H Q E h => ?_) (fun cdv A outer s H vs Q E hr h => ?_)
  · obtain ⟨_, _, _, _, _, _, rfl, _⟩ := h
    rfl
  · obtain ⟨p, w, l, b, pw, fs, rfl, hK, q⟩ := h
    obtain ⟨dx, e⟩ := hK.ins
    refine ⟨_, (pss_one (ps_ret (pe_call (ok_end_of T) hr (by rfl) T.g_end_of T.F_end_of.kp T.b_end_of .nil pass0 (pa_cons (pe_meth0 (pv 0) T.cl_KeptNumber T.me_KeptNumber__number_now (ok_KeptNumber__number_now T) (hr.mono (by decide)) T.b_KeptNumber__number_now .nil pass0) (pa_cons (pe_fld (pv 0) rfl) (pa_cons (pe_fld (pv 0) rfl) pa_nil)))))), ?_⟩
    refine ⟨_, rfl, p, dx, _, rfl, e, kf_no _ _ _ _ (by decide +kernel) (by decide +kernel) (by decide +kernel) (by decide +kernel), p, w, l, b, pw, fs, rfl, hK, ?_⟩
    refine ⟨_, rfl, p, _, dx, _, _, rfl, e, T.cl_KeptNumber, T.na_KeptNumber_base, kf_base _ _ _ _, _, rfl, p, _, dx, _, _, rfl, e, T.cl_KeptNumber, T.na_KeptNumber_power, kf_power _ _ _ _, ?_⟩
    exact ⟨_, b, pw, rfl, hK.ok, hK.good.val200 hK.ok.hb hK.ok.hb16, fun H' t A m s n e1 e2 => q H' t A m s n e1 e2⟩

/-! ### KeptNumber__step_now -/
def sp_KeptNumber__step_now (C : Addr) : Sp := fun vs H Q _ => ∃ (p w l : Addr) (b pw : Nat) (fs : List Nat), vs = [.ref p] ∧ KeptAt C H p w l b pw fs ∧ ∀ H', Same H H' → Q (.int ((fs.map (· ^ pw)).sum : Nat)) H'
theorem ok_KeptNumber__step_now (T : Txt K mg) : FnOk P w K mg base CX0 1 T.f_KeptNumber__step_now T.fd_KeptNumber__step_now ["self"] (sp_KeptNumber__step_now T.k_KeptNumber) := by
  refine T.F_KeptNumber__step_now.ok sc_KeptNumber__step_now (fun vs H Q E h => ?_) (fun cdv A outer s H vs Q E hr h => ?_)
  · obtain ⟨_, _, _, _, _, _, rfl, _⟩ := h
    rfl
  · obtain ⟨p, w, l, b, pw, fs, rfl, hK, q⟩ := h
    have fl := hK.good.len
    obtain ⟨dx, e⟩ := hK.ins
    refine ⟨_, (pss_one (ps_ret (pe_callB (id := "sum") (cr_sum rfl) (by rfl) T.m_sum (by decide +kernel) (pa_cons (pe_lc (own := [("figure", 1)]) (g := (gName 1)) (tt := tYes) rfl sc_KeptNumber__step_now.nd (pi_list (pe_fld (pv 0) rfl)) (blkOk_by (own := [("figure", 1)]) (N := ["self", "figure"]) (sc := defScope s_KeptNumber__step_now) (by decide +kernel)) (fun _ _ _ _ _ => (pg_name (i := 1) sc_KeptNumber__step_now.nd rfl (Or.inl rfl))) (fun _ _ _ _ _ => pts_nil) (fun _ _ _ _ _ => (pe_ix (show IxR _ (rIxL K) from ix_list) (show PE _ _ (tFld K _ "worths") from pe_fld (pv 0) rfl) (pv 1) (fun _ _ => rfl)))) pa_nil)))), ?_⟩
    refine ⟨_, rfl, p, _, dx, _, _, rfl, e, T.cl_KeptNumber, T.na_KeptNumber_figures, kf_figures _ _ _ _, l, rfl, ⟨_, .of hK.fg⟩, fun D hD => ?_⟩
    refine lc_list (xs := ivs fs) (fun i H' => Same H H' ∧ H' D = some (.lst (ivs ((fs.take i).map (· ^ pw))))) ⟨Same.new hD, upd_same⟩ ?_ ?_ ?_
    · rintro i H' hi ⟨s2, e2⟩
      exact .of (s2 _ _ hK.fg)
    · rintro i x H' hx ⟨s2, e2⟩
      obtain ⟨k, hk, rfl⟩ := ivs_get hx
      have kb := hK.good.lt k (List.mem_of_getElem? hk)
      have hi : i < fs.length := (List.getElem?_eq_some_iff.mp hk).1
      refine ⟨rfl, _, rfl, p, _, dx, _, _, rfl, s2 _ _ e, T.cl_KeptNumber, T.na_KeptNumber_worths, kf_worths _ _ _ _, _, rfl, w, _, _, _, rfl, rfl, .of (s2 _ _ hK.ws), atI_nat (ivs_at (wts_get kb)), ?_⟩
      refine ⟨_, e2, small_len ?_, same_own s2 hD, ?_⟩
      · rw [ivs_length, List.length_map, List.length_take]
        omega
      · rw [upd_same, List.take_add_one, hk, List.map_append, ivs_append]
        rfl
    · rintro H' ⟨s2, e2⟩
      rw [ivs_length, List.take_length, ivs_map] at e2
      refine ⟨D, _, rfl, .of e2, ?_⟩
      rw [sum_cast]
      exact q H' s2

/-! ### _law_told -/
/-- number, step, end in a list -/
def ToldAt (b pw : Nat) (fs : List Nat) (H : Hp) (t : Addr) : Prop := ∃ (e : Addr) (A m : Nat), H t = some (.lst [.int (val b fs : Nat), .int ((fs.map (· ^ pw)).sum : Nat), .ref e]) ∧ H e = some (.tup (ivs [A, m])) ∧ EndAt b pw (val b fs) A m
theorem ToldAt.same {b pw : Nat} {fs : List Nat} {H H' : Hp} {t : Addr} (h : ToldAt b pw fs H t) (s : Same H H') : ToldAt b pw fs H' t := by
  obtain ⟨e, A, m, x, y, z⟩ := h
  exact ⟨e, A, m, s _ _ x, s _ _ y, z⟩
theorem ToldAt.dp {K : PySem.W.Frag} {b pw A m : Nat} {fs : List Nat} {H : Hp} {t : Addr} (h : ToldAt b pw fs H t) (en : EndAt b pw (val b fs) A m) : Dp K H (.ref t) (.list [.int (val b fs : Nat), .int ((fs.map (· ^ pw)).sum : Nat), .tuple (dInts ([A, m].map fun (k : Nat) => (k : Int)))]) := by
  obtain ⟨e, A', m', x, y, z⟩ := h
  obtain ⟨rfl, rfl⟩ := z.uniq en
  exact .lst (.of x) (.cons (.int _) (.cons (.int _) (.cons (.tup (.of y) (dpAll_ivs _)) .nil)))
theorem shaped_told (x y : Int) (l : List Int) : SeqAt.shaped (.list [.int x, .int y, .tuple (dInts l)]) = true := by
  refine shaped_list ?_ ?_
  · rw [PyData.canLayAll0, PyData.canLayAll0, PyData.canLayAll0, PyData.canLayAll0, PyData.canLay0, PyData.canLay0, PyData.canLay0, canLay_ints]
    rfl
  · have := depth_ints l
    unfold PyData.depthAll PyData.depthAll PyData.depthAll PyData.depthAll PyData.depth
    omega
def sp__law_told (K : PySem.W.Frag) (C : Addr) : Sp := fun vs H Q _ => ∃ (p w l : Addr) (b pw : Nat) (fs : List Nat), vs = [.ref p] ∧ KeptAt C H p w l b pw fs ∧ ∀ H' t, Same H H' → H t = none → ToldAt b pw fs H' t → Q (.ref t) H'
theorem ok__law_told (T : Txt K mg) : FnOk P w K mg base CX0 6 T.f__law_told T.fd__law_told ["kept"] (sp__law_told K T.k_KeptNumber) := by
  refine T.F__law_told.ok sc__law_told (fun vs H Q E h => ?_) (fun cdv A outer s H vs Q E hr h => ?_)
  · obtain ⟨_, _, _, _, _, _, rfl, _⟩ := h
    rfl
  · obtain ⟨p, w, l, b, pw, fs, rfl, hK, q⟩ := h
    obtain ⟨dx, e⟩ := hK.ins
    refine ⟨_, (pss_cons (ps_set (i := 1) sc__law_told.nd rfl (Or.inl rfl) (pe_meth0 (pv 0) T.cl_KeptNumber T.me_KeptNumber__end_now (ok_KeptNumber__end_now T) hr T.b_KeptNumber__end_now .nil pass0))
      (pss_cons (ps_set (i := 2) sc__law_told.nd rfl (Or.inl rfl) (pe_meth0 (pv 0) T.cl_KeptNumber T.me_KeptNumber__step_now (ok_KeptNumber__step_now T) (hr.mono (by decide)) T.b_KeptNumber__step_now .nil pass0))
      (pss_one (ps_ret (pe_lst (pa_cons (pe_meth0 (pv 0) T.cl_KeptNumber T.me_KeptNumber__number_now (ok_KeptNumber__number_now T) (hr.mono (by decide)) T.b_KeptNumber__number_now .nil pass0) (pa_cons (pv 2) (pa_cons (pv 1) pa_nil)))))))), ?_⟩
    refine ⟨_, rfl, p, dx, _, rfl, e, kf_no _ _ _ _ (by decide +kernel) (by decide +kernel) (by decide +kernel) (by decide +kernel), p, w, l, b, pw, fs, rfl, hK, fun H1 t A m s1 nt et en => ?_⟩
    refine ⟨_, rfl, p, dx, _, rfl, s1 _ _ e, kf_no _ _ _ _ (by decide +kernel) (by decide +kernel) (by decide +kernel) (by decide +kernel), p, w, l, b, pw, fs, rfl, hK.same s1, fun H2 s2 => ?_⟩
    refine ⟨_, rfl, p, dx, _, rfl, s2 _ _ (s1 _ _ e), kf_no _ _ _ _ (by decide +kernel) (by decide +kernel) (by decide +kernel) (by decide +kernel), p, w, l, b, pw, fs, rfl, (hK.same s1).same s2, _, rfl, _, rfl, by show 3 ≤ sizeLine; decide, fun z hz => ?_⟩
    exact q _ z (s1.trans (s2.trans (Same.new hz))) (s1.free (s2.free hz)) ⟨t, A, m, upd_same, Same.new hz _ _ (s2 _ _ et), en⟩

/-! ### KeptNumber__check_figure -/
def sp_KeptNumber__check_figure (C : Addr) : Sp := fun vs H Q _ => ∃ (p w l : Addr) (b pw f : Nat) (fs : List Nat), vs = [.ref p, .int (f : Int)] ∧ KeptAt C H p w l b pw fs ∧ f < b ∧ Q .non H
theorem ok_KeptNumber__check_figure (T : Txt K mg) : FnOk P w K mg base CX0 1 T.f_KeptNumber__check_figure T.fd_KeptNumber__check_figure ["self", "figure"] (sp_KeptNumber__check_figure T.k_KeptNumber) := by
  refine T.F_KeptNumber__check_figure.ok sc_KeptNumber__check_figure (fun vs H Q E h => ?_) (fun cdv A outer s H vs Q E hr h => ?_)
  · obtain ⟨_, _, _, _, _, _, _, rfl, _⟩ := h
    rfl
  · obtain ⟨p, w, l, b, pw, f, fs, rfl, hK, hf, q⟩ := h
    obtain ⟨dx, e⟩ := hK.ins
    refine ⟨_, (pss_one (ps_if (PW.pt (pw_or (pt_cmpR op_lt (pv 1) pe_int (nomark _)) (pw_or1 (pt_cmpR op_ge (pv 1) (pe_fld (pv 0) rfl) (nomark _))))) (pss_one ps_never) pss_nil)), ?_⟩
    refine ⟨_, rfl, _, _, rfl, rfl, _, rfl, ?_⟩
    rw [decide_eq_false (show ¬ ((f : Int) < 0) by omega)]
    refine iteF ?_
    refine ⟨_, rfl, _, rfl, p, _, dx, _, _, rfl, e, T.cl_KeptNumber, T.na_KeptNumber_base, kf_base _ _ _ _, _, _, rfl, rfl, _, rfl, ?_⟩
    rw [decide_eq_false (show ¬ ((f : Int) ≥ (b : Int)) by omega)]
    refine iteF ?_
    exact q

/-! ### KeptNumber__set_figure -/
def sp_KeptNumber__set_figure (C : Addr) : Sp := fun vs H Q _ => ∃ (p w l : Addr) (b pw pl f : Nat) (fs : List Nat), vs = [.ref p, .int (pl : Int), .int (f : Int)] ∧ KeptAt C H p w l b pw fs ∧ f < b ∧ pl < fs.length ∧ (f = 0 → pl + 1 = fs.length → fs.length = 1) ∧
  ∀ H', KeptAt C H' p w l b pw (fs.set (fs.length - 1 - pl) f) → Frm [p, l] H H' → Q .non H'
theorem ok_KeptNumber__set_figure (T : Txt K mg) : FnOk P w K mg base CX0 2 T.f_KeptNumber__set_figure T.fd_KeptNumber__set_figure ["self", "place", "figure"] (sp_KeptNumber__set_figure T.k_KeptNumber) := by
  refine T.F_KeptNumber__set_figure.ok sc_KeptNumber__set_figure (fun vs H Q E h => ?_) (fun cdv A outer s H vs Q E hr h => ?_)
  · obtain ⟨_, _, _, _, _, _, _, _, rfl, _⟩ := h
    rfl
  · obtain ⟨p, w, l, b, pw, pl, f, fs, rfl, hK, hf, hp, hz, q⟩ := h
    obtain ⟨dx, e⟩ := hK.ins
    have npl := hK.pl
    have npw := hK.pw
    refine ⟨_, (pss_cons (ps_set (i := 3) sc_KeptNumber__set_figure.nd rfl (Or.inl rfl) (pe_callB (id := "len") call_len_seq (by rfl) T.m_len (by decide +kernel) (pa_cons (pe_fld (pv 0) rfl) pa_nil)))
      (pss_cons (ps_if (PW.pt (pw_or (pt_cmpR op_lt (pv 1) pe_int (nomark _)) (pw_or1 (pt_cmpR op_ge (pv 1) (pv 3) (nomark _))))) (pss_one ps_never) pss_nil)
      (pss_cons (ps_expr (pe_meth (pv 0) T.cl_KeptNumber T.me_KeptNumber__check_figure (ok_KeptNumber__check_figure T) hr T.b_KeptNumber__check_figure .nil pass0 (pa_cons (pv 2) pa_nil)))
      (C8.pss_cut (ps_if (PW.pt (pw_and (pt_cmpR op_eq (pv 2) pe_int (nomark _)) (pw_and (pt_cmpR op_eq (pv 1) (pe_op op_sub (pv 3) pe_int) (nomark _)) (pw_and1 (pt_cmpR op_gt (pv 3) pe_int (nomark _)))))) (pss_one ps_never) pss_nil)
      (pss_one (ps_asg (pv 2) (pg_sub (pe_fld (pv 0) rfl) (pe_op op_sub (pe_op op_sub (pv 3) pe_int) (pv 1)) set_list))))))), ?_⟩
    -- many
    refine ⟨_, rfl, p, _, dx, _, _, rfl, e, T.cl_KeptNumber, T.na_KeptNumber_figures, kf_figures _ _ _ _, l, _, rfl, .inl (.of hK.fg), ?_⟩
    rw [ivs_length]
    refine ⟨_, rfl, _, _, rfl, rfl, _, rfl, ?_⟩
    rw [decide_eq_false (show ¬ ((pl : Int) < 0) by omega)]
    refine iteF ?_
    refine ⟨_, rfl, _, rfl, _, _, rfl, rfl, _, rfl, ?_⟩
    rw [decide_eq_false (show ¬ ((pl : Int) ≥ (fs.length : Int)) by omega)]
    refine iteF ?_
    refine ⟨_, rfl, p, dx, _, rfl, e, kf_no _ _ _ _ (by decide +kernel) (by decide +kernel) (by decide +kernel) (by decide +kernel), _, rfl, p, w, l, b, pw, f, fs, rfl, hK, hf, ?_⟩
    -- figure == 0 and place == many - 1 and many > 1
    refine ⟨fun σ' H' => H' = H ∧ σ' = [some (.ref p), some (.int (pl : Int)), some (.int (f : Int)), some (.int ((fs.length : Nat) : Int))], ?_, ?_⟩
    · refine ⟨_, rfl, rfl, _, rfl, ?_⟩
      by_cases c : f = 0
      · subst c
        refine iteT ?_
        refine ⟨_, rfl, _, rfl, _, _, rfl, rfl, rfl, _, rfl, ?_⟩
        by_cases c2 : pl + 1 = fs.length
        · have := hz rfl c2
          rw [decide_eq_true (show V.int (pl : Int) = V.int (((fs.length : Nat) : Int) - 1) by congr 1; omega)]
          refine iteT ?_
          refine ⟨_, rfl, _, _, rfl, rfl, _, rfl, ?_⟩
          rw [decide_eq_false (show ¬ (((fs.length : Nat) : Int) > 1) by omega)]
          exact iteF ⟨rfl, rfl⟩
        · rw [decide_eq_false (show ¬ (V.int (pl : Int) = V.int (((fs.length : Nat) : Int) - 1)) from fun z => c2 (by injection z with z; omega))]
          exact iteF (iteF ⟨rfl, rfl⟩)
      · rw [decide_eq_false (show ¬ (V.int (f : Int) = V.int 0) from fun z => c (by injection z with z; omega))]
        exact iteF (iteF ⟨rfl, rfl⟩)
    · rintro σ' H' ⟨rfl, rfl⟩
      refine ⟨_, rfl, _, rfl, p, _, dx, _, _, rfl, e, T.cl_KeptNumber, T.na_KeptNumber_figures, kf_figures _ _ _ _, _, rfl, _, _, rfl, rfl, _, rfl, _, _, rfl, rfl, l, _, _, fs.length - 1 - pl, rfl, rfl, hK.fg, ?_, ?_⟩
      · rw [ivs_length, show (((fs.length : Nat) : Int) - 1 - (pl : Int)) = ((fs.length - 1 - pl : Nat) : Int) by omega]
        exact ixN_of (by omega)
      · rw [ivs_set]
        generalize g1 : upd _ l _ = H1
        obtain ⟨b1, t1⟩ := set_of g1
        have F : Frm [p, l] _ H1 := (Frm.but b1 ⟨_, t1⟩).mono (by simp)
        exact q H1 ⟨⟨dx, b1 _ _ npl e⟩, b1 _ _ hK.wl hK.ws, t1, hK.wl, hK.ok, hK.good.set hf⟩ F

/-! ### KeptNumber__put_figure -/
def sp_KeptNumber__put_figure (C : Addr) : Sp := fun vs H Q _ => ∃ (p w l : Addr) (b pw f : Nat) (fs : List Nat), vs = [.ref p, .int (f : Int)] ∧ KeptAt C H p w l b pw fs ∧ f < b ∧ fs.length < 40 ∧
  ∀ H' l', KeptAt C H' p w l' b pw (putFs fs f) → (l' = l ∨ H l' = none) → Frm [p, l] H H' → Q .non H'
theorem ok_KeptNumber__put_figure (T : Txt K mg) : FnOk P w K mg base CX0 2 T.f_KeptNumber__put_figure T.fd_KeptNumber__put_figure ["self", "figure"] (sp_KeptNumber__put_figure T.k_KeptNumber) := by
  refine T.F_KeptNumber__put_figure.ok sc_KeptNumber__put_figure (fun vs H Q E h => ?_) (fun cdv A outer s H vs Q E hr h => ?_)
  · obtain ⟨_, _, _, _, _, _, _, rfl, _⟩ := h
    rfl
  · obtain ⟨p, w, l, b, pw, f, fs, rfl, hK, hf, hl, q⟩ := h
    obtain ⟨dx, e⟩ := hK.ins
    have npl := hK.pl
    have npw := hK.pw
    refine ⟨_, (pss_cons (ps_expr (pe_meth (pv 0) T.cl_KeptNumber T.me_KeptNumber__check_figure (ok_KeptNumber__check_figure T) hr T.b_KeptNumber__check_figure .nil pass0 (pa_cons (pv 1) pa_nil)))
      (pss_cons (ps_if (pt_cmpR (op_eqD hr.units) (pe_fld (pv 0) rfl) (pe_lst (pa_cons pe_int pa_nil)) (nomark _)) (pss_one (ps_fld (pv 0) (pe_lst pa_nil) rfl)) pss_nil)
      (pss_one (ps_expr (pe_bm PySem.F.plainAttrs_list PySem.F.slot_list_append PySem.F.type_list_append mt_append (pe_fld (pv 0) rfl) (pa_cons (pv 1) pa_nil)))))), ?_⟩
    refine ⟨_, rfl, p, dx, _, rfl, e, kf_no _ _ _ _ (by decide +kernel) (by decide +kernel) (by decide +kernel) (by decide +kernel), _, rfl, p, w, l, b, pw, f, fs, rfl, hK, hf, ?_⟩
    -- self.figures == [0]
    refine ⟨_, rfl, p, _, dx, _, _, rfl, e, T.cl_KeptNumber, T.na_KeptNumber_figures, kf_figures _ _ _ _, by show 1 ≤ sizeLine; decide, fun z hz => ?_⟩
    generalize g1 : upd H z _ = H1
    obtain ⟨s1, t1⟩ := new_of g1 hz
    have f1 : SqL K H1 l (ivs fs) := .of (s1 _ _ hK.fg)
    refine ⟨_, _, .lst f1 (dpAll_ivs fs), .lst (.of t1) (dpAll_ivs [0]), shaped_ints _, shaped_ints _, _, rfl, ?_⟩
    rw [eqv_nats]
    by_cases c : fs = [0]
    · rw [decide_eq_true c]
      refine iteT ?_
      refine ⟨Nat.zero_le _, fun l2 h2 => ?_⟩
      generalize g2 : upd H1 l2 _ = H2
      obtain ⟨s2, t2⟩ := new_of g2 h2
      have l20 := s1.free h2
      have e2 := s2 _ _ (s1 _ _ e)
      have np2 : p ≠ l2 := ne_of_none e l20
      refine ⟨_, rfl, p, _, dx, _, rfl, e2, T.cl_KeptNumber, T.na_KeptNumber_figures, kf_len _ _ _ _, ?_⟩
      rw [kf_put]
      generalize g3 : upd H2 p _ = H3
      obtain ⟨b3, t3⟩ := set_of g3
      have l3 : H3 l2 = some (.lst []) := b3 _ _ np2.symm t2
      refine ⟨_, rfl, p, _, dx, _, _, rfl, t3, T.cl_KeptNumber, T.na_KeptNumber_figures, kf_figures _ _ _ _, .inl ⟨rfl, _, .of l3⟩, _, rfl, l2, _, _, rfl, rfl, l3, by decide, ?_⟩
      generalize g4 : upd H3 l2 _ = H4
      obtain ⟨b4, t4⟩ := set_of g4
      have F : Frm [l2, p, l] H H4 := (Frm.of _ (s1.trans s2)).trans (((Frm.but b3 ⟨_, t3⟩).mono (by simp)).trans ((Frm.but b4 ⟨_, t4⟩).mono (by simp)))
      have F' := F.drop l20
      refine q H4 l2 ⟨⟨dx, b4 _ _ np2 t3⟩, F'.kp _ _ ?_ hK.ws, ?_, ne_of_none hK.ws l20, hK.ok, hK.good.put hf hl⟩ (.inr l20) F'
      · simp only [List.mem_cons, List.not_mem_nil, or_false, not_or]
        exact ⟨npw.symm, hK.wl⟩
      · rw [t4]
        unfold putFs
        rw [if_pos c]
        rfl
    · rw [decide_eq_false c]
      refine iteF ?_
      have e1 := s1 _ _ e
      have l1 := s1 _ _ hK.fg
      refine ⟨_, rfl, p, _, dx, _, _, rfl, e1, T.cl_KeptNumber, T.na_KeptNumber_figures, kf_figures _ _ _ _, .inl ⟨rfl, _, .of l1⟩, _, rfl, l, _, _, rfl, rfl, l1, small_len (by rw [ivs_length]; omega), ?_⟩
      generalize g4 : upd H1 l _ = H4
      obtain ⟨b4, t4⟩ := set_of g4
      have F : Frm [p, l] H H4 := (Frm.of _ s1).trans ((Frm.but b4 ⟨_, t4⟩).mono (by simp))
      refine q H4 l ⟨⟨dx, b4 _ _ npl e1⟩, b4 _ _ hK.wl (s1 _ _ hK.ws), ?_, hK.wl, hK.ok, hK.good.put hf hl⟩ (.inl rfl) F
      rw [t4]
      unfold putFs
      rw [if_neg c, ivs_append]
      rfl

/-! ### KeptNumber__take_off -/
def sp_KeptNumber__take_off (C : Addr) : Sp := fun vs H Q _ => ∃ (p w l : Addr) (b pw : Nat) (fs : List Nat), vs = [.ref p] ∧ KeptAt C H p w l b pw fs ∧
  ∀ H' l', KeptAt C H' p w l' b pw (offFs fs) → (l' = l ∨ H l' = none) → Frm [p, l] H H' → Q .non H'
theorem ok_KeptNumber__take_off (T : Txt K mg) : FnOk P w K mg base CX0 1 T.f_KeptNumber__take_off T.fd_KeptNumber__take_off ["self"] (sp_KeptNumber__take_off T.k_KeptNumber) := by
  refine T.F_KeptNumber__take_off.ok sc_KeptNumber__take_off (fun vs H Q E h => ?_) (fun cdv A outer s H vs Q E hr h => ?_)
  · obtain ⟨_, _, _, _, _, _, rfl, _⟩ := h
    rfl
  · obtain ⟨p, w, l, b, pw, fs, rfl, hK, q⟩ := h
    obtain ⟨dx, e⟩ := hK.ins
    have npl := hK.pl
    have npw := hK.pw
    refine ⟨_, (pss_cons (ps_expr (pe_bm0 PySem.F.plainAttrs_list PySem.F.slot_list_pop PySem.F.type_list_pop mt_pop (pe_fld (pv 0) rfl)))
      (pss_one (ps_if (pt_cmpR (op_eqD hr.units) (pe_fld (pv 0) rfl) (pe_lst pa_nil) (nomark _)) (pss_one (ps_fld (pv 0) (pe_lst (pa_cons pe_int pa_nil)) rfl)) pss_nil))), ?_⟩
    have l0 := List.length_pos_iff.mpr hK.good.ne
    have hlast : (ivs fs)[(ivs fs).length - 1]? = some (.int ((fs[fs.length - 1]'(by omega) : Nat) : Int)) := by
      rw [ivs_length]
      exact ivs_at (List.getElem?_eq_getElem (by omega))
    refine ⟨_, rfl, p, _, dx, _, _, rfl, e, T.cl_KeptNumber, T.na_KeptNumber_figures, kf_figures _ _ _ _, .inl ⟨rfl, _, .of hK.fg⟩, l, _, _, rfl, rfl, hK.fg, hlast, ?_⟩
    rw [ivs_dropLast]
    generalize g1 : upd H l _ = H1
    obtain ⟨b1, t1⟩ := set_of g1
    have e1 := b1 _ _ npl e
    have w1 := b1 _ _ hK.wl hK.ws
    -- self.figures == []
    refine ⟨_, rfl, p, _, dx, _, _, rfl, e1, T.cl_KeptNumber, T.na_KeptNumber_figures, kf_figures _ _ _ _, Nat.zero_le _, fun z hz => ?_⟩
    generalize g2 : upd H1 z _ = H2
    obtain ⟨s2, t2⟩ := new_of g2 hz
    have f2 : SqL K H2 l (ivs fs.dropLast) := .of (s2 _ _ t1)
    refine ⟨_, _, .lst f2 (dpAll_ivs _), .lst (.of t2) (dpAll_ivs []), shaped_ints _, shaped_ints _, _, rfl, ?_⟩
    rw [eqv_nats]
    have F2 : Frm [l] H H2 := (Frm.but b1 ⟨_, t1⟩).trans (Frm.of _ s2)
    have dl : fs.dropLast = [] ↔ fs.length = 1 := by
      rw [← List.length_eq_zero_iff, List.length_dropLast]
      omega
    by_cases c : fs.length = 1
    · rw [decide_eq_true (dl.mpr c)]
      refine iteT ?_
      refine ⟨by show 1 ≤ sizeLine; decide, fun l2 h2 => ?_⟩
      generalize g3 : upd H2 l2 _ = H3
      obtain ⟨s3, t3⟩ := new_of g3 h2
      have l20 := F2.fr _ h2
      have e3 := s3 _ _ (s2 _ _ e1)
      have np2 : p ≠ l2 := ne_of_none e l20
      refine ⟨_, rfl, p, _, dx, _, rfl, e3, T.cl_KeptNumber, T.na_KeptNumber_figures, kf_len _ _ _ _, ?_⟩
      rw [kf_put]
      generalize g4 : upd H3 p _ = H4
      obtain ⟨b4, t4⟩ := set_of g4
      have F : Frm [p, l] H H4 := (F2.mono (by simp)).trans ((Frm.of _ s3).trans ((Frm.but b4 ⟨_, t4⟩).mono (by simp)))
      refine q H4 l2 ⟨⟨dx, t4⟩, F.kp _ _ ?_ hK.ws, ?_, ne_of_none hK.ws l20, hK.ok, hK.good.off hK.ok.hb⟩ (.inr l20) F
      · simp only [List.mem_cons, List.not_mem_nil, or_false, not_or]
        exact ⟨npw.symm, hK.wl⟩
      · rw [b4 _ _ np2.symm t3]
        unfold offFs
        rw [if_pos c]
        rfl
    · rw [decide_eq_false (fun z => c (dl.mp z))]
      refine iteF ?_
      refine q H2 l ⟨⟨dx, s2 _ _ e1⟩, s2 _ _ w1, ?_, hK.wl, hK.ok, hK.good.off hK.ok.hb⟩ (.inl rfl) (F2.mono (by simp))
      rw [s2 _ _ t1]
      unfold offFs
      rw [if_neg c]

/-! ### _law_deed -/
theorem setFs {fs : List Nat} {i f : Nat} (h : i < fs.length) : fs.take i ++ [f] ++ fs.drop (i + 1) = fs.set i f := by
  rw [List.set_eq_take_append_cons_drop, if_pos h, List.append_assoc]
  rfl
theorem offFs_eq (fs : List Nat) (h : fs ≠ []) : fs.take (fs.length - 1) ++ (List.replicate (if fs.length = 1 then 1 else 0) [0]).flatten = offFs fs := by
  unfold offFs
  by_cases c : fs.length = 1
  · rw [if_pos c, if_pos c, c]
    rfl
  · rw [if_neg c, if_neg c, List.dropLast_eq_take]
    simp
def sp__law_deed (K : PySem.W.Frag) (C : Addr) : Sp := fun vs H Q _ => ∃ (d c p w l a : Addr) (n b pw : Nat) (fs : List Nat), vs = [.ref d, .ref p, .ref a, .int (b : Int)] ∧ Deck H d c n ∧ n < 2 ^ 39 ∧ KeptAt C H p w l b pw fs ∧ Reads b fs ∧ fs.length < 40 ∧ H a = some (.lst (ivs fs)) ∧ a ≠ l ∧ c ≠ l ∧
  ∀ H' l' a' fs', Frm [d, p, l] H H' → Deck H' d c (n + 3) → KeptAt C H' p w l' b pw fs' → (l' = l ∨ H l' = none) → H a' = none → a' ≠ l' → H' a' = some (.lst (ivs fs')) → Reads b fs' → fs'.length ≤ fs.length + 1 → (fs = [0] → fs'.length = 1) → Q (.ref a') H'
theorem ok__law_deed (T : Txt K mg) : FnOk P w K mg base CX0 3 T.f__law_deed T.fd__law_deed ["deck", "kept", "figures", "base"] (sp__law_deed K T.k_KeptNumber) := by
  refine T.F__law_deed.ok sc__law_deed (fun vs H Q E h => ?_) (fun cdv A outer s H vs Q E hr h => ?_)
  · obtain ⟨_, _, _, _, _, _, _, _, _, _, rfl, _⟩ := h
    rfl
  · obtain ⟨d, c, p, w, l, a, n, b, pw, fs, rfl, hD, hn, hK, hR, l40, ea, nal, ncl, q⟩ := h
    have nad := hD.notInts ea
    have ok := hK.ok
    have hb16 := ok.hb16
    have hb := ok.hb
    have fl := hK.good.len
    have f0 := List.length_pos_iff.mpr hK.good.ne
    have kd := hK.deck hD
    have npc : c ≠ p := by
      obtain ⟨_, _, _, _, _, _, ec, _⟩ := hD.ex
      obtain ⟨dx, e⟩ := hK.ins
      exact ne_of ec e (fun z => by cases z)
    have npa : a ≠ p := by
      obtain ⟨dx, e⟩ := hK.ins
      exact ne_of ea e (fun z => by cases z)
    have notIn : ∀ {x : Addr}, x ≠ p → x ≠ l → x ∉ [p, l] := fun h1 h2 => by
      simp only [List.mem_cons, List.not_mem_nil, or_false, not_or]
      exact ⟨h1, h2⟩
    have fin : ∀ {H2 H3 H4 : Hp} {l3 x : Addr} {fs' : List Nat} {m : Nat}, But d H H2 → Deck H2 d c m → m ≤ n + 3 → KeptAt T.k_KeptNumber H3 p w l3 b pw fs' → (l3 = l ∨ H2 l3 = none) → Frm [p, l] H2 H3 → Same H3 H4 → H3 x = none → H4 x = some (.lst (ivs fs')) → Reads b fs' → fs'.length ≤ fs.length + 1 → (fs = [0] → fs'.length = 1) → Q (.ref x) H4 := fun {H2 H3 H4 l3 x fs' m} b2 D2 dn k3 o3 F3 s4 nx ex rd ll l1 => by
      have F2 : Frm [d, p, l] H H2 := (Frm.but b2 D2.there).mono (by simp)
      have D3 := D2.frm F3 (notIn kd.1.symm kd.2.2.symm) (notIn npc ncl)
      have F5 : Frm [d, p, l] H H4 := F2.trans ((F3.mono (by simp)).trans (Frm.of _ s4))
      refine q _ l3 x fs' F5 ((D3.same s4).mono dn) (k3.same s4) ?_ (F2.fr _ (F3.fr _ nx)) (ne_of_none k3.fg nx).symm ex rd ll l1
      rcases o3 with o | o
      · exact .inl o
      · exact .inr (F2.fr _ o)
    refine ⟨_, (pss_cons (ps_set (i := 4) sc__law_deed.nd rfl (Or.inl rfl) (pe_call (ok__law_next T) hr (by rfl) T.g__law_next T.F__law_next.kp T.b__law_next .nil pass0 (pa_cons (pv 0) (pa_cons pe_int pa_nil))))
      (pss_cons (ps_set (i := 5) sc__law_deed.nd rfl (Or.inl rfl) (pe_call (ok__law_next T) hr (by rfl) T.g__law_next T.F__law_next.kp T.b__law_next .nil pass0 (pa_cons (pv 0) (pa_cons (pv 3) pa_nil))))
      (pss_cons (ps_if (pt_cmpR op_lt (pv 4) pe_int (nomark _)) (pss_cons (ps_expr (pe_meth (pv 1) T.cl_KeptNumber T.me_KeptNumber__put_figure (ok_KeptNumber__put_figure T) hr T.b_KeptNumber__put_figure .nil pass0 (pa_cons (pv 5) pa_nil)))
      (pss_one (ps_ret (pe_op op_cat (pe_ix ix_list (pe_lst (pa_cons (pv 2) (pa_cons (pe_lst pa_nil) pa_nil))) (pe_callTy (T := "int") call_int1 (by rfl) T.m_int (by decide +kernel) (pa_cons (pe_cmpR (op_eqD hr.units) (pv 2) (pe_lst (pa_cons pe_int pa_nil)) (nomark _)) pa_nil)) (fun _ _ => rfl)) (pe_lst (pa_cons (pv 5) pa_nil)))))) pss_nil)
      (pss_cons (ps_if (pt_cmpR op_eq (pv 4) pe_int (nomark _)) (pss_cons (ps_expr (pe_meth0 (pv 1) T.cl_KeptNumber T.me_KeptNumber__take_off (ok_KeptNumber__take_off T) (hr.mono (by decide)) T.b_KeptNumber__take_off .nil pass0))
      (pss_one (ps_ret (pe_op op_cat (pe_slice sl_list (pv 2) po_none (po_some (pe_un un_neg pe_int))) (pe_op op_rep (pe_lst (pa_cons pe_int pa_nil)) (pe_callTy (T := "int") call_int1 (by rfl) T.m_int (by decide +kernel) (pa_cons (pe_cmpR op_eq (pe_callB (id := "len") call_len_seq (by rfl) T.m_len (by decide +kernel) (pa_cons (pv 2) pa_nil)) pe_int (nomark _)) pa_nil))))))) pss_nil)
      (pss_cons (ps_set (i := 6) sc__law_deed.nd rfl (Or.inl rfl) (pe_call (ok__law_next T) hr (by rfl) T.g__law_next T.F__law_next.kp T.b__law_next .nil pass0 (pa_cons (pv 0) (pa_cons (pe_callB (id := "len") call_len_seq (by rfl) T.m_len (by decide +kernel) (pa_cons (pv 2) pa_nil)) pa_nil))))
      (C8.pss_cut (ps_set (i := 5) sc__law_deed.nd rfl (Or.inl rfl) (pe_callB (id := "max") (call_max2 rfl) (by rfl) T.m_max (by decide +kernel) (pa_cons (pe_callTy (T := "int") call_int1 (by rfl) T.m_int (by decide +kernel) (pa_cons (pe_cmpR op_gt (pv 6) pe_int (nomark _)) pa_nil)) (pa_cons (pv 5) pa_nil))))
      (pss_cons (ps_expr (pe_meth (pv 1) T.cl_KeptNumber T.me_KeptNumber__set_figure (ok_KeptNumber__set_figure T) hr T.b_KeptNumber__set_figure .nil pass0 (pa_cons (pv 6) (pa_cons (pv 5) pa_nil))))
      (C8.pss_cut (ps_set (i := 7) sc__law_deed.nd rfl (Or.inl rfl) (pe_op op_sub (pe_op op_sub (pe_callB (id := "len") call_len_seq (by rfl) T.m_len (by decide +kernel) (pa_cons (pv 2) pa_nil)) pe_int) (pv 6)))
      (pss_one (ps_ret (pe_op op_cat (pe_op op_cat (pe_slice sl_list (pv 2) po_none (po_some (pv 7))) (pe_lst (pa_cons (pv 5) pa_nil))) (pe_slice sl_list (pv 2) (po_some (pe_op op_add (pv 7) pe_int)) po_none)))))))))))), ?_⟩
    -- way, figure
    refine ⟨_, rfl, d, 6, c, n, rfl, hD, by omega, by decide, by decide, fun H1 wy b1 D1 r0 r1 => ?_⟩
    refine ⟨_, rfl, _, rfl, d, (b : Int), c, n + 1, rfl, D1, by omega, by omega, by omega, fun H2 r b2' D2 r20 r21 => ?_⟩
    obtain ⟨f, rfl⟩ : ∃ f : Nat, r = (f : Int) := ⟨r.toNat, by omega⟩
    have hf : f < b := by omega
    have b2 := b1.trans b2'
    have K2 := hK.but hD b2
    have a2 := b2 _ _ nad ea
    obtain ⟨dx, e2⟩ := K2.ins
    -- if way < 3
    refine ⟨_, rfl, _, _, rfl, rfl, _, rfl, ite2 (fun c4 => ?_) (fun _ => ?_)⟩
    · refine ⟨_, rfl, p, dx, _, rfl, e2, kf_no _ _ _ _ (by decide +kernel) (by decide +kernel) (by decide +kernel) (by decide +kernel), _, rfl, p, w, l, b, pw, f, fs, rfl, K2, hf, l40, fun H3 l3 k3 o3 F3 => ?_⟩
      have a3 : H3 a = some (.lst (ivs fs)) := F3.kp _ _ (notIn npa nal) a2
      refine ⟨_, rfl, Nat.zero_le _, fun z1 h1 => ?_⟩
      generalize g4 : upd H3 z1 _ = H4
      obtain ⟨s4, t4⟩ := new_of g4 h1
      refine ⟨by show 2 ≤ sizeLine; decide, fun z2 h2 => ?_⟩
      generalize g5 : upd H4 z2 _ = H5
      obtain ⟨s5, t5⟩ := new_of g5 h2
      refine ⟨_, rfl, by show 1 ≤ sizeLine; decide, fun z3 h3 => ?_⟩
      generalize g6 : upd H5 z3 _ = H6
      obtain ⟨s6, t6⟩ := new_of g6 h3
      have a6 := s6 _ _ (s5 _ _ (s4 _ _ a3))
      refine ⟨_, _, .lst (.of a6) (dpAll_ivs fs), .lst (.of t6) (dpAll_ivs [0]), shaped_ints _, shaped_ints _, .inr ⟨_, rfl, ?_⟩⟩
      rw [eqv_nats]
      have t5' := s6 _ _ t5
      have s36 := s4.trans (s5.trans s6)
      have pl : (putFs fs f).length ≤ fs.length + 1 := putFs_len
      have p1 : fs = [0] → (putFs fs f).length = 1 := fun z => by rw [z, put_first]; rfl
      by_cases c0 : fs = [0]
      · rw [decide_eq_true c0]
        refine ⟨z2, _, 1, _, rfl, rfl, .of t5', atI_nat (j := 1) rfl, ?_⟩
        refine ⟨_, rfl, by show 1 ≤ sizeLine; decide, fun z4 h4 => ?_⟩
        have tz := s6 _ _ (s5 _ _ t4)
        refine ⟨z1, z4, _, _, rfl, rfl, Same.new h4 _ _ tz, upd_same, by show 1 ≤ sizeLine; decide, fun z5 h5 => ?_⟩
        have s7 : Same H6 (upd H6 z4 (.lst [.int (f : Int)])) := Same.new h4
        refine fin b2 D2 (by omega) k3 o3 F3 (s36.trans (s7.trans (Same.new h5))) (s36.free (s7.free h5)) ?_ (hR.put hf) pl p1
        rw [upd_same, c0, put_first]
        rfl
      · rw [decide_eq_false c0]
        refine ⟨z2, _, 0, _, rfl, rfl, .of t5', atI_nat (j := 0) rfl, ?_⟩
        refine ⟨_, rfl, by show 1 ≤ sizeLine; decide, fun z4 h4 => ?_⟩
        refine ⟨a, z4, _, _, rfl, rfl, Same.new h4 _ _ a6, upd_same, by rw [ivs_length]; exact Nat.le_of_lt (small_len (by show fs.length + 1 ≤ 16000000; omega)), fun z5 h5 => ?_⟩
        have s7 : Same H6 (upd H6 z4 (.lst [.int (f : Int)])) := Same.new h4
        refine fin b2 D2 (by omega) k3 o3 F3 (s36.trans (s7.trans (Same.new h5))) (s36.free (s7.free h5)) ?_ (hR.put hf) pl p1
        rw [upd_same]
        unfold putFs
        rw [if_neg c0, ivs_append]
        rfl
    -- if way == 3
    refine ⟨_, rfl, rfl, _, rfl, ite2 (fun c6 => ?_) (fun _ => ?_)⟩
    · refine ⟨_, rfl, p, dx, _, rfl, e2, kf_no _ _ _ _ (by decide +kernel) (by decide +kernel) (by decide +kernel) (by decide +kernel), p, w, l, b, pw, fs, rfl, K2, fun H3 l3 k3 o3 F3 => ?_⟩
      have a3 : H3 a = some (.lst (ivs fs)) := F3.kp _ _ (notIn npa nal) a2
      refine ⟨_, rfl, 1, rfl, _, rfl, a, _, rfl, .of a3, fun z1 h1 => ?_⟩
      rw [cut_ivs_butlast]
      generalize g4 : upd H3 z1 _ = H4
      obtain ⟨s4, t4⟩ := new_of g4 h1
      refine ⟨by show 1 ≤ sizeLine; decide, fun z2 h2 => ?_⟩
      generalize g5 : upd H4 z2 _ = H5
      obtain ⟨s5, t5⟩ := new_of g5 h2
      refine ⟨_, rfl, a, _, rfl, .inl (.of (s5 _ _ (s4 _ _ a3))), rfl, .inr ⟨_, rfl, ?_⟩⟩
      rw [ivs_length]
      have ek : ((if (decide (V.int ((fs.length : Nat) : Int) = V.int 1)) = true then 1 else 0 : Int)) = ((if fs.length = 1 then 1 else 0 : Nat) : Int) := by
        by_cases c1 : fs.length = 1
        · rw [if_pos c1, decide_eq_true (show V.int ((fs.length : Nat) : Int) = V.int 1 by rw [c1]; rfl)]
          rfl
        · rw [if_neg c1, decide_eq_false (show ¬ (V.int ((fs.length : Nat) : Int) = V.int 1) from fun z => c1 (by injection z with z; omega))]
          rfl
      rw [ek]
      have kl : (if fs.length = 1 then 1 else 0) ≤ 1 := by split <;> omega
      generalize ekk : (if fs.length = 1 then 1 else 0) = kk at kl
      refine ⟨z2, _, _, rfl, rfl, t5, by omega, by omega, ?_, fun z3 h3 => ?_⟩
      · rw [Int.toNat_natCast]
        show 1 * kk ≤ sizeLine
        exact Nat.le_trans (show 1 * kk ≤ 1 by omega) (by decide)
      rw [Int.toNat_natCast, show [V.int 0] = [V.int 0] from rfl, ivs_noughts]
      generalize g6 : upd H5 z3 _ = H6
      obtain ⟨s6, t6⟩ := new_of g6 h3
      have l01 : (ivs (List.replicate kk [0]).flatten).length ≤ 1 := by
        rw [ivs_length, List.length_flatten]
        simp
        omega
      refine ⟨z1, z3, _, _, rfl, rfl, s6 _ _ (s5 _ _ t4), t6, ?_, fun z4 h4 => ?_⟩
      · rw [ivs_length, List.length_take]
        exact Nat.le_of_lt (small_len (by omega))
      rw [← ivs_append, ← ekk, offFs_eq fs hK.good.ne]
      have s36 := s4.trans (s5.trans s6)
      have ol := offFs_len fs hK.good.ne
      exact fin b2 D2 (by omega) k3 o3 F3 (s36.trans (Same.new h4)) (s36.free h4) upd_same (hR.off hb) (by omega) fun z => ol.2 (by rw [z]; rfl)
    -- place, figure
    refine ⟨_, rfl, _, rfl, a, _, rfl, .inl (.of a2), d, _, c, n + 1 + 1, rfl, D2, by omega, by rw [ivs_length]; omega, by rw [ivs_length]; omega, fun H3 r b3' D3 r0 r1 => ?_⟩
    rw [ivs_length] at r1
    obtain ⟨pl, rfl⟩ : ∃ pl : Nat, r = (pl : Int) := ⟨r.toNat, by omega⟩
    have hpl : pl < fs.length := by omega
    have b3 := b2.trans b3'
    have a3 := b3 _ _ nad ea
    refine ⟨fun σ' H' => H' = H3 ∧ ∃ f' : Nat, f' < b ∧ (f' = 0 → pl + 1 = fs.length → fs.length = 1) ∧ σ' = [some (.ref d), some (.ref p), some (.ref a), some (.int (b : Int)), some (.int wy), some (.int (f' : Int)), some (.int (pl : Int)), none], ?_, ?_⟩
    · refine ⟨_, rfl, _, _, rfl, rfl, .inr ⟨_, rfl, _, rfl, _, _, rfl, ?_⟩⟩
      by_cases c1 : 0 < pl
      · rw [decide_eq_true (show ((pl : Int) > 0) by omega)]
        refine ⟨rfl, max 1 f, by omega, by omega, ?_⟩
        rw [show ((max 1 f : Nat) : Int) = if (f : Int) > 1 then (f : Int) else 1 by split <;> omega]
        rfl
      · rw [decide_eq_false (show ¬ ((pl : Int) > 0) by omega)]
        have eq0 : (if (f : Int) > (if false = true then 1 else 0 : Int) then (f : Int) else (if false = true then 1 else 0)) = (f : Int) := by
          rw [if_neg (show ¬ (false = true) by decide)]
          split <;> omega
        exact ⟨rfl, f, hf, fun _ _ => by omega, congrArg (fun v => [some (V.ref d), some (.ref p), some (.ref a), some (.int (b : Int)), some (.int wy), some (V.int v), some (.int (pl : Int)), none]) eq0⟩
    rintro σ' H4 ⟨rfl, f', hf', hz', rfl⟩
    have K3 := hK.but hD b3
    obtain ⟨dx, e3⟩ := K3.ins
    refine ⟨_, rfl, p, dx, _, rfl, e3, kf_no _ _ _ _ (by decide +kernel) (by decide +kernel) (by decide +kernel) (by decide +kernel), _, rfl, _, rfl, p, w, l, b, pw, pl, f', fs, rfl, K3, hf', hpl, hz', fun H5 k5 F5 => ?_⟩
    have a5 : H5 a = some (.lst (ivs fs)) := F5.kp _ _ (notIn npa nal) a3
    generalize eat : fs.length - 1 - pl = at' at k5
    have hat : at' < fs.length := by omega
    have eI : (((ivs fs).length : Nat) : Int) - 1 - (pl : Int) = (at' : Int) := by
      rw [ivs_length]
      omega
    refine ⟨fun σ' H' => H' = H5 ∧ σ' = [some (.ref d), some (.ref p), some (.ref a), some (.int (b : Int)), some (.int wy), some (.int (f' : Int)), some (.int (pl : Int)), some (.int (at' : Int))], ?_, ?_⟩
    · exact ⟨_, rfl, a, _, rfl, .inl (.of a5), _, _, rfl, rfl, _, rfl, _, _, rfl, rfl, rfl, congrArg (fun v => [some (V.ref d), some (.ref p), some (.ref a), some (.int (b : Int)), some (.int wy), some (.int (f' : Int)), some (.int (pl : Int)), some (V.int v)]) eI⟩
    rintro σ' H5' ⟨rfl, rfl⟩
    -- figures[:at] + [figure] + figures[at + 1:]
    refine ⟨_, rfl, _, rfl, _, rfl, a, _, rfl, .of a5, fun z1 h1 => ?_⟩
    rw [cut_ivs_to]
    generalize g6 : upd _ z1 _ = H6
    obtain ⟨s6, t6⟩ := new_of g6 h1
    refine ⟨_, rfl, by show 1 ≤ sizeLine; decide, fun z2 h2 => ?_⟩
    generalize g7 : upd H6 z2 _ = H7
    obtain ⟨s7, t7⟩ := new_of g7 h2
    refine ⟨z1, z2, _, _, rfl, rfl, s7 _ _ t6, t7, ?_, fun z3 h3 => ?_⟩
    · rw [ivs_length, List.length_take]
      exact Nat.le_of_lt (small_len (by show min at' fs.length + 1 ≤ 16000000; omega))
    rw [show ([V.int (f' : Int)] : List V) = ivs [f'] from rfl, ← ivs_append]
    generalize g8 : upd H7 z3 _ = H8
    obtain ⟨s8, t8⟩ := new_of g8 h3
    refine ⟨_, rfl, _, rfl, _, _, rfl, rfl, _, rfl, a, _, rfl, .of (s8 _ _ (s7 _ _ (s6 _ _ a5))), fun z4 h4 => ?_⟩
    rw [show cutV (ivs fs) (some ((at' : Int) + 1)) none = ivs (fs.drop (at' + 1)) from cut_ivs_from fs (at' + 1)]
    generalize g9 : upd H8 z4 _ = H9
    obtain ⟨s9, t9⟩ := new_of g9 h4
    refine ⟨z3, z4, _, _, rfl, rfl, s9 _ _ t8, t9, ?_, fun z5 h5 => ?_⟩
    · rw [ivs_length, ivs_length, List.length_append, List.length_take, List.length_drop]
      exact Nat.le_of_lt (small_len (by show min at' fs.length + 1 + _ ≤ 16000000; omega))
    rw [← ivs_append, setFs hat]
    have s59 := s6.trans (s7.trans (s8.trans s9))
    refine fin b3 D3 (by omega) k5 (.inl rfl) F5 (s59.trans (Same.new h5)) (s59.free h5) upd_same (hR.set hf' fun z1 z2 => hz' z1 (by omega)) (by rw [List.length_set]; omega) fun z => ?_
    rw [List.length_set, z]
    rfl

/-! ### KeptNumber__init -/
def sp_KeptNumber__init (C : Addr) : Sp := fun vs H Q _ => ∃ (p dx : Addr) (b pw : Nat), vs = [.ref p, .int (b : Int), .int (pw : Int)] ∧ H p = some (.ins C dx []) ∧ OkN b pw ∧
  ∀ H' w l, KeptAt C H' p w l b pw [0] → H w = none → H l = none → Frm [p] H H' → Q .non H'
theorem ok_KeptNumber__init (T : Txt K mg) : FnOk P w K mg base CX0 3 T.f_KeptNumber__init T.fd_KeptNumber__init ["self", "base", "power"] (sp_KeptNumber__init T.k_KeptNumber) := by
  refine T.F_KeptNumber__init.ok sc_KeptNumber__init (fun vs H Q E h => ?_) (fun cdv A outer s H vs Q E hr h => ?_)
  · obtain ⟨_, _, _, _, rfl, _⟩ := h
    rfl
  · obtain ⟨p, dx, b, pw, rfl, e, ok, q⟩ := h
    refine ⟨_, (pss_cons (ps_fld (pv 0) (pv 1) rfl)
      (pss_cons (ps_fld (pv 0) (pv 2) rfl)
      (pss_cons (ps_fld (pv 0) (pe_call (ok_worths_of T) hr (by rfl) T.g_worths_of T.F_worths_of.kp T.b_worths_of .nil pass0 (pa_cons (pv 1) (pa_cons (pv 2) pa_nil))) rfl)
      (pss_one (ps_fld (pv 0) (pe_lst (pa_cons pe_int pa_nil)) rfl))))), ?_⟩
    refine ⟨_, rfl, _, rfl, p, _, dx, _, rfl, e, T.cl_KeptNumber, T.na_KeptNumber_base, by show 0 < 1000; decide, ?_⟩
    generalize g1 : upd H p _ = H1
    obtain ⟨b1, t1⟩ := set_of g1
    refine ⟨_, rfl, _, rfl, p, _, dx, _, rfl, t1, T.cl_KeptNumber, T.na_KeptNumber_power, by show 1 < 1000; decide, ?_⟩
    generalize g2 : upd H1 p _ = H2
    obtain ⟨b2, t2⟩ := set_of g2
    refine ⟨_, rfl, _, rfl, b, pw, rfl, ok.hb16, ok.hp, fun H3 w s3 nw ew => ?_⟩
    refine ⟨_, rfl, p, _, dx, _, rfl, s3 _ _ t2, T.cl_KeptNumber, T.na_KeptNumber_worths, kf2_len _ _, ?_⟩
    generalize g4 : upd H3 p _ = H4
    obtain ⟨b4, t4⟩ := set_of g4
    have p0 := s3 _ _ t2
    have npw : p ≠ w := ne_of_none t2 nw
    have w4 : H4 w = some (.lst (ivs (wts b pw))) := b4 _ _ npw.symm ew
    refine ⟨by show 1 ≤ sizeLine; decide, fun l hl => ?_⟩
    generalize g5 : upd H4 l _ = H5
    obtain ⟨s5, t5⟩ := new_of g5 hl
    have npl : p ≠ l := ne_of_none t4 hl
    refine ⟨_, rfl, p, _, dx, _, rfl, s5 _ _ t4, T.cl_KeptNumber, T.na_KeptNumber_figures, kf3_len _ _ _, ?_⟩
    generalize g6 : upd H5 p _ = H6
    obtain ⟨b6, t6⟩ := set_of g6
    have F12 : Frm [p] H H2 := (Frm.but b1 ⟨_, t1⟩).trans (Frm.but b2 ⟨_, t2⟩)
    have F4 : Frm [p] H H4 := F12.trans ((Frm.of _ s3).trans (Frm.but b4 ⟨_, t4⟩))
    have F : Frm [p] H H6 := F4.trans ((Frm.of _ s5).trans (Frm.but b6 ⟨_, t6⟩))
    exact q H6 w l ⟨⟨dx, t6⟩, b6 _ _ npw.symm (s5 _ _ w4), b6 _ _ npl.symm t5, ne_of_none w4 hl, ok, Good.zero ok.hb⟩ (F12.fr _ nw) (F4.fr _ hl) F

/-! ### _law_afresh -/
def sp__law_afresh (K : PySem.W.Frag) (C : Addr) : Sp := fun vs H Q _ => ∃ (a : Addr) (b pw o : Nat) (fs : List Nat), vs = [.int (b : Int), .int (pw : Int), .ref a, .int (o : Int)] ∧ OkN b pw ∧ H a = some (.lst (ivs fs)) ∧ Reads b fs ∧ fs.length ≤ 40 ∧ o < b ∧ ∀ H' p w l, Same H H' → KeptAt C H' p w l b pw fs → Q (.ref p) H'
/-- behind k of them -/
def upFs (fs : List Nat) (o k : Nat) : List Nat := if k = 0 then [0] else if o = 0 then fs.take k else List.replicate k o
theorem upFs_0 {fs : List Nat} {k : Nat} (h : k ≠ 0) : upFs fs 0 k = fs.take k := by
  unfold upFs
  rw [if_neg h, if_pos rfl]
theorem upFs_o {fs : List Nat} {o k : Nat} (h : k ≠ 0) (h2 : o ≠ 0) : upFs fs o k = List.replicate k o := by
  unfold upFs
  rw [if_neg h, if_neg h2]
theorem upFs_put {b o k x : Nat} {fs : List Nat} (h : Reads b fs) (hk : fs[k]? = some x) : putFs (upFs fs o k) (if 0 < o then o else x) = upFs fs o (k + 1) := by
  by_cases o0 : o = 0
  · subst o0
    rw [if_neg (Nat.lt_irrefl 0), upFs_0 (k := k + 1) (by omega)]
    by_cases k0 : k = 0
    · subst k0
      rw [show upFs fs 0 0 = [0] from if_pos rfl, put_first, List.take_add_one, hk]
      rfl
    · rw [upFs_0 k0]
      exact put_take h hk (by omega)
  · rw [if_pos (by omega), upFs_o (k := k + 1) (by omega) o0]
    by_cases k0 : k = 0
    · subst k0
      rw [show upFs fs o 0 = [0] from if_pos rfl, put_first]
      rfl
    · rw [upFs_o k0 o0]
      unfold putFs
      rw [if_neg, List.replicate_succ']
      intro z
      obtain ⟨j, rfl⟩ : ∃ j, k = j + 1 := ⟨k - 1, by omega⟩
      rw [List.replicate_succ] at z
      injection z with z1 z2
      exact o0 z1
theorem upFs_len {fs : List Nat} {o k : Nat} (hk : k ≤ fs.length) : (upFs fs o k).length ≤ max 1 k := by
  unfold upFs
  split
  · show 1 ≤ _
    omega
  · split
    · rw [List.length_take]
      omega
    · rw [List.length_replicate]
      omega
theorem mix_set {fs : List Nat} {o k x : Nat} (hk : fs[k]? = some x) : (fs.take k ++ List.replicate (fs.length - k) o).set k x = fs.take (k + 1) ++ List.replicate (fs.length - (k + 1)) o := by
  have l := (List.getElem?_eq_some_iff.mp hk).1
  have lt : (fs.take k).length = k := by
    rw [List.length_take]
    omega
  rw [List.set_append_right _ _ (by omega), lt, Nat.sub_self, show fs.length - k = fs.length - (k + 1) + 1 by omega, List.replicate_succ, List.take_add_one, hk, List.append_assoc]
  rfl
theorem ok__law_afresh (T : Txt K mg) : FnOk P w K mg base CX0 5 T.f__law_afresh T.fd__law_afresh ["base", "power", "figures", "other"] (sp__law_afresh K T.k_KeptNumber) := by
  refine T.F__law_afresh.ok sc__law_afresh (fun vs H Q E h => ?_) (fun cdv A outer s H vs Q E hr h => ?_)
  · obtain ⟨_, _, _, _, _, rfl, _⟩ := h
    rfl
  · obtain ⟨a, b, pw, o, fs, rfl, ok, ea, hR, h40, ho, q⟩ := h
    have l0 := List.length_pos_iff.mpr hR.ne
    have no1 : ∀ {m : Str} {x y : Addr}, ¬ m = "base" → ¬ m = "power" → ¬ m = "worths" → ¬ m = "figures" → (kf (b : Int) (pw : Int) x y).lookup m = none := fun h1 h2 h3 h4 => kf_no _ _ _ _ h1 h2 h3 h4
    refine ⟨_, (C8.pss_cut (ps_set (i := 4) sc__law_afresh.nd rfl (Or.inl rfl) (pe_make T.M_KeptNumber (ok_KeptNumber__init T) hr (by rfl) T.gk_KeptNumber T.b_KeptNumber__init .nil pass0 (pa_cons (pv 0) (pa_cons (pv 1) pa_nil))))
      (C8.pss_cut (ps_for PassesOwn.never rfl (pi_list (pv 2)) (pg_name (i := 5) sc__law_afresh.nd rfl (Or.inl rfl)) (pss_one (ps_expr (pe_meth (pv 4) T.cl_KeptNumber T.me_KeptNumber__put_figure (ok_KeptNumber__put_figure T) (hr.mono (by decide)) T.b_KeptNumber__put_figure .nil pass0 (pa_cons (pe_ix ix_list (pe_lst (pa_cons (pv 5) (pa_cons (pv 3) pa_nil))) (pe_callTy (T := "int") call_int1 (by rfl) T.m_int (by decide +kernel) (pa_cons (pe_cmpR op_gt (pv 3) pe_int (nomark _)) pa_nil)) (fun _ _ => rfl)) pa_nil)))))
      (pss_cons (ps_for PassesOwn.never rfl (pi_range1 (by rfl) T.m_range (pa_cons (pe_op op_mul (pe_callB (id := "len") call_len_seq (by rfl) T.m_len (by decide +kernel) (pa_cons (pv 2) pa_nil)) (pe_callTy (T := "int") call_int1 (by rfl) T.m_int (by decide +kernel) (pa_cons (pe_cmpR op_gt (pv 3) pe_int (nomark _)) pa_nil))) pa_nil)) (pg_name (i := 6) sc__law_afresh.nd rfl (Or.inl rfl)) (pss_one (ps_expr (pe_meth (pv 4) T.cl_KeptNumber T.me_KeptNumber__set_figure (ok_KeptNumber__set_figure T) (hr.mono (by decide)) T.b_KeptNumber__set_figure .nil pass0 (pa_cons (pe_op op_sub (pe_op op_sub (pe_callB (id := "len") call_len_seq (by rfl) T.m_len (by decide +kernel) (pa_cons (pv 2) pa_nil)) pe_int) (pv 6)) (pa_cons (pe_ix ix_list (pv 2) (pv 6) (fun _ _ => rfl)) pa_nil))))))
      (pss_one (ps_ret (pv 4)))))), ?_⟩
    refine ⟨fun σ' H' => Same H H' ∧ ∃ p w l, H p = none ∧ H w = none ∧ H l = none ∧ KeptAt T.k_KeptNumber H' p w l b pw [0] ∧ σ' = [some (.int (b : Int)), some (.int (pw : Int)), some (.ref a), some (.int (o : Int)), some (.ref p), none, none], ?_, ?_⟩
    · refine ⟨_, rfl, _, rfl, fun x dx nx ndx nex => ⟨x, dx, b, pw, rfl, upd_same, ok, fun H1 w l k1 nw nl F1 => ⟨rfl, ?_⟩⟩⟩
      obtain ⟨s1, nw', nl'⟩ := made nx ndx nex k1 nw nl F1
      exact ⟨s1, x, w, l, nx, nw', nl', k1, rfl⟩
    rintro σ' H1 ⟨s1, p, w, l, np, nw, nl, K1, rfl⟩
    -- put one by one
    refine ⟨fun σ' H' => Same H H' ∧ ∃ l y5, H l = none ∧ KeptAt T.k_KeptNumber H' p w l b pw (upFs fs o fs.length) ∧ σ' = [some (.int (b : Int)), some (.int (pw : Int)), some (.ref a), some (.int (o : Int)), some (.ref p), y5, none], ?_, ?_⟩
    · refine ⟨_, rfl, a, rfl, ⟨_, .of (s1 _ _ ea)⟩, for_list (xs := ivs fs) (fun i σ' H' => Same H H' ∧ ∃ l y5, H l = none ∧ KeptAt T.k_KeptNumber H' p w l b pw (upFs fs o i) ∧ σ' = [some (.int (b : Int)), some (.int (pw : Int)), some (.ref a), some (.int (o : Int)), some (.ref p), y5, none]) ⟨s1, l, none, nl, K1, rfl⟩ ?_ ?_ ?_⟩
      · rintro i σ' H' hi ⟨s2, _⟩
        exact .of (s2 _ _ ea)
      · rintro i v σ' H2 hv ⟨s2, l, y5, nl, K2, rfl⟩
        obtain ⟨x, hx, rfl⟩ := ivs_get hv
        have il := (List.getElem?_eq_some_iff.mp hx).1
        have xb := hR.below x (List.mem_of_getElem? hx)
        obtain ⟨dx, e2⟩ := K2.ins
        refine ⟨_, rfl, p, dx, _, rfl, e2, no1 (by decide +kernel) (by decide +kernel) (by decide +kernel) (by decide +kernel), ?_⟩
        refine ⟨_, rfl, _, rfl, by show 2 ≤ sizeLine; decide, fun z hz => ?_⟩
        generalize g3 : upd H2 z _ = H3
        obtain ⟨s3, t3⟩ := new_of g3 hz
        have ul := upFs_len (fs := fs) (o := o) (k := i) (by omega)
        obtain ⟨f, hat, ef, fb⟩ : ∃ f : Nat, atI [V.int (x : Int), .int (o : Int)] (if decide ((o : Int) > 0) = true then 1 else 0) = some (.int (f : Int)) ∧ f = (if 0 < o then o else x) ∧ f < b := by
          by_cases o0 : 0 < o
          · rw [decide_eq_true (show (o : Int) > 0 by omega)]
            exact ⟨o, rfl, (if_pos o0).symm, ho⟩
          · rw [decide_eq_false (show ¬ ((o : Int) > 0) by omega)]
            exact ⟨x, rfl, (if_neg o0).symm, xb⟩
        refine ⟨_, rfl, _, _, rfl, rfl, .inr ⟨_, rfl, z, _, _, _, rfl, rfl, .of t3, hat, ?_⟩⟩
        refine ⟨p, w, l, b, pw, f, upFs fs o i, rfl, K2.same s3, fb, by omega, fun H4 l4 K4 o4 F4 => ?_⟩
        rw [ef, upFs_put hR hx] at K4
        have F24 : Frm [p, l] H H4 := (Frm.of _ (s2.trans s3)).trans F4
        refine ⟨((F24.drop np).drop nl).same, l4, _, ?_, K4, rfl⟩
        rcases o4 with o4 | o4
        · rw [o4]; exact nl
        · exact s2.free (s3.free o4)
      · rintro σ' H' ⟨s2, l, y5, nl, K2, rfl⟩
        rw [ivs_length] at K2
        exact ⟨s2, l, y5, nl, K2, rfl⟩
    rintro σ' H2 ⟨s2, l, y5, nl, K2, rfl⟩
    -- changed to what is wanted
    refine ⟨_, rfl, a, _, rfl, .inl (.of (s2 _ _ ea)), _, rfl, _, _, rfl, rfl, .inr ⟨_, rfl, ?_⟩⟩
    have bd : -(2 ^ 64) < (if decide ((o : Int) > 0) = true then 1 else 0 : Int) ∧ (if decide ((o : Int) > 0) = true then 1 else 0 : Int) < 2 ^ 64 := by
      constructor <;> split <;> decide
    have kk : ∀ L : Nat, (((L : Nat) : Int) * (if decide ((o : Int) > 0) = true then 1 else 0)) = ((if 0 < o then L else 0 : Nat) : Int) := fun L => by
      by_cases o0 : 0 < o
      · rw [decide_eq_true (show (o : Int) > 0 by omega), if_pos o0]
        exact Int.mul_one _
      · rw [decide_eq_false (show ¬ ((o : Int) > 0) by omega), if_neg o0]
        exact Int.mul_zero _
    have ki := kk (ivs fs).length
    rw [ivs_length] at ki
    have kn : (if 0 < o then fs.length else 0) ≤ fs.length := by split <;> omega
    refine ⟨_, _, rfl, rfl, .inr bd, _, rfl, ?_, ?_, for_range (lo := 0) (n := _) (fun i σ' H' => Same H H' ∧ ∃ y5 y6, (if 0 < o then KeptAt T.k_KeptNumber H' p w l b pw (fs.take i ++ List.replicate (fs.length - i) o) else KeptAt T.k_KeptNumber H' p w l b pw fs) ∧ σ' = [some (.int (b : Int)), some (.int (pw : Int)), some (.ref a), some (.int (o : Int)), some (.ref p), y5, y6]) ⟨s2, _, _, ?_, rfl⟩ ?_ ?_⟩
    · rw [ivs_length, ki]
      omega
    · rw [ivs_length, ki]
      omega
    · by_cases o0 : 0 < o
      · rw [if_pos o0]
        rw [upFs_o (by omega) (by omega)] at K2
        rw [List.take_zero, List.nil_append, Nat.sub_zero]
        exact K2
      · rw [if_neg o0]
        obtain rfl : o = 0 := by omega
        rw [upFs_0 (by omega), List.take_length] at K2
        exact K2
    · rintro i σ' H3 hi ⟨s3, y5, y6, K3, rfl⟩
      rw [ivs_length, ki, Int.toNat_natCast] at hi
      by_cases o0 : 0 < o
      · rw [if_pos o0] at hi K3
        obtain ⟨x, hx⟩ : ∃ x, fs[i]? = some x := ⟨_, List.getElem?_eq_getElem hi⟩
        have xb := hR.below x (List.mem_of_getElem? hx)
        obtain ⟨dx, e3⟩ := K3.ins
        have lc : (fs.take i ++ List.replicate (fs.length - i) o).length = fs.length := by
          rw [List.length_append, List.length_take, List.length_replicate]
          omega
        refine ⟨_, rfl, p, dx, _, rfl, e3, no1 (by decide +kernel) (by decide +kernel) (by decide +kernel) (by decide +kernel), ?_⟩
        refine ⟨_, rfl, a, _, rfl, .inl (.of (s3 _ _ ea)), _, _, rfl, rfl, _, rfl, _, _, rfl, rfl, _, rfl, _, rfl, a, _, _, _, rfl, rfl, .of (s3 _ _ ea), by rw [Int.zero_add]; exact atI_nat (ivs_at hx), ?_⟩
        refine ⟨p, w, l, b, pw, fs.length - 1 - i, x, _, ?_, K3, xb, by rw [lc]; omega, fun x0 z => ?_, fun H4 K4 F4 => ?_⟩
        · rw [ivs_length, show (((fs.length - 1 - i : Nat)) : Int) = (fs.length : Int) - 1 - (0 + (i : Int)) by omega]
          rfl
        · rw [lc] at z ⊢
          obtain rfl : i = 0 := by omega
          exact hR.head x hx x0
        · rw [lc, show fs.length - 1 - (fs.length - 1 - i) = i by omega, mix_set hx] at K4
          have F24 : Frm [p, l] H H4 := (Frm.of _ s3).trans F4
          refine ⟨((F24.drop np).drop nl).same, _, _, ?_, rfl⟩
          rw [if_pos o0]
          exact K4
      · rw [if_neg o0] at hi
        exact absurd hi (Nat.not_lt_zero _)
    · rintro σ' H3 ⟨s3, y5, y6, K3, rfl⟩
      refine ⟨_, rfl, q _ p w l s3 ?_⟩
      by_cases o0 : 0 < o
      · rw [if_pos o0, ivs_length, ki, if_pos o0, Int.toNat_natCast, List.take_length, Nat.sub_self, List.replicate_zero, List.append_nil] at K3
        exact K3
      · rw [if_neg o0] at K3
        exact K3

/-! ### _law_back_right -/
def sp__law_back_right (K : PySem.W.Frag) (C : Addr) : Sp := fun vs H Q _ => ∃ (d c p w l : Addr) (n b pw : Nat) (fs : List Nat), vs = [.ref d, .ref p, .int (b : Int)] ∧ Deck H d c n ∧ n < 2 ^ 39 ∧ KeptAt C H p w l b pw fs ∧ Reads b fs ∧ fs.length < 40 ∧ c ≠ l ∧ ∀ H', Q (.bl true) H'
theorem ToldAt.frm {b pw : Nat} {fs : List Nat} {S : List Addr} {H H' : Hp} {t : Addr} (h : ToldAt b pw fs H t) (s : Frm S H H') (hS : ∀ x ∈ S, ∀ e A m, H t = some (.lst [.int (val b fs : Nat), .int ((fs.map (· ^ pw)).sum : Nat), .ref e]) → H e = some (.tup (ivs [A, m])) → t ≠ x ∧ e ≠ x) : ToldAt b pw fs H' t := by
  obtain ⟨e, A, m, x, y, z⟩ := h
  exact ⟨e, A, m, s.kp _ _ (fun w => (hS _ w e A m x y).1 rfl) x, s.kp _ _ (fun w => (hS _ w e A m x y).2 rfl) y, z⟩
theorem List.set_getElem?_self' {l : List Nat} {i x : Nat} (h : l[i]? = some x) : l.set i x = l := by
  obtain ⟨hi, rfl⟩ := List.getElem?_eq_some_iff.mp h
  exact List.set_getElem_self hi
theorem ok__law_back_right (T : Txt K mg) : FnOk P w K mg base CX0 7 T.f__law_back_right T.fd__law_back_right ["deck", "kept", "base"] (sp__law_back_right K T.k_KeptNumber) := by
  refine T.F__law_back_right.ok sc__law_back_right (fun vs H Q E h => ?_) (fun cdv A outer s H vs Q E hr h => ?_)
  · obtain ⟨_, _, _, _, _, _, _, _, _, rfl, _⟩ := h
    rfl
  · obtain ⟨d, c, p, w, l, n, b, pw, fs, rfl, hD, hn, hK, hR, l40, ncl, q⟩ := h
    have ok := hK.ok
    have hb16 := ok.hb16
    have hb := ok.hb
    have f0 := List.length_pos_iff.mpr hK.good.ne
    have v200 := hK.good.val200 hb hb16
    have no1 : ∀ {m : Str} {x y : Addr}, ¬ m = "base" → ¬ m = "power" → ¬ m = "worths" → ¬ m = "figures" → (kf (b : Int) (pw : Int) x y).lookup m = none := fun h1 h2 h3 h4 => kf_no _ _ _ _ h1 h2 h3 h4
    -- what is told is no list of numbers, no deck, no kept number
    have stay : ∀ {H1 H2 : Hp} {n1 : Nat} {l1 l2 t f : Addr} {gs : List Nat}, Frm [d, p, l1] H1 H2 → Deck H1 d c n1 → KeptAt T.k_KeptNumber H1 p w l1 b pw gs → ToldAt b pw fs H1 t → ToldAt b pw fs H2 t := fun {H1 H2 n1 l1 l2 t f gs} F D K z => by
      refine z.frm F fun x hx e A m e1 e2 => ?_
      obtain ⟨dx, ei⟩ := K.ins
      obtain ⟨cn, x1, x2, x3, x4, cd, _⟩ := D.ex
      simp only [List.mem_cons, List.not_mem_nil, or_false] at hx
      rcases hx with rfl | rfl | rfl
      · exact ⟨fun z => (by rw [z, cd] at e1; cases e1), ne_of e2 cd (fun z => by cases z)⟩
      · exact ⟨ne_of e1 ei (fun z => by cases z), ne_of e2 ei (fun z => by cases z)⟩
      · refine ⟨fun z => ?_, ne_of e2 K.fg (fun z => by cases z)⟩
        rw [z, K.fg] at e1
        have e3 : ivs gs = [V.int (val b fs : Nat), .int ((fs.map (· ^ pw)).sum : Nat), .ref e] := by
          injection e1 with e1
          injection e1
        have e4 := congrArg (fun l : List V => l[2]?) e3
        obtain ⟨k, hk, ek⟩ := ivs_get e4
        cases ek
    obtain ⟨dx, e⟩ := hK.ins
    refine ⟨_, (pss_cons (ps_set (i := 3) sc__law_back_right.nd rfl (Or.inl rfl) (pe_call (ok__law_told T) hr (by rfl) T.g__law_told T.F__law_told.kp T.b__law_told .nil pass0 (pa_cons (pv 1) pa_nil)))
      (pss_cons (ps_set (i := 4) sc__law_back_right.nd rfl (Or.inl rfl) (pe_call (ok_figures_of T) (hr.mono (by decide)) (by rfl) T.g_figures_of T.F_figures_of.kp T.b_figures_of .nil pass0 (pa_cons (pe_ix ix_list (pv 3) pe_int (fun _ _ => rfl)) (pa_cons (pv 2) pa_nil))))
      (C8.pss_cut (ps_if (pt_cmpR op_gt (pe_ix ix_list (pv 3) pe_int (fun _ _ => rfl)) pe_int (nomark _)) (pss_cons (ps_expr (pe_meth (pv 1) T.cl_KeptNumber T.me_KeptNumber__put_figure (ok_KeptNumber__put_figure T) (hr.mono (by decide)) T.b_KeptNumber__put_figure .nil pass0 (pa_cons (pe_call (ok__law_next T) (hr.mono (by decide)) (by rfl) T.g__law_next T.F__law_next.kp T.b__law_next .nil pass0 (pa_cons (pv 0) (pa_cons (pv 2) pa_nil))) pa_nil)))
      (C8.pss_cut (ps_if (pt_cmpR op_eq (pe_call (ok__law_next T) (hr.mono (by decide)) (by rfl) T.g__law_next T.F__law_next.kp T.b__law_next .nil pass0 (pa_cons (pv 0) (pa_cons pe_int pa_nil))) pe_int (nomark _)) (pss_one (ps_expr (pe_meth0 (pv 1) T.cl_KeptNumber T.me_KeptNumber__number_now (ok_KeptNumber__number_now T) (hr.mono (by decide)) T.b_KeptNumber__number_now .nil pass0))) pss_nil)
      (pss_one (ps_expr (pe_meth0 (pv 1) T.cl_KeptNumber T.me_KeptNumber__take_off (ok_KeptNumber__take_off T) (hr.mono (by decide)) T.b_KeptNumber__take_off .nil pass0))))) pss_nil)
      (pss_cons (ps_if (pt_cmpR (op_neD hr.units) (pe_call (ok__law_told T) hr (by rfl) T.g__law_told T.F__law_told.kp T.b__law_told .nil pass0 (pa_cons (pv 1) pa_nil)) (pv 3) (nomark _)) (pss_one (ps_ret pe_bl)) pss_nil)
      (pss_cons (ps_set (i := 5) sc__law_back_right.nd rfl (Or.inl rfl) (pe_call (ok__law_next T) (hr.mono (by decide)) (by rfl) T.g__law_next T.F__law_next.kp T.b__law_next .nil pass0 (pa_cons (pv 0) (pa_cons (pe_callB (id := "len") call_len_seq (by rfl) T.m_len (by decide +kernel) (pa_cons (pv 4) pa_nil)) pa_nil))))
      (pss_cons (ps_expr (pe_meth (pv 1) T.cl_KeptNumber T.me_KeptNumber__set_figure (ok_KeptNumber__set_figure T) (hr.mono (by decide)) T.b_KeptNumber__set_figure .nil pass0 (pa_cons (pv 5) (pa_cons (pe_op op_sub (pv 2) pe_int) pa_nil))))
      (C8.pss_cut (ps_if (pt_cmpR op_eq (pe_call (ok__law_next T) (hr.mono (by decide)) (by rfl) T.g__law_next T.F__law_next.kp T.b__law_next .nil pass0 (pa_cons (pv 0) (pa_cons pe_int pa_nil))) pe_int (nomark _)) (pss_one (ps_expr (pe_meth0 (pv 1) T.cl_KeptNumber T.me_KeptNumber__end_now (ok_KeptNumber__end_now T) (hr.mono (by decide)) T.b_KeptNumber__end_now .nil pass0))) pss_nil)
      (pss_cons (ps_expr (pe_meth (pv 1) T.cl_KeptNumber T.me_KeptNumber__set_figure (ok_KeptNumber__set_figure T) (hr.mono (by decide)) T.b_KeptNumber__set_figure .nil pass0 (pa_cons (pv 5) (pa_cons (pe_ix ix_tup (pv 4) (pe_op op_sub (pe_op op_sub (pe_callB (id := "len") call_len_seq (by rfl) T.m_len (by decide +kernel) (pa_cons (pv 4) pa_nil)) pe_int) (pv 5)) (fun _ _ => rfl)) pa_nil))))
      (pss_one (ps_ret (pe_cmpR (op_eqD hr.units) (pe_call (ok__law_told T) hr (by rfl) T.g__law_told T.F__law_told.kp T.b__law_told .nil pass0 (pa_cons (pv 1) pa_nil)) (pv 3) (nomark _)))))))))))), ?_⟩
    -- ahead, figures
    refine ⟨_, rfl, p, w, l, b, pw, fs, rfl, hK, fun H1 t s1 nt tt => ?_⟩
    obtain ⟨e1, A1, m1, x1, y1, z1⟩ := id tt
    refine ⟨_, rfl, t, _, 0, _, rfl, rfl, .of x1, atI_nat (j := 0) rfl, _, rfl, val b fs, b, rfl, hb, hb16, lt200 v200, fun H2 f s2 nf ef => ?_⟩
    rw [figs_val hb _ fs rfl hR] at ef
    have D2 := (hD.same s1).same s2
    have K2 := (hK.same s1).same s2
    have tt2 := tt.same s2
    -- a figure put and taken off
    refine ⟨fun σ' H' => ∃ l' n', n' ≤ n + 2 ∧ Deck H' d c n' ∧ KeptAt T.k_KeptNumber H' p w l' b pw fs ∧ c ≠ l' ∧ ToldAt b pw fs H' t ∧ H' f = some (.tup (ivs fs)) ∧ σ' = [some (.ref d), some (.ref p), some (.int (b : Int)), some (.ref t), some (.ref f), none], ?_, ?_⟩
    · obtain ⟨e2, A2, m2, x2, y2, z2⟩ := id tt2
      refine ⟨_, rfl, t, _, 0, _, rfl, rfl, .of x2, atI_nat (j := 0) rfl, _, _, rfl, rfl, _, rfl, ite2 (fun _ => ?_) (fun _ => ?_)⟩
      · obtain ⟨dx2, ei2⟩ := K2.ins
        refine ⟨_, rfl, p, dx2, _, rfl, ei2, no1 (by decide +kernel) (by decide +kernel) (by decide +kernel) (by decide +kernel), _, rfl, _, rfl, d, (b : Int), c, n, rfl, D2, by omega, by omega, by omega, fun H3 r b3 D3 r0 r1 => ?_⟩
        obtain ⟨g, rfl⟩ : ∃ g : Nat, r = (g : Int) := ⟨r.toNat, by omega⟩
        have K3 := K2.but D2 b3
        have kd2 := K2.deck D2
        refine ⟨p, w, l, b, pw, g, fs, rfl, K3, by omega, l40, fun H4 l4 K4 o4 F4 => ?_⟩
        have kd3 := K3.deck D3
        obtain ⟨dx3, ei3⟩ := K3.ins
        obtain ⟨cn, q1, q2, q3, q4, cd3, cc3, _⟩ := D3.ex
        have notIn : ∀ {x : Addr}, x ≠ p → x ≠ l → x ∉ [p, l] := fun h1 h2 => by
          simp only [List.mem_cons, List.not_mem_nil, or_false, not_or]
          exact ⟨h1, h2⟩
        have D4 := D3.frm F4 (notIn kd3.1.symm kd3.2.2.symm) (notIn (ne_of cc3 ei3 (fun z => by cases z)) ncl)
        have cl4 : c ≠ l4 := by
          rcases o4 with o | o
          · rw [o]; exact ncl
          · exact ne_of_none cc3 o
        have F24 : Frm [d, p, l] H2 H4 := ((Frm.but b3 D3.there).mono (by simp)).trans (F4.mono (by simp))
        have tt4 := stay (l2 := l) (f := f) F24 D2 K2 tt2
        have f4 : H4 f = some (.tup (ivs fs)) := F24.kp _ _ (by
          simp only [List.mem_cons, List.not_mem_nil, or_false, not_or]
          exact ⟨D2.notTup' ef, ne_of ef ei2 (fun z => by cases z), ne_of ef K2.fg (fun z => by cases z)⟩) ef
        -- perhaps asked between
        refine ⟨fun σ' H' => Deck H' d c (n + 2) ∧ KeptAt T.k_KeptNumber H' p w l4 b pw (putFs fs g) ∧ ToldAt b pw fs H' t ∧ H' f = some (.tup (ivs fs)) ∧ σ' = [some (.ref d), some (.ref p), some (.int (b : Int)), some (.ref t), some (.ref f), none], ?_, ?_⟩
        · refine ⟨_, rfl, d, 2, c, n + 1, rfl, D4, by omega, by decide, by decide, fun H5 r5 b5 D5 r50 r51 => ⟨rfl, _, rfl, ite2 (fun _ => ?_) (fun _ => ?_)⟩⟩
          · have K5 := K4.but D4 b5
            obtain ⟨dx5, ei5⟩ := K5.ins
            exact ⟨_, rfl, p, dx5, _, rfl, ei5, no1 (by decide +kernel) (by decide +kernel) (by decide +kernel) (by decide +kernel), p, w, l4, b, pw, _, rfl, K5, D5, K5, stay (l2 := l) (f := f) ((Frm.but b5 D5.there).mono (by simp)) D4 K4 tt4, b5 _ _ (D4.notTup' f4) f4, rfl⟩
          · exact ⟨D5, K4.but D4 b5, stay (l2 := l) (f := f) ((Frm.but b5 D5.there).mono (by simp)) D4 K4 tt4, b5 _ _ (D4.notTup' f4) f4, rfl⟩
        rintro σ' H5 ⟨D5, K5, tt5, f5, rfl⟩
        obtain ⟨dx5, ei5⟩ := K5.ins
        refine ⟨_, rfl, p, dx5, _, rfl, ei5, no1 (by decide +kernel) (by decide +kernel) (by decide +kernel) (by decide +kernel), p, w, l4, b, pw, _, rfl, K5, fun H6 l6 K6 o6 F6 => ?_⟩
        rw [off_put hR.ne] at K6
        have kd5 := K5.deck D5
        obtain ⟨cn5, q1, q2, q3, q4, cd5, cc5, _⟩ := D5.ex
        have notIn5 : ∀ {x : Addr}, x ≠ p → x ≠ l4 → x ∉ [p, l4] := fun h1 h2 => by
          simp only [List.mem_cons, List.not_mem_nil, or_false, not_or]
          exact ⟨h1, h2⟩
        have D6 := D5.frm F6 (notIn5 kd5.1.symm kd5.2.2.symm) (notIn5 (ne_of cc5 ei5 (fun z => by cases z)) cl4)
        refine ⟨l6, n + 2, Nat.le_refl _, D6, K6, ?_, stay (l2 := l) (f := f) (F6.mono (by simp)) D5 K5 tt5, F6.kp _ _ (notIn5 (ne_of f5 ei5 (fun z => by cases z)) (ne_of f5 K5.fg (fun z => by cases z))) f5, rfl⟩
        rcases o6 with o | o
        · rw [o]; exact cl4
        · exact ne_of_none cc5 o
      · exact ⟨l, n, by omega, D2, K2, ncl, tt2, ef, rfl⟩
    rintro σ' H3 ⟨l', n', hn', D3, K3, cl3, tt3, f3, rfl⟩
    -- told alike
    obtain ⟨dx3, ei3⟩ := K3.ins
    refine ⟨_, rfl, p, w, l', b, pw, fs, rfl, K3, fun H4 t4 s4 nt4 tt4 => ?_⟩
    obtain ⟨e4, A4, m4, x4, y4, z4⟩ := id tt4
    refine ⟨_, rfl, _, _, tt4.dp z4, (tt3.same s4).dp z4, shaped_told _ _ _, shaped_told _ _ _, false, by rw [eqv_same (shaped_told _ _ _)]; rfl, iteF ?_⟩
    have D4 := D3.same s4
    have K4 := K3.same s4
    have f4 := s4 _ _ f3
    have tt4' := tt3.same s4
    -- changed at a place
    refine ⟨_, rfl, _, rfl, f, _, rfl, .inr (.of f4), d, _, c, n', rfl, D4, by omega, by rw [ivs_length]; omega, by rw [ivs_length]; have := K4.good.len; omega, fun H5 r b5 D5 r0 r1 => ?_⟩
    rw [ivs_length] at r1
    obtain ⟨pl, rfl⟩ : ∃ pl : Nat, r = (pl : Int) := ⟨r.toNat, by omega⟩
    have hpl : pl < fs.length := by omega
    have K5 := K4.but D4 b5
    obtain ⟨dx5, ei5⟩ := K5.ins
    have f5 := b5 _ _ (D4.notTup' f4) f4
    have tt5 := stay (l2 := l) (f := f) ((Frm.but b5 D5.there).mono (by simp)) D4 K4 tt4'
    refine ⟨_, rfl, p, dx5, _, rfl, ei5, no1 (by decide +kernel) (by decide +kernel) (by decide +kernel) (by decide +kernel), _, rfl, _, rfl, _, _, rfl, rfl, p, w, l', b, pw, pl, b - 1, fs, ?_, K5, by omega, hpl, fun z => by omega, fun H6 K6 F6 => ?_⟩
    · rw [show (((b - 1 : Nat)) : Int) = (b : Int) - 1 by omega]
      rfl
    have kd5 := K5.deck D5
    obtain ⟨cn5, q1, q2, q3, q4, cd5, cc5, _⟩ := D5.ex
    have notIn5 : ∀ {x : Addr}, x ≠ p → x ≠ l' → x ∉ [p, l'] := fun h1 h2 => by
      simp only [List.mem_cons, List.not_mem_nil, or_false, not_or]
      exact ⟨h1, h2⟩
    have D6 := D5.frm F6 (notIn5 kd5.1.symm kd5.2.2.symm) (notIn5 (ne_of cc5 ei5 (fun z => by cases z)) cl3)
    have f6 := F6.kp _ _ (notIn5 (ne_of f5 ei5 (fun z => by cases z)) (ne_of f5 K5.fg (fun z => by cases z))) f5
    have tt6 := stay (l2 := l) (f := f) (F6.mono (by simp)) D5 K5 tt5
    generalize efs : fs.set (fs.length - 1 - pl) (b - 1) = gs at K6
    -- perhaps asked between
    refine ⟨fun σ' H' => Deck H' d c (n' + 2) ∧ KeptAt T.k_KeptNumber H' p w l' b pw gs ∧ ToldAt b pw fs H' t ∧ H' f = some (.tup (ivs fs)) ∧ σ' = [some (.ref d), some (.ref p), some (.int (b : Int)), some (.ref t), some (.ref f), some (.int (pl : Int))], ?_, ?_⟩
    · refine ⟨_, rfl, d, 2, c, n' + 1, rfl, D6, by omega, by decide, by decide, fun H7 r7 b7 D7 r70 r71 => ⟨rfl, _, rfl, ite2 (fun _ => ?_) (fun _ => ?_)⟩⟩
      · have K7 := K6.but D6 b7
        have tt7 := stay (l2 := l) (f := f) ((Frm.but b7 D7.there).mono (by simp)) D6 K6 tt6
        have f7 := b7 _ _ (D6.notTup' f6) f6
        obtain ⟨dx7, ei7⟩ := K7.ins
        exact ⟨_, rfl, p, dx7, _, rfl, ei7, no1 (by decide +kernel) (by decide +kernel) (by decide +kernel) (by decide +kernel), p, w, l', b, pw, _, rfl, K7, fun H8 t8 A8 m8 s8 n8 et8 en8 => ⟨D7.same s8, K7.same s8, tt7.same s8, s8 _ _ f7, rfl⟩⟩
      · exact ⟨D7, K6.but D6 b7, stay (l2 := l) (f := f) ((Frm.but b7 D7.there).mono (by simp)) D6 K6 tt6, b7 _ _ (D6.notTup' f6) f6, rfl⟩
    rintro σ' H7 ⟨D7, K7, tt7, f7, rfl⟩
    -- changed back
    obtain ⟨dx7, ei7⟩ := K7.ins
    obtain ⟨x, hx⟩ : ∃ x, fs[fs.length - 1 - pl]? = some x := ⟨_, List.getElem?_eq_getElem (by omega)⟩
    have xb := hR.below x (List.mem_of_getElem? hx)
    have lg : gs.length = fs.length := by rw [← efs, List.length_set]
    refine ⟨_, rfl, p, dx7, _, rfl, ei7, no1 (by decide +kernel) (by decide +kernel) (by decide +kernel) (by decide +kernel), _, rfl, _, rfl, _, rfl, f, _, rfl, .inr (.of f7), _, _, rfl, rfl, _, rfl, _, _, rfl, rfl, f, _, _, .int (x : Int), rfl, rfl, .of f7, ?_, ?_⟩
    · rw [ivs_length, show (((fs.length : Nat) : Int) - 1 - (pl : Int)) = ((fs.length - 1 - pl : Nat) : Int) by omega]
      exact atI_nat (ivs_at hx)
    refine ⟨p, w, l', b, pw, pl, x, gs, rfl, K7, xb, by omega, fun x0 z => ?_, fun H8 K8 F8 => ?_⟩
    · rw [lg] at z ⊢
      rw [show fs.length - 1 - pl = 0 by omega] at hx
      exact hR.head x hx x0
    have back : gs.set (gs.length - 1 - pl) x = fs := by
      rw [lg, ← efs, List.set_set]
      exact List.set_getElem?_self' hx
    rw [back] at K8
    have tt8 := stay (l2 := l) (f := f) (F8.mono (by simp)) D7 K7 tt7
    obtain ⟨dx8, ei8⟩ := K8.ins
    refine ⟨_, rfl, p, w, l', b, pw, fs, rfl, K8, fun H9 t9 s9 nt9 tt9 => ?_⟩
    obtain ⟨e9, A9, m9, x9, y9, z9⟩ := id tt9
    refine ⟨_, rfl, _, _, tt9.dp z9, (tt8.same s9).dp z9, shaped_told _ _ _, shaped_told _ _ _, ?_⟩
    rw [eqv_same (shaped_told _ _ _)]
    exact q _

/-! ### law -/
def sp_law (K : PySem.W.Frag) : Sp := fun vs H Q _ => ∃ (a : Addr) (ns : List Int), vs = [.ref a] ∧ SqL K H a (ns.map V.int) ∧ ns.length ≤ 63 ∧ ∀ H', Q (.bl true) H'
theorem law_start {K : PySem.W.Frag} {H : Hp} {a : Addr} {ns : List Int} {E : XK} (hl : ns.length ≤ 63) (hS : SqL K H a (ns.map V.int)) : sp_law K [.ref a] H (fun v _ => v = .bl true) E := ⟨a, ns, rfl, hS, hl, fun _ => rfl⟩
theorem eqv_tints (l r : List Int) : PyData.eqv (.tuple (dInts l)) (.tuple (dInts r)) = decide (l = r) := by
  rw [PyData.eqv]
  exact PySem.W.ked_eqvAll l r
/-- a kept number and the law's own row of its figures -/
structure L33 (C d c p w : Addr) (b pw n : Nat) (l a : Addr) (fs : List Nat) (H : Hp) : Prop where
  deck : Deck H d c n
  kn : KeptAt C H p w l b pw fs
  rd : Reads b fs
  cl : c ≠ l
  al : a ≠ l
  ea : H a = some (.lst (ivs fs))
theorem L33.same {C d c p w : Addr} {b pw n : Nat} {l a : Addr} {fs : List Nat} {H H' : Hp} (h : L33 C d c p w b pw n l a fs H) (s : Same H H') : L33 C d c p w b pw n l a fs H' := ⟨h.deck.same s, h.kn.same s, h.rd, h.cl, h.al, s _ _ h.ea⟩
theorem L33.but {C d c p w : Addr} {b pw n m : Nat} {l a : Addr} {fs : List Nat} {H H' : Hp} (h : L33 C d c p w b pw n l a fs H) (s : But d H H') (D : Deck H' d c m) : L33 C d c p w b pw m l a fs H' := ⟨D, h.kn.but h.deck s, h.rd, h.cl, h.al, s _ _ (h.deck.notInts h.ea) h.ea⟩
theorem L33.mono {C d c p w : Addr} {b pw n m : Nat} {l a : Addr} {fs : List Nat} {H : Hp} (h : L33 C d c p w b pw n l a fs H) (k : n ≤ m) : L33 C d c p w b pw m l a fs H := { h with deck := h.deck.mono k }
theorem ok_law (T : Txt K mg) : FnOk P w K mg base CX0 8 T.f_law T.fd_law ["script"] (sp_law K) := by
  refine T.F_law.ok sc_law (fun vs H Q E h => ?_) (fun cdv A outer s H vs Q E hr h => ?_)
  · obtain ⟨_, _, rfl, _⟩ := h
    rfl
  · obtain ⟨a, ns, rfl, hS, hl, q⟩ := h
    have no1 : ∀ {m : Str} {b pw : Nat} {x y : Addr}, ¬ m = "base" → ¬ m = "power" → ¬ m = "worths" → ¬ m = "figures" → (kf (b : Int) (pw : Int) x y).lookup m = none := fun h1 h2 h3 h4 => kf_no _ _ _ _ h1 h2 h3 h4
    refine ⟨_, (pss_cons (ps_set (i := 1) sc_law.nd rfl (Or.inl rfl) (pe_call (ok__law_deck T) (hr.mono (by decide)) (by rfl) T.g__law_deck T.F__law_deck.kp T.b__law_deck .nil pass0 (pa_cons (pv 0) pa_nil)))
      (pss_cons (ps_asg (pe_call (ok__law_pair T) (hr.mono (by decide)) (by rfl) T.g__law_pair T.F__law_pair.kp T.b__law_pair .nil pass0 (pa_cons (pv 1) pa_nil)) (pg_tup rfl (pgs_cons (pg_name (i := 2) sc_law.nd rfl (Or.inl rfl)) (pgs_cons (pg_name (i := 3) sc_law.nd rfl (Or.inl rfl)) pgs_nil))))
      (C8.pss_cut (ps_set (i := 4) sc_law.nd rfl (Or.inl rfl) (pe_make T.M_KeptNumber (ok_KeptNumber__init T) (hr.mono (by decide)) (by rfl) T.gk_KeptNumber T.b_KeptNumber__init .nil pass0 (pa_cons (pv 2) (pa_cons (pv 3) pa_nil))))
      (C8.pss_cut (ps_set (i := 5) sc_law.nd rfl (Or.inl rfl) (pe_lst (pa_cons pe_int pa_nil)))
      (C8.pss_cut (ps_for PassesOwn.never rfl (pi_range1 (by rfl) T.m_range (pa_cons (pe_call (ok__law_next T) (hr.mono (by decide)) (by rfl) T.g__law_next T.F__law_next.kp T.b__law_next .nil pass0 (pa_cons (pv 1) (pa_cons pe_int pa_nil))) pa_nil)) (pg_name (i := 6) sc_law.nd rfl (Or.inl rfl)) (C8.pss_cut (ps_set (i := 5) sc_law.nd rfl (Or.inl rfl) (pe_call (ok__law_deed T) (hr.mono (by decide)) (by rfl) T.g__law_deed T.F__law_deed.kp T.b__law_deed .nil pass0 (pa_cons (pv 1) (pa_cons (pv 4) (pa_cons (pv 5) (pa_cons (pv 2) pa_nil))))))
      (pss_one (ps_if (pt_cmpR op_eq (pe_call (ok__law_next T) (hr.mono (by decide)) (by rfl) T.g__law_next T.F__law_next.kp T.b__law_next .nil pass0 (pa_cons (pv 1) (pa_cons pe_int pa_nil))) pe_int (nomark _)) (pss_one (ps_expr (pe_meth0 (pv 4) T.cl_KeptNumber T.me_KeptNumber__end_now (ok_KeptNumber__end_now T) (hr.mono (by decide)) T.b_KeptNumber__end_now .nil pass0))) pss_nil))))
      (C8.pss_cut (ps_asg (pe_call (ok__law_told T) (hr.mono (by decide)) (by rfl) T.g__law_told T.F__law_told.kp T.b__law_told .nil pass0 (pa_cons (pv 4) pa_nil)) (pg_unl rfl (pgs_cons (pg_name (i := 7) sc_law.nd rfl (Or.inl rfl)) (pgs_cons (pg_name (i := 8) sc_law.nd rfl (Or.inl rfl)) (pgs_cons (pg_name (i := 9) sc_law.nd rfl (Or.inl rfl)) pgs_nil)))))
      (C8.pss_cut (ps_if (pt_cmpR (op_neD hr.units) (pe_callTy (T := "list") call_list_of (by rfl) T.m_list (by decide +kernel) (pa_cons (pe_call (ok_figures_of T) (hr.mono (by decide)) (by rfl) T.g_figures_of T.F_figures_of.kp T.b_figures_of .nil pass0 (pa_cons (pv 7) (pa_cons (pv 2) pa_nil))) pa_nil)) (pv 5) (nomark _)) (pss_one (ps_ret pe_bl)) pss_nil)
      (C8.pss_cut (ps_if (PW.pt (pw_or (pt_cmpR op_ne (pe_call (ok_read_number T) (hr.mono (by decide)) (by rfl) T.g_read_number T.F_read_number.kp T.b_read_number .nil pass0 (pa_cons (pe_call (ok_number_shown T) (hr.mono (by decide)) (by rfl) T.g_number_shown T.F_number_shown.kp T.b_number_shown .nil pass0 (pa_cons (pv 7) (pa_cons (pv 2) pa_nil))) (pa_cons (pv 2) pa_nil))) (pv 7) (nomark _)) (pw_or1 (pt_cmpR op_ne (pv 8) (pe_call (ok_step_of T) (hr.mono (by decide)) (by rfl) T.g_step_of T.F_step_of.kp T.b_step_of .nil pass0 (pa_cons (pv 7) (pa_cons (pv 2) (pa_cons (pv 3) pa_nil)))) (nomark _))))) (pss_one (ps_ret pe_bl)) pss_nil)
      (C8.pss_cut (ps_if (PW.pt (pw_or (pt_cmpR (op_neD hr.units) (pv 9) (pe_call (ok_end_of T) (hr.mono (by decide)) (by rfl) T.g_end_of T.F_end_of.kp T.b_end_of .nil pass0 (pa_cons (pv 7) (pa_cons (pv 2) (pa_cons (pv 3) pa_nil)))) (nomark _)) (pw_or1 (pt_cmpR (op_neD hr.units) (pe_call (ok_end_of T) (hr.mono (by decide)) (by rfl) T.g_end_of T.F_end_of.kp T.b_end_of .nil pass0 (pa_cons (pv 8) (pa_cons (pv 2) (pa_cons (pv 3) pa_nil)))) (pe_tup (pa_cons (pe_callB (id := "max") (call_max2 rfl) (by rfl) T.m_max (by decide +kernel) (pa_cons pe_int (pa_cons (pe_op op_sub (pe_ix ix_tup (pv 9) pe_int (fun _ _ => rfl)) pe_int) pa_nil))) (pa_cons (pe_ix ix_tup (pv 9) pe_int (fun _ _ => rfl)) pa_nil))) (nomark _))))) (pss_one (ps_ret pe_bl)) pss_nil)
      (pss_cons (ps_for PassesOwn.never rfl (pi_list (pe_lst (pa_cons pe_int (pa_cons (pe_op op_add pe_int (pe_call (ok__law_next T) (hr.mono (by decide)) (by rfl) T.g__law_next T.F__law_next.kp T.b__law_next .nil pass0 (pa_cons (pv 1) (pa_cons (pe_op op_sub (pv 2) pe_int) pa_nil)))) pa_nil)))) (pg_name (i := 10) sc_law.nd rfl (Or.inl rfl)) (pss_one (ps_if (pt_cmpR (op_neD hr.units) (pe_call (ok__law_told T) (hr.mono (by decide)) (by rfl) T.g__law_told T.F__law_told.kp T.b__law_told .nil pass0 (pa_cons (pe_call (ok__law_afresh T) (hr.mono (by decide)) (by rfl) T.g__law_afresh T.F__law_afresh.kp T.b__law_afresh .nil pass0 (pa_cons (pv 2) (pa_cons (pv 3) (pa_cons (pv 5) (pa_cons (pv 10) pa_nil))))) pa_nil)) (pe_lst (pa_cons (pv 7) (pa_cons (pv 8) (pa_cons (pv 9) pa_nil)))) (nomark _)) (pss_one (ps_ret pe_bl)) pss_nil)))
      (pss_one (ps_ret (pe_call (ok__law_back_right T) hr (by rfl) T.g__law_back_right T.F__law_back_right.kp T.b__law_back_right .nil pass0 (pa_cons (pv 1) (pa_cons (pv 4) (pa_cons (pv 2) pa_nil)))))))))))))))), ?_⟩
    refine ⟨_, rfl, a, ns, rfl, hS, fun H1 d c s1 nd nc D1 => ?_⟩
    refine ⟨_, rfl, d, c, 0, rfl, D1, by omega, fun H2 t B P b2 D2 n2 e2 ok => ?_⟩
    obtain ⟨b, pw, rfl, rfl, _⟩ := ok.nat
    refine ⟨t, _, rfl, .of e2, rfl, _, _, rfl, _, _, rfl, rfl, ?_⟩
    have okN : OkN b pw := ⟨ok⟩
    have hb := okN.hb
    have hb16 := okN.hb16
    have hp10 := okN.hp
    -- the kept number
    refine ⟨fun σ' H' => Same H2 H' ∧ ∃ p w l, σ' = [some (.ref a), some (.ref d), some (.int (b : Int)), some (.int (pw : Int)), some (.ref p), none, none, none, none, none, none] ∧ KeptAt T.k_KeptNumber H' p w l b pw [0] ∧ H2 l = none, ?_, ?_⟩
    · refine ⟨_, rfl, _, rfl, fun x dx nx ndx nex => ⟨x, dx, b, pw, rfl, upd_same, okN, fun H4 w l k4 nw nl F4 => ⟨rfl, ?_⟩⟩⟩
      obtain ⟨s4, nw', nl'⟩ := made nx ndx nex k4 nw nl F4
      exact ⟨s4, x, w, l, rfl, k4, nl'⟩
    rintro σ' H3 ⟨s3, p, w, l, rfl, K3, nl⟩
    have D3 := D2.same s3
    have ncl : c ≠ l := by
      obtain ⟨_, _, _, _, _, _, ec, _⟩ := D2.ex
      exact ne_of_none ec nl
    -- figures
    refine ⟨fun σ' H' => ∃ a', L33 T.k_KeptNumber d c p w b pw 3 l a' [0] H' ∧ σ' = [some (.ref a), some (.ref d), some (.int (b : Int)), some (.int (pw : Int)), some (.ref p), some (.ref a'), none, none, none, none, none], ?_, ?_⟩
    · refine ⟨by show 1 ≤ sizeLine; decide, fun z hz => ?_⟩
      exact ⟨z, ⟨D3.same (Same.new hz), K3.same (Same.new hz), Reads.of0 hb, ncl, (ne_of_none K3.fg hz).symm, upd_same⟩, rfl⟩
    rintro σ' H4 ⟨a0, L4, rfl⟩
    -- the deeds
    refine ⟨fun σ' H' => ∃ (l a' : Addr) (fs : List Nat) (y6 : Option V), fs.length < 40 ∧ L33 T.k_KeptNumber d c p w b pw 300 l a' fs H' ∧ σ' = [some (.ref a), some (.ref d), some (.int (b : Int)), some (.int (pw : Int)), some (.ref p), some (.ref a'), y6, none, none, none, none], ?_, ?_⟩
    · refine ⟨_, rfl, d, 40, c, 3, rfl, L4.deck, by omega, by decide, by decide, fun H5 r b5 D5 r0 r1 => ?_⟩
      have L5 := L4.but b5 D5
      refine ⟨r, rfl, by omega, by omega, for_range (lo := 0) (n := r.toNat) (fun i σ' H' => ∃ (l a' : Addr) (fs : List Nat) (y6 : Option V), (i = 0 → fs = [0]) ∧ fs.length ≤ max 1 i ∧ L33 T.k_KeptNumber d c p w b pw (4 + 5 * i) l a' fs H' ∧ σ' = [some (.ref a), some (.ref d), some (.int (b : Int)), some (.int (pw : Int)), some (.ref p), some (.ref a'), y6, none, none, none, none]) ⟨l, a0, [0], none, fun _ => rfl, by show 1 ≤ max 1 0; decide, L5, rfl⟩ ?_ ?_⟩
      · rintro i σ' H6 hi ⟨l, a', fs, y6, f0, fl, L6, rfl⟩
        have n0 : 4 + 5 * i ≤ 250 := by omega
        generalize en : 4 + 5 * i = n at L6 n0
        refine ⟨fun σ' H' => ∃ (l a' : Addr) (fs : List Nat) (y6 : Option V), fs.length ≤ max 1 (i + 1) ∧ L33 T.k_KeptNumber d c p w b pw (n + 3) l a' fs H' ∧ σ' = [some (.ref a), some (.ref d), some (.int (b : Int)), some (.int (pw : Int)), some (.ref p), some (.ref a'), y6, none, none, none, none], ?_, ?_⟩
        · refine ⟨_, rfl, _, rfl, _, rfl, _, rfl, d, c, p, w, l, a', n, b, pw, fs, rfl, L6.deck, by omega, L6.kn, L6.rd, by omega, L6.ea, L6.al, L6.cl, fun H7 l7 a7 fs7 F7 D7 K7 o7 na7 nal7 ea7 rd7 ll7 l17 => ?_⟩
          refine ⟨l7, a7, fs7, _, ?_, ⟨D7, K7, rd7, ?_, nal7, ea7⟩, rfl⟩
          · by_cases i0 : i = 0
            · have := l17 (f0 i0)
              omega
            · omega
          · rcases o7 with o | o
            · rw [o]; exact L6.cl
            · obtain ⟨_, _, _, _, _, _, ec, _⟩ := L6.deck.ex
              exact ne_of_none ec o
        rintro σ' H7 ⟨l, a', fs, y6, fl, L7, rfl⟩
        refine ⟨_, rfl, d, 4, c, n + 3, rfl, L7.deck, by omega, by decide, by decide, fun H8 r8 b8 D8 r80 r81 => ⟨rfl, _, rfl, ite2 (fun _ => ?_) (fun _ => ?_)⟩⟩
        · have L8 := L7.but b8 D8
          obtain ⟨dx8, e8⟩ := L8.kn.ins
          exact ⟨_, rfl, p, dx8, _, rfl, e8, no1 (by decide +kernel) (by decide +kernel) (by decide +kernel) (by decide +kernel), p, w, l, b, pw, fs, rfl, L8.kn, fun H9 t9 A9 m9 s9 n9 et9 en9 => ⟨l, a', fs, _, fun z => absurd z (by omega), fl, (L8.same s9).mono (by omega), rfl⟩⟩
        · exact ⟨l, a', fs, _, fun z => absurd z (by omega), fl, (L7.but b8 D8).mono (by omega), rfl⟩
      · rintro σ' H6 ⟨l, a', fs, y6, f0, fl, L6, rfl⟩
        exact ⟨l, a', fs, y6, by omega, L6.mono (by omega), rfl⟩
    rintro σ' H5 ⟨l, a', fs, y6, fl, L5, rfl⟩
    have v200 := L5.kn.good.val200 hb hb16
    have vs := step_val hb okN.hp1 fs L5.kn.good.lt
    -- number, step, end
    refine ⟨fun σ' H' => Same H5 H' ∧ ∃ (e : Addr) (A m : Nat), H' e = some (.tup (ivs [A, m])) ∧ EndAt b pw (val b fs) A m ∧ σ' = [some (.ref a), some (.ref d), some (.int (b : Int)), some (.int (pw : Int)), some (.ref p), some (.ref a'), y6, some (.int (val b fs : Nat)), some (.int ((fs.map (· ^ pw)).sum : Nat)), some (.ref e), none], ?_, ?_⟩
    · refine ⟨_, rfl, p, w, l, b, pw, fs, rfl, L5.kn, fun H6 t6 s6 nt6 tt6 => ?_⟩
      obtain ⟨e, A, m, x1, x2, x3⟩ := tt6
      exact ⟨t6, _, rfl, .of x1, rfl, _, _, rfl, _, _, rfl, _, _, rfl, rfl, s6, e, A, m, x2, x3, rfl⟩
    rintro σ' H6 ⟨s6, e, A, m, ee6, en, rfl⟩
    have L6 := L5.same s6
    -- figures
    refine ⟨fun σ' H' => Same H6 H' ∧ σ' = [some (.ref a), some (.ref d), some (.int (b : Int)), some (.int (pw : Int)), some (.ref p), some (.ref a'), y6, some (.int (val b fs : Nat)), some (.int ((fs.map (· ^ pw)).sum : Nat)), some (.ref e), none], ?_, ?_⟩
    · refine ⟨_, rfl, _, rfl, val b fs, b, rfl, hb, hb16, lt200 v200, fun H7 f s7 nf ef => ?_⟩
      rw [figs_val hb _ fs rfl L6.rd] at ef
      refine ⟨f, _, rfl, .inr (.of ef), fun z hz => ?_⟩
      generalize g8 : upd H7 z _ = H8
      obtain ⟨s8, t8⟩ := new_of g8 hz
      refine ⟨_, rfl, _, _, .lst (.of t8) (dpAll_ivs fs), .lst (.of (s8 _ _ (s7 _ _ L6.ea))) (dpAll_ivs fs), shaped_ints _, shaped_ints _, false, by rw [eqv_same (shaped_ints _)]; rfl, iteF ⟨s7.trans s8, rfl⟩⟩
    rintro σ' H7 ⟨s7, rfl⟩
    -- read back; the step
    refine ⟨fun σ' H' => Same H7 H' ∧ σ' = [some (.ref a), some (.ref d), some (.int (b : Int)), some (.int (pw : Int)), some (.ref p), some (.ref a'), y6, some (.int (val b fs : Nat)), some (.int ((fs.map (· ^ pw)).sum : Nat)), some (.ref e), none], ?_, ?_⟩
    · refine ⟨_, rfl, _, rfl, val b fs, b, rfl, hb, hb16, lt200 v200, fun H8 s8 => ?_⟩
      refine ⟨_, rfl, figs b (val b fs), b, rfl, hb, hb16, Reads.figs hb _, figs_le hb (lt200 v200), fun H9 s9 => ?_⟩
      refine ⟨_, rfl, rfl, false, by rw [val_figs hb, decide_eq_true rfl]; rfl, iteF ?_⟩
      refine ⟨_, rfl, _, rfl, _, rfl, _, rfl, val b fs, b, pw, rfl, hb, hb16, hp10, lt200 v200, fun H10 s10 => ?_⟩
      exact ⟨rfl, false, by rw [vs, decide_eq_true rfl]; rfl, iteF ⟨s8.trans (s9.trans s10), rfl⟩⟩
    rintro σ' H8 ⟨s8, rfl⟩
    have ee8 := s8 _ _ (s7 _ _ ee6)
    -- the end
    refine ⟨fun σ' H' => Same H8 H' ∧ σ' = [some (.ref a), some (.ref d), some (.int (b : Int)), some (.int (pw : Int)), some (.ref p), some (.ref a'), y6, some (.int (val b fs : Nat)), some (.int ((fs.map (· ^ pw)).sum : Nat)), some (.ref e), none], ?_, ?_⟩
    · refine ⟨_, rfl, _, rfl, _, rfl, _, rfl, val b fs, b, pw, rfl, okN, v200, fun H9 t9 A9 m9 s9 n9 et9 en9 => ?_⟩
      obtain ⟨rfl, rfl⟩ := en9.uniq en
      refine ⟨_, _, .tup (.of (s9 _ _ ee8)) (dpAll_ivs _), .tup (.of et9) (dpAll_ivs _), shaped_tints _, shaped_tints _, false, by rw [eqv_same (shaped_tints _)]; rfl, iteF ?_⟩
      have st200 : (fs.map (· ^ pw)).sum < 2 ^ 200 := by
        rw [← vs]
        exact Nat.lt_of_lt_of_le (stepN_lt hb hb16 hp10 (lt200 v200)) (Nat.pow_le_pow_right (by decide) (by decide))
      refine ⟨_, rfl, _, rfl, _, rfl, (fs.map (· ^ pw)).sum, b, pw, rfl, okN, st200, fun H10 t10 A10 m10 s10 n10 et10 en10 => ?_⟩
      rw [← vs] at en10
      obtain ⟨rfl, rfl⟩ := en.least_step en10
      have ee10 := s10 _ _ (s9 _ _ ee8)
      refine ⟨_, rfl, e, _, 0, _, rfl, rfl, .of ee10, atI_nat (j := 0) rfl, _, _, rfl, rfl, _, _, rfl, _, rfl, e, _, 1, _, rfl, rfl, .of ee10, atI_nat (j := 1) rfl, by show 2 ≤ sizeLine; decide, fun z hz => ?_⟩
      generalize g11 : upd H10 z _ = H11
      obtain ⟨s11, t11⟩ := new_of g11 hz
      refine ⟨_, _, .tup (.of (s11 _ _ et10)) (dpAll_ivs _), .tup (.of t11) (dpAll_ints [_, _]), shaped_tints _, shaped_tints _, false, ?_, iteF ⟨s9.trans (s10.trans s11), rfl⟩⟩
      rw [eqv_tints, decide_eq_true]
      · rfl
      · show [((A9 - 1 : Nat) : Int), ((m9 : Nat) : Int)] = [(if (A9 : Int) - 1 > 0 then (A9 : Int) - 1 else 0), ((m9 : Nat) : Int)]
        congr 1
        split <;> omega
    rintro σ' H9 ⟨s9, rfl⟩
    have ee9 := s9 _ _ ee8
    have L9 := ((L6.same s7).same s8).same s9
    -- made afresh
    refine ⟨_, rfl, _, rfl, _, _, rfl, rfl, d, (b : Int) - 1, c, 300, rfl, L9.deck, by omega, by omega, by omega, fun H10 r b10 D10 r0 r1 => ?_⟩
    have L10 := L9.but b10 D10
    have ee10 := b10 _ _ (L9.deck.notTup' ee9) ee9
    refine ⟨_, _, rfl, rfl, by show 2 ≤ sizeLine; decide, fun z hz => ?_⟩
    generalize g11 : upd H10 z _ = H11
    obtain ⟨s11, t11⟩ := new_of g11 hz
    have L11 := L10.same s11
    have ee11 := s11 _ _ ee10
    refine ⟨z, rfl, ⟨_, .of t11⟩, for_list (xs := [V.int 0, .int (1 + r)]) (fun i σ' H' => Same H11 H' ∧ ∃ y10, σ' = [some (.ref a), some (.ref d), some (.int (b : Int)), some (.int (pw : Int)), some (.ref p), some (.ref a'), y6, some (.int (val b fs : Nat)), some (.int ((fs.map (· ^ pw)).sum : Nat)), some (.ref e), y10]) ⟨fun _ _ e => e, _, rfl⟩ ?_ ?_ ?_⟩
    · rintro i σ' H' hi ⟨s12, _⟩
      exact .of (s12 _ _ t11)
    · rintro i x σ' H12 hx ⟨s12, y10, rfl⟩
      obtain ⟨o, ho, rfl⟩ : ∃ o : Nat, o < b ∧ x = .int (o : Int) := by
        have := List.mem_of_getElem? hx
        simp only [List.mem_cons, List.not_mem_nil, or_false] at this
        rcases this with rfl | rfl
        · exact ⟨0, by omega, rfl⟩
        · exact ⟨(1 + r).toNat, by omega, by rw [show (((1 + r).toNat : Nat) : Int) = 1 + r by omega]⟩
      have L12 := L11.same s12
      refine ⟨_, rfl, _, rfl, _, rfl, _, rfl, a', b, pw, o, fs, rfl, okN, L12.ea, L12.rd, by omega, ho, fun H13 p13 w13 l13 s13 K13 => ?_⟩
      refine ⟨p13, w13, l13, b, pw, fs, rfl, K13, fun H14 t14 s14 nt14 tt14 => ?_⟩
      refine ⟨_, rfl, _, rfl, _, rfl, by show 3 ≤ sizeLine; decide, fun z15 h15 => ?_⟩
      generalize g15 : upd H14 z15 _ = H15
      obtain ⟨s15, t15⟩ := new_of g15 h15
      have ee15 := s15 _ _ (s14 _ _ (s13 _ _ (s12 _ _ ee11)))
      refine ⟨_, _, (tt14.same s15).dp en, ToldAt.dp ⟨e, A, m, t15, ee15, en⟩ en, shaped_told _ _ _, shaped_told _ _ _, false, by rw [eqv_same (shaped_told _ _ _)]; rfl, iteF ⟨s12.trans (s13.trans (s14.trans s15)), _, rfl⟩⟩
    · rintro σ' H12 ⟨s12, y10, rfl⟩
      have L12 := L11.same s12
      exact ⟨_, rfl, _, rfl, _, rfl, d, c, p, w, l, 301, b, pw, fs, rfl, L12.deck, by omega, L12.kn, L12.rd, fl, L12.cl, fun H' => q H'⟩

end
theorem all_mk {l : PySem.W.OpenLaw} {w : World} {K : PySem.W.Frag} {h : Heap} {mg : Str → Option Value} {fa f0 f1 f2 f3 f4 f5 f6 f7 f8 f9 f10 f11 f12 f13 f14 f15 f16 f17 f18 f19 f20 f21 f22 f23 f24 : Addr} (X : K.In h) (G : h.Ns mainGlobals mg) (hfa : mg "law" = some (.ref fa))
    {od0 an0 od1 an1 od2 an2 od3 an3 od4 an4 od5 an5 od6 an6 od7 an7 od8 an8 od9 an9 od10 an10 od11 an11 od12 an12 od13 an13 od14 an14 od15 an15 od16 an16 od17 an17 od18 an18 od19 an19 od20 an20 od21 an21 od22 an22 od23 an23 od24 an24 : Option Addr} {sl0 sl1 sl2 sl3 sl4 sl5 sl6 sl7 sl8 sl9 sl10 sl11 sl12 sl13 sl14 sl15 sl16 sl17 sl18 sl19 sl20 sl21 sl22 sl23 sl24 : Array (Option Value)} {oc0 kV0 dc0 pm0 cd0 ct0 oc1 kV1 dc1 pm1 cd1 ct1 oc2 kV2 dc2 pm2 cd2 ct2 oc3 kV3 dc3 pm3 cd3 ct3 oc4 kV4 dc4 pm4 cd4 ct4 oc5 kV5 dc5 pm5 cd5 ct5 oc6 kV6 dc6 pm6 cd6 ct6 oc7 kV7 dc7 pm7 cd7 ct7 oc8 kV8 dc8 pm8 cd8 ct8 oc9 kV9 dc9 pm9 cd9 ct9 oc10 kV10 dc10 pm10 cd10 ct10 oc11 kV11 dc11 pm11 cd11 ct11 oc12 kV12 dc12 pm12 cd12 ct12 oc13 kV13 dc13 pm13 cd13 ct13 oc14 kV14 dc14 pm14 cd14 ct14 oc15 kV15 dc15 pm15 cd15 ct15 oc16 kV16 dc16 pm16 cd16 ct16 oc17 kV17 dc17 pm17 cd17 ct17 oc18 kV18 dc18 pm18 cd18 ct18 oc19 kV19 dc19 pm19 cd19 ct19 oc20 kV20 dc20 pm20 cd20 ct20 oc21 kV21 dc21 pm21 cd21 ct21 oc22 kV22 dc22 pm22 cd22 ct22 oc23 kV23 dc23 pm23 cd23 ct23 oc24 kV24 dc24 pm24 cd24 ct24 : Value}
    {k_KeptNumber : Addr} (oa_KeptNumber : PySem.W.nsIn K mainGlobals "KeptNumber" = some (some (.ref k_KeptNumber)))
    (og_KeptNumber : PySem.W.plainGet K k_KeptNumber Str.empty = true)
    (oh_KeptNumber : PySem.W.hasDictIn K k_KeptNumber = true)
    (op_KeptNumber : PySem.W.plainOver K k_KeptNumber = true)
    (os_KeptNumber : PySem.W.findIn K (.ref k_KeptNumber) "__setattr__" = some (some (.builtin "object.__setattr__")))
    (om_KeptNumber : PySem.W.makesIn K k_KeptNumber = true)
    (ok_KeptNumber : PySem.W.keepIn K (.ref k_KeptNumber) = true)
    (on_KeptNumber_base : PySem.W.findIn K (.ref k_KeptNumber) "base" = some none)
    (on_KeptNumber_power : PySem.W.findIn K (.ref k_KeptNumber) "power" = some none)
    (on_KeptNumber_worths : PySem.W.findIn K (.ref k_KeptNumber) "worths" = some none)
    (on_KeptNumber_figures : PySem.W.findIn K (.ref k_KeptNumber) "figures" = some none)
    (a0 : PySem.W.nsIn K mainGlobals "read_number" = some (some (.ref f0))) (l0 : K.lookup f0 = some ⟨oc0, od0, .func (PySem.W.fnOf "read_number" "read_number" (defArgs s_read_number) (defBody s_read_number) (defScope s_read_number) .none kV0 dc0 pm0 an0 cd0 ct0), sl0⟩) (c0 : PySem.W.codeIn K cd0 "read_number" = true) (k0 : PySem.W.keepIn K (.ref f0) = true)
    (a1 : PySem.W.nsIn K mainGlobals "figures_of" = some (some (.ref f1))) (l1 : K.lookup f1 = some ⟨oc1, od1, .func (PySem.W.fnOf "figures_of" "figures_of" (defArgs s_figures_of) (defBody s_figures_of) (defScope s_figures_of) .none kV1 dc1 pm1 an1 cd1 ct1), sl1⟩) (c1 : PySem.W.codeIn K cd1 "figures_of" = true) (k1 : PySem.W.keepIn K (.ref f1) = true)
    (a2 : PySem.W.nsIn K mainGlobals "number_shown" = some (some (.ref f2))) (l2 : K.lookup f2 = some ⟨oc2, od2, .func (PySem.W.fnOf "number_shown" "number_shown" (defArgs s_number_shown) (defBody s_number_shown) (defScope s_number_shown) .none kV2 dc2 pm2 an2 cd2 ct2), sl2⟩) (c2 : PySem.W.codeIn K cd2 "number_shown" = true) (k2 : PySem.W.keepIn K (.ref f2) = true)
    (a3 : PySem.W.nsIn K mainGlobals "power_of" = some (some (.ref f3))) (l3 : K.lookup f3 = some ⟨oc3, od3, .func (PySem.W.fnOf "power_of" "power_of" (defArgs s_power_of) (defBody s_power_of) (defScope s_power_of) .none kV3 dc3 pm3 an3 cd3 ct3), sl3⟩) (c3 : PySem.W.codeIn K cd3 "power_of" = true) (k3 : PySem.W.keepIn K (.ref f3) = true)
    (a4 : PySem.W.nsIn K mainGlobals "step_of" = some (some (.ref f4))) (l4 : K.lookup f4 = some ⟨oc4, od4, .func (PySem.W.fnOf "step_of" "step_of" (defArgs s_step_of) (defBody s_step_of) (defScope s_step_of) .none kV4 dc4 pm4 an4 cd4 ct4), sl4⟩) (c4 : PySem.W.codeIn K cd4 "step_of" = true) (k4 : PySem.W.keepIn K (.ref f4) = true)
    (a5 : PySem.W.nsIn K mainGlobals "worths_of" = some (some (.ref f5))) (l5 : K.lookup f5 = some ⟨oc5, od5, .func (PySem.W.fnOf "worths_of" "worths_of" (defArgs s_worths_of) (defBody s_worths_of) (defScope s_worths_of) .none kV5 dc5 pm5 an5 cd5 ct5), sl5⟩) (c5 : PySem.W.codeIn K cd5 "worths_of" = true) (k5 : PySem.W.keepIn K (.ref f5) = true)
    (a6 : PySem.W.nsIn K mainGlobals "way_of" = some (some (.ref f6))) (l6 : K.lookup f6 = some ⟨oc6, od6, .func (PySem.W.fnOf "way_of" "way_of" (defArgs s_way_of) (defBody s_way_of) (defScope s_way_of) .none kV6 dc6 pm6 an6 cd6 ct6), sl6⟩) (c6 : PySem.W.codeIn K cd6 "way_of" = true) (k6 : PySem.W.keepIn K (.ref f6) = true)
    (a7 : PySem.W.nsIn K mainGlobals "end_of" = some (some (.ref f7))) (l7 : K.lookup f7 = some ⟨oc7, od7, .func (PySem.W.fnOf "end_of" "end_of" (defArgs s_end_of) (defBody s_end_of) (defScope s_end_of) .none kV7 dc7 pm7 an7 cd7 ct7), sl7⟩) (c7 : PySem.W.codeIn K cd7 "end_of" = true) (k7 : PySem.W.keepIn K (.ref f7) = true)
    (a8 : PySem.W.nsIn K mainGlobals "_law_mix" = some (some (.ref f8))) (l8 : K.lookup f8 = some ⟨oc8, od8, .func (PySem.W.fnOf "_law_mix" "_law_mix" (defArgs s__law_mix) (defBody s__law_mix) (defScope s__law_mix) .none kV8 dc8 pm8 an8 cd8 ct8), sl8⟩) (c8 : PySem.W.codeIn K cd8 "_law_mix" = true) (k8 : PySem.W.keepIn K (.ref f8) = true)
    (a9 : PySem.W.nsIn K mainGlobals "_law_deck" = some (some (.ref f9))) (l9 : K.lookup f9 = some ⟨oc9, od9, .func (PySem.W.fnOf "_law_deck" "_law_deck" (defArgs s__law_deck) (defBody s__law_deck) (defScope s__law_deck) .none kV9 dc9 pm9 an9 cd9 ct9), sl9⟩) (c9 : PySem.W.codeIn K cd9 "_law_deck" = true) (k9 : PySem.W.keepIn K (.ref f9) = true)
    (a10 : PySem.W.nsIn K mainGlobals "_law_next" = some (some (.ref f10))) (l10 : K.lookup f10 = some ⟨oc10, od10, .func (PySem.W.fnOf "_law_next" "_law_next" (defArgs s__law_next) (defBody s__law_next) (defScope s__law_next) .none kV10 dc10 pm10 an10 cd10 ct10), sl10⟩) (c10 : PySem.W.codeIn K cd10 "_law_next" = true) (k10 : PySem.W.keepIn K (.ref f10) = true)
    (a11 : PySem.W.nsIn K mainGlobals "_law_pair" = some (some (.ref f11))) (l11 : K.lookup f11 = some ⟨oc11, od11, .func (PySem.W.fnOf "_law_pair" "_law_pair" (defArgs s__law_pair) (defBody s__law_pair) (defScope s__law_pair) .none kV11 dc11 pm11 an11 cd11 ct11), sl11⟩) (c11 : PySem.W.codeIn K cd11 "_law_pair" = true) (k11 : PySem.W.keepIn K (.ref f11) = true)
    (a12 : PySem.W.findIn K (.ref k_KeptNumber) "number_now" = some (some (.ref f12))) (i12 : PySem.W.isFn K (.ref f12) = true) (l12 : K.lookup f12 = some ⟨oc12, od12, .func (PySem.W.fnOf "number_now" "KeptNumber.number_now" (defArgs s_KeptNumber__number_now) (defBody s_KeptNumber__number_now) (defScope s_KeptNumber__number_now) .none kV12 dc12 pm12 an12 cd12 ct12), sl12⟩) (c12 : PySem.W.codeIn K cd12 "KeptNumber.number_now" = true) (k12 : PySem.W.keepIn K (.ref f12) = true)
    (a13 : PySem.W.findIn K (.ref k_KeptNumber) "end_now" = some (some (.ref f13))) (i13 : PySem.W.isFn K (.ref f13) = true) (l13 : K.lookup f13 = some ⟨oc13, od13, .func (PySem.W.fnOf "end_now" "KeptNumber.end_now" (defArgs s_KeptNumber__end_now) (defBody s_KeptNumber__end_now) (defScope s_KeptNumber__end_now) .none kV13 dc13 pm13 an13 cd13 ct13), sl13⟩) (c13 : PySem.W.codeIn K cd13 "KeptNumber.end_now" = true) (k13 : PySem.W.keepIn K (.ref f13) = true)
    (a14 : PySem.W.findIn K (.ref k_KeptNumber) "step_now" = some (some (.ref f14))) (i14 : PySem.W.isFn K (.ref f14) = true) (l14 : K.lookup f14 = some ⟨oc14, od14, .func (PySem.W.fnOf "step_now" "KeptNumber.step_now" (defArgs s_KeptNumber__step_now) (defBody s_KeptNumber__step_now) (defScope s_KeptNumber__step_now) .none kV14 dc14 pm14 an14 cd14 ct14), sl14⟩) (c14 : PySem.W.codeIn K cd14 "KeptNumber.step_now" = true) (k14 : PySem.W.keepIn K (.ref f14) = true)
    (a15 : PySem.W.nsIn K mainGlobals "_law_told" = some (some (.ref f15))) (l15 : K.lookup f15 = some ⟨oc15, od15, .func (PySem.W.fnOf "_law_told" "_law_told" (defArgs s__law_told) (defBody s__law_told) (defScope s__law_told) .none kV15 dc15 pm15 an15 cd15 ct15), sl15⟩) (c15 : PySem.W.codeIn K cd15 "_law_told" = true) (k15 : PySem.W.keepIn K (.ref f15) = true)
    (a16 : PySem.W.findIn K (.ref k_KeptNumber) "check_figure" = some (some (.ref f16))) (i16 : PySem.W.isFn K (.ref f16) = true) (l16 : K.lookup f16 = some ⟨oc16, od16, .func (PySem.W.fnOf "check_figure" "KeptNumber.check_figure" (defArgs s_KeptNumber__check_figure) (defBody s_KeptNumber__check_figure) (defScope s_KeptNumber__check_figure) .none kV16 dc16 pm16 an16 cd16 ct16), sl16⟩) (c16 : PySem.W.codeIn K cd16 "KeptNumber.check_figure" = true) (k16 : PySem.W.keepIn K (.ref f16) = true)
    (a17 : PySem.W.findIn K (.ref k_KeptNumber) "set_figure" = some (some (.ref f17))) (i17 : PySem.W.isFn K (.ref f17) = true) (l17 : K.lookup f17 = some ⟨oc17, od17, .func (PySem.W.fnOf "set_figure" "KeptNumber.set_figure" (defArgs s_KeptNumber__set_figure) (defBody s_KeptNumber__set_figure) (defScope s_KeptNumber__set_figure) .none kV17 dc17 pm17 an17 cd17 ct17), sl17⟩) (c17 : PySem.W.codeIn K cd17 "KeptNumber.set_figure" = true) (k17 : PySem.W.keepIn K (.ref f17) = true)
    (a18 : PySem.W.findIn K (.ref k_KeptNumber) "put_figure" = some (some (.ref f18))) (i18 : PySem.W.isFn K (.ref f18) = true) (l18 : K.lookup f18 = some ⟨oc18, od18, .func (PySem.W.fnOf "put_figure" "KeptNumber.put_figure" (defArgs s_KeptNumber__put_figure) (defBody s_KeptNumber__put_figure) (defScope s_KeptNumber__put_figure) .none kV18 dc18 pm18 an18 cd18 ct18), sl18⟩) (c18 : PySem.W.codeIn K cd18 "KeptNumber.put_figure" = true) (k18 : PySem.W.keepIn K (.ref f18) = true)
    (a19 : PySem.W.findIn K (.ref k_KeptNumber) "take_off" = some (some (.ref f19))) (i19 : PySem.W.isFn K (.ref f19) = true) (l19 : K.lookup f19 = some ⟨oc19, od19, .func (PySem.W.fnOf "take_off" "KeptNumber.take_off" (defArgs s_KeptNumber__take_off) (defBody s_KeptNumber__take_off) (defScope s_KeptNumber__take_off) .none kV19 dc19 pm19 an19 cd19 ct19), sl19⟩) (c19 : PySem.W.codeIn K cd19 "KeptNumber.take_off" = true) (k19 : PySem.W.keepIn K (.ref f19) = true)
    (a20 : PySem.W.nsIn K mainGlobals "_law_deed" = some (some (.ref f20))) (l20 : K.lookup f20 = some ⟨oc20, od20, .func (PySem.W.fnOf "_law_deed" "_law_deed" (defArgs s__law_deed) (defBody s__law_deed) (defScope s__law_deed) .none kV20 dc20 pm20 an20 cd20 ct20), sl20⟩) (c20 : PySem.W.codeIn K cd20 "_law_deed" = true) (k20 : PySem.W.keepIn K (.ref f20) = true)
    (a21 : PySem.W.findIn K (.ref k_KeptNumber) "__init__" = some (some (.ref f21))) (i21 : PySem.W.isFn K (.ref f21) = true) (l21 : K.lookup f21 = some ⟨oc21, od21, .func (PySem.W.fnOf "__init__" "KeptNumber.__init__" (defArgs s_KeptNumber__init) (defBody s_KeptNumber__init) (defScope s_KeptNumber__init) .none kV21 dc21 pm21 an21 cd21 ct21), sl21⟩) (c21 : PySem.W.codeIn K cd21 "KeptNumber.__init__" = true) (k21 : PySem.W.keepIn K (.ref f21) = true)
    (a22 : PySem.W.nsIn K mainGlobals "_law_afresh" = some (some (.ref f22))) (l22 : K.lookup f22 = some ⟨oc22, od22, .func (PySem.W.fnOf "_law_afresh" "_law_afresh" (defArgs s__law_afresh) (defBody s__law_afresh) (defScope s__law_afresh) .none kV22 dc22 pm22 an22 cd22 ct22), sl22⟩) (c22 : PySem.W.codeIn K cd22 "_law_afresh" = true) (k22 : PySem.W.keepIn K (.ref f22) = true)
    (a23 : PySem.W.nsIn K mainGlobals "_law_back_right" = some (some (.ref f23))) (l23 : K.lookup f23 = some ⟨oc23, od23, .func (PySem.W.fnOf "_law_back_right" "_law_back_right" (defArgs s__law_back_right) (defBody s__law_back_right) (defScope s__law_back_right) .none kV23 dc23 pm23 an23 cd23 ct23), sl23⟩) (c23 : PySem.W.codeIn K cd23 "_law_back_right" = true) (k23 : PySem.W.keepIn K (.ref f23) = true)
    (a24 : PySem.W.nsIn K mainGlobals "law" = some (some (.ref f24))) (l24 : K.lookup f24 = some ⟨oc24, od24, .func (PySem.W.fnOf "law" "law" (defArgs s_law) (defBody s_law) (defScope s_law) .none kV24 dc24 pm24 an24 cd24 ct24), sl24⟩) (c24 : PySem.W.codeIn K cd24 "law" = true) (k24 : PySem.W.keepIn K (.ref f24) = true)
    (z0 : PySem.W.nsIn K mainGlobals "enumerate" = some none)
    (z1 : PySem.W.nsIn K mainGlobals "int" = some none)
    (z2 : PySem.W.nsIn K mainGlobals "len" = some none)
    (z3 : PySem.W.nsIn K mainGlobals "list" = some none)
    (z4 : PySem.W.nsIn K mainGlobals "max" = some none)
    (z5 : PySem.W.nsIn K mainGlobals "min" = some none)
    (z6 : PySem.W.nsIn K mainGlobals "range" = some none)
    (z7 : PySem.W.nsIn K mainGlobals "sum" = some none)
    (z8 : PySem.W.nsIn K mainGlobals "tuple" = some none)
    {u0 : Tok} (y0 : PySem.W.nsIn K mainGlobals "FIGURES" = some (some (.str "0123456789abcdef" u0)))
    : ∃ fd : FuncData, (∀ (s : Shared) (v : Value), BindsTo s fd ⟨[v], []⟩ [("script", v)]) ∧ ∀ base : Heap, K.In base → base.Ns mainGlobals mg → FnOk l.prog w K mg base CX0 8 fa fd ["script"] (sp_law K) := by
  have e := hfa.symm.trans (PySem.W.mg_of X G a24)
  cases e
  have F0 := fun_mk (st := s_read_number) l0 c0 k0
  have F1 := fun_mk (st := s_figures_of) l1 c1 k1
  have F2 := fun_mk (st := s_number_shown) l2 c2 k2
  have F3 := fun_mk (st := s_power_of) l3 c3 k3
  have F4 := fun_mk (st := s_step_of) l4 c4 k4
  have F5 := fun_mk (st := s_worths_of) l5 c5 k5
  have F6 := fun_mk (st := s_way_of) l6 c6 k6
  have F7 := fun_mk (st := s_end_of) l7 c7 k7
  have F8 := fun_mk (st := s__law_mix) l8 c8 k8
  have F9 := fun_mk (st := s__law_deck) l9 c9 k9
  have F10 := fun_mk (st := s__law_next) l10 c10 k10
  have F11 := fun_mk (st := s__law_pair) l11 c11 k11
  have F12 := fun_mk (st := s_KeptNumber__number_now) l12 c12 k12
  have F13 := fun_mk (st := s_KeptNumber__end_now) l13 c13 k13
  have F14 := fun_mk (st := s_KeptNumber__step_now) l14 c14 k14
  have F15 := fun_mk (st := s__law_told) l15 c15 k15
  have F16 := fun_mk (st := s_KeptNumber__check_figure) l16 c16 k16
  have F17 := fun_mk (st := s_KeptNumber__set_figure) l17 c17 k17
  have F18 := fun_mk (st := s_KeptNumber__put_figure) l18 c18 k18
  have F19 := fun_mk (st := s_KeptNumber__take_off) l19 c19 k19
  have F20 := fun_mk (st := s__law_deed) l20 c20 k20
  have F21 := fun_mk (st := s_KeptNumber__init) l21 c21 k21
  have F22 := fun_mk (st := s__law_afresh) l22 c22 k22
  have F23 := fun_mk (st := s__law_back_right) l23 c23 k23
  have F24 := fun_mk (st := s_law) l24 c24 k24
  let T : Txt K mg := {
    f_read_number := f0,
    fd_read_number := _,
    F_read_number := F0,
    g_read_number := PySem.W.mg_of X G a0,
    b_read_number := F0.binds (ps := ["text", "base"]) (fun _ _ _ _ _ _ us hl => match us, hl with | [_, _], _ => rfl),
    f_figures_of := f1,
    fd_figures_of := _,
    F_figures_of := F1,
    g_figures_of := PySem.W.mg_of X G a1,
    b_figures_of := F1.binds (ps := ["number", "base"]) (fun _ _ _ _ _ _ us hl => match us, hl with | [_, _], _ => rfl),
    f_number_shown := f2,
    fd_number_shown := _,
    F_number_shown := F2,
    g_number_shown := PySem.W.mg_of X G a2,
    b_number_shown := F2.binds (ps := ["number", "base"]) (fun _ _ _ _ _ _ us hl => match us, hl with | [_, _], _ => rfl),
    f_power_of := f3,
    fd_power_of := _,
    F_power_of := F3,
    g_power_of := PySem.W.mg_of X G a3,
    b_power_of := F3.binds (ps := ["figure", "power"]) (fun _ _ _ _ _ _ us hl => match us, hl with | [_, _], _ => rfl),
    f_step_of := f4,
    fd_step_of := _,
    F_step_of := F4,
    g_step_of := PySem.W.mg_of X G a4,
    b_step_of := F4.binds (ps := ["number", "base", "power"]) (fun _ _ _ _ _ _ us hl => match us, hl with | [_, _, _], _ => rfl),
    f_worths_of := f5,
    fd_worths_of := _,
    F_worths_of := F5,
    g_worths_of := PySem.W.mg_of X G a5,
    b_worths_of := F5.binds (ps := ["base", "power"]) (fun _ _ _ _ _ _ us hl => match us, hl with | [_, _], _ => rfl),
    f_way_of := f6,
    fd_way_of := _,
    F_way_of := F6,
    g_way_of := PySem.W.mg_of X G a6,
    b_way_of := F6.binds (ps := ["number", "base", "power"]) (fun _ _ _ _ _ _ us hl => match us, hl with | [_, _, _], _ => rfl),
    f_end_of := f7,
    fd_end_of := _,
    F_end_of := F7,
    g_end_of := PySem.W.mg_of X G a7,
    b_end_of := F7.binds (ps := ["number", "base", "power"]) (fun _ _ _ _ _ _ us hl => match us, hl with | [_, _, _], _ => rfl),
    f__law_mix := f8,
    fd__law_mix := _,
    F__law_mix := F8,
    g__law_mix := PySem.W.mg_of X G a8,
    b__law_mix := F8.binds (ps := ["cell", "k"]) (fun _ _ _ _ _ _ us hl => match us, hl with | [_, _], _ => rfl),
    f__law_deck := f9,
    fd__law_deck := _,
    F__law_deck := F9,
    g__law_deck := PySem.W.mg_of X G a9,
    b__law_deck := F9.binds (ps := ["script"]) (fun _ _ _ _ _ _ us hl => match us, hl with | [_], _ => rfl),
    f__law_next := f10,
    fd__law_next := _,
    F__law_next := F10,
    g__law_next := PySem.W.mg_of X G a10,
    b__law_next := F10.binds (ps := ["deck", "many"]) (fun _ _ _ _ _ _ us hl => match us, hl with | [_, _], _ => rfl),
    f__law_pair := f11,
    fd__law_pair := _,
    F__law_pair := F11,
    g__law_pair := PySem.W.mg_of X G a11,
    b__law_pair := F11.binds (ps := ["deck"]) (fun _ _ _ _ _ _ us hl => match us, hl with | [_], _ => rfl),
    f_KeptNumber__number_now := f12,
    fd_KeptNumber__number_now := _,
    F_KeptNumber__number_now := F12,
    b_KeptNumber__number_now := F12.binds (ps := ["self"]) (fun _ _ _ _ _ _ us hl => match us, hl with | [_], _ => rfl),
    f_KeptNumber__end_now := f13,
    fd_KeptNumber__end_now := _,
    F_KeptNumber__end_now := F13,
    b_KeptNumber__end_now := F13.binds (ps := ["self"]) (fun _ _ _ _ _ _ us hl => match us, hl with | [_], _ => rfl),
    f_KeptNumber__step_now := f14,
    fd_KeptNumber__step_now := _,
    F_KeptNumber__step_now := F14,
    b_KeptNumber__step_now := F14.binds (ps := ["self"]) (fun _ _ _ _ _ _ us hl => match us, hl with | [_], _ => rfl),
    f__law_told := f15,
    fd__law_told := _,
    F__law_told := F15,
    g__law_told := PySem.W.mg_of X G a15,
    b__law_told := F15.binds (ps := ["kept"]) (fun _ _ _ _ _ _ us hl => match us, hl with | [_], _ => rfl),
    f_KeptNumber__check_figure := f16,
    fd_KeptNumber__check_figure := _,
    F_KeptNumber__check_figure := F16,
    b_KeptNumber__check_figure := F16.binds (ps := ["self", "figure"]) (fun _ _ _ _ _ _ us hl => match us, hl with | [_, _], _ => rfl),
    f_KeptNumber__set_figure := f17,
    fd_KeptNumber__set_figure := _,
    F_KeptNumber__set_figure := F17,
    b_KeptNumber__set_figure := F17.binds (ps := ["self", "place", "figure"]) (fun _ _ _ _ _ _ us hl => match us, hl with | [_, _, _], _ => rfl),
    f_KeptNumber__put_figure := f18,
    fd_KeptNumber__put_figure := _,
    F_KeptNumber__put_figure := F18,
    b_KeptNumber__put_figure := F18.binds (ps := ["self", "figure"]) (fun _ _ _ _ _ _ us hl => match us, hl with | [_, _], _ => rfl),
    f_KeptNumber__take_off := f19,
    fd_KeptNumber__take_off := _,
    F_KeptNumber__take_off := F19,
    b_KeptNumber__take_off := F19.binds (ps := ["self"]) (fun _ _ _ _ _ _ us hl => match us, hl with | [_], _ => rfl),
    f__law_deed := f20,
    fd__law_deed := _,
    F__law_deed := F20,
    g__law_deed := PySem.W.mg_of X G a20,
    b__law_deed := F20.binds (ps := ["deck", "kept", "figures", "base"]) (fun _ _ _ _ _ _ us hl => match us, hl with | [_, _, _, _], _ => rfl),
    f_KeptNumber__init := f21,
    fd_KeptNumber__init := _,
    F_KeptNumber__init := F21,
    b_KeptNumber__init := F21.binds (ps := ["self", "base", "power"]) (fun _ _ _ _ _ _ us hl => match us, hl with | [_, _, _], _ => rfl),
    f__law_afresh := f22,
    fd__law_afresh := _,
    F__law_afresh := F22,
    g__law_afresh := PySem.W.mg_of X G a22,
    b__law_afresh := F22.binds (ps := ["base", "power", "figures", "other"]) (fun _ _ _ _ _ _ us hl => match us, hl with | [_, _, _, _], _ => rfl),
    f__law_back_right := f23,
    fd__law_back_right := _,
    F__law_back_right := F23,
    g__law_back_right := PySem.W.mg_of X G a23,
    b__law_back_right := F23.binds (ps := ["deck", "kept", "base"]) (fun _ _ _ _ _ _ us hl => match us, hl with | [_, _, _], _ => rfl),
    f_law := fa,
    fd_law := _,
    F_law := F24,
    g_law := PySem.W.mg_of X G a24,
    b_law := F24.binds (ps := ["script"]) (fun _ _ _ _ _ _ us hl => match us, hl with | [_], _ => rfl),
    m_enumerate := PySem.W.mg_none_of X G z0,
    m_int := PySem.W.mg_none_of X G z1,
    m_len := PySem.W.mg_none_of X G z2,
    m_list := PySem.W.mg_none_of X G z3,
    m_max := PySem.W.mg_none_of X G z4,
    m_min := PySem.W.mg_none_of X G z5,
    m_range := PySem.W.mg_none_of X G z6,
    m_sum := PySem.W.mg_none_of X G z7,
    m_tuple := PySem.W.mg_none_of X G z8,
    t_FIGURES := u0,
    c_FIGURES := PySem.W.mg_of X G y0,
    k_KeptNumber := k_KeptNumber,
    gk_KeptNumber := PySem.W.mg_of X G oa_KeptNumber,
    cl_KeptNumber := ⟨og_KeptNumber, oh_KeptNumber, op_KeptNumber, os_KeptNumber⟩,
    na_KeptNumber_base := on_KeptNumber_base,
    na_KeptNumber_power := on_KeptNumber_power,
    na_KeptNumber_worths := on_KeptNumber_worths,
    na_KeptNumber_figures := on_KeptNumber_figures,
    me_KeptNumber__number_now := ⟨a12, i12, k12⟩,
    me_KeptNumber__end_now := ⟨a13, i13, k13⟩,
    me_KeptNumber__step_now := ⟨a14, i14, k14⟩,
    me_KeptNumber__check_figure := ⟨a16, i16, k16⟩,
    me_KeptNumber__set_figure := ⟨a17, i17, k17⟩,
    me_KeptNumber__put_figure := ⟨a18, i18, k18⟩,
    me_KeptNumber__take_off := ⟨a19, i19, k19⟩,
    M_KeptNumber := ⟨om_KeptNumber, a21, i21, ok_KeptNumber⟩ }
  exact ⟨_, fun s v => .of_eq rfl, fun base _ _ => ok_law T⟩
end Fx
open PySem PySem.W PyProof.Rows
set_option maxHeartbeats 0 in
theorem PySem.Challenge.cw_figurerounds_k33_whole_kept_as_afresh_holds : PySem.Challenge.rw_figurerounds_k33_whole_kept_as_afresh.Holds := by
  w_on; o_law; k_head; (case hw => w_witness2)
  k_fill
  refine L2.walk_of (l := PySem.Challenge.rw_figurerounds_k33_whole_kept_as_afresh) (n := 63) (k := 8) (x := "script") (CX := fun _ => L2.CX0) (sp := fun w => Fx.sp_law _) rfl (by decide) rfl ⟨rfl, by decide, by decide⟩ (fun w h Y => PySem.W.kIn_of Y) ?F (fun _ _ a ns hl _ hS => Fx.law_start hl hS) (fun _ _ _ _ _ h => h)
  case F =>
    intro w mg fa h KX G hmg
    refine' Fx.all_mk KX G hmg ?oa_KeptNumber ?og_KeptNumber ?oh_KeptNumber ?op_KeptNumber ?os_KeptNumber ?om_KeptNumber ?ok_KeptNumber ?on_KeptNumber_base ?on_KeptNumber_power ?on_KeptNumber_worths ?on_KeptNumber_figures ?a0 ?l0 ?c0 ?k0 ?a1 ?l1 ?c1 ?k1 ?a2 ?l2 ?c2 ?k2 ?a3 ?l3 ?c3 ?k3 ?a4 ?l4 ?c4 ?k4 ?a5 ?l5 ?c5 ?k5 ?a6 ?l6 ?c6 ?k6 ?a7 ?l7 ?c7 ?k7 ?a8 ?l8 ?c8 ?k8 ?a9 ?l9 ?c9 ?k9 ?a10 ?l10 ?c10 ?k10 ?a11 ?l11 ?c11 ?k11 ?a12 ?i12 ?l12 ?c12 ?k12 ?a13 ?i13 ?l13 ?c13 ?k13 ?a14 ?i14 ?l14 ?c14 ?k14 ?a15 ?l15 ?c15 ?k15 ?a16 ?i16 ?l16 ?c16 ?k16 ?a17 ?i17 ?l17 ?c17 ?k17 ?a18 ?i18 ?l18 ?c18 ?k18 ?a19 ?i19 ?l19 ?c19 ?k19 ?a20 ?l20 ?c20 ?k20 ?a21 ?i21 ?l21 ?c21 ?k21 ?a22 ?l22 ?c22 ?k22 ?a23 ?l23 ?c23 ?k23 ?a24 ?l24 ?c24 ?k24 ?z0 ?z1 ?z2 ?z3 ?z4 ?z5 ?z6 ?z7 ?z8 ?y0
    (case oa_KeptNumber => k_is); (case og_KeptNumber => k_is); (case oh_KeptNumber => k_is); (case op_KeptNumber => k_is); (case os_KeptNumber => k_is); (case om_KeptNumber => k_is); (case ok_KeptNumber => k_is); (case on_KeptNumber_base => k_is); (case on_KeptNumber_power => k_is); (case on_KeptNumber_worths => k_is); (case on_KeptNumber_figures => k_is); (case a0 => k_is); (case l0 => k_is); (case c0 => k_is); (case k0 => k_is); (case a1 => k_is); (case l1 => k_is); (case c1 => k_is); (case k1 => k_is); (case a2 => k_is); (case l2 => k_is); (case c2 => k_is); (case k2 => k_is); (case a3 => k_is); (case l3 => k_is); (case c3 => k_is); (case k3 => k_is); (case a4 => k_is); (case l4 => k_is); (case c4 => k_is); (case k4 => k_is); (case a5 => k_is); (case l5 => k_is); (case c5 => k_is); (case k5 => k_is); (case a6 => k_is); (case l6 => k_is); (case c6 => k_is); (case k6 => k_is); (case a7 => k_is); (case l7 => k_is); (case c7 => k_is); (case k7 => k_is); (case a8 => k_is); (case l8 => k_is); (case c8 => k_is); (case k8 => k_is); (case a9 => k_is); (case l9 => k_is); (case c9 => k_is); (case k9 => k_is); (case a10 => k_is); (case l10 => k_is); (case c10 => k_is); (case k10 => k_is); (case a11 => k_is); (case l11 => k_is); (case c11 => k_is); (case k11 => k_is); (case a12 => k_is); (case i12 => k_is); (case l12 => k_is); (case c12 => k_is); (case k12 => k_is); (case a13 => k_is); (case i13 => k_is); (case l13 => k_is); (case c13 => k_is); (case k13 => k_is); (case a14 => k_is); (case i14 => k_is); (case l14 => k_is); (case c14 => k_is); (case k14 => k_is); (case a15 => k_is); (case l15 => k_is); (case c15 => k_is); (case k15 => k_is); (case a16 => k_is); (case i16 => k_is); (case l16 => k_is); (case c16 => k_is); (case k16 => k_is); (case a17 => k_is); (case i17 => k_is); (case l17 => k_is); (case c17 => k_is); (case k17 => k_is); (case a18 => k_is); (case i18 => k_is); (case l18 => k_is); (case c18 => k_is); (case k18 => k_is); (case a19 => k_is); (case i19 => k_is); (case l19 => k_is); (case c19 => k_is); (case k19 => k_is); (case a20 => k_is); (case l20 => k_is); (case c20 => k_is); (case k20 => k_is); (case a21 => k_is); (case i21 => k_is); (case l21 => k_is); (case c21 => k_is); (case k21 => k_is); (case a22 => k_is); (case l22 => k_is); (case c22 => k_is); (case k22 => k_is); (case a23 => k_is); (case l23 => k_is); (case c23 => k_is); (case k23 => k_is); (case a24 => k_is); (case l24 => k_is); (case c24 => k_is); (case k24 => k_is); (case z0 => k_is); (case z1 => k_is); (case z2 => k_is); (case z3 => k_is); (case z4 => k_is); (case z5 => k_is); (case z6 => k_is); (case z7 => k_is); (case z8 => k_is); (case y0 => k_is)
