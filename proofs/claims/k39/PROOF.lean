import PyProof.Rows.All
import Wide.All
import OpenK.AllK
import Wide.FinOn
import HandS.ForMost
import HandS.Wide
import HandS.Style
import HandS.IsInst
import HandS.Conv
import HandS.Codes
import HandS.TupAny
import HandS.Exc
import HandS.ExcIs
import HandS.ExcField
import HandS.ExcInit
import KE.KExcIs
import HandS.ExcOwn
import HandS.Nested
import HandS.FStr
import KE.KExcSuper
import HandS.ForExc
import HandS.WordsExc
import KE.RegKSuper
import HandS.Walk
import KE.GoesEnum
import HandS.NoneIn
import KE.DataCmp
import KE.KEqDeep
import PyProof.RulesMatch
import PyProof.RulesMatchSeq
import PyProof.Rows.MatchSeqLen
import PyProof.Rows.TupAssign
import KE.KUnpack
import HandS.ExcValue
import KE.KExcStr
import KE.KUnpackStar
import PyProof.MakeMany
import HandS.SetFor
import PyProof.StrOps2
import PyProof.EqKinds
import PySem.Challenge.RW_figurerounds_k39_desk_of_forty_figures
set_option Elab.async false
set_option linter.all false
set_option maxRecDepth 100000
set_option maxHeartbeats 4000000

/-! my own words for readings: "rd" goes on while there is one way only -/
local macro_rules | `(tactic| walk_at "cc") => `(tactic| first
  | (with_reducible exact rfl) | (dsimp only [CMul, CDivW]; omega) | (exact ⟨by decide +kernel, by decide +kernel⟩) | decide +kernel)
local macro_rules | `(tactic| walk_at "rd1") => `(tactic| first
  | refine ⟨_, rfl, ?_⟩ | refine ⟨_, _, rfl, rfl, ?_⟩ | refine ⟨rfl, ?_⟩)
local macro_rules | `(tactic| walk_at "rd") => `(tactic| repeat (walk_at "rd1"))

local macro_rules | `(tactic| walk_at "p") => `(tactic| ((show (0 : Int) < _); first | assumption | omega | decide))

namespace Fx
open PySem PySem.Spec PyProof.Rows L2

/-! ### rules named by their readings, for comprehensions -/
def rLenQ (K : PySem.W.Frag) : List V → Hp → VK → Prop := fun xs H Q => ∃ p ys, xs = [V.ref p] ∧ (SqL K H p ys ∨ SqT K H p ys) ∧ Q (.int ys.length) H
def rListQ (K : PySem.W.Frag) : List V → Hp → VK → Prop := fun xs H Q => ∃ p ys, xs = [V.ref p] ∧ (SqL K H p ys ∨ SqT K H p ys) ∧ ∀ l, H l = none → Q (.ref l) (upd H l (.lst ys))

def rTupQ (K : PySem.W.Frag) : List V → Hp → VK → Prop := fun xs H Q => ∃ p ys, xs = [V.ref p] ∧ ((SqL K H p ys ∧ ∀ l, H l = none → Q (.ref l) (upd H l (.tup ys))) ∨ SqT K H p ys ∧ Q (.ref p) H)

/-! ### what stays -/
def But (d : Addr) (H H' : Hp) : Prop := ∀ b o, b ≠ d → H b = some o → H' b = some o
theorem But.refl (d : Addr) (H : Hp) : But d H H := fun _ _ _ h => h
theorem But.trans {d : Addr} {H H1 H2 : Hp} (a : But d H H1) (b : But d H1 H2) : But d H H2 := fun x o n h => b x o n (a x o n h)
theorem But.of {d : Addr} {H H' : Hp} (a : Same H H') : But d H H' := fun x o _ h => a x o h
theorem But.new {d p : Addr} {H : Hp} {o : HO} (h : H p = none) : But d H (upd H p o) := fun b u _ e => by
  rw [upd_ne (ne_of_none e h)]
  exact e
theorem But.set {d : Addr} {H : Hp} {o : HO} : But d H (upd H d o) := fun b u n e => by
  rw [upd_ne n]
  exact e
theorem But.fresh {d p : Addr} {H H' : Hp} (a : But d H H') (hd : ∃ o, H' d = some o) (h : H' p = none) : H p = none := by
  cases e : H p with
  | none => rfl
  | some o =>
    by_cases z : p = d
    · obtain ⟨u, hu⟩ := hd
      rw [z, hu] at h
      cases h
    · rw [a p o z e] at h
      cases h
theorem Same.new {p : Addr} {H : Hp} {o : HO} (h : H p = none) : Same H (upd H p o) := fun b u e => by
  rw [upd_ne (ne_of_none e h)]
  exact e

/-- behind a new object, named by «generalize g : upd H p _ = H'» -/
theorem new_of {H H' : Hp} {p : Addr} {o : HO} (g : upd H p o = H') (hp : H p = none) : Same H H' ∧ H' p = some o := by
  subst g
  exact ⟨Same.new hp, upd_same⟩
theorem set_of {H H' : Hp} {p : Addr} {o : HO} (g : upd H p o = H') : But p H H' ∧ H' p = some o := by
  subst g
  exact ⟨But.set, upd_same⟩

/-! ### the draws -/
/-- the cells at c, the deck at d, at most n draws so far -/
structure Deck (H : Hp) (d c : Addr) (n : Nat) : Prop where
  ex : ∃ (ns : List Int) (i l m t : Int), H d = some (.lst [.ref c, .int i, .int l, .int m, .int t]) ∧ H c = some (.lst (ns.map V.int)) ∧ 0 ≤ i ∧ i ≤ n ∧ 0 ≤ m ∧ m ≤ n
theorem Deck.there {H : Hp} {d c : Addr} {n : Nat} (h : Deck H d c n) : ∃ o, H d = some o := by
  obtain ⟨ns, i, l, m, t, e, _⟩ := h.ex
  exact ⟨_, e⟩
theorem Deck.some {H : Hp} {d c : Addr} {n : Nat} (h : Deck H d c n) : ∃ xs, H d = some (.lst xs) := by
  obtain ⟨ns, i, l, m, t, e, _⟩ := h.ex
  exact ⟨_, e⟩
theorem Deck.ne {H : Hp} {d c : Addr} {n : Nat} (h : Deck H d c n) : c ≠ d := by
  obtain ⟨ns, i, l, m, t, e, e2, _⟩ := h.ex
  intro z
  rw [z, e] at e2
  cases ns with
  | nil => cases e2
  | cons x r => cases e2
theorem Deck.mono {H : Hp} {d c : Addr} {n k : Nat} (h : Deck H d c n) (l : n ≤ k) : Deck H d c k := by
  obtain ⟨ns, i, l, m, t, e, e2, h1, h2, h3, h4⟩ := h.ex
  exact ⟨ns, i, l, m, t, e, e2, h1, by omega, h3, by omega⟩
theorem Deck.same {H H' : Hp} {d c : Addr} {n : Nat} (h : Deck H d c n) (a : Same H H') : Deck H' d c n := by
  obtain ⟨ns, i, l, m, t, e, e2, r⟩ := h.ex
  exact ⟨ns, i, l, m, t, a _ _ e, a _ _ e2, r⟩
theorem Deck.new {H : Hp} {d c p : Addr} {n : Nat} {o : HO} (h : Deck H d c n) (hp : H p = none) : Deck (upd H p o) d c n := h.same (Same.new hp)
/-- something else than the deck and its cells is written -/
theorem Deck.off {H : Hp} {d c p : Addr} {n : Nat} {o : HO} (h : Deck H d c n) (h1 : p ≠ d) (h2 : p ≠ c) : Deck (upd H p o) d c n := by
  obtain ⟨ns, i, l, m, t, e, e2, r⟩ := h.ex
  exact ⟨ns, i, l, m, t, by rw [upd_ne (Ne.symm h1)]; exact e, by rw [upd_ne (Ne.symm h2)]; exact e2, r⟩
/-- a list of our own grows -/
theorem But.own {d p : Addr} {H H' : Hp} {o : HO} (a : But d H H') (hp : H p = none) : But d H (upd H' p o) := fun b u n e => by
  rw [upd_ne (ne_of_none e hp)]
  exact a b u n e
theorem Deck.out {H : Hp} {d c p : Addr} {n : Nat} (h : Deck H d c n) (hp : H p = none) : p ≠ d ∧ p ≠ c := by
  obtain ⟨ns, i, l, m, t, e, e2, r⟩ := h.ex
  exact ⟨(ne_of_none e hp).symm, (ne_of_none e2 hp).symm⟩
/-- an object that is no list stays -/
theorem But.tup {d c p : Addr} {n : Nat} {H H' : Hp} {xs : List V} (a : But d H H') (h : Deck H d c n) (e : H p = some (.tup xs)) : H' p = some (.tup xs) := by
  obtain ⟨ys, q⟩ := h.some
  exact a p _ (ne_of e q (fun z => by cases z)) e

/-- a slice from the first on -/
theorem cut_to (xs : List V) (n : Nat) : cutV xs none (some (n : Int)) = xs.take n := by
  unfold cutV
  rw [HT.sIx_none, HT.sIx_nat]
  show List.take (min n xs.length - 0) (xs.drop 0) = _
  rw [List.drop_zero, Nat.sub_zero]
  by_cases h : n ≤ xs.length
  · rw [Nat.min_eq_left h]
  · rw [Nat.min_eq_right (by omega), List.take_length, List.take_of_length_le (by omega)]
/-- a slice from the n-th on -/
theorem cut_from (xs : List V) (n : Nat) : cutV xs (some (n : Int)) none = xs.drop n := by
  unfold cutV
  rw [HT.sIx_none, HT.sIx_nat]
  by_cases h : n ≤ xs.length
  · rw [Nat.min_eq_left h]
    exact List.take_of_length_le (by rw [List.length_drop]; omega)
  · rw [Nat.min_eq_right (by omega), Nat.sub_self, List.take_zero, List.drop_eq_nil_of_le (by omega)]

/-- a while's next turn -/
def Nx (W : Nat → L2.St → Hp → Prop) (m : Nat) : L2.St → Hp → Prop := fun σ' H' => ∃ m', m' < m ∧ W m' σ' H'
theorem Nx.id {W : Nat → L2.St → Hp → Prop} {m : Nat} : ∀ σ' H', Nx W m σ' H' → ∃ m', m' < m ∧ W m' σ' H' := fun _ _ h => h

theorem small5 {n : Nat} (h : n < 100000) : n < sizeLine := Nat.lt_of_lt_of_le h (by decide)

/-- a divisor's, a factor's bound -/
theorem divW {i j : Int} (b : Nat) (h : 0 < j) (hb : j < 2 ^ b) (h0 : 0 < b := by decide) (h9 : b ≤ 9000 := by decide) : CDivW i j := wide_div h (b := b) (by
  have e : ((2 ^ b : Nat) : Int) = (2 : Int) ^ b := by simp
  omega) h0 h9
end Fx

namespace Fx
open PySem PySem.Spec PyProof.Rows L2
/-! ### a caught exception that is kept behind its clause -/
/-- at a: a caught exception of the class, with its dict -/
def heldO (cls : Value) (d : Option Addr) (a : Addr) : HO :=
  .ext fun h => ∃ oe vs, h.get? a = some oe ∧ Zc cls d oe ∧ oe.data = .fields vs
theorem heldO_ok {P : Program} {w : World} {H : Hp} {h : Heap} {cls : Value} {d : Option Addr} {a : Addr} {o : Obj} {vs : Array Value}
    (e : h.get? a = some o) (z : Zc cls d o) (f : o.data = .fields vs) : ObjOk P w H h a (heldO cls d a) :=
  ⟨⟨o, vs, e, z, f⟩, ⟨o, e⟩, fun _ _ ⟨u, ws, q, r⟩ keep => ⟨u, ws, keep u q, r⟩⟩

section
variable {X : Cx} {pins : List (Addr × Obj)} {σ : L2.St}
variable {H : Hp} {s : Shared}
/-- an object that the entry hasn't seen may be told of from now on -/
theorem inv_tell {a : Addr} {φ : Heap → Prop} (I : Inv X pins σ H s) (free : H a = none) (new : X.s_0.heap.get? a = none)
    (notL : a ≠ X.env.locals) (notC : ∀ x c, X.env.cells.lookup x = some c → c ≠ a)
    (notP : ∀ p ∈ X.pn ++ pins, p.1 ≠ a) (ok : ObjOk X.prog X.w (upd H a (.ext φ)) s.heap a (.ext φ)) :
    Inv X pins σ (upd H a (.ext φ)) s := by
  have at0 : ∀ {b : Addr} {o : Obj}, X.s_0.heap.get? b = some o → b ≠ a := fun {b o} e z => by
    subst z
    exact nomatch new.symm.trans e
  have atH : ∀ {b : Addr} {o : HO}, H b = some o → upd H a (.ext φ) b = some o := fun {b o} e =>
    (upd_ne (ne_of_none e free)).trans e
  exact {
    ok := I.ok
    os := I.os
    bare := I.bare
    base := {
      keep := I.base.keep
      slot := I.base.slot
      free := fun b o e n x => (upd_ne (at0 e)).trans (I.base.free b o e n x)
      there := I.base.there
      tups := fun b xs e => atH (I.base.tups b xs e)
      frzs := fun b o u e => atH (I.base.frzs b o u e)
      tbls := fun b ps e => by
        obtain ⟨more, q⟩ := I.base.tbls b ps e
        exact ⟨more, atH q⟩ }
    loc := I.loc
    cell := I.cell
    free := (upd_ne (Ne.symm notL)).trans I.free
    freeC := fun x c e => (upd_ne (notC x c e)).trans (I.freeC x c e)
    pin := fun p hp => by
      obtain ⟨e, n, r⟩ := I.pin p hp
      exact ⟨e, (upd_ne (notP p hp)).trans n, r⟩
    hok := fun b o e => by
      by_cases z : b = a
      · subst z
        rw [upd_same] at e
        cases e
        exact ok
      · rw [upd_ne z] at e
        exact ObjOk.stay (I.hok b o e) (fun _ _ _ q => q) (fun _ q => atH q) (fun _ _ q => atH q)
    len := I.len }
end

/-- what 'except x as n' wishes, if the exception is kept: behind the suite it is told of -/
def wKept (K : PySem.W.Frag) (c : Value) (i : Nat) (ts : Addr → Value → Option Addr → TS) (Wout : WX) (D : Ends) : WX :=
  fun cls d σ H => ∃ b, PySem.W.exmOne K cls c = some b ∧
    (b = true → ∀ a, H a = none → ts a cls d {
        nx := fun τ G => G a = none → D.nx (τ.set i none) (upd G a (heldO cls d a))
        rt := fun v G => G a = none → D.rt v (upd G a (heldO cls d a))
        bk := fun τ G => G a = none → D.bk (τ.set i none) (upd G a (heldO cls d a))
        ct := fun τ G => G a = none → D.ct (τ.set i none) (upd G a (heldO cls d a)) }
      (σ.set i (some (.ref a))) H) ∧
    (b = false → Wout cls d σ H)

section
variable {X : Cx} {x n : Str} {c : Value} {i : Nat} {body suite : List Stmt} {b₀ : Stmt} {np pos pos' : Pos}
variable {tb : WX → TS} {ts : Addr → Value → Option Addr → TS} {Wout : WX}
theorem ps_try_kept (hex : X.ex = []) (hstk : X.stack = X.env :: X.outer) (hfrm : X.env.frame = some X.env.locals) (nd : X.N.Nodup)
    (at_i : X.N[i]? = some n) (own : X.env.kindOf n = some .local) (hc : Names X x c) (tk : Takes X Wout)
    (hbody : ∀ (W : WX) (pn : List (Addr × Obj)) (xe : Value → Shared → Prop), Takes (X.tr pn xe) W →
      PassesOwn (model X.prog X.w) X.A X.env xe → PSs (X.tr pn xe) body (tb W))
    (hsuite : ∀ (a : Addr) (oe : Obj) (cls : Value) (d : Option Addr) (pn : List (Addr × Obj)), Zc cls d oe →
      (∃ vs, oe.data = .fields vs) → PSs (X.suite a ((a, oe) :: pn)) (b₀ :: suite) (ts a cls d)) :
    PS X (.Try body [.ExceptHandler (some (.Name x np)) (some n) (b₀ :: suite) pos'] [] [] pos)
      (fun D σ H => tb (wKept X.K c i ts Wout D) D σ H) := by
  refine ⟨fun pins s σ H D I h => wpAny_Try_except ?_⟩
  have ok := I.ok
  have frames : X.A.frames = some (X.env :: X.outer) := hstk ▸ ok.frames
  have R := (hbody (wKept X.K c i ts Wout D) (X.pn ++ pins)
    (fun e s₁ => wpAny (model X.prog X.w) X.A (noteFrame e X.env) (fun _ s₂ =>
      wpAny (model X.prog X.w) X.A (setFlight e none) (fun _ s₃ =>
        wpAny (model X.prog X.w) X.A (handleBy e X.env [.ExceptHandler (some (.Name x np)) (some n) (b₀ :: suite) pos'])
          (SP X pins D) X.xe s₃) X.xe s₂) X.xe s₁) ?caught PassesOwn.looking).run [] s σ H D (Inv.toTry I _) h
  case caught =>
    rintro _ t ⟨a, B, r, ps, τ, G, cls, d, rfl, J0, gr, up, sky, nG, hos, bare, b, match_, yes, no⟩
    have J : Inv X pins τ G r := Inv.ofTry J0 ok
    rw [hstk] at gr
    replace sky : Sky B (X.env :: X.outer) a (Zc cls d) X.env.locals t.heap := hstk ▸ sky
    have J' : ∀ {u : Heap}, B.StaysIn u → r.heap.UpToSlots u → Inv X pins τ G { t with heap := u } := fun st q =>
      Inv.landed (s' := { t with heap := _ }) J (fun b o e m => gr b o e (hstk ▸ m)) st q hos bare
    refine Sky.land Zc.steady frames hfrm sky fun h₁ fl₁ up₁ => ?_
    obtain ⟨o₁, w₁, e₁, z₁, f₁⟩ := fl₁.there
    have notFrame : a ∉ frs (X.env :: X.outer) := fun m => by
      obtain ⟨_, o, e, q⟩ := fl₁.2.2.1.mem m
      cases e₁.symm.trans e
      exact q _ f₁
    have seen : ∀ {o : Obj}, r.heap.get? a ≠ some o := fun {o} e => by
      have q := gr a o e notFrame
      rw [fl₁.2.1] at q
      cases q
    have new : X.s_0.heap.get? a = none := by
      cases q : X.s_0.heap.get? a with
      | none => rfl
      | some o =>
        obtain ⟨o', e⟩ := J.base.there a o q (by rw [hex]; exact List.not_mem_nil)
        exact absurd e seen
    have notL : a ≠ X.env.locals := fun z => notFrame (List.mem_filterMap.mpr ⟨_, List.mem_cons_self, by rw [hfrm, z]⟩)
    have notF : a ∉ X.fs := fun m => by
      obtain ⟨e, em, q⟩ := List.mem_filterMap.mp m
      exact notFrame (List.mem_filterMap.mpr ⟨e, List.mem_cons_of_mem _ em, q⟩)
    have notC : ∀ y k, X.env.cells.lookup y = some k → k ≠ a := fun y k e z => by
      obtain ⟨v, o, q, _⟩ := J.cell y k e
      rw [z] at q
      exact seen q
    have notP : ∀ p ∈ X.pn ++ pins, p.1 ≠ a := fun p hp z => by
      have q := (J.pin p hp).1
      rw [z] at q
      exact seen q
    have S₁ := (J' fl₁.1 (up.trans up₁)).suite e₁ f₁ nG notL notF
    refine wpAny_handleBy_cons (codeAny_handlers_test ?_) (fun q => nomatch q)
    have ty : PySem.W.Looks (model X.prog X.w) h₁ (typeOf (.ref a)) cls := fun _ _ _ _ keep q =>
      wpAny_typeOf_ref (keep _ _ e₁) (z₁.1.symm ▸ q)
    have look := PySem.W.exm_one (M := model X.prog X.w) (J' fl₁.1 (up.trans up₁)).kIn ty match_
    suffices go : wpAny (model X.prog X.w) (X.A.mark (some (.ref a))) (eval (.Name x np) X.env) _ _ { t with heap := h₁ } from go
    have class_ : ∀ {Q : Value → Shared → Prop} {E : Value → Shared → Prop}, Q c { t with heap := h₁ } →
        wpAny (model X.prog X.w) (X.A.mark (some (.ref a))) (eval (.Name x np) X.env) Q E { t with heap := h₁ } := fun {Q E} q => by
      obtain ⟨gl, nodbg, m | ⟨m, v, nn⟩⟩ := hc
      · exact ld_glob (X := X.suite a ((a, o₁) :: (X.pn ++ pins))) S₁ gl m q nodbg
      · exact ld_blt (X := X.suite a ((a, o₁) :: (X.pn ++ pins))) S₁ gl m v q nn nodbg
    refine class_ (look.here ?_)
    cases b with
    | false =>
      show wpAny _ X.A (handleBy (.ref a) X.env []) _ _ _
      refine wpAny_handleBy_nil ?_
      obtain ⟨_, _, _, oe, vs, T, oT, us, he, hz, hd, h1, hr⟩ := id fl₁
      unfold PySem.passOn
      refine wpAny_bind (wpAny_field he hd h1 ?_)
      rw [if_neg (by simp : ¬ ((Value.ref T == Value.none) = true))]
      have out : wpAny (model X.prog X.w) X.A (setFlight (.ref a) X.env.frame) (fun _ s4 =>
          wpAny (model X.prog X.w) X.A (throw (.ref a) : Sem Flow) (SP X pins D) X.xe s4) X.xe { t with heap := h₁ } := by
        rw [hfrm]
        refine HandSPX.setFlight_upZ fl₁ fun h₂ held up₂ => wpAny_throw (tk _ _ ?_)
        exact ⟨a, B, r, pins, τ, G, cls, d, rfl, J, fun b o e m => gr b o e (hstk ▸ m), (up.trans up₁).trans up₂,
          .inr (.inr (by rw [hstk]; exact held)), nG, hos, bare, no rfl⟩
      first
        | exact wpAny_bind (wpAny_pure (wpAny_bind out))
        | exact wpAny_bind out
    | true =>
      refine codeAny_handlers_suite_as (HandSPX.lands_againZ fl₁ fun h₂ fl₂ up₂ => ?_)
      obtain ⟨o₂, w₂, e₂, z₂, f₂⟩ := fl₂.there
      have S₂ := (J' fl₂.1 ((up.trans up₁).trans up₂)).suite e₂ f₂ nG notL notF
      refine store_ok (X := X.suite a ((a, o₂) :: (X.pn ++ pins))) (v := .ref a) S₂ nd at_i (.inl own) rfl (fun s5 S5 => ?_) (.inr own)
      refine wpAny_mono ((hsuite a o₂ cls d (X.pn ++ pins) z₂ ⟨_, f₂⟩).run [] s5 _ G _ S5 (yes rfl a nG)) ?_ fun _ _ z => z.elim
      have close : ∀ {s6 : Shared} {τ6 : L2.St} {G6 : Hp} {Q : Shared → Prop}, Inv (X.suite a ((a, o₂) :: (X.pn ++ pins))) [] τ6 G6 s6 →
          (∀ s7, G6 a = none → Inv X pins (τ6.set i none) (upd G6 a (heldO cls d a)) s7 → Q s7) →
          wpAny (model X.prog X.w) X.A (do bindName X.env n .none; unbindBehindTheSuite X.env n pos') (fun _ s7 => Q s7) X.xe s6 :=
        fun {s6 τ6 G6 Q} S6 q => gone_ok (X := X.suite a ((a, o₂) :: (X.pn ++ pins))) S6 nd at_i own fun s7 S7 => by
          obtain ⟨e7, n7, _⟩ := S7.pin (a, o₂) List.mem_cons_self
          exact q s7 n7 (inv_tell (S7.unsuite ok) n7 new notL notC notP (heldO_ok e7 z₂ f₂))
      intro f s6 hs
      cases f with
      | next =>
        obtain ⟨τ6, G6, S6, q6⟩ := hs
        exact close S6 fun s7 n7 J7 => ⟨_, _, J7, q6 n7⟩
      | brk =>
        obtain ⟨τ6, G6, S6, q6⟩ := hs
        exact close S6 fun s7 n7 J7 => ⟨_, _, J7, q6 n7⟩
      | cont =>
        obtain ⟨τ6, G6, S6, q6⟩ := hs
        exact close S6 fun s7 n7 J7 => ⟨_, _, J7, q6 n7⟩
      | ret u =>
        obtain ⟨v6, τ6, G6, S6, r6, q6⟩ := hs
        exact close S6 fun s7 n7 J7 => ⟨_, _, _, J7, r6, q6 n7⟩
  refine wpAny_mono R (fun f s1 hs => ?_) fun _ _ z => z
  cases f with
  | next =>
    obtain ⟨τ, G, J, q⟩ := hs
    exact wpAny_execs_nil ⟨τ, G, Inv.ofTry J ok, q⟩
  | brk =>
    obtain ⟨τ, G, J, q⟩ := hs
    exact ⟨τ, G, Inv.ofTry J ok, q⟩
  | cont =>
    obtain ⟨τ, G, J, q⟩ := hs
    exact ⟨τ, G, Inv.ofTry J ok, q⟩
  | ret u =>
    obtain ⟨v, τ, G, J, r, q⟩ := hs
    exact ⟨v, τ, G, Inv.ofTry J ok, r, q⟩
end
end Fx

namespace Fx
open PySem PySem.Spec
open PyProof.Rows L2
/-! ### what a kept exception tells -/
/-- at a: an exception of the class at C, its own dict d -/
def KX (H : Hp) (a C : Addr) (d : Option Addr) : Prop :=
  ∃ φ : Heap → Prop, H a = some (.ext φ) ∧ ∀ h, φ h → ∃ oe vs, h.get? a = some oe ∧ Zc (.ref C) d oe ∧ oe.data = .fields vs
theorem kx_held {H : Hp} {a C : Addr} {d : Option Addr} (e : H a = some (heldO (.ref C) d a)) : KX H a C d := ⟨_, e, fun _ z => z⟩
theorem kx_made {H : Hp} {a C : Addr} {d : Option Addr} (e : H a = some (exo a C d)) : KX H a C d :=
  ⟨_, e, fun _ ⟨_, z⟩ => ⟨_, _, z, ⟨rfl, rfl⟩, rfl⟩⟩
theorem KX.same {H H' : Hp} {a C : Addr} {d : Option Addr} (k : KX H a C d) (e : ∀ o, H a = some o → H' a = some o) : KX H' a C d := by
  obtain ⟨φ, q, r⟩ := k
  exact ⟨φ, e _ q, r⟩
/-- its dict is tracked -/
def KD (H : Hp) (d : Option Addr) : Prop := ∀ x, d = some x → ∃ o, H x = some o
/-- its dict holds the value by the name -/
def KF (H : Hp) (x : Addr) (f : Str) (v : V) : Prop := ∃ fs, (H x = some (.xd fs) ∨ H x = some (exd x fs)) ∧ fs.lookup f = some v
theorem KF.same {H H' : Hp} {x : Addr} {f : Str} {v : V} (k : KF H x f v) (e : ∀ o, H x = some o → H' x = some o) : KF H' x f v := by
  obtain ⟨fs, q, r⟩ := k
  exact ⟨fs, q.imp (e _) (e _), r⟩
theorem KF.kd {H : Hp} {x : Addr} {f : Str} {v : V} (k : KF H x f v) : KD H (some x) := fun y z => by
  cases z
  obtain ⟨fs, q, _⟩ := k
  exact q.elim (fun q => ⟨_, q⟩) fun q => ⟨_, q⟩

section
variable {X : Cx} {pins : List (Addr × Obj)} {σ : L2.St} {H : Hp} {s : Shared} {a C : Addr} {d : Option Addr}
theorem kx_inst (I : Inv X pins σ H s) (k : KX H a C d) (kd : KD H d) : ∃ oe od, PySem.W.InstAt s.heap a oe C od ∧ oe.dict = d := by
  obtain ⟨φ, e, r⟩ := k
  have x : ObjOk X.prog X.w H s.heap a (.ext φ) := I.hok a _ e
  obtain ⟨oe, vs, g, z, f⟩ := r _ x.1
  have no : PySem.W.notCls oe = true := by
    unfold PySem.W.notCls
    rw [f]
  cases d with
  | none => exact ⟨oe, none, ⟨g, z.1, no, by rw [z.2]; trivial⟩, z.2⟩
  | some x =>
    obtain ⟨o, q⟩ := kd x rfl
    obtain ⟨od, hd⟩ := objOk_get (I.hok x o q)
    exact ⟨oe, some od, ⟨g, z.1, no, by rw [z.2]; exact hd⟩, z.2⟩

/-- isinstance of a kept exception -/
def rIsK (K : PySem.W.Frag) : List V → Hp → VK → Prop := fun xs H Q =>
  ∃ (a C : Addr) (d : Option Addr) (c : V) (u : Value) (b : Bool), xs = [.ref a, c] ∧ ClsV c u ∧ KX H a C d ∧ KD H d ∧ ExcC K C ∧
    PySem.W.kitOne K (.ref C) u = some b ∧ Q (.bl b) H
theorem call_isK : CallR X (.builtin "isinstance") (rIsK X.K) := by
  intro pins s σ H xs us Q I r ⟨a, C, d, c, u, b, exs, hc, k, kd, ec, e, q⟩
  subst exs
  obtain ⟨u1, u2, rfl, r1, r2⟩ := vals2 r
  obtain rfl := hc.eq r2
  obtain rfl : u1 = Value.ref a := r1
  obtain ⟨oe, od, J, _⟩ := kx_inst I k kd
  have some_ : (PySem.W.clsIn X.K C).isSome = true := by
    obtain ⟨cd, z, _⟩ := PySem.W.any_some ec.hd
    rw [z]
    rfl
  exact PySem.W.kia_one (PySem.W.kitx_exc (ox := oe) (od := od) some_ ec.hg ec.hk ec.hs ec.ha ec.hn ec.ht ec.hm) I.kIn J e
    (fun z => nomatch z) fun tk => ⟨.bl b, H, I.tok tk, rfl, q⟩

/-- e.f of a kept exception -/
def tXk (K : PySem.W.Frag) (f : Str) (te : TE) : TE := fun σ H Q => te σ H fun x H1 =>
  ∃ (a C dx : Addr) (v : V), x = .ref a ∧ KX H1 a C (some dx) ∧ XfC K C ∧ PySem.W.findIn K (.ref C) f = some none ∧ KF H1 dx f v ∧ Q v H1
theorem pe_xk {e : Expr} {te : TE} {pos : Pos} {n : Str} (he : PE X e te) (hb : attributeBase e n X.env (eval e X.env) = eval e X.env := by rfl) :
    PE X (.Attribute e n pos) (tXk X.K n te) := by
  refine ⟨fun pins s σ H Q I h => attr_of hb (thn (he.run pins s σ H _ I h) ?_)⟩
  rintro u t ⟨x, G, J, rx, a, C, dx, v, rfl, k, T, no, kf, q⟩
  obtain rfl : u = Value.ref a := rx
  obtain ⟨fs, at_, l⟩ := id kf
  obtain ⟨φ, e1, r1⟩ := k
  have x1 : ObjOk X.prog X.w G t.heap a (.ext φ) := J.hok a _ e1
  obtain ⟨oe, vs, g, z, f⟩ := r1 _ x1.1
  have ns : ∃ mA, t.heap.Ns1 dx mA ∧ ∀ y, RelO (fs.lookup y) (mA y) := by
    rcases at_ with w | w
    · exact (show ObjOk X.prog X.w G t.heap dx (.xd fs) from J.hok dx _ w)
    · exact exd_at J.hok w
  obtain ⟨mA, hn, rel⟩ := ns
  obtain ⟨od, ho, look⟩ := lookIn_ns hn
  obtain ⟨w, hw, rw_⟩ := RelO.some_of (v := v) (o := mA n) (by rw [← l]; exact rel n)
  have I2 : PySem.W.InstAt t.heap a oe C (some od) := ⟨g, z.1, by unfold PySem.W.notCls; rw [f], by rw [z.2]; exact ho⟩
  exact HandSPX.exc_get J.kIn I2 T.ga T.gg T.exC (PySem.W.findObj_own T.hdC no rfl (by rw [look, hw])) (handed_of rw_)
    ⟨v, G, J.tok _, rw_, q⟩
end

section
variable {X : Cx} {e : Expr} {es : List Expr} {p pos : Pos} {ta : TA}
/-- C(e, ..) as a value, C's own __init__ keeping sp -/
def tMkK (C : Addr) (sp : Sp) (dvs : List V) (ta : TA) : TE := fun σ H Q => ta σ H fun vs H1 => vs.length ≤ 1000 ∧
  ∀ a, H1 a = none → sp (.ref a :: (vs ++ dvs)) (upd H1 a (exo a C none)) (fun v H2 => v = .non ∧ Q (.ref a) H2) (fun _ _ _ => False)
theorem pe_oex {CX : CXT} {x : Str} {C fI : Addr} {k : Nat} {fd : FuncData} {ps : List Str} {sp : Sp} {ds : List Value} {dvs : List V} (T : OexC X.K C)
    (init : PySem.W.findIn X.K (.ref C) "__init__" = some (some (.ref fI))) (fn : PySem.W.typeIn X.K (.ref fI) = some (.type "function"))
    (F1 : FnOk X.prog X.w X.K X.mg X.base CX k fI fd ps sp) (room : Room (k + 1) X.A) (bind : Binds X.K fd ps ds) (vd : Vals dvs ds)
    (pass : Passes CX X (fun _ _ _ => False)) (hg : Gl X x) (hm : X.mg x = some (.ref C)) (args : PA X (e :: es) ta)
    (nodbg : (x == ("__debug__" : Str)) = false := by decide) (he : starEach (e :: es) X.env = (false, eval e X.env) :: starEach es X.env := by rfl)
    (plain : (backTo pos (starEach es X.env)).any (·.1) = false := by rfl) :
    PE X (.Call (.Name x p) (e :: es) [] pos) (tMkK C sp dvs ta) := by
  refine ⟨fun pins s σ H Q I h => ?_⟩
  obtain ⟨nm, q, NS, bs, bm, sn, sub, ab, col, dd, k0, k1, k2, k3, k5, hC, hbm⟩ := T.cls
  refine wpAny_Call_Name_kw (ld_glob I hg hm ?_ nodbg)
  refine PySem.W.callWith_K (h₀ := X.base) I.ok.mod.kin T.kC (thn (args.run pos pins s σ H _ I h) ?_) he plain
  rintro us ⟨hp, g, dr, tk, os⟩ ⟨vs, H1, I1, r1, short, q1⟩
  refine ⟨I1.kIn, ?_⟩
  have above : hp.objs.size ≤ hp.objs.size + 1 := Nat.le_succ _
  have new : H1 (hp.objs.size + 1) = none := I1.hok.fresh above
  have pr := q1 _ new
  obtain ⟨L, eL⟩ : ∃ L, L = (hp.push (PySem.W.kdv_tup us)).push (PySem.HandSPX.excO C hp.objs.size) := ⟨_, rfl⟩
  have kept : ∀ b o, hp.get? b = some o → L.get? b = some o := fun b o z => by
    rw [eL]
    exact Heap.get?_push_of_some _ (Heap.get?_push_of_some _ z)
  have laid : L.get? (hp.objs.size + 1) = some (PySem.HandSPX.excO C hp.objs.size) := by
    rw [eL]
    heap_get
  have I2 : Inv X pins σ (upd H1 (hp.objs.size + 1) (exo (hp.objs.size + 1) C none)) ⟨L, g, dr, tk, os⟩ :=
    I1.laid (t' := tk) kept above (exo_ok laid)
  have vals : Vals (V.ref (hp.objs.size + 1) :: (vs ++ dvs)) (Value.ref (hp.objs.size + 1) :: (us ++ ds)) := .cons rfl (r1.append vd)
  have many : (Value.ref (hp.objs.size + 1) :: us ++ ds).length = ps.length := by
    have z := vals.length
    rw [F1.len _ _ _ _ pr] at z
    exact z.symm
  have fits : us.length ≤ sizeLine := by
    rw [← Paired.length r1, sizeLine_eq]
    omega
  have run := F1.run _ X.stack _ _ ⟨Value.ref (hp.objs.size + 1) :: us, []⟩ (Value.ref (hp.objs.size + 1) :: (us ++ ds)) _ _ (fun _ _ _ => False)
    (room.make C us []) (I2.env0.make C us []) (bind _ (Value.ref (hp.objs.size + 1) :: us) I2.kIn many) vals pr
  refine (?_ : wpAny _ _ (call (.ref C) us) _ _ _)
  refine wpAny_call (PySem.HandSPX.call_own F.excBase_ValueError (fun Y => PySem.HandSPX.refsVE_contains Y bm hbm) (I1.kIn _ _ hC)
    (PySem.W.looks_findIn I1.kIn init) (fun self => PySem.W.bind_fn I1.kIn self fn) fits ?_)
  rw [← eL]
  refine codeAny_mono run fun r s' end_ => ?_
  cases r with
  | error er => exact pass pins σ _ _ er s' I2 end_
  | ok fl =>
    cases fl with
    | ret u =>
      obtain ⟨v, H2, J, rv, ev, q2⟩ := I2.after end_
      subst ev
      exact ⟨rv, .ref (hp.objs.size + 1), H2, J, rfl, q2⟩
    | next => exact False.elim end_
    | brk => exact False.elim end_
    | cont => exact False.elim end_
end
end Fx

namespace Fx
open PySem PySem.Spec PyProof.Rows L2 NdefX
/-! ### an __init__ that begins with super().__init__(..), its class over ValueError -/
section
variable {prog : Program} {w : World} {A : Around} {E : Value → Shared → Prop}
variable {h : Heap} {g : Array GenState} {d : Drawn} {t : Nat} {os : OsState}
variable {nm q : Str} {C N : Addr} {bs bm : List Value} {dct : Bool} {sn : List Str} {sub : List Value} {ab : Bool} {col : Option Bool}
variable {dd : Option Addr} {k0 k1 k2 k3 k5 : Option Value}
/-- ValueError.__init__, bound to the object, called: the object's arguments are laid anew -/
theorem call_bound_VE {u e t0 : Addr} {rest : List Value} {Q : Value → Shared → Prop}
    (cls : h.get? C = some (excClassObj nm q C N bs bm dct sn sub ab col dd k0 k1 k2 k3 k5 "ValueError.__new__"))
    (he : h.get? e = some (HandSPX.excO C t0)) (hu : h.get? u = some (PySem.W.kxs_mw "ValueError.__init__" e)) (short : rest.length ≤ sizeLine)
    (fin : ∀ h' t1, (∀ b o, b ≠ e → h.get? b = some o → h'.get? b = some o) → h'.get? e = some (HandSPX.excO C t1) → Q .none ⟨h', g, d, t, os⟩) :
    wpAny (model prog w) A (call (.ref u) rest) Q E ⟨h, g, d, t, os⟩ := by
  refine wpAny_call (codeAny_of_tree (show wpAny _ A.in1 (callAny (.ref u) ⟨rest, []⟩) _ _ _ from ?_))
  unfold callAny
  refine wpAny_bind (wpAny_load hu ?_)
  have eqs : (Value.type "method-wrapper" == Value.type "method" || Value.type "method-wrapper" == Value.type "builtin_function_or_method" ||
      Value.type "method-wrapper" == Value.type "method-wrapper") = true := by decide
  simp only [PySem.W.kxs_mw, eqs, if_true]
  refine PySem.W.KFB.if_so (by decide) ?_
  refine wpAny_bind (PySem.W.check_bound_init F.excBase_ValueError.toExcCallFacts cls he rfl ?_)
  refine wpAny_bind (wpAny_pure (wpAny_pure ⟨plainId_quiet F.excBase_ValueError.init.plain _, ?_⟩))
  refine codeAny_builtin F.excBase_ValueError.initEntry ?_
  exact PySem.W.exc_init_tree (cls := .ref C) (t0 := t0) (dv := none) (c2 := .none) (c3 := .none) (b4 := .bool false) he short
    fun h' keep own _ => fin h' _ keep own
end

section
variable {X : Cx} {σ : L2.St} {H : Hp} {s : Shared} {f cc C cda a : Addr} {body : List Stmt} {fd : FuncData} {ccl cl oc : Value} {cdd cld od : Option Addr}
variable {ccs csl osl : Array (Option Value)} {e : Expr} {p0 p1 p2 p3 p4 : Pos} {ar : Arg} {vs0 : Array Value} {file : Str} {tf : Tok} {pl : Sem Bool}
variable {m : Str → Option Value} {ta : TA} {Q : Hp → Prop}
/-- the statement super().__init__(e) -/
theorem sup_run (I : Inv X [] σ H s) (fu : X.env.func = some f) (lk : X.K.lookup f = some ⟨oc, od, .func fd, osl⟩)
    (first : (fd.params.posonlyargs ++ fd.params.args).head? = some ar) (co : X.env.code = .ref cda)
    (code : X.K.lookup cda = some ⟨ccl, cdd, .fields vs0, ccs⟩) (hvs : vs0[2]? = some (.str file tf))
    (main : ((X.prog.main.file : Str) == file) = true) (top : (X.prog.main.scope.names.lookup ("super" : Str)).isSome = false)
    (hcc : X.env.cells.lookup ("__class__" : Str) = some cc)
    (cell : X.K.lookup cc = some ⟨cl, cld, .cell (some (.ref C)), csl⟩) (T : OexC X.K C)
    (sup : PySem.W.ks_superIn X.K C C "__init__" = some (some (.builtin "ValueError.__init__")))
    (subV : PySem.W.subIn X.K (.ref C) (.type "ValueError") = some true) (subC : PySem.W.mroIn X.K C (.ref C) = some true)
    (hob : PySem.W.nsIn X.K cStatics "thirdparty.any" = some none)
    (ks : X.env.kindOf "super" = some .globalImplicit) (kc : X.env.kindOf "__class__" = some .free) (mgs : X.mg "super" = none)
    (ka : X.env.kindOf ar.arg = some .local) (hns : s.heap.Ns X.env.locals m) (hv : m ar.arg = some (.ref a)) (ha : H a = some (exo a C none))
    (quiet : interactive X.env = false)
    (hs : swapsWith (.Call (.Attribute (.Call (.Name "super" p0) [] [] p1) "__init__" p2) [e] [] p3) none p4.line X.env = pure false)
    (hev : eval (.Call (.Attribute (.Call (.Name "super" p0) [] [] p1) "__init__" p2) [e] [] p3) X.env = (do
      let ov ← attributeBase (.Call (.Name "super" p0) [] [] p1) "__init__" X.env (eval (.Call (.Name "super" p0) [] [] p1) X.env)
      standAt p2.atName
      let (f, first) ← holding [ov] (getMethod ov "__init__" pl)
      callWith p3 f first (backTo p3 (starEach [e] X.env)) []))
    (star : starEach [e] X.env = (false, eval e X.env) :: starEach [] X.env)
    (hargs : PA X [e] ta) (hq : ta σ H fun ws H1 => ws.length ≤ 1000 ∧ H1 a = some (exo a C none) ∧ Q H1) :
    _root_.PySem.wpAt (model X.prog X.w) X.A (.func body X.env)
      (exec (.Expr (.Call (.Attribute (.Call (.Name "super" p0) [] [] p1) "__init__" p2) [e] [] p3) p4) X.env)
      (fun fl s' => fl = .next ∧ ∃ H1, Inv X [] σ H1 s' ∧ Q H1) X.xe s := by
  obtain ⟨nm, q, NS, bs, bm, sn, sub, ab, col, dd, k0, k1, k2, k3, k5, hC, hbm⟩ := T.cls
  have KI := I.kIn
  obtain ⟨t1, ho⟩ := exo_at I.hok ha
  have hcl : ∃ cd, PySem.W.clsIn X.K C = some cd := ⟨_, by unfold PySem.W.clsIn; rw [hC] <;> rfl⟩
  obtain ⟨cd, hcd⟩ := hcl
  have inst : PySem.W.InstAt s.heap a { cls := .ref C, dict := none, data := .fields #[.ref t1, .none, .none, .none, .bool false, .none] } C none :=
    ⟨ho, rfl, rfl, trivial⟩
  have neC : a ≠ C := PySem.W.ks_ne KI inst hcd
  refine ks_wpAt_Expr_any ?_ quiet hs
  refine ks_wpAt_MethodCall (pl := pl) ?_ hev
  obtain ⟨hp, g, d, tk, os⟩ := s
  obtain ⟨mb, b1, b2⟩ := I.mod.blt
  refine ks_wpAt_super_base ks kc (by decide) fu (KI _ _ lk) rfl first co (KI _ _ code) rfl hvs main top ?_
  refine PySem.W.ks_loadName_global I.ok.kind ks (Calls.loadGlobal_builtin (by rw [I.ok.glob]; exact I.mod.glob.keeps I.bk) mgs
    (by rw [I.ok.blt]; exact b1.keeps I.bk) (b2 _ (by decide)) ⟨by first | boot_by_name | rfl | kernel_rfl, ?_⟩)
  refine wpAny_loadName_free I.ok.kind kc hcc ⟨_, KI _ _ cell, rfl⟩ ?_
  refine wpAny_loadName_local I.ok.kind ka hns hv ?_
  have hCd : hp.get? C = _ := KI _ _ hC
  refine ks_wpAny_isType_cls hCd rfl ⟨rfl, ?_⟩
  refine ks_wpAny_call_super hCd rfl ho rfl (fun c z => by cases z) (PySem.W.looks_mroIn KI subC) (fun h₂ so keep₂ => ?_)
  have I₂ : Inv X [] σ H ⟨h₂, g, d, tk, os⟩ := I.kept (t' := tk) keep₂
  have KI₂ := I₂.kIn
  have inst₂ : PySem.W.InstAt h₂ a { cls := .ref C, dict := none, data := .fields #[.ref t1, .none, .none, .none, .bool false, .none] } C none :=
    ⟨keep₂ _ _ ho, rfl, rfl, trivial⟩
  have isV : PySem.W.Looks (model X.prog X.w) h₂ (isInstance (.ref a) (.type "ValueError")) true := inst₂.type.andThen (PySem.W.looks_subIn KI₂ subV)
  unfold PySem.W.ks_superIn at sup
  rw [hcd] at sup
  refine PySem.W.kxs_getMethod PySem.W.kxs_ValueError so (PySem.W.looks_opaque KI₂ hob) (l₀ := cd.mro)
    (fun A Q E s k q => wpAny_bind ((PySem.W.looks_clsIn KI₂ hcd) A _ E s k (wpAny_pure q))) rfl KI₂ sup isV neC (by decide) ?_
  have lay : ∀ b o, h₂.get? b = some o → (h₂.push (PySem.W.kxs_mw "ValueError.__init__" a)).get? b = some o := fun b o z => Heap.get?_push_of_some _ z
  have I₃ : Inv X [] σ H ⟨h₂.push (PySem.W.kxs_mw "ValueError.__init__" a), g, d, tk + 1, os⟩ := I₂.kept (t' := tk + 1) lay
  have I₄ : Inv X [(h₂.objs.size, PySem.W.kxs_mw "ValueError.__init__" a)] σ H ⟨h₂.push (PySem.W.kxs_mw "ValueError.__init__" a), g, d, tk + 1, os⟩ :=
    I₃.pins_of fun p hp' => by
      rw [List.mem_singleton] at hp'
      subst hp'
      exact ⟨Heap.get?_push_at rfl rfl, I₂.hok.fresh (Nat.le_refl _), Nat.ne_of_gt I₂.lt, I₂.nofs (Nat.le_refl _), fun v z => by cases z⟩
  rw [star]
  refine PySem.W.kxs_callWith (i := "ValueError.__init__") (x := a) rfl ?_
  refine Calls.evalArgs_plain ?_
  have A1 := hargs.run p3 _ _ σ H _ I₄ hq
  rw [star] at A1
  refine thn A1 fun us s5 ⟨ws, H5, I5, r5, hlen, ha5, q5⟩ => ?_
  have hu5 := (I5.pin (h₂.objs.size, PySem.W.kxs_mw "ValueError.__init__" a) (List.mem_append.mpr (.inr List.mem_cons_self))).1
  refine ⟨hu5, ?_⟩
  obtain ⟨t5, ho5⟩ := exo_at I5.hok ha5
  have I6 : Inv X [] σ H5 s5 := I5.pins_of fun p z => nomatch z
  obtain ⟨hp5, g5, d5, tk5, os5⟩ := s5
  have short : us.length ≤ sizeLine := by
    rw [← Paired.length r5, sizeLine_eq]
    omega
  refine call_bound_VE (I6.kIn _ _ hC) ho5 hu5 short fun h' t' keep own => ⟨rfl, H5, ?_, q5⟩
  have J := I6.write (t' := tk5) (x := a) (e := a) (o := exo a C none) (by rw [ha5]; exact True.intro) (.inl rfl) keep ⟨_, own⟩ (exo_ok own)
  have same : upd H5 a (exo a C none) = H5 := by
    funext b
    by_cases z : b = a
    · rw [z, upd_same, ha5]
    · rw [upd_ne z]
  rw [same] at J
  exact J
end

section
variable {CX : CXT} {P : Program} {w : World} {K : PySem.W.Frag} {mg : Str → Option Value} {base : Heap} {k : Nat} {f cc C cda : Addr}
variable {name qual : Str} {params : Arguments} {st : Stmt} {rest : List Stmt} {scope : Scope} {dV kV doc pm ct oc ccl cl : Value}
variable {an od cdd cld : Option Addr} {osl ccs csl : Array (Option Value)} {N ps : List Str} {sp : Sp} {e : Expr} {p0 p1 p2 p3 p4 : Pos}
variable {ar : Arg} {vs0 : Array Value} {file : Str} {tf : Tok} {pl : Env → Sem Bool}
abbrev supNF (name qual : Str) (params : Arguments) (body : List Stmt) (scope : Scope) (cc cda : Addr) : NF :=
  ⟨name, qual, params, body, scope, [("__class__", cc)], cda⟩
theorem fn_sup
    (lk : K.lookup f = some ⟨oc, od, .func (PySem.W.ksFn name qual params (st :: rest) scope dV kV doc pm an (.ref cda) ct cc), osl⟩)
    (hcd : PySem.W.codeIn K (.ref cda) qual = true)
    (hst : st = .Expr (.Call (.Attribute (.Call (.Name "super" p0) [] [] p1) "__init__" p2) [e] [] p3) p4)
    (S : NScope N ps ["__class__"] scope)
    (code : K.lookup cda = some ⟨ccl, cdd, .fields vs0, ccs⟩) (hvs : vs0[2]? = some (.str file tf))
    (main : ((P.main.file : Str) == file) = true) (top : (P.main.scope.names.lookup ("super" : Str)).isSome = false)
    (cell : K.lookup cc = some ⟨cl, cld, .cell (some (.ref C)), csl⟩) (T : OexC K C)
    (sup : PySem.W.ks_superIn K C C "__init__" = some (some (.builtin "ValueError.__init__")))
    (subV : PySem.W.subIn K (.ref C) (.type "ValueError") = some true) (subC : PySem.W.mroIn K C (.ref C) = some true)
    (hob : PySem.W.nsIn K cStatics "thirdparty.any" = some none)
    (ks : scope.names.lookup ("super" : Str) = some .globalImplicit) (mgs : mg "super" = none)
    (first : (params.posonlyargs ++ params.args).head? = some ar) (par0 : ps[0]? = some ar.arg)
    (len : ∀ vs H Q E, sp vs H Q E → vs.length = ps.length)
    (hs : ∀ env : Env, swapsWith (.Call (.Attribute (.Call (.Name "super" p0) [] [] p1) "__init__" p2) [e] [] p3) none p4.line env = pure false)
    (hev : ∀ env : Env, eval (.Call (.Attribute (.Call (.Name "super" p0) [] [] p1) "__init__" p2) [e] [] p3) env = (do
      let ov ← attributeBase (.Call (.Name "super" p0) [] [] p1) "__init__" env (eval (.Call (.Name "super" p0) [] [] p1) env)
      standAt p2.atName
      let (f, first) ← holding [ov] (getMethod ov "__init__" (pl env))
      callWith p3 f first (backTo p3 (starEach [e] env)) []))
    (star : ∀ env : Env, starEach [e] env = (false, eval e env) :: starEach [] env)
    (hbody : ∀ (A : Around) (outer : List Env) (s : Shared) (H : Hp) (vs : List V) (Q : VK) (E : XK),
      Room k (A.deeper (envF (supNF name qual params (st :: rest) scope cc cda) f s.heap.objs.size)) → sp vs H Q E → ∃ (a : Addr) (ta : TA) (tr : TS),
        vs[0]? = some (.ref a) ∧ H a = some (exo a C none) ∧
        PA (ncx CX P w K mg base N (supNF name qual params (st :: rest) scope cc cda) f A outer s H E) [e] ta ∧
        PSs (ncx CX P w K mg base N (supNF name qual params (st :: rest) scope cc cda) f A outer s H E) rest tr ∧
        ta (startF N vs [some (.ref C)]) H fun ws H1 => ws.length ≤ 1000 ∧ H1 a = some (exo a C none) ∧
          tr { nx := fun _ H' => Q .non H', rt := Q } (startF N vs [some (.ref C)]) H1) :
    FnOk P w K mg base CX (k + 1) f (PySem.W.ksFn name qual params (st :: rest) scope dV kV doc pm an (.ref cda) ct cc) ps sp := by
  refine ⟨len, fun A outer s H args us vs Q E room e0 bind r hsp => ?_⟩
  have hl := len _ _ _ _ hsp
  have KX : K.In s.heap := e0.mod.kin.keeps fun b o q => (e0.bs b o q).1
  have lim : s.heap.NoLimit := e0.mod.nolimit.keeps fun b o q => (e0.bs b o q).1
  obtain ⟨a, ta, tr, va, ha, hta, htr, hq⟩ := hbody A outer s H vs Q E (room.deeper _) hsp
  have cells : CellsAt [(("__class__" : Str), cc)] ["__class__"] [some (.ref C)] s.heap H := by
    have lcc : ∀ {y : Str} {c : Addr}, List.lookup y [(("__class__" : Str), cc)] = some c → y = "__class__" ∧ c = cc := fun {y c} q => by
      have m := PySem.mem_of_lookup q
      simp only [List.mem_singleton, Prod.mk.injEq] at m
      exact m
    refine ⟨rfl, fun y c q => ?_, fun x y c q1 q2 => (lcc q1).1.trans (lcc q2).1.symm, fun i y q => ?_⟩
    · rw [(lcc q).2]
      exact ⟨(e0.bs _ _ (e0.mod.kin _ _ cell)).2, _, _, KX _ _ cell, rfl⟩
    · cases i with
      | succ n => cases n <;> cases q
      | zero =>
        cases q
        refine ⟨cc, by simp [List.lookup], fun v z => ?_⟩
        cases z
        exact ⟨_, rfl, _, KX _ _ cell, rfl⟩
  refine ks_codeAny_call_defAt (body := st :: rest) (binds := ps.zip us) room.depth (KX _ _ lk) rfl lim (PySem.W.codeRec_of KX hcd) rfl bind
    S.nocell (fun ⟨n, _⟩ m => S.par n (List.of_mem_zip m).1) (fun h₁ hns kp => ?_) S.co S.gen S.kind
  have I : Inv (ncx CX P w K mg base N (supNF name qual params (st :: rest) scope cc cda) f A outer s H E) [] (startF N vs [some (.ref C)]) H
      { s with heap := h₁, toks := s.toks + (ps.zip us).length } := inv_startN S room.hd e0 hl r cells hns kp
  obtain ⟨X, eX⟩ : ∃ X, X = ncx CX P w K mg base N (supNF name qual params (st :: rest) scope cc cda) f A outer s H E := ⟨_, rfl⟩
  obtain ⟨env, ee⟩ : ∃ env, env = envF (supNF name qual params (st :: rest) scope cc cda) f s.heap.objs.size := ⟨_, rfl⟩
  show _root_.PySem.wpAt (model P w) (A.deeper (envF (supNF name qual params (st :: rest) scope cc cda) f s.heap.objs.size))
    (.func (st :: rest) (envF (supNF name qual params (st :: rest) scope cc cda) f s.heap.objs.size))
    (execs (st :: rest) (envF (supNF name qual params (st :: rest) scope cc cda) f s.heap.objs.size)) _ _ _
  refine ks_wpAt_execs_cons ?_
  have frs_ : ∀ {y : Str} {v : Value}, (ps.zip us)[0]? = some (y, v) → ((ps.zip us).reverse).lookup y = some v := fun {y v} q => by
    rw [List.getElem?_zip_eq_some] at q
    exact zip_look (by
      have z := congrArg (List.take ps.length) S.pre
      rw [List.take_take, Nat.min_eq_left (Nat.le_add_right _ _), List.take_left'  rfl] at z
      rw [← z]
      exact S.nd.sublist (List.take_sublist _ _)) q.1 q.2
  obtain ⟨u0, hu0, ru0⟩ := r.get va
  obtain rfl : u0 = Value.ref a := ru0
  have hv : ((ps.zip us).reverse).lookup ar.arg = some (.ref a) := frs_ (by rw [List.getElem?_zip_eq_some]; exact ⟨par0, hu0⟩)
  have run := sup_run (body := st :: rest) (pl := pl _) (p0 := p0) (p1 := p1) (p2 := p2) (p3 := p3) (p4 := p4) (Q := fun H1 =>
      tr { nx := fun _ H' => Q .non H', rt := Q } (startF N vs [some (.ref C)]) H1) I rfl lk first rfl code hvs main top (show List.lookup _ [(_, cc)] = some cc by simp [List.lookup]) cell T sup subV subC hob
    ks (S.frk _ List.mem_cons_self) mgs (S.par _ (List.mem_of_getElem? par0)) hns hv ha (by
      show (scope.kind == .module && _) = false
      rw [show scope.kind = .function from S.kind]; rfl) (hs _) (hev _) (star _) hta hq
  rw [← hst] at run
  refine ks_wpAt_mono run (fun fl s' ⟨efl, H1, J, q⟩ => ?_) fun _ _ z => z
  subst efl
  refine wpAt_of_wpAny (wpAny_mono (htr.run [] s' _ H1 _ J q) (fun fl s6 h6 => ?_) fun _ _ z => z)
  have fin : ∀ {τ : L2.St} {G : Hp} {v : V} {u : Value}, Inv (ncx CX P w K mg base N (supNF name qual params (st :: rest) scope cc cda) f A outer s H E) [] τ G s6 →
      L2.RelV v u → Q v G → CE outer P w H s Q u s6 := fun {τ G v u} J rv q => ⟨v, G, J.os, J.bare, J.base, J.hok, rv, q⟩
  cases fl with
  | ret u =>
    obtain ⟨v, τ, G, J, rv, q⟩ := h6
    exact fin J rv q
  | next =>
    obtain ⟨τ, G, J, q⟩ := h6
    exact fin (v := V.non) (u := Value.none) J rfl q
  | brk =>
    obtain ⟨_, _, _, q⟩ := h6
    exact False.elim q
  | cont =>
    obtain ⟨_, _, _, q⟩ := h6
    exact False.elim q
end
end Fx

namespace Fx
open PySem PySem.Spec
open PyProof.Rows L2 NdefX
/-! ### what the written part says of the text's exception classes -/
structure XCls (K : PySem.W.Frag) (C : Addr) : Prop where
  hd : PySem.W.hasDictIn K C = true
  ty : PySem.W.typeIn K (.ref C) = some (.type "type")
  bx : PySem.W.subIn K (.ref C) (.type "BaseException") = some true
/-- of a class that has instances -/
structure XIns (K : PySem.W.Frag) (R : Addr) : Prop where
  sa : PySem.W.findIn K (.ref R) "__setattr__" = some (some (.builtin "object.__setattr__"))
  ga : PySem.W.findIn K (.ref R) "__getattribute__" = some (some (.builtin "BaseException.__getattribute__"))
  gg : PySem.W.findIn K (.ref R) "__getattr__" = some none
  ca : PySem.W.findIn K (.ref R) "__class__" = some (some (.builtin "object.__class__"))
  cn : PySem.W.specialIn K (.builtin "object.__class__") "__get__" =
    some (some (.builtin "getset_descriptor.__get__"))
  ct : PySem.W.takesIn K
    (.builtin "object.__class__") = some true
  mo : PySem.W.mroIn K R (.type "object") = some true
  kp : PySem.W.keepIn K (.ref R) = true
  me : PySem.W.subIn K (.ref R) (.ref R) = some true
  ve : PySem.W.subIn K (.ref R) (.type "ValueError") = some true
  cls : ∃ nm q N bs bm sn sub ab col dd k0 k1 k2 k3 k5,
    K.lookup R = some (excClassObj nm q R N bs bm true sn sub ab col dd k0 k1 k2 k3 k5 "ValueError.__new__") ∧ HandSPX.refsVE bm = true
section
variable {K : PySem.W.Frag} {C R : Addr} {b : Bool}
theorem XIns.exc (x : XIns K R) (c : XCls K R) : ExcC K R := ⟨x.ga, x.gg, c.bx, c.hd, x.ca, x.cn, x.ct, x.mo⟩
theorem XIns.oex (x : XIns K R) (c : XCls K R) : OexC K R := ⟨x.cls, x.sa, c.bx, c.ty, x.kp⟩
theorem XIns.fld (x : XIns K R) (c : XCls K R) : XfC K R := ⟨x.ga, x.gg, c.bx, c.hd⟩
theorem kit_own (c : XCls K C) (me : PySem.W.subIn K (.ref R) (.ref R) = some true) (s : PySem.W.subIn K (.ref R) (.ref C) = some b) :
    PySem.W.kitOne K (.ref R) (.ref C) = some b := by
  unfold PySem.W.kitOne
  by_cases e : ((Value.ref R : Value) == .ref C) = true
  · have z : R = C := Value.ref.inj (beq_iff_eq.mp e)
    rw [if_pos e, ← s, ← z, me]
  · rw [if_neg e]
    unfold PySem.W.kitCls
    obtain ⟨cd, h, _⟩ := PySem.W.any_some c.hd
    have t : ((PySem.W.clsIn K C).isSome && PySem.W.typeIn K (.ref C) == some (.type "type")) = true := by
      rw [h, c.ty]
      rfl
    dsimp only
    rw [if_pos t]
    exact s
theorem kit_VE (s : PySem.W.subIn K (.ref R) (.type "ValueError") = some b) : PySem.W.kitOne K (.ref R) (.type "ValueError") = some b := by
  unfold PySem.W.kitOne
  have ne : ¬ ((Value.ref R : Value) == .type "ValueError") = true := fun z => by
    have e : Value.ref R = Value.type "ValueError" := beq_iff_eq.mp z
    cases e
  rw [if_neg ne]
  unfold PySem.W.kitCls
  dsimp only
  rw [if_pos (by decide +kernel)]
  exact s
theorem exm_own (c : XCls K C) (s : PySem.W.subIn K (.ref R) (.ref C) = some b) : PySem.W.exmOne K (.ref R) (.ref C) = some b :=
  PySem.W.exm_ref c.bx c.hd c.ty s
end

/-- the __init__ of R, at f: the text st, beginning with super().__init__(..) -/
structure SupTx (P : Program) (K : PySem.W.Frag) (R f : Addr) (fd : FuncData) (name qual : Str) (st : Stmt) : Prop where
  init : PySem.W.findIn K (.ref R) "__init__" = some (some (.ref f))
  fn : PySem.W.typeIn K (.ref f) = some (.type "function")
  ex : ∃ (oc dV kV doc pm ct ccl cl : Value) (an od cdd cld : Option Addr) (osl ccs csl : Array (Option Value)) (cc cda : Addr) (vs0 : Array Value) (file : Str) (tf : Tok),
    fd = PySem.W.ksFn name qual (defArgs st) (defBody st) (defScope st) dV kV doc pm an (.ref cda) ct cc ∧
    K.lookup f = some ⟨oc, od, .func fd, osl⟩ ∧
    PySem.W.codeIn K (.ref cda) qual = true ∧
    K.lookup cda = some ⟨ccl, cdd, .fields vs0, ccs⟩ ∧ vs0[2]? = some (.str file tf) ∧ ((P.main.file : Str) == file) = true ∧
    K.lookup cc = some ⟨cl, cld, .cell (some (.ref R)), csl⟩
  sup : PySem.W.ks_superIn K R R "__init__" = some (some (.builtin "ValueError.__init__"))
  top : (P.main.scope.names.lookup ("super" : Str)).isSome = false
  mr : PySem.W.mroIn K R (.ref R) = some true
  ob : PySem.W.nsIn K cStatics "thirdparty.any" = some none

/-- what such an __init__ promises: the one field, its value a whole number -/
def sp_exc1 (R : Addr) (f : Str) : Sp := fun vs H Q _ => ∃ (a : Addr) (i : Int), vs = [.ref a, .int i] ∧ i.natAbs.log2 < 1920 ∧ H a = some (exo a R none) ∧
  ∀ dx, H dx = none → dx ≠ a → Q .non (upd (upd H dx (exd dx [(f, .int i)])) a (exo a R (some dx)))
end Fx

namespace Fx
open PySem PySem.Spec PyProof.Rows L2
/-! ### for i, c in enumerate(text) -/
def IteS (x : Str) : It := ⟨fun i _ => i < x.cps.size, fun i H v H' => ∃ (T : Addr) (c : Nat), v = .ref T ∧ H T = none ∧ x.cps[i]? = some c ∧ H' = upd H T (.tup [.int (i : Nat), .str ⟨#[c]⟩]), fun i _ => x.cps.size ≤ i⟩
theorem turn_enumS {P : Program} {w : World} {K : PySem.W.Frag} {elts : List Expr} {kk : Nat} {tpos : Pos} (x : Str) (t : Tok) (e it : Addr) (hne : e ≠ it) :
    Turn P w K (.Tuple elts kk tpos) (IteS x) [e, it] e (fun i h => (∃ old, IsEnum h e it (0 + (i : Int)) old) ∧ h.IsStrIter it (strIterType x) x t i ∧ i ≤ x.cps.size) where
  mem := by simp
  obj := fun i h st b hb => by
    obtain ⟨⟨_, he⟩, ⟨o, ho, _, hd⟩, _⟩ := st
    have two : b = e ∨ b = it := by simpa using hb
    rcases two with rfl | rfl
    · exact ⟨_, he, fun _ q => nomatch q⟩
    · exact ⟨o, ho, fun _ q => nomatch (hd.symm.trans q)⟩
  keep := fun i h h' st k => by
    obtain ⟨⟨old, he⟩, ⟨o, ho, r⟩, le⟩ := st
    exact ⟨⟨old, k e (by simp) _ he⟩, ⟨o, k it (by simp) o ho, r⟩, le⟩
  item := by
    intro X p1 p2 p3 hc i pins s σ H E I hf st hg
    subst p1 p2 p3
    have W := WalksT.enumFrom (prog := X.prog) (w := X.w) (A := X.A) 0 (Draws.text (A := X.A.in1) (I.ok.hd hc) it x t) e hne (fun z => hne (List.mem_singleton.mp z)) (List.mem_singleton.mpr rfl)
    refine W.item i s _ _ hg ⟨st.1, st.2.1⟩ fun T vals h1 tk hP hsz hT hM hk => ⟨_, rfl, W.go _ _ _ i T _ _ _ hM fun h2 st2 hk2 => ?_⟩
    obtain ⟨u, y, ⟨c, v, hcx, rfl⟩, rfl⟩ := hP
    have kk2 : ∀ b o, b ∉ [e, it] → s.heap.get? b = some o → h2.get? b = some o := fun b o hb z => hk2 b o hb (hk b o hb z)
    have hTn : T ∉ [e, it] := W.apart i T _ hM
    obtain ⟨oT, hT1, hT2, n3, hT3⟩ := hT
    have new : ObjOk X.prog X.w (upd H T (.tup [.int (i : Nat), .str ⟨#[c]⟩])) h2 T (.tup [.int (i : Nat), .str ⟨#[c]⟩]) := by
      refine ⟨by show 2 ≤ sizeLine; decide, [.int (0 + (i : Int)) u, .str ⟨#[c]⟩ v], .cons ⟨u, ?_⟩ (.cons ⟨v, rfl⟩ .nil), ⟨oT, hk2 T _ hTn hT1, hT2, n3, hT3⟩⟩
      rw [Int.zero_add]
    have I1 : Inv X pins σ (upd H T (.tup [.int (i : Nat), .str ⟨#[c]⟩])) { s with heap := h2, toks := tk } := I.turnedNew (ch := [e, it]) kk2 hf hsz new
    refine ⟨.ref T, _, I1, rfl, ⟨T, c, rfl, I.hok.fresh hsz, hcx, rfl⟩, ?_, fun b hb => ?_⟩
    · exact ⟨st2.1, st2.2, hg⟩
    · rw [upd_ne (fun z => hTn (by rw [← z]; exact hb))]
      exact (hf b hb).1
  done := by
    intro X p1 p2 p3 hc i pins s σ H E I hf st hg
    subst p1 p2 p3
    obtain ⟨⟨old, he⟩, hit, le⟩ := st
    have fit := hf it (by simp)
    obtain rfl : i = x.cps.size := Nat.le_antisymm le hg
    exact wpAny_pyNext_enum_endD (Draws.text (A := X.A.in1) (I.ok.hd hc) it x t) he hit fun h' eb => ⟨rfl, I.turned (t' := s.toks) (fun b o hb q => eb b o hb q) fit.1 fit.2.1 fit.2.2.2.1 fit.2.2.2.2.1 fit.2.2.2.2.2⟩
  self := fun _ _ _ _ _ st h => wpAny_pyIter_enum st.1.choose_spec h
def iEnumS (ta : TA) : TI := fun σ H R => ta σ H fun vs H1 => ∃ x, vs = [.str x] ∧ R (IteS x) H1
theorem pi_enumS {X : Cx} {e : Expr} {ta : TA} {p pos tpos : Pos} {elts : List Expr} {kk : Nat} (hg : Gl X "enumerate") (hm : X.mg "enumerate" = none) (ha : PA X [e] ta) (hs : starEach [e] X.env = [(false, eval e X.env)] := by rfl) :
    PI X (.Tuple elts kk tpos) (.Call (.Name "enumerate" p) [e] [] pos) (iEnumS ta) := by
  refine ⟨fun pn s σ H R I h => Call_ (ld_blt I hg hm boot_enumerate (PyProof.Rows.callWith_type1 (thn (ha.run pos pn s σ H _ I h) fun us s1 ⟨vs, H1, I1, r1, q1⟩ => ?_) hs rfl))⟩
  obtain ⟨x, ex, q⟩ := q1
  subst ex
  cases r1 with
  | cons r rr =>
    cases rr
    obtain ⟨t, rfl⟩ := r
    refine call_enumerate_str fun h' he hit hsz hk => wpAny_pyIter_enum he ?_
    have I2 : Inv X pn σ H1 { s1 with heap := h' } := I1.kept (t' := s1.toks) hk
    refine ⟨s1.heap.objs.size + 1, [s1.heap.objs.size + 1, s1.heap.objs.size], _, _, H1, rfl, I2, turn_enumS x t (s1.heap.objs.size + 1) s1.heap.objs.size (Nat.succ_ne_self _), ⟨⟨.none, he⟩, hit, Nat.zero_le _⟩, fun b hb => ?_, q⟩
    have two : b = s1.heap.objs.size + 1 ∨ b = s1.heap.objs.size := by simpa only [List.mem_cons, List.not_mem_nil, or_false] using hb
    have behind : s1.heap.objs.size ≤ b := two.elim (fun z => z ▸ Nat.le_succ _) fun z => Nat.le_of_eq z.symm
    exact I1.fpOk behind (I1.hok.fresh behind)
theorem walk_enumS {x : Str} : Walk (IteS x) x.cps.size (fun _ => True) (fun i H v H' => ∃ (T : Addr) (c : Nat), v = .ref T ∧ H T = none ∧ x.cps[i]? = some c ∧ H' = upd H T (.tup [.int (i : Nat), .str ⟨#[c]⟩])) :=
  ⟨fun _ _ hi _ => hi, fun _ _ => Nat.le_refl _, fun _ _ _ _ _ _ y => y⟩
end Fx

namespace Fx
open PySem PySem.Spec PyProof.Rows L2
/-! ### lists of numbers as they stand -/
def ivs (l : List Nat) : List V := l.map fun (k : Nat) => V.int (k : Int)
theorem ivs_map (l : List Nat) : ivs l = (l.map fun (k : Nat) => (k : Int)).map V.int := by
  unfold ivs
  rw [List.map_map]
  rfl
theorem ivs_append (l r : List Nat) : ivs (l ++ r) = ivs l ++ ivs r := List.map_append
theorem ivs_length (l : List Nat) : (ivs l).length = l.length := List.length_map ..
theorem ivs_reverse (l : List Nat) : (ivs l).reverse = ivs l.reverse := by
  unfold ivs
  rw [List.map_reverse]
theorem ivs_get {l : List Nat} {i : Nat} {x : V} (h : (ivs l)[i]? = some x) : ∃ k, l[i]? = some k ∧ x = V.int (k : Int) := by
  unfold ivs at h
  rw [List.getElem?_map] at h
  cases e : l[i]? with
  | none => rw [e] at h; cases h
  | some k =>
    rw [e] at h
    exact ⟨k, rfl, (Option.some.inj h).symm⟩
theorem ivs_at {l : List Nat} {i k : Nat} (h : l[i]? = some k) : (ivs l)[i]? = some (V.int (k : Int)) := by
  unfold ivs
  rw [List.getElem?_map, h]
  rfl
theorem sum_cast : ∀ l : List Nat, (l.map fun (k : Nat) => (k : Int)).sum = ((l.sum : Nat) : Int)
  | [] => rfl
  | a :: r => by
    rw [List.map_cons, List.sum_cons, List.sum_cons, sum_cast r]
    simp
theorem same_own {H H' : Hp} {p : Addr} {o : HO} (a : Same H H') (hp : H p = none) : Same H (upd H' p o) := fun b u e => by
  rw [upd_ne (ne_of_none e hp)]
  exact a b u e

/-! ### data that are compared -/
def dInts (l : List Int) : List PyData := l.map PyData.int
theorem dpAll_ints {K : PySem.W.Frag} {H : Hp} : ∀ l : List Int, DpAll K H (l.map V.int) (dInts l)
  | [] => .nil
  | a :: r => .cons (.int a) (dpAll_ints r)
theorem dpAll_ivs {K : PySem.W.Frag} {H : Hp} (l : List Nat) : DpAll K H (ivs l) (dInts (l.map fun (k : Nat) => (k : Int))) := by
  rw [ivs_map]
  exact dpAll_ints _
theorem canLay_ints : ∀ l : List Int, PyData.canLayAll0 (dInts l) = true
  | [] => rfl
  | a :: r => by
    unfold dInts
    rw [List.map_cons, PyData.canLayAll0]
    have h := canLay_ints r
    unfold dInts at h
    rw [h]
    rfl
theorem depth_ints : ∀ l : List Int, PyData.depthAll (dInts l) ≤ 1
  | [] => by unfold dInts; rw [List.map_nil]; unfold PyData.depthAll; decide
  | a :: r => by
    have h := depth_ints r
    unfold dInts at h ⊢
    rw [List.map_cons]
    unfold PyData.depthAll PyData.depth
    omega
theorem shaped_list {ds : List PyData} (h : PyData.canLayAll0 ds = true) (d : PyData.depthAll ds ≤ 60) : SeqAt.shaped (.list ds) = true := by
  unfold SeqAt.shaped
  rw [Bool.and_eq_true]
  refine ⟨by rw [PyData.canLay0]; exact h, decide_eq_true ?_⟩
  unfold PyData.depth
  omega
theorem shaped_tup {ds : List PyData} (h : PyData.canLayAll0 ds = true) (d : PyData.depthAll ds ≤ 60) : SeqAt.shaped (.tuple ds) = true := by
  unfold SeqAt.shaped
  rw [Bool.and_eq_true]
  refine ⟨by rw [PyData.canLay0]; exact h, decide_eq_true ?_⟩
  unfold PyData.depth
  omega
theorem shaped_ints (l : List Int) : SeqAt.shaped (.list (dInts l)) = true := shaped_list (canLay_ints l) (Nat.le_trans (depth_ints l) (by decide))
theorem shaped_tints (l : List Int) : SeqAt.shaped (.tuple (dInts l)) = true := shaped_tup (canLay_ints l) (Nat.le_trans (depth_ints l) (by decide))
theorem eqv_same {d : PyData} (h : SeqAt.shaped d = true) : PyData.eqv d d = true := SeqAt.eqv_refl d (SeqAt.canLay_of_shaped h)
end Fx

namespace Fx
/-! ### figures -/
/-- figures, the least place first -/
def lsd (b n : Nat) : List Nat := if h : 2 ≤ b ∧ b ≤ n then (n % b) :: lsd b (n / b) else [n]
termination_by n
decreasing_by exact Nat.div_lt_self (by omega) (by omega)
theorem lsd_lt {b n : Nat} (h : n < b) : lsd b n = [n] := by
  rw [lsd, dif_neg (by omega)]
theorem lsd_ge {b n : Nat} (hb : 2 ≤ b) (h : b ≤ n) : lsd b n = n % b :: lsd b (n / b) := by
  rw [lsd, dif_pos ⟨hb, h⟩]
theorem lsd_split {b r : Nat} (hb : 2 ≤ b) : lsd b r = r % b :: (if r / b = 0 then [] else lsd b (r / b)) := by
  by_cases h : b ≤ r
  · have : r / b ≠ 0 := by
      have := Nat.div_pos h (by omega)
      omega
    rw [if_neg this, lsd_ge hb h]
  · rw [if_pos (Nat.div_eq_of_lt (by omega)), lsd_lt (by omega), Nat.mod_eq_of_lt (by omega)]
theorem lsd_below {b : Nat} (hb : 2 ≤ b) : ∀ n : Nat, ∀ d ∈ lsd b n, d < b := fun n => by
  induction n using Nat.strongRecOn with
  | ind n ih =>
    intro d hd
    by_cases h : b ≤ n
    · rw [lsd_ge hb h] at hd
      rcases List.mem_cons.mp hd with rfl | hd
      · exact Nat.mod_lt _ (by omega)
      · exact ih (n / b) (Nat.div_lt_self (by omega) (by omega)) d hd
    · rw [lsd_lt (by omega)] at hd
      cases List.mem_singleton.mp hd
      omega
theorem lsd_ne {b n : Nat} : lsd b n ≠ [] := by
  rw [lsd]
  split <;> simp
theorem lsd_len {b : Nat} (hb : 2 ≤ b) : ∀ (k n : Nat), n < b ^ (k + 1) → (k = 0 ∨ b ^ k ≤ n) → (lsd b n).length = k + 1
  | 0, n, h, _ => by
    rw [Nat.zero_add, Nat.pow_one] at h
    rw [lsd_lt h]
    rfl
  | k + 1, n, h, g => by
    have g' : b ^ (k + 1) ≤ n := by
      rcases g with g | g
      · omega
      · exact g
    have p : 0 < b ^ k := Nat.pow_pos (by omega)
    have h1 : b ≤ n := by
      rw [Nat.pow_succ] at g'
      have := Nat.mul_le_mul_right b (show 1 ≤ b ^ k by omega)
      omega
    rw [lsd_ge hb h1, List.length_cons, lsd_len hb k (n / b)]
    · rw [Nat.div_lt_iff_lt_mul (by omega), ← Nat.pow_succ]
      exact h
    · right
      rw [Nat.le_div_iff_mul_le (by omega), ← Nat.pow_succ]
      exact g'
theorem lsd_get {b : Nat} (hb : 2 ≤ b) : ∀ (i n : Nat), i < (lsd b n).length → (lsd b n)[i]? = some (n / b ^ i % b)
  | 0, n, _ => by
    rw [lsd_split hb, Nat.pow_zero, Nat.div_one]
    rfl
  | i + 1, n, h => by
    rw [lsd_split hb] at h ⊢
    split at h
    · simp at h
    · rename_i hr
      rw [if_neg hr, List.getElem?_cons_succ, lsd_get hb i (n / b) (by simpa using h)]
      rw [Nat.div_div_eq_div_mul, Nat.pow_succ, Nat.mul_comm]
theorem lsd_len_le {b : Nat} (hb : 2 ≤ b) : ∀ (k n : Nat), n < 2 ^ (k + 1) → (lsd b n).length ≤ k + 1
  | 0, n, h => by
    rw [lsd_lt (by omega)]
    exact Nat.le_refl _
  | k + 1, n, h => by
    by_cases g : b ≤ n
    · rw [lsd_ge hb g, List.length_cons]
      have : n / b < 2 ^ (k + 1) := by
        rw [Nat.div_lt_iff_lt_mul (by omega)]
        have := Nat.mul_le_mul_left (2 ^ (k + 1)) hb
        rw [Nat.pow_succ] at h
        omega
      have := lsd_len_le hb k (n / b) this
      omega
    · rw [lsd_lt (by omega)]
      show 1 ≤ _
      omega
/-- figures, the greatest place first -/
def figs (b n : Nat) : List Nat := (lsd b n).reverse
theorem figs_len (b n : Nat) : (figs b n).length = (lsd b n).length := List.length_reverse ..
theorem figs_below {b n d : Nat} (hb : 2 ≤ b) (h : d ∈ figs b n) : d < b := lsd_below hb n d (List.mem_reverse.mp h)
theorem figs_le {b n : Nat} (hb : 2 ≤ b) (h : n < 2 ^ 900) : (figs b n).length ≤ 900 := by
  rw [figs_len]
  exact lsd_len_le hb 899 n h
/-! ### steps -/
def stepN (b p n : Nat) : Nat := ((figs b n).map (· ^ p)).sum
theorem sum_le_mul {l : List Nat} {m : Nat} (h : ∀ x ∈ l, x ≤ m) : l.sum ≤ l.length * m := by
  induction l with
  | nil => simp
  | cons a r ih =>
    rw [List.sum_cons, List.length_cons, Nat.succ_mul]
    have h1 := h a (List.mem_cons_self ..)
    have h2 := ih fun x hx => h x (List.mem_cons_of_mem _ hx)
    omega
theorem pow_le_base {d b p : Nat} (h : d < b) : d ^ p ≤ (b - 1) ^ p := Nat.pow_le_pow_left (by omega) p
theorem stepN_le {b p n : Nat} (hb : 2 ≤ b) : stepN b p n ≤ (figs b n).length * (b - 1) ^ p := by
  unfold stepN
  have := sum_le_mul (l := (figs b n).map (· ^ p)) (m := (b - 1) ^ p) fun x hx => by
    obtain ⟨d, hd, rfl⟩ := List.mem_map.mp hx
    exact pow_le_base (figs_below hb hd)
  rwa [List.length_map] at this
theorem worth_lt {b p : Nat} (hb : b ≤ 16) (hp : p ≤ 10) : (b - 1) ^ p < 2 ^ 40 := by
  have h1 : (b - 1) ^ p ≤ 15 ^ p := Nat.pow_le_pow_left (by omega) p
  have h2 : 15 ^ p ≤ 15 ^ 10 := Nat.pow_le_pow_right (by decide) hp
  have h3 : 15 ^ 10 < 2 ^ 40 := by decide
  omega
theorem stepN_lt {b p n : Nat} (hb : 2 ≤ b) (hb16 : b ≤ 16) (hp : p ≤ 10) (hn : n < 2 ^ 900) : stepN b p n < 2 ^ 50 := by
  have h1 := stepN_le (p := p) (n := n) hb
  have h2 := figs_le hb hn
  have h3 := worth_lt hb16 hp
  have h4 : (figs b n).length * (b - 1) ^ p ≤ 900 * 2 ^ 40 := Nat.mul_le_mul h2 (by omega)
  omega
/-- steps again and again -/
def itN (b p n : Nat) : Nat → Nat
  | 0 => n
  | k + 1 => stepN b p (itN b p n k)
theorem itN_lt {b p n : Nat} (hb : 2 ≤ b) (hb16 : b ≤ 16) (hp : p ≤ 10) (hn : n < 2 ^ 900) : ∀ k, itN b p n k < 2 ^ 900
  | 0 => hn
  | k + 1 => by
    have := stepN_lt hb hb16 hp (itN_lt hb hb16 hp hn k)
    have : itN b p n (k + 1) = stepN b p (itN b p n k) := rfl
    have e : (2 : Nat) ^ 50 ≤ 2 ^ 900 := Nat.pow_le_pow_right (by decide) (by decide)
    omega
def rowN (b p n : Nat) : Nat → List Nat
  | 0 => []
  | m + 1 => rowN b p n m ++ [itN b p n m]
theorem rowN_len (b p n : Nat) : ∀ m, (rowN b p n m).length = m
  | 0 => rfl
  | m + 1 => by
    rw [rowN, List.length_append, rowN_len b p n m]
    rfl
end Fx
namespace Fx
/-! ### the law's own figures -/
def powsN (b : Nat) : Nat → List Nat
  | 0 => []
  | k + 1 => powsN b k ++ [b ^ k]
theorem powsN_len (b : Nat) : ∀ k, (powsN b k).length = k
  | 0 => rfl
  | k + 1 => by
    rw [powsN, List.length_append, powsN_len b k]
    rfl
theorem powsN_get (b : Nat) : ∀ k i, i < k → (powsN b k)[i]? = some (b ^ i)
  | 0, _, h => by omega
  | k + 1, i, h => by
    rw [powsN]
    by_cases e : i = k
    · subst e
      rw [List.getElem?_append_right (by rw [powsN_len]; exact Nat.le_refl _), powsN_len, Nat.sub_self]
      rfl
    · rw [List.getElem?_append_left (by rw [powsN_len]; omega)]
      exact powsN_get b k i (by omega)
theorem powsN_rev {b k i : Nat} (h : i < k + 1) : (powsN b (k + 1)).reverse[i]? = some (b ^ (k - i)) := by
  rw [List.getElem?_reverse (by rw [powsN_len]; exact h), powsN_len, powsN_get b (k + 1) _ (by omega)]
  rw [show k + 1 - 1 - i = k - i by omega]
def fndN (b n k i : Nat) : List Nat := (List.range i).map fun t => n / b ^ (k - t) % b
theorem fndN_succ (b n k i : Nat) : fndN b n k (i + 1) = fndN b n k i ++ [n / b ^ (k - i) % b] := by
  unfold fndN
  rw [List.range_succ, List.map_append]
  rfl
theorem fndN_len (b n k i : Nat) : (fndN b n k i).length = i := by
  unfold fndN
  rw [List.length_map, List.length_range]
theorem fndN_all {b n k : Nat} (hb : 2 ≤ b) (h1 : n < b ^ (k + 1)) (h2 : k = 0 ∨ b ^ k ≤ n) : fndN b n k (k + 1) = figs b n := by
  have hl := lsd_len hb k n h1 h2
  refine List.ext_getElem? fun i => ?_
  by_cases hi : i < k + 1
  · unfold figs fndN
    rw [List.getElem?_reverse (by rw [hl]; exact hi), hl, lsd_get hb _ n (by rw [hl]; omega), List.getElem?_map, List.getElem?_range hi]
    have e : k + 1 - 1 - i = k - i := by omega
    rw [e]
    rfl
  · rw [List.getElem?_eq_none (by rw [fndN_len]; omega), List.getElem?_eq_none (by rw [figs_len, hl]; omega)]
theorem fig_div {b n j : Nat} : n % b ^ (j + 1) / b ^ j = n / b ^ j % b := by
  rw [Nat.pow_succ, Nat.mod_mul_right_div_self]
theorem fig_mod {b n j : Nat} : n % b ^ (j + 1) % b ^ j = n % b ^ j := by
  rw [Nat.pow_succ, Nat.mod_mul_right_mod]
theorem lt_pow' {b : Nat} (hb : 2 ≤ b) : ∀ k : Nat, k < b ^ k
  | 0 => by rw [Nat.pow_zero]; decide
  | k + 1 => by
    have := lt_pow' hb k
    rw [Nat.pow_succ]
    have := Nat.mul_le_mul_left (b ^ k) hb
    omega
open L2 in
theorem divN {x : Int} {j : Nat} (h0 : 0 < j) (h : j < 2 ^ 900) : CDivW x (j : Int) := wide_div (b := 900) (by omega) h (by decide) (by decide)
end Fx

namespace Fx
open PySem PySem.Spec PyProof.Rows L2
/-! ### texts of figures -/
/-- the signs of the figures -/
def figCodes : List Nat := [48, 49, 50, 51, 52, 53, 54, 55, 56, 57, 97, 98, 99, 100, 101, 102]
def sg (d : Nat) : Nat := figCodes.getD d 0
abbrev one (c : Nat) : Str := ⟨#[c]⟩
def txt (ds : List Nat) : Str := ⟨(ds.map sg).toArray⟩
abbrev FIG : Str := "0123456789abcdef"
theorem fig_codes : FIG.cps.toList = figCodes := by decide +kernel
theorem fig_len : FIG.length ≤ sizeLine := by decide +kernel
theorem fig_at {d : Nat} (h : d < 16) : atI FIG.cps.toList (d : Int) = some (sg d) := by
  refine atI_nat ?_
  rw [fig_codes]
  have a : ∀ d ∈ List.range 16, figCodes[d]? = some (sg d) := by decide +kernel
  exact a d (List.mem_range.mpr h)
theorem fig_find {d : Nat} (h : d < 16) : Txt.find FIG (one (sg d)) = (d : Int) := by
  have a : ∀ d ∈ List.range 16, Txt.find FIG (one (sg d)) = (d : Int) := by decide +kernel
  exact a d (List.mem_range.mpr h)
theorem sg_inj {d e : Nat} (h : d < 16) (h' : e < 16) (q : sg d = sg e) : d = e := by
  have a : ∀ d ∈ List.range 16, ∀ e ∈ List.range 16, sg d = sg e → d = e := by decide +kernel
  exact a d (List.mem_range.mpr h) e (List.mem_range.mpr h') q
theorem tl_txt (ds : List Nat) : (txt ds).cps.toList = ds.map sg := rfl
theorem txt_len (ds : List Nat) : (txt ds).length = ds.length := by
  show (ds.map sg).toArray.size = _
  rw [List.size_toArray, List.length_map]
theorem txt_at {ds : List Nat} {i : Nat} {d : Nat} (h : ds[i]? = some d) : (txt ds).cps[i]? = some (sg d) := by
  show ((ds.map sg).toArray)[i]? = _
  rw [List.getElem?_toArray, List.getElem?_map, h]
  rfl
theorem txt_atI {ds : List Nat} {i : Nat} {d : Nat} (h : ds[i]? = some d) : atI (txt ds).cps.toList (i : Int) = some (sg d) := by
  refine atI_nat ?_
  rw [tl_txt, List.getElem?_map, h]
  rfl
/-- signs joined -/
theorem joinL_ones : ∀ cs : List Nat, TL.joinL [] (cs.map fun c => [c]) = cs
  | [] => rfl
  | [c] => rfl
  | c :: e :: r => by
    show [c] ++ ([] ++ TL.joinL [] ((e :: r).map fun c => [c])) = _
    rw [joinL_ones (e :: r)]
    rfl
theorem join_ones (cs : List Nat) : Txt.join "" (cs.map one) = ⟨cs.toArray⟩ := by
  rw [TL.join_eq]
  have e : TL.tl (Str.join "" (cs.map one)) = TL.tl ⟨cs.toArray⟩ := by
    rw [TL.tl_join, List.map_map]
    exact joinL_ones cs
  have f : ∀ x y : Str, TL.tl x = TL.tl y → x = y := fun x y h => by
    cases x with
    | mk a =>
      cases y with
      | mk b =>
        have h' : a.toList = b.toList := h
        rw [show a = b from Array.toList_inj.mp h']
  exact f _ _ e
/-- what figures are worth -/
def val (b : Nat) (ds : List Nat) : Nat := ds.foldl (fun a d => a * b + d) 0
theorem val_take {b : Nat} {ds : List Nat} {i d : Nat} (h : ds[i]? = some d) : val b (ds.take (i + 1)) = val b (ds.take i) * b + d := by
  unfold val
  rw [List.take_add_one, h, List.foldl_append]
  rfl
theorem val_figs {b : Nat} (hb : 2 ≤ b) : ∀ n : Nat, val b (figs b n) = n := fun n => by
  induction n using Nat.strongRecOn with
  | ind n ih =>
    by_cases h : b ≤ n
    · have e : figs b n = figs b (n / b) ++ [n % b] := by
        unfold figs
        rw [lsd_ge hb h, List.reverse_cons]
      have i := ih (n / b) (Nat.div_lt_self (by omega) (by omega))
      rw [e]
      unfold val at i ⊢
      rw [List.foldl_append, i]
      show n / b * b + n % b = n
      rw [Nat.mul_comm]
      exact Nat.div_add_mod n b
    · unfold figs
      rw [lsd_lt (by omega)]
      show 0 * b + n = n
      omega
theorem val_lt {b : Nat} (hb : 2 ≤ b) : ∀ ds : List Nat, (∀ d ∈ ds, d < b) → val b ds < b ^ ds.length := fun ds h => by
  have go : ∀ (ds : List Nat) (a k : Nat), (∀ d ∈ ds, d < b) → a < b ^ k → ds.foldl (fun a d => a * b + d) a < b ^ (k + ds.length) := by
    intro ds
    induction ds with
    | nil => intro a k _ h; exact h
    | cons d r ih =>
      intro a k h0 h1
      have hd := h0 d (List.mem_cons_self ..)
      have := ih (a * b + d) (k + 1) (fun e he => h0 e (List.mem_cons_of_mem _ he)) (by
        rw [Nat.pow_succ]
        have := Nat.mul_le_mul_right b (show a + 1 ≤ b ^ k from h1)
        rw [Nat.succ_mul] at this
        omega)
      rw [List.length_cons]
      rw [show k + (r.length + 1) = k + 1 + r.length by omega]
      exact this
  have := go ds 0 0 h (by rw [Nat.pow_zero]; decide)
  rwa [Nat.zero_add] at this
/-- a number's figures: no nought ahead of others -/
theorem figs_head {b : Nat} (hb : 2 ≤ b) : ∀ n : Nat, ∀ d : Nat, (figs b n)[0]? = some d → d = 0 → (figs b n).length = 1 := fun n => by
  induction n using Nat.strongRecOn with
  | ind n ih =>
    intro d hd h0
    by_cases h : b ≤ n
    · have e : figs b n = figs b (n / b) ++ [n % b] := by
        unfold figs
        rw [lsd_ge hb h, List.reverse_cons]
      have hlen : 0 < (figs b (n / b)).length := by
        rw [figs_len]
        exact List.length_pos_iff.mpr lsd_ne
      rw [e, List.getElem?_append_left hlen] at hd
      have l1 := ih (n / b) (Nat.div_lt_self (by omega) (by omega)) d hd h0
      have hq : 0 < n / b := Nat.div_pos h (by omega)
      have ev := val_figs hb (n / b)
      have : ∃ x, figs b (n / b) = [x] := List.length_eq_one_iff.mp l1
      obtain ⟨x, hx⟩ := this
      rw [hx] at hd ev
      have : x = d := Option.some.inj hd
      have ev' : 0 * b + x = n / b := ev
      omega
    · unfold figs
      rw [lsd_lt (by omega)]
      rfl
theorem figs_ne {b n : Nat} : figs b n ≠ [] := fun h => lsd_ne (List.reverse_eq_nil_iff.mp h)
/-- figures that may be read: some, below the base, no nought ahead of others -/
structure Reads (b : Nat) (ds : List Nat) : Prop where
  ne : ds ≠ []
  below : ∀ d ∈ ds, d < b
  head : ∀ d, ds[0]? = some d → d = 0 → ds.length = 1
theorem Reads.figs {b : Nat} (hb : 2 ≤ b) (n : Nat) : Reads b (figs b n) := ⟨figs_ne, fun _ h => figs_below hb h, figs_head hb n⟩
end Fx

namespace Fx
open PySem PySem.Spec PyProof.Rows L2
/-- the greatest power that a base lets -/
def mosts : List Int := [10, 9, 6, 4, 4, 3, 3, 3, 3, 3, 2, 2, 2, 2, 2]
def mostOf (b : Int) : Int := mosts.getD (b - 2).toNat 0
def OkPair (b p : Int) : Prop := 2 ≤ b ∧ b ≤ 16 ∧ 1 ≤ p ∧ p ≤ mostOf b
/-- all of a pair's places, to be shown one by one -/
def pairsAll : List (Int × Int) := (List.range 15).flatMap fun (i : Nat) => (List.range (mosts.getD i 0).toNat).map fun (j : Nat) => (((i : Nat) : Int) + 2, ((j : Nat) : Int) + 1)
theorem OkPair.mem {b p : Int} (h : OkPair b p) : (b, p) ∈ pairsAll := by
  obtain ⟨h1, h2, h3, h4⟩ := h
  refine List.mem_flatMap.mpr ⟨(b - 2).toNat, List.mem_range.mpr (by omega), List.mem_map.mpr ⟨(p - 1).toNat, List.mem_range.mpr ?_, ?_⟩⟩
  · unfold mostOf at h4
    omega
  · show (((b - 2).toNat : Int) + 2, ((p - 1).toNat : Int) + 1) = (b, p)
    rw [Prod.mk.injEq]
    omega
theorem OkPair.all {P : Int → Int → Prop} {b p : Int} (h : OkPair b p) (a : ∀ q ∈ pairsAll, P q.1 q.2) : P b p := a _ h.mem
theorem OkPair.le10 {b p : Int} (h : OkPair b p) : p ≤ 10 := h.all (P := fun _ p => p ≤ 10) (by decide +kernel)
/-- what the greatest figure is worth -/
def worth (b p : Int) : Int := (b - 1) ^ p.toNat
theorem OkPair.worth {b p : Int} (h : OkPair b p) : 1 ≤ worth b p ∧ worth b p ≤ 1000 + 24 := h.all (P := fun b p => 1 ≤ Fx.worth b p ∧ Fx.worth b p ≤ 1024) (by decide +kernel)
theorem most_pos {b : Int} (h1 : 2 ≤ b) (h2 : b ≤ 16) : 1 ≤ mostOf b ∧ mostOf b ≤ 10 := by
  have a : ∀ i ∈ List.range 15, 1 ≤ mosts.getD i 0 ∧ mosts.getD i 0 ≤ 10 := by decide +kernel
  exact a (b - 2).toNat (List.mem_range.mpr (by omega))
theorem most_at {b : Int} (h1 : 2 ≤ b) (h2 : b ≤ 16) : atI (mosts.map V.int) (b - 2) = some (.int (mostOf b)) := by
  have hi : (b - 2).toNat < mosts.length := by
    show (b - 2).toNat < 15
    omega
  have z : (mosts.map V.int)[(b - 2).toNat]? = some (.int (mostOf b)) := by
    rw [List.getElem?_map, List.getElem?_eq_getElem hi]
    unfold mostOf
    rw [List.getD_eq_getElem?_getD, List.getElem?_eq_getElem hi]
    rfl
  have y := atI_nat z
  rw [show (((b - 2).toNat : Nat) : Int) = b - 2 by omega] at y
  exact y
/-- a pair's tuple as it stands -/
def PairAt (H : Hp) (v : V) (b p : Int) : Prop := ∃ a, v = .ref a ∧ H a = some (.tup [.int b, .int p]) ∧ OkPair b p
theorem PairAt.but {H H' : Hp} {d c : Addr} {n : Nat} {v : V} {b p : Int} (h : PairAt H v b p) (D : Deck H d c n) (e : But d H H') : PairAt H' v b p := by
  obtain ⟨a, e1, e2, e3⟩ := h
  exact ⟨a, e1, e.tup D e2, e3⟩
theorem PairAt.same {H H' : Hp} {v : V} {b p : Int} (h : PairAt H v b p) (e : Same H H') : PairAt H' v b p := by
  obtain ⟨a, e1, e2, e3⟩ := h
  exact ⟨a, e1, e _ _ e2, e3⟩
theorem PairAt.upd {H : Hp} {D : Addr} {xs : List V} {o : HO} {v : V} {b p : Int} (h : PairAt H v b p) (e : H D = some (.lst xs)) : PairAt (upd H D o) v b p := by
  obtain ⟨a, e1, e2, e3⟩ := h
  exact ⟨a, e1, by rw [upd_ne (ne_of e2 e fun z => by cases z)]; exact e2, e3⟩
/-- all things of a list are pairs -/
def Pairs (H : Hp) (xs : List V) : Prop := ∀ v ∈ xs, ∃ b p, PairAt H v b p
theorem Pairs.mono {H H' : Hp} {xs : List V} (h : Pairs H xs) (k : ∀ v b p, PairAt H v b p → PairAt H' v b p) : Pairs H' xs := fun v hv => by
  obtain ⟨b, p, q⟩ := h v hv
  exact ⟨b, p, k v b p q⟩
theorem Pairs.app {H : Hp} {xs ys : List V} (h : Pairs H xs) (g : Pairs H ys) : Pairs H (xs ++ ys) := fun v hv => (List.mem_append.mp hv).elim (h v) (g v)
theorem Pairs.rev {H : Hp} {xs : List V} (h : Pairs H xs) : Pairs H xs.reverse := fun v hv => h v (List.mem_reverse.mp hv)
theorem Pairs.one {H : Hp} {v : V} {b p : Int} (h : PairAt H v b p) : Pairs H [v] := fun u hu => by
  cases List.mem_singleton.mp hu
  exact ⟨b, p, h⟩
/-- pairs drawn one by one: n at the start, k draws a pair -/
structure Drawn (H H' : Hp) (d c D : Addr) (n i : Nat) : Prop where
  but : But d H H'
  deck : Deck H' d c (n + 3 * i)
  list : ∃ acc, H' D = some (.lst acc) ∧ acc.length = i ∧ Pairs H' acc
theorem Drawn.next {H H1 H2 : Hp} {d c D p : Addr} {n i : Nat} {b pw : Int} (h : Drawn H H1 d c D n i) (hD : H D = none) (hd : D ≠ d) (hc : D ≠ c) (b1 : But d H1 H2) (D2 : Deck H2 d c (n + 3 * i + 3)) (e : H2 p = some (.tup [.int b, .int pw])) (ok : OkPair b pw) :
    ∃ acc, H2 D = some (.lst acc) ∧ acc.length = i ∧ Drawn H (L2.upd H2 D (.lst (acc ++ [.ref p]))) d c D n (i + 1) := by
  obtain ⟨acc, e1, e2, e3⟩ := h.list
  have e4 : H2 D = some (.lst acc) := b1 _ _ hd e1
  refine ⟨acc, e4, e2, (h.but.trans b1).own hD, D2.off hd hc, acc ++ [.ref p], upd_same, by rw [List.length_append, e2]; rfl, ?_⟩
  refine Pairs.app ?_ (Pairs.one (PairAt.upd ⟨p, rfl, e, ok⟩ e4))
  exact e3.mono fun v b p q => (q.but h.deck b1).upd e4
end Fx

namespace Fx
open PySem PySem.Spec PyProof.Rows L2
/-- the least length from which on numbers go down, w the worth of the greatest figure -/
structure IsLen (b w : Int) (L : Nat) : Prop where
  two : 2 ≤ L
  less : (L : Int) * w < b ^ (L - 1)
  least : ∀ k : Nat, 2 ≤ k → k < L → b ^ (k - 1) ≤ (k : Int) * w
theorem IsLen.uniq {b w : Int} {L M : Nat} (h : IsLen b w L) (g : IsLen b w M) : L = M := by
  rcases Nat.lt_trichotomy L M with l | l | l
  · have := g.least L h.two l
    have := h.less
    omega
  · exact l
  · have := h.least M g.two l
    have := g.less
    omega
theorem pow_mono {a b : Int} (h0 : 0 ≤ a) (h : a ≤ b) : ∀ n : Nat, a ^ n ≤ b ^ n
  | 0 => by rw [Int.pow_zero, Int.pow_zero]; exact Int.le_refl _
  | n + 1 => by
    rw [Int.pow_succ, Int.pow_succ]
    have i := pow_mono h0 h n
    have p : 0 ≤ a ^ n := Int.pow_nonneg h0
    exact Int.le_trans (Int.mul_le_mul_of_nonneg_right i h0) (Int.mul_le_mul_of_nonneg_left h (Int.le_trans p i))
theorem pow_pos {a : Int} (h : 0 < a) (n : Nat) : 0 < a ^ n := Int.pow_pos h
/-- at fifteen figures all is shown -/
theorem len15 {b w : Int} (h : 2 ≤ b) (hw : w ≤ 1024) : (15 : Int) * w < b ^ 14 := by
  have i := pow_mono (a := 2) (b := b) (by decide) h 14
  have e : (2 : Int) ^ 14 = 16384 := by decide
  omega
theorem len_step {b w : Int} {L : Nat} (h : ∀ k : Nat, 2 ≤ k → k < L → b ^ (k - 1) ≤ (k : Int) * w) (t : b ^ (L - 1) ≤ (L : Int) * w) : ∀ k : Nat, 2 ≤ k → k < L + 1 → b ^ (k - 1) ≤ (k : Int) * w := fun k h2 hk => by
  by_cases e : k = L
  · rw [e]
    exact t
  · exact h k h2 (by omega)
theorem len_lt {b w : Int} {L : Nat} (h : 2 ≤ b) (hw : w ≤ 1024) (l : L ≤ 15) (t : b ^ (L - 1) ≤ (L : Int) * w) : L < 15 := by
  by_cases e : L = 15
  · subst e
    have := len15 h hw
    have t' : b ^ 14 ≤ ((15 : Nat) : Int) * w := t
    omega
  · omega
/-- there is one -/
theorem len_ex {b w : Int} (h : 2 ≤ b) (hw : w ≤ 1024) : ∃ L : Nat, IsLen b w L ∧ L ≤ 15 := by
  have go : ∀ k L : Nat, 15 - L = k → 2 ≤ L → L ≤ 15 → (∀ j : Nat, 2 ≤ j → j < L → b ^ (j - 1) ≤ (j : Int) * w) → ∃ L : Nat, IsLen b w L ∧ L ≤ 15 := by
    intro k
    induction k with
    | zero =>
      intro L e l2 l15 ih
      refine ⟨L, ⟨l2, ?_, ih⟩, l15⟩
      obtain rfl : L = 15 := by omega
      exact len15 h hw
    | succ k ihk =>
      intro L e l2 l15 ih
      by_cases t : b ^ (L - 1) ≤ (L : Int) * w
      · exact ihk (L + 1) (by omega) (by omega) (by omega) (len_step ih t)
      · exact ⟨L, ⟨l2, by omega, ih⟩, l15⟩
  exact go 13 2 rfl (by decide) (by decide) fun j _ _ => by omega
end Fx

namespace Fx
/-! ### a step by its last figure, by parts -/
theorem zero_pow' {p : Nat} (h : 1 ≤ p) : 0 ^ p = 0 := Nat.zero_pow (by omega)
theorem stepN_lt_base {b p n : Nat} (h : n < b) : stepN b p n = n ^ p := by
  unfold stepN figs
  rw [lsd_lt h]
  show n ^ p + 0 = _
  omega
theorem stepN_zero {b p : Nat} (hb : 2 ≤ b) (hp : 1 ≤ p) : stepN b p 0 = 0 := by
  rw [stepN_lt_base (by omega), zero_pow' hp]
theorem sum_rev : ∀ l : List Nat, l.reverse.sum = l.sum
  | [] => rfl
  | a :: r => by
    rw [List.reverse_cons, List.sum_append, sum_rev r, List.sum_cons, List.sum_cons, List.sum_nil]
    omega
theorem stepN_lsd (b p n : Nat) : stepN b p n = ((lsd b n).map (· ^ p)).sum := by
  unfold stepN figs
  rw [List.map_reverse, sum_rev]
theorem stepN_rec {b p : Nat} (hb : 2 ≤ b) (hp : 1 ≤ p) (n : Nat) : stepN b p n = stepN b p (n / b) + (n % b) ^ p := by
  by_cases h : b ≤ n
  · rw [stepN_lsd, stepN_lsd, lsd_ge hb h, List.map_cons, List.sum_cons]
    omega
  · rw [stepN_lt_base (by omega), Nat.div_eq_of_lt (by omega), stepN_zero hb hp, Nat.mod_eq_of_lt (by omega)]
    omega
theorem stepN_push {b p x f : Nat} (hb : 2 ≤ b) (hp : 1 ≤ p) (hf : f < b) : stepN b p (x * b + f) = stepN b p x + f ^ p := by
  have e1 : (x * b + f) / b = x := by
    rw [Nat.mul_comm, Nat.mul_add_div (by omega), Nat.div_eq_of_lt hf]
    omega
  have e2 : (x * b + f) % b = f := by
    rw [Nat.mul_comm, Nat.mul_add_mod, Nat.mod_eq_of_lt hf]
  rw [stepN_rec hb hp, e1, e2]
theorem step_split {b p : Nat} (hb : 2 ≤ b) (hp : 1 ≤ p) : ∀ (k y r : Nat), r < b ^ k → stepN b p (y * b ^ k + r) = stepN b p y + stepN b p r
  | 0, y, r, h => by
    rw [Nat.pow_zero] at h
    have : r = 0 := by omega
    subst this
    rw [Nat.pow_zero, Nat.mul_one, stepN_zero hb hp]
    rfl
  | k + 1, y, r, h => by
    have e0 : y * b ^ (k + 1) + r = (y * b ^ k + r / b) * b + r % b := by
      have ep : b ^ k * b = b ^ (k + 1) := by rw [Nat.pow_succ]
      rw [Nat.add_mul, Nat.mul_assoc, ep]
      have := Nat.div_add_mod r b
      rw [Nat.mul_comm] at this
      omega
    have h1 : r / b < b ^ k := by
      rw [Nat.div_lt_iff_lt_mul (by omega), ← Nat.pow_succ]
      exact h
    rw [e0, stepN_push hb hp (Nat.mod_lt _ (by omega)), step_split hb hp k y (r / b) h1, stepN_rec hb hp r]
    omega
/-! ### lengths -/
theorem len_pow {b : Nat} (hb : 2 ≤ b) : ∀ n : Nat, 0 < n → b ^ ((figs b n).length - 1) ≤ n := fun n => by
  induction n using Nat.strongRecOn with
  | ind n ih =>
    intro h0
    by_cases h : b ≤ n
    · have i := ih (n / b) (Nat.div_lt_self (by omega) (by omega)) (Nat.div_pos h (by omega))
      rw [figs_len] at i ⊢
      rw [lsd_ge hb h, List.length_cons]
      have l0 : 0 < (lsd b (n / b)).length := List.length_pos_iff.mpr lsd_ne
      have e : (lsd b (n / b)).length + 1 - 1 = (lsd b (n / b)).length - 1 + 1 := by omega
      rw [e, Nat.pow_succ]
      have := Nat.mul_le_mul_right b i
      have := Nat.div_mul_le_self n b
      omega
    · rw [figs_len, lsd_lt (by omega)]
      exact h0
theorem len_gt {b n k : Nat} (hb : 2 ≤ b) (h : b ^ k ≤ n) : k < (figs b n).length := by
  refine Nat.lt_of_not_le fun z => ?_
  rw [figs_len] at z
  have up : ∀ m : Nat, n < b ^ (lsd b m).length ∨ m ≠ n := fun m => by
    by_cases e : m = n
    · subst e
      have go : ∀ m : Nat, m < b ^ (lsd b m).length := fun m => by
        induction m using Nat.strongRecOn with
        | ind m ih =>
          by_cases g : b ≤ m
          · rw [lsd_ge hb g, List.length_cons, Nat.pow_succ]
            have i := ih (m / b) (Nat.div_lt_self (by omega) (by omega))
            have := Nat.div_add_mod m b
            have := Nat.mod_lt m (show 0 < b by omega)
            have := Nat.mul_le_mul_right b (show m / b + 1 ≤ b ^ (lsd b (m / b)).length from i)
            rw [Nat.succ_mul, Nat.mul_comm (m / b) b] at this
            omega
          · rw [lsd_lt (by omega)]
            show m < b ^ 1
            rw [Nat.pow_one]
            omega
      exact .inl (go m)
    · exact .inr e
  rcases up n with u | u
  · have := Nat.pow_le_pow_right (show 0 < b by omega) z
    omega
  · exact u rfl
/-! ### what goes down -/
/-- the worth of the greatest figure -/
theorem worth_nat (b p : Nat) (hb : 1 ≤ b) : worth (b : Int) (p : Int) = (((b - 1) ^ p : Nat) : Int) := by
  unfold worth
  have e : (b : Int) - 1 = ((b - 1 : Nat) : Int) := by omega
  rw [e, Int.toNat_natCast, Int.natCast_pow]
theorem len_moreN {b w L : Nat} (h1 : L * w < b ^ (L - 1)) (hL : 2 ≤ L) (h2 : 2 ≤ b) : ∀ k : Nat, (L + k) * w < b ^ (L + k - 1)
  | 0 => h1
  | k + 1 => by
    have i := len_moreN h1 hL h2 k
    have e : b ^ (L + (k + 1) - 1) = b ^ (L + k - 1) * b := by
      rw [← Nat.pow_succ]
      congr 1
      omega
    have a1 : (L + (k + 1)) * w = (L + k) * w + w := by
      rw [← Nat.add_assoc, Nat.succ_mul]
    have a2 : w ≤ (L + k) * w := Nat.le_mul_of_pos_left w (by omega)
    have a3 : b ^ (L + k - 1) * 2 ≤ b ^ (L + k - 1) * b := Nat.mul_le_mul_left _ h2
    omega
theorem IsLen.nat {b p L : Nat} (hb : 2 ≤ b) (h : IsLen (b : Int) (worth (b : Int) (p : Int)) L) : L * (b - 1) ^ p < b ^ (L - 1) := by
  have := h.less
  rw [worth_nat b p (by omega), ← Int.natCast_mul, ← Int.natCast_pow] at this
  exact Int.ofNat_lt.mp this
theorem goes_down {b p L n : Nat} (hb : 2 ≤ b) (h : IsLen (b : Int) (worth (b : Int) (p : Int)) L) (hn : b ^ (L - 1) ≤ n) : stepN b p n < n := by
  have h1 := h.nat hb
  have l := len_gt hb hn
  have le := stepN_le (p := p) (n := n) hb
  have m := len_moreN h1 h.two hb ((figs b n).length - L)
  have h2 := h.two
  rw [show L + ((figs b n).length - L) = (figs b n).length by omega] at m
  have n0 : 0 < n := Nat.lt_of_lt_of_le (Nat.pow_pos (by omega)) hn
  have := len_pow hb n n0
  omega
/-- the greatest number whose step is no less -/
structure IsKept (b p G : Nat) : Prop where
  kept : G ≤ stepN b p G
  down : ∀ n, G < n → stepN b p n < n
theorem IsKept.uniq {b p G H : Nat} (h : IsKept b p G) (g : IsKept b p H) : G = H := by
  rcases Nat.lt_trichotomy G H with l | l | l
  · have := h.down H l
    have := g.kept
    omega
  · exact l
  · have := g.down G l
    have := h.kept
    omega
/-! ### place by place -/
def gain (b p j f : Nat) : Int := ((f ^ p : Nat) : Int) - (f : Int) * ((b ^ j : Nat) : Int)
def gainRow (b p j : Nat) : List Int := (List.range b).map (gain b p j)
theorem gainRow_len (b p j : Nat) : (gainRow b p j).length = b := by
  unfold gainRow
  rw [List.length_map, List.length_range]
theorem gainRow_get {b p j f : Nat} (h : f < b) : (gainRow b p j)[f]? = some (gain b p j f) := by
  unfold gainRow
  rw [List.getElem?_map, List.getElem?_range h]
  rfl
def rowMax (b p j : Nat) : Int := (gainRow b p j).max?.getD 0
theorem rowMax_spec {b p j : Nat} (hb : 2 ≤ b) : rowMax b p j ∈ gainRow b p j ∧ ∀ y ∈ gainRow b p j, y ≤ rowMax b p j := by
  unfold rowMax
  cases e : (gainRow b p j).max? with
  | none =>
    rw [List.max?_eq_none_iff] at e
    have := gainRow_len b p j
    rw [e] at this
    have e0 : (0 : Nat) = b := this
    omega
  | some m =>
    exact (List.max?_eq_some_iff).mp e
theorem rowMax_uniq {b p j : Nat} {m : Int} (hb : 2 ≤ b) (h1 : m ∈ gainRow b p j) (h2 : ∀ y ∈ gainRow b p j, y ≤ m) : m = rowMax b p j := by
  have s := rowMax_spec (p := p) (j := j) hb
  have := h2 _ s.1
  have := s.2 _ h1
  omega
theorem gain_le {b p j f : Nat} (hb : 2 ≤ b) (h : f < b) : gain b p j f ≤ rowMax b p j := (rowMax_spec hb).2 _ (List.mem_of_getElem? (gainRow_get h))
def restMax (b p : Nat) : Nat → Int
  | 0 => 0
  | k + 1 => restMax b p k + rowMax b p k
/-- what a number's step has beyond it, its figures at k places behind -/
def over (b p x k : Nat) : Int := (stepN b p x : Int) - (x : Int) * ((b ^ k : Nat) : Int)
theorem over_push {b p x k f : Nat} (hb : 2 ≤ b) (hp : 1 ≤ p) (hf : f < b) : over b p (x * b + f) k = over b p x (k + 1) + gain b p k f := by
  unfold over gain
  rw [stepN_push hb hp hf, Nat.pow_succ]
  simp only [Int.natCast_add, Int.natCast_mul, Int.add_mul, Int.mul_assoc, Int.mul_comm, Int.mul_left_comm]
  omega
theorem over_split {b p k y r : Nat} (hb : 2 ≤ b) (hp : 1 ≤ p) (h : r < b ^ k) : over b p (y * b ^ k + r) 0 = over b p y k + over b p r 0 := by
  unfold over
  rw [step_split hb hp k y r h]
  simp only [Int.natCast_add, Int.natCast_mul, Nat.pow_zero]
  omega
theorem rest_bound {b p : Nat} (hb : 2 ≤ b) (hp : 1 ≤ p) : ∀ k r : Nat, r < b ^ k → over b p r 0 ≤ restMax b p k
  | 0, r, h => by
    rw [Nat.pow_zero] at h
    obtain rfl : r = 0 := by omega
    unfold over restMax
    rw [stepN_zero hb hp]
    simp
  | k + 1, r, h => by
    have e : r / b ^ k < b := by
      rw [Nat.div_lt_iff_lt_mul (Nat.pow_pos (by omega)), Nat.mul_comm, ← Nat.pow_succ]
      exact h
    have e0 : r = r / b ^ k * b ^ k + r % b ^ k := by
      have := Nat.div_add_mod r (b ^ k)
      rw [Nat.mul_comm] at this
      omega
    have lt := Nat.mod_lt r (show 0 < b ^ k from Nat.pow_pos (by omega))
    have i := rest_bound hb hp k (r % b ^ k) lt
    have g := gain_le (p := p) (j := k) hb e
    have z : over b p (r / b ^ k) k = gain b p k (r / b ^ k) := by
      unfold over gain
      rw [stepN_lt_base e]
    rw [e0, over_split hb hp lt, z]
    show _ ≤ restMax b p k + rowMax b p k
    omega
/-- the greatest figures one by one: m places to come, x so far, what is to spare -/
structure Greedy (b p M m x : Nat) (spare : Int) : Prop where
  is : spare = over b p x m + restMax b p m
  pos : 0 ≤ spare
  most : ∀ n, n < b ^ M → n ≤ stepN b p n → n / b ^ m ≤ x
theorem restMax_pos {b p : Nat} (hb : 2 ≤ b) (hp : 1 ≤ p) (k : Nat) : 0 ≤ restMax b p k := by
  have := rest_bound hb hp k 0 (Nat.pow_pos (by omega))
  unfold over at this
  rw [stepN_zero hb hp] at this
  simp at this
  exact this
theorem Greedy.start {b p : Nat} (hb : 2 ≤ b) (hp : 1 ≤ p) (M : Nat) : Greedy b p M M 0 (restMax b p M) := by
  refine ⟨?_, restMax_pos hb hp M, fun n h _ => ?_⟩
  · unfold over
    rw [stepN_zero hb hp]
    simp
  · rw [Nat.div_eq_of_lt h]
    exact Nat.le_refl 0
theorem Greedy.next {b p M m x f : Nat} {spare : Int} (hb : 2 ≤ b) (hp : 1 ≤ p) (g : Greedy b p M (m + 1) x spare) (hf : f < b) (h1 : rowMax b p m - spare ≤ gain b p m f)
    (h2 : ∀ e, e < b → rowMax b p m - spare ≤ gain b p m e → e ≤ f) : Greedy b p M m (x * b + f) (spare - rowMax b p m + gain b p m f) := by
  have gi := g.is
  refine ⟨?_, by omega, fun n hn hk => ?_⟩
  · rw [over_push hb hp hf]
    have : restMax b p (m + 1) = restMax b p m + rowMax b p m := rfl
    omega
  · have y1 := g.most n hn hk
    have ed : n / b ^ (m + 1) = n / b ^ m / b := by rw [Nat.pow_succ, Nat.div_div_eq_div_mul]
    rw [ed] at y1
    generalize hy : n / b ^ m = y at y1 ⊢
    have yy := Nat.div_add_mod y b
    have yl := Nat.mod_lt y (show 0 < b by omega)
    by_cases c : y / b = x
    · have e0 : n = y * b ^ m + n % b ^ m := by
        have := Nat.div_add_mod n (b ^ m)
        rw [hy, Nat.mul_comm] at this
        omega
      have lt := Nat.mod_lt n (show 0 < b ^ m from Nat.pow_pos (by omega))
      have r1 := rest_bound hb hp m (n % b ^ m) lt
      have o1 : 0 ≤ over b p n 0 := by
        unfold over
        simp only [Nat.pow_zero]
        omega
      rw [e0, over_split hb hp lt] at o1
      have ey : y = x * b + y % b := by
        rw [← c, Nat.mul_comm]
        exact yy.symm
      rw [ey, over_push hb hp yl] at o1
      have rm : restMax b p (m + 1) = restMax b p m + rowMax b p m := rfl
      have := h2 (y % b) yl (by omega)
      rw [ey]
      omega
    · have : y / b + 1 ≤ x := by omega
      have := Nat.mul_le_mul_right b this
      rw [Nat.succ_mul, Nat.mul_comm (y / b) b] at this
      omega
theorem Greedy.done {b p L x : Nat} {spare : Int} (hb : 2 ≤ b) (h : IsLen (b : Int) (worth (b : Int) (p : Int)) L) (g : Greedy b p (L - 1) 0 x spare) : IsKept b p x := by
  have gi := g.is
  have gp := g.pos
  refine ⟨?_, fun n hn => ?_⟩
  · have : restMax b p 0 = 0 := rfl
    unfold over at gi
    simp only [Nat.pow_zero] at gi
    omega
  · by_cases c : n < b ^ (L - 1)
    · refine Nat.lt_of_not_le fun z => ?_
      have := g.most n c z
      rw [Nat.pow_zero, Nat.div_one] at this
      omega
    · exact goes_down hb h (by omega)
/-- no number from here on but goes down -/
theorem down_from {b p M n : Nat} (hb : 2 ≤ b) (h : IsLen (b : Int) (worth (b : Int) (p : Int)) M) (hn : (M - 1) * (b - 1) ^ p < n) : stepN b p n < n := by
  by_cases c : b ^ (M - 1) ≤ n
  · exact goes_down hb h c
  · have l := len_pow hb n (by omega)
    have k : (figs b n).length - 1 < M - 1 := by
      refine Nat.lt_of_not_le fun z => ?_
      have := Nat.pow_le_pow_right (show 0 < b by omega) z
      omega
    have le := stepN_le (p := p) (n := n) hb
    have := Nat.mul_le_mul_right ((b - 1) ^ p) (show (figs b n).length ≤ M - 1 by omega)
    omega
/-- a step that can be reckoned -/
def stepF (b p : Nat) : Nat → Nat → Nat
  | 0, _ => 0
  | k + 1, n => stepF b p k (n / b) + (n % b) ^ p
theorem stepF_eq {b p : Nat} (hb : 2 ≤ b) (hp : 1 ≤ p) : ∀ k n : Nat, n < b ^ k → stepF b p k n = stepN b p n
  | 0, n, h => by
    rw [Nat.pow_zero] at h
    obtain rfl : n = 0 := by omega
    rw [stepN_zero hb hp]
    rfl
  | k + 1, n, h => by
    rw [stepN_rec hb hp n, ← stepF_eq hb hp k (n / b)]
    · rfl
    · rw [Nat.div_lt_iff_lt_mul (by omega), ← Nat.pow_succ]
      exact h
end Fx

namespace Fx
/-! ### rows come down -/
theorem figs_len_lt {b n k : Nat} (hb : 2 ≤ b) (hk : 1 ≤ k) (h : n < b ^ k) : (figs b n).length ≤ k := by
  by_cases h0 : n = 0
  · subst h0
    rw [figs_len, lsd_lt (by omega)]
    exact hk
  · have l := len_pow hb n (by omega)
    refine Nat.le_of_not_lt fun z => ?_
    have := Nat.pow_le_pow_right (show 0 < b by omega) (show k ≤ (figs b n).length - 1 by omega)
    omega
theorem step_le_len {b p n k : Nat} (hb : 2 ≤ b) (h : (figs b n).length ≤ k) : stepN b p n ≤ k * (b - 1) ^ p := Nat.le_trans (stepN_le hb) (Nat.mul_le_mul_right _ h)
theorem down_one {b p L n k : Nat} (hb : 2 ≤ b) (h : IsLen (b : Int) (worth (b : Int) (p : Int)) L) (hn : n ≤ max (L - 1) k * (b - 1) ^ p) : stepN b p n ≤ max (L - 1) (k - 1) * (b - 1) ^ p := by
  have h1 := h.nat hb
  have h2 := h.two
  by_cases c : k ≤ L - 1
  · have e : max (L - 1) k = L - 1 := by omega
    rw [e] at hn
    refine step_le_len hb (figs_len_lt hb (by omega) ?_)
    have : n < b ^ (L - 1) := by
      have := Nat.mul_le_mul_right ((b - 1) ^ p) (show L - 1 ≤ L by omega)
      omega
    exact Nat.lt_of_lt_of_le this (Nat.pow_le_pow_right (by omega) (by omega))
  · have e : max (L - 1) k = k := by omega
    rw [e] at hn
    have m := len_moreN h1 h2 hb (k - L)
    rw [show L + (k - L) = k by omega] at m
    exact step_le_len hb (figs_len_lt hb (by omega) (Nat.lt_of_lt_of_le (show n < b ^ (k - 1) by omega) (Nat.pow_le_pow_right (by omega) (by omega))))
theorem row_down {b p L n : Nat} (hb : 2 ≤ b) (h : IsLen (b : Int) (worth (b : Int) (p : Int)) L) (hw : (b - 1) ^ p ≤ 1024) (hn : n < 2 ^ 160) : ∀ i, itN b p n (i + 2) ≤ max (L - 1) (18 - i) * (b - 1) ^ p
  | 0 => by
    have f1 : (figs b n).length ≤ 160 := by
      rw [figs_len]
      exact lsd_len_le hb 159 n hn
    have s1 : itN b p n 1 ≤ 160 * (b - 1) ^ p := step_le_len hb f1
    have s2 : itN b p n 1 < 2 ^ 18 := by
      have := Nat.mul_le_mul_left 160 hw
      omega
    have f2 : (figs b (itN b p n 1)).length ≤ 18 := by
      rw [figs_len]
      exact lsd_len_le hb 17 _ s2
    show stepN b p (itN b p n 1) ≤ _
    exact Nat.le_trans (step_le_len hb f2) (Nat.mul_le_mul_right _ (by omega))
  | i + 1 => by
    have ih := row_down hb h hw hn i
    have := down_one hb h ih
    rw [show 18 - (i + 1) = 18 - i - 1 by omega]
    exact this
theorem row_late {b p L n i : Nat} (hb : 2 ≤ b) (h : IsLen (b : Int) (worth (b : Int) (p : Int)) L) (hw : (b - 1) ^ p ≤ 1024) (hn : n < 2 ^ 160) (hi : 20 ≤ i) : itN b p n i ≤ (L - 1) * (b - 1) ^ p := by
  have := row_down hb h hw hn (i - 2)
  rw [show i - 2 + 2 = i by omega, show max (L - 1) (18 - (i - 2)) = L - 1 by omega] at this
  exact this
theorem rowN_get (b p n : Nat) : ∀ m i, i < m → (rowN b p n m)[i]? = some (itN b p n i)
  | 0, _, h => by omega
  | m + 1, i, h => by
    rw [rowN]
    by_cases e : i = m
    · subst e
      rw [List.getElem?_append_right (by rw [rowN_len]; exact Nat.le_refl _), rowN_len, Nat.sub_self]
      rfl
    · rw [List.getElem?_append_left (by rw [rowN_len]; omega)]
      exact rowN_get b p n m i (by omega)
theorem kept_lt {b p L G : Nat} (hb : 2 ≤ b) (h : IsLen (b : Int) (worth (b : Int) (p : Int)) L) (g : IsKept b p G) : G < b ^ (L - 1) := by
  refine Nat.lt_of_not_le fun z => ?_
  have := goes_down hb h z
  have := g.kept
  omega
end Fx

namespace Fx
open PySem PySem.Spec PyProof.Rows L2
/-- a pair's numbers as naturals -/
theorem OkPair.nat {b p : Int} (h : OkPair b p) : ∃ b' p' : Nat, b = (b' : Int) ∧ p = (p' : Int) ∧ 2 ≤ b' ∧ b' ≤ 16 ∧ 1 ≤ p' ∧ p' ≤ 10 := by
  obtain ⟨h1, h2, h3, h4⟩ := id h
  have h5 := h.le10
  exact ⟨b.toNat, p.toNat, by omega, by omega, by omega, by omega, by omega, by omega⟩
/-- a number with a pair and how many are asked -/
def QuadAt (H : Hp) (v : V) : Prop := ∃ (a : Addr) (n b p m : Nat), v = .ref a ∧ H a = some (.tup [.int (n : Int), .int (b : Int), .int (p : Int), .int (m : Int)]) ∧ 2 ≤ b ∧ b ≤ 16 ∧ p ≤ 10 ∧ n < 16 ^ 40 ∧ m ≤ 60
theorem QuadAt.mono {H H' : Hp} {v : V} (h : QuadAt H v) (k : ∀ a xs, H a = some (.tup xs) → H' a = some (.tup xs)) : QuadAt H' v := by
  obtain ⟨a, n, b, p, m, e1, e2, r⟩ := h
  exact ⟨a, n, b, p, m, e1, k _ _ e2, r⟩
theorem lt900 {n : Nat} (h : n < 16 ^ 40) : n < 2 ^ 900 := Nat.lt_of_lt_of_le h (by
  have e : (16 : Nat) ^ 40 = 2 ^ 160 := by decide
  rw [e]
  exact Nat.pow_le_pow_right (by decide) (by decide))
end Fx

namespace Fx
/-! ### where numbers end -/
theorem nodup_len : ∀ (M : Nat) (l : List Nat), l.Nodup → (∀ x ∈ l, x < M) → l.length ≤ M
  | 0, l, _, h => by
    cases l with
    | nil => exact Nat.le_refl _
    | cons a r => exact absurd (h a (List.mem_cons_self ..)) (Nat.not_lt_zero _)
  | M + 1, l, nd, h => by
    have e := nodup_len M (l.erase M) (nd.erase M) fun x hx => by
      have hx' := (List.Nodup.mem_erase_iff nd).mp hx
      have := h x hx'.2
      omega
    rw [List.length_erase] at e
    split at e <;> omega
theorem itN_zero (b p n : Nat) : itN b p n 0 = n := rfl
theorem itN_succ (b p n k : Nat) : itN b p n (k + 1) = stepN b p (itN b p n k) := rfl
theorem itN_add (b p n j : Nat) : ∀ k, itN b p n (j + k) = itN b p (itN b p n j) k
  | 0 => rfl
  | k + 1 => by
    rw [← Nat.add_assoc, itN_succ, itN_succ, itN_add b p n j k]
theorem itN_first (b p n k : Nat) : itN b p n (k + 1) = itN b p (stepN b p n) k := by
  rw [Nat.add_comm, itN_add]
  rfl
/-- it stands in a round -/
def Per (b p x : Nat) : Prop := ∃ k, 0 < k ∧ itN b p x k = x
theorem Per.it {b p x : Nat} (h : Per b p x) (j : Nat) : Per b p (itN b p x j) := by
  obtain ⟨k, k0, e⟩ := h
  refine ⟨k, k0, ?_⟩
  rw [← itN_add, Nat.add_comm, itN_add, e]
theorem Per.mul {b p x k : Nat} (e : itN b p x k = x) : ∀ m, itN b p x (m * k) = x
  | 0 => by rw [Nat.zero_mul]; rfl
  | m + 1 => by rw [Nat.succ_mul, itN_add, Per.mul e m, e]
/-- from a number of a round on, each later one leads back -/
theorem Per.back {b p x : Nat} (h : Per b p x) (j : Nat) : ∃ i, itN b p (itN b p x j) i = x := by
  obtain ⟨k, k0, e⟩ := h
  refine ⟨j * k - j, ?_⟩
  have : j ≤ j * k := Nat.le_mul_of_pos_right j k0
  rw [← itN_add, show j + (j * k - j) = j * k by omega]
  exact Per.mul e j
/-- a steps away from the round of the least number m -/
structure EndAt (b p n a m : Nat) : Prop where
  per : Per b p (itN b p n a)
  first : ∀ j, j < a → ¬ Per b p (itN b p n j)
  on : ∃ i, a ≤ i ∧ itN b p n i = m
  least : ∀ i, a ≤ i → m ≤ itN b p n i
theorem EndAt.uniq {b p n a m a' m' : Nat} (h : EndAt b p n a m) (g : EndAt b p n a' m') : a = a' ∧ m = m' := by
  have ea : a = a' := by
    rcases Nat.lt_trichotomy a a' with l | l | l
    · exact absurd h.per (g.first a l)
    · exact l
    · exact absurd g.per (h.first a' l)
  subst ea
  obtain ⟨i, hi, rfl⟩ := h.on
  obtain ⟨j, hj, rfl⟩ := g.on
  exact ⟨rfl, Nat.le_antisymm (h.least j hj) (g.least i hi)⟩
/-- the first number that stands twice -/
theorem EndAt.of_row {b p n A L : Nat} (hA : A < L) (e : itN b p n L = itN b p n A) (nd : ∀ i j, i < L → j < L → itN b p n i = itN b p n j → i = j) {m : Nat}
    (on : ∃ i, A ≤ i ∧ i < L ∧ itN b p n i = m) (le : ∀ i, A ≤ i → i < L → m ≤ itN b p n i) : EndAt b p n A m := by
  have round : ∀ i, A ≤ i → ∃ j, A ≤ j ∧ j < L ∧ itN b p n i = itN b p n j := fun i => by
    induction i with
    | zero => intro h; exact ⟨0, h, by omega, rfl⟩
    | succ i ih =>
      intro h
      by_cases c : A ≤ i
      · obtain ⟨j, j1, j2, ej⟩ := ih c
        by_cases d : j + 1 < L
        · exact ⟨j + 1, by omega, d, by rw [itN_succ, itN_succ, ej]⟩
        · have : j + 1 = L := by omega
          refine ⟨A, Nat.le_refl _, hA, ?_⟩
          rw [itN_succ, ej, ← itN_succ, this, e]
      · have : i + 1 = A := by omega
        exact ⟨A, Nat.le_refl _, hA, by rw [this]⟩
  refine ⟨⟨L - A, by omega, ?_⟩, fun j hj => ?_, ?_, fun i hi => ?_⟩
  · rw [← itN_add, show A + (L - A) = L by omega, e]
  · rintro ⟨k, k0, ek⟩
    have z := Per.mul ek A
    rw [← itN_add] at z
    have : A ≤ A * k := Nat.le_mul_of_pos_right A k0
    obtain ⟨i, i1, i2, ei⟩ := round (j + A * k) (by omega)
    have := nd j i (by omega) i2 (by rw [← z, ei])
    omega
  · obtain ⟨i, i1, i2, ei⟩ := on
    exact ⟨i, i1, ei⟩
  · obtain ⟨j, j1, j2, ej⟩ := round i hi
    rw [ej]
    exact le j j1 j2
theorem EndAt.step {b p n a m : Nat} (h : EndAt b p n (a + 1) m) : EndAt b p (stepN b p n) a m := by
  refine ⟨by rw [← itN_first]; exact h.per, fun j hj => by rw [← itN_first]; exact h.first (j + 1) (by omega), ?_, fun i hi => by rw [← itN_first]; exact h.least (i + 1) (by omega)⟩
  obtain ⟨i, i1, i2⟩ := h.on
  obtain ⟨i', rfl⟩ : ∃ i', i = i' + 1 := ⟨i - 1, by omega⟩
  exact ⟨i', by omega, by rw [← itN_first]; exact i2⟩
theorem EndAt.succ {b p n a m : Nat} (h : EndAt b p (stepN b p n) a m) (np : ¬ Per b p n) : EndAt b p n (a + 1) m := by
  refine ⟨by rw [itN_first]; exact h.per, fun j hj => ?_, ?_, fun i hi => ?_⟩
  · cases j with
    | zero => exact np
    | succ j => rw [itN_first]; exact h.first j (by omega)
  · obtain ⟨i, i1, i2⟩ := h.on
    exact ⟨i + 1, by omega, by rw [itN_first]; exact i2⟩
  · obtain ⟨i', rfl⟩ : ∃ i', i = i' + 1 := ⟨i - 1, by omega⟩
    rw [itN_first]
    exact h.least i' (by omega)
/-- in the round: each number of it ends in it, away no step -/
theorem EndAt.round {b p n m : Nat} (h : EndAt b p n 0 m) (j : Nat) : EndAt b p (itN b p n j) 0 m := by
  refine ⟨h.per.it j, fun i hi => by omega, ?_, fun i _ => ?_⟩
  · obtain ⟨i, _, e⟩ := h.on
    obtain ⟨k, ek⟩ := h.per.back j
    have ek' : itN b p (itN b p n j) k = n := ek
    exact ⟨k + i, Nat.zero_le _, by rw [itN_add, ek']; exact e⟩
  · rw [← itN_add]
    exact h.least _ (Nat.zero_le _)
theorem EndAt.later {b p n a m : Nat} (h : EndAt b p n a m) : ∀ j, EndAt b p (itN b p n j) (a - j) m
  | 0 => h
  | j + 1 => by
    have i := EndAt.later h j
    rw [itN_succ]
    by_cases c : a - j = 0
    · rw [c] at i
      have := i.round 1
      rw [show a - (j + 1) = 0 by omega]
      exact this
    · rw [show a - j = (a - (j + 1)) + 1 by omega] at i
      exact i.step
theorem EndAt.self {b p n a m : Nat} (h : EndAt b p n a m) : EndAt b p m 0 m := by
  obtain ⟨i, hi, e⟩ := h.on
  have := h.later i
  rw [e, show a - i = 0 by omega] at this
  exact this
/-- the least number is that of the step -/
theorem EndAt.least_step {b p n a m a' m' : Nat} (h : EndAt b p n a m) (g : EndAt b p (stepN b p n) a' m') : m = m' ∧ a' = a - 1 := by
  have := h.later 1
  have := this.uniq g
  exact ⟨this.2, this.1.symm⟩
theorem per_iff {b p n a m : Nat} (h : EndAt b p n a m) : Per b p n ↔ a = 0 := by
  constructor
  · intro z
    refine Nat.le_antisymm (Nat.le_of_not_lt fun c => h.first 0 c z) (Nat.zero_le _)
  · rintro rfl
    exact h.per
/-! ### each number ends -/
/-- a number beyond which no row goes far -/
structure Near (b p n : Nat) : Prop where
  hb : 2 ≤ b
  lt : ∀ i, 20 ≤ i → itN b p n i ≤ 15000
theorem Near.rep {b p n : Nat} (h : Near b p n) {L : Nat} (nd : ∀ i j, i < L → j < L → itN b p n i = itN b p n j → i = j) : L ≤ 15030 := by
  refine Nat.le_of_not_lt fun z => ?_
  have l := nodup_len 15001 ((List.range (L - 20)).map fun i => itN b p n (20 + i)) ?_ ?_
  · rw [List.length_map, List.length_range] at l
    omega
  · refine List.pairwise_map.mpr (List.Pairwise.imp_of_mem ?_ (List.nodup_range (n := L - 20)))
    intro x y hx hy ne e
    have := List.mem_range.mp hx
    have := List.mem_range.mp hy
    have := nd _ _ (by omega) (by omega) e
    omega
  · intro x hx
    obtain ⟨i, hi, rfl⟩ := List.mem_map.mp hx
    have := h.lt (20 + i) (by omega)
    omega
theorem exists_end {b p n : Nat} (h : Near b p n) : ∃ a m, EndAt b p n a m := by
  -- the first number that stood ahead
  have go : ∀ k L : Nat, 15031 - L = k → (∀ i j, i < L → j < L → itN b p n i = itN b p n j → i = j) → ∃ A L, A < L ∧ itN b p n L = itN b p n A ∧ ∀ i j, i < L → j < L → itN b p n i = itN b p n j → i = j := by
    intro k
    induction k with
    | zero =>
      intro L hL nd
      have := h.rep nd
      omega
    | succ k ih =>
      intro L hL nd
      by_cases c : ∃ A, A < L ∧ itN b p n L = itN b p n A
      · obtain ⟨A, a1, a2⟩ := c
        exact ⟨A, L, a1, a2, nd⟩
      · refine ih (L + 1) (by omega) fun i j hi hj e => ?_
        by_cases ci : i = L
        · by_cases cj : j = L
          · omega
          · subst ci
            exact absurd ⟨j, by omega, e⟩ c
        · by_cases cj : j = L
          · subst cj
            exact absurd ⟨i, by omega, e.symm⟩ c
          · exact nd i j (by omega) (by omega) e
  obtain ⟨A, L, hA, e, nd⟩ := go _ 0 rfl fun i j hi => by omega
  -- the least one of these
  have mn : ∀ k, A + k < L → ∃ m, (∃ i, A ≤ i ∧ i ≤ A + k ∧ itN b p n i = m) ∧ ∀ i, A ≤ i → i ≤ A + k → m ≤ itN b p n i := by
    intro k
    induction k with
    | zero =>
      intro _
      exact ⟨_, ⟨A, Nat.le_refl _, by omega, rfl⟩, fun i h1 h2 => by
        have : i = A := by omega
        subst this
        exact Nat.le_refl _⟩
    | succ k ih =>
      intro hk
      obtain ⟨m, ⟨i, i1, i2, i3⟩, lm⟩ := ih (by omega)
      by_cases c : itN b p n (A + (k + 1)) < m
      · refine ⟨_, ⟨A + (k + 1), by omega, Nat.le_refl _, rfl⟩, fun j h1 h2 => ?_⟩
        by_cases d : j = A + (k + 1)
        · subst d
          exact Nat.le_refl _
        · have := lm j h1 (by omega)
          omega
      · refine ⟨m, ⟨i, i1, by omega, i3⟩, fun j h1 h2 => ?_⟩
        by_cases d : j = A + (k + 1)
        · subst d
          omega
        · exact lm j h1 (by omega)
  obtain ⟨m, ⟨i, i1, i2, i3⟩, lm⟩ := mn (L - 1 - A) (by omega)
  exact ⟨A, m, .of_row hA e nd ⟨i, i1, by omega, i3⟩ fun j j1 j2 => lm j j1 (by omega)⟩
/-! ### pairs -/
structure OkN (b p : Nat) : Prop where
  ok : OkPair (b : Int) (p : Int)
theorem OkN.hb {b p : Nat} (h : OkN b p) : 2 ≤ b := by have := h.ok.1; omega
theorem OkN.hb16 {b p : Nat} (h : OkN b p) : b ≤ 16 := by have := h.ok.2.1; omega
theorem OkN.hp1 {b p : Nat} (h : OkN b p) : 1 ≤ p := by have := h.ok.2.2.1; omega
theorem OkN.hp {b p : Nat} (h : OkN b p) : p ≤ 10 := by have := h.ok.le10; omega
theorem OkN.worth {b p : Nat} (h : OkN b p) : 1 ≤ (b - 1) ^ p ∧ (b - 1) ^ p ≤ 1024 := by
  have h1 := h.ok.worth
  have h2 := h.hb
  rw [worth_nat b p (by omega)] at h1
  omega
theorem row_down2 {b p L n : Nat} (hb : 2 ≤ b) (h : IsLen (b : Int) (Fx.worth (b : Int) (p : Int)) L) (hw : (b - 1) ^ p ≤ 1024) (hn : n < 2 ^ 200) : ∀ i, itN b p n (i + 2) ≤ max (L - 1) (18 - i) * (b - 1) ^ p
  | 0 => by
    have f1 : (figs b n).length ≤ 200 := by
      rw [figs_len]
      exact lsd_len_le hb 199 n hn
    have s1 : itN b p n 1 ≤ 200 * (b - 1) ^ p := step_le_len hb f1
    have s2 : itN b p n 1 < 2 ^ 18 := by
      have := Nat.mul_le_mul_left 200 hw
      omega
    have f2 : (figs b (itN b p n 1)).length ≤ 18 := by
      rw [figs_len]
      exact lsd_len_le hb 17 _ s2
    show stepN b p (itN b p n 1) ≤ _
    exact Nat.le_trans (step_le_len hb f2) (Nat.mul_le_mul_right _ (by omega))
  | i + 1 => by
    have ih := row_down2 hb h hw hn i
    have := down_one hb h ih
    rw [show 18 - (i + 1) = 18 - i - 1 by omega]
    exact this
theorem near_of {b p n : Nat} (h : OkN b p) (hn : n < 2 ^ 200) : Near b p n := by
  have hw := h.worth
  obtain ⟨L, hL, l15⟩ := len_ex h.ok.1 (show Fx.worth (b : Int) (p : Int) ≤ 1024 by have := h.ok.worth; omega)
  refine ⟨h.hb, fun i hi => ?_⟩
  have := row_down2 h.hb hL hw.2 hn (i - 2)
  rw [show i - 2 + 2 = i by omega, show max (L - 1) (18 - (i - 2)) = L - 1 by omega] at this
  have := Nat.mul_le_mul (show L - 1 ≤ 14 by omega) hw.2
  omega
theorem lt200 {n : Nat} (h : n < 2 ^ 200) : n < 2 ^ 900 := Nat.lt_of_lt_of_le h (Nat.pow_le_pow_right (by decide) (by decide))
theorem itN_lt200 {b p n : Nat} (h : OkN b p) (hn : n < 2 ^ 200) : ∀ k, itN b p n k < 2 ^ 200
  | 0 => hn
  | k + 1 => by
    have := stepN_lt h.hb h.hb16 h.hp (lt200 (itN_lt200 h hn k))
    have e : itN b p n (k + 1) = stepN b p (itN b p n k) := rfl
    have u : (2 : Nat) ^ 50 ≤ 2 ^ 200 := Nat.pow_le_pow_right (by decide) (by decide)
    omega
/-- a way to the first number that stood ahead -/
structure Way (b p n A L : Nat) : Prop where
  lt : A < L
  back : itN b p n L = itN b p n A
  nd : ∀ i j, i < L → j < L → itN b p n i = itN b p n j → i = j
/-- a round from its least number on -/
structure Rnd (b p m k : Nat) : Prop where
  pos : 0 < k
  back : itN b p m k = m
  nd : ∀ i j, i < k → j < k → itN b p m i = itN b p m j → i = j
  least : ∀ i, m ≤ itN b p m i
theorem Way.end_of {b p n A L m : Nat} (w : Way b p n A L) (on : ∃ i, A ≤ i ∧ i < L ∧ itN b p n i = m) (le : ∀ i, A ≤ i → i < L → m ≤ itN b p n i) : EndAt b p n A m := .of_row w.lt w.back w.nd on le
theorem Way.turn {b p n A L : Nat} (w : Way b p n A L) (i : Nat) : itN b p n (L + i) = itN b p n (A + i) := by
  rw [itN_add, w.back, ← itN_add]
theorem Way.rnd {b p n A L i : Nat} (w : Way b p n A L) (h1 : A ≤ i) (h2 : i < L) (le : ∀ j, A ≤ j → j < L → itN b p n i ≤ itN b p n j) : Rnd b p (itN b p n i) (L - A) := by
  have e := w.end_of ⟨i, h1, h2, rfl⟩ le
  have lt := w.lt
  refine ⟨by omega, ?_, fun x y hx hy exy => ?_, fun j => ?_⟩
  · rw [← itN_add, show i + (L - A) = L + (i - A) by omega, w.turn, show A + (i - A) = i by omega]
  · rw [← itN_add, ← itN_add] at exy
    by_cases cx : i + x < L
    · by_cases cy : i + y < L
      · have := w.nd _ _ cx cy exy
        omega
      · rw [show i + y = L + (i + y - L) by omega, w.turn] at exy
        have := w.nd _ _ cx (by omega) exy
        omega
    · rw [show i + x = L + (i + x - L) by omega, w.turn] at exy
      by_cases cy : i + y < L
      · have := w.nd _ _ (by omega) cy exy
        omega
      · rw [show i + y = L + (i + y - L) by omega, w.turn] at exy
        have := w.nd _ _ (by omega) (by omega) exy
        omega
  · rw [← itN_add]
    exact e.least _ (by omega)
theorem Rnd.at0 {b p m k : Nat} (h : Rnd b p m k) : EndAt b p m 0 m := ⟨⟨k, h.pos, h.back⟩, fun j hj => by omega, ⟨0, Nat.le_refl _, rfl⟩, fun i _ => h.least i⟩
theorem Rnd.uniq {b p m k l : Nat} (h : Rnd b p m k) (g : Rnd b p m l) : k = l := by
  rcases Nat.lt_trichotomy k l with c | c | c
  · have := g.nd k 0 c g.pos (by rw [h.back]; rfl)
    have := h.pos
    omega
  · exact c
  · have := h.nd l 0 c h.pos (by rw [g.back]; rfl)
    have := g.pos
    omega
theorem Rnd.le {b p m k : Nat} (h : Rnd b p m k) (nr : Near b p m) : k ≤ 15030 := nr.rep h.nd
theorem rowN_eq (b p n : Nat) : ∀ m, rowN b p n m = (List.range m).map (itN b p n)
  | 0 => rfl
  | m + 1 => by
    rw [rowN, rowN_eq b p n m, List.range_succ, List.map_append]
    rfl
theorem rowN_drop {b p n A L : Nat} : (rowN b p n L).drop A = rowN b p (itN b p n A) (L - A) := by
  rw [rowN_eq, rowN_eq]
  refine List.ext_getElem? fun i => ?_
  rw [List.getElem?_drop, List.getElem?_map, List.getElem?_map]
  by_cases c : A + i < L
  · rw [List.getElem?_range c, List.getElem?_range (by omega)]
    show some (itN b p n (A + i)) = some (itN b p (itN b p n A) i)
    rw [itN_add]
  · rw [List.getElem?_eq_none (by rw [List.length_range]; omega), List.getElem?_eq_none (by rw [List.length_range]; omega)]
    rfl
theorem rowN_take {b p n i : Nat} {L : Nat} (h : i ≤ L) : (rowN b p n L).take i = rowN b p n i := by
  rw [rowN_eq, rowN_eq, ← List.map_take, List.take_range]
  rw [Nat.min_eq_left h]
theorem rowN_app {b p n i j : Nat} : rowN b p n i ++ rowN b p (itN b p n i) j = rowN b p n (i + j) := by
  rw [← rowN_take (L := i + j) (i := i) (by omega), show rowN b p (itN b p n i) j = (rowN b p n (i + j)).drop i by rw [rowN_drop]; congr 1; omega, List.take_append_drop]
theorem mem_rowN {b p n L x : Nat} : x ∈ rowN b p n L ↔ ∃ i, i < L ∧ itN b p n i = x := by
  rw [rowN_eq, List.mem_map]
  exact ⟨fun ⟨i, h, e⟩ => ⟨i, List.mem_range.mp h, e⟩, fun ⟨i, h, e⟩ => ⟨i, List.mem_range.mpr h, e⟩⟩
/-- from another number of a round on, gone round: the whole round -/
theorem Way.rot {b p n A L i : Nat} (w : Way b p n A L) (h1 : A ≤ i) (h2 : i < L) : ((rowN b p n L).drop A).drop (i - A) ++ ((rowN b p n L).drop A).take (i - A) = rowN b p (itN b p n i) (L - A) := by
  have lt := w.lt
  rw [rowN_drop, rowN_drop, rowN_take (by omega), ← itN_add, show A + (i - A) = i by omega]
  have e : itN b p n A = itN b p (itN b p n i) (L - A - (i - A)) := by
    rw [← itN_add, show i + (L - A - (i - A)) = L by omega, w.back]
  rw [e, rowN_app, show L - A - (i - A) + (i - A) = L - A by omega]
end Fx
namespace Fx
theorem itN_lt160 {b p n : Nat} (h : OkN b p) (hn : n < 16 ^ 40) : ∀ k, itN b p n k < 16 ^ 40
  | 0 => hn
  | k + 1 => by
    have u1 : (16 : Nat) ^ 40 < 2 ^ 200 := by decide
    have u2 : (2 : Nat) ^ 50 < 16 ^ 40 := by decide
    have ih := itN_lt160 h hn k
    have := stepN_lt h.hb h.hb16 h.hp (lt200 (show itN b p n k < 2 ^ 200 by omega))
    have e : itN b p n (k + 1) = stepN b p (itN b p n k) := rfl
    omega
end Fx

namespace Fx
open PySem PySem.Spec PyProof.Rows L2
/-! ### a dict by places -/
def kvsOf (f : Nat → Int) (g : Nat → V) (L : Nat) : List (Key × V) := (List.range L).map fun i => (Sum.inl (f i), g i)
theorem kvsOf_len (f : Nat → Int) (g : Nat → V) (L : Nat) : (kvsOf f g L).length = L := by
  unfold kvsOf
  rw [List.length_map, List.length_range]
theorem kvsOf_succ (f : Nat → Int) (g : Nat → V) (L : Nat) : kvsOf f g (L + 1) = kvsOf f g L ++ [(Sum.inl (f L), g L)] := by
  unfold kvsOf
  rw [List.range_succ, List.map_append]
  rfl
theorem kvsOf_none {f : Nat → Int} {g : Nat → V} {k : Int} {L : Nat} (h : ∀ i, i < L → f i ≠ k) : valV (kvsOf f g L) (Sum.inl k : Key) = none := by
  unfold valV kvsOf
  rw [List.find?_eq_none.mpr]
  · rfl
  · intro x hx
    obtain ⟨i, hi, rfl⟩ := List.mem_map.mp hx
    rw [decide_eq_true_iff]
    intro e
    exact h i (List.mem_range.mp hi) (Sum.inl.inj e)
theorem kvsOf_some {f : Nat → Int} {g : Nat → V} : ∀ {L i : Nat}, (∀ i j, i < L → j < L → f i = f j → i = j) → i < L → valV (kvsOf f g L) (Sum.inl (f i) : Key) = some (g i)
  | 0, i, _, h => by omega
  | L + 1, i, nd, h => by
    rw [kvsOf_succ, valV_snoc _ _ _ _ (kvsOf_none fun j hj e => by
      have := nd j L (by omega) (by omega) e
      omega)]
    by_cases c : i = L
    · subst c
      rw [if_pos rfl]
    · rw [if_neg (fun e => c (nd i L h (by omega) (Sum.inl.inj e))), kvsOf_some (fun a b ha hb => nd a b (by omega) (by omega)) (by omega)]
theorem kvsOf_put {f : Nat → Int} {g : Nat → V} {L : Nat} (h : ∀ i, i < L → f i ≠ f L) : putK (kvsOf f g L) (Sum.inl (f L) : Key) (g L) = kvsOf f g (L + 1) := by
  rw [putK_new _ (kvsOf_none h), kvsOf_succ]
theorem kvsOf_keys (f : Nat → Int) (g : Nat → V) (L : Nat) : ((kvsOf f g L).map fun kv => kV kv.1) = (List.range L).map fun i => V.int (f i) := by
  unfold kvsOf
  rw [List.map_map]
  rfl
/-! ### numbers in lists -/
theorem inV_ivs (n : Nat) (l : List Nat) : inV (.int (n : Int)) (ivs l) = decide (n ∈ l) := by
  unfold inV ivs
  rw [List.any_map]
  by_cases c : n ∈ l
  · rw [decide_eq_true c, List.any_eq_true]
    refine ⟨n, c, ?_⟩
    show ((n : Int) == (n : Int)) = true
    exact beq_self_eq_true _
  · rw [decide_eq_false c, List.any_eq_false]
    intro x hx e
    have e' : ((x : Int) == (n : Int)) = true := e
    have := eq_of_beq e'
    have : x = n := by omega
    exact c (this ▸ hx)
theorem flat_ivs (l : List Nat) : (ivs l).all flatV = true := by
  unfold ivs
  rw [List.all_map, List.all_eq_true]
  intro x _
  rfl
theorem eqV_int (a b : Nat) : eqV (.int (a : Int)) (.int (b : Int)) = decide (a = b) := by
  show ((a : Int) == (b : Int)) = _
  by_cases c : a = b
  · subst c
    rw [decide_eq_true rfl]
    exact beq_self_eq_true _
  · rw [decide_eq_false c]
    exact beq_eq_false_iff_ne.mpr (by omega)
theorem dget {H : Hp} {a : Addr} {kvs : List (Key × V)} {k : Key} {r : Option V} (e : H a = some (.dK kvs)) (v : valV kvs k = r) : DGet H a (kV k) r := by
  subst v
  exact .k e
theorem small_len {n : Nat} (h : n ≤ 16000000) : n < sizeLine := Nat.lt_of_le_of_lt h (by decide)
end Fx

namespace Fx
open PySem PySem.Spec PyProof.Rows L2
/-! ### the laws' draws from a seed -/
def Seed (H : Hp) (d : Addr) : Prop := ∃ a f t r : Int, H d = some (.lst [.int a, .int f, .int t, .int r])
theorem Seed.same {H H' : Hp} {d : Addr} (h : Seed H d) (s : Same H H') : Seed H' d := by
  obtain ⟨a, f, t, r, e⟩ := h
  exact ⟨a, f, t, r, s _ _ e⟩
theorem Seed.off {H : Hp} {d p : Addr} {o : HO} (h : Seed H d) (n : p ≠ d) : Seed (upd H p o) d := by
  obtain ⟨a, f, t, r, e⟩ := h
  exact ⟨a, f, t, r, by rw [upd_ne (Ne.symm n)]; exact e⟩
theorem Seed.there {H : Hp} {d : Addr} (h : Seed H d) : ∃ o, H d = some o := by
  obtain ⟨a, f, t, r, e⟩ := h
  exact ⟨_, e⟩
theorem Seed.out {H : Hp} {d p : Addr} (h : Seed H d) (hp : H p = none) : p ≠ d := by
  obtain ⟨o, e⟩ := h.there
  exact (ne_of_none e hp).symm
theorem Seed.tup {H H' : Hp} {d t : Addr} {xs : List V} (h : Seed H d) (b : But d H H') (e : H t = some (.tup xs)) : H' t = some (.tup xs) := by
  obtain ⟨_, _, _, _, q⟩ := h
  exact b t _ (ne_of e q (fun z => by cases z)) e
/-- what each figure is worth -/
def wts (b p : Nat) : List Nat := (List.range b).map (· ^ p)
theorem wts_len (b p : Nat) : (wts b p).length = b := by
  unfold wts
  rw [List.length_map, List.length_range]
theorem wts_get {b p i : Nat} (h : i < b) : (wts b p)[i]? = some (i ^ p) := by
  unfold wts
  rw [List.getElem?_map, List.getElem?_range h]
  rfl
/-- base, power, and what figures are worth -/
def PairW (H : Hp) (d t : Addr) (b p : Nat) : Prop := ∃ w, H t = some (.tup [.int (b : Int), .int (p : Int), .ref w]) ∧ H w = some (.lst (ivs (wts b p))) ∧ w ≠ d ∧ t ≠ d ∧ OkN b p
theorem PairW.but {H H' : Hp} {d t : Addr} {b p : Nat} (h : PairW H d t b p) (s : But d H H') : PairW H' d t b p := by
  obtain ⟨w, e1, e2, n1, n2, ok⟩ := h
  exact ⟨w, s _ _ n2 e1, s _ _ n1 e2, n1, n2, ok⟩
theorem PairW.same {H H' : Hp} {d t : Addr} {b p : Nat} (h : PairW H d t b p) (s : Same H H') : PairW H' d t b p := h.but (.of s)
theorem PairW.ok {H : Hp} {d t : Addr} {b p : Nat} (h : PairW H d t b p) : OkN b p := by
  obtain ⟨w, e1, e2, n1, n2, ok⟩ := h
  exact ok
theorem cut_ivs_to (l : List Nat) (i : Nat) : cutV (ivs l) none (some (i : Int)) = ivs (l.take i) := by
  rw [cut_to]
  unfold ivs
  rw [List.map_take]
theorem cut_ivs_from (l : List Nat) (i : Nat) : cutV (ivs l) (some (i : Int)) none = ivs (l.drop i) := by
  rw [cut_from]
  unfold ivs
  rw [List.map_drop]
/-- the powers that a base lets -/
def mostN (b : Nat) : Nat := (mostOf (b : Int)).toNat
def upTo (m : Nat) : List Nat := (List.range m).map (· + 1)
theorem upTo_len (m : Nat) : (upTo m).length = m := by
  unfold upTo
  rw [List.length_map, List.length_range]
theorem upTo_get {m i : Nat} (h : i < m) : (upTo m)[i]? = some (i + 1) := by
  unfold upTo
  rw [List.getElem?_map, List.getElem?_range h]
  rfl
theorem upTo_succ (m : Nat) : upTo (m + 1) = upTo m ++ [m + 1] := by
  unfold upTo
  rw [List.range_succ, List.map_append]
  rfl
theorem most_iff {b k : Nat} (h1 : 2 ≤ b) (h2 : b ≤ 16) (k1 : 1 ≤ k) (k2 : k ≤ 10) : (b - 1) ^ k ≤ 1000 ↔ k ≤ mostN b := by
  have a : ∀ i ∈ List.range 15, ∀ j ∈ List.range 10, ((i + 2 - 1) ^ (j + 1) ≤ 1000 ↔ j + 1 ≤ mostN (i + 2)) := by decide +kernel
  have := a (b - 2) (List.mem_range.mpr (by omega)) (k - 1) (List.mem_range.mpr (by omega))
  rwa [show b - 2 + 2 = b by omega, show k - 1 + 1 = k by omega] at this
theorem mostN_pos {b : Nat} (h1 : 2 ≤ b) (h2 : b ≤ 16) : 1 ≤ mostN b ∧ mostN b ≤ 10 := by
  have := most_pos (b := (b : Int)) (by omega) (by omega)
  unfold mostN
  omega
theorem okN_of {b p : Nat} (h1 : 2 ≤ b) (h2 : b ≤ 16) (h3 : 1 ≤ p) (h4 : p ≤ mostN b) : OkN b p := by
  have := most_pos (b := (b : Int)) (by omega) (by omega)
  unfold mostN at h4
  exact ⟨by omega, by omega, by omega, by omega⟩
end Fx

namespace Fx
open PySem PySem.Spec PyProof.Rows L2
/-! ### a < b of data; a walk over a list or a tuple -/
def rLtD (K : PySem.W.Frag) : R2 := fun x y H Q => ∃ d e, Dp K H x d ∧ Dp K H y e ∧ PySem.W.alike d e = true ∧ d ≠ .none ∧ d.depth ≤ 60 ∧ Q (.bl (PySem.W.dataLt d e)) H
theorem op_ltD {X : Cx} (hu : X.A.units + 64 < cLine) : OpR X (compareOp .Lt) (rLtD X.K) := by
  intro pins s σ H x y v u Q I rx ry h
  obtain ⟨d, e, hd, he, al, nn, dp, q⟩ := h
  obtain ⟨as, r1⟩ := Dp.reads I d x v hd rx
  obtain ⟨bs, r2⟩ := Dp.reads I e y u he ry
  have hm : min d.depth e.depth ≤ d.depth := Nat.min_le_left _ _
  exact PySem.W.lt_data r1 r2 al nn (by omega) ⟨.bl _, H, I, rfl, q⟩
theorem pi_or {X : Cx} {tg e : Expr} {w1 w2 : TI} (h1 : PI X tg e w1) (h2 : PI X tg e w2) : PI X tg e (fun σ H R => w1 σ H R ∨ w2 σ H R) :=
  ⟨fun pins s σ H R I h => h.elim (h1.run pins s σ H R I) (h2.run pins s σ H R I)⟩
/-! ### lists without one place -/
theorem ixN_of {n j : Nat} (h : j < n) : ixN n (j : Int) = some j := by
  unfold ixN
  rw [if_pos (by omega), if_pos (by omega)]
  simp
theorem seq_of {n j : Nat} (h : j < n) : seqIndex? (j : Int) n = some j := (ixN_seq (ixN_of h)).1
theorem erase_sum : ∀ {l : List Nat} {k : Nat} {d : Nat} (f : Nat → Nat), l[k]? = some d → ((l.eraseIdx k).map f).sum + f d = (l.map f).sum
  | [], _, _, _, h => by simp at h
  | a :: r, 0, d, f, h => by
    cases Option.some.inj h
    show (r.map f).sum + f a = (f a :: r.map f).sum
    rw [List.sum_cons]
    omega
  | a :: r, k + 1, d, f, h => by
    have ih := erase_sum (l := r) (k := k) (d := d) f h
    show ((f a) :: (r.eraseIdx k).map f).sum + f d = (f a :: r.map f).sum
    rw [List.sum_cons, List.sum_cons]
    omega
theorem ivs_erase : ∀ (l : List Nat) (k : Nat), (ivs l).eraseIdx k = ivs (l.eraseIdx k)
  | [], _ => rfl
  | _ :: _, 0 => rfl
  | a :: r, k + 1 => by
    show V.int (a : Int) :: (ivs r).eraseIdx k = V.int (a : Int) :: ivs (r.eraseIdx k)
    rw [ivs_erase r k]
/-! ### steps of what figures are worth -/
theorem step_val {b p : Nat} (hb : 2 ≤ b) (hp : 1 ≤ p) (ds : List Nat) (h : ∀ d ∈ ds, d < b) : stepN b p (val b ds) = (ds.map (· ^ p)).sum := by
  have go : ∀ (ds : List Nat) (a : Nat), (∀ d ∈ ds, d < b) → stepN b p (ds.foldl (fun a d => a * b + d) a) = stepN b p a + (ds.map (· ^ p)).sum := by
    intro ds
    induction ds with
    | nil => intro a _; rfl
    | cons d r ih =>
      intro a h
      show stepN b p (r.foldl (fun a d => a * b + d) (a * b + d)) = _
      rw [ih (a * b + d) (fun e he => h e (List.mem_cons_of_mem _ he)), stepN_push hb hp (h d (List.mem_cons_self ..)), List.map_cons, List.sum_cons]
      omega
  have := go ds 0 h
  rw [stepN_zero hb hp, Nat.zero_add] at this
  exact this
theorem val_lt900 {b : Nat} (hb : 2 ≤ b) (hb16 : b ≤ 16) {ds : List Nat} (h : ∀ d ∈ ds, d < b) (hl : ds.length ≤ 200) : val b ds < 2 ^ 900 := by
  have h1 := val_lt hb ds h
  have h2 : b ^ ds.length ≤ b ^ 200 := Nat.pow_le_pow_right (by omega) hl
  have h3 : b ^ 200 ≤ 16 ^ 200 := Nat.pow_le_pow_left hb16 200
  have h4 : (16 : Nat) ^ 200 = 2 ^ 800 := by
    rw [show (16 : Nat) = 2 ^ 4 by decide, ← Nat.pow_mul]
  have h5 : (2 : Nat) ^ 800 ≤ 2 ^ 900 := Nat.pow_le_pow_right (by decide) (by decide)
  omega
theorem val_append {b : Nat} (ds es : List Nat) : val b (ds ++ es) = val b ds * b ^ es.length + val b es := by
  have go : ∀ (es : List Nat) (a : Nat), es.foldl (fun a d => a * b + d) a = a * b ^ es.length + val b es := by
    intro es
    induction es with
    | nil =>
      intro a
      show a = a * b ^ 0 + 0
      rw [Nat.pow_zero]
      omega
    | cons d r ih =>
      intro a
      show r.foldl (fun a d => a * b + d) (a * b + d) = _
      rw [ih (a * b + d)]
      have e : val b (d :: r) = d * b ^ r.length + val b r := by
        show r.foldl (fun a d => a * b + d) (0 * b + d) = _
        rw [ih (0 * b + d), Nat.zero_mul, Nat.zero_add]
      rw [e, List.length_cons, Nat.pow_succ, Nat.add_mul, Nat.mul_assoc, Nat.mul_comm b]
      omega
  unfold val
  rw [List.foldl_append]
  exact go es _
theorem val_cons {b d : Nat} (r : List Nat) : val b (d :: r) = d * b ^ r.length + val b r := by
  have := val_append (b := b) [d] r
  rw [show val b [d] = d by show 0 * b + d = d; omega] at this
  exact this
/-! ### the order of texts is that of numbers -/
theorem sg_lt {d e : Nat} (h : d < 16) (h' : e < 16) : sg d < sg e ↔ d < e := by
  have a : ∀ d ∈ List.range 16, ∀ e ∈ List.range 16, (sg d < sg e ↔ d < e) := by decide +kernel
  exact a d (List.mem_range.mpr h) e (List.mem_range.mpr h')
theorem lex_val {b : Nat} (hb : 2 ≤ b) (hb16 : b ≤ 16) : ∀ ds es : List Nat, ds.length = es.length → (∀ d ∈ ds, d < b) → (∀ d ∈ es, d < b) → (ds.map sg < es.map sg ↔ val b ds < val b es)
  | [], [], _, _, _ => by
    constructor
    · intro h; exact absurd h (List.not_lt_nil _)
    · intro h; exact absurd h (Nat.lt_irrefl _)
  | [], _ :: _, h, _, _ => by simp at h
  | _ :: _, [], h, _, _ => by simp at h
  | d :: ds, e :: es, hl, h1, h2 => by
    have hl' : ds.length = es.length := by simpa using hl
    have hd := h1 d (List.mem_cons_self ..)
    have he := h2 e (List.mem_cons_self ..)
    have i1 : ∀ x ∈ ds, x < b := fun x hx => h1 x (List.mem_cons_of_mem _ hx)
    have i2 : ∀ x ∈ es, x < b := fun x hx => h2 x (List.mem_cons_of_mem _ hx)
    have ih := lex_val hb hb16 ds es hl' i1 i2
    have v1 := val_lt hb ds i1
    have v2 := val_lt hb es i2
    rw [List.map_cons, List.map_cons, List.cons_lt_cons_iff, ih, sg_lt (by omega) (by omega), val_cons, val_cons, hl']
    rw [hl'] at v1
    constructor
    · rintro (h | ⟨h, g⟩)
      · have := Nat.mul_le_mul_right (b ^ es.length) (show d + 1 ≤ e from h)
        rw [Nat.succ_mul] at this
        omega
      · have := sg_inj (by omega) (by omega) h
        subst this
        omega
    · intro h
      by_cases c : d < e
      · exact .inl c
      · right
        have de : d = e := by
          refine Nat.le_antisymm (Nat.le_of_not_lt fun z => ?_) (by omega)
          have := Nat.mul_le_mul_right (b ^ es.length) (show e + 1 ≤ d from z)
          rw [Nat.succ_mul] at this
          omega
        subst de
        exact ⟨rfl, by omega⟩
theorem len_lt_num {b n m : Nat} (hb : 2 ≤ b) (h : (figs b n).length < (figs b m).length) : n < m := by
  have l0 : 0 < (figs b n).length := List.length_pos_iff.mpr figs_ne
  have h1 := val_lt hb (figs b n) fun d hd => figs_below hb hd
  rw [val_figs hb] at h1
  have m0 : 0 < m := by
    refine Nat.pos_of_ne_zero fun z => ?_
    subst z
    rw [figs_len b 0, lsd_lt (by omega)] at h
    have : [0].length = 1 := rfl
    omega
  have h2 := len_pow hb m m0
  have := Nat.pow_le_pow_right (show 0 < b by omega) (show (figs b n).length ≤ (figs b m).length - 1 by omega)
  omega
theorem txt_inj {b n m : Nat} (hb : 2 ≤ b) (hb16 : b ≤ 16) (h : txt (figs b n) = txt (figs b m)) : n = m := by
  have e := congrArg (fun x : Str => x.cps.toList) h
  have e' : (figs b n).map sg = (figs b m).map sg := e
  have l : (figs b n).length = (figs b m).length := by
    have := congrArg List.length e'
    simpa using this
  rcases Nat.lt_trichotomy n m with c | c | c
  · have := (lex_val hb hb16 _ _ l (fun d hd => figs_below hb hd) (fun d hd => figs_below hb hd)).mpr (by rw [val_figs hb, val_figs hb]; exact c)
    rw [e'] at this
    exact absurd this (List.lt_irrefl _)
  · exact c
  · have := (lex_val hb hb16 _ _ l.symm (fun d hd => figs_below hb hd) (fun d hd => figs_below hb hd)).mpr (by rw [val_figs hb, val_figs hb]; exact c)
    rw [e'] at this
    exact absurd this (List.lt_irrefl _)
/-- (its length, its text), as data -/
def lenTxt (ds : List Nat) : PyData := .tuple [.int (ds.length : Int), .str (txt ds)]
theorem lenTxt_lt {b n m : Nat} (hb : 2 ≤ b) (hb16 : b ≤ 16) : PySem.W.dataLt (lenTxt (figs b n)) (lenTxt (figs b m)) = decide ((n : Int) < (m : Int)) := by
  unfold lenTxt
  rw [PySem.W.dataLt_tuple]
  by_cases c : (figs b n).length = (figs b m).length
  · rw [PySem.W.dataLt_all_yes (by rfl) (by rw [c]; simp [PyData.eqv])]
    by_cases d : txt (figs b n) = txt (figs b m)
    · have nm := txt_inj hb hb16 d
      subst nm
      rw [decide_eq_false (Int.lt_irrefl _)]
      rw [PySem.W.dataLt_all_yes (by rfl) (by simp [PyData.eqv])]
      decide +kernel
    · rw [PySem.W.dataLt_all_no (by rfl) (by simp [PyData.eqv, d]), PySem.W.dataLt_str]
      rw [decide_eq_decide, tl_txt, tl_txt, lex_val hb hb16 _ _ c (fun d hd => figs_below hb hd) (fun d hd => figs_below hb hd), val_figs hb, val_figs hb]
      omega
  · rw [PySem.W.dataLt_all_no (by rfl) (by simp [PyData.eqv]; omega), PySem.W.dataLt_int, decide_eq_decide]
    constructor
    · intro h
      have := len_lt_num hb (n := n) (m := m) (by omega)
      omega
    · intro h
      refine Int.ofNat_lt.mpr (Nat.lt_of_le_of_ne (Nat.le_of_not_lt fun z => ?_) c)
      have := len_lt_num hb z
      omega
end Fx

namespace Fx
open PySem PySem.Spec PyProof.Rows L2
/-! ### what stays but for some -/
structure Frm (S : List Addr) (H H' : Hp) : Prop where
  kp : ∀ q o, q ∉ S → H q = some o → H' q = some o
  fr : ∀ q, H' q = none → H q = none
theorem Frm.refl (S : List Addr) (H : Hp) : Frm S H H := ⟨fun _ _ _ h => h, fun _ h => h⟩
theorem Frm.trans {S : List Addr} {H H1 H2 : Hp} (a : Frm S H H1) (b : Frm S H1 H2) : Frm S H H2 := ⟨fun q o n h => b.kp q o n (a.kp q o n h), fun q h => a.fr q (b.fr q h)⟩
theorem Frm.mono {S T : List Addr} {H H' : Hp} (a : Frm S H H') (h : ∀ x ∈ S, x ∈ T) : Frm T H H' := ⟨fun q o n e => a.kp q o (fun z => n (h q z)) e, a.fr⟩
theorem Frm.of {H H' : Hp} (S : List Addr) (a : Same H H') : Frm S H H' := ⟨fun q o _ h => a q o h, fun _ h => a.free h⟩
theorem Frm.but {d : Addr} {H H' : Hp} (a : But d H H') (h : ∃ o, H' d = some o) : Frm [d] H H' := ⟨fun q o n e => a q o (fun z => n (by rw [z]; exact List.mem_singleton.mpr rfl)) e, fun _ e => a.fresh h e⟩
theorem Frm.set {p : Addr} {H : Hp} {o u : HO} (h : H p = some u) : Frm [p] H (upd H p o) := Frm.but But.set ⟨_, upd_same⟩
theorem Frm.to {d : Addr} {S : List Addr} {H H' : Hp} (a : Frm S H H') (h : ∀ x ∈ S, x = d) : But d H H' := fun b o n e => a.kp b o (fun z => n (h b z)) e
/-- a fresh thing of our own was changed: nothing was -/
theorem Frm.drop {p : Addr} {S : List Addr} {H H' : Hp} (a : Frm (p :: S) H H') (h : H p = none) : Frm S H H' := ⟨fun q o n e => a.kp q o (fun z => (List.mem_cons.mp z).elim (fun z => by rw [z, h] at e; cases e) n) e, a.fr⟩
theorem Frm.same {H H' : Hp} (a : Frm [] H H') : Same H H' := fun q o e => a.kp q o (by simp) e
theorem Deck.frm {S : List Addr} {H H' : Hp} {d c : Addr} {n : Nat} (h : Deck H d c n) (a : Frm S H H') (h1 : d ∉ S) (h2 : c ∉ S) : Deck H' d c n := by
  obtain ⟨ns, i, l, m, t, e, e2, r⟩ := h.ex
  exact ⟨ns, i, l, m, t, a.kp _ _ h1 e, a.kp _ _ h2 e2, r⟩
/-- the deck's list is no list of numbers -/
theorem Deck.notInts {H : Hp} {d c p : Addr} {n : Nat} {l : List Nat} (h : Deck H d c n) (e : H p = Option.some (HO.lst (ivs l))) : p ≠ d := by
  obtain ⟨ns, i, k, m, t, e1, _⟩ := h.ex
  intro z
  rw [z, e1] at e
  cases l with
  | nil => cases e
  | cons x r => cases e

theorem Deck.notTup' {H : Hp} {d c x : Addr} {n : Nat} {xs : List V} (h : Deck H d c n) (g : H x = Option.some (HO.tup xs)) : x ≠ d := fun z => by
  obtain ⟨ns, i, l, m, t, e, _⟩ := h.ex
  rw [z, e] at g
  cases g
/-! ### a kept number as it stands -/
theorem kb1 : ¬ (("base" : Str) = "power") := by decide +kernel
theorem kb2 : ¬ (("base" : Str) = "worths") := by decide +kernel
theorem kb3 : ¬ (("base" : Str) = "figures") := by decide +kernel
theorem kp2 : ¬ (("power" : Str) = "worths") := by decide +kernel
theorem kp3 : ¬ (("power" : Str) = "figures") := by decide +kernel
theorem kw3 : ¬ (("worths" : Str) = "figures") := by decide +kernel
def kf (b p : Int) (w f : Addr) : List (Str × V) := putF "figures" (.ref f) (putF "worths" (.ref w) (putF "power" (.int p) (putF "base" (.int b) [])))
theorem kf_eq (b p : Int) (w f : Addr) : kf b p w f = ([("base", V.int b), ("power", V.int p), ("worths", V.ref w), ("figures", V.ref f)] : List (Str × V)) := by
  show putF "figures" (.ref f) (putF "worths" (.ref w) (if ("base" : Str) = "power" then [(("base" : Str), V.int p)] else (("base" : Str), V.int b) :: [(("power" : Str), V.int p)])) = _
  rw [if_neg kb1]
  show putF "figures" (.ref f) (if ("base" : Str) = "worths" then _ else (("base" : Str), V.int b) :: (if ("power" : Str) = "worths" then _ else (("power" : Str), V.int p) :: [(("worths" : Str), V.ref w)])) = _
  rw [if_neg kb2, if_neg kp2]
  show (if ("base" : Str) = "figures" then _ else (("base" : Str), V.int b) :: (if ("power" : Str) = "figures" then _ else (("power" : Str), V.int p) :: (if ("worths" : Str) = "figures" then _ else (("worths" : Str), V.ref w) :: [(("figures" : Str), V.ref f)]))) = _
  rw [if_neg kb3, if_neg kp3, if_neg kw3]
theorem kf_len (b p : Int) (w f : Addr) : (kf b p w f).length < 1000 := by
  rw [kf_eq]
  show 4 < 1000
  decide
theorem putF_len {f : Str} {v : V} {fs : List (Str × V)} {n : Nat} (h : fs.length ≤ n) : (putF f v fs).length ≤ n + 1 := Nat.le_trans (length_putF ..) (by omega)
theorem kf2_len (b p : Int) : (putF "power" (.int p) (putF "base" (.int b) [])).length < 1000 := Nat.lt_of_le_of_lt (putF_len (putF_len (Nat.le_refl 0))) (by decide)
theorem kf3_len (b p : Int) (w : Addr) : (putF "worths" (.ref w) (putF "power" (.int p) (putF "base" (.int b) []))).length < 1000 := Nat.lt_of_le_of_lt (putF_len (putF_len (putF_len (Nat.le_refl 0)))) (by decide)
theorem kf_base (b p : Int) (w f : Addr) : (kf b p w f).lookup ("base" : Str) = some (.int b) := by
  unfold kf
  rw [lookup_putF, if_neg kb3, lookup_putF, if_neg kb2, lookup_putF, if_neg kb1, lookup_putF, if_pos rfl]
theorem kf_power (b p : Int) (w f : Addr) : (kf b p w f).lookup ("power" : Str) = some (.int p) := by
  unfold kf
  rw [lookup_putF, if_neg kp3, lookup_putF, if_neg kp2, lookup_putF, if_pos rfl]
theorem kf_worths (b p : Int) (w f : Addr) : (kf b p w f).lookup ("worths" : Str) = some (.ref w) := by
  unfold kf
  rw [lookup_putF, if_neg kw3, lookup_putF, if_pos rfl]
theorem kf_figures (b p : Int) (w f : Addr) : (kf b p w f).lookup ("figures" : Str) = some (.ref f) := by
  unfold kf
  rw [lookup_putF, if_pos rfl]
theorem kf_no (b p : Int) (w f : Addr) {m : Str} (h1 : ¬ m = "base") (h2 : ¬ m = "power") (h3 : ¬ m = "worths") (h4 : ¬ m = "figures") : (kf b p w f).lookup m = none := by
  unfold kf
  rw [lookup_putF, if_neg h4, lookup_putF, if_neg h3, lookup_putF, if_neg h2, lookup_putF, if_neg h1]
  rfl
theorem kf_put (b p : Int) (w f g : Addr) : putF "figures" (.ref g) (kf b p w f) = kf b p w g := by
  rw [kf_eq, kf_eq]
  show (if ("base" : Str) = "figures" then _ else (("base" : Str), V.int b) :: (if ("power" : Str) = "figures" then _ else (("power" : Str), V.int p) :: (if ("worths" : Str) = "figures" then _ else (("worths" : Str), V.ref w) :: (if ("figures" : Str) = "figures" then [(("figures" : Str), V.ref g)] else _)))) = _
  rw [if_neg kb3, if_neg kp3, if_neg kw3, if_pos rfl]
/-- figures of a number, the greatest place first -/
structure Good (b : Nat) (fs : List Nat) : Prop where
  lt : ∀ f ∈ fs, f < b
  ne : fs ≠ []
  len : fs.length ≤ 40
/-- a number of the pair at p, its worths at w, its figures at l -/
structure KeptAt (C : Addr) (H : Hp) (p w l : Addr) (b pw : Nat) (fs : List Nat) : Prop where
  ins : ∃ dx, H p = some (.ins C dx (kf (b : Int) (pw : Int) w l))
  ws : H w = some (.lst (ivs (wts b pw)))
  fg : H l = some (.lst (ivs fs))
  wl : w ≠ l
  ok : OkN b pw
  good : Good b fs
theorem KeptAt.pw {C : Addr} {H : Hp} {p w l : Addr} {b pw : Nat} {fs : List Nat} (h : KeptAt C H p w l b pw fs) : p ≠ w := by
  obtain ⟨dx, e⟩ := h.ins
  exact ne_of e h.ws (fun z => by cases z)
theorem KeptAt.pl {C : Addr} {H : Hp} {p w l : Addr} {b pw : Nat} {fs : List Nat} (h : KeptAt C H p w l b pw fs) : p ≠ l := by
  obtain ⟨dx, e⟩ := h.ins
  exact ne_of e h.fg (fun z => by cases z)
theorem KeptAt.frm {C : Addr} {S : List Addr} {H H' : Hp} {p w l : Addr} {b pw : Nat} {fs : List Nat} (h : KeptAt C H p w l b pw fs) (a : Frm S H H') (h1 : p ∉ S) (h2 : w ∉ S) (h3 : l ∉ S) : KeptAt C H' p w l b pw fs := by
  obtain ⟨dx, e⟩ := h.ins
  exact ⟨⟨dx, a.kp _ _ h1 e⟩, a.kp _ _ h2 h.ws, a.kp _ _ h3 h.fg, h.wl, h.ok, h.good⟩
theorem KeptAt.same {C : Addr} {H H' : Hp} {p w l : Addr} {b pw : Nat} {fs : List Nat} (h : KeptAt C H p w l b pw fs) (a : Same H H') : KeptAt C H' p w l b pw fs := h.frm (Frm.of [] a) (by simp) (by simp) (by simp)
theorem KeptAt.deck {C : Addr} {H : Hp} {p w l d c : Addr} {b pw n : Nat} {fs : List Nat} (h : KeptAt C H p w l b pw fs) (D : Deck H d c n) : p ≠ d ∧ w ≠ d ∧ l ≠ d := by
  obtain ⟨dx, e⟩ := h.ins
  obtain ⟨xs, e2⟩ := D.some
  refine ⟨ne_of e e2 (fun z => ?_), D.notInts h.ws, D.notInts h.fg⟩
  cases z
theorem KeptAt.but {C : Addr} {H H' : Hp} {p w l d c : Addr} {b pw n : Nat} {fs : List Nat} (h : KeptAt C H p w l b pw fs) (D : Deck H d c n) (a : But d H H') : KeptAt C H' p w l b pw fs := by
  obtain ⟨h1, h2, h3⟩ := h.deck D
  obtain ⟨dx, e⟩ := h.ins
  exact ⟨⟨dx, a _ _ h1 e⟩, a _ _ h2 h.ws, a _ _ h3 h.fg, h.wl, h.ok, h.good⟩
theorem Good.val_lt {b : Nat} {fs : List Nat} (h : Good b fs) (hb : 2 ≤ b) (hb16 : b ≤ 16) : val b fs < 16 ^ 40 := by
  have h1 := Fx.val_lt hb fs h.lt
  have h2 : b ^ fs.length ≤ 16 ^ fs.length := Nat.pow_le_pow_left hb16 _
  have h3 : (16 : Nat) ^ fs.length ≤ 16 ^ 40 := Nat.pow_le_pow_right (by decide) h.len
  omega
theorem Good.val200 {b : Nat} {fs : List Nat} (h : Good b fs) (hb : 2 ≤ b) (hb16 : b ≤ 16) : val b fs < 2 ^ 200 := Nat.lt_of_lt_of_le (h.val_lt hb hb16) (by decide)
theorem Good.zero {b : Nat} (hb : 2 ≤ b) : Good b [0] := ⟨fun f hf => by cases List.mem_singleton.mp hf; omega, by simp, by decide⟩
theorem Good.push {b f : Nat} {fs : List Nat} (h : Good b fs) (hf : f < b) (hl : fs.length < 40) : Good b (fs ++ [f]) := ⟨fun x hx => by
  rcases List.mem_append.mp hx with z | z
  · exact h.lt x z
  · cases List.mem_singleton.mp z; exact hf, by simp, by rw [List.length_append]; show fs.length + 1 ≤ 40; omega⟩
theorem Good.one {b f : Nat} (hf : f < b) : Good b [f] := ⟨fun x hx => by cases List.mem_singleton.mp hx; exact hf, by simp, by show 1 ≤ 40; decide⟩
/-- figures once a figure is put behind -/
def putFs (fs : List Nat) (f : Nat) : List Nat := (if fs = [0] then [] else fs) ++ [f]
theorem Good.put {b f : Nat} {fs : List Nat} (h : Good b fs) (hf : f < b) (hl : fs.length < 40) : Good b (putFs fs f) := by
  unfold putFs
  by_cases c : fs = [0]
  · rw [if_pos c]
    exact Good.one hf
  · rw [if_neg c]
    exact h.push hf hl
/-- once the last one is taken off -/
def offFs (fs : List Nat) : List Nat := if fs.length = 1 then [0] else fs.dropLast
theorem Good.off {b : Nat} {fs : List Nat} (h : Good b fs) (hb : 2 ≤ b) : Good b (offFs fs) := by
  unfold offFs
  by_cases c : fs.length = 1
  · rw [if_pos c]
    exact Good.zero hb
  · rw [if_neg c]
    refine ⟨fun x hx => h.lt x (List.dropLast_subset _ hx), fun z => ?_, by rw [List.length_dropLast]; have := h.len; omega⟩
    have z2 := congrArg List.length z
    rw [List.length_dropLast] at z2
    have := List.length_pos_iff.mpr h.ne
    simp at z2
    omega
theorem Good.set {b f i : Nat} {fs : List Nat} (h : Good b fs) (hf : f < b) : Good b (fs.set i f) := ⟨fun x hx => by
  rcases List.mem_or_eq_of_mem_set hx with z | z
  · exact h.lt x z
  · rw [z]; exact hf, fun z => h.ne (by
  have := congrArg List.length z
  rw [List.length_set] at this
  exact List.length_eq_zero_iff.mp this), by rw [List.length_set]; exact h.len⟩
theorem ivs_set (l : List Nat) (i f : Nat) : (ivs l).set i (.int (f : Int)) = ivs (l.set i f) := by
  unfold ivs
  rw [List.map_set]
theorem ivs_dropLast (l : List Nat) : (ivs l).dropLast = ivs l.dropLast := by
  unfold ivs
  rw [List.map_dropLast]
theorem ivs_inj {l r : List Nat} (h : ivs l = ivs r) : l = r := by
  induction l generalizing r with
  | nil => cases r with
    | nil => rfl
    | cons a r => cases h
  | cons a l ih => cases r with
    | nil => cases h
    | cons c r =>
      have h' : V.int (a : Int) :: ivs l = V.int (c : Int) :: ivs r := h
      injection h' with h1 h2
      injection h1 with h1
      rw [ih h2, Int.ofNat.inj h1]
theorem cut_butlast (xs : List V) : cutV xs none (some (-1)) = xs.take (xs.length - 1) := by
  unfold cutV
  rw [HT.sIx_none]
  have e : HT.sIx xs.length xs.length (some (-1)) = xs.length - 1 := by
    show (if (-1 : Int) < 0 then ((-1 : Int) + (xs.length : Int)).toNat else min (-1 : Int).toNat xs.length) = _
    rw [if_pos (by decide)]
    omega
  rw [e, List.drop_zero, Nat.sub_zero]
theorem cut_ivs_butlast (l : List Nat) : cutV (ivs l) none (some (-1)) = ivs (l.take (l.length - 1)) := by
  rw [cut_butlast, ivs_length]
  unfold ivs
  rw [List.map_take]
theorem ivs_noughts (k : Nat) : (List.replicate k [V.int 0]).flatten = ivs (List.replicate k [0]).flatten := by
  induction k with
  | zero => rfl
  | succ k ih =>
    rw [List.replicate_succ, List.replicate_succ, List.flatten_cons, List.flatten_cons, ivs_append, ih]
    rfl
/-- the answer of == between two rows of numbers -/
theorem eqv_ints : ∀ l r : List Int, PyData.eqv (.list (dInts l)) (.list (dInts r)) = decide (l = r) := fun l r => by
  rw [PyData.eqv]
  exact PySem.W.ked_eqvAll l r
theorem cast_inj {l r : List Nat} : (l.map fun (k : Nat) => (k : Int)) = (r.map fun (k : Nat) => (k : Int)) ↔ l = r := by
  refine ⟨fun h => ?_, fun h => by rw [h]⟩
  refine ivs_inj ?_
  rw [ivs_map, ivs_map, h]
theorem eqv_nats (l r : List Nat) : PyData.eqv (.list (dInts (l.map fun (k : Nat) => (k : Int)))) (.list (dInts (r.map fun (k : Nat) => (k : Int)))) = decide (l = r) := by
  rw [eqv_ints]
  exact decide_eq_decide.mpr cast_inj
/-- a kept number that was made: what stood stands -/
theorem made {C : Addr} {H H2 : Hp} {x dx w l : Addr} {b pw : Nat} (nx : H x = none) (ndx : H dx = none) (nex : dx ≠ x) (k : KeptAt C H2 x w l b pw [0]) (nw : upd (upd H dx (.own x)) x (.ins C dx []) w = none) (nl : upd (upd H dx (.own x)) x (.ins C dx []) l = none)
    (F : Frm [x] (upd (upd H dx (.own x)) x (.ins C dx [])) H2) : Same H H2 ∧ H w = none ∧ H l = none := by
  have s1 : Same H (upd (upd H dx (.own x)) x (.ins C dx [])) := same_own (Same.new ndx) nx
  have F2 : Frm [x] H H2 := (Frm.of _ s1).trans F
  exact ⟨(F2.drop nx).same, s1.free nw, s1.free nl⟩
end Fx

namespace Fx
open PySem PySem.Spec PyProof.Rows L2
/-! ### figures and what they write -/
theorem figs_small {b n : Nat} (h : n < b) : figs b n = [n] := by
  unfold figs
  rw [lsd_lt h]
  rfl
theorem figs_push {b n d : Nat} (hb : 2 ≤ b) (hd : d < b) (hn : 0 < n) : figs b (n * b + d) = figs b n ++ [d] := by
  have h1 : b ≤ n * b + d := by
    have := Nat.mul_le_mul_right b hn
    omega
  have e1 : (n * b + d) / b = n := by
    rw [Nat.mul_comm, Nat.mul_add_div (by omega), Nat.div_eq_of_lt hd]
    omega
  have e2 : (n * b + d) % b = d := by
    rw [Nat.mul_comm, Nat.mul_add_mod, Nat.mod_eq_of_lt hd]
  unfold figs
  rw [lsd_ge hb h1, List.reverse_cons, e1, e2]
theorem val_snoc {b d : Nat} (r : List Nat) : val b (r ++ [d]) = val b r * b + d := by
  unfold val
  rw [List.foldl_append]
  rfl
theorem val_nil {b : Nat} : val b [] = 0 := rfl
theorem val_one {b d : Nat} : val b [d] = d := by
  show 0 * b + d = d
  omega
theorem val_pos {b : Nat} : ∀ (r : List Nat) (d : Nat), d ≠ 0 → 2 ≤ b → 0 < val b (d :: r) := fun r d hd hb => by
  rw [val_cons]
  have : 0 < d * b ^ r.length := Nat.mul_pos (by omega) (Nat.pow_pos (by omega))
  omega
theorem Reads.zero {b : Nat} {fs : List Nat} (hb : 2 ≤ b) (h : Reads b fs) (z : val b fs = 0) : fs = [0] := by
  match fs, h with
  | [], h => exact absurd rfl h.ne
  | d :: r, h =>
    by_cases c : d = 0
    · have := h.head d rfl c
      rw [List.length_cons] at this
      obtain rfl : r = [] := List.length_eq_zero_iff.mp (by omega)
      rw [c]
    · have := val_pos r d c hb
      omega
theorem Reads.front {b d : Nat} {r : List Nat} (h : Reads b (r ++ [d])) (ne : r ≠ []) : Reads b r ∧ ∀ x, r[0]? = some x → x ≠ 0 := by
  have l0 := List.length_pos_iff.mpr ne
  have nz : ∀ x, r[0]? = some x → x ≠ 0 := fun x hx z => by
    have := h.head x (by rw [List.getElem?_append_left l0]; exact hx) z
    rw [List.length_append] at this
    have : [d].length = 1 := rfl
    omega
  exact ⟨⟨ne, fun x hx => h.below x (List.mem_append_left _ hx), fun x hx z => absurd z (nz x hx)⟩, nz⟩
theorem figs_val {b : Nat} (hb : 2 ≤ b) : ∀ (n : Nat) (fs : List Nat), fs.length = n → Reads b fs → figs b (val b fs) = fs
  | 0, fs, hl, h => absurd (List.length_eq_zero_iff.mp hl) h.ne
  | n + 1, fs, hl, h => by
    obtain ⟨r, d, rfl⟩ : ∃ r d, fs = r ++ [d] := ⟨fs.dropLast, fs.getLast h.ne, (List.dropLast_concat_getLast h.ne).symm⟩
    have hd : d < b := h.below d (by simp)
    rw [List.length_append] at hl
    have hl' : r.length = n := by
      have : [d].length = 1 := rfl
      omega
    by_cases c : r = []
    · subst c
      rw [List.nil_append, val_one, figs_small hd]
    · obtain ⟨h', nz⟩ := h.front c
      have i := figs_val hb n r hl' h'
      have p : 0 < val b r := by
        match r, c, nz with
        | x :: t, _, nz => exact val_pos t x (nz x rfl) hb
      rw [val_snoc, figs_push hb hd p, i]
theorem Reads.of0 {b : Nat} (hb : 2 ≤ b) : Reads b [0] := ⟨by simp, fun d hd => by cases List.mem_singleton.mp hd; omega, fun _ _ _ => rfl⟩
theorem Reads.put {b f : Nat} {fs : List Nat} (h : Reads b fs) (hf : f < b) : Reads b (putFs fs f) := by
  unfold putFs
  by_cases c : fs = [0]
  · rw [if_pos c]
    exact ⟨by simp, fun d hd => by cases List.mem_singleton.mp hd; exact hf, fun _ _ _ => rfl⟩
  · rw [if_neg c]
    have l0 := List.length_pos_iff.mpr h.ne
    refine ⟨by simp, fun d hd => ?_, fun d hd z => ?_⟩
    · rcases List.mem_append.mp hd with x | x
      · exact h.below d x
      · cases List.mem_singleton.mp x
        exact hf
    · rw [List.getElem?_append_left l0] at hd
      have l1 := h.head d hd z
      obtain ⟨x, rfl⟩ := List.length_eq_one_iff.mp l1
      cases hd
      exact absurd (by rw [z]) c
theorem val_put {b f : Nat} {fs : List Nat} : val b (putFs fs f) = val b fs * b + f := by
  unfold putFs
  by_cases c : fs = [0]
  · rw [if_pos c, c, List.nil_append, val_one, val_one]
    omega
  · rw [if_neg c, val_snoc]
theorem stp_put {p f : Nat} {fs : List Nat} (hp : 1 ≤ p) : ((putFs fs f).map (· ^ p)).sum = (fs.map (· ^ p)).sum + f ^ p := by
  unfold putFs
  by_cases c : fs = [0]
  · rw [if_pos c, c]
    show f ^ p + 0 = (0 ^ p + 0) + f ^ p
    rw [zero_pow' hp]
    omega
  · rw [if_neg c, List.map_append, List.sum_append]
    show _ + (f ^ p + 0) = _
    omega
theorem off_put {f : Nat} {fs : List Nat} (h : fs ≠ []) : offFs (putFs fs f) = fs := by
  unfold putFs offFs
  by_cases c : fs = [0]
  · rw [if_pos c, c]
    rfl
  · rw [if_neg c, List.length_append]
    have := List.length_pos_iff.mpr h
    rw [if_neg (by show ¬ (fs.length + 1 = 1); omega), List.dropLast_concat]
theorem putFs_len {f : Nat} {fs : List Nat} : (putFs fs f).length ≤ fs.length + 1 := by
  unfold putFs
  by_cases c : fs = [0]
  · rw [if_pos c]
    show 1 ≤ _
    omega
  · rw [if_neg c, List.length_append]
    exact Nat.le_refl _
theorem Reads.off {b : Nat} {fs : List Nat} (hb : 2 ≤ b) (h : Reads b fs) : Reads b (offFs fs) := by
  unfold offFs
  by_cases c : fs.length = 1
  · rw [if_pos c]
    exact Reads.of0 hb
  · rw [if_neg c]
    have l0 := List.length_pos_iff.mpr h.ne
    refine ⟨fun z => ?_, fun d hd => h.below d (List.dropLast_subset _ hd), fun d hd z => ?_⟩
    · have z2 := congrArg List.length z
      rw [List.length_dropLast] at z2
      simp at z2
      omega
    · rw [List.getElem?_dropLast] at hd
      split at hd
      · exact absurd (h.head d hd z) c
      · cases hd
theorem Reads.set {b i f : Nat} {fs : List Nat} (h : Reads b fs) (hf : f < b) (hz : f = 0 → i = 0 → fs.length = 1) : Reads b (fs.set i f) := by
  refine ⟨fun z => h.ne ?_, fun d hd => ?_, fun d hd z => ?_⟩
  · have := congrArg List.length z
    rw [List.length_set] at this
    exact List.length_eq_zero_iff.mp this
  · rcases List.mem_or_eq_of_mem_set hd with z | z
    · exact h.below d z
    · rw [z]; exact hf
  · rw [List.length_set]
    rw [List.getElem?_set] at hd
    split at hd
    · rename_i i0
      split at hd
      · cases hd
        exact hz z i0
      · cases hd
    · exact h.head d hd z
theorem offFs_len (fs : List Nat) (h : fs ≠ []) : (offFs fs).length ≤ fs.length ∧ (fs.length = 1 → (offFs fs).length = 1) := by
  unfold offFs
  have := List.length_pos_iff.mpr h
  by_cases c : fs.length = 1
  · rw [if_pos c]
    exact ⟨by show 1 ≤ _; omega, fun _ => rfl⟩
  · rw [if_neg c, List.length_dropLast]
    exact ⟨by omega, fun z => absurd z c⟩
/-- figures put one by one make the row -/
theorem put_take {b k x : Nat} {fs : List Nat} (h : Reads b fs) (hk : fs[k]? = some x) (hk0 : 0 < k) : putFs (fs.take k) x = fs.take (k + 1) := by
  unfold putFs
  have c : fs.take k ≠ [0] := fun z => by
    have l := (List.getElem?_eq_some_iff.mp hk).1
    have z1 := congrArg List.length z
    rw [List.length_take] at z1
    have : ([0] : List Nat).length = 1 := rfl
    obtain rfl : k = 1 := by omega
    have z0 : fs[0]? = some 0 := by
      have := congrArg (fun l => l[0]?) z
      rw [List.getElem?_take] at this
      simpa using this
    have := h.head 0 z0 rfl
    omega
  rw [if_neg c, List.take_add_one, hk]
  rfl
theorem put_first {x : Nat} : putFs [0] x = [x] := by
  unfold putFs
  rw [if_pos rfl]
  rfl
/-- what was put, one by one -/
structure Puts (b : Nat) (F : Nat → List Nat) (i : Nat) : Prop where
  zero : F 0 = [0]
  succ : ∀ k, k < i → ∃ f, f < b ∧ F (k + 1) = putFs (F k) f
theorem Puts.len {b i : Nat} {F : Nat → List Nat} (h : Puts b F i) : ∀ k, k ≤ i → (F k).length ≤ max 1 k
  | 0, _ => by
    rw [h.zero]
    exact Nat.le_refl _
  | k + 1, hk => by
    obtain ⟨f, hf, e⟩ := h.succ k (by omega)
    have i1 := Puts.len h k (by omega)
    by_cases c : k = 0
    · subst c
      rw [e, h.zero]
      show 1 ≤ _
      omega
    · have := putFs_len (f := f) (fs := F k)
      rw [e]
      omega
theorem Puts.reads {b i : Nat} {F : Nat → List Nat} (hb : 2 ≤ b) (h : Puts b F i) : ∀ k, k ≤ i → Reads b (F k)
  | 0, _ => by
    rw [h.zero]
    exact Reads.of0 hb
  | k + 1, hk => by
    obtain ⟨f, hf, e⟩ := h.succ k (by omega)
    rw [e]
    exact (Puts.reads hb h k (by omega)).put hf
theorem Puts.more {b i f : Nat} {F : Nat → List Nat} (h : Puts b F i) (hf : f < b) : Puts b (fun k => if k ≤ i then F k else putFs (F i) f) (i + 1) := by
  refine ⟨?_, fun k hk => ?_⟩
  · show (if 0 ≤ i then F 0 else _) = _
    rw [if_pos (by omega)]
    exact h.zero
  · by_cases c : k = i
    · subst c
      refine ⟨f, hf, ?_⟩
      show (if k + 1 ≤ k then _ else putFs (F k) f) = putFs (if k ≤ k then F k else _) f
      rw [if_neg (by omega), if_pos (by omega)]
    · obtain ⟨g, hg, e⟩ := h.succ k (by omega)
      refine ⟨g, hg, ?_⟩
      show (if k + 1 ≤ i then F (k + 1) else _) = putFs (if k ≤ i then F k else _) g
      rw [if_pos (by omega), if_pos (by omega)]
      exact e
/-- what was, number and step, row by row -/
def RowsAt (b pw : Nat) (F : Nat → List Nat) (H : Hp) (vs : List V) : Prop := ∀ k v, vs[k]? = some v → ∃ t, v = .ref t ∧ H t = some (.tup (ivs [val b (F k), ((F k).map (· ^ pw)).sum]))
theorem RowsAt.nil {b pw : Nat} {F : Nat → List Nat} {H : Hp} : RowsAt b pw F H [] := fun k v h => by simp at h
theorem RowsAt.mono {b pw : Nat} {F : Nat → List Nat} {H H' : Hp} {vs : List V} (h : RowsAt b pw F H vs) (k : ∀ t xs, H t = some (.tup xs) → H' t = some (.tup xs)) : RowsAt b pw F H' vs := fun i v e => by
  obtain ⟨t, x, y⟩ := h i v e
  exact ⟨t, x, k _ _ y⟩
theorem RowsAt.push {b pw : Nat} {F : Nat → List Nat} {H : Hp} {vs : List V} {t : Addr} (h : RowsAt b pw F H vs) (e : H t = some (.tup (ivs [val b (F vs.length), ((F vs.length).map (· ^ pw)).sum]))) : RowsAt b pw F H (vs ++ [.ref t]) := fun i v x => by
  by_cases c : i < vs.length
  · rw [List.getElem?_append_left c] at x
    exact h i v x
  · have z := (List.getElem?_eq_some_iff.mp x).1
    rw [List.length_append] at z
    have : [V.ref t].length = 1 := rfl
    obtain rfl : i = vs.length := by omega
    rw [List.getElem?_append_right (Nat.le_refl _), Nat.sub_self] at x
    cases x
    exact ⟨t, rfl, e⟩
theorem RowsAt.take {b pw n : Nat} {F : Nat → List Nat} {H : Hp} {vs : List V} (h : RowsAt b pw F H vs) : RowsAt b pw F H (vs.take n) := fun i v x => by
  rw [List.getElem?_take] at x
  split at x
  · exact h i v x
  · cases x
theorem RowsAt.dp {K : PySem.W.Frag} {b pw : Nat} {H : Hp} : ∀ {vs : List V} {F : Nat → List Nat}, RowsAt b pw F H vs → ∃ ds, DpAll K H vs ds ∧ ds.length = vs.length ∧ PyData.canLayAll0 ds = true ∧ PyData.depthAll ds ≤ 2
  | [], F, _ => ⟨[], .nil, rfl, rfl, by unfold PyData.depthAll; decide⟩
  | v :: vs, F, h => by
    obtain ⟨t, rfl, e⟩ := h 0 v rfl
    obtain ⟨ds, d1, d2, d3, d4⟩ := RowsAt.dp (K := K) (vs := vs) (F := fun k => F (k + 1)) fun i v x => h (i + 1) v x
    refine ⟨.tuple (dInts ([val b (F 0), ((F 0).map (· ^ pw)).sum].map fun (k : Nat) => (k : Int))) :: ds, .cons (.tup (.of e) (dpAll_ivs _)) d1, by rw [List.length_cons, List.length_cons, d2], ?_, ?_⟩
    · rw [PyData.canLayAll0, d3, PyData.canLay0, canLay_ints]
      rfl
    · have := depth_ints ([val b (F 0), ((F 0).map (· ^ pw)).sum].map fun (k : Nat) => (k : Int))
      unfold PyData.depthAll PyData.depth
      omega
theorem eqv_none (ds : List PyData) : PyData.eqv (.list ds) (.list []) = decide (ds.length = 0) := by
  cases ds with
  | nil =>
    rw [PyData.eqv, PyData.eqvAll]
    rfl
  | cons a r =>
    rw [PyData.eqv, PyData.eqvAll]
    exact (decide_eq_false (by rw [List.length_cons]; omega)).symm
    all_goals simp
theorem end_zero {b p : Nat} (ok : OkN b p) : EndAt b p 0 0 0 := ⟨⟨1, by decide, stepN_zero ok.hb ok.hp1⟩, fun j hj => by omega, ⟨0, Nat.le_refl _, rfl⟩, fun i _ => Nat.zero_le _⟩
theorem val_rep {b f k : Nat} : val b (List.replicate (k + 1) f) = val b (List.replicate k f) * b + f := by
  rw [List.replicate_succ', val_snoc]
theorem set_rep {fs : List Nat} {i x : Nat} (hi : i < fs.length) : (fs.take (fs.length - i) ++ List.replicate i x).set (fs.length - 1 - i) x = fs.take (fs.length - (i + 1)) ++ List.replicate (i + 1) x := by
  have e : fs.length - i = fs.length - 1 - i + 1 := by omega
  have e2 : fs.length - (i + 1) = fs.length - 1 - i := by omega
  rw [e, e2, List.take_add_one, List.getElem?_eq_getElem (show fs.length - 1 - i < fs.length by omega)]
  have l : (fs.take (fs.length - 1 - i)).length = fs.length - 1 - i := by
    rw [List.length_take]
    omega
  show (fs.take (fs.length - 1 - i) ++ [_] ++ List.replicate i x).set (fs.length - 1 - i) x = _
  rw [List.append_assoc, List.set_append_right _ _ (by omega), l, Nat.sub_self]
  rfl
theorem sum_rep (x : Nat) : ∀ k : Nat, (List.replicate k x).sum = k * x
  | 0 => by simp
  | k + 1 => by
    rw [List.replicate_succ, List.sum_cons, sum_rep x k, Nat.succ_mul]
    omega
end Fx

namespace Fx
open PySem PySem.Spec PyProof.Rows L2
/-! ### match over a list of texts: rows of written texts and names, no star, no guard -/
/-- a place of a row: a text that must stand there, or a name's slot -/
abbrev Pt := Sum Str Nat
def matchW : List Pt → List Str → Option (List (Nat × Str))
  | [], [] => some []
  | .inl z :: ps, w :: ws => if w = z then matchW ps ws else none
  | .inr i :: ps, w :: ws => (matchW ps ws).map ((i, w) :: ·)
  | _, _ => none
theorem matchW_len : ∀ {ps : List Pt} {ws : List Str}, ps.length ≠ ws.length → matchW ps ws = none
  | [], [], h => absurd rfl h
  | [], _ :: _, _ => rfl
  | .inl _ :: _, [], _ => rfl
  | .inr _ :: _, [], _ => rfl
  | .inl z :: ps, w :: ws, h => by
    show (if w = z then matchW ps ws else none) = none
    rw [matchW_len fun e => h (congrArg (· + 1) e)]
    split <;> rfl
  | .inr i :: ps, w :: ws, h => by
    show (matchW ps ws).map _ = none
    rw [matchW_len fun e => h (congrArg (· + 1) e)]
    rfl
def setS (σ : L2.St) : List (Nat × Str) → L2.St
  | [] => σ
  | (i, w) :: r => setS (σ.set i (some (.str w))) r
section
variable {X : Cx}
/-- a name that may be stored -/
def Nm (X : Cx) (i : Nat) (x : Str) : Prop := X.N[i]? = some x ∧ Loc X.env.scope x ∧ (X.fn x = true ∨ X.env.scope.names.lookup x = some .local)
inductive PPat (X : Cx) : List Pattern → List Pt → Prop
  | nil : PPat X [] []
  | lit {z : Str} {j : Nat} {p pos : Pos} {ps : List Pattern} {ts : List Pt} : PPat X ps ts → PPat X (.MatchValue (.Constant (.str z) j p) pos :: ps) (.inl z :: ts)
  | name {i : Nat} {x : Str} {pos : Pos} {ps : List Pattern} {ts : List Pt} : Nm X i x → PPat X ps ts → PPat X (.MatchAs none (some x) pos :: ps) (.inr i :: ts)
theorem PPat.len {ps : List Pattern} {ts : List Pt} (h : PPat X ps ts) : ps.length = ts.length := by
  induction h with
  | nil => rfl
  | lit _ ih => rw [List.length_cons, List.length_cons, ih]
  | name _ _ ih => rw [List.length_cons, List.length_cons, ih]
/-- names and their values, as the match gives them -/
abbrev BR (X : Cx) : List (Nat × Str) → List (Str × Value) → Prop := Paired fun p q => Nm X p.1 q.1 ∧ RelV (.str p.2) q.2
variable {pins : List (Addr × Obj)} {σ : L2.St} {H : Hp}
theorem each_ok {Q : Option (List (Str × Value)) → Shared → Prop} : ∀ {ps : List Pattern} {ts : List Pt} (_ : PPat X ps ts) {ws : List Str} {us : List Value} {s : Shared}, Inv X pins σ H s → Vals (ws.map V.str) us → ws.length = ps.length →
    (∀ bs r s', matchW ts ws = some bs → BR X bs r → Inv X pins σ H s' → Q (some r) s') → (∀ s', matchW ts ws = none → Inv X pins σ H s' → Q none s') → wpAny (model X.prog X.w) X.A (matchEach ps X.env us) Q X.xe s
  | _, _, .nil, ws, us, s, I, r, hl, h1, h2 => by
    obtain rfl : ws = [] := List.length_eq_zero_iff.mp hl
    cases r
    exact wpAny_matchEach_nil (h1 [] [] s rfl .nil I)
  | _, _, .lit (z := z) (ts := ts) hp, ws, us, s, I, r, hl, h1, h2 => by
    match ws, r with
    | w :: ws, .cons (b := u) ru rr =>
      have hl' : ws.length = _ := Nat.succ.inj hl
      refine wpAny_matchEach_cons ?_
      refine wpAny_matchPattern_Value ?_
      refine thn ((pe_str (X := X)).run pins s σ H (fun v H1 => v = V.str z ∧ H1 = H) I ⟨rfl, rfl⟩) fun x s1 ⟨v, H1, I1, rx, ev, eH⟩ => ?_
      rw [ev] at rx
      rw [eH] at I1
      refine thn (op_eq pins s1 σ H (.str w) (.str z) u x (fun v H2 => v = .bl (decide (V.str w = V.str z)) ∧ H2 = H) I1 ru rx ⟨rfl, rfl, rfl⟩) fun c s2 ⟨v2, H2, I2, rc, ev2, eH2⟩ => ?_
      rw [ev2] at rc
      rw [eH2] at I2
      have ec : c = Value.bool (decide (V.str w = V.str z)) := rc
      rw [ec]
      refine wpAny_truthy_bool ?_
      by_cases e : w = z
      · rw [decide_eq_true (show V.str w = V.str z by rw [e])]
        rw [if_pos rfl]
        refine each_ok hp I2 rr hl' (fun bs r s' hm hb I3 => ?_) (fun s' hm I3 => ?_)
        · exact h1 bs _ s' (by show (if w = z then matchW ts ws else none) = _; rw [if_pos e, hm]) hb I3
        · exact h2 s' (by show (if w = z then matchW ts ws else none) = _; rw [if_pos e, hm]) I3
      · rw [decide_eq_false (show ¬ (V.str w = V.str z) from fun q => e (by injection q))]
        rw [if_neg (by decide)]
        exact h2 s2 (by show (if w = z then matchW ts ws else none) = _; rw [if_neg e]) I2
  | _, _, .name (i := i) (x := x) (ts := ts) hn hp, ws, us, s, I, r, hl, h1, h2 => by
    match ws, r with
    | w :: ws, .cons (b := u) ru rr =>
      have hl' : ws.length = _ := Nat.succ.inj hl
      refine wpAny_matchEach_cons ?_
      refine wpAny_matchPattern_Capture ?_
      refine each_ok hp I rr hl' (fun bs r s' hm hb I3 => ?_) (fun s' hm I3 => ?_)
      · exact h1 ((i, w) :: bs) ((x, u) :: r) s' (by show (matchW ts ws).map _ = _; rw [hm]; rfl) (.cons ⟨hn, ru⟩ hb) I3
      · exact h2 s' (by show (matchW ts ws).map _ = _; rw [hm]; rfl) I3
theorem store_all (nd : X.N.Nodup) {Q : Unit → Shared → Prop} : ∀ {bs : List (Nat × Str)} {r : List (Str × Value)} {σ : L2.St} {s : Shared}, BR X bs r → Inv X pins σ H s → (∀ s', Inv X pins (setS σ bs) H s' → Q () s') →
    wpAny (model X.prog X.w) X.A (assignInOrder (r.map fun (n, _) => bindName X.env n) (r.map (·.2))) Q X.xe s
  | _, _, σ, s, .nil, I, h => wpAny_assignInOrder_none (h s I)
  | _, _, σ, s, .cons (a := (i, w)) (b := (x, u)) ⟨⟨n1, n2, n3⟩, ru⟩ hb, I, h =>
    wpAny_assignInOrder_more (bindName_ (store_ok (v := .str w) I nd n1 n2 ru (fun s' I' => store_all nd hb I' h) n3))
/-- the cases, in order, over the texts ws -/
structure PCs (X : Cx) (cases : List MatchCase) (t : List Str → TS) : Prop where
  run : ∀ (pins : List (Addr × Obj)) (s : Shared) (σ : L2.St) (H : Hp) (D : Ends) (l : Addr) (ws : List Str) (first : Bool), Inv X pins σ H s → SqL X.K H l (ws.map V.str) → t ws D σ H → wpAny (model X.prog X.w) X.A (matchCases cases X.env (.ref l) first) (SP X pins D) X.xe s
theorem pcs_never {cases : List MatchCase} : PCs X cases (fun _ _ _ _ => False) := ⟨fun _ _ _ _ _ _ _ _ _ _ h => h.elim⟩
def tCase (ts : List Pt) (tb : TS) (tr : List Str → TS) : List Str → TS := fun ws D σ H => match matchW ts ws with
  | some bs => tb D (setS σ bs) H
  | none => tr ws D σ H
theorem pcs_cons {ps : List Pattern} {ts : List Pt} {pos : Pos} {body : List Stmt} {rest : List MatchCase} {tb : TS} {tr : List Str → TS} (calm : X.calm = true) (nd : X.N.Nodup) (hp : PPat X ps ts) (hb : PSs X body tb) (hr : PCs X rest tr)
    (hstar : ps.findIdx? (·.isStar) = none := by rfl) (hwild : (ps.all fun p => p.isWildcard || (p.isStar && p.names.isEmpty)) = false := by rfl) : PCs X (⟨.MatchSequence ps pos, none, body⟩ :: rest) (tCase ts tb tr) := by
  refine ⟨fun pins s σ H D l ws first I hS h => ?_⟩
  refine wpAny_matchCases_cons ?_
  obtain ⟨its, rv, pl, hz⟩ := I.list hS
  have hl' : s.heap.IsList l its.toArray := by
    obtain ⟨o, m, e, c, d, q⟩ := pl
    exact ⟨o, e, c, m, q⟩
  have hlen : its.length = ws.length := by
    have := rv.length
    rw [List.length_map] at this
    exact this.symm
  have hfit : ((its.toArray.size : Nat) : Int) < 2 ^ 63 := by
    rw [List.size_toArray, hlen]
    rw [List.length_map] at hz
    have : (sizeLine : Nat) < 2 ^ 63 := by decide
    omega
  have tok : ∀ {k : Nat}, Inv X pins σ H { s with toks := s.toks + k } := fun {k} => I.tok _
  by_cases e : its.length = ps.length
  · refine matchSeq_list_hit hl' hfit (by rw [List.size_toArray]; exact e) ?_ hstar hwild
    have I2 : Inv X pins σ H { s with toks := s.toks + 1 + 1 } := I.tok _
    have hsz : ps.length = its.toArray.size := by rw [List.size_toArray, e]
    rw [hsz]
    refine PySem.W.kun_itemsOf (I.ok.hd calm) hl' fun h' hx => ?_
    have I1 : Inv X pins σ H { s with heap := h', toks := s.toks + 1 + 1 } := I.kept (t' := s.toks + 1 + 1) fun b o e => hx b o (Nat.ne_of_lt (Heap.lt_size e)) e
    have hto : its.toArray.toList = its := by simp
    rw [hto]
    refine each_ok hp I1 rv (hlen.symm.trans e) (fun bs r s' hm hbr I3 => ?_) (fun s' hm I3 => ?_)
    · refine store_all nd hbr I3 fun s4 I4 => ?_
      refine hb.run pins s4 _ H D I4 ?_
      unfold tCase at h
      rw [hm] at h
      exact h
    · refine hr.run pins s' σ H D l ws false I3 hS ?_
      unfold tCase at h
      rw [hm] at h
      exact h
  · refine matchSeq_list_miss hl' hfit (by rw [List.size_toArray]; exact e) ?_ hstar hwild
    refine hr.run pins _ σ H D l ws false (I.tok _) hS ?_
    unfold tCase at h
    rw [matchW_len fun z => e (by rw [hlen, ← z, hp.len])] at h
    exact h
theorem ps_match {subject : Expr} {cases : List MatchCase} {pos : Pos} {te : TE} {t : List Str → TS} (he : PE X subject te) (hc : PCs X cases t) : PS X (.Match subject cases pos) (fun D σ H => te σ H fun v H1 => ∃ l ws, v = .ref l ∧ SqL X.K H1 l (ws.map V.str) ∧ t ws D σ H1) := by
  refine ⟨fun pins s σ H D I h => ?_⟩
  refine wpAny_Match (thn (he.run pins s σ H _ I h) fun u s1 ⟨v, H1, I1, rv, l, ws, ev, hS, ht⟩ => ?_)
  subst ev
  obtain rfl : u = Value.ref l := rv
  exact hc.run pins s1 σ H1 D l ws true I1 hS ht
end
end Fx

namespace Fx
open PySem PySem.Spec PyProof.Rows L2
/-! ### a try whose body never raises -/
section
variable {X : Cx}
theorem ps_try_calm {body : List Stmt} {h₀ : ExceptHandler} {hs : List ExceptHandler} {pos : Pos} {tb : TS} (hbody : ∀ (pn : List (Addr × Obj)) (xe : Value → Shared → Prop), PSs (X.tr pn xe) body tb) : PS X (.Try body (h₀ :: hs) [] [] pos) tb := by
  refine ⟨fun pins s σ H D I h => wpAny_Try_except ?_⟩
  have ok := I.ok
  have R := (hbody (X.pn ++ pins) (fun e s₁ => wpAny (model X.prog X.w) X.A (noteFrame e X.env) (fun _ s₂ => wpAny (model X.prog X.w) X.A (setFlight e none) (fun _ s₃ => wpAny (model X.prog X.w) X.A (handleBy e X.env (h₀ :: hs)) (SP X pins D) X.xe s₃) X.xe s₂) X.xe s₁)).run [] s σ H D (Inv.toTry I _) h
  refine wpAny_mono R (fun f s1 hs => ?_) fun _ _ z => z
  cases f with
  | next =>
    obtain ⟨τ, G, J, q⟩ := hs
    exact wpAny_execs_nil ⟨τ, G, Inv.ofTry J ok, q⟩
  | brk =>
    obtain ⟨τ, G, J, q⟩ := hs
    exact ⟨τ, G, Inv.ofTry J ok, q⟩
  | cont =>
    obtain ⟨τ, G, J, q⟩ := hs
    exact ⟨τ, G, Inv.ofTry J ok, q⟩
  | ret u =>
    obtain ⟨v, τ, G, J, r, q⟩ := hs
    exact ⟨v, τ, G, Inv.ofTry J ok, r, q⟩
end
theorem tCase_hit {ts : List Pt} {tb : TS} {tr : List Str → TS} {ws : List Str} {D : Ends} {σ : L2.St} {H : Hp} {bs : List (Nat × Str)} (h : matchW ts ws = some bs) (k : tb D (setS σ bs) H) : tCase ts tb tr ws D σ H := by
  unfold tCase
  rw [h]
  exact k
theorem tCase_miss {ts : List Pt} {tb : TS} {tr : List Str → TS} {ws : List Str} {D : Ends} {σ : L2.St} {H : Hp} (h : matchW ts ws = none) (k : tr ws D σ H) : tCase ts tb tr ws D σ H := by
  unfold tCase
  rw [h]
  exact k
theorem mw_head {z w : Str} {ps : List Pt} {ws : List Str} (h : ¬ w = z) : matchW (.inl z :: ps) (w :: ws) = none := by
  show (if w = z then matchW ps ws else none) = none
  rw [if_neg h]
theorem mw_same {z : Str} {ps : List Pt} {ws : List Str} : matchW (.inl z :: ps) (z :: ws) = matchW ps ws := by
  show (if z = z then matchW ps ws else none) = _
  rw [if_pos rfl]
/-! ### numbers in figures of ten -/
def decs (n : Nat) : List Nat := if n < 10 then [n] else [n / 10, n % 10]
theorem decs_show {n : Nat} (h : n < 40) : ((toString (n : Int) : String) : Str) = txt (decs n) := by
  have a : ∀ n ∈ List.range 40, ((toString ((n : Nat) : Int) : String) : Str) = txt (decs n) := by decide +kernel
  exact a n (List.mem_range.mpr h)
theorem decs_reads {n : Nat} (h : n < 100) : Reads 10 (decs n) := by
  unfold decs
  by_cases c : n < 10
  · rw [if_pos c]
    exact ⟨by simp, fun d hd => by cases List.mem_singleton.mp hd; omega, fun _ _ _ => rfl⟩
  · rw [if_neg c]
    refine ⟨by simp, fun d hd => ?_, fun d hd z => ?_⟩
    · rcases List.mem_cons.mp hd with rfl | hd
      · omega
      · cases List.mem_singleton.mp hd
        omega
    · have : d = n / 10 := by
        cases hd
        rfl
      omega
theorem decs_val {n : Nat} : val 10 (decs n) = n := by
  unfold decs
  by_cases c : n < 10
  · rw [if_pos c, val_one]
  · rw [if_neg c]
    show (0 * 10 + n / 10) * 10 + n % 10 = n
    omega
theorem decs_len {n : Nat} : (decs n).length ≤ 2 := by
  unfold decs
  by_cases c : n < 10
  · rw [if_pos c]
    show 1 ≤ 2
    omega
  · rw [if_neg c]
    exact Nat.le_refl _
/-! ### lines -/
abbrev tx (n : Nat) : Str := txt (decs n)
def pairLine (b p : Nat) : Str := ((Str.empty ++ ("pair " : Str)) ++ tx b) ++ (" " : Str) ++ tx p
def setLine (pl f : Nat) : Str := ((Str.empty ++ ("set " : Str)) ++ tx pl) ++ (" " : Str) ++ one (sg f)
def putLine (f : Nat) : Str := ("put " : Str) ++ one (sg f)
theorem split_pair {b p : Nat} (hb : b < 17) (hp : p < 11) : Txt.split (pairLine b p) " " = [("pair" : Str), tx b, tx p] := by
  have a : ∀ n ∈ List.range 17, ∀ f ∈ List.range 11, Txt.split (pairLine n f) " " = [("pair" : Str), tx n, tx f] := by decide +kernel
  exact a b (List.mem_range.mpr hb) p (List.mem_range.mpr hp)
theorem split_set {b p : Nat} (hb : b < 40) (hp : p < 16) : Txt.split (setLine b p) " " = [("set" : Str), tx b, one (sg p)] := by
  have a : ∀ n ∈ List.range 40, ∀ f ∈ List.range 16, Txt.split (setLine n f) " " = [("set" : Str), tx n, one (sg f)] := by decide +kernel
  exact a b (List.mem_range.mpr hb) p (List.mem_range.mpr hp)
theorem split_put {p : Nat} (hp : p < 16) : Txt.split (putLine p) " " = [("put" : Str), one (sg p)] := by
  have a : ∀ f ∈ List.range 16, Txt.split (putLine f) " " = [("put" : Str), one (sg f)] := by decide +kernel
  exact a p (List.mem_range.mpr hp)
theorem split_off : Txt.split "off" " " = [("off" : Str)] := by decide +kernel
theorem split_show : Txt.split "show" " " = [("show" : Str)] := by decide +kernel
theorem split_step : Txt.split "step" " " = [("step" : Str)] := by decide +kernel
theorem split_ends : Txt.split "ends" " " = [("ends" : Str)] := by decide +kernel
theorem len_pair {b p : Nat} (hb : b < 17) (hp : p < 11) : (pairLine b p).length ≤ 40 := by
  have a : ∀ n ∈ List.range 17, ∀ f ∈ List.range 11, (pairLine n f).length ≤ 40 := by decide +kernel
  exact a b (List.mem_range.mpr hb) p (List.mem_range.mpr hp)
theorem len_set {b p : Nat} (hb : b < 40) (hp : p < 16) : (setLine b p).length ≤ 40 := by
  have a : ∀ n ∈ List.range 40, ∀ f ∈ List.range 16, (setLine n f).length ≤ 40 := by decide +kernel
  exact a b (List.mem_range.mpr hb) p (List.mem_range.mpr hp)
theorem len_put {p : Nat} (hp : p < 16) : (putLine p).length ≤ 40 := by
  have a : ∀ f ∈ List.range 16, (putLine f).length ≤ 40 := by decide +kernel
  exact a p (List.mem_range.mpr hp)
/-! ### the desk as it stands -/
theorem dkb1 : ¬ (("base" : Str) = "power") := by decide +kernel
theorem dkb2 : ¬ (("base" : Str) = "number") := by decide +kernel
theorem dkp2 : ¬ (("power" : Str) = "number") := by decide +kernel
def df (b p : Int) (q : Addr) : List (Str × V) := [("base", V.int b), ("power", V.int p), ("number", V.ref q)]
theorem df_put (b p : Int) (q : Addr) : putF "number" (.ref q) (putF "power" (.int p) (putF "base" (.int b) [])) = df b p q := by
  show putF "number" (.ref q) (if ("base" : Str) = "power" then [(("base" : Str), V.int p)] else (("base" : Str), V.int b) :: [(("power" : Str), V.int p)]) = _
  rw [if_neg dkb1]
  show (if ("base" : Str) = "number" then _ else (("base" : Str), V.int b) :: (if ("power" : Str) = "number" then _ else (("power" : Str), V.int p) :: [(("number" : Str), V.ref q)])) = _
  rw [if_neg dkb2, if_neg dkp2]
  rfl
theorem df_base (b p : Int) (q : Addr) (c : Int) : putF "base" (.int c) (df b p q) = df c p q := by
  show (if ("base" : Str) = "base" then _ else _) = _
  rw [if_pos rfl]
  rfl
theorem df_power (b p : Int) (q : Addr) (c : Int) : putF "power" (.int c) (df b p q) = df b c q := by
  show (if ("base" : Str) = "power" then _ else (("base" : Str), V.int b) :: (if ("power" : Str) = "power" then _ else _)) = _
  rw [if_neg dkb1, if_pos rfl]
  rfl
theorem df_number (b p : Int) (q r : Addr) : putF "number" (.ref r) (df b p q) = df b p r := by
  show (if ("base" : Str) = "number" then _ else (("base" : Str), V.int b) :: (if ("power" : Str) = "number" then _ else (("power" : Str), V.int p) :: (if ("number" : Str) = "number" then _ else _))) = _
  rw [if_neg dkb2, if_neg dkp2, if_pos rfl]
  rfl
theorem look_of {m k : Str} {v : V} {r : List (Str × V)} : List.lookup m ((k, v) :: r) = if m = k then some v else List.lookup m r := by
  rw [List.lookup_cons]
  by_cases c : m = k
  · rw [if_pos c, c]
    simp
  · rw [if_neg c]
    have : (m == k) = false := by
      simpa using c
    rw [this]
theorem df_at_base (b p : Int) (q : Addr) : (df b p q).lookup ("base" : Str) = some (.int b) := by
  unfold df
  rw [look_of, if_pos rfl]
theorem df_at_power (b p : Int) (q : Addr) : (df b p q).lookup ("power" : Str) = some (.int p) := by
  unfold df
  rw [look_of, if_neg (Ne.symm dkb1), look_of, if_pos rfl]
theorem df_at_number (b p : Int) (q : Addr) : (df b p q).lookup ("number" : Str) = some (.ref q) := by
  unfold df
  rw [look_of, if_neg (Ne.symm dkb2), look_of, if_neg (Ne.symm dkp2), look_of, if_pos rfl]
theorem df_no (b p : Int) (q : Addr) {m : Str} (h1 : ¬ m = "base") (h2 : ¬ m = "power") (h3 : ¬ m = "number") : (df b p q).lookup m = none := by
  unfold df
  rw [look_of, if_neg h1, look_of, if_neg h2, look_of, if_neg h3]
  rfl
theorem df_len (b p : Int) (q : Addr) : (df b p q).length < 1000 := by
  show 3 < 1000
  decide
structure DeskAt (C D : Addr) (H : Hp) (p q w l : Addr) (b pw : Nat) (fs : List Nat) : Prop where
  ins : ∃ dx, H p = some (.ins D dx (df (b : Int) (pw : Int) q))
  kept : KeptAt C H q w l b pw fs
  pq : p ≠ q
  reads : Reads b fs
theorem DeskAt.pw {C D : Addr} {H : Hp} {p q w l : Addr} {b pw : Nat} {fs : List Nat} (h : DeskAt C D H p q w l b pw fs) : p ≠ w := by
  obtain ⟨dx, e⟩ := h.ins
  exact ne_of e h.kept.ws (fun z => by cases z)
theorem DeskAt.pl {C D : Addr} {H : Hp} {p q w l : Addr} {b pw : Nat} {fs : List Nat} (h : DeskAt C D H p q w l b pw fs) : p ≠ l := by
  obtain ⟨dx, e⟩ := h.ins
  exact ne_of e h.kept.fg (fun z => by cases z)
theorem DeskAt.frm {C D : Addr} {S : List Addr} {H H' : Hp} {p q w l : Addr} {b pw : Nat} {fs : List Nat} (h : DeskAt C D H p q w l b pw fs) (a : Frm S H H') (h0 : p ∉ S) (h1 : q ∉ S) (h2 : w ∉ S) (h3 : l ∉ S) : DeskAt C D H' p q w l b pw fs := by
  obtain ⟨dx, e⟩ := h.ins
  exact ⟨⟨dx, a.kp _ _ h0 e⟩, h.kept.frm a h1 h2 h3, h.pq, h.reads⟩
theorem DeskAt.same {C D : Addr} {H H' : Hp} {p q w l : Addr} {b pw : Nat} {fs : List Nat} (h : DeskAt C D H p q w l b pw fs) (a : Same H H') : DeskAt C D H' p q w l b pw fs := h.frm (Frm.of [] a) (by simp) (by simp) (by simp) (by simp)
/-- what is no part of a desk -/
structure Far (H : Hp) (p q w l t : Addr) : Prop where
  there : ∃ o, H t = some o
  hp : t ≠ p
  hq : t ≠ q
  hw : t ≠ w
  hl : t ≠ l
/-- a desk's parts before and after a line -/
structure Aft (H H' : Hp) (p q w l q' w' l' : Addr) : Prop where
  hq : q' = q ∨ H q' = none
  hw : w' = w ∨ H w' = none
  hl : l' = l ∨ H l' = none
  frm : Frm [p, q, l] H H'
theorem Aft.of {H H' : Hp} {p q w l : Addr} (s : Same H H') : Aft H H' p q w l q w l := ⟨.inl rfl, .inl rfl, .inl rfl, Frm.of _ s⟩
theorem Aft.at {H H' : Hp} {p q w l q' w' l' t : Addr} {o : HO} (a : Aft H H' p q w l q' w' l') (f : Far H p q w l t) (e : H t = some o) : H' t = some o := by
  refine a.frm.kp _ _ ?_ e
  simp only [List.mem_cons, List.not_mem_nil, or_false, not_or]
  exact ⟨f.hp, f.hq, f.hl⟩
theorem Aft.far {H H' : Hp} {p q w l q' w' l' t : Addr} (a : Aft H H' p q w l q' w' l') (f : Far H p q w l t) : Far H' p q' w' l' t := by
  obtain ⟨o, e⟩ := f.there
  have n : ∀ {x y : Addr}, t ≠ y → (x = y ∨ H x = none) → t ≠ x := fun h1 h2 => by
    rcases h2 with rfl | h2
    · exact h1
    · exact ne_of_none e h2
  exact ⟨⟨o, a.at f e⟩, f.hp, n f.hq a.hq, n f.hw a.hw, n f.hl a.hl⟩
/-- a list of texts, or an empty one, is no part of a desk; nor is a tuple -/
theorem DeskAt.far {C D : Addr} {H : Hp} {p q w l t : Addr} {b pw : Nat} {fs : List Nat} {o : HO} (h : DeskAt C D H p q w l b pw fs) (e : H t = some o) (n1 : ∀ D dx k, o ≠ .ins D dx k) (n2 : ∀ n ns, o ≠ .lst (ivs (n :: ns))) : Far H p q w l t := by
  obtain ⟨dx, e1⟩ := h.ins
  obtain ⟨dy, e2⟩ := h.kept.ins
  refine ⟨⟨_, e⟩, ne_of e e1 (n1 _ _ _), ne_of e e2 (n1 _ _ _), ?_, ?_⟩
  · refine ne_of e h.kept.ws ?_
    have lw := wts_len b pw
    have hb := h.kept.ok.hb
    match wts b pw, lw with
    | [], lw => exact absurd lw (by rw [List.length_nil]; omega)
    | n :: ns, _ => exact n2 n ns
  · refine ne_of e h.kept.fg ?_
    have ne := h.reads.ne
    match fs, ne with
    | [], ne => exact absurd rfl ne
    | n :: ns, _ => exact n2 n ns
/-- what may be asked, what is then, what is told -/
inductive Ask (b pw : Nat) (fs : List Nat) : List Str → Nat → Nat → List Nat → (List V → Prop) → Prop
  | pair {b' pw' : Nat} (ok : OkN b' pw') : Ask b pw fs ["pair", tx b', tx pw'] b' pw' [0] (fun r => r = [])
  | put {f : Nat} (hf : f < b) (hl : fs.length < 40) : Ask b pw fs ["put", one (sg f)] b pw (putFs fs f) (fun r => r = [])
  | off : Ask b pw fs ["off"] b pw (offFs fs) (fun r => r = [])
  | set {pl f : Nat} (hf : f < b) (hp : pl < fs.length) (hz : f = 0 → pl + 1 = fs.length → fs.length = 1) : Ask b pw fs ["set", tx pl, one (sg f)] b pw (fs.set (fs.length - 1 - pl) f) (fun r => r = [])
  | show : Ask b pw fs ["show"] b pw fs (fun r => r = [.str (txt (figs b (val b fs)))])
  | step : Ask b pw fs ["step"] b pw fs (fun r => r = [.str (txt (figs b (fs.map (· ^ pw)).sum))])
  | ends : Ask b pw fs ["ends"] b pw fs (fun r => ∃ A m, EndAt b pw (val b fs) A m ∧ r = [.str (((Str.empty ++ ((toString (A : Int) : String) : Str)) ++ (" " : Str)) ++ txt (figs b m))])
end Fx

namespace Fx
open PySem PySem.Spec PyProof.Rows L2
theorem str_len (x y : Str) : (x ++ y).length = x.length + y.length := by
  show (x.cps ++ y.cps).size = _
  rw [Array.size_append]
  rfl
theorem DeskAt.fin {C D : Addr} {H H1 H2 : Hp} {p q w l l1 : Addr} {b pw : Nat} {fs fs' : List Nat} (h : DeskAt C D H p q w l b pw fs) (K1 : KeptAt C H1 q w l1 b pw fs') (hl : l1 = l ∨ H l1 = none) (F1 : Frm [q, l] H H1) (s2 : Same H1 H2) (rd : Reads b fs') : DeskAt C D H2 p q w l1 b pw fs' ∧ Aft H H2 p q w l q w l1 := by
  obtain ⟨dx, e⟩ := h.ins
  have np : p ∉ [q, l] := by
    simp only [List.mem_cons, List.not_mem_nil, or_false, not_or]
    exact ⟨h.pq, h.pl⟩
  exact ⟨⟨⟨dx, s2 _ _ (F1.kp _ _ np e)⟩, K1.same s2, h.pq, rd⟩, ⟨.inl rfl, .inl rfl, hl, (F1.mono (fun x hx => List.mem_cons_of_mem _ hx)).trans (Frm.of _ s2)⟩⟩
theorem EndAt.le {b p n A m : Nat} (ok : OkN b p) (hn : n < 2 ^ 200) (h : EndAt b p n A m) : A ≤ 15030 := by
  have half : ∀ i j, i < j → j < A → itN b p n i = itN b p n j → False := fun i j hij hj e => by
    refine h.first i (by omega) ⟨j - i, by omega, ?_⟩
    rw [← itN_add, show i + (j - i) = j by omega, e]
  refine (near_of ok hn).rep fun i j hi hj e => ?_
  rcases Nat.lt_trichotomy i j with z | z | z
  · exact (half i j z hj e).elim
  · exact z
  · exact (half j i z hi e.symm).elim
theorem EndAt.m900 {b p n A m : Nat} (ok : OkN b p) (hn : n < 2 ^ 200) (h : EndAt b p n A m) : m < 2 ^ 900 := by
  obtain ⟨i, _, rfl⟩ := h.on
  exact Nat.lt_of_lt_of_le (itN_lt200 ok hn i) (Nat.pow_le_pow_right (by decide) (by decide))
theorem figs_txt_len {b n : Nat} (hb : 2 ≤ b) (hn : n < 2 ^ 900) : (txt (figs b n)).length ≤ 900 := by
  rw [txt_len]
  exact figs_le hb hn
theorem end_len {A : Nat} (hA : A < 2 ^ 40) : (Str.ofString (toString (A : Int))).length ≤ 100000 := by
  have e : (((A : Nat) : Int)).natAbs.log2 < 40 := by
    show A.log2 < 40
    by_cases z : A = 0
    · rw [z]; decide
    · exact (Nat.log2_lt z).mpr hA
  have := int_text_length_le (a := ((A : Nat) : Int)) (k := 40) (by decide) e
  rw [PySem.ofString_length]
  omega
theorem cut_intsTo (l : List Int) (i : Nat) : cutV (l.map V.int) none (some (i : Int)) = (l.take i).map V.int := by
  rw [cut_to, List.map_take]
theorem figs_cut {b m : Nat} (hb : 2 ≤ b) : figs b m = (if m < b then [] else figs b (m / b)) ++ [m % b] := by
  unfold figs
  by_cases c : m < b
  · rw [if_pos c, lsd_lt c, Nat.mod_eq_of_lt c]
    rfl
  · rw [if_neg c, lsd_ge hb (by omega), List.reverse_cons]
theorem ok_10_2 : OkN 10 2 := okN_of (by decide) (by decide) (by decide) (by decide +kernel)
end Fx

namespace Fx
open PySem PySem.Spec PyProof.Rows L2
theorem Aft.pre {H H1 H2 : Hp} {p q w l q' w' l' : Addr} (s : Same H H1) (a : Aft H1 H2 p q w l q' w' l') : Aft H H2 p q w l q' w' l' :=
  ⟨a.hq.imp id s.free, a.hw.imp id s.free, a.hl.imp id s.free, (Frm.of _ s).trans a.frm⟩
theorem up900 {n : Nat} (h : n < 2 ^ 200) : n < 2 ^ 900 := Nat.lt_of_lt_of_le h (Nat.pow_le_pow_right (by decide) (by decide))
theorem KeptAt.v900 {C : Addr} {H : Hp} {p w l : Addr} {b pw : Nat} {fs : List Nat} (h : KeptAt C H p w l b pw fs) : val b fs < 2 ^ 900 := up900 (h.good.val200 h.ok.hb h.ok.hb16)
theorem KeptAt.s900 {C : Addr} {H : Hp} {p w l : Addr} {b pw : Nat} {fs : List Nat} (h : KeptAt C H p w l b pw fs) : (fs.map (· ^ pw)).sum < 2 ^ 900 := by
  have h1 : (fs.map (· ^ pw)).sum ≤ (fs.map (· ^ pw)).length * 1024 := sum_le_mul fun x hx => by
    obtain ⟨f, hf, rfl⟩ := List.mem_map.mp hx
    exact Nat.le_trans (pow_le_base (h.good.lt f hf)) h.ok.worth.2
  rw [List.length_map] at h1
  have h2 := h.good.len
  have h3 : (40 * 1024 : Nat) < 2 ^ 900 := Nat.lt_of_lt_of_le (show 40 * 1024 < 2 ^ 16 by decide) (Nat.pow_le_pow_right (by decide) (by decide))
  have h4 : fs.length * 1024 ≤ 40 * 1024 := Nat.mul_le_mul_right _ h2
  exact Nat.lt_of_le_of_lt (Nat.le_trans h1 h4) h3
/-- lines that change nothing -/
def Looks (ws : List Str) : Prop := ws = [("show" : Str)] ∨ ws = [("step" : Str)] ∨ ws = [("ends" : Str)]
theorem noLook2 {ws : List Str} (h : ws.length ≠ 1) (l : Looks ws) : False := by
  rcases l with rfl | rfl | rfl <;> exact h rfl
theorem noLookOff (l : Looks [("off" : Str)]) : False := by
  have a : ¬ (("off" : Str) = "show") := by decide +kernel
  have b : ¬ (("off" : Str) = "step") := by decide +kernel
  have c : ¬ (("off" : Str) = "ends") := by decide +kernel
  rcases l with h | h | h
  · exact a (List.cons.inj h).1
  · exact b (List.cons.inj h).1
  · exact c (List.cons.inj h).1
theorem lc_keys {d : Addr} {o : Obj} {kvs : List (Key × V)} {g : TG} {tt : TT} {te : TE} {vs : List Nat} {σ : L2.St} {H1 : Hp} {D : Addr} {Qd : Hp → Prop} (Pv : Nat → Hp → Prop) (h0 : Pv 0 (upd H1 D (.lst []))) (hl : ∀ i H, i ≤ kvs.length → Pv i H → H d = some (.frz o (.dK kvs)))
    (hs : ∀ i k v H, kvs[i]? = some (k, v) → Pv i H → g (kV k) (wipe σ vs) H fun σ2 H2 => wipe σ2 vs = wipe σ vs ∧ tt σ2 H2 fun b H3 =>
      if b = true then te σ2 H3 fun y H4 => ∃ acc, H4 D = some (.lst acc) ∧ acc.length < sizeLine ∧ Pv (i + 1) (upd H4 D (.lst (acc ++ [y]))) else Pv (i + 1) H3) (hd : ∀ H, Pv kvs.length H → Qd H) :
    ∃ W : Nat → Nat → Hp → Prop, (∃ m, W 0 m (upd H1 D (.lst []))) ∧ ∀ i m H, W i m H →
      ((Itk d o kvs).stop i H ∧ Qd H) ∨ ((Itk d o kvs).go i H ∧ ∃ Nx : Hp → Prop, (∀ H', Nx H' → ∃ m', m' < m ∧ W (i + 1) m' H') ∧ ∀ x H', (Itk d o kvs).yld i H x H' → g x (wipe σ vs) H' fun σ2 H2 => wipe σ2 vs = wipe σ vs ∧ tt σ2 H2 fun b H3 =>
        if b = true then te σ2 H3 fun y H4 => ∃ acc, H4 D = some (.lst acc) ∧ acc.length < sizeLine ∧ Nx (upd H4 D (.lst (acc ++ [y]))) else Nx H3) := by
  refine ⟨fun i m H => m = kvs.length - i ∧ i ≤ kvs.length ∧ Pv i H, ⟨kvs.length, by simp, Nat.zero_le _, h0⟩, ?_⟩
  rintro i m H ⟨rfl, hi, p⟩
  have q := hl i H hi p
  by_cases hlt : i < kvs.length
  · refine .inr ⟨⟨q, hlt⟩, Pv (i + 1), fun H' p' => ⟨kvs.length - (i + 1), by omega, rfl, hlt, p'⟩, fun x H' y => ?_⟩
    obtain ⟨rfl, k, v, e, rfl⟩ := y
    exact hs i k v H' e p
  · exact .inl ⟨⟨q, by omega⟩, hd H (by rw [show kvs.length = i by omega]; exact p)⟩
theorem dgetF {H : Hp} {a : Addr} {od : Obj} {kvs : List (Key × V)} {k : Key} {r : Option V} (e : H a = some (.frz od (.dK kvs))) (v : valV kvs k = r) : DGet H a (kV k) r := by
  subst v
  exact .inl ⟨kvs, k, .inr ⟨od, e⟩, rfl, rfl⟩
theorem kvsOf_get {f : Nat → Int} {g : Nat → V} {L i : Nat} {k : Key} {v : V} (h : (kvsOf f g L)[i]? = some (k, v)) : i < L ∧ k = Sum.inl (f i) ∧ v = g i := by
  have hi : i < L := by
    have := (List.getElem?_eq_some_iff.mp h).1
    rw [kvsOf_len] at this
    exact this
  unfold kvsOf at h
  rw [List.getElem?_map, List.getElem?_range hi] at h
  cases h
  exact ⟨hi, rfl, rfl⟩
theorem rowN_drop_low {b p n i A : Nat} (h : i ≤ A) : (rowN b p n i).drop A = [] := List.drop_eq_nil_of_le (by rw [rowN_len]; exact h)
theorem rowN_drop_more {b p n i A : Nat} (h : A ≤ i) : (rowN b p n (i + 1)).drop A = (rowN b p n i).drop A ++ [itN b p n i] := by
  show (rowN b p n i ++ [itN b p n i]).drop A = _
  rw [List.drop_append_of_le_length (by rw [rowN_len]; exact h)]
theorem val_off {b : Nat} {fs : List Nat} (hb : 2 ≤ b) (ne : fs ≠ []) (lt : ∀ f ∈ fs, f < b) : val b (offFs fs) = val b fs / b := by
  obtain ⟨r, d, rfl⟩ : ∃ r d, fs = r ++ [d] := ⟨fs.dropLast, fs.getLast ne, (List.dropLast_concat_getLast ne).symm⟩
  have hd : d < b := lt d (by simp)
  unfold offFs
  by_cases c : (r ++ [d]).length = 1
  · rw [if_pos c]
    rw [List.length_append] at c
    have z : [d].length = 1 := rfl
    obtain rfl : r = [] := List.length_eq_zero_iff.mp (by omega)
    rw [List.nil_append, val_one, val_one, Nat.div_eq_of_lt hd]
  · rw [if_neg c, List.dropLast_concat, val_snoc]
    rw [Nat.mul_comm, Nat.mul_add_div (by omega), Nat.div_eq_of_lt hd]
    omega
theorem val_set {b f old : Nat} : ∀ (l : List Nat) (i : Nat), l[i]? = some old → val b (l.set i f) + old * b ^ (l.length - 1 - i) = val b l + f * b ^ (l.length - 1 - i)
  | [], _, h => by simp at h
  | d :: r, 0, h => by
    obtain rfl : d = old := by simpa using h
    show val b (f :: r) + d * b ^ (r.length + 1 - 1 - 0) = val b (d :: r) + f * b ^ (r.length + 1 - 1 - 0)
    rw [val_cons, val_cons, show r.length + 1 - 1 - 0 = r.length by omega]
    omega
  | d :: r, i + 1, h => by
    have ih := val_set (b := b) (f := f) (old := old) r i h
    show val b (d :: r.set i f) + old * b ^ (r.length + 1 - 1 - (i + 1)) = val b (d :: r) + f * b ^ (r.length + 1 - 1 - (i + 1))
    rw [val_cons, val_cons, List.length_set, show r.length + 1 - 1 - (i + 1) = r.length - 1 - i by omega]
    omega
theorem val_setI {b f old pl : Nat} {fs : List Nat} (hp : pl < fs.length) (ho : fs[fs.length - 1 - pl]? = some old) : ((val b (fs.set (fs.length - 1 - pl) f) : Nat) : Int) = (val b fs : Int) + ((f : Int) - (old : Int)) * (b : Int) ^ pl := by
  have h := val_set (b := b) (f := f) fs _ ho
  rw [show fs.length - 1 - (fs.length - 1 - pl) = pl by omega] at h
  have h2 : ((val b (fs.set (fs.length - 1 - pl) f) : Nat) : Int) + (old : Int) * (b : Int) ^ pl = (val b fs : Int) + (f : Int) * (b : Int) ^ pl := by
    have := congrArg (fun (x : Nat) => (x : Int)) h
    simp only [Int.natCast_add, Int.natCast_mul, Int.natCast_pow] at this
    exact this
  rw [Int.sub_mul]
  omega
end Fx

namespace Fx
open PySem PySem.Spec PyProof.Rows L2
/-! ### a method that may raise -/
def tMethX (C : Addr) (m : Str) (sp : Sp) (E : L2.St → XK) (ta : TE) (t : TA) : TE := fun σ H Q => ta σ H fun x H1 => ∃ a dx fs, x = .ref a ∧ H1 a = some (.ins C dx fs) ∧ fs.lookup m = none ∧
  t σ H1 fun vs H2 => sp (x :: vs) H2 Q (E σ)
section
variable {X : Cx} {CX : CXT} {k : Nat} {f C : Addr} {fd : FuncData} {ps : List Str} {sp : Sp} {E : L2.St → XK} {m : Str} {pos apos : Pos} {e o : Expr} {es : List Expr} {ta : TE} {t : TA}
theorem pe_methX {pl : Sem Bool} (he : PE X o ta) (c : Cls X.K C) (hm : Meth X.K C m f) (F : FnOk X.prog X.w X.K X.mg X.base CX k f fd ps sp) (hr : Room k X.A) (hb : Binds X.K fd ps []) (hx : ∀ σ, PassesAt CX X σ (E σ)) (ha : PA X (e :: es) t)
    (hst : starEach (e :: es) X.env = (false, eval e X.env) :: starEach es X.env := by rfl) (hpl : (backTo pos (starEach es X.env)).any (·.1) = false := by rfl)
    (ht : eval (.Call (.Attribute o m apos) (e :: es) [] pos) X.env = (do
      let ov ← eval o X.env
      standAt apos.atName
      let (f, first) ← holding [ov] (getMethod ov m pl)
      callWith pos f first (backTo pos (starEach (e :: es) X.env)) (backToKw pos (keywordEach [] X.env))) := by rfl) :
    PE X (.Call (.Attribute o m apos) (e :: es) [] pos) (tMethX C m sp E ta t) := by
  refine ⟨fun pins s σ H Q I h => ?_⟩
  refine PySem.W.methodCall_KW (pl := pl) (thn (he.run pins s σ H _ I h) fun u s1 ⟨x, H1, I1, rx, a, dx, fs, ex, ea, l, q⟩ => ?_) ht
  subst ex
  obtain rfl : u = Value.ref a := rx
  refine getmeth_ok I1 ea c hm l ?_
  refine PySem.W.callWith_K (first := [.ref a]) (h₀ := X.base) I.ok.mod.kin hm.kp (thn (ha.run pos pins s1 σ H1 _ I1 q) fun us s2 ⟨vs, H2, I2, r, q2⟩ => ⟨I2.kIn, ?_⟩) hst hpl
  exact run_fnS (us := .ref a :: us) (vs := .ref a :: vs) F hr hb (hx σ) I2 (.cons rfl r) q2
end
end Fx

namespace Fx
open PySem PySem.Spec PyProof.Rows L2
theorem hu2 {k : Nat} {A : Around} (r : Room k A) : A.units + 2 < cLine := Nat.lt_of_le_of_lt (Nat.add_le_add_left (by decide : 2 ≤ 64) _) r.units
/-! ### str of an own exception that is made there and then of one text -/
section
variable {X : Cx}
theorem pe_strExc {C : Addr} {bmB : List Value} {B newId initId : String} {x : Str} {e : Expr} {ta : TE} {p0 pos0 p pos : Pos} (hg0 : Gl X "str") (hm0 : X.mg "str" = none) (F : ExcBaseFacts B newId initId bmB) (q : PySem.W.excIn X.K C bmB newId = true) (gC : X.mg x = some (.ref C)) (kC : PySem.W.keepIn X.K (.ref C) = true) (hg : Gl X x)
    (hs' : PySem.W.findIn X.K (.ref C) "__str__" = some (some (.builtin "BaseException.__str__"))) (hB : PySem.W.subIn X.K (.ref C) (.type "BaseException") = some true) (hu : X.A.units + 2 < cLine) (he : PE X e ta)
    (hs : starEach [e] X.env = (false, eval e X.env) :: starEach [] X.env := by rfl) (hdb : (x == ("__debug__" : Str)) = false := by decide)
    (hs0 : starEach [.Call (.Name x p) [e] [] pos] X.env = (false, eval (.Call (.Name x p) [e] [] pos) X.env) :: starEach [] X.env := by rfl) (hv0 : bootBuiltins "str" = some (.type "str") := by decide +kernel) :
    PE X (.Call (.Name "str" p0) [.Call (.Name x p) [e] [] pos] [] pos0) (fun σ H Q => ta σ H fun v H1 => ∃ z : Str, v = .str z ∧ ∀ a, H1 a = none → Q (.str z) (upd H1 a (ExO (.ref C) a))) := by
  refine ⟨fun pins s σ H Q I h => ?_⟩
  refine wpAny_Call_Name_kw (ld_blt I hg0 hm0 hv0 ?_ (by decide) (by decide))
  refine PyProof.Rows.callWith_type1 ?_ hs0 (by rfl)
  rw [hs0]
  show wpAny _ _ (spliced ((false, eval (.Call (.Name x p) [e] [] pos) X.env) :: backTo pos0 (starEach [] X.env))) _ _ s
  refine Calls.spliced_cons ?_
  refine wpAny_Call_Name_kw (ld_glob I hg gC ?_ hdb)
  refine PySem.W.callWith_K (h₀ := X.base) I.ok.mod.kin kC ?_ hs (by rfl)
  rw [hs]
  show wpAny _ _ (spliced ((false, eval e X.env) :: backTo pos (starEach [] X.env))) _ _ s
  refine Calls.spliced_cons (thn (he.run pins s σ H _ I h) fun u s1 ⟨v, H1, I1, r1, z, ez, q1⟩ => ?_)
  subst ez
  refine Calls.spliced_nil ⟨I1.kIn, ?_⟩
  show wpAny _ _ (call (.ref C) [u]) _ _ _
  obtain ⟨bm, N, nm, qn, bs, hdct, sn, sub, ab, col, dd, k0, k1, k2, k3, k5, mN, hC, hN, hni, T⟩ := exc_obj I1.kIn q
  refine wpAny_call_exc_subT F T hC hN hni (fun h' a hm => ?_) (by show 1 ≤ sizeLine; rw [sizeLine_eq]; omega)
  have hn : H1 a = none := I1.hok.gone hm.new
  obtain ⟨t, ht, tn, tt⟩ := hm.there
  have I2 := I1.laidN (t' := s1.toks) hm.keeps hm.new hn (exO_ok (P := X.prog) (w := X.w) (H := upd H1 a (ExO (.ref C) a)) (cls := .ref C) ht ⟨rfl, rfl⟩ rfl rfl rfl (show 4 < 6 by decide))
  refine Calls.spliced_nil ?_
  obtain ⟨tk, eu⟩ : ∃ tk, u = Value.str z tk := r1
  subst eu
  have fin : EP X pins σ Q (Value.str z tk) { s1 with heap := h' } := ⟨.str z, _, I2, ⟨tk, rfl⟩, q1 a hn⟩
  exact PySem.P.str_of_C_one (m := z) (tk := tk) (t0 := t) hu ⟨I2.kIn, _, _, ht, rfl, rfl, rfl⟩ ⟨_, _, tt, rfl, rfl⟩ hs' hB fin
end
end Fx
namespace Fx
open PySem PySem.Spec PyProof.Rows L2
/-! ### a text again and again: its signs are the text's -/
def rMulS2 : R2 := fun x y H Q => ∃ (z : Str) (k : Nat), x = .str z ∧ y = .int (k : Int) ∧ 2 ≤ k ∧ k ≤ 1000 ∧ z.length ≤ 10000 ∧
  ∀ r : Str, r.length ≤ z.length * k → (∀ P : Nat → Bool, z.cps.all P = true → r.cps.all P = true) → Q (.str r) H
theorem fold_len2 (a : Array Nat) : ∀ (k : Nat) (acc : Array Nat), ((List.replicate k a).foldl (· ++ ·) acc).size = acc.size + a.size * k
  | 0, acc => by simp
  | k + 1, acc => by
    rw [List.replicate_succ, List.foldl_cons, fold_len2 a k, Array.size_append, Nat.mul_succ]
    omega
theorem fold_all (a : Array Nat) (P : Nat → Bool) (h : a.all P = true) : ∀ (k : Nat) (acc : Array Nat), acc.all P = true → ((List.replicate k a).foldl (· ++ ·) acc).all P = true
  | 0, acc, g => g
  | k + 1, acc, g => by
    rw [List.replicate_succ, List.foldl_cons]
    refine fold_all a P h k _ ?_
    rw [Array.all_append, g, h]
    rfl
theorem op_mulS2 {X : Cx} : OpR X (binaryOp .Mult) rMulS2 := by
  rintro pins s σ H x y u v Q I rx ry ⟨z, k, rfl, rfl, hk, hk2, hz, q⟩
  obtain ⟨t, rfl⟩ := rx
  obtain ⟨t2, rfl⟩ := ry
  have big : z.length * k ≤ 10000000 := Nat.le_trans (Nat.mul_le_mul hz hk2) (by decide)
  refine PySem.P.mul_str (by simp; omega) (fun _ _ => ?_) (fun _ _ => ?_) ?_
  · have d : (10000 : Int) ≤ (2 ^ 63 - 1) / (k : Int) := by
      rw [Int.le_ediv_iff_mul_le (by omega)]
      omega
    omega
  · rw [Int.toNat_natCast]
    exact decide_eq_false (by rw [sizeLine_eq]; omega)
  · rw [if_neg (by omega)]
    by_cases e : ((k : Int) == 1 || z.length == 0) = true
    · rw [if_pos e]
      exact ⟨.str z, H, I, ⟨t, rfl⟩, q z (Nat.le_mul_of_pos_right _ (by omega)) fun _ h => h⟩
    · rw [if_neg e]
      have len : (Str.mk ((List.replicate (k : Int).toNat z.cps).foldl (· ++ ·) #[])).length = z.length * k := by
        show ((List.replicate (k : Int).toNat z.cps).foldl (· ++ ·) #[]).size = _
        rw [Int.toNat_natCast, fold_len2]
        show 0 + z.cps.size * k = z.cps.size * k
        omega
      exact ⟨by rw [len, sizeLine_eq]; omega, .str _, H, I.tok _, ⟨s.toks, rfl⟩, q _ (Nat.le_of_eq len) fun P h => fold_all _ P h _ _ (by simp)⟩
theorem strOk_app {a b : Str} (h : PyData.strOk a = true) (g : PyData.strOk b = true) : PyData.strOk (a ++ b) = true := by
  unfold PyData.strOk at *
  show (a.cps ++ b.cps).all _ = true
  rw [Array.all_append, h, g]
  rfl
end Fx

namespace Fx
open PySem PySem.Spec PyProof.Rows L2
/-! ### texts that may be laid -/
theorem strOk_iff {x : Str} : PyData.strOk x = true ↔ ∀ c ∈ x.cps.toList, c < 0x110000 := by
  unfold PyData.strOk
  rw [← Array.all_toList, List.all_eq_true]
  simp
theorem strOk_cat {x y : Str} (h : PyData.strOk x = true) (g : PyData.strOk y = true) : PyData.strOk (x ++ y) = true := by
  rw [strOk_iff] at *
  intro c hc
  have e : (x ++ y).cps.toList = x.cps.toList ++ y.cps.toList := by
    show (x.cps ++ y.cps).toList = _
    rw [Array.toList_append]
  rw [e] at hc
  rcases List.mem_append.mp hc with z | z
  · exact h c z
  · exact g c z
theorem strOk_of (s : String) : PyData.strOk (Str.ofString s) = true := by
  rw [strOk_iff, PyProof.Rows.signs_ofString]
  intro c hc
  obtain ⟨d, _, rfl⟩ := List.mem_map.mp hc
  have := d.valid
  show d.val.toNat < 0x110000
  have h2 : d.val.toNat.isValidChar := d.valid
  rcases h2 with z | z
  · exact Nat.lt_of_lt_of_le z (by decide)
  · exact z.2
theorem strOk_txt {ds : List Nat} : PyData.strOk (txt ds) = true := by
  rw [strOk_iff]
  intro c hc
  rw [tl_txt] at hc
  obtain ⟨d, _, rfl⟩ := List.mem_map.mp hc
  have a : ∀ c ∈ figCodes, c < 0x110000 := by decide +kernel
  unfold sg
  rw [List.getD_eq_getElem?_getD]
  cases e : figCodes[d]? with
  | none => decide
  | some c => exact a c (List.mem_of_getElem? e)
theorem shapedS {x : Str} (h : PyData.strOk x = true) : SeqAt.shaped (.list [.str x]) = true := shaped_list (by rw [PyData.canLayAll0, PyData.canLayAll0, PyData.canLay0, h]; rfl) (by unfold PyData.depthAll PyData.depthAll PyData.depth; omega)
theorem dpS {K : PySem.W.Frag} {H : Hp} {a : Addr} {s : Str} (h : H a = some (.lst [.str s])) : Dp K H (.ref a) (.list [.str s]) := .lst (.of h) (.cons (.str _) .nil)
/-! ### what is held -/
def HRow (H : Hp) (v : V) : Prop := ∃ t a c s, v = .ref t ∧ H t = some (.tup [.ref a, .ref c]) ∧ H a = some (.lst [.str s]) ∧ H c = some (.lst [.str s]) ∧ PyData.strOk s = true
structure HeldAt (H : Hp) (h : Addr) (xs : List V) : Prop where
  at' : H h = some (.lst xs)
  rows : ∀ v ∈ xs, HRow H v
/-- a place that holds neither a tuple nor a list of one text -/
def Odd (H : Hp) (x : Addr) : Prop := (∀ ys, H x ≠ some (.tup ys)) ∧ ∀ s, H x ≠ some (.lst [.str s])
theorem HRow.frm {S : List Addr} {H H' : Hp} {v : V} (h : HRow H v) (F : Frm S H H') (o : ∀ x ∈ S, Odd H x) : HRow H' v := by
  obtain ⟨t, a, c, s, rfl, e1, e2, e3, z⟩ := h
  exact ⟨t, a, c, s, rfl, F.kp _ _ (fun m => (o _ m).1 _ e1) e1, F.kp _ _ (fun m => (o _ m).2 _ e2) e2, F.kp _ _ (fun m => (o _ m).2 _ e3) e3, z⟩
theorem HRow.same {H H' : Hp} {v : V} (h : HRow H v) (F : Same H H') : HRow H' v := h.frm (Frm.of [] F) (fun _ z => by cases z)
theorem HeldAt.same {H H' : Hp} {h : Addr} {xs : List V} (a : HeldAt H h xs) (F : Same H H') : HeldAt H' h xs := ⟨F _ _ a.at', fun v m => (a.rows v m).same F⟩
theorem HeldAt.frm {S : List Addr} {H H' : Hp} {h : Addr} {xs : List V} (a : HeldAt H h xs) (F : Frm S H H') (n : h ∉ S) (o : ∀ x ∈ S, Odd H x) : HeldAt H' h xs := ⟨F.kp _ _ n a.at', fun v m => (a.rows v m).frm F o⟩
theorem HeldAt.odd {H : Hp} {h : Addr} {xs : List V} (a : HeldAt H h xs) : Odd H h := by
  refine ⟨fun ys z => ?_, fun s z => ?_⟩
  · rw [a.at'] at z
    cases z
  · rw [a.at'] at z
    cases z
    obtain ⟨t, _, _, _, e, _⟩ := a.rows (.str s) (by simp)
    cases e
theorem Seed.odd {H : Hp} {d : Addr} (h : Seed H d) : Odd H d := by
  obtain ⟨a, f, t, r, e⟩ := h
  refine ⟨fun ys z => ?_, fun s z => ?_⟩
  · rw [e] at z
    cases z
  · rw [e] at z
    cases z
theorem HeldAt.seed {H : Hp} {h d : Addr} {xs : List V} (a : HeldAt H h xs) (s : Seed H d) : d ≠ h := by
  obtain ⟨x, f, t, r, e⟩ := s
  intro z
  rw [z, a.at'] at e
  cases e
  obtain ⟨_, _, _, _, e, _⟩ := a.rows (.int x) (by simp)
  cases e
theorem HeldAt.far {C D : Addr} {H : Hp} {p q w l h : Addr} {b pw : Nat} {fs : List Nat} {xs : List V} (a : HeldAt H h xs) (K : DeskAt C D H p q w l b pw fs) : Far H p q w l h := by
  refine K.far a.at' (fun _ _ _ z => by cases z) (fun n ns z => ?_)
  injection z with z
  obtain ⟨_, _, _, _, e, _⟩ := a.rows (.int (n : Int)) (by rw [z]; exact List.mem_cons_self)
  cases e
theorem HeldAt.push {H : Hp} {h t a c : Addr} {s : Str} {xs : List V} (g : HeldAt H h xs) (e1 : H t = some (.tup [.ref a, .ref c])) (e2 : H a = some (.lst [.str s])) (e3 : H c = some (.lst [.str s])) (z : PyData.strOk s = true) : HeldAt (upd H h (.lst (xs ++ [.ref t]))) h (xs ++ [.ref t]) := by
  have F : Frm [h] H (upd H h (.lst (xs ++ [.ref t]))) := Frm.set g.at'
  have o : ∀ x ∈ [h], Odd H x := fun x hx => by cases List.mem_singleton.mp hx; exact g.odd
  refine ⟨upd_same, fun v m => ?_⟩
  rcases List.mem_append.mp m with m | m
  · exact (g.rows v m).frm F o
  · cases List.mem_singleton.mp m
    exact HRow.frm ⟨t, a, c, s, rfl, e1, e2, e3, z⟩ F o
theorem DeskAt.keep {C D : Addr} {S : List Addr} {H H' : Hp} {p q w l : Addr} {b pw : Nat} {fs : List Nat} (h : DeskAt C D H p q w l b pw fs) (F : Frm S H H') (o : ∀ x ∈ S, Far H p q w l x) : DeskAt C D H' p q w l b pw fs :=
  h.frm F (fun m => (o _ m).hp rfl) (fun m => (o _ m).hq rfl) (fun m => (o _ m).hw rfl) (fun m => (o _ m).hl rfl)
theorem Far.same {H H' : Hp} {p q w l t : Addr} (f : Far H p q w l t) (s : ∃ o, H' t = some o) : Far H' p q w l t := ⟨s, f.hp, f.hq, f.hw, f.hl⟩
theorem HeldAt.row2 {H : Hp} {h r : Addr} {xs : List V} {s u : Str} (a : HeldAt H h xs) (e : H r = some (.lst [.str s, .str u])) : r ≠ h := fun z => by
  rw [z, a.at'] at e
  cases e
  obtain ⟨_, _, _, _, e, _⟩ := a.rows (.str s) (by simp)
  cases e
/-- a look and what it is due to tell -/
def Due (b pw : Nat) (fs : List Nat) (line due : Str) : Prop := ∃ ws R, Txt.split line " " = ws ∧ line.length ≤ 40 ∧ Looks ws ∧ Ask b pw fs ws b pw fs R ∧ (∀ r, R r → r = [.str due]) ∧ PyData.strOk due = true
def DRow (b pw : Nat) (fs : List Nat) (H : Hp) (v : V) : Prop := ∃ r line due, v = .ref r ∧ H r = some (.lst [.str line, .str due]) ∧ Due b pw fs line due
theorem due_show {b pw : Nat} {fs : List Nat} : Due b pw fs "show" (txt (figs b (val b fs))) := ⟨_, _, split_show, by decide +kernel, .inl rfl, .show, fun r h => h, strOk_txt⟩
theorem due_step {b pw : Nat} {fs : List Nat} : Due b pw fs "step" (txt (figs b (fs.map (· ^ pw)).sum)) := ⟨_, _, split_step, by decide +kernel, .inr (.inl rfl), .step, fun r h => h, strOk_txt⟩
theorem due_ends {b pw A m : Nat} {fs : List Nat} (e : EndAt b pw (val b fs) A m) : Due b pw fs "ends" (((Str.empty ++ ((toString (A : Int) : String) : Str)) ++ (" " : Str)) ++ txt (figs b m)) := ⟨_, _, split_ends, by decide +kernel, .inr (.inr rfl), .ends, fun r h => by
  obtain ⟨A', m', e', rfl⟩ := h
  obtain ⟨rfl, rfl⟩ := e'.uniq e
  rfl, strOk_cat (strOk_cat (strOk_cat (by decide +kernel) (strOk_of _)) (strOk_of _)) strOk_txt⟩
end Fx

namespace Fx
open PySem PySem.Spec PyProof.Rows L2
theorem DeskAt.odds {C D : Addr} {H : Hp} {p q w l : Addr} {b pw : Nat} {fs : List Nat} (h : DeskAt C D H p q w l b pw fs) : ∀ x ∈ [p, q, l], Odd H x := by
  obtain ⟨dx, e1⟩ := h.ins
  obtain ⟨dy, e2⟩ := h.kept.ins
  have e3 := h.kept.fg
  intro x hx
  simp only [List.mem_cons, List.not_mem_nil, or_false] at hx
  rcases hx with rfl | rfl | rfl
  · exact ⟨fun ys z => (by rw [e1] at z; cases z), fun s z => (by rw [e1] at z; cases z)⟩
  · exact ⟨fun ys z => (by rw [e2] at z; cases z), fun s z => (by rw [e2] at z; cases z)⟩
  · refine ⟨fun ys z => (by rw [e3] at z; cases z), fun s z => ?_⟩
    rw [e3] at z
    match fs, z with
    | [], z => cases z
    | n :: ns, z => cases z
theorem DeskAt.farNew {C D : Addr} {H H' : Hp} {p q w l x : Addr} {b pw : Nat} {fs : List Nat} (h : DeskAt C D H p q w l b pw fs) (n : H x = none) (e : ∃ o, H' x = some o) : Far H' p q w l x := by
  obtain ⟨dx, e1⟩ := h.ins
  obtain ⟨dy, e2⟩ := h.kept.ins
  exact ⟨e, (ne_of_none e1 n).symm, (ne_of_none e2 n).symm, (ne_of_none h.kept.ws n).symm, (ne_of_none h.kept.fg n).symm⟩
theorem DeskAt.farTup {C D : Addr} {H : Hp} {p q w l x : Addr} {b pw : Nat} {fs : List Nat} {ys : List V} (h : DeskAt C D H p q w l b pw fs) (e : H x = some (.tup ys)) : Far H p q w l x :=
  h.far e (fun _ _ _ z => by cases z) (fun _ _ z => by cases z)
theorem DeskAt.farNil {C D : Addr} {H : Hp} {p q w l x : Addr} {b pw : Nat} {fs : List Nat} (h : DeskAt C D H p q w l b pw fs) (e : H x = some (.lst [])) : Far H p q w l x :=
  h.far e (fun _ _ _ z => by cases z) (fun _ _ z => by cases z)
theorem oddNil {H : Hp} {x : Addr} (e : H x = some (.lst [])) : Odd H x := ⟨fun ys z => (by rw [e] at z; cases z), fun s z => (by rw [e] at z; cases z)⟩
theorem sameFrm {S : List Addr} {H H1 H2 : Hp} (a : Same H H1) (F : Frm S H1 H2) (n : ∀ x ∈ S, H x = none) : Same H H2 := fun x o e => F.kp _ _ (fun m => by rw [n x m] at e; cases e) (a x o e)
/-- what the law keeps between its lines -/
structure Kp (C D : Addr) (H H' : Hp) (p h c q w l t : Addr) (b pw : Nat) (fs : List Nat) (xs ms : List V) : Prop where
  sm : Same H H'
  np : H p = none
  nh : H h = none
  nq : H q = none
  nl : H l = none
  dk : DeskAt C D H' p q w l b pw fs
  pr : H' t = some (.tup (ivs [b, pw]))
  hd : HeldAt H' h xs
  cl : H' c = some (.lst ms)
  fc : Far H' p q w l c
  ch : c ≠ h
theorem Kp.same {C D : Addr} {H H' H2 : Hp} {p h c q w l t : Addr} {b pw : Nat} {fs : List Nat} {xs ms : List V} (k : Kp C D H H' p h c q w l t b pw fs xs ms) (s : Same H' H2) : Kp C D H H2 p h c q w l t b pw fs xs ms :=
  ⟨k.sm.trans s, k.np, k.nh, k.nq, k.nl, k.dk.same s, s _ _ k.pr, k.hd.same s, s _ _ k.cl, k.fc.same ⟨_, s _ _ k.cl⟩, k.ch⟩
/-- a seed at hand -/
structure Sd (H H' : Hp) (p q w l c d : Addr) : Prop where
  sd : Seed H' d
  nd : H d = none
  fd : Far H' p q w l d
  cd : c ≠ d
theorem Sd.same {H H' H2 : Hp} {p q w l c d : Addr} (g : Sd H H' p q w l c d) (s : Same H' H2) : Sd H H2 p q w l c d := ⟨g.sd.same s, g.nd, g.fd.same (g.sd.same s).there, g.cd⟩
theorem Kp.seed {C D : Addr} {H H' H2 : Hp} {p h c q w l t d : Addr} {b pw : Nat} {fs : List Nat} {xs ms : List V} (k : Kp C D H H' p h c q w l t b pw fs xs ms) (s : Same H' H2) (n : H' d = none) (S : Seed H2 d) : Sd H H2 p q w l c d :=
  ⟨S, k.sm.free n, k.dk.farNew n S.there, ne_of_none k.cl n⟩
theorem Kp.but {C D : Addr} {H H' H2 : Hp} {p h c q w l t d : Addr} {b pw : Nat} {fs : List Nat} {xs ms : List V} (k : Kp C D H H' p h c q w l t b pw fs xs ms) (g : Sd H H' p q w l c d) (B : But d H' H2) (S : Seed H2 d) : Kp C D H H2 p h c q w l t b pw fs xs ms ∧ Sd H H2 p q w l c d := by
  have F : Frm [d] H' H2 := Frm.but B S.there
  have td : t ≠ d := by
    obtain ⟨a1, a2, a3, a4, e⟩ := g.sd
    exact ne_of k.pr e (fun z => by cases z)
  have dh := k.hd.seed g.sd
  refine ⟨⟨sameFrm k.sm F (fun x hx => by cases List.mem_singleton.mp hx; exact g.nd), k.np, k.nh, k.nq, k.nl, k.dk.keep F (fun x hx => by cases List.mem_singleton.mp hx; exact g.fd), B _ _ td k.pr, k.hd.frm F (by simpa using dh.symm) (fun x hx => by cases List.mem_singleton.mp hx; exact g.sd.odd), B _ _ g.cd k.cl, k.fc.same ⟨_, B _ _ g.cd k.cl⟩, k.ch⟩, ⟨S, g.nd, g.fd.same S.there, g.cd⟩⟩
/-- behind a line that was asked and whose told list was written on -/
theorem Kp.ask {C D : Addr} {H H1 H2 : Hp} {p h c q w l t d q' w' l' t1 t' : Addr} {b pw b' pw' : Nat} {fs fs' : List Nat} {xs ms : List V} {o : HO} (k : Kp C D H H1 p h c q w l t b pw fs xs ms) (g : Sd H H1 p q w l c d) (et : H1 t' = some (.tup (ivs [b', pw'])))
    (D2 : DeskAt C D H2 p q' w' l' b' pw' fs') (A : Aft H1 H2 p q w l q' w' l') (n1 : H1 t1 = none) (e1 : H2 t1 = some (.lst [])) (H3 : Hp) (s3 : Same H2 H3) : Kp C D H (upd H3 t1 o) p h c q' w' l' t' b' pw' fs' xs ms ∧ Sd H (upd H3 t1 o) p q' w' l' c d := by
  have fh := k.hd.far k.dk
  have ft := k.dk.farTup et
  have F0 : Frm [p, q, l] H1 H2 := A.frm
  have o0 := k.dk.odds
  have hq : H q' = none := by
    rcases A.hq with z | z
    · rw [z]; exact k.nq
    · exact k.sm.free z
  have hl : H l' = none := by
    rcases A.hl with z | z
    · rw [z]; exact k.nl
    · exact k.sm.free z
  have sm2 : Same H H2 := sameFrm k.sm F0 (fun x hx => by
    simp only [List.mem_cons, List.not_mem_nil, or_false] at hx
    rcases hx with rfl | rfl | rfl
    · exact k.np
    · exact k.nq
    · exact k.nl)
  have hd2 : HeldAt H2 h xs := k.hd.frm F0 (by
    simp only [List.mem_cons, List.not_mem_nil, or_false, not_or]
    exact ⟨fh.hp, fh.hq, fh.hl⟩) o0
  have sd2 : Seed H2 d := by
    obtain ⟨a1, a2, a3, a4, e⟩ := g.sd
    exact ⟨a1, a2, a3, a4, A.at g.fd e⟩
  have e1' := s3 _ _ e1
  have F : Frm [t1] H3 (upd H3 t1 o) := Frm.set e1'
  have D3 := D2.same s3
  have h1 : h ≠ t1 := ne_of_none k.hd.at' n1
  have c1 : c ≠ t1 := ne_of_none k.cl n1
  have d1 : d ≠ t1 := by
    obtain ⟨a1, a2, a3, a4, e⟩ := g.sd
    exact ne_of_none e n1
  have t1' : t' ≠ t1 := ne_of_none et n1
  have at' : ∀ {x : Addr} {u : HO}, x ≠ t1 → H2 x = some u → upd H3 t1 o x = some u := fun n e => F.kp _ _ (by simpa using n) (s3 _ _ e)
  have sd3 : Seed (upd H3 t1 o) d := by
    obtain ⟨a1, a2, a3, a4, e⟩ := sd2
    exact ⟨a1, a2, a3, a4, at' d1 e⟩
  have c3 := at' c1 (A.at k.fc k.cl)
  exact ⟨⟨sameFrm (sm2.trans s3) F (fun x hx => by cases List.mem_singleton.mp hx; exact k.sm.free n1), k.np, k.nh, hq, hl, D3.keep F (fun x hx => by cases List.mem_singleton.mp hx; exact D3.farNil e1'), at' t1' (A.at ft et), (hd2.same s3).frm F (by simpa using h1) (fun x hx => by cases List.mem_singleton.mp hx; exact oddNil e1'), c3, (A.far k.fc).same ⟨_, c3⟩, k.ch⟩,
    ⟨sd3, g.nd, (A.far g.fd).same sd3.there, g.cd⟩⟩
/-- behind the looks -/
theorem Kp.looks {C D : Addr} {H H1 H2 : Hp} {p h c q w l t d : Addr} {b pw : Nat} {fs : List Nat} {xs xs' ms : List V} (k : Kp C D H H1 p h c q w l t b pw fs xs ms) (g : Sd H H1 p q w l c d) (F : Frm [d, h] H1 H2) (S : Seed H2 d) (hd : HeldAt H2 h xs') : Kp C D H H2 p h c q w l t b pw fs xs' ms := by
  have fh := k.hd.far k.dk
  have td : t ≠ d := by
    obtain ⟨a1, a2, a3, a4, e⟩ := g.sd
    exact ne_of k.pr e (fun z => by cases z)
  have th : t ≠ h := fun z => by
    have e := k.pr
    rw [z, k.hd.at'] at e
    cases e
  have c2 : H2 c = some (.lst ms) := F.kp _ _ (by
    simp only [List.mem_cons, List.not_mem_nil, or_false, not_or]
    exact ⟨g.cd, k.ch⟩) k.cl
  refine ⟨sameFrm k.sm F (fun x hx => ?_), k.np, k.nh, k.nq, k.nl, k.dk.keep F (fun x hx => ?_), F.kp _ _ ?_ k.pr, hd, c2, k.fc.same ⟨_, c2⟩, k.ch⟩
  · simp only [List.mem_cons, List.not_mem_nil, or_false] at hx
    rcases hx with rfl | rfl
    · exact g.nd
    · exact k.nh
  · simp only [List.mem_cons, List.not_mem_nil, or_false] at hx
    rcases hx with rfl | rfl
    · exact g.fd
    · exact fh
  · simp only [List.mem_cons, List.not_mem_nil, or_false, not_or]
    exact ⟨td, th⟩
end Fx

namespace Fx
open PySem PySem.Spec PyProof.Rows L2
/-! ### match: a row of a written text and a star, where the first text is another one -/
section
variable {prog : Program} {w : World} {A : Around} {E : Value → Shared → Prop} {s : Shared}
/-- the first item, and the others as a new list -/
theorem take_star {l : Addr} {items : Array Value} {Q : List Value → Shared → Prop} (hh : A.handled = none) (hl : s.heap.IsList l items) (h1 : 1 ≤ items.size) (hz : items.size ≤ 16384)
    (hQ : ∀ D h' tk, (∀ b o, s.heap.get? b = some o → h'.get? b = some o) → Q (items.toList.take 1 ++ [.ref D]) { s with heap := h', toks := tk }) : wpAny (model prog w) A (unpackItems (.ref l) 2 (some 1)) Q E s := by
  have hlt : l ≠ s.heap.objs.size := by obtain ⟨o, ho, _⟩ := hl; exact Nat.ne_of_lt (Heap.lt_size ho)
  have hll : l < s.heap.objs.size := by obtain ⟨o, ho, _⟩ := hl; exact Heap.lt_size ho
  unfold unpackItems
  refine wpAny_bind ?_
  unfold notIterableAtAll
  refine wpAny_bind (wpAny_specialOf hl.typeIs PySem.F.slot_list_iter.lookup ?_)
  refine wpAny_pure ?_
  simp only [Bool.false_eq_true, if_false]
  refine wpAny_bind (wpAny_holding (wpAny_pyIter_list hl ?_))
  refine wpAny_bind (wpAny_holding (PySem.W.kun_draw hlt 1 0 _ _ ⟨_, Heap.get?_push_size _ rfl, rfl, rfl⟩ (hl.push _) (by omega) fun h₁ hit₁ hs₁ => ?_))
  have hl₁ : h₁.IsList l items := (hl.push _).extBut hs₁.extBut hlt
  rw [Nat.zero_add] at hit₁
  obtain ⟨oi, hoi, _⟩ := id hit₁
  obtain ⟨ol, hol, _⟩ := id hl₁
  rw [List.drop_zero]
  have hfl : (items.toList.take 1).length = 1 := by rw [List.length_take, Array.length_toList]; omega
  rw [if_neg (show ¬ ((items.toList.take 1).length < 1) by rw [hfl]; omega)]
  refine wpAny_bind (wpAny_holding (PySem.W.kun_collect (s := { s with heap := h₁ }) (T := "list_iterator") (.inr (.inr (.inl rfl))) (Walks.list (A := A.in1) hh s.heap.objs.size l hlt items) (fun j u st => st.1.typeIs) (k := 1) (by omega) ⟨hit₁, hl₁⟩ (Heap.lt_size hoi) (Heap.lt_size hol) (fun h₂ tk hk => ?_) (by rw [sizeLine_eq]; omega)))
  have hrl : (items.toList.drop 1).length = items.size - 1 := by rw [List.length_drop, Array.length_toList]
  show wpAny _ _ (if (items.toList.drop 1).length < 2 - 1 - 1 then _ else _) _ _ _
  rw [if_neg (by omega)]
  show wpAny _ _ (newList ((items.toList.drop 1).take ((items.toList.drop 1).length - (2 - 1 - 1))) >>= fun d => pure (items.toList.take 1 ++ [d] ++ (items.toList.drop 1).drop ((items.toList.drop 1).length - (2 - 1 - 1)))) _ _ _
  have hd : (items.toList.drop 1).drop ((items.toList.drop 1).length - (2 - 1 - 1)) = [] := List.drop_eq_nil_of_le (by omega)
  rw [hd]
  refine wpAny_bind (wpAny_newList (wpAny_pure ?_) (by rw [List.length_take, hrl, sizeLine_eq]; omega))
  show Q (items.toList.take 1 ++ [Value.ref h₂.objs.size] ++ []) _
  rw [List.append_nil]
  refine hQ _ _ tk fun b o e => ?_
  have hb : b ≠ s.heap.objs.size := Nat.ne_of_lt (Heap.lt_size e)
  exact Heap.get?_push_of_some _ (hk b o hb (hs₁.extBut b o hb (Heap.get?_push_of_some _ e)))
end
section
variable {X : Cx}
theorem pcs_nil : PCs X [] (fun _ D σ H => D.nx σ H) := ⟨fun pins s σ H D l ws first I hS h => wpAny_matchCases_nil ⟨σ, H, I, h⟩⟩
theorem pcs_star {z x : Str} {j : Nat} {p1 p2 p3 p4 : Pos} {g : Option Expr} {body : List Stmt} {rest : List MatchCase} {tr : List Str → TS} (calm : X.calm = true) (hr : PCs X rest tr) :
    PCs X (⟨.MatchSequence [.MatchValue (.Constant (.str z) j p1) p2, .MatchStar (some x) p3] p4, g, body⟩ :: rest) (fun ws D σ H => (∃ u us, ws = u :: us ∧ u ≠ z) ∧ ws.length ≤ 16000 ∧ tr ws D σ H) := by
  refine ⟨fun pins s σ H D l ws first I hS h => ?_⟩
  obtain ⟨⟨w0, us, rfl, ne⟩, hlen0, ht⟩ := h
  refine wpAny_matchCases_cons ?_
  obtain ⟨its, rv, pl, hz⟩ := I.list hS
  have hl' : s.heap.IsList l its.toArray := by
    obtain ⟨o, m, e, c, d, q⟩ := pl
    exact ⟨o, e, c, m, q⟩
  have hlen : its.length = (w0 :: us).length := by
    have := rv.length
    rw [List.length_map] at this
    exact this.symm
  have hsz : its.toArray.size = (w0 :: us).length := by rw [List.size_toArray, hlen]
  rw [List.length_cons] at hsz hlen0
  refine PySem.W.kun_seqL hl' (by rw [hsz]; have : (16000 : Nat) < 2 ^ 62 := by decide
                                  omega) (i := 1) rfl rfl rfl (by show 2 > 1; omega) (by rw [hsz]; show 2 ≤ _; omega) ?_
  refine take_star (I.ok.hd calm) hl' (by omega) (by omega) fun D2 h' tk hx => ?_
  have I1 : Inv X pins σ H { s with heap := h', toks := tk } := I.kept (t' := tk) fun b o e => hx b o e
  match its, rv with
  | u :: r, .cons ru rr =>
    show wpAny _ _ (matchEach _ X.env [u, .ref D2]) _ _ _
    refine wpAny_matchEach_cons ?_
    refine wpAny_matchPattern_Value ?_
    refine thn ((pe_str (X := X)).run pins _ σ H (fun v H1 => v = V.str z ∧ H1 = H) I1 ⟨rfl, rfl⟩) fun y s1 ⟨v, H1, I2, ry, ev, eH⟩ => ?_
    rw [ev] at ry
    rw [eH] at I2
    refine thn (op_eq pins s1 σ H (.str w0) (.str z) u y (fun v H2 => v = .bl (decide (V.str w0 = V.str z)) ∧ H2 = H) I2 ru ry ⟨rfl, rfl, rfl⟩) fun c s2 ⟨v2, H2, I3, rc, ev2, eH2⟩ => ?_
    rw [ev2] at rc
    rw [eH2] at I3
    have ec : c = Value.bool (decide (V.str w0 = V.str z)) := rc
    rw [ec, decide_eq_false (show ¬ (V.str w0 = V.str z) from fun q => ne (by injection q))]
    refine wpAny_truthy_bool ?_
    rw [if_neg (by decide)]
    exact hr.run pins s2 σ H D l (w0 :: us) false I3 hS ht
end
end Fx

namespace Fx
open PySem PySem.Spec PyProof.Rows L2
/-- what is refused: 0 by NoAsk, 1 by NoPlace, 2 by NoFigure -/
inductive NAsk (b : Nat) (fs : List Nat) : List Str → Nat → Prop
  | put {word : Str} (hw : word.length ≤ 40) (h : word.length ≠ 1 ∨ 40 ≤ fs.length) : NAsk b fs ["put", word] 0
  | none : NAsk b fs ["put"] 0
  | place {pl f : Nat} (hf : f < b) (hp : pl < 100) (h : ¬ pl < fs.length) : NAsk b fs ["set", tx pl, one (sg f)] 1
  | fig {pl f : Nat} (hf : f < b) (hp : pl < 100) (h : pl < fs.length) (z : ¬ (f = 0 → pl + 1 = fs.length → fs.length = 1)) : NAsk b fs ["set", tx pl, one (sg f)] 2
end Fx

namespace Fx
open PySem PySem.Spec
open PyProof.Rows L2
/-! ### a text gone along by its signs -/
/-- the figure that a sign is, below 0 if it is none -/
def fi (c : Nat) : Int := Txt.find FIG (one c)
/-- the number (left), or the place of the first wrong sign (right) -/
def scan (b : Nat) : List Nat → Nat → Int → Int ⊕ Nat
  | [], _, n => .inl n
  | c :: r, i, n => if 0 ≤ fi c ∧ fi c < b then scan b r (i + 1) (n * b + fi c) else .inr i
def bad0 (x : Str) : Bool := decide (x = "") || (decide (x.cps[0]? = some 48) && decide (1 < x.length))
def dueOf (b : Nat) (x : Str) : Int ⊕ Nat := if bad0 x = true then .inr 0 else scan b x.cps.toList 0 0
theorem scan_end {b : Nat} {l : List Nat} {i j : Nat} {n : Int} (h : l.length ≤ j) : scan b (l.drop j) i n = .inl n := by
  rw [List.drop_eq_nil_of_le h]
  rfl
theorem scan_good {b : Nat} {l : List Nat} {j i c : Nat} {n : Int} (h : l[j]? = some c) (g : 0 ≤ fi c ∧ fi c < b) : scan b (l.drop j) i n = scan b (l.drop (j + 1)) (i + 1) (n * b + fi c) := by
  obtain ⟨hj, e⟩ := List.getElem?_eq_some_iff.mp h
  rw [List.drop_eq_getElem_cons hj, e]
  show (if _ then _ else _) = _
  rw [if_pos g]
theorem scan_bad {b : Nat} {l : List Nat} {j i c : Nat} {n : Int} (h : l[j]? = some c) (g : ¬ (0 ≤ fi c ∧ fi c < b)) : scan b (l.drop j) i n = .inr i := by
  obtain ⟨hj, e⟩ := List.getElem?_eq_some_iff.mp h
  rw [List.drop_eq_getElem_cons hj, e]
  show (if _ then _ else _) = _
  rw [if_neg g]
theorem scan_place {b : Nat} : ∀ {l : List Nat} {i p : Nat} {n : Int}, scan b l i n = .inr p → p < i + l.length
  | [], _, _, _, h => by cases h
  | c :: r, i, p, n, h => by
    unfold scan at h
    split at h
    · have z := scan_place h
      rw [List.length_cons]
      omega
    · cases h
      rw [List.length_cons]
      omega
theorem due_place {b p : Nat} {x : Str} (h : dueOf b x = .inr p) : p ≤ x.length := by
  unfold dueOf at h
  split at h
  · cases h
    exact Nat.zero_le _
  · have z := scan_place h
    have y : x.cps.toList.length = x.length := by
      unfold Str.length
      rw [Array.length_toList]
    omega
theorem str_empty {x : Str} (h : x.length = 0) : x = "" := by
  cases x with
  | mk a =>
    have z : a.size = 0 := h
    rw [Array.size_eq_zero_iff.mp z]
    rfl
theorem one_is {c d : Nat} (h : V.str (one c) = V.str (one d)) : c = d := by
  injection h with h
  injection h with h
  have e := congrArg Array.toList h
  injection e

section
variable {K : PySem.W.Frag} {R : Addr} {f : Str}
/-- such an exception made, raised -/
theorem made_exc1 {H1 : Hp} {i : Int} {Q : XK} (hi : i.natAbs.log2 < 1920)
    (q : ∀ d H', Same H1 H' → KF H' d f (.int i) → Q (.ref R) (some d) H') :
    ∀ a, H1 a = none → sp_exc1 R f (.ref a :: ([.int i] ++ [])) (upd H1 a (exo a R none))
      (fun v H2 => v = .non ∧ ∃ (d : Addr) (fs : List (Str × V)), H2 a = some (exo a R (some d)) ∧ H2 d = some (exd d fs) ∧ H1 d = none ∧
        Q (.ref R) (some d) (upd (L2.del H2 a) d (.xd fs))) (fun _ _ _ => False) := by
  intro a ha
  refine ⟨a, i, rfl, hi, upd_same, fun dx n ne => ⟨rfl, dx, [(f, .int i)], upd_same, by rw [upd_ne ne, upd_same], by rw [← n, upd_ne ne], ?_⟩⟩
  have n1 : H1 dx = none := by rw [← n, upd_ne ne]
  refine q dx _ (fun b o e => ?_) ⟨_, .inl upd_same, by simp [List.lookup]⟩
  have b1 : b ≠ dx := ne_of_none e n1
  have b2 : b ≠ a := ne_of_none e ha
  rw [upd_ne b1, L2.del_ne b2, upd_ne b2, upd_ne b1, upd_ne b2]
  exact e
/-- such an exception made, as a value -/
theorem made_val1 {H1 : Hp} {i : Int} {Q : Addr → Hp → Prop} (hi : i.natAbs.log2 < 1920)
    (q : ∀ a d H', Same H1 H' → KX H' a R (some d) → KF H' d f (.int i) → Q a H') :
    ∀ a, H1 a = none → sp_exc1 R f (.ref a :: ([.int i] ++ [])) (upd H1 a (exo a R none)) (fun v H2 => v = .non ∧ Q a H2) (fun _ _ _ => False) := by
  intro a ha
  refine ⟨a, i, rfl, hi, upd_same, fun dx n ne => ⟨rfl, ?_⟩⟩
  have n1 : H1 dx = none := by rw [← n, upd_ne ne]
  refine q a dx _ (fun b o e => ?_) (kx_made upd_same) ⟨_, .inr (by rw [upd_ne ne, upd_same]), by simp [List.lookup]⟩
  have b1 : b ≠ dx := ne_of_none e n1
  have b2 : b ≠ a := ne_of_none e ha
  rw [upd_ne b2, upd_ne b1, upd_ne b2]
  exact e
end
theorem small_log {i : Nat} (h : i ≤ 100000) : (i : Int).natAbs.log2 < 1920 := by
  have e : (i : Int).natAbs = i := rfl
  rw [e]
  by_cases z : i = 0
  · subst z
    decide +kernel
  · refine (Nat.log2_lt z).mpr (Nat.lt_of_le_of_lt h ?_)
    exact Nat.lt_of_lt_of_le (by decide : 100000 < 2 ^ 17) (Nat.pow_le_pow_right (by decide) (by decide))
end Fx

namespace Fx
open PySem PySem.Spec
open PyProof.Rows L2
section
variable {X : Cx}
/-! ### a list of truths, counted -/
def isB (k : Bool) : Value → Bool
  | .bool b => b == k
  | _ => false
theorem isB_count {k : Bool} : ∀ {bs : List Bool} {us : List Value}, Vals (bs.map V.bl) us → us.countP (isB k) = bs.count k
  | [], us, r => by
    cases r
    rfl
  | b :: bs, us, r => by
    rw [List.map_cons] at r
    cases r with
    | @cons _ u _ us' ra rr =>
      obtain rfl : u = Value.bool b := ra
      rw [List.countP_cons, List.count_cons, isB_count rr]
      rfl
theorem isB_at {A : Around} {s : Shared} {k : Bool} : ∀ {bs : List Bool} {us : List Value}, Vals (bs.map V.bl) us → ∀ y ∈ us, SeqAt.EqAt A s y (.bool k) (isB k y)
  | [], us, r => fun y hy => by
    cases r
    cases hy
  | b :: bs, us, r => fun y hy => by
    rw [List.map_cons] at r
    cases r with
    | @cons _ u _ us' ra rr =>
      obtain rfl : u = Value.bool b := ra
      rcases List.mem_cons.mp hy with e | e
      · rw [e]
        exact SeqAt.EqAt.bool_bool b k
      · exact isB_at rr y e
def rCntB (K : PySem.W.Frag) : V → List V → Hp → VK → Prop := fun x xs H Q =>
  ∃ (p : Addr) (bs : List Bool) (k : Bool), x = .ref p ∧ xs = [.bl k] ∧ SqL K H p (bs.map V.bl) ∧ Q (.int (bs.count k : Nat)) H
theorem mt_countB : MtR X "list.count" (rCntB X.K) := by
  rintro pins s σ H x xs v us Q I rx rxs ⟨p, bs, k, rfl, rfl, hs, q⟩
  cases rx
  obtain ⟨u, rfl, ru⟩ := rxs.one
  obtain rfl : u = Value.bool k := ru
  obtain ⟨its, rv, ⟨⟨oc, dd, oda, sl⟩, n, ho, hc, _, hd⟩, _⟩ := I.list hs
  dsimp only at hc hd
  subst hc hd
  refine call_meets PySem.F.slot_list_count ⟨_, ho, rfl⟩
    PySem.F.entry_list_count (PySem.F.args_list_count_2 _ _)
    (SeqAt.list_countAt p its.toArray n dd sl (.bool k) (isB k)) ⟨ho, fun y hy => isB_at rv y (by simpa using hy), ?_⟩
  have many : its.toArray.toList.countP (isB k) = bs.count k := isB_count rv
  refine ⟨.int (bs.count k : Nat), H, I.tok _, ⟨s.toks, ?_⟩, q⟩
  show Value.int ((its.toArray.toList.countP (isB k) : Nat) : Int) s.toks = Value.int ((bs.count k : Nat) : Int) s.toks
  rw [many]

/-! ### a text again and again: how long it is -/
def rMulS : R2 := fun x y H Q => ∃ (z : Str) (k : Nat), x = .str z ∧ y = .int (k : Int) ∧ 2 ≤ k ∧ k ≤ 1000 ∧ z.length ≤ 10000 ∧
  ∀ r : Str, r.length ≤ z.length * k → Q (.str r) H
theorem fold_len (a : Array Nat) : ∀ (k : Nat) (acc : Array Nat), ((List.replicate k a).foldl (· ++ ·) acc).size = acc.size + a.size * k
  | 0, acc => by simp
  | k + 1, acc => by
    rw [List.replicate_succ, List.foldl_cons, fold_len a k, Array.size_append, Nat.mul_succ]
    omega
theorem op_mulS : OpR X (binaryOp .Mult) rMulS := by
  rintro pins s σ H x y u v Q I rx ry ⟨z, k, rfl, rfl, hk, hk2, hz, q⟩
  obtain ⟨t, rfl⟩ := rx
  obtain ⟨t2, rfl⟩ := ry
  have big : z.length * k ≤ 10000000 := Nat.le_trans (Nat.mul_le_mul hz hk2) (by decide)
  refine PySem.P.mul_str (by simp; omega) (fun _ _ => ?_) (fun _ _ => ?_) ?_
  · have d : (10000 : Int) ≤ (2 ^ 63 - 1) / (k : Int) := by
      rw [Int.le_ediv_iff_mul_le (by omega)]
      omega
    omega
  · rw [Int.toNat_natCast]
    exact decide_eq_false (by rw [sizeLine_eq]; omega)
  · rw [if_neg (by omega)]
    by_cases e : ((k : Int) == 1 || z.length == 0) = true
    · rw [if_pos e]
      exact ⟨.str z, H, I, ⟨t, rfl⟩, q z (Nat.le_mul_of_pos_right _ (by omega))⟩
    · rw [if_neg e]
      have len : (Str.mk ((List.replicate (k : Int).toNat z.cps).foldl (· ++ ·) #[])).length = z.length * k := by
        show ((List.replicate (k : Int).toNat z.cps).foldl (· ++ ·) #[]).size = _
        rw [Int.toNat_natCast, fold_len]
        show 0 + z.cps.size * k = z.cps.size * k
        omega
      exact ⟨by rw [len, sizeLine_eq]; omega, .str _, H, I.tok _, ⟨s.toks, rfl⟩, q _ (Nat.le_of_eq len)⟩
end
theorem cut_one {x : Str} {c : Nat} (h : x.cps[0]? = some c) : cutS x none (some 1) = one c := by
  obtain ⟨hz, e⟩ := Array.getElem?_eq_some_iff.mp h
  have ne : x.length = x.cps.size := rfl
  have i1 : HT.sIx x.length x.length (some 1) = 1 := by
    have z := HT.sIx_nat x.length x.length 1
    rw [show ((1 : Nat) : Int) = 1 from rfl] at z
    rw [z]
    omega
  unfold cutS
  rw [i1, HT.sIx_none, List.drop_zero]
  have l : x.cps.toList = c :: x.cps.toList.tail := by
    cases q : x.cps.toList with
    | nil =>
      have z : x.cps.toList.length = 0 := by rw [q]; rfl
      rw [Array.length_toList] at z
      omega
    | cons a r =>
      have z : x.cps.toList[0]? = some c := by rw [Array.getElem?_toList]; exact h
      rw [q] at z
      cases z
      rfl
  rw [l]
  rfl
theorem atI_ex {α : Type} {l : List α} {i : Int} (h0 : 0 ≤ i) (h1 : i < (l.length : Int)) : ∃ c, atI l i = some c := by
  obtain ⟨k, rfl⟩ := Int.eq_ofNat_of_zero_le h0
  exact ⟨_, atI_nat (List.getElem?_eq_getElem (by omega))⟩
theorem cut_short (z : Str) (k : Nat) : (cutS z none (some (k : Int))).length ≤ k := by
  show (((z.cps.toList.drop (HT.sIx z.length 0 none)).take (HT.sIx z.length z.length (some (k : Int)) - HT.sIx z.length 0 none)).toArray).size ≤ k
  rw [List.size_toArray, List.length_take, HT.sIx_nat, HT.sIx_none]
  omega
end Fx

namespace Fx
open PySem PySem.Spec
open PyProof.Rows L2
/-- isinstance of a kept exception, several classes -/
def rIsKT (K : PySem.W.Frag) : List V → Hp → VK → Prop := fun xs H Q =>
  ∃ (a C tp : Addr) (d : Option Addr) (cs : List V) (us : List Value) (b : Bool), xs = [.ref a, .ref tp] ∧ H tp = some (.tup cs) ∧ Paired ClsV cs us ∧ KX H a C d ∧ KD H d ∧ ExcC K C ∧
    PySem.W.kitAny K (.ref C) us = some b ∧ Q (.bl b) H
section
variable {X : Cx}
theorem call_isKT : CallR X (.builtin "isinstance") (rIsKT X.K) := by
  intro pins s σ H xs us Q I r ⟨a, C, tp, d, cs, ws, b, exs, hT, hc, k, kd, ec, e, q⟩
  subst exs
  obtain ⟨u1, u2, rfl, r1, r2⟩ := vals2 r
  cases (show u2 = Value.ref tp from r2)
  obtain rfl : u1 = Value.ref a := r1
  obtain ⟨oe, od, J, _⟩ := kx_inst I k kd
  have some_ : (PySem.W.clsIn X.K C).isSome = true := by
    obtain ⟨cd, z, _⟩ := PySem.W.any_some ec.hd
    rw [z]
    rfl
  obtain ⟨_, its, rv, o, h1, h2, n, h3⟩ := (show ObjOk X.prog X.w H s.heap tp (.tup cs) from I.hok tp _ hT)
  have e3 := ClsV.all hc rv
  subst e3
  obtain ⟨oc, od', dt, sl⟩ := o
  simp only at h2 h3
  subst h2 h3
  exact PySem.W.kia_tup (PySem.W.kitx_exc (ox := oe) (od := od) some_ ec.hg ec.hk ec.hs ec.ha ec.hn ec.ht ec.hm) I.kIn J h1 e
    (fun z => nomatch z) fun tk => ⟨.bl b, H, I.tok tk, rfl, q⟩
end
end Fx

namespace Fx
open PySem PySem.Spec PyProof.Rows L2
/-- a seed, a desk and its pair's tuple, all made behind H0 -/
structure Ck (C D : Addr) (H0 H : Hp) (d p q w l t : Addr) (b pw : Nat) (fs : List Nat) : Prop where
  sm : Same H0 H
  nd : H0 d = none
  np : H0 p = none
  nq : H0 q = none
  nl : H0 l = none
  dk : DeskAt C D H p q w l b pw fs
  pr : H t = some (.tup (ivs [b, pw]))
  sd : Seed H d
  fd : Far H p q w l d
/-- a row of numbers beside it -/
structure Rw (H : Hp) (p q w l d a : Addr) (fs : List Nat) : Prop where
  ea : H a = some (.lst (ivs fs))
  fa : Far H p q w l a
  ad : a ≠ d
theorem Rw.same {H H2 : Hp} {p q w l d a : Addr} {fs : List Nat} (r : Rw H p q w l d a fs) (s : Same H H2) : Rw H2 p q w l d a fs := ⟨s _ _ r.ea, r.fa.same ⟨_, s _ _ r.ea⟩, r.ad⟩
theorem Rw.but {H H2 : Hp} {p q w l d a : Addr} {fs : List Nat} (r : Rw H p q w l d a fs) (s : But d H H2) : Rw H2 p q w l d a fs := ⟨s _ _ r.ad r.ea, r.fa.same ⟨_, s _ _ r.ad r.ea⟩, r.ad⟩
theorem Rw.ask {H H2 : Hp} {p q w l d a q' w' l' : Addr} {fs : List Nat} (r : Rw H p q w l d a fs) (A : Aft H H2 p q w l q' w' l') : Rw H2 p q' w' l' d a fs := ⟨A.at r.fa r.ea, A.far r.fa, r.ad⟩
section
variable {C D : Addr} {H0 H H2 : Hp} {d p q w l t : Addr} {b pw : Nat} {fs : List Nat}
theorem Ck.same (k : Ck C D H0 H d p q w l t b pw fs) (s : Same H H2) : Ck C D H0 H2 d p q w l t b pw fs := ⟨k.sm.trans s, k.nd, k.np, k.nq, k.nl, k.dk.same s, s _ _ k.pr, k.sd.same s, k.fd.same (k.sd.same s).there⟩
theorem Ck.but (k : Ck C D H0 H d p q w l t b pw fs) (B : But d H H2) (S : Seed H2 d) : Ck C D H0 H2 d p q w l t b pw fs := by
  have F : Frm [d] H H2 := Frm.but B S.there
  have td : t ≠ d := by
    obtain ⟨a1, a2, a3, a4, e⟩ := k.sd
    exact ne_of k.pr e (fun z => by cases z)
  exact ⟨sameFrm k.sm F (fun x hx => by cases List.mem_singleton.mp hx; exact k.nd), k.nd, k.np, k.nq, k.nl, k.dk.keep F (fun x hx => by cases List.mem_singleton.mp hx; exact k.fd), B _ _ td k.pr, S, k.fd.same S.there⟩
theorem Ck.ask {q' w' l' : Addr} {fs' : List Nat} (k : Ck C D H0 H d p q w l t b pw fs) (D2 : DeskAt C D H2 p q' w' l' b pw fs') (A : Aft H H2 p q w l q' w' l') : Ck C D H0 H2 d p q' w' l' t b pw fs' := by
  refine ⟨sameFrm k.sm A.frm (fun x hx => ?_), k.nd, k.np, ?_, ?_, D2, A.at (k.dk.farTup k.pr) k.pr, ?_, ?_⟩
  · simp only [List.mem_cons, List.not_mem_nil, or_false] at hx
    rcases hx with rfl | rfl | rfl
    · exact k.np
    · exact k.nq
    · exact k.nl
  · rcases A.hq with z | z
    · rw [z]; exact k.nq
    · exact k.sm.free z
  · rcases A.hl with z | z
    · rw [z]; exact k.nl
    · exact k.sm.free z
  · obtain ⟨a1, a2, a3, a4, e⟩ := k.sd
    exact ⟨a1, a2, a3, a4, A.at k.fd e⟩
  · exact A.far k.fd
theorem Ck.row {a : Addr} {r : List Nat} (k : Ck C D H0 H d p q w l t b pw fs) (n : H a = none) (e : H2 a = some (.lst (ivs r))) : Rw H2 p q w l d a r := ⟨e, k.dk.farNew n ⟨_, e⟩, k.sd.out n⟩
end
end Fx

namespace Fx
open PySem PySem.Spec PyProof.Rows L2
def NLine (line : Str) : Prop := ∃ ws, Txt.split line " " = ws ∧ line.length ≤ 40 ∧ ∀ (b : Nat) (fs : List Nat), 40 ≤ fs.length → NAsk b fs ws 0
theorem nl_put {w : Str} (h : Txt.split (("put " : Str) ++ w) " " = [("put" : Str), w]) (l : (("put " : Str) ++ w).length ≤ 40) (g : w.length ≤ 40) : NLine (("put " : Str) ++ w) := ⟨_, h, l, fun _ _ z => .put g (.inr z)⟩
theorem nline6 : ∀ v ∈ [V.str "put 0", V.str "put 1", V.str "put z", V.str "put Z", V.str "put 11", V.str "put"], ∃ line, v = V.str line ∧ NLine line := by
  have p : ∀ {x w : Str}, ("put " : Str) ++ w = x → Txt.split x " " = [("put" : Str), w] → x.length ≤ 40 → w.length ≤ 40 → NLine x := fun _ h l g => ⟨_, h, l, fun _ _ z => .put g (.inr z)⟩
  intro v hv
  simp only [List.mem_cons, List.not_mem_nil, or_false] at hv
  rcases hv with rfl | rfl | rfl | rfl | rfl | rfl
  · exact ⟨_, rfl, p (w := "0") (by decide +kernel) (by decide +kernel) (by decide +kernel) (by decide +kernel)⟩
  · exact ⟨_, rfl, p (w := "1") (by decide +kernel) (by decide +kernel) (by decide +kernel) (by decide +kernel)⟩
  · exact ⟨_, rfl, p (w := "z") (by decide +kernel) (by decide +kernel) (by decide +kernel) (by decide +kernel)⟩
  · exact ⟨_, rfl, p (w := "Z") (by decide +kernel) (by decide +kernel) (by decide +kernel) (by decide +kernel)⟩
  · exact ⟨_, rfl, p (w := "11") (by decide +kernel) (by decide +kernel) (by decide +kernel) (by decide +kernel)⟩
  · exact ⟨_, rfl, [("put" : Str)], by decide +kernel, by decide +kernel, fun _ _ _ => .none⟩
theorem split_40 : Txt.split "set 40 1" " " = [("set" : Str), tx 40, one (sg 1)] := by decide +kernel
theorem split_39 : Txt.split "set 39 0" " " = [("set" : Str), tx 39, one (sg 0)] := by decide +kernel
theorem split_put1 : Txt.split "put 1" " " = [("put" : Str), one (sg 1)] := by decide +kernel
theorem cut_set (fs : List Nat) (i f : Nat) (h : i < fs.length) : fs.take i ++ [f] ++ fs.drop (i + 1) = fs.set i f := by
  induction fs generalizing i with
  | nil => cases h
  | cons a r ih =>
    cases i with
    | zero => rfl
    | succ i =>
      show a :: (r.take i ++ [f] ++ r.drop (i + 1)) = a :: r.set i f
      rw [ih i (by rw [List.length_cons] at h; omega)]
theorem off_40 {fs : List Nat} (h : fs.length = 40) : offFs fs = fs.take 39 := by
  unfold offFs
  rw [if_neg (by omega), List.dropLast_eq_take, h]
theorem put_39 {fs : List Nat} (h : fs.length = 40) : putFs (fs.take 39) 1 = fs.take 39 ++ [1] := by
  unfold putFs
  rw [if_neg fun z => by
    have := congrArg List.length z
    rw [List.length_take, h] at this
    cases this]
end Fx

namespace Fx
open PySem PySem.Spec PyProof.Rows L2
def topS (i : Nat) : Stmt := PySem.Challenge.pw_figurerounds_k39_desk_of_forty_figures.main.body.getD i (.Pass ⟨0, 0, 0, 0⟩)
abbrev s_read_number : Stmt := topS 9
theorem sc_read_number : FnScope ["text", "base", "number", "place", "sign", "figure"] ["text", "base"] (defScope s_read_number) := ⟨rfl, rfl, rfl, by decide +kernel, rfl, by decide +kernel, by decide +kernel⟩
abbrev s_figures_of : Stmt := topS 11
theorem sc_figures_of : FnScope ["number", "base", "figures", "rest"] ["number", "base"] (defScope s_figures_of) := ⟨rfl, rfl, rfl, by decide +kernel, rfl, by decide +kernel, by decide +kernel⟩
abbrev s_number_shown : Stmt := topS 10
theorem sc_number_shown : FnScope ["number", "base", "figure"] ["number", "base"] (defScope s_number_shown) := ⟨rfl, rfl, rfl, by decide +kernel, rfl, by decide +kernel, by decide +kernel⟩
abbrev s_power_of : Stmt := topS 12
theorem sc_power_of : FnScope ["figure", "power", "worth", "_"] ["figure", "power"] (defScope s_power_of) := ⟨rfl, rfl, rfl, by decide +kernel, rfl, by decide +kernel, by decide +kernel⟩
abbrev s_step_of : Stmt := topS 13
theorem sc_step_of : FnScope ["number", "base", "power", "figure"] ["number", "base", "power"] (defScope s_step_of) := ⟨rfl, rfl, rfl, by decide +kernel, rfl, by decide +kernel, by decide +kernel⟩
abbrev s_worths_of : Stmt := topS 20
theorem sc_worths_of : FnScope ["base", "power", "figure"] ["base", "power"] (defScope s_worths_of) := ⟨rfl, rfl, rfl, by decide +kernel, rfl, by decide +kernel, by decide +kernel⟩
abbrev s_way_of : Stmt := topS 37
theorem sc_way_of : FnScope ["number", "base", "power", "places"] ["number", "base", "power"] (defScope s_way_of) := ⟨rfl, rfl, rfl, by decide +kernel, rfl, by decide +kernel, by decide +kernel⟩
abbrev s_end_of : Stmt := topS 35
theorem sc_end_of : FnScope ["number", "base", "power", "way", "away"] ["number", "base", "power"] (defScope s_end_of) := ⟨rfl, rfl, rfl, by decide +kernel, rfl, by decide +kernel, by decide +kernel⟩
abbrev s_check_length : Stmt := topS 66
theorem sc_check_length : FnScope ["word"] ["word"] (defScope s_check_length) := ⟨rfl, rfl, rfl, by decide +kernel, rfl, by decide +kernel, by decide +kernel⟩
abbrev s_number_of_ten : Stmt := topS 64
theorem sc_number_of_ten : FnScope ["word"] ["word"] (defScope s_number_of_ten) := ⟨rfl, rfl, rfl, by decide +kernel, rfl, by decide +kernel, by decide +kernel⟩
abbrev s_figure_of : Stmt := topS 65
theorem sc_figure_of : FnScope ["word"] ["word"] (defScope s_figure_of) := ⟨rfl, rfl, rfl, by decide +kernel, rfl, by decide +kernel, by decide +kernel⟩
abbrev s_is_pair : Stmt := topS 67
theorem sc_is_pair : FnScope ["base", "power"] ["base", "power"] (defScope s_is_pair) := ⟨rfl, rfl, rfl, by decide +kernel, rfl, by decide +kernel, by decide +kernel⟩
abbrev s__law_seed : Stmt := topS 69
theorem sc__law_seed : FnScope ["cell", "number"] ["cell"] (defScope s__law_seed) := ⟨rfl, rfl, rfl, by decide +kernel, rfl, by decide +kernel, by decide +kernel⟩
abbrev s__law_draw : Stmt := topS 70
theorem sc__law_draw : FnScope ["seed", "most", "found", "number"] ["seed", "most"] (defScope s__law_draw) := ⟨rfl, rfl, rfl, by decide +kernel, rfl, by decide +kernel, by decide +kernel⟩
abbrev s__law_cells : Stmt := topS 71
theorem sc__law_cells : FnScope ["script", "many"] ["script", "many"] (defScope s__law_cells) := ⟨rfl, rfl, rfl, by decide +kernel, rfl, by decide +kernel, by decide +kernel⟩
abbrev s__law_power : Stmt := topS 72
theorem sc__law_power : FnScope ["number", "power", "found", "turn"] ["number", "power"] (defScope s__law_power) := ⟨rfl, rfl, rfl, by decide +kernel, rfl, by decide +kernel, by decide +kernel⟩
abbrev s__law_pair : Stmt := topS 73
theorem sc__law_pair : FnScope ["seed", "base", "power", "turn"] ["seed"] (defScope s__law_pair) := ⟨rfl, rfl, rfl, by decide +kernel, rfl, by decide +kernel, by decide +kernel⟩
abbrev s__law_figures : Stmt := topS 74
theorem sc__law_figures : FnScope ["number", "base", "found"] ["number", "base"] (defScope s__law_figures) := ⟨rfl, rfl, rfl, by decide +kernel, rfl, by decide +kernel, by decide +kernel⟩
abbrev s__law_text : Stmt := topS 75
theorem sc__law_text : FnScope ["row", "figure"] ["row"] (defScope s__law_text) := ⟨rfl, rfl, rfl, by decide +kernel, rfl, by decide +kernel, by decide +kernel⟩
abbrev s__law_step : Stmt := topS 76
theorem sc__law_step : FnScope ["row", "power", "figure"] ["row", "power"] (defScope s__law_step) := ⟨rfl, rfl, rfl, by decide +kernel, rfl, by decide +kernel, by decide +kernel⟩
abbrev s__law_end : Stmt := topS 77
theorem sc__law_end : FnScope ["row", "base", "power", "here", "figure", "seen", "tail", "one"] ["row", "base", "power"] (defScope s__law_end) := ⟨rfl, rfl, rfl, by decide +kernel, rfl, by decide +kernel, by decide +kernel⟩
abbrev s_KeptNumber__init : Stmt := inClass (topS 58) 0
theorem sc_KeptNumber__init : FnScope ["self", "base", "power"] ["self", "base", "power"] (defScope s_KeptNumber__init) := ⟨rfl, rfl, rfl, by decide +kernel, rfl, by decide +kernel, by decide +kernel⟩
abbrev s_Desk__begin : Stmt := inClass (topS 63) 2
theorem sc_Desk__begin : FnScope ["self", "base_word", "power_word", "base", "power"] ["self", "base_word", "power_word"] (defScope s_Desk__begin) := ⟨rfl, rfl, rfl, by decide +kernel, rfl, by decide +kernel, by decide +kernel⟩
abbrev s_KeptNumber__check_figure : Stmt := inClass (topS 58) 8
theorem sc_KeptNumber__check_figure : FnScope ["self", "figure"] ["self", "figure"] (defScope s_KeptNumber__check_figure) := ⟨rfl, rfl, rfl, by decide +kernel, rfl, by decide +kernel, by decide +kernel⟩
abbrev s_KeptNumber__put_figure : Stmt := inClass (topS 58) 1
theorem sc_KeptNumber__put_figure : FnScope ["self", "figure"] ["self", "figure"] (defScope s_KeptNumber__put_figure) := ⟨rfl, rfl, rfl, by decide +kernel, rfl, by decide +kernel, by decide +kernel⟩
abbrev s_KeptNumber__many_figures : Stmt := inClass (topS 58) 7
theorem sc_KeptNumber__many_figures : FnScope ["self"] ["self"] (defScope s_KeptNumber__many_figures) := ⟨rfl, rfl, rfl, by decide +kernel, rfl, by decide +kernel, by decide +kernel⟩
abbrev s_Desk__put : Stmt := inClass (topS 63) 3
theorem sc_Desk__put : FnScope ["self", "word", "figure"] ["self", "word"] (defScope s_Desk__put) := ⟨rfl, rfl, rfl, by decide +kernel, rfl, by decide +kernel, by decide +kernel⟩
abbrev s_KeptNumber__take_off : Stmt := inClass (topS 58) 2
theorem sc_KeptNumber__take_off : FnScope ["self"] ["self"] (defScope s_KeptNumber__take_off) := ⟨rfl, rfl, rfl, by decide +kernel, rfl, by decide +kernel, by decide +kernel⟩
abbrev s_Desk__take_off : Stmt := inClass (topS 63) 4
theorem sc_Desk__take_off : FnScope ["self"] ["self"] (defScope s_Desk__take_off) := ⟨rfl, rfl, rfl, by decide +kernel, rfl, by decide +kernel, by decide +kernel⟩
abbrev s_KeptNumber__set_figure : Stmt := inClass (topS 58) 3
theorem sc_KeptNumber__set_figure : FnScope ["self", "place", "figure", "many"] ["self", "place", "figure"] (defScope s_KeptNumber__set_figure) := ⟨rfl, rfl, rfl, by decide +kernel, rfl, by decide +kernel, by decide +kernel⟩
abbrev s_Desk__change : Stmt := inClass (topS 63) 5
theorem sc_Desk__change : FnScope ["self", "place_word", "figure_word", "place"] ["self", "place_word", "figure_word"] (defScope s_Desk__change) := ⟨rfl, rfl, rfl, by decide +kernel, rfl, by decide +kernel, by decide +kernel⟩
abbrev s_Desk__shown : Stmt := inClass (topS 63) 10
theorem sc_Desk__shown : FnScope ["self", "number"] ["self", "number"] (defScope s_Desk__shown) := ⟨rfl, rfl, rfl, by decide +kernel, rfl, by decide +kernel, by decide +kernel⟩
abbrev s_Desk__end_row : Stmt := inClass (topS 63) 12
theorem sc_Desk__end_row : FnScope ["self", "end"] ["self", "end"] (defScope s_Desk__end_row) := ⟨rfl, rfl, rfl, by decide +kernel, rfl, by decide +kernel, by decide +kernel⟩
abbrev s_KeptNumber__number_now : Stmt := inClass (topS 58) 4
theorem sc_KeptNumber__number_now : FnScope ["self", "number", "figure"] ["self"] (defScope s_KeptNumber__number_now) := ⟨rfl, rfl, rfl, by decide +kernel, rfl, by decide +kernel, by decide +kernel⟩
abbrev s_KeptNumber__step_now : Stmt := inClass (topS 58) 5
theorem sc_KeptNumber__step_now : FnScope ["self", "figure"] ["self"] (defScope s_KeptNumber__step_now) := ⟨rfl, rfl, rfl, by decide +kernel, rfl, by decide +kernel, by decide +kernel⟩
abbrev s_KeptNumber__end_now : Stmt := inClass (topS 58) 6
theorem sc_KeptNumber__end_now : FnScope ["self"] ["self"] (defScope s_KeptNumber__end_now) := ⟨rfl, rfl, rfl, by decide +kernel, rfl, by decide +kernel, by decide +kernel⟩
abbrev s_Desk__ask : Stmt := inClass (topS 63) 1
theorem sc_Desk__ask : FnScope ["self", "line", "base", "power", "figure", "place", "turn", "words", "total", "bound", "least", "so"] ["self", "line"] (defScope s_Desk__ask) := ⟨rfl, rfl, rfl, by decide +kernel, rfl, by decide +kernel, by decide +kernel⟩
abbrev s__law_as_due : Stmt := topS 78
theorem sc__law_as_due : FnScope ["desk", "row", "pair", "base", "power", "steps", "least"] ["desk", "row", "pair"] (defScope s__law_as_due) := ⟨rfl, rfl, rfl, by decide +kernel, rfl, by decide +kernel, by decide +kernel⟩
abbrev s__law_kind : Stmt := topS 79
theorem sc__law_kind : FnScope ["desk", "line", "caught", "e", "kinds"] ["desk", "line"] (defScope s__law_kind) := ⟨rfl, rfl, rfl, by decide +kernel, rfl, by decide +kernel, by decide +kernel⟩
abbrev s__law_put : Stmt := topS 80
theorem sc__law_put : FnScope ["seed", "desk", "pair", "way", "row", "k", "figure"] ["seed", "desk", "pair"] (defScope s__law_put) := ⟨rfl, rfl, rfl, by decide +kernel, rfl, by decide +kernel, by decide +kernel⟩
abbrev s__law_full_right : Stmt := topS 81
theorem sc__law_full_right : FnScope ["seed", "desk", "row", "pair", "line", "place", "figure"] ["seed", "desk", "row", "pair"] (defScope s__law_full_right) := ⟨rfl, rfl, rfl, by decide +kernel, rfl, by decide +kernel, by decide +kernel⟩
abbrev s_Desk__init : Stmt := inClass (topS 63) 0
theorem sc_Desk__init : FnScope ["self"] ["self"] (defScope s_Desk__init) := ⟨rfl, rfl, rfl, by decide +kernel, rfl, by decide +kernel, by decide +kernel⟩
abbrev s_law : Stmt := topS 82
theorem sc_law : FnScope ["script", "cell", "seed", "pair", "desk", "row"] ["script"] (defScope s_law) := ⟨rfl, rfl, rfl, by decide +kernel, rfl, by decide +kernel, by decide +kernel⟩
abbrev P : Program := PySem.Challenge.pw_figurerounds_k39_desk_of_forty_figures
structure Txt (K : PySem.W.Frag) (mg : Str → Option Value) where
  k_FigureError : Addr
  gk_FigureError : mg "FigureError" = some (.ref k_FigureError)
  x_FigureError : XCls K k_FigureError
  k_NoRound : Addr
  gk_NoRound : mg "NoRound" = some (.ref k_NoRound)
  x_NoRound : XCls K k_NoRound
  k_NoFigure : Addr
  gk_NoFigure : mg "NoFigure" = some (.ref k_NoFigure)
  x_NoFigure : XCls K k_NoFigure
  k_NoPlace : Addr
  gk_NoPlace : mg "NoPlace" = some (.ref k_NoPlace)
  x_NoPlace : XCls K k_NoPlace
  k_NoAsk : Addr
  gk_NoAsk : mg "NoAsk" = some (.ref k_NoAsk)
  x_NoAsk : XCls K k_NoAsk
  k_NoNumber : Addr
  gk_NoNumber : mg "NoNumber" = some (.ref k_NoNumber)
  x_NoNumber : XCls K k_NoNumber
  s_NoRound_FigureError : PySem.W.subIn K (.ref k_NoRound) (.ref k_FigureError) = some true
  s_NoRound_NoRound : PySem.W.subIn K (.ref k_NoRound) (.ref k_NoRound) = some true
  s_NoRound_NoFigure : PySem.W.subIn K (.ref k_NoRound) (.ref k_NoFigure) = some false
  s_NoRound_NoPlace : PySem.W.subIn K (.ref k_NoRound) (.ref k_NoPlace) = some false
  s_NoRound_NoAsk : PySem.W.subIn K (.ref k_NoRound) (.ref k_NoAsk) = some false
  s_NoRound_NoNumber : PySem.W.subIn K (.ref k_NoRound) (.ref k_NoNumber) = some false
  I_NoRound : XIns K k_NoRound
  xq_NoRound : PySem.W.excIn K k_NoRound [.type "ValueError", .type "Exception", .type "BaseException", .type "object"] "ValueError.__new__" = true
  s_NoFigure_FigureError : PySem.W.subIn K (.ref k_NoFigure) (.ref k_FigureError) = some true
  s_NoFigure_NoRound : PySem.W.subIn K (.ref k_NoFigure) (.ref k_NoRound) = some false
  s_NoFigure_NoFigure : PySem.W.subIn K (.ref k_NoFigure) (.ref k_NoFigure) = some true
  s_NoFigure_NoPlace : PySem.W.subIn K (.ref k_NoFigure) (.ref k_NoPlace) = some false
  s_NoFigure_NoAsk : PySem.W.subIn K (.ref k_NoFigure) (.ref k_NoAsk) = some false
  s_NoFigure_NoNumber : PySem.W.subIn K (.ref k_NoFigure) (.ref k_NoNumber) = some false
  I_NoFigure : XIns K k_NoFigure
  xq_NoFigure : PySem.W.excIn K k_NoFigure [.type "ValueError", .type "Exception", .type "BaseException", .type "object"] "ValueError.__new__" = true
  s_NoPlace_FigureError : PySem.W.subIn K (.ref k_NoPlace) (.ref k_FigureError) = some true
  s_NoPlace_NoRound : PySem.W.subIn K (.ref k_NoPlace) (.ref k_NoRound) = some false
  s_NoPlace_NoFigure : PySem.W.subIn K (.ref k_NoPlace) (.ref k_NoFigure) = some false
  s_NoPlace_NoPlace : PySem.W.subIn K (.ref k_NoPlace) (.ref k_NoPlace) = some true
  s_NoPlace_NoAsk : PySem.W.subIn K (.ref k_NoPlace) (.ref k_NoAsk) = some false
  s_NoPlace_NoNumber : PySem.W.subIn K (.ref k_NoPlace) (.ref k_NoNumber) = some false
  I_NoPlace : XIns K k_NoPlace
  xq_NoPlace : PySem.W.excIn K k_NoPlace [.type "ValueError", .type "Exception", .type "BaseException", .type "object"] "ValueError.__new__" = true
  s_NoAsk_FigureError : PySem.W.subIn K (.ref k_NoAsk) (.ref k_FigureError) = some true
  s_NoAsk_NoRound : PySem.W.subIn K (.ref k_NoAsk) (.ref k_NoRound) = some false
  s_NoAsk_NoFigure : PySem.W.subIn K (.ref k_NoAsk) (.ref k_NoFigure) = some false
  s_NoAsk_NoPlace : PySem.W.subIn K (.ref k_NoAsk) (.ref k_NoPlace) = some false
  s_NoAsk_NoAsk : PySem.W.subIn K (.ref k_NoAsk) (.ref k_NoAsk) = some true
  s_NoAsk_NoNumber : PySem.W.subIn K (.ref k_NoAsk) (.ref k_NoNumber) = some false
  I_NoAsk : XIns K k_NoAsk
  xq_NoAsk : PySem.W.excIn K k_NoAsk [.type "ValueError", .type "Exception", .type "BaseException", .type "object"] "ValueError.__new__" = true
  k_KeptNumber : Addr
  gk_KeptNumber : mg "KeptNumber" = some (.ref k_KeptNumber)
  cl_KeptNumber : Cls K k_KeptNumber
  na_KeptNumber_base : NoAttr K k_KeptNumber "base"
  na_KeptNumber_power : NoAttr K k_KeptNumber "power"
  na_KeptNumber_worths : NoAttr K k_KeptNumber "worths"
  na_KeptNumber_figures : NoAttr K k_KeptNumber "figures"
  k_Desk : Addr
  gk_Desk : mg "Desk" = some (.ref k_Desk)
  cl_Desk : Cls K k_Desk
  na_Desk_base : NoAttr K k_Desk "base"
  na_Desk_power : NoAttr K k_Desk "power"
  na_Desk_number : NoAttr K k_Desk "number"
  f_read_number : Addr
  fd_read_number : FuncData
  F_read_number : Fun K "read_number" "read_number" s_read_number f_read_number fd_read_number
  g_read_number : mg "read_number" = some (.ref f_read_number)
  b_read_number : Binds K fd_read_number ["text", "base"] []
  f_figures_of : Addr
  fd_figures_of : FuncData
  F_figures_of : Fun K "figures_of" "figures_of" s_figures_of f_figures_of fd_figures_of
  g_figures_of : mg "figures_of" = some (.ref f_figures_of)
  b_figures_of : Binds K fd_figures_of ["number", "base"] []
  f_number_shown : Addr
  fd_number_shown : FuncData
  F_number_shown : Fun K "number_shown" "number_shown" s_number_shown f_number_shown fd_number_shown
  g_number_shown : mg "number_shown" = some (.ref f_number_shown)
  b_number_shown : Binds K fd_number_shown ["number", "base"] []
  f_power_of : Addr
  fd_power_of : FuncData
  F_power_of : Fun K "power_of" "power_of" s_power_of f_power_of fd_power_of
  g_power_of : mg "power_of" = some (.ref f_power_of)
  b_power_of : Binds K fd_power_of ["figure", "power"] []
  f_step_of : Addr
  fd_step_of : FuncData
  F_step_of : Fun K "step_of" "step_of" s_step_of f_step_of fd_step_of
  g_step_of : mg "step_of" = some (.ref f_step_of)
  b_step_of : Binds K fd_step_of ["number", "base", "power"] []
  f_worths_of : Addr
  fd_worths_of : FuncData
  F_worths_of : Fun K "worths_of" "worths_of" s_worths_of f_worths_of fd_worths_of
  g_worths_of : mg "worths_of" = some (.ref f_worths_of)
  b_worths_of : Binds K fd_worths_of ["base", "power"] []
  f_way_of : Addr
  fd_way_of : FuncData
  F_way_of : Fun K "way_of" "way_of" s_way_of f_way_of fd_way_of
  g_way_of : mg "way_of" = some (.ref f_way_of)
  b_way_of : Binds K fd_way_of ["number", "base", "power"] []
  f_end_of : Addr
  fd_end_of : FuncData
  F_end_of : Fun K "end_of" "end_of" s_end_of f_end_of fd_end_of
  g_end_of : mg "end_of" = some (.ref f_end_of)
  b_end_of : Binds K fd_end_of ["number", "base", "power"] []
  f_check_length : Addr
  fd_check_length : FuncData
  F_check_length : Fun K "check_length" "check_length" s_check_length f_check_length fd_check_length
  g_check_length : mg "check_length" = some (.ref f_check_length)
  b_check_length : Binds K fd_check_length ["word"] []
  f_number_of_ten : Addr
  fd_number_of_ten : FuncData
  F_number_of_ten : Fun K "number_of_ten" "number_of_ten" s_number_of_ten f_number_of_ten fd_number_of_ten
  g_number_of_ten : mg "number_of_ten" = some (.ref f_number_of_ten)
  b_number_of_ten : Binds K fd_number_of_ten ["word"] []
  f_figure_of : Addr
  fd_figure_of : FuncData
  F_figure_of : Fun K "figure_of" "figure_of" s_figure_of f_figure_of fd_figure_of
  g_figure_of : mg "figure_of" = some (.ref f_figure_of)
  b_figure_of : Binds K fd_figure_of ["word"] []
  f_is_pair : Addr
  fd_is_pair : FuncData
  F_is_pair : Fun K "is_pair" "is_pair" s_is_pair f_is_pair fd_is_pair
  g_is_pair : mg "is_pair" = some (.ref f_is_pair)
  b_is_pair : Binds K fd_is_pair ["base", "power"] []
  f__law_seed : Addr
  fd__law_seed : FuncData
  F__law_seed : Fun K "_law_seed" "_law_seed" s__law_seed f__law_seed fd__law_seed
  g__law_seed : mg "_law_seed" = some (.ref f__law_seed)
  b__law_seed : Binds K fd__law_seed ["cell"] []
  f__law_draw : Addr
  fd__law_draw : FuncData
  F__law_draw : Fun K "_law_draw" "_law_draw" s__law_draw f__law_draw fd__law_draw
  g__law_draw : mg "_law_draw" = some (.ref f__law_draw)
  b__law_draw : Binds K fd__law_draw ["seed", "most"] []
  f__law_cells : Addr
  fd__law_cells : FuncData
  F__law_cells : Fun K "_law_cells" "_law_cells" s__law_cells f__law_cells fd__law_cells
  g__law_cells : mg "_law_cells" = some (.ref f__law_cells)
  b__law_cells : Binds K fd__law_cells ["script", "many"] []
  f__law_power : Addr
  fd__law_power : FuncData
  F__law_power : Fun K "_law_power" "_law_power" s__law_power f__law_power fd__law_power
  g__law_power : mg "_law_power" = some (.ref f__law_power)
  b__law_power : Binds K fd__law_power ["number", "power"] []
  f__law_pair : Addr
  fd__law_pair : FuncData
  F__law_pair : Fun K "_law_pair" "_law_pair" s__law_pair f__law_pair fd__law_pair
  g__law_pair : mg "_law_pair" = some (.ref f__law_pair)
  b__law_pair : Binds K fd__law_pair ["seed"] []
  f__law_figures : Addr
  fd__law_figures : FuncData
  F__law_figures : Fun K "_law_figures" "_law_figures" s__law_figures f__law_figures fd__law_figures
  g__law_figures : mg "_law_figures" = some (.ref f__law_figures)
  b__law_figures : Binds K fd__law_figures ["number", "base"] []
  f__law_text : Addr
  fd__law_text : FuncData
  F__law_text : Fun K "_law_text" "_law_text" s__law_text f__law_text fd__law_text
  g__law_text : mg "_law_text" = some (.ref f__law_text)
  b__law_text : Binds K fd__law_text ["row"] []
  f__law_step : Addr
  fd__law_step : FuncData
  F__law_step : Fun K "_law_step" "_law_step" s__law_step f__law_step fd__law_step
  g__law_step : mg "_law_step" = some (.ref f__law_step)
  b__law_step : Binds K fd__law_step ["row", "power"] []
  f__law_end : Addr
  fd__law_end : FuncData
  F__law_end : Fun K "_law_end" "_law_end" s__law_end f__law_end fd__law_end
  g__law_end : mg "_law_end" = some (.ref f__law_end)
  b__law_end : Binds K fd__law_end ["row", "base", "power"] []
  f_KeptNumber__init : Addr
  fd_KeptNumber__init : FuncData
  F_KeptNumber__init : Fun K "__init__" "KeptNumber.__init__" s_KeptNumber__init f_KeptNumber__init fd_KeptNumber__init
  b_KeptNumber__init : Binds K fd_KeptNumber__init ["self", "base", "power"] []
  M_KeptNumber : Mk K k_KeptNumber f_KeptNumber__init
  f_Desk__begin : Addr
  fd_Desk__begin : FuncData
  F_Desk__begin : Fun K "begin" "Desk.begin" s_Desk__begin f_Desk__begin fd_Desk__begin
  b_Desk__begin : Binds K fd_Desk__begin ["self", "base_word", "power_word"] []
  me_Desk__begin : Meth K k_Desk "begin" f_Desk__begin
  f_KeptNumber__check_figure : Addr
  fd_KeptNumber__check_figure : FuncData
  F_KeptNumber__check_figure : Fun K "check_figure" "KeptNumber.check_figure" s_KeptNumber__check_figure f_KeptNumber__check_figure fd_KeptNumber__check_figure
  b_KeptNumber__check_figure : Binds K fd_KeptNumber__check_figure ["self", "figure"] []
  me_KeptNumber__check_figure : Meth K k_KeptNumber "check_figure" f_KeptNumber__check_figure
  f_KeptNumber__put_figure : Addr
  fd_KeptNumber__put_figure : FuncData
  F_KeptNumber__put_figure : Fun K "put_figure" "KeptNumber.put_figure" s_KeptNumber__put_figure f_KeptNumber__put_figure fd_KeptNumber__put_figure
  b_KeptNumber__put_figure : Binds K fd_KeptNumber__put_figure ["self", "figure"] []
  me_KeptNumber__put_figure : Meth K k_KeptNumber "put_figure" f_KeptNumber__put_figure
  f_KeptNumber__many_figures : Addr
  fd_KeptNumber__many_figures : FuncData
  F_KeptNumber__many_figures : Fun K "many_figures" "KeptNumber.many_figures" s_KeptNumber__many_figures f_KeptNumber__many_figures fd_KeptNumber__many_figures
  b_KeptNumber__many_figures : Binds K fd_KeptNumber__many_figures ["self"] []
  me_KeptNumber__many_figures : Meth K k_KeptNumber "many_figures" f_KeptNumber__many_figures
  f_Desk__put : Addr
  fd_Desk__put : FuncData
  F_Desk__put : Fun K "put" "Desk.put" s_Desk__put f_Desk__put fd_Desk__put
  b_Desk__put : Binds K fd_Desk__put ["self", "word"] []
  me_Desk__put : Meth K k_Desk "put" f_Desk__put
  f_KeptNumber__take_off : Addr
  fd_KeptNumber__take_off : FuncData
  F_KeptNumber__take_off : Fun K "take_off" "KeptNumber.take_off" s_KeptNumber__take_off f_KeptNumber__take_off fd_KeptNumber__take_off
  b_KeptNumber__take_off : Binds K fd_KeptNumber__take_off ["self"] []
  me_KeptNumber__take_off : Meth K k_KeptNumber "take_off" f_KeptNumber__take_off
  f_Desk__take_off : Addr
  fd_Desk__take_off : FuncData
  F_Desk__take_off : Fun K "take_off" "Desk.take_off" s_Desk__take_off f_Desk__take_off fd_Desk__take_off
  b_Desk__take_off : Binds K fd_Desk__take_off ["self"] []
  me_Desk__take_off : Meth K k_Desk "take_off" f_Desk__take_off
  f_KeptNumber__set_figure : Addr
  fd_KeptNumber__set_figure : FuncData
  F_KeptNumber__set_figure : Fun K "set_figure" "KeptNumber.set_figure" s_KeptNumber__set_figure f_KeptNumber__set_figure fd_KeptNumber__set_figure
  b_KeptNumber__set_figure : Binds K fd_KeptNumber__set_figure ["self", "place", "figure"] []
  me_KeptNumber__set_figure : Meth K k_KeptNumber "set_figure" f_KeptNumber__set_figure
  f_Desk__change : Addr
  fd_Desk__change : FuncData
  F_Desk__change : Fun K "change" "Desk.change" s_Desk__change f_Desk__change fd_Desk__change
  b_Desk__change : Binds K fd_Desk__change ["self", "place_word", "figure_word"] []
  me_Desk__change : Meth K k_Desk "change" f_Desk__change
  f_Desk__shown : Addr
  fd_Desk__shown : FuncData
  F_Desk__shown : Fun K "shown" "Desk.shown" s_Desk__shown f_Desk__shown fd_Desk__shown
  b_Desk__shown : Binds K fd_Desk__shown ["self", "number"] []
  me_Desk__shown : Meth K k_Desk "shown" f_Desk__shown
  f_Desk__end_row : Addr
  fd_Desk__end_row : FuncData
  F_Desk__end_row : Fun K "end_row" "Desk.end_row" s_Desk__end_row f_Desk__end_row fd_Desk__end_row
  b_Desk__end_row : Binds K fd_Desk__end_row ["self", "end"] []
  me_Desk__end_row : Meth K k_Desk "end_row" f_Desk__end_row
  f_KeptNumber__number_now : Addr
  fd_KeptNumber__number_now : FuncData
  F_KeptNumber__number_now : Fun K "number_now" "KeptNumber.number_now" s_KeptNumber__number_now f_KeptNumber__number_now fd_KeptNumber__number_now
  b_KeptNumber__number_now : Binds K fd_KeptNumber__number_now ["self"] []
  me_KeptNumber__number_now : Meth K k_KeptNumber "number_now" f_KeptNumber__number_now
  f_KeptNumber__step_now : Addr
  fd_KeptNumber__step_now : FuncData
  F_KeptNumber__step_now : Fun K "step_now" "KeptNumber.step_now" s_KeptNumber__step_now f_KeptNumber__step_now fd_KeptNumber__step_now
  b_KeptNumber__step_now : Binds K fd_KeptNumber__step_now ["self"] []
  me_KeptNumber__step_now : Meth K k_KeptNumber "step_now" f_KeptNumber__step_now
  f_KeptNumber__end_now : Addr
  fd_KeptNumber__end_now : FuncData
  F_KeptNumber__end_now : Fun K "end_now" "KeptNumber.end_now" s_KeptNumber__end_now f_KeptNumber__end_now fd_KeptNumber__end_now
  b_KeptNumber__end_now : Binds K fd_KeptNumber__end_now ["self"] []
  me_KeptNumber__end_now : Meth K k_KeptNumber "end_now" f_KeptNumber__end_now
  f_Desk__ask : Addr
  fd_Desk__ask : FuncData
  F_Desk__ask : Fun K "ask" "Desk.ask" s_Desk__ask f_Desk__ask fd_Desk__ask
  b_Desk__ask : Binds K fd_Desk__ask ["self", "line"] []
  me_Desk__ask : Meth K k_Desk "ask" f_Desk__ask
  f__law_as_due : Addr
  fd__law_as_due : FuncData
  F__law_as_due : Fun K "_law_as_due" "_law_as_due" s__law_as_due f__law_as_due fd__law_as_due
  g__law_as_due : mg "_law_as_due" = some (.ref f__law_as_due)
  b__law_as_due : Binds K fd__law_as_due ["desk", "row", "pair"] []
  f__law_kind : Addr
  fd__law_kind : FuncData
  F__law_kind : Fun K "_law_kind" "_law_kind" s__law_kind f__law_kind fd__law_kind
  g__law_kind : mg "_law_kind" = some (.ref f__law_kind)
  b__law_kind : Binds K fd__law_kind ["desk", "line"] []
  f__law_put : Addr
  fd__law_put : FuncData
  F__law_put : Fun K "_law_put" "_law_put" s__law_put f__law_put fd__law_put
  g__law_put : mg "_law_put" = some (.ref f__law_put)
  b__law_put : Binds K fd__law_put ["seed", "desk", "pair"] []
  f__law_full_right : Addr
  fd__law_full_right : FuncData
  F__law_full_right : Fun K "_law_full_right" "_law_full_right" s__law_full_right f__law_full_right fd__law_full_right
  g__law_full_right : mg "_law_full_right" = some (.ref f__law_full_right)
  b__law_full_right : Binds K fd__law_full_right ["seed", "desk", "row", "pair"] []
  f_Desk__init : Addr
  fd_Desk__init : FuncData
  F_Desk__init : Fun K "__init__" "Desk.__init__" s_Desk__init f_Desk__init fd_Desk__init
  b_Desk__init : Binds K fd_Desk__init ["self"] []
  M_Desk : Mk K k_Desk f_Desk__init
  f_law : Addr
  fd_law : FuncData
  F_law : Fun K "law" "law" s_law f_law fd_law
  g_law : mg "law" = some (.ref f_law)
  b_law : Binds K fd_law ["script"] []
  m_ValueError : mg "ValueError" = none
  m_enumerate : mg "enumerate" = none
  m_int : mg "int" = none
  m_isinstance : mg "isinstance" = none
  m_len : mg "len" = none
  m_list : mg "list" = none
  m_max : mg "max" = none
  m_min : mg "min" = none
  m_range : mg "range" = none
  m_sum : mg "sum" = none
  m_tuple : mg "tuple" = none
  t_FIGURES : Tok
  c_FIGURES : mg "FIGURES" = some (.str "0123456789abcdef" t_FIGURES)
  t_MOST_SIGNS : Tok
  c_MOST_SIGNS : mg "MOST_SIGNS" = some (.int 40 t_MOST_SIGNS)
section
variable {w : World} {K : PySem.W.Frag} {mg : Str → Option Value} {base : Heap}
/-! ### read_number -/
def sp_read_number (K : PySem.W.Frag) : Sp := fun vs H Q _ => ∃ (ds : List Nat) (b : Nat), vs = [.str (txt ds), .int (b : Int)] ∧ 2 ≤ b ∧ b ≤ 16 ∧ Reads b ds ∧ ds.length ≤ 900 ∧ ∀ H', Same H H' → Q (.int (val b ds : Nat)) H'
theorem txt_ne {ds : List Nat} (h : ds ≠ []) : txt ds ≠ ("" : Str) := fun e => by
  have e1 := congrArg (fun x : Str => x.cps.toList.length) e
  have e2 : ("" : Str).cps.toList.length = 0 := by decide +kernel
  simp only [tl_txt, List.length_map, e2] at e1
  exact h (List.length_eq_zero_iff.mp e1)
theorem one_nought {d : Nat} (h : d < 16) (e : V.str (one (sg d)) = V.str ("0" : Str)) : d = 0 := by
  have e0 : ("0" : Str) = one (sg 0) := by decide +kernel
  rw [e0] at e
  injection e with e
  injection e with e
  have e1 := congrArg Array.toList e
  injection e1 with e1 _
  exact sg_inj h (by decide) e1
theorem ok_read_number (T : Txt K mg) : FnOk P w K mg base CX0 1 T.f_read_number T.fd_read_number ["text", "base"] (sp_read_number K) := by
  refine T.F_read_number.ok sc_read_number (fun vs H Q E h => ?_) (fun cdv A outer s H vs Q E hr h => ?_)
  · obtain ⟨_, _, rfl, _⟩ := h
    rfl
  · obtain ⟨ds, b, rfl, hb, hb16, hr, hl, q⟩ := h
    obtain ⟨d0, h0⟩ : ∃ d0, ds[0]? = some d0 := by
      cases ds with
      | nil => exact absurd rfl hr.ne
      | cons x r => exact ⟨x, rfl⟩
    have zl : (txt ds).length ≤ sizeLine := by
      rw [txt_len]
      exact Nat.le_of_lt (small1000 (by omega))
    have d0b := hr.below d0 (List.mem_of_getElem? h0)
    refine ⟨_, (C8.pss_cut (ps_if (PW.pt (pw_or (pt_cmpR op_eq (pv 0) pe_str (nomark _)) (pw_or1 (PW.pt (pw_and (pt_cmpR op_eq (pe_ix ix_str (pv 0) pe_int (fun _ _ => rfl)) pe_str (nomark _)) (pw_and1 (pt_cmpR op_gt (pe_callB (id := "len") call_len_str (by rfl) T.m_len (by decide +kernel) (pa_cons (pv 0) pa_nil)) pe_int (nomark _)))))))) (pss_one ps_never) pss_nil)
      (pss_cons (ps_set (i := 2) sc_read_number.nd rfl (Or.inl rfl) pe_int)
      (pss_cons (ps_for PassesOwn.never rfl (pi_enumS (by rfl) T.m_enumerate (pa_cons (pv 0) pa_nil)) (pg_tup rfl (pgs_cons (pg_name (i := 3) sc_read_number.nd rfl (Or.inl rfl)) (pgs_cons (pg_name (i := 4) sc_read_number.nd rfl (Or.inl rfl)) pgs_nil))) (pss_cons (ps_set (i := 5) sc_read_number.nd rfl (Or.inl rfl) (pe_m1 PySem.F.slot_str_find PySem.F.type_str_find mt_find (pe_glob (v := .str "0123456789abcdef") (by rfl) T.c_FIGURES ⟨_, rfl⟩) (pv 4)))
      (pss_cons (ps_if (PW.pt (pw_or (pt_cmpR op_lt (pv 5) pe_int (nomark _)) (pw_or1 (pt_cmpR op_ge (pv 5) (pv 1) (nomark _))))) (pss_one ps_never) pss_nil)
      (pss_one (ps_set (i := 2) sc_read_number.nd rfl (Or.inl rfl) (pe_op op_add (pe_op op_mul (pv 2) (pv 1)) (pv 5)))))))
      (pss_one (ps_ret (pv 2)))))), ?_⟩
    refine ⟨fun σ' H' => H' = H ∧ σ' = [some (.str (txt ds)), some (.int (b : Int)), none, none, none, none], ?_, ?_⟩
    · refine ⟨_, rfl, rfl, _, rfl, ?_⟩
      rw [decide_eq_false (fun z => txt_ne hr.ne (V.str.inj z))]
      refine iteF ?_
      refine ⟨_, rfl, _, 0, _, rfl, rfl, zl, txt_atI h0, rfl, _, rfl, ite2 (fun e => ?_) (fun e => ?_)⟩
      · have e1 := one_nought (by omega) (of_decide_eq_true e)
        have e2 := hr.head d0 h0 e1
        refine ⟨_, rfl, _, rfl, zl, _, _, rfl, rfl, _, rfl, ?_⟩
        rw [txt_len, e2]
        exact ⟨rfl, rfl⟩
      · exact ⟨rfl, rfl⟩
    · rintro σ' H' ⟨rfl, rfl⟩
      refine ⟨_, rfl, _, rfl, for_it walk_enumS (fun i σ' H1 => Same H' H1 ∧ ∃ y3 y4 y5, σ' = [some (.str (txt ds)), some (.int (b : Int)), some (.int (val b (ds.take i) : Nat)), y3, y4, y5]) ⟨Same.refl _, _, _, _, rfl⟩ (fun _ _ _ _ _ => trivial) ?_ ?_⟩
      · rintro i x σ' H1 H2 hi ⟨s1, y3, y4, y5, rfl⟩ ⟨t, c, rfl, ht, hc, rfl⟩
        have hi' : i < ds.length := by
          have z := txt_len ds
          unfold Str.length at z
          omega
        have hd : ds[i]? = some ds[i] := List.getElem?_eq_getElem hi'
        rw [txt_at hd] at hc
        cases hc
        have db := hr.below _ (List.mem_of_getElem? hd)
        refine ⟨t, _, rfl, .of upd_same, rfl, _, _, rfl, _, _, rfl, rfl, ?_⟩
        refine ⟨⟨_, rfl⟩, _, rfl, FIG, _, rfl, rfl, ?_⟩
        rw [fig_find (by omega)]
        refine ⟨_, rfl, _, _, rfl, rfl, _, rfl, ?_⟩
        rw [decide_eq_false (by omega)]
        refine iteF ?_
        refine ⟨_, rfl, _, rfl, _, _, rfl, rfl, _, rfl, ?_⟩
        rw [decide_eq_false (by omega)]
        refine iteF ?_
        refine ⟨_, rfl, _, rfl, _, _, rfl, rfl, .inr (by omega), _, rfl, _, _, rfl, rfl, s1.trans (Same.new ht), some (.int (i : Nat)), some (.str (one (sg ds[i]))), some (.int (ds[i] : Nat)), ?_⟩
        rw [val_take hd]
        rfl
      · rintro σ' H1 ⟨s1, y3, y4, y5, rfl⟩
        have z := txt_len ds
        unfold Str.length at z
        rw [z, List.take_length]
        exact ⟨_, rfl, q _ s1⟩

/-! ### figures_of -/
def sp_figures_of (K : PySem.W.Frag) : Sp := fun vs H Q _ => ∃ n b : Nat, vs = [.int (n : Int), .int (b : Int)] ∧ 2 ≤ b ∧ b ≤ 16 ∧ n < 2 ^ 900 ∧ ∀ H' p, Same H H' → H p = none → H' p = some (.tup (ivs (figs b n))) → Q (.ref p) H'
def W_figures_of (n b : Nat) (H : Hp) (fl : Addr) (m : Nat) (σ' : L2.St) (H' : Hp) : Prop := ∃ pre : List Nat, σ' = [some (.int (n : Int)), some (.int (b : Int)), some (.ref fl), some (.int (m : Int))] ∧ Same H H' ∧ H' fl = some (.lst (ivs pre)) ∧ pre ++ (if m = 0 then [] else lsd b m) = lsd b n
theorem W_figures_of.len {n b : Nat} {pre : List Nat} {r : Nat} (hb : 2 ≤ b) (hn : n < 2 ^ 900) (h : pre ++ (if r = 0 then [] else lsd b r) = lsd b n) : pre.length ≤ 900 := by
  have h1 := congrArg List.length h
  rw [List.length_append] at h1
  have h2 := lsd_len_le hb 899 n hn
  omega
theorem ok_figures_of (T : Txt K mg) : FnOk P w K mg base CX0 1 T.f_figures_of T.fd_figures_of ["number", "base"] (sp_figures_of K) := by
  refine T.F_figures_of.ok sc_figures_of (fun vs H Q E h => ?_) (fun cdv A outer s H vs Q E hr h => ?_)
  · obtain ⟨_, _, rfl, _⟩ := h
    rfl
  · obtain ⟨n, b, rfl, hb, hb16, hn, q⟩ := h
    have wd : ∀ x : Int, CDivW x (b : Int) := fun x => divW 60 (by omega) (by omega)
    refine ⟨_, (pss_cons (ps_set (i := 2) sc_figures_of.nd rfl (Or.inl rfl) (pe_lst (pa_cons (pe_op op_mod (pv 0) (pv 1)) pa_nil)))
      (pss_cons (ps_set (i := 3) sc_figures_of.nd rfl (Or.inl rfl) (pe_op op_fdivW (pv 0) (pv 1)))
      (pss_cons (ps_while PassesOwn.never (pt_cmpR op_gt (pv 3) pe_int (nomark _)) (pss_cons (ps_expr (pe_bm PySem.F.plainAttrs_list PySem.F.slot_list_append PySem.F.type_list_append mt_append (pv 2) (pa_cons (pe_op op_mod (pv 3) (pv 1)) pa_nil)))
      (pss_one (ps_set (i := 3) sc_figures_of.nd rfl (Or.inl rfl) (pe_op op_fdivW (pv 3) (pv 1))))))
      (pss_one (ps_ret (pe_callTy (T := "tuple") call_tuple_of (by rfl) T.m_tuple (by decide +kernel) (pa_cons (pe_revL (pv 2)) pa_nil))))))), ?_⟩
    refine ⟨_, rfl, _, rfl, _, _, rfl, rfl, by walk_at "p", by show 1 ≤ sizeLine; decide, fun fl hfl => ?_⟩
    generalize g1 : upd H fl _ = H1
    obtain ⟨s1, t1⟩ := new_of g1 hfl
    refine ⟨_, rfl, _, rfl, _, _, rfl, rfl, wd _, ?_⟩
    refine ⟨W_figures_of n b H fl, ⟨n / b, [n % b], rfl, s1, t1, (lsd_split hb).symm⟩, ?_⟩
    rintro r σ' H2 ⟨pre, rfl, s2, t2, e⟩
    have lp := W_figures_of.len hb hn e
    refine ⟨_, rfl, _, _, rfl, rfl, _, rfl, ?_⟩
    by_cases h0 : r = 0
    · subst h0
      rw [if_pos rfl, List.append_nil] at e
      subst e
      refine iteF ?_
      refine ⟨_, rfl, fl, _, rfl, .of t2, fun p3 hp3 => ?_⟩
      generalize g3 : upd H2 p3 _ = H3
      obtain ⟨s3, t3⟩ := new_of g3 hp3
      refine ⟨p3, _, rfl, .inl ⟨.of t3, fun p4 hp4 => ?_⟩⟩
      rw [ivs_reverse]
      exact q _ p4 (s2.trans (s3.trans (Same.new hp4))) (s2.free (s3.free hp4)) upd_same
    · have hr : (0 : Int) < (r : Int) := by omega
      rw [decide_eq_true hr]
      refine iteT ⟨Nx (W_figures_of n b H fl) r, Nx.id, ?_⟩
      refine ⟨_, rfl, .inl ⟨rfl, _, .of t2⟩, _, rfl, _, rfl, _, _, rfl, rfl, by walk_at "p", fl, _, _, rfl, rfl, t2, small1000 (by rw [ivs_length]; omega), ?_⟩
      refine ⟨_, rfl, _, rfl, _, _, rfl, rfl, wd _, ?_⟩
      refine ⟨r / b, Nat.div_lt_self (by omega) (by omega), pre ++ [r % b], rfl, same_own s2 hfl, ?_, ?_⟩
      · rw [upd_same, ivs_append]
        rfl
      · rw [if_neg h0, lsd_split hb] at e
        rw [List.append_assoc]
        exact e

/-! ### number_shown -/
def sp_number_shown (K : PySem.W.Frag) : Sp := fun vs H Q _ => ∃ n b : Nat, vs = [.int (n : Int), .int (b : Int)] ∧ 2 ≤ b ∧ b ≤ 16 ∧ n < 2 ^ 900 ∧ ∀ H', Same H H' → Q (.str (txt (figs b n))) H'
theorem ok_number_shown (T : Txt K mg) : FnOk P w K mg base CX0 2 T.f_number_shown T.fd_number_shown ["number", "base"] (sp_number_shown K) := by
  refine T.F_number_shown.ok sc_number_shown (fun vs H Q E h => ?_) (fun cdv A outer s H vs Q E hr h => ?_)
  · obtain ⟨_, _, rfl, _⟩ := h
    rfl
  · obtain ⟨n, b, rfl, hb, hb16, hn, q⟩ := h
    have fl := figs_le hb hn
    refine ⟨_, (pss_one (ps_ret (pe_join pe_str (pe_lc (own := [("figure", 2)]) (g := (gName 2)) (tt := tYes) rfl sc_number_shown.nd (pi_tup (pe_call (ok_figures_of T) hr (by rfl) T.g_figures_of T.F_figures_of.kp T.b_figures_of .nil pass0 (pa_cons (pv 0) (pa_cons (pv 1) pa_nil)))) (blkOk_by (own := [("figure", 2)]) (N := ["number", "base", "figure"]) (sc := defScope s_number_shown) (by decide +kernel)) (fun _ _ _ _ _ => (pg_name (i := 2) sc_number_shown.nd rfl (Or.inl rfl))) (fun _ _ _ _ _ => pts_nil) (fun _ _ _ _ _ => (pe_ix ix_str (pe_glob (v := .str "0123456789abcdef") (by rfl) T.c_FIGURES ⟨_, rfl⟩) (pv 2) (fun _ _ => rfl))))))), ?_⟩
    refine ⟨⟨_, rfl⟩, ?_⟩
    refine ⟨_, rfl, _, rfl, n, b, rfl, hb, hb16, hn, fun H1 t s1 n1 e1 => ⟨t, rfl, ⟨_, .of e1⟩, fun D hD => ?_⟩⟩
    refine lc_tup (xs := ivs (figs b n)) (fun i H' => Same H1 H' ∧ H' D = some (.lst ((((figs b n).take i).map fun d => one (sg d)).map V.str))) ⟨Same.new hD, upd_same⟩ ?_ ?_ ?_
    · rintro i H' hi ⟨s2, e2⟩
      exact .of (s2 _ _ e1)
    · rintro i x H' hx ⟨s2, e2⟩
      obtain ⟨k, hk, rfl⟩ := ivs_get hx
      have kb := figs_below hb (List.mem_of_getElem? hk)
      have hi : i < (figs b n).length := (List.getElem?_eq_some_iff.mp hk).1
      refine ⟨rfl, _, rfl, _, _, _, rfl, rfl, fig_len, fig_at (by omega), ?_⟩
      refine ⟨_, e2, small1000 ?_, same_own s2 hD, ?_⟩
      · rw [List.length_map, List.length_map, List.length_take]
        omega
      · rw [upd_same, List.take_add_one, hk, List.map_append, List.map_append]
        rfl
    · rintro H' ⟨s2, e2⟩
      rw [ivs_length, List.take_length] at e2
      refine ⟨"", D, (figs b n).map fun d => one (sg d), rfl, rfl, .inl (.of e2), ?_, ?_⟩
      · have e : (((figs b n).map fun d => one (sg d)).map (·.length)).sum ≤ ((figs b n).map fun d => one (sg d)).length * 1 := by
          refine Nat.le_trans (sum_le_mul (m := 1) fun x hx => ?_) ?_
          · obtain ⟨y, hy, rfl⟩ := List.mem_map.mp hx
            obtain ⟨d, hd, rfl⟩ := List.mem_map.mp hy
            exact Nat.le_refl 1
          · rw [List.length_map]
            exact Nat.le_refl _
        have z : ("" : Str).length = 0 := by decide +kernel
        rw [List.length_map] at e ⊢
        rw [z]
        omega
      · have e3 : ((figs b n).map fun d => one (sg d)) = ((figs b n).map sg).map one := by rw [List.map_map]; rfl
        rw [e3, join_ones]
        exact q H' (s1.trans s2)

/-! ### power_of -/
def sp_power_of (K : PySem.W.Frag) : Sp := fun vs H Q _ => ∃ f p : Int, vs = [.int f, .int p] ∧ 0 ≤ p ∧ p < 2 ^ 62 ∧ -(2 ^ 64) < f ∧ f < 2 ^ 64 ∧ Q (.int (f ^ p.toNat)) H
theorem ok_power_of (T : Txt K mg) : FnOk P w K mg base CX0 1 T.f_power_of T.fd_power_of ["figure", "power"] (sp_power_of K) := by
  refine T.F_power_of.ok sc_power_of (fun vs H Q E h => ?_) (fun cdv A outer s H vs Q E hr h => ?_)
  · obtain ⟨_, _, rfl, _⟩ := h
    rfl
  · obtain ⟨f, p, rfl, h0, h1, h2, h3, q⟩ := h
    refine ⟨_, (pss_cons (ps_set (i := 2) sc_power_of.nd rfl (Or.inl rfl) pe_int)
      (pss_cons (ps_for PassesOwn.never rfl (pi_range1 (by rfl) T.m_range (pa_cons (pv 1) pa_nil)) (pg_name (i := 3) sc_power_of.nd rfl (Or.inl rfl)) (pss_one (ps_set (i := 2) sc_power_of.nd rfl (Or.inl rfl) (pe_op op_mul (pv 2) (pv 0)))))
      (pss_one (ps_ret (pv 2))))), ?_⟩
    refine ⟨_, rfl, _, rfl, by omega, by omega, for_range (lo := 0) (n := p.toNat) (fun i σ' H' => H' = H ∧ ∃ y, σ' = [some (.int f), some (.int p), some (.int (f ^ i)), y]) ⟨rfl, none, by rw [Int.pow_zero]; rfl⟩ ?_ ?_⟩
    · rintro i σ' H' hi ⟨rfl, y, rfl⟩
      refine ⟨_, rfl, _, rfl, _, _, rfl, rfl, .inr ⟨h2, h3⟩, rfl, some (.int (0 + i)), ?_⟩
      rw [Int.pow_succ]
      rfl
    · rintro σ' H' ⟨rfl, y, rfl⟩
      exact ⟨_, rfl, q⟩

/-! ### step_of -/
def sp_step_of (K : PySem.W.Frag) : Sp := fun vs H Q _ => ∃ n b p : Nat, vs = [.int (n : Int), .int (b : Int), .int (p : Int)] ∧ 2 ≤ b ∧ b ≤ 16 ∧ p ≤ 10 ∧ n < 2 ^ 900 ∧ ∀ H', Same H H' → Q (.int (stepN b p n : Nat)) H'
theorem ok_step_of (T : Txt K mg) : FnOk P w K mg base CX0 2 T.f_step_of T.fd_step_of ["number", "base", "power"] (sp_step_of K) := by
  refine T.F_step_of.ok sc_step_of (fun vs H Q E h => ?_) (fun cdv A outer s H vs Q E hr h => ?_)
  · obtain ⟨_, _, _, rfl, _⟩ := h
    rfl
  · obtain ⟨n, b, p, rfl, hb, hb16, hp, hn, q⟩ := h
    have fl := figs_le hb hn
    refine ⟨_, (pss_one (ps_ret (pe_callB (id := "sum") (cr_sum rfl) (by rfl) T.m_sum (by decide +kernel) (pa_cons (pe_lc (own := [("figure", 3)]) (g := (gName 3)) (tt := tYes) rfl sc_step_of.nd (pi_tup (pe_call (ok_figures_of T) hr (by rfl) T.g_figures_of T.F_figures_of.kp T.b_figures_of .nil pass0 (pa_cons (pv 0) (pa_cons (pv 1) pa_nil)))) (blkOk_by (own := [("figure", 3)]) (N := ["number", "base", "power", "figure"]) (sc := defScope s_step_of) (by decide +kernel)) (fun _ _ _ _ _ => (pg_name (i := 3) sc_step_of.nd rfl (Or.inl rfl))) (fun _ _ _ _ _ => pts_nil) (fun _ _ _ _ _ => (pe_call (ok_power_of T) hr (by rfl) T.g_power_of T.F_power_of.kp T.b_power_of .nil pass0 (pa_cons (pv 3) (pa_cons (pv 2) pa_nil))))) pa_nil)))), ?_⟩
    refine ⟨_, rfl, _, rfl, n, b, rfl, hb, hb16, hn, fun H1 t s1 n1 e1 => ⟨t, rfl, ⟨_, .of e1⟩, fun D hD => ?_⟩⟩
    refine lc_tup (xs := ivs (figs b n)) (fun i H' => Same H1 H' ∧ H' D = some (.lst (ivs (((figs b n).take i).map (· ^ p))))) ⟨Same.new hD, upd_same⟩ ?_ ?_ ?_
    · rintro i H' hi ⟨s2, e2⟩
      exact .of (s2 _ _ e1)
    · rintro i x H' hx ⟨s2, e2⟩
      obtain ⟨k, hk, rfl⟩ := ivs_get hx
      have kb := figs_below hb (List.mem_of_getElem? hk)
      have hi : i < (figs b n).length := (List.getElem?_eq_some_iff.mp hk).1
      refine ⟨rfl, _, rfl, _, rfl, (k : Int), (p : Int), rfl, by omega, by omega, by omega, by omega, ?_⟩
      refine ⟨_, e2, small1000 ?_, same_own s2 hD, ?_⟩
      · rw [ivs_length, List.length_map, List.length_take]
        omega
      · rw [upd_same, List.take_add_one, hk, List.map_append, ivs_append]
        show some (HO.lst (_ ++ [V.int ((k : Int) ^ p)])) = some (HO.lst (_ ++ [V.int ((k ^ p : Nat) : Int)]))
        rw [Int.natCast_pow]
    · rintro H' ⟨s2, e2⟩
      rw [ivs_length, List.take_length, ivs_map] at e2
      refine ⟨D, _, rfl, .of e2, ?_⟩
      rw [sum_cast]
      exact q H' (s1.trans s2)

/-! ### worths_of -/
def sp_worths_of (K : PySem.W.Frag) : Sp := fun vs H Q _ => ∃ b p : Nat, vs = [.int (b : Int), .int (p : Int)] ∧ b ≤ 16 ∧ p ≤ 10 ∧ ∀ H' w, Same H H' → H w = none → H' w = some (.lst (ivs (wts b p))) → Q (.ref w) H'
theorem ok_worths_of (T : Txt K mg) : FnOk P w K mg base CX0 2 T.f_worths_of T.fd_worths_of ["base", "power"] (sp_worths_of K) := by
  refine T.F_worths_of.ok sc_worths_of (fun vs H Q E h => ?_) (fun cdv A outer s H vs Q E hr h => ?_)
  · obtain ⟨_, _, rfl, _⟩ := h
    rfl
  · obtain ⟨b, p, rfl, hb, hp, q⟩ := h
    refine ⟨_, (pss_one (ps_ret (pe_lc (own := [("figure", 2)]) (g := (gName 2)) (tt := tYes) rfl sc_worths_of.nd (pi_range1 (by rfl) T.m_range (pa_cons (pv 0) pa_nil)) (blkOk_by (own := [("figure", 2)]) (N := ["base", "power", "figure"]) (sc := defScope s_worths_of) (by decide +kernel)) (fun _ _ _ _ _ => (pg_name (i := 2) sc_worths_of.nd rfl (Or.inl rfl))) (fun _ _ _ _ _ => pts_nil) (fun _ _ _ _ _ => (pe_call (ok_power_of T) hr (by rfl) T.g_power_of T.F_power_of.kp T.b_power_of .nil pass0 (pa_cons (pv 2) (pa_cons (pv 1) pa_nil))))))), ?_⟩
    refine ⟨_, rfl, _, rfl, by omega, by omega, fun D hD => lc_range (lo := 0) (n := b) (fun i H' => Same H H' ∧ H' D = some (.lst (ivs ((wts b p).take i)))) ⟨Same.new hD, upd_same⟩ ?_ ?_⟩
    · rintro i H' hi ⟨s2, e2⟩
      refine ⟨rfl, _, rfl, _, rfl, ((0 + i : Nat) : Int), (p : Int), by rw [Int.natCast_add]; rfl, by omega, by omega, by omega, by omega, ?_⟩
      refine ⟨_, e2, small_len (by rw [ivs_length, List.length_take, wts_len]; omega), same_own s2 hD, ?_⟩
      rw [upd_same, List.take_add_one, wts_get hi, ivs_append, Nat.zero_add]
      show some (HO.lst (_ ++ [V.int ((i : Int) ^ p)])) = some (HO.lst (_ ++ [V.int ((i ^ p : Nat) : Int)]))
      rw [Int.natCast_pow]
    · rintro H' ⟨s2, e2⟩
      rw [List.take_of_length_le (by rw [wts_len]; exact Nat.le_refl _)] at e2
      exact q H' D s2 hD e2

/-! ### way_of -/
def sp_way_of (K : PySem.W.Frag) : Sp := fun vs H Q _ => ∃ n b p : Nat, vs = [.int (n : Int), .int (b : Int), .int (p : Int)] ∧ OkN b p ∧ n < 2 ^ 200 ∧ ∀ H' t w A L, Same H H' → H t = none → H' t = some (.tup [.ref w, .int ((A : Nat) : Int)]) → H w = none → H' w = some (.lst (ivs (rowN b p n L))) → Way b p n A L → Q (.ref t) H'
def W_way_of (n b p : Nat) (H : Hp) (P : Addr) (m : Nat) (σ' : L2.St) (H' : Hp) : Prop := ∃ L : Nat, m = 15031 - L ∧ σ' = [some (.int ((itN b p n L : Nat) : Int)), some (.int (b : Int)), some (.int (p : Int)), some (.ref P)] ∧ Same H H' ∧ H' P = some (.dK (kvsOf (fun i => ((itN b p n i : Nat) : Int)) (fun i => .int (i : Int)) L)) ∧ ∀ i j, i < L → j < L → itN b p n i = itN b p n j → i = j
theorem ok_way_of (T : Txt K mg) : FnOk P w K mg base CX0 3 T.f_way_of T.fd_way_of ["number", "base", "power"] (sp_way_of K) := by
  refine T.F_way_of.ok sc_way_of (fun vs H Q E h => ?_) (fun cdv A outer s H vs Q E hr h => ?_)
  · obtain ⟨_, _, _, rfl, _⟩ := h
    rfl
  · obtain ⟨n, b, p, rfl, ok, hn, q⟩ := h
    have nr := near_of ok hn
    refine ⟨_, (pss_cons (ps_set (i := 3) sc_way_of.nd rfl (Or.inl rfl) pe_dnewK)
      (pss_cons (ps_while PassesOwn.never (pt_cmp (pc_dnotin (hu_of hr) (pv 0) (pv 3)) rfl) (pss_cons (ps_dput (hu_of hr) (pv 3) (pv 0) (pe_callB (id := "len") call_lenD (by rfl) T.m_len (by decide +kernel) (pa_cons (pv 3) pa_nil)) rfl)
      (pss_one (ps_set (i := 0) sc_way_of.nd rfl (Or.inl rfl) (pe_call (ok_step_of T) hr (by rfl) T.g_step_of T.F_step_of.kp T.b_step_of .nil pass0 (pa_cons (pv 0) (pa_cons (pv 1) (pa_cons (pv 2) pa_nil))))))))
      (pss_one (ps_ret (pe_tup (pa_cons (pe_callTy (T := "list") (call_list_dK rfl) (by rfl) T.m_list (by decide +kernel) (pa_cons (pv 3) pa_nil)) (pa_cons (pe_dget (hu_of hr) (pv 3) (pv 0) (fun _ _ => rfl)) pa_nil))))))), ?_⟩
    refine fun P hP => ?_
    generalize g1 : upd H P _ = H1
    obtain ⟨s1, t1⟩ := new_of g1 hP
    refine ⟨W_way_of n b p H P, ⟨15031, 0, rfl, rfl, s1, t1, fun i j hi => by omega⟩, ?_⟩
    rintro m σ' H2 ⟨L, rfl, rfl, s2, t2, nd⟩
    have lL := nr.rep nd
    by_cases c : ∃ i, i < L ∧ itN b p n i = itN b p n L
    · obtain ⟨A, hA, e⟩ := c
      have v : valV (kvsOf (fun i => ((itN b p n i : Nat) : Int)) (fun i => V.int (i : Int)) L) (Sum.inl ((itN b p n L : Nat) : Int) : Key) = some (.int (A : Int)) := by
        rw [← e]
        exact kvsOf_some (f := fun i => ((itN b p n i : Nat) : Int)) (g := fun i => V.int (i : Int)) (fun i j hi hj z => nd i j hi hj (Int.ofNat.inj z)) hA
      refine ⟨_, rfl, _, rfl, P, some (.int (A : Int)), rfl, dget (k := Sum.inl _) t2 v, false, rfl, iteF ?_⟩
      refine ⟨_, rfl, P, _, rfl, t2, fun w hw => ?_⟩
      rw [kvsOf_keys]
      generalize g3 : upd H2 w _ = H3
      obtain ⟨s3, t3⟩ := new_of g3 hw
      have t3' : H3 w = some (.lst (ivs (rowN b p n L))) := by
        rw [t3, rowN_eq]
        unfold ivs
        rw [List.map_map]
        rfl
      refine ⟨_, rfl, _, rfl, P, _, rfl, dget (k := Sum.inl _) (s3 _ _ t2) v, by show 2 ≤ sizeLine; decide, fun t ht => ?_⟩
      exact q _ t w A L (s2.trans (s3.trans (Same.new ht))) (s2.free (s3.free ht)) upd_same (s2.free hw) (Same.new ht _ _ t3') ⟨hA, e.symm, nd⟩
    · have v : valV (kvsOf (fun i => ((itN b p n i : Nat) : Int)) (fun i => V.int (i : Int)) L) (Sum.inl ((itN b p n L : Nat) : Int) : Key) = none := kvsOf_none fun i hi z => c ⟨i, hi, Int.ofNat.inj z⟩
      refine ⟨_, rfl, _, rfl, P, none, rfl, dget (k := Sum.inl _) t2 v, true, rfl, iteT ⟨Nx (W_way_of n b p H P) (15031 - L), Nx.id, ?_⟩⟩
      refine ⟨_, rfl, P, _, rfl, t2, ?_⟩
      rw [kvsOf_len]
      refine ⟨_, rfl, _, rfl, P, _, rfl, .k (k := Sum.inl _) t2 (small_len (by rw [kvsOf_len]; omega)), ?_⟩
      have z := kvsOf_put (f := fun i => ((itN b p n i : Nat) : Int)) (g := fun i => V.int (i : Int)) (L := L) fun i hi z => c ⟨i, hi, Int.ofNat.inj z⟩
      rw [z]
      have s3 := same_own (o := .dK (kvsOf (fun i => ((itN b p n i : Nat) : Int)) (fun i => V.int (i : Int)) (L + 1))) s2 hP
      refine ⟨_, rfl, _, rfl, _, rfl, itN b p n L, b, p, rfl, ok.hb, ok.hb16, ok.hp, lt200 (itN_lt200 ok hn L), fun H4 s4 => ?_⟩
      refine ⟨15031 - (L + 1), by omega, L + 1, rfl, rfl, s3.trans s4, s4 _ _ upd_same, fun i j hi hj ez => ?_⟩
      by_cases ci : i = L
      · by_cases cj : j = L
        · omega
        · subst ci
          exact absurd ⟨j, by omega, ez.symm⟩ c
      · by_cases cj : j = L
        · subst cj
          exact absurd ⟨i, by omega, ez⟩ c
        · exact nd i j (by omega) (by omega) ez

/-! ### end_of -/
def sp_end_of (K : PySem.W.Frag) : Sp := fun vs H Q _ => ∃ n b p : Nat, vs = [.int (n : Int), .int (b : Int), .int (p : Int)] ∧ OkN b p ∧ n < 2 ^ 200 ∧ ∀ H' t A m, Same H H' → H t = none → H' t = some (.tup (ivs [A, m])) → EndAt b p n A m → Q (.ref t) H'
theorem ok_end_of (T : Txt K mg) : FnOk P w K mg base CX0 4 T.f_end_of T.fd_end_of ["number", "base", "power"] (sp_end_of K) := by
  refine T.F_end_of.ok sc_end_of (fun vs H Q E h => ?_) (fun cdv A outer s H vs Q E hr h => ?_)
  · obtain ⟨_, _, _, rfl, _⟩ := h
    rfl
  · obtain ⟨n, b, p, rfl, ok, hn, q⟩ := h
    refine ⟨_, (pss_cons (ps_asg (pe_call (ok_way_of T) hr (by rfl) T.g_way_of T.F_way_of.kp T.b_way_of .nil pass0 (pa_cons (pv 0) (pa_cons (pv 1) (pa_cons (pv 2) pa_nil)))) (pg_tup rfl (pgs_cons (pg_name (i := 3) sc_end_of.nd rfl (Or.inl rfl)) (pgs_cons (pg_name (i := 4) sc_end_of.nd rfl (Or.inl rfl)) pgs_nil))))
      (pss_one (ps_ret (pe_tup (pa_cons (pv 4) (pa_cons (pe_callB (id := "min") (cr_min rfl) (by rfl) T.m_min (by decide +kernel) (pa_cons (pe_slice sl_list (pv 3) (po_some (pv 4)) po_none) pa_nil)) pa_nil)))))), ?_⟩
    refine ⟨_, rfl, _, rfl, _, rfl, n, b, p, rfl, ok, hn, fun H1 t w A L s1 nt et nw ew wy => ?_⟩
    have lt := wy.lt
    refine ⟨t, _, rfl, .of et, rfl, _, _, rfl, _, _, rfl, rfl, ?_⟩
    refine ⟨_, rfl, _, rfl, _, rfl, _, rfl, w, _, rfl, .of ew, fun D hD => ?_⟩
    rw [cut_ivs_from]
    generalize g2 : upd H1 D _ = H2
    obtain ⟨s2, t2⟩ := new_of g2 hD
    rw [rowN_drop, ivs_map] at t2
    refine ⟨D, _, rfl, .of t2, by rw [List.length_map, rowN_len]; omega, fun m h1 h2 => ?_⟩
    obtain ⟨k, hk, rfl⟩ := List.mem_map.mp h1
    obtain ⟨i, hi, rfl⟩ := mem_rowN.mp hk
    refine ⟨by show 2 ≤ sizeLine; decide, fun T hT => ?_⟩
    refine q _ T A _ (s1.trans (s2.trans (Same.new hT))) (s1.free (s2.free hT)) upd_same (wy.end_of ⟨A + i, by omega, by omega, itN_add ..⟩ fun j j1 j2 => ?_)
    have := h2 ((itN b p n j : Nat) : Int) (List.mem_map.mpr ⟨_, mem_rowN.mpr ⟨j - A, by omega, rfl⟩, by rw [← itN_add, show A + (j - A) = j by omega]⟩)
    omega

/-! ### check_length -/
def sp_check_length (K : PySem.W.Frag) : Sp := fun vs H Q _ => ∃ w : Str, vs = [.str w] ∧ w.length ≤ 40 ∧ Q .non H
theorem ok_check_length (T : Txt K mg) : FnOk P w K mg base CX0 1 T.f_check_length T.fd_check_length ["word"] (sp_check_length K) := by
  refine T.F_check_length.ok sc_check_length (fun vs H Q E h => ?_) (fun cdv A outer s H vs Q E hr h => ?_)
  · obtain ⟨_, rfl, _⟩ := h
    rfl
  · obtain ⟨w, rfl, hl, q⟩ := h
    have zl : w.length ≤ sizeLine := Nat.le_trans hl (by decide)
    refine ⟨_, (pss_one (ps_if (pt_cmpR op_gt (pe_callB (id := "len") call_len_str (by rfl) T.m_len (by decide +kernel) (pa_cons (pv 0) pa_nil)) (pe_glob (v := .int 40) (by rfl) T.c_MOST_SIGNS ⟨_, rfl⟩) (nomark _)) (pss_one ps_never) pss_nil)), ?_⟩
    refine ⟨_, rfl, _, rfl, zl, _, _, rfl, rfl, _, rfl, ?_⟩
    rw [decide_eq_false (show ¬ ((w.length : Int) > 40) by omega)]
    exact iteF q

/-! ### number_of_ten -/
def sp_number_of_ten (K : PySem.W.Frag) : Sp := fun vs H Q _ => ∃ n : Nat, vs = [.str (tx n)] ∧ n < 100 ∧ ∀ H', Same H H' → Q (.int (n : Int)) H'
theorem ok_number_of_ten (T : Txt K mg) : FnOk P w K mg base CX0 2 T.f_number_of_ten T.fd_number_of_ten ["word"] (sp_number_of_ten K) := by
  refine T.F_number_of_ten.ok sc_number_of_ten (fun vs H Q E h => ?_) (fun cdv A outer s H vs Q E hr h => ?_)
  · obtain ⟨_, rfl, _⟩ := h
    rfl
  · obtain ⟨n, rfl, hn, q⟩ := h
    have dl := decs_len (n := n)
    refine ⟨_, (pss_cons (ps_expr (pe_call (ok_check_length T) hr (by rfl) T.g_check_length T.F_check_length.kp T.b_check_length .nil pass0 (pa_cons (pv 0) pa_nil)))
      (pss_one (ps_try_calm (fun _ _ => (pss_one (ps_ret (pe_call (ok_read_number T) hr (by rfl) T.g_read_number T.F_read_number.kp T.b_read_number .nil pass0 (pa_cons (pv 0) (pa_cons pe_int pa_nil))))))))), ?_⟩
    refine ⟨_, rfl, _, rfl, by rw [txt_len]; omega, ?_⟩
    refine ⟨_, rfl, decs n, 10, rfl, by decide, by decide, decs_reads hn, by omega, fun H' s => ?_⟩
    rw [decs_val]
    exact q _ s

/-! ### figure_of -/
def sp_figure_of {K : PySem.W.Frag} {mg : Str → Option Value} (T : Txt K mg) : Sp := fun vs H Q E => ∃ w : Str, vs = [.str w] ∧ w.length ≤ 40 ∧ (w.length = 1 → Q (.int (Txt.find FIG w)) H) ∧ (w.length ≠ 1 → E (.ref T.k_NoAsk) none H)
theorem ok_figure_of (T : Txt K mg) : FnOk P w K mg base (L2.CX P w) 1 T.f_figure_of T.fd_figure_of ["word"] (sp_figure_of T) := by
  refine T.F_figure_of.okX sc_figure_of (fun vs H Q E h => ?_) (fun cdv A outer s H vs Q E hr h => ?_)
  · obtain ⟨_, rfl, _⟩ := h
    rfl
  · obtain ⟨w, rfl, hw, q, r⟩ := h
    have zl : w.length ≤ sizeLine := Nat.le_trans hw (by decide)
    refine ⟨_, (pss_cons (ps_if (pt_cmpR op_ne (pe_callB (id := "len") call_len_str (by rfl) T.m_len (by decide +kernel) (pa_cons (pv 0) pa_nil)) pe_int (nomark _)) (pss_one (ps_raise rfl (takes_of rfl rfl rfl rfl) (pmk_own PySem.F.excBase_ValueError T.xq_NoAsk T.gk_NoAsk T.I_NoAsk.kp (raises_own T.x_NoAsk.bx T.x_NoAsk.ty) rfl))) pss_nil)
      (pss_one (ps_ret (pe_m1 PySem.F.slot_str_find PySem.F.type_str_find mt_find (pe_glob (v := .str "0123456789abcdef") (by rfl) T.c_FIGURES ⟨_, rfl⟩) (pv 0))))), ?_⟩
    by_cases c : w.length = 1
    · refine ⟨_, rfl, _, rfl, zl, rfl, false, by rw [decide_eq_true (show V.int ((w.length : Nat) : Int) = V.int 1 by rw [c]; rfl)]; rfl, iteF ?_⟩
      exact ⟨⟨_, rfl⟩, _, rfl, FIG, _, rfl, rfl, q c⟩
    · refine ⟨_, rfl, _, rfl, zl, rfl, true, by rw [decide_eq_false (show ¬ (V.int ((w.length : Nat) : Int) = V.int 1) from fun z => c (by injection z with z; omega))]; rfl, iteT ?_⟩
      exact r c

/-! ### is_pair -/
def sp_is_pair (K : PySem.W.Frag) : Sp := fun vs H Q _ => ∃ b p : Nat, vs = [.int (b : Int), .int (p : Int)] ∧ OkN b p ∧ Q (.bl true) H
theorem ok_is_pair (T : Txt K mg) : FnOk P w K mg base CX0 2 T.f_is_pair T.fd_is_pair ["base", "power"] (sp_is_pair K) := by
  refine T.F_is_pair.ok sc_is_pair (fun vs H Q E h => ?_) (fun cdv A outer s H vs Q E hr h => ?_)
  · obtain ⟨_, _, rfl, _⟩ := h
    rfl
  · obtain ⟨b, p, rfl, ok, q⟩ := h
    have h1 := ok.hb
    have h2 := ok.hb16
    have h3 := ok.hp1
    have h4 := ok.hp
    have h5 : (b - 1) ^ p ≤ 1000 := (most_iff h1 h2 h3 h4).mpr (by have := ok.ok.2.2.2; unfold mostN; omega)
    refine ⟨_, (pss_one (ps_ret (pe_and (pe_chain op_le op_le pe_int (pv 0) pe_int) (pe_and (pe_chain op_le op_le pe_int (pv 1) pe_int) (pe_one (pe_cmpR op_le (pe_call (ok_power_of T) hr (by rfl) T.g_power_of T.F_power_of.kp T.b_power_of .nil pass0 (pa_cons (pe_op op_sub (pv 0) pe_int) (pa_cons (pv 1) pa_nil))) pe_int (nomark _))))))), ?_⟩
    refine ⟨_, rfl, _, _, rfl, rfl, true, congrArg V.bl (decide_eq_true (by omega)), iteT ⟨_, _, rfl, rfl, true, congrArg V.bl (decide_eq_true (by omega)), iteT ?_⟩⟩
    refine ⟨_, rfl, _, _, rfl, rfl, true, congrArg V.bl (decide_eq_true (by omega)), iteT ⟨_, _, rfl, rfl, true, congrArg V.bl (decide_eq_true (by omega)), iteT ?_⟩⟩
    refine ⟨_, rfl, _, _, rfl, rfl, _, rfl, (b : Int) - 1, (p : Int), rfl, by omega, by omega, by omega, by omega, ?_⟩
    rw [show ((p : Nat) : Int).toNat = p by omega, show (b : Int) - 1 = ((b - 1 : Nat) : Int) by omega, ← Int.natCast_pow]
    refine ⟨_, _, rfl, rfl, ?_⟩
    show Q (V.bl (decide ((((b - 1) ^ p : Nat) : Int) ≤ 1000))) _
    rw [decide_eq_true (show (((b - 1) ^ p : Nat) : Int) ≤ 1000 by omega)]
    exact q

/-! ### _law_seed -/
def sp__law_seed (K : PySem.W.Frag) : Sp := fun vs H Q _ => ∃ x : Int, vs = [.int x] ∧ ∀ H' d, Same H H' → H d = none → Seed H' d → Q (.ref d) H'
theorem ok__law_seed (T : Txt K mg) : FnOk P w K mg base CX0 1 T.f__law_seed T.fd__law_seed ["cell"] (sp__law_seed K) := by
  refine T.F__law_seed.ok sc__law_seed (fun vs H Q E h => ?_) (fun cdv A outer s H vs Q E hr h => ?_)
  · obtain ⟨_, rfl, _⟩ := h
    rfl
  · obtain ⟨x, rfl, q⟩ := h
    refine ⟨_, (pss_cons (ps_set (i := 1) sc__law_seed.nd rfl (Or.inl rfl) (pe_callB (id := "max") (call_max2 rfl) (by rfl) T.m_max (by decide +kernel) (pa_cons (pv 0) (pa_cons (pe_op op_sub pe_int (pv 0)) pa_nil))))
      (pss_one (ps_ret (pe_lst (pa_cons (pv 1) (pa_cons (pe_callTy (T := "int") call_int1 (by rfl) T.m_int (by decide +kernel) (pa_cons (pe_cmpR op_ge (pv 1) (pe_op op_pow pe_int pe_int) (nomark _)) pa_nil)) (pa_cons pe_int (pa_cons (pe_op op_mod (pv 0) pe_int) pa_nil)))))))), ?_⟩
    refine ⟨_, rfl, _, rfl, _, _, rfl, rfl, _, _, rfl, ?_⟩
    refine ⟨_, rfl, _, rfl, 10, 18, rfl, rfl, ⟨by decide, by decide, by decide⟩, _, _, rfl, rfl, .inr ⟨_, rfl, ?_⟩⟩
    refine ⟨_, rfl, _, _, rfl, rfl, by walk_at "p", by show 4 ≤ sizeLine; decide, fun d hd => ?_⟩
    exact q _ d (Same.new hd) hd ⟨_, _, _, _, upd_same⟩

/-! ### _law_draw -/
def sp__law_draw (K : PySem.W.Frag) : Sp := fun vs H Q _ => ∃ (d : Addr) (m : Int), vs = [.ref d, .int m] ∧ Seed H d ∧ 0 < m ∧ m < 2 ^ 900 ∧ ∀ H' (r : Int), But d H H' → Seed H' d → 0 ≤ r → r < m → Q (.int r) H'
theorem ok__law_draw (T : Txt K mg) : FnOk P w K mg base CX0 1 T.f__law_draw T.fd__law_draw ["seed", "most"] (sp__law_draw K) := by
  refine T.F__law_draw.ok sc__law_draw (fun vs H Q E h => ?_) (fun cdv A outer s H vs Q E hr h => ?_)
  · obtain ⟨_, _, rfl, _⟩ := h
    rfl
  · obtain ⟨d, m, rfl, ⟨a, f, t, r, eD⟩, m0, m9, q⟩ := h
    have hw : ∀ x : Int, CDivW x m := fun x => divW 900 m0 m9
    have r0 : ∀ x : Int, 0 ≤ x % m := fun x => Int.emod_nonneg _ (by omega)
    have r1 : ∀ x : Int, x % m < m := fun x => Int.emod_lt_of_pos _ m0
    refine ⟨_, (pss_cons (ps_asg (pe_op op_add (pe_ix ix_list (pv 0) pe_int (fun _ _ => rfl)) pe_int) (pg_sub (pv 0) pe_int set_list))
      (C8.pss_cut (ps_if (PW.pt (pw_and (pt_cmpR op_eq (pe_ix ix_list (pv 0) pe_int (fun _ _ => rfl)) pe_int (nomark _)) (pw_and1 (pt_cmpR op_gt (pe_ix ix_list (pv 0) pe_int (fun _ _ => rfl)) pe_int (nomark _))))) (pss_cons (ps_set (i := 2) sc__law_draw.nd rfl (Or.inl rfl) (pe_op op_mod (pe_ix ix_list (pv 0) pe_int (fun _ _ => rfl)) (pv 1)))
      (pss_cons (ps_asg (pe_op op_fdivW (pe_ix ix_list (pv 0) pe_int (fun _ _ => rfl)) (pv 1)) (pg_sub (pv 0) pe_int set_list))
      (pss_one (ps_ret (pv 2))))) pss_nil)
      (pss_cons (ps_set (i := 3) sc__law_draw.nd rfl (Or.inl rfl) (pe_op op_mod (pe_op op_mul (pe_op op_add (pe_op op_add (pe_ix ix_list (pv 0) pe_int (fun _ _ => rfl)) (pe_op op_mul pe_int (pe_ix ix_list (pv 0) pe_int (fun _ _ => rfl)))) pe_int) pe_int) pe_int))
      (pss_cons (ps_set (i := 3) sc__law_draw.nd rfl (Or.inl rfl) (pe_op op_mod (pe_op op_mul (pe_op op_mod (pe_op op_mul (pv 3) (pv 3)) pe_int) pe_int) pe_int))
      (pss_one (ps_ret (pe_op op_mod (pe_op op_fdivW (pv 3) pe_int) (pv 1)))))))), ?_⟩
    refine ⟨_, rfl, d, _, 2, .int t, rfl, rfl, .of eD, atI_nat (j := 2) rfl, _, _, rfl, rfl, _, rfl, d, _, 2, 2, rfl, rfl, eD, rfl, ?_⟩
    generalize g1 : upd H d _ = H1
    obtain ⟨b1, e1⟩ := set_of g1
    have e1' : H1 d = some (.lst [.int a, .int f, .int (t + 1), .int r]) := e1
    refine ⟨fun σ' H' => H' = H1 ∧ σ' = [some (.ref d), some (.int m), none, none], ?_, ?_⟩
    · refine ⟨_, rfl, d, _, 1, .int f, rfl, rfl, .of e1', atI_nat (j := 1) rfl, rfl, _, rfl, ite2 (fun c => ?_) (fun c => ?_)⟩
      · refine ⟨_, rfl, d, _, 0, .int a, rfl, rfl, .of e1', atI_nat (j := 0) rfl, _, _, rfl, rfl, _, rfl, ite2 (fun c2 => ?_) (fun c2 => ?_)⟩
        · refine ⟨_, rfl, d, _, 0, .int a, rfl, rfl, .of e1', atI_nat (j := 0) rfl, _, rfl, _, _, rfl, rfl, m0, ?_⟩
          refine ⟨_, rfl, d, _, 0, .int a, rfl, rfl, .of e1', atI_nat (j := 0) rfl, _, rfl, _, _, rfl, rfl, hw _, _, rfl, d, _, 0, 0, rfl, rfl, e1', rfl, ?_⟩
          refine ⟨_, rfl, q _ _ (b1.trans But.set) ⟨_, _, _, _, upd_same⟩ (r0 _) (r1 _)⟩
        · exact ⟨rfl, rfl⟩
      · exact ⟨rfl, rfl⟩
    · rintro σ' H' ⟨rfl, rfl⟩
      refine ⟨_, rfl, d, _, 3, .int r, rfl, rfl, .of e1', atI_nat (j := 3) rfl, _, rfl, d, _, 2, .int (t + 1), rfl, rfl, .of e1', atI_nat (j := 2) rfl, _, _, rfl, rfl, .inl (by decide), _, _, rfl, rfl, _, _, rfl, rfl, _, _, rfl, rfl, .inr (by decide), _, _, rfl, rfl, by walk_at "p", ?_⟩
      have b := Int.emod_lt_of_pos ((r + 7583 * (t + 1) + 71) * 48271) (b := 2147483647) (by decide)
      have b' := Int.emod_nonneg ((r + 7583 * (t + 1) + 71) * 48271) (b := 2147483647) (by decide)
      generalize (r + 7583 * (t + 1) + 71) * 48271 % 2147483647 = n1 at b b'
      refine ⟨_, rfl, _, rfl, _, _, rfl, rfl, .inl (by omega), _, _, rfl, rfl, by walk_at "p", _, _, rfl, rfl, .inr (by decide), _, _, rfl, rfl, by walk_at "p", ?_⟩
      refine ⟨_, rfl, _, _, rfl, rfl, ⟨by decide, by decide +kernel⟩, _, rfl, _, _, rfl, rfl, m0, q _ _ b1 ⟨_, _, _, _, e1'⟩ (r0 _) (r1 _)⟩

/-! ### _law_cells -/
def sp__law_cells (K : PySem.W.Frag) : Sp := fun vs H Q _ => ∃ (a : Addr) (ns : List Int), vs = [.ref a, .int 3] ∧ SqL K H a (ns.map V.int) ∧ ns.length ≤ 63 ∧ ∀ H' t (ms : List Int), Same H H' → H t = none → H' t = some (.lst (ms.map V.int)) → ms.length ≤ 64 → Q (.ref t) H'
theorem ok__law_cells (T : Txt K mg) : FnOk P w K mg base CX0 1 T.f__law_cells T.fd__law_cells ["script", "many"] (sp__law_cells K) := by
  refine T.F__law_cells.ok sc__law_cells (fun vs H Q E h => ?_) (fun cdv A outer s H vs Q E hr h => ?_)
  · obtain ⟨_, _, rfl, _⟩ := h
    rfl
  · obtain ⟨a, ns, rfl, hS, hl, q⟩ := h
    refine ⟨_, (pss_one (ps_ret (pe_op op_cat (pe_slice sl_list (pv 0) po_none (po_some (pv 1))) (pe_lst (pa_cons (pe_callB (id := "len") call_len_seq (by rfl) T.m_len (by decide +kernel) (pa_cons (pv 0) pa_nil)) pa_nil))))), ?_⟩
    refine ⟨_, rfl, _, rfl, _, rfl, a, _, rfl, hS, fun D hD => ?_⟩
    rw [show (some (3 : Int)) = some ((3 : Nat) : Int) from rfl, cut_intsTo]
    generalize g1 : upd H D _ = H1
    obtain ⟨s1, t1⟩ := new_of g1 hD
    refine ⟨_, rfl, a, _, rfl, .inl (s1.seq hS), by show 1 ≤ sizeLine; decide, fun z hz => ?_⟩
    generalize g2 : upd H1 z _ = H2
    obtain ⟨s2, t2⟩ := new_of g2 hz
    refine ⟨D, z, _, _, rfl, rfl, s2 _ _ t1, t2, ?_, fun t ht => ?_⟩
    · rw [List.length_map, List.length_take]
      exact Nat.le_of_lt (small1000 (by show min 3 ns.length + 1 ≤ 1000; omega))
    generalize g3 : upd H2 t _ = H3
    obtain ⟨s3, t3⟩ := new_of g3 ht
    refine q H3 t (ns.take 3 ++ [(((ns.map V.int).length : Nat) : Int)]) (s1.trans (s2.trans s3)) (s1.free (s2.free ht)) ?_ ?_
    · rw [t3, List.map_append]
      rfl
    · rw [List.length_append, List.length_take]
      show min 3 ns.length + 1 ≤ 64
      omega

/-! ### _law_power -/
def sp__law_power (K : PySem.W.Frag) : Sp := fun vs H Q _ => ∃ f p : Int, vs = [.int f, .int p] ∧ 0 ≤ p ∧ p < 2 ^ 62 ∧ -(2 ^ 64) < f ∧ f < 2 ^ 64 ∧ Q (.int (f ^ p.toNat)) H
theorem ok__law_power (T : Txt K mg) : FnOk P w K mg base CX0 1 T.f__law_power T.fd__law_power ["number", "power"] (sp__law_power K) := by
  refine T.F__law_power.ok sc__law_power (fun vs H Q E h => ?_) (fun cdv A outer s H vs Q E hr h => ?_)
  · obtain ⟨_, _, rfl, _⟩ := h
    rfl
  · obtain ⟨f, p, rfl, h0, h1, h2, h3, q⟩ := h
    refine ⟨_, (pss_cons (ps_set (i := 2) sc__law_power.nd rfl (Or.inl rfl) pe_int)
      (pss_cons (ps_for PassesOwn.never rfl (pi_range1 (by rfl) T.m_range (pa_cons (pv 1) pa_nil)) (pg_name (i := 3) sc__law_power.nd rfl (Or.inl rfl)) (pss_one (ps_set (i := 2) sc__law_power.nd rfl (Or.inl rfl) (pe_op op_mul (pv 2) (pv 0)))))
      (pss_one (ps_ret (pv 2))))), ?_⟩
    refine ⟨_, rfl, _, rfl, by omega, by omega, for_range (lo := 0) (n := p.toNat) (fun i σ' H' => H' = H ∧ ∃ y, σ' = [some (.int f), some (.int p), some (.int (f ^ i)), y]) ⟨rfl, none, by rw [Int.pow_zero]; rfl⟩ ?_ ?_⟩
    · rintro i σ' H' hi ⟨rfl, y, rfl⟩
      refine ⟨_, rfl, _, rfl, _, _, rfl, rfl, .inr ⟨h2, h3⟩, rfl, some (.int (0 + i)), ?_⟩
      rw [Int.pow_succ]
      rfl
    · rintro σ' H' ⟨rfl, y, rfl⟩
      exact ⟨_, rfl, q⟩

/-! ### _law_pair -/
def sp__law_pair (K : PySem.W.Frag) : Sp := fun vs H Q _ => ∃ d : Addr, vs = [.ref d] ∧ Seed H d ∧ ∀ H' t b p, But d H H' → Seed H' d → H t = none → H' t = some (.tup (ivs [b, p])) → OkN b p → Q (.ref t) H'
theorem ok__law_pair (T : Txt K mg) : FnOk P w K mg base CX0 2 T.f__law_pair T.fd__law_pair ["seed"] (sp__law_pair K) := by
  refine T.F__law_pair.ok sc__law_pair (fun vs H Q E h => ?_) (fun cdv A outer s H vs Q E hr h => ?_)
  · obtain ⟨_, rfl, _⟩ := h
    rfl
  · obtain ⟨d, rfl, hS, q⟩ := h
    refine ⟨_, (pss_cons (ps_set (i := 1) sc__law_pair.nd rfl (Or.inl rfl) (pe_op op_add pe_int (pe_call (ok__law_draw T) hr (by rfl) T.g__law_draw T.F__law_draw.kp T.b__law_draw .nil pass0 (pa_cons (pv 0) (pa_cons pe_int pa_nil)))))
      (pss_cons (ps_set (i := 2) sc__law_pair.nd rfl (Or.inl rfl) (pe_op op_add pe_int (pe_call (ok__law_draw T) hr (by rfl) T.g__law_draw T.F__law_draw.kp T.b__law_draw .nil pass0 (pa_cons (pv 0) (pa_cons pe_int pa_nil)))))
      (pss_cons (ps_for PassesOwn.never rfl (pi_range1 (by rfl) T.m_range (pa_cons pe_int pa_nil)) (pg_name (i := 3) sc__law_pair.nd rfl (Or.inl rfl)) (pss_one (ps_if (pt_cmpR op_gt (pe_call (ok__law_power T) hr (by rfl) T.g__law_power T.F__law_power.kp T.b__law_power .nil pass0 (pa_cons (pe_op op_sub (pv 1) pe_int) (pa_cons (pv 2) pa_nil))) pe_int (nomark _)) (pss_one (ps_set (i := 2) sc__law_pair.nd rfl (Or.inl rfl) (pe_op op_sub (pv 2) pe_int))) pss_nil)))
      (pss_one (ps_ret (pe_tup (pa_cons (pv 1) (pa_cons (pv 2) pa_nil)))))))), ?_⟩
    refine ⟨_, rfl, d, 15, rfl, hS, by decide, by decide, fun H1 r1 b1 S1 u1 v1 => ⟨_, _, rfl, rfl, ?_⟩⟩
    refine ⟨_, rfl, d, 10, rfl, S1, by decide, by decide, fun H2 r2 b2 S2 u2 v2 => ⟨_, _, rfl, rfl, ?_⟩⟩
    obtain ⟨b, eb⟩ : ∃ b : Nat, 2 + r1 = (b : Int) := ⟨(2 + r1).toNat, by omega⟩
    obtain ⟨p0, ep⟩ : ∃ p : Nat, 1 + r2 = (p : Int) := ⟨(1 + r2).toNat, by omega⟩
    dsimp only
    rw [eb, ep]
    have hb : 2 ≤ b := by omega
    have hb16 : b ≤ 16 := by omega
    have mp := mostN_pos hb hb16
    refine ⟨9, rfl, by decide, by decide, for_range (lo := 0) (n := 9) (fun i σ' H' => H' = H2 ∧ ∃ (p : Nat) (y : Option V), 1 ≤ p ∧ p ≤ 10 ∧ (p ≤ mostN b ∨ p ≤ 10 - i) ∧ σ' = [some (.ref d), some (.int (b : Int)), some (.int (p : Int)), y]) ⟨rfl, p0, none, by omega, by omega, .inr (by omega), rfl⟩ ?_ ?_⟩
    · rintro i σ' H' hi ⟨rfl, p, y, h1, h2, h3, rfl⟩
      have mi := most_iff hb hb16 h1 h2
      refine ⟨_, rfl, _, _, rfl, rfl, _, rfl, (b : Int) - 1, (p : Int), rfl, by omega, by omega, by omega, by omega, ?_⟩
      rw [show ((p : Nat) : Int).toNat = p by omega, show (b : Int) - 1 = ((b - 1 : Nat) : Int) by omega, ← Int.natCast_pow]
      refine ⟨_, _, rfl, rfl, _, rfl, ?_⟩
      by_cases c : (b - 1) ^ p ≤ 1000
      · rw [decide_eq_false (by omega)]
        exact iteF ⟨rfl, p, _, h1, h2, .inl (mi.mp c), rfl⟩
      · rw [decide_eq_true (by omega)]
        have c2 : ¬ p ≤ mostN b := fun z => c (mi.mpr z)
        refine iteT ⟨_, rfl, _, _, rfl, rfl, rfl, p - 1, some (.int (0 + i)), by omega, by omega, by omega, ?_⟩
        rw [show ((p - 1 : Nat) : Int) = (p : Int) - 1 by omega]
        rfl
    · rintro σ' H' ⟨rfl, p, y, h1, h2, h3, rfl⟩
      refine ⟨_, rfl, _, rfl, by show 2 ≤ sizeLine; decide, fun t ht => ?_⟩
      exact q _ t b p ((b1.trans b2).trans (.of (Same.new ht))) (S2.same (Same.new ht)) (b1.fresh S1.there (b2.fresh S2.there ht)) upd_same (okN_of hb hb16 h1 (by omega))

/-! ### _law_figures -/
def sp__law_figures (K : PySem.W.Frag) : Sp := fun vs H Q _ => ∃ n b : Nat, vs = [.int (n : Int), .int (b : Int)] ∧ 2 ≤ b ∧ b ≤ 16 ∧ n < 2 ^ 900 ∧ ∀ H' p, Same H H' → H p = none → H' p = some (.lst (ivs (figs b n))) → Q (.ref p) H'
def W__law_figures (n b : Nat) (H : Hp) (m : Nat) (σ' : L2.St) (H' : Hp) : Prop := ∃ (suf : List Nat) (F : Addr), σ' = [some (.int (m : Int)), some (.int (b : Int)), some (.ref F)] ∧ Same H H' ∧ H F = none ∧ H' F = some (.lst (ivs suf)) ∧ figs b n = (if m < b then [] else figs b (m / b)) ++ suf
theorem ok__law_figures (T : Txt K mg) : FnOk P w K mg base CX0 1 T.f__law_figures T.fd__law_figures ["number", "base"] (sp__law_figures K) := by
  refine T.F__law_figures.ok sc__law_figures (fun vs H Q E h => ?_) (fun cdv A outer s H vs Q E hr h => ?_)
  · obtain ⟨_, _, rfl, _⟩ := h
    rfl
  · obtain ⟨n, b, rfl, hb, hb16, hn, q⟩ := h
    have fl := figs_le hb hn
    have wd : ∀ x : Int, CDivW x (b : Int) := fun x => divW 60 (by omega) (by omega)
    refine ⟨_, (pss_cons (ps_set (i := 2) sc__law_figures.nd rfl (Or.inl rfl) (pe_lst (pa_cons (pe_op op_mod (pv 0) (pv 1)) pa_nil)))
      (pss_cons (ps_while PassesOwn.never (pt_cmpR op_ge (pv 0) (pv 1) (nomark _)) (pss_cons (ps_set (i := 0) sc__law_figures.nd rfl (Or.inl rfl) (pe_op op_fdivW (pv 0) (pv 1)))
      (pss_one (ps_set (i := 2) sc__law_figures.nd rfl (Or.inl rfl) (pe_op op_cat (pe_lst (pa_cons (pe_op op_mod (pv 0) (pv 1)) pa_nil)) (pv 2))))))
      (pss_one (ps_ret (pv 2))))), ?_⟩
    refine ⟨_, rfl, _, rfl, _, _, rfl, rfl, by walk_at "p", by show 1 ≤ sizeLine; decide, fun fl0 hfl => ?_⟩
    generalize g1 : upd H fl0 _ = H1
    obtain ⟨s1, t1⟩ := new_of g1 hfl
    refine ⟨W__law_figures n b H, ⟨n, [n % b], fl0, rfl, s1, hfl, t1, figs_cut hb⟩, ?_⟩
    rintro m σ' H2 ⟨suf, F, rfl, s2, hF, t2, e⟩
    have ls : suf.length ≤ 900 := by
      have := congrArg List.length e
      rw [List.length_append] at this
      omega
    refine ⟨_, rfl, _, rfl, _, _, rfl, rfl, _, rfl, ?_⟩
    by_cases c : m < b
    · rw [decide_eq_false (by omega)]
      rw [if_pos c, List.nil_append] at e
      rw [← e] at t2
      exact iteF ⟨_, rfl, q H2 F s2 hF t2⟩
    · rw [decide_eq_true (by omega)]
      rw [if_neg c] at e
      refine iteT ⟨Nx (W__law_figures n b H) m, Nx.id, ?_⟩
      refine ⟨_, rfl, _, rfl, _, _, rfl, rfl, wd _, ?_⟩
      refine ⟨_, rfl, _, rfl, _, _, rfl, rfl, by walk_at "p", by show 1 ≤ sizeLine; decide, fun z hz => ?_⟩
      generalize g3 : upd H2 z _ = H3
      obtain ⟨s3, t3⟩ := new_of g3 hz
      refine ⟨_, rfl, z, F, _, _, rfl, rfl, t3, s3 _ _ t2, ?_, fun z2 hz2 => ?_⟩
      · rw [ivs_length]
        exact Nat.le_of_lt (small1000 (by show 1 + suf.length ≤ 1000; omega))
      generalize g4 : upd H3 z2 _ = H4
      obtain ⟨s4, t4⟩ := new_of g4 hz2
      have s24 := s2.trans (s3.trans s4)
      refine ⟨m / b, Nat.div_lt_self (by omega) (by omega), (m / b % b) :: suf, z2, rfl, s24, (s2.trans s3).free hz2, ?_, ?_⟩
      · rw [t4]
        rfl
      · rw [e]
        conv => lhs; rw [figs_cut (b := b) (m := m / b) hb]
        rw [List.append_assoc]
        rfl

/-! ### _law_text -/
def sp__law_text (K : PySem.W.Frag) : Sp := fun vs H Q _ => ∃ (a : Addr) (fs : List Nat), vs = [.ref a] ∧ H a = some (.lst (ivs fs)) ∧ (∀ f ∈ fs, f < 16) ∧ fs.length ≤ 900 ∧ ∀ H', Same H H' → Q (.str (txt fs)) H'
theorem ok__law_text (T : Txt K mg) : FnOk P w K mg base CX0 1 T.f__law_text T.fd__law_text ["row"] (sp__law_text K) := by
  refine T.F__law_text.ok sc__law_text (fun vs H Q E h => ?_) (fun cdv A outer s H vs Q E hr h => ?_)
  · obtain ⟨_, _, rfl, _⟩ := h
    rfl
  · obtain ⟨a, fs, rfl, ea, h16, fl, q⟩ := h
    refine ⟨_, (pss_one (ps_ret (pe_join pe_str (pe_lc (own := [("figure", 1)]) (g := (gName 1)) (tt := tYes) rfl sc__law_text.nd (pi_list (pv 0)) (blkOk_by (own := [("figure", 1)]) (N := ["row", "figure"]) (sc := defScope s__law_text) (by decide +kernel)) (fun _ _ _ _ _ => (pg_name (i := 1) sc__law_text.nd rfl (Or.inl rfl))) (fun _ _ _ _ _ => pts_nil) (fun _ _ _ _ _ => (pe_ix ix_str pe_str (pv 1) (fun _ _ => rfl))))))), ?_⟩
    refine ⟨⟨_, rfl⟩, ?_⟩
    refine ⟨_, rfl, a, rfl, ⟨_, .of ea⟩, fun D hD => ?_⟩
    refine lc_list (xs := ivs fs) (fun i H' => Same H H' ∧ H' D = some (.lst (((fs.take i).map fun d => one (sg d)).map V.str))) ⟨Same.new hD, upd_same⟩ ?_ ?_ ?_
    · rintro i H' hi ⟨s2, e2⟩
      exact .of (s2 _ _ ea)
    · rintro i x H' hx ⟨s2, e2⟩
      obtain ⟨k, hk, rfl⟩ := ivs_get hx
      have kb := h16 k (List.mem_of_getElem? hk)
      have hi : i < fs.length := (List.getElem?_eq_some_iff.mp hk).1
      refine ⟨rfl, _, rfl, _, _, _, rfl, rfl, fig_len, fig_at (by omega), ?_⟩
      refine ⟨_, e2, small1000 ?_, same_own s2 hD, ?_⟩
      · rw [List.length_map, List.length_map, List.length_take]
        omega
      · rw [upd_same, List.take_add_one, hk, List.map_append, List.map_append]
        rfl
    · rintro H' ⟨s2, e2⟩
      rw [ivs_length, List.take_length] at e2
      refine ⟨"", D, fs.map fun d => one (sg d), rfl, rfl, .inl (.of e2), ?_, ?_⟩
      · have e : ((fs.map fun d => one (sg d)).map (·.length)).sum ≤ (fs.map fun d => one (sg d)).length * 1 := by
          refine Nat.le_trans (sum_le_mul (m := 1) fun x hx => ?_) ?_
          · obtain ⟨y, hy, rfl⟩ := List.mem_map.mp hx
            obtain ⟨d, hd, rfl⟩ := List.mem_map.mp hy
            exact Nat.le_refl 1
          · rw [List.length_map]
            exact Nat.le_refl _
        have z : ("" : Str).length = 0 := by decide +kernel
        rw [List.length_map] at e ⊢
        rw [z]
        omega
      · have e3 : (fs.map fun d => one (sg d)) = (fs.map sg).map one := by rw [List.map_map]; rfl
        rw [e3, join_ones]
        exact q H' s2

/-! ### _law_step -/
def sp__law_step (K : PySem.W.Frag) : Sp := fun vs H Q _ => ∃ (a : Addr) (fs : List Nat) (p : Nat), vs = [.ref a, .int (p : Int)] ∧ H a = some (.lst (ivs fs)) ∧ (∀ f ∈ fs, f < 16) ∧ fs.length ≤ 900 ∧ p ≤ 10 ∧ ∀ H', Same H H' → Q (.int ((fs.map (· ^ p)).sum : Nat)) H'
theorem ok__law_step (T : Txt K mg) : FnOk P w K mg base CX0 2 T.f__law_step T.fd__law_step ["row", "power"] (sp__law_step K) := by
  refine T.F__law_step.ok sc__law_step (fun vs H Q E h => ?_) (fun cdv A outer s H vs Q E hr h => ?_)
  · obtain ⟨_, _, _, rfl, _⟩ := h
    rfl
  · obtain ⟨a, fs, p, rfl, ea, h16, fl, hp, q⟩ := h
    refine ⟨_, (pss_one (ps_ret (pe_callB (id := "sum") (cr_sum rfl) (by rfl) T.m_sum (by decide +kernel) (pa_cons (pe_lc (own := [("figure", 2)]) (g := (gName 2)) (tt := tYes) rfl sc__law_step.nd (pi_list (pv 0)) (blkOk_by (own := [("figure", 2)]) (N := ["row", "power", "figure"]) (sc := defScope s__law_step) (by decide +kernel)) (fun _ _ _ _ _ => (pg_name (i := 2) sc__law_step.nd rfl (Or.inl rfl))) (fun _ _ _ _ _ => pts_nil) (fun _ _ _ _ _ => (pe_call (ok__law_power T) hr (by rfl) T.g__law_power T.F__law_power.kp T.b__law_power .nil pass0 (pa_cons (pv 2) (pa_cons (pv 1) pa_nil))))) pa_nil)))), ?_⟩
    refine ⟨_, rfl, a, rfl, ⟨_, .of ea⟩, fun D hD => ?_⟩
    refine lc_list (xs := ivs fs) (fun i H' => Same H H' ∧ H' D = some (.lst (ivs ((fs.take i).map (· ^ p))))) ⟨Same.new hD, upd_same⟩ ?_ ?_ ?_
    · rintro i H' hi ⟨s2, e2⟩
      exact .of (s2 _ _ ea)
    · rintro i x H' hx ⟨s2, e2⟩
      obtain ⟨k, hk, rfl⟩ := ivs_get hx
      have kb := h16 k (List.mem_of_getElem? hk)
      have hi : i < fs.length := (List.getElem?_eq_some_iff.mp hk).1
      refine ⟨rfl, _, rfl, _, rfl, (k : Int), (p : Int), rfl, by omega, by omega, by omega, by omega, ?_⟩
      refine ⟨_, e2, small1000 ?_, same_own s2 hD, ?_⟩
      · rw [ivs_length, List.length_map, List.length_take]
        omega
      · rw [upd_same, List.take_add_one, hk, List.map_append, ivs_append]
        show some (HO.lst (_ ++ [V.int ((k : Int) ^ p)])) = some (HO.lst (_ ++ [V.int ((k ^ p : Nat) : Int)]))
        rw [Int.natCast_pow]
    · rintro H' ⟨s2, e2⟩
      rw [ivs_length, List.take_length, ivs_map] at e2
      refine ⟨D, _, rfl, .of e2, ?_⟩
      rw [sum_cast]
      exact q H' s2

/-! ### _law_end -/
def sp__law_end (K : PySem.W.Frag) : Sp := fun vs H Q _ => ∃ (a : Addr) (fs : List Nat) (b p : Nat), vs = [.ref a, .int (b : Int), .int (p : Int)] ∧ H a = some (.lst (ivs fs)) ∧ OkN b p ∧ Good b fs ∧ ∀ H' t A m, Same H H' → H t = none → H' t = some (.tup (ivs [A, m])) → EndAt b p (val b fs) A m → Q (.ref t) H'
def W__law_end (a : Addr) (n b p : Nat) (H : Hp) (P : Addr) (y : Option V) (m : Nat) (σ' : L2.St) (H' : Hp) : Prop := ∃ L : Nat, m = 15031 - L ∧ σ' = [some (.ref a), some (.int (b : Int)), some (.int (p : Int)), some (.int ((itN b p n L : Nat) : Int)), y, some (.ref P), none, none] ∧ Same H H' ∧ H' P = some (.dK (kvsOf (fun i => ((itN b p n i : Nat) : Int)) (fun i => .int (i : Int)) L)) ∧ ∀ i j, i < L → j < L → itN b p n i = itN b p n j → i = j
theorem ok__law_end (T : Txt K mg) : FnOk P w K mg base CX0 3 T.f__law_end T.fd__law_end ["row", "base", "power"] (sp__law_end K) := by
  refine T.F__law_end.ok sc__law_end (fun vs H Q E h => ?_) (fun cdv A outer s H vs Q E hr h => ?_)
  · obtain ⟨_, _, _, _, rfl, _⟩ := h
    rfl
  · obtain ⟨a, fs, b, p, rfl, ea, ok, gd, q⟩ := h
    have hb16 := ok.hb16
    have hn := gd.val200 ok.hb hb16
    have nr := near_of ok hn
    refine ⟨_, (pss_cons (ps_set (i := 3) sc__law_end.nd rfl (Or.inl rfl) pe_int)
      (pss_cons (ps_for PassesOwn.never rfl (pi_list (pv 0)) (pg_name (i := 4) sc__law_end.nd rfl (Or.inl rfl)) (pss_one (ps_set (i := 3) sc__law_end.nd rfl (Or.inl rfl) (pe_op op_add (pe_op op_mul (pv 3) (pv 1)) (pv 4)))))
      (pss_cons (ps_set (i := 5) sc__law_end.nd rfl (Or.inr rfl) pe_dnewK)
      (pss_cons (ps_while PassesOwn.never (pt_cmp (pc_dnotin (hu_of hr) (pv 3) (pv 5)) rfl) (pss_cons (ps_dput (hu_of hr) (pv 5) (pv 3) (pe_callB (id := "len") call_lenD (by rfl) T.m_len (by decide +kernel) (pa_cons (pv 5) pa_nil)) rfl)
      (pss_one (ps_set (i := 3) sc__law_end.nd rfl (Or.inl rfl) (pe_call (ok__law_step T) hr (by rfl) T.g__law_step T.F__law_step.kp T.b__law_step .nil pass0 (pa_cons (pe_call (ok__law_figures T) (hr.mono (by decide)) (by rfl) T.g__law_figures T.F__law_figures.kp T.b__law_figures .nil pass0 (pa_cons (pv 3) (pa_cons (pv 1) pa_nil))) (pa_cons (pv 2) pa_nil)))))))
      (pss_cons (ps_set (i := 6) sc__law_end.nd rfl (Or.inr rfl) (pe_dget (hu_of hr) (pv 5) (pv 3) (fun _ _ => rfl)))
      (pss_one (ps_ret (pe_tup (pa_cons (pv 6) (pa_cons (pe_callB (id := "min") (cr_min rfl) (by rfl) T.m_min (by decide +kernel) (pa_cons (pe_lock (pe_lc (own := [("one", 7)]) (g := (gName 7)) rfl sc__law_end.nd (pi_keys (pv 5)) (blkOk_by (own := [("one", 7)]) (N := ["row", "base", "power", "here", "figure", "seen", "tail", "one"]) (sc := defScope s__law_end) (by decide +kernel)) (fun _ _ _ _ _ => (pg_name (i := 7) sc__law_end.nd rfl (Or.inl rfl))) (fun _ _ _ _ _ => pts_one (pt_cmpR op_ge (pe_dget (hu_of hr) (pv 5) (pv 7) (fun _ _ => rfl)) (pv 6) (nomark _))) (fun _ _ _ _ _ => (pv 7)))) pa_nil)) pa_nil)))))))))), ?_⟩
    have turn : ∀ (i d : Nat), fs[i]? = some d → ((val b (fs.take i) : Nat) : Int) * (b : Int) + (d : Int) = ((val b (fs.take (i + 1)) : Nat) : Int) := fun i d h => by
      rw [val_take h, Int.natCast_add, Int.natCast_mul]
    refine ⟨_, rfl, a, rfl, ⟨_, .of ea⟩, for_list (xs := ivs fs) (fun i σ' H' => H' = H ∧ ∃ y, σ' = [some (.ref a), some (.int (b : Int)), some (.int (p : Int)), some (.int (val b (fs.take i) : Nat)), y, none, none, none]) ⟨rfl, none, rfl⟩ ?_ ?_ ?_⟩
    · rintro i σ' H' hi ⟨rfl, _⟩
      exact .of ea
    · rintro i x σ' H' hx ⟨rfl, y, rfl⟩
      obtain ⟨d, hd, rfl⟩ := ivs_get hx
      refine ⟨_, rfl, _, rfl, _, _, rfl, rfl, .inr (by omega), _, rfl, _, _, rfl, rfl, rfl, some (.int (d : Int)), ?_⟩
      rw [← turn i d hd]
      rfl
    rintro σ' H' ⟨eH, y, rfl⟩
    rw [ivs_length, List.take_length, eH]
    clear eH
    generalize val b fs = n at *
    refine fun P hP => ?_
    generalize g1 : upd H P _ = H1
    obtain ⟨s1, t1⟩ := new_of g1 hP
    refine ⟨W__law_end a n b p H P y, ⟨15031, 0, rfl, rfl, s1, t1, fun i j hi => by omega⟩, ?_⟩
    rintro m σ' H2 ⟨L, rfl, rfl, s2, t2, nd⟩
    have lL := nr.rep nd
    by_cases c : ∃ i, i < L ∧ itN b p n i = itN b p n L
    · obtain ⟨A, hA, e⟩ := c
      have vAll : ∀ i, i < L → valV (kvsOf (fun i => ((itN b p n i : Nat) : Int)) (fun i => V.int (i : Int)) L) (Sum.inl ((itN b p n i : Nat) : Int) : Key) = some (.int (i : Int)) := fun i hi =>
        kvsOf_some (f := fun i => ((itN b p n i : Nat) : Int)) (g := fun i => V.int (i : Int)) (fun i j hi hj z => nd i j hi hj (Int.ofNat.inj z)) hi
      have v : valV (kvsOf (fun i => ((itN b p n i : Nat) : Int)) (fun i => V.int (i : Int)) L) (Sum.inl ((itN b p n L : Nat) : Int) : Key) = some (.int (A : Int)) := by
        rw [← e]
        exact vAll A hA
      refine ⟨_, rfl, _, rfl, P, some (.int (A : Int)), rfl, dget (k := Sum.inl _) t2 v, false, rfl, iteF ?_⟩
      refine ⟨_, rfl, _, rfl, P, _, rfl, dget (k := Sum.inl _) t2 v, ?_⟩
      refine ⟨_, rfl, P, _, t2, trivial, fun od => ?_⟩
      generalize g3 : upd H2 P _ = H3
      have s3 : Same H H3 := by rw [← g3]; exact same_own s2 hP
      have t3 : H3 P = some (.frz od (.dK (kvsOf (fun i => ((itN b p n i : Nat) : Int)) (fun i => .int (i : Int)) L))) := by rw [← g3, upd_same]
      refine ⟨_, rfl, P, od, rfl, .inl ⟨_, t3, fun D hD => ?_⟩⟩
      have nPD : P ≠ D := ne_of_none t3 hD
      have D0 : H D = none := s3.free hD
      refine lc_keys (fun i H' => Same H H' ∧ H' P = some (.frz od (.dK (kvsOf (fun i => ((itN b p n i : Nat) : Int)) (fun i => .int (i : Int)) L))) ∧ H' D = some (.lst (ivs ((rowN b p n i).drop A)))) ⟨same_own s3 D0, by rw [upd_ne nPD]; exact t3, by rw [upd_same, rowN_drop_low (Nat.zero_le _)]; rfl⟩ ?_ ?_ ?_
      · rintro i H' hi ⟨_, h, _⟩
        exact h
      · rintro i k v H' hk ⟨s4, p4, d4⟩
        obtain ⟨hi, rfl, rfl⟩ := kvsOf_get hk
        refine ⟨rfl, _, rfl, _, rfl, P, _, rfl, dgetF (k := Sum.inl _) p4 (vAll i hi), _, rfl, _, _, rfl, rfl, _, rfl, ?_⟩
        by_cases ci : A ≤ i
        · rw [decide_eq_true (by omega)]
          refine iteT ⟨_, rfl, _, d4, small_len (by rw [ivs_length, List.length_drop, rowN_len]; omega), same_own s4 D0, by rw [upd_ne nPD]; exact p4, ?_⟩
          rw [upd_same, rowN_drop_more ci, ivs_append]
          rfl
        · rw [decide_eq_false (by omega)]
          refine iteF ⟨s4, p4, ?_⟩
          rw [rowN_drop_low (by omega)]
          rw [rowN_drop_low (by omega)] at d4
          exact d4
      · rintro H' ⟨s4, p4, d4⟩
        rw [kvsOf_len] at d4
        refine ⟨p4, ?_⟩
        have s5 := same_own (o := .dK (kvsOf (fun i => ((itN b p n i : Nat) : Int)) (fun i => .int (i : Int)) L)) s4 hP
        have t5 : upd H' P (.dK (kvsOf (fun i => ((itN b p n i : Nat) : Int)) (fun i => .int (i : Int)) L)) D = some (.lst (ivs ((rowN b p n L).drop A))) := by
          rw [upd_ne nPD.symm]
          exact d4
        generalize upd H' P (.dK (kvsOf (fun i => ((itN b p n i : Nat) : Int)) (fun i => .int (i : Int)) L)) = H5 at s5 t5
        rw [rowN_drop, ivs_map] at t5
        refine ⟨D, _, rfl, .of t5, by rw [List.length_map, rowN_len]; omega, fun m h1 h2 => ?_⟩
        obtain ⟨k, hk, rfl⟩ := List.mem_map.mp h1
        obtain ⟨i, hi, rfl⟩ := mem_rowN.mp hk
        refine ⟨by show 2 ≤ sizeLine; decide, fun T hT => ?_⟩
        refine q _ T A _ (s5.trans (Same.new hT)) (s5.free hT) upd_same (Way.end_of ⟨hA, e.symm, nd⟩ ⟨A + i, by omega, by omega, itN_add ..⟩ fun j j1 j2 => ?_)
        have := h2 ((itN b p n j : Nat) : Int) (List.mem_map.mpr ⟨_, mem_rowN.mpr ⟨j - A, by omega, rfl⟩, by rw [← itN_add, show A + (j - A) = j by omega]⟩)
        omega
    · have v : valV (kvsOf (fun i => ((itN b p n i : Nat) : Int)) (fun i => V.int (i : Int)) L) (Sum.inl ((itN b p n L : Nat) : Int) : Key) = none := kvsOf_none fun i hi z => c ⟨i, hi, Int.ofNat.inj z⟩
      refine ⟨_, rfl, _, rfl, P, none, rfl, dget (k := Sum.inl _) t2 v, true, rfl, iteT ⟨Nx (W__law_end a n b p H P y) (15031 - L), Nx.id, ?_⟩⟩
      refine ⟨_, rfl, P, _, rfl, t2, ?_⟩
      rw [kvsOf_len]
      refine ⟨_, rfl, _, rfl, P, _, rfl, .k (k := Sum.inl _) t2 (small_len (by rw [kvsOf_len]; omega)), ?_⟩
      have z := kvsOf_put (f := fun i => ((itN b p n i : Nat) : Int)) (g := fun i => V.int (i : Int)) (L := L) fun i hi z => c ⟨i, hi, Int.ofNat.inj z⟩
      rw [z]
      have s3 := same_own (o := .dK (kvsOf (fun i => ((itN b p n i : Nat) : Int)) (fun i => V.int (i : Int)) (L + 1))) s2 hP
      have i200 := itN_lt200 ok hn L
      refine ⟨_, rfl, _, rfl, itN b p n L, b, rfl, ok.hb, ok.hb16, up900 i200, fun H4 G s4 nG eG => ?_⟩
      refine ⟨_, rfl, G, figs b (itN b p n L), p, rfl, eG, fun f hf => Nat.lt_of_lt_of_le (figs_below ok.hb hf) ok.hb16, figs_le ok.hb (up900 i200), ok.hp, fun H5 s5 => ?_⟩
      refine ⟨15031 - (L + 1), by omega, L + 1, rfl, rfl, s3.trans (s4.trans s5), s5 _ _ (s4 _ _ upd_same), fun i j hi hj ez => ?_⟩
      by_cases ci : i = L
      · by_cases cj : j = L
        · omega
        · subst ci
          exact absurd ⟨j, by omega, ez.symm⟩ c
      · by_cases cj : j = L
        · subst cj
          exact absurd ⟨i, by omega, ez⟩ c
        · exact nd i j (by omega) (by omega) ez

/-! ### KeptNumber__init -/
def sp_KeptNumber__init (C : Addr) : Sp := fun vs H Q _ => ∃ (p dx : Addr) (b pw : Nat), vs = [.ref p, .int (b : Int), .int (pw : Int)] ∧ H p = some (.ins C dx []) ∧ OkN b pw ∧
  ∀ H' w l, KeptAt C H' p w l b pw [0] → H w = none → H l = none → Frm [p] H H' → Q .non H'
theorem ok_KeptNumber__init (T : Txt K mg) : FnOk P w K mg base CX0 3 T.f_KeptNumber__init T.fd_KeptNumber__init ["self", "base", "power"] (sp_KeptNumber__init T.k_KeptNumber) := by
  refine T.F_KeptNumber__init.ok sc_KeptNumber__init (fun vs H Q E h => ?_) (fun cdv A outer s H vs Q E hr h => ?_)
  · obtain ⟨_, _, _, _, rfl, _⟩ := h
    rfl
  · obtain ⟨p, dx, b, pw, rfl, e, ok, q⟩ := h
    refine ⟨_, (pss_cons (ps_fld (pv 0) (pv 1) rfl)
      (pss_cons (ps_fld (pv 0) (pv 2) rfl)
      (pss_cons (ps_fld (pv 0) (pe_call (ok_worths_of T) hr (by rfl) T.g_worths_of T.F_worths_of.kp T.b_worths_of .nil pass0 (pa_cons (pv 1) (pa_cons (pv 2) pa_nil))) rfl)
      (pss_one (ps_fld (pv 0) (pe_lst (pa_cons pe_int pa_nil)) rfl))))), ?_⟩
    refine ⟨_, rfl, _, rfl, p, _, dx, _, rfl, e, T.cl_KeptNumber, T.na_KeptNumber_base, by show 0 < 1000; decide, ?_⟩
    generalize g1 : upd H p _ = H1
    obtain ⟨b1, t1⟩ := set_of g1
    refine ⟨_, rfl, _, rfl, p, _, dx, _, rfl, t1, T.cl_KeptNumber, T.na_KeptNumber_power, by show 1 < 1000; decide, ?_⟩
    generalize g2 : upd H1 p _ = H2
    obtain ⟨b2, t2⟩ := set_of g2
    refine ⟨_, rfl, _, rfl, b, pw, rfl, ok.hb16, ok.hp, fun H3 w s3 nw ew => ?_⟩
    refine ⟨_, rfl, p, _, dx, _, rfl, s3 _ _ t2, T.cl_KeptNumber, T.na_KeptNumber_worths, kf2_len _ _, ?_⟩
    generalize g4 : upd H3 p _ = H4
    obtain ⟨b4, t4⟩ := set_of g4
    have p0 := s3 _ _ t2
    have npw : p ≠ w := ne_of_none t2 nw
    have w4 : H4 w = some (.lst (ivs (wts b pw))) := b4 _ _ npw.symm ew
    refine ⟨by show 1 ≤ sizeLine; decide, fun l hl => ?_⟩
    generalize g5 : upd H4 l _ = H5
    obtain ⟨s5, t5⟩ := new_of g5 hl
    have npl : p ≠ l := ne_of_none t4 hl
    refine ⟨_, rfl, p, _, dx, _, rfl, s5 _ _ t4, T.cl_KeptNumber, T.na_KeptNumber_figures, kf3_len _ _ _, ?_⟩
    generalize g6 : upd H5 p _ = H6
    obtain ⟨b6, t6⟩ := set_of g6
    have F12 : Frm [p] H H2 := (Frm.but b1 ⟨_, t1⟩).trans (Frm.but b2 ⟨_, t2⟩)
    have F4 : Frm [p] H H4 := F12.trans ((Frm.of _ s3).trans (Frm.but b4 ⟨_, t4⟩))
    have F : Frm [p] H H6 := F4.trans ((Frm.of _ s5).trans (Frm.but b6 ⟨_, t6⟩))
    exact q H6 w l ⟨⟨dx, t6⟩, b6 _ _ npw.symm (s5 _ _ w4), b6 _ _ npl.symm t5, ne_of_none w4 hl, ok, Good.zero ok.hb⟩ (F12.fr _ nw) (F4.fr _ hl) F

/-! ### Desk__begin -/
def sp_Desk__begin (C : Addr) (D : Addr) : Sp := fun vs H Q _ => ∃ (p q w l : Addr) (b pw b' pw' : Nat) (fs : List Nat), vs = [.ref p, .str (tx b'), .str (tx pw')] ∧ DeskAt C D H p q w l b pw fs ∧ OkN b' pw' ∧
  ∀ H' t q' w' l', DeskAt C D H' p q' w' l' b' pw' [0] → Aft H H' p q w l q' w' l' → H t = none → H' t = some (.lst []) → Q (.ref t) H'
theorem ok_Desk__begin (T : Txt K mg) : FnOk P w K mg base CX0 5 T.f_Desk__begin T.fd_Desk__begin ["self", "base_word", "power_word"] (sp_Desk__begin T.k_KeptNumber T.k_Desk) := by
  refine T.F_Desk__begin.ok sc_Desk__begin (fun vs H Q E h => ?_) (fun cdv A outer s H vs Q E hr h => ?_)
  · obtain ⟨_, _, _, _, _, _, _, _, _, rfl, _⟩ := h
    rfl
  · obtain ⟨p, q0, w, l, b, pw, b', pw', fs, rfl, hD0, ok, q⟩ := h
    have hb16 := ok.hb16
    have hp10 := ok.hp
    refine ⟨_, (pss_cons (ps_set (i := 3) sc_Desk__begin.nd rfl (Or.inl rfl) (pe_call (ok_number_of_ten T) (hr.mono (by decide)) (by rfl) T.g_number_of_ten T.F_number_of_ten.kp T.b_number_of_ten .nil pass0 (pa_cons (pv 1) pa_nil)))
      (pss_cons (ps_set (i := 4) sc_Desk__begin.nd rfl (Or.inl rfl) (pe_call (ok_number_of_ten T) (hr.mono (by decide)) (by rfl) T.g_number_of_ten T.F_number_of_ten.kp T.b_number_of_ten .nil pass0 (pa_cons (pv 2) pa_nil)))
      (pss_cons (ps_if (pt_not (pt_val (pe_call (ok_is_pair T) (hr.mono (by decide)) (by rfl) T.g_is_pair T.F_is_pair.kp T.b_is_pair .nil pass0 (pa_cons (pv 3) (pa_cons (pv 4) pa_nil))))) (pss_one ps_never) pss_nil)
      (pss_cons (ps_fld (pv 0) (pv 3) rfl)
      (pss_cons (ps_fld (pv 0) (pv 4) rfl)
      (pss_cons (ps_fld (pv 0) (pe_make T.M_KeptNumber (ok_KeptNumber__init T) hr (by rfl) T.gk_KeptNumber T.b_KeptNumber__init .nil pass0 (pa_cons (pv 3) (pa_cons (pv 4) pa_nil))) rfl)
      (pss_one (ps_ret (pe_lst pa_nil))))))))), ?_⟩
    refine ⟨_, rfl, b', rfl, by omega, fun H0 s0 => ?_⟩
    refine ⟨_, rfl, pw', rfl, by omega, fun H00 s00 => ?_⟩
    have hD := hD0.same (s0.trans s00)
    obtain ⟨dx, e⟩ := hD.ins
    refine ⟨_, rfl, _, rfl, b', pw', rfl, ok, _, rfl, iteF ?_⟩
    refine ⟨_, rfl, _, rfl, p, _, dx, _, rfl, e, T.cl_Desk, T.na_Desk_base, df_len _ _ _, ?_⟩
    rw [df_base]
    generalize g1 : upd _ p _ = H1
    obtain ⟨b1, t1⟩ := set_of g1
    refine ⟨_, rfl, _, rfl, p, _, dx, _, rfl, t1, T.cl_Desk, T.na_Desk_power, df_len _ _ _, ?_⟩
    rw [df_power]
    generalize g2 : upd H1 p _ = H2
    obtain ⟨b2, t2⟩ := set_of g2
    refine ⟨_, rfl, _, rfl, fun x dy hx hdy ne => ⟨x, dy, b', pw', rfl, upd_same, ok, fun H3 w3 l3 K3 nw nl F3 => ⟨rfl, ?_⟩⟩⟩
    obtain ⟨s3, n1, n2⟩ := made hx hdy ne K3 nw nl F3
    have px : p ≠ x := ne_of_none t2 hx
    have t3 := s3 _ _ t2
    refine ⟨_, rfl, p, _, dx, _, rfl, t3, T.cl_Desk, T.na_Desk_number, df_len _ _ _, ?_⟩
    rw [df_number]
    generalize g4 : upd H3 p _ = H4
    obtain ⟨b4, t4⟩ := set_of g4
    have K4 : KeptAt T.k_KeptNumber H4 x w3 l3 b' pw' [0] := K3.frm (Frm.but b4 ⟨_, t4⟩) (by simpa using px.symm) (by simpa using (ne_of_none t2 n1).symm) (by simpa using (ne_of_none t2 n2).symm)
    refine ⟨Nat.zero_le _, fun t ht => ?_⟩
    generalize g5 : upd H4 t _ = H5
    obtain ⟨s5, t5⟩ := new_of g5 ht
    have D5 : DeskAt T.k_KeptNumber T.k_Desk H5 p x w3 l3 b' pw' [0] := DeskAt.same ⟨⟨dx, t4⟩, K4, px, Reads.of0 ok.hb⟩ s5
    have F02 : Frm [p] H H2 := (Frm.of _ (s0.trans s00)).trans ((Frm.but b1 ⟨_, t1⟩).trans (Frm.but b2 ⟨_, t2⟩))
    have F04 : Frm [p] H H4 := F02.trans ((Frm.of _ s3).trans (Frm.but b4 ⟨_, t4⟩))
    have F05 : Frm [p] H H5 := F04.trans (Frm.of _ s5)
    exact q H5 t x w3 l3 D5 ⟨.inr (F02.fr _ hx), .inr (F02.fr _ n1), .inr (F02.fr _ n2), F05.mono (fun z hz => by rw [List.mem_singleton.mp hz]; exact List.mem_cons_self)⟩ (F04.fr _ ht) t5

/-! ### KeptNumber__check_figure -/
def sp_KeptNumber__check_figure {K : PySem.W.Frag} {mg : Str → Option Value} (T : Txt K mg) : Sp := fun vs H Q E => ∃ (p w l : Addr) (b pw : Nat) (fs : List Nat) (f : Int), vs = [.ref p, .int f] ∧ KeptAt T.k_KeptNumber H p w l b pw fs ∧ (0 ≤ f → f < (b : Int) → Q .non H) ∧ (¬ (0 ≤ f ∧ f < (b : Int)) → E (.ref T.k_NoFigure) none H)
theorem ok_KeptNumber__check_figure (T : Txt K mg) : FnOk P w K mg base (L2.CX P w) 1 T.f_KeptNumber__check_figure T.fd_KeptNumber__check_figure ["self", "figure"] (sp_KeptNumber__check_figure T) := by
  refine T.F_KeptNumber__check_figure.okX sc_KeptNumber__check_figure (fun vs H Q E h => ?_) (fun cdv A outer s H vs Q E hr h => ?_)
  · obtain ⟨_, _, _, _, _, _, _, rfl, _⟩ := h
    rfl
  · obtain ⟨p, w, l, b, pw, fs, f, rfl, hK, q, r⟩ := h
    obtain ⟨dx, e⟩ := hK.ins
    refine ⟨_, (pss_one (ps_if (PW.pt (pw_or (pt_cmpR op_lt (pv 1) pe_int (nomark _)) (pw_or1 (pt_cmpR op_ge (pv 1) (pe_fld (pv 0) rfl) (nomark _))))) (pss_one (ps_raise rfl (takes_of rfl rfl rfl rfl) (pmk_own PySem.F.excBase_ValueError T.xq_NoFigure T.gk_NoFigure T.I_NoFigure.kp (raises_own T.x_NoFigure.bx T.x_NoFigure.ty) rfl))) pss_nil)), ?_⟩
    refine ⟨_, rfl, _, _, rfl, rfl, _, rfl, ?_⟩
    by_cases c : f < 0
    · rw [decide_eq_true c]
      exact iteT (iteT (r (by omega)))
    · rw [decide_eq_false c]
      refine iteF ?_
      refine ⟨_, rfl, _, rfl, p, _, dx, _, _, rfl, e, T.cl_KeptNumber, T.na_KeptNumber_base, kf_base _ _ _ _, _, _, rfl, rfl, _, rfl, ?_⟩
      by_cases c2 : f ≥ (b : Int)
      · rw [decide_eq_true c2]
        exact iteT (r (by omega))
      · rw [decide_eq_false c2]
        exact iteF (q (by omega) (by omega))

/-! ### KeptNumber__put_figure -/
def sp_KeptNumber__put_figure {K : PySem.W.Frag} {mg : Str → Option Value} (T : Txt K mg) : Sp := fun vs H Q E => ∃ (p w l : Addr) (b pw : Nat) (fs : List Nat) (f : Int), vs = [.ref p, .int f] ∧ KeptAt T.k_KeptNumber H p w l b pw fs ∧
  (∀ g : Nat, f = (g : Int) → g < b → fs.length < 40 ∧ ∀ H' l', KeptAt T.k_KeptNumber H' p w l' b pw (putFs fs g) → (l' = l ∨ H l' = none) → Frm [p, l] H H' → Q .non H') ∧ (¬ (0 ≤ f ∧ f < (b : Int)) → E (.ref T.k_NoFigure) none H)
theorem ok_KeptNumber__put_figure (T : Txt K mg) : FnOk P w K mg base (L2.CX P w) 2 T.f_KeptNumber__put_figure T.fd_KeptNumber__put_figure ["self", "figure"] (sp_KeptNumber__put_figure T) := by
  refine T.F_KeptNumber__put_figure.okX sc_KeptNumber__put_figure (fun vs H Q E h => ?_) (fun cdv A outer s H vs Q E hr h => ?_)
  · obtain ⟨_, _, _, _, _, _, _, rfl, _⟩ := h
    rfl
  · obtain ⟨p, w, l, b, pw, fs, fi, rfl, hK, q', r⟩ := h
    obtain ⟨dx, e⟩ := hK.ins
    have npl := hK.pl
    have npw := hK.pw
    refine ⟨_, (pss_cons (ps_expr (pe_methX (pv 0) T.cl_KeptNumber T.me_KeptNumber__check_figure (ok_KeptNumber__check_figure T) hr T.b_KeptNumber__check_figure (fun σ => passAt (takes_of rfl rfl rfl rfl) σ) (pa_cons (pv 1) pa_nil)))
      (pss_cons (ps_if (pt_cmpR (op_eqD hr.units) (pe_fld (pv 0) rfl) (pe_lst (pa_cons pe_int pa_nil)) (nomark _)) (pss_one (ps_fld (pv 0) (pe_lst pa_nil) rfl)) pss_nil)
      (pss_one (ps_expr (pe_bm PySem.F.plainAttrs_list PySem.F.slot_list_append PySem.F.type_list_append mt_append (pe_fld (pv 0) rfl) (pa_cons (pv 1) pa_nil)))))), ?_⟩
    refine ⟨_, rfl, p, dx, _, rfl, e, kf_no _ _ _ _ (by decide +kernel) (by decide +kernel) (by decide +kernel) (by decide +kernel), _, rfl, p, w, l, b, pw, fs, fi, rfl, hK, fun h0 h1 => ?_, fun h => r h⟩
    obtain ⟨f, rfl⟩ : ∃ f : Nat, fi = (f : Int) := ⟨fi.toNat, by omega⟩
    have hf : f < b := by omega
    obtain ⟨hl, q⟩ := q' f rfl hf
    -- self.figures == [0]
    refine ⟨_, rfl, p, _, dx, _, _, rfl, e, T.cl_KeptNumber, T.na_KeptNumber_figures, kf_figures _ _ _ _, by show 1 ≤ sizeLine; decide, fun z hz => ?_⟩
    generalize g1 : upd H z _ = H1
    obtain ⟨s1, t1⟩ := new_of g1 hz
    have f1 : SqL K H1 l (ivs fs) := .of (s1 _ _ hK.fg)
    refine ⟨_, _, .lst f1 (dpAll_ivs fs), .lst (.of t1) (dpAll_ivs [0]), shaped_ints _, shaped_ints _, _, rfl, ?_⟩
    rw [eqv_nats]
    by_cases c : fs = [0]
    · rw [decide_eq_true c]
      refine iteT ?_
      refine ⟨Nat.zero_le _, fun l2 h2 => ?_⟩
      generalize g2 : upd H1 l2 _ = H2
      obtain ⟨s2, t2⟩ := new_of g2 h2
      have l20 := s1.free h2
      have e2 := s2 _ _ (s1 _ _ e)
      have np2 : p ≠ l2 := ne_of_none e l20
      refine ⟨_, rfl, p, _, dx, _, rfl, e2, T.cl_KeptNumber, T.na_KeptNumber_figures, kf_len _ _ _ _, ?_⟩
      rw [kf_put]
      generalize g3 : upd H2 p _ = H3
      obtain ⟨b3, t3⟩ := set_of g3
      have l3 : H3 l2 = some (.lst []) := b3 _ _ np2.symm t2
      refine ⟨_, rfl, p, _, dx, _, _, rfl, t3, T.cl_KeptNumber, T.na_KeptNumber_figures, kf_figures _ _ _ _, .inl ⟨rfl, _, .of l3⟩, _, rfl, l2, _, _, rfl, rfl, l3, by decide, ?_⟩
      generalize g4 : upd H3 l2 _ = H4
      obtain ⟨b4, t4⟩ := set_of g4
      have F : Frm [l2, p, l] H H4 := (Frm.of _ (s1.trans s2)).trans (((Frm.but b3 ⟨_, t3⟩).mono (by simp)).trans ((Frm.but b4 ⟨_, t4⟩).mono (by simp)))
      have F' := F.drop l20
      refine q H4 l2 ⟨⟨dx, b4 _ _ np2 t3⟩, F'.kp _ _ ?_ hK.ws, ?_, ne_of_none hK.ws l20, hK.ok, hK.good.put hf hl⟩ (.inr l20) F'
      · simp only [List.mem_cons, List.not_mem_nil, or_false, not_or]
        exact ⟨npw.symm, hK.wl⟩
      · rw [t4]
        unfold putFs
        rw [if_pos c]
        rfl
    · rw [decide_eq_false c]
      refine iteF ?_
      have e1 := s1 _ _ e
      have l1 := s1 _ _ hK.fg
      refine ⟨_, rfl, p, _, dx, _, _, rfl, e1, T.cl_KeptNumber, T.na_KeptNumber_figures, kf_figures _ _ _ _, .inl ⟨rfl, _, .of l1⟩, _, rfl, l, _, _, rfl, rfl, l1, small_len (by rw [ivs_length]; omega), ?_⟩
      generalize g4 : upd H1 l _ = H4
      obtain ⟨b4, t4⟩ := set_of g4
      have F : Frm [p, l] H H4 := (Frm.of _ s1).trans ((Frm.but b4 ⟨_, t4⟩).mono (by simp))
      refine q H4 l ⟨⟨dx, b4 _ _ npl e1⟩, b4 _ _ hK.wl (s1 _ _ hK.ws), ?_, hK.wl, hK.ok, hK.good.put hf hl⟩ (.inl rfl) F
      rw [t4]
      unfold putFs
      rw [if_neg c, ivs_append]
      rfl

/-! ### KeptNumber__many_figures -/
def sp_KeptNumber__many_figures (C : Addr) (K : PySem.W.Frag) : Sp := fun vs H Q _ => ∃ (p w l : Addr) (b pw : Nat) (fs : List Nat), vs = [.ref p] ∧ KeptAt C H p w l b pw fs ∧ Q (.int (fs.length : Nat)) H
theorem ok_KeptNumber__many_figures (T : Txt K mg) : FnOk P w K mg base CX0 1 T.f_KeptNumber__many_figures T.fd_KeptNumber__many_figures ["self"] (sp_KeptNumber__many_figures T.k_KeptNumber K) := by
  refine T.F_KeptNumber__many_figures.ok sc_KeptNumber__many_figures (fun vs H Q E h => ?_) (fun cdv A outer s H vs Q E hr h => ?_)
  · obtain ⟨_, _, _, _, _, _, rfl, _⟩ := h
    rfl
  · obtain ⟨p, w, l, b, pw, fs, rfl, hK, q⟩ := h
    obtain ⟨dx, e⟩ := hK.ins
    refine ⟨_, (pss_one (ps_ret (pe_callB (id := "len") call_len_seq (by rfl) T.m_len (by decide +kernel) (pa_cons (pe_fld (pv 0) rfl) pa_nil)))), ?_⟩
    refine ⟨_, rfl, p, _, dx, _, _, rfl, e, T.cl_KeptNumber, T.na_KeptNumber_figures, kf_figures _ _ _ _, l, _, rfl, .inl (.of hK.fg), ?_⟩
    rw [ivs_length]
    exact q

/-! ### Desk__put -/
def sp_Desk__put {K : PySem.W.Frag} {mg : Str → Option Value} (T : Txt K mg) : Sp := fun vs H Q E => ∃ (p q w l : Addr) (b pw : Nat) (fs : List Nat) (word : Str), vs = [.ref p, .str word] ∧ DeskAt T.k_KeptNumber T.k_Desk H p q w l b pw fs ∧ word.length ≤ 40 ∧
  ((∃ f : Nat, word = one (sg f) ∧ f < b ∧ fs.length < 40 ∧ ∀ H' t l', DeskAt T.k_KeptNumber T.k_Desk H' p q w l' b pw (putFs fs f) → Aft H H' p q w l q w l' → H t = none → H' t = some (.lst []) → Q (.ref t) H') ∨
    ((word.length ≠ 1 ∨ 40 ≤ fs.length) ∧ E (.ref T.k_NoAsk) none H))
theorem ok_Desk__put (T : Txt K mg) : FnOk P w K mg base (L2.CX P w) 3 T.f_Desk__put T.fd_Desk__put ["self", "word"] (sp_Desk__put T) := by
  refine T.F_Desk__put.okX sc_Desk__put (fun vs H Q E h => ?_) (fun cdv A outer s H vs Q E hr h => ?_)
  · obtain ⟨_, _, _, _, _, _, _, _, rfl, _⟩ := h
    rfl
  · obtain ⟨p, q0, w, l, b, pw, fs, word, rfl, hD, hw, alt⟩ := h
    obtain ⟨dx, e⟩ := hD.ins
    obtain ⟨dy, e2⟩ := hD.kept.ins
    have hb16 := hD.kept.ok.hb16
    refine ⟨_, (pss_cons (ps_set (i := 2) sc_Desk__put.nd rfl (Or.inl rfl) (pe_callS (ok_figure_of T) (hr.mono (by decide)) (by rfl) T.g_figure_of T.F_figure_of.kp T.b_figure_of (fun σ => passAt (takes_of rfl rfl rfl rfl) σ) (pa_cons (pv 1) pa_nil)))
      (pss_cons (ps_if (pt_cmpR op_ge (pe_meth0 (pe_fld (pv 0) rfl) T.cl_KeptNumber T.me_KeptNumber__many_figures (ok_KeptNumber__many_figures T) (hr.mono (by decide)) T.b_KeptNumber__many_figures .nil pass0) (pe_glob (v := .int 40) (by rfl) T.c_MOST_SIGNS ⟨_, rfl⟩) (nomark _)) (pss_one (ps_raise rfl (takes_of rfl rfl rfl rfl) (pmk_own PySem.F.excBase_ValueError T.xq_NoAsk T.gk_NoAsk T.I_NoAsk.kp (raises_own T.x_NoAsk.bx T.x_NoAsk.ty) rfl))) pss_nil)
      (pss_cons (ps_expr (pe_methX (pe_fld (pv 0) rfl) T.cl_KeptNumber T.me_KeptNumber__put_figure (ok_KeptNumber__put_figure T) hr T.b_KeptNumber__put_figure (fun σ => passAt (takes_of rfl rfl rfl rfl) σ) (pa_cons (pv 2) pa_nil)))
      (pss_one (ps_ret (pe_lst pa_nil)))))), ?_⟩
    refine ⟨_, rfl, word, rfl, hw, fun h1 => ?_, fun h1 => ?_⟩
    · refine ⟨_, rfl, p, _, dx, _, _, rfl, e, T.cl_Desk, T.na_Desk_number, df_at_number _ _ _, q0, dy, _, rfl, e2, kf_no _ _ _ _ (by decide +kernel) (by decide +kernel) (by decide +kernel) (by decide +kernel), q0, w, l, b, pw, fs, rfl, hD.kept, _, _, rfl, rfl, _, rfl, ?_⟩
      rcases alt with ⟨f, rfl, hf, hl40, q⟩ | ⟨o, r⟩
      · rw [decide_eq_false (show ¬ (((fs.length : Nat) : Int) ≥ 40) by omega)]
        refine iteF ?_
        refine ⟨_, rfl, p, _, dx, _, _, rfl, e, T.cl_Desk, T.na_Desk_number, df_at_number _ _ _, q0, dy, _, rfl, e2, kf_no _ _ _ _ (by decide +kernel) (by decide +kernel) (by decide +kernel) (by decide +kernel), _, rfl, q0, w, l, b, pw, fs, Txt.find FIG (one (sg f)), rfl, hD.kept, fun g eg hg => ?_, fun h => ?_⟩
        · rw [fig_find (by omega)] at eg
          obtain rfl : f = g := by omega
          refine ⟨hl40, fun H1 l1 K1 hl F1 => ?_⟩
          refine ⟨Nat.zero_le _, fun t ht => ?_⟩
          generalize g2 : upd H1 t _ = H2
          obtain ⟨s2, t2⟩ := new_of g2 ht
          obtain ⟨D2, A2⟩ := hD.fin K1 hl F1 s2 (hD.reads.put hf)
          exact q H2 t l1 D2 A2 (F1.fr _ ht) t2
        · rw [fig_find (by omega)] at h
          exact absurd ⟨by omega, by omega⟩ h
      · have hl : 40 ≤ fs.length := by
          rcases o with o | o
          · exact absurd h1 o
          · exact o
        rw [decide_eq_true (show ((fs.length : Nat) : Int) ≥ 40 by omega)]
        exact iteT r
    · rcases alt with ⟨f, rfl, _⟩ | ⟨o, r⟩
      · exact absurd rfl h1
      · exact r

/-! ### KeptNumber__take_off -/
def sp_KeptNumber__take_off (C : Addr) : Sp := fun vs H Q _ => ∃ (p w l : Addr) (b pw : Nat) (fs : List Nat), vs = [.ref p] ∧ KeptAt C H p w l b pw fs ∧
  ∀ H' l', KeptAt C H' p w l' b pw (offFs fs) → (l' = l ∨ H l' = none) → Frm [p, l] H H' → Q .non H'
theorem ok_KeptNumber__take_off (T : Txt K mg) : FnOk P w K mg base CX0 1 T.f_KeptNumber__take_off T.fd_KeptNumber__take_off ["self"] (sp_KeptNumber__take_off T.k_KeptNumber) := by
  refine T.F_KeptNumber__take_off.ok sc_KeptNumber__take_off (fun vs H Q E h => ?_) (fun cdv A outer s H vs Q E hr h => ?_)
  · obtain ⟨_, _, _, _, _, _, rfl, _⟩ := h
    rfl
  · obtain ⟨p, w, l, b, pw, fs, rfl, hK, q⟩ := h
    obtain ⟨dx, e⟩ := hK.ins
    have npl := hK.pl
    have npw := hK.pw
    refine ⟨_, (pss_cons (ps_expr (pe_bm0 PySem.F.plainAttrs_list PySem.F.slot_list_pop PySem.F.type_list_pop mt_pop (pe_fld (pv 0) rfl)))
      (pss_one (ps_if (pt_cmpR (op_eqD hr.units) (pe_fld (pv 0) rfl) (pe_lst pa_nil) (nomark _)) (pss_one (ps_fld (pv 0) (pe_lst (pa_cons pe_int pa_nil)) rfl)) pss_nil))), ?_⟩
    have l0 := List.length_pos_iff.mpr hK.good.ne
    have hlast : (ivs fs)[(ivs fs).length - 1]? = some (.int ((fs[fs.length - 1]'(by omega) : Nat) : Int)) := by
      rw [ivs_length]
      exact ivs_at (List.getElem?_eq_getElem (by omega))
    refine ⟨_, rfl, p, _, dx, _, _, rfl, e, T.cl_KeptNumber, T.na_KeptNumber_figures, kf_figures _ _ _ _, .inl ⟨rfl, _, .of hK.fg⟩, l, _, _, rfl, rfl, hK.fg, hlast, ?_⟩
    rw [ivs_dropLast]
    generalize g1 : upd H l _ = H1
    obtain ⟨b1, t1⟩ := set_of g1
    have e1 := b1 _ _ npl e
    have w1 := b1 _ _ hK.wl hK.ws
    -- self.figures == []
    refine ⟨_, rfl, p, _, dx, _, _, rfl, e1, T.cl_KeptNumber, T.na_KeptNumber_figures, kf_figures _ _ _ _, Nat.zero_le _, fun z hz => ?_⟩
    generalize g2 : upd H1 z _ = H2
    obtain ⟨s2, t2⟩ := new_of g2 hz
    have f2 : SqL K H2 l (ivs fs.dropLast) := .of (s2 _ _ t1)
    refine ⟨_, _, .lst f2 (dpAll_ivs _), .lst (.of t2) (dpAll_ivs []), shaped_ints _, shaped_ints _, _, rfl, ?_⟩
    rw [eqv_nats]
    have F2 : Frm [l] H H2 := (Frm.but b1 ⟨_, t1⟩).trans (Frm.of _ s2)
    have dl : fs.dropLast = [] ↔ fs.length = 1 := by
      rw [← List.length_eq_zero_iff, List.length_dropLast]
      omega
    by_cases c : fs.length = 1
    · rw [decide_eq_true (dl.mpr c)]
      refine iteT ?_
      refine ⟨by show 1 ≤ sizeLine; decide, fun l2 h2 => ?_⟩
      generalize g3 : upd H2 l2 _ = H3
      obtain ⟨s3, t3⟩ := new_of g3 h2
      have l20 := F2.fr _ h2
      have e3 := s3 _ _ (s2 _ _ e1)
      have np2 : p ≠ l2 := ne_of_none e l20
      refine ⟨_, rfl, p, _, dx, _, rfl, e3, T.cl_KeptNumber, T.na_KeptNumber_figures, kf_len _ _ _ _, ?_⟩
      rw [kf_put]
      generalize g4 : upd H3 p _ = H4
      obtain ⟨b4, t4⟩ := set_of g4
      have F : Frm [p, l] H H4 := (F2.mono (by simp)).trans ((Frm.of _ s3).trans ((Frm.but b4 ⟨_, t4⟩).mono (by simp)))
      refine q H4 l2 ⟨⟨dx, t4⟩, F.kp _ _ ?_ hK.ws, ?_, ne_of_none hK.ws l20, hK.ok, hK.good.off hK.ok.hb⟩ (.inr l20) F
      · simp only [List.mem_cons, List.not_mem_nil, or_false, not_or]
        exact ⟨npw.symm, hK.wl⟩
      · rw [b4 _ _ np2.symm t3]
        unfold offFs
        rw [if_pos c]
        rfl
    · rw [decide_eq_false (fun z => c (dl.mp z))]
      refine iteF ?_
      refine q H2 l ⟨⟨dx, s2 _ _ e1⟩, s2 _ _ w1, ?_, hK.wl, hK.ok, hK.good.off hK.ok.hb⟩ (.inl rfl) (F2.mono (by simp))
      rw [s2 _ _ t1]
      unfold offFs
      rw [if_neg c]

/-! ### Desk__take_off -/
def sp_Desk__take_off (C : Addr) (D : Addr) : Sp := fun vs H Q _ => ∃ (p q w l : Addr) (b pw : Nat) (fs : List Nat), vs = [.ref p] ∧ DeskAt C D H p q w l b pw fs ∧
  ∀ H' t l', DeskAt C D H' p q w l' b pw (offFs fs) → Aft H H' p q w l q w l' → H t = none → H' t = some (.lst []) → Q (.ref t) H'
theorem ok_Desk__take_off (T : Txt K mg) : FnOk P w K mg base CX0 2 T.f_Desk__take_off T.fd_Desk__take_off ["self"] (sp_Desk__take_off T.k_KeptNumber T.k_Desk) := by
  refine T.F_Desk__take_off.ok sc_Desk__take_off (fun vs H Q E h => ?_) (fun cdv A outer s H vs Q E hr h => ?_)
  · obtain ⟨_, _, _, _, _, _, _, rfl, _⟩ := h
    rfl
  · obtain ⟨p, q0, w, l, b, pw, fs, rfl, hD, q⟩ := h
    obtain ⟨dx, e⟩ := hD.ins
    obtain ⟨dy, e2⟩ := hD.kept.ins
    refine ⟨_, (pss_cons (ps_expr (pe_meth0 (pe_fld (pv 0) rfl) T.cl_KeptNumber T.me_KeptNumber__take_off (ok_KeptNumber__take_off T) hr T.b_KeptNumber__take_off .nil pass0))
      (pss_one (ps_ret (pe_lst pa_nil)))), ?_⟩
    refine ⟨_, rfl, p, _, dx, _, _, rfl, e, T.cl_Desk, T.na_Desk_number, df_at_number _ _ _, q0, dy, _, rfl, e2, kf_no _ _ _ _ (by decide +kernel) (by decide +kernel) (by decide +kernel) (by decide +kernel), q0, w, l, b, pw, fs, rfl, hD.kept, fun H1 l1 K1 hl F1 => ?_⟩
    refine ⟨Nat.zero_le _, fun t ht => ?_⟩
    generalize g2 : upd H1 t _ = H2
    obtain ⟨s2, t2⟩ := new_of g2 ht
    obtain ⟨D2, A2⟩ := hD.fin K1 hl F1 s2 (hD.reads.off hD.kept.ok.hb)
    exact q H2 t l1 D2 A2 (F1.fr _ ht) t2

/-! ### KeptNumber__set_figure -/
def sp_KeptNumber__set_figure {K : PySem.W.Frag} {mg : Str → Option Value} (T : Txt K mg) : Sp := fun vs H Q E => ∃ (p w l : Addr) (b pw : Nat) (fs : List Nat) (pi f : Int), vs = [.ref p, .int pi, .int f] ∧ KeptAt T.k_KeptNumber H p w l b pw fs ∧
  (¬ (0 ≤ pi ∧ pi < (fs.length : Int)) → E (.ref T.k_NoPlace) none H) ∧ (0 ≤ pi → pi < (fs.length : Int) → ¬ (0 ≤ f ∧ f < (b : Int) ∧ (f = 0 → pi + 1 = (fs.length : Int) → fs.length = 1)) → E (.ref T.k_NoFigure) none H) ∧
  (∀ pl g : Nat, pi = (pl : Int) → f = (g : Int) → g < b → pl < fs.length → (g = 0 → pl + 1 = fs.length → fs.length = 1) → ∀ H', KeptAt T.k_KeptNumber H' p w l b pw (fs.set (fs.length - 1 - pl) g) → Frm [p, l] H H' → Q .non H')
theorem ok_KeptNumber__set_figure (T : Txt K mg) : FnOk P w K mg base (L2.CX P w) 2 T.f_KeptNumber__set_figure T.fd_KeptNumber__set_figure ["self", "place", "figure"] (sp_KeptNumber__set_figure T) := by
  refine T.F_KeptNumber__set_figure.okX sc_KeptNumber__set_figure (fun vs H Q E h => ?_) (fun cdv A outer s H vs Q E hr h => ?_)
  · obtain ⟨_, _, _, _, _, _, _, _, rfl, _⟩ := h
    rfl
  · obtain ⟨p, w, l, b, pw, fs, pi, fi, rfl, hK, r1, r2, q⟩ := h
    obtain ⟨dx, e⟩ := hK.ins
    have npl := hK.pl
    have npw := hK.pw
    refine ⟨_, (pss_cons (ps_set (i := 3) sc_KeptNumber__set_figure.nd rfl (Or.inl rfl) (pe_callB (id := "len") call_len_seq (by rfl) T.m_len (by decide +kernel) (pa_cons (pe_fld (pv 0) rfl) pa_nil)))
      (pss_cons (ps_if (PW.pt (pw_or (pt_cmpR op_lt (pv 1) pe_int (nomark _)) (pw_or1 (pt_cmpR op_ge (pv 1) (pv 3) (nomark _))))) (pss_one (ps_raise rfl (takes_of rfl rfl rfl rfl) (pmk_own PySem.F.excBase_ValueError T.xq_NoPlace T.gk_NoPlace T.I_NoPlace.kp (raises_own T.x_NoPlace.bx T.x_NoPlace.ty) rfl))) pss_nil)
      (pss_cons (ps_expr (pe_methX (pv 0) T.cl_KeptNumber T.me_KeptNumber__check_figure (ok_KeptNumber__check_figure T) hr T.b_KeptNumber__check_figure (fun σ => passAt (takes_of rfl rfl rfl rfl) σ) (pa_cons (pv 2) pa_nil)))
      (C8.pss_cut (ps_if (PW.pt (pw_and (pt_cmpR op_eq (pv 2) pe_int (nomark _)) (pw_and (pt_cmpR op_eq (pv 1) (pe_op op_sub (pv 3) pe_int) (nomark _)) (pw_and1 (pt_cmpR op_gt (pv 3) pe_int (nomark _)))))) (pss_one (ps_raise rfl (takes_of rfl rfl rfl rfl) (pmk_own PySem.F.excBase_ValueError T.xq_NoFigure T.gk_NoFigure T.I_NoFigure.kp (raises_own T.x_NoFigure.bx T.x_NoFigure.ty) rfl))) pss_nil)
      (pss_one (ps_asg (pv 2) (pg_sub (pe_fld (pv 0) rfl) (pe_op op_sub (pe_op op_sub (pv 3) pe_int) (pv 1)) set_list))))))), ?_⟩
    -- many
    refine ⟨_, rfl, p, _, dx, _, _, rfl, e, T.cl_KeptNumber, T.na_KeptNumber_figures, kf_figures _ _ _ _, l, _, rfl, .inl (.of hK.fg), ?_⟩
    rw [ivs_length]
    refine ⟨_, rfl, _, _, rfl, rfl, _, rfl, ?_⟩
    by_cases c : pi < 0
    · rw [decide_eq_true c]
      exact iteT (iteT (r1 (by omega)))
    rw [decide_eq_false c]
    refine iteF ?_
    refine ⟨_, rfl, _, rfl, _, _, rfl, rfl, _, rfl, ?_⟩
    by_cases c' : pi ≥ (fs.length : Int)
    · rw [decide_eq_true c']
      exact iteT (r1 (by omega))
    rw [decide_eq_false c']
    refine iteF ?_
    obtain ⟨pl, rfl⟩ : ∃ pl : Nat, pi = (pl : Int) := ⟨pi.toNat, by omega⟩
    have hp : pl < fs.length := by omega
    refine ⟨_, rfl, p, dx, _, rfl, e, kf_no _ _ _ _ (by decide +kernel) (by decide +kernel) (by decide +kernel) (by decide +kernel), _, rfl, p, w, l, b, pw, fs, fi, rfl, hK, fun h0 h1 => ?_, fun h => r2 (by omega) (by omega) fun z => h ⟨z.1, z.2.1⟩⟩
    obtain ⟨f, rfl⟩ : ∃ f : Nat, fi = (f : Int) := ⟨fi.toNat, by omega⟩
    have hf : f < b := by omega
    -- figure == 0 and place == many - 1 and many > 1
    refine ⟨fun σ' H' => H' = H ∧ (f = 0 → pl + 1 = fs.length → fs.length = 1) ∧ σ' = [some (.ref p), some (.int (pl : Int)), some (.int (f : Int)), some (.int ((fs.length : Nat) : Int))], ?_, ?_⟩
    · refine ⟨_, rfl, rfl, _, rfl, ?_⟩
      by_cases c : f = 0
      · subst c
        refine iteT ?_
        refine ⟨_, rfl, _, rfl, _, _, rfl, rfl, rfl, _, rfl, ?_⟩
        by_cases c2 : pl + 1 = fs.length
        · rw [decide_eq_true (show V.int (pl : Int) = V.int (((fs.length : Nat) : Int) - 1) by congr 1; omega)]
          refine iteT ?_
          refine ⟨_, rfl, _, _, rfl, rfl, _, rfl, ?_⟩
          by_cases c3 : ((fs.length : Nat) : Int) > 1
          · rw [decide_eq_true c3]
            exact iteT (r2 (by omega) (by omega) fun z => by have := z.2.2 rfl (by omega); omega)
          · rw [decide_eq_false c3]
            exact iteF ⟨rfl, fun _ _ => by omega, rfl⟩
        · rw [decide_eq_false (show ¬ (V.int (pl : Int) = V.int (((fs.length : Nat) : Int) - 1)) from fun z => c2 (by injection z with z; omega))]
          exact iteF (iteF ⟨rfl, fun _ z => absurd z c2, rfl⟩)
      · rw [decide_eq_false (show ¬ (V.int (f : Int) = V.int 0) from fun z => c (by injection z with z; omega))]
        exact iteF (iteF ⟨rfl, fun z => absurd z c, rfl⟩)
    · rintro σ' H' ⟨rfl, hz, rfl⟩
      refine ⟨_, rfl, _, rfl, p, _, dx, _, _, rfl, e, T.cl_KeptNumber, T.na_KeptNumber_figures, kf_figures _ _ _ _, _, rfl, _, _, rfl, rfl, _, rfl, _, _, rfl, rfl, l, _, _, fs.length - 1 - pl, rfl, rfl, hK.fg, ?_, ?_⟩
      · rw [ivs_length, show (((fs.length : Nat) : Int) - 1 - (pl : Int)) = ((fs.length - 1 - pl : Nat) : Int) by omega]
        exact ixN_of (by omega)
      · rw [ivs_set]
        generalize g1 : upd _ l _ = H1
        obtain ⟨b1, t1⟩ := set_of g1
        have F : Frm [p, l] _ H1 := (Frm.but b1 ⟨_, t1⟩).mono (by simp)
        exact q pl f rfl rfl hf hp hz H1 ⟨⟨dx, b1 _ _ npl e⟩, b1 _ _ hK.wl hK.ws, t1, hK.wl, hK.ok, hK.good.set hf⟩ F

/-! ### Desk__change -/
def sp_Desk__change {K : PySem.W.Frag} {mg : Str → Option Value} (T : Txt K mg) : Sp := fun vs H Q E => ∃ (p q w l : Addr) (b pw pl f : Nat) (fs : List Nat), vs = [.ref p, .str (tx pl), .str (one (sg f))] ∧ DeskAt T.k_KeptNumber T.k_Desk H p q w l b pw fs ∧ f < b ∧ pl < 100 ∧
  (pl < fs.length → (f = 0 → pl + 1 = fs.length → fs.length = 1) → ∀ H' t, DeskAt T.k_KeptNumber T.k_Desk H' p q w l b pw (fs.set (fs.length - 1 - pl) f) → Aft H H' p q w l q w l → H t = none → H' t = some (.lst []) → Q (.ref t) H') ∧
  (¬ pl < fs.length → ∀ H', Same H H' → E (.ref T.k_NoPlace) none H') ∧ (pl < fs.length → ¬ (f = 0 → pl + 1 = fs.length → fs.length = 1) → ∀ H', Same H H' → E (.ref T.k_NoFigure) none H')
theorem ok_Desk__change (T : Txt K mg) : FnOk P w K mg base (L2.CX P w) 3 T.f_Desk__change T.fd_Desk__change ["self", "place_word", "figure_word"] (sp_Desk__change T) := by
  refine T.F_Desk__change.okX sc_Desk__change (fun vs H Q E h => ?_) (fun cdv A outer s H vs Q E hr h => ?_)
  · obtain ⟨_, _, _, _, _, _, _, _, _, rfl, _⟩ := h
    rfl
  · obtain ⟨p, q0, w, l, b, pw, pl, f, fs, rfl, hD0, hf, hp, q, r1, r2⟩ := h
    have hb16 := hD0.kept.ok.hb16
    refine ⟨_, (pss_cons (ps_set (i := 3) sc_Desk__change.nd rfl (Or.inl rfl) (pe_call (ok_number_of_ten T) hr (by rfl) T.g_number_of_ten T.F_number_of_ten.kp T.b_number_of_ten .nil pass0 (pa_cons (pv 1) pa_nil)))
      (pss_cons (ps_expr (pe_methX (pe_fld (pv 0) rfl) T.cl_KeptNumber T.me_KeptNumber__set_figure (ok_KeptNumber__set_figure T) hr T.b_KeptNumber__set_figure (fun σ => passAt (takes_of rfl rfl rfl rfl) σ) (pa_cons (pv 3) (pa_cons (pe_callS (ok_figure_of T) (hr.mono (by decide)) (by rfl) T.g_figure_of T.F_figure_of.kp T.b_figure_of (fun σ => passAt (takes_of rfl rfl rfl rfl) σ) (pa_cons (pv 2) pa_nil)) pa_nil))))
      (pss_one (ps_ret (pe_lst pa_nil))))), ?_⟩
    refine ⟨_, rfl, pl, rfl, hp, fun H0 s0 => ?_⟩
    have hD := hD0.same s0
    obtain ⟨dx, e⟩ := hD.ins
    obtain ⟨dy, e2⟩ := hD.kept.ins
    refine ⟨_, rfl, p, _, dx, _, _, rfl, e, T.cl_Desk, T.na_Desk_number, df_at_number _ _ _, q0, dy, _, rfl, e2, kf_no _ _ _ _ (by decide +kernel) (by decide +kernel) (by decide +kernel) (by decide +kernel), _, rfl, _, rfl, one (sg f), rfl, by show 1 ≤ 40; decide, fun _ => ?_, fun z => absurd rfl z⟩
    rw [fig_find (by omega)]
    refine ⟨q0, w, l, b, pw, fs, (pl : Int), (f : Int), rfl, hD.kept, fun z => r1 (fun y => z ⟨by omega, by omega⟩) _ s0, fun _ z1 z2 => r2 (by omega) (fun y => z2 ⟨by omega, by omega, fun a c => y (by omega) (by omega)⟩) _ s0, fun pl' f' e1 e3 _ hpl hz H1 K1 F1 => ?_⟩
    obtain rfl : pl = pl' := by omega
    obtain rfl : f = f' := by omega
    refine ⟨Nat.zero_le _, fun t ht => ?_⟩
    generalize g2 : upd H1 t _ = H2
    obtain ⟨s2, t2⟩ := new_of g2 ht
    obtain ⟨D2, A2⟩ := hD.fin K1 (.inl rfl) F1 s2 (hD.reads.set hf fun z1 z2 => hz z1 (by omega))
    exact q hpl hz H2 t D2 ⟨.inl rfl, .inl rfl, .inl rfl, (Frm.of _ s0).trans A2.frm⟩ (s0.free (F1.fr _ ht)) t2

/-! ### Desk__shown -/
def sp_Desk__shown (C : Addr) (D : Addr) (K : PySem.W.Frag) : Sp := fun vs H Q _ => ∃ (p q w l : Addr) (b pw n : Nat) (fs : List Nat), vs = [.ref p, .int (n : Int)] ∧ DeskAt C D H p q w l b pw fs ∧ n < 2 ^ 900 ∧ ∀ H', Same H H' → Q (.str (txt (figs b n))) H'
theorem ok_Desk__shown (T : Txt K mg) : FnOk P w K mg base CX0 3 T.f_Desk__shown T.fd_Desk__shown ["self", "number"] (sp_Desk__shown T.k_KeptNumber T.k_Desk K) := by
  refine T.F_Desk__shown.ok sc_Desk__shown (fun vs H Q E h => ?_) (fun cdv A outer s H vs Q E hr h => ?_)
  · obtain ⟨_, _, _, _, _, _, _, _, rfl, _⟩ := h
    rfl
  · obtain ⟨p, q0, w, l, b, pw, n, fs, rfl, hD, hn, q⟩ := h
    obtain ⟨dx, e⟩ := hD.ins
    have ok := hD.kept.ok
    refine ⟨_, (pss_one (ps_ret (pe_call (ok_number_shown T) hr (by rfl) T.g_number_shown T.F_number_shown.kp T.b_number_shown .nil pass0 (pa_cons (pv 1) (pa_cons (pe_fld (pv 0) rfl) pa_nil))))), ?_⟩
    refine ⟨_, rfl, _, rfl, p, _, dx, _, _, rfl, e, T.cl_Desk, T.na_Desk_base, df_at_base _ _ _, n, b, rfl, ok.hb, ok.hb16, hn, fun H' s => ?_⟩
    exact q _ s

/-! ### Desk__end_row -/
def sp_Desk__end_row (C : Addr) (D : Addr) : Sp := fun vs H Q _ => ∃ (p q w l t : Addr) (b pw A m : Nat) (fs : List Nat), vs = [.ref p, .ref t] ∧ DeskAt C D H p q w l b pw fs ∧ H t = some (.tup (ivs [A, m])) ∧ A < 2 ^ 40 ∧ m < 2 ^ 900 ∧ ∀ H', Same H H' → Q (.str (((Str.empty ++ ((toString (A : Int) : String) : Str)) ++ (" " : Str)) ++ txt (figs b m))) H'
theorem ok_Desk__end_row (T : Txt K mg) : FnOk P w K mg base CX0 4 T.f_Desk__end_row T.fd_Desk__end_row ["self", "end"] (sp_Desk__end_row T.k_KeptNumber T.k_Desk) := by
  refine T.F_Desk__end_row.ok sc_Desk__end_row (fun vs H Q E h => ?_) (fun cdv A outer s H vs Q E hr h => ?_)
  · obtain ⟨_, _, _, _, _, _, _, _, _, _, rfl, _⟩ := h
    rfl
  · obtain ⟨p, q0, w, l, t, b, pw, A, m, fs, rfl, hD, et, hA, hm, q⟩ := h
    obtain ⟨dx, e⟩ := hD.ins
    have ok := hD.kept.ok
    have l1 := end_len hA
    have l2 := figs_txt_len ok.hb hm
    have l3 : Str.length Str.empty = 0 := rfl
    have l4 : Str.length (" " : Str) = 1 := by decide +kernel
    have zs : (200000 : Nat) ≤ sizeLine := by decide
    have lg : ((A : Nat) : Int).natAbs.log2 < 1920 := by
      show A.log2 < 1920
      by_cases z : A = 0
      · rw [z]; decide
      · exact Nat.lt_of_lt_of_le ((Nat.log2_lt z).mpr hA) (by decide)
    refine ⟨_, (pss_one (ps_ret (pe_joined (.cons (pe_fmt (pe_ix ix_tup (pv 1) pe_int (fun _ _ => rfl))) (.cons pe_str (.cons (pe_fmt (pe_meth (pv 0) T.cl_Desk T.me_Desk__shown (ok_Desk__shown T) hr T.b_Desk__shown .nil pass0 (pa_cons (pe_ix ix_tup (pv 1) pe_int (fun _ _ => rfl)) pa_nil))) .nil)))))), ?_⟩
    refine ⟨_, rfl, t, _, 0, _, rfl, rfl, .of et, atI_nat (j := 0) rfl, .inr ⟨(A : Int), rfl, lg, _, rfl, ?_, _, rfl, ?_, ?_⟩⟩
    · rw [str_len]
      omega
    · rw [str_len, str_len]
      omega
    refine ⟨_, rfl, p, dx, _, rfl, e, df_no _ _ _ (by decide +kernel) (by decide +kernel) (by decide +kernel), _, rfl, t, _, 1, _, rfl, rfl, .of et, atI_nat (j := 1) rfl, p, q0, w, l, b, pw, m, fs, rfl, hD, hm, fun H' s => .inl ⟨_, rfl, by omega, _, rfl, ?_, ?_⟩⟩
    · rw [str_len, str_len, str_len]
      omega
    · exact q H' s

/-! ### KeptNumber__number_now -/
def sp_KeptNumber__number_now (C : Addr) : Sp := fun vs H Q _ => ∃ (p w l : Addr) (b pw : Nat) (fs : List Nat), vs = [.ref p] ∧ KeptAt C H p w l b pw fs ∧ Q (.int (val b fs : Nat)) H
theorem ok_KeptNumber__number_now (T : Txt K mg) : FnOk P w K mg base CX0 1 T.f_KeptNumber__number_now T.fd_KeptNumber__number_now ["self"] (sp_KeptNumber__number_now T.k_KeptNumber) := by
  refine T.F_KeptNumber__number_now.ok sc_KeptNumber__number_now (fun vs H Q E h => ?_) (fun cdv A outer s H vs Q E hr h => ?_)
  · obtain ⟨_, _, _, _, _, _, rfl, _⟩ := h
    rfl
  · obtain ⟨p, w, l, b, pw, fs, rfl, hK, q⟩ := h
    have hb16 := hK.ok.hb16
    obtain ⟨dx, e⟩ := hK.ins
    have turn : ∀ (i d : Nat), fs[i]? = some d → ((val b (fs.take i) : Nat) : Int) * (b : Int) + (d : Int) = ((val b (fs.take (i + 1)) : Nat) : Int) := fun i d h => by
      rw [val_take h, Int.natCast_add, Int.natCast_mul]
    refine ⟨_, (pss_cons (ps_set (i := 1) sc_KeptNumber__number_now.nd rfl (Or.inl rfl) pe_int)
      (pss_cons (ps_for PassesOwn.never rfl (pi_list (pe_fld (pv 0) rfl)) (pg_name (i := 2) sc_KeptNumber__number_now.nd rfl (Or.inl rfl)) (pss_one (ps_set (i := 1) sc_KeptNumber__number_now.nd rfl (Or.inl rfl) (pe_op op_add (pe_op op_mul (pv 1) (pe_fld (pv 0) rfl)) (pv 2)))))
      (pss_one (ps_ret (pv 1))))), ?_⟩
    refine ⟨_, rfl, p, _, dx, _, _, rfl, e, T.cl_KeptNumber, T.na_KeptNumber_figures, kf_figures _ _ _ _, l, rfl, ⟨_, .of hK.fg⟩, for_list (xs := ivs fs) (fun i σ' H' => H' = H ∧ ∃ y, σ' = [some (.ref p), some (.int (val b (fs.take i) : Nat)), y]) ⟨rfl, none, rfl⟩ ?_ ?_ ?_⟩
    · rintro i σ' H' hi ⟨rfl, _⟩
      exact .of hK.fg
    · rintro i x σ' H' hx ⟨rfl, y, rfl⟩
      obtain ⟨d, hd, rfl⟩ := ivs_get hx
      refine ⟨_, rfl, _, rfl, p, _, dx, _, _, rfl, e, T.cl_KeptNumber, T.na_KeptNumber_base, kf_base _ _ _ _, _, _, rfl, rfl, .inr (by omega), _, rfl, _, _, rfl, rfl, rfl, some (.int (d : Int)), ?_⟩
      rw [← turn i d hd]
      rfl
    · rintro σ' H' ⟨rfl, y, rfl⟩
      rw [ivs_length, List.take_length]
      exact ⟨_, rfl, q⟩

/-! ### KeptNumber__step_now -/
def sp_KeptNumber__step_now (C : Addr) : Sp := fun vs H Q _ => ∃ (p w l : Addr) (b pw : Nat) (fs : List Nat), vs = [.ref p] ∧ KeptAt C H p w l b pw fs ∧ ∀ H', Same H H' → Q (.int ((fs.map (· ^ pw)).sum : Nat)) H'
theorem ok_KeptNumber__step_now (T : Txt K mg) : FnOk P w K mg base CX0 1 T.f_KeptNumber__step_now T.fd_KeptNumber__step_now ["self"] (sp_KeptNumber__step_now T.k_KeptNumber) := by
  refine T.F_KeptNumber__step_now.ok sc_KeptNumber__step_now (fun vs H Q E h => ?_) (fun cdv A outer s H vs Q E hr h => ?_)
  · obtain ⟨_, _, _, _, _, _, rfl, _⟩ := h
    rfl
  · obtain ⟨p, w, l, b, pw, fs, rfl, hK, q⟩ := h
    have fl := hK.good.len
    obtain ⟨dx, e⟩ := hK.ins
    refine ⟨_, (pss_one (ps_ret (pe_callB (id := "sum") (cr_sum rfl) (by rfl) T.m_sum (by decide +kernel) (pa_cons (pe_lc (own := [("figure", 1)]) (g := (gName 1)) (tt := tYes) rfl sc_KeptNumber__step_now.nd (pi_list (pe_fld (pv 0) rfl)) (blkOk_by (own := [("figure", 1)]) (N := ["self", "figure"]) (sc := defScope s_KeptNumber__step_now) (by decide +kernel)) (fun _ _ _ _ _ => (pg_name (i := 1) sc_KeptNumber__step_now.nd rfl (Or.inl rfl))) (fun _ _ _ _ _ => pts_nil) (fun _ _ _ _ _ => (pe_ix (show IxR _ (rIxL K) from ix_list) (show PE _ _ (tFld K _ "worths") from pe_fld (pv 0) rfl) (pv 1) (fun _ _ => rfl)))) pa_nil)))), ?_⟩
    refine ⟨_, rfl, p, _, dx, _, _, rfl, e, T.cl_KeptNumber, T.na_KeptNumber_figures, kf_figures _ _ _ _, l, rfl, ⟨_, .of hK.fg⟩, fun D hD => ?_⟩
    refine lc_list (xs := ivs fs) (fun i H' => Same H H' ∧ H' D = some (.lst (ivs ((fs.take i).map (· ^ pw))))) ⟨Same.new hD, upd_same⟩ ?_ ?_ ?_
    · rintro i H' hi ⟨s2, e2⟩
      exact .of (s2 _ _ hK.fg)
    · rintro i x H' hx ⟨s2, e2⟩
      obtain ⟨k, hk, rfl⟩ := ivs_get hx
      have kb := hK.good.lt k (List.mem_of_getElem? hk)
      have hi : i < fs.length := (List.getElem?_eq_some_iff.mp hk).1
      refine ⟨rfl, _, rfl, p, _, dx, _, _, rfl, s2 _ _ e, T.cl_KeptNumber, T.na_KeptNumber_worths, kf_worths _ _ _ _, _, rfl, w, _, _, _, rfl, rfl, .of (s2 _ _ hK.ws), atI_nat (ivs_at (wts_get kb)), ?_⟩
      refine ⟨_, e2, small_len ?_, same_own s2 hD, ?_⟩
      · rw [ivs_length, List.length_map, List.length_take]
        omega
      · rw [upd_same, List.take_add_one, hk, List.map_append, ivs_append]
        rfl
    · rintro H' ⟨s2, e2⟩
      rw [ivs_length, List.take_length, ivs_map] at e2
      refine ⟨D, _, rfl, .of e2, ?_⟩
      rw [sum_cast]
      exact q H' s2

/-! ### KeptNumber__end_now -/
def sp_KeptNumber__end_now (C : Addr) : Sp := fun vs H Q _ => ∃ (p w l : Addr) (b pw : Nat) (fs : List Nat), vs = [.ref p] ∧ KeptAt C H p w l b pw fs ∧ ∀ H' t A m, Same H H' → H t = none → H' t = some (.tup (ivs [A, m])) → EndAt b pw (val b fs) A m → Q (.ref t) H'
theorem ok_KeptNumber__end_now (T : Txt K mg) : FnOk P w K mg base CX0 5 T.f_KeptNumber__end_now T.fd_KeptNumber__end_now ["self"] (sp_KeptNumber__end_now T.k_KeptNumber) := by
  refine T.F_KeptNumber__end_now.ok sc_KeptNumber__end_now (fun vs H Q E h => ?_) (fun cdv A outer s H vs Q E hr h => ?_)
  · obtain ⟨_, _, _, _, _, _, rfl, _⟩ := h
    rfl
  · obtain ⟨p, w, l, b, pw, fs, rfl, hK, q⟩ := h
    obtain ⟨dx, e⟩ := hK.ins
    refine ⟨_, (pss_one (ps_ret (pe_call (ok_end_of T) hr (by rfl) T.g_end_of T.F_end_of.kp T.b_end_of .nil pass0 (pa_cons (pe_meth0 (pv 0) T.cl_KeptNumber T.me_KeptNumber__number_now (ok_KeptNumber__number_now T) (hr.mono (by decide)) T.b_KeptNumber__number_now .nil pass0) (pa_cons (pe_fld (pv 0) rfl) (pa_cons (pe_fld (pv 0) rfl) pa_nil)))))), ?_⟩
    refine ⟨_, rfl, p, dx, _, rfl, e, kf_no _ _ _ _ (by decide +kernel) (by decide +kernel) (by decide +kernel) (by decide +kernel), p, w, l, b, pw, fs, rfl, hK, ?_⟩
    refine ⟨_, rfl, p, _, dx, _, _, rfl, e, T.cl_KeptNumber, T.na_KeptNumber_base, kf_base _ _ _ _, _, rfl, p, _, dx, _, _, rfl, e, T.cl_KeptNumber, T.na_KeptNumber_power, kf_power _ _ _ _, ?_⟩
    exact ⟨_, b, pw, rfl, hK.ok, hK.good.val200 hK.ok.hb hK.ok.hb16, fun H' t A m s n e1 e2 => q H' t A m s n e1 e2⟩

/-! ### Desk__ask -/
def noK {K : PySem.W.Frag} {mg : Str → Option Value} (T : Txt K mg) (kd : Nat) : Addr := [T.k_NoAsk, T.k_NoPlace, T.k_NoFigure].getD kd T.k_NoAsk
def sp_Desk__ask {K : PySem.W.Frag} {mg : Str → Option Value} (T : Txt K mg) : Sp := fun vs H Q E => ∃ (p q w l : Addr) (b pw : Nat) (fs : List Nat) (line : Str) (ws : List Str), vs = [.ref p, .str line] ∧ DeskAt T.k_KeptNumber T.k_Desk H p q w l b pw fs ∧ Txt.split line " " = ws ∧ line.length ≤ 40 ∧
  ((∃ (b' pw' : Nat) (fs' : List Nat) (R : List V → Prop), Ask b pw fs ws b' pw' fs' R ∧ ∀ H' t q' w' l' r, DeskAt T.k_KeptNumber T.k_Desk H' p q' w' l' b' pw' fs' → Aft H H' p q w l q' w' l' → H t = none → R r → H' t = some (.lst r) → (Looks ws → Same H H' ∧ q' = q ∧ w' = w ∧ l' = l) → Q (.ref t) H') ∨
    ∃ kd, NAsk b fs ws kd ∧ ∀ H', Same H H' → E (.ref (noK T kd)) none H')
theorem ok_Desk__ask (T : Txt K mg) : FnOk P w K mg base (L2.CX P w) 6 T.f_Desk__ask T.fd_Desk__ask ["self", "line"] (sp_Desk__ask T) := by
  refine T.F_Desk__ask.okX sc_Desk__ask (fun vs H Q E h => ?_) (fun cdv A outer s H vs Q E hr h => ?_)
  · obtain ⟨_, _, _, _, _, _, _, _, _, rfl, _⟩ := h
    rfl
  · obtain ⟨p, q0, w, l, b, pw, fs, line, ws, rfl, hD0, hs, hl, alt⟩ := h
    refine ⟨_, (pss_cons (ps_match (pe_split (pv 1) pe_str) (pcs_cons rfl sc_Desk__ask.nd (.lit (.name (i := 2) ⟨rfl, .inl rfl, .inr rfl⟩ (.name (i := 3) ⟨rfl, .inl rfl, .inr rfl⟩ .nil))) (pss_one (ps_ret (pe_meth (pv 0) T.cl_Desk T.me_Desk__begin (ok_Desk__begin T) hr T.b_Desk__begin .nil pass0 (pa_cons (pv 2) (pa_cons (pv 3) pa_nil)))))
        (pcs_cons rfl sc_Desk__ask.nd (.lit (.name (i := 4) ⟨rfl, .inl rfl, .inr rfl⟩ .nil)) (pss_one (ps_ret (pe_methX (pv 0) T.cl_Desk T.me_Desk__put (ok_Desk__put T) (hr.mono (by decide)) T.b_Desk__put (fun σ => passAt (takes_of rfl rfl rfl rfl) σ) (pa_cons (pv 4) pa_nil))))
        (pcs_cons rfl sc_Desk__ask.nd (.lit .nil) (pss_one (ps_ret (pe_meth0 (pv 0) T.cl_Desk T.me_Desk__take_off (ok_Desk__take_off T) (hr.mono (by decide)) T.b_Desk__take_off .nil pass0)))
        (pcs_cons rfl sc_Desk__ask.nd (.lit (.name (i := 5) ⟨rfl, .inl rfl, .inr rfl⟩ (.name (i := 4) ⟨rfl, .inl rfl, .inr rfl⟩ .nil))) (pss_one (ps_ret (pe_methX (pv 0) T.cl_Desk T.me_Desk__change (ok_Desk__change T) (hr.mono (by decide)) T.b_Desk__change (fun σ => passAt (takes_of rfl rfl rfl rfl) σ) (pa_cons (pv 5) (pa_cons (pv 4) pa_nil)))))
        (pcs_cons rfl sc_Desk__ask.nd (.lit .nil) (pss_one (ps_ret (pe_lst (pa_cons (pe_meth (pv 0) T.cl_Desk T.me_Desk__shown (ok_Desk__shown T) (hr.mono (by decide)) T.b_Desk__shown .nil pass0 (pa_cons (pe_meth0 (pe_fld (pv 0) rfl) T.cl_KeptNumber T.me_KeptNumber__number_now (ok_KeptNumber__number_now T) (hr.mono (by decide)) T.b_KeptNumber__number_now .nil pass0) pa_nil)) pa_nil))))
        (pcs_cons rfl sc_Desk__ask.nd (.lit .nil) (pss_one (ps_ret (pe_lst (pa_cons (pe_meth (pv 0) T.cl_Desk T.me_Desk__shown (ok_Desk__shown T) (hr.mono (by decide)) T.b_Desk__shown .nil pass0 (pa_cons (pe_meth0 (pe_fld (pv 0) rfl) T.cl_KeptNumber T.me_KeptNumber__step_now (ok_KeptNumber__step_now T) (hr.mono (by decide)) T.b_KeptNumber__step_now .nil pass0) pa_nil)) pa_nil))))
        (pcs_cons rfl sc_Desk__ask.nd (.lit .nil) (pss_one (ps_ret (pe_lst (pa_cons (pe_meth (pv 0) T.cl_Desk T.me_Desk__end_row (ok_Desk__end_row T) (hr.mono (by decide)) T.b_Desk__end_row .nil pass0 (pa_cons (pe_meth0 (pe_fld (pv 0) rfl) T.cl_KeptNumber T.me_KeptNumber__end_now (ok_KeptNumber__end_now T) hr T.b_KeptNumber__end_now .nil pass0) pa_nil)) pa_nil))))
        (pcs_cons rfl sc_Desk__ask.nd (.lit .nil) (pss_one ps_never)
        (pcs_cons rfl sc_Desk__ask.nd (.lit .nil) (pss_one ps_never)
        (pcs_cons rfl sc_Desk__ask.nd (.lit .nil) (pss_one ps_never)
        (pcs_star rfl (pcs_cons rfl sc_Desk__ask.nd (.lit (.name (i := 8) ⟨rfl, .inl rfl, .inr rfl⟩ .nil)) (pss_one ps_never)
        (pcs_cons rfl sc_Desk__ask.nd (.lit (.name (i := 9) ⟨rfl, .inl rfl, .inr rfl⟩ .nil)) (pss_one ps_never)
        (pcs_cons rfl sc_Desk__ask.nd (.lit (.name (i := 10) ⟨rfl, .inl rfl, .inr rfl⟩ (.name (i := 11) ⟨rfl, .inl rfl, .inr rfl⟩ .nil))) (pss_one ps_never)
        pcs_nil)))))))))))))))
      (pss_one (ps_raise rfl (takes_of rfl rfl rfl rfl) (pmk_own PySem.F.excBase_ValueError T.xq_NoAsk T.gk_NoAsk T.I_NoAsk.kp (raises_own T.x_NoAsk.bx T.x_NoAsk.ty) rfl)))), ?_⟩
    refine ⟨_, rfl, ⟨_, rfl⟩, _, _, rfl, rfl, by decide +kernel, Nat.le_trans (Nat.add_le_add_right hl 2) (by decide), fun z hz => ?_⟩
    rw [hs]
    generalize g1 : upd H z _ = H1
    obtain ⟨s1, t1⟩ := new_of g1 hz
    refine ⟨z, ws, rfl, .of t1, ?_⟩
    have hD := hD0.same s1
    obtain ⟨dx, e⟩ := hD.ins
    obtain ⟨dy, e2⟩ := hD.kept.ins
    have ok := hD.kept.ok
    have no1 : ∀ {m : Str}, ¬ m = "base" → ¬ m = "power" → ¬ m = "number" → (df (b : Int) (pw : Int) q0).lookup m = none := fun h1 h2 h3 => df_no _ _ _ h1 h2 h3
    rcases alt with ⟨b', pw', fs', R, ask, q⟩ | ⟨kd, ask, er⟩
    · cases ask with
      | pair ok' =>
        refine tCase_hit (bs := [(2, tx b'), (3, tx pw')]) (by rw [mw_same]; rfl) ?_
        exact ⟨_, rfl, p, dx, _, rfl, e, no1 (by decide +kernel) (by decide +kernel) (by decide +kernel), _, rfl, _, rfl, p, q0, w, l, b, pw, b', pw', fs, rfl, hD, ok', fun H2 t q' w' l' D2 A2 ht et => q H2 t q' w' l' [] D2 (A2.pre s1) (s1.free ht) rfl et fun z => (noLook2 (by simp) z).elim⟩
      | @put f hf hl40 =>
        refine tCase_miss (mw_head (by decide +kernel)) (tCase_hit (bs := [(4, one (sg f))]) (by rw [mw_same]; rfl) ?_)
        exact ⟨_, rfl, p, dx, _, rfl, e, no1 (by decide +kernel) (by decide +kernel) (by decide +kernel), _, rfl, p, q0, w, l, b, pw, fs, one (sg f), rfl, hD, by show 1 ≤ 40; decide, .inl ⟨f, rfl, hf, hl40, fun H2 t l' D2 A2 ht et => q H2 t q0 w l' [] D2 (A2.pre s1) (s1.free ht) rfl et fun z => (noLook2 (by simp) z).elim⟩⟩
      | off =>
        refine tCase_miss (mw_head (by decide +kernel)) (tCase_miss (mw_head (by decide +kernel)) (tCase_hit (bs := []) (by rw [mw_same]; rfl) ?_))
        exact ⟨_, rfl, p, dx, _, rfl, e, no1 (by decide +kernel) (by decide +kernel) (by decide +kernel), p, q0, w, l, b, pw, fs, rfl, hD, fun H2 t l' D2 A2 ht et => q H2 t q0 w l' [] D2 (A2.pre s1) (s1.free ht) rfl et fun z => (noLookOff z).elim⟩
      | @set pl f hf hp hz0 =>
        refine tCase_miss (mw_head (by decide +kernel)) (tCase_miss (mw_head (by decide +kernel)) (tCase_miss (mw_head (by decide +kernel)) (tCase_hit (bs := [(5, tx pl), (4, one (sg f))]) (by rw [mw_same]; rfl) ?_)))
        exact ⟨_, rfl, p, dx, _, rfl, e, no1 (by decide +kernel) (by decide +kernel) (by decide +kernel), _, rfl, _, rfl, p, q0, w, l, b, pw, pl, f, fs, rfl, hD, hf, by have := hD.kept.good.len; omega, fun _ _ H2 t D2 A2 ht et => q H2 t q0 w l [] D2 (A2.pre s1) (s1.free ht) rfl et fun z => (noLook2 (by simp) z).elim, fun z => absurd hp z, fun _ z => absurd hz0 z⟩
      | «show» =>
        refine tCase_miss (mw_head (by decide +kernel)) (tCase_miss (mw_head (by decide +kernel)) (tCase_miss (mw_head (by decide +kernel)) (tCase_miss (mw_head (by decide +kernel)) (tCase_hit (bs := []) (by rw [mw_same]; rfl) ?_))))
        refine ⟨_, rfl, p, dx, _, rfl, e, no1 (by decide +kernel) (by decide +kernel) (by decide +kernel), _, rfl, p, _, dx, _, _, rfl, e, T.cl_Desk, T.na_Desk_number, df_at_number _ _ _, q0, dy, _, rfl, e2, kf_no _ _ _ _ (by decide +kernel) (by decide +kernel) (by decide +kernel) (by decide +kernel), q0, w, l, b, pw, fs, rfl, hD.kept, ?_⟩
        refine ⟨p, q0, w, l, b, pw, val b fs, fs, rfl, hD, hD.kept.v900, fun H2 s2 => ⟨by show 1 ≤ sizeLine; decide, fun t ht => ?_⟩⟩
        generalize g3 : upd H2 t _ = H3
        obtain ⟨s3, t3⟩ := new_of g3 ht
        exact q H3 t q0 w l _ (hD.same (s2.trans s3)) (.of (s1.trans (s2.trans s3))) ((s1.trans s2).free ht) rfl t3 fun _ => ⟨s1.trans (s2.trans s3), rfl, rfl, rfl⟩
      | step =>
        refine tCase_miss (mw_head (by decide +kernel)) (tCase_miss (mw_head (by decide +kernel)) (tCase_miss (mw_head (by decide +kernel)) (tCase_miss (mw_head (by decide +kernel)) (tCase_miss (mw_head (by decide +kernel)) (tCase_hit (bs := []) (by rw [mw_same]; rfl) ?_)))))
        refine ⟨_, rfl, p, dx, _, rfl, e, no1 (by decide +kernel) (by decide +kernel) (by decide +kernel), _, rfl, p, _, dx, _, _, rfl, e, T.cl_Desk, T.na_Desk_number, df_at_number _ _ _, q0, dy, _, rfl, e2, kf_no _ _ _ _ (by decide +kernel) (by decide +kernel) (by decide +kernel) (by decide +kernel), q0, w, l, b, pw, fs, rfl, hD.kept, fun Ha sa => ?_⟩
        have hDa := hD.same sa
        refine ⟨p, q0, w, l, b, pw, _, fs, rfl, hDa, hD.kept.s900, fun H2 s2 => ⟨by show 1 ≤ sizeLine; decide, fun t ht => ?_⟩⟩
        generalize g3 : upd H2 t _ = H3
        obtain ⟨s3, t3⟩ := new_of g3 ht
        exact q H3 t q0 w l _ (hDa.same (s2.trans s3)) (.of (s1.trans (sa.trans (s2.trans s3)))) ((s1.trans (sa.trans s2)).free ht) rfl t3 fun _ => ⟨s1.trans (sa.trans (s2.trans s3)), rfl, rfl, rfl⟩
      | ends =>
        refine tCase_miss (mw_head (by decide +kernel)) (tCase_miss (mw_head (by decide +kernel)) (tCase_miss (mw_head (by decide +kernel)) (tCase_miss (mw_head (by decide +kernel)) (tCase_miss (mw_head (by decide +kernel)) (tCase_miss (mw_head (by decide +kernel)) (tCase_hit (bs := []) (by rw [mw_same]; rfl) ?_))))))
        refine ⟨_, rfl, p, dx, _, rfl, e, no1 (by decide +kernel) (by decide +kernel) (by decide +kernel), _, rfl, p, _, dx, _, _, rfl, e, T.cl_Desk, T.na_Desk_number, df_at_number _ _ _, q0, dy, _, rfl, e2, kf_no _ _ _ _ (by decide +kernel) (by decide +kernel) (by decide +kernel) (by decide +kernel), q0, w, l, b, pw, fs, rfl, hD.kept, fun Ha te A m sa ne ee en => ?_⟩
        have hDa := hD.same sa
        have v200 := hD.kept.good.val200 ok.hb ok.hb16
        have lA := EndAt.le ok v200 en
        refine ⟨p, q0, w, l, te, b, pw, A, m, fs, rfl, hDa, ee, by omega, en.m900 ok v200, fun H2 s2 => ⟨by show 1 ≤ sizeLine; decide, fun t ht => ?_⟩⟩
        generalize g3 : upd H2 t _ = H3
        obtain ⟨s3, t3⟩ := new_of g3 ht
        exact q H3 t q0 w l _ (hDa.same (s2.trans s3)) (.of (s1.trans (sa.trans (s2.trans s3)))) ((s1.trans (sa.trans s2)).free ht) ⟨A, m, en, rfl⟩ t3 fun _ => ⟨s1.trans (sa.trans (s2.trans s3)), rfl, rfl, rfl⟩
    · cases ask with
      | @put word hw h =>
        refine tCase_miss (mw_head (by decide +kernel)) (tCase_hit (bs := [(4, word)]) (by rw [mw_same]; rfl) ?_)
        exact ⟨_, rfl, p, dx, _, rfl, e, no1 (by decide +kernel) (by decide +kernel) (by decide +kernel), _, rfl, p, q0, w, l, b, pw, fs, word, rfl, hD, hw, .inr ⟨h, er _ s1⟩⟩
      | none =>
        have m : ∀ {z : Str} {ps : List Pt}, ¬ ("put" : Str) = z → matchW (.inl z :: ps) [("put" : Str)] = none := fun h => mw_head h
        refine tCase_miss (m (by decide +kernel)) (tCase_miss (matchW_len (by show 2 ≠ 1; omega)) (tCase_miss (m (by decide +kernel)) (tCase_miss (m (by decide +kernel)) (tCase_miss (m (by decide +kernel)) (tCase_miss (m (by decide +kernel)) (tCase_miss (m (by decide +kernel)) (tCase_miss (m (by decide +kernel)) (tCase_miss (m (by decide +kernel)) (tCase_miss (m (by decide +kernel)) ?_)))))))))
        refine ⟨⟨_, _, rfl, by decide +kernel⟩, by show 1 ≤ 16000; decide, ?_⟩
        refine tCase_miss (m (by decide +kernel)) (tCase_miss (m (by decide +kernel)) (tCase_miss (m (by decide +kernel)) ?_))
        exact er _ s1
      | @place pl f hf hp h =>
        refine tCase_miss (mw_head (by decide +kernel)) (tCase_miss (mw_head (by decide +kernel)) (tCase_miss (mw_head (by decide +kernel)) (tCase_hit (bs := [(5, tx pl), (4, one (sg f))]) (by rw [mw_same]; rfl) ?_)))
        exact ⟨_, rfl, p, dx, _, rfl, e, no1 (by decide +kernel) (by decide +kernel) (by decide +kernel), _, rfl, _, rfl, p, q0, w, l, b, pw, pl, f, fs, rfl, hD, hf, hp, fun z => absurd z h, fun _ H2 s2 => er _ (s1.trans s2), fun z => absurd z h⟩
      | @fig pl f hf hp h hz0 =>
        refine tCase_miss (mw_head (by decide +kernel)) (tCase_miss (mw_head (by decide +kernel)) (tCase_miss (mw_head (by decide +kernel)) (tCase_hit (bs := [(5, tx pl), (4, one (sg f))]) (by rw [mw_same]; rfl) ?_)))
        exact ⟨_, rfl, p, dx, _, rfl, e, no1 (by decide +kernel) (by decide +kernel) (by decide +kernel), _, rfl, _, rfl, p, q0, w, l, b, pw, pl, f, fs, rfl, hD, hf, hp, fun _ z => absurd z hz0, fun z => absurd h z, fun _ _ H2 s2 => er _ (s1.trans s2)⟩

/-! ### _law_as_due -/
def sp__law_as_due {K : PySem.W.Frag} {mg : Str → Option Value} (T : Txt K mg) : Sp := fun vs H Q _ => ∃ (p q w l t a : Addr) (b pw : Nat) (fs : List Nat), vs = [.ref p, .ref a, .ref t] ∧ DeskAt T.k_KeptNumber T.k_Desk H p q w l b pw fs ∧ H a = some (.lst (ivs fs)) ∧ H t = some (.tup (ivs [b, pw])) ∧ ∀ H', Same H H' → Q (.bl true) H'
theorem ok__law_as_due (T : Txt K mg) : FnOk P w K mg base CX0 7 T.f__law_as_due T.fd__law_as_due ["desk", "row", "pair"] (sp__law_as_due T) := by
  refine T.F__law_as_due.ok sc__law_as_due (fun vs H Q E h => ?_) (fun cdv A outer s H vs Q E hr h => ?_)
  · obtain ⟨_, _, _, _, _, _, _, _, _, rfl, _⟩ := h
    rfl
  · obtain ⟨p, q0, w, l, t, a, b, pw, fs, rfl, hD, ea, et, q⟩ := h
    have ok := hD.kept.ok
    have hb := ok.hb
    have hb16 := ok.hb16
    have gd := hD.kept.good
    have v200 := gd.val200 hb hb16
    have fv := figs_val hb fs.length fs rfl hD.reads
    have h16 : ∀ f ∈ fs, f < 16 := fun f hf => Nat.lt_of_lt_of_le (gd.lt f hf) hb16
    have l40 := gd.len
    have s900 := hD.kept.s900
    have du0 : Due b pw fs "show" (txt fs) := by
      have := due_show (b := b) (pw := pw) (fs := fs)
      rw [fv] at this
      exact this
    refine ⟨_, (pss_cons (ps_asg (pv 2) (pg_tup rfl (pgs_cons (pg_name (i := 3) sc__law_as_due.nd rfl (Or.inl rfl)) (pgs_cons (pg_name (i := 4) sc__law_as_due.nd rfl (Or.inl rfl)) pgs_nil))))
      (pss_cons (ps_asg (pe_call (ok__law_end T) (hr.mono (by decide)) (by rfl) T.g__law_end T.F__law_end.kp T.b__law_end .nil pass0 (pa_cons (pv 1) (pa_cons (pv 3) (pa_cons (pv 4) pa_nil)))) (pg_tup rfl (pgs_cons (pg_name (i := 5) sc__law_as_due.nd rfl (Or.inl rfl)) (pgs_cons (pg_name (i := 6) sc__law_as_due.nd rfl (Or.inl rfl)) pgs_nil))))
      (pss_cons (ps_if (pt_cmpR (op_neD hr.units) (pe_methX (pv 0) T.cl_Desk T.me_Desk__ask (ok_Desk__ask T) hr T.b_Desk__ask (fun σ => passAt takes0 σ) (pa_cons pe_str pa_nil)) (pe_lst (pa_cons (pe_call (ok__law_text T) (hr.mono (by decide)) (by rfl) T.g__law_text T.F__law_text.kp T.b__law_text .nil pass0 (pa_cons (pv 1) pa_nil)) pa_nil)) (nomark _)) (pss_one (ps_ret pe_bl)) pss_nil)
      (pss_cons (ps_if (pt_cmpR (op_neD hr.units) (pe_methX (pv 0) T.cl_Desk T.me_Desk__ask (ok_Desk__ask T) hr T.b_Desk__ask (fun σ => passAt takes0 σ) (pa_cons pe_str pa_nil)) (pe_lst (pa_cons (pe_call (ok__law_text T) (hr.mono (by decide)) (by rfl) T.g__law_text T.F__law_text.kp T.b__law_text .nil pass0 (pa_cons (pe_call (ok__law_figures T) (hr.mono (by decide)) (by rfl) T.g__law_figures T.F__law_figures.kp T.b__law_figures .nil pass0 (pa_cons (pe_call (ok__law_step T) (hr.mono (by decide)) (by rfl) T.g__law_step T.F__law_step.kp T.b__law_step .nil pass0 (pa_cons (pv 1) (pa_cons (pv 4) pa_nil))) (pa_cons (pv 3) pa_nil))) pa_nil)) pa_nil)) (nomark _)) (pss_one (ps_ret pe_bl)) pss_nil)
      (pss_one (ps_ret (pe_cmpR (op_eqD hr.units) (pe_methX (pv 0) T.cl_Desk T.me_Desk__ask (ok_Desk__ask T) hr T.b_Desk__ask (fun σ => passAt takes0 σ) (pa_cons pe_str pa_nil)) (pe_lst (pa_cons (pe_op op_add_str (pe_joined (.cons (pe_fmt (pv 5)) (.cons pe_str .nil))) (pe_call (ok__law_text T) (hr.mono (by decide)) (by rfl) T.g__law_text T.F__law_text.kp T.b__law_text .nil pass0 (pa_cons (pe_call (ok__law_figures T) (hr.mono (by decide)) (by rfl) T.g__law_figures T.F__law_figures.kp T.b__law_figures .nil pass0 (pa_cons (pv 6) (pa_cons (pv 3) pa_nil))) pa_nil))) pa_nil)) (nomark _)))))))), ?_⟩
    refine ⟨_, rfl, t, _, rfl, .of et, rfl, _, _, rfl, _, _, rfl, rfl, ?_⟩
    refine ⟨_, rfl, _, rfl, _, rfl, a, fs, b, pw, rfl, ea, ok, gd, fun H1 te A m s1 n1 ee en => ⟨te, _, rfl, .of ee, rfl, _, _, rfl, _, _, rfl, rfl, ?_⟩⟩
    have lA := EndAt.le ok v200 en
    have m9 := en.m900 ok v200
    have D1 := hD.same s1
    -- show
    obtain ⟨dx, e1⟩ := D1.ins
    obtain ⟨ws0, R0, hsp0, hl0, lk0, ak0, hR0, so0⟩ := du0
    refine ⟨_, rfl, p, dx, _, rfl, e1, df_no _ _ _ (by decide +kernel) (by decide +kernel) (by decide +kernel), p, q0, w, l, b, pw, fs, "show", ws0, rfl, D1, hsp0, hl0, .inl ⟨b, pw, fs, R0, ak0, fun H2 t2 q2 w2 l2 r D2 A2 nt2 hr e2 sm => ?_⟩⟩
    obtain ⟨s2, rfl, rfl, rfl⟩ := sm lk0
    obtain rfl := hR0 _ hr
    refine ⟨_, rfl, a, fs, rfl, (s1.trans s2) _ _ ea, h16, by omega, fun H3 s3 => ⟨by show 1 ≤ sizeLine; decide, fun z hz => ?_⟩⟩
    generalize g4 : upd H3 z _ = H4
    obtain ⟨s4, t4⟩ := new_of g4 hz
    refine ⟨_, _, dpS (s4 _ _ (s3 _ _ e2)), dpS t4, shapedS so0, shapedS so0, false, congrArg V.bl (by rw [eqv_same (shapedS so0)]; rfl), iteF ?_⟩
    have s04 := s1.trans (s2.trans (s3.trans s4))
    have D4 := hD.same s04
    -- step
    obtain ⟨dx4, e4⟩ := D4.ins
    obtain ⟨ws1, R1, hsp1, hl1, lk1, ak1, hR1, so1⟩ := due_step (b := b) (pw := pw) (fs := fs)
    refine ⟨_, rfl, p, dx4, _, rfl, e4, df_no _ _ _ (by decide +kernel) (by decide +kernel) (by decide +kernel), p, q2, w2, l2, b, pw, fs, "step", ws1, rfl, D4, hsp1, hl1, .inl ⟨b, pw, fs, R1, ak1, fun H5 t5 q5 w5 l5 r D5 A5 nt5 hr e5 sm => ?_⟩⟩
    obtain ⟨s5, rfl, rfl, rfl⟩ := sm lk1
    obtain rfl := hR1 _ hr
    refine ⟨_, rfl, _, rfl, a, fs, pw, rfl, (s04.trans s5) _ _ ea, h16, by omega, ok.hp, fun H6 s6 => ?_⟩
    refine ⟨_, rfl, (fs.map (· ^ pw)).sum, b, rfl, hb, hb16, s900, fun H7 G s7 nG eG => ?_⟩
    refine ⟨G, figs b (fs.map (· ^ pw)).sum, rfl, eG, fun f hf => Nat.lt_of_lt_of_le (figs_below hb hf) hb16, figs_le hb s900, fun H8 s8 => ⟨by show 1 ≤ sizeLine; decide, fun z9 hz9 => ?_⟩⟩
    generalize g9 : upd H8 z9 _ = H9
    obtain ⟨s9, t9⟩ := new_of g9 hz9
    refine ⟨_, _, dpS (s9 _ _ (s8 _ _ (s7 _ _ (s6 _ _ e5)))), dpS t9, shapedS so1, shapedS so1, false, congrArg V.bl (by rw [eqv_same (shapedS so1)]; rfl), iteF ?_⟩
    have s09 := s04.trans (s5.trans (s6.trans (s7.trans (s8.trans s9))))
    have D9 := hD.same s09
    -- ends
    obtain ⟨dx9, e9⟩ := D9.ins
    obtain ⟨ws2, R2, hsp2, hl2, lk2, ak2, hR2, so2⟩ := due_ends en
    refine ⟨_, rfl, p, dx9, _, rfl, e9, df_no _ _ _ (by decide +kernel) (by decide +kernel) (by decide +kernel), p, q5, w5, l5, b, pw, fs, "ends", ws2, rfl, D9, hsp2, hl2, .inl ⟨b, pw, fs, R2, ak2, fun Ha ta qa wa la r Da Aa nta hr eta sm => ?_⟩⟩
    obtain ⟨sa, rfl, rfl, rfl⟩ := sm lk2
    obtain rfl := hR2 _ hr
    have e0 : Str.length Str.empty = 0 := rfl
    have e2' : Str.length (" " : Str) = 1 := by decide +kernel
    have zs : (200000 : Nat) ≤ sizeLine := by decide
    have le := end_len (A := A) (by omega)
    have lf := figs_txt_len hb m9
    have lg : ((A : Nat) : Int).natAbs.log2 < 1920 := by
      show A.log2 < 1920
      by_cases z : A = 0
      · rw [z]; decide
      · exact Nat.lt_of_lt_of_le ((Nat.log2_lt z).mpr (show A < 2 ^ 14 by omega)) (by decide)
    refine ⟨_, rfl, .inr ⟨(A : Int), rfl, lg, _, rfl, by rw [str_len]; omega, _, rfl, by rw [str_len, str_len]; omega, ?_⟩⟩
    refine ⟨_, rfl, _, rfl, m, b, rfl, hb, hb16, m9, fun Hb G2 sb nG2 eG2 => ?_⟩
    refine ⟨G2, figs b m, rfl, eG2, fun f hf => Nat.lt_of_lt_of_le (figs_below hb hf) hb16, figs_le hb m9, fun Hc sc => ⟨_, _, rfl, rfl, by rw [str_len, str_len]; omega, by show 1 ≤ sizeLine; decide, fun zd hzd => ?_⟩⟩
    generalize gd9 : upd Hc zd _ = Hd
    obtain ⟨sd, td⟩ := new_of gd9 hzd
    refine ⟨_, _, dpS (sd _ _ (sc _ _ (sb _ _ eta))), dpS td, shapedS so2, shapedS so2, ?_⟩
    show Q (V.bl (PyData.eqv _ _)) _
    rw [eqv_same (shapedS so2)]
    exact q _ (s09.trans (sa.trans (sb.trans (sc.trans sd))))

/-! ### _law_kind -/
/-- what a kept refusal of the desk's is -/
structure Kd39 {K : PySem.W.Frag} {mg : Str → Option Value} (T : Txt K mg) (C : Addr) (a p f : Bool) : Prop where
  ins : XIns K C
  exc : ExcC K C
  ask : PySem.W.subIn K (.ref C) (.ref T.k_NoAsk) = some a
  plc : PySem.W.subIn K (.ref C) (.ref T.k_NoPlace) = some p
  fig : PySem.W.subIn K (.ref C) (.ref T.k_NoFigure) = some f
  num : PySem.W.subIn K (.ref C) (.ref T.k_NoNumber) = some false
  rnd : PySem.W.subIn K (.ref C) (.ref T.k_NoRound) = some false
  err : PySem.W.subIn K (.ref C) (.ref T.k_FigureError) = some true
theorem kd39 {K : PySem.W.Frag} {mg : Str → Option Value} (T : Txt K mg) {b : Nat} {fs : List Nat} {ws : List Str} {kd : Nat} (n : NAsk b fs ws kd) : ∃ a p f, Kd39 T (noK T kd) a p f ∧ ((kd = 0 ∧ a = true ∧ p = false ∧ f = false) ∨ (kd = 1 ∧ a = false ∧ p = true ∧ f = false) ∨ (kd = 2 ∧ a = false ∧ p = false ∧ f = true)) := by
  have k0 : Kd39 T T.k_NoAsk true false false := ⟨T.I_NoAsk, T.I_NoAsk.exc T.x_NoAsk, T.s_NoAsk_NoAsk, T.s_NoAsk_NoPlace, T.s_NoAsk_NoFigure, T.s_NoAsk_NoNumber, T.s_NoAsk_NoRound, T.s_NoAsk_FigureError⟩
  have k1 : Kd39 T T.k_NoPlace false true false := ⟨T.I_NoPlace, T.I_NoPlace.exc T.x_NoPlace, T.s_NoPlace_NoAsk, T.s_NoPlace_NoPlace, T.s_NoPlace_NoFigure, T.s_NoPlace_NoNumber, T.s_NoPlace_NoRound, T.s_NoPlace_FigureError⟩
  have k2 : Kd39 T T.k_NoFigure false false true := ⟨T.I_NoFigure, T.I_NoFigure.exc T.x_NoFigure, T.s_NoFigure_NoAsk, T.s_NoFigure_NoPlace, T.s_NoFigure_NoFigure, T.s_NoFigure_NoNumber, T.s_NoFigure_NoRound, T.s_NoFigure_FigureError⟩
  cases n with
  | put => exact ⟨_, _, _, k0, .inl ⟨rfl, rfl, rfl, rfl⟩⟩
  | none => exact ⟨_, _, _, k0, .inl ⟨rfl, rfl, rfl, rfl⟩⟩
  | place => exact ⟨_, _, _, k1, .inr (.inl ⟨rfl, rfl, rfl, rfl⟩)⟩
  | fig => exact ⟨_, _, _, k2, .inr (.inr ⟨rfl, rfl, rfl, rfl⟩)⟩
def kw (kd : Nat) : Str := [("ask" : Str), "place", "figure"].getD kd "ask"
theorem kd_none39 (H : Hp) : KD H none := fun x z => nomatch z
def sp__law_kind {K : PySem.W.Frag} {mg : Str → Option Value} (T : Txt K mg) : Sp := fun vs H Q _ => ∃ (p q w l : Addr) (b pw : Nat) (fs : List Nat) (line : Str) (ws : List Str) (kd : Nat), vs = [.ref p, .str line] ∧ DeskAt T.k_KeptNumber T.k_Desk H p q w l b pw fs ∧ Txt.split line " " = ws ∧ line.length ≤ 40 ∧ NAsk b fs ws kd ∧ ∀ H', Same H H' → Q (.str (kw kd)) H'
theorem ok__law_kind (T : Txt K mg) : FnOk P w K mg base CX0 7 T.f__law_kind T.fd__law_kind ["desk", "line"] (sp__law_kind T) := by
  refine T.F__law_kind.ok sc__law_kind (fun vs H Q E h => ?_) (fun cdv A outer s H vs Q E hr h => ?_)
  · obtain ⟨_, _, _, _, _, _, _, _, _, _, rfl, _⟩ := h
    rfl
  · obtain ⟨p, q0, w, l, b, pw, fs, line, ws, kd, rfl, hD, hs, hl, nk, q⟩ := h
    obtain ⟨dx, e⟩ := hD.ins
    refine ⟨_, (pss_cons (ps_set (i := 2) sc__law_kind.nd rfl (Or.inl rfl) pe_non)
      (pss_cons (ps_try_kept (i := 3) (tb := fun W => (tDrop (tMethX T.k_Desk "ask" (sp_Desk__ask T) (WE W) (tVar 0) (tCons (tVar 1) tNil)))) (ts := fun _ _ _ => (tAsg (tVar 3) (gName 2))) (Wout := fun _ _ _ _ => False) rfl rfl rfl sc__law_kind.nd rfl rfl ⟨by rfl, by decide, .inl T.gk_FigureError⟩ takes0
      (fun W pn xe tk _ => (pss_one (ps_expr (pe_methX (pv 0) T.cl_Desk T.me_Desk__ask (ok_Desk__ask T) hr T.b_Desk__ask (fun σ => passAt tk σ) (pa_cons (pv 1) pa_nil)))))
      (fun a oe cls d pn hz hf => (pss_one (ps_set (i := 2) sc__law_kind.nd rfl (Or.inl rfl) (pv 3)))))
      (pss_cons (ps_if (PW.pt (pw_or (pt_cmpR op_isN (pv 2) pe_non (nomark _)) (pw_or (pt_not (pt_val (pe_callB (id := "isinstance") call_isK (by rfl) T.m_isinstance (by decide +kernel) (pa_cons (pv 2) (pa_cons (pe_bltn (v := .ty "ValueError") (by rfl) T.m_ValueError (by decide +kernel) rfl) pa_nil))))) (pw_or1 (pt_val (pe_callB (id := "isinstance") call_isKT (by rfl) T.m_isinstance (by decide +kernel) (pa_cons (pv 2) (pa_cons (pe_tup (pa_cons (pe_glob (v := .ref T.k_NoNumber) (by rfl) T.gk_NoNumber rfl) (pa_cons (pe_glob (v := .ref T.k_NoRound) (by rfl) T.gk_NoRound rfl) pa_nil))) pa_nil)))))))) (pss_one (ps_ret pe_str)) pss_nil)
      (pss_cons (ps_set (i := 4) sc__law_kind.nd rfl (Or.inl rfl) (pe_lst (pa_cons (pe_callB (id := "isinstance") call_isK (by rfl) T.m_isinstance (by decide +kernel) (pa_cons (pv 2) (pa_cons (pe_glob (v := .ref T.k_NoAsk) (by rfl) T.gk_NoAsk rfl) pa_nil))) (pa_cons (pe_callB (id := "isinstance") call_isK (by rfl) T.m_isinstance (by decide +kernel) (pa_cons (pv 2) (pa_cons (pe_glob (v := .ref T.k_NoPlace) (by rfl) T.gk_NoPlace rfl) pa_nil))) (pa_cons (pe_callB (id := "isinstance") call_isK (by rfl) T.m_isinstance (by decide +kernel) (pa_cons (pv 2) (pa_cons (pe_glob (v := .ref T.k_NoFigure) (by rfl) T.gk_NoFigure rfl) pa_nil))) pa_nil)))))
      (pss_one (ps_ret (pe_ifExp (pt_cmpR op_eq (pe_bm PySem.F.plainAttrs_list PySem.F.slot_list_count PySem.F.type_list_count mt_countB (pv 4) (pa_cons pe_bl pa_nil)) pe_int (nomark _)) (pe_ix ix_list (pe_lst (pa_cons pe_str (pa_cons pe_str (pa_cons pe_str pa_nil)))) (pe_bm PySem.F.plainAttrs_list PySem.F.slot_list_index PySem.F.type_list_index mt_index (pv 4) (pa_cons pe_bl pa_nil)) (fun _ _ => rfl)) pe_str))))))), ?_⟩
    refine ⟨_, rfl, p, dx, _, rfl, e, df_no _ _ _ (by decide +kernel) (by decide +kernel) (by decide +kernel), _, rfl, p, q0, w, l, b, pw, fs, line, ws, rfl, hD, hs, hl, .inr ⟨kd, nk, fun H1 s1 => ?_⟩⟩
    obtain ⟨ba, bp, bf, KI, alt⟩ := kd39 T nk
    have me := KI.ins.me
    refine ⟨true, exm_own T.x_FigureError KI.err, fun _ a ha => ?_, fun z => nomatch z⟩
    refine ⟨_, rfl, fun hn => ?_⟩
    generalize g3 : upd H1 a _ = H3
    obtain ⟨s3, t3⟩ := new_of g3 hn
    have kx := kx_held t3
    refine ⟨_, rfl, rfl, false, by rw [decide_eq_false (show ¬ (V.ref a = V.non) from fun z => nomatch z)], iteF ?_⟩
    refine ⟨_, rfl, a, noK T kd, none, _, _, _, rfl, .ty _, kx, kd_none39 _, KI.exc, kit_VE KI.ins.ve, true, rfl, iteF ?_⟩
    refine ⟨_, rfl, by show 2 ≤ sizeLine; decide, fun tt ht => ?_⟩
    generalize g4 : upd H3 tt _ = H4
    obtain ⟨s4, t4⟩ := new_of g4 ht
    have kx4 := kx.same (s4 a)
    refine ⟨a, noK T kd, tt, none, _, _, false, rfl, t4, .cons (.own _) (.cons (.own _) .nil), kx4, kd_none39 _, KI.exc, kitAny_cons (kit_own T.x_NoNumber me KI.num) (fun _ => kitAny_cons (kit_own T.x_NoRound me KI.rnd) (fun _ => rfl) (fun z => nomatch z)) (fun z => nomatch z), false, rfl, ?_⟩
    refine iteF ?_
    refine ⟨_, rfl, a, noK T kd, none, _, _, _, rfl, .own _, kx4, kd_none39 _, KI.exc, kit_own T.x_NoAsk me KI.ask, ?_⟩
    refine ⟨_, rfl, a, noK T kd, none, _, _, _, rfl, .own _, kx4, kd_none39 _, KI.exc, kit_own T.x_NoPlace me KI.plc, ?_⟩
    refine ⟨_, rfl, a, noK T kd, none, _, _, _, rfl, .own _, kx4, kd_none39 _, KI.exc, kit_own T.x_NoFigure me KI.fig, ?_⟩
    refine ⟨by show 3 ≤ sizeLine; decide, fun k hk => ?_⟩
    generalize g5 : upd H4 k _ = H5
    obtain ⟨s5, t5⟩ := new_of g5 hk
    have e5 : H5 k = some (.lst ([ba, bp, bf].map V.bl)) := t5
    refine ⟨_, rfl, .inl ⟨rfl, _, .of e5⟩, k, [ba, bp, bf], true, rfl, rfl, .of e5, rfl, _, rfl, ite2 (fun e => ?_) (fun z => ?_)⟩
    · refine ⟨by show 3 ≤ sizeLine; decide, fun l2 hl2 => ?_⟩
      generalize g6 : upd H5 l2 _ = H6
      obtain ⟨s6, t6⟩ := new_of g6 hl2
      have e6 := s6 _ _ t5
      have sAll := s1.trans (s3.trans (s4.trans (s5.trans s6)))
      rcases alt with ⟨rfl, rfl, rfl, rfl⟩ | ⟨rfl, rfl, rfl, rfl⟩ | ⟨rfl, rfl, rfl, rfl⟩
      · refine ⟨_, rfl, .inl ⟨rfl, _, .of e6⟩, k, _, _, 0, _, rfl, rfl, .of e6, rfl, rfl, rfl, rfl, fun j z hj hz => by omega, ?_⟩
        exact ⟨l2, _, _, _, rfl, rfl, .of t6, rfl, q _ sAll⟩
      · refine ⟨_, rfl, .inl ⟨rfl, _, .of e6⟩, k, _, _, 1, _, rfl, rfl, .of e6, rfl, rfl, rfl, rfl, fun j z hj hz => ?_, ?_⟩
        · match j, hz with
          | 0, hz => cases hz; rfl
          | n + 1, _ => omega
        · exact ⟨l2, _, _, _, rfl, rfl, .of t6, rfl, q _ sAll⟩
      · refine ⟨_, rfl, .inl ⟨rfl, _, .of e6⟩, k, _, _, 2, _, rfl, rfl, .of e6, rfl, rfl, rfl, rfl, fun j z hj hz => ?_, ?_⟩
        · match j, hz with
          | 0, hz => cases hz; rfl
          | 1, hz => cases hz; rfl
          | n + 2, _ => omega
        · exact ⟨l2, _, _, _, rfl, rfl, .of t6, rfl, q _ sAll⟩
    · exfalso
      revert z
      rcases alt with ⟨_, rfl, rfl, rfl⟩ | ⟨_, rfl, rfl, rfl⟩ | ⟨_, rfl, rfl, rfl⟩ <;> decide

/-! ### _law_put -/
def sp__law_put {K : PySem.W.Frag} {mg : Str → Option Value} (T : Txt K mg) : Sp := fun vs H Q _ => ∃ (H0 : Hp) (d p q w l t : Addr) (b pw : Nat), vs = [.ref d, .ref p, .ref t] ∧ Ck T.k_KeptNumber T.k_Desk H0 H d p q w l t b pw [0] ∧
  ∀ H' a q' w' l' fs, Ck T.k_KeptNumber T.k_Desk H0 H' d p q' w' l' t b pw fs → fs.length = 40 → Rw H' p q' w' l' d a fs → Q (.ref a) H'
def W__law_put (C D : Addr) (H0 : Hp) (d p t : Addr) (b pw : Nat) (way : Int) (i : Nat) (σ' : L2.St) (H' : Hp) : Prop := ∃ (a q w l : Addr) (row fs : List Nat) (y5 y6 : Option V), Ck C D H0 H' d p q w l t b pw fs ∧ Rw H' p q w l d a row ∧ row.length = i ∧
  ((i = 0 ∧ fs = [0]) ∨ (0 < i ∧ fs = row ∧ fs ≠ [0])) ∧ σ' = [some (.ref d), some (.ref p), some (.ref t), some (.int way), some (.ref a), y5, y6]
theorem ok__law_put (T : Txt K mg) : FnOk P w K mg base CX0 8 T.f__law_put T.fd__law_put ["seed", "desk", "pair"] (sp__law_put T) := by
  refine T.F__law_put.ok sc__law_put (fun vs H Q E h => ?_) (fun cdv A outer s H vs Q E hr h => ?_)
  · obtain ⟨_, _, _, _, _, _, _, _, _, rfl, _⟩ := h
    rfl
  · obtain ⟨H0, d, p, q0, w, l, t, b, pw, rfl, hC, q⟩ := h
    have ok := hC.dk.kept.ok
    have hb := ok.hb
    have hb16 := ok.hb16
    have e4 : Str.length ("put " : Str) = 4 := by decide +kernel
    refine ⟨_, (pss_cons (ps_set (i := 3) sc__law_put.nd rfl (Or.inl rfl) (pe_call (ok__law_draw T) (hr.mono (by decide)) (by rfl) T.g__law_draw T.F__law_draw.kp T.b__law_draw .nil pass0 (pa_cons (pv 0) (pa_cons pe_int pa_nil))))
      (pss_cons (ps_set (i := 4) sc__law_put.nd rfl (Or.inl rfl) (pe_lst pa_nil))
      (pss_cons (ps_for PassesOwn.never rfl (pi_range1 (by rfl) T.m_range (pa_cons pe_int pa_nil)) (pg_name (i := 5) sc__law_put.nd rfl (Or.inl rfl)) (pss_cons (ps_set (i := 6) sc__law_put.nd rfl (Or.inl rfl) (pe_ix ix_list (pe_lst (pa_cons (pe_call (ok__law_draw T) (hr.mono (by decide)) (by rfl) T.g__law_draw T.F__law_draw.kp T.b__law_draw .nil pass0 (pa_cons (pv 0) (pa_cons (pe_ix ix_tup (pv 2) pe_int (fun _ _ => rfl)) pa_nil))) (pa_cons (pe_op op_sub (pe_ix ix_tup (pv 2) pe_int (fun _ _ => rfl)) pe_int) (pa_cons (pe_callTy (T := "int") call_int1 (by rfl) T.m_int (by decide +kernel) (pa_cons (pe_cmpR op_eq (pv 5) pe_int (nomark _)) pa_nil)) pa_nil)))) (pv 3) (fun _ _ => rfl)))
      (C8.pss_cut (ps_if (pt_cmpR op_eq (pv 5) pe_int (nomark _)) (pss_one (ps_set (i := 6) sc__law_put.nd rfl (Or.inl rfl) (pe_callB (id := "max") (call_max2 rfl) (by rfl) T.m_max (by decide +kernel) (pa_cons pe_int (pa_cons (pv 6) pa_nil))))) pss_nil)
      (pss_cons (ps_set (i := 4) sc__law_put.nd rfl (Or.inl rfl) (pe_op op_cat (pv 4) (pe_lst (pa_cons (pv 6) pa_nil))))
      (pss_cons (ps_if (pt_cmpR (op_neD hr.units) (pe_methX (pv 1) T.cl_Desk T.me_Desk__ask (ok_Desk__ask T) (hr.mono (by decide)) T.b_Desk__ask (fun σ => passAt takes0 σ) (pa_cons (pe_op op_add_str pe_str (pe_call (ok__law_text T) (hr.mono (by decide)) (by rfl) T.g__law_text T.F__law_text.kp T.b__law_text .nil pass0 (pa_cons (pe_lst (pa_cons (pv 6) pa_nil)) pa_nil))) pa_nil)) (pe_lst pa_nil) (nomark _)) (pss_one (ps_ret (pe_lst pa_nil))) pss_nil)
      (pss_one (ps_if (PW.pt (pw_and (pt_cmpR op_eq (pe_call (ok__law_draw T) (hr.mono (by decide)) (by rfl) T.g__law_draw T.F__law_draw.kp T.b__law_draw .nil pass0 (pa_cons (pv 0) (pa_cons pe_int pa_nil))) pe_int (nomark _)) (pw_and1 (pt_not (pt_val (pe_call (ok__law_as_due T) hr (by rfl) T.g__law_as_due T.F__law_as_due.kp T.b__law_as_due .nil pass0 (pa_cons (pv 1) (pa_cons (pv 4) (pa_cons (pv 2) pa_nil))))))))) (pss_one (ps_ret (pe_lst pa_nil))) pss_nil)))))))
      (pss_one (ps_ret (pv 4)))))), ?_⟩
    refine ⟨_, rfl, d, 3, rfl, hC.sd, by decide, by decide, fun H1 way b1 S1 u1 v1 => ?_⟩
    have C1 := hC.but b1 S1
    refine ⟨Nat.zero_le _, fun a0 ha0 => ?_⟩
    generalize g2 : upd H1 a0 _ = H2
    obtain ⟨s2, t2⟩ := new_of g2 ha0
    refine ⟨40, rfl, by decide, by decide, for_range (lo := 0) (n := 40) (fun i σ' H' => W__law_put T.k_KeptNumber T.k_Desk H0 d p t b pw way i σ' H') ⟨a0, q0, w, l, [], [0], none, none, C1.same s2, C1.row ha0 t2, rfl, .inl ⟨rfl, rfl⟩, rfl⟩ ?_ ?_⟩
    · rintro i σ' Ha hi ⟨a, q1, w1, l1, row, fs, y5, y6, k, r, hr, alt, rfl⟩
      refine ⟨_, rfl, _, rfl, t, _, 0, _, rfl, rfl, .of k.pr, atI_nat (j := 0) rfl, d, (b : Int), rfl, k.sd, by omega, by omega, fun Hb x bb Sb u3 v3 => ?_⟩
      have kb := k.but bb Sb
      have rb := r.but bb
      refine ⟨_, rfl, t, _, 0, _, rfl, rfl, .of kb.pr, atI_nat (j := 0) rfl, _, _, rfl, rfl, ?_⟩
      refine ⟨_, rfl, rfl, .inr ⟨_, rfl, by show 3 ≤ sizeLine; decide, fun z hz => ?_⟩⟩
      generalize g3 : upd Hb z _ = Hc
      obtain ⟨sc, tz⟩ := new_of g3 hz
      obtain ⟨f, hf, ef⟩ : ∃ f : Nat, f < b ∧ atI [V.int x, V.int ((b : Int) - 1), V.int (if decide (V.int ((0 : Int) + (i : Int)) = V.int 0) = true then 1 else 0)] way = some (V.int (f : Int)) := by
        have c3 : way = 0 ∨ way = 1 ∨ way = 2 := by omega
        rcases c3 with rfl | rfl | rfl
        · exact ⟨x.toNat, by omega, by rw [show ((x.toNat : Nat) : Int) = x by omega]; rfl⟩
        · exact ⟨b - 1, by omega, by rw [show ((b - 1 : Nat) : Int) = (b : Int) - 1 by omega]; rfl⟩
        · by_cases c : decide (V.int ((0 : Int) + (i : Int)) = V.int 0) = true
          · exact ⟨1, by omega, by rw [if_pos c]; rfl⟩
          · exact ⟨0, by omega, by rw [if_neg c]; rfl⟩
      refine ⟨_, rfl, z, _, _, _, rfl, rfl, .of tz, ef, ?_⟩
      have kc := kb.same sc
      have rc := rb.same sc
      refine ⟨fun σ' H' => H' = Hc ∧ ∃ f' : Nat, f' < b ∧ (i = 0 → f' ≠ 0) ∧ σ' = [some (.ref d), some (.ref p), some (.ref t), some (.int way), some (.ref a), some (.int (0 + (i : Int))), some (.int (f' : Int))], ?_, ?_⟩
      · refine ⟨_, rfl, rfl, _, rfl, ite2 (fun c => ?_) (fun c => ?_)⟩
        · refine ⟨_, rfl, _, _, rfl, rfl, max 1 f, by omega, fun _ => by omega, ?_⟩
          by_cases c1 : (f : Int) > 1
          · rw [show max 1 f = f by omega]
            show _ = [_, _, _, _, _, _, some (V.int (f : Int))]
            rw [if_pos c1]
            rfl
          · rw [show max 1 f = 1 by omega]
            show _ = [_, _, _, _, _, _, some (V.int 1)]
            rw [if_neg c1]
            rfl
        · refine ⟨rfl, f, hf, fun z0 => absurd (decide_eq_true ?_) c, rfl⟩
          rw [z0]
          rfl
      rintro σ' H' ⟨rfl, f', hf', fz, rfl⟩
      -- the row, one longer
      refine ⟨_, rfl, _, rfl, by show 1 ≤ sizeLine; decide, fun z1 hz1 => ?_⟩
      generalize g4 : upd _ z1 _ = Hd
      obtain ⟨sd, td⟩ := new_of g4 hz1
      refine ⟨a, z1, _, _, rfl, rfl, sd _ _ rc.ea, td, ?_, fun a2 ha2 => ?_⟩
      · rw [ivs_length]
        exact Nat.le_of_lt (small1000 (by show row.length + 1 ≤ 1000; omega))
      rw [show ([V.int (f' : Int)] : List V) = ivs [f'] from rfl, ← ivs_append]
      generalize g5 : upd Hd a2 _ = He
      obtain ⟨se, te⟩ := new_of g5 ha2
      have ke := kc.same (sd.trans se)
      have r2 : Rw He p q1 w1 l1 d a2 (row ++ [f']) := (kc.same sd).row ha2 te
      -- asked
      obtain ⟨dx, ex⟩ := ke.dk.ins
      refine ⟨_, rfl, p, dx, _, rfl, ex, df_no _ _ _ (by decide +kernel) (by decide +kernel) (by decide +kernel), ?_⟩
      refine ⟨_, rfl, by show 1 ≤ sizeLine; decide, fun z3 hz3 => ?_⟩
      generalize g6 : upd He z3 _ = Hf
      obtain ⟨sf, tf⟩ := new_of g6 hz3
      refine ⟨z3, [f'], rfl, tf, fun g hg => by cases List.mem_singleton.mp hg; omega, by show 1 ≤ 900; decide, fun Hg sg' => ?_⟩
      refine ⟨_, _, rfl, rfl, ?_, ?_⟩
      · rw [e4, txt_len]
        exact Nat.le_of_lt (small1000 (by show 4 + 1 ≤ 1000; decide))
      have sfg := sf.trans sg'
      have kg := ke.same sfg
      have rg := r2.same sfg
      have hlen : fs.length < 40 := by
        rcases alt with ⟨_, rfl⟩ | ⟨_, rfl, _⟩
        · show 1 < 40
          omega
        · omega
      refine ⟨p, q1, w1, l1, b, pw, fs, putLine f', _, rfl, kg.dk, split_put (by omega), len_put (by omega), .inl ⟨b, pw, putFs fs f', _, .put hf' hlen, fun Hh t1 q' w' l' rr D2 A2 nt hrr e1 _ => ?_⟩⟩
      obtain rfl : rr = [] := hrr
      have kh := kg.ask D2 A2
      have rh := rg.ask A2
      refine ⟨Nat.zero_le _, fun z5 hz5 => ?_⟩
      generalize g7 : upd Hh z5 _ = Hi
      obtain ⟨si, ti⟩ := new_of g7 hz5
      refine ⟨_, _, .lst (.of (si _ _ e1)) (dpAll_ivs []), .lst (.of ti) (dpAll_ivs []), shaped_ints _, shaped_ints _, false, congrArg V.bl (by rw [eqv_same (shaped_ints _)]; rfl), iteF ?_⟩
      have ki := kh.same si
      have ri := rh.same si
      have alt2 : (i + 1 = 0 ∧ putFs fs f' = [0]) ∨ (0 < i + 1 ∧ putFs fs f' = row ++ [f'] ∧ putFs fs f' ≠ [0]) := by
        refine .inr ⟨by omega, ?_⟩
        unfold putFs
        rcases alt with ⟨z0, rfl⟩ | ⟨z0, rfl, nz⟩
        · obtain rfl : row = [] := List.length_eq_zero_iff.mp (by omega)
          rw [if_pos rfl]
          refine ⟨rfl, fun z => fz z0 ?_⟩
          injection z
        · rw [if_neg nz]
          refine ⟨rfl, fun z => ?_⟩
          have := congrArg List.length z
          rw [List.length_append] at this
          have h1 : ([f'] : List Nat).length = 1 := rfl
          have h0 : ([0] : List Nat).length = 1 := rfl
          omega
      have hr2 : (row ++ [f']).length = i + 1 := by
        rw [List.length_append, hr]
        rfl
      refine ⟨_, rfl, d, 6, rfl, ki.sd, by decide, by decide, fun Hj x6 bj Sj u6 v6 => ⟨rfl, _, rfl, ite2 (fun c => ?_) (fun c => ?_)⟩⟩
      · have kj := ki.but bj Sj
        have rj := ri.but bj
        refine ⟨_, rfl, _, rfl, _, rfl, p, q', w', l', t, a2, b, pw, putFs fs f', rfl, kj.dk, ?_, kj.pr, fun Hk sk => ⟨true, rfl, iteF ?_⟩⟩
        · rcases alt2 with ⟨z, _⟩ | ⟨_, e, _⟩
          · cases z
          · rw [e]
            exact rj.ea
        · exact ⟨a2, q', w', l', row ++ [f'], putFs fs f', _, _, kj.same sk, rj.same sk, hr2, alt2, rfl⟩
      · exact ⟨a2, q', w', l', row ++ [f'], putFs fs f', _, _, ki.but bj Sj, ri.but bj, hr2, alt2, rfl⟩
    · rintro σ' Ha ⟨a, q1, w1, l1, row, fs, y5, y6, k, r, hr, alt, rfl⟩
      rcases alt with ⟨z, _⟩ | ⟨_, rfl, _⟩
      · cases z
      · exact ⟨_, rfl, q _ _ _ _ _ _ k hr r⟩

/-! ### _law_full_right -/
def sp__law_full_right {K : PySem.W.Frag} {mg : Str → Option Value} (T : Txt K mg) : Sp := fun vs H Q _ => ∃ (H0 : Hp) (d p q w l t a : Addr) (b pw : Nat) (fs : List Nat), vs = [.ref d, .ref p, .ref a, .ref t] ∧ Ck T.k_KeptNumber T.k_Desk H0 H d p q w l t b pw fs ∧ Rw H p q w l d a fs ∧ fs.length = 40 ∧ ∀ H', Same H0 H' → Q (.bl true) H'
def W__law_full_right (C D : Addr) (H0 : Hp) (d p t z7 : Addr) (b pw xn : Nat) (σ' : L2.St) (H' : Hp) : Prop := ∃ (a q w l : Addr) (fs : List Nat) (y4 y5 y6 : Option V), Ck C D H0 H' d p q w l t b pw fs ∧ Rw H' p q w l d a fs ∧ Rw H' p q w l d z7 [39, xn, 0] ∧ fs.length = 40 ∧
  σ' = [some (.ref d), some (.ref p), some (.ref a), some (.ref t), y4, y5, y6]
theorem ok__law_full_right (T : Txt K mg) : FnOk P w K mg base CX0 8 T.f__law_full_right T.fd__law_full_right ["seed", "desk", "row", "pair"] (sp__law_full_right T) := by
  refine T.F__law_full_right.ok sc__law_full_right (fun vs H Q E h => ?_) (fun cdv A outer s H vs Q E hr h => ?_)
  · obtain ⟨_, _, _, _, _, _, _, _, _, _, _, rfl, _⟩ := h
    rfl
  · obtain ⟨H0, d, p, q0, w, l, t, a, b, pw, fs, rfl, hC, hR, h40, q⟩ := h
    have ok := hC.dk.kept.ok
    have hb := ok.hb
    have hb16 := ok.hb16
    have big : ∀ {n : Nat}, n ≤ 1000 → n ≤ sizeLine := fun h => Nat.le_of_lt (small1000 h)
    have e0 : Str.length Str.empty = 0 := rfl
    have e2 : Str.length (" " : Str) = 1 := by decide +kernel
    have e3 : Str.length ("set " : Str) = 4 := by decide +kernel
    have e5 : ∀ n, Str.length (tx n) ≤ 2 := fun n => by rw [txt_len]; exact decs_len
    have lg : ∀ n : Nat, n < 40 → ((n : Nat) : Int).natAbs.log2 < 1920 := fun n h => by
      show n.log2 < 1920
      by_cases z : n = 0
      · rw [z]; decide
      · exact (Nat.log2_lt z).mpr (Nat.lt_trans (Nat.lt_trans h (show 40 < 2 ^ 6 by decide)) (Nat.pow_lt_pow_right (by decide) (by decide)))
    refine ⟨_, (pss_cons (ps_for PassesOwn.never rfl (pi_list (pe_lst (pa_cons pe_str (pa_cons pe_str (pa_cons pe_str (pa_cons pe_str (pa_cons pe_str (pa_cons pe_str pa_nil)))))))) (pg_name (i := 4) sc__law_full_right.nd rfl (Or.inl rfl)) (pss_one (ps_if (pt_cmpR op_ne (pe_call (ok__law_kind T) hr (by rfl) T.g__law_kind T.F__law_kind.kp T.b__law_kind .nil pass0 (pa_cons (pv 1) (pa_cons (pv 4) pa_nil))) pe_str (nomark _)) (pss_one (ps_ret pe_bl)) pss_nil)))
      (pss_cons (ps_if (PW.pt (pw_or (pt_cmpR op_ne (pe_call (ok__law_kind T) hr (by rfl) T.g__law_kind T.F__law_kind.kp T.b__law_kind .nil pass0 (pa_cons (pv 1) (pa_cons pe_str pa_nil))) pe_str (nomark _)) (pw_or1 (pt_cmpR op_ne (pe_call (ok__law_kind T) hr (by rfl) T.g__law_kind T.F__law_kind.kp T.b__law_kind .nil pass0 (pa_cons (pv 1) (pa_cons pe_str pa_nil))) pe_str (nomark _))))) (pss_one (ps_ret pe_bl)) pss_nil)
      (pss_cons (ps_if (pt_not (pt_val (pe_call (ok__law_as_due T) hr (by rfl) T.g__law_as_due T.F__law_as_due.kp T.b__law_as_due .nil pass0 (pa_cons (pv 1) (pa_cons (pv 2) (pa_cons (pv 3) pa_nil)))))) (pss_one (ps_ret pe_bl)) pss_nil)
      (pss_cons (ps_for PassesOwn.never rfl (pi_list (pe_lst (pa_cons pe_int (pa_cons (pe_call (ok__law_draw T) (hr.mono (by decide)) (by rfl) T.g__law_draw T.F__law_draw.kp T.b__law_draw .nil pass0 (pa_cons (pv 0) (pa_cons pe_int pa_nil))) (pa_cons pe_int pa_nil))))) (pg_name (i := 5) sc__law_full_right.nd rfl (Or.inl rfl)) (pss_cons (ps_set (i := 6) sc__law_full_right.nd rfl (Or.inl rfl) (pe_callB (id := "max") (call_max2 rfl) (by rfl) T.m_max (by decide +kernel) (pa_cons (pe_callTy (T := "int") call_int1 (by rfl) T.m_int (by decide +kernel) (pa_cons (pe_cmpR op_eq (pv 5) pe_int (nomark _)) pa_nil)) (pa_cons (pe_call (ok__law_draw T) (hr.mono (by decide)) (by rfl) T.g__law_draw T.F__law_draw.kp T.b__law_draw .nil pass0 (pa_cons (pv 0) (pa_cons (pe_ix ix_tup (pv 3) pe_int (fun _ _ => rfl)) pa_nil))) pa_nil))))
      (pss_cons (ps_set (i := 2) sc__law_full_right.nd rfl (Or.inl rfl) (pe_op op_cat (pe_op op_cat (pe_slice sl_list (pv 2) po_none (po_some (pe_op op_sub pe_int (pv 5)))) (pe_lst (pa_cons (pv 6) pa_nil))) (pe_slice sl_list (pv 2) (po_some (pe_op op_sub pe_int (pv 5))) po_none)))
      (pss_one (ps_if (PW.pt (pw_or (pt_cmpR (op_neD hr.units) (pe_methX (pv 1) T.cl_Desk T.me_Desk__ask (ok_Desk__ask T) (hr.mono (by decide)) T.b_Desk__ask (fun σ => passAt takes0 σ) (pa_cons (pe_op op_add_str (pe_joined (.cons pe_str (.cons (pe_fmt (pv 5)) (.cons pe_str .nil)))) (pe_call (ok__law_text T) (hr.mono (by decide)) (by rfl) T.g__law_text T.F__law_text.kp T.b__law_text .nil pass0 (pa_cons (pe_lst (pa_cons (pv 6) pa_nil)) pa_nil))) pa_nil)) (pe_lst pa_nil) (nomark _)) (pw_or1 (pt_not (pt_val (pe_call (ok__law_as_due T) hr (by rfl) T.g__law_as_due T.F__law_as_due.kp T.b__law_as_due .nil pass0 (pa_cons (pv 1) (pa_cons (pv 2) (pa_cons (pv 3) pa_nil))))))))) (pss_one (ps_ret pe_bl)) pss_nil)))))
      (pss_cons (ps_if (PW.pt (pw_or (pt_cmpR (op_neD hr.units) (pe_methX (pv 1) T.cl_Desk T.me_Desk__ask (ok_Desk__ask T) (hr.mono (by decide)) T.b_Desk__ask (fun σ => passAt takes0 σ) (pa_cons pe_str pa_nil)) (pe_lst pa_nil) (nomark _)) (pw_or (pt_not (pt_val (pe_call (ok__law_as_due T) hr (by rfl) T.g__law_as_due T.F__law_as_due.kp T.b__law_as_due .nil pass0 (pa_cons (pv 1) (pa_cons (pe_slice sl_list (pv 2) po_none (po_some pe_int)) (pa_cons (pv 3) pa_nil)))))) (pw_or1 (pt_cmpR (op_neD hr.units) (pe_methX (pv 1) T.cl_Desk T.me_Desk__ask (ok_Desk__ask T) (hr.mono (by decide)) T.b_Desk__ask (fun σ => passAt takes0 σ) (pa_cons pe_str pa_nil)) (pe_lst pa_nil) (nomark _)))))) (pss_one (ps_ret pe_bl)) pss_nil)
      (pss_one (ps_ret (pe_and (pe_cmpR op_eq (pe_call (ok__law_kind T) hr (by rfl) T.g__law_kind T.F__law_kind.kp T.b__law_kind .nil pass0 (pa_cons (pv 1) (pa_cons pe_str pa_nil))) pe_str (nomark _)) (pe_one (pe_call (ok__law_as_due T) hr (by rfl) T.g__law_as_due T.F__law_as_due.kp T.b__law_as_due .nil pass0 (pa_cons (pv 1) (pa_cons (pe_op op_cat (pe_slice sl_list (pv 2) po_none (po_some pe_int)) (pe_lst (pa_cons pe_int pa_nil))) (pa_cons (pv 3) pa_nil))))))))))))), ?_⟩
    -- nothing more is put
    refine ⟨by show 6 ≤ sizeLine; decide, fun z hz => ?_⟩
    generalize g1 : upd H z _ = H1
    obtain ⟨s1, t1⟩ := new_of g1 hz
    have C1 := hC.same s1
    have R1 := hR.same s1
    refine ⟨z, rfl, ⟨_, .of t1⟩, for_list (xs := [V.str "put 0", V.str "put 1", V.str "put z", V.str "put Z", V.str "put 11", V.str "put"]) (fun i σ' H' => Same H1 H' ∧ ∃ y, σ' = [some (.ref d), some (.ref p), some (.ref a), some (.ref t), y, none, none]) ⟨Same.refl _, none, rfl⟩ ?_ ?_ ?_⟩
    · rintro i σ' H' hi ⟨s, _⟩
      exact .of (s _ _ t1)
    · rintro i v σ' H' hv ⟨s, y, rfl⟩
      obtain ⟨line, rfl, ws, hsp, hl, nk⟩ := nline6 v (List.mem_of_getElem? hv)
      have kk := C1.same s
      refine ⟨_, rfl, _, rfl, p, q0, w, l, b, pw, fs, line, ws, 0, rfl, kk.dk, hsp, hl, nk b fs (by omega), fun H2 s2 => ⟨rfl, false, by rw [decide_eq_true (show V.str (kw 0) = V.str "ask" from rfl)]; rfl, iteF ?_⟩⟩
      exact ⟨s.trans s2, _, rfl⟩
    rintro σ' H2 ⟨s2, y, rfl⟩
    have C2 := C1.same s2
    -- a place, a figure
    refine ⟨_, rfl, p, q0, w, l, b, pw, fs, "set 40 1", _, 1, rfl, C2.dk, split_40, by decide +kernel, .place (by omega) (by decide) (by omega), fun H3 s3 => ⟨rfl, false, by rw [decide_eq_true (show V.str (kw 1) = V.str "place" from rfl)]; rfl, iteF ?_⟩⟩
    have C3 := C2.same s3
    refine ⟨_, rfl, p, q0, w, l, b, pw, fs, "set 39 0", _, 2, rfl, C3.dk, split_39, by decide +kernel, .fig (by omega) (by decide) (by omega) (fun z => by have := z rfl (by omega); omega), fun H4 s4 => ⟨rfl, false, by rw [decide_eq_true (show V.str (kw 2) = V.str "figure" from rfl)]; rfl, iteF ?_⟩⟩
    have C4 := C3.same s4
    have R4 := ((R1.same s2).same s3).same s4
    refine ⟨_, rfl, _, rfl, _, rfl, p, q0, w, l, t, a, b, pw, fs, rfl, C4.dk, R4.ea, C4.pr, fun H5 s5 => ⟨true, rfl, iteF ?_⟩⟩
    have C5 := C4.same s5
    have R5 := R4.same s5
    -- places
    refine ⟨_, rfl, d, 40, rfl, C5.sd, by decide, by decide, fun H6 x b6 S6 u6 v6 => ⟨by show 3 ≤ sizeLine; decide, fun z7 hz7 => ?_⟩⟩
    obtain ⟨xn, rfl⟩ : ∃ xn : Nat, x = (xn : Int) := ⟨x.toNat, by omega⟩
    have C6 := C5.but b6 S6
    have R6 := R5.but b6
    generalize g7 : upd H6 z7 _ = H7
    obtain ⟨s7, t7⟩ := new_of g7 hz7
    have P7 : ∀ v ∈ ivs [39, xn, 0], ∃ pl : Nat, pl < 40 ∧ v = V.int (pl : Int) := fun v hv => by
      obtain ⟨pl, hpl, rfl⟩ := List.mem_map.mp hv
      refine ⟨pl, ?_, rfl⟩
      simp only [List.mem_cons, List.not_mem_nil, or_false] at hpl
      omega
    have Z7 : Rw H7 p q0 w l d z7 [39, xn, 0] := C6.row hz7 t7
    refine ⟨z7, rfl, ⟨_, .of t7⟩, for_list (xs := ivs [39, xn, 0]) (fun i σ' H' => W__law_full_right T.k_KeptNumber T.k_Desk H0 d p t z7 b pw xn σ' H') ⟨a, q0, w, l, fs, _, _, _, C6.same s7, R6.same s7, Z7, h40, rfl⟩ ?_ ?_ ?_⟩
    · rintro i σ' H' hi ⟨_, _, _, _, _, _, _, _, _, _, Zr, _⟩
      exact .of Zr.ea
    · rintro i v σ' Ha hv ⟨a, q1, w1, l1, fs, y4, y5, y6, k, r, Zr, h40, rfl⟩
      obtain ⟨pl, hpl, rfl⟩ := P7 v (List.mem_of_getElem? hv)
      refine ⟨_, rfl, rfl, .inr ⟨_, rfl, _, rfl, _, rfl, t, _, 0, _, rfl, rfl, .of k.pr, atI_nat (j := 0) rfl, d, (b : Int), rfl, k.sd, by omega, by omega, fun Hb x bb Sb u3 v3 => ⟨_, _, rfl, ?_⟩⟩⟩
      obtain ⟨f, hf, fz, ef⟩ : ∃ f : Nat, f < b ∧ (pl = 39 → f ≠ 0) ∧ (if x > (if decide (V.int (pl : Int) = V.int 39) = true then 1 else 0) then x else (if decide (V.int (pl : Int) = V.int 39) = true then (1 : Int) else 0)) = (f : Int) := by
        by_cases c : pl = 39
        · rw [decide_eq_true (show V.int (pl : Int) = V.int 39 by rw [c]; rfl), if_pos rfl]
          by_cases c2 : x > 1
          · rw [if_pos c2]
            exact ⟨x.toNat, by omega, fun _ => by omega, by omega⟩
          · rw [if_neg c2]
            exact ⟨1, by omega, fun _ => by decide, rfl⟩
        · rw [decide_eq_false (show ¬ (V.int (pl : Int) = V.int 39) from fun z => c (by injection z with z; omega))]
          simp only [Bool.false_eq_true, if_false]
          by_cases c2 : x > 0
          · rw [if_pos c2]
            exact ⟨x.toNat, by omega, fun z => absurd z c, by omega⟩
          · rw [if_neg c2]
            exact ⟨0, by omega, fun z => absurd z c, rfl⟩
      rw [ef]
      have kb := k.but bb Sb
      have rb := r.but bb
      have zb := Zr.but bb
      -- the row
      have c39 : (39 : Int) - (pl : Int) = ((39 - pl : Nat) : Int) := by omega
      have c40 : (40 : Int) - (pl : Int) = ((39 - pl + 1 : Nat) : Int) := by omega
      refine ⟨_, rfl, _, rfl, _, _, rfl, rfl, _, rfl, a, _, rfl, .of rb.ea, fun D1 hD1 => ?_⟩
      rw [show (some ((39 : Int) - (pl : Int))) = some ((39 - pl : Nat) : Int) by rw [c39], cut_ivs_to]
      generalize g8 : upd Hb D1 _ = Hc
      obtain ⟨sc, tc⟩ := new_of g8 hD1
      refine ⟨_, rfl, by show 1 ≤ sizeLine; decide, fun D2 hD2 => ?_⟩
      generalize g9 : upd Hc D2 _ = Hd
      obtain ⟨sd, td⟩ := new_of g9 hD2
      refine ⟨D1, D2, _, _, rfl, rfl, sd _ _ tc, td, ?_, fun D3 hD3 => ?_⟩
      · rw [ivs_length, List.length_take]
        exact big (by show min (39 - pl) fs.length + 1 ≤ 1000; omega)
      rw [show ([V.int (f : Int)] : List V) = ivs [f] from rfl, ← ivs_append]
      generalize g10 : upd Hd D3 _ = He
      obtain ⟨se, te⟩ := new_of g10 hD3
      have sbe := sc.trans (sd.trans se)
      refine ⟨_, rfl, _, rfl, _, _, rfl, rfl, _, rfl, a, _, rfl, .of (sbe _ _ rb.ea), fun D4 hD4 => ?_⟩
      rw [show (some ((40 : Int) - (pl : Int))) = some ((39 - pl + 1 : Nat) : Int) by rw [c40], cut_ivs_from]
      generalize g11 : upd He D4 _ = Hf
      obtain ⟨sf, tf⟩ := new_of g11 hD4
      refine ⟨D3, D4, _, _, rfl, rfl, sf _ _ te, tf, ?_, fun a2 ha2 => ?_⟩
      · rw [ivs_length, ivs_length, List.length_append, List.length_take, List.length_drop]
        exact big (by show min (39 - pl) fs.length + 1 + (fs.length - (39 - pl + 1)) ≤ 1000; omega)
      rw [← ivs_append, cut_set fs (39 - pl) f (by omega)]
      generalize g12 : upd Hf a2 _ = Hg
      obtain ⟨sg1, tg⟩ := new_of g12 ha2
      have kf' := kb.same (sbe.trans sf)
      have kg := kf'.same sg1
      have rg : Rw Hg p q1 w1 l1 d a2 (fs.set (39 - pl) f) := kf'.row ha2 tg
      have zg := (zb.same (sbe.trans sf)).same sg1
      -- asked
      obtain ⟨dx, ex⟩ := kg.dk.ins
      have z1 := e5 pl
      refine ⟨_, rfl, p, dx, _, rfl, ex, df_no _ _ _ (by decide +kernel) (by decide +kernel) (by decide +kernel), ?_⟩
      refine ⟨_, rfl, by refine big ?_; simp only [str_len]; omega, _, rfl, .inr ⟨(pl : Int), rfl, lg _ hpl, tx pl, congrArg V.str (decs_show hpl), by refine big ?_; simp only [str_len]; omega, _, rfl, by refine big ?_; simp only [str_len]; omega, ?_⟩⟩
      refine ⟨_, rfl, by show 1 ≤ sizeLine; decide, fun D5 hD5 => ?_⟩
      generalize g13 : upd Hg D5 _ = Hh
      obtain ⟨sh, th⟩ := new_of g13 hD5
      refine ⟨D5, [f], rfl, th, fun g hg => by cases List.mem_singleton.mp hg; omega, by show 1 ≤ 900; decide, fun Hi si => ?_⟩
      refine ⟨_, _, rfl, rfl, ?_, ?_⟩
      · refine big ?_
        simp only [str_len, txt_len]
        show _ + 1 ≤ 1000
        rw [txt_len] at z1
        omega
      have sgi := sh.trans si
      have ki := kg.same sgi
      have hset : fs.length - 1 - pl = 39 - pl := by omega
      have Dset := ki.dk
      refine ⟨p, q1, w1, l1, b, pw, fs, setLine pl f, _, rfl, ki.dk, split_set hpl (by omega), len_set hpl (by omega), .inl ⟨b, pw, _, _, .set hf (by omega) (fun zf zp => absurd zf (fz (by omega))), fun Hj t1 q' w' l' rr D2' A2 nt hrr e1 _ => ?_⟩⟩
      obtain rfl : rr = [] := hrr
      rw [hset] at D2'
      have kj := ki.ask D2' A2
      have rj := (rg.same sgi).ask A2
      have zj := (zg.same sgi).ask A2
      refine ⟨Nat.zero_le _, fun D6 hD6 => ?_⟩
      generalize g14 : upd Hj D6 _ = Hk
      obtain ⟨sk, tk⟩ := new_of g14 hD6
      refine ⟨_, _, .lst (.of (sk _ _ e1)) (dpAll_ivs []), .lst (.of tk) (dpAll_ivs []), shaped_ints _, shaped_ints _, false, congrArg V.bl (by rw [eqv_same (shaped_ints _)]; rfl), iteF ?_⟩
      have kk := kj.same sk
      have rk := rj.same sk
      have zk := zj.same sk
      refine ⟨_, rfl, _, rfl, _, rfl, p, q', w', l', t, a2, b, pw, _, rfl, kk.dk, rk.ea, kk.pr, fun Hl sl => ⟨true, rfl, iteF ?_⟩⟩
      exact ⟨a2, q', w', l', _, _, _, _, kk.same sl, rk.same sl, zk.same sl, by rw [List.length_set]; exact h40, rfl⟩
    · rintro σ' Ha ⟨a, q1, w1, l1, fs, y4, y5, y6, k, r, Zr, h40, rfl⟩
      -- one off
      obtain ⟨dx, ex⟩ := k.dk.ins
      refine ⟨_, rfl, p, dx, _, rfl, ex, df_no _ _ _ (by decide +kernel) (by decide +kernel) (by decide +kernel), p, q1, w1, l1, b, pw, fs, "off", _, rfl, k.dk, split_off, by decide +kernel, .inl ⟨b, pw, _, _, .off, fun Hb t1 q2 w2 l2 rr D2 A2 nt hrr e1 _ => ?_⟩⟩
      obtain rfl : rr = [] := hrr
      have kb := k.ask D2 A2
      have rb := r.ask A2
      refine ⟨Nat.zero_le _, fun D6 hD6 => ?_⟩
      generalize g14 : upd Hb D6 _ = Hc
      obtain ⟨sc, tc⟩ := new_of g14 hD6
      refine ⟨_, _, .lst (.of (sc _ _ e1)) (dpAll_ivs []), .lst (.of tc) (dpAll_ivs []), shaped_ints _, shaped_ints _, false, congrArg V.bl (by rw [eqv_same (shaped_ints _)]; rfl), iteF ?_⟩
      have kc := kb.same sc
      have rc := rb.same sc
      rw [off_40 h40] at kc
      refine ⟨_, rfl, _, rfl, _, rfl, a, _, rfl, .of rc.ea, fun D7 hD7 => ?_⟩
      rw [show (some (39 : Int)) = some ((39 : Nat) : Int) from rfl, cut_ivs_to]
      generalize g15 : upd Hc D7 _ = Hd
      obtain ⟨sd, td⟩ := new_of g15 hD7
      have kd := kc.same sd
      have rd := rc.same sd
      refine ⟨_, rfl, p, q2, w2, l2, t, D7, b, pw, _, rfl, kd.dk, td, kd.pr, fun He se => ⟨true, rfl, iteF ?_⟩⟩
      have ke := kd.same se
      have re := rd.same se
      obtain ⟨dy, ey⟩ := ke.dk.ins
      refine ⟨_, rfl, p, dy, _, rfl, ey, df_no _ _ _ (by decide +kernel) (by decide +kernel) (by decide +kernel), p, q2, w2, l2, b, pw, _, "put 1", _, rfl, ke.dk, split_put1, by decide +kernel, .inl ⟨b, pw, _, _, .put (f := 1) (by omega) (by rw [List.length_take]; omega), fun Hf t3 q3 w3 l3 rr D3 A3 nt3 hrr e3' _ => ?_⟩⟩
      obtain rfl : rr = [] := hrr
      have kf' := ke.ask D3 A3
      have rf' := re.ask A3
      rw [put_39 h40] at kf'
      refine ⟨Nat.zero_le _, fun D8 hD8 => ?_⟩
      generalize g16 : upd Hf D8 _ = Hg
      obtain ⟨sg1, tg⟩ := new_of g16 hD8
      refine ⟨_, _, .lst (.of (sg1 _ _ e3')) (dpAll_ivs []), .lst (.of tg) (dpAll_ivs []), shaped_ints _, shaped_ints _, false, congrArg V.bl (by rw [eqv_same (shaped_ints _)]; rfl), iteF ?_⟩
      have kg := kf'.same sg1
      have rg := rf'.same sg1
      have l40 : (fs.take 39 ++ [1]).length = 40 := by
        rw [List.length_append, List.length_take]
        show min 39 fs.length + 1 = 40
        omega
      refine ⟨_, rfl, p, q3, w3, l3, b, pw, _, "put 1", _, 0, rfl, kg.dk, split_put1, by decide +kernel, .put (by decide +kernel) (.inr (by omega)), fun Hh sh => ?_⟩
      refine ⟨rfl, true, congrArg V.bl (decide_eq_true rfl), iteT ?_⟩
      have kh := kg.same sh
      have rh := rg.same sh
      refine ⟨_, rfl, _, rfl, _, rfl, a, _, rfl, .of rh.ea, fun D9 hD9 => ?_⟩
      rw [show (some (39 : Int)) = some ((39 : Nat) : Int) from rfl, cut_ivs_to]
      generalize g17 : upd Hh D9 _ = Hi
      obtain ⟨si, ti⟩ := new_of g17 hD9
      refine ⟨by show 1 ≤ sizeLine; decide, fun Da hDa => ?_⟩
      generalize g18 : upd Hi Da _ = Hj
      obtain ⟨sj, tj⟩ := new_of g18 hDa
      refine ⟨D9, Da, _, _, rfl, rfl, sj _ _ ti, tj, ?_, fun Db hDb => ?_⟩
      · rw [ivs_length, List.length_take]
        exact big (by show min 39 fs.length + 1 ≤ 1000; omega)
      rw [show ([V.int 1] : List V) = ivs [1] from rfl, ← ivs_append]
      generalize g19 : upd Hj Db _ = Hk
      obtain ⟨sk, tk⟩ := new_of g19 hDb
      have kk := kh.same (si.trans (sj.trans sk))
      exact ⟨_, rfl, p, q3, w3, l3, t, Db, b, pw, _, rfl, kk.dk, tk, kk.pr, fun Hl sl => q _ (kk.sm.trans sl)⟩

/-! ### Desk__init -/
def sp_Desk__init (C : Addr) (D : Addr) : Sp := fun vs H Q _ => ∃ (p dx : Addr), vs = [.ref p] ∧ H p = some (.ins D dx []) ∧ ∀ H' q w l, DeskAt C D H' p q w l 10 2 [0] → Frm [p] H H' → H q = none → H l = none → H w = none → Q .non H'
theorem ok_Desk__init (T : Txt K mg) : FnOk P w K mg base CX0 5 T.f_Desk__init T.fd_Desk__init ["self"] (sp_Desk__init T.k_KeptNumber T.k_Desk) := by
  refine T.F_Desk__init.ok sc_Desk__init (fun vs H Q E h => ?_) (fun cdv A outer s H vs Q E hr h => ?_)
  · obtain ⟨_, _, rfl, _⟩ := h
    rfl
  · obtain ⟨p, dx, rfl, e, q⟩ := h
    refine ⟨_, (pss_cons (ps_fld (pv 0) pe_int rfl)
      (pss_cons (ps_fld (pv 0) pe_int rfl)
      (pss_one (ps_fld (pv 0) (pe_make T.M_KeptNumber (ok_KeptNumber__init T) hr (by rfl) T.gk_KeptNumber T.b_KeptNumber__init .nil pass0 (pa_cons pe_int (pa_cons pe_int pa_nil))) rfl)))), ?_⟩
    refine ⟨_, rfl, p, _, dx, _, rfl, e, T.cl_Desk, T.na_Desk_base, by show 0 < 1000; decide, ?_⟩
    generalize g1 : upd H p _ = H1
    obtain ⟨b1, t1⟩ := set_of g1
    refine ⟨_, rfl, p, _, dx, _, rfl, t1, T.cl_Desk, T.na_Desk_power, by show 1 < 1000; decide, ?_⟩
    generalize g2 : upd H1 p _ = H2
    obtain ⟨b2, t2⟩ := set_of g2
    refine fun x dy hx hdy ne => ⟨x, dy, 10, 2, rfl, upd_same, ok_10_2, fun H3 w l K3 nw nl F3 => ⟨rfl, ?_⟩⟩
    obtain ⟨s3, n1, n2⟩ := made hx hdy ne K3 nw nl F3
    have px : p ≠ x := ne_of_none t2 hx
    have t3 := s3 _ _ t2
    refine ⟨_, rfl, p, _, dx, _, rfl, t3, T.cl_Desk, T.na_Desk_number, kf2_len _ _, ?_⟩
    generalize g4 : upd H3 p _ = H4
    obtain ⟨b4, t4⟩ := set_of g4
    rw [df_put] at t4
    have K4 : KeptAt T.k_KeptNumber H4 x w l 10 2 [0] := K3.frm (Frm.but b4 ⟨_, t4⟩) (by simpa using px.symm) (by simpa using (ne_of_none t2 n1).symm) (by simpa using (ne_of_none t2 n2).symm)
    have F02 : Frm [p] H H2 := (Frm.but b1 ⟨_, t1⟩).trans (Frm.but b2 ⟨_, t2⟩)
    have F04 : Frm [p] H H4 := F02.trans ((Frm.of _ s3).trans (Frm.but b4 ⟨_, t4⟩))
    exact q H4 x w l ⟨⟨dx, t4⟩, K4, px, Reads.of0 (by decide)⟩ F04 (F02.fr _ hx) (F02.fr _ n2) (F02.fr _ n1)

/-! ### law -/
def sp_law (K : PySem.W.Frag) : Sp := fun vs H Q _ => ∃ (a : Addr) (ns : List Int), vs = [.ref a] ∧ SqL K H a (ns.map V.int) ∧ ns.length ≤ 63 ∧ ∀ H', Q (.bl true) H'
theorem law_start {K : PySem.W.Frag} {H : Hp} {a : Addr} {ns : List Int} {E : XK} (hl : ns.length ≤ 63) (hS : SqL K H a (ns.map V.int)) : sp_law K [.ref a] H (fun v _ => v = .bl true) E := ⟨a, ns, rfl, hS, hl, fun _ => rfl⟩
theorem ok_law (T : Txt K mg) : FnOk P w K mg base CX0 9 T.f_law T.fd_law ["script"] (sp_law K) := by
  refine T.F_law.ok sc_law (fun vs H Q E h => ?_) (fun cdv A outer s H vs Q E hr h => ?_)
  · obtain ⟨_, _, rfl, _⟩ := h
    rfl
  · obtain ⟨a, ns, rfl, hS, hl, q⟩ := h
    have big : ∀ {n : Nat}, n ≤ 1000 → n ≤ sizeLine := fun h => Nat.le_of_lt (small1000 h)
    have e0 : Str.length Str.empty = 0 := rfl
    have e1 : Str.length ("pair " : Str) = 5 := by decide +kernel
    have e2 : Str.length (" " : Str) = 1 := by decide +kernel
    have e5 : ∀ n, Str.length (tx n) ≤ 2 := fun n => by rw [txt_len]; exact decs_len
    have lg : ∀ n : Nat, n < 40 → ((n : Nat) : Int).natAbs.log2 < 1920 := fun n h => by
      show n.log2 < 1920
      by_cases z : n = 0
      · rw [z]; decide
      · exact (Nat.log2_lt z).mpr (Nat.lt_trans (Nat.lt_trans h (show 40 < 2 ^ 6 by decide)) (Nat.pow_lt_pow_right (by decide) (by decide)))
    refine ⟨_, (pss_cons (ps_for PassesOwn.never rfl (pi_list (pe_call (ok__law_cells T) (hr.mono (by decide)) (by rfl) T.g__law_cells T.F__law_cells.kp T.b__law_cells .nil pass0 (pa_cons (pv 0) (pa_cons pe_int pa_nil)))) (pg_name (i := 1) sc_law.nd rfl (Or.inl rfl)) (pss_cons (ps_set (i := 2) sc_law.nd rfl (Or.inl rfl) (pe_call (ok__law_seed T) (hr.mono (by decide)) (by rfl) T.g__law_seed T.F__law_seed.kp T.b__law_seed .nil pass0 (pa_cons (pv 1) pa_nil)))
      (pss_cons (ps_set (i := 3) sc_law.nd rfl (Or.inl rfl) (pe_call (ok__law_pair T) (hr.mono (by decide)) (by rfl) T.g__law_pair T.F__law_pair.kp T.b__law_pair .nil pass0 (pa_cons (pv 2) pa_nil)))
      (pss_cons (ps_set (i := 4) sc_law.nd rfl (Or.inl rfl) (pe_make0 T.M_Desk (ok_Desk__init T) (hr.mono (by decide)) (by rfl) T.gk_Desk T.b_Desk__init .nil pass0))
      (pss_cons (ps_if (pt_cmpR (op_neD hr.units) (pe_methX (pv 4) T.cl_Desk T.me_Desk__ask (ok_Desk__ask T) (hr.mono (by decide)) T.b_Desk__ask (fun σ => passAt takes0 σ) (pa_cons (pe_joined (.cons pe_str (.cons (pe_fmt (pe_ix ix_tup (pv 3) pe_int (fun _ _ => rfl))) (.cons pe_str (.cons (pe_fmt (pe_ix ix_tup (pv 3) pe_int (fun _ _ => rfl))) .nil))))) pa_nil)) (pe_lst pa_nil) (nomark _)) (pss_one (ps_ret pe_bl)) pss_nil)
      (pss_cons (ps_set (i := 5) sc_law.nd rfl (Or.inl rfl) (pe_call (ok__law_put T) hr (by rfl) T.g__law_put T.F__law_put.kp T.b__law_put .nil pass0 (pa_cons (pv 2) (pa_cons (pv 4) (pa_cons (pv 3) pa_nil)))))
      (pss_one (ps_if (PW.pt (pw_or (pt_cmpR (op_eqD hr.units) (pv 5) (pe_lst pa_nil) (nomark _)) (pw_or1 (pt_not (pt_val (pe_call (ok__law_full_right T) hr (by rfl) T.g__law_full_right T.F__law_full_right.kp T.b__law_full_right .nil pass0 (pa_cons (pv 2) (pa_cons (pv 4) (pa_cons (pv 5) (pa_cons (pv 3) pa_nil)))))))))) (pss_one (ps_ret pe_bl)) pss_nil))))))))
      (pss_one (ps_ret pe_bl))), ?_⟩
    refine ⟨_, rfl, a, ns, rfl, hS, hl, fun Hc c ms sc nc ec hm => ?_⟩
    refine ⟨c, rfl, ⟨_, .of ec⟩, for_list (xs := ms.map V.int) (fun i σ' H' => Same Hc H' ∧ ∃ y1 y2 y3 y4 y5, σ' = [some (.ref a), y1, y2, y3, y4, y5]) ⟨Same.refl _, _, _, _, _, _, rfl⟩ ?_ ?_ ?_⟩
    · rintro i σ' H' hi ⟨s, _⟩
      exact .of (s _ _ ec)
    · rintro i x σ' H0 hx ⟨s0, y1, y2, y3, y4, y5, rfl⟩
      obtain ⟨u, rfl⟩ : ∃ u : Int, x = .int u := by
        obtain ⟨z, _, rfl⟩ := List.mem_map.mp (List.mem_of_getElem? hx)
        exact ⟨z, rfl⟩
      refine ⟨_, rfl, u, rfl, fun H1 d s1 nd S1 => ?_⟩
      refine ⟨_, rfl, d, rfl, S1, fun H2 t b pw b2 S2 nt et ok => ?_⟩
      have hb := ok.hb16
      have hp := ok.hp
      have s02 : Same H0 H2 := sameFrm s1 (Frm.but b2 S2.there) (fun x hx => by cases List.mem_singleton.mp hx; exact nd)
      refine fun p dx hnp hdx nep => ⟨p, dx, rfl, upd_same, fun H3 q0 w l D3 F3 nq nl nw => ⟨rfl, ?_⟩⟩
      have sn : Same H2 (upd (upd H2 dx (.own p)) p (.ins T.k_Desk dx [])) := same_own (Same.new hdx) hnp
      have s3 : Same H2 H3 := sameFrm sn F3 (fun x hx => by cases List.mem_singleton.mp hx; exact hnp)
      have et3 := s3 _ _ et
      have S3 := S2.same s3
      have f3 : Far H3 p q0 w l d := by
        obtain ⟨a1, a2, a3, a4, e⟩ := S2
        exact ⟨S3.there, ne_of_none e hnp, ne_of_none e (sn.free nq), ne_of_none e (sn.free nw), ne_of_none e (sn.free nl)⟩
      have z1 := e5 b
      have z2 := e5 pw
      obtain ⟨dy, e3⟩ := D3.ins
      refine ⟨_, rfl, p, dy, _, rfl, e3, df_no _ _ _ (by decide +kernel) (by decide +kernel) (by decide +kernel), ?_⟩
      refine ⟨_, rfl, by refine big ?_; simp only [str_len]; omega, _, rfl, t, _, 0, _, rfl, rfl, .of et3, atI_nat (j := 0) rfl, .inr ⟨(b : Int), rfl, lg _ (by omega), tx b, congrArg V.str (decs_show (by omega)), by refine big ?_; simp only [str_len]; omega, _, rfl, by refine big ?_; simp only [str_len]; omega, _, rfl, t, _, 1, _, rfl, rfl, .of et3, atI_nat (j := 1) rfl, .inr ⟨(pw : Int), rfl, lg _ (by omega), tx pw, congrArg V.str (decs_show (by omega)), by refine big ?_; simp only [str_len]; omega, ?_⟩⟩⟩
      refine ⟨p, q0, w, l, 10, 2, [0], pairLine b pw, _, rfl, D3, split_pair (by omega) (by omega), len_pair (by omega) (by omega), .inl ⟨b, pw, [0], _, .pair ok, fun H4 t1 q' w' l' r D4 A4 nt4 hr e4 _ => ?_⟩⟩
      obtain rfl : r = [] := hr
      have s03 := s02.trans s3
      have np0 : H0 p = none := s02.free hnp
      have nq0 : H0 q0 = none := s02.free (sn.free nq)
      have nl0 : H0 l = none := s02.free (sn.free nl)
      have C4 : Ck T.k_KeptNumber T.k_Desk H0 H4 d p q' w' l' t b pw [0] := by
        refine ⟨sameFrm s03 A4.frm (fun x hx => ?_), nd, np0, ?_, ?_, D4, A4.at (D3.farTup et3) et3, ?_, A4.far f3⟩
        · simp only [List.mem_cons, List.not_mem_nil, or_false] at hx
          rcases hx with rfl | rfl | rfl
          · exact np0
          · exact nq0
          · exact nl0
        · rcases A4.hq with z | z
          · rw [z]; exact nq0
          · exact s03.free z
        · rcases A4.hl with z | z
          · rw [z]; exact nl0
          · exact s03.free z
        · obtain ⟨a1, a2, a3, a4, e⟩ := S3
          exact ⟨a1, a2, a3, a4, A4.at f3 e⟩
      refine ⟨Nat.zero_le _, fun z5 hz5 => ?_⟩
      generalize g5 : upd H4 z5 _ = H5
      obtain ⟨s5, t5⟩ := new_of g5 hz5
      refine ⟨_, _, .lst (.of (s5 _ _ e4)) (dpAll_ivs []), .lst (.of t5) (dpAll_ivs []), shaped_ints _, shaped_ints _, false, congrArg V.bl (by rw [eqv_same (shaped_ints _)]; rfl), iteF ?_⟩
      refine ⟨_, rfl, _, rfl, _, rfl, H0, d, p, q', w', l', t, b, pw, rfl, C4.same s5, fun H6 a6 q6 w6 l6 fs C6 h40 R6 => ?_⟩
      refine ⟨_, rfl, Nat.zero_le _, fun z7 hz7 => ?_⟩
      generalize g7 : upd H6 z7 _ = H7
      obtain ⟨s7, t7⟩ := new_of g7 hz7
      refine ⟨_, _, .lst (.of (s7 _ _ R6.ea)) (dpAll_ivs fs), .lst (.of t7) (dpAll_ivs []), shaped_ints _, shaped_ints _, false, congrArg V.bl (by rw [eqv_nats]; exact decide_eq_false (fun z => by rw [z] at h40; cases h40)), iteF ?_⟩
      refine ⟨_, rfl, _, rfl, _, rfl, _, rfl, H0, d, p, q6, w6, l6, t, a6, b, pw, fs, rfl, C6.same s7, R6.same s7, h40, fun H8 s8 => ⟨true, rfl, iteF ?_⟩⟩
      exact ⟨s0.trans s8, _, _, _, _, _, rfl⟩
    · rintro σ' H' ⟨s, y1, y2, y3, y4, y5, rfl⟩
      exact q _

end
theorem all_mk {w : World} {K : PySem.W.Frag} {h : Heap} {mg : Str → Option Value} {fa f0 f1 f2 f3 f4 f5 f6 f7 f8 f9 f10 f11 f12 f13 f14 f15 f16 f17 f18 f19 f20 f21 f22 f23 f24 f25 f26 f27 f28 f29 f30 f31 f32 f33 f34 f35 f36 f37 f38 f39 f40 f41 f42 : Addr} (X : K.In h) (G : h.Ns mainGlobals mg) (hfa : mg "law" = some (.ref fa))
    {od0 an0 od1 an1 od2 an2 od3 an3 od4 an4 od5 an5 od6 an6 od7 an7 od8 an8 od9 an9 od10 an10 od11 an11 od12 an12 od13 an13 od14 an14 od15 an15 od16 an16 od17 an17 od18 an18 od19 an19 od20 an20 od21 an21 od22 an22 od23 an23 od24 an24 od25 an25 od26 an26 od27 an27 od28 an28 od29 an29 od30 an30 od31 an31 od32 an32 od33 an33 od34 an34 od35 an35 od36 an36 od37 an37 od38 an38 od39 an39 od40 an40 od41 an41 od42 an42 : Option Addr} {sl0 sl1 sl2 sl3 sl4 sl5 sl6 sl7 sl8 sl9 sl10 sl11 sl12 sl13 sl14 sl15 sl16 sl17 sl18 sl19 sl20 sl21 sl22 sl23 sl24 sl25 sl26 sl27 sl28 sl29 sl30 sl31 sl32 sl33 sl34 sl35 sl36 sl37 sl38 sl39 sl40 sl41 sl42 : Array (Option Value)} {oc0 kV0 dc0 pm0 cd0 ct0 oc1 kV1 dc1 pm1 cd1 ct1 oc2 kV2 dc2 pm2 cd2 ct2 oc3 kV3 dc3 pm3 cd3 ct3 oc4 kV4 dc4 pm4 cd4 ct4 oc5 kV5 dc5 pm5 cd5 ct5 oc6 kV6 dc6 pm6 cd6 ct6 oc7 kV7 dc7 pm7 cd7 ct7 oc8 kV8 dc8 pm8 cd8 ct8 oc9 kV9 dc9 pm9 cd9 ct9 oc10 kV10 dc10 pm10 cd10 ct10 oc11 kV11 dc11 pm11 cd11 ct11 oc12 kV12 dc12 pm12 cd12 ct12 oc13 kV13 dc13 pm13 cd13 ct13 oc14 kV14 dc14 pm14 cd14 ct14 oc15 kV15 dc15 pm15 cd15 ct15 oc16 kV16 dc16 pm16 cd16 ct16 oc17 kV17 dc17 pm17 cd17 ct17 oc18 kV18 dc18 pm18 cd18 ct18 oc19 kV19 dc19 pm19 cd19 ct19 oc20 kV20 dc20 pm20 cd20 ct20 oc21 kV21 dc21 pm21 cd21 ct21 oc22 kV22 dc22 pm22 cd22 ct22 oc23 kV23 dc23 pm23 cd23 ct23 oc24 kV24 dc24 pm24 cd24 ct24 oc25 kV25 dc25 pm25 cd25 ct25 oc26 kV26 dc26 pm26 cd26 ct26 oc27 kV27 dc27 pm27 cd27 ct27 oc28 kV28 dc28 pm28 cd28 ct28 oc29 kV29 dc29 pm29 cd29 ct29 oc30 kV30 dc30 pm30 cd30 ct30 oc31 kV31 dc31 pm31 cd31 ct31 oc32 kV32 dc32 pm32 cd32 ct32 oc33 kV33 dc33 pm33 cd33 ct33 oc34 kV34 dc34 pm34 cd34 ct34 oc35 kV35 dc35 pm35 cd35 ct35 oc36 kV36 dc36 pm36 cd36 ct36 oc37 kV37 dc37 pm37 cd37 ct37 oc38 kV38 dc38 pm38 cd38 ct38 oc39 kV39 dc39 pm39 cd39 ct39 oc40 kV40 dc40 pm40 cd40 ct40 oc41 kV41 dc41 pm41 cd41 ct41 oc42 kV42 dc42 pm42 cd42 ct42 : Value}
    {k_KeptNumber : Addr} (oa_KeptNumber : PySem.W.nsIn K mainGlobals "KeptNumber" = some (some (.ref k_KeptNumber)))
    (og_KeptNumber : PySem.W.plainGet K k_KeptNumber Str.empty = true)
    (oh_KeptNumber : PySem.W.hasDictIn K k_KeptNumber = true)
    (op_KeptNumber : PySem.W.plainOver K k_KeptNumber = true)
    (os_KeptNumber : PySem.W.findIn K (.ref k_KeptNumber) "__setattr__" = some (some (.builtin "object.__setattr__")))
    (om_KeptNumber : PySem.W.makesIn K k_KeptNumber = true)
    (ok_KeptNumber : PySem.W.keepIn K (.ref k_KeptNumber) = true)
    (on_KeptNumber_base : PySem.W.findIn K (.ref k_KeptNumber) "base" = some none)
    (on_KeptNumber_power : PySem.W.findIn K (.ref k_KeptNumber) "power" = some none)
    (on_KeptNumber_worths : PySem.W.findIn K (.ref k_KeptNumber) "worths" = some none)
    (on_KeptNumber_figures : PySem.W.findIn K (.ref k_KeptNumber) "figures" = some none)
    {k_Desk : Addr} (oa_Desk : PySem.W.nsIn K mainGlobals "Desk" = some (some (.ref k_Desk)))
    (og_Desk : PySem.W.plainGet K k_Desk Str.empty = true)
    (oh_Desk : PySem.W.hasDictIn K k_Desk = true)
    (op_Desk : PySem.W.plainOver K k_Desk = true)
    (os_Desk : PySem.W.findIn K (.ref k_Desk) "__setattr__" = some (some (.builtin "object.__setattr__")))
    (om_Desk : PySem.W.makesIn K k_Desk = true)
    (ok_Desk : PySem.W.keepIn K (.ref k_Desk) = true)
    (on_Desk_base : PySem.W.findIn K (.ref k_Desk) "base" = some none)
    (on_Desk_power : PySem.W.findIn K (.ref k_Desk) "power" = some none)
    (on_Desk_number : PySem.W.findIn K (.ref k_Desk) "number" = some none)
    (a0 : PySem.W.nsIn K mainGlobals "read_number" = some (some (.ref f0))) (l0 : K.lookup f0 = some ⟨oc0, od0, .func (PySem.W.fnOf "read_number" "read_number" (defArgs s_read_number) (defBody s_read_number) (defScope s_read_number) .none kV0 dc0 pm0 an0 cd0 ct0), sl0⟩) (c0 : PySem.W.codeIn K cd0 "read_number" = true) (k0 : PySem.W.keepIn K (.ref f0) = true)
    (a1 : PySem.W.nsIn K mainGlobals "figures_of" = some (some (.ref f1))) (l1 : K.lookup f1 = some ⟨oc1, od1, .func (PySem.W.fnOf "figures_of" "figures_of" (defArgs s_figures_of) (defBody s_figures_of) (defScope s_figures_of) .none kV1 dc1 pm1 an1 cd1 ct1), sl1⟩) (c1 : PySem.W.codeIn K cd1 "figures_of" = true) (k1 : PySem.W.keepIn K (.ref f1) = true)
    (a2 : PySem.W.nsIn K mainGlobals "number_shown" = some (some (.ref f2))) (l2 : K.lookup f2 = some ⟨oc2, od2, .func (PySem.W.fnOf "number_shown" "number_shown" (defArgs s_number_shown) (defBody s_number_shown) (defScope s_number_shown) .none kV2 dc2 pm2 an2 cd2 ct2), sl2⟩) (c2 : PySem.W.codeIn K cd2 "number_shown" = true) (k2 : PySem.W.keepIn K (.ref f2) = true)
    (a3 : PySem.W.nsIn K mainGlobals "power_of" = some (some (.ref f3))) (l3 : K.lookup f3 = some ⟨oc3, od3, .func (PySem.W.fnOf "power_of" "power_of" (defArgs s_power_of) (defBody s_power_of) (defScope s_power_of) .none kV3 dc3 pm3 an3 cd3 ct3), sl3⟩) (c3 : PySem.W.codeIn K cd3 "power_of" = true) (k3 : PySem.W.keepIn K (.ref f3) = true)
    (a4 : PySem.W.nsIn K mainGlobals "step_of" = some (some (.ref f4))) (l4 : K.lookup f4 = some ⟨oc4, od4, .func (PySem.W.fnOf "step_of" "step_of" (defArgs s_step_of) (defBody s_step_of) (defScope s_step_of) .none kV4 dc4 pm4 an4 cd4 ct4), sl4⟩) (c4 : PySem.W.codeIn K cd4 "step_of" = true) (k4 : PySem.W.keepIn K (.ref f4) = true)
    (a5 : PySem.W.nsIn K mainGlobals "worths_of" = some (some (.ref f5))) (l5 : K.lookup f5 = some ⟨oc5, od5, .func (PySem.W.fnOf "worths_of" "worths_of" (defArgs s_worths_of) (defBody s_worths_of) (defScope s_worths_of) .none kV5 dc5 pm5 an5 cd5 ct5), sl5⟩) (c5 : PySem.W.codeIn K cd5 "worths_of" = true) (k5 : PySem.W.keepIn K (.ref f5) = true)
    (a6 : PySem.W.nsIn K mainGlobals "way_of" = some (some (.ref f6))) (l6 : K.lookup f6 = some ⟨oc6, od6, .func (PySem.W.fnOf "way_of" "way_of" (defArgs s_way_of) (defBody s_way_of) (defScope s_way_of) .none kV6 dc6 pm6 an6 cd6 ct6), sl6⟩) (c6 : PySem.W.codeIn K cd6 "way_of" = true) (k6 : PySem.W.keepIn K (.ref f6) = true)
    (a7 : PySem.W.nsIn K mainGlobals "end_of" = some (some (.ref f7))) (l7 : K.lookup f7 = some ⟨oc7, od7, .func (PySem.W.fnOf "end_of" "end_of" (defArgs s_end_of) (defBody s_end_of) (defScope s_end_of) .none kV7 dc7 pm7 an7 cd7 ct7), sl7⟩) (c7 : PySem.W.codeIn K cd7 "end_of" = true) (k7 : PySem.W.keepIn K (.ref f7) = true)
    (a8 : PySem.W.nsIn K mainGlobals "check_length" = some (some (.ref f8))) (l8 : K.lookup f8 = some ⟨oc8, od8, .func (PySem.W.fnOf "check_length" "check_length" (defArgs s_check_length) (defBody s_check_length) (defScope s_check_length) .none kV8 dc8 pm8 an8 cd8 ct8), sl8⟩) (c8 : PySem.W.codeIn K cd8 "check_length" = true) (k8 : PySem.W.keepIn K (.ref f8) = true)
    (a9 : PySem.W.nsIn K mainGlobals "number_of_ten" = some (some (.ref f9))) (l9 : K.lookup f9 = some ⟨oc9, od9, .func (PySem.W.fnOf "number_of_ten" "number_of_ten" (defArgs s_number_of_ten) (defBody s_number_of_ten) (defScope s_number_of_ten) .none kV9 dc9 pm9 an9 cd9 ct9), sl9⟩) (c9 : PySem.W.codeIn K cd9 "number_of_ten" = true) (k9 : PySem.W.keepIn K (.ref f9) = true)
    (a10 : PySem.W.nsIn K mainGlobals "figure_of" = some (some (.ref f10))) (l10 : K.lookup f10 = some ⟨oc10, od10, .func (PySem.W.fnOf "figure_of" "figure_of" (defArgs s_figure_of) (defBody s_figure_of) (defScope s_figure_of) .none kV10 dc10 pm10 an10 cd10 ct10), sl10⟩) (c10 : PySem.W.codeIn K cd10 "figure_of" = true) (k10 : PySem.W.keepIn K (.ref f10) = true)
    (a11 : PySem.W.nsIn K mainGlobals "is_pair" = some (some (.ref f11))) (l11 : K.lookup f11 = some ⟨oc11, od11, .func (PySem.W.fnOf "is_pair" "is_pair" (defArgs s_is_pair) (defBody s_is_pair) (defScope s_is_pair) .none kV11 dc11 pm11 an11 cd11 ct11), sl11⟩) (c11 : PySem.W.codeIn K cd11 "is_pair" = true) (k11 : PySem.W.keepIn K (.ref f11) = true)
    (a12 : PySem.W.nsIn K mainGlobals "_law_seed" = some (some (.ref f12))) (l12 : K.lookup f12 = some ⟨oc12, od12, .func (PySem.W.fnOf "_law_seed" "_law_seed" (defArgs s__law_seed) (defBody s__law_seed) (defScope s__law_seed) .none kV12 dc12 pm12 an12 cd12 ct12), sl12⟩) (c12 : PySem.W.codeIn K cd12 "_law_seed" = true) (k12 : PySem.W.keepIn K (.ref f12) = true)
    (a13 : PySem.W.nsIn K mainGlobals "_law_draw" = some (some (.ref f13))) (l13 : K.lookup f13 = some ⟨oc13, od13, .func (PySem.W.fnOf "_law_draw" "_law_draw" (defArgs s__law_draw) (defBody s__law_draw) (defScope s__law_draw) .none kV13 dc13 pm13 an13 cd13 ct13), sl13⟩) (c13 : PySem.W.codeIn K cd13 "_law_draw" = true) (k13 : PySem.W.keepIn K (.ref f13) = true)
    (a14 : PySem.W.nsIn K mainGlobals "_law_cells" = some (some (.ref f14))) (l14 : K.lookup f14 = some ⟨oc14, od14, .func (PySem.W.fnOf "_law_cells" "_law_cells" (defArgs s__law_cells) (defBody s__law_cells) (defScope s__law_cells) .none kV14 dc14 pm14 an14 cd14 ct14), sl14⟩) (c14 : PySem.W.codeIn K cd14 "_law_cells" = true) (k14 : PySem.W.keepIn K (.ref f14) = true)
    (a15 : PySem.W.nsIn K mainGlobals "_law_power" = some (some (.ref f15))) (l15 : K.lookup f15 = some ⟨oc15, od15, .func (PySem.W.fnOf "_law_power" "_law_power" (defArgs s__law_power) (defBody s__law_power) (defScope s__law_power) .none kV15 dc15 pm15 an15 cd15 ct15), sl15⟩) (c15 : PySem.W.codeIn K cd15 "_law_power" = true) (k15 : PySem.W.keepIn K (.ref f15) = true)
    (a16 : PySem.W.nsIn K mainGlobals "_law_pair" = some (some (.ref f16))) (l16 : K.lookup f16 = some ⟨oc16, od16, .func (PySem.W.fnOf "_law_pair" "_law_pair" (defArgs s__law_pair) (defBody s__law_pair) (defScope s__law_pair) .none kV16 dc16 pm16 an16 cd16 ct16), sl16⟩) (c16 : PySem.W.codeIn K cd16 "_law_pair" = true) (k16 : PySem.W.keepIn K (.ref f16) = true)
    (a17 : PySem.W.nsIn K mainGlobals "_law_figures" = some (some (.ref f17))) (l17 : K.lookup f17 = some ⟨oc17, od17, .func (PySem.W.fnOf "_law_figures" "_law_figures" (defArgs s__law_figures) (defBody s__law_figures) (defScope s__law_figures) .none kV17 dc17 pm17 an17 cd17 ct17), sl17⟩) (c17 : PySem.W.codeIn K cd17 "_law_figures" = true) (k17 : PySem.W.keepIn K (.ref f17) = true)
    (a18 : PySem.W.nsIn K mainGlobals "_law_text" = some (some (.ref f18))) (l18 : K.lookup f18 = some ⟨oc18, od18, .func (PySem.W.fnOf "_law_text" "_law_text" (defArgs s__law_text) (defBody s__law_text) (defScope s__law_text) .none kV18 dc18 pm18 an18 cd18 ct18), sl18⟩) (c18 : PySem.W.codeIn K cd18 "_law_text" = true) (k18 : PySem.W.keepIn K (.ref f18) = true)
    (a19 : PySem.W.nsIn K mainGlobals "_law_step" = some (some (.ref f19))) (l19 : K.lookup f19 = some ⟨oc19, od19, .func (PySem.W.fnOf "_law_step" "_law_step" (defArgs s__law_step) (defBody s__law_step) (defScope s__law_step) .none kV19 dc19 pm19 an19 cd19 ct19), sl19⟩) (c19 : PySem.W.codeIn K cd19 "_law_step" = true) (k19 : PySem.W.keepIn K (.ref f19) = true)
    (a20 : PySem.W.nsIn K mainGlobals "_law_end" = some (some (.ref f20))) (l20 : K.lookup f20 = some ⟨oc20, od20, .func (PySem.W.fnOf "_law_end" "_law_end" (defArgs s__law_end) (defBody s__law_end) (defScope s__law_end) .none kV20 dc20 pm20 an20 cd20 ct20), sl20⟩) (c20 : PySem.W.codeIn K cd20 "_law_end" = true) (k20 : PySem.W.keepIn K (.ref f20) = true)
    (a21 : PySem.W.findIn K (.ref k_KeptNumber) "__init__" = some (some (.ref f21))) (i21 : PySem.W.isFn K (.ref f21) = true) (l21 : K.lookup f21 = some ⟨oc21, od21, .func (PySem.W.fnOf "__init__" "KeptNumber.__init__" (defArgs s_KeptNumber__init) (defBody s_KeptNumber__init) (defScope s_KeptNumber__init) .none kV21 dc21 pm21 an21 cd21 ct21), sl21⟩) (c21 : PySem.W.codeIn K cd21 "KeptNumber.__init__" = true) (k21 : PySem.W.keepIn K (.ref f21) = true)
    (a22 : PySem.W.findIn K (.ref k_Desk) "begin" = some (some (.ref f22))) (i22 : PySem.W.isFn K (.ref f22) = true) (l22 : K.lookup f22 = some ⟨oc22, od22, .func (PySem.W.fnOf "begin" "Desk.begin" (defArgs s_Desk__begin) (defBody s_Desk__begin) (defScope s_Desk__begin) .none kV22 dc22 pm22 an22 cd22 ct22), sl22⟩) (c22 : PySem.W.codeIn K cd22 "Desk.begin" = true) (k22 : PySem.W.keepIn K (.ref f22) = true)
    (a23 : PySem.W.findIn K (.ref k_KeptNumber) "check_figure" = some (some (.ref f23))) (i23 : PySem.W.isFn K (.ref f23) = true) (l23 : K.lookup f23 = some ⟨oc23, od23, .func (PySem.W.fnOf "check_figure" "KeptNumber.check_figure" (defArgs s_KeptNumber__check_figure) (defBody s_KeptNumber__check_figure) (defScope s_KeptNumber__check_figure) .none kV23 dc23 pm23 an23 cd23 ct23), sl23⟩) (c23 : PySem.W.codeIn K cd23 "KeptNumber.check_figure" = true) (k23 : PySem.W.keepIn K (.ref f23) = true)
    (a24 : PySem.W.findIn K (.ref k_KeptNumber) "put_figure" = some (some (.ref f24))) (i24 : PySem.W.isFn K (.ref f24) = true) (l24 : K.lookup f24 = some ⟨oc24, od24, .func (PySem.W.fnOf "put_figure" "KeptNumber.put_figure" (defArgs s_KeptNumber__put_figure) (defBody s_KeptNumber__put_figure) (defScope s_KeptNumber__put_figure) .none kV24 dc24 pm24 an24 cd24 ct24), sl24⟩) (c24 : PySem.W.codeIn K cd24 "KeptNumber.put_figure" = true) (k24 : PySem.W.keepIn K (.ref f24) = true)
    (a25 : PySem.W.findIn K (.ref k_KeptNumber) "many_figures" = some (some (.ref f25))) (i25 : PySem.W.isFn K (.ref f25) = true) (l25 : K.lookup f25 = some ⟨oc25, od25, .func (PySem.W.fnOf "many_figures" "KeptNumber.many_figures" (defArgs s_KeptNumber__many_figures) (defBody s_KeptNumber__many_figures) (defScope s_KeptNumber__many_figures) .none kV25 dc25 pm25 an25 cd25 ct25), sl25⟩) (c25 : PySem.W.codeIn K cd25 "KeptNumber.many_figures" = true) (k25 : PySem.W.keepIn K (.ref f25) = true)
    (a26 : PySem.W.findIn K (.ref k_Desk) "put" = some (some (.ref f26))) (i26 : PySem.W.isFn K (.ref f26) = true) (l26 : K.lookup f26 = some ⟨oc26, od26, .func (PySem.W.fnOf "put" "Desk.put" (defArgs s_Desk__put) (defBody s_Desk__put) (defScope s_Desk__put) .none kV26 dc26 pm26 an26 cd26 ct26), sl26⟩) (c26 : PySem.W.codeIn K cd26 "Desk.put" = true) (k26 : PySem.W.keepIn K (.ref f26) = true)
    (a27 : PySem.W.findIn K (.ref k_KeptNumber) "take_off" = some (some (.ref f27))) (i27 : PySem.W.isFn K (.ref f27) = true) (l27 : K.lookup f27 = some ⟨oc27, od27, .func (PySem.W.fnOf "take_off" "KeptNumber.take_off" (defArgs s_KeptNumber__take_off) (defBody s_KeptNumber__take_off) (defScope s_KeptNumber__take_off) .none kV27 dc27 pm27 an27 cd27 ct27), sl27⟩) (c27 : PySem.W.codeIn K cd27 "KeptNumber.take_off" = true) (k27 : PySem.W.keepIn K (.ref f27) = true)
    (a28 : PySem.W.findIn K (.ref k_Desk) "take_off" = some (some (.ref f28))) (i28 : PySem.W.isFn K (.ref f28) = true) (l28 : K.lookup f28 = some ⟨oc28, od28, .func (PySem.W.fnOf "take_off" "Desk.take_off" (defArgs s_Desk__take_off) (defBody s_Desk__take_off) (defScope s_Desk__take_off) .none kV28 dc28 pm28 an28 cd28 ct28), sl28⟩) (c28 : PySem.W.codeIn K cd28 "Desk.take_off" = true) (k28 : PySem.W.keepIn K (.ref f28) = true)
    (a29 : PySem.W.findIn K (.ref k_KeptNumber) "set_figure" = some (some (.ref f29))) (i29 : PySem.W.isFn K (.ref f29) = true) (l29 : K.lookup f29 = some ⟨oc29, od29, .func (PySem.W.fnOf "set_figure" "KeptNumber.set_figure" (defArgs s_KeptNumber__set_figure) (defBody s_KeptNumber__set_figure) (defScope s_KeptNumber__set_figure) .none kV29 dc29 pm29 an29 cd29 ct29), sl29⟩) (c29 : PySem.W.codeIn K cd29 "KeptNumber.set_figure" = true) (k29 : PySem.W.keepIn K (.ref f29) = true)
    (a30 : PySem.W.findIn K (.ref k_Desk) "change" = some (some (.ref f30))) (i30 : PySem.W.isFn K (.ref f30) = true) (l30 : K.lookup f30 = some ⟨oc30, od30, .func (PySem.W.fnOf "change" "Desk.change" (defArgs s_Desk__change) (defBody s_Desk__change) (defScope s_Desk__change) .none kV30 dc30 pm30 an30 cd30 ct30), sl30⟩) (c30 : PySem.W.codeIn K cd30 "Desk.change" = true) (k30 : PySem.W.keepIn K (.ref f30) = true)
    (a31 : PySem.W.findIn K (.ref k_Desk) "shown" = some (some (.ref f31))) (i31 : PySem.W.isFn K (.ref f31) = true) (l31 : K.lookup f31 = some ⟨oc31, od31, .func (PySem.W.fnOf "shown" "Desk.shown" (defArgs s_Desk__shown) (defBody s_Desk__shown) (defScope s_Desk__shown) .none kV31 dc31 pm31 an31 cd31 ct31), sl31⟩) (c31 : PySem.W.codeIn K cd31 "Desk.shown" = true) (k31 : PySem.W.keepIn K (.ref f31) = true)
    (a32 : PySem.W.findIn K (.ref k_Desk) "end_row" = some (some (.ref f32))) (i32 : PySem.W.isFn K (.ref f32) = true) (l32 : K.lookup f32 = some ⟨oc32, od32, .func (PySem.W.fnOf "end_row" "Desk.end_row" (defArgs s_Desk__end_row) (defBody s_Desk__end_row) (defScope s_Desk__end_row) .none kV32 dc32 pm32 an32 cd32 ct32), sl32⟩) (c32 : PySem.W.codeIn K cd32 "Desk.end_row" = true) (k32 : PySem.W.keepIn K (.ref f32) = true)
    (a33 : PySem.W.findIn K (.ref k_KeptNumber) "number_now" = some (some (.ref f33))) (i33 : PySem.W.isFn K (.ref f33) = true) (l33 : K.lookup f33 = some ⟨oc33, od33, .func (PySem.W.fnOf "number_now" "KeptNumber.number_now" (defArgs s_KeptNumber__number_now) (defBody s_KeptNumber__number_now) (defScope s_KeptNumber__number_now) .none kV33 dc33 pm33 an33 cd33 ct33), sl33⟩) (c33 : PySem.W.codeIn K cd33 "KeptNumber.number_now" = true) (k33 : PySem.W.keepIn K (.ref f33) = true)
    (a34 : PySem.W.findIn K (.ref k_KeptNumber) "step_now" = some (some (.ref f34))) (i34 : PySem.W.isFn K (.ref f34) = true) (l34 : K.lookup f34 = some ⟨oc34, od34, .func (PySem.W.fnOf "step_now" "KeptNumber.step_now" (defArgs s_KeptNumber__step_now) (defBody s_KeptNumber__step_now) (defScope s_KeptNumber__step_now) .none kV34 dc34 pm34 an34 cd34 ct34), sl34⟩) (c34 : PySem.W.codeIn K cd34 "KeptNumber.step_now" = true) (k34 : PySem.W.keepIn K (.ref f34) = true)
    (a35 : PySem.W.findIn K (.ref k_KeptNumber) "end_now" = some (some (.ref f35))) (i35 : PySem.W.isFn K (.ref f35) = true) (l35 : K.lookup f35 = some ⟨oc35, od35, .func (PySem.W.fnOf "end_now" "KeptNumber.end_now" (defArgs s_KeptNumber__end_now) (defBody s_KeptNumber__end_now) (defScope s_KeptNumber__end_now) .none kV35 dc35 pm35 an35 cd35 ct35), sl35⟩) (c35 : PySem.W.codeIn K cd35 "KeptNumber.end_now" = true) (k35 : PySem.W.keepIn K (.ref f35) = true)
    (a36 : PySem.W.findIn K (.ref k_Desk) "ask" = some (some (.ref f36))) (i36 : PySem.W.isFn K (.ref f36) = true) (l36 : K.lookup f36 = some ⟨oc36, od36, .func (PySem.W.fnOf "ask" "Desk.ask" (defArgs s_Desk__ask) (defBody s_Desk__ask) (defScope s_Desk__ask) .none kV36 dc36 pm36 an36 cd36 ct36), sl36⟩) (c36 : PySem.W.codeIn K cd36 "Desk.ask" = true) (k36 : PySem.W.keepIn K (.ref f36) = true)
    (a37 : PySem.W.nsIn K mainGlobals "_law_as_due" = some (some (.ref f37))) (l37 : K.lookup f37 = some ⟨oc37, od37, .func (PySem.W.fnOf "_law_as_due" "_law_as_due" (defArgs s__law_as_due) (defBody s__law_as_due) (defScope s__law_as_due) .none kV37 dc37 pm37 an37 cd37 ct37), sl37⟩) (c37 : PySem.W.codeIn K cd37 "_law_as_due" = true) (k37 : PySem.W.keepIn K (.ref f37) = true)
    (a38 : PySem.W.nsIn K mainGlobals "_law_kind" = some (some (.ref f38))) (l38 : K.lookup f38 = some ⟨oc38, od38, .func (PySem.W.fnOf "_law_kind" "_law_kind" (defArgs s__law_kind) (defBody s__law_kind) (defScope s__law_kind) .none kV38 dc38 pm38 an38 cd38 ct38), sl38⟩) (c38 : PySem.W.codeIn K cd38 "_law_kind" = true) (k38 : PySem.W.keepIn K (.ref f38) = true)
    (a39 : PySem.W.nsIn K mainGlobals "_law_put" = some (some (.ref f39))) (l39 : K.lookup f39 = some ⟨oc39, od39, .func (PySem.W.fnOf "_law_put" "_law_put" (defArgs s__law_put) (defBody s__law_put) (defScope s__law_put) .none kV39 dc39 pm39 an39 cd39 ct39), sl39⟩) (c39 : PySem.W.codeIn K cd39 "_law_put" = true) (k39 : PySem.W.keepIn K (.ref f39) = true)
    (a40 : PySem.W.nsIn K mainGlobals "_law_full_right" = some (some (.ref f40))) (l40 : K.lookup f40 = some ⟨oc40, od40, .func (PySem.W.fnOf "_law_full_right" "_law_full_right" (defArgs s__law_full_right) (defBody s__law_full_right) (defScope s__law_full_right) .none kV40 dc40 pm40 an40 cd40 ct40), sl40⟩) (c40 : PySem.W.codeIn K cd40 "_law_full_right" = true) (k40 : PySem.W.keepIn K (.ref f40) = true)
    (a41 : PySem.W.findIn K (.ref k_Desk) "__init__" = some (some (.ref f41))) (i41 : PySem.W.isFn K (.ref f41) = true) (l41 : K.lookup f41 = some ⟨oc41, od41, .func (PySem.W.fnOf "__init__" "Desk.__init__" (defArgs s_Desk__init) (defBody s_Desk__init) (defScope s_Desk__init) .none kV41 dc41 pm41 an41 cd41 ct41), sl41⟩) (c41 : PySem.W.codeIn K cd41 "Desk.__init__" = true) (k41 : PySem.W.keepIn K (.ref f41) = true)
    (a42 : PySem.W.nsIn K mainGlobals "law" = some (some (.ref f42))) (l42 : K.lookup f42 = some ⟨oc42, od42, .func (PySem.W.fnOf "law" "law" (defArgs s_law) (defBody s_law) (defScope s_law) .none kV42 dc42 pm42 an42 cd42 ct42), sl42⟩) (c42 : PySem.W.codeIn K cd42 "law" = true) (k42 : PySem.W.keepIn K (.ref f42) = true)
    (z0 : PySem.W.nsIn K mainGlobals "ValueError" = some none)
    (z1 : PySem.W.nsIn K mainGlobals "enumerate" = some none)
    (z2 : PySem.W.nsIn K mainGlobals "int" = some none)
    (z3 : PySem.W.nsIn K mainGlobals "isinstance" = some none)
    (z4 : PySem.W.nsIn K mainGlobals "len" = some none)
    (z5 : PySem.W.nsIn K mainGlobals "list" = some none)
    (z6 : PySem.W.nsIn K mainGlobals "max" = some none)
    (z7 : PySem.W.nsIn K mainGlobals "min" = some none)
    (z8 : PySem.W.nsIn K mainGlobals "range" = some none)
    (z9 : PySem.W.nsIn K mainGlobals "sum" = some none)
    (z10 : PySem.W.nsIn K mainGlobals "tuple" = some none)
    {u0 : Tok} (y0 : PySem.W.nsIn K mainGlobals "FIGURES" = some (some (.str "0123456789abcdef" u0)))
    {u1 : Tok} (y1 : PySem.W.nsIn K mainGlobals "MOST_SIGNS" = some (some (.int 40 u1)))
    {k_FigureError : Addr} (xa_FigureError : PySem.W.nsIn K mainGlobals "FigureError" = some (some (.ref k_FigureError))) (xh_FigureError : PySem.W.hasDictIn K k_FigureError = true) (xt_FigureError : PySem.W.typeIn K (.ref k_FigureError) = some (.type "type")) (xb_FigureError : PySem.W.subIn K (.ref k_FigureError) (.type "BaseException") = some true)
    {k_NoRound : Addr} (xa_NoRound : PySem.W.nsIn K mainGlobals "NoRound" = some (some (.ref k_NoRound))) (xh_NoRound : PySem.W.hasDictIn K k_NoRound = true) (xt_NoRound : PySem.W.typeIn K (.ref k_NoRound) = some (.type "type")) (xb_NoRound : PySem.W.subIn K (.ref k_NoRound) (.type "BaseException") = some true)
    {k_NoFigure : Addr} (xa_NoFigure : PySem.W.nsIn K mainGlobals "NoFigure" = some (some (.ref k_NoFigure))) (xh_NoFigure : PySem.W.hasDictIn K k_NoFigure = true) (xt_NoFigure : PySem.W.typeIn K (.ref k_NoFigure) = some (.type "type")) (xb_NoFigure : PySem.W.subIn K (.ref k_NoFigure) (.type "BaseException") = some true)
    {k_NoPlace : Addr} (xa_NoPlace : PySem.W.nsIn K mainGlobals "NoPlace" = some (some (.ref k_NoPlace))) (xh_NoPlace : PySem.W.hasDictIn K k_NoPlace = true) (xt_NoPlace : PySem.W.typeIn K (.ref k_NoPlace) = some (.type "type")) (xb_NoPlace : PySem.W.subIn K (.ref k_NoPlace) (.type "BaseException") = some true)
    {k_NoAsk : Addr} (xa_NoAsk : PySem.W.nsIn K mainGlobals "NoAsk" = some (some (.ref k_NoAsk))) (xh_NoAsk : PySem.W.hasDictIn K k_NoAsk = true) (xt_NoAsk : PySem.W.typeIn K (.ref k_NoAsk) = some (.type "type")) (xb_NoAsk : PySem.W.subIn K (.ref k_NoAsk) (.type "BaseException") = some true)
    {k_NoNumber : Addr} (xa_NoNumber : PySem.W.nsIn K mainGlobals "NoNumber" = some (some (.ref k_NoNumber))) (xh_NoNumber : PySem.W.hasDictIn K k_NoNumber = true) (xt_NoNumber : PySem.W.typeIn K (.ref k_NoNumber) = some (.type "type")) (xb_NoNumber : PySem.W.subIn K (.ref k_NoNumber) (.type "BaseException") = some true)
    (xs_NoRound_FigureError : PySem.W.subIn K (.ref k_NoRound) (.ref k_FigureError) = some true)
    (xs_NoRound_NoRound : PySem.W.subIn K (.ref k_NoRound) (.ref k_NoRound) = some true)
    (xs_NoRound_NoFigure : PySem.W.subIn K (.ref k_NoRound) (.ref k_NoFigure) = some false)
    (xs_NoRound_NoPlace : PySem.W.subIn K (.ref k_NoRound) (.ref k_NoPlace) = some false)
    (xs_NoRound_NoAsk : PySem.W.subIn K (.ref k_NoRound) (.ref k_NoAsk) = some false)
    (xs_NoRound_NoNumber : PySem.W.subIn K (.ref k_NoRound) (.ref k_NoNumber) = some false)
    (xsa_NoRound : PySem.W.findIn K (.ref k_NoRound) "__setattr__" = some (some (.builtin "object.__setattr__")))
    (xga_NoRound : PySem.W.findIn K (.ref k_NoRound) "__getattribute__" = some (some (.builtin "BaseException.__getattribute__")))
    (xgg_NoRound : PySem.W.findIn K (.ref k_NoRound) "__getattr__" = some none)
    (xca_NoRound : PySem.W.findIn K (.ref k_NoRound) "__class__" = some (some (.builtin "object.__class__")))
    (xmo_NoRound : PySem.W.mroIn K k_NoRound (.type "object") = some true)
    (xkp_NoRound : PySem.W.keepIn K (.ref k_NoRound) = true)
    (xve_NoRound : PySem.W.subIn K (.ref k_NoRound) (.type "ValueError") = some true)
    (xcn_NoRound : PySem.W.specialIn K (.builtin "object.__class__") "__get__" = some (some (.builtin "getset_descriptor.__get__"))) (xct_NoRound : PySem.W.takesIn K (.builtin "object.__class__") = some true)
    {n_NoRound q_NoRound : Str} {N_NoRound : Addr} {bs_NoRound su_NoRound : List Value} {sn_NoRound : List Str} {ab_NoRound : Bool} {co_NoRound : Option Bool} {dd_NoRound : Option Addr} {m0_NoRound m1_NoRound m2_NoRound m3_NoRound m5_NoRound : Option Value}
    (xl_NoRound : K.lookup k_NoRound = some (excClassObj n_NoRound q_NoRound k_NoRound N_NoRound bs_NoRound [.ref k_FigureError, .type "ValueError", .type "Exception", .type "BaseException", .type "object"] true sn_NoRound su_NoRound ab_NoRound co_NoRound dd_NoRound m0_NoRound m1_NoRound m2_NoRound m3_NoRound m5_NoRound "ValueError.__new__"))
    (xq_NoRound : PySem.W.excIn K k_NoRound [.type "ValueError", .type "Exception", .type "BaseException", .type "object"] "ValueError.__new__" = true)
    (xs_NoFigure_FigureError : PySem.W.subIn K (.ref k_NoFigure) (.ref k_FigureError) = some true)
    (xs_NoFigure_NoRound : PySem.W.subIn K (.ref k_NoFigure) (.ref k_NoRound) = some false)
    (xs_NoFigure_NoFigure : PySem.W.subIn K (.ref k_NoFigure) (.ref k_NoFigure) = some true)
    (xs_NoFigure_NoPlace : PySem.W.subIn K (.ref k_NoFigure) (.ref k_NoPlace) = some false)
    (xs_NoFigure_NoAsk : PySem.W.subIn K (.ref k_NoFigure) (.ref k_NoAsk) = some false)
    (xs_NoFigure_NoNumber : PySem.W.subIn K (.ref k_NoFigure) (.ref k_NoNumber) = some false)
    (xsa_NoFigure : PySem.W.findIn K (.ref k_NoFigure) "__setattr__" = some (some (.builtin "object.__setattr__")))
    (xga_NoFigure : PySem.W.findIn K (.ref k_NoFigure) "__getattribute__" = some (some (.builtin "BaseException.__getattribute__")))
    (xgg_NoFigure : PySem.W.findIn K (.ref k_NoFigure) "__getattr__" = some none)
    (xca_NoFigure : PySem.W.findIn K (.ref k_NoFigure) "__class__" = some (some (.builtin "object.__class__")))
    (xmo_NoFigure : PySem.W.mroIn K k_NoFigure (.type "object") = some true)
    (xkp_NoFigure : PySem.W.keepIn K (.ref k_NoFigure) = true)
    (xve_NoFigure : PySem.W.subIn K (.ref k_NoFigure) (.type "ValueError") = some true)
    (xcn_NoFigure : PySem.W.specialIn K (.builtin "object.__class__") "__get__" = some (some (.builtin "getset_descriptor.__get__"))) (xct_NoFigure : PySem.W.takesIn K (.builtin "object.__class__") = some true)
    {n_NoFigure q_NoFigure : Str} {N_NoFigure : Addr} {bs_NoFigure su_NoFigure : List Value} {sn_NoFigure : List Str} {ab_NoFigure : Bool} {co_NoFigure : Option Bool} {dd_NoFigure : Option Addr} {m0_NoFigure m1_NoFigure m2_NoFigure m3_NoFigure m5_NoFigure : Option Value}
    (xl_NoFigure : K.lookup k_NoFigure = some (excClassObj n_NoFigure q_NoFigure k_NoFigure N_NoFigure bs_NoFigure [.ref k_FigureError, .type "ValueError", .type "Exception", .type "BaseException", .type "object"] true sn_NoFigure su_NoFigure ab_NoFigure co_NoFigure dd_NoFigure m0_NoFigure m1_NoFigure m2_NoFigure m3_NoFigure m5_NoFigure "ValueError.__new__"))
    (xq_NoFigure : PySem.W.excIn K k_NoFigure [.type "ValueError", .type "Exception", .type "BaseException", .type "object"] "ValueError.__new__" = true)
    (xs_NoPlace_FigureError : PySem.W.subIn K (.ref k_NoPlace) (.ref k_FigureError) = some true)
    (xs_NoPlace_NoRound : PySem.W.subIn K (.ref k_NoPlace) (.ref k_NoRound) = some false)
    (xs_NoPlace_NoFigure : PySem.W.subIn K (.ref k_NoPlace) (.ref k_NoFigure) = some false)
    (xs_NoPlace_NoPlace : PySem.W.subIn K (.ref k_NoPlace) (.ref k_NoPlace) = some true)
    (xs_NoPlace_NoAsk : PySem.W.subIn K (.ref k_NoPlace) (.ref k_NoAsk) = some false)
    (xs_NoPlace_NoNumber : PySem.W.subIn K (.ref k_NoPlace) (.ref k_NoNumber) = some false)
    (xsa_NoPlace : PySem.W.findIn K (.ref k_NoPlace) "__setattr__" = some (some (.builtin "object.__setattr__")))
    (xga_NoPlace : PySem.W.findIn K (.ref k_NoPlace) "__getattribute__" = some (some (.builtin "BaseException.__getattribute__")))
    (xgg_NoPlace : PySem.W.findIn K (.ref k_NoPlace) "__getattr__" = some none)
    (xca_NoPlace : PySem.W.findIn K (.ref k_NoPlace) "__class__" = some (some (.builtin "object.__class__")))
    (xmo_NoPlace : PySem.W.mroIn K k_NoPlace (.type "object") = some true)
    (xkp_NoPlace : PySem.W.keepIn K (.ref k_NoPlace) = true)
    (xve_NoPlace : PySem.W.subIn K (.ref k_NoPlace) (.type "ValueError") = some true)
    (xcn_NoPlace : PySem.W.specialIn K (.builtin "object.__class__") "__get__" = some (some (.builtin "getset_descriptor.__get__"))) (xct_NoPlace : PySem.W.takesIn K (.builtin "object.__class__") = some true)
    {n_NoPlace q_NoPlace : Str} {N_NoPlace : Addr} {bs_NoPlace su_NoPlace : List Value} {sn_NoPlace : List Str} {ab_NoPlace : Bool} {co_NoPlace : Option Bool} {dd_NoPlace : Option Addr} {m0_NoPlace m1_NoPlace m2_NoPlace m3_NoPlace m5_NoPlace : Option Value}
    (xl_NoPlace : K.lookup k_NoPlace = some (excClassObj n_NoPlace q_NoPlace k_NoPlace N_NoPlace bs_NoPlace [.ref k_FigureError, .type "ValueError", .type "Exception", .type "BaseException", .type "object"] true sn_NoPlace su_NoPlace ab_NoPlace co_NoPlace dd_NoPlace m0_NoPlace m1_NoPlace m2_NoPlace m3_NoPlace m5_NoPlace "ValueError.__new__"))
    (xq_NoPlace : PySem.W.excIn K k_NoPlace [.type "ValueError", .type "Exception", .type "BaseException", .type "object"] "ValueError.__new__" = true)
    (xs_NoAsk_FigureError : PySem.W.subIn K (.ref k_NoAsk) (.ref k_FigureError) = some true)
    (xs_NoAsk_NoRound : PySem.W.subIn K (.ref k_NoAsk) (.ref k_NoRound) = some false)
    (xs_NoAsk_NoFigure : PySem.W.subIn K (.ref k_NoAsk) (.ref k_NoFigure) = some false)
    (xs_NoAsk_NoPlace : PySem.W.subIn K (.ref k_NoAsk) (.ref k_NoPlace) = some false)
    (xs_NoAsk_NoAsk : PySem.W.subIn K (.ref k_NoAsk) (.ref k_NoAsk) = some true)
    (xs_NoAsk_NoNumber : PySem.W.subIn K (.ref k_NoAsk) (.ref k_NoNumber) = some false)
    (xsa_NoAsk : PySem.W.findIn K (.ref k_NoAsk) "__setattr__" = some (some (.builtin "object.__setattr__")))
    (xga_NoAsk : PySem.W.findIn K (.ref k_NoAsk) "__getattribute__" = some (some (.builtin "BaseException.__getattribute__")))
    (xgg_NoAsk : PySem.W.findIn K (.ref k_NoAsk) "__getattr__" = some none)
    (xca_NoAsk : PySem.W.findIn K (.ref k_NoAsk) "__class__" = some (some (.builtin "object.__class__")))
    (xmo_NoAsk : PySem.W.mroIn K k_NoAsk (.type "object") = some true)
    (xkp_NoAsk : PySem.W.keepIn K (.ref k_NoAsk) = true)
    (xve_NoAsk : PySem.W.subIn K (.ref k_NoAsk) (.type "ValueError") = some true)
    (xcn_NoAsk : PySem.W.specialIn K (.builtin "object.__class__") "__get__" = some (some (.builtin "getset_descriptor.__get__"))) (xct_NoAsk : PySem.W.takesIn K (.builtin "object.__class__") = some true)
    {n_NoAsk q_NoAsk : Str} {N_NoAsk : Addr} {bs_NoAsk su_NoAsk : List Value} {sn_NoAsk : List Str} {ab_NoAsk : Bool} {co_NoAsk : Option Bool} {dd_NoAsk : Option Addr} {m0_NoAsk m1_NoAsk m2_NoAsk m3_NoAsk m5_NoAsk : Option Value}
    (xl_NoAsk : K.lookup k_NoAsk = some (excClassObj n_NoAsk q_NoAsk k_NoAsk N_NoAsk bs_NoAsk [.ref k_FigureError, .type "ValueError", .type "Exception", .type "BaseException", .type "object"] true sn_NoAsk su_NoAsk ab_NoAsk co_NoAsk dd_NoAsk m0_NoAsk m1_NoAsk m2_NoAsk m3_NoAsk m5_NoAsk "ValueError.__new__"))
    (xq_NoAsk : PySem.W.excIn K k_NoAsk [.type "ValueError", .type "Exception", .type "BaseException", .type "object"] "ValueError.__new__" = true)
    : ∃ fd : FuncData, (∀ (s : Shared) (v : Value), BindsTo s fd ⟨[v], []⟩ [("script", v)]) ∧ ∀ base : Heap, K.In base → base.Ns mainGlobals mg → FnOk P w K mg base CX0 9 fa fd ["script"] (sp_law K) := by
  have e := hfa.symm.trans (PySem.W.mg_of X G a42)
  cases e
  have F0 := fun_mk (st := s_read_number) l0 c0 k0
  have F1 := fun_mk (st := s_figures_of) l1 c1 k1
  have F2 := fun_mk (st := s_number_shown) l2 c2 k2
  have F3 := fun_mk (st := s_power_of) l3 c3 k3
  have F4 := fun_mk (st := s_step_of) l4 c4 k4
  have F5 := fun_mk (st := s_worths_of) l5 c5 k5
  have F6 := fun_mk (st := s_way_of) l6 c6 k6
  have F7 := fun_mk (st := s_end_of) l7 c7 k7
  have F8 := fun_mk (st := s_check_length) l8 c8 k8
  have F9 := fun_mk (st := s_number_of_ten) l9 c9 k9
  have F10 := fun_mk (st := s_figure_of) l10 c10 k10
  have F11 := fun_mk (st := s_is_pair) l11 c11 k11
  have F12 := fun_mk (st := s__law_seed) l12 c12 k12
  have F13 := fun_mk (st := s__law_draw) l13 c13 k13
  have F14 := fun_mk (st := s__law_cells) l14 c14 k14
  have F15 := fun_mk (st := s__law_power) l15 c15 k15
  have F16 := fun_mk (st := s__law_pair) l16 c16 k16
  have F17 := fun_mk (st := s__law_figures) l17 c17 k17
  have F18 := fun_mk (st := s__law_text) l18 c18 k18
  have F19 := fun_mk (st := s__law_step) l19 c19 k19
  have F20 := fun_mk (st := s__law_end) l20 c20 k20
  have F21 := fun_mk (st := s_KeptNumber__init) l21 c21 k21
  have F22 := fun_mk (st := s_Desk__begin) l22 c22 k22
  have F23 := fun_mk (st := s_KeptNumber__check_figure) l23 c23 k23
  have F24 := fun_mk (st := s_KeptNumber__put_figure) l24 c24 k24
  have F25 := fun_mk (st := s_KeptNumber__many_figures) l25 c25 k25
  have F26 := fun_mk (st := s_Desk__put) l26 c26 k26
  have F27 := fun_mk (st := s_KeptNumber__take_off) l27 c27 k27
  have F28 := fun_mk (st := s_Desk__take_off) l28 c28 k28
  have F29 := fun_mk (st := s_KeptNumber__set_figure) l29 c29 k29
  have F30 := fun_mk (st := s_Desk__change) l30 c30 k30
  have F31 := fun_mk (st := s_Desk__shown) l31 c31 k31
  have F32 := fun_mk (st := s_Desk__end_row) l32 c32 k32
  have F33 := fun_mk (st := s_KeptNumber__number_now) l33 c33 k33
  have F34 := fun_mk (st := s_KeptNumber__step_now) l34 c34 k34
  have F35 := fun_mk (st := s_KeptNumber__end_now) l35 c35 k35
  have F36 := fun_mk (st := s_Desk__ask) l36 c36 k36
  have F37 := fun_mk (st := s__law_as_due) l37 c37 k37
  have F38 := fun_mk (st := s__law_kind) l38 c38 k38
  have F39 := fun_mk (st := s__law_put) l39 c39 k39
  have F40 := fun_mk (st := s__law_full_right) l40 c40 k40
  have F41 := fun_mk (st := s_Desk__init) l41 c41 k41
  have F42 := fun_mk (st := s_law) l42 c42 k42
  let T : Txt K mg := {
    f_read_number := f0,
    fd_read_number := _,
    F_read_number := F0,
    g_read_number := PySem.W.mg_of X G a0,
    b_read_number := F0.binds (ps := ["text", "base"]) (fun _ _ _ _ _ _ us hl => match us, hl with | [_, _], _ => rfl),
    f_figures_of := f1,
    fd_figures_of := _,
    F_figures_of := F1,
    g_figures_of := PySem.W.mg_of X G a1,
    b_figures_of := F1.binds (ps := ["number", "base"]) (fun _ _ _ _ _ _ us hl => match us, hl with | [_, _], _ => rfl),
    f_number_shown := f2,
    fd_number_shown := _,
    F_number_shown := F2,
    g_number_shown := PySem.W.mg_of X G a2,
    b_number_shown := F2.binds (ps := ["number", "base"]) (fun _ _ _ _ _ _ us hl => match us, hl with | [_, _], _ => rfl),
    f_power_of := f3,
    fd_power_of := _,
    F_power_of := F3,
    g_power_of := PySem.W.mg_of X G a3,
    b_power_of := F3.binds (ps := ["figure", "power"]) (fun _ _ _ _ _ _ us hl => match us, hl with | [_, _], _ => rfl),
    f_step_of := f4,
    fd_step_of := _,
    F_step_of := F4,
    g_step_of := PySem.W.mg_of X G a4,
    b_step_of := F4.binds (ps := ["number", "base", "power"]) (fun _ _ _ _ _ _ us hl => match us, hl with | [_, _, _], _ => rfl),
    f_worths_of := f5,
    fd_worths_of := _,
    F_worths_of := F5,
    g_worths_of := PySem.W.mg_of X G a5,
    b_worths_of := F5.binds (ps := ["base", "power"]) (fun _ _ _ _ _ _ us hl => match us, hl with | [_, _], _ => rfl),
    f_way_of := f6,
    fd_way_of := _,
    F_way_of := F6,
    g_way_of := PySem.W.mg_of X G a6,
    b_way_of := F6.binds (ps := ["number", "base", "power"]) (fun _ _ _ _ _ _ us hl => match us, hl with | [_, _, _], _ => rfl),
    f_end_of := f7,
    fd_end_of := _,
    F_end_of := F7,
    g_end_of := PySem.W.mg_of X G a7,
    b_end_of := F7.binds (ps := ["number", "base", "power"]) (fun _ _ _ _ _ _ us hl => match us, hl with | [_, _, _], _ => rfl),
    f_check_length := f8,
    fd_check_length := _,
    F_check_length := F8,
    g_check_length := PySem.W.mg_of X G a8,
    b_check_length := F8.binds (ps := ["word"]) (fun _ _ _ _ _ _ us hl => match us, hl with | [_], _ => rfl),
    f_number_of_ten := f9,
    fd_number_of_ten := _,
    F_number_of_ten := F9,
    g_number_of_ten := PySem.W.mg_of X G a9,
    b_number_of_ten := F9.binds (ps := ["word"]) (fun _ _ _ _ _ _ us hl => match us, hl with | [_], _ => rfl),
    f_figure_of := f10,
    fd_figure_of := _,
    F_figure_of := F10,
    g_figure_of := PySem.W.mg_of X G a10,
    b_figure_of := F10.binds (ps := ["word"]) (fun _ _ _ _ _ _ us hl => match us, hl with | [_], _ => rfl),
    f_is_pair := f11,
    fd_is_pair := _,
    F_is_pair := F11,
    g_is_pair := PySem.W.mg_of X G a11,
    b_is_pair := F11.binds (ps := ["base", "power"]) (fun _ _ _ _ _ _ us hl => match us, hl with | [_, _], _ => rfl),
    f__law_seed := f12,
    fd__law_seed := _,
    F__law_seed := F12,
    g__law_seed := PySem.W.mg_of X G a12,
    b__law_seed := F12.binds (ps := ["cell"]) (fun _ _ _ _ _ _ us hl => match us, hl with | [_], _ => rfl),
    f__law_draw := f13,
    fd__law_draw := _,
    F__law_draw := F13,
    g__law_draw := PySem.W.mg_of X G a13,
    b__law_draw := F13.binds (ps := ["seed", "most"]) (fun _ _ _ _ _ _ us hl => match us, hl with | [_, _], _ => rfl),
    f__law_cells := f14,
    fd__law_cells := _,
    F__law_cells := F14,
    g__law_cells := PySem.W.mg_of X G a14,
    b__law_cells := F14.binds (ps := ["script", "many"]) (fun _ _ _ _ _ _ us hl => match us, hl with | [_, _], _ => rfl),
    f__law_power := f15,
    fd__law_power := _,
    F__law_power := F15,
    g__law_power := PySem.W.mg_of X G a15,
    b__law_power := F15.binds (ps := ["number", "power"]) (fun _ _ _ _ _ _ us hl => match us, hl with | [_, _], _ => rfl),
    f__law_pair := f16,
    fd__law_pair := _,
    F__law_pair := F16,
    g__law_pair := PySem.W.mg_of X G a16,
    b__law_pair := F16.binds (ps := ["seed"]) (fun _ _ _ _ _ _ us hl => match us, hl with | [_], _ => rfl),
    f__law_figures := f17,
    fd__law_figures := _,
    F__law_figures := F17,
    g__law_figures := PySem.W.mg_of X G a17,
    b__law_figures := F17.binds (ps := ["number", "base"]) (fun _ _ _ _ _ _ us hl => match us, hl with | [_, _], _ => rfl),
    f__law_text := f18,
    fd__law_text := _,
    F__law_text := F18,
    g__law_text := PySem.W.mg_of X G a18,
    b__law_text := F18.binds (ps := ["row"]) (fun _ _ _ _ _ _ us hl => match us, hl with | [_], _ => rfl),
    f__law_step := f19,
    fd__law_step := _,
    F__law_step := F19,
    g__law_step := PySem.W.mg_of X G a19,
    b__law_step := F19.binds (ps := ["row", "power"]) (fun _ _ _ _ _ _ us hl => match us, hl with | [_, _], _ => rfl),
    f__law_end := f20,
    fd__law_end := _,
    F__law_end := F20,
    g__law_end := PySem.W.mg_of X G a20,
    b__law_end := F20.binds (ps := ["row", "base", "power"]) (fun _ _ _ _ _ _ us hl => match us, hl with | [_, _, _], _ => rfl),
    f_KeptNumber__init := f21,
    fd_KeptNumber__init := _,
    F_KeptNumber__init := F21,
    b_KeptNumber__init := F21.binds (ps := ["self", "base", "power"]) (fun _ _ _ _ _ _ us hl => match us, hl with | [_, _, _], _ => rfl),
    f_Desk__begin := f22,
    fd_Desk__begin := _,
    F_Desk__begin := F22,
    b_Desk__begin := F22.binds (ps := ["self", "base_word", "power_word"]) (fun _ _ _ _ _ _ us hl => match us, hl with | [_, _, _], _ => rfl),
    f_KeptNumber__check_figure := f23,
    fd_KeptNumber__check_figure := _,
    F_KeptNumber__check_figure := F23,
    b_KeptNumber__check_figure := F23.binds (ps := ["self", "figure"]) (fun _ _ _ _ _ _ us hl => match us, hl with | [_, _], _ => rfl),
    f_KeptNumber__put_figure := f24,
    fd_KeptNumber__put_figure := _,
    F_KeptNumber__put_figure := F24,
    b_KeptNumber__put_figure := F24.binds (ps := ["self", "figure"]) (fun _ _ _ _ _ _ us hl => match us, hl with | [_, _], _ => rfl),
    f_KeptNumber__many_figures := f25,
    fd_KeptNumber__many_figures := _,
    F_KeptNumber__many_figures := F25,
    b_KeptNumber__many_figures := F25.binds (ps := ["self"]) (fun _ _ _ _ _ _ us hl => match us, hl with | [_], _ => rfl),
    f_Desk__put := f26,
    fd_Desk__put := _,
    F_Desk__put := F26,
    b_Desk__put := F26.binds (ps := ["self", "word"]) (fun _ _ _ _ _ _ us hl => match us, hl with | [_, _], _ => rfl),
    f_KeptNumber__take_off := f27,
    fd_KeptNumber__take_off := _,
    F_KeptNumber__take_off := F27,
    b_KeptNumber__take_off := F27.binds (ps := ["self"]) (fun _ _ _ _ _ _ us hl => match us, hl with | [_], _ => rfl),
    f_Desk__take_off := f28,
    fd_Desk__take_off := _,
    F_Desk__take_off := F28,
    b_Desk__take_off := F28.binds (ps := ["self"]) (fun _ _ _ _ _ _ us hl => match us, hl with | [_], _ => rfl),
    f_KeptNumber__set_figure := f29,
    fd_KeptNumber__set_figure := _,
    F_KeptNumber__set_figure := F29,
    b_KeptNumber__set_figure := F29.binds (ps := ["self", "place", "figure"]) (fun _ _ _ _ _ _ us hl => match us, hl with | [_, _, _], _ => rfl),
    f_Desk__change := f30,
    fd_Desk__change := _,
    F_Desk__change := F30,
    b_Desk__change := F30.binds (ps := ["self", "place_word", "figure_word"]) (fun _ _ _ _ _ _ us hl => match us, hl with | [_, _, _], _ => rfl),
    f_Desk__shown := f31,
    fd_Desk__shown := _,
    F_Desk__shown := F31,
    b_Desk__shown := F31.binds (ps := ["self", "number"]) (fun _ _ _ _ _ _ us hl => match us, hl with | [_, _], _ => rfl),
    f_Desk__end_row := f32,
    fd_Desk__end_row := _,
    F_Desk__end_row := F32,
    b_Desk__end_row := F32.binds (ps := ["self", "end"]) (fun _ _ _ _ _ _ us hl => match us, hl with | [_, _], _ => rfl),
    f_KeptNumber__number_now := f33,
    fd_KeptNumber__number_now := _,
    F_KeptNumber__number_now := F33,
    b_KeptNumber__number_now := F33.binds (ps := ["self"]) (fun _ _ _ _ _ _ us hl => match us, hl with | [_], _ => rfl),
    f_KeptNumber__step_now := f34,
    fd_KeptNumber__step_now := _,
    F_KeptNumber__step_now := F34,
    b_KeptNumber__step_now := F34.binds (ps := ["self"]) (fun _ _ _ _ _ _ us hl => match us, hl with | [_], _ => rfl),
    f_KeptNumber__end_now := f35,
    fd_KeptNumber__end_now := _,
    F_KeptNumber__end_now := F35,
    b_KeptNumber__end_now := F35.binds (ps := ["self"]) (fun _ _ _ _ _ _ us hl => match us, hl with | [_], _ => rfl),
    f_Desk__ask := f36,
    fd_Desk__ask := _,
    F_Desk__ask := F36,
    b_Desk__ask := F36.binds (ps := ["self", "line"]) (fun _ _ _ _ _ _ us hl => match us, hl with | [_, _], _ => rfl),
    f__law_as_due := f37,
    fd__law_as_due := _,
    F__law_as_due := F37,
    g__law_as_due := PySem.W.mg_of X G a37,
    b__law_as_due := F37.binds (ps := ["desk", "row", "pair"]) (fun _ _ _ _ _ _ us hl => match us, hl with | [_, _, _], _ => rfl),
    f__law_kind := f38,
    fd__law_kind := _,
    F__law_kind := F38,
    g__law_kind := PySem.W.mg_of X G a38,
    b__law_kind := F38.binds (ps := ["desk", "line"]) (fun _ _ _ _ _ _ us hl => match us, hl with | [_, _], _ => rfl),
    f__law_put := f39,
    fd__law_put := _,
    F__law_put := F39,
    g__law_put := PySem.W.mg_of X G a39,
    b__law_put := F39.binds (ps := ["seed", "desk", "pair"]) (fun _ _ _ _ _ _ us hl => match us, hl with | [_, _, _], _ => rfl),
    f__law_full_right := f40,
    fd__law_full_right := _,
    F__law_full_right := F40,
    g__law_full_right := PySem.W.mg_of X G a40,
    b__law_full_right := F40.binds (ps := ["seed", "desk", "row", "pair"]) (fun _ _ _ _ _ _ us hl => match us, hl with | [_, _, _, _], _ => rfl),
    f_Desk__init := f41,
    fd_Desk__init := _,
    F_Desk__init := F41,
    b_Desk__init := F41.binds (ps := ["self"]) (fun _ _ _ _ _ _ us hl => match us, hl with | [_], _ => rfl),
    f_law := fa,
    fd_law := _,
    F_law := F42,
    g_law := PySem.W.mg_of X G a42,
    b_law := F42.binds (ps := ["script"]) (fun _ _ _ _ _ _ us hl => match us, hl with | [_], _ => rfl),
    m_ValueError := PySem.W.mg_none_of X G z0,
    m_enumerate := PySem.W.mg_none_of X G z1,
    m_int := PySem.W.mg_none_of X G z2,
    m_isinstance := PySem.W.mg_none_of X G z3,
    m_len := PySem.W.mg_none_of X G z4,
    m_list := PySem.W.mg_none_of X G z5,
    m_max := PySem.W.mg_none_of X G z6,
    m_min := PySem.W.mg_none_of X G z7,
    m_range := PySem.W.mg_none_of X G z8,
    m_sum := PySem.W.mg_none_of X G z9,
    m_tuple := PySem.W.mg_none_of X G z10,
    t_FIGURES := u0,
    c_FIGURES := PySem.W.mg_of X G y0,
    t_MOST_SIGNS := u1,
    c_MOST_SIGNS := PySem.W.mg_of X G y1,
    k_FigureError := k_FigureError,
    gk_FigureError := PySem.W.mg_of X G xa_FigureError,
    x_FigureError := ⟨xh_FigureError, xt_FigureError, xb_FigureError⟩,
    k_NoRound := k_NoRound,
    gk_NoRound := PySem.W.mg_of X G xa_NoRound,
    x_NoRound := ⟨xh_NoRound, xt_NoRound, xb_NoRound⟩,
    k_NoFigure := k_NoFigure,
    gk_NoFigure := PySem.W.mg_of X G xa_NoFigure,
    x_NoFigure := ⟨xh_NoFigure, xt_NoFigure, xb_NoFigure⟩,
    k_NoPlace := k_NoPlace,
    gk_NoPlace := PySem.W.mg_of X G xa_NoPlace,
    x_NoPlace := ⟨xh_NoPlace, xt_NoPlace, xb_NoPlace⟩,
    k_NoAsk := k_NoAsk,
    gk_NoAsk := PySem.W.mg_of X G xa_NoAsk,
    x_NoAsk := ⟨xh_NoAsk, xt_NoAsk, xb_NoAsk⟩,
    k_NoNumber := k_NoNumber,
    gk_NoNumber := PySem.W.mg_of X G xa_NoNumber,
    x_NoNumber := ⟨xh_NoNumber, xt_NoNumber, xb_NoNumber⟩,
    s_NoRound_FigureError := xs_NoRound_FigureError,
    s_NoRound_NoRound := xs_NoRound_NoRound,
    s_NoRound_NoFigure := xs_NoRound_NoFigure,
    s_NoRound_NoPlace := xs_NoRound_NoPlace,
    s_NoRound_NoAsk := xs_NoRound_NoAsk,
    s_NoRound_NoNumber := xs_NoRound_NoNumber,
    I_NoRound := ⟨xsa_NoRound, xga_NoRound, xgg_NoRound, xca_NoRound, xcn_NoRound, xct_NoRound, xmo_NoRound, xkp_NoRound, xs_NoRound_NoRound, xve_NoRound, ⟨_, _, _, _, _, _, _, _, _, _, _, _, _, _, _, xl_NoRound, rfl⟩⟩,
    xq_NoRound := xq_NoRound,
    s_NoFigure_FigureError := xs_NoFigure_FigureError,
    s_NoFigure_NoRound := xs_NoFigure_NoRound,
    s_NoFigure_NoFigure := xs_NoFigure_NoFigure,
    s_NoFigure_NoPlace := xs_NoFigure_NoPlace,
    s_NoFigure_NoAsk := xs_NoFigure_NoAsk,
    s_NoFigure_NoNumber := xs_NoFigure_NoNumber,
    I_NoFigure := ⟨xsa_NoFigure, xga_NoFigure, xgg_NoFigure, xca_NoFigure, xcn_NoFigure, xct_NoFigure, xmo_NoFigure, xkp_NoFigure, xs_NoFigure_NoFigure, xve_NoFigure, ⟨_, _, _, _, _, _, _, _, _, _, _, _, _, _, _, xl_NoFigure, rfl⟩⟩,
    xq_NoFigure := xq_NoFigure,
    s_NoPlace_FigureError := xs_NoPlace_FigureError,
    s_NoPlace_NoRound := xs_NoPlace_NoRound,
    s_NoPlace_NoFigure := xs_NoPlace_NoFigure,
    s_NoPlace_NoPlace := xs_NoPlace_NoPlace,
    s_NoPlace_NoAsk := xs_NoPlace_NoAsk,
    s_NoPlace_NoNumber := xs_NoPlace_NoNumber,
    I_NoPlace := ⟨xsa_NoPlace, xga_NoPlace, xgg_NoPlace, xca_NoPlace, xcn_NoPlace, xct_NoPlace, xmo_NoPlace, xkp_NoPlace, xs_NoPlace_NoPlace, xve_NoPlace, ⟨_, _, _, _, _, _, _, _, _, _, _, _, _, _, _, xl_NoPlace, rfl⟩⟩,
    xq_NoPlace := xq_NoPlace,
    s_NoAsk_FigureError := xs_NoAsk_FigureError,
    s_NoAsk_NoRound := xs_NoAsk_NoRound,
    s_NoAsk_NoFigure := xs_NoAsk_NoFigure,
    s_NoAsk_NoPlace := xs_NoAsk_NoPlace,
    s_NoAsk_NoAsk := xs_NoAsk_NoAsk,
    s_NoAsk_NoNumber := xs_NoAsk_NoNumber,
    I_NoAsk := ⟨xsa_NoAsk, xga_NoAsk, xgg_NoAsk, xca_NoAsk, xcn_NoAsk, xct_NoAsk, xmo_NoAsk, xkp_NoAsk, xs_NoAsk_NoAsk, xve_NoAsk, ⟨_, _, _, _, _, _, _, _, _, _, _, _, _, _, _, xl_NoAsk, rfl⟩⟩,
    xq_NoAsk := xq_NoAsk,
    k_KeptNumber := k_KeptNumber,
    gk_KeptNumber := PySem.W.mg_of X G oa_KeptNumber,
    cl_KeptNumber := ⟨og_KeptNumber, oh_KeptNumber, op_KeptNumber, os_KeptNumber⟩,
    na_KeptNumber_base := on_KeptNumber_base,
    na_KeptNumber_power := on_KeptNumber_power,
    na_KeptNumber_worths := on_KeptNumber_worths,
    na_KeptNumber_figures := on_KeptNumber_figures,
    k_Desk := k_Desk,
    gk_Desk := PySem.W.mg_of X G oa_Desk,
    cl_Desk := ⟨og_Desk, oh_Desk, op_Desk, os_Desk⟩,
    na_Desk_base := on_Desk_base,
    na_Desk_power := on_Desk_power,
    na_Desk_number := on_Desk_number,
    M_KeptNumber := ⟨om_KeptNumber, a21, i21, ok_KeptNumber⟩,
    me_Desk__begin := ⟨a22, i22, k22⟩,
    me_KeptNumber__check_figure := ⟨a23, i23, k23⟩,
    me_KeptNumber__put_figure := ⟨a24, i24, k24⟩,
    me_KeptNumber__many_figures := ⟨a25, i25, k25⟩,
    me_Desk__put := ⟨a26, i26, k26⟩,
    me_KeptNumber__take_off := ⟨a27, i27, k27⟩,
    me_Desk__take_off := ⟨a28, i28, k28⟩,
    me_KeptNumber__set_figure := ⟨a29, i29, k29⟩,
    me_Desk__change := ⟨a30, i30, k30⟩,
    me_Desk__shown := ⟨a31, i31, k31⟩,
    me_Desk__end_row := ⟨a32, i32, k32⟩,
    me_KeptNumber__number_now := ⟨a33, i33, k33⟩,
    me_KeptNumber__step_now := ⟨a34, i34, k34⟩,
    me_KeptNumber__end_now := ⟨a35, i35, k35⟩,
    me_Desk__ask := ⟨a36, i36, k36⟩,
    M_Desk := ⟨om_Desk, a41, i41, ok_Desk⟩ }
  exact ⟨_, fun s v => .of_eq rfl, fun base _ _ => ok_law T⟩
end Fx
open PySem PySem.W PyProof.Rows
set_option maxHeartbeats 0 in
theorem PySem.Challenge.cw_figurerounds_k39_desk_of_forty_figures_holds : PySem.Challenge.rw_figurerounds_k39_desk_of_forty_figures.Holds := by
  w_on; o_law; k_head; (case hw => w_witness2)
  k_fill
  refine L2.walk_of (l := PySem.Challenge.rw_figurerounds_k39_desk_of_forty_figures) (n := 63) (k := 9) (x := "script") (CX := fun _ => L2.CX0) (sp := fun w => Fx.sp_law _) rfl (by decide) rfl ⟨rfl, by decide, by decide⟩ (fun w h Y => PySem.W.kIn_of Y) ?F (fun _ _ a ns hl _ hS => Fx.law_start hl hS) (fun _ _ _ _ _ h => h)
  case F =>
    intro w mg fa h KX G hmg
    refine' Fx.all_mk KX G hmg ?oa_KeptNumber ?og_KeptNumber ?oh_KeptNumber ?op_KeptNumber ?os_KeptNumber ?om_KeptNumber ?ok_KeptNumber ?on_KeptNumber_base ?on_KeptNumber_power ?on_KeptNumber_worths ?on_KeptNumber_figures ?oa_Desk ?og_Desk ?oh_Desk ?op_Desk ?os_Desk ?om_Desk ?ok_Desk ?on_Desk_base ?on_Desk_power ?on_Desk_number ?a0 ?l0 ?c0 ?k0 ?a1 ?l1 ?c1 ?k1 ?a2 ?l2 ?c2 ?k2 ?a3 ?l3 ?c3 ?k3 ?a4 ?l4 ?c4 ?k4 ?a5 ?l5 ?c5 ?k5 ?a6 ?l6 ?c6 ?k6 ?a7 ?l7 ?c7 ?k7 ?a8 ?l8 ?c8 ?k8 ?a9 ?l9 ?c9 ?k9 ?a10 ?l10 ?c10 ?k10 ?a11 ?l11 ?c11 ?k11 ?a12 ?l12 ?c12 ?k12 ?a13 ?l13 ?c13 ?k13 ?a14 ?l14 ?c14 ?k14 ?a15 ?l15 ?c15 ?k15 ?a16 ?l16 ?c16 ?k16 ?a17 ?l17 ?c17 ?k17 ?a18 ?l18 ?c18 ?k18 ?a19 ?l19 ?c19 ?k19 ?a20 ?l20 ?c20 ?k20 ?a21 ?i21 ?l21 ?c21 ?k21 ?a22 ?i22 ?l22 ?c22 ?k22 ?a23 ?i23 ?l23 ?c23 ?k23 ?a24 ?i24 ?l24 ?c24 ?k24 ?a25 ?i25 ?l25 ?c25 ?k25 ?a26 ?i26 ?l26 ?c26 ?k26 ?a27 ?i27 ?l27 ?c27 ?k27 ?a28 ?i28 ?l28 ?c28 ?k28 ?a29 ?i29 ?l29 ?c29 ?k29 ?a30 ?i30 ?l30 ?c30 ?k30 ?a31 ?i31 ?l31 ?c31 ?k31 ?a32 ?i32 ?l32 ?c32 ?k32 ?a33 ?i33 ?l33 ?c33 ?k33 ?a34 ?i34 ?l34 ?c34 ?k34 ?a35 ?i35 ?l35 ?c35 ?k35 ?a36 ?i36 ?l36 ?c36 ?k36 ?a37 ?l37 ?c37 ?k37 ?a38 ?l38 ?c38 ?k38 ?a39 ?l39 ?c39 ?k39 ?a40 ?l40 ?c40 ?k40 ?a41 ?i41 ?l41 ?c41 ?k41 ?a42 ?l42 ?c42 ?k42 ?z0 ?z1 ?z2 ?z3 ?z4 ?z5 ?z6 ?z7 ?z8 ?z9 ?z10 ?y0 ?y1 ?xa_FigureError ?xh_FigureError ?xt_FigureError ?xb_FigureError ?xa_NoRound ?xh_NoRound ?xt_NoRound ?xb_NoRound ?xa_NoFigure ?xh_NoFigure ?xt_NoFigure ?xb_NoFigure ?xa_NoPlace ?xh_NoPlace ?xt_NoPlace ?xb_NoPlace ?xa_NoAsk ?xh_NoAsk ?xt_NoAsk ?xb_NoAsk ?xa_NoNumber ?xh_NoNumber ?xt_NoNumber ?xb_NoNumber ?xs_NoRound_FigureError ?xs_NoRound_NoRound ?xs_NoRound_NoFigure ?xs_NoRound_NoPlace ?xs_NoRound_NoAsk ?xs_NoRound_NoNumber ?xsa_NoRound ?xga_NoRound ?xgg_NoRound ?xca_NoRound ?xmo_NoRound ?xkp_NoRound ?xve_NoRound ?xcn_NoRound ?xct_NoRound ?xl_NoRound ?xq_NoRound ?xs_NoFigure_FigureError ?xs_NoFigure_NoRound ?xs_NoFigure_NoFigure ?xs_NoFigure_NoPlace ?xs_NoFigure_NoAsk ?xs_NoFigure_NoNumber ?xsa_NoFigure ?xga_NoFigure ?xgg_NoFigure ?xca_NoFigure ?xmo_NoFigure ?xkp_NoFigure ?xve_NoFigure ?xcn_NoFigure ?xct_NoFigure ?xl_NoFigure ?xq_NoFigure ?xs_NoPlace_FigureError ?xs_NoPlace_NoRound ?xs_NoPlace_NoFigure ?xs_NoPlace_NoPlace ?xs_NoPlace_NoAsk ?xs_NoPlace_NoNumber ?xsa_NoPlace ?xga_NoPlace ?xgg_NoPlace ?xca_NoPlace ?xmo_NoPlace ?xkp_NoPlace ?xve_NoPlace ?xcn_NoPlace ?xct_NoPlace ?xl_NoPlace ?xq_NoPlace ?xs_NoAsk_FigureError ?xs_NoAsk_NoRound ?xs_NoAsk_NoFigure ?xs_NoAsk_NoPlace ?xs_NoAsk_NoAsk ?xs_NoAsk_NoNumber ?xsa_NoAsk ?xga_NoAsk ?xgg_NoAsk ?xca_NoAsk ?xmo_NoAsk ?xkp_NoAsk ?xve_NoAsk ?xcn_NoAsk ?xct_NoAsk ?xl_NoAsk ?xq_NoAsk
    (case oa_KeptNumber => k_is); (case og_KeptNumber => k_is); (case oh_KeptNumber => k_is); (case op_KeptNumber => k_is); (case os_KeptNumber => k_is); (case om_KeptNumber => k_is); (case ok_KeptNumber => k_is); (case on_KeptNumber_base => k_is); (case on_KeptNumber_power => k_is); (case on_KeptNumber_worths => k_is); (case on_KeptNumber_figures => k_is); (case oa_Desk => k_is); (case og_Desk => k_is); (case oh_Desk => k_is); (case op_Desk => k_is); (case os_Desk => k_is); (case om_Desk => k_is); (case ok_Desk => k_is); (case on_Desk_base => k_is); (case on_Desk_power => k_is); (case on_Desk_number => k_is); (case a0 => k_is); (case l0 => k_is); (case c0 => k_is); (case k0 => k_is); (case a1 => k_is); (case l1 => k_is); (case c1 => k_is); (case k1 => k_is); (case a2 => k_is); (case l2 => k_is); (case c2 => k_is); (case k2 => k_is); (case a3 => k_is); (case l3 => k_is); (case c3 => k_is); (case k3 => k_is); (case a4 => k_is); (case l4 => k_is); (case c4 => k_is); (case k4 => k_is); (case a5 => k_is); (case l5 => k_is); (case c5 => k_is); (case k5 => k_is); (case a6 => k_is); (case l6 => k_is); (case c6 => k_is); (case k6 => k_is); (case a7 => k_is); (case l7 => k_is); (case c7 => k_is); (case k7 => k_is); (case a8 => k_is); (case l8 => k_is); (case c8 => k_is); (case k8 => k_is); (case a9 => k_is); (case l9 => k_is); (case c9 => k_is); (case k9 => k_is); (case a10 => k_is); (case l10 => k_is); (case c10 => k_is); (case k10 => k_is); (case a11 => k_is); (case l11 => k_is); (case c11 => k_is); (case k11 => k_is); (case a12 => k_is); (case l12 => k_is); (case c12 => k_is); (case k12 => k_is); (case a13 => k_is); (case l13 => k_is); (case c13 => k_is); (case k13 => k_is); (case a14 => k_is); (case l14 => k_is); (case c14 => k_is); (case k14 => k_is); (case a15 => k_is); (case l15 => k_is); (case c15 => k_is); (case k15 => k_is); (case a16 => k_is); (case l16 => k_is); (case c16 => k_is); (case k16 => k_is); (case a17 => k_is); (case l17 => k_is); (case c17 => k_is); (case k17 => k_is); (case a18 => k_is); (case l18 => k_is); (case c18 => k_is); (case k18 => k_is); (case a19 => k_is); (case l19 => k_is); (case c19 => k_is); (case k19 => k_is); (case a20 => k_is); (case l20 => k_is); (case c20 => k_is); (case k20 => k_is); (case a21 => k_is); (case i21 => k_is); (case l21 => k_is); (case c21 => k_is); (case k21 => k_is); (case a22 => k_is); (case i22 => k_is); (case l22 => k_is); (case c22 => k_is); (case k22 => k_is); (case a23 => k_is); (case i23 => k_is); (case l23 => k_is); (case c23 => k_is); (case k23 => k_is); (case a24 => k_is); (case i24 => k_is); (case l24 => k_is); (case c24 => k_is); (case k24 => k_is); (case a25 => k_is); (case i25 => k_is); (case l25 => k_is); (case c25 => k_is); (case k25 => k_is); (case a26 => k_is); (case i26 => k_is); (case l26 => k_is); (case c26 => k_is); (case k26 => k_is); (case a27 => k_is); (case i27 => k_is); (case l27 => k_is); (case c27 => k_is); (case k27 => k_is); (case a28 => k_is); (case i28 => k_is); (case l28 => k_is); (case c28 => k_is); (case k28 => k_is); (case a29 => k_is); (case i29 => k_is); (case l29 => k_is); (case c29 => k_is); (case k29 => k_is); (case a30 => k_is); (case i30 => k_is); (case l30 => k_is); (case c30 => k_is); (case k30 => k_is); (case a31 => k_is); (case i31 => k_is); (case l31 => k_is); (case c31 => k_is); (case k31 => k_is); (case a32 => k_is); (case i32 => k_is); (case l32 => k_is); (case c32 => k_is); (case k32 => k_is); (case a33 => k_is); (case i33 => k_is); (case l33 => k_is); (case c33 => k_is); (case k33 => k_is); (case a34 => k_is); (case i34 => k_is); (case l34 => k_is); (case c34 => k_is); (case k34 => k_is); (case a35 => k_is); (case i35 => k_is); (case l35 => k_is); (case c35 => k_is); (case k35 => k_is); (case a36 => k_is); (case i36 => k_is); (case l36 => k_is); (case c36 => k_is); (case k36 => k_is); (case a37 => k_is); (case l37 => k_is); (case c37 => k_is); (case k37 => k_is); (case a38 => k_is); (case l38 => k_is); (case c38 => k_is); (case k38 => k_is); (case a39 => k_is); (case l39 => k_is); (case c39 => k_is); (case k39 => k_is); (case a40 => k_is); (case l40 => k_is); (case c40 => k_is); (case k40 => k_is); (case a41 => k_is); (case i41 => k_is); (case l41 => k_is); (case c41 => k_is); (case k41 => k_is); (case a42 => k_is); (case l42 => k_is); (case c42 => k_is); (case k42 => k_is); (case z0 => k_is); (case z1 => k_is); (case z2 => k_is); (case z3 => k_is); (case z4 => k_is); (case z5 => k_is); (case z6 => k_is); (case z7 => k_is); (case z8 => k_is); (case z9 => k_is); (case z10 => k_is); (case y0 => k_is); (case y1 => k_is); (case xa_FigureError => k_is); (case xh_FigureError => k_is); (case xt_FigureError => k_is); (case xb_FigureError => k_is); (case xa_NoRound => k_is); (case xh_NoRound => k_is); (case xt_NoRound => k_is); (case xb_NoRound => k_is); (case xa_NoFigure => k_is); (case xh_NoFigure => k_is); (case xt_NoFigure => k_is); (case xb_NoFigure => k_is); (case xa_NoPlace => k_is); (case xh_NoPlace => k_is); (case xt_NoPlace => k_is); (case xb_NoPlace => k_is); (case xa_NoAsk => k_is); (case xh_NoAsk => k_is); (case xt_NoAsk => k_is); (case xb_NoAsk => k_is); (case xa_NoNumber => k_is); (case xh_NoNumber => k_is); (case xt_NoNumber => k_is); (case xb_NoNumber => k_is); (case xs_NoRound_FigureError => k_is); (case xs_NoRound_NoRound => k_is); (case xs_NoRound_NoFigure => k_is); (case xs_NoRound_NoPlace => k_is); (case xs_NoRound_NoAsk => k_is); (case xs_NoRound_NoNumber => k_is); (case xsa_NoRound => k_is); (case xga_NoRound => k_is); (case xgg_NoRound => k_is); (case xca_NoRound => k_is); (case xmo_NoRound => k_is); (case xkp_NoRound => k_is); (case xve_NoRound => k_is); (case xcn_NoRound => k_is); (case xct_NoRound => k_is); (case xl_NoRound => k_is); (case xq_NoRound => k_exc); (case xs_NoFigure_FigureError => k_is); (case xs_NoFigure_NoRound => k_is); (case xs_NoFigure_NoFigure => k_is); (case xs_NoFigure_NoPlace => k_is); (case xs_NoFigure_NoAsk => k_is); (case xs_NoFigure_NoNumber => k_is); (case xsa_NoFigure => k_is); (case xga_NoFigure => k_is); (case xgg_NoFigure => k_is); (case xca_NoFigure => k_is); (case xmo_NoFigure => k_is); (case xkp_NoFigure => k_is); (case xve_NoFigure => k_is); (case xcn_NoFigure => k_is); (case xct_NoFigure => k_is); (case xl_NoFigure => k_is); (case xq_NoFigure => k_exc); (case xs_NoPlace_FigureError => k_is); (case xs_NoPlace_NoRound => k_is); (case xs_NoPlace_NoFigure => k_is); (case xs_NoPlace_NoPlace => k_is); (case xs_NoPlace_NoAsk => k_is); (case xs_NoPlace_NoNumber => k_is); (case xsa_NoPlace => k_is); (case xga_NoPlace => k_is); (case xgg_NoPlace => k_is); (case xca_NoPlace => k_is); (case xmo_NoPlace => k_is); (case xkp_NoPlace => k_is); (case xve_NoPlace => k_is); (case xcn_NoPlace => k_is); (case xct_NoPlace => k_is); (case xl_NoPlace => k_is); (case xq_NoPlace => k_exc); (case xs_NoAsk_FigureError => k_is); (case xs_NoAsk_NoRound => k_is); (case xs_NoAsk_NoFigure => k_is); (case xs_NoAsk_NoPlace => k_is); (case xs_NoAsk_NoAsk => k_is); (case xs_NoAsk_NoNumber => k_is); (case xsa_NoAsk => k_is); (case xga_NoAsk => k_is); (case xgg_NoAsk => k_is); (case xca_NoAsk => k_is); (case xmo_NoAsk => k_is); (case xkp_NoAsk => k_is); (case xve_NoAsk => k_is); (case xcn_NoAsk => k_is); (case xct_NoAsk => k_is); (case xl_NoAsk => k_is); (case xq_NoAsk => k_exc)
