import PyProof.Rows.All
import Wide.All
import OpenK.AllK
import Wide.FinOn
import HandS.ForMost
import HandS.Wide
import HandS.Style
import HandS.IsInst
import HandS.Conv
import HandS.Codes
import HandS.TupAny
import HandS.Exc
import HandS.ExcIs
import HandS.ExcField
import HandS.ExcInit
import KE.KExcIs
import HandS.ExcOwn
import HandS.Nested
import HandS.FStr
import KE.KExcSuper
import HandS.ForExc
import HandS.WordsExc
import KE.RegKSuper
import HandS.NoneIn
import HandS.Walk
import KE.GoesEnum
import KE.DataCmp
import KE.KEqDeep
import HandS.SetFor
import PyProof.StrOps2
import PyProof.EqKinds
import HandS.ExcValue
import KE.KExcStr
import PySem.Challenge.RW_figurerounds_k31_figures_refused
set_option Elab.async false
set_option linter.all false
set_option maxRecDepth 100000
set_option maxHeartbeats 4000000

/-! my own words for readings: "rd" goes on while there is one way only -/
local macro_rules | `(tactic| walk_at "cc") => `(tactic| first
  | (with_reducible exact rfl) | (dsimp only [CMul, CDivW]; omega) | (exact ⟨by decide +kernel, by decide +kernel⟩) | decide +kernel)
local macro_rules | `(tactic| walk_at "rd1") => `(tactic| first
  | refine ⟨_, rfl, ?_⟩ | refine ⟨_, _, rfl, rfl, ?_⟩ | refine ⟨rfl, ?_⟩)
local macro_rules | `(tactic| walk_at "rd") => `(tactic| repeat (walk_at "rd1"))

local macro_rules | `(tactic| walk_at "p") => `(tactic| ((show (0 : Int) < _); first | assumption | omega | decide))

namespace Fx
open PySem PySem.Spec PyProof.Rows L2

/-! ### rules named by their readings, for comprehensions -/
def rLenQ (K : PySem.W.Frag) : List V → Hp → VK → Prop := fun xs H Q => ∃ p ys, xs = [V.ref p] ∧ (SqL K H p ys ∨ SqT K H p ys) ∧ Q (.int ys.length) H
def rListQ (K : PySem.W.Frag) : List V → Hp → VK → Prop := fun xs H Q => ∃ p ys, xs = [V.ref p] ∧ (SqL K H p ys ∨ SqT K H p ys) ∧ ∀ l, H l = none → Q (.ref l) (upd H l (.lst ys))

def rTupQ (K : PySem.W.Frag) : List V → Hp → VK → Prop := fun xs H Q => ∃ p ys, xs = [V.ref p] ∧ ((SqL K H p ys ∧ ∀ l, H l = none → Q (.ref l) (upd H l (.tup ys))) ∨ SqT K H p ys ∧ Q (.ref p) H)

/-! ### what stays -/
def But (d : Addr) (H H' : Hp) : Prop := ∀ b o, b ≠ d → H b = some o → H' b = some o
theorem But.refl (d : Addr) (H : Hp) : But d H H := fun _ _ _ h => h
theorem But.trans {d : Addr} {H H1 H2 : Hp} (a : But d H H1) (b : But d H1 H2) : But d H H2 := fun x o n h => b x o n (a x o n h)
theorem But.of {d : Addr} {H H' : Hp} (a : Same H H') : But d H H' := fun x o _ h => a x o h
theorem But.new {d p : Addr} {H : Hp} {o : HO} (h : H p = none) : But d H (upd H p o) := fun b u _ e => by
  rw [upd_ne (ne_of_none e h)]
  exact e
theorem But.set {d : Addr} {H : Hp} {o : HO} : But d H (upd H d o) := fun b u n e => by
  rw [upd_ne n]
  exact e
theorem But.fresh {d p : Addr} {H H' : Hp} (a : But d H H') (hd : ∃ o, H' d = some o) (h : H' p = none) : H p = none := by
  cases e : H p with
  | none => rfl
  | some o =>
    by_cases z : p = d
    · obtain ⟨u, hu⟩ := hd
      rw [z, hu] at h
      cases h
    · rw [a p o z e] at h
      cases h
theorem Same.new {p : Addr} {H : Hp} {o : HO} (h : H p = none) : Same H (upd H p o) := fun b u e => by
  rw [upd_ne (ne_of_none e h)]
  exact e

/-- behind a new object, named by «generalize g : upd H p _ = H'» -/
theorem new_of {H H' : Hp} {p : Addr} {o : HO} (g : upd H p o = H') (hp : H p = none) : Same H H' ∧ H' p = some o := by
  subst g
  exact ⟨Same.new hp, upd_same⟩
theorem set_of {H H' : Hp} {p : Addr} {o : HO} (g : upd H p o = H') : But p H H' ∧ H' p = some o := by
  subst g
  exact ⟨But.set, upd_same⟩

/-! ### the draws -/
/-- the cells at c, the deck at d, at most n draws so far -/
structure Deck (H : Hp) (d c : Addr) (n : Nat) : Prop where
  ex : ∃ (ns : List Int) (i l m t : Int), H d = some (.lst [.ref c, .int i, .int l, .int m, .int t]) ∧ H c = some (.lst (ns.map V.int)) ∧ 0 ≤ i ∧ i ≤ n ∧ 0 ≤ m ∧ m ≤ n
theorem Deck.there {H : Hp} {d c : Addr} {n : Nat} (h : Deck H d c n) : ∃ o, H d = some o := by
  obtain ⟨ns, i, l, m, t, e, _⟩ := h.ex
  exact ⟨_, e⟩
theorem Deck.some {H : Hp} {d c : Addr} {n : Nat} (h : Deck H d c n) : ∃ xs, H d = some (.lst xs) := by
  obtain ⟨ns, i, l, m, t, e, _⟩ := h.ex
  exact ⟨_, e⟩
theorem Deck.ne {H : Hp} {d c : Addr} {n : Nat} (h : Deck H d c n) : c ≠ d := by
  obtain ⟨ns, i, l, m, t, e, e2, _⟩ := h.ex
  intro z
  rw [z, e] at e2
  cases ns with
  | nil => cases e2
  | cons x r => cases e2
theorem Deck.mono {H : Hp} {d c : Addr} {n k : Nat} (h : Deck H d c n) (l : n ≤ k) : Deck H d c k := by
  obtain ⟨ns, i, l, m, t, e, e2, h1, h2, h3, h4⟩ := h.ex
  exact ⟨ns, i, l, m, t, e, e2, h1, by omega, h3, by omega⟩
theorem Deck.same {H H' : Hp} {d c : Addr} {n : Nat} (h : Deck H d c n) (a : Same H H') : Deck H' d c n := by
  obtain ⟨ns, i, l, m, t, e, e2, r⟩ := h.ex
  exact ⟨ns, i, l, m, t, a _ _ e, a _ _ e2, r⟩
theorem Deck.new {H : Hp} {d c p : Addr} {n : Nat} {o : HO} (h : Deck H d c n) (hp : H p = none) : Deck (upd H p o) d c n := h.same (Same.new hp)
/-- something else than the deck and its cells is written -/
theorem Deck.off {H : Hp} {d c p : Addr} {n : Nat} {o : HO} (h : Deck H d c n) (h1 : p ≠ d) (h2 : p ≠ c) : Deck (upd H p o) d c n := by
  obtain ⟨ns, i, l, m, t, e, e2, r⟩ := h.ex
  exact ⟨ns, i, l, m, t, by rw [upd_ne (Ne.symm h1)]; exact e, by rw [upd_ne (Ne.symm h2)]; exact e2, r⟩
/-- a list of our own grows -/
theorem But.own {d p : Addr} {H H' : Hp} {o : HO} (a : But d H H') (hp : H p = none) : But d H (upd H' p o) := fun b u n e => by
  rw [upd_ne (ne_of_none e hp)]
  exact a b u n e
theorem Deck.out {H : Hp} {d c p : Addr} {n : Nat} (h : Deck H d c n) (hp : H p = none) : p ≠ d ∧ p ≠ c := by
  obtain ⟨ns, i, l, m, t, e, e2, r⟩ := h.ex
  exact ⟨(ne_of_none e hp).symm, (ne_of_none e2 hp).symm⟩
/-- an object that is no list stays -/
theorem But.tup {d c p : Addr} {n : Nat} {H H' : Hp} {xs : List V} (a : But d H H') (h : Deck H d c n) (e : H p = some (.tup xs)) : H' p = some (.tup xs) := by
  obtain ⟨ys, q⟩ := h.some
  exact a p _ (ne_of e q (fun z => by cases z)) e

/-- a slice from the first on -/
theorem cut_to (xs : List V) (n : Nat) : cutV xs none (some (n : Int)) = xs.take n := by
  unfold cutV
  rw [HT.sIx_none, HT.sIx_nat]
  show List.take (min n xs.length - 0) (xs.drop 0) = _
  rw [List.drop_zero, Nat.sub_zero]
  by_cases h : n ≤ xs.length
  · rw [Nat.min_eq_left h]
  · rw [Nat.min_eq_right (by omega), List.take_length, List.take_of_length_le (by omega)]
/-- a slice from the n-th on -/
theorem cut_from (xs : List V) (n : Nat) : cutV xs (some (n : Int)) none = xs.drop n := by
  unfold cutV
  rw [HT.sIx_none, HT.sIx_nat]
  by_cases h : n ≤ xs.length
  · rw [Nat.min_eq_left h]
    exact List.take_of_length_le (by rw [List.length_drop]; omega)
  · rw [Nat.min_eq_right (by omega), Nat.sub_self, List.take_zero, List.drop_eq_nil_of_le (by omega)]

/-- a while's next turn -/
def Nx (W : Nat → L2.St → Hp → Prop) (m : Nat) : L2.St → Hp → Prop := fun σ' H' => ∃ m', m' < m ∧ W m' σ' H'
theorem Nx.id {W : Nat → L2.St → Hp → Prop} {m : Nat} : ∀ σ' H', Nx W m σ' H' → ∃ m', m' < m ∧ W m' σ' H' := fun _ _ h => h

theorem small5 {n : Nat} (h : n < 100000) : n < sizeLine := Nat.lt_of_lt_of_le h (by decide)

/-- a divisor's, a factor's bound -/
theorem divW {i j : Int} (b : Nat) (h : 0 < j) (hb : j < 2 ^ b) (h0 : 0 < b := by decide) (h9 : b ≤ 9000 := by decide) : CDivW i j := wide_div h (b := b) (by
  have e : ((2 ^ b : Nat) : Int) = (2 : Int) ^ b := by simp
  omega) h0 h9
end Fx

namespace Fx
open PySem PySem.Spec PyProof.Rows L2
/-! ### a caught exception that is kept behind its clause -/
/-- at a: a caught exception of the class, with its dict -/
def heldO (cls : Value) (d : Option Addr) (a : Addr) : HO :=
  .ext fun h => ∃ oe vs, h.get? a = some oe ∧ Zc cls d oe ∧ oe.data = .fields vs
theorem heldO_ok {P : Program} {w : World} {H : Hp} {h : Heap} {cls : Value} {d : Option Addr} {a : Addr} {o : Obj} {vs : Array Value}
    (e : h.get? a = some o) (z : Zc cls d o) (f : o.data = .fields vs) : ObjOk P w H h a (heldO cls d a) :=
  ⟨⟨o, vs, e, z, f⟩, ⟨o, e⟩, fun _ _ ⟨u, ws, q, r⟩ keep => ⟨u, ws, keep u q, r⟩⟩

section
variable {X : Cx} {pins : List (Addr × Obj)} {σ : L2.St}
variable {H : Hp} {s : Shared}
/-- an object that the entry hasn't seen may be told of from now on -/
theorem inv_tell {a : Addr} {φ : Heap → Prop} (I : Inv X pins σ H s) (free : H a = none) (new : X.s_0.heap.get? a = none)
    (notL : a ≠ X.env.locals) (notC : ∀ x c, X.env.cells.lookup x = some c → c ≠ a)
    (notP : ∀ p ∈ X.pn ++ pins, p.1 ≠ a) (ok : ObjOk X.prog X.w (upd H a (.ext φ)) s.heap a (.ext φ)) :
    Inv X pins σ (upd H a (.ext φ)) s := by
  have at0 : ∀ {b : Addr} {o : Obj}, X.s_0.heap.get? b = some o → b ≠ a := fun {b o} e z => by
    subst z
    exact nomatch new.symm.trans e
  have atH : ∀ {b : Addr} {o : HO}, H b = some o → upd H a (.ext φ) b = some o := fun {b o} e =>
    (upd_ne (ne_of_none e free)).trans e
  exact {
    ok := I.ok
    os := I.os
    bare := I.bare
    base := {
      keep := I.base.keep
      slot := I.base.slot
      free := fun b o e n x => (upd_ne (at0 e)).trans (I.base.free b o e n x)
      there := I.base.there
      tups := fun b xs e => atH (I.base.tups b xs e)
      frzs := fun b o u e => atH (I.base.frzs b o u e)
      tbls := fun b ps e => by
        obtain ⟨more, q⟩ := I.base.tbls b ps e
        exact ⟨more, atH q⟩ }
    loc := I.loc
    cell := I.cell
    free := (upd_ne (Ne.symm notL)).trans I.free
    freeC := fun x c e => (upd_ne (notC x c e)).trans (I.freeC x c e)
    pin := fun p hp => by
      obtain ⟨e, n, r⟩ := I.pin p hp
      exact ⟨e, (upd_ne (notP p hp)).trans n, r⟩
    hok := fun b o e => by
      by_cases z : b = a
      · subst z
        rw [upd_same] at e
        cases e
        exact ok
      · rw [upd_ne z] at e
        exact ObjOk.stay (I.hok b o e) (fun _ _ _ q => q) (fun _ q => atH q) (fun _ _ q => atH q)
    len := I.len }
end

/-- what 'except x as n' wishes, if the exception is kept: behind the suite it is told of -/
def wKept (K : PySem.W.Frag) (c : Value) (i : Nat) (ts : Addr → Value → Option Addr → TS) (Wout : WX) (D : Ends) : WX :=
  fun cls d σ H => ∃ b, PySem.W.exmOne K cls c = some b ∧
    (b = true → ∀ a, H a = none → ts a cls d {
        nx := fun τ G => G a = none → D.nx (τ.set i none) (upd G a (heldO cls d a))
        rt := fun v G => G a = none → D.rt v (upd G a (heldO cls d a))
        bk := fun τ G => G a = none → D.bk (τ.set i none) (upd G a (heldO cls d a))
        ct := fun τ G => G a = none → D.ct (τ.set i none) (upd G a (heldO cls d a)) }
      (σ.set i (some (.ref a))) H) ∧
    (b = false → Wout cls d σ H)

section
variable {X : Cx} {x n : Str} {c : Value} {i : Nat} {body suite : List Stmt} {b₀ : Stmt} {np pos pos' : Pos}
variable {tb : WX → TS} {ts : Addr → Value → Option Addr → TS} {Wout : WX}
theorem ps_try_kept (hex : X.ex = []) (hstk : X.stack = X.env :: X.outer) (hfrm : X.env.frame = some X.env.locals) (nd : X.N.Nodup)
    (at_i : X.N[i]? = some n) (own : X.env.kindOf n = some .local) (hc : Names X x c) (tk : Takes X Wout)
    (hbody : ∀ (W : WX) (pn : List (Addr × Obj)) (xe : Value → Shared → Prop), Takes (X.tr pn xe) W →
      PassesOwn (model X.prog X.w) X.A X.env xe → PSs (X.tr pn xe) body (tb W))
    (hsuite : ∀ (a : Addr) (oe : Obj) (cls : Value) (d : Option Addr) (pn : List (Addr × Obj)), Zc cls d oe →
      (∃ vs, oe.data = .fields vs) → PSs (X.suite a ((a, oe) :: pn)) (b₀ :: suite) (ts a cls d)) :
    PS X (.Try body [.ExceptHandler (some (.Name x np)) (some n) (b₀ :: suite) pos'] [] [] pos)
      (fun D σ H => tb (wKept X.K c i ts Wout D) D σ H) := by
  refine ⟨fun pins s σ H D I h => wpAny_Try_except ?_⟩
  have ok := I.ok
  have frames : X.A.frames = some (X.env :: X.outer) := hstk ▸ ok.frames
  have R := (hbody (wKept X.K c i ts Wout D) (X.pn ++ pins)
    (fun e s₁ => wpAny (model X.prog X.w) X.A (noteFrame e X.env) (fun _ s₂ =>
      wpAny (model X.prog X.w) X.A (setFlight e none) (fun _ s₃ =>
        wpAny (model X.prog X.w) X.A (handleBy e X.env [.ExceptHandler (some (.Name x np)) (some n) (b₀ :: suite) pos'])
          (SP X pins D) X.xe s₃) X.xe s₂) X.xe s₁) ?caught PassesOwn.looking).run [] s σ H D (Inv.toTry I _) h
  case caught =>
    rintro _ t ⟨a, B, r, ps, τ, G, cls, d, rfl, J0, gr, up, sky, nG, hos, bare, b, match_, yes, no⟩
    have J : Inv X pins τ G r := Inv.ofTry J0 ok
    rw [hstk] at gr
    replace sky : Sky B (X.env :: X.outer) a (Zc cls d) X.env.locals t.heap := hstk ▸ sky
    have J' : ∀ {u : Heap}, B.StaysIn u → r.heap.UpToSlots u → Inv X pins τ G { t with heap := u } := fun st q =>
      Inv.landed (s' := { t with heap := _ }) J (fun b o e m => gr b o e (hstk ▸ m)) st q hos bare
    refine Sky.land Zc.steady frames hfrm sky fun h₁ fl₁ up₁ => ?_
    obtain ⟨o₁, w₁, e₁, z₁, f₁⟩ := fl₁.there
    have notFrame : a ∉ frs (X.env :: X.outer) := fun m => by
      obtain ⟨_, o, e, q⟩ := fl₁.2.2.1.mem m
      cases e₁.symm.trans e
      exact q _ f₁
    have seen : ∀ {o : Obj}, r.heap.get? a ≠ some o := fun {o} e => by
      have q := gr a o e notFrame
      rw [fl₁.2.1] at q
      cases q
    have new : X.s_0.heap.get? a = none := by
      cases q : X.s_0.heap.get? a with
      | none => rfl
      | some o =>
        obtain ⟨o', e⟩ := J.base.there a o q (by rw [hex]; exact List.not_mem_nil)
        exact absurd e seen
    have notL : a ≠ X.env.locals := fun z => notFrame (List.mem_filterMap.mpr ⟨_, List.mem_cons_self, by rw [hfrm, z]⟩)
    have notF : a ∉ X.fs := fun m => by
      obtain ⟨e, em, q⟩ := List.mem_filterMap.mp m
      exact notFrame (List.mem_filterMap.mpr ⟨e, List.mem_cons_of_mem _ em, q⟩)
    have notC : ∀ y k, X.env.cells.lookup y = some k → k ≠ a := fun y k e z => by
      obtain ⟨v, o, q, _⟩ := J.cell y k e
      rw [z] at q
      exact seen q
    have notP : ∀ p ∈ X.pn ++ pins, p.1 ≠ a := fun p hp z => by
      have q := (J.pin p hp).1
      rw [z] at q
      exact seen q
    have S₁ := (J' fl₁.1 (up.trans up₁)).suite e₁ f₁ nG notL notF
    refine wpAny_handleBy_cons (codeAny_handlers_test ?_) (fun q => nomatch q)
    have ty : PySem.W.Looks (model X.prog X.w) h₁ (typeOf (.ref a)) cls := fun _ _ _ _ keep q =>
      wpAny_typeOf_ref (keep _ _ e₁) (z₁.1.symm ▸ q)
    have look := PySem.W.exm_one (M := model X.prog X.w) (J' fl₁.1 (up.trans up₁)).kIn ty match_
    suffices go : wpAny (model X.prog X.w) (X.A.mark (some (.ref a))) (eval (.Name x np) X.env) _ _ { t with heap := h₁ } from go
    have class_ : ∀ {Q : Value → Shared → Prop} {E : Value → Shared → Prop}, Q c { t with heap := h₁ } →
        wpAny (model X.prog X.w) (X.A.mark (some (.ref a))) (eval (.Name x np) X.env) Q E { t with heap := h₁ } := fun {Q E} q => by
      obtain ⟨gl, nodbg, m | ⟨m, v, nn⟩⟩ := hc
      · exact ld_glob (X := X.suite a ((a, o₁) :: (X.pn ++ pins))) S₁ gl m q nodbg
      · exact ld_blt (X := X.suite a ((a, o₁) :: (X.pn ++ pins))) S₁ gl m v q nn nodbg
    refine class_ (look.here ?_)
    cases b with
    | false =>
      show wpAny _ X.A (handleBy (.ref a) X.env []) _ _ _
      refine wpAny_handleBy_nil ?_
      obtain ⟨_, _, _, oe, vs, T, oT, us, he, hz, hd, h1, hr⟩ := id fl₁
      unfold PySem.passOn
      refine wpAny_bind (wpAny_field he hd h1 ?_)
      rw [if_neg (by simp : ¬ ((Value.ref T == Value.none) = true))]
      have out : wpAny (model X.prog X.w) X.A (setFlight (.ref a) X.env.frame) (fun _ s4 =>
          wpAny (model X.prog X.w) X.A (throw (.ref a) : Sem Flow) (SP X pins D) X.xe s4) X.xe { t with heap := h₁ } := by
        rw [hfrm]
        refine HandSPX.setFlight_upZ fl₁ fun h₂ held up₂ => wpAny_throw (tk _ _ ?_)
        exact ⟨a, B, r, pins, τ, G, cls, d, rfl, J, fun b o e m => gr b o e (hstk ▸ m), (up.trans up₁).trans up₂,
          .inr (.inr (by rw [hstk]; exact held)), nG, hos, bare, no rfl⟩
      first
        | exact wpAny_bind (wpAny_pure (wpAny_bind out))
        | exact wpAny_bind out
    | true =>
      refine codeAny_handlers_suite_as (HandSPX.lands_againZ fl₁ fun h₂ fl₂ up₂ => ?_)
      obtain ⟨o₂, w₂, e₂, z₂, f₂⟩ := fl₂.there
      have S₂ := (J' fl₂.1 ((up.trans up₁).trans up₂)).suite e₂ f₂ nG notL notF
      refine store_ok (X := X.suite a ((a, o₂) :: (X.pn ++ pins))) (v := .ref a) S₂ nd at_i (.inl own) rfl (fun s5 S5 => ?_) (.inr own)
      refine wpAny_mono ((hsuite a o₂ cls d (X.pn ++ pins) z₂ ⟨_, f₂⟩).run [] s5 _ G _ S5 (yes rfl a nG)) ?_ fun _ _ z => z.elim
      have close : ∀ {s6 : Shared} {τ6 : L2.St} {G6 : Hp} {Q : Shared → Prop}, Inv (X.suite a ((a, o₂) :: (X.pn ++ pins))) [] τ6 G6 s6 →
          (∀ s7, G6 a = none → Inv X pins (τ6.set i none) (upd G6 a (heldO cls d a)) s7 → Q s7) →
          wpAny (model X.prog X.w) X.A (do bindName X.env n .none; unbindBehindTheSuite X.env n pos') (fun _ s7 => Q s7) X.xe s6 :=
        fun {s6 τ6 G6 Q} S6 q => gone_ok (X := X.suite a ((a, o₂) :: (X.pn ++ pins))) S6 nd at_i own fun s7 S7 => by
          obtain ⟨e7, n7, _⟩ := S7.pin (a, o₂) List.mem_cons_self
          exact q s7 n7 (inv_tell (S7.unsuite ok) n7 new notL notC notP (heldO_ok e7 z₂ f₂))
      intro f s6 hs
      cases f with
      | next =>
        obtain ⟨τ6, G6, S6, q6⟩ := hs
        exact close S6 fun s7 n7 J7 => ⟨_, _, J7, q6 n7⟩
      | brk =>
        obtain ⟨τ6, G6, S6, q6⟩ := hs
        exact close S6 fun s7 n7 J7 => ⟨_, _, J7, q6 n7⟩
      | cont =>
        obtain ⟨τ6, G6, S6, q6⟩ := hs
        exact close S6 fun s7 n7 J7 => ⟨_, _, J7, q6 n7⟩
      | ret u =>
        obtain ⟨v6, τ6, G6, S6, r6, q6⟩ := hs
        exact close S6 fun s7 n7 J7 => ⟨_, _, _, J7, r6, q6 n7⟩
  refine wpAny_mono R (fun f s1 hs => ?_) fun _ _ z => z
  cases f with
  | next =>
    obtain ⟨τ, G, J, q⟩ := hs
    exact wpAny_execs_nil ⟨τ, G, Inv.ofTry J ok, q⟩
  | brk =>
    obtain ⟨τ, G, J, q⟩ := hs
    exact ⟨τ, G, Inv.ofTry J ok, q⟩
  | cont =>
    obtain ⟨τ, G, J, q⟩ := hs
    exact ⟨τ, G, Inv.ofTry J ok, q⟩
  | ret u =>
    obtain ⟨v, τ, G, J, r, q⟩ := hs
    exact ⟨v, τ, G, Inv.ofTry J ok, r, q⟩
end
end Fx

namespace Fx
open PySem PySem.Spec
open PyProof.Rows L2
/-! ### what a kept exception tells -/
/-- at a: an exception of the class at C, its own dict d -/
def KX (H : Hp) (a C : Addr) (d : Option Addr) : Prop :=
  ∃ φ : Heap → Prop, H a = some (.ext φ) ∧ ∀ h, φ h → ∃ oe vs, h.get? a = some oe ∧ Zc (.ref C) d oe ∧ oe.data = .fields vs
theorem kx_held {H : Hp} {a C : Addr} {d : Option Addr} (e : H a = some (heldO (.ref C) d a)) : KX H a C d := ⟨_, e, fun _ z => z⟩
theorem kx_made {H : Hp} {a C : Addr} {d : Option Addr} (e : H a = some (exo a C d)) : KX H a C d :=
  ⟨_, e, fun _ ⟨_, z⟩ => ⟨_, _, z, ⟨rfl, rfl⟩, rfl⟩⟩
theorem KX.same {H H' : Hp} {a C : Addr} {d : Option Addr} (k : KX H a C d) (e : ∀ o, H a = some o → H' a = some o) : KX H' a C d := by
  obtain ⟨φ, q, r⟩ := k
  exact ⟨φ, e _ q, r⟩
/-- its dict is tracked -/
def KD (H : Hp) (d : Option Addr) : Prop := ∀ x, d = some x → ∃ o, H x = some o
/-- its dict holds the value by the name -/
def KF (H : Hp) (x : Addr) (f : Str) (v : V) : Prop := ∃ fs, (H x = some (.xd fs) ∨ H x = some (exd x fs)) ∧ fs.lookup f = some v
theorem KF.same {H H' : Hp} {x : Addr} {f : Str} {v : V} (k : KF H x f v) (e : ∀ o, H x = some o → H' x = some o) : KF H' x f v := by
  obtain ⟨fs, q, r⟩ := k
  exact ⟨fs, q.imp (e _) (e _), r⟩
theorem KF.kd {H : Hp} {x : Addr} {f : Str} {v : V} (k : KF H x f v) : KD H (some x) := fun y z => by
  cases z
  obtain ⟨fs, q, _⟩ := k
  exact q.elim (fun q => ⟨_, q⟩) fun q => ⟨_, q⟩

section
variable {X : Cx} {pins : List (Addr × Obj)} {σ : L2.St} {H : Hp} {s : Shared} {a C : Addr} {d : Option Addr}
theorem kx_inst (I : Inv X pins σ H s) (k : KX H a C d) (kd : KD H d) : ∃ oe od, PySem.W.InstAt s.heap a oe C od ∧ oe.dict = d := by
  obtain ⟨φ, e, r⟩ := k
  have x : ObjOk X.prog X.w H s.heap a (.ext φ) := I.hok a _ e
  obtain ⟨oe, vs, g, z, f⟩ := r _ x.1
  have no : PySem.W.notCls oe = true := by
    unfold PySem.W.notCls
    rw [f]
  cases d with
  | none => exact ⟨oe, none, ⟨g, z.1, no, by rw [z.2]; trivial⟩, z.2⟩
  | some x =>
    obtain ⟨o, q⟩ := kd x rfl
    obtain ⟨od, hd⟩ := objOk_get (I.hok x o q)
    exact ⟨oe, some od, ⟨g, z.1, no, by rw [z.2]; exact hd⟩, z.2⟩

/-- isinstance of a kept exception -/
def rIsK (K : PySem.W.Frag) : List V → Hp → VK → Prop := fun xs H Q =>
  ∃ (a C : Addr) (d : Option Addr) (c : V) (u : Value) (b : Bool), xs = [.ref a, c] ∧ ClsV c u ∧ KX H a C d ∧ KD H d ∧ ExcC K C ∧
    PySem.W.kitOne K (.ref C) u = some b ∧ Q (.bl b) H
theorem call_isK : CallR X (.builtin "isinstance") (rIsK X.K) := by
  intro pins s σ H xs us Q I r ⟨a, C, d, c, u, b, exs, hc, k, kd, ec, e, q⟩
  subst exs
  obtain ⟨u1, u2, rfl, r1, r2⟩ := vals2 r
  obtain rfl := hc.eq r2
  obtain rfl : u1 = Value.ref a := r1
  obtain ⟨oe, od, J, _⟩ := kx_inst I k kd
  have some_ : (PySem.W.clsIn X.K C).isSome = true := by
    obtain ⟨cd, z, _⟩ := PySem.W.any_some ec.hd
    rw [z]
    rfl
  exact PySem.W.kia_one (PySem.W.kitx_exc (ox := oe) (od := od) some_ ec.hg ec.hk ec.hs ec.ha ec.hn ec.ht ec.hm) I.kIn J e
    (fun z => nomatch z) fun tk => ⟨.bl b, H, I.tok tk, rfl, q⟩

/-- e.f of a kept exception -/
def tXk (K : PySem.W.Frag) (f : Str) (te : TE) : TE := fun σ H Q => te σ H fun x H1 =>
  ∃ (a C dx : Addr) (v : V), x = .ref a ∧ KX H1 a C (some dx) ∧ XfC K C ∧ PySem.W.findIn K (.ref C) f = some none ∧ KF H1 dx f v ∧ Q v H1
theorem pe_xk {e : Expr} {te : TE} {pos : Pos} {n : Str} (he : PE X e te) (hb : attributeBase e n X.env (eval e X.env) = eval e X.env := by rfl) :
    PE X (.Attribute e n pos) (tXk X.K n te) := by
  refine ⟨fun pins s σ H Q I h => attr_of hb (thn (he.run pins s σ H _ I h) ?_)⟩
  rintro u t ⟨x, G, J, rx, a, C, dx, v, rfl, k, T, no, kf, q⟩
  obtain rfl : u = Value.ref a := rx
  obtain ⟨fs, at_, l⟩ := id kf
  obtain ⟨φ, e1, r1⟩ := k
  have x1 : ObjOk X.prog X.w G t.heap a (.ext φ) := J.hok a _ e1
  obtain ⟨oe, vs, g, z, f⟩ := r1 _ x1.1
  have ns : ∃ mA, t.heap.Ns1 dx mA ∧ ∀ y, RelO (fs.lookup y) (mA y) := by
    rcases at_ with w | w
    · exact (show ObjOk X.prog X.w G t.heap dx (.xd fs) from J.hok dx _ w)
    · exact exd_at J.hok w
  obtain ⟨mA, hn, rel⟩ := ns
  obtain ⟨od, ho, look⟩ := lookIn_ns hn
  obtain ⟨w, hw, rw_⟩ := RelO.some_of (v := v) (o := mA n) (by rw [← l]; exact rel n)
  have I2 : PySem.W.InstAt t.heap a oe C (some od) := ⟨g, z.1, by unfold PySem.W.notCls; rw [f], by rw [z.2]; exact ho⟩
  exact HandSPX.exc_get J.kIn I2 T.ga T.gg T.exC (PySem.W.findObj_own T.hdC no rfl (by rw [look, hw])) (handed_of rw_)
    ⟨v, G, J.tok _, rw_, q⟩
end

section
variable {X : Cx} {e : Expr} {es : List Expr} {p pos : Pos} {ta : TA}
/-- C(e, ..) as a value, C's own __init__ keeping sp -/
def tMkK (C : Addr) (sp : Sp) (dvs : List V) (ta : TA) : TE := fun σ H Q => ta σ H fun vs H1 => vs.length ≤ 1000 ∧
  ∀ a, H1 a = none → sp (.ref a :: (vs ++ dvs)) (upd H1 a (exo a C none)) (fun v H2 => v = .non ∧ Q (.ref a) H2) (fun _ _ _ => False)
theorem pe_oex {CX : CXT} {x : Str} {C fI : Addr} {k : Nat} {fd : FuncData} {ps : List Str} {sp : Sp} {ds : List Value} {dvs : List V} (T : OexC X.K C)
    (init : PySem.W.findIn X.K (.ref C) "__init__" = some (some (.ref fI))) (fn : PySem.W.typeIn X.K (.ref fI) = some (.type "function"))
    (F1 : FnOk X.prog X.w X.K X.mg X.base CX k fI fd ps sp) (room : Room (k + 1) X.A) (bind : Binds X.K fd ps ds) (vd : Vals dvs ds)
    (pass : Passes CX X (fun _ _ _ => False)) (hg : Gl X x) (hm : X.mg x = some (.ref C)) (args : PA X (e :: es) ta)
    (nodbg : (x == ("__debug__" : Str)) = false := by decide) (he : starEach (e :: es) X.env = (false, eval e X.env) :: starEach es X.env := by rfl)
    (plain : (backTo pos (starEach es X.env)).any (·.1) = false := by rfl) :
    PE X (.Call (.Name x p) (e :: es) [] pos) (tMkK C sp dvs ta) := by
  refine ⟨fun pins s σ H Q I h => ?_⟩
  obtain ⟨nm, q, NS, bs, bm, sn, sub, ab, col, dd, k0, k1, k2, k3, k5, hC, hbm⟩ := T.cls
  refine wpAny_Call_Name_kw (ld_glob I hg hm ?_ nodbg)
  refine PySem.W.callWith_K (h₀ := X.base) I.ok.mod.kin T.kC (thn (args.run pos pins s σ H _ I h) ?_) he plain
  rintro us ⟨hp, g, dr, tk, os⟩ ⟨vs, H1, I1, r1, short, q1⟩
  refine ⟨I1.kIn, ?_⟩
  have above : hp.objs.size ≤ hp.objs.size + 1 := Nat.le_succ _
  have new : H1 (hp.objs.size + 1) = none := I1.hok.fresh above
  have pr := q1 _ new
  obtain ⟨L, eL⟩ : ∃ L, L = (hp.push (PySem.W.kdv_tup us)).push (PySem.HandSPX.excO C hp.objs.size) := ⟨_, rfl⟩
  have kept : ∀ b o, hp.get? b = some o → L.get? b = some o := fun b o z => by
    rw [eL]
    exact Heap.get?_push_of_some _ (Heap.get?_push_of_some _ z)
  have laid : L.get? (hp.objs.size + 1) = some (PySem.HandSPX.excO C hp.objs.size) := by
    rw [eL]
    heap_get
  have I2 : Inv X pins σ (upd H1 (hp.objs.size + 1) (exo (hp.objs.size + 1) C none)) ⟨L, g, dr, tk, os⟩ :=
    I1.laid (t' := tk) kept above (exo_ok laid)
  have vals : Vals (V.ref (hp.objs.size + 1) :: (vs ++ dvs)) (Value.ref (hp.objs.size + 1) :: (us ++ ds)) := .cons rfl (r1.append vd)
  have many : (Value.ref (hp.objs.size + 1) :: us ++ ds).length = ps.length := by
    have z := vals.length
    rw [F1.len _ _ _ _ pr] at z
    exact z.symm
  have fits : us.length ≤ sizeLine := by
    rw [← Paired.length r1, sizeLine_eq]
    omega
  have run := F1.run _ X.stack _ _ ⟨Value.ref (hp.objs.size + 1) :: us, []⟩ (Value.ref (hp.objs.size + 1) :: (us ++ ds)) _ _ (fun _ _ _ => False)
    (room.make C us []) (I2.env0.make C us []) (bind _ (Value.ref (hp.objs.size + 1) :: us) I2.kIn many) vals pr
  refine (?_ : wpAny _ _ (call (.ref C) us) _ _ _)
  refine wpAny_call (PySem.HandSPX.call_own F.excBase_ValueError (fun Y => PySem.HandSPX.refsVE_contains Y bm hbm) (I1.kIn _ _ hC)
    (PySem.W.looks_findIn I1.kIn init) (fun self => PySem.W.bind_fn I1.kIn self fn) fits ?_)
  rw [← eL]
  refine codeAny_mono run fun r s' end_ => ?_
  cases r with
  | error er => exact pass pins σ _ _ er s' I2 end_
  | ok fl =>
    cases fl with
    | ret u =>
      obtain ⟨v, H2, J, rv, ev, q2⟩ := I2.after end_
      subst ev
      exact ⟨rv, .ref (hp.objs.size + 1), H2, J, rfl, q2⟩
    | next => exact False.elim end_
    | brk => exact False.elim end_
    | cont => exact False.elim end_
end
end Fx

namespace Fx
open PySem PySem.Spec PyProof.Rows L2 NdefX
/-! ### an __init__ that begins with super().__init__(..), its class over ValueError -/
section
variable {prog : Program} {w : World} {A : Around} {E : Value → Shared → Prop}
variable {h : Heap} {g : Array GenState} {d : Drawn} {t : Nat} {os : OsState}
variable {nm q : Str} {C N : Addr} {bs bm : List Value} {dct : Bool} {sn : List Str} {sub : List Value} {ab : Bool} {col : Option Bool}
variable {dd : Option Addr} {k0 k1 k2 k3 k5 : Option Value}
/-- ValueError.__init__, bound to the object, called: the object's arguments are laid anew -/
theorem call_bound_VE {u e t0 : Addr} {rest : List Value} {Q : Value → Shared → Prop}
    (cls : h.get? C = some (excClassObj nm q C N bs bm dct sn sub ab col dd k0 k1 k2 k3 k5 "ValueError.__new__"))
    (he : h.get? e = some (HandSPX.excO C t0)) (hu : h.get? u = some (PySem.W.kxs_mw "ValueError.__init__" e)) (short : rest.length ≤ sizeLine)
    (fin : ∀ h' t1, (∀ b o, b ≠ e → h.get? b = some o → h'.get? b = some o) → h'.get? e = some (HandSPX.excO C t1) → Q .none ⟨h', g, d, t, os⟩) :
    wpAny (model prog w) A (call (.ref u) rest) Q E ⟨h, g, d, t, os⟩ := by
  refine wpAny_call (codeAny_of_tree (show wpAny _ A.in1 (callAny (.ref u) ⟨rest, []⟩) _ _ _ from ?_))
  unfold callAny
  refine wpAny_bind (wpAny_load hu ?_)
  have eqs : (Value.type "method-wrapper" == Value.type "method" || Value.type "method-wrapper" == Value.type "builtin_function_or_method" ||
      Value.type "method-wrapper" == Value.type "method-wrapper") = true := by decide
  simp only [PySem.W.kxs_mw, eqs, if_true]
  refine PySem.W.KFB.if_so (by decide) ?_
  refine wpAny_bind (PySem.W.check_bound_init F.excBase_ValueError.toExcCallFacts cls he rfl ?_)
  refine wpAny_bind (wpAny_pure (wpAny_pure ⟨plainId_quiet F.excBase_ValueError.init.plain _, ?_⟩))
  refine codeAny_builtin F.excBase_ValueError.initEntry ?_
  exact PySem.W.exc_init_tree (cls := .ref C) (t0 := t0) (dv := none) (c2 := .none) (c3 := .none) (b4 := .bool false) he short
    fun h' keep own _ => fin h' _ keep own
end

section
variable {X : Cx} {σ : L2.St} {H : Hp} {s : Shared} {f cc C cda a : Addr} {body : List Stmt} {fd : FuncData} {ccl cl oc : Value} {cdd cld od : Option Addr}
variable {ccs csl osl : Array (Option Value)} {e : Expr} {p0 p1 p2 p3 p4 : Pos} {ar : Arg} {vs0 : Array Value} {file : Str} {tf : Tok} {pl : Sem Bool}
variable {m : Str → Option Value} {ta : TA} {Q : Hp → Prop}
/-- the statement super().__init__(e) -/
theorem sup_run (I : Inv X [] σ H s) (fu : X.env.func = some f) (lk : X.K.lookup f = some ⟨oc, od, .func fd, osl⟩)
    (first : (fd.params.posonlyargs ++ fd.params.args).head? = some ar) (co : X.env.code = .ref cda)
    (code : X.K.lookup cda = some ⟨ccl, cdd, .fields vs0, ccs⟩) (hvs : vs0[2]? = some (.str file tf))
    (main : ((X.prog.main.file : Str) == file) = true) (top : (X.prog.main.scope.names.lookup ("super" : Str)).isSome = false)
    (hcc : X.env.cells.lookup ("__class__" : Str) = some cc)
    (cell : X.K.lookup cc = some ⟨cl, cld, .cell (some (.ref C)), csl⟩) (T : OexC X.K C)
    (sup : PySem.W.ks_superIn X.K C C "__init__" = some (some (.builtin "ValueError.__init__")))
    (subV : PySem.W.subIn X.K (.ref C) (.type "ValueError") = some true) (subC : PySem.W.mroIn X.K C (.ref C) = some true)
    (hob : PySem.W.nsIn X.K cStatics "thirdparty.any" = some none)
    (ks : X.env.kindOf "super" = some .globalImplicit) (kc : X.env.kindOf "__class__" = some .free) (mgs : X.mg "super" = none)
    (ka : X.env.kindOf ar.arg = some .local) (hns : s.heap.Ns X.env.locals m) (hv : m ar.arg = some (.ref a)) (ha : H a = some (exo a C none))
    (quiet : interactive X.env = false)
    (hs : swapsWith (.Call (.Attribute (.Call (.Name "super" p0) [] [] p1) "__init__" p2) [e] [] p3) none p4.line X.env = pure false)
    (hev : eval (.Call (.Attribute (.Call (.Name "super" p0) [] [] p1) "__init__" p2) [e] [] p3) X.env = (do
      let ov ← attributeBase (.Call (.Name "super" p0) [] [] p1) "__init__" X.env (eval (.Call (.Name "super" p0) [] [] p1) X.env)
      standAt p2.atName
      let (f, first) ← holding [ov] (getMethod ov "__init__" pl)
      callWith p3 f first (backTo p3 (starEach [e] X.env)) []))
    (star : starEach [e] X.env = (false, eval e X.env) :: starEach [] X.env)
    (hargs : PA X [e] ta) (hq : ta σ H fun ws H1 => ws.length ≤ 1000 ∧ H1 a = some (exo a C none) ∧ Q H1) :
    _root_.PySem.wpAt (model X.prog X.w) X.A (.func body X.env)
      (exec (.Expr (.Call (.Attribute (.Call (.Name "super" p0) [] [] p1) "__init__" p2) [e] [] p3) p4) X.env)
      (fun fl s' => fl = .next ∧ ∃ H1, Inv X [] σ H1 s' ∧ Q H1) X.xe s := by
  obtain ⟨nm, q, NS, bs, bm, sn, sub, ab, col, dd, k0, k1, k2, k3, k5, hC, hbm⟩ := T.cls
  have KI := I.kIn
  obtain ⟨t1, ho⟩ := exo_at I.hok ha
  have hcl : ∃ cd, PySem.W.clsIn X.K C = some cd := ⟨_, by unfold PySem.W.clsIn; rw [hC] <;> rfl⟩
  obtain ⟨cd, hcd⟩ := hcl
  have inst : PySem.W.InstAt s.heap a { cls := .ref C, dict := none, data := .fields #[.ref t1, .none, .none, .none, .bool false, .none] } C none :=
    ⟨ho, rfl, rfl, trivial⟩
  have neC : a ≠ C := PySem.W.ks_ne KI inst hcd
  refine ks_wpAt_Expr_any ?_ quiet hs
  refine ks_wpAt_MethodCall (pl := pl) ?_ hev
  obtain ⟨hp, g, d, tk, os⟩ := s
  obtain ⟨mb, b1, b2⟩ := I.mod.blt
  refine ks_wpAt_super_base ks kc (by decide) fu (KI _ _ lk) rfl first co (KI _ _ code) rfl hvs main top ?_
  refine PySem.W.ks_loadName_global I.ok.kind ks (Calls.loadGlobal_builtin (by rw [I.ok.glob]; exact I.mod.glob.keeps I.bk) mgs
    (by rw [I.ok.blt]; exact b1.keeps I.bk) (b2 _ (by decide)) ⟨by first | boot_by_name | rfl | kernel_rfl, ?_⟩)
  refine wpAny_loadName_free I.ok.kind kc hcc ⟨_, KI _ _ cell, rfl⟩ ?_
  refine wpAny_loadName_local I.ok.kind ka hns hv ?_
  have hCd : hp.get? C = _ := KI _ _ hC
  refine ks_wpAny_isType_cls hCd rfl ⟨rfl, ?_⟩
  refine ks_wpAny_call_super hCd rfl ho rfl (fun c z => by cases z) (PySem.W.looks_mroIn KI subC) (fun h₂ so keep₂ => ?_)
  have I₂ : Inv X [] σ H ⟨h₂, g, d, tk, os⟩ := I.kept (t' := tk) keep₂
  have KI₂ := I₂.kIn
  have inst₂ : PySem.W.InstAt h₂ a { cls := .ref C, dict := none, data := .fields #[.ref t1, .none, .none, .none, .bool false, .none] } C none :=
    ⟨keep₂ _ _ ho, rfl, rfl, trivial⟩
  have isV : PySem.W.Looks (model X.prog X.w) h₂ (isInstance (.ref a) (.type "ValueError")) true := inst₂.type.andThen (PySem.W.looks_subIn KI₂ subV)
  unfold PySem.W.ks_superIn at sup
  rw [hcd] at sup
  refine PySem.W.kxs_getMethod PySem.W.kxs_ValueError so (PySem.W.looks_opaque KI₂ hob) (l₀ := cd.mro)
    (fun A Q E s k q => wpAny_bind ((PySem.W.looks_clsIn KI₂ hcd) A _ E s k (wpAny_pure q))) rfl KI₂ sup isV neC (by decide) ?_
  have lay : ∀ b o, h₂.get? b = some o → (h₂.push (PySem.W.kxs_mw "ValueError.__init__" a)).get? b = some o := fun b o z => Heap.get?_push_of_some _ z
  have I₃ : Inv X [] σ H ⟨h₂.push (PySem.W.kxs_mw "ValueError.__init__" a), g, d, tk + 1, os⟩ := I₂.kept (t' := tk + 1) lay
  have I₄ : Inv X [(h₂.objs.size, PySem.W.kxs_mw "ValueError.__init__" a)] σ H ⟨h₂.push (PySem.W.kxs_mw "ValueError.__init__" a), g, d, tk + 1, os⟩ :=
    I₃.pins_of fun p hp' => by
      rw [List.mem_singleton] at hp'
      subst hp'
      exact ⟨Heap.get?_push_at rfl rfl, I₂.hok.fresh (Nat.le_refl _), Nat.ne_of_gt I₂.lt, I₂.nofs (Nat.le_refl _), fun v z => by cases z⟩
  rw [star]
  refine PySem.W.kxs_callWith (i := "ValueError.__init__") (x := a) rfl ?_
  refine Calls.evalArgs_plain ?_
  have A1 := hargs.run p3 _ _ σ H _ I₄ hq
  rw [star] at A1
  refine thn A1 fun us s5 ⟨ws, H5, I5, r5, hlen, ha5, q5⟩ => ?_
  have hu5 := (I5.pin (h₂.objs.size, PySem.W.kxs_mw "ValueError.__init__" a) (List.mem_append.mpr (.inr List.mem_cons_self))).1
  refine ⟨hu5, ?_⟩
  obtain ⟨t5, ho5⟩ := exo_at I5.hok ha5
  have I6 : Inv X [] σ H5 s5 := I5.pins_of fun p z => nomatch z
  obtain ⟨hp5, g5, d5, tk5, os5⟩ := s5
  have short : us.length ≤ sizeLine := by
    rw [← Paired.length r5, sizeLine_eq]
    omega
  refine call_bound_VE (I6.kIn _ _ hC) ho5 hu5 short fun h' t' keep own => ⟨rfl, H5, ?_, q5⟩
  have J := I6.write (t' := tk5) (x := a) (e := a) (o := exo a C none) (by rw [ha5]; exact True.intro) (.inl rfl) keep ⟨_, own⟩ (exo_ok own)
  have same : upd H5 a (exo a C none) = H5 := by
    funext b
    by_cases z : b = a
    · rw [z, upd_same, ha5]
    · rw [upd_ne z]
  rw [same] at J
  exact J
end

section
variable {CX : CXT} {P : Program} {w : World} {K : PySem.W.Frag} {mg : Str → Option Value} {base : Heap} {k : Nat} {f cc C cda : Addr}
variable {name qual : Str} {params : Arguments} {st : Stmt} {rest : List Stmt} {scope : Scope} {dV kV doc pm ct oc ccl cl : Value}
variable {an od cdd cld : Option Addr} {osl ccs csl : Array (Option Value)} {N ps : List Str} {sp : Sp} {e : Expr} {p0 p1 p2 p3 p4 : Pos}
variable {ar : Arg} {vs0 : Array Value} {file : Str} {tf : Tok} {pl : Env → Sem Bool}
abbrev supNF (name qual : Str) (params : Arguments) (body : List Stmt) (scope : Scope) (cc cda : Addr) : NF :=
  ⟨name, qual, params, body, scope, [("__class__", cc)], cda⟩
theorem fn_sup
    (lk : K.lookup f = some ⟨oc, od, .func (PySem.W.ksFn name qual params (st :: rest) scope dV kV doc pm an (.ref cda) ct cc), osl⟩)
    (hcd : PySem.W.codeIn K (.ref cda) qual = true)
    (hst : st = .Expr (.Call (.Attribute (.Call (.Name "super" p0) [] [] p1) "__init__" p2) [e] [] p3) p4)
    (S : NScope N ps ["__class__"] scope)
    (code : K.lookup cda = some ⟨ccl, cdd, .fields vs0, ccs⟩) (hvs : vs0[2]? = some (.str file tf))
    (main : ((P.main.file : Str) == file) = true) (top : (P.main.scope.names.lookup ("super" : Str)).isSome = false)
    (cell : K.lookup cc = some ⟨cl, cld, .cell (some (.ref C)), csl⟩) (T : OexC K C)
    (sup : PySem.W.ks_superIn K C C "__init__" = some (some (.builtin "ValueError.__init__")))
    (subV : PySem.W.subIn K (.ref C) (.type "ValueError") = some true) (subC : PySem.W.mroIn K C (.ref C) = some true)
    (hob : PySem.W.nsIn K cStatics "thirdparty.any" = some none)
    (ks : scope.names.lookup ("super" : Str) = some .globalImplicit) (mgs : mg "super" = none)
    (first : (params.posonlyargs ++ params.args).head? = some ar) (par0 : ps[0]? = some ar.arg)
    (len : ∀ vs H Q E, sp vs H Q E → vs.length = ps.length)
    (hs : ∀ env : Env, swapsWith (.Call (.Attribute (.Call (.Name "super" p0) [] [] p1) "__init__" p2) [e] [] p3) none p4.line env = pure false)
    (hev : ∀ env : Env, eval (.Call (.Attribute (.Call (.Name "super" p0) [] [] p1) "__init__" p2) [e] [] p3) env = (do
      let ov ← attributeBase (.Call (.Name "super" p0) [] [] p1) "__init__" env (eval (.Call (.Name "super" p0) [] [] p1) env)
      standAt p2.atName
      let (f, first) ← holding [ov] (getMethod ov "__init__" (pl env))
      callWith p3 f first (backTo p3 (starEach [e] env)) []))
    (star : ∀ env : Env, starEach [e] env = (false, eval e env) :: starEach [] env)
    (hbody : ∀ (A : Around) (outer : List Env) (s : Shared) (H : Hp) (vs : List V) (Q : VK) (E : XK),
      Room k (A.deeper (envF (supNF name qual params (st :: rest) scope cc cda) f s.heap.objs.size)) → sp vs H Q E → ∃ (a : Addr) (ta : TA) (tr : TS),
        vs[0]? = some (.ref a) ∧ H a = some (exo a C none) ∧
        PA (ncx CX P w K mg base N (supNF name qual params (st :: rest) scope cc cda) f A outer s H E) [e] ta ∧
        PSs (ncx CX P w K mg base N (supNF name qual params (st :: rest) scope cc cda) f A outer s H E) rest tr ∧
        ta (startF N vs [some (.ref C)]) H fun ws H1 => ws.length ≤ 1000 ∧ H1 a = some (exo a C none) ∧
          tr { nx := fun _ H' => Q .non H', rt := Q } (startF N vs [some (.ref C)]) H1) :
    FnOk P w K mg base CX (k + 1) f (PySem.W.ksFn name qual params (st :: rest) scope dV kV doc pm an (.ref cda) ct cc) ps sp := by
  refine ⟨len, fun A outer s H args us vs Q E room e0 bind r hsp => ?_⟩
  have hl := len _ _ _ _ hsp
  have KX : K.In s.heap := e0.mod.kin.keeps fun b o q => (e0.bs b o q).1
  have lim : s.heap.NoLimit := e0.mod.nolimit.keeps fun b o q => (e0.bs b o q).1
  obtain ⟨a, ta, tr, va, ha, hta, htr, hq⟩ := hbody A outer s H vs Q E (room.deeper _) hsp
  have cells : CellsAt [(("__class__" : Str), cc)] ["__class__"] [some (.ref C)] s.heap H := by
    have lcc : ∀ {y : Str} {c : Addr}, List.lookup y [(("__class__" : Str), cc)] = some c → y = "__class__" ∧ c = cc := fun {y c} q => by
      have m := PySem.mem_of_lookup q
      simp only [List.mem_singleton, Prod.mk.injEq] at m
      exact m
    refine ⟨rfl, fun y c q => ?_, fun x y c q1 q2 => (lcc q1).1.trans (lcc q2).1.symm, fun i y q => ?_⟩
    · rw [(lcc q).2]
      exact ⟨(e0.bs _ _ (e0.mod.kin _ _ cell)).2, _, _, KX _ _ cell, rfl⟩
    · cases i with
      | succ n => cases n <;> cases q
      | zero =>
        cases q
        refine ⟨cc, by simp [List.lookup], fun v z => ?_⟩
        cases z
        exact ⟨_, rfl, _, KX _ _ cell, rfl⟩
  refine ks_codeAny_call_defAt (body := st :: rest) (binds := ps.zip us) room.depth (KX _ _ lk) rfl lim (PySem.W.codeRec_of KX hcd) rfl bind
    S.nocell (fun ⟨n, _⟩ m => S.par n (List.of_mem_zip m).1) (fun h₁ hns kp => ?_) S.co S.gen S.kind
  have I : Inv (ncx CX P w K mg base N (supNF name qual params (st :: rest) scope cc cda) f A outer s H E) [] (startF N vs [some (.ref C)]) H
      { s with heap := h₁, toks := s.toks + (ps.zip us).length } := inv_startN S room.hd e0 hl r cells hns kp
  obtain ⟨X, eX⟩ : ∃ X, X = ncx CX P w K mg base N (supNF name qual params (st :: rest) scope cc cda) f A outer s H E := ⟨_, rfl⟩
  obtain ⟨env, ee⟩ : ∃ env, env = envF (supNF name qual params (st :: rest) scope cc cda) f s.heap.objs.size := ⟨_, rfl⟩
  show _root_.PySem.wpAt (model P w) (A.deeper (envF (supNF name qual params (st :: rest) scope cc cda) f s.heap.objs.size))
    (.func (st :: rest) (envF (supNF name qual params (st :: rest) scope cc cda) f s.heap.objs.size))
    (execs (st :: rest) (envF (supNF name qual params (st :: rest) scope cc cda) f s.heap.objs.size)) _ _ _
  refine ks_wpAt_execs_cons ?_
  have frs_ : ∀ {y : Str} {v : Value}, (ps.zip us)[0]? = some (y, v) → ((ps.zip us).reverse).lookup y = some v := fun {y v} q => by
    rw [List.getElem?_zip_eq_some] at q
    exact zip_look (by
      have z := congrArg (List.take ps.length) S.pre
      rw [List.take_take, Nat.min_eq_left (Nat.le_add_right _ _), List.take_left'  rfl] at z
      rw [← z]
      exact S.nd.sublist (List.take_sublist _ _)) q.1 q.2
  obtain ⟨u0, hu0, ru0⟩ := r.get va
  obtain rfl : u0 = Value.ref a := ru0
  have hv : ((ps.zip us).reverse).lookup ar.arg = some (.ref a) := frs_ (by rw [List.getElem?_zip_eq_some]; exact ⟨par0, hu0⟩)
  have run := sup_run (body := st :: rest) (pl := pl _) (p0 := p0) (p1 := p1) (p2 := p2) (p3 := p3) (p4 := p4) (Q := fun H1 =>
      tr { nx := fun _ H' => Q .non H', rt := Q } (startF N vs [some (.ref C)]) H1) I rfl lk first rfl code hvs main top (show List.lookup _ [(_, cc)] = some cc by simp [List.lookup]) cell T sup subV subC hob
    ks (S.frk _ List.mem_cons_self) mgs (S.par _ (List.mem_of_getElem? par0)) hns hv ha (by
      show (scope.kind == .module && _) = false
      rw [show scope.kind = .function from S.kind]; rfl) (hs _) (hev _) (star _) hta hq
  rw [← hst] at run
  refine ks_wpAt_mono run (fun fl s' ⟨efl, H1, J, q⟩ => ?_) fun _ _ z => z
  subst efl
  refine wpAt_of_wpAny (wpAny_mono (htr.run [] s' _ H1 _ J q) (fun fl s6 h6 => ?_) fun _ _ z => z)
  have fin : ∀ {τ : L2.St} {G : Hp} {v : V} {u : Value}, Inv (ncx CX P w K mg base N (supNF name qual params (st :: rest) scope cc cda) f A outer s H E) [] τ G s6 →
      L2.RelV v u → Q v G → CE outer P w H s Q u s6 := fun {τ G v u} J rv q => ⟨v, G, J.os, J.bare, J.base, J.hok, rv, q⟩
  cases fl with
  | ret u =>
    obtain ⟨v, τ, G, J, rv, q⟩ := h6
    exact fin J rv q
  | next =>
    obtain ⟨τ, G, J, q⟩ := h6
    exact fin (v := V.non) (u := Value.none) J rfl q
  | brk =>
    obtain ⟨_, _, _, q⟩ := h6
    exact False.elim q
  | cont =>
    obtain ⟨_, _, _, q⟩ := h6
    exact False.elim q
end
end Fx

namespace Fx
open PySem PySem.Spec
open PyProof.Rows L2 NdefX
/-! ### what the written part says of the text's exception classes -/
structure XCls (K : PySem.W.Frag) (C : Addr) : Prop where
  hd : PySem.W.hasDictIn K C = true
  ty : PySem.W.typeIn K (.ref C) = some (.type "type")
  bx : PySem.W.subIn K (.ref C) (.type "BaseException") = some true
/-- of a class that has instances -/
structure XIns (K : PySem.W.Frag) (R : Addr) : Prop where
  sa : PySem.W.findIn K (.ref R) "__setattr__" = some (some (.builtin "object.__setattr__"))
  ga : PySem.W.findIn K (.ref R) "__getattribute__" = some (some (.builtin "BaseException.__getattribute__"))
  gg : PySem.W.findIn K (.ref R) "__getattr__" = some none
  ca : PySem.W.findIn K (.ref R) "__class__" = some (some (.builtin "object.__class__"))
  cn : PySem.W.specialIn K (.builtin "object.__class__") "__get__" =
    some (some (.builtin "getset_descriptor.__get__"))
  ct : PySem.W.takesIn K
    (.builtin "object.__class__") = some true
  mo : PySem.W.mroIn K R (.type "object") = some true
  kp : PySem.W.keepIn K (.ref R) = true
  me : PySem.W.subIn K (.ref R) (.ref R) = some true
  ve : PySem.W.subIn K (.ref R) (.type "ValueError") = some true
  cls : ∃ nm q N bs bm sn sub ab col dd k0 k1 k2 k3 k5,
    K.lookup R = some (excClassObj nm q R N bs bm true sn sub ab col dd k0 k1 k2 k3 k5 "ValueError.__new__") ∧ HandSPX.refsVE bm = true
section
variable {K : PySem.W.Frag} {C R : Addr} {b : Bool}
theorem XIns.exc (x : XIns K R) (c : XCls K R) : ExcC K R := ⟨x.ga, x.gg, c.bx, c.hd, x.ca, x.cn, x.ct, x.mo⟩
theorem XIns.oex (x : XIns K R) (c : XCls K R) : OexC K R := ⟨x.cls, x.sa, c.bx, c.ty, x.kp⟩
theorem XIns.fld (x : XIns K R) (c : XCls K R) : XfC K R := ⟨x.ga, x.gg, c.bx, c.hd⟩
theorem kit_own (c : XCls K C) (me : PySem.W.subIn K (.ref R) (.ref R) = some true) (s : PySem.W.subIn K (.ref R) (.ref C) = some b) :
    PySem.W.kitOne K (.ref R) (.ref C) = some b := by
  unfold PySem.W.kitOne
  by_cases e : ((Value.ref R : Value) == .ref C) = true
  · have z : R = C := Value.ref.inj (beq_iff_eq.mp e)
    rw [if_pos e, ← s, ← z, me]
  · rw [if_neg e]
    unfold PySem.W.kitCls
    obtain ⟨cd, h, _⟩ := PySem.W.any_some c.hd
    have t : ((PySem.W.clsIn K C).isSome && PySem.W.typeIn K (.ref C) == some (.type "type")) = true := by
      rw [h, c.ty]
      rfl
    dsimp only
    rw [if_pos t]
    exact s
theorem kit_VE (s : PySem.W.subIn K (.ref R) (.type "ValueError") = some b) : PySem.W.kitOne K (.ref R) (.type "ValueError") = some b := by
  unfold PySem.W.kitOne
  have ne : ¬ ((Value.ref R : Value) == .type "ValueError") = true := fun z => by
    have e : Value.ref R = Value.type "ValueError" := beq_iff_eq.mp z
    cases e
  rw [if_neg ne]
  unfold PySem.W.kitCls
  dsimp only
  rw [if_pos (by decide +kernel)]
  exact s
theorem exm_own (c : XCls K C) (s : PySem.W.subIn K (.ref R) (.ref C) = some b) : PySem.W.exmOne K (.ref R) (.ref C) = some b :=
  PySem.W.exm_ref c.bx c.hd c.ty s
end

/-- the __init__ of R, at f: the text st, beginning with super().__init__(..) -/
structure SupTx (P : Program) (K : PySem.W.Frag) (R f : Addr) (fd : FuncData) (name qual : Str) (st : Stmt) : Prop where
  init : PySem.W.findIn K (.ref R) "__init__" = some (some (.ref f))
  fn : PySem.W.typeIn K (.ref f) = some (.type "function")
  ex : ∃ (oc dV kV doc pm ct ccl cl : Value) (an od cdd cld : Option Addr) (osl ccs csl : Array (Option Value)) (cc cda : Addr) (vs0 : Array Value) (file : Str) (tf : Tok),
    fd = PySem.W.ksFn name qual (defArgs st) (defBody st) (defScope st) dV kV doc pm an (.ref cda) ct cc ∧
    K.lookup f = some ⟨oc, od, .func fd, osl⟩ ∧
    PySem.W.codeIn K (.ref cda) qual = true ∧
    K.lookup cda = some ⟨ccl, cdd, .fields vs0, ccs⟩ ∧ vs0[2]? = some (.str file tf) ∧ ((P.main.file : Str) == file) = true ∧
    K.lookup cc = some ⟨cl, cld, .cell (some (.ref R)), csl⟩
  sup : PySem.W.ks_superIn K R R "__init__" = some (some (.builtin "ValueError.__init__"))
  top : (P.main.scope.names.lookup ("super" : Str)).isSome = false
  mr : PySem.W.mroIn K R (.ref R) = some true
  ob : PySem.W.nsIn K cStatics "thirdparty.any" = some none

/-- what such an __init__ promises: the one field, its value a whole number -/
def sp_exc1 (R : Addr) (f : Str) : Sp := fun vs H Q _ => ∃ (a : Addr) (i : Int), vs = [.ref a, .int i] ∧ i.natAbs.log2 < 1920 ∧ H a = some (exo a R none) ∧
  ∀ dx, H dx = none → dx ≠ a → Q .non (upd (upd H dx (exd dx [(f, .int i)])) a (exo a R (some dx)))
end Fx

namespace Fx
open PySem PySem.Spec PyProof.Rows L2
/-! ### lists of numbers as they stand -/
def ivs (l : List Nat) : List V := l.map fun (k : Nat) => V.int (k : Int)
theorem ivs_map (l : List Nat) : ivs l = (l.map fun (k : Nat) => (k : Int)).map V.int := by
  unfold ivs
  rw [List.map_map]
  rfl
theorem ivs_append (l r : List Nat) : ivs (l ++ r) = ivs l ++ ivs r := List.map_append
theorem ivs_length (l : List Nat) : (ivs l).length = l.length := List.length_map ..
theorem ivs_reverse (l : List Nat) : (ivs l).reverse = ivs l.reverse := by
  unfold ivs
  rw [List.map_reverse]
theorem ivs_get {l : List Nat} {i : Nat} {x : V} (h : (ivs l)[i]? = some x) : ∃ k, l[i]? = some k ∧ x = V.int (k : Int) := by
  unfold ivs at h
  rw [List.getElem?_map] at h
  cases e : l[i]? with
  | none => rw [e] at h; cases h
  | some k =>
    rw [e] at h
    exact ⟨k, rfl, (Option.some.inj h).symm⟩
theorem ivs_at {l : List Nat} {i k : Nat} (h : l[i]? = some k) : (ivs l)[i]? = some (V.int (k : Int)) := by
  unfold ivs
  rw [List.getElem?_map, h]
  rfl
theorem sum_cast : ∀ l : List Nat, (l.map fun (k : Nat) => (k : Int)).sum = ((l.sum : Nat) : Int)
  | [] => rfl
  | a :: r => by
    rw [List.map_cons, List.sum_cons, List.sum_cons, sum_cast r]
    simp
theorem same_own {H H' : Hp} {p : Addr} {o : HO} (a : Same H H') (hp : H p = none) : Same H (upd H' p o) := fun b u e => by
  rw [upd_ne (ne_of_none e hp)]
  exact a b u e

/-! ### data that are compared -/
def dInts (l : List Int) : List PyData := l.map PyData.int
theorem dpAll_ints {K : PySem.W.Frag} {H : Hp} : ∀ l : List Int, DpAll K H (l.map V.int) (dInts l)
  | [] => .nil
  | a :: r => .cons (.int a) (dpAll_ints r)
theorem dpAll_ivs {K : PySem.W.Frag} {H : Hp} (l : List Nat) : DpAll K H (ivs l) (dInts (l.map fun (k : Nat) => (k : Int))) := by
  rw [ivs_map]
  exact dpAll_ints _
theorem canLay_ints : ∀ l : List Int, PyData.canLayAll0 (dInts l) = true
  | [] => rfl
  | a :: r => by
    unfold dInts
    rw [List.map_cons, PyData.canLayAll0]
    have h := canLay_ints r
    unfold dInts at h
    rw [h]
    rfl
theorem depth_ints : ∀ l : List Int, PyData.depthAll (dInts l) ≤ 1
  | [] => by unfold dInts; rw [List.map_nil]; unfold PyData.depthAll; decide
  | a :: r => by
    have h := depth_ints r
    unfold dInts at h ⊢
    rw [List.map_cons]
    unfold PyData.depthAll PyData.depth
    omega
theorem shaped_list {ds : List PyData} (h : PyData.canLayAll0 ds = true) (d : PyData.depthAll ds ≤ 60) : SeqAt.shaped (.list ds) = true := by
  unfold SeqAt.shaped
  rw [Bool.and_eq_true]
  refine ⟨by rw [PyData.canLay0]; exact h, decide_eq_true ?_⟩
  unfold PyData.depth
  omega
theorem shaped_tup {ds : List PyData} (h : PyData.canLayAll0 ds = true) (d : PyData.depthAll ds ≤ 60) : SeqAt.shaped (.tuple ds) = true := by
  unfold SeqAt.shaped
  rw [Bool.and_eq_true]
  refine ⟨by rw [PyData.canLay0]; exact h, decide_eq_true ?_⟩
  unfold PyData.depth
  omega
theorem shaped_ints (l : List Int) : SeqAt.shaped (.list (dInts l)) = true := shaped_list (canLay_ints l) (Nat.le_trans (depth_ints l) (by decide))
theorem shaped_tints (l : List Int) : SeqAt.shaped (.tuple (dInts l)) = true := shaped_tup (canLay_ints l) (Nat.le_trans (depth_ints l) (by decide))
theorem eqv_same {d : PyData} (h : SeqAt.shaped d = true) : PyData.eqv d d = true := SeqAt.eqv_refl d (SeqAt.canLay_of_shaped h)
end Fx

namespace Fx
/-! ### figures -/
/-- figures, the least place first -/
def lsd (b n : Nat) : List Nat := if h : 2 ≤ b ∧ b ≤ n then (n % b) :: lsd b (n / b) else [n]
termination_by n
decreasing_by exact Nat.div_lt_self (by omega) (by omega)
theorem lsd_lt {b n : Nat} (h : n < b) : lsd b n = [n] := by
  rw [lsd, dif_neg (by omega)]
theorem lsd_ge {b n : Nat} (hb : 2 ≤ b) (h : b ≤ n) : lsd b n = n % b :: lsd b (n / b) := by
  rw [lsd, dif_pos ⟨hb, h⟩]
theorem lsd_split {b r : Nat} (hb : 2 ≤ b) : lsd b r = r % b :: (if r / b = 0 then [] else lsd b (r / b)) := by
  by_cases h : b ≤ r
  · have : r / b ≠ 0 := by
      have := Nat.div_pos h (by omega)
      omega
    rw [if_neg this, lsd_ge hb h]
  · rw [if_pos (Nat.div_eq_of_lt (by omega)), lsd_lt (by omega), Nat.mod_eq_of_lt (by omega)]
theorem lsd_below {b : Nat} (hb : 2 ≤ b) : ∀ n : Nat, ∀ d ∈ lsd b n, d < b := fun n => by
  induction n using Nat.strongRecOn with
  | ind n ih =>
    intro d hd
    by_cases h : b ≤ n
    · rw [lsd_ge hb h] at hd
      rcases List.mem_cons.mp hd with rfl | hd
      · exact Nat.mod_lt _ (by omega)
      · exact ih (n / b) (Nat.div_lt_self (by omega) (by omega)) d hd
    · rw [lsd_lt (by omega)] at hd
      cases List.mem_singleton.mp hd
      omega
theorem lsd_ne {b n : Nat} : lsd b n ≠ [] := by
  rw [lsd]
  split <;> simp
theorem lsd_len {b : Nat} (hb : 2 ≤ b) : ∀ (k n : Nat), n < b ^ (k + 1) → (k = 0 ∨ b ^ k ≤ n) → (lsd b n).length = k + 1
  | 0, n, h, _ => by
    rw [Nat.zero_add, Nat.pow_one] at h
    rw [lsd_lt h]
    rfl
  | k + 1, n, h, g => by
    have g' : b ^ (k + 1) ≤ n := by
      rcases g with g | g
      · omega
      · exact g
    have p : 0 < b ^ k := Nat.pow_pos (by omega)
    have h1 : b ≤ n := by
      rw [Nat.pow_succ] at g'
      have := Nat.mul_le_mul_right b (show 1 ≤ b ^ k by omega)
      omega
    rw [lsd_ge hb h1, List.length_cons, lsd_len hb k (n / b)]
    · rw [Nat.div_lt_iff_lt_mul (by omega), ← Nat.pow_succ]
      exact h
    · right
      rw [Nat.le_div_iff_mul_le (by omega), ← Nat.pow_succ]
      exact g'
theorem lsd_get {b : Nat} (hb : 2 ≤ b) : ∀ (i n : Nat), i < (lsd b n).length → (lsd b n)[i]? = some (n / b ^ i % b)
  | 0, n, _ => by
    rw [lsd_split hb, Nat.pow_zero, Nat.div_one]
    rfl
  | i + 1, n, h => by
    rw [lsd_split hb] at h ⊢
    split at h
    · simp at h
    · rename_i hr
      rw [if_neg hr, List.getElem?_cons_succ, lsd_get hb i (n / b) (by simpa using h)]
      rw [Nat.div_div_eq_div_mul, Nat.pow_succ, Nat.mul_comm]
theorem lsd_len_le {b : Nat} (hb : 2 ≤ b) : ∀ (k n : Nat), n < 2 ^ (k + 1) → (lsd b n).length ≤ k + 1
  | 0, n, h => by
    rw [lsd_lt (by omega)]
    exact Nat.le_refl _
  | k + 1, n, h => by
    by_cases g : b ≤ n
    · rw [lsd_ge hb g, List.length_cons]
      have : n / b < 2 ^ (k + 1) := by
        rw [Nat.div_lt_iff_lt_mul (by omega)]
        have := Nat.mul_le_mul_left (2 ^ (k + 1)) hb
        rw [Nat.pow_succ] at h
        omega
      have := lsd_len_le hb k (n / b) this
      omega
    · rw [lsd_lt (by omega)]
      show 1 ≤ _
      omega
/-- figures, the greatest place first -/
def figs (b n : Nat) : List Nat := (lsd b n).reverse
theorem figs_len (b n : Nat) : (figs b n).length = (lsd b n).length := List.length_reverse ..
theorem figs_below {b n d : Nat} (hb : 2 ≤ b) (h : d ∈ figs b n) : d < b := lsd_below hb n d (List.mem_reverse.mp h)
theorem figs_le {b n : Nat} (hb : 2 ≤ b) (h : n < 2 ^ 900) : (figs b n).length ≤ 900 := by
  rw [figs_len]
  exact lsd_len_le hb 899 n h
/-! ### steps -/
def stepN (b p n : Nat) : Nat := ((figs b n).map (· ^ p)).sum
theorem sum_le_mul {l : List Nat} {m : Nat} (h : ∀ x ∈ l, x ≤ m) : l.sum ≤ l.length * m := by
  induction l with
  | nil => simp
  | cons a r ih =>
    rw [List.sum_cons, List.length_cons, Nat.succ_mul]
    have h1 := h a (List.mem_cons_self ..)
    have h2 := ih fun x hx => h x (List.mem_cons_of_mem _ hx)
    omega
theorem pow_le_base {d b p : Nat} (h : d < b) : d ^ p ≤ (b - 1) ^ p := Nat.pow_le_pow_left (by omega) p
theorem stepN_le {b p n : Nat} (hb : 2 ≤ b) : stepN b p n ≤ (figs b n).length * (b - 1) ^ p := by
  unfold stepN
  have := sum_le_mul (l := (figs b n).map (· ^ p)) (m := (b - 1) ^ p) fun x hx => by
    obtain ⟨d, hd, rfl⟩ := List.mem_map.mp hx
    exact pow_le_base (figs_below hb hd)
  rwa [List.length_map] at this
theorem worth_lt {b p : Nat} (hb : b ≤ 16) (hp : p ≤ 10) : (b - 1) ^ p < 2 ^ 40 := by
  have h1 : (b - 1) ^ p ≤ 15 ^ p := Nat.pow_le_pow_left (by omega) p
  have h2 : 15 ^ p ≤ 15 ^ 10 := Nat.pow_le_pow_right (by decide) hp
  have h3 : 15 ^ 10 < 2 ^ 40 := by decide
  omega
theorem stepN_lt {b p n : Nat} (hb : 2 ≤ b) (hb16 : b ≤ 16) (hp : p ≤ 10) (hn : n < 2 ^ 900) : stepN b p n < 2 ^ 50 := by
  have h1 := stepN_le (p := p) (n := n) hb
  have h2 := figs_le hb hn
  have h3 := worth_lt hb16 hp
  have h4 : (figs b n).length * (b - 1) ^ p ≤ 900 * 2 ^ 40 := Nat.mul_le_mul h2 (by omega)
  omega
/-- steps again and again -/
def itN (b p n : Nat) : Nat → Nat
  | 0 => n
  | k + 1 => stepN b p (itN b p n k)
theorem itN_lt {b p n : Nat} (hb : 2 ≤ b) (hb16 : b ≤ 16) (hp : p ≤ 10) (hn : n < 2 ^ 900) : ∀ k, itN b p n k < 2 ^ 900
  | 0 => hn
  | k + 1 => by
    have := stepN_lt hb hb16 hp (itN_lt hb hb16 hp hn k)
    have : itN b p n (k + 1) = stepN b p (itN b p n k) := rfl
    have e : (2 : Nat) ^ 50 ≤ 2 ^ 900 := Nat.pow_le_pow_right (by decide) (by decide)
    omega
def rowN (b p n : Nat) : Nat → List Nat
  | 0 => []
  | m + 1 => rowN b p n m ++ [itN b p n m]
theorem rowN_len (b p n : Nat) : ∀ m, (rowN b p n m).length = m
  | 0 => rfl
  | m + 1 => by
    rw [rowN, List.length_append, rowN_len b p n m]
    rfl
end Fx
namespace Fx
/-! ### the law's own figures -/
def powsN (b : Nat) : Nat → List Nat
  | 0 => []
  | k + 1 => powsN b k ++ [b ^ k]
theorem powsN_len (b : Nat) : ∀ k, (powsN b k).length = k
  | 0 => rfl
  | k + 1 => by
    rw [powsN, List.length_append, powsN_len b k]
    rfl
theorem powsN_get (b : Nat) : ∀ k i, i < k → (powsN b k)[i]? = some (b ^ i)
  | 0, _, h => by omega
  | k + 1, i, h => by
    rw [powsN]
    by_cases e : i = k
    · subst e
      rw [List.getElem?_append_right (by rw [powsN_len]; exact Nat.le_refl _), powsN_len, Nat.sub_self]
      rfl
    · rw [List.getElem?_append_left (by rw [powsN_len]; omega)]
      exact powsN_get b k i (by omega)
theorem powsN_rev {b k i : Nat} (h : i < k + 1) : (powsN b (k + 1)).reverse[i]? = some (b ^ (k - i)) := by
  rw [List.getElem?_reverse (by rw [powsN_len]; exact h), powsN_len, powsN_get b (k + 1) _ (by omega)]
  rw [show k + 1 - 1 - i = k - i by omega]
def fndN (b n k i : Nat) : List Nat := (List.range i).map fun t => n / b ^ (k - t) % b
theorem fndN_succ (b n k i : Nat) : fndN b n k (i + 1) = fndN b n k i ++ [n / b ^ (k - i) % b] := by
  unfold fndN
  rw [List.range_succ, List.map_append]
  rfl
theorem fndN_len (b n k i : Nat) : (fndN b n k i).length = i := by
  unfold fndN
  rw [List.length_map, List.length_range]
theorem fndN_all {b n k : Nat} (hb : 2 ≤ b) (h1 : n < b ^ (k + 1)) (h2 : k = 0 ∨ b ^ k ≤ n) : fndN b n k (k + 1) = figs b n := by
  have hl := lsd_len hb k n h1 h2
  refine List.ext_getElem? fun i => ?_
  by_cases hi : i < k + 1
  · unfold figs fndN
    rw [List.getElem?_reverse (by rw [hl]; exact hi), hl, lsd_get hb _ n (by rw [hl]; omega), List.getElem?_map, List.getElem?_range hi]
    have e : k + 1 - 1 - i = k - i := by omega
    rw [e]
    rfl
  · rw [List.getElem?_eq_none (by rw [fndN_len]; omega), List.getElem?_eq_none (by rw [figs_len, hl]; omega)]
theorem fig_div {b n j : Nat} : n % b ^ (j + 1) / b ^ j = n / b ^ j % b := by
  rw [Nat.pow_succ, Nat.mod_mul_right_div_self]
theorem fig_mod {b n j : Nat} : n % b ^ (j + 1) % b ^ j = n % b ^ j := by
  rw [Nat.pow_succ, Nat.mod_mul_right_mod]
theorem lt_pow' {b : Nat} (hb : 2 ≤ b) : ∀ k : Nat, k < b ^ k
  | 0 => by rw [Nat.pow_zero]; decide
  | k + 1 => by
    have := lt_pow' hb k
    rw [Nat.pow_succ]
    have := Nat.mul_le_mul_left (b ^ k) hb
    omega
open L2 in
theorem divN {x : Int} {j : Nat} (h0 : 0 < j) (h : j < 2 ^ 900) : CDivW x (j : Int) := wide_div (b := 900) (by omega) h (by decide) (by decide)
end Fx

namespace Fx
open PySem PySem.Spec PyProof.Rows L2
/-- the greatest power that a base lets -/
def mosts : List Int := [10, 9, 6, 4, 4, 3, 3, 3, 3, 3, 2, 2, 2, 2, 2]
def mostOf (b : Int) : Int := mosts.getD (b - 2).toNat 0
def OkPair (b p : Int) : Prop := 2 ≤ b ∧ b ≤ 16 ∧ 1 ≤ p ∧ p ≤ mostOf b
/-- all of a pair's places, to be shown one by one -/
def pairsAll : List (Int × Int) := (List.range 15).flatMap fun (i : Nat) => (List.range (mosts.getD i 0).toNat).map fun (j : Nat) => (((i : Nat) : Int) + 2, ((j : Nat) : Int) + 1)
theorem OkPair.mem {b p : Int} (h : OkPair b p) : (b, p) ∈ pairsAll := by
  obtain ⟨h1, h2, h3, h4⟩ := h
  refine List.mem_flatMap.mpr ⟨(b - 2).toNat, List.mem_range.mpr (by omega), List.mem_map.mpr ⟨(p - 1).toNat, List.mem_range.mpr ?_, ?_⟩⟩
  · unfold mostOf at h4
    omega
  · show (((b - 2).toNat : Int) + 2, ((p - 1).toNat : Int) + 1) = (b, p)
    rw [Prod.mk.injEq]
    omega
theorem OkPair.all {P : Int → Int → Prop} {b p : Int} (h : OkPair b p) (a : ∀ q ∈ pairsAll, P q.1 q.2) : P b p := a _ h.mem
theorem OkPair.le10 {b p : Int} (h : OkPair b p) : p ≤ 10 := h.all (P := fun _ p => p ≤ 10) (by decide +kernel)
/-- what the greatest figure is worth -/
def worth (b p : Int) : Int := (b - 1) ^ p.toNat
theorem OkPair.worth {b p : Int} (h : OkPair b p) : 1 ≤ worth b p ∧ worth b p ≤ 1000 + 24 := h.all (P := fun b p => 1 ≤ Fx.worth b p ∧ Fx.worth b p ≤ 1024) (by decide +kernel)
theorem most_pos {b : Int} (h1 : 2 ≤ b) (h2 : b ≤ 16) : 1 ≤ mostOf b ∧ mostOf b ≤ 10 := by
  have a : ∀ i ∈ List.range 15, 1 ≤ mosts.getD i 0 ∧ mosts.getD i 0 ≤ 10 := by decide +kernel
  exact a (b - 2).toNat (List.mem_range.mpr (by omega))
theorem most_at {b : Int} (h1 : 2 ≤ b) (h2 : b ≤ 16) : atI (mosts.map V.int) (b - 2) = some (.int (mostOf b)) := by
  have hi : (b - 2).toNat < mosts.length := by
    show (b - 2).toNat < 15
    omega
  have z : (mosts.map V.int)[(b - 2).toNat]? = some (.int (mostOf b)) := by
    rw [List.getElem?_map, List.getElem?_eq_getElem hi]
    unfold mostOf
    rw [List.getD_eq_getElem?_getD, List.getElem?_eq_getElem hi]
    rfl
  have y := atI_nat z
  rw [show (((b - 2).toNat : Nat) : Int) = b - 2 by omega] at y
  exact y
/-- a pair's tuple as it stands -/
def PairAt (H : Hp) (v : V) (b p : Int) : Prop := ∃ a, v = .ref a ∧ H a = some (.tup [.int b, .int p]) ∧ OkPair b p
theorem PairAt.but {H H' : Hp} {d c : Addr} {n : Nat} {v : V} {b p : Int} (h : PairAt H v b p) (D : Deck H d c n) (e : But d H H') : PairAt H' v b p := by
  obtain ⟨a, e1, e2, e3⟩ := h
  exact ⟨a, e1, e.tup D e2, e3⟩
theorem PairAt.same {H H' : Hp} {v : V} {b p : Int} (h : PairAt H v b p) (e : Same H H') : PairAt H' v b p := by
  obtain ⟨a, e1, e2, e3⟩ := h
  exact ⟨a, e1, e _ _ e2, e3⟩
theorem PairAt.upd {H : Hp} {D : Addr} {xs : List V} {o : HO} {v : V} {b p : Int} (h : PairAt H v b p) (e : H D = some (.lst xs)) : PairAt (upd H D o) v b p := by
  obtain ⟨a, e1, e2, e3⟩ := h
  exact ⟨a, e1, by rw [upd_ne (ne_of e2 e fun z => by cases z)]; exact e2, e3⟩
/-- all things of a list are pairs -/
def Pairs (H : Hp) (xs : List V) : Prop := ∀ v ∈ xs, ∃ b p, PairAt H v b p
theorem Pairs.mono {H H' : Hp} {xs : List V} (h : Pairs H xs) (k : ∀ v b p, PairAt H v b p → PairAt H' v b p) : Pairs H' xs := fun v hv => by
  obtain ⟨b, p, q⟩ := h v hv
  exact ⟨b, p, k v b p q⟩
theorem Pairs.app {H : Hp} {xs ys : List V} (h : Pairs H xs) (g : Pairs H ys) : Pairs H (xs ++ ys) := fun v hv => (List.mem_append.mp hv).elim (h v) (g v)
theorem Pairs.rev {H : Hp} {xs : List V} (h : Pairs H xs) : Pairs H xs.reverse := fun v hv => h v (List.mem_reverse.mp hv)
theorem Pairs.one {H : Hp} {v : V} {b p : Int} (h : PairAt H v b p) : Pairs H [v] := fun u hu => by
  cases List.mem_singleton.mp hu
  exact ⟨b, p, h⟩
/-- pairs drawn one by one: n at the start, k draws a pair -/
structure Drawn (H H' : Hp) (d c D : Addr) (n i : Nat) : Prop where
  but : But d H H'
  deck : Deck H' d c (n + 3 * i)
  list : ∃ acc, H' D = some (.lst acc) ∧ acc.length = i ∧ Pairs H' acc
theorem Drawn.next {H H1 H2 : Hp} {d c D p : Addr} {n i : Nat} {b pw : Int} (h : Drawn H H1 d c D n i) (hD : H D = none) (hd : D ≠ d) (hc : D ≠ c) (b1 : But d H1 H2) (D2 : Deck H2 d c (n + 3 * i + 3)) (e : H2 p = some (.tup [.int b, .int pw])) (ok : OkPair b pw) :
    ∃ acc, H2 D = some (.lst acc) ∧ acc.length = i ∧ Drawn H (L2.upd H2 D (.lst (acc ++ [.ref p]))) d c D n (i + 1) := by
  obtain ⟨acc, e1, e2, e3⟩ := h.list
  have e4 : H2 D = some (.lst acc) := b1 _ _ hd e1
  refine ⟨acc, e4, e2, (h.but.trans b1).own hD, D2.off hd hc, acc ++ [.ref p], upd_same, by rw [List.length_append, e2]; rfl, ?_⟩
  refine Pairs.app ?_ (Pairs.one (PairAt.upd ⟨p, rfl, e, ok⟩ e4))
  exact e3.mono fun v b p q => (q.but h.deck b1).upd e4
end Fx

namespace Fx
open PySem PySem.Spec PyProof.Rows L2
/-- the least length from which on numbers go down, w the worth of the greatest figure -/
structure IsLen (b w : Int) (L : Nat) : Prop where
  two : 2 ≤ L
  less : (L : Int) * w < b ^ (L - 1)
  least : ∀ k : Nat, 2 ≤ k → k < L → b ^ (k - 1) ≤ (k : Int) * w
theorem IsLen.uniq {b w : Int} {L M : Nat} (h : IsLen b w L) (g : IsLen b w M) : L = M := by
  rcases Nat.lt_trichotomy L M with l | l | l
  · have := g.least L h.two l
    have := h.less
    omega
  · exact l
  · have := h.least M g.two l
    have := g.less
    omega
theorem pow_mono {a b : Int} (h0 : 0 ≤ a) (h : a ≤ b) : ∀ n : Nat, a ^ n ≤ b ^ n
  | 0 => by rw [Int.pow_zero, Int.pow_zero]; exact Int.le_refl _
  | n + 1 => by
    rw [Int.pow_succ, Int.pow_succ]
    have i := pow_mono h0 h n
    have p : 0 ≤ a ^ n := Int.pow_nonneg h0
    exact Int.le_trans (Int.mul_le_mul_of_nonneg_right i h0) (Int.mul_le_mul_of_nonneg_left h (Int.le_trans p i))
theorem pow_pos {a : Int} (h : 0 < a) (n : Nat) : 0 < a ^ n := Int.pow_pos h
/-- at fifteen figures all is shown -/
theorem len15 {b w : Int} (h : 2 ≤ b) (hw : w ≤ 1024) : (15 : Int) * w < b ^ 14 := by
  have i := pow_mono (a := 2) (b := b) (by decide) h 14
  have e : (2 : Int) ^ 14 = 16384 := by decide
  omega
theorem len_step {b w : Int} {L : Nat} (h : ∀ k : Nat, 2 ≤ k → k < L → b ^ (k - 1) ≤ (k : Int) * w) (t : b ^ (L - 1) ≤ (L : Int) * w) : ∀ k : Nat, 2 ≤ k → k < L + 1 → b ^ (k - 1) ≤ (k : Int) * w := fun k h2 hk => by
  by_cases e : k = L
  · rw [e]
    exact t
  · exact h k h2 (by omega)
theorem len_lt {b w : Int} {L : Nat} (h : 2 ≤ b) (hw : w ≤ 1024) (l : L ≤ 15) (t : b ^ (L - 1) ≤ (L : Int) * w) : L < 15 := by
  by_cases e : L = 15
  · subst e
    have := len15 h hw
    have t' : b ^ 14 ≤ ((15 : Nat) : Int) * w := t
    omega
  · omega
/-- there is one -/
theorem len_ex {b w : Int} (h : 2 ≤ b) (hw : w ≤ 1024) : ∃ L : Nat, IsLen b w L ∧ L ≤ 15 := by
  have go : ∀ k L : Nat, 15 - L = k → 2 ≤ L → L ≤ 15 → (∀ j : Nat, 2 ≤ j → j < L → b ^ (j - 1) ≤ (j : Int) * w) → ∃ L : Nat, IsLen b w L ∧ L ≤ 15 := by
    intro k
    induction k with
    | zero =>
      intro L e l2 l15 ih
      refine ⟨L, ⟨l2, ?_, ih⟩, l15⟩
      obtain rfl : L = 15 := by omega
      exact len15 h hw
    | succ k ihk =>
      intro L e l2 l15 ih
      by_cases t : b ^ (L - 1) ≤ (L : Int) * w
      · exact ihk (L + 1) (by omega) (by omega) (by omega) (len_step ih t)
      · exact ⟨L, ⟨l2, by omega, ih⟩, l15⟩
  exact go 13 2 rfl (by decide) (by decide) fun j _ _ => by omega
end Fx

namespace Fx
/-! ### a step by its last figure, by parts -/
theorem zero_pow' {p : Nat} (h : 1 ≤ p) : 0 ^ p = 0 := Nat.zero_pow (by omega)
theorem stepN_lt_base {b p n : Nat} (h : n < b) : stepN b p n = n ^ p := by
  unfold stepN figs
  rw [lsd_lt h]
  show n ^ p + 0 = _
  omega
theorem stepN_zero {b p : Nat} (hb : 2 ≤ b) (hp : 1 ≤ p) : stepN b p 0 = 0 := by
  rw [stepN_lt_base (by omega), zero_pow' hp]
theorem sum_rev : ∀ l : List Nat, l.reverse.sum = l.sum
  | [] => rfl
  | a :: r => by
    rw [List.reverse_cons, List.sum_append, sum_rev r, List.sum_cons, List.sum_cons, List.sum_nil]
    omega
theorem stepN_lsd (b p n : Nat) : stepN b p n = ((lsd b n).map (· ^ p)).sum := by
  unfold stepN figs
  rw [List.map_reverse, sum_rev]
theorem stepN_rec {b p : Nat} (hb : 2 ≤ b) (hp : 1 ≤ p) (n : Nat) : stepN b p n = stepN b p (n / b) + (n % b) ^ p := by
  by_cases h : b ≤ n
  · rw [stepN_lsd, stepN_lsd, lsd_ge hb h, List.map_cons, List.sum_cons]
    omega
  · rw [stepN_lt_base (by omega), Nat.div_eq_of_lt (by omega), stepN_zero hb hp, Nat.mod_eq_of_lt (by omega)]
    omega
theorem stepN_push {b p x f : Nat} (hb : 2 ≤ b) (hp : 1 ≤ p) (hf : f < b) : stepN b p (x * b + f) = stepN b p x + f ^ p := by
  have e1 : (x * b + f) / b = x := by
    rw [Nat.mul_comm, Nat.mul_add_div (by omega), Nat.div_eq_of_lt hf]
    omega
  have e2 : (x * b + f) % b = f := by
    rw [Nat.mul_comm, Nat.mul_add_mod, Nat.mod_eq_of_lt hf]
  rw [stepN_rec hb hp, e1, e2]
theorem step_split {b p : Nat} (hb : 2 ≤ b) (hp : 1 ≤ p) : ∀ (k y r : Nat), r < b ^ k → stepN b p (y * b ^ k + r) = stepN b p y + stepN b p r
  | 0, y, r, h => by
    rw [Nat.pow_zero] at h
    have : r = 0 := by omega
    subst this
    rw [Nat.pow_zero, Nat.mul_one, stepN_zero hb hp]
    rfl
  | k + 1, y, r, h => by
    have e0 : y * b ^ (k + 1) + r = (y * b ^ k + r / b) * b + r % b := by
      have ep : b ^ k * b = b ^ (k + 1) := by rw [Nat.pow_succ]
      rw [Nat.add_mul, Nat.mul_assoc, ep]
      have := Nat.div_add_mod r b
      rw [Nat.mul_comm] at this
      omega
    have h1 : r / b < b ^ k := by
      rw [Nat.div_lt_iff_lt_mul (by omega), ← Nat.pow_succ]
      exact h
    rw [e0, stepN_push hb hp (Nat.mod_lt _ (by omega)), step_split hb hp k y (r / b) h1, stepN_rec hb hp r]
    omega
/-! ### lengths -/
theorem len_pow {b : Nat} (hb : 2 ≤ b) : ∀ n : Nat, 0 < n → b ^ ((figs b n).length - 1) ≤ n := fun n => by
  induction n using Nat.strongRecOn with
  | ind n ih =>
    intro h0
    by_cases h : b ≤ n
    · have i := ih (n / b) (Nat.div_lt_self (by omega) (by omega)) (Nat.div_pos h (by omega))
      rw [figs_len] at i ⊢
      rw [lsd_ge hb h, List.length_cons]
      have l0 : 0 < (lsd b (n / b)).length := List.length_pos_iff.mpr lsd_ne
      have e : (lsd b (n / b)).length + 1 - 1 = (lsd b (n / b)).length - 1 + 1 := by omega
      rw [e, Nat.pow_succ]
      have := Nat.mul_le_mul_right b i
      have := Nat.div_mul_le_self n b
      omega
    · rw [figs_len, lsd_lt (by omega)]
      exact h0
theorem len_gt {b n k : Nat} (hb : 2 ≤ b) (h : b ^ k ≤ n) : k < (figs b n).length := by
  refine Nat.lt_of_not_le fun z => ?_
  rw [figs_len] at z
  have up : ∀ m : Nat, n < b ^ (lsd b m).length ∨ m ≠ n := fun m => by
    by_cases e : m = n
    · subst e
      have go : ∀ m : Nat, m < b ^ (lsd b m).length := fun m => by
        induction m using Nat.strongRecOn with
        | ind m ih =>
          by_cases g : b ≤ m
          · rw [lsd_ge hb g, List.length_cons, Nat.pow_succ]
            have i := ih (m / b) (Nat.div_lt_self (by omega) (by omega))
            have := Nat.div_add_mod m b
            have := Nat.mod_lt m (show 0 < b by omega)
            have := Nat.mul_le_mul_right b (show m / b + 1 ≤ b ^ (lsd b (m / b)).length from i)
            rw [Nat.succ_mul, Nat.mul_comm (m / b) b] at this
            omega
          · rw [lsd_lt (by omega)]
            show m < b ^ 1
            rw [Nat.pow_one]
            omega
      exact .inl (go m)
    · exact .inr e
  rcases up n with u | u
  · have := Nat.pow_le_pow_right (show 0 < b by omega) z
    omega
  · exact u rfl
/-! ### what goes down -/
/-- the worth of the greatest figure -/
theorem worth_nat (b p : Nat) (hb : 1 ≤ b) : worth (b : Int) (p : Int) = (((b - 1) ^ p : Nat) : Int) := by
  unfold worth
  have e : (b : Int) - 1 = ((b - 1 : Nat) : Int) := by omega
  rw [e, Int.toNat_natCast, Int.natCast_pow]
theorem len_moreN {b w L : Nat} (h1 : L * w < b ^ (L - 1)) (hL : 2 ≤ L) (h2 : 2 ≤ b) : ∀ k : Nat, (L + k) * w < b ^ (L + k - 1)
  | 0 => h1
  | k + 1 => by
    have i := len_moreN h1 hL h2 k
    have e : b ^ (L + (k + 1) - 1) = b ^ (L + k - 1) * b := by
      rw [← Nat.pow_succ]
      congr 1
      omega
    have a1 : (L + (k + 1)) * w = (L + k) * w + w := by
      rw [← Nat.add_assoc, Nat.succ_mul]
    have a2 : w ≤ (L + k) * w := Nat.le_mul_of_pos_left w (by omega)
    have a3 : b ^ (L + k - 1) * 2 ≤ b ^ (L + k - 1) * b := Nat.mul_le_mul_left _ h2
    omega
theorem IsLen.nat {b p L : Nat} (hb : 2 ≤ b) (h : IsLen (b : Int) (worth (b : Int) (p : Int)) L) : L * (b - 1) ^ p < b ^ (L - 1) := by
  have := h.less
  rw [worth_nat b p (by omega), ← Int.natCast_mul, ← Int.natCast_pow] at this
  exact Int.ofNat_lt.mp this
theorem goes_down {b p L n : Nat} (hb : 2 ≤ b) (h : IsLen (b : Int) (worth (b : Int) (p : Int)) L) (hn : b ^ (L - 1) ≤ n) : stepN b p n < n := by
  have h1 := h.nat hb
  have l := len_gt hb hn
  have le := stepN_le (p := p) (n := n) hb
  have m := len_moreN h1 h.two hb ((figs b n).length - L)
  have h2 := h.two
  rw [show L + ((figs b n).length - L) = (figs b n).length by omega] at m
  have n0 : 0 < n := Nat.lt_of_lt_of_le (Nat.pow_pos (by omega)) hn
  have := len_pow hb n n0
  omega
/-- the greatest number whose step is no less -/
structure IsKept (b p G : Nat) : Prop where
  kept : G ≤ stepN b p G
  down : ∀ n, G < n → stepN b p n < n
theorem IsKept.uniq {b p G H : Nat} (h : IsKept b p G) (g : IsKept b p H) : G = H := by
  rcases Nat.lt_trichotomy G H with l | l | l
  · have := h.down H l
    have := g.kept
    omega
  · exact l
  · have := g.down G l
    have := h.kept
    omega
/-! ### place by place -/
def gain (b p j f : Nat) : Int := ((f ^ p : Nat) : Int) - (f : Int) * ((b ^ j : Nat) : Int)
def gainRow (b p j : Nat) : List Int := (List.range b).map (gain b p j)
theorem gainRow_len (b p j : Nat) : (gainRow b p j).length = b := by
  unfold gainRow
  rw [List.length_map, List.length_range]
theorem gainRow_get {b p j f : Nat} (h : f < b) : (gainRow b p j)[f]? = some (gain b p j f) := by
  unfold gainRow
  rw [List.getElem?_map, List.getElem?_range h]
  rfl
def rowMax (b p j : Nat) : Int := (gainRow b p j).max?.getD 0
theorem rowMax_spec {b p j : Nat} (hb : 2 ≤ b) : rowMax b p j ∈ gainRow b p j ∧ ∀ y ∈ gainRow b p j, y ≤ rowMax b p j := by
  unfold rowMax
  cases e : (gainRow b p j).max? with
  | none =>
    rw [List.max?_eq_none_iff] at e
    have := gainRow_len b p j
    rw [e] at this
    have e0 : (0 : Nat) = b := this
    omega
  | some m =>
    exact (List.max?_eq_some_iff).mp e
theorem rowMax_uniq {b p j : Nat} {m : Int} (hb : 2 ≤ b) (h1 : m ∈ gainRow b p j) (h2 : ∀ y ∈ gainRow b p j, y ≤ m) : m = rowMax b p j := by
  have s := rowMax_spec (p := p) (j := j) hb
  have := h2 _ s.1
  have := s.2 _ h1
  omega
theorem gain_le {b p j f : Nat} (hb : 2 ≤ b) (h : f < b) : gain b p j f ≤ rowMax b p j := (rowMax_spec hb).2 _ (List.mem_of_getElem? (gainRow_get h))
def restMax (b p : Nat) : Nat → Int
  | 0 => 0
  | k + 1 => restMax b p k + rowMax b p k
/-- what a number's step has beyond it, its figures at k places behind -/
def over (b p x k : Nat) : Int := (stepN b p x : Int) - (x : Int) * ((b ^ k : Nat) : Int)
theorem over_push {b p x k f : Nat} (hb : 2 ≤ b) (hp : 1 ≤ p) (hf : f < b) : over b p (x * b + f) k = over b p x (k + 1) + gain b p k f := by
  unfold over gain
  rw [stepN_push hb hp hf, Nat.pow_succ]
  simp only [Int.natCast_add, Int.natCast_mul, Int.add_mul, Int.mul_assoc, Int.mul_comm, Int.mul_left_comm]
  omega
theorem over_split {b p k y r : Nat} (hb : 2 ≤ b) (hp : 1 ≤ p) (h : r < b ^ k) : over b p (y * b ^ k + r) 0 = over b p y k + over b p r 0 := by
  unfold over
  rw [step_split hb hp k y r h]
  simp only [Int.natCast_add, Int.natCast_mul, Nat.pow_zero]
  omega
theorem rest_bound {b p : Nat} (hb : 2 ≤ b) (hp : 1 ≤ p) : ∀ k r : Nat, r < b ^ k → over b p r 0 ≤ restMax b p k
  | 0, r, h => by
    rw [Nat.pow_zero] at h
    obtain rfl : r = 0 := by omega
    unfold over restMax
    rw [stepN_zero hb hp]
    simp
  | k + 1, r, h => by
    have e : r / b ^ k < b := by
      rw [Nat.div_lt_iff_lt_mul (Nat.pow_pos (by omega)), Nat.mul_comm, ← Nat.pow_succ]
      exact h
    have e0 : r = r / b ^ k * b ^ k + r % b ^ k := by
      have := Nat.div_add_mod r (b ^ k)
      rw [Nat.mul_comm] at this
      omega
    have lt := Nat.mod_lt r (show 0 < b ^ k from Nat.pow_pos (by omega))
    have i := rest_bound hb hp k (r % b ^ k) lt
    have g := gain_le (p := p) (j := k) hb e
    have z : over b p (r / b ^ k) k = gain b p k (r / b ^ k) := by
      unfold over gain
      rw [stepN_lt_base e]
    rw [e0, over_split hb hp lt, z]
    show _ ≤ restMax b p k + rowMax b p k
    omega
/-- the greatest figures one by one: m places to come, x so far, what is to spare -/
structure Greedy (b p M m x : Nat) (spare : Int) : Prop where
  is : spare = over b p x m + restMax b p m
  pos : 0 ≤ spare
  most : ∀ n, n < b ^ M → n ≤ stepN b p n → n / b ^ m ≤ x
theorem restMax_pos {b p : Nat} (hb : 2 ≤ b) (hp : 1 ≤ p) (k : Nat) : 0 ≤ restMax b p k := by
  have := rest_bound hb hp k 0 (Nat.pow_pos (by omega))
  unfold over at this
  rw [stepN_zero hb hp] at this
  simp at this
  exact this
theorem Greedy.start {b p : Nat} (hb : 2 ≤ b) (hp : 1 ≤ p) (M : Nat) : Greedy b p M M 0 (restMax b p M) := by
  refine ⟨?_, restMax_pos hb hp M, fun n h _ => ?_⟩
  · unfold over
    rw [stepN_zero hb hp]
    simp
  · rw [Nat.div_eq_of_lt h]
    exact Nat.le_refl 0
theorem Greedy.next {b p M m x f : Nat} {spare : Int} (hb : 2 ≤ b) (hp : 1 ≤ p) (g : Greedy b p M (m + 1) x spare) (hf : f < b) (h1 : rowMax b p m - spare ≤ gain b p m f)
    (h2 : ∀ e, e < b → rowMax b p m - spare ≤ gain b p m e → e ≤ f) : Greedy b p M m (x * b + f) (spare - rowMax b p m + gain b p m f) := by
  have gi := g.is
  refine ⟨?_, by omega, fun n hn hk => ?_⟩
  · rw [over_push hb hp hf]
    have : restMax b p (m + 1) = restMax b p m + rowMax b p m := rfl
    omega
  · have y1 := g.most n hn hk
    have ed : n / b ^ (m + 1) = n / b ^ m / b := by rw [Nat.pow_succ, Nat.div_div_eq_div_mul]
    rw [ed] at y1
    generalize hy : n / b ^ m = y at y1 ⊢
    have yy := Nat.div_add_mod y b
    have yl := Nat.mod_lt y (show 0 < b by omega)
    by_cases c : y / b = x
    · have e0 : n = y * b ^ m + n % b ^ m := by
        have := Nat.div_add_mod n (b ^ m)
        rw [hy, Nat.mul_comm] at this
        omega
      have lt := Nat.mod_lt n (show 0 < b ^ m from Nat.pow_pos (by omega))
      have r1 := rest_bound hb hp m (n % b ^ m) lt
      have o1 : 0 ≤ over b p n 0 := by
        unfold over
        simp only [Nat.pow_zero]
        omega
      rw [e0, over_split hb hp lt] at o1
      have ey : y = x * b + y % b := by
        rw [← c, Nat.mul_comm]
        exact yy.symm
      rw [ey, over_push hb hp yl] at o1
      have rm : restMax b p (m + 1) = restMax b p m + rowMax b p m := rfl
      have := h2 (y % b) yl (by omega)
      rw [ey]
      omega
    · have : y / b + 1 ≤ x := by omega
      have := Nat.mul_le_mul_right b this
      rw [Nat.succ_mul, Nat.mul_comm (y / b) b] at this
      omega
theorem Greedy.done {b p L x : Nat} {spare : Int} (hb : 2 ≤ b) (h : IsLen (b : Int) (worth (b : Int) (p : Int)) L) (g : Greedy b p (L - 1) 0 x spare) : IsKept b p x := by
  have gi := g.is
  have gp := g.pos
  refine ⟨?_, fun n hn => ?_⟩
  · have : restMax b p 0 = 0 := rfl
    unfold over at gi
    simp only [Nat.pow_zero] at gi
    omega
  · by_cases c : n < b ^ (L - 1)
    · refine Nat.lt_of_not_le fun z => ?_
      have := g.most n c z
      rw [Nat.pow_zero, Nat.div_one] at this
      omega
    · exact goes_down hb h (by omega)
/-- no number from here on but goes down -/
theorem down_from {b p M n : Nat} (hb : 2 ≤ b) (h : IsLen (b : Int) (worth (b : Int) (p : Int)) M) (hn : (M - 1) * (b - 1) ^ p < n) : stepN b p n < n := by
  by_cases c : b ^ (M - 1) ≤ n
  · exact goes_down hb h c
  · have l := len_pow hb n (by omega)
    have k : (figs b n).length - 1 < M - 1 := by
      refine Nat.lt_of_not_le fun z => ?_
      have := Nat.pow_le_pow_right (show 0 < b by omega) z
      omega
    have le := stepN_le (p := p) (n := n) hb
    have := Nat.mul_le_mul_right ((b - 1) ^ p) (show (figs b n).length ≤ M - 1 by omega)
    omega
/-- a step that can be reckoned -/
def stepF (b p : Nat) : Nat → Nat → Nat
  | 0, _ => 0
  | k + 1, n => stepF b p k (n / b) + (n % b) ^ p
theorem stepF_eq {b p : Nat} (hb : 2 ≤ b) (hp : 1 ≤ p) : ∀ k n : Nat, n < b ^ k → stepF b p k n = stepN b p n
  | 0, n, h => by
    rw [Nat.pow_zero] at h
    obtain rfl : n = 0 := by omega
    rw [stepN_zero hb hp]
    rfl
  | k + 1, n, h => by
    rw [stepN_rec hb hp n, ← stepF_eq hb hp k (n / b)]
    · rfl
    · rw [Nat.div_lt_iff_lt_mul (by omega), ← Nat.pow_succ]
      exact h
end Fx

namespace Fx
/-! ### rows come down -/
theorem figs_len_lt {b n k : Nat} (hb : 2 ≤ b) (hk : 1 ≤ k) (h : n < b ^ k) : (figs b n).length ≤ k := by
  by_cases h0 : n = 0
  · subst h0
    rw [figs_len, lsd_lt (by omega)]
    exact hk
  · have l := len_pow hb n (by omega)
    refine Nat.le_of_not_lt fun z => ?_
    have := Nat.pow_le_pow_right (show 0 < b by omega) (show k ≤ (figs b n).length - 1 by omega)
    omega
theorem step_le_len {b p n k : Nat} (hb : 2 ≤ b) (h : (figs b n).length ≤ k) : stepN b p n ≤ k * (b - 1) ^ p := Nat.le_trans (stepN_le hb) (Nat.mul_le_mul_right _ h)
theorem down_one {b p L n k : Nat} (hb : 2 ≤ b) (h : IsLen (b : Int) (worth (b : Int) (p : Int)) L) (hn : n ≤ max (L - 1) k * (b - 1) ^ p) : stepN b p n ≤ max (L - 1) (k - 1) * (b - 1) ^ p := by
  have h1 := h.nat hb
  have h2 := h.two
  by_cases c : k ≤ L - 1
  · have e : max (L - 1) k = L - 1 := by omega
    rw [e] at hn
    refine step_le_len hb (figs_len_lt hb (by omega) ?_)
    have : n < b ^ (L - 1) := by
      have := Nat.mul_le_mul_right ((b - 1) ^ p) (show L - 1 ≤ L by omega)
      omega
    exact Nat.lt_of_lt_of_le this (Nat.pow_le_pow_right (by omega) (by omega))
  · have e : max (L - 1) k = k := by omega
    rw [e] at hn
    have m := len_moreN h1 h2 hb (k - L)
    rw [show L + (k - L) = k by omega] at m
    exact step_le_len hb (figs_len_lt hb (by omega) (Nat.lt_of_lt_of_le (show n < b ^ (k - 1) by omega) (Nat.pow_le_pow_right (by omega) (by omega))))
theorem row_down {b p L n : Nat} (hb : 2 ≤ b) (h : IsLen (b : Int) (worth (b : Int) (p : Int)) L) (hw : (b - 1) ^ p ≤ 1024) (hn : n < 2 ^ 160) : ∀ i, itN b p n (i + 2) ≤ max (L - 1) (18 - i) * (b - 1) ^ p
  | 0 => by
    have f1 : (figs b n).length ≤ 160 := by
      rw [figs_len]
      exact lsd_len_le hb 159 n hn
    have s1 : itN b p n 1 ≤ 160 * (b - 1) ^ p := step_le_len hb f1
    have s2 : itN b p n 1 < 2 ^ 18 := by
      have := Nat.mul_le_mul_left 160 hw
      omega
    have f2 : (figs b (itN b p n 1)).length ≤ 18 := by
      rw [figs_len]
      exact lsd_len_le hb 17 _ s2
    show stepN b p (itN b p n 1) ≤ _
    exact Nat.le_trans (step_le_len hb f2) (Nat.mul_le_mul_right _ (by omega))
  | i + 1 => by
    have ih := row_down hb h hw hn i
    have := down_one hb h ih
    rw [show 18 - (i + 1) = 18 - i - 1 by omega]
    exact this
theorem row_late {b p L n i : Nat} (hb : 2 ≤ b) (h : IsLen (b : Int) (worth (b : Int) (p : Int)) L) (hw : (b - 1) ^ p ≤ 1024) (hn : n < 2 ^ 160) (hi : 20 ≤ i) : itN b p n i ≤ (L - 1) * (b - 1) ^ p := by
  have := row_down hb h hw hn (i - 2)
  rw [show i - 2 + 2 = i by omega, show max (L - 1) (18 - (i - 2)) = L - 1 by omega] at this
  exact this
theorem rowN_get (b p n : Nat) : ∀ m i, i < m → (rowN b p n m)[i]? = some (itN b p n i)
  | 0, _, h => by omega
  | m + 1, i, h => by
    rw [rowN]
    by_cases e : i = m
    · subst e
      rw [List.getElem?_append_right (by rw [rowN_len]; exact Nat.le_refl _), rowN_len, Nat.sub_self]
      rfl
    · rw [List.getElem?_append_left (by rw [rowN_len]; omega)]
      exact rowN_get b p n m i (by omega)
theorem kept_lt {b p L G : Nat} (hb : 2 ≤ b) (h : IsLen (b : Int) (worth (b : Int) (p : Int)) L) (g : IsKept b p G) : G < b ^ (L - 1) := by
  refine Nat.lt_of_not_le fun z => ?_
  have := goes_down hb h z
  have := g.kept
  omega
end Fx

namespace Fx
open PySem PySem.Spec PyProof.Rows L2
/-- a pair's numbers as naturals -/
theorem OkPair.nat {b p : Int} (h : OkPair b p) : ∃ b' p' : Nat, b = (b' : Int) ∧ p = (p' : Int) ∧ 2 ≤ b' ∧ b' ≤ 16 ∧ 1 ≤ p' ∧ p' ≤ 10 := by
  obtain ⟨h1, h2, h3, h4⟩ := id h
  have h5 := h.le10
  exact ⟨b.toNat, p.toNat, by omega, by omega, by omega, by omega, by omega, by omega⟩
/-- a number with a pair and how many are asked -/
def QuadAt (H : Hp) (v : V) : Prop := ∃ (a : Addr) (n b p m : Nat), v = .ref a ∧ H a = some (.tup [.int (n : Int), .int (b : Int), .int (p : Int), .int (m : Int)]) ∧ 2 ≤ b ∧ b ≤ 16 ∧ p ≤ 10 ∧ n < 16 ^ 40 ∧ m ≤ 60
theorem QuadAt.mono {H H' : Hp} {v : V} (h : QuadAt H v) (k : ∀ a xs, H a = some (.tup xs) → H' a = some (.tup xs)) : QuadAt H' v := by
  obtain ⟨a, n, b, p, m, e1, e2, r⟩ := h
  exact ⟨a, n, b, p, m, e1, k _ _ e2, r⟩
theorem lt900 {n : Nat} (h : n < 16 ^ 40) : n < 2 ^ 900 := Nat.lt_of_lt_of_le h (by
  have e : (16 : Nat) ^ 40 = 2 ^ 160 := by decide
  rw [e]
  exact Nat.pow_le_pow_right (by decide) (by decide))
end Fx

namespace Fx
/-! ### where numbers end -/
theorem nodup_len : ∀ (M : Nat) (l : List Nat), l.Nodup → (∀ x ∈ l, x < M) → l.length ≤ M
  | 0, l, _, h => by
    cases l with
    | nil => exact Nat.le_refl _
    | cons a r => exact absurd (h a (List.mem_cons_self ..)) (Nat.not_lt_zero _)
  | M + 1, l, nd, h => by
    have e := nodup_len M (l.erase M) (nd.erase M) fun x hx => by
      have hx' := (List.Nodup.mem_erase_iff nd).mp hx
      have := h x hx'.2
      omega
    rw [List.length_erase] at e
    split at e <;> omega
theorem itN_zero (b p n : Nat) : itN b p n 0 = n := rfl
theorem itN_succ (b p n k : Nat) : itN b p n (k + 1) = stepN b p (itN b p n k) := rfl
theorem itN_add (b p n j : Nat) : ∀ k, itN b p n (j + k) = itN b p (itN b p n j) k
  | 0 => rfl
  | k + 1 => by
    rw [← Nat.add_assoc, itN_succ, itN_succ, itN_add b p n j k]
theorem itN_first (b p n k : Nat) : itN b p n (k + 1) = itN b p (stepN b p n) k := by
  rw [Nat.add_comm, itN_add]
  rfl
/-- it stands in a round -/
def Per (b p x : Nat) : Prop := ∃ k, 0 < k ∧ itN b p x k = x
theorem Per.it {b p x : Nat} (h : Per b p x) (j : Nat) : Per b p (itN b p x j) := by
  obtain ⟨k, k0, e⟩ := h
  refine ⟨k, k0, ?_⟩
  rw [← itN_add, Nat.add_comm, itN_add, e]
theorem Per.mul {b p x k : Nat} (e : itN b p x k = x) : ∀ m, itN b p x (m * k) = x
  | 0 => by rw [Nat.zero_mul]; rfl
  | m + 1 => by rw [Nat.succ_mul, itN_add, Per.mul e m, e]
/-- from a number of a round on, each later one leads back -/
theorem Per.back {b p x : Nat} (h : Per b p x) (j : Nat) : ∃ i, itN b p (itN b p x j) i = x := by
  obtain ⟨k, k0, e⟩ := h
  refine ⟨j * k - j, ?_⟩
  have : j ≤ j * k := Nat.le_mul_of_pos_right j k0
  rw [← itN_add, show j + (j * k - j) = j * k by omega]
  exact Per.mul e j
/-- a steps away from the round of the least number m -/
structure EndAt (b p n a m : Nat) : Prop where
  per : Per b p (itN b p n a)
  first : ∀ j, j < a → ¬ Per b p (itN b p n j)
  on : ∃ i, a ≤ i ∧ itN b p n i = m
  least : ∀ i, a ≤ i → m ≤ itN b p n i
theorem EndAt.uniq {b p n a m a' m' : Nat} (h : EndAt b p n a m) (g : EndAt b p n a' m') : a = a' ∧ m = m' := by
  have ea : a = a' := by
    rcases Nat.lt_trichotomy a a' with l | l | l
    · exact absurd h.per (g.first a l)
    · exact l
    · exact absurd g.per (h.first a' l)
  subst ea
  obtain ⟨i, hi, rfl⟩ := h.on
  obtain ⟨j, hj, rfl⟩ := g.on
  exact ⟨rfl, Nat.le_antisymm (h.least j hj) (g.least i hi)⟩
/-- the first number that stands twice -/
theorem EndAt.of_row {b p n A L : Nat} (hA : A < L) (e : itN b p n L = itN b p n A) (nd : ∀ i j, i < L → j < L → itN b p n i = itN b p n j → i = j) {m : Nat}
    (on : ∃ i, A ≤ i ∧ i < L ∧ itN b p n i = m) (le : ∀ i, A ≤ i → i < L → m ≤ itN b p n i) : EndAt b p n A m := by
  have round : ∀ i, A ≤ i → ∃ j, A ≤ j ∧ j < L ∧ itN b p n i = itN b p n j := fun i => by
    induction i with
    | zero => intro h; exact ⟨0, h, by omega, rfl⟩
    | succ i ih =>
      intro h
      by_cases c : A ≤ i
      · obtain ⟨j, j1, j2, ej⟩ := ih c
        by_cases d : j + 1 < L
        · exact ⟨j + 1, by omega, d, by rw [itN_succ, itN_succ, ej]⟩
        · have : j + 1 = L := by omega
          refine ⟨A, Nat.le_refl _, hA, ?_⟩
          rw [itN_succ, ej, ← itN_succ, this, e]
      · have : i + 1 = A := by omega
        exact ⟨A, Nat.le_refl _, hA, by rw [this]⟩
  refine ⟨⟨L - A, by omega, ?_⟩, fun j hj => ?_, ?_, fun i hi => ?_⟩
  · rw [← itN_add, show A + (L - A) = L by omega, e]
  · rintro ⟨k, k0, ek⟩
    have z := Per.mul ek A
    rw [← itN_add] at z
    have : A ≤ A * k := Nat.le_mul_of_pos_right A k0
    obtain ⟨i, i1, i2, ei⟩ := round (j + A * k) (by omega)
    have := nd j i (by omega) i2 (by rw [← z, ei])
    omega
  · obtain ⟨i, i1, i2, ei⟩ := on
    exact ⟨i, i1, ei⟩
  · obtain ⟨j, j1, j2, ej⟩ := round i hi
    rw [ej]
    exact le j j1 j2
theorem EndAt.step {b p n a m : Nat} (h : EndAt b p n (a + 1) m) : EndAt b p (stepN b p n) a m := by
  refine ⟨by rw [← itN_first]; exact h.per, fun j hj => by rw [← itN_first]; exact h.first (j + 1) (by omega), ?_, fun i hi => by rw [← itN_first]; exact h.least (i + 1) (by omega)⟩
  obtain ⟨i, i1, i2⟩ := h.on
  obtain ⟨i', rfl⟩ : ∃ i', i = i' + 1 := ⟨i - 1, by omega⟩
  exact ⟨i', by omega, by rw [← itN_first]; exact i2⟩
theorem EndAt.succ {b p n a m : Nat} (h : EndAt b p (stepN b p n) a m) (np : ¬ Per b p n) : EndAt b p n (a + 1) m := by
  refine ⟨by rw [itN_first]; exact h.per, fun j hj => ?_, ?_, fun i hi => ?_⟩
  · cases j with
    | zero => exact np
    | succ j => rw [itN_first]; exact h.first j (by omega)
  · obtain ⟨i, i1, i2⟩ := h.on
    exact ⟨i + 1, by omega, by rw [itN_first]; exact i2⟩
  · obtain ⟨i', rfl⟩ : ∃ i', i = i' + 1 := ⟨i - 1, by omega⟩
    rw [itN_first]
    exact h.least i' (by omega)
/-- in the round: each number of it ends in it, away no step -/
theorem EndAt.round {b p n m : Nat} (h : EndAt b p n 0 m) (j : Nat) : EndAt b p (itN b p n j) 0 m := by
  refine ⟨h.per.it j, fun i hi => by omega, ?_, fun i _ => ?_⟩
  · obtain ⟨i, _, e⟩ := h.on
    obtain ⟨k, ek⟩ := h.per.back j
    have ek' : itN b p (itN b p n j) k = n := ek
    exact ⟨k + i, Nat.zero_le _, by rw [itN_add, ek']; exact e⟩
  · rw [← itN_add]
    exact h.least _ (Nat.zero_le _)
theorem EndAt.later {b p n a m : Nat} (h : EndAt b p n a m) : ∀ j, EndAt b p (itN b p n j) (a - j) m
  | 0 => h
  | j + 1 => by
    have i := EndAt.later h j
    rw [itN_succ]
    by_cases c : a - j = 0
    · rw [c] at i
      have := i.round 1
      rw [show a - (j + 1) = 0 by omega]
      exact this
    · rw [show a - j = (a - (j + 1)) + 1 by omega] at i
      exact i.step
theorem EndAt.self {b p n a m : Nat} (h : EndAt b p n a m) : EndAt b p m 0 m := by
  obtain ⟨i, hi, e⟩ := h.on
  have := h.later i
  rw [e, show a - i = 0 by omega] at this
  exact this
/-- the least number is that of the step -/
theorem EndAt.least_step {b p n a m a' m' : Nat} (h : EndAt b p n a m) (g : EndAt b p (stepN b p n) a' m') : m = m' ∧ a' = a - 1 := by
  have := h.later 1
  have := this.uniq g
  exact ⟨this.2, this.1.symm⟩
theorem per_iff {b p n a m : Nat} (h : EndAt b p n a m) : Per b p n ↔ a = 0 := by
  constructor
  · intro z
    refine Nat.le_antisymm (Nat.le_of_not_lt fun c => h.first 0 c z) (Nat.zero_le _)
  · rintro rfl
    exact h.per
/-! ### each number ends -/
/-- a number beyond which no row goes far -/
structure Near (b p n : Nat) : Prop where
  hb : 2 ≤ b
  lt : ∀ i, 20 ≤ i → itN b p n i ≤ 15000
theorem Near.rep {b p n : Nat} (h : Near b p n) {L : Nat} (nd : ∀ i j, i < L → j < L → itN b p n i = itN b p n j → i = j) : L ≤ 15030 := by
  refine Nat.le_of_not_lt fun z => ?_
  have l := nodup_len 15001 ((List.range (L - 20)).map fun i => itN b p n (20 + i)) ?_ ?_
  · rw [List.length_map, List.length_range] at l
    omega
  · refine List.pairwise_map.mpr (List.Pairwise.imp_of_mem ?_ (List.nodup_range (n := L - 20)))
    intro x y hx hy ne e
    have := List.mem_range.mp hx
    have := List.mem_range.mp hy
    have := nd _ _ (by omega) (by omega) e
    omega
  · intro x hx
    obtain ⟨i, hi, rfl⟩ := List.mem_map.mp hx
    have := h.lt (20 + i) (by omega)
    omega
theorem exists_end {b p n : Nat} (h : Near b p n) : ∃ a m, EndAt b p n a m := by
  -- the first number that stood ahead
  have go : ∀ k L : Nat, 15031 - L = k → (∀ i j, i < L → j < L → itN b p n i = itN b p n j → i = j) → ∃ A L, A < L ∧ itN b p n L = itN b p n A ∧ ∀ i j, i < L → j < L → itN b p n i = itN b p n j → i = j := by
    intro k
    induction k with
    | zero =>
      intro L hL nd
      have := h.rep nd
      omega
    | succ k ih =>
      intro L hL nd
      by_cases c : ∃ A, A < L ∧ itN b p n L = itN b p n A
      · obtain ⟨A, a1, a2⟩ := c
        exact ⟨A, L, a1, a2, nd⟩
      · refine ih (L + 1) (by omega) fun i j hi hj e => ?_
        by_cases ci : i = L
        · by_cases cj : j = L
          · omega
          · subst ci
            exact absurd ⟨j, by omega, e⟩ c
        · by_cases cj : j = L
          · subst cj
            exact absurd ⟨i, by omega, e.symm⟩ c
          · exact nd i j (by omega) (by omega) e
  obtain ⟨A, L, hA, e, nd⟩ := go _ 0 rfl fun i j hi => by omega
  -- the least one of these
  have mn : ∀ k, A + k < L → ∃ m, (∃ i, A ≤ i ∧ i ≤ A + k ∧ itN b p n i = m) ∧ ∀ i, A ≤ i → i ≤ A + k → m ≤ itN b p n i := by
    intro k
    induction k with
    | zero =>
      intro _
      exact ⟨_, ⟨A, Nat.le_refl _, by omega, rfl⟩, fun i h1 h2 => by
        have : i = A := by omega
        subst this
        exact Nat.le_refl _⟩
    | succ k ih =>
      intro hk
      obtain ⟨m, ⟨i, i1, i2, i3⟩, lm⟩ := ih (by omega)
      by_cases c : itN b p n (A + (k + 1)) < m
      · refine ⟨_, ⟨A + (k + 1), by omega, Nat.le_refl _, rfl⟩, fun j h1 h2 => ?_⟩
        by_cases d : j = A + (k + 1)
        · subst d
          exact Nat.le_refl _
        · have := lm j h1 (by omega)
          omega
      · refine ⟨m, ⟨i, i1, by omega, i3⟩, fun j h1 h2 => ?_⟩
        by_cases d : j = A + (k + 1)
        · subst d
          omega
        · exact lm j h1 (by omega)
  obtain ⟨m, ⟨i, i1, i2, i3⟩, lm⟩ := mn (L - 1 - A) (by omega)
  exact ⟨A, m, .of_row hA e nd ⟨i, i1, by omega, i3⟩ fun j j1 j2 => lm j j1 (by omega)⟩
/-! ### pairs -/
structure OkN (b p : Nat) : Prop where
  ok : OkPair (b : Int) (p : Int)
theorem OkN.hb {b p : Nat} (h : OkN b p) : 2 ≤ b := by have := h.ok.1; omega
theorem OkN.hb16 {b p : Nat} (h : OkN b p) : b ≤ 16 := by have := h.ok.2.1; omega
theorem OkN.hp1 {b p : Nat} (h : OkN b p) : 1 ≤ p := by have := h.ok.2.2.1; omega
theorem OkN.hp {b p : Nat} (h : OkN b p) : p ≤ 10 := by have := h.ok.le10; omega
theorem OkN.worth {b p : Nat} (h : OkN b p) : 1 ≤ (b - 1) ^ p ∧ (b - 1) ^ p ≤ 1024 := by
  have h1 := h.ok.worth
  have h2 := h.hb
  rw [worth_nat b p (by omega)] at h1
  omega
theorem row_down2 {b p L n : Nat} (hb : 2 ≤ b) (h : IsLen (b : Int) (Fx.worth (b : Int) (p : Int)) L) (hw : (b - 1) ^ p ≤ 1024) (hn : n < 2 ^ 200) : ∀ i, itN b p n (i + 2) ≤ max (L - 1) (18 - i) * (b - 1) ^ p
  | 0 => by
    have f1 : (figs b n).length ≤ 200 := by
      rw [figs_len]
      exact lsd_len_le hb 199 n hn
    have s1 : itN b p n 1 ≤ 200 * (b - 1) ^ p := step_le_len hb f1
    have s2 : itN b p n 1 < 2 ^ 18 := by
      have := Nat.mul_le_mul_left 200 hw
      omega
    have f2 : (figs b (itN b p n 1)).length ≤ 18 := by
      rw [figs_len]
      exact lsd_len_le hb 17 _ s2
    show stepN b p (itN b p n 1) ≤ _
    exact Nat.le_trans (step_le_len hb f2) (Nat.mul_le_mul_right _ (by omega))
  | i + 1 => by
    have ih := row_down2 hb h hw hn i
    have := down_one hb h ih
    rw [show 18 - (i + 1) = 18 - i - 1 by omega]
    exact this
theorem near_of {b p n : Nat} (h : OkN b p) (hn : n < 2 ^ 200) : Near b p n := by
  have hw := h.worth
  obtain ⟨L, hL, l15⟩ := len_ex h.ok.1 (show Fx.worth (b : Int) (p : Int) ≤ 1024 by have := h.ok.worth; omega)
  refine ⟨h.hb, fun i hi => ?_⟩
  have := row_down2 h.hb hL hw.2 hn (i - 2)
  rw [show i - 2 + 2 = i by omega, show max (L - 1) (18 - (i - 2)) = L - 1 by omega] at this
  have := Nat.mul_le_mul (show L - 1 ≤ 14 by omega) hw.2
  omega
theorem lt200 {n : Nat} (h : n < 2 ^ 200) : n < 2 ^ 900 := Nat.lt_of_lt_of_le h (Nat.pow_le_pow_right (by decide) (by decide))
theorem itN_lt200 {b p n : Nat} (h : OkN b p) (hn : n < 2 ^ 200) : ∀ k, itN b p n k < 2 ^ 200
  | 0 => hn
  | k + 1 => by
    have := stepN_lt h.hb h.hb16 h.hp (lt200 (itN_lt200 h hn k))
    have e : itN b p n (k + 1) = stepN b p (itN b p n k) := rfl
    have u : (2 : Nat) ^ 50 ≤ 2 ^ 200 := Nat.pow_le_pow_right (by decide) (by decide)
    omega
/-- a way to the first number that stood ahead -/
structure Way (b p n A L : Nat) : Prop where
  lt : A < L
  back : itN b p n L = itN b p n A
  nd : ∀ i j, i < L → j < L → itN b p n i = itN b p n j → i = j
/-- a round from its least number on -/
structure Rnd (b p m k : Nat) : Prop where
  pos : 0 < k
  back : itN b p m k = m
  nd : ∀ i j, i < k → j < k → itN b p m i = itN b p m j → i = j
  least : ∀ i, m ≤ itN b p m i
theorem Way.end_of {b p n A L m : Nat} (w : Way b p n A L) (on : ∃ i, A ≤ i ∧ i < L ∧ itN b p n i = m) (le : ∀ i, A ≤ i → i < L → m ≤ itN b p n i) : EndAt b p n A m := .of_row w.lt w.back w.nd on le
theorem Way.turn {b p n A L : Nat} (w : Way b p n A L) (i : Nat) : itN b p n (L + i) = itN b p n (A + i) := by
  rw [itN_add, w.back, ← itN_add]
theorem Way.rnd {b p n A L i : Nat} (w : Way b p n A L) (h1 : A ≤ i) (h2 : i < L) (le : ∀ j, A ≤ j → j < L → itN b p n i ≤ itN b p n j) : Rnd b p (itN b p n i) (L - A) := by
  have e := w.end_of ⟨i, h1, h2, rfl⟩ le
  have lt := w.lt
  refine ⟨by omega, ?_, fun x y hx hy exy => ?_, fun j => ?_⟩
  · rw [← itN_add, show i + (L - A) = L + (i - A) by omega, w.turn, show A + (i - A) = i by omega]
  · rw [← itN_add, ← itN_add] at exy
    by_cases cx : i + x < L
    · by_cases cy : i + y < L
      · have := w.nd _ _ cx cy exy
        omega
      · rw [show i + y = L + (i + y - L) by omega, w.turn] at exy
        have := w.nd _ _ cx (by omega) exy
        omega
    · rw [show i + x = L + (i + x - L) by omega, w.turn] at exy
      by_cases cy : i + y < L
      · have := w.nd _ _ (by omega) cy exy
        omega
      · rw [show i + y = L + (i + y - L) by omega, w.turn] at exy
        have := w.nd _ _ (by omega) (by omega) exy
        omega
  · rw [← itN_add]
    exact e.least _ (by omega)
theorem Rnd.at0 {b p m k : Nat} (h : Rnd b p m k) : EndAt b p m 0 m := ⟨⟨k, h.pos, h.back⟩, fun j hj => by omega, ⟨0, Nat.le_refl _, rfl⟩, fun i _ => h.least i⟩
theorem Rnd.uniq {b p m k l : Nat} (h : Rnd b p m k) (g : Rnd b p m l) : k = l := by
  rcases Nat.lt_trichotomy k l with c | c | c
  · have := g.nd k 0 c g.pos (by rw [h.back]; rfl)
    have := h.pos
    omega
  · exact c
  · have := h.nd l 0 c h.pos (by rw [g.back]; rfl)
    have := g.pos
    omega
theorem Rnd.le {b p m k : Nat} (h : Rnd b p m k) (nr : Near b p m) : k ≤ 15030 := nr.rep h.nd
theorem rowN_eq (b p n : Nat) : ∀ m, rowN b p n m = (List.range m).map (itN b p n)
  | 0 => rfl
  | m + 1 => by
    rw [rowN, rowN_eq b p n m, List.range_succ, List.map_append]
    rfl
theorem rowN_drop {b p n A L : Nat} : (rowN b p n L).drop A = rowN b p (itN b p n A) (L - A) := by
  rw [rowN_eq, rowN_eq]
  refine List.ext_getElem? fun i => ?_
  rw [List.getElem?_drop, List.getElem?_map, List.getElem?_map]
  by_cases c : A + i < L
  · rw [List.getElem?_range c, List.getElem?_range (by omega)]
    show some (itN b p n (A + i)) = some (itN b p (itN b p n A) i)
    rw [itN_add]
  · rw [List.getElem?_eq_none (by rw [List.length_range]; omega), List.getElem?_eq_none (by rw [List.length_range]; omega)]
    rfl
theorem rowN_take {b p n i : Nat} {L : Nat} (h : i ≤ L) : (rowN b p n L).take i = rowN b p n i := by
  rw [rowN_eq, rowN_eq, ← List.map_take, List.take_range]
  rw [Nat.min_eq_left h]
theorem rowN_app {b p n i j : Nat} : rowN b p n i ++ rowN b p (itN b p n i) j = rowN b p n (i + j) := by
  rw [← rowN_take (L := i + j) (i := i) (by omega), show rowN b p (itN b p n i) j = (rowN b p n (i + j)).drop i by rw [rowN_drop]; congr 1; omega, List.take_append_drop]
theorem mem_rowN {b p n L x : Nat} : x ∈ rowN b p n L ↔ ∃ i, i < L ∧ itN b p n i = x := by
  rw [rowN_eq, List.mem_map]
  exact ⟨fun ⟨i, h, e⟩ => ⟨i, List.mem_range.mp h, e⟩, fun ⟨i, h, e⟩ => ⟨i, List.mem_range.mpr h, e⟩⟩
/-- from another number of a round on, gone round: the whole round -/
theorem Way.rot {b p n A L i : Nat} (w : Way b p n A L) (h1 : A ≤ i) (h2 : i < L) : ((rowN b p n L).drop A).drop (i - A) ++ ((rowN b p n L).drop A).take (i - A) = rowN b p (itN b p n i) (L - A) := by
  have lt := w.lt
  rw [rowN_drop, rowN_drop, rowN_take (by omega), ← itN_add, show A + (i - A) = i by omega]
  have e : itN b p n A = itN b p (itN b p n i) (L - A - (i - A)) := by
    rw [← itN_add, show i + (L - A - (i - A)) = L by omega, w.back]
  rw [e, rowN_app, show L - A - (i - A) + (i - A) = L - A by omega]
end Fx
namespace Fx
theorem itN_lt160 {b p n : Nat} (h : OkN b p) (hn : n < 16 ^ 40) : ∀ k, itN b p n k < 16 ^ 40
  | 0 => hn
  | k + 1 => by
    have u1 : (16 : Nat) ^ 40 < 2 ^ 200 := by decide
    have u2 : (2 : Nat) ^ 50 < 16 ^ 40 := by decide
    have ih := itN_lt160 h hn k
    have := stepN_lt h.hb h.hb16 h.hp (lt200 (show itN b p n k < 2 ^ 200 by omega))
    have e : itN b p n (k + 1) = stepN b p (itN b p n k) := rfl
    omega
end Fx

namespace Fx
open PySem PySem.Spec PyProof.Rows L2
/-! ### a dict by places -/
def kvsOf (f : Nat → Int) (g : Nat → V) (L : Nat) : List (Key × V) := (List.range L).map fun i => (Sum.inl (f i), g i)
theorem kvsOf_len (f : Nat → Int) (g : Nat → V) (L : Nat) : (kvsOf f g L).length = L := by
  unfold kvsOf
  rw [List.length_map, List.length_range]
theorem kvsOf_succ (f : Nat → Int) (g : Nat → V) (L : Nat) : kvsOf f g (L + 1) = kvsOf f g L ++ [(Sum.inl (f L), g L)] := by
  unfold kvsOf
  rw [List.range_succ, List.map_append]
  rfl
theorem kvsOf_none {f : Nat → Int} {g : Nat → V} {k : Int} {L : Nat} (h : ∀ i, i < L → f i ≠ k) : valV (kvsOf f g L) (Sum.inl k : Key) = none := by
  unfold valV kvsOf
  rw [List.find?_eq_none.mpr]
  · rfl
  · intro x hx
    obtain ⟨i, hi, rfl⟩ := List.mem_map.mp hx
    rw [decide_eq_true_iff]
    intro e
    exact h i (List.mem_range.mp hi) (Sum.inl.inj e)
theorem kvsOf_some {f : Nat → Int} {g : Nat → V} : ∀ {L i : Nat}, (∀ i j, i < L → j < L → f i = f j → i = j) → i < L → valV (kvsOf f g L) (Sum.inl (f i) : Key) = some (g i)
  | 0, i, _, h => by omega
  | L + 1, i, nd, h => by
    rw [kvsOf_succ, valV_snoc _ _ _ _ (kvsOf_none fun j hj e => by
      have := nd j L (by omega) (by omega) e
      omega)]
    by_cases c : i = L
    · subst c
      rw [if_pos rfl]
    · rw [if_neg (fun e => c (nd i L h (by omega) (Sum.inl.inj e))), kvsOf_some (fun a b ha hb => nd a b (by omega) (by omega)) (by omega)]
theorem kvsOf_put {f : Nat → Int} {g : Nat → V} {L : Nat} (h : ∀ i, i < L → f i ≠ f L) : putK (kvsOf f g L) (Sum.inl (f L) : Key) (g L) = kvsOf f g (L + 1) := by
  rw [putK_new _ (kvsOf_none h), kvsOf_succ]
theorem kvsOf_keys (f : Nat → Int) (g : Nat → V) (L : Nat) : ((kvsOf f g L).map fun kv => kV kv.1) = (List.range L).map fun i => V.int (f i) := by
  unfold kvsOf
  rw [List.map_map]
  rfl
/-! ### numbers in lists -/
theorem inV_ivs (n : Nat) (l : List Nat) : inV (.int (n : Int)) (ivs l) = decide (n ∈ l) := by
  unfold inV ivs
  rw [List.any_map]
  by_cases c : n ∈ l
  · rw [decide_eq_true c, List.any_eq_true]
    refine ⟨n, c, ?_⟩
    show ((n : Int) == (n : Int)) = true
    exact beq_self_eq_true _
  · rw [decide_eq_false c, List.any_eq_false]
    intro x hx e
    have e' : ((x : Int) == (n : Int)) = true := e
    have := eq_of_beq e'
    have : x = n := by omega
    exact c (this ▸ hx)
theorem flat_ivs (l : List Nat) : (ivs l).all flatV = true := by
  unfold ivs
  rw [List.all_map, List.all_eq_true]
  intro x _
  rfl
theorem eqV_int (a b : Nat) : eqV (.int (a : Int)) (.int (b : Int)) = decide (a = b) := by
  show ((a : Int) == (b : Int)) = _
  by_cases c : a = b
  · subst c
    rw [decide_eq_true rfl]
    exact beq_self_eq_true _
  · rw [decide_eq_false c]
    exact beq_eq_false_iff_ne.mpr (by omega)
theorem dget {H : Hp} {a : Addr} {kvs : List (Key × V)} {k : Key} {r : Option V} (e : H a = some (.dK kvs)) (v : valV kvs k = r) : DGet H a (kV k) r := by
  subst v
  exact .k e
theorem small_len {n : Nat} (h : n ≤ 16000000) : n < sizeLine := Nat.lt_of_le_of_lt h (by decide)
end Fx

namespace Fx
open PySem PySem.Spec PyProof.Rows L2
/-! ### the laws' draws from a seed -/
def Seed (H : Hp) (d : Addr) : Prop := ∃ a f t r : Int, H d = some (.lst [.int a, .int f, .int t, .int r])
theorem Seed.same {H H' : Hp} {d : Addr} (h : Seed H d) (s : Same H H') : Seed H' d := by
  obtain ⟨a, f, t, r, e⟩ := h
  exact ⟨a, f, t, r, s _ _ e⟩
theorem Seed.off {H : Hp} {d p : Addr} {o : HO} (h : Seed H d) (n : p ≠ d) : Seed (upd H p o) d := by
  obtain ⟨a, f, t, r, e⟩ := h
  exact ⟨a, f, t, r, by rw [upd_ne (Ne.symm n)]; exact e⟩
theorem Seed.there {H : Hp} {d : Addr} (h : Seed H d) : ∃ o, H d = some o := by
  obtain ⟨a, f, t, r, e⟩ := h
  exact ⟨_, e⟩
theorem Seed.out {H : Hp} {d p : Addr} (h : Seed H d) (hp : H p = none) : p ≠ d := by
  obtain ⟨o, e⟩ := h.there
  exact (ne_of_none e hp).symm
theorem Seed.tup {H H' : Hp} {d t : Addr} {xs : List V} (h : Seed H d) (b : But d H H') (e : H t = some (.tup xs)) : H' t = some (.tup xs) := by
  obtain ⟨_, _, _, _, q⟩ := h
  exact b t _ (ne_of e q (fun z => by cases z)) e
/-- what each figure is worth -/
def wts (b p : Nat) : List Nat := (List.range b).map (· ^ p)
theorem wts_len (b p : Nat) : (wts b p).length = b := by
  unfold wts
  rw [List.length_map, List.length_range]
theorem wts_get {b p i : Nat} (h : i < b) : (wts b p)[i]? = some (i ^ p) := by
  unfold wts
  rw [List.getElem?_map, List.getElem?_range h]
  rfl
/-- base, power, and what figures are worth -/
def PairW (H : Hp) (d t : Addr) (b p : Nat) : Prop := ∃ w, H t = some (.tup [.int (b : Int), .int (p : Int), .ref w]) ∧ H w = some (.lst (ivs (wts b p))) ∧ w ≠ d ∧ t ≠ d ∧ OkN b p
theorem PairW.but {H H' : Hp} {d t : Addr} {b p : Nat} (h : PairW H d t b p) (s : But d H H') : PairW H' d t b p := by
  obtain ⟨w, e1, e2, n1, n2, ok⟩ := h
  exact ⟨w, s _ _ n2 e1, s _ _ n1 e2, n1, n2, ok⟩
theorem PairW.same {H H' : Hp} {d t : Addr} {b p : Nat} (h : PairW H d t b p) (s : Same H H') : PairW H' d t b p := h.but (.of s)
theorem PairW.ok {H : Hp} {d t : Addr} {b p : Nat} (h : PairW H d t b p) : OkN b p := by
  obtain ⟨w, e1, e2, n1, n2, ok⟩ := h
  exact ok
theorem cut_ivs_to (l : List Nat) (i : Nat) : cutV (ivs l) none (some (i : Int)) = ivs (l.take i) := by
  rw [cut_to]
  unfold ivs
  rw [List.map_take]
theorem cut_ivs_from (l : List Nat) (i : Nat) : cutV (ivs l) (some (i : Int)) none = ivs (l.drop i) := by
  rw [cut_from]
  unfold ivs
  rw [List.map_drop]
/-- the powers that a base lets -/
def mostN (b : Nat) : Nat := (mostOf (b : Int)).toNat
def upTo (m : Nat) : List Nat := (List.range m).map (· + 1)
theorem upTo_len (m : Nat) : (upTo m).length = m := by
  unfold upTo
  rw [List.length_map, List.length_range]
theorem upTo_get {m i : Nat} (h : i < m) : (upTo m)[i]? = some (i + 1) := by
  unfold upTo
  rw [List.getElem?_map, List.getElem?_range h]
  rfl
theorem upTo_succ (m : Nat) : upTo (m + 1) = upTo m ++ [m + 1] := by
  unfold upTo
  rw [List.range_succ, List.map_append]
  rfl
theorem most_iff {b k : Nat} (h1 : 2 ≤ b) (h2 : b ≤ 16) (k1 : 1 ≤ k) (k2 : k ≤ 10) : (b - 1) ^ k ≤ 1000 ↔ k ≤ mostN b := by
  have a : ∀ i ∈ List.range 15, ∀ j ∈ List.range 10, ((i + 2 - 1) ^ (j + 1) ≤ 1000 ↔ j + 1 ≤ mostN (i + 2)) := by decide +kernel
  have := a (b - 2) (List.mem_range.mpr (by omega)) (k - 1) (List.mem_range.mpr (by omega))
  rwa [show b - 2 + 2 = b by omega, show k - 1 + 1 = k by omega] at this
theorem mostN_pos {b : Nat} (h1 : 2 ≤ b) (h2 : b ≤ 16) : 1 ≤ mostN b ∧ mostN b ≤ 10 := by
  have := most_pos (b := (b : Int)) (by omega) (by omega)
  unfold mostN
  omega
theorem okN_of {b p : Nat} (h1 : 2 ≤ b) (h2 : b ≤ 16) (h3 : 1 ≤ p) (h4 : p ≤ mostN b) : OkN b p := by
  have := most_pos (b := (b : Int)) (by omega) (by omega)
  unfold mostN at h4
  exact ⟨by omega, by omega, by omega, by omega⟩
end Fx

namespace Fx
open PySem PySem.Spec PyProof.Rows L2
/-! ### for i, c in enumerate(text) -/
def IteS (x : Str) : It := ⟨fun i _ => i < x.cps.size, fun i H v H' => ∃ (T : Addr) (c : Nat), v = .ref T ∧ H T = none ∧ x.cps[i]? = some c ∧ H' = upd H T (.tup [.int (i : Nat), .str ⟨#[c]⟩]), fun i _ => x.cps.size ≤ i⟩
theorem turn_enumS {P : Program} {w : World} {K : PySem.W.Frag} {elts : List Expr} {kk : Nat} {tpos : Pos} (x : Str) (t : Tok) (e it : Addr) (hne : e ≠ it) :
    Turn P w K (.Tuple elts kk tpos) (IteS x) [e, it] e (fun i h => (∃ old, IsEnum h e it (0 + (i : Int)) old) ∧ h.IsStrIter it (strIterType x) x t i ∧ i ≤ x.cps.size) where
  mem := by simp
  obj := fun i h st b hb => by
    obtain ⟨⟨_, he⟩, ⟨o, ho, _, hd⟩, _⟩ := st
    have two : b = e ∨ b = it := by simpa using hb
    rcases two with rfl | rfl
    · exact ⟨_, he, fun _ q => nomatch q⟩
    · exact ⟨o, ho, fun _ q => nomatch (hd.symm.trans q)⟩
  keep := fun i h h' st k => by
    obtain ⟨⟨old, he⟩, ⟨o, ho, r⟩, le⟩ := st
    exact ⟨⟨old, k e (by simp) _ he⟩, ⟨o, k it (by simp) o ho, r⟩, le⟩
  item := by
    intro X p1 p2 p3 hc i pins s σ H E I hf st hg
    subst p1 p2 p3
    have W := WalksT.enumFrom (prog := X.prog) (w := X.w) (A := X.A) 0 (Draws.text (A := X.A.in1) (I.ok.hd hc) it x t) e hne (fun z => hne (List.mem_singleton.mp z)) (List.mem_singleton.mpr rfl)
    refine W.item i s _ _ hg ⟨st.1, st.2.1⟩ fun T vals h1 tk hP hsz hT hM hk => ⟨_, rfl, W.go _ _ _ i T _ _ _ hM fun h2 st2 hk2 => ?_⟩
    obtain ⟨u, y, ⟨c, v, hcx, rfl⟩, rfl⟩ := hP
    have kk2 : ∀ b o, b ∉ [e, it] → s.heap.get? b = some o → h2.get? b = some o := fun b o hb z => hk2 b o hb (hk b o hb z)
    have hTn : T ∉ [e, it] := W.apart i T _ hM
    obtain ⟨oT, hT1, hT2, n3, hT3⟩ := hT
    have new : ObjOk X.prog X.w (upd H T (.tup [.int (i : Nat), .str ⟨#[c]⟩])) h2 T (.tup [.int (i : Nat), .str ⟨#[c]⟩]) := by
      refine ⟨by show 2 ≤ sizeLine; decide, [.int (0 + (i : Int)) u, .str ⟨#[c]⟩ v], .cons ⟨u, ?_⟩ (.cons ⟨v, rfl⟩ .nil), ⟨oT, hk2 T _ hTn hT1, hT2, n3, hT3⟩⟩
      rw [Int.zero_add]
    have I1 : Inv X pins σ (upd H T (.tup [.int (i : Nat), .str ⟨#[c]⟩])) { s with heap := h2, toks := tk } := I.turnedNew (ch := [e, it]) kk2 hf hsz new
    refine ⟨.ref T, _, I1, rfl, ⟨T, c, rfl, I.hok.fresh hsz, hcx, rfl⟩, ?_, fun b hb => ?_⟩
    · exact ⟨st2.1, st2.2, hg⟩
    · rw [upd_ne (fun z => hTn (by rw [← z]; exact hb))]
      exact (hf b hb).1
  done := by
    intro X p1 p2 p3 hc i pins s σ H E I hf st hg
    subst p1 p2 p3
    obtain ⟨⟨old, he⟩, hit, le⟩ := st
    have fit := hf it (by simp)
    obtain rfl : i = x.cps.size := Nat.le_antisymm le hg
    exact wpAny_pyNext_enum_endD (Draws.text (A := X.A.in1) (I.ok.hd hc) it x t) he hit fun h' eb => ⟨rfl, I.turned (t' := s.toks) (fun b o hb q => eb b o hb q) fit.1 fit.2.1 fit.2.2.2.1 fit.2.2.2.2.1 fit.2.2.2.2.2⟩
  self := fun _ _ _ _ _ st h => wpAny_pyIter_enum st.1.choose_spec h
def iEnumS (ta : TA) : TI := fun σ H R => ta σ H fun vs H1 => ∃ x, vs = [.str x] ∧ R (IteS x) H1
theorem pi_enumS {X : Cx} {e : Expr} {ta : TA} {p pos tpos : Pos} {elts : List Expr} {kk : Nat} (hg : Gl X "enumerate") (hm : X.mg "enumerate" = none) (ha : PA X [e] ta) (hs : starEach [e] X.env = [(false, eval e X.env)] := by rfl) :
    PI X (.Tuple elts kk tpos) (.Call (.Name "enumerate" p) [e] [] pos) (iEnumS ta) := by
  refine ⟨fun pn s σ H R I h => Call_ (ld_blt I hg hm boot_enumerate (PyProof.Rows.callWith_type1 (thn (ha.run pos pn s σ H _ I h) fun us s1 ⟨vs, H1, I1, r1, q1⟩ => ?_) hs rfl))⟩
  obtain ⟨x, ex, q⟩ := q1
  subst ex
  cases r1 with
  | cons r rr =>
    cases rr
    obtain ⟨t, rfl⟩ := r
    refine call_enumerate_str fun h' he hit hsz hk => wpAny_pyIter_enum he ?_
    have I2 : Inv X pn σ H1 { s1 with heap := h' } := I1.kept (t' := s1.toks) hk
    refine ⟨s1.heap.objs.size + 1, [s1.heap.objs.size + 1, s1.heap.objs.size], _, _, H1, rfl, I2, turn_enumS x t (s1.heap.objs.size + 1) s1.heap.objs.size (Nat.succ_ne_self _), ⟨⟨.none, he⟩, hit, Nat.zero_le _⟩, fun b hb => ?_, q⟩
    have two : b = s1.heap.objs.size + 1 ∨ b = s1.heap.objs.size := by simpa only [List.mem_cons, List.not_mem_nil, or_false] using hb
    have behind : s1.heap.objs.size ≤ b := two.elim (fun z => z ▸ Nat.le_succ _) fun z => Nat.le_of_eq z.symm
    exact I1.fpOk behind (I1.hok.fresh behind)
theorem walk_enumS {x : Str} : Walk (IteS x) x.cps.size (fun _ => True) (fun i H v H' => ∃ (T : Addr) (c : Nat), v = .ref T ∧ H T = none ∧ x.cps[i]? = some c ∧ H' = upd H T (.tup [.int (i : Nat), .str ⟨#[c]⟩])) :=
  ⟨fun _ _ hi _ => hi, fun _ _ => Nat.le_refl _, fun _ _ _ _ _ _ y => y⟩
end Fx

namespace Fx
open PySem PySem.Spec PyProof.Rows L2
/-! ### texts of figures -/
/-- the signs of the figures -/
def figCodes : List Nat := [48, 49, 50, 51, 52, 53, 54, 55, 56, 57, 97, 98, 99, 100, 101, 102]
def sg (d : Nat) : Nat := figCodes.getD d 0
abbrev one (c : Nat) : Str := ⟨#[c]⟩
def txt (ds : List Nat) : Str := ⟨(ds.map sg).toArray⟩
abbrev FIG : Str := "0123456789abcdef"
theorem fig_codes : FIG.cps.toList = figCodes := by decide +kernel
theorem fig_len : FIG.length ≤ sizeLine := by decide +kernel
theorem fig_at {d : Nat} (h : d < 16) : atI FIG.cps.toList (d : Int) = some (sg d) := by
  refine atI_nat ?_
  rw [fig_codes]
  have a : ∀ d ∈ List.range 16, figCodes[d]? = some (sg d) := by decide +kernel
  exact a d (List.mem_range.mpr h)
theorem fig_find {d : Nat} (h : d < 16) : Txt.find FIG (one (sg d)) = (d : Int) := by
  have a : ∀ d ∈ List.range 16, Txt.find FIG (one (sg d)) = (d : Int) := by decide +kernel
  exact a d (List.mem_range.mpr h)
theorem sg_inj {d e : Nat} (h : d < 16) (h' : e < 16) (q : sg d = sg e) : d = e := by
  have a : ∀ d ∈ List.range 16, ∀ e ∈ List.range 16, sg d = sg e → d = e := by decide +kernel
  exact a d (List.mem_range.mpr h) e (List.mem_range.mpr h') q
theorem tl_txt (ds : List Nat) : (txt ds).cps.toList = ds.map sg := rfl
theorem txt_len (ds : List Nat) : (txt ds).length = ds.length := by
  show (ds.map sg).toArray.size = _
  rw [List.size_toArray, List.length_map]
theorem txt_at {ds : List Nat} {i : Nat} {d : Nat} (h : ds[i]? = some d) : (txt ds).cps[i]? = some (sg d) := by
  show ((ds.map sg).toArray)[i]? = _
  rw [List.getElem?_toArray, List.getElem?_map, h]
  rfl
theorem txt_atI {ds : List Nat} {i : Nat} {d : Nat} (h : ds[i]? = some d) : atI (txt ds).cps.toList (i : Int) = some (sg d) := by
  refine atI_nat ?_
  rw [tl_txt, List.getElem?_map, h]
  rfl
/-- signs joined -/
theorem joinL_ones : ∀ cs : List Nat, TL.joinL [] (cs.map fun c => [c]) = cs
  | [] => rfl
  | [c] => rfl
  | c :: e :: r => by
    show [c] ++ ([] ++ TL.joinL [] ((e :: r).map fun c => [c])) = _
    rw [joinL_ones (e :: r)]
    rfl
theorem join_ones (cs : List Nat) : Txt.join "" (cs.map one) = ⟨cs.toArray⟩ := by
  rw [TL.join_eq]
  have e : TL.tl (Str.join "" (cs.map one)) = TL.tl ⟨cs.toArray⟩ := by
    rw [TL.tl_join, List.map_map]
    exact joinL_ones cs
  have f : ∀ x y : Str, TL.tl x = TL.tl y → x = y := fun x y h => by
    cases x with
    | mk a =>
      cases y with
      | mk b =>
        have h' : a.toList = b.toList := h
        rw [show a = b from Array.toList_inj.mp h']
  exact f _ _ e
/-- what figures are worth -/
def val (b : Nat) (ds : List Nat) : Nat := ds.foldl (fun a d => a * b + d) 0
theorem val_take {b : Nat} {ds : List Nat} {i d : Nat} (h : ds[i]? = some d) : val b (ds.take (i + 1)) = val b (ds.take i) * b + d := by
  unfold val
  rw [List.take_add_one, h, List.foldl_append]
  rfl
theorem val_figs {b : Nat} (hb : 2 ≤ b) : ∀ n : Nat, val b (figs b n) = n := fun n => by
  induction n using Nat.strongRecOn with
  | ind n ih =>
    by_cases h : b ≤ n
    · have e : figs b n = figs b (n / b) ++ [n % b] := by
        unfold figs
        rw [lsd_ge hb h, List.reverse_cons]
      have i := ih (n / b) (Nat.div_lt_self (by omega) (by omega))
      rw [e]
      unfold val at i ⊢
      rw [List.foldl_append, i]
      show n / b * b + n % b = n
      rw [Nat.mul_comm]
      exact Nat.div_add_mod n b
    · unfold figs
      rw [lsd_lt (by omega)]
      show 0 * b + n = n
      omega
theorem val_lt {b : Nat} (hb : 2 ≤ b) : ∀ ds : List Nat, (∀ d ∈ ds, d < b) → val b ds < b ^ ds.length := fun ds h => by
  have go : ∀ (ds : List Nat) (a k : Nat), (∀ d ∈ ds, d < b) → a < b ^ k → ds.foldl (fun a d => a * b + d) a < b ^ (k + ds.length) := by
    intro ds
    induction ds with
    | nil => intro a k _ h; exact h
    | cons d r ih =>
      intro a k h0 h1
      have hd := h0 d (List.mem_cons_self ..)
      have := ih (a * b + d) (k + 1) (fun e he => h0 e (List.mem_cons_of_mem _ he)) (by
        rw [Nat.pow_succ]
        have := Nat.mul_le_mul_right b (show a + 1 ≤ b ^ k from h1)
        rw [Nat.succ_mul] at this
        omega)
      rw [List.length_cons]
      rw [show k + (r.length + 1) = k + 1 + r.length by omega]
      exact this
  have := go ds 0 0 h (by rw [Nat.pow_zero]; decide)
  rwa [Nat.zero_add] at this
/-- a number's figures: no nought ahead of others -/
theorem figs_head {b : Nat} (hb : 2 ≤ b) : ∀ n : Nat, ∀ d : Nat, (figs b n)[0]? = some d → d = 0 → (figs b n).length = 1 := fun n => by
  induction n using Nat.strongRecOn with
  | ind n ih =>
    intro d hd h0
    by_cases h : b ≤ n
    · have e : figs b n = figs b (n / b) ++ [n % b] := by
        unfold figs
        rw [lsd_ge hb h, List.reverse_cons]
      have hlen : 0 < (figs b (n / b)).length := by
        rw [figs_len]
        exact List.length_pos_iff.mpr lsd_ne
      rw [e, List.getElem?_append_left hlen] at hd
      have l1 := ih (n / b) (Nat.div_lt_self (by omega) (by omega)) d hd h0
      have hq : 0 < n / b := Nat.div_pos h (by omega)
      have ev := val_figs hb (n / b)
      have : ∃ x, figs b (n / b) = [x] := List.length_eq_one_iff.mp l1
      obtain ⟨x, hx⟩ := this
      rw [hx] at hd ev
      have : x = d := Option.some.inj hd
      have ev' : 0 * b + x = n / b := ev
      omega
    · unfold figs
      rw [lsd_lt (by omega)]
      rfl
theorem figs_ne {b n : Nat} : figs b n ≠ [] := fun h => lsd_ne (List.reverse_eq_nil_iff.mp h)
/-- figures that may be read: some, below the base, no nought ahead of others -/
structure Reads (b : Nat) (ds : List Nat) : Prop where
  ne : ds ≠ []
  below : ∀ d ∈ ds, d < b
  head : ∀ d, ds[0]? = some d → d = 0 → ds.length = 1
theorem Reads.figs {b : Nat} (hb : 2 ≤ b) (n : Nat) : Reads b (figs b n) := ⟨figs_ne, fun _ h => figs_below hb h, figs_head hb n⟩
end Fx

namespace Fx
open PySem PySem.Spec PyProof.Rows L2
/-! ### a < b of data; a walk over a list or a tuple -/
def rLtD (K : PySem.W.Frag) : R2 := fun x y H Q => ∃ d e, Dp K H x d ∧ Dp K H y e ∧ PySem.W.alike d e = true ∧ d ≠ .none ∧ d.depth ≤ 60 ∧ Q (.bl (PySem.W.dataLt d e)) H
theorem op_ltD {X : Cx} (hu : X.A.units + 64 < cLine) : OpR X (compareOp .Lt) (rLtD X.K) := by
  intro pins s σ H x y v u Q I rx ry h
  obtain ⟨d, e, hd, he, al, nn, dp, q⟩ := h
  obtain ⟨as, r1⟩ := Dp.reads I d x v hd rx
  obtain ⟨bs, r2⟩ := Dp.reads I e y u he ry
  have hm : min d.depth e.depth ≤ d.depth := Nat.min_le_left _ _
  exact PySem.W.lt_data r1 r2 al nn (by omega) ⟨.bl _, H, I, rfl, q⟩
theorem pi_or {X : Cx} {tg e : Expr} {w1 w2 : TI} (h1 : PI X tg e w1) (h2 : PI X tg e w2) : PI X tg e (fun σ H R => w1 σ H R ∨ w2 σ H R) :=
  ⟨fun pins s σ H R I h => h.elim (h1.run pins s σ H R I) (h2.run pins s σ H R I)⟩
/-! ### lists without one place -/
theorem ixN_of {n j : Nat} (h : j < n) : ixN n (j : Int) = some j := by
  unfold ixN
  rw [if_pos (by omega), if_pos (by omega)]
  simp
theorem seq_of {n j : Nat} (h : j < n) : seqIndex? (j : Int) n = some j := (ixN_seq (ixN_of h)).1
theorem erase_sum : ∀ {l : List Nat} {k : Nat} {d : Nat} (f : Nat → Nat), l[k]? = some d → ((l.eraseIdx k).map f).sum + f d = (l.map f).sum
  | [], _, _, _, h => by simp at h
  | a :: r, 0, d, f, h => by
    cases Option.some.inj h
    show (r.map f).sum + f a = (f a :: r.map f).sum
    rw [List.sum_cons]
    omega
  | a :: r, k + 1, d, f, h => by
    have ih := erase_sum (l := r) (k := k) (d := d) f h
    show ((f a) :: (r.eraseIdx k).map f).sum + f d = (f a :: r.map f).sum
    rw [List.sum_cons, List.sum_cons]
    omega
theorem ivs_erase : ∀ (l : List Nat) (k : Nat), (ivs l).eraseIdx k = ivs (l.eraseIdx k)
  | [], _ => rfl
  | _ :: _, 0 => rfl
  | a :: r, k + 1 => by
    show V.int (a : Int) :: (ivs r).eraseIdx k = V.int (a : Int) :: ivs (r.eraseIdx k)
    rw [ivs_erase r k]
/-! ### steps of what figures are worth -/
theorem step_val {b p : Nat} (hb : 2 ≤ b) (hp : 1 ≤ p) (ds : List Nat) (h : ∀ d ∈ ds, d < b) : stepN b p (val b ds) = (ds.map (· ^ p)).sum := by
  have go : ∀ (ds : List Nat) (a : Nat), (∀ d ∈ ds, d < b) → stepN b p (ds.foldl (fun a d => a * b + d) a) = stepN b p a + (ds.map (· ^ p)).sum := by
    intro ds
    induction ds with
    | nil => intro a _; rfl
    | cons d r ih =>
      intro a h
      show stepN b p (r.foldl (fun a d => a * b + d) (a * b + d)) = _
      rw [ih (a * b + d) (fun e he => h e (List.mem_cons_of_mem _ he)), stepN_push hb hp (h d (List.mem_cons_self ..)), List.map_cons, List.sum_cons]
      omega
  have := go ds 0 h
  rw [stepN_zero hb hp, Nat.zero_add] at this
  exact this
theorem val_lt900 {b : Nat} (hb : 2 ≤ b) (hb16 : b ≤ 16) {ds : List Nat} (h : ∀ d ∈ ds, d < b) (hl : ds.length ≤ 200) : val b ds < 2 ^ 900 := by
  have h1 := val_lt hb ds h
  have h2 : b ^ ds.length ≤ b ^ 200 := Nat.pow_le_pow_right (by omega) hl
  have h3 : b ^ 200 ≤ 16 ^ 200 := Nat.pow_le_pow_left hb16 200
  have h4 : (16 : Nat) ^ 200 = 2 ^ 800 := by
    rw [show (16 : Nat) = 2 ^ 4 by decide, ← Nat.pow_mul]
  have h5 : (2 : Nat) ^ 800 ≤ 2 ^ 900 := Nat.pow_le_pow_right (by decide) (by decide)
  omega
theorem val_append {b : Nat} (ds es : List Nat) : val b (ds ++ es) = val b ds * b ^ es.length + val b es := by
  have go : ∀ (es : List Nat) (a : Nat), es.foldl (fun a d => a * b + d) a = a * b ^ es.length + val b es := by
    intro es
    induction es with
    | nil =>
      intro a
      show a = a * b ^ 0 + 0
      rw [Nat.pow_zero]
      omega
    | cons d r ih =>
      intro a
      show r.foldl (fun a d => a * b + d) (a * b + d) = _
      rw [ih (a * b + d)]
      have e : val b (d :: r) = d * b ^ r.length + val b r := by
        show r.foldl (fun a d => a * b + d) (0 * b + d) = _
        rw [ih (0 * b + d), Nat.zero_mul, Nat.zero_add]
      rw [e, List.length_cons, Nat.pow_succ, Nat.add_mul, Nat.mul_assoc, Nat.mul_comm b]
      omega
  unfold val
  rw [List.foldl_append]
  exact go es _
theorem val_cons {b d : Nat} (r : List Nat) : val b (d :: r) = d * b ^ r.length + val b r := by
  have := val_append (b := b) [d] r
  rw [show val b [d] = d by show 0 * b + d = d; omega] at this
  exact this
/-! ### the order of texts is that of numbers -/
theorem sg_lt {d e : Nat} (h : d < 16) (h' : e < 16) : sg d < sg e ↔ d < e := by
  have a : ∀ d ∈ List.range 16, ∀ e ∈ List.range 16, (sg d < sg e ↔ d < e) := by decide +kernel
  exact a d (List.mem_range.mpr h) e (List.mem_range.mpr h')
theorem lex_val {b : Nat} (hb : 2 ≤ b) (hb16 : b ≤ 16) : ∀ ds es : List Nat, ds.length = es.length → (∀ d ∈ ds, d < b) → (∀ d ∈ es, d < b) → (ds.map sg < es.map sg ↔ val b ds < val b es)
  | [], [], _, _, _ => by
    constructor
    · intro h; exact absurd h (List.not_lt_nil _)
    · intro h; exact absurd h (Nat.lt_irrefl _)
  | [], _ :: _, h, _, _ => by simp at h
  | _ :: _, [], h, _, _ => by simp at h
  | d :: ds, e :: es, hl, h1, h2 => by
    have hl' : ds.length = es.length := by simpa using hl
    have hd := h1 d (List.mem_cons_self ..)
    have he := h2 e (List.mem_cons_self ..)
    have i1 : ∀ x ∈ ds, x < b := fun x hx => h1 x (List.mem_cons_of_mem _ hx)
    have i2 : ∀ x ∈ es, x < b := fun x hx => h2 x (List.mem_cons_of_mem _ hx)
    have ih := lex_val hb hb16 ds es hl' i1 i2
    have v1 := val_lt hb ds i1
    have v2 := val_lt hb es i2
    rw [List.map_cons, List.map_cons, List.cons_lt_cons_iff, ih, sg_lt (by omega) (by omega), val_cons, val_cons, hl']
    rw [hl'] at v1
    constructor
    · rintro (h | ⟨h, g⟩)
      · have := Nat.mul_le_mul_right (b ^ es.length) (show d + 1 ≤ e from h)
        rw [Nat.succ_mul] at this
        omega
      · have := sg_inj (by omega) (by omega) h
        subst this
        omega
    · intro h
      by_cases c : d < e
      · exact .inl c
      · right
        have de : d = e := by
          refine Nat.le_antisymm (Nat.le_of_not_lt fun z => ?_) (by omega)
          have := Nat.mul_le_mul_right (b ^ es.length) (show e + 1 ≤ d from z)
          rw [Nat.succ_mul] at this
          omega
        subst de
        exact ⟨rfl, by omega⟩
theorem len_lt_num {b n m : Nat} (hb : 2 ≤ b) (h : (figs b n).length < (figs b m).length) : n < m := by
  have l0 : 0 < (figs b n).length := List.length_pos_iff.mpr figs_ne
  have h1 := val_lt hb (figs b n) fun d hd => figs_below hb hd
  rw [val_figs hb] at h1
  have m0 : 0 < m := by
    refine Nat.pos_of_ne_zero fun z => ?_
    subst z
    rw [figs_len b 0, lsd_lt (by omega)] at h
    have : [0].length = 1 := rfl
    omega
  have h2 := len_pow hb m m0
  have := Nat.pow_le_pow_right (show 0 < b by omega) (show (figs b n).length ≤ (figs b m).length - 1 by omega)
  omega
theorem txt_inj {b n m : Nat} (hb : 2 ≤ b) (hb16 : b ≤ 16) (h : txt (figs b n) = txt (figs b m)) : n = m := by
  have e := congrArg (fun x : Str => x.cps.toList) h
  have e' : (figs b n).map sg = (figs b m).map sg := e
  have l : (figs b n).length = (figs b m).length := by
    have := congrArg List.length e'
    simpa using this
  rcases Nat.lt_trichotomy n m with c | c | c
  · have := (lex_val hb hb16 _ _ l (fun d hd => figs_below hb hd) (fun d hd => figs_below hb hd)).mpr (by rw [val_figs hb, val_figs hb]; exact c)
    rw [e'] at this
    exact absurd this (List.lt_irrefl _)
  · exact c
  · have := (lex_val hb hb16 _ _ l.symm (fun d hd => figs_below hb hd) (fun d hd => figs_below hb hd)).mpr (by rw [val_figs hb, val_figs hb]; exact c)
    rw [e'] at this
    exact absurd this (List.lt_irrefl _)
/-- (its length, its text), as data -/
def lenTxt (ds : List Nat) : PyData := .tuple [.int (ds.length : Int), .str (txt ds)]
theorem lenTxt_lt {b n m : Nat} (hb : 2 ≤ b) (hb16 : b ≤ 16) : PySem.W.dataLt (lenTxt (figs b n)) (lenTxt (figs b m)) = decide ((n : Int) < (m : Int)) := by
  unfold lenTxt
  rw [PySem.W.dataLt_tuple]
  by_cases c : (figs b n).length = (figs b m).length
  · rw [PySem.W.dataLt_all_yes (by rfl) (by rw [c]; simp [PyData.eqv])]
    by_cases d : txt (figs b n) = txt (figs b m)
    · have nm := txt_inj hb hb16 d
      subst nm
      rw [decide_eq_false (Int.lt_irrefl _)]
      rw [PySem.W.dataLt_all_yes (by rfl) (by simp [PyData.eqv])]
      decide +kernel
    · rw [PySem.W.dataLt_all_no (by rfl) (by simp [PyData.eqv, d]), PySem.W.dataLt_str]
      rw [decide_eq_decide, tl_txt, tl_txt, lex_val hb hb16 _ _ c (fun d hd => figs_below hb hd) (fun d hd => figs_below hb hd), val_figs hb, val_figs hb]
      omega
  · rw [PySem.W.dataLt_all_no (by rfl) (by simp [PyData.eqv]; omega), PySem.W.dataLt_int, decide_eq_decide]
    constructor
    · intro h
      have := len_lt_num hb (n := n) (m := m) (by omega)
      omega
    · intro h
      refine Int.ofNat_lt.mpr (Nat.lt_of_le_of_ne (Nat.le_of_not_lt fun z => ?_) c)
      have := len_lt_num hb z
      omega
end Fx

namespace Fx
open PySem PySem.Spec PyProof.Rows L2
/-! ### what stays but for some -/
structure Frm (S : List Addr) (H H' : Hp) : Prop where
  kp : ∀ q o, q ∉ S → H q = some o → H' q = some o
  fr : ∀ q, H' q = none → H q = none
theorem Frm.refl (S : List Addr) (H : Hp) : Frm S H H := ⟨fun _ _ _ h => h, fun _ h => h⟩
theorem Frm.trans {S : List Addr} {H H1 H2 : Hp} (a : Frm S H H1) (b : Frm S H1 H2) : Frm S H H2 := ⟨fun q o n h => b.kp q o n (a.kp q o n h), fun q h => a.fr q (b.fr q h)⟩
theorem Frm.mono {S T : List Addr} {H H' : Hp} (a : Frm S H H') (h : ∀ x ∈ S, x ∈ T) : Frm T H H' := ⟨fun q o n e => a.kp q o (fun z => n (h q z)) e, a.fr⟩
theorem Frm.of {H H' : Hp} (S : List Addr) (a : Same H H') : Frm S H H' := ⟨fun q o _ h => a q o h, fun _ h => a.free h⟩
theorem Frm.but {d : Addr} {H H' : Hp} (a : But d H H') (h : ∃ o, H' d = some o) : Frm [d] H H' := ⟨fun q o n e => a q o (fun z => n (by rw [z]; exact List.mem_singleton.mpr rfl)) e, fun _ e => a.fresh h e⟩
theorem Frm.set {p : Addr} {H : Hp} {o u : HO} (h : H p = some u) : Frm [p] H (upd H p o) := Frm.but But.set ⟨_, upd_same⟩
theorem Frm.to {d : Addr} {S : List Addr} {H H' : Hp} (a : Frm S H H') (h : ∀ x ∈ S, x = d) : But d H H' := fun b o n e => a.kp b o (fun z => n (h b z)) e
/-- a fresh thing of our own was changed: nothing was -/
theorem Frm.drop {p : Addr} {S : List Addr} {H H' : Hp} (a : Frm (p :: S) H H') (h : H p = none) : Frm S H H' := ⟨fun q o n e => a.kp q o (fun z => (List.mem_cons.mp z).elim (fun z => by rw [z, h] at e; cases e) n) e, a.fr⟩
theorem Frm.same {H H' : Hp} (a : Frm [] H H') : Same H H' := fun q o e => a.kp q o (by simp) e
theorem Deck.frm {S : List Addr} {H H' : Hp} {d c : Addr} {n : Nat} (h : Deck H d c n) (a : Frm S H H') (h1 : d ∉ S) (h2 : c ∉ S) : Deck H' d c n := by
  obtain ⟨ns, i, l, m, t, e, e2, r⟩ := h.ex
  exact ⟨ns, i, l, m, t, a.kp _ _ h1 e, a.kp _ _ h2 e2, r⟩
/-- the deck's list is no list of numbers -/
theorem Deck.notInts {H : Hp} {d c p : Addr} {n : Nat} {l : List Nat} (h : Deck H d c n) (e : H p = Option.some (HO.lst (ivs l))) : p ≠ d := by
  obtain ⟨ns, i, k, m, t, e1, _⟩ := h.ex
  intro z
  rw [z, e1] at e
  cases l with
  | nil => cases e
  | cons x r => cases e

theorem Deck.notTup' {H : Hp} {d c x : Addr} {n : Nat} {xs : List V} (h : Deck H d c n) (g : H x = Option.some (HO.tup xs)) : x ≠ d := fun z => by
  obtain ⟨ns, i, l, m, t, e, _⟩ := h.ex
  rw [z, e] at g
  cases g
/-! ### a kept number as it stands -/
theorem kb1 : ¬ (("base" : Str) = "power") := by decide +kernel
theorem kb2 : ¬ (("base" : Str) = "worths") := by decide +kernel
theorem kb3 : ¬ (("base" : Str) = "figures") := by decide +kernel
theorem kp2 : ¬ (("power" : Str) = "worths") := by decide +kernel
theorem kp3 : ¬ (("power" : Str) = "figures") := by decide +kernel
theorem kw3 : ¬ (("worths" : Str) = "figures") := by decide +kernel
def kf (b p : Int) (w f : Addr) : List (Str × V) := putF "figures" (.ref f) (putF "worths" (.ref w) (putF "power" (.int p) (putF "base" (.int b) [])))
theorem kf_eq (b p : Int) (w f : Addr) : kf b p w f = ([("base", V.int b), ("power", V.int p), ("worths", V.ref w), ("figures", V.ref f)] : List (Str × V)) := by
  show putF "figures" (.ref f) (putF "worths" (.ref w) (if ("base" : Str) = "power" then [(("base" : Str), V.int p)] else (("base" : Str), V.int b) :: [(("power" : Str), V.int p)])) = _
  rw [if_neg kb1]
  show putF "figures" (.ref f) (if ("base" : Str) = "worths" then _ else (("base" : Str), V.int b) :: (if ("power" : Str) = "worths" then _ else (("power" : Str), V.int p) :: [(("worths" : Str), V.ref w)])) = _
  rw [if_neg kb2, if_neg kp2]
  show (if ("base" : Str) = "figures" then _ else (("base" : Str), V.int b) :: (if ("power" : Str) = "figures" then _ else (("power" : Str), V.int p) :: (if ("worths" : Str) = "figures" then _ else (("worths" : Str), V.ref w) :: [(("figures" : Str), V.ref f)]))) = _
  rw [if_neg kb3, if_neg kp3, if_neg kw3]
theorem kf_len (b p : Int) (w f : Addr) : (kf b p w f).length < 1000 := by
  rw [kf_eq]
  show 4 < 1000
  decide
theorem putF_len {f : Str} {v : V} {fs : List (Str × V)} {n : Nat} (h : fs.length ≤ n) : (putF f v fs).length ≤ n + 1 := Nat.le_trans (length_putF ..) (by omega)
theorem kf2_len (b p : Int) : (putF "power" (.int p) (putF "base" (.int b) [])).length < 1000 := Nat.lt_of_le_of_lt (putF_len (putF_len (Nat.le_refl 0))) (by decide)
theorem kf3_len (b p : Int) (w : Addr) : (putF "worths" (.ref w) (putF "power" (.int p) (putF "base" (.int b) []))).length < 1000 := Nat.lt_of_le_of_lt (putF_len (putF_len (putF_len (Nat.le_refl 0)))) (by decide)
theorem kf_base (b p : Int) (w f : Addr) : (kf b p w f).lookup ("base" : Str) = some (.int b) := by
  unfold kf
  rw [lookup_putF, if_neg kb3, lookup_putF, if_neg kb2, lookup_putF, if_neg kb1, lookup_putF, if_pos rfl]
theorem kf_power (b p : Int) (w f : Addr) : (kf b p w f).lookup ("power" : Str) = some (.int p) := by
  unfold kf
  rw [lookup_putF, if_neg kp3, lookup_putF, if_neg kp2, lookup_putF, if_pos rfl]
theorem kf_worths (b p : Int) (w f : Addr) : (kf b p w f).lookup ("worths" : Str) = some (.ref w) := by
  unfold kf
  rw [lookup_putF, if_neg kw3, lookup_putF, if_pos rfl]
theorem kf_figures (b p : Int) (w f : Addr) : (kf b p w f).lookup ("figures" : Str) = some (.ref f) := by
  unfold kf
  rw [lookup_putF, if_pos rfl]
theorem kf_no (b p : Int) (w f : Addr) {m : Str} (h1 : ¬ m = "base") (h2 : ¬ m = "power") (h3 : ¬ m = "worths") (h4 : ¬ m = "figures") : (kf b p w f).lookup m = none := by
  unfold kf
  rw [lookup_putF, if_neg h4, lookup_putF, if_neg h3, lookup_putF, if_neg h2, lookup_putF, if_neg h1]
  rfl
theorem kf_put (b p : Int) (w f g : Addr) : putF "figures" (.ref g) (kf b p w f) = kf b p w g := by
  rw [kf_eq, kf_eq]
  show (if ("base" : Str) = "figures" then _ else (("base" : Str), V.int b) :: (if ("power" : Str) = "figures" then _ else (("power" : Str), V.int p) :: (if ("worths" : Str) = "figures" then _ else (("worths" : Str), V.ref w) :: (if ("figures" : Str) = "figures" then [(("figures" : Str), V.ref g)] else _)))) = _
  rw [if_neg kb3, if_neg kp3, if_neg kw3, if_pos rfl]
/-- figures of a number, the greatest place first -/
structure Good (b : Nat) (fs : List Nat) : Prop where
  lt : ∀ f ∈ fs, f < b
  ne : fs ≠ []
  len : fs.length ≤ 40
/-- a number of the pair at p, its worths at w, its figures at l -/
structure KeptAt (C : Addr) (H : Hp) (p w l : Addr) (b pw : Nat) (fs : List Nat) : Prop where
  ins : ∃ dx, H p = some (.ins C dx (kf (b : Int) (pw : Int) w l))
  ws : H w = some (.lst (ivs (wts b pw)))
  fg : H l = some (.lst (ivs fs))
  wl : w ≠ l
  ok : OkN b pw
  good : Good b fs
theorem KeptAt.pw {C : Addr} {H : Hp} {p w l : Addr} {b pw : Nat} {fs : List Nat} (h : KeptAt C H p w l b pw fs) : p ≠ w := by
  obtain ⟨dx, e⟩ := h.ins
  exact ne_of e h.ws (fun z => by cases z)
theorem KeptAt.pl {C : Addr} {H : Hp} {p w l : Addr} {b pw : Nat} {fs : List Nat} (h : KeptAt C H p w l b pw fs) : p ≠ l := by
  obtain ⟨dx, e⟩ := h.ins
  exact ne_of e h.fg (fun z => by cases z)
theorem KeptAt.frm {C : Addr} {S : List Addr} {H H' : Hp} {p w l : Addr} {b pw : Nat} {fs : List Nat} (h : KeptAt C H p w l b pw fs) (a : Frm S H H') (h1 : p ∉ S) (h2 : w ∉ S) (h3 : l ∉ S) : KeptAt C H' p w l b pw fs := by
  obtain ⟨dx, e⟩ := h.ins
  exact ⟨⟨dx, a.kp _ _ h1 e⟩, a.kp _ _ h2 h.ws, a.kp _ _ h3 h.fg, h.wl, h.ok, h.good⟩
theorem KeptAt.same {C : Addr} {H H' : Hp} {p w l : Addr} {b pw : Nat} {fs : List Nat} (h : KeptAt C H p w l b pw fs) (a : Same H H') : KeptAt C H' p w l b pw fs := h.frm (Frm.of [] a) (by simp) (by simp) (by simp)
theorem KeptAt.deck {C : Addr} {H : Hp} {p w l d c : Addr} {b pw n : Nat} {fs : List Nat} (h : KeptAt C H p w l b pw fs) (D : Deck H d c n) : p ≠ d ∧ w ≠ d ∧ l ≠ d := by
  obtain ⟨dx, e⟩ := h.ins
  obtain ⟨xs, e2⟩ := D.some
  refine ⟨ne_of e e2 (fun z => ?_), D.notInts h.ws, D.notInts h.fg⟩
  cases z
theorem KeptAt.but {C : Addr} {H H' : Hp} {p w l d c : Addr} {b pw n : Nat} {fs : List Nat} (h : KeptAt C H p w l b pw fs) (D : Deck H d c n) (a : But d H H') : KeptAt C H' p w l b pw fs := by
  obtain ⟨h1, h2, h3⟩ := h.deck D
  obtain ⟨dx, e⟩ := h.ins
  exact ⟨⟨dx, a _ _ h1 e⟩, a _ _ h2 h.ws, a _ _ h3 h.fg, h.wl, h.ok, h.good⟩
theorem Good.val_lt {b : Nat} {fs : List Nat} (h : Good b fs) (hb : 2 ≤ b) (hb16 : b ≤ 16) : val b fs < 16 ^ 40 := by
  have h1 := Fx.val_lt hb fs h.lt
  have h2 : b ^ fs.length ≤ 16 ^ fs.length := Nat.pow_le_pow_left hb16 _
  have h3 : (16 : Nat) ^ fs.length ≤ 16 ^ 40 := Nat.pow_le_pow_right (by decide) h.len
  omega
theorem Good.val200 {b : Nat} {fs : List Nat} (h : Good b fs) (hb : 2 ≤ b) (hb16 : b ≤ 16) : val b fs < 2 ^ 200 := Nat.lt_of_lt_of_le (h.val_lt hb hb16) (by decide)
theorem Good.zero {b : Nat} (hb : 2 ≤ b) : Good b [0] := ⟨fun f hf => by cases List.mem_singleton.mp hf; omega, by simp, by decide⟩
theorem Good.push {b f : Nat} {fs : List Nat} (h : Good b fs) (hf : f < b) (hl : fs.length < 40) : Good b (fs ++ [f]) := ⟨fun x hx => by
  rcases List.mem_append.mp hx with z | z
  · exact h.lt x z
  · cases List.mem_singleton.mp z; exact hf, by simp, by rw [List.length_append]; show fs.length + 1 ≤ 40; omega⟩
theorem Good.one {b f : Nat} (hf : f < b) : Good b [f] := ⟨fun x hx => by cases List.mem_singleton.mp hx; exact hf, by simp, by show 1 ≤ 40; decide⟩
/-- figures once a figure is put behind -/
def putFs (fs : List Nat) (f : Nat) : List Nat := (if fs = [0] then [] else fs) ++ [f]
theorem Good.put {b f : Nat} {fs : List Nat} (h : Good b fs) (hf : f < b) (hl : fs.length < 40) : Good b (putFs fs f) := by
  unfold putFs
  by_cases c : fs = [0]
  · rw [if_pos c]
    exact Good.one hf
  · rw [if_neg c]
    exact h.push hf hl
/-- once the last one is taken off -/
def offFs (fs : List Nat) : List Nat := if fs.length = 1 then [0] else fs.dropLast
theorem Good.off {b : Nat} {fs : List Nat} (h : Good b fs) (hb : 2 ≤ b) : Good b (offFs fs) := by
  unfold offFs
  by_cases c : fs.length = 1
  · rw [if_pos c]
    exact Good.zero hb
  · rw [if_neg c]
    refine ⟨fun x hx => h.lt x (List.dropLast_subset _ hx), fun z => ?_, by rw [List.length_dropLast]; have := h.len; omega⟩
    have z2 := congrArg List.length z
    rw [List.length_dropLast] at z2
    have := List.length_pos_iff.mpr h.ne
    simp at z2
    omega
theorem Good.set {b f i : Nat} {fs : List Nat} (h : Good b fs) (hf : f < b) : Good b (fs.set i f) := ⟨fun x hx => by
  rcases List.mem_or_eq_of_mem_set hx with z | z
  · exact h.lt x z
  · rw [z]; exact hf, fun z => h.ne (by
  have := congrArg List.length z
  rw [List.length_set] at this
  exact List.length_eq_zero_iff.mp this), by rw [List.length_set]; exact h.len⟩
theorem ivs_set (l : List Nat) (i f : Nat) : (ivs l).set i (.int (f : Int)) = ivs (l.set i f) := by
  unfold ivs
  rw [List.map_set]
theorem ivs_dropLast (l : List Nat) : (ivs l).dropLast = ivs l.dropLast := by
  unfold ivs
  rw [List.map_dropLast]
theorem ivs_inj {l r : List Nat} (h : ivs l = ivs r) : l = r := by
  induction l generalizing r with
  | nil => cases r with
    | nil => rfl
    | cons a r => cases h
  | cons a l ih => cases r with
    | nil => cases h
    | cons c r =>
      have h' : V.int (a : Int) :: ivs l = V.int (c : Int) :: ivs r := h
      injection h' with h1 h2
      injection h1 with h1
      rw [ih h2, Int.ofNat.inj h1]
theorem cut_butlast (xs : List V) : cutV xs none (some (-1)) = xs.take (xs.length - 1) := by
  unfold cutV
  rw [HT.sIx_none]
  have e : HT.sIx xs.length xs.length (some (-1)) = xs.length - 1 := by
    show (if (-1 : Int) < 0 then ((-1 : Int) + (xs.length : Int)).toNat else min (-1 : Int).toNat xs.length) = _
    rw [if_pos (by decide)]
    omega
  rw [e, List.drop_zero, Nat.sub_zero]
theorem cut_ivs_butlast (l : List Nat) : cutV (ivs l) none (some (-1)) = ivs (l.take (l.length - 1)) := by
  rw [cut_butlast, ivs_length]
  unfold ivs
  rw [List.map_take]
theorem ivs_noughts (k : Nat) : (List.replicate k [V.int 0]).flatten = ivs (List.replicate k [0]).flatten := by
  induction k with
  | zero => rfl
  | succ k ih =>
    rw [List.replicate_succ, List.replicate_succ, List.flatten_cons, List.flatten_cons, ivs_append, ih]
    rfl
/-- the answer of == between two rows of numbers -/
theorem eqv_ints : ∀ l r : List Int, PyData.eqv (.list (dInts l)) (.list (dInts r)) = decide (l = r) := fun l r => by
  rw [PyData.eqv]
  exact PySem.W.ked_eqvAll l r
theorem cast_inj {l r : List Nat} : (l.map fun (k : Nat) => (k : Int)) = (r.map fun (k : Nat) => (k : Int)) ↔ l = r := by
  refine ⟨fun h => ?_, fun h => by rw [h]⟩
  refine ivs_inj ?_
  rw [ivs_map, ivs_map, h]
theorem eqv_nats (l r : List Nat) : PyData.eqv (.list (dInts (l.map fun (k : Nat) => (k : Int)))) (.list (dInts (r.map fun (k : Nat) => (k : Int)))) = decide (l = r) := by
  rw [eqv_ints]
  exact decide_eq_decide.mpr cast_inj
/-- a kept number that was made: what stood stands -/
theorem made {C : Addr} {H H2 : Hp} {x dx w l : Addr} {b pw : Nat} (nx : H x = none) (ndx : H dx = none) (nex : dx ≠ x) (k : KeptAt C H2 x w l b pw [0]) (nw : upd (upd H dx (.own x)) x (.ins C dx []) w = none) (nl : upd (upd H dx (.own x)) x (.ins C dx []) l = none)
    (F : Frm [x] (upd (upd H dx (.own x)) x (.ins C dx [])) H2) : Same H H2 ∧ H w = none ∧ H l = none := by
  have s1 : Same H (upd (upd H dx (.own x)) x (.ins C dx [])) := same_own (Same.new ndx) nx
  have F2 : Frm [x] H H2 := (Frm.of _ s1).trans F
  exact ⟨(F2.drop nx).same, s1.free nw, s1.free nl⟩
end Fx

namespace Fx
open PySem PySem.Spec
open PyProof.Rows L2
/-! ### a text gone along by its signs -/
/-- the figure that a sign is, below 0 if it is none -/
def fi (c : Nat) : Int := Txt.find FIG (one c)
/-- the number (left), or the place of the first wrong sign (right) -/
def scan (b : Nat) : List Nat → Nat → Int → Int ⊕ Nat
  | [], _, n => .inl n
  | c :: r, i, n => if 0 ≤ fi c ∧ fi c < b then scan b r (i + 1) (n * b + fi c) else .inr i
def bad0 (x : Str) : Bool := decide (x = "") || (decide (x.cps[0]? = some 48) && decide (1 < x.length))
def dueOf (b : Nat) (x : Str) : Int ⊕ Nat := if bad0 x = true then .inr 0 else scan b x.cps.toList 0 0
theorem scan_end {b : Nat} {l : List Nat} {i j : Nat} {n : Int} (h : l.length ≤ j) : scan b (l.drop j) i n = .inl n := by
  rw [List.drop_eq_nil_of_le h]
  rfl
theorem scan_good {b : Nat} {l : List Nat} {j i c : Nat} {n : Int} (h : l[j]? = some c) (g : 0 ≤ fi c ∧ fi c < b) : scan b (l.drop j) i n = scan b (l.drop (j + 1)) (i + 1) (n * b + fi c) := by
  obtain ⟨hj, e⟩ := List.getElem?_eq_some_iff.mp h
  rw [List.drop_eq_getElem_cons hj, e]
  show (if _ then _ else _) = _
  rw [if_pos g]
theorem scan_bad {b : Nat} {l : List Nat} {j i c : Nat} {n : Int} (h : l[j]? = some c) (g : ¬ (0 ≤ fi c ∧ fi c < b)) : scan b (l.drop j) i n = .inr i := by
  obtain ⟨hj, e⟩ := List.getElem?_eq_some_iff.mp h
  rw [List.drop_eq_getElem_cons hj, e]
  show (if _ then _ else _) = _
  rw [if_neg g]
theorem scan_place {b : Nat} : ∀ {l : List Nat} {i p : Nat} {n : Int}, scan b l i n = .inr p → p < i + l.length
  | [], _, _, _, h => by cases h
  | c :: r, i, p, n, h => by
    unfold scan at h
    split at h
    · have z := scan_place h
      rw [List.length_cons]
      omega
    · cases h
      rw [List.length_cons]
      omega
theorem due_place {b p : Nat} {x : Str} (h : dueOf b x = .inr p) : p ≤ x.length := by
  unfold dueOf at h
  split at h
  · cases h
    exact Nat.zero_le _
  · have z := scan_place h
    have y : x.cps.toList.length = x.length := by
      unfold Str.length
      rw [Array.length_toList]
    omega
theorem str_empty {x : Str} (h : x.length = 0) : x = "" := by
  cases x with
  | mk a =>
    have z : a.size = 0 := h
    rw [Array.size_eq_zero_iff.mp z]
    rfl
theorem one_is {c d : Nat} (h : V.str (one c) = V.str (one d)) : c = d := by
  injection h with h
  injection h with h
  have e := congrArg Array.toList h
  injection e

section
variable {K : PySem.W.Frag} {R : Addr} {f : Str}
/-- such an exception made, raised -/
theorem made_exc1 {H1 : Hp} {i : Int} {Q : XK} (hi : i.natAbs.log2 < 1920)
    (q : ∀ d H', Same H1 H' → KF H' d f (.int i) → Q (.ref R) (some d) H') :
    ∀ a, H1 a = none → sp_exc1 R f (.ref a :: ([.int i] ++ [])) (upd H1 a (exo a R none))
      (fun v H2 => v = .non ∧ ∃ (d : Addr) (fs : List (Str × V)), H2 a = some (exo a R (some d)) ∧ H2 d = some (exd d fs) ∧ H1 d = none ∧
        Q (.ref R) (some d) (upd (L2.del H2 a) d (.xd fs))) (fun _ _ _ => False) := by
  intro a ha
  refine ⟨a, i, rfl, hi, upd_same, fun dx n ne => ⟨rfl, dx, [(f, .int i)], upd_same, by rw [upd_ne ne, upd_same], by rw [← n, upd_ne ne], ?_⟩⟩
  have n1 : H1 dx = none := by rw [← n, upd_ne ne]
  refine q dx _ (fun b o e => ?_) ⟨_, .inl upd_same, by simp [List.lookup]⟩
  have b1 : b ≠ dx := ne_of_none e n1
  have b2 : b ≠ a := ne_of_none e ha
  rw [upd_ne b1, L2.del_ne b2, upd_ne b2, upd_ne b1, upd_ne b2]
  exact e
/-- such an exception made, as a value -/
theorem made_val1 {H1 : Hp} {i : Int} {Q : Addr → Hp → Prop} (hi : i.natAbs.log2 < 1920)
    (q : ∀ a d H', Same H1 H' → KX H' a R (some d) → KF H' d f (.int i) → Q a H') :
    ∀ a, H1 a = none → sp_exc1 R f (.ref a :: ([.int i] ++ [])) (upd H1 a (exo a R none)) (fun v H2 => v = .non ∧ Q a H2) (fun _ _ _ => False) := by
  intro a ha
  refine ⟨a, i, rfl, hi, upd_same, fun dx n ne => ⟨rfl, ?_⟩⟩
  have n1 : H1 dx = none := by rw [← n, upd_ne ne]
  refine q a dx _ (fun b o e => ?_) (kx_made upd_same) ⟨_, .inr (by rw [upd_ne ne, upd_same]), by simp [List.lookup]⟩
  have b1 : b ≠ dx := ne_of_none e n1
  have b2 : b ≠ a := ne_of_none e ha
  rw [upd_ne b2, upd_ne b1, upd_ne b2]
  exact e
end
theorem small_log {i : Nat} (h : i ≤ 100000) : (i : Int).natAbs.log2 < 1920 := by
  have e : (i : Int).natAbs = i := rfl
  rw [e]
  by_cases z : i = 0
  · subst z
    decide +kernel
  · refine (Nat.log2_lt z).mpr (Nat.lt_of_le_of_lt h ?_)
    exact Nat.lt_of_lt_of_le (by decide : 100000 < 2 ^ 17) (Nat.pow_le_pow_right (by decide) (by decide))
end Fx

namespace Fx
open PySem PySem.Spec
open PyProof.Rows L2
section
variable {X : Cx}
/-! ### a list of truths, counted -/
def isB (k : Bool) : Value → Bool
  | .bool b => b == k
  | _ => false
theorem isB_count {k : Bool} : ∀ {bs : List Bool} {us : List Value}, Vals (bs.map V.bl) us → us.countP (isB k) = bs.count k
  | [], us, r => by
    cases r
    rfl
  | b :: bs, us, r => by
    rw [List.map_cons] at r
    cases r with
    | @cons _ u _ us' ra rr =>
      obtain rfl : u = Value.bool b := ra
      rw [List.countP_cons, List.count_cons, isB_count rr]
      rfl
theorem isB_at {A : Around} {s : Shared} {k : Bool} : ∀ {bs : List Bool} {us : List Value}, Vals (bs.map V.bl) us → ∀ y ∈ us, SeqAt.EqAt A s y (.bool k) (isB k y)
  | [], us, r => fun y hy => by
    cases r
    cases hy
  | b :: bs, us, r => fun y hy => by
    rw [List.map_cons] at r
    cases r with
    | @cons _ u _ us' ra rr =>
      obtain rfl : u = Value.bool b := ra
      rcases List.mem_cons.mp hy with e | e
      · rw [e]
        exact SeqAt.EqAt.bool_bool b k
      · exact isB_at rr y e
def rCntB (K : PySem.W.Frag) : V → List V → Hp → VK → Prop := fun x xs H Q =>
  ∃ (p : Addr) (bs : List Bool) (k : Bool), x = .ref p ∧ xs = [.bl k] ∧ SqL K H p (bs.map V.bl) ∧ Q (.int (bs.count k : Nat)) H
theorem mt_countB : MtR X "list.count" (rCntB X.K) := by
  rintro pins s σ H x xs v us Q I rx rxs ⟨p, bs, k, rfl, rfl, hs, q⟩
  cases rx
  obtain ⟨u, rfl, ru⟩ := rxs.one
  obtain rfl : u = Value.bool k := ru
  obtain ⟨its, rv, ⟨⟨oc, dd, oda, sl⟩, n, ho, hc, _, hd⟩, _⟩ := I.list hs
  dsimp only at hc hd
  subst hc hd
  refine call_meets PySem.F.slot_list_count ⟨_, ho, rfl⟩
    PySem.F.entry_list_count (PySem.F.args_list_count_2 _ _)
    (SeqAt.list_countAt p its.toArray n dd sl (.bool k) (isB k)) ⟨ho, fun y hy => isB_at rv y (by simpa using hy), ?_⟩
  have many : its.toArray.toList.countP (isB k) = bs.count k := isB_count rv
  refine ⟨.int (bs.count k : Nat), H, I.tok _, ⟨s.toks, ?_⟩, q⟩
  show Value.int ((its.toArray.toList.countP (isB k) : Nat) : Int) s.toks = Value.int ((bs.count k : Nat) : Int) s.toks
  rw [many]

/-! ### a text again and again: how long it is -/
def rMulS : R2 := fun x y H Q => ∃ (z : Str) (k : Nat), x = .str z ∧ y = .int (k : Int) ∧ 2 ≤ k ∧ k ≤ 1000 ∧ z.length ≤ 10000 ∧
  ∀ r : Str, r.length ≤ z.length * k → Q (.str r) H
theorem fold_len (a : Array Nat) : ∀ (k : Nat) (acc : Array Nat), ((List.replicate k a).foldl (· ++ ·) acc).size = acc.size + a.size * k
  | 0, acc => by simp
  | k + 1, acc => by
    rw [List.replicate_succ, List.foldl_cons, fold_len a k, Array.size_append, Nat.mul_succ]
    omega
theorem op_mulS : OpR X (binaryOp .Mult) rMulS := by
  rintro pins s σ H x y u v Q I rx ry ⟨z, k, rfl, rfl, hk, hk2, hz, q⟩
  obtain ⟨t, rfl⟩ := rx
  obtain ⟨t2, rfl⟩ := ry
  have big : z.length * k ≤ 10000000 := Nat.le_trans (Nat.mul_le_mul hz hk2) (by decide)
  refine PySem.P.mul_str (by simp; omega) (fun _ _ => ?_) (fun _ _ => ?_) ?_
  · have d : (10000 : Int) ≤ (2 ^ 63 - 1) / (k : Int) := by
      rw [Int.le_ediv_iff_mul_le (by omega)]
      omega
    omega
  · rw [Int.toNat_natCast]
    exact decide_eq_false (by rw [sizeLine_eq]; omega)
  · rw [if_neg (by omega)]
    by_cases e : ((k : Int) == 1 || z.length == 0) = true
    · rw [if_pos e]
      exact ⟨.str z, H, I, ⟨t, rfl⟩, q z (Nat.le_mul_of_pos_right _ (by omega))⟩
    · rw [if_neg e]
      have len : (Str.mk ((List.replicate (k : Int).toNat z.cps).foldl (· ++ ·) #[])).length = z.length * k := by
        show ((List.replicate (k : Int).toNat z.cps).foldl (· ++ ·) #[]).size = _
        rw [Int.toNat_natCast, fold_len]
        show 0 + z.cps.size * k = z.cps.size * k
        omega
      exact ⟨by rw [len, sizeLine_eq]; omega, .str _, H, I.tok _, ⟨s.toks, rfl⟩, q _ (Nat.le_of_eq len)⟩
end
theorem cut_one {x : Str} {c : Nat} (h : x.cps[0]? = some c) : cutS x none (some 1) = one c := by
  obtain ⟨hz, e⟩ := Array.getElem?_eq_some_iff.mp h
  have ne : x.length = x.cps.size := rfl
  have i1 : HT.sIx x.length x.length (some 1) = 1 := by
    have z := HT.sIx_nat x.length x.length 1
    rw [show ((1 : Nat) : Int) = 1 from rfl] at z
    rw [z]
    omega
  unfold cutS
  rw [i1, HT.sIx_none, List.drop_zero]
  have l : x.cps.toList = c :: x.cps.toList.tail := by
    cases q : x.cps.toList with
    | nil =>
      have z : x.cps.toList.length = 0 := by rw [q]; rfl
      rw [Array.length_toList] at z
      omega
    | cons a r =>
      have z : x.cps.toList[0]? = some c := by rw [Array.getElem?_toList]; exact h
      rw [q] at z
      cases z
      rfl
  rw [l]
  rfl
theorem atI_ex {α : Type} {l : List α} {i : Int} (h0 : 0 ≤ i) (h1 : i < (l.length : Int)) : ∃ c, atI l i = some c := by
  obtain ⟨k, rfl⟩ := Int.eq_ofNat_of_zero_le h0
  exact ⟨_, atI_nat (List.getElem?_eq_getElem (by omega))⟩
theorem cut_short (z : Str) (k : Nat) : (cutS z none (some (k : Int))).length ≤ k := by
  show (((z.cps.toList.drop (HT.sIx z.length 0 none)).take (HT.sIx z.length z.length (some (k : Int)) - HT.sIx z.length 0 none)).toArray).size ≤ k
  rw [List.size_toArray, List.length_take, HT.sIx_nat, HT.sIx_none]
  omega
end Fx

namespace Fx
open PySem PySem.Spec PyProof.Rows L2
/-! ### a method that may raise -/
def tMethX (C : Addr) (m : Str) (sp : Sp) (E : L2.St → XK) (ta : TE) (t : TA) : TE := fun σ H Q => ta σ H fun x H1 => ∃ a dx fs, x = .ref a ∧ H1 a = some (.ins C dx fs) ∧ fs.lookup m = none ∧
  t σ H1 fun vs H2 => sp (x :: vs) H2 Q (E σ)
section
variable {X : Cx} {CX : CXT} {k : Nat} {f C : Addr} {fd : FuncData} {ps : List Str} {sp : Sp} {E : L2.St → XK} {m : Str} {pos apos : Pos} {e o : Expr} {es : List Expr} {ta : TE} {t : TA}
theorem pe_methX {pl : Sem Bool} (he : PE X o ta) (c : Cls X.K C) (hm : Meth X.K C m f) (F : FnOk X.prog X.w X.K X.mg X.base CX k f fd ps sp) (hr : Room k X.A) (hb : Binds X.K fd ps []) (hx : ∀ σ, PassesAt CX X σ (E σ)) (ha : PA X (e :: es) t)
    (hst : starEach (e :: es) X.env = (false, eval e X.env) :: starEach es X.env := by rfl) (hpl : (backTo pos (starEach es X.env)).any (·.1) = false := by rfl)
    (ht : eval (.Call (.Attribute o m apos) (e :: es) [] pos) X.env = (do
      let ov ← eval o X.env
      standAt apos.atName
      let (f, first) ← holding [ov] (getMethod ov m pl)
      callWith pos f first (backTo pos (starEach (e :: es) X.env)) (backToKw pos (keywordEach [] X.env))) := by rfl) :
    PE X (.Call (.Attribute o m apos) (e :: es) [] pos) (tMethX C m sp E ta t) := by
  refine ⟨fun pins s σ H Q I h => ?_⟩
  refine PySem.W.methodCall_KW (pl := pl) (thn (he.run pins s σ H _ I h) fun u s1 ⟨x, H1, I1, rx, a, dx, fs, ex, ea, l, q⟩ => ?_) ht
  subst ex
  obtain rfl : u = Value.ref a := rx
  refine getmeth_ok I1 ea c hm l ?_
  refine PySem.W.callWith_K (first := [.ref a]) (h₀ := X.base) I.ok.mod.kin hm.kp (thn (ha.run pos pins s1 σ H1 _ I1 q) fun us s2 ⟨vs, H2, I2, r, q2⟩ => ⟨I2.kIn, ?_⟩) hst hpl
  exact run_fnS (us := .ref a :: us) (vs := .ref a :: vs) F hr hb (hx σ) I2 (.cons rfl r) q2
end
end Fx

namespace Fx
open PySem PySem.Spec PyProof.Rows L2
theorem hu2 {k : Nat} {A : Around} (r : Room k A) : A.units + 2 < cLine := Nat.lt_of_le_of_lt (Nat.add_le_add_left (by decide : 2 ≤ 64) _) r.units
/-! ### str of an own exception that is made there and then of one text -/
section
variable {X : Cx}
theorem pe_strExc {C : Addr} {bmB : List Value} {B newId initId : String} {x : Str} {e : Expr} {ta : TE} {p0 pos0 p pos : Pos} (hg0 : Gl X "str") (hm0 : X.mg "str" = none) (F : ExcBaseFacts B newId initId bmB) (q : PySem.W.excIn X.K C bmB newId = true) (gC : X.mg x = some (.ref C)) (kC : PySem.W.keepIn X.K (.ref C) = true) (hg : Gl X x)
    (hs' : PySem.W.findIn X.K (.ref C) "__str__" = some (some (.builtin "BaseException.__str__"))) (hB : PySem.W.subIn X.K (.ref C) (.type "BaseException") = some true) (hu : X.A.units + 2 < cLine) (he : PE X e ta)
    (hs : starEach [e] X.env = (false, eval e X.env) :: starEach [] X.env := by rfl) (hdb : (x == ("__debug__" : Str)) = false := by decide)
    (hs0 : starEach [.Call (.Name x p) [e] [] pos] X.env = (false, eval (.Call (.Name x p) [e] [] pos) X.env) :: starEach [] X.env := by rfl) (hv0 : bootBuiltins "str" = some (.type "str") := by decide +kernel) :
    PE X (.Call (.Name "str" p0) [.Call (.Name x p) [e] [] pos] [] pos0) (fun σ H Q => ta σ H fun v H1 => ∃ z : Str, v = .str z ∧ ∀ a, H1 a = none → Q (.str z) (upd H1 a (ExO (.ref C) a))) := by
  refine ⟨fun pins s σ H Q I h => ?_⟩
  refine wpAny_Call_Name_kw (ld_blt I hg0 hm0 hv0 ?_ (by decide) (by decide))
  refine PyProof.Rows.callWith_type1 ?_ hs0 (by rfl)
  rw [hs0]
  show wpAny _ _ (spliced ((false, eval (.Call (.Name x p) [e] [] pos) X.env) :: backTo pos0 (starEach [] X.env))) _ _ s
  refine Calls.spliced_cons ?_
  refine wpAny_Call_Name_kw (ld_glob I hg gC ?_ hdb)
  refine PySem.W.callWith_K (h₀ := X.base) I.ok.mod.kin kC ?_ hs (by rfl)
  rw [hs]
  show wpAny _ _ (spliced ((false, eval e X.env) :: backTo pos (starEach [] X.env))) _ _ s
  refine Calls.spliced_cons (thn (he.run pins s σ H _ I h) fun u s1 ⟨v, H1, I1, r1, z, ez, q1⟩ => ?_)
  subst ez
  refine Calls.spliced_nil ⟨I1.kIn, ?_⟩
  show wpAny _ _ (call (.ref C) [u]) _ _ _
  obtain ⟨bm, N, nm, qn, bs, hdct, sn, sub, ab, col, dd, k0, k1, k2, k3, k5, mN, hC, hN, hni, T⟩ := exc_obj I1.kIn q
  refine wpAny_call_exc_subT F T hC hN hni (fun h' a hm => ?_) (by show 1 ≤ sizeLine; rw [sizeLine_eq]; omega)
  have hn : H1 a = none := I1.hok.gone hm.new
  obtain ⟨t, ht, tn, tt⟩ := hm.there
  have I2 := I1.laidN (t' := s1.toks) hm.keeps hm.new hn (exO_ok (P := X.prog) (w := X.w) (H := upd H1 a (ExO (.ref C) a)) (cls := .ref C) ht ⟨rfl, rfl⟩ rfl rfl rfl (show 4 < 6 by decide))
  refine Calls.spliced_nil ?_
  obtain ⟨tk, eu⟩ : ∃ tk, u = Value.str z tk := r1
  subst eu
  have fin : EP X pins σ Q (Value.str z tk) { s1 with heap := h' } := ⟨.str z, _, I2, ⟨tk, rfl⟩, q1 a hn⟩
  exact PySem.P.str_of_C_one (m := z) (tk := tk) (t0 := t) hu ⟨I2.kIn, _, _, ht, rfl, rfl, rfl⟩ ⟨_, _, tt, rfl, rfl⟩ hs' hB fin
end
end Fx
namespace Fx
open PySem PySem.Spec PyProof.Rows L2
/-! ### a text again and again: its signs are the text's -/
def rMulS2 : R2 := fun x y H Q => ∃ (z : Str) (k : Nat), x = .str z ∧ y = .int (k : Int) ∧ 2 ≤ k ∧ k ≤ 1000 ∧ z.length ≤ 10000 ∧
  ∀ r : Str, r.length ≤ z.length * k → (∀ P : Nat → Bool, z.cps.all P = true → r.cps.all P = true) → Q (.str r) H
theorem fold_len2 (a : Array Nat) : ∀ (k : Nat) (acc : Array Nat), ((List.replicate k a).foldl (· ++ ·) acc).size = acc.size + a.size * k
  | 0, acc => by simp
  | k + 1, acc => by
    rw [List.replicate_succ, List.foldl_cons, fold_len2 a k, Array.size_append, Nat.mul_succ]
    omega
theorem fold_all (a : Array Nat) (P : Nat → Bool) (h : a.all P = true) : ∀ (k : Nat) (acc : Array Nat), acc.all P = true → ((List.replicate k a).foldl (· ++ ·) acc).all P = true
  | 0, acc, g => g
  | k + 1, acc, g => by
    rw [List.replicate_succ, List.foldl_cons]
    refine fold_all a P h k _ ?_
    rw [Array.all_append, g, h]
    rfl
theorem op_mulS2 {X : Cx} : OpR X (binaryOp .Mult) rMulS2 := by
  rintro pins s σ H x y u v Q I rx ry ⟨z, k, rfl, rfl, hk, hk2, hz, q⟩
  obtain ⟨t, rfl⟩ := rx
  obtain ⟨t2, rfl⟩ := ry
  have big : z.length * k ≤ 10000000 := Nat.le_trans (Nat.mul_le_mul hz hk2) (by decide)
  refine PySem.P.mul_str (by simp; omega) (fun _ _ => ?_) (fun _ _ => ?_) ?_
  · have d : (10000 : Int) ≤ (2 ^ 63 - 1) / (k : Int) := by
      rw [Int.le_ediv_iff_mul_le (by omega)]
      omega
    omega
  · rw [Int.toNat_natCast]
    exact decide_eq_false (by rw [sizeLine_eq]; omega)
  · rw [if_neg (by omega)]
    by_cases e : ((k : Int) == 1 || z.length == 0) = true
    · rw [if_pos e]
      exact ⟨.str z, H, I, ⟨t, rfl⟩, q z (Nat.le_mul_of_pos_right _ (by omega)) fun _ h => h⟩
    · rw [if_neg e]
      have len : (Str.mk ((List.replicate (k : Int).toNat z.cps).foldl (· ++ ·) #[])).length = z.length * k := by
        show ((List.replicate (k : Int).toNat z.cps).foldl (· ++ ·) #[]).size = _
        rw [Int.toNat_natCast, fold_len2]
        show 0 + z.cps.size * k = z.cps.size * k
        omega
      exact ⟨by rw [len, sizeLine_eq]; omega, .str _, H, I.tok _, ⟨s.toks, rfl⟩, q _ (Nat.le_of_eq len) fun P h => fold_all _ P h _ _ (by simp)⟩
theorem strOk_app {a b : Str} (h : PyData.strOk a = true) (g : PyData.strOk b = true) : PyData.strOk (a ++ b) = true := by
  unfold PyData.strOk at *
  show (a.cps ++ b.cps).all _ = true
  rw [Array.all_append, h, g]
  rfl
end Fx

namespace Fx
open PySem PySem.Spec PyProof.Rows L2
/-! ### figures and what they write -/
theorem figs_small {b n : Nat} (h : n < b) : figs b n = [n] := by
  unfold figs
  rw [lsd_lt h]
  rfl
theorem figs_push {b n d : Nat} (hb : 2 ≤ b) (hd : d < b) (hn : 0 < n) : figs b (n * b + d) = figs b n ++ [d] := by
  have h1 : b ≤ n * b + d := by
    have := Nat.mul_le_mul_right b hn
    omega
  have e1 : (n * b + d) / b = n := by
    rw [Nat.mul_comm, Nat.mul_add_div (by omega), Nat.div_eq_of_lt hd]
    omega
  have e2 : (n * b + d) % b = d := by
    rw [Nat.mul_comm, Nat.mul_add_mod, Nat.mod_eq_of_lt hd]
  unfold figs
  rw [lsd_ge hb h1, List.reverse_cons, e1, e2]
theorem val_snoc {b d : Nat} (r : List Nat) : val b (r ++ [d]) = val b r * b + d := by
  unfold val
  rw [List.foldl_append]
  rfl
theorem val_nil {b : Nat} : val b [] = 0 := rfl
theorem val_one {b d : Nat} : val b [d] = d := by
  show 0 * b + d = d
  omega
theorem val_pos {b : Nat} : ∀ (r : List Nat) (d : Nat), d ≠ 0 → 2 ≤ b → 0 < val b (d :: r) := fun r d hd hb => by
  rw [val_cons]
  have : 0 < d * b ^ r.length := Nat.mul_pos (by omega) (Nat.pow_pos (by omega))
  omega
theorem Reads.zero {b : Nat} {fs : List Nat} (hb : 2 ≤ b) (h : Reads b fs) (z : val b fs = 0) : fs = [0] := by
  match fs, h with
  | [], h => exact absurd rfl h.ne
  | d :: r, h =>
    by_cases c : d = 0
    · have := h.head d rfl c
      rw [List.length_cons] at this
      obtain rfl : r = [] := List.length_eq_zero_iff.mp (by omega)
      rw [c]
    · have := val_pos r d c hb
      omega
theorem Reads.front {b d : Nat} {r : List Nat} (h : Reads b (r ++ [d])) (ne : r ≠ []) : Reads b r ∧ ∀ x, r[0]? = some x → x ≠ 0 := by
  have l0 := List.length_pos_iff.mpr ne
  have nz : ∀ x, r[0]? = some x → x ≠ 0 := fun x hx z => by
    have := h.head x (by rw [List.getElem?_append_left l0]; exact hx) z
    rw [List.length_append] at this
    have : [d].length = 1 := rfl
    omega
  exact ⟨⟨ne, fun x hx => h.below x (List.mem_append_left _ hx), fun x hx z => absurd z (nz x hx)⟩, nz⟩
theorem figs_val {b : Nat} (hb : 2 ≤ b) : ∀ (n : Nat) (fs : List Nat), fs.length = n → Reads b fs → figs b (val b fs) = fs
  | 0, fs, hl, h => absurd (List.length_eq_zero_iff.mp hl) h.ne
  | n + 1, fs, hl, h => by
    obtain ⟨r, d, rfl⟩ : ∃ r d, fs = r ++ [d] := ⟨fs.dropLast, fs.getLast h.ne, (List.dropLast_concat_getLast h.ne).symm⟩
    have hd : d < b := h.below d (by simp)
    rw [List.length_append] at hl
    have hl' : r.length = n := by
      have : [d].length = 1 := rfl
      omega
    by_cases c : r = []
    · subst c
      rw [List.nil_append, val_one, figs_small hd]
    · obtain ⟨h', nz⟩ := h.front c
      have i := figs_val hb n r hl' h'
      have p : 0 < val b r := by
        match r, c, nz with
        | x :: t, _, nz => exact val_pos t x (nz x rfl) hb
      rw [val_snoc, figs_push hb hd p, i]
theorem Reads.of0 {b : Nat} (hb : 2 ≤ b) : Reads b [0] := ⟨by simp, fun d hd => by cases List.mem_singleton.mp hd; omega, fun _ _ _ => rfl⟩
theorem Reads.put {b f : Nat} {fs : List Nat} (h : Reads b fs) (hf : f < b) : Reads b (putFs fs f) := by
  unfold putFs
  by_cases c : fs = [0]
  · rw [if_pos c]
    exact ⟨by simp, fun d hd => by cases List.mem_singleton.mp hd; exact hf, fun _ _ _ => rfl⟩
  · rw [if_neg c]
    have l0 := List.length_pos_iff.mpr h.ne
    refine ⟨by simp, fun d hd => ?_, fun d hd z => ?_⟩
    · rcases List.mem_append.mp hd with x | x
      · exact h.below d x
      · cases List.mem_singleton.mp x
        exact hf
    · rw [List.getElem?_append_left l0] at hd
      have l1 := h.head d hd z
      obtain ⟨x, rfl⟩ := List.length_eq_one_iff.mp l1
      cases hd
      exact absurd (by rw [z]) c
theorem val_put {b f : Nat} {fs : List Nat} : val b (putFs fs f) = val b fs * b + f := by
  unfold putFs
  by_cases c : fs = [0]
  · rw [if_pos c, c, List.nil_append, val_one, val_one]
    omega
  · rw [if_neg c, val_snoc]
theorem stp_put {p f : Nat} {fs : List Nat} (hp : 1 ≤ p) : ((putFs fs f).map (· ^ p)).sum = (fs.map (· ^ p)).sum + f ^ p := by
  unfold putFs
  by_cases c : fs = [0]
  · rw [if_pos c, c]
    show f ^ p + 0 = (0 ^ p + 0) + f ^ p
    rw [zero_pow' hp]
    omega
  · rw [if_neg c, List.map_append, List.sum_append]
    show _ + (f ^ p + 0) = _
    omega
theorem off_put {f : Nat} {fs : List Nat} (h : fs ≠ []) : offFs (putFs fs f) = fs := by
  unfold putFs offFs
  by_cases c : fs = [0]
  · rw [if_pos c, c]
    rfl
  · rw [if_neg c, List.length_append]
    have := List.length_pos_iff.mpr h
    rw [if_neg (by show ¬ (fs.length + 1 = 1); omega), List.dropLast_concat]
theorem putFs_len {f : Nat} {fs : List Nat} : (putFs fs f).length ≤ fs.length + 1 := by
  unfold putFs
  by_cases c : fs = [0]
  · rw [if_pos c]
    show 1 ≤ _
    omega
  · rw [if_neg c, List.length_append]
    exact Nat.le_refl _
theorem Reads.off {b : Nat} {fs : List Nat} (hb : 2 ≤ b) (h : Reads b fs) : Reads b (offFs fs) := by
  unfold offFs
  by_cases c : fs.length = 1
  · rw [if_pos c]
    exact Reads.of0 hb
  · rw [if_neg c]
    have l0 := List.length_pos_iff.mpr h.ne
    refine ⟨fun z => ?_, fun d hd => h.below d (List.dropLast_subset _ hd), fun d hd z => ?_⟩
    · have z2 := congrArg List.length z
      rw [List.length_dropLast] at z2
      simp at z2
      omega
    · rw [List.getElem?_dropLast] at hd
      split at hd
      · exact absurd (h.head d hd z) c
      · cases hd
theorem Reads.set {b i f : Nat} {fs : List Nat} (h : Reads b fs) (hf : f < b) (hz : f = 0 → i = 0 → fs.length = 1) : Reads b (fs.set i f) := by
  refine ⟨fun z => h.ne ?_, fun d hd => ?_, fun d hd z => ?_⟩
  · have := congrArg List.length z
    rw [List.length_set] at this
    exact List.length_eq_zero_iff.mp this
  · rcases List.mem_or_eq_of_mem_set hd with z | z
    · exact h.below d z
    · rw [z]; exact hf
  · rw [List.length_set]
    rw [List.getElem?_set] at hd
    split at hd
    · rename_i i0
      split at hd
      · cases hd
        exact hz z i0
      · cases hd
    · exact h.head d hd z
theorem offFs_len (fs : List Nat) (h : fs ≠ []) : (offFs fs).length ≤ fs.length ∧ (fs.length = 1 → (offFs fs).length = 1) := by
  unfold offFs
  have := List.length_pos_iff.mpr h
  by_cases c : fs.length = 1
  · rw [if_pos c]
    exact ⟨by show 1 ≤ _; omega, fun _ => rfl⟩
  · rw [if_neg c, List.length_dropLast]
    exact ⟨by omega, fun z => absurd z c⟩
/-- figures put one by one make the row -/
theorem put_take {b k x : Nat} {fs : List Nat} (h : Reads b fs) (hk : fs[k]? = some x) (hk0 : 0 < k) : putFs (fs.take k) x = fs.take (k + 1) := by
  unfold putFs
  have c : fs.take k ≠ [0] := fun z => by
    have l := (List.getElem?_eq_some_iff.mp hk).1
    have z1 := congrArg List.length z
    rw [List.length_take] at z1
    have : ([0] : List Nat).length = 1 := rfl
    obtain rfl : k = 1 := by omega
    have z0 : fs[0]? = some 0 := by
      have := congrArg (fun l => l[0]?) z
      rw [List.getElem?_take] at this
      simpa using this
    have := h.head 0 z0 rfl
    omega
  rw [if_neg c, List.take_add_one, hk]
  rfl
theorem put_first {x : Nat} : putFs [0] x = [x] := by
  unfold putFs
  rw [if_pos rfl]
  rfl
/-- what was put, one by one -/
structure Puts (b : Nat) (F : Nat → List Nat) (i : Nat) : Prop where
  zero : F 0 = [0]
  succ : ∀ k, k < i → ∃ f, f < b ∧ F (k + 1) = putFs (F k) f
theorem Puts.len {b i : Nat} {F : Nat → List Nat} (h : Puts b F i) : ∀ k, k ≤ i → (F k).length ≤ max 1 k
  | 0, _ => by
    rw [h.zero]
    exact Nat.le_refl _
  | k + 1, hk => by
    obtain ⟨f, hf, e⟩ := h.succ k (by omega)
    have i1 := Puts.len h k (by omega)
    by_cases c : k = 0
    · subst c
      rw [e, h.zero]
      show 1 ≤ _
      omega
    · have := putFs_len (f := f) (fs := F k)
      rw [e]
      omega
theorem Puts.reads {b i : Nat} {F : Nat → List Nat} (hb : 2 ≤ b) (h : Puts b F i) : ∀ k, k ≤ i → Reads b (F k)
  | 0, _ => by
    rw [h.zero]
    exact Reads.of0 hb
  | k + 1, hk => by
    obtain ⟨f, hf, e⟩ := h.succ k (by omega)
    rw [e]
    exact (Puts.reads hb h k (by omega)).put hf
theorem Puts.more {b i f : Nat} {F : Nat → List Nat} (h : Puts b F i) (hf : f < b) : Puts b (fun k => if k ≤ i then F k else putFs (F i) f) (i + 1) := by
  refine ⟨?_, fun k hk => ?_⟩
  · show (if 0 ≤ i then F 0 else _) = _
    rw [if_pos (by omega)]
    exact h.zero
  · by_cases c : k = i
    · subst c
      refine ⟨f, hf, ?_⟩
      show (if k + 1 ≤ k then _ else putFs (F k) f) = putFs (if k ≤ k then F k else _) f
      rw [if_neg (by omega), if_pos (by omega)]
    · obtain ⟨g, hg, e⟩ := h.succ k (by omega)
      refine ⟨g, hg, ?_⟩
      show (if k + 1 ≤ i then F (k + 1) else _) = putFs (if k ≤ i then F k else _) g
      rw [if_pos (by omega), if_pos (by omega)]
      exact e
/-- what was, number and step, row by row -/
def RowsAt (b pw : Nat) (F : Nat → List Nat) (H : Hp) (vs : List V) : Prop := ∀ k v, vs[k]? = some v → ∃ t, v = .ref t ∧ H t = some (.tup (ivs [val b (F k), ((F k).map (· ^ pw)).sum]))
theorem RowsAt.nil {b pw : Nat} {F : Nat → List Nat} {H : Hp} : RowsAt b pw F H [] := fun k v h => by simp at h
theorem RowsAt.mono {b pw : Nat} {F : Nat → List Nat} {H H' : Hp} {vs : List V} (h : RowsAt b pw F H vs) (k : ∀ t xs, H t = some (.tup xs) → H' t = some (.tup xs)) : RowsAt b pw F H' vs := fun i v e => by
  obtain ⟨t, x, y⟩ := h i v e
  exact ⟨t, x, k _ _ y⟩
theorem RowsAt.push {b pw : Nat} {F : Nat → List Nat} {H : Hp} {vs : List V} {t : Addr} (h : RowsAt b pw F H vs) (e : H t = some (.tup (ivs [val b (F vs.length), ((F vs.length).map (· ^ pw)).sum]))) : RowsAt b pw F H (vs ++ [.ref t]) := fun i v x => by
  by_cases c : i < vs.length
  · rw [List.getElem?_append_left c] at x
    exact h i v x
  · have z := (List.getElem?_eq_some_iff.mp x).1
    rw [List.length_append] at z
    have : [V.ref t].length = 1 := rfl
    obtain rfl : i = vs.length := by omega
    rw [List.getElem?_append_right (Nat.le_refl _), Nat.sub_self] at x
    cases x
    exact ⟨t, rfl, e⟩
theorem RowsAt.take {b pw n : Nat} {F : Nat → List Nat} {H : Hp} {vs : List V} (h : RowsAt b pw F H vs) : RowsAt b pw F H (vs.take n) := fun i v x => by
  rw [List.getElem?_take] at x
  split at x
  · exact h i v x
  · cases x
theorem RowsAt.dp {K : PySem.W.Frag} {b pw : Nat} {H : Hp} : ∀ {vs : List V} {F : Nat → List Nat}, RowsAt b pw F H vs → ∃ ds, DpAll K H vs ds ∧ ds.length = vs.length ∧ PyData.canLayAll0 ds = true ∧ PyData.depthAll ds ≤ 2
  | [], F, _ => ⟨[], .nil, rfl, rfl, by unfold PyData.depthAll; decide⟩
  | v :: vs, F, h => by
    obtain ⟨t, rfl, e⟩ := h 0 v rfl
    obtain ⟨ds, d1, d2, d3, d4⟩ := RowsAt.dp (K := K) (vs := vs) (F := fun k => F (k + 1)) fun i v x => h (i + 1) v x
    refine ⟨.tuple (dInts ([val b (F 0), ((F 0).map (· ^ pw)).sum].map fun (k : Nat) => (k : Int))) :: ds, .cons (.tup (.of e) (dpAll_ivs _)) d1, by rw [List.length_cons, List.length_cons, d2], ?_, ?_⟩
    · rw [PyData.canLayAll0, d3, PyData.canLay0, canLay_ints]
      rfl
    · have := depth_ints ([val b (F 0), ((F 0).map (· ^ pw)).sum].map fun (k : Nat) => (k : Int))
      unfold PyData.depthAll PyData.depth
      omega
theorem eqv_none (ds : List PyData) : PyData.eqv (.list ds) (.list []) = decide (ds.length = 0) := by
  cases ds with
  | nil =>
    rw [PyData.eqv, PyData.eqvAll]
    rfl
  | cons a r =>
    rw [PyData.eqv, PyData.eqvAll]
    exact (decide_eq_false (by rw [List.length_cons]; omega)).symm
    all_goals simp
theorem end_zero {b p : Nat} (ok : OkN b p) : EndAt b p 0 0 0 := ⟨⟨1, by decide, stepN_zero ok.hb ok.hp1⟩, fun j hj => by omega, ⟨0, Nat.le_refl _, rfl⟩, fun i _ => Nat.zero_le _⟩
theorem val_rep {b f k : Nat} : val b (List.replicate (k + 1) f) = val b (List.replicate k f) * b + f := by
  rw [List.replicate_succ', val_snoc]
theorem set_rep {fs : List Nat} {i x : Nat} (hi : i < fs.length) : (fs.take (fs.length - i) ++ List.replicate i x).set (fs.length - 1 - i) x = fs.take (fs.length - (i + 1)) ++ List.replicate (i + 1) x := by
  have e : fs.length - i = fs.length - 1 - i + 1 := by omega
  have e2 : fs.length - (i + 1) = fs.length - 1 - i := by omega
  rw [e, e2, List.take_add_one, List.getElem?_eq_getElem (show fs.length - 1 - i < fs.length by omega)]
  have l : (fs.take (fs.length - 1 - i)).length = fs.length - 1 - i := by
    rw [List.length_take]
    omega
  show (fs.take (fs.length - 1 - i) ++ [_] ++ List.replicate i x).set (fs.length - 1 - i) x = _
  rw [List.append_assoc, List.set_append_right _ _ (by omega), l, Nat.sub_self]
  rfl
theorem sum_rep (x : Nat) : ∀ k : Nat, (List.replicate k x).sum = k * x
  | 0 => by simp
  | k + 1 => by
    rw [List.replicate_succ, List.sum_cons, sum_rep x k, Nat.succ_mul]
    omega
end Fx

namespace Fx
open PySem PySem.Spec PyProof.Rows L2
def topS (i : Nat) : Stmt := PySem.Challenge.pw_figurerounds_k31_figures_refused.main.body.getD i (.Pass ⟨0, 0, 0, 0⟩)
abbrev s_figures_of : Stmt := topS 9
theorem sc_figures_of : FnScope ["number", "base", "figures", "rest"] ["number", "base"] (defScope s_figures_of) := ⟨rfl, rfl, rfl, by decide +kernel, rfl, by decide +kernel, by decide +kernel⟩
abbrev s_power_of : Stmt := topS 10
theorem sc_power_of : FnScope ["figure", "power", "worth", "_"] ["figure", "power"] (defScope s_power_of) := ⟨rfl, rfl, rfl, by decide +kernel, rfl, by decide +kernel, by decide +kernel⟩
abbrev s_step_of : Stmt := topS 11
theorem sc_step_of : FnScope ["number", "base", "power", "figure"] ["number", "base", "power"] (defScope s_step_of) := ⟨rfl, rfl, rfl, by decide +kernel, rfl, by decide +kernel, by decide +kernel⟩
abbrev s_worths_of : Stmt := topS 13
theorem sc_worths_of : FnScope ["base", "power", "figure"] ["base", "power"] (defScope s_worths_of) := ⟨rfl, rfl, rfl, by decide +kernel, rfl, by decide +kernel, by decide +kernel⟩
abbrev s_way_of : Stmt := topS 16
theorem sc_way_of : FnScope ["number", "base", "power", "places"] ["number", "base", "power"] (defScope s_way_of) := ⟨rfl, rfl, rfl, by decide +kernel, rfl, by decide +kernel, by decide +kernel⟩
abbrev s_end_of : Stmt := topS 15
theorem sc_end_of : FnScope ["number", "base", "power", "way", "away"] ["number", "base", "power"] (defScope s_end_of) := ⟨rfl, rfl, rfl, by decide +kernel, rfl, by decide +kernel, by decide +kernel⟩
abbrev s__law_mix : Stmt := topS 20
theorem sc__law_mix : FnScope ["cell", "k", "number"] ["cell", "k"] (defScope s__law_mix) := ⟨rfl, rfl, rfl, by decide +kernel, rfl, by decide +kernel, by decide +kernel⟩
abbrev s__law_deck : Stmt := topS 21
theorem sc__law_deck : FnScope ["script"] ["script"] (defScope s__law_deck) := ⟨rfl, rfl, rfl, by decide +kernel, rfl, by decide +kernel, by decide +kernel⟩
abbrev s__law_next : Stmt := topS 22
theorem sc__law_next : FnScope ["deck", "many", "cell", "found"] ["deck", "many"] (defScope s__law_next) := ⟨rfl, rfl, rfl, by decide +kernel, rfl, by decide +kernel, by decide +kernel⟩
abbrev s__law_pair : Stmt := topS 23
theorem sc__law_pair : FnScope ["deck", "base", "most"] ["deck"] (defScope s__law_pair) := ⟨rfl, rfl, rfl, by decide +kernel, rfl, by decide +kernel, by decide +kernel⟩
abbrev s__law_figures : Stmt := topS 24
theorem sc__law_figures : FnScope ["number", "base", "powers", "found", "power"] ["number", "base"] (defScope s__law_figures) := ⟨rfl, rfl, rfl, by decide +kernel, rfl, by decide +kernel, by decide +kernel⟩
abbrev s__law_power : Stmt := topS 25
theorem sc__law_power : FnScope ["number", "often", "found", "turn"] ["number", "often"] (defScope s__law_power) := ⟨rfl, rfl, rfl, by decide +kernel, rfl, by decide +kernel, by decide +kernel⟩
abbrev s__law_step : Stmt := topS 26
theorem sc__law_step : FnScope ["number", "base", "power", "total", "figure"] ["number", "base", "power"] (defScope s__law_step) := ⟨rfl, rfl, rfl, by decide +kernel, rfl, by decide +kernel, by decide +kernel⟩
abbrev s__law_is_whole : Stmt := topS 27
theorem sc__law_is_whole : FnScope ["found", "due"] ["found", "due"] (defScope s__law_is_whole) := ⟨rfl, rfl, rfl, by decide +kernel, rfl, by decide +kernel, by decide +kernel⟩
abbrev s__law_end : Stmt := topS 28
theorem sc__law_end : FnScope ["number", "base", "power", "row", "places"] ["number", "base", "power"] (defScope s__law_end) := ⟨rfl, rfl, rfl, by decide +kernel, rfl, by decide +kernel, by decide +kernel⟩
abbrev s__law_of : Stmt := topS 29
theorem sc__law_of : FnScope ["figures", "base", "number", "figure"] ["figures", "base"] (defScope s__law_of) := ⟨rfl, rfl, rfl, by decide +kernel, rfl, by decide +kernel, by decide +kernel⟩
abbrev s_KeptNumber__number_now : Stmt := inClass (topS 18) 4
theorem sc_KeptNumber__number_now : FnScope ["self", "number", "figure"] ["self"] (defScope s_KeptNumber__number_now) := ⟨rfl, rfl, rfl, by decide +kernel, rfl, by decide +kernel, by decide +kernel⟩
abbrev s_KeptNumber__end_now : Stmt := inClass (topS 18) 6
theorem sc_KeptNumber__end_now : FnScope ["self"] ["self"] (defScope s_KeptNumber__end_now) := ⟨rfl, rfl, rfl, by decide +kernel, rfl, by decide +kernel, by decide +kernel⟩
abbrev s_KeptNumber__step_now : Stmt := inClass (topS 18) 5
theorem sc_KeptNumber__step_now : FnScope ["self", "figure"] ["self"] (defScope s_KeptNumber__step_now) := ⟨rfl, rfl, rfl, by decide +kernel, rfl, by decide +kernel, by decide +kernel⟩
abbrev s__law_as_due : Stmt := topS 30
theorem sc__law_as_due : FnScope ["deck", "kept", "figures", "base", "power", "begin", "way", "step", "figure", "steps", "least", "found"] ["deck", "kept", "figures", "base", "power"] (defScope s__law_as_due) := ⟨rfl, rfl, rfl, by decide +kernel, rfl, by decide +kernel, by decide +kernel⟩
abbrev s__law_kind : Stmt := topS 31
theorem sc__law_kind : FnScope ["caught", "kinds"] ["caught"] (defScope s__law_kind) := ⟨rfl, rfl, rfl, by decide +kernel, rfl, by decide +kernel, by decide +kernel⟩
abbrev s_KeptNumber__check_figure : Stmt := inClass (topS 18) 8
theorem sc_KeptNumber__check_figure : FnScope ["self", "figure"] ["self", "figure"] (defScope s_KeptNumber__check_figure) := ⟨rfl, rfl, rfl, by decide +kernel, rfl, by decide +kernel, by decide +kernel⟩
abbrev s_KeptNumber__put_figure : Stmt := inClass (topS 18) 1
theorem sc_KeptNumber__put_figure : FnScope ["self", "figure"] ["self", "figure"] (defScope s_KeptNumber__put_figure) := ⟨rfl, rfl, rfl, by decide +kernel, rfl, by decide +kernel, by decide +kernel⟩
abbrev s_KeptNumber__set_figure : Stmt := inClass (topS 18) 3
theorem sc_KeptNumber__set_figure : FnScope ["self", "place", "figure", "many"] ["self", "place", "figure"] (defScope s_KeptNumber__set_figure) := ⟨rfl, rfl, rfl, by decide +kernel, rfl, by decide +kernel, by decide +kernel⟩
abbrev s__law_told : Stmt := topS 32
theorem sc__law_told : FnScope ["kept", "place", "figure", "told", "caught", "e"] ["kept", "place", "figure"] (defScope s__law_told) := ⟨rfl, rfl, rfl, by decide +kernel, rfl, by decide +kernel, by decide +kernel⟩
abbrev s__law_bad : Stmt := topS 33
theorem sc__law_bad : FnScope ["deck", "figures", "base", "many", "far", "good", "place", "odd", "away", "found"] ["deck", "figures", "base"] (defScope s__law_bad) := ⟨rfl, rfl, rfl, by decide +kernel, rfl, by decide +kernel, by decide +kernel⟩
abbrev s_KeptNumber__init : Stmt := inClass (topS 18) 0
theorem sc_KeptNumber__init : FnScope ["self", "base", "power"] ["self", "base", "power"] (defScope s_KeptNumber__init) := ⟨rfl, rfl, rfl, by decide +kernel, rfl, by decide +kernel, by decide +kernel⟩
abbrev s_law : Stmt := topS 34
theorem sc_law : FnScope ["script", "deck", "base", "power", "kept", "figures", "turn", "place", "figure", "due", "said", "alone"] ["script"] (defScope s_law) := ⟨rfl, rfl, rfl, by decide +kernel, rfl, by decide +kernel, by decide +kernel⟩
abbrev P : Program := PySem.Challenge.pw_figurerounds_k31_figures_refused
structure Txt (K : PySem.W.Frag) (mg : Str → Option Value) where
  k_FigureError : Addr
  gk_FigureError : mg "FigureError" = some (.ref k_FigureError)
  x_FigureError : XCls K k_FigureError
  k_NoRound : Addr
  gk_NoRound : mg "NoRound" = some (.ref k_NoRound)
  x_NoRound : XCls K k_NoRound
  k_NoFigure : Addr
  gk_NoFigure : mg "NoFigure" = some (.ref k_NoFigure)
  x_NoFigure : XCls K k_NoFigure
  k_NoPlace : Addr
  gk_NoPlace : mg "NoPlace" = some (.ref k_NoPlace)
  x_NoPlace : XCls K k_NoPlace
  k_NoAsk : Addr
  gk_NoAsk : mg "NoAsk" = some (.ref k_NoAsk)
  x_NoAsk : XCls K k_NoAsk
  k_NoNumber : Addr
  gk_NoNumber : mg "NoNumber" = some (.ref k_NoNumber)
  x_NoNumber : XCls K k_NoNumber
  s_NoRound_FigureError : PySem.W.subIn K (.ref k_NoRound) (.ref k_FigureError) = some true
  s_NoRound_NoRound : PySem.W.subIn K (.ref k_NoRound) (.ref k_NoRound) = some true
  s_NoRound_NoFigure : PySem.W.subIn K (.ref k_NoRound) (.ref k_NoFigure) = some false
  s_NoRound_NoPlace : PySem.W.subIn K (.ref k_NoRound) (.ref k_NoPlace) = some false
  s_NoRound_NoAsk : PySem.W.subIn K (.ref k_NoRound) (.ref k_NoAsk) = some false
  s_NoRound_NoNumber : PySem.W.subIn K (.ref k_NoRound) (.ref k_NoNumber) = some false
  I_NoRound : XIns K k_NoRound
  xq_NoRound : PySem.W.excIn K k_NoRound [.type "ValueError", .type "Exception", .type "BaseException", .type "object"] "ValueError.__new__" = true
  st_NoRound : PySem.W.findIn K (.ref k_NoRound) "__str__" = some (some (.builtin "BaseException.__str__"))
  s_NoFigure_FigureError : PySem.W.subIn K (.ref k_NoFigure) (.ref k_FigureError) = some true
  s_NoFigure_NoRound : PySem.W.subIn K (.ref k_NoFigure) (.ref k_NoRound) = some false
  s_NoFigure_NoFigure : PySem.W.subIn K (.ref k_NoFigure) (.ref k_NoFigure) = some true
  s_NoFigure_NoPlace : PySem.W.subIn K (.ref k_NoFigure) (.ref k_NoPlace) = some false
  s_NoFigure_NoAsk : PySem.W.subIn K (.ref k_NoFigure) (.ref k_NoAsk) = some false
  s_NoFigure_NoNumber : PySem.W.subIn K (.ref k_NoFigure) (.ref k_NoNumber) = some false
  I_NoFigure : XIns K k_NoFigure
  xq_NoFigure : PySem.W.excIn K k_NoFigure [.type "ValueError", .type "Exception", .type "BaseException", .type "object"] "ValueError.__new__" = true
  st_NoFigure : PySem.W.findIn K (.ref k_NoFigure) "__str__" = some (some (.builtin "BaseException.__str__"))
  s_NoPlace_FigureError : PySem.W.subIn K (.ref k_NoPlace) (.ref k_FigureError) = some true
  s_NoPlace_NoRound : PySem.W.subIn K (.ref k_NoPlace) (.ref k_NoRound) = some false
  s_NoPlace_NoFigure : PySem.W.subIn K (.ref k_NoPlace) (.ref k_NoFigure) = some false
  s_NoPlace_NoPlace : PySem.W.subIn K (.ref k_NoPlace) (.ref k_NoPlace) = some true
  s_NoPlace_NoAsk : PySem.W.subIn K (.ref k_NoPlace) (.ref k_NoAsk) = some false
  s_NoPlace_NoNumber : PySem.W.subIn K (.ref k_NoPlace) (.ref k_NoNumber) = some false
  I_NoPlace : XIns K k_NoPlace
  xq_NoPlace : PySem.W.excIn K k_NoPlace [.type "ValueError", .type "Exception", .type "BaseException", .type "object"] "ValueError.__new__" = true
  st_NoPlace : PySem.W.findIn K (.ref k_NoPlace) "__str__" = some (some (.builtin "BaseException.__str__"))
  s_NoAsk_FigureError : PySem.W.subIn K (.ref k_NoAsk) (.ref k_FigureError) = some true
  s_NoAsk_NoRound : PySem.W.subIn K (.ref k_NoAsk) (.ref k_NoRound) = some false
  s_NoAsk_NoFigure : PySem.W.subIn K (.ref k_NoAsk) (.ref k_NoFigure) = some false
  s_NoAsk_NoPlace : PySem.W.subIn K (.ref k_NoAsk) (.ref k_NoPlace) = some false
  s_NoAsk_NoAsk : PySem.W.subIn K (.ref k_NoAsk) (.ref k_NoAsk) = some true
  s_NoAsk_NoNumber : PySem.W.subIn K (.ref k_NoAsk) (.ref k_NoNumber) = some false
  I_NoAsk : XIns K k_NoAsk
  xq_NoAsk : PySem.W.excIn K k_NoAsk [.type "ValueError", .type "Exception", .type "BaseException", .type "object"] "ValueError.__new__" = true
  st_NoAsk : PySem.W.findIn K (.ref k_NoAsk) "__str__" = some (some (.builtin "BaseException.__str__"))
  k_KeptNumber : Addr
  gk_KeptNumber : mg "KeptNumber" = some (.ref k_KeptNumber)
  cl_KeptNumber : Cls K k_KeptNumber
  na_KeptNumber_base : NoAttr K k_KeptNumber "base"
  na_KeptNumber_power : NoAttr K k_KeptNumber "power"
  na_KeptNumber_worths : NoAttr K k_KeptNumber "worths"
  na_KeptNumber_figures : NoAttr K k_KeptNumber "figures"
  f_figures_of : Addr
  fd_figures_of : FuncData
  F_figures_of : Fun K "figures_of" "figures_of" s_figures_of f_figures_of fd_figures_of
  g_figures_of : mg "figures_of" = some (.ref f_figures_of)
  b_figures_of : Binds K fd_figures_of ["number", "base"] []
  f_power_of : Addr
  fd_power_of : FuncData
  F_power_of : Fun K "power_of" "power_of" s_power_of f_power_of fd_power_of
  g_power_of : mg "power_of" = some (.ref f_power_of)
  b_power_of : Binds K fd_power_of ["figure", "power"] []
  f_step_of : Addr
  fd_step_of : FuncData
  F_step_of : Fun K "step_of" "step_of" s_step_of f_step_of fd_step_of
  g_step_of : mg "step_of" = some (.ref f_step_of)
  b_step_of : Binds K fd_step_of ["number", "base", "power"] []
  f_worths_of : Addr
  fd_worths_of : FuncData
  F_worths_of : Fun K "worths_of" "worths_of" s_worths_of f_worths_of fd_worths_of
  g_worths_of : mg "worths_of" = some (.ref f_worths_of)
  b_worths_of : Binds K fd_worths_of ["base", "power"] []
  f_way_of : Addr
  fd_way_of : FuncData
  F_way_of : Fun K "way_of" "way_of" s_way_of f_way_of fd_way_of
  g_way_of : mg "way_of" = some (.ref f_way_of)
  b_way_of : Binds K fd_way_of ["number", "base", "power"] []
  f_end_of : Addr
  fd_end_of : FuncData
  F_end_of : Fun K "end_of" "end_of" s_end_of f_end_of fd_end_of
  g_end_of : mg "end_of" = some (.ref f_end_of)
  b_end_of : Binds K fd_end_of ["number", "base", "power"] []
  f__law_mix : Addr
  fd__law_mix : FuncData
  F__law_mix : Fun K "_law_mix" "_law_mix" s__law_mix f__law_mix fd__law_mix
  g__law_mix : mg "_law_mix" = some (.ref f__law_mix)
  b__law_mix : Binds K fd__law_mix ["cell", "k"] []
  f__law_deck : Addr
  fd__law_deck : FuncData
  F__law_deck : Fun K "_law_deck" "_law_deck" s__law_deck f__law_deck fd__law_deck
  g__law_deck : mg "_law_deck" = some (.ref f__law_deck)
  b__law_deck : Binds K fd__law_deck ["script"] []
  f__law_next : Addr
  fd__law_next : FuncData
  F__law_next : Fun K "_law_next" "_law_next" s__law_next f__law_next fd__law_next
  g__law_next : mg "_law_next" = some (.ref f__law_next)
  b__law_next : Binds K fd__law_next ["deck", "many"] []
  f__law_pair : Addr
  fd__law_pair : FuncData
  F__law_pair : Fun K "_law_pair" "_law_pair" s__law_pair f__law_pair fd__law_pair
  g__law_pair : mg "_law_pair" = some (.ref f__law_pair)
  b__law_pair : Binds K fd__law_pair ["deck"] []
  f__law_figures : Addr
  fd__law_figures : FuncData
  F__law_figures : Fun K "_law_figures" "_law_figures" s__law_figures f__law_figures fd__law_figures
  g__law_figures : mg "_law_figures" = some (.ref f__law_figures)
  b__law_figures : Binds K fd__law_figures ["number", "base"] []
  f__law_power : Addr
  fd__law_power : FuncData
  F__law_power : Fun K "_law_power" "_law_power" s__law_power f__law_power fd__law_power
  g__law_power : mg "_law_power" = some (.ref f__law_power)
  b__law_power : Binds K fd__law_power ["number", "often"] []
  f__law_step : Addr
  fd__law_step : FuncData
  F__law_step : Fun K "_law_step" "_law_step" s__law_step f__law_step fd__law_step
  g__law_step : mg "_law_step" = some (.ref f__law_step)
  b__law_step : Binds K fd__law_step ["number", "base", "power"] []
  f__law_is_whole : Addr
  fd__law_is_whole : FuncData
  F__law_is_whole : Fun K "_law_is_whole" "_law_is_whole" s__law_is_whole f__law_is_whole fd__law_is_whole
  g__law_is_whole : mg "_law_is_whole" = some (.ref f__law_is_whole)
  b__law_is_whole : Binds K fd__law_is_whole ["found", "due"] []
  f__law_end : Addr
  fd__law_end : FuncData
  F__law_end : Fun K "_law_end" "_law_end" s__law_end f__law_end fd__law_end
  g__law_end : mg "_law_end" = some (.ref f__law_end)
  b__law_end : Binds K fd__law_end ["number", "base", "power"] []
  f__law_of : Addr
  fd__law_of : FuncData
  F__law_of : Fun K "_law_of" "_law_of" s__law_of f__law_of fd__law_of
  g__law_of : mg "_law_of" = some (.ref f__law_of)
  b__law_of : Binds K fd__law_of ["figures", "base"] []
  f_KeptNumber__number_now : Addr
  fd_KeptNumber__number_now : FuncData
  F_KeptNumber__number_now : Fun K "number_now" "KeptNumber.number_now" s_KeptNumber__number_now f_KeptNumber__number_now fd_KeptNumber__number_now
  b_KeptNumber__number_now : Binds K fd_KeptNumber__number_now ["self"] []
  me_KeptNumber__number_now : Meth K k_KeptNumber "number_now" f_KeptNumber__number_now
  f_KeptNumber__end_now : Addr
  fd_KeptNumber__end_now : FuncData
  F_KeptNumber__end_now : Fun K "end_now" "KeptNumber.end_now" s_KeptNumber__end_now f_KeptNumber__end_now fd_KeptNumber__end_now
  b_KeptNumber__end_now : Binds K fd_KeptNumber__end_now ["self"] []
  me_KeptNumber__end_now : Meth K k_KeptNumber "end_now" f_KeptNumber__end_now
  f_KeptNumber__step_now : Addr
  fd_KeptNumber__step_now : FuncData
  F_KeptNumber__step_now : Fun K "step_now" "KeptNumber.step_now" s_KeptNumber__step_now f_KeptNumber__step_now fd_KeptNumber__step_now
  b_KeptNumber__step_now : Binds K fd_KeptNumber__step_now ["self"] []
  me_KeptNumber__step_now : Meth K k_KeptNumber "step_now" f_KeptNumber__step_now
  f__law_as_due : Addr
  fd__law_as_due : FuncData
  F__law_as_due : Fun K "_law_as_due" "_law_as_due" s__law_as_due f__law_as_due fd__law_as_due
  g__law_as_due : mg "_law_as_due" = some (.ref f__law_as_due)
  b__law_as_due : Binds K fd__law_as_due ["deck", "kept", "figures", "base", "power"] []
  f__law_kind : Addr
  fd__law_kind : FuncData
  F__law_kind : Fun K "_law_kind" "_law_kind" s__law_kind f__law_kind fd__law_kind
  g__law_kind : mg "_law_kind" = some (.ref f__law_kind)
  b__law_kind : Binds K fd__law_kind ["caught"] []
  f_KeptNumber__check_figure : Addr
  fd_KeptNumber__check_figure : FuncData
  F_KeptNumber__check_figure : Fun K "check_figure" "KeptNumber.check_figure" s_KeptNumber__check_figure f_KeptNumber__check_figure fd_KeptNumber__check_figure
  b_KeptNumber__check_figure : Binds K fd_KeptNumber__check_figure ["self", "figure"] []
  me_KeptNumber__check_figure : Meth K k_KeptNumber "check_figure" f_KeptNumber__check_figure
  f_KeptNumber__put_figure : Addr
  fd_KeptNumber__put_figure : FuncData
  F_KeptNumber__put_figure : Fun K "put_figure" "KeptNumber.put_figure" s_KeptNumber__put_figure f_KeptNumber__put_figure fd_KeptNumber__put_figure
  b_KeptNumber__put_figure : Binds K fd_KeptNumber__put_figure ["self", "figure"] []
  me_KeptNumber__put_figure : Meth K k_KeptNumber "put_figure" f_KeptNumber__put_figure
  f_KeptNumber__set_figure : Addr
  fd_KeptNumber__set_figure : FuncData
  F_KeptNumber__set_figure : Fun K "set_figure" "KeptNumber.set_figure" s_KeptNumber__set_figure f_KeptNumber__set_figure fd_KeptNumber__set_figure
  b_KeptNumber__set_figure : Binds K fd_KeptNumber__set_figure ["self", "place", "figure"] []
  me_KeptNumber__set_figure : Meth K k_KeptNumber "set_figure" f_KeptNumber__set_figure
  f__law_told : Addr
  fd__law_told : FuncData
  F__law_told : Fun K "_law_told" "_law_told" s__law_told f__law_told fd__law_told
  g__law_told : mg "_law_told" = some (.ref f__law_told)
  b__law_told : Binds K fd__law_told ["kept", "place", "figure"] []
  f__law_bad : Addr
  fd__law_bad : FuncData
  F__law_bad : Fun K "_law_bad" "_law_bad" s__law_bad f__law_bad fd__law_bad
  g__law_bad : mg "_law_bad" = some (.ref f__law_bad)
  b__law_bad : Binds K fd__law_bad ["deck", "figures", "base"] []
  f_KeptNumber__init : Addr
  fd_KeptNumber__init : FuncData
  F_KeptNumber__init : Fun K "__init__" "KeptNumber.__init__" s_KeptNumber__init f_KeptNumber__init fd_KeptNumber__init
  b_KeptNumber__init : Binds K fd_KeptNumber__init ["self", "base", "power"] []
  M_KeptNumber : Mk K k_KeptNumber f_KeptNumber__init
  f_law : Addr
  fd_law : FuncData
  F_law : Fun K "law" "law" s_law f_law fd_law
  g_law : mg "law" = some (.ref f_law)
  b_law : Binds K fd_law ["script"] []
  m_ValueError : mg "ValueError" = none
  m_bool : mg "bool" = none
  m_int : mg "int" = none
  m_isinstance : mg "isinstance" = none
  m_len : mg "len" = none
  m_list : mg "list" = none
  m_min : mg "min" = none
  m_range : mg "range" = none
  m_str : mg "str" = none
  m_sum : mg "sum" = none
  m_tuple : mg "tuple" = none
section
variable {w : World} {K : PySem.W.Frag} {mg : Str → Option Value} {base : Heap}
/-! ### figures_of -/
def sp_figures_of (K : PySem.W.Frag) : Sp := fun vs H Q _ => ∃ n b : Nat, vs = [.int (n : Int), .int (b : Int)] ∧ 2 ≤ b ∧ b ≤ 16 ∧ n < 2 ^ 900 ∧ ∀ H' p, Same H H' → H p = none → H' p = some (.tup (ivs (figs b n))) → Q (.ref p) H'
def W_figures_of (n b : Nat) (H : Hp) (fl : Addr) (m : Nat) (σ' : L2.St) (H' : Hp) : Prop := ∃ pre : List Nat, σ' = [some (.int (n : Int)), some (.int (b : Int)), some (.ref fl), some (.int (m : Int))] ∧ Same H H' ∧ H' fl = some (.lst (ivs pre)) ∧ pre ++ (if m = 0 then [] else lsd b m) = lsd b n
theorem W_figures_of.len {n b : Nat} {pre : List Nat} {r : Nat} (hb : 2 ≤ b) (hn : n < 2 ^ 900) (h : pre ++ (if r = 0 then [] else lsd b r) = lsd b n) : pre.length ≤ 900 := by
  have h1 := congrArg List.length h
  rw [List.length_append] at h1
  have h2 := lsd_len_le hb 899 n hn
  omega
theorem ok_figures_of (T : Txt K mg) : FnOk P w K mg base CX0 1 T.f_figures_of T.fd_figures_of ["number", "base"] (sp_figures_of K) := by
  refine T.F_figures_of.ok sc_figures_of (fun vs H Q E h => ?_) (fun cdv A outer s H vs Q E hr h => ?_)
  · obtain ⟨_, _, rfl, _⟩ := h
    rfl
  · obtain ⟨n, b, rfl, hb, hb16, hn, q⟩ := h
    have wd : ∀ x : Int, CDivW x (b : Int) := fun x => divW 60 (by omega) (by omega)
    refine ⟨_, (pss_cons (ps_set (i := 2) sc_figures_of.nd rfl (Or.inl rfl) (pe_lst (pa_cons (pe_op op_mod (pv 0) (pv 1)) pa_nil)))
      (pss_cons (ps_set (i := 3) sc_figures_of.nd rfl (Or.inl rfl) (pe_op op_fdivW (pv 0) (pv 1)))
      (pss_cons (ps_while PassesOwn.never (pt_cmpR op_gt (pv 3) pe_int (nomark _)) (pss_cons (ps_expr (pe_bm PySem.F.plainAttrs_list PySem.F.slot_list_append PySem.F.type_list_append mt_append (pv 2) (pa_cons (pe_op op_mod (pv 3) (pv 1)) pa_nil)))
      (pss_one (ps_set (i := 3) sc_figures_of.nd rfl (Or.inl rfl) (pe_op op_fdivW (pv 3) (pv 1))))))
      (pss_one (ps_ret (pe_callTy (T := "tuple") call_tuple_of (by rfl) T.m_tuple (by decide +kernel) (pa_cons (pe_revL (pv 2)) pa_nil))))))), ?_⟩
    refine ⟨_, rfl, _, rfl, _, _, rfl, rfl, by walk_at "p", by show 1 ≤ sizeLine; decide, fun fl hfl => ?_⟩
    generalize g1 : upd H fl _ = H1
    obtain ⟨s1, t1⟩ := new_of g1 hfl
    refine ⟨_, rfl, _, rfl, _, _, rfl, rfl, wd _, ?_⟩
    refine ⟨W_figures_of n b H fl, ⟨n / b, [n % b], rfl, s1, t1, (lsd_split hb).symm⟩, ?_⟩
    rintro r σ' H2 ⟨pre, rfl, s2, t2, e⟩
    have lp := W_figures_of.len hb hn e
    refine ⟨_, rfl, _, _, rfl, rfl, _, rfl, ?_⟩
    by_cases h0 : r = 0
    · subst h0
      rw [if_pos rfl, List.append_nil] at e
      subst e
      refine iteF ?_
      refine ⟨_, rfl, fl, _, rfl, .of t2, fun p3 hp3 => ?_⟩
      generalize g3 : upd H2 p3 _ = H3
      obtain ⟨s3, t3⟩ := new_of g3 hp3
      refine ⟨p3, _, rfl, .inl ⟨.of t3, fun p4 hp4 => ?_⟩⟩
      rw [ivs_reverse]
      exact q _ p4 (s2.trans (s3.trans (Same.new hp4))) (s2.free (s3.free hp4)) upd_same
    · have hr : (0 : Int) < (r : Int) := by omega
      rw [decide_eq_true hr]
      refine iteT ⟨Nx (W_figures_of n b H fl) r, Nx.id, ?_⟩
      refine ⟨_, rfl, .inl ⟨rfl, _, .of t2⟩, _, rfl, _, rfl, _, _, rfl, rfl, by walk_at "p", fl, _, _, rfl, rfl, t2, small1000 (by rw [ivs_length]; omega), ?_⟩
      refine ⟨_, rfl, _, rfl, _, _, rfl, rfl, wd _, ?_⟩
      refine ⟨r / b, Nat.div_lt_self (by omega) (by omega), pre ++ [r % b], rfl, same_own s2 hfl, ?_, ?_⟩
      · rw [upd_same, ivs_append]
        rfl
      · rw [if_neg h0, lsd_split hb] at e
        rw [List.append_assoc]
        exact e

/-! ### power_of -/
def sp_power_of (K : PySem.W.Frag) : Sp := fun vs H Q _ => ∃ f p : Int, vs = [.int f, .int p] ∧ 0 ≤ p ∧ p < 2 ^ 62 ∧ -(2 ^ 64) < f ∧ f < 2 ^ 64 ∧ Q (.int (f ^ p.toNat)) H
theorem ok_power_of (T : Txt K mg) : FnOk P w K mg base CX0 1 T.f_power_of T.fd_power_of ["figure", "power"] (sp_power_of K) := by
  refine T.F_power_of.ok sc_power_of (fun vs H Q E h => ?_) (fun cdv A outer s H vs Q E hr h => ?_)
  · obtain ⟨_, _, rfl, _⟩ := h
    rfl
  · obtain ⟨f, p, rfl, h0, h1, h2, h3, q⟩ := h
    refine ⟨_, (pss_cons (ps_set (i := 2) sc_power_of.nd rfl (Or.inl rfl) pe_int)
      (pss_cons (ps_for PassesOwn.never rfl (pi_range1 (by rfl) T.m_range (pa_cons (pv 1) pa_nil)) (pg_name (i := 3) sc_power_of.nd rfl (Or.inl rfl)) (pss_one (ps_set (i := 2) sc_power_of.nd rfl (Or.inl rfl) (pe_op op_mul (pv 2) (pv 0)))))
      (pss_one (ps_ret (pv 2))))), ?_⟩
    refine ⟨_, rfl, _, rfl, by omega, by omega, for_range (lo := 0) (n := p.toNat) (fun i σ' H' => H' = H ∧ ∃ y, σ' = [some (.int f), some (.int p), some (.int (f ^ i)), y]) ⟨rfl, none, by rw [Int.pow_zero]; rfl⟩ ?_ ?_⟩
    · rintro i σ' H' hi ⟨rfl, y, rfl⟩
      refine ⟨_, rfl, _, rfl, _, _, rfl, rfl, .inr ⟨h2, h3⟩, rfl, some (.int (0 + i)), ?_⟩
      rw [Int.pow_succ]
      rfl
    · rintro σ' H' ⟨rfl, y, rfl⟩
      exact ⟨_, rfl, q⟩

/-! ### step_of -/
def sp_step_of (K : PySem.W.Frag) : Sp := fun vs H Q _ => ∃ n b p : Nat, vs = [.int (n : Int), .int (b : Int), .int (p : Int)] ∧ 2 ≤ b ∧ b ≤ 16 ∧ p ≤ 10 ∧ n < 2 ^ 900 ∧ ∀ H', Same H H' → Q (.int (stepN b p n : Nat)) H'
theorem ok_step_of (T : Txt K mg) : FnOk P w K mg base CX0 2 T.f_step_of T.fd_step_of ["number", "base", "power"] (sp_step_of K) := by
  refine T.F_step_of.ok sc_step_of (fun vs H Q E h => ?_) (fun cdv A outer s H vs Q E hr h => ?_)
  · obtain ⟨_, _, _, rfl, _⟩ := h
    rfl
  · obtain ⟨n, b, p, rfl, hb, hb16, hp, hn, q⟩ := h
    have fl := figs_le hb hn
    refine ⟨_, (pss_one (ps_ret (pe_callB (id := "sum") (cr_sum rfl) (by rfl) T.m_sum (by decide +kernel) (pa_cons (pe_lc (own := [("figure", 3)]) (g := (gName 3)) (tt := tYes) rfl sc_step_of.nd (pi_tup (pe_call (ok_figures_of T) hr (by rfl) T.g_figures_of T.F_figures_of.kp T.b_figures_of .nil pass0 (pa_cons (pv 0) (pa_cons (pv 1) pa_nil)))) (blkOk_by (own := [("figure", 3)]) (N := ["number", "base", "power", "figure"]) (sc := defScope s_step_of) (by decide +kernel)) (fun _ _ _ _ _ => (pg_name (i := 3) sc_step_of.nd rfl (Or.inl rfl))) (fun _ _ _ _ _ => pts_nil) (fun _ _ _ _ _ => (pe_call (ok_power_of T) hr (by rfl) T.g_power_of T.F_power_of.kp T.b_power_of .nil pass0 (pa_cons (pv 3) (pa_cons (pv 2) pa_nil))))) pa_nil)))), ?_⟩
    refine ⟨_, rfl, _, rfl, n, b, rfl, hb, hb16, hn, fun H1 t s1 n1 e1 => ⟨t, rfl, ⟨_, .of e1⟩, fun D hD => ?_⟩⟩
    refine lc_tup (xs := ivs (figs b n)) (fun i H' => Same H1 H' ∧ H' D = some (.lst (ivs (((figs b n).take i).map (· ^ p))))) ⟨Same.new hD, upd_same⟩ ?_ ?_ ?_
    · rintro i H' hi ⟨s2, e2⟩
      exact .of (s2 _ _ e1)
    · rintro i x H' hx ⟨s2, e2⟩
      obtain ⟨k, hk, rfl⟩ := ivs_get hx
      have kb := figs_below hb (List.mem_of_getElem? hk)
      have hi : i < (figs b n).length := (List.getElem?_eq_some_iff.mp hk).1
      refine ⟨rfl, _, rfl, _, rfl, (k : Int), (p : Int), rfl, by omega, by omega, by omega, by omega, ?_⟩
      refine ⟨_, e2, small1000 ?_, same_own s2 hD, ?_⟩
      · rw [ivs_length, List.length_map, List.length_take]
        omega
      · rw [upd_same, List.take_add_one, hk, List.map_append, ivs_append]
        show some (HO.lst (_ ++ [V.int ((k : Int) ^ p)])) = some (HO.lst (_ ++ [V.int ((k ^ p : Nat) : Int)]))
        rw [Int.natCast_pow]
    · rintro H' ⟨s2, e2⟩
      rw [ivs_length, List.take_length, ivs_map] at e2
      refine ⟨D, _, rfl, .of e2, ?_⟩
      rw [sum_cast]
      exact q H' (s1.trans s2)

/-! ### worths_of -/
def sp_worths_of (K : PySem.W.Frag) : Sp := fun vs H Q _ => ∃ b p : Nat, vs = [.int (b : Int), .int (p : Int)] ∧ b ≤ 16 ∧ p ≤ 10 ∧ ∀ H' w, Same H H' → H w = none → H' w = some (.lst (ivs (wts b p))) → Q (.ref w) H'
theorem ok_worths_of (T : Txt K mg) : FnOk P w K mg base CX0 2 T.f_worths_of T.fd_worths_of ["base", "power"] (sp_worths_of K) := by
  refine T.F_worths_of.ok sc_worths_of (fun vs H Q E h => ?_) (fun cdv A outer s H vs Q E hr h => ?_)
  · obtain ⟨_, _, rfl, _⟩ := h
    rfl
  · obtain ⟨b, p, rfl, hb, hp, q⟩ := h
    refine ⟨_, (pss_one (ps_ret (pe_lc (own := [("figure", 2)]) (g := (gName 2)) (tt := tYes) rfl sc_worths_of.nd (pi_range1 (by rfl) T.m_range (pa_cons (pv 0) pa_nil)) (blkOk_by (own := [("figure", 2)]) (N := ["base", "power", "figure"]) (sc := defScope s_worths_of) (by decide +kernel)) (fun _ _ _ _ _ => (pg_name (i := 2) sc_worths_of.nd rfl (Or.inl rfl))) (fun _ _ _ _ _ => pts_nil) (fun _ _ _ _ _ => (pe_call (ok_power_of T) hr (by rfl) T.g_power_of T.F_power_of.kp T.b_power_of .nil pass0 (pa_cons (pv 2) (pa_cons (pv 1) pa_nil))))))), ?_⟩
    refine ⟨_, rfl, _, rfl, by omega, by omega, fun D hD => lc_range (lo := 0) (n := b) (fun i H' => Same H H' ∧ H' D = some (.lst (ivs ((wts b p).take i)))) ⟨Same.new hD, upd_same⟩ ?_ ?_⟩
    · rintro i H' hi ⟨s2, e2⟩
      refine ⟨rfl, _, rfl, _, rfl, ((0 + i : Nat) : Int), (p : Int), by rw [Int.natCast_add]; rfl, by omega, by omega, by omega, by omega, ?_⟩
      refine ⟨_, e2, small_len (by rw [ivs_length, List.length_take, wts_len]; omega), same_own s2 hD, ?_⟩
      rw [upd_same, List.take_add_one, wts_get hi, ivs_append, Nat.zero_add]
      show some (HO.lst (_ ++ [V.int ((i : Int) ^ p)])) = some (HO.lst (_ ++ [V.int ((i ^ p : Nat) : Int)]))
      rw [Int.natCast_pow]
    · rintro H' ⟨s2, e2⟩
      rw [List.take_of_length_le (by rw [wts_len]; exact Nat.le_refl _)] at e2
      exact q H' D s2 hD e2

/-! ### way_of -/
def sp_way_of (K : PySem.W.Frag) : Sp := fun vs H Q _ => ∃ n b p : Nat, vs = [.int (n : Int), .int (b : Int), .int (p : Int)] ∧ OkN b p ∧ n < 2 ^ 200 ∧ ∀ H' t w A L, Same H H' → H t = none → H' t = some (.tup [.ref w, .int ((A : Nat) : Int)]) → H w = none → H' w = some (.lst (ivs (rowN b p n L))) → Way b p n A L → Q (.ref t) H'
def W_way_of (n b p : Nat) (H : Hp) (P : Addr) (m : Nat) (σ' : L2.St) (H' : Hp) : Prop := ∃ L : Nat, m = 15031 - L ∧ σ' = [some (.int ((itN b p n L : Nat) : Int)), some (.int (b : Int)), some (.int (p : Int)), some (.ref P)] ∧ Same H H' ∧ H' P = some (.dK (kvsOf (fun i => ((itN b p n i : Nat) : Int)) (fun i => .int (i : Int)) L)) ∧ ∀ i j, i < L → j < L → itN b p n i = itN b p n j → i = j
theorem ok_way_of (T : Txt K mg) : FnOk P w K mg base CX0 3 T.f_way_of T.fd_way_of ["number", "base", "power"] (sp_way_of K) := by
  refine T.F_way_of.ok sc_way_of (fun vs H Q E h => ?_) (fun cdv A outer s H vs Q E hr h => ?_)
  · obtain ⟨_, _, _, rfl, _⟩ := h
    rfl
  · obtain ⟨n, b, p, rfl, ok, hn, q⟩ := h
    have nr := near_of ok hn
    refine ⟨_, (pss_cons (ps_set (i := 3) sc_way_of.nd rfl (Or.inl rfl) pe_dnewK)
      (pss_cons (ps_while PassesOwn.never (pt_cmp (pc_dnotin (hu_of hr) (pv 0) (pv 3)) rfl) (pss_cons (ps_dput (hu_of hr) (pv 3) (pv 0) (pe_callB (id := "len") call_lenD (by rfl) T.m_len (by decide +kernel) (pa_cons (pv 3) pa_nil)) rfl)
      (pss_one (ps_set (i := 0) sc_way_of.nd rfl (Or.inl rfl) (pe_call (ok_step_of T) hr (by rfl) T.g_step_of T.F_step_of.kp T.b_step_of .nil pass0 (pa_cons (pv 0) (pa_cons (pv 1) (pa_cons (pv 2) pa_nil))))))))
      (pss_one (ps_ret (pe_tup (pa_cons (pe_callTy (T := "list") (call_list_dK rfl) (by rfl) T.m_list (by decide +kernel) (pa_cons (pv 3) pa_nil)) (pa_cons (pe_dget (hu_of hr) (pv 3) (pv 0) (fun _ _ => rfl)) pa_nil))))))), ?_⟩
    refine fun P hP => ?_
    generalize g1 : upd H P _ = H1
    obtain ⟨s1, t1⟩ := new_of g1 hP
    refine ⟨W_way_of n b p H P, ⟨15031, 0, rfl, rfl, s1, t1, fun i j hi => by omega⟩, ?_⟩
    rintro m σ' H2 ⟨L, rfl, rfl, s2, t2, nd⟩
    have lL := nr.rep nd
    by_cases c : ∃ i, i < L ∧ itN b p n i = itN b p n L
    · obtain ⟨A, hA, e⟩ := c
      have v : valV (kvsOf (fun i => ((itN b p n i : Nat) : Int)) (fun i => V.int (i : Int)) L) (Sum.inl ((itN b p n L : Nat) : Int) : Key) = some (.int (A : Int)) := by
        rw [← e]
        exact kvsOf_some (f := fun i => ((itN b p n i : Nat) : Int)) (g := fun i => V.int (i : Int)) (fun i j hi hj z => nd i j hi hj (Int.ofNat.inj z)) hA
      refine ⟨_, rfl, _, rfl, P, some (.int (A : Int)), rfl, dget (k := Sum.inl _) t2 v, false, rfl, iteF ?_⟩
      refine ⟨_, rfl, P, _, rfl, t2, fun w hw => ?_⟩
      rw [kvsOf_keys]
      generalize g3 : upd H2 w _ = H3
      obtain ⟨s3, t3⟩ := new_of g3 hw
      have t3' : H3 w = some (.lst (ivs (rowN b p n L))) := by
        rw [t3, rowN_eq]
        unfold ivs
        rw [List.map_map]
        rfl
      refine ⟨_, rfl, _, rfl, P, _, rfl, dget (k := Sum.inl _) (s3 _ _ t2) v, by show 2 ≤ sizeLine; decide, fun t ht => ?_⟩
      exact q _ t w A L (s2.trans (s3.trans (Same.new ht))) (s2.free (s3.free ht)) upd_same (s2.free hw) (Same.new ht _ _ t3') ⟨hA, e.symm, nd⟩
    · have v : valV (kvsOf (fun i => ((itN b p n i : Nat) : Int)) (fun i => V.int (i : Int)) L) (Sum.inl ((itN b p n L : Nat) : Int) : Key) = none := kvsOf_none fun i hi z => c ⟨i, hi, Int.ofNat.inj z⟩
      refine ⟨_, rfl, _, rfl, P, none, rfl, dget (k := Sum.inl _) t2 v, true, rfl, iteT ⟨Nx (W_way_of n b p H P) (15031 - L), Nx.id, ?_⟩⟩
      refine ⟨_, rfl, P, _, rfl, t2, ?_⟩
      rw [kvsOf_len]
      refine ⟨_, rfl, _, rfl, P, _, rfl, .k (k := Sum.inl _) t2 (small_len (by rw [kvsOf_len]; omega)), ?_⟩
      have z := kvsOf_put (f := fun i => ((itN b p n i : Nat) : Int)) (g := fun i => V.int (i : Int)) (L := L) fun i hi z => c ⟨i, hi, Int.ofNat.inj z⟩
      rw [z]
      have s3 := same_own (o := .dK (kvsOf (fun i => ((itN b p n i : Nat) : Int)) (fun i => V.int (i : Int)) (L + 1))) s2 hP
      refine ⟨_, rfl, _, rfl, _, rfl, itN b p n L, b, p, rfl, ok.hb, ok.hb16, ok.hp, lt200 (itN_lt200 ok hn L), fun H4 s4 => ?_⟩
      refine ⟨15031 - (L + 1), by omega, L + 1, rfl, rfl, s3.trans s4, s4 _ _ upd_same, fun i j hi hj ez => ?_⟩
      by_cases ci : i = L
      · by_cases cj : j = L
        · omega
        · subst ci
          exact absurd ⟨j, by omega, ez.symm⟩ c
      · by_cases cj : j = L
        · subst cj
          exact absurd ⟨i, by omega, ez⟩ c
        · exact nd i j (by omega) (by omega) ez

/-! ### end_of -/
def sp_end_of (K : PySem.W.Frag) : Sp := fun vs H Q _ => ∃ n b p : Nat, vs = [.int (n : Int), .int (b : Int), .int (p : Int)] ∧ OkN b p ∧ n < 2 ^ 200 ∧ ∀ H' t A m, Same H H' → H t = none → H' t = some (.tup (ivs [A, m])) → EndAt b p n A m → Q (.ref t) H'
theorem ok_end_of (T : Txt K mg) : FnOk P w K mg base CX0 4 T.f_end_of T.fd_end_of ["number", "base", "power"] (sp_end_of K) := by
  refine T.F_end_of.ok sc_end_of (fun vs H Q E h => ?_) (fun cdv A outer s H vs Q E hr h => ?_)
  · obtain ⟨_, _, _, rfl, _⟩ := h
    rfl
  · obtain ⟨n, b, p, rfl, ok, hn, q⟩ := h
    refine ⟨_, (pss_cons (ps_asg (pe_call (ok_way_of T) hr (by rfl) T.g_way_of T.F_way_of.kp T.b_way_of .nil pass0 (pa_cons (pv 0) (pa_cons (pv 1) (pa_cons (pv 2) pa_nil)))) (pg_tup rfl (pgs_cons (pg_name (i := 3) sc_end_of.nd rfl (Or.inl rfl)) (pgs_cons (pg_name (i := 4) sc_end_of.nd rfl (Or.inl rfl)) pgs_nil))))
      (pss_one (ps_ret (pe_tup (pa_cons (pv 4) (pa_cons (pe_callB (id := "min") (cr_min rfl) (by rfl) T.m_min (by decide +kernel) (pa_cons (pe_slice sl_list (pv 3) (po_some (pv 4)) po_none) pa_nil)) pa_nil)))))), ?_⟩
    refine ⟨_, rfl, _, rfl, _, rfl, n, b, p, rfl, ok, hn, fun H1 t w A L s1 nt et nw ew wy => ?_⟩
    have lt := wy.lt
    refine ⟨t, _, rfl, .of et, rfl, _, _, rfl, _, _, rfl, rfl, ?_⟩
    refine ⟨_, rfl, _, rfl, _, rfl, _, rfl, w, _, rfl, .of ew, fun D hD => ?_⟩
    rw [cut_ivs_from]
    generalize g2 : upd H1 D _ = H2
    obtain ⟨s2, t2⟩ := new_of g2 hD
    rw [rowN_drop, ivs_map] at t2
    refine ⟨D, _, rfl, .of t2, by rw [List.length_map, rowN_len]; omega, fun m h1 h2 => ?_⟩
    obtain ⟨k, hk, rfl⟩ := List.mem_map.mp h1
    obtain ⟨i, hi, rfl⟩ := mem_rowN.mp hk
    refine ⟨by show 2 ≤ sizeLine; decide, fun T hT => ?_⟩
    refine q _ T A _ (s1.trans (s2.trans (Same.new hT))) (s1.free (s2.free hT)) upd_same (wy.end_of ⟨A + i, by omega, by omega, itN_add ..⟩ fun j j1 j2 => ?_)
    have := h2 ((itN b p n j : Nat) : Int) (List.mem_map.mpr ⟨_, mem_rowN.mpr ⟨j - A, by omega, rfl⟩, by rw [← itN_add, show A + (j - A) = j by omega]⟩)
    omega

/-! ### _law_mix -/
def sp__law_mix (K : PySem.W.Frag) : Sp := fun vs H Q _ => ∃ c k : Int, vs = [.int c, .int k] ∧ 0 ≤ k ∧ k < 2 ^ 44 ∧ ∀ r : Int, Q (.int r) H
theorem mix_bound {a b : Int} (h : 0 < b) : 0 ≤ a % b ∧ a % b < b := ⟨Int.emod_nonneg _ (by omega), Int.emod_lt_of_pos _ h⟩
theorem ok__law_mix (T : Txt K mg) : FnOk P w K mg base CX0 1 T.f__law_mix T.fd__law_mix ["cell", "k"] (sp__law_mix K) := by
  refine T.F__law_mix.ok sc__law_mix (fun vs H Q E h => ?_) (fun cdv A outer s H vs Q E hr h => ?_)
  · obtain ⟨_, _, rfl, _⟩ := h
    rfl
  · obtain ⟨c, k, rfl, h0, h1, q⟩ := h
    refine ⟨_, (pss_cons (ps_set (i := 2) sc__law_mix.nd rfl (Or.inl rfl) (pe_op op_add (pe_op op_mod (pv 0) pe_int) (pe_op op_mul (pe_op op_mul pe_int (pv 1)) (pv 1))))
      (pss_cons (ps_set (i := 2) sc__law_mix.nd rfl (Or.inl rfl) (pe_op op_mod (pe_op op_add (pv 2) (pe_op op_mul pe_int (pv 1))) pe_int))
      (pss_cons (ps_set (i := 2) sc__law_mix.nd rfl (Or.inl rfl) (pe_op op_mod (pe_op op_mul (pv 2) (pv 2)) pe_int))
      (pss_one (ps_ret (pe_op op_fdivW (pe_op op_mod (pe_op op_mul (pv 2) (pe_op op_add (pv 2) pe_int)) pe_int) pe_int)))))), ?_⟩
    have hk : -(2 ^ 64) < 1000003 * k ∧ 1000003 * k < 2 ^ 64 := by omega
    refine ⟨_, rfl, _, _, rfl, rfl, by walk_at "p", _, rfl, _, _, rfl, rfl, .inl (by decide), _, rfl, _, _, rfl, rfl, .inl hk, _, _, rfl, rfl, ?_⟩
    refine ⟨_, rfl, _, rfl, _, _, rfl, rfl, .inl (by decide), _, _, rfl, rfl, _, _, rfl, rfl, by walk_at "p", ?_⟩
    refine ⟨_, rfl, _, rfl, _, _, rfl, rfl, .inl ?_, _, _, rfl, rfl, by walk_at "p", ?_⟩
    · have b := mix_bound (a := c % 2147483629 + 1000003 * k * k + 7919 * k) (b := 2147483629) (by decide)
      exact ⟨by omega, by omega⟩
    generalize (c % 2147483629 + 1000003 * k * k + 7919 * k) % 2147483629 = n1
    have b := mix_bound (a := n1 * n1) (b := 2147483587) (by decide)
    generalize n1 * n1 % 2147483587 = n2 at b ⊢
    refine ⟨_, rfl, _, rfl, _, _, rfl, rfl, _, _, rfl, rfl, .inl ⟨by omega, by omega⟩, _, _, rfl, rfl, by walk_at "p", _, _, rfl, rfl, ⟨by decide, by decide +kernel⟩, ?_⟩
    exact q _

/-! ### _law_deck -/
def sp__law_deck (K : PySem.W.Frag) : Sp := fun vs H Q _ => ∃ (a : Addr) (ns : List Int), vs = [.ref a] ∧ SqL K H a (ns.map V.int) ∧ ∀ H' d c, Same H H' → H d = none → H c = none → Deck H' d c 0 → Q (.ref d) H'
theorem ok__law_deck (T : Txt K mg) : FnOk P w K mg base CX0 1 T.f__law_deck T.fd__law_deck ["script"] (sp__law_deck K) := by
  refine T.F__law_deck.ok sc__law_deck (fun vs H Q E h => ?_) (fun cdv A outer s H vs Q E hr h => ?_)
  · obtain ⟨_, _, rfl, _⟩ := h
    rfl
  · obtain ⟨a, ns, rfl, hS, q⟩ := h
    refine ⟨_, (pss_one (ps_ret (pe_lst (pa_cons (pe_slice sl_list (pv 0) po_none (po_some pe_int)) (pa_cons pe_int (pa_cons pe_int (pa_cons pe_int (pa_cons (pe_callB (id := "sum") (cr_sum rfl) (by rfl) T.m_sum (by decide +kernel) (pa_cons (pe_slice sl_list (pv 0) po_none (po_some pe_int)) pa_nil)) pa_nil)))))))), ?_⟩
    have ec : cutV (ns.map V.int) none (some 63) = (ns.take 63).map V.int := by
      rw [List.map_take]
      exact cut_to _ 63
    refine ⟨_, rfl, _, rfl, a, _, rfl, hS, fun c hc => ?_⟩
    rw [ec]
    have s1 : Same H (upd H c (.lst ((ns.take 63).map V.int))) := Same.new hc
    refine ⟨_, rfl, _, rfl, a, _, rfl, s1.seq hS, fun e he => ?_⟩
    rw [ec]
    generalize hH1 : upd H c (.lst ((ns.take 63).map V.int)) = H1 at s1 he ⊢
    have s2 : Same H1 (upd H1 e (.lst ((ns.take 63).map V.int))) := Same.new he
    refine ⟨e, _, rfl, .of upd_same, by show 5 ≤ sizeLine; decide, fun d hd => ?_⟩
    generalize hH2 : upd H1 e (.lst ((ns.take 63).map V.int)) = H2 at s2 hd ⊢
    have hc1 : H1 c = some (.lst ((ns.take 63).map V.int)) := by rw [← hH1]; exact upd_same
    have s3 : Same H2 (upd H2 d (.lst [.ref c, .int 0, .int 0, .int 0, .int (ns.take 63).sum])) := Same.new hd
    refine q _ d c (s1.trans (s2.trans s3)) (s1.free (s2.free hd)) hc ⟨ns.take 63, 0, 0, 0, (ns.take 63).sum, upd_same, s3 _ _ (s2 _ _ hc1), ?_⟩
    omega

/-! ### _law_next -/
def sp__law_next (K : PySem.W.Frag) : Sp := fun vs H Q _ => ∃ (d : Addr) (many : Int) (c : Addr) (n : Nat), vs = [.ref d, .int many] ∧ Deck H d c n ∧ n < 2 ^ 40 ∧ 0 < many ∧ many < 2 ^ 200 ∧
  ∀ H' (r : Int), But d H H' → Deck H' d c (n + 1) → 0 ≤ r → r < many → Q (.int r) H'
theorem ok__law_next (T : Txt K mg) : FnOk P w K mg base CX0 2 T.f__law_next T.fd__law_next ["deck", "many"] (sp__law_next K) := by
  refine T.F__law_next.ok sc__law_next (fun vs H Q E h => ?_) (fun cdv A outer s H vs Q E hr h => ?_)
  · obtain ⟨_, _, _, _, rfl, _⟩ := h
    rfl
  · obtain ⟨d, many, c, n, rfl, hD, hn, h0, h9, q⟩ := h
    have hcd := hD.ne
    obtain ⟨ns, i, l, m, t, eD, eC, i0, i1, m0, m1⟩ := hD.ex
    have hw : ∀ x : Int, CDivW x many := fun x => divW 200 h0 h9
    have r0 : ∀ x : Int, 0 ≤ x % many := fun x => Int.emod_nonneg _ (by omega)
    have r1 : ∀ x : Int, x % many < many := fun x => Int.emod_lt_of_pos _ h0
    refine ⟨_, (C8.pss_cut (ps_if (PW.pt (pw_and (pt_cmpR op_eq (pe_ix ix_list (pv 0) pe_int (fun _ _ => rfl)) pe_int (nomark _)) (pw_and1 (pt_cmpR op_lt (pe_ix ix_list (pv 0) pe_int (fun _ _ => rfl)) (pe_callB (id := "len") call_len_seq (by rfl) T.m_len (by decide +kernel) (pa_cons (pe_ix ix_list (pv 0) pe_int (fun _ _ => rfl)) pa_nil)) (nomark _))))) (pss_cons (ps_set (i := 2) sc__law_next.nd rfl (Or.inl rfl) (pe_ix ix_list (pe_ix ix_list (pv 0) pe_int (fun _ _ => rfl)) (pe_ix ix_list (pv 0) pe_int (fun _ _ => rfl)) (fun _ _ => rfl)))
      (pss_cons (ps_asg (pe_op op_add (pe_ix ix_list (pv 0) pe_int (fun _ _ => rfl)) pe_int) (pg_sub (pv 0) pe_int set_list))
      (pss_cons (ps_if (pt_cmpR op_lt (pv 2) (pe_op op_pow pe_int pe_int) (nomark _)) (pss_one (ps_ret (pe_op op_mod (pe_call (ok__law_mix T) hr (by rfl) T.g__law_mix T.F__law_mix.kp T.b__law_mix .nil pass0 (pa_cons (pv 2) (pa_cons (pe_ix ix_list (pv 0) pe_int (fun _ _ => rfl)) pa_nil))) (pv 1)))) pss_nil)
      (pss_one (ps_asg (pv 2) (pg_sub (pv 0) pe_int set_list)))))) pss_nil)
      (pss_cons (ps_if (pt_cmpR op_gt (pe_ix ix_list (pv 0) pe_int (fun _ _ => rfl)) pe_int (nomark _)) (pss_cons (ps_set (i := 3) sc__law_next.nd rfl (Or.inl rfl) (pe_op op_mod (pe_ix ix_list (pv 0) pe_int (fun _ _ => rfl)) (pv 1)))
      (pss_cons (ps_asg (pe_op op_fdivW (pe_ix ix_list (pv 0) pe_int (fun _ _ => rfl)) (pv 1)) (pg_sub (pv 0) pe_int set_list))
      (pss_one (ps_ret (pv 3))))) pss_nil)
      (pss_cons (ps_asg (pe_op op_add (pe_ix ix_list (pv 0) pe_int (fun _ _ => rfl)) pe_int) (pg_sub (pv 0) pe_int set_list))
      (pss_one (ps_ret (pe_op op_mod (pe_call (ok__law_mix T) hr (by rfl) T.g__law_mix T.F__law_mix.kp T.b__law_mix .nil pass0 (pa_cons (pe_ix ix_list (pv 0) pe_int (fun _ _ => rfl)) (pa_cons (pe_op op_add (pe_ix ix_list (pv 0) pe_int (fun _ _ => rfl)) pe_int) pa_nil))) (pv 1))))))), ?_⟩
    refine ⟨fun σ' H1 => ∃ i' l' y, σ' = [some (.ref d), some (.int many), y, none] ∧ But d H H1 ∧ H1 d = some (.lst [.ref c, .int i', .int l', .int m, .int t]) ∧ H1 c = some (.lst (ns.map V.int)) ∧ 0 ≤ i' ∧ i' ≤ i + 1, ?_, ?_⟩
    · -- deck[2] == 0 and deck[1] < len(deck[0])
      refine ⟨_, rfl, d, _, 2, .int l, rfl, rfl, .of eD, atI_nat (j := 2) rfl, rfl, _, rfl, ite2 (fun e => ?_) (fun e => ?_)⟩
      · refine ⟨_, rfl, d, _, 1, .int i, rfl, rfl, .of eD, atI_nat (j := 1) rfl, _, rfl, d, _, 0, .ref c, rfl, rfl, .of eD, atI_nat (j := 0) rfl, c, _, rfl, .inl (.of eC), _, _, rfl, rfl, _, rfl, ite2 (fun e2 => ?_) (fun e2 => ?_)⟩
        · -- cell = deck[0][deck[1]]
          have e3 : i < (ns.length : Int) := by
            have z := of_decide_eq_true e2
            rw [List.length_map] at z
            exact z
          have hi : i.toNat < ns.length := by omega
          have ci : atI (ns.map V.int) i = some (.int ns[i.toNat]) := by
            have z : (ns.map V.int)[i.toNat]? = some (.int ns[i.toNat]) := by
              rw [List.getElem?_map, List.getElem?_eq_getElem hi]
              rfl
            have y := atI_nat z
            rw [show ((i.toNat : Nat) : Int) = i by omega] at y
            exact y
          generalize ns[i.toNat] = cell at ci
          refine ⟨_, rfl, d, _, 0, .ref c, rfl, rfl, .of eD, atI_nat (j := 0) rfl, _, rfl, d, _, 1, .int i, rfl, rfl, .of eD, atI_nat (j := 1) rfl, c, _, i, .int cell, rfl, rfl, .of eC, ci, ?_⟩
          -- deck[1] = deck[1] + 1
          refine ⟨_, rfl, d, _, 1, .int i, rfl, rfl, .of eD, atI_nat (j := 1) rfl, _, _, rfl, rfl, _, rfl, d, _, 1, 1, rfl, rfl, eD, rfl, ?_⟩
          have b1 : But d H (upd H d (.lst [.ref c, .int (i + 1), .int l, .int m, .int t])) := But.set
          have d1 : (upd H d (.lst [.ref c, .int (i + 1), .int l, .int m, .int t])) d = some (.lst [.ref c, .int (i + 1), .int l, .int m, .int t]) := upd_same
          have c1 : (upd H d (.lst [.ref c, .int (i + 1), .int l, .int m, .int t])) c = some (.lst (ns.map V.int)) := by rw [upd_ne hcd]; exact eC
          -- if cell < 10 ** 18
          refine ⟨_, rfl, 10, 18, rfl, rfl, ⟨by decide, by decide, by decide⟩, _, _, rfl, rfl, _, rfl, ite2 (fun e4 => ?_) (fun e4 => ?_)⟩
          · refine ⟨_, rfl, _, rfl, d, _, 1, .int (i + 1), rfl, rfl, .of d1, atI_nat (j := 1) rfl, cell, i + 1, rfl, by omega, by omega, fun r => ?_⟩
            exact ⟨_, rfl, _, _, rfl, rfl, h0, q _ _ b1 ⟨ns, i + 1, l, m, t, d1, c1, by omega, by omega, m0, by omega⟩ (r0 _) (r1 _)⟩
          · refine ⟨_, rfl, _, rfl, d, _, 2, 2, rfl, rfl, d1, rfl, ?_⟩
            refine ⟨i + 1, cell, some (.int cell), rfl, b1.trans But.set, upd_same, ?_, by omega, by omega⟩
            rw [upd_ne hcd]
            exact c1
        · exact ⟨i, l, none, rfl, But.refl _ _, eD, eC, i0, by omega⟩
      · exact ⟨i, l, none, rfl, But.refl _ _, eD, eC, i0, by omega⟩
    · -- if deck[2] > 0
      rintro σ' H1 ⟨i', l', y, rfl, b1, d1, c1, j0, j1⟩
      refine ⟨_, rfl, d, _, 2, .int l', rfl, rfl, .of d1, atI_nat (j := 2) rfl, _, _, rfl, rfl, _, rfl, ite2 (fun e => ?_) (fun e => ?_)⟩
      · refine ⟨_, rfl, d, _, 2, .int l', rfl, rfl, .of d1, atI_nat (j := 2) rfl, _, rfl, _, _, rfl, rfl, h0, ?_⟩
        refine ⟨_, rfl, d, _, 2, .int l', rfl, rfl, .of d1, atI_nat (j := 2) rfl, _, rfl, _, _, rfl, rfl, hw _, _, rfl, d, _, 2, 2, rfl, rfl, d1, rfl, ?_⟩
        refine ⟨_, rfl, q _ _ (b1.trans But.set) ⟨ns, i', l' / many, m, t, upd_same, ?_, j0, by omega, m0, by omega⟩ (r0 _) (r1 _)⟩
        rw [upd_ne hcd]
        exact c1
      · refine ⟨_, rfl, d, _, 3, .int m, rfl, rfl, .of d1, atI_nat (j := 3) rfl, _, _, rfl, rfl, _, rfl, d, _, 3, 3, rfl, rfl, d1, rfl, ?_⟩
        have d2 : (upd H1 d (.lst [.ref c, .int i', .int l', .int (m + 1), .int t])) d = some (.lst [.ref c, .int i', .int l', .int (m + 1), .int t]) := upd_same
        have c2 : (upd H1 d (.lst [.ref c, .int i', .int l', .int (m + 1), .int t])) c = some (.lst (ns.map V.int)) := by rw [upd_ne hcd]; exact c1
        refine ⟨_, rfl, d, _, 4, .int t, rfl, rfl, .of d2, atI_nat (j := 4) rfl, _, rfl, d, _, 3, .int (m + 1), rfl, rfl, .of d2, atI_nat (j := 3) rfl, _, _, rfl, rfl, t, _, rfl, by omega, by omega, fun r => ?_⟩
        exact ⟨_, rfl, _, _, rfl, rfl, h0, q _ _ (b1.trans But.set) ⟨ns, i', l', m + 1, t, d2, c2, j0, by omega, by omega, by omega⟩ (r0 _) (r1 _)⟩

/-! ### _law_pair -/
def sp__law_pair (K : PySem.W.Frag) : Sp := fun vs H Q _ => ∃ (d c : Addr) (n : Nat), vs = [.ref d] ∧ Deck H d c n ∧ n < 2 ^ 39 ∧
  ∀ H' (p : Addr) (b pw : Int), But d H H' → Deck H' d c (n + 3) → H p = none → H' p = some (.tup [.int b, .int pw]) → OkPair b pw → Q (.ref p) H'
theorem ok__law_pair (T : Txt K mg) : FnOk P w K mg base CX0 3 T.f__law_pair T.fd__law_pair ["deck"] (sp__law_pair K) := by
  refine T.F__law_pair.ok sc__law_pair (fun vs H Q E h => ?_) (fun cdv A outer s H vs Q E hr h => ?_)
  · obtain ⟨_, _, _, rfl, _⟩ := h
    rfl
  · obtain ⟨d, c, n, rfl, hD, hn, q⟩ := h
    refine ⟨_, (pss_cons (ps_set (i := 1) sc__law_pair.nd rfl (Or.inl rfl) (pe_op op_add pe_int (pe_call (ok__law_next T) hr (by rfl) T.g__law_next T.F__law_next.kp T.b__law_next .nil pass0 (pa_cons (pv 0) (pa_cons pe_int pa_nil)))))
      (pss_cons (ps_set (i := 2) sc__law_pair.nd rfl (Or.inl rfl) (pe_ix ix_list (pe_lst (pa_cons pe_int (pa_cons pe_int (pa_cons pe_int (pa_cons pe_int (pa_cons pe_int (pa_cons pe_int (pa_cons pe_int (pa_cons pe_int (pa_cons pe_int (pa_cons pe_int (pa_cons pe_int (pa_cons pe_int (pa_cons pe_int (pa_cons pe_int (pa_cons pe_int pa_nil)))))))))))))))) (pe_op op_sub (pv 1) pe_int) (fun _ _ => rfl)))
      (pss_one (ps_ret (pe_ix ix_list (pe_lst (pa_cons (pe_tup (pa_cons (pv 1) (pa_cons (pe_op op_add pe_int (pe_call (ok__law_next T) hr (by rfl) T.g__law_next T.F__law_next.kp T.b__law_next .nil pass0 (pa_cons (pv 0) (pa_cons (pv 2) pa_nil)))) pa_nil))) (pa_cons (pe_tup (pa_cons (pv 1) (pa_cons (pv 2) pa_nil))) pa_nil))) (pe_call (ok__law_next T) hr (by rfl) T.g__law_next T.F__law_next.kp T.b__law_next .nil pass0 (pa_cons (pv 0) (pa_cons pe_int pa_nil))) (fun _ _ => rfl)))))), ?_⟩
    refine ⟨_, rfl, d, 15, c, n, rfl, hD, by omega, by decide, by decide, fun H1 r b1 D1 r0 r1 => ?_⟩
    refine ⟨2, r, rfl, rfl, ?_⟩
    -- most = [..][base - 2]
    refine ⟨by show 15 ≤ sizeLine; decide, fun p1 hp1 => ?_⟩
    generalize g2 : upd _ p1 _ = H2
    obtain ⟨s2, t2⟩ := new_of g2 hp1
    have e1 : 2 ≤ 2 + r := by omega
    have e2 : 2 + r ≤ 16 := by omega
    have bm := most_pos e1 e2
    refine ⟨_, rfl, _, _, rfl, rfl, p1, mosts.map V.int, _, _, rfl, rfl, .of t2, most_at e1 e2, ?_⟩
    have D2 := D1.same s2
    -- the two pairs
    refine ⟨_, rfl, _, rfl, _, rfl, d, mostOf (2 + r), c, n + 1, rfl, D2, by omega, by omega, by omega, fun H3 r3 b3 D3 r30 r31 => ?_⟩
    refine ⟨1, r3, rfl, rfl, by show 2 ≤ sizeLine; decide, fun p4 hp4 => ?_⟩
    generalize g4 : upd _ p4 _ = H4
    obtain ⟨s4, t4⟩ := new_of g4 hp4
    refine ⟨_, rfl, _, rfl, by show 2 ≤ sizeLine; decide, fun p5 hp5 => ?_⟩
    generalize g5 : upd _ p5 _ = H5
    obtain ⟨s5, t5⟩ := new_of g5 hp5
    refine ⟨by show 2 ≤ sizeLine; decide, fun p6 hp6 => ?_⟩
    generalize g6 : upd _ p6 _ = H6
    obtain ⟨s6, t6⟩ := new_of g6 hp6
    have D6 : Deck H6 d c (n + 1 + 1) := ((D3.same s4).same s5).same s6
    refine ⟨_, rfl, d, 2, c, n + 1 + 1, rfl, D6, by omega, by decide, by decide, fun H7 r7 b7 D7 r70 r71 => ?_⟩
    have bAll : But d H H7 := b1.trans ((But.of s2).trans (b3.trans ((But.of (s4.trans (s5.trans s6))).trans b7)))
    have n6 : p6 ≠ d := by
      obtain ⟨xs, z⟩ := (((D3.same s4).same s5)).some
      exact (ne_of_none z hp6).symm
    have l7 : H7 p6 = some (.lst [.ref p4, .ref p5]) := b7 _ _ n6 t6
    have f0 : ∀ {p : Addr}, H3 p = none → H p = none := fun {p} z => b1.fresh D1.there (s2.free (b3.fresh D3.there z))
    have c01 : r7 = 0 ∨ r7 = 1 := by omega
    rcases c01 with rfl | rfl
    · refine ⟨p6, _, 0, .ref p4, rfl, rfl, .of l7, atI_nat (j := 0) rfl, ?_⟩
      exact q H7 p4 (2 + r) (1 + r3) bAll D7 (f0 hp4) (b7.tup D6 (s6 _ _ (s5 _ _ t4))) ⟨e1, e2, by omega, by omega⟩
    · refine ⟨p6, _, 1, .ref p5, rfl, rfl, .of l7, atI_nat (j := 1) rfl, ?_⟩
      exact q H7 p5 (2 + r) (mostOf (2 + r)) bAll D7 (f0 (s4.free hp5)) (b7.tup D6 (s6 _ _ t5)) ⟨e1, e2, by omega, by omega⟩

/-! ### _law_figures -/
def sp__law_figures (K : PySem.W.Frag) : Sp := fun vs H Q _ => ∃ n b : Nat, vs = [.int (n : Int), .int (b : Int)] ∧ 2 ≤ b ∧ b ≤ 16 ∧ n < 2 ^ 900 ∧ ∀ H' p, Same H H' → H p = none → H' p = some (.lst (ivs (figs b n))) → Q (.ref p) H'
def W__law_figures (n b : Nat) (H : Hp) (P : Addr) (m : Nat) (σ' : L2.St) (H' : Hp) : Prop := ∃ k : Nat, m = n - k ∧ σ' = [some (.int (n : Int)), some (.int (b : Int)), some (.ref P), none, none] ∧ Same H H' ∧ H' P = some (.lst (ivs (powsN b (k + 1)))) ∧ (k = 0 ∨ b ^ k ≤ n)
theorem W__law_figures.le {n b k : Nat} (hb : 2 ≤ b) (hn : n < 2 ^ 900) (h : k = 0 ∨ b ^ k ≤ n) : k ≤ 899 := by
  rcases h with h | h
  · omega
  · refine Nat.le_of_lt_succ (Nat.lt_of_not_le fun z => ?_)
    have h1 : (2 : Nat) ^ 900 ≤ 2 ^ k := Nat.pow_le_pow_right (by decide) z
    have h2 : (2 : Nat) ^ k ≤ b ^ k := Nat.pow_le_pow_left hb k
    omega
theorem ok__law_figures (T : Txt K mg) : FnOk P w K mg base CX0 1 T.f__law_figures T.fd__law_figures ["number", "base"] (sp__law_figures K) := by
  refine T.F__law_figures.ok sc__law_figures (fun vs H Q E h => ?_) (fun cdv A outer s H vs Q E hr h => ?_)
  · obtain ⟨_, _, rfl, _⟩ := h
    rfl
  · obtain ⟨n, b, rfl, hb, hb16, hn, q⟩ := h
    refine ⟨_, (pss_cons (ps_set (i := 2) sc__law_figures.nd rfl (Or.inl rfl) (pe_lst (pa_cons pe_int pa_nil)))
      (pss_cons (ps_while PassesOwn.never (pt_cmpR op_le (pe_op op_mul (pe_ix ix_list (pv 2) (pe_un un_neg pe_int) (fun _ _ => rfl)) (pv 1)) (pv 0) (nomark _)) (pss_one (ps_expr (pe_bm PySem.F.plainAttrs_list PySem.F.slot_list_append PySem.F.type_list_append mt_append (pv 2) (pa_cons (pe_op op_mul (pe_ix ix_list (pv 2) (pe_un un_neg pe_int) (fun _ _ => rfl)) (pv 1)) pa_nil)))))
      (pss_cons (ps_set (i := 3) sc__law_figures.nd rfl (Or.inl rfl) (pe_lst pa_nil))
      (pss_cons (ps_for PassesOwn.never rfl (pi_list (pe_revL (pv 2))) (pg_name (i := 4) sc__law_figures.nd rfl (Or.inl rfl)) (pss_cons (ps_expr (pe_bm PySem.F.plainAttrs_list PySem.F.slot_list_append PySem.F.type_list_append mt_append (pv 3) (pa_cons (pe_op op_fdivW (pv 0) (pv 4)) pa_nil)))
      (pss_one (ps_set (i := 0) sc__law_figures.nd rfl (Or.inl rfl) (pe_op op_mod (pv 0) (pv 4))))))
      (pss_one (ps_ret (pv 3))))))), ?_⟩
    refine ⟨by show 1 ≤ sizeLine; decide, fun P hP => ?_⟩
    generalize g1 : upd H P _ = H1
    obtain ⟨s1, t1⟩ := new_of g1 hP
    refine ⟨W__law_figures n b H P, ⟨n, 0, rfl, rfl, s1, t1, .inl rfl⟩, ?_⟩
    rintro m σ' H2 ⟨k, rfl, rfl, s2, t2, hk⟩
    have k9 := W__law_figures.le hb hn hk
    have pl : ivs (powsN b (k + 1)) = ivs (powsN b k) ++ [.int ((b ^ k : Nat) : Int)] := ivs_append ..
    have t2' := t2
    rw [pl] at t2'
    have bd : -(2 ^ 64) < (b : Int) ∧ (b : Int) < 2 ^ 64 := by omega
    refine ⟨_, rfl, 1, rfl, P, _, -1, _, rfl, rfl, .of t2', atI_last _ _, _, rfl, _, _, rfl, rfl, .inr bd, _, rfl, _, _, rfl, rfl, _, rfl, ?_⟩
    by_cases t : b ^ k * b ≤ n
    · have t' : ((b ^ k : Nat) : Int) * (b : Int) ≤ (n : Int) := by
        rw [← Int.natCast_mul]
        exact Int.ofNat_le.mpr t
      rw [decide_eq_true t']
      have kn := lt_pow' hb (k + 1)
      rw [Nat.pow_succ] at kn
      refine iteT ⟨Nx (W__law_figures n b H P) (n - k), Nx.id, ?_⟩
      refine ⟨_, rfl, .inl ⟨rfl, _, .of t2⟩, _, rfl, 1, rfl, P, _, -1, _, rfl, rfl, .of t2', atI_last _ _, _, rfl, _, _, rfl, rfl, .inr bd, P, _, _, rfl, rfl, t2, small1000 (by rw [ivs_length, powsN_len]; omega), ?_⟩
      refine ⟨n - (k + 1), by omega, k + 1, rfl, rfl, same_own s2 hP, ?_, .inr (by rw [Nat.pow_succ]; exact t)⟩
      rw [upd_same]
      show _ = some (HO.lst (ivs (powsN b (k + 1) ++ [b ^ (k + 1)])))
      rw [ivs_append, Nat.pow_succ]
      rfl
    · have t' : ¬ ((b ^ k : Nat) : Int) * (b : Int) ≤ (n : Int) := fun z => t (Int.ofNat_le.mp (by rw [Int.natCast_mul]; exact z))
      rw [decide_eq_false t']
      have hn1 : n < b ^ (k + 1) := by
        rw [Nat.pow_succ]
        omega
      refine iteF ?_
      refine ⟨Nat.zero_le _, fun F hF => ?_⟩
      generalize g3 : upd H2 F _ = H3
      obtain ⟨s3, t3⟩ := new_of g3 hF
      refine ⟨_, rfl, P, _, rfl, .of (s3 _ _ t2), fun R hR => ?_⟩
      rw [ivs_reverse]
      generalize g4 : upd H3 R _ = H4
      obtain ⟨s4, t4⟩ := new_of g4 hR
      have t34 := s4 _ _ t3
      have hRF : F ≠ R := ne_of_none t3 hR
      refine ⟨R, rfl, ⟨_, .of t4⟩, for_list (xs := ivs (powsN b (k + 1)).reverse) (fun i σ' H' => But F H4 H' ∧ H' F = some (.lst (ivs (fndN b n k i))) ∧ ∃ y, σ' = [some (.int ((n % b ^ (k + 1 - i) : Nat) : Int)), some (.int (b : Int)), some (.ref P), some (.ref F), y]) ⟨But.refl _ _, t34, none, ?_⟩ ?_ ?_ ?_⟩
      · rw [Nat.sub_zero, Nat.mod_eq_of_lt hn1]
        rfl
      · rintro i σ' H' hi ⟨s5, _⟩
        exact .of (s5 _ _ hRF.symm t4)
      · rintro i x σ' H5 hx ⟨s5, t5, y, rfl⟩
        obtain ⟨w, hw, rfl⟩ := ivs_get hx
        have hi : i < k + 1 := by
          have := (List.getElem?_eq_some_iff.mp hw).1
          rw [List.length_reverse, powsN_len] at this
          exact this
        rw [powsN_rev hi] at hw
        cases hw
        have ej : k + 1 - i = (k - i) + 1 := by omega
        have pw : 0 < b ^ (k - i) := Nat.pow_pos (by omega)
        have dv : ∀ x : Int, CDivW x ((b ^ (k - i) : Nat) : Int) := fun x => divN pw (by
          rcases hk with hk | hk
          · rw [hk, Nat.zero_sub, Nat.pow_zero]
            exact Nat.one_lt_two_pow (by decide)
          · exact Nat.lt_of_le_of_lt (Nat.le_trans (Nat.pow_le_pow_right (by omega) (by omega)) hk) hn)
        refine ⟨_, rfl, .inl ⟨rfl, _, .of t5⟩, _, rfl, _, rfl, _, _, rfl, rfl, dv _, F, _, _, rfl, rfl, t5, small1000 (by rw [ivs_length, fndN_len]; omega), ?_⟩
        refine ⟨_, rfl, _, rfl, _, _, rfl, rfl, by walk_at "p", s5.trans But.set, ?_, some (.int ((b ^ (k - i) : Nat) : Int)), ?_⟩
        · have ed : n / b ^ (k - i) % b = n % b ^ (k + 1 - i) / b ^ (k - i) := by rw [ej, fig_div]
          rw [upd_same, fndN_succ, ivs_append, ed]
          rfl
        · have em : n % b ^ (k + 1 - (i + 1)) = n % b ^ (k + 1 - i) % b ^ (k - i) := by rw [ej, fig_mod, show k + 1 - (i + 1) = k - i by omega]
          rw [em]
          rfl
      · rintro σ' H5 ⟨s5, t5, y, rfl⟩
        rw [ivs_length, List.length_reverse, powsN_len, fndN_all hb hn1 hk] at t5
        have sAll : Same H H5 := fun x o e => by
          have e4 := s4 _ _ (s3 _ _ (s2 _ _ e))
          exact s5 x o (ne_of_none (s2 _ _ e) hF) e4
        exact ⟨_, rfl, q _ F sAll (s2.free hF) t5⟩

/-! ### _law_power -/
def sp__law_power (K : PySem.W.Frag) : Sp := fun vs H Q _ => ∃ f p : Int, vs = [.int f, .int p] ∧ 0 ≤ p ∧ p < 2 ^ 62 ∧ -(2 ^ 64) < f ∧ f < 2 ^ 64 ∧ Q (.int (f ^ p.toNat)) H
theorem ok__law_power (T : Txt K mg) : FnOk P w K mg base CX0 1 T.f__law_power T.fd__law_power ["number", "often"] (sp__law_power K) := by
  refine T.F__law_power.ok sc__law_power (fun vs H Q E h => ?_) (fun cdv A outer s H vs Q E hr h => ?_)
  · obtain ⟨_, _, rfl, _⟩ := h
    rfl
  · obtain ⟨f, p, rfl, h0, h1, h2, h3, q⟩ := h
    refine ⟨_, (pss_cons (ps_set (i := 2) sc__law_power.nd rfl (Or.inl rfl) pe_int)
      (pss_cons (ps_for PassesOwn.never rfl (pi_range1 (by rfl) T.m_range (pa_cons (pv 1) pa_nil)) (pg_name (i := 3) sc__law_power.nd rfl (Or.inl rfl)) (pss_one (ps_set (i := 2) sc__law_power.nd rfl (Or.inl rfl) (pe_op op_mul (pv 2) (pv 0)))))
      (pss_one (ps_ret (pv 2))))), ?_⟩
    refine ⟨_, rfl, _, rfl, by omega, by omega, for_range (lo := 0) (n := p.toNat) (fun i σ' H' => H' = H ∧ ∃ y, σ' = [some (.int f), some (.int p), some (.int (f ^ i)), y]) ⟨rfl, none, by rw [Int.pow_zero]; rfl⟩ ?_ ?_⟩
    · rintro i σ' H' hi ⟨rfl, y, rfl⟩
      refine ⟨_, rfl, _, rfl, _, _, rfl, rfl, .inr ⟨h2, h3⟩, rfl, some (.int (0 + i)), ?_⟩
      rw [Int.pow_succ]
      rfl
    · rintro σ' H' ⟨rfl, y, rfl⟩
      exact ⟨_, rfl, q⟩

/-! ### _law_step -/
def sp__law_step (K : PySem.W.Frag) : Sp := fun vs H Q _ => ∃ n b p : Nat, vs = [.int (n : Int), .int (b : Int), .int (p : Int)] ∧ 2 ≤ b ∧ b ≤ 16 ∧ p ≤ 10 ∧ n < 2 ^ 900 ∧ ∀ H', Same H H' → Q (.int (stepN b p n : Nat)) H'
theorem ok__law_step (T : Txt K mg) : FnOk P w K mg base CX0 2 T.f__law_step T.fd__law_step ["number", "base", "power"] (sp__law_step K) := by
  refine T.F__law_step.ok sc__law_step (fun vs H Q E h => ?_) (fun cdv A outer s H vs Q E hr h => ?_)
  · obtain ⟨_, _, _, rfl, _⟩ := h
    rfl
  · obtain ⟨n, b, p, rfl, hb, hb16, hp, hn, q⟩ := h
    refine ⟨_, (pss_cons (ps_set (i := 3) sc__law_step.nd rfl (Or.inl rfl) pe_int)
      (pss_cons (ps_for PassesOwn.never rfl (pi_list (pe_call (ok__law_figures T) hr (by rfl) T.g__law_figures T.F__law_figures.kp T.b__law_figures .nil pass0 (pa_cons (pv 0) (pa_cons (pv 1) pa_nil)))) (pg_name (i := 4) sc__law_step.nd rfl (Or.inl rfl)) (pss_one (ps_set (i := 3) sc__law_step.nd rfl (Or.inl rfl) (pe_op op_add (pv 3) (pe_call (ok__law_power T) hr (by rfl) T.g__law_power T.F__law_power.kp T.b__law_power .nil pass0 (pa_cons (pv 4) (pa_cons (pv 2) pa_nil)))))))
      (pss_one (ps_ret (pv 3))))), ?_⟩
    refine ⟨_, rfl, _, rfl, n, b, rfl, hb, hb16, hn, fun H1 t s1 n1 e1 => ⟨t, rfl, ⟨_, .of e1⟩, ?_⟩⟩
    refine for_list (xs := ivs (figs b n)) (fun i σ' H' => H' = H1 ∧ ∃ y, σ' = [some (.int (n : Int)), some (.int (b : Int)), some (.int (p : Int)), some (.int ((((figs b n).take i).map (· ^ p)).sum : Nat)), y]) ⟨rfl, none, rfl⟩ ?_ ?_ ?_
    · rintro i σ' H' hi ⟨rfl, _⟩
      exact .of e1
    · rintro i x σ' H' hx ⟨rfl, y, rfl⟩
      obtain ⟨k, hk, rfl⟩ := ivs_get hx
      have kb := figs_below hb (List.mem_of_getElem? hk)
      refine ⟨_, rfl, _, rfl, _, rfl, (k : Int), (p : Int), rfl, by omega, by omega, by omega, by omega, _, _, rfl, rfl, rfl, some (.int (k : Int)), ?_⟩
      rw [List.take_add_one, hk, List.map_append, List.sum_append]
      show _ = [_, _, _, some (V.int (((((figs b n).take i).map (· ^ p)).sum + (k ^ p + 0) : Nat) : Int)), _]
      rw [Nat.add_zero, Int.natCast_add, Int.natCast_pow]
      rfl
    · rintro σ' H' ⟨rfl, y, rfl⟩
      rw [ivs_length, List.take_length]
      exact ⟨_, rfl, q _ s1⟩

/-! ### _law_is_whole -/
def sp__law_is_whole (K : PySem.W.Frag) : Sp := fun vs H Q _ => ∃ x y : Int, vs = [.int x, .int y] ∧ Q (.bl (decide (V.int x = V.int y))) H
theorem ok__law_is_whole (T : Txt K mg) : FnOk P w K mg base CX0 1 T.f__law_is_whole T.fd__law_is_whole ["found", "due"] (sp__law_is_whole K) := by
  refine T.F__law_is_whole.ok sc__law_is_whole (fun vs H Q E h => ?_) (fun cdv A outer s H vs Q E hr h => ?_)
  · obtain ⟨_, _, rfl, _⟩ := h
    rfl
  · obtain ⟨x, y, rfl, q⟩ := h
    refine ⟨_, (pss_one (ps_ret (pe_and (pe_callB (id := "isinstance") call_isi (by rfl) T.m_isinstance (by decide +kernel) (pa_cons (pv 0) (pa_cons (pe_bltn (v := .ty "int") (by rfl) T.m_int (by decide +kernel) rfl) pa_nil))) (pe_and (pe_not (pe_callB (id := "isinstance") call_isi (by rfl) T.m_isinstance (by decide +kernel) (pa_cons (pv 0) (pa_cons (pe_bltn (v := .ty "bool") (by rfl) T.m_bool (by decide +kernel) rfl) pa_nil)))) (pe_one (pe_cmpR op_eq (pv 0) (pv 1) (nomark _))))))), ?_⟩
    refine ⟨_, rfl, _, _, _, _, true, rfl, .ty "int", .base (.int _), kit_ty (by decide +kernel), true, rfl, iteT ?_⟩
    refine ⟨_, rfl, _, _, _, _, false, rfl, .ty "bool", .base (.int _), kit_ty (by decide +kernel), false, rfl, true, rfl, iteT ?_⟩
    exact ⟨_, rfl, _, rfl, rfl, q⟩

/-! ### _law_end -/
def sp__law_end (K : PySem.W.Frag) : Sp := fun vs H Q _ => ∃ n b p : Nat, vs = [.int (n : Int), .int (b : Int), .int (p : Int)] ∧ OkN b p ∧ n < 2 ^ 200 ∧ ∀ H' t A m, Same H H' → H t = none → H' t = some (.tup (ivs [A, m])) → EndAt b p n A m → Q (.ref t) H'
def W__law_end (n b p : Nat) (H : Hp) (R P : Addr) (m : Nat) (σ' : L2.St) (H' : Hp) : Prop := ∃ k : Nat, m = 15031 - k ∧ σ' = [some (.int ((itN b p n k : Nat) : Int)), some (.int (b : Int)), some (.int (p : Int)), some (.ref R), some (.ref P)] ∧ Same H H' ∧ H' R = some (.lst (ivs (rowN b p n (k + 1)))) ∧ H' P = some (.dK (kvsOf (fun i => ((itN b p n i : Nat) : Int)) (fun i => .int (i : Int)) (k + 1))) ∧ ∀ i j, i < k + 1 → j < k + 1 → itN b p n i = itN b p n j → i = j
theorem ok__law_end (T : Txt K mg) : FnOk P w K mg base CX0 3 T.f__law_end T.fd__law_end ["number", "base", "power"] (sp__law_end K) := by
  refine T.F__law_end.ok sc__law_end (fun vs H Q E h => ?_) (fun cdv A outer s H vs Q E hr h => ?_)
  · obtain ⟨_, _, _, rfl, _⟩ := h
    rfl
  · obtain ⟨n, b, p, rfl, ok, hn, q⟩ := h
    have nr := near_of ok hn
    refine ⟨_, (pss_cons (ps_set (i := 3) sc__law_end.nd rfl (Or.inl rfl) (pe_lst (pa_cons (pv 0) pa_nil)))
      (pss_cons (ps_set (i := 4) sc__law_end.nd rfl (Or.inl rfl) (pe_disp (pps_cons (pv 0) pe_int pps_nil) rfl rfl (by simp) (by decide)))
      (pss_one (ps_while PassesOwn.never (pt_val pe_bl) (pss_cons (ps_set (i := 0) sc__law_end.nd rfl (Or.inl rfl) (pe_call (ok__law_step T) hr (by rfl) T.g__law_step T.F__law_step.kp T.b__law_step .nil pass0 (pa_cons (pe_ix ix_list (pv 3) (pe_un un_neg pe_int) (fun _ _ => rfl)) (pa_cons (pv 1) (pa_cons (pv 2) pa_nil)))))
      (pss_cons (ps_if (pt_cmp (pc_din (hu_of hr) (pv 0) (pv 4)) rfl) (pss_one (ps_ret (pe_tup (pa_cons (pe_dget (hu_of hr) (pv 4) (pv 0) (fun _ _ => rfl)) (pa_cons (pe_callB (id := "min") (cr_min rfl) (by rfl) T.m_min (by decide +kernel) (pa_cons (pe_slice sl_list (pv 3) (po_some (pe_dget (hu_of hr) (pv 4) (pv 0) (fun _ _ => rfl))) po_none) pa_nil)) pa_nil))))) pss_nil)
      (pss_cons (ps_dput (hu_of hr) (pv 4) (pv 0) (pe_callB (id := "len") call_len_seq (by rfl) T.m_len (by decide +kernel) (pa_cons (pv 3) pa_nil)) rfl)
      (pss_one (ps_expr (pe_bm PySem.F.plainAttrs_list PySem.F.slot_list_append PySem.F.type_list_append mt_append (pv 3) (pa_cons (pv 0) pa_nil))))))))))), ?_⟩
    refine ⟨_, rfl, by show 1 ≤ sizeLine; decide, fun R hR => ?_⟩
    generalize g1 : upd H R _ = H1
    obtain ⟨s1, t1⟩ := new_of g1 hR
    refine fun P hP => ⟨_, rfl, upd_same, [((Sum.inl (n : Int) : Key), V.int 0)], rfl, by show 1 ≤ 15; decide, ?_⟩
    have P0 := s1.free hP
    have nRP : R ≠ P := ne_of_none t1 hP
    generalize g2 : upd (upd H1 P _) P _ = H2
    have s2 : Same H1 H2 := by rw [← g2]; exact same_own (Same.new hP) hP
    have t2 : H2 P = some (.dK (kvsOf (fun i => ((itN b p n i : Nat) : Int)) (fun i => .int (i : Int)) 1)) := by rw [← g2, upd_same]; rfl
    refine ⟨W__law_end n b p H R P, ⟨15031, 0, rfl, rfl, s1.trans s2, s2 _ _ t1, t2, fun i j hi hj _ => by omega⟩, ?_⟩
    rintro m σ' H3 ⟨k, rfl, rfl, s3, r3, p3, nd⟩
    have lL := nr.rep nd
    refine ⟨true, rfl, iteT ⟨Nx (W__law_end n b p H R P) (15031 - k), Nx.id, ?_⟩⟩
    have r3' : H3 R = some (.lst (ivs (rowN b p n k) ++ [.int ((itN b p n k : Nat) : Int)])) := by
      rw [r3, rowN, ivs_append]
      rfl
    refine ⟨_, rfl, 1, rfl, R, _, -1, _, rfl, rfl, .of r3', atI_last _ _, _, rfl, _, rfl, itN b p n k, b, p, rfl, ok.hb, ok.hb16, ok.hp, lt200 (itN_lt200 ok hn k), fun H4 s4 => ?_⟩
    rw [← itN_succ]
    have r4 := s4 _ _ r3
    have p4 := s4 _ _ p3
    have nRP4 : R ≠ P := nRP
    by_cases c : ∃ i, i < k + 1 ∧ itN b p n i = itN b p n (k + 1)
    · obtain ⟨A, hA, e⟩ := c
      have v : valV (kvsOf (fun i => ((itN b p n i : Nat) : Int)) (fun i => V.int (i : Int)) (k + 1)) (Sum.inl ((itN b p n (k + 1) : Nat) : Int) : Key) = some (.int (A : Int)) := by
        rw [← e]
        exact kvsOf_some (f := fun i => ((itN b p n i : Nat) : Int)) (g := fun i => V.int (i : Int)) (fun i j hi hj z => nd i j hi hj (Int.ofNat.inj z)) hA
      have wy : Way b p n A (k + 1) := ⟨hA, e.symm, nd⟩
      refine ⟨_, rfl, _, rfl, P, some (.int (A : Int)), rfl, dget (k := Sum.inl _) p4 v, true, rfl, iteT ?_⟩
      refine ⟨_, rfl, _, rfl, P, _, rfl, dget (k := Sum.inl _) p4 v, ?_⟩
      refine ⟨_, rfl, _, rfl, _, rfl, P, _, rfl, dget (k := Sum.inl _) p4 v, _, rfl, R, _, rfl, .of r4, fun D hD => ?_⟩
      rw [cut_ivs_from]
      generalize g5 : upd H4 D _ = H5
      obtain ⟨s5, t5⟩ := new_of g5 hD
      rw [rowN_drop, ivs_map] at t5
      refine ⟨D, _, rfl, .of t5, by rw [List.length_map, rowN_len]; omega, fun m h1 h2 => ?_⟩
      obtain ⟨x, hx, rfl⟩ := List.mem_map.mp h1
      obtain ⟨i, hi, rfl⟩ := mem_rowN.mp hx
      refine ⟨by show 2 ≤ sizeLine; decide, fun T hT => ?_⟩
      have s35 := s3.trans (s4.trans s5)
      refine q _ T A _ (s35.trans (Same.new hT)) (s35.free hT) upd_same (wy.end_of ⟨A + i, by omega, by omega, itN_add ..⟩ fun j j1 j2 => ?_)
      have := h2 ((itN b p n j : Nat) : Int) (List.mem_map.mpr ⟨_, mem_rowN.mpr ⟨j - A, by omega, rfl⟩, by rw [← itN_add, show A + (j - A) = j by omega]⟩)
      omega
    · have v : valV (kvsOf (fun i => ((itN b p n i : Nat) : Int)) (fun i => V.int (i : Int)) (k + 1)) (Sum.inl ((itN b p n (k + 1) : Nat) : Int) : Key) = none := kvsOf_none fun i hi z => c ⟨i, hi, Int.ofNat.inj z⟩
      refine ⟨_, rfl, _, rfl, P, none, rfl, dget (k := Sum.inl _) p4 v, false, rfl, iteF ?_⟩
      refine ⟨_, rfl, R, _, rfl, .inl (.of r4), ?_⟩
      rw [ivs_length, rowN_len]
      refine ⟨_, rfl, _, rfl, P, _, rfl, .k (k := Sum.inl _) p4 (small_len (by rw [kvsOf_len]; omega)), ?_⟩
      have z := kvsOf_put (f := fun i => ((itN b p n i : Nat) : Int)) (g := fun i => V.int (i : Int)) (L := k + 1) fun i hi z => c ⟨i, hi, Int.ofNat.inj z⟩
      rw [z]
      generalize g5 : upd H4 P _ = H5
      obtain ⟨b5, t5⟩ := set_of g5
      have s35 : Same H H5 := by rw [← g5]; exact same_own (s3.trans s4) P0
      have r5 := b5 _ _ nRP r4
      refine ⟨_, rfl, .inl ⟨rfl, _, .of r5⟩, _, rfl, R, _, _, rfl, rfl, r5, small_len (by rw [ivs_length, rowN_len]; omega), ?_⟩
      refine ⟨15031 - (k + 1), by omega, k + 1, rfl, rfl, same_own s35 hR, ?_, ?_, fun i j hi hj ez => ?_⟩
      · rw [upd_same]
        show _ = some (HO.lst (ivs (rowN b p n (k + 1) ++ [itN b p n (k + 1)])))
        rw [ivs_append]
        rfl
      · rw [upd_ne nRP.symm]
        exact t5
      by_cases ci : i = k + 1
      · by_cases cj : j = k + 1
        · omega
        · subst ci
          exact absurd ⟨j, by omega, ez.symm⟩ c
      · by_cases cj : j = k + 1
        · subst cj
          exact absurd ⟨i, by omega, ez⟩ c
        · exact nd i j (by omega) (by omega) ez

/-! ### _law_of -/
def sp__law_of (K : PySem.W.Frag) : Sp := fun vs H Q _ => ∃ (a : Addr) (b : Nat) (ds : List Nat), vs = [.ref a, .int (b : Int)] ∧ b ≤ 16 ∧ (SqL K H a (ivs ds) ∨ SqT K H a (ivs ds)) ∧ Q (.int (val b ds : Nat)) H
theorem ok__law_of (T : Txt K mg) : FnOk P w K mg base CX0 1 T.f__law_of T.fd__law_of ["figures", "base"] (sp__law_of K) := by
  refine T.F__law_of.ok sc__law_of (fun vs H Q E h => ?_) (fun cdv A outer s H vs Q E hr h => ?_)
  · obtain ⟨_, _, _, rfl, _⟩ := h
    rfl
  · obtain ⟨a, b, ds, rfl, hb16, hs, q⟩ := h
    have turn : ∀ (i d : Nat), ds[i]? = some d → ((val b (ds.take i) : Nat) : Int) * (b : Int) + (d : Int) = ((val b (ds.take (i + 1)) : Nat) : Int) := fun i d h => by
      rw [val_take h, Int.natCast_add, Int.natCast_mul]
    refine ⟨_, (pss_cons (ps_set (i := 2) sc__law_of.nd rfl (Or.inl rfl) pe_int)
      (pss_cons (ps_for PassesOwn.never rfl (pi_or (pi_list (pv 0)) (pi_tup (pv 0))) (pg_name (i := 3) sc__law_of.nd rfl (Or.inl rfl)) (pss_one (ps_set (i := 2) sc__law_of.nd rfl (Or.inl rfl) (pe_op op_add (pe_op op_mul (pv 2) (pv 1)) (pv 3)))))
      (pss_one (ps_ret (pv 2))))), ?_⟩
    rcases hs with hs | hs
    · refine .inl ⟨_, rfl, a, rfl, ⟨_, hs⟩, for_list (xs := ivs ds) (fun i σ' H' => H' = H ∧ ∃ y, σ' = [some (.ref a), some (.int (b : Int)), some (.int (val b (ds.take i) : Nat)), y]) ⟨rfl, none, rfl⟩ ?_ ?_ ?_⟩
      · rintro i σ' H' hi ⟨rfl, _⟩
        exact hs
      · rintro i x σ' H' hx ⟨rfl, y, rfl⟩
        obtain ⟨d, hd, rfl⟩ := ivs_get hx
        refine ⟨_, rfl, _, rfl, _, _, rfl, rfl, .inr (by omega), _, rfl, _, _, rfl, rfl, rfl, some (.int (d : Int)), ?_⟩
        rw [← turn i d hd]
        rfl
      · rintro σ' H' ⟨rfl, y, rfl⟩
        rw [ivs_length, List.take_length]
        exact ⟨_, rfl, q⟩
    · refine .inr ⟨_, rfl, a, rfl, ⟨_, hs⟩, for_tup (xs := ivs ds) (fun i σ' H' => H' = H ∧ ∃ y, σ' = [some (.ref a), some (.int (b : Int)), some (.int (val b (ds.take i) : Nat)), y]) ⟨rfl, none, rfl⟩ ?_ ?_ ?_⟩
      · rintro i σ' H' hi ⟨rfl, _⟩
        exact hs
      · rintro i x σ' H' hx ⟨rfl, y, rfl⟩
        obtain ⟨d, hd, rfl⟩ := ivs_get hx
        refine ⟨_, rfl, _, rfl, _, _, rfl, rfl, .inr (by omega), _, rfl, _, _, rfl, rfl, rfl, some (.int (d : Int)), ?_⟩
        rw [← turn i d hd]
        rfl
      · rintro σ' H' ⟨rfl, y, rfl⟩
        rw [ivs_length, List.take_length]
        exact ⟨_, rfl, q⟩

/-! ### KeptNumber__number_now -/
def sp_KeptNumber__number_now (C : Addr) : Sp := fun vs H Q _ => ∃ (p w l : Addr) (b pw : Nat) (fs : List Nat), vs = [.ref p] ∧ KeptAt C H p w l b pw fs ∧ Q (.int (val b fs : Nat)) H
theorem ok_KeptNumber__number_now (T : Txt K mg) : FnOk P w K mg base CX0 1 T.f_KeptNumber__number_now T.fd_KeptNumber__number_now ["self"] (sp_KeptNumber__number_now T.k_KeptNumber) := by
  refine T.F_KeptNumber__number_now.ok sc_KeptNumber__number_now (fun vs H Q E h => ?_) (fun cdv A outer s H vs Q E hr h => ?_)
  · obtain ⟨_, _, _, _, _, _, rfl, _⟩ := h
    rfl
  · obtain ⟨p, w, l, b, pw, fs, rfl, hK, q⟩ := h
    have hb16 := hK.ok.hb16
    obtain ⟨dx, e⟩ := hK.ins
    have turn : ∀ (i d : Nat), fs[i]? = some d → ((val b (fs.take i) : Nat) : Int) * (b : Int) + (d : Int) = ((val b (fs.take (i + 1)) : Nat) : Int) := fun i d h => by
      rw [val_take h, Int.natCast_add, Int.natCast_mul]
    refine ⟨_, (pss_cons (ps_set (i := 1) sc_KeptNumber__number_now.nd rfl (Or.inl rfl) pe_int)
      (pss_cons (ps_for PassesOwn.never rfl (pi_list (pe_fld (pv 0) rfl)) (pg_name (i := 2) sc_KeptNumber__number_now.nd rfl (Or.inl rfl)) (pss_one (ps_set (i := 1) sc_KeptNumber__number_now.nd rfl (Or.inl rfl) (pe_op op_add (pe_op op_mul (pv 1) (pe_fld (pv 0) rfl)) (pv 2)))))
      (pss_one (ps_ret (pv 1))))), ?_⟩
    refine ⟨_, rfl, p, _, dx, _, _, rfl, e, T.cl_KeptNumber, T.na_KeptNumber_figures, kf_figures _ _ _ _, l, rfl, ⟨_, .of hK.fg⟩, for_list (xs := ivs fs) (fun i σ' H' => H' = H ∧ ∃ y, σ' = [some (.ref p), some (.int (val b (fs.take i) : Nat)), y]) ⟨rfl, none, rfl⟩ ?_ ?_ ?_⟩
    · rintro i σ' H' hi ⟨rfl, _⟩
      exact .of hK.fg
    · rintro i x σ' H' hx ⟨rfl, y, rfl⟩
      obtain ⟨d, hd, rfl⟩ := ivs_get hx
      refine ⟨_, rfl, _, rfl, p, _, dx, _, _, rfl, e, T.cl_KeptNumber, T.na_KeptNumber_base, kf_base _ _ _ _, _, _, rfl, rfl, .inr (by omega), _, rfl, _, _, rfl, rfl, rfl, some (.int (d : Int)), ?_⟩
      rw [← turn i d hd]
      rfl
    · rintro σ' H' ⟨rfl, y, rfl⟩
      rw [ivs_length, List.take_length]
      exact ⟨_, rfl, q⟩

/-! ### KeptNumber__end_now -/
def sp_KeptNumber__end_now (C : Addr) : Sp := fun vs H Q _ => ∃ (p w l : Addr) (b pw : Nat) (fs : List Nat), vs = [.ref p] ∧ KeptAt C H p w l b pw fs ∧ ∀ H' t A m, Same H H' → H t = none → H' t = some (.tup (ivs [A, m])) → EndAt b pw (val b fs) A m → Q (.ref t) H'
theorem ok_KeptNumber__end_now (T : Txt K mg) : FnOk P w K mg base CX0 5 T.f_KeptNumber__end_now T.fd_KeptNumber__end_now ["self"] (sp_KeptNumber__end_now T.k_KeptNumber) := by
  refine T.F_KeptNumber__end_now.ok sc_KeptNumber__end_now (fun vs H Q E h => ?_) (fun cdv A outer s H vs Q E hr h => ?_)
  · obtain ⟨_, _, _, _, _, _, rfl, _⟩ := h
    rfl
  · obtain ⟨p, w, l, b, pw, fs, rfl, hK, q⟩ := h
    obtain ⟨dx, e⟩ := hK.ins
    refine ⟨_, (pss_one (ps_ret (pe_call (ok_end_of T) hr (by rfl) T.g_end_of T.F_end_of.kp T.b_end_of .nil pass0 (pa_cons (pe_meth0 (pv 0) T.cl_KeptNumber T.me_KeptNumber__number_now (ok_KeptNumber__number_now T) (hr.mono (by decide)) T.b_KeptNumber__number_now .nil pass0) (pa_cons (pe_fld (pv 0) rfl) (pa_cons (pe_fld (pv 0) rfl) pa_nil)))))), ?_⟩
    refine ⟨_, rfl, p, dx, _, rfl, e, kf_no _ _ _ _ (by decide +kernel) (by decide +kernel) (by decide +kernel) (by decide +kernel), p, w, l, b, pw, fs, rfl, hK, ?_⟩
    refine ⟨_, rfl, p, _, dx, _, _, rfl, e, T.cl_KeptNumber, T.na_KeptNumber_base, kf_base _ _ _ _, _, rfl, p, _, dx, _, _, rfl, e, T.cl_KeptNumber, T.na_KeptNumber_power, kf_power _ _ _ _, ?_⟩
    exact ⟨_, b, pw, rfl, hK.ok, hK.good.val200 hK.ok.hb hK.ok.hb16, fun H' t A m s n e1 e2 => q H' t A m s n e1 e2⟩

/-! ### KeptNumber__step_now -/
def sp_KeptNumber__step_now (C : Addr) : Sp := fun vs H Q _ => ∃ (p w l : Addr) (b pw : Nat) (fs : List Nat), vs = [.ref p] ∧ KeptAt C H p w l b pw fs ∧ ∀ H', Same H H' → Q (.int ((fs.map (· ^ pw)).sum : Nat)) H'
theorem ok_KeptNumber__step_now (T : Txt K mg) : FnOk P w K mg base CX0 1 T.f_KeptNumber__step_now T.fd_KeptNumber__step_now ["self"] (sp_KeptNumber__step_now T.k_KeptNumber) := by
  refine T.F_KeptNumber__step_now.ok sc_KeptNumber__step_now (fun vs H Q E h => ?_) (fun cdv A outer s H vs Q E hr h => ?_)
  · obtain ⟨_, _, _, _, _, _, rfl, _⟩ := h
    rfl
  · obtain ⟨p, w, l, b, pw, fs, rfl, hK, q⟩ := h
    have fl := hK.good.len
    obtain ⟨dx, e⟩ := hK.ins
    refine ⟨_, (pss_one (ps_ret (pe_callB (id := "sum") (cr_sum rfl) (by rfl) T.m_sum (by decide +kernel) (pa_cons (pe_lc (own := [("figure", 1)]) (g := (gName 1)) (tt := tYes) rfl sc_KeptNumber__step_now.nd (pi_list (pe_fld (pv 0) rfl)) (blkOk_by (own := [("figure", 1)]) (N := ["self", "figure"]) (sc := defScope s_KeptNumber__step_now) (by decide +kernel)) (fun _ _ _ _ _ => (pg_name (i := 1) sc_KeptNumber__step_now.nd rfl (Or.inl rfl))) (fun _ _ _ _ _ => pts_nil) (fun _ _ _ _ _ => (pe_ix (show IxR _ (rIxL K) from ix_list) (show PE _ _ (tFld K _ "worths") from pe_fld (pv 0) rfl) (pv 1) (fun _ _ => rfl)))) pa_nil)))), ?_⟩
    refine ⟨_, rfl, p, _, dx, _, _, rfl, e, T.cl_KeptNumber, T.na_KeptNumber_figures, kf_figures _ _ _ _, l, rfl, ⟨_, .of hK.fg⟩, fun D hD => ?_⟩
    refine lc_list (xs := ivs fs) (fun i H' => Same H H' ∧ H' D = some (.lst (ivs ((fs.take i).map (· ^ pw))))) ⟨Same.new hD, upd_same⟩ ?_ ?_ ?_
    · rintro i H' hi ⟨s2, e2⟩
      exact .of (s2 _ _ hK.fg)
    · rintro i x H' hx ⟨s2, e2⟩
      obtain ⟨k, hk, rfl⟩ := ivs_get hx
      have kb := hK.good.lt k (List.mem_of_getElem? hk)
      have hi : i < fs.length := (List.getElem?_eq_some_iff.mp hk).1
      refine ⟨rfl, _, rfl, p, _, dx, _, _, rfl, s2 _ _ e, T.cl_KeptNumber, T.na_KeptNumber_worths, kf_worths _ _ _ _, _, rfl, w, _, _, _, rfl, rfl, .of (s2 _ _ hK.ws), atI_nat (ivs_at (wts_get kb)), ?_⟩
      refine ⟨_, e2, small_len ?_, same_own s2 hD, ?_⟩
      · rw [ivs_length, List.length_map, List.length_take]
        omega
      · rw [upd_same, List.take_add_one, hk, List.map_append, ivs_append]
        rfl
    · rintro H' ⟨s2, e2⟩
      rw [ivs_length, List.take_length, ivs_map] at e2
      refine ⟨D, _, rfl, .of e2, ?_⟩
      rw [sum_cast]
      exact q H' s2

/-! ### _law_as_due -/
def sp__law_as_due (K : PySem.W.Frag) (C : Addr) : Sp := fun vs H Q _ => ∃ (d c p w l a : Addr) (n b pw : Nat) (fs : List Nat), vs = [.ref d, .ref p, .ref a, .int (b : Int), .int (pw : Int)] ∧ Deck H d c n ∧ n < 2 ^ 39 ∧ KeptAt C H p w l b pw fs ∧ H a = some (.lst (ivs fs)) ∧
  ∀ H', But d H H' → Deck H' d c (n + 1) → Q (.bl true) H'
def W__law_as_due (H2 : Hp) (d p a : Addr) (b pw : Nat) (r : Int) (σ' : L2.St) (H' : Hp) : Prop := Same H2 H' ∧ ∃ y6 y7 y9 y10 y11, σ' = [some (.ref d), some (.ref p), some (.ref a), some (.int (b : Int)), some (.int (pw : Int)), some (.int r), y6, y7, none, y9, y10, y11]
theorem ok__law_as_due (T : Txt K mg) : FnOk P w K mg base CX0 6 T.f__law_as_due T.fd__law_as_due ["deck", "kept", "figures", "base", "power"] (sp__law_as_due K T.k_KeptNumber) := by
  refine T.F__law_as_due.ok sc__law_as_due (fun vs H Q E h => ?_) (fun cdv A outer s H vs Q E hr h => ?_)
  · obtain ⟨_, _, _, _, _, _, _, _, _, _, rfl, _⟩ := h
    rfl
  · obtain ⟨d, c, p, w, l, a, n, b, pw, fs, rfl, hD, hn, hK, ea, q⟩ := h
    have nad := hD.notInts ea
    have ok := hK.ok
    have hb16 := ok.hb16
    have v200 := hK.good.val200 ok.hb hb16
    refine ⟨_, (pss_cons (ps_set (i := 5) sc__law_as_due.nd rfl (Or.inl rfl) (pe_call (ok__law_next T) (hr.mono (by decide)) (by rfl) T.g__law_next T.F__law_next.kp T.b__law_next .nil pass0 (pa_cons (pv 0) (pa_cons pe_int pa_nil))))
      (pss_cons (ps_for PassesOwn.never rfl (pi_list (pe_lst (pa_cons (pv 5) (pa_cons (pe_op op_mod (pe_op op_add (pv 5) pe_int) pe_int) (pa_cons (pe_op op_mod (pe_op op_add (pv 5) pe_int) pe_int) pa_nil))))) (pg_name (i := 6) sc__law_as_due.nd rfl (Or.inl rfl)) (C8.pss_cut (ps_if (PW.pt (pw_and (pt_cmpR op_eq (pv 6) pe_int (nomark _)) (pw_and1 (pt_not (pt_val (pe_call (ok__law_is_whole T) (hr.mono (by decide)) (by rfl) T.g__law_is_whole T.F__law_is_whole.kp T.b__law_is_whole .nil pass0 (pa_cons (pe_meth0 (pv 1) T.cl_KeptNumber T.me_KeptNumber__number_now (ok_KeptNumber__number_now T) (hr.mono (by decide)) T.b_KeptNumber__number_now .nil pass0) (pa_cons (pe_call (ok__law_of T) (hr.mono (by decide)) (by rfl) T.g__law_of T.F__law_of.kp T.b__law_of .nil pass0 (pa_cons (pv 2) (pa_cons (pv 3) pa_nil))) pa_nil)))))))) (pss_one (ps_ret pe_bl)) pss_nil)
      (C8.pss_cut (ps_if (pt_cmpR op_eq (pv 6) pe_int (nomark _)) (pss_cons (ps_set (i := 7) sc__law_as_due.nd rfl (Or.inl rfl) (pe_callB (id := "sum") (cr_sum rfl) (by rfl) T.m_sum (by decide +kernel) (pa_cons (pe_lc (own := [("figure", 8)]) (g := (gName 8)) (tt := tYes) rfl sc__law_as_due.nd (pi_list (pv 2)) (blkOk_by (own := [("figure", 8)]) (N := ["deck", "kept", "figures", "base", "power", "begin", "way", "step", "figure", "steps", "least", "found"]) (sc := defScope s__law_as_due) (by decide +kernel)) (fun _ _ _ _ _ => (pg_name (i := 8) sc__law_as_due.nd rfl (Or.inl rfl))) (fun _ _ _ _ _ => pts_nil) (fun _ _ _ _ _ => (pe_call (ok__law_power T) (hr.mono (by decide)) (by rfl) T.g__law_power T.F__law_power.kp T.b__law_power .nil pass0 (pa_cons (pv 8) (pa_cons (pv 4) pa_nil))))) pa_nil)))
      (pss_one (ps_if (pt_not (pt_val (pe_call (ok__law_is_whole T) (hr.mono (by decide)) (by rfl) T.g__law_is_whole T.F__law_is_whole.kp T.b__law_is_whole .nil pass0 (pa_cons (pe_meth0 (pv 1) T.cl_KeptNumber T.me_KeptNumber__step_now (ok_KeptNumber__step_now T) (hr.mono (by decide)) T.b_KeptNumber__step_now .nil pass0) (pa_cons (pv 7) pa_nil))))) (pss_one (ps_ret pe_bl)) pss_nil))) pss_nil)
      (pss_one (ps_if (pt_cmpR op_eq (pv 6) pe_int (nomark _)) (pss_cons (ps_asg (pe_call (ok__law_end T) (hr.mono (by decide)) (by rfl) T.g__law_end T.F__law_end.kp T.b__law_end .nil pass0 (pa_cons (pe_call (ok__law_of T) (hr.mono (by decide)) (by rfl) T.g__law_of T.F__law_of.kp T.b__law_of .nil pass0 (pa_cons (pv 2) (pa_cons (pv 3) pa_nil))) (pa_cons (pv 3) (pa_cons (pv 4) pa_nil)))) (pg_tup rfl (pgs_cons (pg_name (i := 9) sc__law_as_due.nd rfl (Or.inl rfl)) (pgs_cons (pg_name (i := 10) sc__law_as_due.nd rfl (Or.inl rfl)) pgs_nil))))
      (pss_cons (ps_set (i := 11) sc__law_as_due.nd rfl (Or.inl rfl) (pe_meth0 (pv 1) T.cl_KeptNumber T.me_KeptNumber__end_now (ok_KeptNumber__end_now T) hr T.b_KeptNumber__end_now .nil pass0))
      (pss_cons (ps_if (PW.pt (pw_or (pt_not (pt_val (pe_callB (id := "isinstance") call_isi (by rfl) T.m_isinstance (by decide +kernel) (pa_cons (pv 11) (pa_cons (pe_bltn (v := .ty "tuple") (by rfl) T.m_tuple (by decide +kernel) rfl) pa_nil))))) (pw_or1 (pt_cmpR op_ne (pe_callB (id := "len") call_len_seq (by rfl) T.m_len (by decide +kernel) (pa_cons (pv 11) pa_nil)) pe_int (nomark _))))) (pss_one (ps_ret pe_bl)) pss_nil)
      (pss_one (ps_if (PW.pt (pw_or (pt_not (pt_val (pe_call (ok__law_is_whole T) (hr.mono (by decide)) (by rfl) T.g__law_is_whole T.F__law_is_whole.kp T.b__law_is_whole .nil pass0 (pa_cons (pe_ix ix_tup (pv 11) pe_int (fun _ _ => rfl)) (pa_cons (pv 9) pa_nil))))) (pw_or1 (pt_not (pt_val (pe_call (ok__law_is_whole T) (hr.mono (by decide)) (by rfl) T.g__law_is_whole T.F__law_is_whole.kp T.b__law_is_whole .nil pass0 (pa_cons (pe_ix ix_tup (pv 11) pe_int (fun _ _ => rfl)) (pa_cons (pv 10) pa_nil)))))))) (pss_one (ps_ret pe_bl)) pss_nil))))) pss_nil)))))
      (pss_one (ps_ret pe_bl)))), ?_⟩
    refine ⟨_, rfl, d, 3, c, n, rfl, hD, by omega, by decide, by decide, fun H1 r b1 D1 r0 r1 => ?_⟩
    have K1 := hK.but hD b1
    have a1 := b1 _ _ nad ea
    refine ⟨_, rfl, _, rfl, _, _, rfl, rfl, _, _, rfl, rfl, by show (0 : Int) < 3; decide, _, rfl, _, _, rfl, rfl, _, _, rfl, rfl, by show (0 : Int) < 3; decide, by show 3 ≤ sizeLine; decide, fun z hz => ?_⟩
    generalize g2 : upd H1 z _ = H2
    obtain ⟨s2, t2⟩ := new_of g2 hz
    have no1 : ∀ {m : Str} {x y : Addr}, ¬ m = "base" → ¬ m = "power" → ¬ m = "worths" → ¬ m = "figures" → (kf (b : Int) (pw : Int) x y).lookup m = none := fun h1 h2 h3 h4 => kf_no _ _ _ _ h1 h2 h3 h4
    refine ⟨z, rfl, ⟨_, .of t2⟩, for_list (xs := [V.int r, .int ((r + 1) % 3), .int ((r + 2) % 3)]) (fun i σ' H' => W__law_as_due H2 d p a b pw r σ' H') ⟨fun _ _ e => e, _, _, _, _, _, rfl⟩ ?_ ?_ ?_⟩
    · rintro i σ' H' hi ⟨s3, _⟩
      exact .of (s3 _ _ t2)
    · rintro i x σ' H3 hx ⟨s3, y6, y7, y9, y10, y11, rfl⟩
      obtain ⟨u, rfl⟩ : ∃ u : Int, x = .int u := by
        have := List.mem_of_getElem? hx
        simp only [List.mem_cons, List.not_mem_nil, or_false] at this
        rcases this with rfl | rfl | rfl <;> exact ⟨_, rfl⟩
      have K3 := (K1.same s2).same s3
      have a3 := s3 _ _ (s2 _ _ a1)
      obtain ⟨dx, e3⟩ := K3.ins
      -- the number
      refine ⟨fun σ' H' => Same H2 H' ∧ ∃ y7 y9 y10 y11, σ' = [some (.ref d), some (.ref p), some (.ref a), some (.int (b : Int)), some (.int (pw : Int)), some (.int r), some (.int u), y7, none, y9, y10, y11], ?_, ?_⟩
      · refine ⟨_, rfl, rfl, _, rfl, ?_⟩
        by_cases c0 : u = 0
        · subst c0
          refine iteT ?_
          refine ⟨_, rfl, p, dx, _, rfl, e3, no1 (by decide +kernel) (by decide +kernel) (by decide +kernel) (by decide +kernel), p, w, l, b, pw, fs, rfl, K3, ?_⟩
          refine ⟨_, rfl, _, rfl, a, b, fs, rfl, hb16, .inl (.of a3), ?_⟩
          refine ⟨_, _, rfl, true, congrArg V.bl (decide_eq_true rfl), ?_⟩
          exact iteF ⟨s3, _, _, _, _, rfl⟩
        · rw [decide_eq_false (show ¬ (V.int u = V.int 0) from fun z => c0 (by injection z))]
          exact iteF (iteF ⟨s3, _, _, _, _, rfl⟩)
      rintro σ' H4 ⟨s4, y7, y9, y10, y11, rfl⟩
      have K4 := (K1.same s2).same s4
      have a4 := s4 _ _ (s2 _ _ a1)
      obtain ⟨dx, e4⟩ := K4.ins
      -- the step
      refine ⟨fun σ' H' => Same H2 H' ∧ ∃ y7 y9 y10 y11, σ' = [some (.ref d), some (.ref p), some (.ref a), some (.int (b : Int)), some (.int (pw : Int)), some (.int r), some (.int u), y7, none, y9, y10, y11], ?_, ?_⟩
      · refine ⟨_, rfl, rfl, _, rfl, ?_⟩
        by_cases c0 : u = 1
        · subst c0
          refine iteT ?_
          refine ⟨_, rfl, a, rfl, ⟨_, .of a4⟩, fun D hD4 => ?_⟩
          refine lc_list (xs := ivs fs) (fun i H' => Same H4 H' ∧ H' D = some (.lst (ivs ((fs.take i).map (· ^ pw))))) ⟨Same.new hD4, upd_same⟩ ?_ ?_ ?_
          · rintro i H' hi ⟨s5, e5⟩
            exact .of (s5 _ _ a4)
          · rintro i x H' hx ⟨s5, e5⟩
            obtain ⟨k, hk, rfl⟩ := ivs_get hx
            have kb := K4.good.lt k (List.mem_of_getElem? hk)
            have hi : i < fs.length := (List.getElem?_eq_some_iff.mp hk).1
            have h40 := K4.good.len
            have hp10 := ok.hp
            refine ⟨rfl, _, rfl, _, rfl, (k : Int), (pw : Int), rfl, by omega, by omega, by omega, by omega, ?_⟩
            refine ⟨_, e5, small_len (by rw [ivs_length, List.length_map, List.length_take]; omega), same_own s5 hD4, ?_⟩
            rw [upd_same, List.take_add_one, hk, List.map_append, ivs_append]
            show some (HO.lst (_ ++ [V.int ((k : Int) ^ pw)])) = some (HO.lst (_ ++ [V.int ((k ^ pw : Nat) : Int)]))
            rw [Int.natCast_pow]
          · rintro H5 ⟨s5, e5⟩
            rw [ivs_length, List.take_length, ivs_map] at e5
            refine ⟨D, _, rfl, .of e5, ?_⟩
            rw [sum_cast]
            have K5 := K4.same s5
            obtain ⟨dx5, e5'⟩ := K5.ins
            refine ⟨_, rfl, p, dx5, _, rfl, e5', no1 (by decide +kernel) (by decide +kernel) (by decide +kernel) (by decide +kernel), p, w, l, b, pw, fs, rfl, K5, fun H6 s6 => ?_⟩
            refine ⟨_, rfl, _, _, rfl, true, congrArg V.bl (decide_eq_true rfl), ?_⟩
            exact iteF ⟨s4.trans (s5.trans s6), _, _, _, _, rfl⟩
        · rw [decide_eq_false (show ¬ (V.int u = V.int 1) from fun z => c0 (by injection z))]
          exact iteF ⟨s4, _, _, _, _, rfl⟩
      rintro σ' H5 ⟨s5, y7, y9, y10, y11, rfl⟩
      have K5 := (K1.same s2).same s5
      have a5 := s5 _ _ (s2 _ _ a1)
      obtain ⟨dx, e5⟩ := K5.ins
      -- the end
      refine ⟨_, rfl, rfl, _, rfl, ?_⟩
      by_cases c0 : u = 2
      · subst c0
        refine iteT ?_
        refine ⟨_, rfl, _, rfl, a, b, fs, rfl, hb16, .inl (.of a5), _, rfl, _, rfl, val b fs, b, pw, rfl, ok, v200, fun H6 t A m s6 nt et en => ?_⟩
        refine ⟨t, _, rfl, .of et, rfl, _, _, rfl, _, _, rfl, rfl, ?_⟩
        have K6 := K5.same s6
        obtain ⟨dx6, e6⟩ := K6.ins
        refine ⟨_, rfl, p, dx6, _, rfl, e6, no1 (by decide +kernel) (by decide +kernel) (by decide +kernel) (by decide +kernel), p, w, l, b, pw, fs, rfl, K6, fun H7 t7 A7 m7 s7 nt7 et7 en7 => ?_⟩
        obtain ⟨rfl, rfl⟩ := en7.uniq en
        refine ⟨_, rfl, _, _, _, _, true, rfl, .ty "tuple", .base (.tup et7), kit_ty (by decide +kernel), true, rfl, iteF ?_⟩
        refine ⟨_, rfl, t7, _, rfl, .inr (.of et7), rfl, false, by rw [decide_eq_true (show V.int (((ivs [A7, m7]).length : Nat) : Int) = V.int 2 from rfl)]; rfl, iteF ?_⟩
        refine ⟨_, rfl, t7, _, 0, _, rfl, rfl, .of et7, atI_nat (j := 0) rfl, _, rfl, _, _, rfl, true, congrArg V.bl (decide_eq_true rfl), iteF ?_⟩
        refine ⟨_, rfl, t7, _, 1, _, rfl, rfl, .of et7, atI_nat (j := 1) rfl, _, rfl, _, _, rfl, true, congrArg V.bl (decide_eq_true rfl), ?_⟩
        exact iteF ⟨s5.trans (s6.trans s7), _, _, _, _, _, rfl⟩
      · rw [decide_eq_false (show ¬ (V.int u = V.int 2) from fun z => c0 (by injection z))]
        exact iteF ⟨s5, _, _, _, _, _, rfl⟩
    · rintro σ' H' ⟨s3, y6, y7, y9, y10, y11, rfl⟩
      have s13 := s2.trans s3
      exact q H' (b1.trans (.of s13)) (D1.same s13)

/-! ### _law_kind -/
/-- what a kept refusal of the classes at C, made of a text, is called -/
structure Kind31 {K : PySem.W.Frag} {mg : Str → Option Value} (T : Txt K mg) (C : Addr) (word : Str) (bs : List Bool) : Prop where
  ins : XIns K C
  exc : ExcC K C
  ask : PySem.W.subIn K (.ref C) (.ref T.k_NoAsk) = some (bs.getD 0 false)
  fig : PySem.W.subIn K (.ref C) (.ref T.k_NoFigure) = some (bs.getD 1 false)
  num : PySem.W.subIn K (.ref C) (.ref T.k_NoNumber) = some false
  plc : PySem.W.subIn K (.ref C) (.ref T.k_NoPlace) = some (bs.getD 2 false)
  rnd : PySem.W.subIn K (.ref C) (.ref T.k_NoRound) = some (bs.getD 3 false)
  err : PySem.W.subIn K (.ref C) (.ref T.k_FigureError) = some true
theorem kind_fig {K : PySem.W.Frag} {mg : Str → Option Value} (T : Txt K mg) : Kind31 T T.k_NoFigure "figure" [false, true, false, false] := ⟨T.I_NoFigure, T.I_NoFigure.exc T.x_NoFigure, T.s_NoFigure_NoAsk, T.s_NoFigure_NoFigure, T.s_NoFigure_NoNumber, T.s_NoFigure_NoPlace, T.s_NoFigure_NoRound, T.s_NoFigure_FigureError⟩
theorem kind_plc {K : PySem.W.Frag} {mg : Str → Option Value} (T : Txt K mg) : Kind31 T T.k_NoPlace "place" [false, false, true, false] := ⟨T.I_NoPlace, T.I_NoPlace.exc T.x_NoPlace, T.s_NoPlace_NoAsk, T.s_NoPlace_NoFigure, T.s_NoPlace_NoNumber, T.s_NoPlace_NoPlace, T.s_NoPlace_NoRound, T.s_NoPlace_FigureError⟩
def sp__law_kind {K : PySem.W.Frag} {mg : Str → Option Value} (T : Txt K mg) : Sp := fun vs H Q _ => ∃ (a : Addr) (fig : Bool), vs = [.ref a] ∧ KX H a (if fig then T.k_NoFigure else T.k_NoPlace) none ∧
  ∀ q H', Same H H' → H' q = some (.tup [.str (if fig then "figure" else "place")]) → Q (.ref q) H'
theorem kd_none (H : Hp) : KD H none := fun x z => nomatch z
theorem ok__law_kind (T : Txt K mg) : FnOk P w K mg base CX0 1 T.f__law_kind T.fd__law_kind ["caught"] (sp__law_kind T) := by
  refine T.F__law_kind.ok sc__law_kind (fun vs H Q E h => ?_) (fun cdv A outer s H vs Q E hr h => ?_)
  · obtain ⟨_, _, rfl, _⟩ := h
    rfl
  · obtain ⟨a, fig, rfl, kx, q⟩ := h
    obtain ⟨C, word, bs, hC, hw, hbs, KI⟩ : ∃ (C : Addr) (word : Str) (bs : List Bool), C = (if fig then T.k_NoFigure else T.k_NoPlace) ∧ word = (if fig then "figure" else "place") ∧ bs = [false, fig, !fig, false] ∧ Kind31 T C word bs := by
      cases fig
      · exact ⟨T.k_NoPlace, "place", _, rfl, rfl, rfl, kind_plc T⟩
      · exact ⟨T.k_NoFigure, "figure", _, rfl, rfl, rfl, kind_fig T⟩
    rw [← hC] at kx
    have me := KI.ins.me
    subst hbs
    refine ⟨_, (C8.pss_cut (ps_set (i := 1) sc__law_kind.nd rfl (Or.inl rfl) (pe_lst (pa_cons (pe_callB (id := "isinstance") call_isK (by rfl) T.m_isinstance (by decide +kernel) (pa_cons (pv 0) (pa_cons (pe_glob (v := .ref T.k_NoAsk) (by rfl) T.gk_NoAsk rfl) pa_nil))) (pa_cons (pe_callB (id := "isinstance") call_isK (by rfl) T.m_isinstance (by decide +kernel) (pa_cons (pv 0) (pa_cons (pe_glob (v := .ref T.k_NoFigure) (by rfl) T.gk_NoFigure rfl) pa_nil))) (pa_cons (pe_callB (id := "isinstance") call_isK (by rfl) T.m_isinstance (by decide +kernel) (pa_cons (pv 0) (pa_cons (pe_glob (v := .ref T.k_NoNumber) (by rfl) T.gk_NoNumber rfl) pa_nil))) pa_nil)))))
      (C8.pss_cut (ps_set (i := 1) sc__law_kind.nd rfl (Or.inl rfl) (pe_op op_cat (pv 1) (pe_lst (pa_cons (pe_callB (id := "isinstance") call_isK (by rfl) T.m_isinstance (by decide +kernel) (pa_cons (pv 0) (pa_cons (pe_glob (v := .ref T.k_NoPlace) (by rfl) T.gk_NoPlace rfl) pa_nil))) (pa_cons (pe_callB (id := "isinstance") call_isK (by rfl) T.m_isinstance (by decide +kernel) (pa_cons (pv 0) (pa_cons (pe_glob (v := .ref T.k_NoRound) (by rfl) T.gk_NoRound rfl) pa_nil))) pa_nil)))))
      (pss_cons (ps_if (PW.pt (pw_or (pt_not (pt_val (pe_callB (id := "isinstance") call_isK (by rfl) T.m_isinstance (by decide +kernel) (pa_cons (pv 0) (pa_cons (pe_glob (v := .ref T.k_FigureError) (by rfl) T.gk_FigureError rfl) pa_nil))))) (pw_or (pt_not (pt_val (pe_callB (id := "isinstance") call_isK (by rfl) T.m_isinstance (by decide +kernel) (pa_cons (pv 0) (pa_cons (pe_bltn (v := .ty "ValueError") (by rfl) T.m_ValueError (by decide +kernel) rfl) pa_nil))))) (pw_or1 (pt_cmpR op_ne (pe_bm PySem.F.plainAttrs_list PySem.F.slot_list_count PySem.F.type_list_count mt_countB (pv 1) (pa_cons pe_bl pa_nil)) pe_int (nomark _)))))) (pss_one (ps_ret (pe_tup (pa_cons pe_str pa_nil)))) pss_nil)
      (pss_cons (ps_if (pt_val (pe_ix ix_list (pv 1) pe_int (fun _ _ => rfl))) (pss_cons (ps_if (pt_val (pe_callB (id := "isinstance") call_isi (by rfl) T.m_isinstance (by decide +kernel) (pa_cons (pe_xk (pv 0)) (pa_cons (pe_bltn (v := .ty "bool") (by rfl) T.m_bool (by decide +kernel) rfl) pa_nil)))) (pss_one (ps_ret (pe_tup (pa_cons pe_str pa_nil)))) pss_nil)
      (pss_one (ps_ret (pe_tup (pa_cons pe_str (pa_cons (pe_xk (pv 0)) pa_nil)))))) pss_nil)
      (pss_one (ps_ret (pe_tup (pa_cons (pe_ix ix_list (pe_lst (pa_cons pe_str (pa_cons pe_str (pa_cons pe_str (pa_cons pe_str (pa_cons pe_str pa_nil)))))) (pe_bm PySem.F.plainAttrs_list PySem.F.slot_list_index PySem.F.type_list_index mt_index (pv 1) (pa_cons pe_bl pa_nil)) (fun _ _ => rfl)) pa_nil)))))))), ?_⟩
    refine ⟨fun σ' H' => Same H H' ∧ ∃ k, σ' = [some (.ref a), some (.ref k)] ∧ H' k = some (.lst ([false, fig, false].map V.bl)), ?_, ?_⟩
    · refine ⟨_, rfl, a, C, none, _, _, _, rfl, .own _, kx, kd_none _, KI.exc, kit_own T.x_NoAsk me KI.ask, ?_⟩
      refine ⟨_, rfl, a, C, none, _, _, _, rfl, .own _, kx, kd_none _, KI.exc, kit_own T.x_NoFigure me KI.fig, ?_⟩
      refine ⟨_, rfl, a, C, none, _, _, _, rfl, .own _, kx, kd_none _, KI.exc, kit_own T.x_NoNumber me KI.num, ?_⟩
      exact ⟨by show 3 ≤ sizeLine; decide, fun l hl => ⟨Same.new hl, l, rfl, upd_same⟩⟩
    rintro σ' H' ⟨s1, k, rfl, hk⟩
    have kx1 := kx.same (s1 a)
    refine ⟨fun σ'' H'' => Same H H'' ∧ ∃ k, σ'' = [some (.ref a), some (.ref k)] ∧ H'' k = some (.lst ([false, fig, false, !fig, false].map V.bl)), ?_, ?_⟩
    · refine ⟨_, rfl, ?_⟩
      refine ⟨_, rfl, a, C, none, _, _, _, rfl, .own _, kx1, kd_none _, KI.exc, kit_own T.x_NoPlace me KI.plc, ?_⟩
      refine ⟨_, rfl, a, C, none, _, _, _, rfl, .own _, kx1, kd_none _, KI.exc, kit_own T.x_NoRound me KI.rnd, ?_⟩
      refine ⟨by show 2 ≤ sizeLine; decide, fun l hl => ?_⟩
      have hk' := (Same.new (o := .lst [.bl ([false, fig, !fig, false].getD 2 false), .bl ([false, fig, !fig, false].getD 3 false)]) hl) _ _ hk
      exact ⟨k, l, _, _, rfl, rfl, hk', upd_same, by show 3 + 2 ≤ sizeLine; decide, fun l2 hl2 => ⟨s1.trans ((Same.new hl).trans (Same.new hl2)), l2, rfl, upd_same⟩⟩
    rintro σ'' H'' ⟨s2, k2, rfl, hk2⟩
    have kx2 := kx.same (s2 a)
    refine ⟨_, rfl, a, C, none, _, _, _, rfl, .own _, kx2, kd_none _, KI.exc, kit_own T.x_FigureError me KI.err, true, rfl, ?_⟩
    refine ite2 (fun e => absurd e (by decide)) (fun _ => ?_)
    refine ⟨_, rfl, a, C, none, _, _, _, rfl, .ty _, kx2, kd_none _, KI.exc, kit_VE KI.ins.ve, true, rfl, ?_⟩
    refine ite2 (fun e => absurd e (by decide)) (fun _ => ?_)
    refine ⟨_, rfl, .inl ⟨rfl, _, .of hk2⟩, k2, [false, fig, false, !fig, false], true, rfl, rfl, .of hk2, rfl, _, rfl, ite2 (fun e => ?_) (fun _ => ?_)⟩
    · exfalso
      revert e
      cases fig <;> decide
    refine ⟨_, rfl, _, _, 2, .bl false, rfl, rfl, .of hk2, rfl, false, rfl, iteF ?_⟩
    refine ⟨by show 5 ≤ sizeLine; decide, fun l hl => ?_⟩
    generalize g3 : upd H'' l _ = H3
    obtain ⟨s3, t3⟩ := new_of g3 hl
    have hk3 := s3 _ _ hk2
    cases fig
    · refine ⟨_, rfl, .inl ⟨rfl, _, .of hk3⟩, k2, _, _, 3, _, rfl, rfl, .of hk3, rfl, rfl, rfl, rfl, fun j z hj hz => ?_, ?_⟩
      · match j, hz with
        | 0, hz => cases hz; rfl
        | 1, hz => cases hz; rfl
        | 2, hz => cases hz; rfl
        | n + 3, _ => omega
      · refine ⟨l, _, _, _, rfl, rfl, .of t3, rfl, by show 1 ≤ sizeLine; decide, fun l2 hl2 => ?_⟩
        exact q l2 _ (s2.trans (s3.trans (Same.new hl2))) upd_same
    · refine ⟨_, rfl, .inl ⟨rfl, _, .of hk3⟩, k2, _, _, 1, _, rfl, rfl, .of hk3, rfl, rfl, rfl, rfl, fun j z hj hz => ?_, ?_⟩
      · match j, hz with
        | 0, hz => cases hz; rfl
        | n + 1, _ => omega
      · refine ⟨l, _, _, _, rfl, rfl, .of t3, rfl, by show 1 ≤ sizeLine; decide, fun l2 hl2 => ?_⟩
        exact q l2 _ (s2.trans (s3.trans (Same.new hl2))) upd_same

/-! ### KeptNumber__check_figure -/
def sp_KeptNumber__check_figure {K : PySem.W.Frag} {mg : Str → Option Value} (T : Txt K mg) : Sp := fun vs H Q E => ∃ (p w l : Addr) (b pw : Nat) (fs : List Nat) (f : Int), vs = [.ref p, .int f] ∧ KeptAt T.k_KeptNumber H p w l b pw fs ∧ (0 ≤ f → f < (b : Int) → Q .non H) ∧ (¬ (0 ≤ f ∧ f < (b : Int)) → E (.ref T.k_NoFigure) none H)
theorem ok_KeptNumber__check_figure (T : Txt K mg) : FnOk P w K mg base (L2.CX P w) 1 T.f_KeptNumber__check_figure T.fd_KeptNumber__check_figure ["self", "figure"] (sp_KeptNumber__check_figure T) := by
  refine T.F_KeptNumber__check_figure.okX sc_KeptNumber__check_figure (fun vs H Q E h => ?_) (fun cdv A outer s H vs Q E hr h => ?_)
  · obtain ⟨_, _, _, _, _, _, _, rfl, _⟩ := h
    rfl
  · obtain ⟨p, w, l, b, pw, fs, f, rfl, hK, q, r⟩ := h
    obtain ⟨dx, e⟩ := hK.ins
    refine ⟨_, (pss_one (ps_if (PW.pt (pw_or (pt_cmpR op_lt (pv 1) pe_int (nomark _)) (pw_or1 (pt_cmpR op_ge (pv 1) (pe_fld (pv 0) rfl) (nomark _))))) (pss_one (ps_raise rfl (takes_of rfl rfl rfl rfl) (pmk_own PySem.F.excBase_ValueError T.xq_NoFigure T.gk_NoFigure T.I_NoFigure.kp (raises_own T.x_NoFigure.bx T.x_NoFigure.ty) rfl))) pss_nil)), ?_⟩
    refine ⟨_, rfl, _, _, rfl, rfl, _, rfl, ?_⟩
    by_cases c : f < 0
    · rw [decide_eq_true c]
      exact iteT (iteT (r (by omega)))
    · rw [decide_eq_false c]
      refine iteF ?_
      refine ⟨_, rfl, _, rfl, p, _, dx, _, _, rfl, e, T.cl_KeptNumber, T.na_KeptNumber_base, kf_base _ _ _ _, _, _, rfl, rfl, _, rfl, ?_⟩
      by_cases c2 : f ≥ (b : Int)
      · rw [decide_eq_true c2]
        exact iteT (r (by omega))
      · rw [decide_eq_false c2]
        exact iteF (q (by omega) (by omega))

/-! ### KeptNumber__put_figure -/
def sp_KeptNumber__put_figure {K : PySem.W.Frag} {mg : Str → Option Value} (T : Txt K mg) : Sp := fun vs H Q E => ∃ (p w l : Addr) (b pw : Nat) (fs : List Nat) (f : Int), vs = [.ref p, .int f] ∧ KeptAt T.k_KeptNumber H p w l b pw fs ∧
  (∀ g : Nat, f = (g : Int) → g < b → fs.length < 40 ∧ ∀ H' l', KeptAt T.k_KeptNumber H' p w l' b pw (putFs fs g) → (l' = l ∨ H l' = none) → Frm [p, l] H H' → Q .non H') ∧ (¬ (0 ≤ f ∧ f < (b : Int)) → E (.ref T.k_NoFigure) none H)
theorem ok_KeptNumber__put_figure (T : Txt K mg) : FnOk P w K mg base (L2.CX P w) 2 T.f_KeptNumber__put_figure T.fd_KeptNumber__put_figure ["self", "figure"] (sp_KeptNumber__put_figure T) := by
  refine T.F_KeptNumber__put_figure.okX sc_KeptNumber__put_figure (fun vs H Q E h => ?_) (fun cdv A outer s H vs Q E hr h => ?_)
  · obtain ⟨_, _, _, _, _, _, _, rfl, _⟩ := h
    rfl
  · obtain ⟨p, w, l, b, pw, fs, fi, rfl, hK, q', r⟩ := h
    obtain ⟨dx, e⟩ := hK.ins
    have npl := hK.pl
    have npw := hK.pw
    refine ⟨_, (pss_cons (ps_expr (pe_methX (pv 0) T.cl_KeptNumber T.me_KeptNumber__check_figure (ok_KeptNumber__check_figure T) hr T.b_KeptNumber__check_figure (fun σ => passAt (takes_of rfl rfl rfl rfl) σ) (pa_cons (pv 1) pa_nil)))
      (pss_cons (ps_if (pt_cmpR (op_eqD hr.units) (pe_fld (pv 0) rfl) (pe_lst (pa_cons pe_int pa_nil)) (nomark _)) (pss_one (ps_fld (pv 0) (pe_lst pa_nil) rfl)) pss_nil)
      (pss_one (ps_expr (pe_bm PySem.F.plainAttrs_list PySem.F.slot_list_append PySem.F.type_list_append mt_append (pe_fld (pv 0) rfl) (pa_cons (pv 1) pa_nil)))))), ?_⟩
    refine ⟨_, rfl, p, dx, _, rfl, e, kf_no _ _ _ _ (by decide +kernel) (by decide +kernel) (by decide +kernel) (by decide +kernel), _, rfl, p, w, l, b, pw, fs, fi, rfl, hK, fun h0 h1 => ?_, fun h => r h⟩
    obtain ⟨f, rfl⟩ : ∃ f : Nat, fi = (f : Int) := ⟨fi.toNat, by omega⟩
    have hf : f < b := by omega
    obtain ⟨hl, q⟩ := q' f rfl hf
    -- self.figures == [0]
    refine ⟨_, rfl, p, _, dx, _, _, rfl, e, T.cl_KeptNumber, T.na_KeptNumber_figures, kf_figures _ _ _ _, by show 1 ≤ sizeLine; decide, fun z hz => ?_⟩
    generalize g1 : upd H z _ = H1
    obtain ⟨s1, t1⟩ := new_of g1 hz
    have f1 : SqL K H1 l (ivs fs) := .of (s1 _ _ hK.fg)
    refine ⟨_, _, .lst f1 (dpAll_ivs fs), .lst (.of t1) (dpAll_ivs [0]), shaped_ints _, shaped_ints _, _, rfl, ?_⟩
    rw [eqv_nats]
    by_cases c : fs = [0]
    · rw [decide_eq_true c]
      refine iteT ?_
      refine ⟨Nat.zero_le _, fun l2 h2 => ?_⟩
      generalize g2 : upd H1 l2 _ = H2
      obtain ⟨s2, t2⟩ := new_of g2 h2
      have l20 := s1.free h2
      have e2 := s2 _ _ (s1 _ _ e)
      have np2 : p ≠ l2 := ne_of_none e l20
      refine ⟨_, rfl, p, _, dx, _, rfl, e2, T.cl_KeptNumber, T.na_KeptNumber_figures, kf_len _ _ _ _, ?_⟩
      rw [kf_put]
      generalize g3 : upd H2 p _ = H3
      obtain ⟨b3, t3⟩ := set_of g3
      have l3 : H3 l2 = some (.lst []) := b3 _ _ np2.symm t2
      refine ⟨_, rfl, p, _, dx, _, _, rfl, t3, T.cl_KeptNumber, T.na_KeptNumber_figures, kf_figures _ _ _ _, .inl ⟨rfl, _, .of l3⟩, _, rfl, l2, _, _, rfl, rfl, l3, by decide, ?_⟩
      generalize g4 : upd H3 l2 _ = H4
      obtain ⟨b4, t4⟩ := set_of g4
      have F : Frm [l2, p, l] H H4 := (Frm.of _ (s1.trans s2)).trans (((Frm.but b3 ⟨_, t3⟩).mono (by simp)).trans ((Frm.but b4 ⟨_, t4⟩).mono (by simp)))
      have F' := F.drop l20
      refine q H4 l2 ⟨⟨dx, b4 _ _ np2 t3⟩, F'.kp _ _ ?_ hK.ws, ?_, ne_of_none hK.ws l20, hK.ok, hK.good.put hf hl⟩ (.inr l20) F'
      · simp only [List.mem_cons, List.not_mem_nil, or_false, not_or]
        exact ⟨npw.symm, hK.wl⟩
      · rw [t4]
        unfold putFs
        rw [if_pos c]
        rfl
    · rw [decide_eq_false c]
      refine iteF ?_
      have e1 := s1 _ _ e
      have l1 := s1 _ _ hK.fg
      refine ⟨_, rfl, p, _, dx, _, _, rfl, e1, T.cl_KeptNumber, T.na_KeptNumber_figures, kf_figures _ _ _ _, .inl ⟨rfl, _, .of l1⟩, _, rfl, l, _, _, rfl, rfl, l1, small_len (by rw [ivs_length]; omega), ?_⟩
      generalize g4 : upd H1 l _ = H4
      obtain ⟨b4, t4⟩ := set_of g4
      have F : Frm [p, l] H H4 := (Frm.of _ s1).trans ((Frm.but b4 ⟨_, t4⟩).mono (by simp))
      refine q H4 l ⟨⟨dx, b4 _ _ npl e1⟩, b4 _ _ hK.wl (s1 _ _ hK.ws), ?_, hK.wl, hK.ok, hK.good.put hf hl⟩ (.inl rfl) F
      rw [t4]
      unfold putFs
      rw [if_neg c, ivs_append]
      rfl

/-! ### KeptNumber__set_figure -/
def sp_KeptNumber__set_figure {K : PySem.W.Frag} {mg : Str → Option Value} (T : Txt K mg) : Sp := fun vs H Q E => ∃ (p w l : Addr) (b pw : Nat) (fs : List Nat) (pi f : Int), vs = [.ref p, .int pi, .int f] ∧ KeptAt T.k_KeptNumber H p w l b pw fs ∧
  (¬ (0 ≤ pi ∧ pi < (fs.length : Int)) → E (.ref T.k_NoPlace) none H) ∧ (0 ≤ pi → pi < (fs.length : Int) → ¬ (0 ≤ f ∧ f < (b : Int) ∧ (f = 0 → pi + 1 = (fs.length : Int) → fs.length = 1)) → E (.ref T.k_NoFigure) none H) ∧
  (∀ pl g : Nat, pi = (pl : Int) → f = (g : Int) → g < b → pl < fs.length → (g = 0 → pl + 1 = fs.length → fs.length = 1) → ∀ H', KeptAt T.k_KeptNumber H' p w l b pw (fs.set (fs.length - 1 - pl) g) → Frm [p, l] H H' → Q .non H')
theorem ok_KeptNumber__set_figure (T : Txt K mg) : FnOk P w K mg base (L2.CX P w) 2 T.f_KeptNumber__set_figure T.fd_KeptNumber__set_figure ["self", "place", "figure"] (sp_KeptNumber__set_figure T) := by
  refine T.F_KeptNumber__set_figure.okX sc_KeptNumber__set_figure (fun vs H Q E h => ?_) (fun cdv A outer s H vs Q E hr h => ?_)
  · obtain ⟨_, _, _, _, _, _, _, _, rfl, _⟩ := h
    rfl
  · obtain ⟨p, w, l, b, pw, fs, pi, fi, rfl, hK, r1, r2, q⟩ := h
    obtain ⟨dx, e⟩ := hK.ins
    have npl := hK.pl
    have npw := hK.pw
    refine ⟨_, (pss_cons (ps_set (i := 3) sc_KeptNumber__set_figure.nd rfl (Or.inl rfl) (pe_callB (id := "len") call_len_seq (by rfl) T.m_len (by decide +kernel) (pa_cons (pe_fld (pv 0) rfl) pa_nil)))
      (pss_cons (ps_if (PW.pt (pw_or (pt_cmpR op_lt (pv 1) pe_int (nomark _)) (pw_or1 (pt_cmpR op_ge (pv 1) (pv 3) (nomark _))))) (pss_one (ps_raise rfl (takes_of rfl rfl rfl rfl) (pmk_own PySem.F.excBase_ValueError T.xq_NoPlace T.gk_NoPlace T.I_NoPlace.kp (raises_own T.x_NoPlace.bx T.x_NoPlace.ty) rfl))) pss_nil)
      (pss_cons (ps_expr (pe_methX (pv 0) T.cl_KeptNumber T.me_KeptNumber__check_figure (ok_KeptNumber__check_figure T) hr T.b_KeptNumber__check_figure (fun σ => passAt (takes_of rfl rfl rfl rfl) σ) (pa_cons (pv 2) pa_nil)))
      (C8.pss_cut (ps_if (PW.pt (pw_and (pt_cmpR op_eq (pv 2) pe_int (nomark _)) (pw_and (pt_cmpR op_eq (pv 1) (pe_op op_sub (pv 3) pe_int) (nomark _)) (pw_and1 (pt_cmpR op_gt (pv 3) pe_int (nomark _)))))) (pss_one (ps_raise rfl (takes_of rfl rfl rfl rfl) (pmk_own PySem.F.excBase_ValueError T.xq_NoFigure T.gk_NoFigure T.I_NoFigure.kp (raises_own T.x_NoFigure.bx T.x_NoFigure.ty) rfl))) pss_nil)
      (pss_one (ps_asg (pv 2) (pg_sub (pe_fld (pv 0) rfl) (pe_op op_sub (pe_op op_sub (pv 3) pe_int) (pv 1)) set_list))))))), ?_⟩
    -- many
    refine ⟨_, rfl, p, _, dx, _, _, rfl, e, T.cl_KeptNumber, T.na_KeptNumber_figures, kf_figures _ _ _ _, l, _, rfl, .inl (.of hK.fg), ?_⟩
    rw [ivs_length]
    refine ⟨_, rfl, _, _, rfl, rfl, _, rfl, ?_⟩
    by_cases c : pi < 0
    · rw [decide_eq_true c]
      exact iteT (iteT (r1 (by omega)))
    rw [decide_eq_false c]
    refine iteF ?_
    refine ⟨_, rfl, _, rfl, _, _, rfl, rfl, _, rfl, ?_⟩
    by_cases c' : pi ≥ (fs.length : Int)
    · rw [decide_eq_true c']
      exact iteT (r1 (by omega))
    rw [decide_eq_false c']
    refine iteF ?_
    obtain ⟨pl, rfl⟩ : ∃ pl : Nat, pi = (pl : Int) := ⟨pi.toNat, by omega⟩
    have hp : pl < fs.length := by omega
    refine ⟨_, rfl, p, dx, _, rfl, e, kf_no _ _ _ _ (by decide +kernel) (by decide +kernel) (by decide +kernel) (by decide +kernel), _, rfl, p, w, l, b, pw, fs, fi, rfl, hK, fun h0 h1 => ?_, fun h => r2 (by omega) (by omega) fun z => h ⟨z.1, z.2.1⟩⟩
    obtain ⟨f, rfl⟩ : ∃ f : Nat, fi = (f : Int) := ⟨fi.toNat, by omega⟩
    have hf : f < b := by omega
    -- figure == 0 and place == many - 1 and many > 1
    refine ⟨fun σ' H' => H' = H ∧ (f = 0 → pl + 1 = fs.length → fs.length = 1) ∧ σ' = [some (.ref p), some (.int (pl : Int)), some (.int (f : Int)), some (.int ((fs.length : Nat) : Int))], ?_, ?_⟩
    · refine ⟨_, rfl, rfl, _, rfl, ?_⟩
      by_cases c : f = 0
      · subst c
        refine iteT ?_
        refine ⟨_, rfl, _, rfl, _, _, rfl, rfl, rfl, _, rfl, ?_⟩
        by_cases c2 : pl + 1 = fs.length
        · rw [decide_eq_true (show V.int (pl : Int) = V.int (((fs.length : Nat) : Int) - 1) by congr 1; omega)]
          refine iteT ?_
          refine ⟨_, rfl, _, _, rfl, rfl, _, rfl, ?_⟩
          by_cases c3 : ((fs.length : Nat) : Int) > 1
          · rw [decide_eq_true c3]
            exact iteT (r2 (by omega) (by omega) fun z => by have := z.2.2 rfl (by omega); omega)
          · rw [decide_eq_false c3]
            exact iteF ⟨rfl, fun _ _ => by omega, rfl⟩
        · rw [decide_eq_false (show ¬ (V.int (pl : Int) = V.int (((fs.length : Nat) : Int) - 1)) from fun z => c2 (by injection z with z; omega))]
          exact iteF (iteF ⟨rfl, fun _ z => absurd z c2, rfl⟩)
      · rw [decide_eq_false (show ¬ (V.int (f : Int) = V.int 0) from fun z => c (by injection z with z; omega))]
        exact iteF (iteF ⟨rfl, fun z => absurd z c, rfl⟩)
    · rintro σ' H' ⟨rfl, hz, rfl⟩
      refine ⟨_, rfl, _, rfl, p, _, dx, _, _, rfl, e, T.cl_KeptNumber, T.na_KeptNumber_figures, kf_figures _ _ _ _, _, rfl, _, _, rfl, rfl, _, rfl, _, _, rfl, rfl, l, _, _, fs.length - 1 - pl, rfl, rfl, hK.fg, ?_, ?_⟩
      · rw [ivs_length, show (((fs.length : Nat) : Int) - 1 - (pl : Int)) = ((fs.length - 1 - pl : Nat) : Int) by omega]
        exact ixN_of (by omega)
      · rw [ivs_set]
        generalize g1 : upd _ l _ = H1
        obtain ⟨b1, t1⟩ := set_of g1
        have F : Frm [p, l] _ H1 := (Frm.but b1 ⟨_, t1⟩).mono (by simp)
        exact q pl f rfl rfl hf hp hz H1 ⟨⟨dx, b1 _ _ npl e⟩, b1 _ _ hK.wl hK.ws, t1, hK.wl, hK.ok, hK.good.set hf⟩ F

/-! ### _law_told -/
def sp__law_told {K : PySem.W.Frag} {mg : Str → Option Value} (T : Txt K mg) : Sp := fun vs H Q _ => ∃ (p w l : Addr) (b pw : Nat) (fs : List Nat) (plv : V) (f : Int), vs = [.ref p, plv, .int f] ∧ KeptAt T.k_KeptNumber H p w l b pw fs ∧
  ((plv = .non ∧ (∀ g : Nat, f = (g : Int) → g < b → fs.length < 40 ∧ ∀ H' l' t, KeptAt T.k_KeptNumber H' p w l' b pw (putFs fs g) → (l' = l ∨ H l' = none) → Frm [p, l] H H' → H t = none → H' t = some (.lst [.non]) → Q (.ref t) H') ∧
      (¬ (0 ≤ f ∧ f < (b : Int)) → ∀ H' t, Same H H' → H' t = some (.tup [.str "figure"]) → Q (.ref t) H')) ∨
    ∃ pi : Int, plv = .int pi ∧ (¬ (0 ≤ pi ∧ pi < (fs.length : Int)) → ∀ H' t, Same H H' → H' t = some (.tup [.str "place"]) → Q (.ref t) H') ∧
      (0 ≤ pi → pi < (fs.length : Int) → ¬ (0 ≤ f ∧ f < (b : Int) ∧ (f = 0 → pi + 1 = (fs.length : Int) → fs.length = 1)) → ∀ H' t, Same H H' → H' t = some (.tup [.str "figure"]) → Q (.ref t) H') ∧
      (∀ pl g : Nat, pi = (pl : Int) → f = (g : Int) → g < b → pl < fs.length → (g = 0 → pl + 1 = fs.length → fs.length = 1) → ∀ H' t, KeptAt T.k_KeptNumber H' p w l b pw (fs.set (fs.length - 1 - pl) g) → Frm [p, l] H H' → H t = none → H' t = some (.lst [.non]) → Q (.ref t) H'))
theorem ok__law_told (T : Txt K mg) : FnOk P w K mg base CX0 3 T.f__law_told T.fd__law_told ["kept", "place", "figure"] (sp__law_told T) := by
  refine T.F__law_told.ok sc__law_told (fun vs H Q E h => ?_) (fun cdv A outer s H vs Q E hr h => ?_)
  · obtain ⟨_, _, _, _, _, _, _, _, rfl, _⟩ := h
    rfl
  · obtain ⟨p, w, l, b, pw, fs, plv, f, rfl, hK, alt⟩ := h
    obtain ⟨dx, e⟩ := hK.ins
    refine ⟨_, (pss_cons (ps_set (i := 3) sc__law_told.nd rfl (Or.inl rfl) pe_non)
      (pss_cons (ps_set (i := 4) sc__law_told.nd rfl (Or.inl rfl) pe_non)
      (pss_cons (ps_try_kept (i := 5) (tb := fun W => (tIfS (tTest (tOp (fun x y H Q => y = V.non ∧ Q (.bl (decide (x = .non))) H) (tVar 1) (tC .non))) (tAsg (tMethX T.k_KeptNumber "put_figure" (sp_KeptNumber__put_figure T) (WE W) (tVar 0) (tCons (tVar 2) tNil)) (gName 3)) (tAsg (tMethX T.k_KeptNumber "set_figure" (sp_KeptNumber__set_figure T) (WE W) (tVar 0) (tCons (tVar 1) (tCons (tVar 2) tNil))) (gName 3)))) (ts := fun _ _ _ => (tAsg (tVar 5) (gName 4))) (Wout := fun _ _ _ _ => False) rfl rfl rfl sc__law_told.nd rfl rfl ⟨by rfl, by decide, .inl T.gk_FigureError⟩ takes0
      (fun W pn xe tk _ => (pss_one (ps_if (pt_cmpR op_isN (pv 1) pe_non (nomark _)) (pss_one (ps_set (i := 3) sc__law_told.nd rfl (Or.inl rfl) (pe_methX (pv 0) T.cl_KeptNumber T.me_KeptNumber__put_figure (ok_KeptNumber__put_figure T) hr T.b_KeptNumber__put_figure (fun σ => passAt tk σ) (pa_cons (pv 2) pa_nil)))) (pss_one (ps_set (i := 3) sc__law_told.nd rfl (Or.inl rfl) (pe_methX (pv 0) T.cl_KeptNumber T.me_KeptNumber__set_figure (ok_KeptNumber__set_figure T) hr T.b_KeptNumber__set_figure (fun σ => passAt tk σ) (pa_cons (pv 1) (pa_cons (pv 2) pa_nil))))))))
      (fun a oe cls d pn hz hf => (pss_one (ps_set (i := 4) sc__law_told.nd rfl (Or.inl rfl) (pv 5)))))
      (pss_cons (ps_if (pt_cmpR op_notN (pv 4) pe_non (nomark _)) (pss_one (ps_ret (pe_call (ok__law_kind T) (hr.mono (by decide)) (by rfl) T.g__law_kind T.F__law_kind.kp T.b__law_kind .nil pass0 (pa_cons (pv 4) pa_nil)))) pss_nil)
      (pss_one (ps_ret (pe_lst (pa_cons (pv 3) pa_nil)))))))), ?_⟩
    rcases alt with ⟨rfl, q1, q2⟩ | ⟨pi, rfl, q1, q2, q3⟩
    · refine ⟨_, rfl, rfl, true, congrArg V.bl (decide_eq_true rfl), iteT ?_⟩
      refine ⟨_, rfl, p, dx, _, rfl, e, kf_no _ _ _ _ (by decide +kernel) (by decide +kernel) (by decide +kernel) (by decide +kernel), _, rfl, p, w, l, b, pw, fs, f, rfl, hK, fun g eg hg => ⟨(q1 g eg hg).1, fun H1 l1 k1 o1 F1 => ?_⟩, fun h => ?_⟩
      · refine ⟨_, rfl, rfl, false, by rw [decide_eq_true rfl]; rfl, iteF ?_⟩
        refine ⟨_, rfl, by show 1 ≤ sizeLine; decide, fun t ht => ?_⟩
        exact (q1 g eg hg).2 _ l1 t (k1.same (Same.new ht)) o1 (F1.trans (Frm.of _ (Same.new ht))) (F1.fr _ ht) upd_same
      · refine ⟨true, exm_own T.x_FigureError T.s_NoFigure_FigureError, fun _ a ha => ?_, fun z => nomatch z⟩
        refine ⟨_, rfl, fun hn => ?_⟩
        generalize g3 : upd H a _ = H3
        obtain ⟨s3, t3⟩ := new_of g3 hn
        refine ⟨_, rfl, rfl, true, by rw [decide_eq_false (show ¬ (V.ref a = V.non) from fun z => nomatch z)]; rfl, iteT ?_⟩
        exact ⟨_, rfl, a, true, rfl, kx_held t3, fun t H4 s4 ht4 => q2 h H4 t (s3.trans s4) ht4⟩
    · refine ⟨_, rfl, rfl, false, congrArg V.bl (decide_eq_false (fun z => nomatch z)), iteF ?_⟩
      refine ⟨_, rfl, p, dx, _, rfl, e, kf_no _ _ _ _ (by decide +kernel) (by decide +kernel) (by decide +kernel) (by decide +kernel), _, rfl, _, rfl, p, w, l, b, pw, fs, pi, f, rfl, hK, fun h => ?_, fun h0 h1 h => ?_, fun pl g e1 e2 hg hp hz H1 k1 F1 => ?_⟩
      · refine ⟨true, exm_own T.x_FigureError T.s_NoPlace_FigureError, fun _ a ha => ?_, fun z => nomatch z⟩
        refine ⟨_, rfl, fun hn => ?_⟩
        generalize g3 : upd H a _ = H3
        obtain ⟨s3, t3⟩ := new_of g3 hn
        refine ⟨_, rfl, rfl, true, by rw [decide_eq_false (show ¬ (V.ref a = V.non) from fun z => nomatch z)]; rfl, iteT ?_⟩
        exact ⟨_, rfl, a, false, rfl, kx_held t3, fun t H4 s4 ht4 => q1 h H4 t (s3.trans s4) ht4⟩
      · refine ⟨true, exm_own T.x_FigureError T.s_NoFigure_FigureError, fun _ a ha => ?_, fun z => nomatch z⟩
        refine ⟨_, rfl, fun hn => ?_⟩
        generalize g3 : upd H a _ = H3
        obtain ⟨s3, t3⟩ := new_of g3 hn
        refine ⟨_, rfl, rfl, true, by rw [decide_eq_false (show ¬ (V.ref a = V.non) from fun z => nomatch z)]; rfl, iteT ?_⟩
        exact ⟨_, rfl, a, true, rfl, kx_held t3, fun t H4 s4 ht4 => q2 h0 h1 h H4 t (s3.trans s4) ht4⟩
      · refine ⟨_, rfl, rfl, false, by rw [decide_eq_true rfl]; rfl, iteF ?_⟩
        refine ⟨_, rfl, by show 1 ≤ sizeLine; decide, fun t ht => ?_⟩
        exact q3 pl g e1 e2 hg hp hz _ t (k1.same (Same.new ht)) (F1.trans (Frm.of _ (Same.new ht))) (F1.fr _ ht) upd_same

/-! ### _law_bad -/
/-- what is refused, and how: the place (none: a figure is put), the figure, the word -/
def BadE (b L : Nat) (plv : V) (f : Int) (due : Str) : Prop := (plv = .non ∧ due = "figure" ∧ ¬ (0 ≤ f ∧ f < (b : Int))) ∨
  ∃ pi : Int, plv = .int pi ∧ ((due = "place" ∧ ¬ (0 ≤ pi ∧ pi < (L : Int))) ∨ (due = "figure" ∧ 0 ≤ pi ∧ pi < (L : Int) ∧ ¬ (0 ≤ f ∧ f < (b : Int) ∧ (f = 0 → pi + 1 = (L : Int) → L = 1))))
def BadAt (b L : Nat) (H : Hp) (v : V) : Prop := ∃ (u : Addr) (plv : V) (f : Int) (due : Str), v = .ref u ∧ H u = some (.tup [plv, .int f, .str due]) ∧ BadE b L plv f due
theorem BadAt.mono {b L : Nat} {H H' : Hp} {v : V} (h : BadAt b L H v) (k : ∀ t xs, H t = some (.tup xs) → H' t = some (.tup xs)) : BadAt b L H' v := by
  obtain ⟨u, p, f, d, x, y, z⟩ := h
  exact ⟨u, p, f, d, x, k _ _ y, z⟩
def sp__law_bad (K : PySem.W.Frag) : Sp := fun vs H Q _ => ∃ (d c a : Addr) (n b : Nat) (fs : List Nat), vs = [.ref d, .ref a, .int (b : Int)] ∧ Deck H d c n ∧ n < 2 ^ 39 ∧ 2 ≤ b ∧ b ≤ 16 ∧ H a = some (.lst (ivs fs)) ∧ fs ≠ [] ∧ fs.length ≤ 40 ∧
  ∀ H' t vs', But d H H' → Deck H' d c (n + 5) → H t = none → H' t = some (.lst vs') → 7 ≤ vs'.length → vs'.length ≤ 8 → (∀ v ∈ vs', BadAt b fs.length H' v) → Q (.ref t) H'
theorem ok__law_bad (T : Txt K mg) : FnOk P w K mg base CX0 3 T.f__law_bad T.fd__law_bad ["deck", "figures", "base"] (sp__law_bad K) := by
  refine T.F__law_bad.ok sc__law_bad (fun vs H Q E h => ?_) (fun cdv A outer s H vs Q E hr h => ?_)
  · obtain ⟨_, _, _, _, _, _, rfl, _⟩ := h
    rfl
  · obtain ⟨d, c, a, n, b, fs, rfl, hD, hn, hb, hb16, ea, ne, h40, q⟩ := h
    have l0 := List.length_pos_iff.mpr ne
    have nad := hD.notInts ea
    refine ⟨_, (pss_cons (ps_set (i := 3) sc__law_bad.nd rfl (Or.inl rfl) (pe_callB (id := "len") call_len_seq (by rfl) T.m_len (by decide +kernel) (pa_cons (pv 1) pa_nil)))
      (pss_cons (ps_set (i := 4) sc__law_bad.nd rfl (Or.inl rfl) (pe_call (ok__law_next T) hr (by rfl) T.g__law_next T.F__law_next.kp T.b__law_next .nil pass0 (pa_cons (pv 0) (pa_cons (pe_op op_pow pe_int pe_int) pa_nil))))
      (pss_cons (ps_set (i := 5) sc__law_bad.nd rfl (Or.inl rfl) (pe_call (ok__law_next T) hr (by rfl) T.g__law_next T.F__law_next.kp T.b__law_next .nil pass0 (pa_cons (pv 0) (pa_cons (pv 2) pa_nil))))
      (pss_cons (ps_set (i := 6) sc__law_bad.nd rfl (Or.inl rfl) (pe_call (ok__law_next T) hr (by rfl) T.g__law_next T.F__law_next.kp T.b__law_next .nil pass0 (pa_cons (pv 0) (pa_cons (pv 3) pa_nil))))
      (C8.pss_cut (ps_set (i := 7) sc__law_bad.nd rfl (Or.inl rfl) (pe_ix ix_list (pe_lst (pa_cons (pe_un un_neg pe_int) (pa_cons (pv 2) (pa_cons (pe_op op_add (pe_op op_add (pv 2) pe_int) (pv 4)) (pa_cons (pe_op op_sub (pe_un un_neg pe_int) (pv 4)) (pa_cons (pe_op op_sub pe_int (pv 2)) pa_nil)))))) (pe_call (ok__law_next T) hr (by rfl) T.g__law_next T.F__law_next.kp T.b__law_next .nil pass0 (pa_cons (pv 0) (pa_cons pe_int pa_nil))) (fun _ _ => rfl)))
      (C8.pss_cut (ps_set (i := 8) sc__law_bad.nd rfl (Or.inl rfl) (pe_ix ix_list (pe_lst (pa_cons (pe_un un_neg pe_int) (pa_cons (pv 3) (pa_cons (pe_op op_add (pe_op op_add (pv 3) pe_int) (pv 4)) (pa_cons (pe_op op_sub (pe_un un_neg pe_int) (pv 4)) (pa_cons (pe_op op_sub pe_int (pv 3)) pa_nil)))))) (pe_call (ok__law_next T) hr (by rfl) T.g__law_next T.F__law_next.kp T.b__law_next .nil pass0 (pa_cons (pv 0) (pa_cons pe_int pa_nil))) (fun _ _ => rfl)))
      (pss_cons (ps_set (i := 9) sc__law_bad.nd rfl (Or.inl rfl) (pe_lst (pa_cons (pe_tup (pa_cons pe_non (pa_cons (pv 7) (pa_cons pe_str pa_nil)))) (pa_cons (pe_tup (pa_cons (pv 6) (pa_cons (pv 7) (pa_cons pe_str pa_nil)))) (pa_cons (pe_tup (pa_cons (pv 8) (pa_cons (pv 5) (pa_cons pe_str pa_nil)))) (pa_cons (pe_tup (pa_cons (pv 8) (pa_cons (pv 7) (pa_cons pe_str pa_nil)))) pa_nil))))))
      (pss_cons (ps_set (i := 9) sc__law_bad.nd rfl (Or.inl rfl) (pe_op op_cat (pv 9) (pe_lst (pa_cons (pe_tup (pa_cons pe_int (pa_cons (pv 7) (pa_cons pe_str pa_nil)))) (pa_cons (pe_tup (pa_cons (pe_op op_sub (pv 3) pe_int) (pa_cons (pv 7) (pa_cons pe_str pa_nil)))) (pa_cons (pe_tup (pa_cons (pv 3) (pa_cons pe_int (pa_cons pe_str pa_nil)))) pa_nil))))))
      (pss_cons (ps_if (pt_cmpR op_gt (pv 3) pe_int (nomark _)) (pss_one (ps_expr (pe_bm PySem.F.plainAttrs_list PySem.F.slot_list_append PySem.F.type_list_append mt_append (pv 9) (pa_cons (pe_tup (pa_cons (pe_op op_sub (pv 3) pe_int) (pa_cons pe_int (pa_cons pe_str pa_nil)))) pa_nil)))) pss_nil)
      (pss_one (ps_ret (pv 9)))))))))))), ?_⟩
    refine ⟨_, rfl, a, _, rfl, .inl (.of ea), ?_⟩
    rw [ivs_length]
    refine ⟨_, rfl, 10, 18, rfl, rfl, ⟨by decide, by decide, by decide⟩, d, 10 ^ 18, c, n, rfl, hD, by omega, by decide, by decide, fun H1 far b1 D1 f0 f1 => ?_⟩
    refine ⟨_, rfl, _, rfl, d, (b : Int), c, n + 1, rfl, D1, by omega, by omega, by omega, fun H2 good b2 D2 g0 g1 => ?_⟩
    refine ⟨_, rfl, _, rfl, d, (fs.length : Int), c, n + 1 + 1, rfl, D2, by omega, by omega, by omega, fun H3 place b3 D3 p0 p1 => ?_⟩
    have b13 := b1.trans (b2.trans b3)
    have five : ∀ {H4 H5 H6 : Hp} {z : Addr} {m : Nat} {x : Int} {k : Nat}, H4 z = none → Deck H4 d c m → H5 z = some (.lst [.int (-1), .int (k : Int), .int ((k : Int) + 1 + far), .int (-1 - far), .int (0 - (k : Int))]) → 1 ≤ k → 0 ≤ x → x < 5 → ∃ o : Int, atI [V.int (-1), .int (k : Int), .int ((k : Int) + 1 + far), .int (-1 - far), .int (0 - (k : Int))] x = some (.int o) ∧ ¬ (0 ≤ o ∧ o < (k : Int)) := fun {H4 H5 H6 z m x k} _ _ _ hk h0 h5 => by
      rcases (show x = 0 ∨ x = 1 ∨ x = 2 ∨ x = 3 ∨ x = 4 by omega) with rfl | rfl | rfl | rfl | rfl
      · exact ⟨_, rfl, by omega⟩
      · exact ⟨_, rfl, by omega⟩
      · exact ⟨_, rfl, by omega⟩
      · exact ⟨_, rfl, by omega⟩
      · exact ⟨_, rfl, by omega⟩
    -- odd
    refine ⟨fun σ' H' => But d H H' ∧ Deck H' d c (n + 4) ∧ ∃ odd : Int, ¬ (0 ≤ odd ∧ odd < (b : Int)) ∧ σ' = [some (.ref d), some (.ref a), some (.int (b : Int)), some (.int (fs.length : Int)), some (.int far), some (.int good), some (.int place), some (.int odd), none, none], ?_, ?_⟩
    · refine ⟨1, rfl, _, rfl, _, rfl, _, _, rfl, rfl, _, rfl, _, _, rfl, rfl, 1, rfl, _, rfl, _, _, rfl, rfl, _, rfl, _, _, rfl, rfl, by show 5 ≤ sizeLine; decide, fun z hz => ?_⟩
      generalize g4 : upd H3 z _ = H4
      obtain ⟨s4, t4⟩ := new_of g4 hz
      refine ⟨_, rfl, d, 5, c, _, rfl, D3.same s4, by omega, by decide, by decide, fun H5 x b5 D5 x0 x1 => ?_⟩
      have t5 := b5 _ _ (D3.out hz).1 t4
      obtain ⟨o, ho, oo⟩ := five (H6 := H5) (k := b) hz D3 t5 (by omega) x0 x1
      exact ⟨z, _, _, _, rfl, rfl, .of t5, ho, b13.trans ((But.of s4).trans b5), D5, o, oo, rfl⟩
    rintro σ' H4 ⟨b4, D4, odd, hodd, rfl⟩
    -- away
    refine ⟨fun σ' H' => But d H H' ∧ Deck H' d c (n + 5) ∧ ∃ away : Int, ¬ (0 ≤ away ∧ away < (fs.length : Int)) ∧ σ' = [some (.ref d), some (.ref a), some (.int (b : Int)), some (.int (fs.length : Int)), some (.int far), some (.int good), some (.int place), some (.int odd), some (.int away), none], ?_, ?_⟩
    · refine ⟨1, rfl, _, rfl, _, rfl, _, _, rfl, rfl, _, rfl, _, _, rfl, rfl, 1, rfl, _, rfl, _, _, rfl, rfl, _, rfl, _, _, rfl, rfl, by show 5 ≤ sizeLine; decide, fun z hz => ?_⟩
      generalize g5 : upd H4 z _ = H5
      obtain ⟨s5, t5⟩ := new_of g5 hz
      refine ⟨_, rfl, d, 5, c, _, rfl, D4.same s5, by omega, by decide, by decide, fun H6 x b6 D6 x0 x1 => ?_⟩
      have t6 := b6 _ _ (D4.out hz).1 t5
      obtain ⟨o, ho, oo⟩ := five (H6 := H6) (k := fs.length) hz D4 t6 (by omega) x0 x1
      exact ⟨z, _, _, _, rfl, rfl, .of t6, ho, b4.trans ((But.of s5).trans b6), D6, o, oo, rfl⟩
    rintro σ' H5 ⟨b5, D5, away, haway, rfl⟩
    -- found
    refine ⟨_, rfl, by show 3 ≤ sizeLine; decide, fun u1 h1 => ?_⟩
    generalize k1 : upd H5 u1 _ = J1
    obtain ⟨s1, t1⟩ := new_of k1 h1
    refine ⟨_, rfl, _, rfl, by show 3 ≤ sizeLine; decide, fun u2 h2 => ?_⟩
    generalize k2 : upd J1 u2 _ = J2
    obtain ⟨s2, t2⟩ := new_of k2 h2
    refine ⟨_, rfl, _, rfl, by show 3 ≤ sizeLine; decide, fun u3 h3 => ?_⟩
    generalize k3 : upd J2 u3 _ = J3
    obtain ⟨s3, t3⟩ := new_of k3 h3
    refine ⟨_, rfl, _, rfl, by show 3 ≤ sizeLine; decide, fun u4 h4 => ?_⟩
    generalize k4 : upd J3 u4 _ = J4
    obtain ⟨s4, t4⟩ := new_of k4 h4
    refine ⟨by show 4 ≤ sizeLine; decide, fun l1 hl1 => ?_⟩
    generalize k5 : upd J4 l1 _ = J5
    obtain ⟨s5, t5⟩ := new_of k5 hl1
    refine ⟨_, rfl, _, rfl, by show 3 ≤ sizeLine; decide, fun u5 h5 => ?_⟩
    generalize k6 : upd J5 u5 _ = J6
    obtain ⟨s6, t6⟩ := new_of k6 h5
    refine ⟨_, rfl, _, _, rfl, rfl, _, rfl, by show 3 ≤ sizeLine; decide, fun u6 h6 => ?_⟩
    generalize k7 : upd J6 u6 _ = J7
    obtain ⟨s7, t7⟩ := new_of k7 h6
    refine ⟨_, rfl, by show 3 ≤ sizeLine; decide, fun u7 h7 => ?_⟩
    generalize k8 : upd J7 u7 _ = J8
    obtain ⟨s8, t8⟩ := new_of k8 h7
    refine ⟨by show 3 ≤ sizeLine; decide, fun l2 hl2 => ?_⟩
    generalize k9 : upd J8 l2 _ = J9
    obtain ⟨s9, t9⟩ := new_of k9 hl2
    have s69 := s6.trans (s7.trans (s8.trans s9))
    refine ⟨l1, l2, _, _, rfl, rfl, s69 _ _ t5, t9, by show 4 + 3 ≤ sizeLine; decide, fun l3 hl3 => ?_⟩
    generalize k10 : upd J9 l3 _ = J10
    obtain ⟨s10, t10⟩ := new_of k10 hl3
    have s15 := s1.trans (s2.trans (s3.trans (s4.trans s5)))
    have all := s15.trans (s69.trans s10)
    have e8 := (s9.trans s10) _ _ t8
    have e7 := (s8.trans (s9.trans s10)) _ _ t7
    have e6 := (s7.trans (s8.trans (s9.trans s10))) _ _ t6
    have e4 := (s5.trans (s69.trans s10)) _ _ t4
    have e3 := (s4.trans (s5.trans (s69.trans s10))) _ _ t3
    have e2 := (s3.trans (s4.trans (s5.trans (s69.trans s10)))) _ _ t2
    have e1 := (s2.trans (s3.trans (s4.trans (s5.trans (s69.trans s10))))) _ _ t1
    have base7 : ∀ v ∈ [V.ref u1, .ref u2, .ref u3, .ref u4, .ref u5, .ref u6, .ref u7], BadAt b fs.length J10 v := fun v hv => by
      simp only [List.mem_cons, List.not_mem_nil, or_false] at hv
      rcases hv with rfl | rfl | rfl | rfl | rfl | rfl | rfl
      · exact ⟨u1, _, _, _, rfl, e1, .inl ⟨rfl, rfl, hodd⟩⟩
      · exact ⟨u2, _, _, _, rfl, e2, .inr ⟨_, rfl, .inr ⟨rfl, by omega, by omega, fun z => hodd ⟨z.1, z.2.1⟩⟩⟩⟩
      · exact ⟨u3, _, _, _, rfl, e3, .inr ⟨_, rfl, .inl ⟨rfl, haway⟩⟩⟩
      · exact ⟨u4, _, _, _, rfl, e4, .inr ⟨_, rfl, .inl ⟨rfl, haway⟩⟩⟩
      · exact ⟨u5, _, _, _, rfl, e6, .inr ⟨_, rfl, .inr ⟨rfl, by omega, by omega, fun z => hodd ⟨z.1, z.2.1⟩⟩⟩⟩
      · exact ⟨u6, _, _, _, rfl, e7, .inr ⟨_, rfl, .inr ⟨rfl, by omega, by omega, fun z => hodd ⟨z.1, z.2.1⟩⟩⟩⟩
      · exact ⟨u7, _, _, _, rfl, e8, .inr ⟨_, rfl, .inl ⟨rfl, by omega⟩⟩⟩
    have nl3 : H l3 = none := b5.fresh D5.there ((s15.trans s69).free hl3)
    refine ⟨_, rfl, _, _, rfl, rfl, _, rfl, ite2 (fun c1 => ?_) (fun _ => ?_)⟩
    · have many1 := of_decide_eq_true c1
      refine ⟨_, rfl, .inl ⟨rfl, _, .of t10⟩, _, rfl, _, _, rfl, rfl, by show 3 ≤ sizeLine; decide, fun u8 h8 => ?_⟩
      generalize k11 : upd J10 u8 _ = J11
      obtain ⟨s11, t11⟩ := new_of k11 h8
      refine ⟨l3, _, _, rfl, rfl, s11 _ _ t10, small_len (by show 7 ≤ 16000000; decide), ?_⟩
      generalize k12 : upd J11 l3 _ = J12
      obtain ⟨b12, t12⟩ := set_of k12
      have D12 : Deck J12 d c (n + 5) := ((D5.same all).same s11).frm (Frm.but b12 ⟨_, t12⟩) (by
        have := ((D5.same (s15.trans s69)).out hl3).1
        simpa using this.symm) (by
        have := ((D5.same (s15.trans s69)).out hl3).2
        simpa using this.symm)
      have tupJ : ∀ t xs, J11 t = some (.tup xs) → J12 t = some (.tup xs) := fun t xs e => b12 _ _ (ne_of e (s11 _ _ t10) fun z => by cases z) e
      have bb : But d H J12 := by
        rw [← k12]
        exact But.own (b5.trans (.of (all.trans s11))) nl3
      refine ⟨_, rfl, q _ l3 _ bb D12 nl3 t12 (by show 7 ≤ 8; decide) (by show 8 ≤ 8; decide) fun v hv => ?_⟩
      rcases List.mem_append.mp hv with hv | hv
      · exact (base7 v hv).mono fun t xs e => tupJ _ _ (s11 _ _ e)
      · cases List.mem_singleton.mp hv
        exact ⟨u8, _, _, _, rfl, tupJ _ _ t11, .inr ⟨_, rfl, .inr ⟨rfl, by omega, by omega, fun z => by have := z.2.2 rfl (by omega); omega⟩⟩⟩
    · exact ⟨_, rfl, q _ l3 _ (b5.trans (.of all)) (D5.same all) nl3 t10 (by show 7 ≤ 7; decide) (by show 7 ≤ 8; decide) base7⟩

/-! ### KeptNumber__init -/
def sp_KeptNumber__init (C : Addr) : Sp := fun vs H Q _ => ∃ (p dx : Addr) (b pw : Nat), vs = [.ref p, .int (b : Int), .int (pw : Int)] ∧ H p = some (.ins C dx []) ∧ OkN b pw ∧
  ∀ H' w l, KeptAt C H' p w l b pw [0] → H w = none → H l = none → Frm [p] H H' → Q .non H'
theorem ok_KeptNumber__init (T : Txt K mg) : FnOk P w K mg base CX0 3 T.f_KeptNumber__init T.fd_KeptNumber__init ["self", "base", "power"] (sp_KeptNumber__init T.k_KeptNumber) := by
  refine T.F_KeptNumber__init.ok sc_KeptNumber__init (fun vs H Q E h => ?_) (fun cdv A outer s H vs Q E hr h => ?_)
  · obtain ⟨_, _, _, _, rfl, _⟩ := h
    rfl
  · obtain ⟨p, dx, b, pw, rfl, e, ok, q⟩ := h
    refine ⟨_, (pss_cons (ps_fld (pv 0) (pv 1) rfl)
      (pss_cons (ps_fld (pv 0) (pv 2) rfl)
      (pss_cons (ps_fld (pv 0) (pe_call (ok_worths_of T) hr (by rfl) T.g_worths_of T.F_worths_of.kp T.b_worths_of .nil pass0 (pa_cons (pv 1) (pa_cons (pv 2) pa_nil))) rfl)
      (pss_one (ps_fld (pv 0) (pe_lst (pa_cons pe_int pa_nil)) rfl))))), ?_⟩
    refine ⟨_, rfl, _, rfl, p, _, dx, _, rfl, e, T.cl_KeptNumber, T.na_KeptNumber_base, by show 0 < 1000; decide, ?_⟩
    generalize g1 : upd H p _ = H1
    obtain ⟨b1, t1⟩ := set_of g1
    refine ⟨_, rfl, _, rfl, p, _, dx, _, rfl, t1, T.cl_KeptNumber, T.na_KeptNumber_power, by show 1 < 1000; decide, ?_⟩
    generalize g2 : upd H1 p _ = H2
    obtain ⟨b2, t2⟩ := set_of g2
    refine ⟨_, rfl, _, rfl, b, pw, rfl, ok.hb16, ok.hp, fun H3 w s3 nw ew => ?_⟩
    refine ⟨_, rfl, p, _, dx, _, rfl, s3 _ _ t2, T.cl_KeptNumber, T.na_KeptNumber_worths, kf2_len _ _, ?_⟩
    generalize g4 : upd H3 p _ = H4
    obtain ⟨b4, t4⟩ := set_of g4
    have p0 := s3 _ _ t2
    have npw : p ≠ w := ne_of_none t2 nw
    have w4 : H4 w = some (.lst (ivs (wts b pw))) := b4 _ _ npw.symm ew
    refine ⟨by show 1 ≤ sizeLine; decide, fun l hl => ?_⟩
    generalize g5 : upd H4 l _ = H5
    obtain ⟨s5, t5⟩ := new_of g5 hl
    have npl : p ≠ l := ne_of_none t4 hl
    refine ⟨_, rfl, p, _, dx, _, rfl, s5 _ _ t4, T.cl_KeptNumber, T.na_KeptNumber_figures, kf3_len _ _ _, ?_⟩
    generalize g6 : upd H5 p _ = H6
    obtain ⟨b6, t6⟩ := set_of g6
    have F12 : Frm [p] H H2 := (Frm.but b1 ⟨_, t1⟩).trans (Frm.but b2 ⟨_, t2⟩)
    have F4 : Frm [p] H H4 := F12.trans ((Frm.of _ s3).trans (Frm.but b4 ⟨_, t4⟩))
    have F : Frm [p] H H6 := F4.trans ((Frm.of _ s5).trans (Frm.but b6 ⟨_, t6⟩))
    exact q H6 w l ⟨⟨dx, t6⟩, b6 _ _ npw.symm (s5 _ _ w4), b6 _ _ npl.symm t5, ne_of_none w4 hl, ok, Good.zero ok.hb⟩ (F12.fr _ nw) (F4.fr _ hl) F

/-! ### law -/
def sp_law (K : PySem.W.Frag) : Sp := fun vs H Q _ => ∃ (a : Addr) (ns : List Int), vs = [.ref a] ∧ SqL K H a (ns.map V.int) ∧ ns.length ≤ 63 ∧ ∀ H', Q (.bl true) H'
theorem law_start {K : PySem.W.Frag} {H : Hp} {a : Addr} {ns : List Int} {E : XK} (hl : ns.length ≤ 63) (hS : SqL K H a (ns.map V.int)) : sp_law K [.ref a] H (fun v _ => v = .bl true) E := ⟨a, ns, rfl, hS, hl, fun _ => rfl⟩
theorem shaped_str {x : Str} (h : PyData.strOk x = true) : SeqAt.shaped (.tuple [.str x]) = true := shaped_tup (by rw [PyData.canLayAll0, PyData.canLayAll0, PyData.canLay0, h]; rfl) (by unfold PyData.depthAll PyData.depthAll PyData.depth; omega)
theorem shaped_non : SeqAt.shaped (.list [.none]) = true := shaped_list (by rw [PyData.canLayAll0, PyData.canLayAll0, PyData.canLay0]; rfl) (by unfold PyData.depthAll PyData.depthAll PyData.depth; omega)
theorem shaped_word {b L : Nat} {plv : V} {f : Int} {due : Str} (h : BadE b L plv f due) : SeqAt.shaped (.tuple [.str due]) = true := by
  have : due = "figure" ∨ due = "place" := by
    rcases h with ⟨_, h, _⟩ | ⟨_, _, ⟨h, _⟩ | ⟨h, _⟩⟩
    · exact .inl h
    · exact .inr h
    · exact .inl h
  rcases this with rfl | rfl
  · exact shaped_str (by decide +kernel)
  · exact shaped_str (by decide +kernel)
/-- a kept number and the law's own row of its figures -/
structure L31 (C d c p w : Addr) (b pw n : Nat) (l a : Addr) (fs : List Nat) (H : Hp) : Prop where
  deck : Deck H d c n
  kn : KeptAt C H p w l b pw fs
  cl : c ≠ l
  al : a ≠ l
  ea : H a = some (.lst (ivs fs))
theorem L31.same {C d c p w : Addr} {b pw n : Nat} {l a : Addr} {fs : List Nat} {H H' : Hp} (h : L31 C d c p w b pw n l a fs H) (s : Same H H') : L31 C d c p w b pw n l a fs H' := ⟨h.deck.same s, h.kn.same s, h.cl, h.al, s _ _ h.ea⟩
theorem L31.but {C d c p w : Addr} {b pw n m : Nat} {l a : Addr} {fs : List Nat} {H H' : Hp} (h : L31 C d c p w b pw n l a fs H) (s : But d H H') (D : Deck H' d c m) : L31 C d c p w b pw m l a fs H' := ⟨D, h.kn.but h.deck s, h.cl, h.al, s _ _ (h.deck.notInts h.ea) h.ea⟩
theorem L31.mono {C d c p w : Addr} {b pw n m : Nat} {l a : Addr} {fs : List Nat} {H : Hp} (h : L31 C d c p w b pw n l a fs H) (k : n ≤ m) : L31 C d c p w b pw m l a fs H := { h with deck := h.deck.mono k }
/-- what is refused is told by its word -/
theorem bad_alt {C p w l : Addr} {b pw : Nat} {fs : List Nat} {H : Hp} {plv : V} {f : Int} {due : Str} {R : Addr → Hp → Prop} (e : BadE b fs.length plv f due)
    (q : ∀ H' t, Same H H' → H' t = some (.tup [.str due]) → R t H') :
    ((plv = .non ∧ (∀ g : Nat, f = (g : Int) → g < b → fs.length < 40 ∧ ∀ H' l' t, KeptAt C H' p w l' b pw (putFs fs g) → (l' = l ∨ H l' = none) → Frm [p, l] H H' → H t = none → H' t = some (.lst [.non]) → R t H') ∧
      (¬ (0 ≤ f ∧ f < (b : Int)) → ∀ H' t, Same H H' → H' t = some (.tup [.str "figure"]) → R t H')) ∨
    ∃ pi : Int, plv = .int pi ∧ (¬ (0 ≤ pi ∧ pi < (fs.length : Int)) → ∀ H' t, Same H H' → H' t = some (.tup [.str "place"]) → R t H') ∧
      (0 ≤ pi → pi < (fs.length : Int) → ¬ (0 ≤ f ∧ f < (b : Int) ∧ (f = 0 → pi + 1 = (fs.length : Int) → fs.length = 1)) → ∀ H' t, Same H H' → H' t = some (.tup [.str "figure"]) → R t H') ∧
      (∀ pl g : Nat, pi = (pl : Int) → f = (g : Int) → g < b → pl < fs.length → (g = 0 → pl + 1 = fs.length → fs.length = 1) → ∀ H' t, KeptAt C H' p w l b pw (fs.set (fs.length - 1 - pl) g) → Frm [p, l] H H' → H t = none → H' t = some (.lst [.non]) → R t H')) := by
  rcases e with ⟨rfl, rfl, hf⟩ | ⟨pi, rfl, ⟨rfl, hp⟩ | ⟨rfl, h0, h1, hf⟩⟩
  · exact .inl ⟨rfl, fun g eg hg => absurd ⟨by omega, by omega⟩ hf, fun _ => q⟩
  · exact .inr ⟨pi, rfl, fun _ => q, fun z0 z1 => absurd ⟨z0, z1⟩ hp, fun pl g e1 e2 hg hl => absurd ⟨by omega, by omega⟩ hp⟩
  · exact .inr ⟨pi, rfl, fun z => absurd ⟨h0, h1⟩ z, fun _ _ _ => q, fun pl g e1 e2 hg hl hz => absurd ⟨by omega, by omega, fun z z2 => hz (by omega) (by omega)⟩ hf⟩
/-- a change that is let -/
theorem set_alt {C p w l : Addr} {b pw : Nat} {fs : List Nat} {H : Hp} {pi f : Int} {pl g : Nat} {R : Addr → Hp → Prop} (e1 : pi = (pl : Int)) (e2 : f = (g : Int)) (hg : g < b) (hp : pl < fs.length) (hz : g = 0 → pl + 1 = fs.length → fs.length = 1)
    (q : ∀ H' t, KeptAt C H' p w l b pw (fs.set (fs.length - 1 - pl) g) → Frm [p, l] H H' → H t = none → H' t = some (.lst [.non]) → R t H') :
    ((V.int pi = .non ∧ (∀ g : Nat, f = (g : Int) → g < b → fs.length < 40 ∧ ∀ H' l' t, KeptAt C H' p w l' b pw (putFs fs g) → (l' = l ∨ H l' = none) → Frm [p, l] H H' → H t = none → H' t = some (.lst [.non]) → R t H') ∧
      (¬ (0 ≤ f ∧ f < (b : Int)) → ∀ H' t, Same H H' → H' t = some (.tup [.str "figure"]) → R t H')) ∨
    ∃ pi' : Int, V.int pi = .int pi' ∧ (¬ (0 ≤ pi' ∧ pi' < (fs.length : Int)) → ∀ H' t, Same H H' → H' t = some (.tup [.str "place"]) → R t H') ∧
      (0 ≤ pi' → pi' < (fs.length : Int) → ¬ (0 ≤ f ∧ f < (b : Int) ∧ (f = 0 → pi' + 1 = (fs.length : Int) → fs.length = 1)) → ∀ H' t, Same H H' → H' t = some (.tup [.str "figure"]) → R t H') ∧
      (∀ pl g : Nat, pi' = (pl : Int) → f = (g : Int) → g < b → pl < fs.length → (g = 0 → pl + 1 = fs.length → fs.length = 1) → ∀ H' t, KeptAt C H' p w l b pw (fs.set (fs.length - 1 - pl) g) → Frm [p, l] H H' → H t = none → H' t = some (.lst [.non]) → R t H')) := by
  subst e1 e2
  refine .inr ⟨_, rfl, fun h => absurd ⟨by omega, by omega⟩ h, fun _ _ h => absurd ⟨by omega, by omega, fun a c => hz (by omega) (by omega)⟩ h, fun pl' g' a1 a2 _ _ _ => ?_⟩
  obtain rfl : pl = pl' := by omega
  obtain rfl : g = g' := by omega
  exact q
theorem first_set {fs : List Nat} (x : Nat) (h : fs ≠ []) : V.int ((x : Nat) : Int) :: ivs (fs.drop 1) = ivs (fs.set 0 x) := by
  match fs, h with
  | a :: r, _ => rfl
theorem shaped_four {x : Str} (h : PyData.strOk x = true) : SeqAt.shaped (.list [.str x, .str x, .str x, .str x]) = true := shaped_list (by rw [PyData.canLayAll0, PyData.canLayAll0, PyData.canLayAll0, PyData.canLayAll0, PyData.canLayAll0, PyData.canLay0, h]; rfl) (by unfold PyData.depthAll PyData.depthAll PyData.depthAll PyData.depthAll PyData.depthAll PyData.depth; omega)
theorem ok_law (T : Txt K mg) : FnOk P w K mg base CX0 7 T.f_law T.fd_law ["script"] (sp_law K) := by
  refine T.F_law.ok sc_law (fun vs H Q E h => ?_) (fun cdv A outer s H vs Q E hr h => ?_)
  · obtain ⟨_, _, rfl, _⟩ := h
    rfl
  · obtain ⟨a, ns, rfl, hS, hl, q⟩ := h
    have no1 : ∀ {m : Str} {b pw : Nat} {x y : Addr}, ¬ m = "base" → ¬ m = "power" → ¬ m = "worths" → ¬ m = "figures" → (kf (b : Int) (pw : Int) x y).lookup m = none := fun h1 h2 h3 h4 => kf_no _ _ _ _ h1 h2 h3 h4
    refine ⟨_, (pss_cons (ps_set (i := 1) sc_law.nd rfl (Or.inl rfl) (pe_call (ok__law_deck T) (hr.mono (by decide)) (by rfl) T.g__law_deck T.F__law_deck.kp T.b__law_deck .nil pass0 (pa_cons (pv 0) pa_nil)))
      (pss_cons (ps_asg (pe_call (ok__law_pair T) (hr.mono (by decide)) (by rfl) T.g__law_pair T.F__law_pair.kp T.b__law_pair .nil pass0 (pa_cons (pv 1) pa_nil)) (pg_tup rfl (pgs_cons (pg_name (i := 2) sc_law.nd rfl (Or.inl rfl)) (pgs_cons (pg_name (i := 3) sc_law.nd rfl (Or.inl rfl)) pgs_nil))))
      (C8.pss_cut (ps_set (i := 4) sc_law.nd rfl (Or.inl rfl) (pe_make T.M_KeptNumber (ok_KeptNumber__init T) (hr.mono (by decide)) (by rfl) T.gk_KeptNumber T.b_KeptNumber__init .nil pass0 (pa_cons (pv 2) (pa_cons (pv 3) pa_nil))))
      (C8.pss_cut (ps_set (i := 5) sc_law.nd rfl (Or.inl rfl) (pe_lst (pa_cons pe_int pa_nil)))
      (C8.pss_cut (ps_for PassesOwn.never rfl (pi_range1 (by rfl) T.m_range (pa_cons (pe_ix ix_list (pe_lst (pa_cons (pe_op op_add pe_int (pe_call (ok__law_next T) (hr.mono (by decide)) (by rfl) T.g__law_next T.F__law_next.kp T.b__law_next .nil pass0 (pa_cons (pv 1) (pa_cons pe_int pa_nil)))) (pa_cons pe_int pa_nil))) (pe_callTy (T := "int") call_int1 (by rfl) T.m_int (by decide +kernel) (pa_cons (pe_cmpR op_eq (pe_call (ok__law_next T) (hr.mono (by decide)) (by rfl) T.g__law_next T.F__law_next.kp T.b__law_next .nil pass0 (pa_cons (pv 1) (pa_cons pe_int pa_nil))) pe_int (nomark _)) pa_nil)) (fun _ _ => rfl)) pa_nil)) (pg_name (i := 6) sc_law.nd rfl (Or.inl rfl)) (C8.pss_cut (ps_for PassesOwn.never rfl (pi_list (pe_op op_rep (pe_lst (pa_cons (pe_ix ix_list (pe_call (ok__law_bad T) (hr.mono (by decide)) (by rfl) T.g__law_bad T.F__law_bad.kp T.b__law_bad .nil pass0 (pa_cons (pv 1) (pa_cons (pv 5) (pa_cons (pv 2) pa_nil)))) (pe_call (ok__law_next T) (hr.mono (by decide)) (by rfl) T.g__law_next T.F__law_next.kp T.b__law_next .nil pass0 (pa_cons (pv 1) (pa_cons pe_int pa_nil))) (fun _ _ => rfl)) pa_nil)) (pe_callTy (T := "int") call_int1 (by rfl) T.m_int (by decide +kernel) (pa_cons (pe_cmpR op_eq (pe_op op_mod (pv 6) pe_int) pe_int (nomark _)) pa_nil)))) (pg_tup rfl (pgs_cons (pg_name (i := 7) sc_law.nd rfl (Or.inl rfl)) (pgs_cons (pg_name (i := 8) sc_law.nd rfl (Or.inl rfl)) (pgs_cons (pg_name (i := 9) sc_law.nd rfl (Or.inl rfl)) pgs_nil)))) (pss_one (ps_if (PW.pt (pw_or (pt_cmpR (op_neD hr.units) (pe_call (ok__law_told T) (hr.mono (by decide)) (by rfl) T.g__law_told T.F__law_told.kp T.b__law_told .nil pass0 (pa_cons (pv 4) (pa_cons (pv 7) (pa_cons (pv 8) pa_nil)))) (pe_tup (pa_cons (pv 9) pa_nil)) (nomark _)) (pw_or1 (pt_cmpR op_ne (pe_meth0 (pv 4) T.cl_KeptNumber T.me_KeptNumber__number_now (ok_KeptNumber__number_now T) (hr.mono (by decide)) T.b_KeptNumber__number_now .nil pass0) (pe_call (ok__law_of T) (hr.mono (by decide)) (by rfl) T.g__law_of T.F__law_of.kp T.b__law_of .nil pass0 (pa_cons (pv 5) (pa_cons (pv 2) pa_nil))) (nomark _))))) (pss_one (ps_ret pe_bl)) pss_nil)))
      (C8.pss_cut (ps_set (i := 8) sc_law.nd rfl (Or.inl rfl) (pe_call (ok__law_next T) (hr.mono (by decide)) (by rfl) T.g__law_next T.F__law_next.kp T.b__law_next .nil pass0 (pa_cons (pv 1) (pa_cons (pv 2) pa_nil))))
      (pss_cons (ps_if (pt_cmpR (op_neD hr.units) (pe_call (ok__law_told T) (hr.mono (by decide)) (by rfl) T.g__law_told T.F__law_told.kp T.b__law_told .nil pass0 (pa_cons (pv 4) (pa_cons pe_non (pa_cons (pv 8) pa_nil)))) (pe_lst (pa_cons pe_non pa_nil)) (nomark _)) (pss_one (ps_ret pe_bl)) pss_nil)
      (pss_one (ps_set (i := 5) sc_law.nd rfl (Or.inl rfl) (pe_op op_cat (pe_ix ix_list (pe_lst (pa_cons (pv 5) (pa_cons (pe_lst pa_nil) pa_nil))) (pe_callTy (T := "int") call_int1 (by rfl) T.m_int (by decide +kernel) (pa_cons (pe_cmpR (op_eqD hr.units) (pv 5) (pe_lst (pa_cons pe_int pa_nil)) (nomark _)) pa_nil)) (fun _ _ => rfl)) (pe_lst (pa_cons (pv 8) pa_nil)))))))))
      (C8.pss_cut (ps_for PassesOwn.never rfl (pi_list (pe_op op_cat (pe_call (ok__law_bad T) (hr.mono (by decide)) (by rfl) T.g__law_bad T.F__law_bad.kp T.b__law_bad .nil pass0 (pa_cons (pv 1) (pa_cons (pv 5) (pa_cons (pv 2) pa_nil)))) (pe_call (ok__law_bad T) (hr.mono (by decide)) (by rfl) T.g__law_bad T.F__law_bad.kp T.b__law_bad .nil pass0 (pa_cons (pv 1) (pa_cons (pv 5) (pa_cons (pv 2) pa_nil)))))) (pg_tup rfl (pgs_cons (pg_name (i := 7) sc_law.nd rfl (Or.inl rfl)) (pgs_cons (pg_name (i := 8) sc_law.nd rfl (Or.inl rfl)) (pgs_cons (pg_name (i := 9) sc_law.nd rfl (Or.inl rfl)) pgs_nil)))) (pss_one (ps_if (PW.pt (pw_or (pt_cmpR (op_neD hr.units) (pe_call (ok__law_told T) (hr.mono (by decide)) (by rfl) T.g__law_told T.F__law_told.kp T.b__law_told .nil pass0 (pa_cons (pv 4) (pa_cons (pv 7) (pa_cons (pv 8) pa_nil)))) (pe_tup (pa_cons (pv 9) pa_nil)) (nomark _)) (pw_or1 (pt_not (pt_val (pe_call (ok__law_as_due T) hr (by rfl) T.g__law_as_due T.F__law_as_due.kp T.b__law_as_due .nil pass0 (pa_cons (pv 1) (pa_cons (pv 4) (pa_cons (pv 5) (pa_cons (pv 2) (pa_cons (pv 3) pa_nil))))))))))) (pss_one (ps_ret pe_bl)) pss_nil)))
      (pss_cons (ps_if (PW.pt (pw_or (pt_cmpR (op_neD hr.units) (pe_call (ok__law_told T) (hr.mono (by decide)) (by rfl) T.g__law_told T.F__law_told.kp T.b__law_told .nil pass0 (pa_cons (pv 4) (pa_cons (pe_op op_sub (pe_callB (id := "len") call_len_seq (by rfl) T.m_len (by decide +kernel) (pa_cons (pv 5) pa_nil)) pe_int) (pa_cons pe_int pa_nil)))) (pe_lst (pa_cons pe_non pa_nil)) (nomark _)) (pw_or1 (pt_not (pt_val (pe_call (ok__law_as_due T) hr (by rfl) T.g__law_as_due T.F__law_as_due.kp T.b__law_as_due .nil pass0 (pa_cons (pv 1) (pa_cons (pv 4) (pa_cons (pe_op op_cat (pe_lst (pa_cons pe_int pa_nil)) (pe_slice sl_list (pv 5) (po_some pe_int) po_none)) (pa_cons (pv 2) (pa_cons (pv 3) pa_nil))))))))))) (pss_one (ps_ret pe_bl)) pss_nil)
      (pss_cons (ps_set (i := 10) sc_law.nd rfl (Or.inl rfl) (pe_ix ix_list (pe_lst (pa_cons pe_str (pa_cons pe_str (pa_cons pe_str (pa_cons (pe_op op_add_str (pe_op op_mulS2 pe_str pe_int) pe_str) pa_nil))))) (pe_call (ok__law_next T) (hr.mono (by decide)) (by rfl) T.g__law_next T.F__law_next.kp T.b__law_next .nil pass0 (pa_cons (pv 1) (pa_cons pe_int pa_nil))) (fun _ _ => rfl)))
      (pss_cons (ps_if (pt_cmpR (op_neD hr.units) (pe_lst (pa_cons (pe_strExc (by rfl) T.m_str PySem.F.excBase_ValueError T.xq_NoAsk T.gk_NoAsk T.I_NoAsk.kp (by rfl) T.st_NoAsk T.x_NoAsk.bx (hu2 hr) (pv 10)) (pa_cons (pe_strExc (by rfl) T.m_str PySem.F.excBase_ValueError T.xq_NoFigure T.gk_NoFigure T.I_NoFigure.kp (by rfl) T.st_NoFigure T.x_NoFigure.bx (hu2 hr) (pv 10)) (pa_cons (pe_strExc (by rfl) T.m_str PySem.F.excBase_ValueError T.xq_NoPlace T.gk_NoPlace T.I_NoPlace.kp (by rfl) T.st_NoPlace T.x_NoPlace.bx (hu2 hr) (pv 10)) (pa_cons (pe_strExc (by rfl) T.m_str PySem.F.excBase_ValueError T.xq_NoRound T.gk_NoRound T.I_NoRound.kp (by rfl) T.st_NoRound T.x_NoRound.bx (hu2 hr) (pv 10)) pa_nil))))) (pe_op op_rep (pe_lst (pa_cons (pv 10) pa_nil)) pe_int) (nomark _)) (pss_one (ps_ret pe_bl)) pss_nil)
      (pss_cons (ps_set (i := 11) sc_law.nd rfl (Or.inl rfl) (pe_make T.M_KeptNumber (ok_KeptNumber__init T) (hr.mono (by decide)) (by rfl) T.gk_KeptNumber T.b_KeptNumber__init .nil pass0 (pa_cons (pv 2) (pa_cons (pv 3) pa_nil))))
      (pss_cons (ps_if (PW.pt (pw_or (pt_cmpR (op_neD hr.units) (pe_call (ok__law_told T) (hr.mono (by decide)) (by rfl) T.g__law_told T.F__law_told.kp T.b__law_told .nil pass0 (pa_cons (pv 11) (pa_cons pe_int (pa_cons pe_int pa_nil)))) (pe_lst (pa_cons pe_non pa_nil)) (nomark _)) (pw_or1 (pt_cmpR (op_neD hr.units) (pe_call (ok__law_told T) (hr.mono (by decide)) (by rfl) T.g__law_told T.F__law_told.kp T.b__law_told .nil pass0 (pa_cons (pv 11) (pa_cons pe_int (pa_cons (pe_op op_sub (pv 2) pe_int) pa_nil)))) (pe_lst (pa_cons pe_non pa_nil)) (nomark _))))) (pss_one (ps_ret pe_bl)) pss_nil)
      (pss_one (ps_ret (pe_and (pe_cmpR (op_eqD hr.units) (pe_call (ok__law_told T) (hr.mono (by decide)) (by rfl) T.g__law_told T.F__law_told.kp T.b__law_told .nil pass0 (pa_cons (pv 11) (pa_cons pe_int (pa_cons pe_int pa_nil)))) (pe_lst (pa_cons pe_non pa_nil)) (nomark _)) (pe_and (pe_cmpR op_eq (pe_meth0 (pv 11) T.cl_KeptNumber T.me_KeptNumber__number_now (ok_KeptNumber__number_now T) (hr.mono (by decide)) T.b_KeptNumber__number_now .nil pass0) pe_int (nomark _)) (pe_one (pe_cmpR (op_eqD hr.units) (pe_call (ok__law_told T) (hr.mono (by decide)) (by rfl) T.g__law_told T.F__law_told.kp T.b__law_told .nil pass0 (pa_cons (pv 11) (pa_cons pe_int (pa_cons pe_int pa_nil)))) (pe_tup (pa_cons pe_str pa_nil)) (nomark _)))))))))))))))))), ?_⟩
    refine ⟨_, rfl, a, ns, rfl, hS, fun H1 d c s1 nd nc D1 => ?_⟩
    refine ⟨_, rfl, d, c, 0, rfl, D1, by omega, fun H2 t B P b2 D2 n2 e2 ok => ?_⟩
    obtain ⟨b, pw, rfl, rfl, _⟩ := ok.nat
    refine ⟨t, _, rfl, .of e2, rfl, _, _, rfl, _, _, rfl, rfl, ?_⟩
    have okN : OkN b pw := ⟨ok⟩
    have hb := okN.hb
    have hb16 := okN.hb16
    -- the kept number
    refine ⟨fun σ' H' => Same H2 H' ∧ ∃ p w l, σ' = [some (.ref a), some (.ref d), some (.int (b : Int)), some (.int (pw : Int)), some (.ref p), none, none, none, none, none, none, none] ∧ KeptAt T.k_KeptNumber H' p w l b pw [0] ∧ H2 l = none, ?_, ?_⟩
    · refine ⟨_, rfl, _, rfl, fun x dx nx ndx nex => ⟨x, dx, b, pw, rfl, upd_same, okN, fun H4 w l k4 nw nl F4 => ⟨rfl, ?_⟩⟩⟩
      obtain ⟨s4, nw', nl'⟩ := made nx ndx nex k4 nw nl F4
      exact ⟨s4, x, w, l, rfl, k4, nl'⟩
    rintro σ' H3 ⟨s3, p, w, l, rfl, K3, nl⟩
    have D3 := D2.same s3
    have ncl : c ≠ l := by
      obtain ⟨_, _, _, _, _, _, ec, _⟩ := D2.ex
      exact ne_of_none ec nl
    -- figures
    refine ⟨fun σ' H' => ∃ a', L31 T.k_KeptNumber d c p w b pw 3 l a' [0] H' ∧ σ' = [some (.ref a), some (.ref d), some (.int (b : Int)), some (.int (pw : Int)), some (.ref p), some (.ref a'), none, none, none, none, none, none], ?_, ?_⟩
    · refine ⟨by show 1 ≤ sizeLine; decide, fun z hz => ?_⟩
      exact ⟨z, ⟨D3.same (Same.new hz), K3.same (Same.new hz), ncl, (ne_of_none K3.fg hz).symm, upd_same⟩, rfl⟩
    rintro σ' H4 ⟨a0, L4, rfl⟩
    -- put one by one, some refused between
    refine ⟨fun σ' H' => ∃ (l a' : Addr) (fs : List Nat) (y6 y7 y8 y9 : Option V), fs.length ≤ 40 ∧ L31 T.k_KeptNumber d c p w b pw 600 l a' fs H' ∧ σ' = [some (.ref a), some (.ref d), some (.int (b : Int)), some (.int (pw : Int)), some (.ref p), some (.ref a'), y6, y7, y8, y9, none, none], ?_, ?_⟩
    · refine ⟨_, rfl, d, 24, c, 3, rfl, L4.deck, by omega, by decide, by decide, fun H5 r b5 D5 r0 r1 => ?_⟩
      have L5 := L4.but b5 D5
      refine ⟨_, _, rfl, rfl, by show 2 ≤ sizeLine; decide, fun z hz => ?_⟩
      generalize g6 : upd H5 z _ = H6
      obtain ⟨s6, t6⟩ := new_of g6 hz
      have L6 := L5.same s6
      refine ⟨_, rfl, d, 4, c, _, rfl, L6.deck, by omega, by decide, by decide, fun H7 r7 b7 D7 r70 r71 => ⟨rfl, .inr ⟨_, rfl, ?_⟩⟩⟩
      have L7 := L6.but b7 D7
      have t7 := b7 _ _ (D5.out hz).1 t6
      have hk : ∃ k : Int, atI [V.int (1 + r), .int 40] (if decide (V.int r7 = V.int 0) = true then 1 else 0) = some (.int k) ∧ 0 ≤ k ∧ k ≤ 40 := by
        by_cases c0 : V.int r7 = V.int 0
        · rw [decide_eq_true c0]
          exact ⟨40, rfl, by decide, by decide⟩
        · rw [decide_eq_false c0]
          exact ⟨1 + r, rfl, by omega, by omega⟩
      obtain ⟨k, hk, k0, k40⟩ := hk
      refine ⟨z, _, _, _, rfl, rfl, .of t7, hk, k, rfl, by omega, by omega, for_range (lo := 0) (n := k.toNat) (fun i σ' H' => ∃ (l a' : Addr) (fs : List Nat) (y6 y7 y8 y9 : Option V), (i = 0 → fs = [0]) ∧ fs.length ≤ max 1 i ∧ L31 T.k_KeptNumber d c p w b pw (5 + 8 * i) l a' fs H' ∧ σ' = [some (.ref a), some (.ref d), some (.int (b : Int)), some (.int (pw : Int)), some (.ref p), some (.ref a'), y6, y7, y8, y9, none, none]) ⟨l, a0, [0], none, none, none, none, fun _ => rfl, by show 1 ≤ max 1 0; decide, L7, rfl⟩ ?_ ?_⟩
      · rintro i σ' H8 hi ⟨l, a', fs, y6, y7, y8, y9, f0, fl, L8, rfl⟩
        have n0 : 5 + 8 * i ≤ 400 := by omega
        generalize en : 5 + 8 * i = n at L8 n0
        have g8 := L8.kn.good
        -- what is refused
        refine ⟨fun σ' H' => ∃ (y7 y8 y9 : Option V), L31 T.k_KeptNumber d c p w b pw (n + 6) l a' fs H' ∧ σ' = [some (.ref a), some (.ref d), some (.int (b : Int)), some (.int (pw : Int)), some (.ref p), some (.ref a'), some (.int (0 + (i : Int))), y7, y8, y9, none, none], ?_, ?_⟩
        · refine ⟨_, rfl, _, rfl, _, rfl, d, c, a', n, b, fs, rfl, L8.deck, by omega, hb, hb16, L8.ea, g8.ne, g8.len, fun H9 t9 vs9 b9 D9 nt9 et9 l7 l8' all9 => ?_⟩
          have L9 := L8.but b9 D9
          refine ⟨_, rfl, d, 7, c, _, rfl, D9, by omega, by decide, by decide, fun H10 r10 b10 D10 r100 r101 => ?_⟩
          have L10 := L9.but b10 D10
          have nt9d : t9 ≠ d := fun z => by
            obtain ⟨o, ho⟩ := L8.deck.there
            rw [z, ho] at nt9
            cases nt9
          have et10 := b10 _ _ nt9d et9
          obtain ⟨j, rfl⟩ := Int.eq_ofNat_of_zero_le r100
          obtain ⟨v, hv'⟩ : ∃ v, vs9[j]? = some v := ⟨_, List.getElem?_eq_getElem (by omega)⟩
          have hv := atI_nat hv'
          refine ⟨t9, _, _, v, rfl, rfl, .of et10, hv, by show 1 ≤ sizeLine; decide, fun z11 h11 => ?_⟩
          generalize g11 : upd H10 z11 _ = H11
          obtain ⟨s11, t11⟩ := new_of g11 h11
          have bd : 0 ≤ (if decide (V.int ((0 + (i : Int)) % 4) = V.int 0) = true then 1 else 0 : Int) ∧ (if decide (V.int ((0 + (i : Int)) % 4) = V.int 0) = true then 1 else 0 : Int) ≤ 1 := by
            constructor <;> split <;> decide
          refine ⟨_, rfl, _, _, rfl, rfl, by show (0 : Int) < 4; decide, rfl, .inr ⟨_, rfl, ?_⟩⟩
          refine ⟨z11, _, _, rfl, rfl, t11, by omega, by omega, ?_, fun z12 h12 => ?_⟩
          · have e1 : ([v] : List V).length = 1 := rfl
            rw [e1]
            refine Nat.le_trans (show _ ≤ 1 from ?_) (by decide)
            omega
          generalize g12 : upd H11 z12 _ = H12
          obtain ⟨s12, t12⟩ := new_of g12 h12
          have L12 := (L10.same s11).same s12
          have bad12 : BadAt b fs.length H12 v := by
            exact (all9 v (List.mem_of_getElem? hv')).mono fun t xs e => s12 _ _ (s11 _ _ (b10 _ _ (D9.notTup' e) e))
          obtain ⟨X, hX, tX⟩ : ∃ X : List V, (∀ x ∈ X, x = v) ∧ H12 z12 = some (.lst X) := by
            refine ⟨_, fun x hx => ?_, t12⟩
            simp only [List.mem_flatten, List.mem_replicate] at hx
            obtain ⟨l', ⟨_, rfl⟩, hm⟩ := hx
            exact List.mem_singleton.mp hm
          refine ⟨z12, rfl, ⟨_, .of tX⟩, for_list (xs := X) (fun j σ' H' => Same H12 H' ∧ ∃ (y7 y8 y9 : Option V), σ' = [some (.ref a), some (.ref d), some (.int (b : Int)), some (.int (pw : Int)), some (.ref p), some (.ref a'), some (.int (0 + (i : Int))), y7, y8, y9, none, none]) ⟨fun _ _ e => e, _, _, _, rfl⟩ ?_ ?_ ?_⟩
          · rintro j σ' H' hj ⟨s13, _⟩
            exact .of (s13 _ _ tX)
          · rintro j x σ' H13 hx ⟨s13, y7, y8, y9, rfl⟩
            have ex := hX x (List.mem_of_getElem? hx)
            subst ex
            obtain ⟨u, plv, f, due, rfl, eu, be⟩ := bad12
            have L13 := L12.same s13
            have eu13 := s13 _ _ eu
            refine ⟨u, _, rfl, .of eu13, rfl, _, _, rfl, _, _, rfl, _, _, rfl, rfl, ?_⟩
            refine ⟨_, rfl, _, rfl, _, rfl, p, w, l, b, pw, fs, plv, f, rfl, L13.kn, bad_alt be fun H14 t14 s14 et14 => ?_⟩
            have L14 := L13.same s14
            refine ⟨_, rfl, by show 1 ≤ sizeLine; decide, fun z15 h15 => ?_⟩
            generalize g15 : upd H14 z15 _ = H15
            obtain ⟨s15, t15⟩ := new_of g15 h15
            have sw := shaped_word be
            refine ⟨_, _, .tup (.of (s15 _ _ et14)) (.cons (.str _) .nil), .tup (.of t15) (.cons (.str _) .nil), sw, sw, false, by rw [eqv_same sw]; rfl, iteF ?_⟩
            have L15 := L14.same s15
            obtain ⟨dx15, e15⟩ := L15.kn.ins
            refine ⟨_, rfl, p, dx15, _, rfl, e15, no1 (by decide +kernel) (by decide +kernel) (by decide +kernel) (by decide +kernel), p, w, l, b, pw, fs, rfl, L15.kn, _, rfl, _, rfl, a', b, fs, rfl, hb16, .inl (.of L15.ea), rfl, false, by rw [decide_eq_true rfl]; rfl, iteF ⟨s13.trans (s14.trans s15), _, _, _, rfl⟩⟩
          · rintro σ' H13 ⟨s13, y7, y8, y9, rfl⟩
            exact ⟨_, _, _, L12.same s13, rfl⟩
        rintro σ' H9 ⟨y7, y8, y9, L9, rfl⟩
        -- a figure
        refine ⟨fun σ' H' => ∃ g : Nat, g < b ∧ L31 T.k_KeptNumber d c p w b pw (n + 7) l a' fs H' ∧ σ' = [some (.ref a), some (.ref d), some (.int (b : Int)), some (.int (pw : Int)), some (.ref p), some (.ref a'), some (.int (0 + (i : Int))), y7, some (.int (g : Int)), y9, none, none], ?_, ?_⟩
        · refine ⟨_, rfl, _, rfl, d, (b : Int), c, _, rfl, L9.deck, by omega, by omega, by omega, fun H10 r10 b10 D10 r100 r101 => ?_⟩
          obtain ⟨g, rfl⟩ : ∃ g : Nat, r10 = (g : Int) := ⟨r10.toNat, by omega⟩
          exact ⟨g, by omega, L9.but b10 D10, rfl⟩
        rintro σ' H10 ⟨g, hg, L10, rfl⟩
        -- it is put
        have nF : (g : Int) = (g : Int) := rfl
        refine ⟨_, rfl, _, rfl, p, w, l, b, pw, fs, .non, (g : Int), rfl, L10.kn, .inl ⟨rfl, fun g' eg hg' => ⟨by omega, fun H11 l11 t11 K11 o11 F11 nt11 et11 => ?_⟩, fun z => absurd ⟨by omega, by omega⟩ z⟩⟩
        obtain rfl : g = g' := by omega
        refine ⟨by show 1 ≤ sizeLine; decide, fun z12 h12 => ?_⟩
        generalize g12 : upd H11 z12 _ = H12
        obtain ⟨s12, t12⟩ := new_of g12 h12
        refine ⟨_, _, .lst (.of (s12 _ _ et11)) (.cons .non .nil), .lst (.of t12) (.cons .non .nil), shaped_non, shaped_non, false, by rw [eqv_same shaped_non]; rfl, iteF ?_⟩
        -- the law's own row
        have kd := L10.kn.deck L10.deck
        obtain ⟨dx10, e10⟩ := L10.kn.ins
        obtain ⟨cn, q1, q2, q3, q4, cd10, cc10, _⟩ := L10.deck.ex
        have notIn : ∀ {x : Addr}, x ≠ p → x ≠ l → x ∉ [p, l] := fun h1 h2 => by
          simp only [List.mem_cons, List.not_mem_nil, or_false, not_or]
          exact ⟨h1, h2⟩
        have D11 := L10.deck.frm F11 (notIn kd.1.symm kd.2.2.symm) (notIn (ne_of cc10 e10 (fun z => by cases z)) L10.cl)
        have a11 := F11.kp _ _ (notIn (ne_of L10.ea e10 (fun z => by cases z)) L10.al) L10.ea
        have cl11 : c ≠ l11 := by
          rcases o11 with o | o
          · rw [o]; exact L10.cl
          · exact ne_of_none cc10 o
        have D12 := D11.same s12
        have K12 := K11.same s12
        have a12 := s12 _ _ a11
        refine ⟨_, rfl, Nat.zero_le _, fun z1 h1 => ?_⟩
        generalize g13 : upd H12 z1 _ = H13
        obtain ⟨s13, t13⟩ := new_of g13 h1
        refine ⟨by show 2 ≤ sizeLine; decide, fun z2 h2 => ?_⟩
        generalize g14 : upd H13 z2 _ = H14
        obtain ⟨s14, t14⟩ := new_of g14 h2
        refine ⟨_, rfl, by show 1 ≤ sizeLine; decide, fun z3 h3 => ?_⟩
        generalize g15 : upd H14 z3 _ = H15
        obtain ⟨s15, t15⟩ := new_of g15 h3
        have s35 := s13.trans (s14.trans s15)
        have a15 := s35 _ _ a12
        refine ⟨_, _, .lst (.of a15) (dpAll_ivs fs), .lst (.of t15) (dpAll_ivs [0]), shaped_ints _, shaped_ints _, .inr ⟨_, rfl, ?_⟩⟩
        rw [eqv_nats]
        have fin : ∀ {H16 : Hp} {z : Addr}, Same H15 H16 → H15 z = none → H16 z = some (.lst (ivs (putFs fs g))) → (putFs fs g).length ≤ max 1 (i + 1) ∧ L31 T.k_KeptNumber d c p w b pw (5 + 8 * (i + 1)) l11 z (putFs fs g) H16 := fun {H16 z} s16 nz ez => by
          have K15 := (K12.same s35)
          refine ⟨?_, ⟨((D12.same s35).same s16).mono (by omega), K15.same s16, cl11, (ne_of_none K15.fg nz).symm, ez⟩⟩
          by_cases i0 : i = 0
          · rw [f0 i0]
            show (putFs [0] g).length ≤ _
            unfold putFs
            rw [if_pos rfl]
            show 1 ≤ _
            omega
          · have : (putFs fs g).length ≤ fs.length + 1 := by
              unfold putFs
              split
              · show 1 ≤ _
                omega
              · rw [List.length_append]
                exact Nat.le_refl _
            omega
        by_cases c0 : fs = [0]
        · rw [decide_eq_true c0]
          refine ⟨z2, _, 1, _, rfl, rfl, .of (s15 _ _ t14), atI_nat (j := 1) rfl, ?_⟩
          refine ⟨_, rfl, by show 1 ≤ sizeLine; decide, fun z4 h4 => ?_⟩
          have tz := s15 _ _ (s14 _ _ t13)
          refine ⟨z1, z4, _, _, rfl, rfl, Same.new h4 _ _ tz, upd_same, by show 1 ≤ sizeLine; decide, fun z5 h5 => ?_⟩
          have s7 : Same H15 (upd H15 z4 (.lst [.int (g : Int)])) := Same.new h4
          generalize g16 : upd _ z5 _ = H16
          obtain ⟨s16, t16⟩ := new_of g16 h5
          obtain ⟨f1, f2⟩ := fin (s7.trans s16) (s7.free h5) (by
            rw [t16]
            unfold putFs
            rw [if_pos c0]
            rfl)
          exact ⟨l11, z5, putFs fs g, _, _, _, _, fun h => absurd h (by omega), f1, f2, rfl⟩
        · rw [decide_eq_false c0]
          refine ⟨z2, _, 0, _, rfl, rfl, .of (s15 _ _ t14), atI_nat (j := 0) rfl, ?_⟩
          refine ⟨_, rfl, by show 1 ≤ sizeLine; decide, fun z4 h4 => ?_⟩
          refine ⟨a', z4, _, _, rfl, rfl, Same.new h4 _ _ a15, upd_same, by rw [ivs_length]; exact Nat.le_of_lt (small_len (by show fs.length + 1 ≤ 16000000; omega)), fun z5 h5 => ?_⟩
          have s7 : Same H15 (upd H15 z4 (.lst [.int (g : Int)])) := Same.new h4
          generalize g16 : upd _ z5 _ = H16
          obtain ⟨s16, t16⟩ := new_of g16 h5
          obtain ⟨f1, f2⟩ := fin (s7.trans s16) (s7.free h5) (by
            rw [t16]
            unfold putFs
            rw [if_neg c0, ivs_append]
            rfl)
          exact ⟨l11, z5, putFs fs g, _, _, _, _, fun h => absurd h (by omega), f1, f2, rfl⟩
      · rintro σ' H8 ⟨l, a', fs, y6, y7, y8, y9, f0, fl, L8, rfl⟩
        exact ⟨l, a', fs, y6, y7, y8, y9, by omega, L8.mono (by omega), rfl⟩
    rintro σ' H5 ⟨l, a', fs, y6, y7, y8, y9, fl, L5, rfl⟩
    have ne := L5.kn.good.ne
    have l0 := List.length_pos_iff.mpr ne
    -- refused, all of it
    refine ⟨fun σ' H' => ∃ (y6 y7 y8 y9 : Option V), L31 T.k_KeptNumber d c p w b pw 700 l a' fs H' ∧ σ' = [some (.ref a), some (.ref d), some (.int (b : Int)), some (.int (pw : Int)), some (.ref p), some (.ref a'), y6, y7, y8, y9, none, none], ?_, ?_⟩
    · refine ⟨_, rfl, _, rfl, _, rfl, d, c, a', 600, b, fs, rfl, L5.deck, by omega, hb, hb16, L5.ea, ne, fl, fun H6 t6 vs6 b6 D6 nt6 et6 l6 l6' all6 => ?_⟩
      have L6 := L5.but b6 D6
      refine ⟨_, rfl, _, rfl, _, rfl, d, c, a', _, b, fs, rfl, L6.deck, by omega, hb, hb16, L6.ea, ne, fl, fun H7 t7 vs7 b7 D7 nt7 et7 l7 l7' all7 => ?_⟩
      have L7 := L6.but b7 D7
      have nt6d : t6 ≠ d := fun z => by
        obtain ⟨o, ho⟩ := L5.deck.there
        rw [z, ho] at nt6
        cases nt6
      have et67 := b7 _ _ nt6d et6
      refine ⟨t6, t7, _, _, rfl, rfl, et67, et7, Nat.le_of_lt (small_len (by omega)), fun z8 h8 => ?_⟩
      generalize g8 : upd H7 z8 _ = H8
      obtain ⟨s8, t8⟩ := new_of g8 h8
      have L8 := L7.same s8
      have all8 : ∀ v ∈ vs6 ++ vs7, BadAt b fs.length H8 v := fun v hv => by
        rcases List.mem_append.mp hv with hv | hv
        · exact (all6 v hv).mono fun t xs e => s8 _ _ (b7 _ _ (D6.notTup' e) e)
        · exact (all7 v hv).mono fun t xs e => s8 _ _ e
      refine ⟨z8, rfl, ⟨_, .of t8⟩, for_list (xs := vs6 ++ vs7) (fun j σ' H' => But d H8 H' ∧ Deck H' d c (610 + j) ∧ ∃ (y6 y7 y8 y9 : Option V), σ' = [some (.ref a), some (.ref d), some (.int (b : Int)), some (.int (pw : Int)), some (.ref p), some (.ref a'), y6, y7, y8, y9, none, none]) ⟨But.refl _ _, L8.deck.mono (by omega), _, _, _, _, rfl⟩ ?_ ?_ ?_⟩
      · rintro j σ' H' hj ⟨b9, _⟩
        refine .of (b9 _ _ (fun z => ?_) t8)
        obtain ⟨o, ho⟩ := L7.deck.there
        rw [z, ho] at h8
        cases h8
      · rintro j x σ' H9 hx ⟨b9, D9, y6, y7, y8, y9, rfl⟩
        have jl := (List.getElem?_eq_some_iff.mp hx).1
        rw [List.length_append] at jl
        obtain ⟨u, plv, f, due, rfl, eu, be⟩ := all8 x (List.mem_of_getElem? hx)
        have L9 := L8.but b9 D9
        have eu9 := b9 _ _ (L8.deck.notTup' eu) eu
        refine ⟨u, _, rfl, .of eu9, rfl, _, _, rfl, _, _, rfl, _, _, rfl, rfl, ?_⟩
        refine ⟨_, rfl, _, rfl, _, rfl, p, w, l, b, pw, fs, plv, f, rfl, L9.kn, bad_alt be fun H14 t14 s14 et14 => ?_⟩
        have L14 := L9.same s14
        refine ⟨_, rfl, by show 1 ≤ sizeLine; decide, fun z15 h15 => ?_⟩
        generalize g15 : upd H14 z15 _ = H15
        obtain ⟨s15, t15⟩ := new_of g15 h15
        have sw := shaped_word be
        refine ⟨_, _, .tup (.of (s15 _ _ et14)) (.cons (.str _) .nil), .tup (.of t15) (.cons (.str _) .nil), sw, sw, false, by rw [eqv_same sw]; rfl, iteF ?_⟩
        have L15 := L14.same s15
        refine ⟨_, rfl, _, rfl, _, rfl, _, rfl, _, rfl, d, c, p, w, l, a', _, b, pw, fs, rfl, L15.deck, by omega, L15.kn, L15.ea, fun H16 b16 D16 => ⟨true, rfl, iteF ⟨?_, D16, _, _, _, _, rfl⟩⟩⟩
        exact b9.trans ((But.of (s14.trans s15)).trans b16)
      · rintro σ' H9 ⟨b9, D9, y6, y7, y8, y9, rfl⟩
        exact ⟨_, _, _, _, L8.but b9 (D9.mono (by rw [List.length_append]; omega)), rfl⟩
    rintro σ' H6 ⟨y6, y7, y8, y9, L6, rfl⟩
    -- the first one changed
    refine ⟨_, rfl, _, rfl, _, _, rfl, .inl (.of L6.ea), _, _, rfl, rfl, ?_⟩
    have kd6 := L6.kn.deck L6.deck
    obtain ⟨dx6, e6⟩ := L6.kn.ins
    obtain ⟨cn6, x1, x2, x3, x4, cd6, cc6, _⟩ := L6.deck.ex
    have notIn6 : ∀ {x : Addr}, x ≠ p → x ≠ l → x ∉ [p, l] := fun h1 h2 => by
      simp only [List.mem_cons, List.not_mem_nil, or_false, not_or]
      exact ⟨h1, h2⟩
    refine ⟨p, w, l, b, pw, fs, _, _, rfl, L6.kn, set_alt (pl := fs.length - 1) (g := 1) (by rw [ivs_length]; omega) rfl (by omega) (by omega) (fun z => by omega) fun H7 t7 K7 F7 nt7 et7 => ?_⟩
    rw [show fs.length - 1 - (fs.length - 1) = 0 by omega] at K7
    have D7 := L6.deck.frm F7 (notIn6 kd6.1.symm kd6.2.2.symm) (notIn6 (ne_of cc6 e6 (fun z => by cases z)) L6.cl)
    have a7 := F7.kp _ _ (notIn6 (ne_of L6.ea e6 (fun z => by cases z)) L6.al) L6.ea
    refine ⟨by show 1 ≤ sizeLine; decide, fun z8 h8 => ?_⟩
    generalize g8 : upd H7 z8 _ = H8
    obtain ⟨s8, t8⟩ := new_of g8 h8
    refine ⟨_, _, .lst (.of (s8 _ _ et7)) (.cons .non .nil), .lst (.of t8) (.cons .non .nil), shaped_non, shaped_non, false, by rw [eqv_same shaped_non]; rfl, iteF ?_⟩
    refine ⟨_, rfl, _, rfl, by show 1 ≤ sizeLine; decide, fun z9 h9 => ?_⟩
    generalize g9 : upd H8 z9 _ = H9
    obtain ⟨s9, t9⟩ := new_of g9 h9
    refine ⟨_, rfl, _, rfl, a', _, rfl, .of (s9 _ _ (s8 _ _ a7)), fun z10 h10 => ?_⟩
    rw [show cutV (ivs fs) (some 1) none = ivs (fs.drop 1) from cut_ivs_from fs 1]
    generalize g10 : upd H9 z10 _ = H10
    obtain ⟨s10, t10⟩ := new_of g10 h10
    refine ⟨z9, z10, _, _, rfl, rfl, s10 _ _ t9, t10, by rw [ivs_length, List.length_drop]; exact Nat.le_of_lt (small_len (by show 1 + _ ≤ 16000000; omega)), fun z11 h11 => ?_⟩
    generalize g11 : upd H10 z11 _ = H11
    obtain ⟨s11, t11⟩ := new_of g11 h11
    have t11' : H11 z11 = some (.lst (ivs (fs.set 0 1))) := by
      rw [t11, ← first_set 1 ne]
      rfl
    have s711 := s8.trans (s9.trans (s10.trans s11))
    refine ⟨_, rfl, _, rfl, d, c, p, w, l, z11, _, b, pw, fs.set 0 1, rfl, D7.same s711, by omega, K7.same s711, t11', fun H12 b12 D12 => ⟨true, rfl, iteF ?_⟩⟩
    -- what is said
    refine ⟨_, 60, rfl, rfl, by decide, by decide, by decide +kernel, fun r hr ra => ?_⟩
    refine ⟨_, _, rfl, rfl, ?_, ?_⟩
    · have e1 : ("x" : Str).length = 1 := by decide +kernel
      have e2 : ("\n" : Str).length = 1 := by decide +kernel
      rw [e1] at hr
      rw [e2]
      exact Nat.le_trans (show r.length + 1 ≤ 61 by omega) (by decide)
    have okr : PyData.strOk r = true := ra (· < 0x110000) (by decide +kernel)
    refine ⟨by show 4 ≤ sizeLine; decide, fun z13 h13 => ?_⟩
    generalize g13 : upd H12 z13 _ = H13
    obtain ⟨s13, t13⟩ := new_of g13 h13
    refine ⟨_, rfl, d, 4, c, _, rfl, D12.same s13, by omega, by decide, by decide, fun H14 x b14 D14 x0 x4 => ?_⟩
    have t14 := b14 _ _ (D12.out h13).1 t13
    obtain ⟨sd, hsd, oks⟩ : ∃ sd : Str, atI [V.str " No such: 7", .str "", .str "a  B", .str (r ++ "\n")] x = some (.str sd) ∧ PyData.strOk sd = true := by
      rcases (show x = 0 ∨ x = 1 ∨ x = 2 ∨ x = 3 by omega) with rfl | rfl | rfl | rfl
      · exact ⟨_, rfl, by decide +kernel⟩
      · exact ⟨_, rfl, by decide +kernel⟩
      · exact ⟨_, rfl, by decide +kernel⟩
      · exact ⟨_, rfl, strOk_app okr (by decide +kernel)⟩
    refine ⟨z13, _, x, .str sd, rfl, rfl, .of t14, hsd, ?_⟩
    refine ⟨_, rfl, _, rfl, fun a1 ha1 => ⟨_, rfl, _, rfl, fun a2 ha2 => ⟨_, rfl, _, rfl, fun a3 ha3 => ⟨_, rfl, _, rfl, fun a4 ha4 => ⟨by show 4 ≤ sizeLine; decide, fun z15 h15 => ?_⟩⟩⟩⟩⟩
    generalize upd (upd (upd (upd H14 a1 _) a2 _) a3 _) a4 _ = H15 at h15 ⊢
    generalize g16 : upd H15 z15 _ = H16
    obtain ⟨s16, t16⟩ := new_of g16 h15
    refine ⟨_, rfl, by show 1 ≤ sizeLine; decide, fun z17 h17 => ?_⟩
    generalize g17 : upd H16 z17 _ = H17
    obtain ⟨s17, t17⟩ := new_of g17 h17
    refine ⟨z17, _, _, rfl, rfl, t17, by decide, by decide, by show 1 * 4 ≤ sizeLine; decide, fun z18 h18 => ?_⟩
    generalize g18 : upd H17 z18 _ = H18
    obtain ⟨s18, t18⟩ := new_of g18 h18
    have sf := shaped_four oks
    refine ⟨_, _, .lst (.of (s18 _ _ (s17 _ _ t16))) (.cons (.str _) (.cons (.str _) (.cons (.str _) (.cons (.str _) .nil)))), .lst (.of t18) (.cons (.str _) (.cons (.str _) (.cons (.str _) (.cons (.str _) .nil)))), sf, sf, false, by rw [eqv_same sf]; rfl, iteF ?_⟩
    -- alone
    refine ⟨_, rfl, _, rfl, fun y dx ny ndy ney => ⟨y, dx, b, pw, rfl, upd_same, okN, fun H19 w2 l2 K19 nw2 nl2 F19 => ⟨rfl, ?_⟩⟩⟩
    refine ⟨_, rfl, y, w2, l2, b, pw, [0], _, _, rfl, K19, set_alt (pl := 0) (g := 0) rfl rfl (by omega) (by decide) (fun _ _ => rfl) fun H20 t20 K20 F20 nt20 et20 => ?_⟩
    refine ⟨by show 1 ≤ sizeLine; decide, fun z21 h21 => ?_⟩
    generalize g21 : upd H20 z21 _ = H21
    obtain ⟨s21, t21⟩ := new_of g21 h21
    refine ⟨_, _, .lst (.of (s21 _ _ et20)) (.cons .non .nil), .lst (.of t21) (.cons .non .nil), shaped_non, shaped_non, false, by rw [eqv_same shaped_non]; rfl, iteF ?_⟩
    have K21 : KeptAt T.k_KeptNumber H21 y w2 l2 b pw [0] := K20.same s21
    refine ⟨_, rfl, _, rfl, _, _, rfl, rfl, y, w2, l2, b, pw, [0], _, _, rfl, K21, set_alt (pl := 0) (g := b - 1) rfl (by omega) (by omega) (by decide) (fun _ _ => rfl) fun H22 t22 K22 F22 nt22 et22 => ?_⟩
    refine ⟨by show 1 ≤ sizeLine; decide, fun z23 h23 => ?_⟩
    generalize g23 : upd H22 z23 _ = H23
    obtain ⟨s23, t23⟩ := new_of g23 h23
    refine ⟨_, _, .lst (.of (s23 _ _ et22)) (.cons .non .nil), .lst (.of t23) (.cons .non .nil), shaped_non, shaped_non, false, by rw [eqv_same shaped_non]; rfl, iteF ?_⟩
    have K23 : KeptAt T.k_KeptNumber H23 y w2 l2 b pw [b - 1] := K22.same s23
    refine ⟨_, rfl, y, w2, l2, b, pw, [b - 1], _, _, rfl, K23, set_alt (pl := 0) (g := 0) rfl rfl (by omega) (by show 0 < 1; decide) (fun _ _ => rfl) fun H24 t24 K24 F24 nt24 et24 => ?_⟩
    refine ⟨by show 1 ≤ sizeLine; decide, fun z25 h25 => ?_⟩
    generalize g25 : upd H24 z25 _ = H25
    obtain ⟨s25, t25⟩ := new_of g25 h25
    refine ⟨_, _, .lst (.of (s25 _ _ et24)) (.cons .non .nil), .lst (.of t25) (.cons .non .nil), shaped_non, shaped_non, true, congrArg V.bl (eqv_same shaped_non), iteT ?_⟩
    have K25 : KeptAt T.k_KeptNumber H25 y w2 l2 b pw [0] := K24.same s25
    obtain ⟨dx25, e25⟩ := K25.ins
    refine ⟨_, rfl, y, dx25, _, rfl, e25, no1 (by decide +kernel) (by decide +kernel) (by decide +kernel) (by decide +kernel), y, w2, l2, b, pw, [0], rfl, K25, rfl, true, congrArg V.bl (decide_eq_true ?_), iteT ?_⟩
    · rw [val_one]
      rfl
    refine ⟨_, rfl, y, w2, l2, b, pw, [0], _, _, rfl, K25, bad_alt (due := "place") (.inr ⟨1, rfl, .inl ⟨rfl, by show ¬ (0 ≤ (1 : Int) ∧ (1 : Int) < 1); omega⟩⟩) fun H26 t26 s26 et26 => ?_⟩
    refine ⟨by show 1 ≤ sizeLine; decide, fun z27 h27 => ?_⟩
    generalize g27 : upd H26 z27 _ = H27
    obtain ⟨s27, t27⟩ := new_of g27 h27
    have sw : SeqAt.shaped (.tuple [.str "place"]) = true := shaped_str (by decide +kernel)
    refine ⟨_, _, .tup (.of (s27 _ _ et26)) (.cons (.str _) .nil), .tup (.of t27) (.cons (.str _) .nil), sw, sw, ?_⟩
    rw [eqv_same sw]
    exact q _

end
theorem all_mk {w : World} {K : PySem.W.Frag} {h : Heap} {mg : Str → Option Value} {fa f0 f1 f2 f3 f4 f5 f6 f7 f8 f9 f10 f11 f12 f13 f14 f15 f16 f17 f18 f19 f20 f21 f22 f23 f24 f25 f26 f27 : Addr} (X : K.In h) (G : h.Ns mainGlobals mg) (hfa : mg "law" = some (.ref fa))
    {od0 an0 od1 an1 od2 an2 od3 an3 od4 an4 od5 an5 od6 an6 od7 an7 od8 an8 od9 an9 od10 an10 od11 an11 od12 an12 od13 an13 od14 an14 od15 an15 od16 an16 od17 an17 od18 an18 od19 an19 od20 an20 od21 an21 od22 an22 od23 an23 od24 an24 od25 an25 od26 an26 od27 an27 : Option Addr} {sl0 sl1 sl2 sl3 sl4 sl5 sl6 sl7 sl8 sl9 sl10 sl11 sl12 sl13 sl14 sl15 sl16 sl17 sl18 sl19 sl20 sl21 sl22 sl23 sl24 sl25 sl26 sl27 : Array (Option Value)} {oc0 kV0 dc0 pm0 cd0 ct0 oc1 kV1 dc1 pm1 cd1 ct1 oc2 kV2 dc2 pm2 cd2 ct2 oc3 kV3 dc3 pm3 cd3 ct3 oc4 kV4 dc4 pm4 cd4 ct4 oc5 kV5 dc5 pm5 cd5 ct5 oc6 kV6 dc6 pm6 cd6 ct6 oc7 kV7 dc7 pm7 cd7 ct7 oc8 kV8 dc8 pm8 cd8 ct8 oc9 kV9 dc9 pm9 cd9 ct9 oc10 kV10 dc10 pm10 cd10 ct10 oc11 kV11 dc11 pm11 cd11 ct11 oc12 kV12 dc12 pm12 cd12 ct12 oc13 kV13 dc13 pm13 cd13 ct13 oc14 kV14 dc14 pm14 cd14 ct14 oc15 kV15 dc15 pm15 cd15 ct15 oc16 kV16 dc16 pm16 cd16 ct16 oc17 kV17 dc17 pm17 cd17 ct17 oc18 kV18 dc18 pm18 cd18 ct18 oc19 kV19 dc19 pm19 cd19 ct19 oc20 kV20 dc20 pm20 cd20 ct20 oc21 kV21 dc21 pm21 cd21 ct21 oc22 kV22 dc22 pm22 cd22 ct22 oc23 kV23 dc23 pm23 cd23 ct23 oc24 kV24 dc24 pm24 cd24 ct24 oc25 kV25 dc25 pm25 cd25 ct25 oc26 kV26 dc26 pm26 cd26 ct26 oc27 kV27 dc27 pm27 cd27 ct27 : Value}
    {k_KeptNumber : Addr} (oa_KeptNumber : PySem.W.nsIn K mainGlobals "KeptNumber" = some (some (.ref k_KeptNumber)))
    (og_KeptNumber : PySem.W.plainGet K k_KeptNumber Str.empty = true)
    (oh_KeptNumber : PySem.W.hasDictIn K k_KeptNumber = true)
    (op_KeptNumber : PySem.W.plainOver K k_KeptNumber = true)
    (os_KeptNumber : PySem.W.findIn K (.ref k_KeptNumber) "__setattr__" = some (some (.builtin "object.__setattr__")))
    (om_KeptNumber : PySem.W.makesIn K k_KeptNumber = true)
    (ok_KeptNumber : PySem.W.keepIn K (.ref k_KeptNumber) = true)
    (on_KeptNumber_base : PySem.W.findIn K (.ref k_KeptNumber) "base" = some none)
    (on_KeptNumber_power : PySem.W.findIn K (.ref k_KeptNumber) "power" = some none)
    (on_KeptNumber_worths : PySem.W.findIn K (.ref k_KeptNumber) "worths" = some none)
    (on_KeptNumber_figures : PySem.W.findIn K (.ref k_KeptNumber) "figures" = some none)
    (a0 : PySem.W.nsIn K mainGlobals "figures_of" = some (some (.ref f0))) (l0 : K.lookup f0 = some ⟨oc0, od0, .func (PySem.W.fnOf "figures_of" "figures_of" (defArgs s_figures_of) (defBody s_figures_of) (defScope s_figures_of) .none kV0 dc0 pm0 an0 cd0 ct0), sl0⟩) (c0 : PySem.W.codeIn K cd0 "figures_of" = true) (k0 : PySem.W.keepIn K (.ref f0) = true)
    (a1 : PySem.W.nsIn K mainGlobals "power_of" = some (some (.ref f1))) (l1 : K.lookup f1 = some ⟨oc1, od1, .func (PySem.W.fnOf "power_of" "power_of" (defArgs s_power_of) (defBody s_power_of) (defScope s_power_of) .none kV1 dc1 pm1 an1 cd1 ct1), sl1⟩) (c1 : PySem.W.codeIn K cd1 "power_of" = true) (k1 : PySem.W.keepIn K (.ref f1) = true)
    (a2 : PySem.W.nsIn K mainGlobals "step_of" = some (some (.ref f2))) (l2 : K.lookup f2 = some ⟨oc2, od2, .func (PySem.W.fnOf "step_of" "step_of" (defArgs s_step_of) (defBody s_step_of) (defScope s_step_of) .none kV2 dc2 pm2 an2 cd2 ct2), sl2⟩) (c2 : PySem.W.codeIn K cd2 "step_of" = true) (k2 : PySem.W.keepIn K (.ref f2) = true)
    (a3 : PySem.W.nsIn K mainGlobals "worths_of" = some (some (.ref f3))) (l3 : K.lookup f3 = some ⟨oc3, od3, .func (PySem.W.fnOf "worths_of" "worths_of" (defArgs s_worths_of) (defBody s_worths_of) (defScope s_worths_of) .none kV3 dc3 pm3 an3 cd3 ct3), sl3⟩) (c3 : PySem.W.codeIn K cd3 "worths_of" = true) (k3 : PySem.W.keepIn K (.ref f3) = true)
    (a4 : PySem.W.nsIn K mainGlobals "way_of" = some (some (.ref f4))) (l4 : K.lookup f4 = some ⟨oc4, od4, .func (PySem.W.fnOf "way_of" "way_of" (defArgs s_way_of) (defBody s_way_of) (defScope s_way_of) .none kV4 dc4 pm4 an4 cd4 ct4), sl4⟩) (c4 : PySem.W.codeIn K cd4 "way_of" = true) (k4 : PySem.W.keepIn K (.ref f4) = true)
    (a5 : PySem.W.nsIn K mainGlobals "end_of" = some (some (.ref f5))) (l5 : K.lookup f5 = some ⟨oc5, od5, .func (PySem.W.fnOf "end_of" "end_of" (defArgs s_end_of) (defBody s_end_of) (defScope s_end_of) .none kV5 dc5 pm5 an5 cd5 ct5), sl5⟩) (c5 : PySem.W.codeIn K cd5 "end_of" = true) (k5 : PySem.W.keepIn K (.ref f5) = true)
    (a6 : PySem.W.nsIn K mainGlobals "_law_mix" = some (some (.ref f6))) (l6 : K.lookup f6 = some ⟨oc6, od6, .func (PySem.W.fnOf "_law_mix" "_law_mix" (defArgs s__law_mix) (defBody s__law_mix) (defScope s__law_mix) .none kV6 dc6 pm6 an6 cd6 ct6), sl6⟩) (c6 : PySem.W.codeIn K cd6 "_law_mix" = true) (k6 : PySem.W.keepIn K (.ref f6) = true)
    (a7 : PySem.W.nsIn K mainGlobals "_law_deck" = some (some (.ref f7))) (l7 : K.lookup f7 = some ⟨oc7, od7, .func (PySem.W.fnOf "_law_deck" "_law_deck" (defArgs s__law_deck) (defBody s__law_deck) (defScope s__law_deck) .none kV7 dc7 pm7 an7 cd7 ct7), sl7⟩) (c7 : PySem.W.codeIn K cd7 "_law_deck" = true) (k7 : PySem.W.keepIn K (.ref f7) = true)
    (a8 : PySem.W.nsIn K mainGlobals "_law_next" = some (some (.ref f8))) (l8 : K.lookup f8 = some ⟨oc8, od8, .func (PySem.W.fnOf "_law_next" "_law_next" (defArgs s__law_next) (defBody s__law_next) (defScope s__law_next) .none kV8 dc8 pm8 an8 cd8 ct8), sl8⟩) (c8 : PySem.W.codeIn K cd8 "_law_next" = true) (k8 : PySem.W.keepIn K (.ref f8) = true)
    (a9 : PySem.W.nsIn K mainGlobals "_law_pair" = some (some (.ref f9))) (l9 : K.lookup f9 = some ⟨oc9, od9, .func (PySem.W.fnOf "_law_pair" "_law_pair" (defArgs s__law_pair) (defBody s__law_pair) (defScope s__law_pair) .none kV9 dc9 pm9 an9 cd9 ct9), sl9⟩) (c9 : PySem.W.codeIn K cd9 "_law_pair" = true) (k9 : PySem.W.keepIn K (.ref f9) = true)
    (a10 : PySem.W.nsIn K mainGlobals "_law_figures" = some (some (.ref f10))) (l10 : K.lookup f10 = some ⟨oc10, od10, .func (PySem.W.fnOf "_law_figures" "_law_figures" (defArgs s__law_figures) (defBody s__law_figures) (defScope s__law_figures) .none kV10 dc10 pm10 an10 cd10 ct10), sl10⟩) (c10 : PySem.W.codeIn K cd10 "_law_figures" = true) (k10 : PySem.W.keepIn K (.ref f10) = true)
    (a11 : PySem.W.nsIn K mainGlobals "_law_power" = some (some (.ref f11))) (l11 : K.lookup f11 = some ⟨oc11, od11, .func (PySem.W.fnOf "_law_power" "_law_power" (defArgs s__law_power) (defBody s__law_power) (defScope s__law_power) .none kV11 dc11 pm11 an11 cd11 ct11), sl11⟩) (c11 : PySem.W.codeIn K cd11 "_law_power" = true) (k11 : PySem.W.keepIn K (.ref f11) = true)
    (a12 : PySem.W.nsIn K mainGlobals "_law_step" = some (some (.ref f12))) (l12 : K.lookup f12 = some ⟨oc12, od12, .func (PySem.W.fnOf "_law_step" "_law_step" (defArgs s__law_step) (defBody s__law_step) (defScope s__law_step) .none kV12 dc12 pm12 an12 cd12 ct12), sl12⟩) (c12 : PySem.W.codeIn K cd12 "_law_step" = true) (k12 : PySem.W.keepIn K (.ref f12) = true)
    (a13 : PySem.W.nsIn K mainGlobals "_law_is_whole" = some (some (.ref f13))) (l13 : K.lookup f13 = some ⟨oc13, od13, .func (PySem.W.fnOf "_law_is_whole" "_law_is_whole" (defArgs s__law_is_whole) (defBody s__law_is_whole) (defScope s__law_is_whole) .none kV13 dc13 pm13 an13 cd13 ct13), sl13⟩) (c13 : PySem.W.codeIn K cd13 "_law_is_whole" = true) (k13 : PySem.W.keepIn K (.ref f13) = true)
    (a14 : PySem.W.nsIn K mainGlobals "_law_end" = some (some (.ref f14))) (l14 : K.lookup f14 = some ⟨oc14, od14, .func (PySem.W.fnOf "_law_end" "_law_end" (defArgs s__law_end) (defBody s__law_end) (defScope s__law_end) .none kV14 dc14 pm14 an14 cd14 ct14), sl14⟩) (c14 : PySem.W.codeIn K cd14 "_law_end" = true) (k14 : PySem.W.keepIn K (.ref f14) = true)
    (a15 : PySem.W.nsIn K mainGlobals "_law_of" = some (some (.ref f15))) (l15 : K.lookup f15 = some ⟨oc15, od15, .func (PySem.W.fnOf "_law_of" "_law_of" (defArgs s__law_of) (defBody s__law_of) (defScope s__law_of) .none kV15 dc15 pm15 an15 cd15 ct15), sl15⟩) (c15 : PySem.W.codeIn K cd15 "_law_of" = true) (k15 : PySem.W.keepIn K (.ref f15) = true)
    (a16 : PySem.W.findIn K (.ref k_KeptNumber) "number_now" = some (some (.ref f16))) (i16 : PySem.W.isFn K (.ref f16) = true) (l16 : K.lookup f16 = some ⟨oc16, od16, .func (PySem.W.fnOf "number_now" "KeptNumber.number_now" (defArgs s_KeptNumber__number_now) (defBody s_KeptNumber__number_now) (defScope s_KeptNumber__number_now) .none kV16 dc16 pm16 an16 cd16 ct16), sl16⟩) (c16 : PySem.W.codeIn K cd16 "KeptNumber.number_now" = true) (k16 : PySem.W.keepIn K (.ref f16) = true)
    (a17 : PySem.W.findIn K (.ref k_KeptNumber) "end_now" = some (some (.ref f17))) (i17 : PySem.W.isFn K (.ref f17) = true) (l17 : K.lookup f17 = some ⟨oc17, od17, .func (PySem.W.fnOf "end_now" "KeptNumber.end_now" (defArgs s_KeptNumber__end_now) (defBody s_KeptNumber__end_now) (defScope s_KeptNumber__end_now) .none kV17 dc17 pm17 an17 cd17 ct17), sl17⟩) (c17 : PySem.W.codeIn K cd17 "KeptNumber.end_now" = true) (k17 : PySem.W.keepIn K (.ref f17) = true)
    (a18 : PySem.W.findIn K (.ref k_KeptNumber) "step_now" = some (some (.ref f18))) (i18 : PySem.W.isFn K (.ref f18) = true) (l18 : K.lookup f18 = some ⟨oc18, od18, .func (PySem.W.fnOf "step_now" "KeptNumber.step_now" (defArgs s_KeptNumber__step_now) (defBody s_KeptNumber__step_now) (defScope s_KeptNumber__step_now) .none kV18 dc18 pm18 an18 cd18 ct18), sl18⟩) (c18 : PySem.W.codeIn K cd18 "KeptNumber.step_now" = true) (k18 : PySem.W.keepIn K (.ref f18) = true)
    (a19 : PySem.W.nsIn K mainGlobals "_law_as_due" = some (some (.ref f19))) (l19 : K.lookup f19 = some ⟨oc19, od19, .func (PySem.W.fnOf "_law_as_due" "_law_as_due" (defArgs s__law_as_due) (defBody s__law_as_due) (defScope s__law_as_due) .none kV19 dc19 pm19 an19 cd19 ct19), sl19⟩) (c19 : PySem.W.codeIn K cd19 "_law_as_due" = true) (k19 : PySem.W.keepIn K (.ref f19) = true)
    (a20 : PySem.W.nsIn K mainGlobals "_law_kind" = some (some (.ref f20))) (l20 : K.lookup f20 = some ⟨oc20, od20, .func (PySem.W.fnOf "_law_kind" "_law_kind" (defArgs s__law_kind) (defBody s__law_kind) (defScope s__law_kind) .none kV20 dc20 pm20 an20 cd20 ct20), sl20⟩) (c20 : PySem.W.codeIn K cd20 "_law_kind" = true) (k20 : PySem.W.keepIn K (.ref f20) = true)
    (a21 : PySem.W.findIn K (.ref k_KeptNumber) "check_figure" = some (some (.ref f21))) (i21 : PySem.W.isFn K (.ref f21) = true) (l21 : K.lookup f21 = some ⟨oc21, od21, .func (PySem.W.fnOf "check_figure" "KeptNumber.check_figure" (defArgs s_KeptNumber__check_figure) (defBody s_KeptNumber__check_figure) (defScope s_KeptNumber__check_figure) .none kV21 dc21 pm21 an21 cd21 ct21), sl21⟩) (c21 : PySem.W.codeIn K cd21 "KeptNumber.check_figure" = true) (k21 : PySem.W.keepIn K (.ref f21) = true)
    (a22 : PySem.W.findIn K (.ref k_KeptNumber) "put_figure" = some (some (.ref f22))) (i22 : PySem.W.isFn K (.ref f22) = true) (l22 : K.lookup f22 = some ⟨oc22, od22, .func (PySem.W.fnOf "put_figure" "KeptNumber.put_figure" (defArgs s_KeptNumber__put_figure) (defBody s_KeptNumber__put_figure) (defScope s_KeptNumber__put_figure) .none kV22 dc22 pm22 an22 cd22 ct22), sl22⟩) (c22 : PySem.W.codeIn K cd22 "KeptNumber.put_figure" = true) (k22 : PySem.W.keepIn K (.ref f22) = true)
    (a23 : PySem.W.findIn K (.ref k_KeptNumber) "set_figure" = some (some (.ref f23))) (i23 : PySem.W.isFn K (.ref f23) = true) (l23 : K.lookup f23 = some ⟨oc23, od23, .func (PySem.W.fnOf "set_figure" "KeptNumber.set_figure" (defArgs s_KeptNumber__set_figure) (defBody s_KeptNumber__set_figure) (defScope s_KeptNumber__set_figure) .none kV23 dc23 pm23 an23 cd23 ct23), sl23⟩) (c23 : PySem.W.codeIn K cd23 "KeptNumber.set_figure" = true) (k23 : PySem.W.keepIn K (.ref f23) = true)
    (a24 : PySem.W.nsIn K mainGlobals "_law_told" = some (some (.ref f24))) (l24 : K.lookup f24 = some ⟨oc24, od24, .func (PySem.W.fnOf "_law_told" "_law_told" (defArgs s__law_told) (defBody s__law_told) (defScope s__law_told) .none kV24 dc24 pm24 an24 cd24 ct24), sl24⟩) (c24 : PySem.W.codeIn K cd24 "_law_told" = true) (k24 : PySem.W.keepIn K (.ref f24) = true)
    (a25 : PySem.W.nsIn K mainGlobals "_law_bad" = some (some (.ref f25))) (l25 : K.lookup f25 = some ⟨oc25, od25, .func (PySem.W.fnOf "_law_bad" "_law_bad" (defArgs s__law_bad) (defBody s__law_bad) (defScope s__law_bad) .none kV25 dc25 pm25 an25 cd25 ct25), sl25⟩) (c25 : PySem.W.codeIn K cd25 "_law_bad" = true) (k25 : PySem.W.keepIn K (.ref f25) = true)
    (a26 : PySem.W.findIn K (.ref k_KeptNumber) "__init__" = some (some (.ref f26))) (i26 : PySem.W.isFn K (.ref f26) = true) (l26 : K.lookup f26 = some ⟨oc26, od26, .func (PySem.W.fnOf "__init__" "KeptNumber.__init__" (defArgs s_KeptNumber__init) (defBody s_KeptNumber__init) (defScope s_KeptNumber__init) .none kV26 dc26 pm26 an26 cd26 ct26), sl26⟩) (c26 : PySem.W.codeIn K cd26 "KeptNumber.__init__" = true) (k26 : PySem.W.keepIn K (.ref f26) = true)
    (a27 : PySem.W.nsIn K mainGlobals "law" = some (some (.ref f27))) (l27 : K.lookup f27 = some ⟨oc27, od27, .func (PySem.W.fnOf "law" "law" (defArgs s_law) (defBody s_law) (defScope s_law) .none kV27 dc27 pm27 an27 cd27 ct27), sl27⟩) (c27 : PySem.W.codeIn K cd27 "law" = true) (k27 : PySem.W.keepIn K (.ref f27) = true)
    (z0 : PySem.W.nsIn K mainGlobals "ValueError" = some none)
    (z1 : PySem.W.nsIn K mainGlobals "bool" = some none)
    (z2 : PySem.W.nsIn K mainGlobals "int" = some none)
    (z3 : PySem.W.nsIn K mainGlobals "isinstance" = some none)
    (z4 : PySem.W.nsIn K mainGlobals "len" = some none)
    (z5 : PySem.W.nsIn K mainGlobals "list" = some none)
    (z6 : PySem.W.nsIn K mainGlobals "min" = some none)
    (z7 : PySem.W.nsIn K mainGlobals "range" = some none)
    (z8 : PySem.W.nsIn K mainGlobals "str" = some none)
    (z9 : PySem.W.nsIn K mainGlobals "sum" = some none)
    (z10 : PySem.W.nsIn K mainGlobals "tuple" = some none)
    {k_FigureError : Addr} (xa_FigureError : PySem.W.nsIn K mainGlobals "FigureError" = some (some (.ref k_FigureError))) (xh_FigureError : PySem.W.hasDictIn K k_FigureError = true) (xt_FigureError : PySem.W.typeIn K (.ref k_FigureError) = some (.type "type")) (xb_FigureError : PySem.W.subIn K (.ref k_FigureError) (.type "BaseException") = some true)
    {k_NoRound : Addr} (xa_NoRound : PySem.W.nsIn K mainGlobals "NoRound" = some (some (.ref k_NoRound))) (xh_NoRound : PySem.W.hasDictIn K k_NoRound = true) (xt_NoRound : PySem.W.typeIn K (.ref k_NoRound) = some (.type "type")) (xb_NoRound : PySem.W.subIn K (.ref k_NoRound) (.type "BaseException") = some true)
    {k_NoFigure : Addr} (xa_NoFigure : PySem.W.nsIn K mainGlobals "NoFigure" = some (some (.ref k_NoFigure))) (xh_NoFigure : PySem.W.hasDictIn K k_NoFigure = true) (xt_NoFigure : PySem.W.typeIn K (.ref k_NoFigure) = some (.type "type")) (xb_NoFigure : PySem.W.subIn K (.ref k_NoFigure) (.type "BaseException") = some true)
    {k_NoPlace : Addr} (xa_NoPlace : PySem.W.nsIn K mainGlobals "NoPlace" = some (some (.ref k_NoPlace))) (xh_NoPlace : PySem.W.hasDictIn K k_NoPlace = true) (xt_NoPlace : PySem.W.typeIn K (.ref k_NoPlace) = some (.type "type")) (xb_NoPlace : PySem.W.subIn K (.ref k_NoPlace) (.type "BaseException") = some true)
    {k_NoAsk : Addr} (xa_NoAsk : PySem.W.nsIn K mainGlobals "NoAsk" = some (some (.ref k_NoAsk))) (xh_NoAsk : PySem.W.hasDictIn K k_NoAsk = true) (xt_NoAsk : PySem.W.typeIn K (.ref k_NoAsk) = some (.type "type")) (xb_NoAsk : PySem.W.subIn K (.ref k_NoAsk) (.type "BaseException") = some true)
    {k_NoNumber : Addr} (xa_NoNumber : PySem.W.nsIn K mainGlobals "NoNumber" = some (some (.ref k_NoNumber))) (xh_NoNumber : PySem.W.hasDictIn K k_NoNumber = true) (xt_NoNumber : PySem.W.typeIn K (.ref k_NoNumber) = some (.type "type")) (xb_NoNumber : PySem.W.subIn K (.ref k_NoNumber) (.type "BaseException") = some true)
    (xs_NoRound_FigureError : PySem.W.subIn K (.ref k_NoRound) (.ref k_FigureError) = some true)
    (xs_NoRound_NoRound : PySem.W.subIn K (.ref k_NoRound) (.ref k_NoRound) = some true)
    (xs_NoRound_NoFigure : PySem.W.subIn K (.ref k_NoRound) (.ref k_NoFigure) = some false)
    (xs_NoRound_NoPlace : PySem.W.subIn K (.ref k_NoRound) (.ref k_NoPlace) = some false)
    (xs_NoRound_NoAsk : PySem.W.subIn K (.ref k_NoRound) (.ref k_NoAsk) = some false)
    (xs_NoRound_NoNumber : PySem.W.subIn K (.ref k_NoRound) (.ref k_NoNumber) = some false)
    (xsa_NoRound : PySem.W.findIn K (.ref k_NoRound) "__setattr__" = some (some (.builtin "object.__setattr__")))
    (xga_NoRound : PySem.W.findIn K (.ref k_NoRound) "__getattribute__" = some (some (.builtin "BaseException.__getattribute__")))
    (xgg_NoRound : PySem.W.findIn K (.ref k_NoRound) "__getattr__" = some none)
    (xca_NoRound : PySem.W.findIn K (.ref k_NoRound) "__class__" = some (some (.builtin "object.__class__")))
    (xmo_NoRound : PySem.W.mroIn K k_NoRound (.type "object") = some true)
    (xkp_NoRound : PySem.W.keepIn K (.ref k_NoRound) = true)
    (xve_NoRound : PySem.W.subIn K (.ref k_NoRound) (.type "ValueError") = some true)
    (xcn_NoRound : PySem.W.specialIn K (.builtin "object.__class__") "__get__" = some (some (.builtin "getset_descriptor.__get__"))) (xct_NoRound : PySem.W.takesIn K (.builtin "object.__class__") = some true)
    {n_NoRound q_NoRound : Str} {N_NoRound : Addr} {bs_NoRound su_NoRound : List Value} {sn_NoRound : List Str} {ab_NoRound : Bool} {co_NoRound : Option Bool} {dd_NoRound : Option Addr} {m0_NoRound m1_NoRound m2_NoRound m3_NoRound m5_NoRound : Option Value}
    (xl_NoRound : K.lookup k_NoRound = some (excClassObj n_NoRound q_NoRound k_NoRound N_NoRound bs_NoRound [.ref k_FigureError, .type "ValueError", .type "Exception", .type "BaseException", .type "object"] true sn_NoRound su_NoRound ab_NoRound co_NoRound dd_NoRound m0_NoRound m1_NoRound m2_NoRound m3_NoRound m5_NoRound "ValueError.__new__"))
    (xq_NoRound : PySem.W.excIn K k_NoRound [.type "ValueError", .type "Exception", .type "BaseException", .type "object"] "ValueError.__new__" = true)
    (st_NoRound : PySem.W.findIn K (.ref k_NoRound) "__str__" = some (some (.builtin "BaseException.__str__")))
    (xs_NoFigure_FigureError : PySem.W.subIn K (.ref k_NoFigure) (.ref k_FigureError) = some true)
    (xs_NoFigure_NoRound : PySem.W.subIn K (.ref k_NoFigure) (.ref k_NoRound) = some false)
    (xs_NoFigure_NoFigure : PySem.W.subIn K (.ref k_NoFigure) (.ref k_NoFigure) = some true)
    (xs_NoFigure_NoPlace : PySem.W.subIn K (.ref k_NoFigure) (.ref k_NoPlace) = some false)
    (xs_NoFigure_NoAsk : PySem.W.subIn K (.ref k_NoFigure) (.ref k_NoAsk) = some false)
    (xs_NoFigure_NoNumber : PySem.W.subIn K (.ref k_NoFigure) (.ref k_NoNumber) = some false)
    (xsa_NoFigure : PySem.W.findIn K (.ref k_NoFigure) "__setattr__" = some (some (.builtin "object.__setattr__")))
    (xga_NoFigure : PySem.W.findIn K (.ref k_NoFigure) "__getattribute__" = some (some (.builtin "BaseException.__getattribute__")))
    (xgg_NoFigure : PySem.W.findIn K (.ref k_NoFigure) "__getattr__" = some none)
    (xca_NoFigure : PySem.W.findIn K (.ref k_NoFigure) "__class__" = some (some (.builtin "object.__class__")))
    (xmo_NoFigure : PySem.W.mroIn K k_NoFigure (.type "object") = some true)
    (xkp_NoFigure : PySem.W.keepIn K (.ref k_NoFigure) = true)
    (xve_NoFigure : PySem.W.subIn K (.ref k_NoFigure) (.type "ValueError") = some true)
    (xcn_NoFigure : PySem.W.specialIn K (.builtin "object.__class__") "__get__" = some (some (.builtin "getset_descriptor.__get__"))) (xct_NoFigure : PySem.W.takesIn K (.builtin "object.__class__") = some true)
    {n_NoFigure q_NoFigure : Str} {N_NoFigure : Addr} {bs_NoFigure su_NoFigure : List Value} {sn_NoFigure : List Str} {ab_NoFigure : Bool} {co_NoFigure : Option Bool} {dd_NoFigure : Option Addr} {m0_NoFigure m1_NoFigure m2_NoFigure m3_NoFigure m5_NoFigure : Option Value}
    (xl_NoFigure : K.lookup k_NoFigure = some (excClassObj n_NoFigure q_NoFigure k_NoFigure N_NoFigure bs_NoFigure [.ref k_FigureError, .type "ValueError", .type "Exception", .type "BaseException", .type "object"] true sn_NoFigure su_NoFigure ab_NoFigure co_NoFigure dd_NoFigure m0_NoFigure m1_NoFigure m2_NoFigure m3_NoFigure m5_NoFigure "ValueError.__new__"))
    (xq_NoFigure : PySem.W.excIn K k_NoFigure [.type "ValueError", .type "Exception", .type "BaseException", .type "object"] "ValueError.__new__" = true)
    (st_NoFigure : PySem.W.findIn K (.ref k_NoFigure) "__str__" = some (some (.builtin "BaseException.__str__")))
    (xs_NoPlace_FigureError : PySem.W.subIn K (.ref k_NoPlace) (.ref k_FigureError) = some true)
    (xs_NoPlace_NoRound : PySem.W.subIn K (.ref k_NoPlace) (.ref k_NoRound) = some false)
    (xs_NoPlace_NoFigure : PySem.W.subIn K (.ref k_NoPlace) (.ref k_NoFigure) = some false)
    (xs_NoPlace_NoPlace : PySem.W.subIn K (.ref k_NoPlace) (.ref k_NoPlace) = some true)
    (xs_NoPlace_NoAsk : PySem.W.subIn K (.ref k_NoPlace) (.ref k_NoAsk) = some false)
    (xs_NoPlace_NoNumber : PySem.W.subIn K (.ref k_NoPlace) (.ref k_NoNumber) = some false)
    (xsa_NoPlace : PySem.W.findIn K (.ref k_NoPlace) "__setattr__" = some (some (.builtin "object.__setattr__")))
    (xga_NoPlace : PySem.W.findIn K (.ref k_NoPlace) "__getattribute__" = some (some (.builtin "BaseException.__getattribute__")))
    (xgg_NoPlace : PySem.W.findIn K (.ref k_NoPlace) "__getattr__" = some none)
    (xca_NoPlace : PySem.W.findIn K (.ref k_NoPlace) "__class__" = some (some (.builtin "object.__class__")))
    (xmo_NoPlace : PySem.W.mroIn K k_NoPlace (.type "object") = some true)
    (xkp_NoPlace : PySem.W.keepIn K (.ref k_NoPlace) = true)
    (xve_NoPlace : PySem.W.subIn K (.ref k_NoPlace) (.type "ValueError") = some true)
    (xcn_NoPlace : PySem.W.specialIn K (.builtin "object.__class__") "__get__" = some (some (.builtin "getset_descriptor.__get__"))) (xct_NoPlace : PySem.W.takesIn K (.builtin "object.__class__") = some true)
    {n_NoPlace q_NoPlace : Str} {N_NoPlace : Addr} {bs_NoPlace su_NoPlace : List Value} {sn_NoPlace : List Str} {ab_NoPlace : Bool} {co_NoPlace : Option Bool} {dd_NoPlace : Option Addr} {m0_NoPlace m1_NoPlace m2_NoPlace m3_NoPlace m5_NoPlace : Option Value}
    (xl_NoPlace : K.lookup k_NoPlace = some (excClassObj n_NoPlace q_NoPlace k_NoPlace N_NoPlace bs_NoPlace [.ref k_FigureError, .type "ValueError", .type "Exception", .type "BaseException", .type "object"] true sn_NoPlace su_NoPlace ab_NoPlace co_NoPlace dd_NoPlace m0_NoPlace m1_NoPlace m2_NoPlace m3_NoPlace m5_NoPlace "ValueError.__new__"))
    (xq_NoPlace : PySem.W.excIn K k_NoPlace [.type "ValueError", .type "Exception", .type "BaseException", .type "object"] "ValueError.__new__" = true)
    (st_NoPlace : PySem.W.findIn K (.ref k_NoPlace) "__str__" = some (some (.builtin "BaseException.__str__")))
    (xs_NoAsk_FigureError : PySem.W.subIn K (.ref k_NoAsk) (.ref k_FigureError) = some true)
    (xs_NoAsk_NoRound : PySem.W.subIn K (.ref k_NoAsk) (.ref k_NoRound) = some false)
    (xs_NoAsk_NoFigure : PySem.W.subIn K (.ref k_NoAsk) (.ref k_NoFigure) = some false)
    (xs_NoAsk_NoPlace : PySem.W.subIn K (.ref k_NoAsk) (.ref k_NoPlace) = some false)
    (xs_NoAsk_NoAsk : PySem.W.subIn K (.ref k_NoAsk) (.ref k_NoAsk) = some true)
    (xs_NoAsk_NoNumber : PySem.W.subIn K (.ref k_NoAsk) (.ref k_NoNumber) = some false)
    (xsa_NoAsk : PySem.W.findIn K (.ref k_NoAsk) "__setattr__" = some (some (.builtin "object.__setattr__")))
    (xga_NoAsk : PySem.W.findIn K (.ref k_NoAsk) "__getattribute__" = some (some (.builtin "BaseException.__getattribute__")))
    (xgg_NoAsk : PySem.W.findIn K (.ref k_NoAsk) "__getattr__" = some none)
    (xca_NoAsk : PySem.W.findIn K (.ref k_NoAsk) "__class__" = some (some (.builtin "object.__class__")))
    (xmo_NoAsk : PySem.W.mroIn K k_NoAsk (.type "object") = some true)
    (xkp_NoAsk : PySem.W.keepIn K (.ref k_NoAsk) = true)
    (xve_NoAsk : PySem.W.subIn K (.ref k_NoAsk) (.type "ValueError") = some true)
    (xcn_NoAsk : PySem.W.specialIn K (.builtin "object.__class__") "__get__" = some (some (.builtin "getset_descriptor.__get__"))) (xct_NoAsk : PySem.W.takesIn K (.builtin "object.__class__") = some true)
    {n_NoAsk q_NoAsk : Str} {N_NoAsk : Addr} {bs_NoAsk su_NoAsk : List Value} {sn_NoAsk : List Str} {ab_NoAsk : Bool} {co_NoAsk : Option Bool} {dd_NoAsk : Option Addr} {m0_NoAsk m1_NoAsk m2_NoAsk m3_NoAsk m5_NoAsk : Option Value}
    (xl_NoAsk : K.lookup k_NoAsk = some (excClassObj n_NoAsk q_NoAsk k_NoAsk N_NoAsk bs_NoAsk [.ref k_FigureError, .type "ValueError", .type "Exception", .type "BaseException", .type "object"] true sn_NoAsk su_NoAsk ab_NoAsk co_NoAsk dd_NoAsk m0_NoAsk m1_NoAsk m2_NoAsk m3_NoAsk m5_NoAsk "ValueError.__new__"))
    (xq_NoAsk : PySem.W.excIn K k_NoAsk [.type "ValueError", .type "Exception", .type "BaseException", .type "object"] "ValueError.__new__" = true)
    (st_NoAsk : PySem.W.findIn K (.ref k_NoAsk) "__str__" = some (some (.builtin "BaseException.__str__")))
    : ∃ fd : FuncData, (∀ (s : Shared) (v : Value), BindsTo s fd ⟨[v], []⟩ [("script", v)]) ∧ ∀ base : Heap, K.In base → base.Ns mainGlobals mg → FnOk P w K mg base CX0 7 fa fd ["script"] (sp_law K) := by
  have e := hfa.symm.trans (PySem.W.mg_of X G a27)
  cases e
  have F0 := fun_mk (st := s_figures_of) l0 c0 k0
  have F1 := fun_mk (st := s_power_of) l1 c1 k1
  have F2 := fun_mk (st := s_step_of) l2 c2 k2
  have F3 := fun_mk (st := s_worths_of) l3 c3 k3
  have F4 := fun_mk (st := s_way_of) l4 c4 k4
  have F5 := fun_mk (st := s_end_of) l5 c5 k5
  have F6 := fun_mk (st := s__law_mix) l6 c6 k6
  have F7 := fun_mk (st := s__law_deck) l7 c7 k7
  have F8 := fun_mk (st := s__law_next) l8 c8 k8
  have F9 := fun_mk (st := s__law_pair) l9 c9 k9
  have F10 := fun_mk (st := s__law_figures) l10 c10 k10
  have F11 := fun_mk (st := s__law_power) l11 c11 k11
  have F12 := fun_mk (st := s__law_step) l12 c12 k12
  have F13 := fun_mk (st := s__law_is_whole) l13 c13 k13
  have F14 := fun_mk (st := s__law_end) l14 c14 k14
  have F15 := fun_mk (st := s__law_of) l15 c15 k15
  have F16 := fun_mk (st := s_KeptNumber__number_now) l16 c16 k16
  have F17 := fun_mk (st := s_KeptNumber__end_now) l17 c17 k17
  have F18 := fun_mk (st := s_KeptNumber__step_now) l18 c18 k18
  have F19 := fun_mk (st := s__law_as_due) l19 c19 k19
  have F20 := fun_mk (st := s__law_kind) l20 c20 k20
  have F21 := fun_mk (st := s_KeptNumber__check_figure) l21 c21 k21
  have F22 := fun_mk (st := s_KeptNumber__put_figure) l22 c22 k22
  have F23 := fun_mk (st := s_KeptNumber__set_figure) l23 c23 k23
  have F24 := fun_mk (st := s__law_told) l24 c24 k24
  have F25 := fun_mk (st := s__law_bad) l25 c25 k25
  have F26 := fun_mk (st := s_KeptNumber__init) l26 c26 k26
  have F27 := fun_mk (st := s_law) l27 c27 k27
  let T : Txt K mg := {
    f_figures_of := f0,
    fd_figures_of := _,
    F_figures_of := F0,
    g_figures_of := PySem.W.mg_of X G a0,
    b_figures_of := F0.binds (ps := ["number", "base"]) (fun _ _ _ _ _ _ us hl => match us, hl with | [_, _], _ => rfl),
    f_power_of := f1,
    fd_power_of := _,
    F_power_of := F1,
    g_power_of := PySem.W.mg_of X G a1,
    b_power_of := F1.binds (ps := ["figure", "power"]) (fun _ _ _ _ _ _ us hl => match us, hl with | [_, _], _ => rfl),
    f_step_of := f2,
    fd_step_of := _,
    F_step_of := F2,
    g_step_of := PySem.W.mg_of X G a2,
    b_step_of := F2.binds (ps := ["number", "base", "power"]) (fun _ _ _ _ _ _ us hl => match us, hl with | [_, _, _], _ => rfl),
    f_worths_of := f3,
    fd_worths_of := _,
    F_worths_of := F3,
    g_worths_of := PySem.W.mg_of X G a3,
    b_worths_of := F3.binds (ps := ["base", "power"]) (fun _ _ _ _ _ _ us hl => match us, hl with | [_, _], _ => rfl),
    f_way_of := f4,
    fd_way_of := _,
    F_way_of := F4,
    g_way_of := PySem.W.mg_of X G a4,
    b_way_of := F4.binds (ps := ["number", "base", "power"]) (fun _ _ _ _ _ _ us hl => match us, hl with | [_, _, _], _ => rfl),
    f_end_of := f5,
    fd_end_of := _,
    F_end_of := F5,
    g_end_of := PySem.W.mg_of X G a5,
    b_end_of := F5.binds (ps := ["number", "base", "power"]) (fun _ _ _ _ _ _ us hl => match us, hl with | [_, _, _], _ => rfl),
    f__law_mix := f6,
    fd__law_mix := _,
    F__law_mix := F6,
    g__law_mix := PySem.W.mg_of X G a6,
    b__law_mix := F6.binds (ps := ["cell", "k"]) (fun _ _ _ _ _ _ us hl => match us, hl with | [_, _], _ => rfl),
    f__law_deck := f7,
    fd__law_deck := _,
    F__law_deck := F7,
    g__law_deck := PySem.W.mg_of X G a7,
    b__law_deck := F7.binds (ps := ["script"]) (fun _ _ _ _ _ _ us hl => match us, hl with | [_], _ => rfl),
    f__law_next := f8,
    fd__law_next := _,
    F__law_next := F8,
    g__law_next := PySem.W.mg_of X G a8,
    b__law_next := F8.binds (ps := ["deck", "many"]) (fun _ _ _ _ _ _ us hl => match us, hl with | [_, _], _ => rfl),
    f__law_pair := f9,
    fd__law_pair := _,
    F__law_pair := F9,
    g__law_pair := PySem.W.mg_of X G a9,
    b__law_pair := F9.binds (ps := ["deck"]) (fun _ _ _ _ _ _ us hl => match us, hl with | [_], _ => rfl),
    f__law_figures := f10,
    fd__law_figures := _,
    F__law_figures := F10,
    g__law_figures := PySem.W.mg_of X G a10,
    b__law_figures := F10.binds (ps := ["number", "base"]) (fun _ _ _ _ _ _ us hl => match us, hl with | [_, _], _ => rfl),
    f__law_power := f11,
    fd__law_power := _,
    F__law_power := F11,
    g__law_power := PySem.W.mg_of X G a11,
    b__law_power := F11.binds (ps := ["number", "often"]) (fun _ _ _ _ _ _ us hl => match us, hl with | [_, _], _ => rfl),
    f__law_step := f12,
    fd__law_step := _,
    F__law_step := F12,
    g__law_step := PySem.W.mg_of X G a12,
    b__law_step := F12.binds (ps := ["number", "base", "power"]) (fun _ _ _ _ _ _ us hl => match us, hl with | [_, _, _], _ => rfl),
    f__law_is_whole := f13,
    fd__law_is_whole := _,
    F__law_is_whole := F13,
    g__law_is_whole := PySem.W.mg_of X G a13,
    b__law_is_whole := F13.binds (ps := ["found", "due"]) (fun _ _ _ _ _ _ us hl => match us, hl with | [_, _], _ => rfl),
    f__law_end := f14,
    fd__law_end := _,
    F__law_end := F14,
    g__law_end := PySem.W.mg_of X G a14,
    b__law_end := F14.binds (ps := ["number", "base", "power"]) (fun _ _ _ _ _ _ us hl => match us, hl with | [_, _, _], _ => rfl),
    f__law_of := f15,
    fd__law_of := _,
    F__law_of := F15,
    g__law_of := PySem.W.mg_of X G a15,
    b__law_of := F15.binds (ps := ["figures", "base"]) (fun _ _ _ _ _ _ us hl => match us, hl with | [_, _], _ => rfl),
    f_KeptNumber__number_now := f16,
    fd_KeptNumber__number_now := _,
    F_KeptNumber__number_now := F16,
    b_KeptNumber__number_now := F16.binds (ps := ["self"]) (fun _ _ _ _ _ _ us hl => match us, hl with | [_], _ => rfl),
    f_KeptNumber__end_now := f17,
    fd_KeptNumber__end_now := _,
    F_KeptNumber__end_now := F17,
    b_KeptNumber__end_now := F17.binds (ps := ["self"]) (fun _ _ _ _ _ _ us hl => match us, hl with | [_], _ => rfl),
    f_KeptNumber__step_now := f18,
    fd_KeptNumber__step_now := _,
    F_KeptNumber__step_now := F18,
    b_KeptNumber__step_now := F18.binds (ps := ["self"]) (fun _ _ _ _ _ _ us hl => match us, hl with | [_], _ => rfl),
    f__law_as_due := f19,
    fd__law_as_due := _,
    F__law_as_due := F19,
    g__law_as_due := PySem.W.mg_of X G a19,
    b__law_as_due := F19.binds (ps := ["deck", "kept", "figures", "base", "power"]) (fun _ _ _ _ _ _ us hl => match us, hl with | [_, _, _, _, _], _ => rfl),
    f__law_kind := f20,
    fd__law_kind := _,
    F__law_kind := F20,
    g__law_kind := PySem.W.mg_of X G a20,
    b__law_kind := F20.binds (ps := ["caught"]) (fun _ _ _ _ _ _ us hl => match us, hl with | [_], _ => rfl),
    f_KeptNumber__check_figure := f21,
    fd_KeptNumber__check_figure := _,
    F_KeptNumber__check_figure := F21,
    b_KeptNumber__check_figure := F21.binds (ps := ["self", "figure"]) (fun _ _ _ _ _ _ us hl => match us, hl with | [_, _], _ => rfl),
    f_KeptNumber__put_figure := f22,
    fd_KeptNumber__put_figure := _,
    F_KeptNumber__put_figure := F22,
    b_KeptNumber__put_figure := F22.binds (ps := ["self", "figure"]) (fun _ _ _ _ _ _ us hl => match us, hl with | [_, _], _ => rfl),
    f_KeptNumber__set_figure := f23,
    fd_KeptNumber__set_figure := _,
    F_KeptNumber__set_figure := F23,
    b_KeptNumber__set_figure := F23.binds (ps := ["self", "place", "figure"]) (fun _ _ _ _ _ _ us hl => match us, hl with | [_, _, _], _ => rfl),
    f__law_told := f24,
    fd__law_told := _,
    F__law_told := F24,
    g__law_told := PySem.W.mg_of X G a24,
    b__law_told := F24.binds (ps := ["kept", "place", "figure"]) (fun _ _ _ _ _ _ us hl => match us, hl with | [_, _, _], _ => rfl),
    f__law_bad := f25,
    fd__law_bad := _,
    F__law_bad := F25,
    g__law_bad := PySem.W.mg_of X G a25,
    b__law_bad := F25.binds (ps := ["deck", "figures", "base"]) (fun _ _ _ _ _ _ us hl => match us, hl with | [_, _, _], _ => rfl),
    f_KeptNumber__init := f26,
    fd_KeptNumber__init := _,
    F_KeptNumber__init := F26,
    b_KeptNumber__init := F26.binds (ps := ["self", "base", "power"]) (fun _ _ _ _ _ _ us hl => match us, hl with | [_, _, _], _ => rfl),
    f_law := fa,
    fd_law := _,
    F_law := F27,
    g_law := PySem.W.mg_of X G a27,
    b_law := F27.binds (ps := ["script"]) (fun _ _ _ _ _ _ us hl => match us, hl with | [_], _ => rfl),
    m_ValueError := PySem.W.mg_none_of X G z0,
    m_bool := PySem.W.mg_none_of X G z1,
    m_int := PySem.W.mg_none_of X G z2,
    m_isinstance := PySem.W.mg_none_of X G z3,
    m_len := PySem.W.mg_none_of X G z4,
    m_list := PySem.W.mg_none_of X G z5,
    m_min := PySem.W.mg_none_of X G z6,
    m_range := PySem.W.mg_none_of X G z7,
    m_str := PySem.W.mg_none_of X G z8,
    m_sum := PySem.W.mg_none_of X G z9,
    m_tuple := PySem.W.mg_none_of X G z10,
    k_FigureError := k_FigureError,
    gk_FigureError := PySem.W.mg_of X G xa_FigureError,
    x_FigureError := ⟨xh_FigureError, xt_FigureError, xb_FigureError⟩,
    k_NoRound := k_NoRound,
    gk_NoRound := PySem.W.mg_of X G xa_NoRound,
    x_NoRound := ⟨xh_NoRound, xt_NoRound, xb_NoRound⟩,
    k_NoFigure := k_NoFigure,
    gk_NoFigure := PySem.W.mg_of X G xa_NoFigure,
    x_NoFigure := ⟨xh_NoFigure, xt_NoFigure, xb_NoFigure⟩,
    k_NoPlace := k_NoPlace,
    gk_NoPlace := PySem.W.mg_of X G xa_NoPlace,
    x_NoPlace := ⟨xh_NoPlace, xt_NoPlace, xb_NoPlace⟩,
    k_NoAsk := k_NoAsk,
    gk_NoAsk := PySem.W.mg_of X G xa_NoAsk,
    x_NoAsk := ⟨xh_NoAsk, xt_NoAsk, xb_NoAsk⟩,
    k_NoNumber := k_NoNumber,
    gk_NoNumber := PySem.W.mg_of X G xa_NoNumber,
    x_NoNumber := ⟨xh_NoNumber, xt_NoNumber, xb_NoNumber⟩,
    s_NoRound_FigureError := xs_NoRound_FigureError,
    s_NoRound_NoRound := xs_NoRound_NoRound,
    s_NoRound_NoFigure := xs_NoRound_NoFigure,
    s_NoRound_NoPlace := xs_NoRound_NoPlace,
    s_NoRound_NoAsk := xs_NoRound_NoAsk,
    s_NoRound_NoNumber := xs_NoRound_NoNumber,
    I_NoRound := ⟨xsa_NoRound, xga_NoRound, xgg_NoRound, xca_NoRound, xcn_NoRound, xct_NoRound, xmo_NoRound, xkp_NoRound, xs_NoRound_NoRound, xve_NoRound, ⟨_, _, _, _, _, _, _, _, _, _, _, _, _, _, _, xl_NoRound, rfl⟩⟩,
    xq_NoRound := xq_NoRound,
    st_NoRound := st_NoRound,
    s_NoFigure_FigureError := xs_NoFigure_FigureError,
    s_NoFigure_NoRound := xs_NoFigure_NoRound,
    s_NoFigure_NoFigure := xs_NoFigure_NoFigure,
    s_NoFigure_NoPlace := xs_NoFigure_NoPlace,
    s_NoFigure_NoAsk := xs_NoFigure_NoAsk,
    s_NoFigure_NoNumber := xs_NoFigure_NoNumber,
    I_NoFigure := ⟨xsa_NoFigure, xga_NoFigure, xgg_NoFigure, xca_NoFigure, xcn_NoFigure, xct_NoFigure, xmo_NoFigure, xkp_NoFigure, xs_NoFigure_NoFigure, xve_NoFigure, ⟨_, _, _, _, _, _, _, _, _, _, _, _, _, _, _, xl_NoFigure, rfl⟩⟩,
    xq_NoFigure := xq_NoFigure,
    st_NoFigure := st_NoFigure,
    s_NoPlace_FigureError := xs_NoPlace_FigureError,
    s_NoPlace_NoRound := xs_NoPlace_NoRound,
    s_NoPlace_NoFigure := xs_NoPlace_NoFigure,
    s_NoPlace_NoPlace := xs_NoPlace_NoPlace,
    s_NoPlace_NoAsk := xs_NoPlace_NoAsk,
    s_NoPlace_NoNumber := xs_NoPlace_NoNumber,
    I_NoPlace := ⟨xsa_NoPlace, xga_NoPlace, xgg_NoPlace, xca_NoPlace, xcn_NoPlace, xct_NoPlace, xmo_NoPlace, xkp_NoPlace, xs_NoPlace_NoPlace, xve_NoPlace, ⟨_, _, _, _, _, _, _, _, _, _, _, _, _, _, _, xl_NoPlace, rfl⟩⟩,
    xq_NoPlace := xq_NoPlace,
    st_NoPlace := st_NoPlace,
    s_NoAsk_FigureError := xs_NoAsk_FigureError,
    s_NoAsk_NoRound := xs_NoAsk_NoRound,
    s_NoAsk_NoFigure := xs_NoAsk_NoFigure,
    s_NoAsk_NoPlace := xs_NoAsk_NoPlace,
    s_NoAsk_NoAsk := xs_NoAsk_NoAsk,
    s_NoAsk_NoNumber := xs_NoAsk_NoNumber,
    I_NoAsk := ⟨xsa_NoAsk, xga_NoAsk, xgg_NoAsk, xca_NoAsk, xcn_NoAsk, xct_NoAsk, xmo_NoAsk, xkp_NoAsk, xs_NoAsk_NoAsk, xve_NoAsk, ⟨_, _, _, _, _, _, _, _, _, _, _, _, _, _, _, xl_NoAsk, rfl⟩⟩,
    xq_NoAsk := xq_NoAsk,
    st_NoAsk := st_NoAsk,
    k_KeptNumber := k_KeptNumber,
    gk_KeptNumber := PySem.W.mg_of X G oa_KeptNumber,
    cl_KeptNumber := ⟨og_KeptNumber, oh_KeptNumber, op_KeptNumber, os_KeptNumber⟩,
    na_KeptNumber_base := on_KeptNumber_base,
    na_KeptNumber_power := on_KeptNumber_power,
    na_KeptNumber_worths := on_KeptNumber_worths,
    na_KeptNumber_figures := on_KeptNumber_figures,
    me_KeptNumber__number_now := ⟨a16, i16, k16⟩,
    me_KeptNumber__end_now := ⟨a17, i17, k17⟩,
    me_KeptNumber__step_now := ⟨a18, i18, k18⟩,
    me_KeptNumber__check_figure := ⟨a21, i21, k21⟩,
    me_KeptNumber__put_figure := ⟨a22, i22, k22⟩,
    me_KeptNumber__set_figure := ⟨a23, i23, k23⟩,
    M_KeptNumber := ⟨om_KeptNumber, a26, i26, ok_KeptNumber⟩ }
  exact ⟨_, fun s v => .of_eq rfl, fun base _ _ => ok_law T⟩
end Fx
open PySem PySem.W PyProof.Rows
set_option maxHeartbeats 0 in
theorem PySem.Challenge.cw_figurerounds_k31_figures_refused_holds : PySem.Challenge.rw_figurerounds_k31_figures_refused.Holds := by
  w_on; o_law; k_head; (case hw => w_witness2)
  k_fill
  refine L2.walk_of (l := PySem.Challenge.rw_figurerounds_k31_figures_refused) (n := 63) (k := 7) (x := "script") (CX := fun _ => L2.CX0) (sp := fun w => Fx.sp_law _) rfl (by decide) rfl ⟨rfl, by decide, by decide⟩ (fun w h Y => PySem.W.kIn_of Y) ?F (fun _ _ a ns hl _ hS => Fx.law_start hl hS) (fun _ _ _ _ _ h => h)
  case F =>
    intro w mg fa h KX G hmg
    refine' Fx.all_mk KX G hmg ?oa_KeptNumber ?og_KeptNumber ?oh_KeptNumber ?op_KeptNumber ?os_KeptNumber ?om_KeptNumber ?ok_KeptNumber ?on_KeptNumber_base ?on_KeptNumber_power ?on_KeptNumber_worths ?on_KeptNumber_figures ?a0 ?l0 ?c0 ?k0 ?a1 ?l1 ?c1 ?k1 ?a2 ?l2 ?c2 ?k2 ?a3 ?l3 ?c3 ?k3 ?a4 ?l4 ?c4 ?k4 ?a5 ?l5 ?c5 ?k5 ?a6 ?l6 ?c6 ?k6 ?a7 ?l7 ?c7 ?k7 ?a8 ?l8 ?c8 ?k8 ?a9 ?l9 ?c9 ?k9 ?a10 ?l10 ?c10 ?k10 ?a11 ?l11 ?c11 ?k11 ?a12 ?l12 ?c12 ?k12 ?a13 ?l13 ?c13 ?k13 ?a14 ?l14 ?c14 ?k14 ?a15 ?l15 ?c15 ?k15 ?a16 ?i16 ?l16 ?c16 ?k16 ?a17 ?i17 ?l17 ?c17 ?k17 ?a18 ?i18 ?l18 ?c18 ?k18 ?a19 ?l19 ?c19 ?k19 ?a20 ?l20 ?c20 ?k20 ?a21 ?i21 ?l21 ?c21 ?k21 ?a22 ?i22 ?l22 ?c22 ?k22 ?a23 ?i23 ?l23 ?c23 ?k23 ?a24 ?l24 ?c24 ?k24 ?a25 ?l25 ?c25 ?k25 ?a26 ?i26 ?l26 ?c26 ?k26 ?a27 ?l27 ?c27 ?k27 ?z0 ?z1 ?z2 ?z3 ?z4 ?z5 ?z6 ?z7 ?z8 ?z9 ?z10 ?xa_FigureError ?xh_FigureError ?xt_FigureError ?xb_FigureError ?xa_NoRound ?xh_NoRound ?xt_NoRound ?xb_NoRound ?xa_NoFigure ?xh_NoFigure ?xt_NoFigure ?xb_NoFigure ?xa_NoPlace ?xh_NoPlace ?xt_NoPlace ?xb_NoPlace ?xa_NoAsk ?xh_NoAsk ?xt_NoAsk ?xb_NoAsk ?xa_NoNumber ?xh_NoNumber ?xt_NoNumber ?xb_NoNumber ?xs_NoRound_FigureError ?xs_NoRound_NoRound ?xs_NoRound_NoFigure ?xs_NoRound_NoPlace ?xs_NoRound_NoAsk ?xs_NoRound_NoNumber ?xsa_NoRound ?xga_NoRound ?xgg_NoRound ?xca_NoRound ?xmo_NoRound ?xkp_NoRound ?xve_NoRound ?xcn_NoRound ?xct_NoRound ?xl_NoRound ?xq_NoRound ?st_NoRound ?xs_NoFigure_FigureError ?xs_NoFigure_NoRound ?xs_NoFigure_NoFigure ?xs_NoFigure_NoPlace ?xs_NoFigure_NoAsk ?xs_NoFigure_NoNumber ?xsa_NoFigure ?xga_NoFigure ?xgg_NoFigure ?xca_NoFigure ?xmo_NoFigure ?xkp_NoFigure ?xve_NoFigure ?xcn_NoFigure ?xct_NoFigure ?xl_NoFigure ?xq_NoFigure ?st_NoFigure ?xs_NoPlace_FigureError ?xs_NoPlace_NoRound ?xs_NoPlace_NoFigure ?xs_NoPlace_NoPlace ?xs_NoPlace_NoAsk ?xs_NoPlace_NoNumber ?xsa_NoPlace ?xga_NoPlace ?xgg_NoPlace ?xca_NoPlace ?xmo_NoPlace ?xkp_NoPlace ?xve_NoPlace ?xcn_NoPlace ?xct_NoPlace ?xl_NoPlace ?xq_NoPlace ?st_NoPlace ?xs_NoAsk_FigureError ?xs_NoAsk_NoRound ?xs_NoAsk_NoFigure ?xs_NoAsk_NoPlace ?xs_NoAsk_NoAsk ?xs_NoAsk_NoNumber ?xsa_NoAsk ?xga_NoAsk ?xgg_NoAsk ?xca_NoAsk ?xmo_NoAsk ?xkp_NoAsk ?xve_NoAsk ?xcn_NoAsk ?xct_NoAsk ?xl_NoAsk ?xq_NoAsk ?st_NoAsk
    (case oa_KeptNumber => k_is); (case og_KeptNumber => k_is); (case oh_KeptNumber => k_is); (case op_KeptNumber => k_is); (case os_KeptNumber => k_is); (case om_KeptNumber => k_is); (case ok_KeptNumber => k_is); (case on_KeptNumber_base => k_is); (case on_KeptNumber_power => k_is); (case on_KeptNumber_worths => k_is); (case on_KeptNumber_figures => k_is); (case a0 => k_is); (case l0 => k_is); (case c0 => k_is); (case k0 => k_is); (case a1 => k_is); (case l1 => k_is); (case c1 => k_is); (case k1 => k_is); (case a2 => k_is); (case l2 => k_is); (case c2 => k_is); (case k2 => k_is); (case a3 => k_is); (case l3 => k_is); (case c3 => k_is); (case k3 => k_is); (case a4 => k_is); (case l4 => k_is); (case c4 => k_is); (case k4 => k_is); (case a5 => k_is); (case l5 => k_is); (case c5 => k_is); (case k5 => k_is); (case a6 => k_is); (case l6 => k_is); (case c6 => k_is); (case k6 => k_is); (case a7 => k_is); (case l7 => k_is); (case c7 => k_is); (case k7 => k_is); (case a8 => k_is); (case l8 => k_is); (case c8 => k_is); (case k8 => k_is); (case a9 => k_is); (case l9 => k_is); (case c9 => k_is); (case k9 => k_is); (case a10 => k_is); (case l10 => k_is); (case c10 => k_is); (case k10 => k_is); (case a11 => k_is); (case l11 => k_is); (case c11 => k_is); (case k11 => k_is); (case a12 => k_is); (case l12 => k_is); (case c12 => k_is); (case k12 => k_is); (case a13 => k_is); (case l13 => k_is); (case c13 => k_is); (case k13 => k_is); (case a14 => k_is); (case l14 => k_is); (case c14 => k_is); (case k14 => k_is); (case a15 => k_is); (case l15 => k_is); (case c15 => k_is); (case k15 => k_is); (case a16 => k_is); (case i16 => k_is); (case l16 => k_is); (case c16 => k_is); (case k16 => k_is); (case a17 => k_is); (case i17 => k_is); (case l17 => k_is); (case c17 => k_is); (case k17 => k_is); (case a18 => k_is); (case i18 => k_is); (case l18 => k_is); (case c18 => k_is); (case k18 => k_is); (case a19 => k_is); (case l19 => k_is); (case c19 => k_is); (case k19 => k_is); (case a20 => k_is); (case l20 => k_is); (case c20 => k_is); (case k20 => k_is); (case a21 => k_is); (case i21 => k_is); (case l21 => k_is); (case c21 => k_is); (case k21 => k_is); (case a22 => k_is); (case i22 => k_is); (case l22 => k_is); (case c22 => k_is); (case k22 => k_is); (case a23 => k_is); (case i23 => k_is); (case l23 => k_is); (case c23 => k_is); (case k23 => k_is); (case a24 => k_is); (case l24 => k_is); (case c24 => k_is); (case k24 => k_is); (case a25 => k_is); (case l25 => k_is); (case c25 => k_is); (case k25 => k_is); (case a26 => k_is); (case i26 => k_is); (case l26 => k_is); (case c26 => k_is); (case k26 => k_is); (case a27 => k_is); (case l27 => k_is); (case c27 => k_is); (case k27 => k_is); (case z0 => k_is); (case z1 => k_is); (case z2 => k_is); (case z3 => k_is); (case z4 => k_is); (case z5 => k_is); (case z6 => k_is); (case z7 => k_is); (case z8 => k_is); (case z9 => k_is); (case z10 => k_is); (case xa_FigureError => k_is); (case xh_FigureError => k_is); (case xt_FigureError => k_is); (case xb_FigureError => k_is); (case xa_NoRound => k_is); (case xh_NoRound => k_is); (case xt_NoRound => k_is); (case xb_NoRound => k_is); (case xa_NoFigure => k_is); (case xh_NoFigure => k_is); (case xt_NoFigure => k_is); (case xb_NoFigure => k_is); (case xa_NoPlace => k_is); (case xh_NoPlace => k_is); (case xt_NoPlace => k_is); (case xb_NoPlace => k_is); (case xa_NoAsk => k_is); (case xh_NoAsk => k_is); (case xt_NoAsk => k_is); (case xb_NoAsk => k_is); (case xa_NoNumber => k_is); (case xh_NoNumber => k_is); (case xt_NoNumber => k_is); (case xb_NoNumber => k_is); (case xs_NoRound_FigureError => k_is); (case xs_NoRound_NoRound => k_is); (case xs_NoRound_NoFigure => k_is); (case xs_NoRound_NoPlace => k_is); (case xs_NoRound_NoAsk => k_is); (case xs_NoRound_NoNumber => k_is); (case xsa_NoRound => k_is); (case xga_NoRound => k_is); (case xgg_NoRound => k_is); (case xca_NoRound => k_is); (case xmo_NoRound => k_is); (case xkp_NoRound => k_is); (case xve_NoRound => k_is); (case xcn_NoRound => k_is); (case xct_NoRound => k_is); (case xl_NoRound => k_is); (case xq_NoRound => k_exc); (case st_NoRound => k_is); (case xs_NoFigure_FigureError => k_is); (case xs_NoFigure_NoRound => k_is); (case xs_NoFigure_NoFigure => k_is); (case xs_NoFigure_NoPlace => k_is); (case xs_NoFigure_NoAsk => k_is); (case xs_NoFigure_NoNumber => k_is); (case xsa_NoFigure => k_is); (case xga_NoFigure => k_is); (case xgg_NoFigure => k_is); (case xca_NoFigure => k_is); (case xmo_NoFigure => k_is); (case xkp_NoFigure => k_is); (case xve_NoFigure => k_is); (case xcn_NoFigure => k_is); (case xct_NoFigure => k_is); (case xl_NoFigure => k_is); (case xq_NoFigure => k_exc); (case st_NoFigure => k_is); (case xs_NoPlace_FigureError => k_is); (case xs_NoPlace_NoRound => k_is); (case xs_NoPlace_NoFigure => k_is); (case xs_NoPlace_NoPlace => k_is); (case xs_NoPlace_NoAsk => k_is); (case xs_NoPlace_NoNumber => k_is); (case xsa_NoPlace => k_is); (case xga_NoPlace => k_is); (case xgg_NoPlace => k_is); (case xca_NoPlace => k_is); (case xmo_NoPlace => k_is); (case xkp_NoPlace => k_is); (case xve_NoPlace => k_is); (case xcn_NoPlace => k_is); (case xct_NoPlace => k_is); (case xl_NoPlace => k_is); (case xq_NoPlace => k_exc); (case st_NoPlace => k_is); (case xs_NoAsk_FigureError => k_is); (case xs_NoAsk_NoRound => k_is); (case xs_NoAsk_NoFigure => k_is); (case xs_NoAsk_NoPlace => k_is); (case xs_NoAsk_NoAsk => k_is); (case xs_NoAsk_NoNumber => k_is); (case xsa_NoAsk => k_is); (case xga_NoAsk => k_is); (case xgg_NoAsk => k_is); (case xca_NoAsk => k_is); (case xmo_NoAsk => k_is); (case xkp_NoAsk => k_is); (case xve_NoAsk => k_is); (case xcn_NoAsk => k_is); (case xct_NoAsk => k_is); (case xl_NoAsk => k_is); (case xq_NoAsk => k_exc); (case st_NoAsk => k_is)
