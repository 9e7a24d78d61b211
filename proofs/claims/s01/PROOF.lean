import PyProof.Rows.All
import Wide.All
import OpenK.AllK
import Wide.FinOn
import PyProof.EqAt
import PyProof.EqKinds
import PyProof.TupleCall
import Open.SpecLaws
import KE.OsGo
import KE.KStateDown
import HandS.ForSpec
import HandS.Defaults
import HandS.Head0
import HandS.Head1
import HandS.Head2
import HandS.HeadEnd
import HandS.HeadHook1
import HandS.HeadHook2
import HandS.ClsMeth
import PySem.Challenge.RW_layouts_s01_answers
import HandS.Wide
import HandS.WideBits
import HandS.TryMany
import HandS.Codes
import HandS.Comp
import HandS.Iter
import HandS.Text
import HandS.Dict
import HandS.Rev
import HandS.ExcInit
import HandS.Walk
import KE.IntTextLaws
import PyProof.Rows.StrDouble
import PyProof.Rows.StrFin3
import HandS.Zip
/-! Mathematics of the layouts, without the library. 1: a kind as its functions (Cod), rows and ones of such. -/
namespace ML
open Valaya (Ty Rec countLeaves takeValue takeMany absent rowLength power countBy nthBy nthMany indexBy indexMany)
open Valaye (Niche Form two part forms formOf noNiche moved better taken_ How howOf oneForm maybeForm manyForm encBy encMany decBy decMany spareCode spareTold)

theorem two_eq : ∀ n, two n = 2 ^ n
  | 0 => rfl
  | n + 1 => by
    show 2 * two n = 2 ^ (n + 1)
    rw [two_eq n, Nat.pow_succ, Nat.mul_comm]
theorem two_pos (n : Nat) : 0 < two n := by rw [two_eq]; exact Nat.two_pow_pos n
theorem two_add (a b : Nat) : two (a + b) = two a * two b := by rw [two_eq, two_eq, two_eq, Nat.pow_add]
theorem two_le {a b : Nat} (h : a ≤ b) : two a ≤ two b := by rw [two_eq, two_eq]; exact Nat.pow_le_pow_right (by decide) h

/-- a kind, by its functions -/
structure Cod where
  bits : Nat
  nic : Niche
  cnt : Nat
  eat : List Int → Option (List Int)
  enc : List Int → Nat × List Int
  dec : Nat → Option (List Int)
  nth : Nat → List Int
  idx : List Int → Nat × List Int
def cod (t : Ty) : Cod where
  bits := (formOf t).bits
  nic := (formOf t).niche
  cnt := countBy t false
  eat := fun l => (takeValue t none l).map (·.2)
  enc := encBy t none
  dec := decBy t none
  nth := nthBy t none
  idx := indexBy t none
def frm (c : Cod) : Form := ⟨c.bits, c.nic⟩

structure Good (c : Cod) : Prop where
  pos : 0 < c.cnt
  split : ∀ l r, c.eat l = some r → ∃ p, l = p ++ r ∧ c.eat p = some []
  app : ∀ p r, c.eat p = some [] → c.eat (p ++ r) = some r ∧ c.enc (p ++ r) = ((c.enc p).1, r) ∧ c.idx (p ++ r) = ((c.idx p).1, r)
  lt : ∀ p, c.eat p = some [] → (c.enc p).1 < two c.bits
  nic : ∀ p, c.eat p = some [] → 0 < c.nic.n → ¬ (c.nic.first ≤ part (c.enc p).1 c.nic.off c.nic.w ∧ part (c.enc p).1 c.nic.off c.nic.w < c.nic.first + c.nic.n)
  fits : 0 < c.nic.n → c.nic.off + c.nic.w ≤ c.bits ∧ c.nic.first + c.nic.n ≤ two c.nic.w
  back : ∀ p, c.eat p = some [] → c.dec (c.enc p).1 = some p
  nth : ∀ n, n < c.cnt → c.eat (c.nth n) = some []
  idx : ∀ p, c.eat p = some [] → (c.idx p).1 < c.cnt

theorem Good.enc_rest {c : Cod} (g : Good c) {l r : List Int} (h : c.eat l = some r) : (c.enc l).2 = r := by
  obtain ⟨p, rfl, hp⟩ := g.split l r h
  rw [(g.app p r hp).2.1]
theorem Good.enc_lt {c : Cod} (g : Good c) {l r : List Int} (h : c.eat l = some r) : (c.enc l).1 < two c.bits := by
  obtain ⟨p, rfl, hp⟩ := g.split l r h
  rw [(g.app p r hp).2.1]
  exact g.lt p hp
theorem Good.idx_lt {c : Cod} (g : Good c) {l r : List Int} (h : c.eat l = some r) : (c.idx l).1 < c.cnt := by
  obtain ⟨p, rfl, hp⟩ := g.split l r h
  rw [(g.app p r hp).2.2]
  exact g.idx p hp
/-- what is left is an end of it -/
theorem Good.suffix {c : Cod} (g : Good c) {ns : List Int} {i : Nat} {r : List Int} (h : c.eat (ns.drop i) = some r) : r.length ≤ ns.length ∧ ns.drop (ns.length - r.length) = r := by
  obtain ⟨p, e, _⟩ := g.split _ r h
  have hl := congrArg List.length e
  rw [List.length_drop, List.length_append] at hl
  refine ⟨by omega, ?_⟩
  by_cases z : i ≤ ns.length
  · have : ns.length - r.length = i + p.length := by omega
    rw [this, ← List.drop_drop, e, List.drop_left]
  · have : r.length = 0 := by omega
    rw [List.length_eq_zero_iff.mp this, List.length_nil, Nat.sub_zero, List.drop_length]
theorem Good.idx_rest {c : Cod} (g : Good c) {l r : List Int} (h : c.eat l = some r) : (c.idx l).2 = r := by
  obtain ⟨p, rfl, hp⟩ := g.split l r h
  rw [(g.app p r hp).2.2]

/-- the value with just these bits -/
def D (c : Cod) (n : Nat) : Option (List Int) := (c.dec n).bind fun v => if c.eat v = some [] ∧ (c.enc v).1 = n then some v else none
theorem D_iff {c : Cod} (g : Good c) {n : Nat} {v : List Int} : D c n = some v ↔ c.eat v = some [] ∧ (c.enc v).1 = n := by
  unfold D
  constructor
  · intro h
    cases e : c.dec n with
    | none => rw [e] at h; cases h
    | some u =>
      rw [e] at h
      have h : (if c.eat u = some [] ∧ (c.enc u).1 = n then some u else none) = some v := h
      by_cases q : c.eat u = some [] ∧ (c.enc u).1 = n
      · rw [if_pos q] at h
        cases h
        exact q
      · rw [if_neg q] at h
        cases h
  · rintro ⟨h1, h2⟩
    have e := g.back v h1
    rw [h2] at e
    rw [e]
    show (if c.eat v = some [] ∧ (c.enc v).1 = n then some v else none) = some v
    rw [if_pos ⟨h1, h2⟩]
theorem opt_ext {α : Type} {a b : Option α} (h : ∀ v, a = some v ↔ b = some v) : a = b := by
  cases a with
  | none =>
    cases b with
    | none => rfl
    | some y => exact ((h y).mpr rfl)
  | some x => exact ((h x).mp rfl).symm

/-! ### rows -/
def eatRow : List Cod → List Int → Option (List Int)
  | [], l => some l
  | c :: cs, l => (c.eat l).bind (eatRow cs)
def encRow : List Cod → List Int → Nat × List Int
  | [], l => (0, l)
  | c :: cs, l => ((c.enc l).1 + two c.bits * (encRow cs (c.enc l).2).1, (encRow cs (c.enc l).2).2)
def decRow : List Cod → Nat → Option (List Int)
  | [], _ => some []
  | c :: cs, n => (c.dec (n % two c.bits)).bind fun x => (decRow cs (n / two c.bits)).map fun y => x ++ y
def cntRow : List Cod → Nat
  | [] => 1
  | c :: cs => c.cnt * cntRow cs
def nthRow : List Cod → Nat → List Int
  | [], _ => []
  | c :: cs, n => c.nth (n / cntRow cs) ++ nthRow cs (n % cntRow cs)
def idxRow : List Cod → List Int → Nat × List Int
  | [], l => (0, l)
  | c :: cs, l => ((c.idx l).1 * cntRow cs + (idxRow cs (c.idx l).2).1, (idxRow cs (c.idx l).2).2)
def bitsRow : List Cod → Nat
  | [] => 0
  | c :: cs => c.bits + bitsRow cs
def nicRow : List Cod → Niche
  | [] => noNiche
  | c :: cs => better c.nic (moved c.bits (nicRow cs))
def rowCod (cs : List Cod) : Cod := ⟨bitsRow cs, nicRow cs, cntRow cs, eatRow cs, encRow cs, decRow cs, nthRow cs, idxRow cs⟩
theorem part_lo {a b k off w : Nat} (h : off + w ≤ k) : part (a + two k * b) off w = part a off w := by
  unfold part
  simp only [two_eq]
  obtain ⟨d, rfl⟩ : ∃ d, k = off + (w + d) := ⟨k - (off + w), by omega⟩
  rw [Nat.pow_add, Nat.mul_assoc, Nat.add_mul_div_left _ _ (Nat.two_pow_pos off), Nat.pow_add, Nat.mul_assoc, Nat.add_mul_mod_self_left]
theorem part_hi {a b k off w : Nat} (h : a < two k) : part (a + two k * b) (off + k) w = part b off w := by
  unfold part
  simp only [two_eq] at *
  rw [Nat.add_comm off k, Nat.pow_add, ← Nat.div_div_eq_div_mul, Nat.add_mul_div_left _ _ (Nat.two_pow_pos k), Nat.div_eq_of_lt h, Nat.zero_add]
theorem good_nil : Good (rowCod []) where
  pos := Nat.one_pos
  split := fun l r h => by
    cases h
    exact ⟨[], rfl, rfl⟩
  app := fun p r h => by
    have h : some p = some [] := h
    cases h
    exact ⟨rfl, rfl, rfl⟩
  lt := fun p h => Nat.one_pos
  nic := fun p h hn => absurd hn (Nat.lt_irrefl 0)
  fits := fun hn => absurd hn (Nat.lt_irrefl 0)
  back := fun p h => by
    have h : some p = some [] := h
    cases h
    rfl
  nth := fun n h => rfl
  idx := fun p h => Nat.one_pos
theorem row_split {c : Cod} (g : Good c) {cs : List Cod} {l r : List Int} (h : eatRow (c :: cs) l = some r) : ∃ p m, l = p ++ m ∧ c.eat p = some [] ∧ eatRow cs m = some r := by
  have h2 : (c.eat l).bind (eatRow cs) = some r := h
  cases e : c.eat l with
  | none => rw [e] at h2; cases h2
  | some m =>
    rw [e] at h2
    obtain ⟨p, z, hp⟩ := g.split l m e
    exact ⟨p, m, z, hp, h2⟩
theorem encRow_app {c : Cod} (g : Good c) {cs : List Cod} {p m : List Int} (hp : c.eat p = some []) : encRow (c :: cs) (p ++ m) = ((c.enc p).1 + two c.bits * (encRow cs m).1, (encRow cs m).2) := by
  show ((c.enc (p ++ m)).1 + two c.bits * (encRow cs (c.enc (p ++ m)).2).1, (encRow cs (c.enc (p ++ m)).2).2) = _
  rw [(g.app p m hp).2.1]
theorem idxRow_app {c : Cod} (g : Good c) {cs : List Cod} {p m : List Int} (hp : c.eat p = some []) : idxRow (c :: cs) (p ++ m) = ((c.idx p).1 * cntRow cs + (idxRow cs m).1, (idxRow cs m).2) := by
  show ((c.idx (p ++ m)).1 * cntRow cs + (idxRow cs (c.idx (p ++ m)).2).1, (idxRow cs (c.idx (p ++ m)).2).2) = _
  rw [(g.app p m hp).2.2]
theorem eatRow_app {c : Cod} (g : Good c) {cs : List Cod} {p m : List Int} (hp : c.eat p = some []) : eatRow (c :: cs) (p ++ m) = eatRow cs m := by
  show (c.eat (p ++ m)).bind (eatRow cs) = _
  rw [(g.app p m hp).1]
  rfl
theorem better_n {a b : Niche} (h : 0 < (better a b).n) : (better a b = a ∧ 0 < a.n) ∨ (better a b = b ∧ 0 < b.n) := by
  unfold better at *
  split
  · rename_i z
    rw [if_pos z] at h
    exact .inr ⟨rfl, h⟩
  · rename_i z
    rw [if_neg z] at h
    exact .inl ⟨rfl, h⟩
theorem good_cons {c : Cod} (g : Good c) {cs : List Cod} (gs : Good (rowCod cs)) : Good (rowCod (c :: cs)) where
  pos := Nat.mul_pos g.pos gs.pos
  split := fun l r h => by
    obtain ⟨p, m, rfl, hp, hm⟩ := row_split g h
    obtain ⟨q, rfl, hq⟩ := gs.split m r hm
    exact ⟨p ++ q, by rw [List.append_assoc], (eatRow_app g hp).trans hq⟩
  app := fun p r h => by
    obtain ⟨p, m, rfl, hp, hm⟩ := row_split g h
    obtain ⟨h1, h2, h3⟩ := gs.app m r hm
    show eatRow (c :: cs) (p ++ m ++ r) = some r ∧ encRow (c :: cs) (p ++ m ++ r) = ((encRow (c :: cs) (p ++ m)).1, r) ∧ idxRow (c :: cs) (p ++ m ++ r) = ((idxRow (c :: cs) (p ++ m)).1, r)
    have h1 : eatRow cs (m ++ r) = some r := h1
    have h2 : encRow cs (m ++ r) = ((encRow cs m).1, r) := h2
    have h3 : idxRow cs (m ++ r) = ((idxRow cs m).1, r) := h3
    rw [List.append_assoc, eatRow_app g hp, encRow_app g hp, encRow_app g hp, idxRow_app g hp, idxRow_app g hp, h1, h2, h3]
    exact ⟨rfl, rfl, rfl⟩
  lt := fun p h => by
    obtain ⟨p, m, rfl, hp, hm⟩ := row_split g h
    show (encRow (c :: cs) (p ++ m)).1 < two (c.bits + bitsRow cs)
    rw [encRow_app g hp, two_add]
    have h1 := g.lt p hp
    have h2 : (encRow cs m).1 < two (bitsRow cs) := gs.lt m hm
    have h3 : two c.bits * ((encRow cs m).1 + 1) ≤ two c.bits * two (bitsRow cs) := Nat.mul_le_mul_left _ h2
    rw [Nat.mul_add, Nat.mul_one] at h3
    show (c.enc p).1 + two c.bits * (encRow cs m).1 < _
    omega
  nic := fun p h hn => by
    obtain ⟨p, m, rfl, hp, hm⟩ := row_split g h
    have hn : 0 < (better c.nic (moved c.bits (nicRow cs))).n := hn
    show ¬ ((better c.nic (moved c.bits (nicRow cs))).first ≤ part (encRow (c :: cs) (p ++ m)).1 (better c.nic (moved c.bits (nicRow cs))).off (better c.nic (moved c.bits (nicRow cs))).w ∧ part (encRow (c :: cs) (p ++ m)).1 (better c.nic (moved c.bits (nicRow cs))).off (better c.nic (moved c.bits (nicRow cs))).w < (better c.nic (moved c.bits (nicRow cs))).first + (better c.nic (moved c.bits (nicRow cs))).n)
    rw [encRow_app g hp]
    rcases better_n hn with ⟨e, z⟩ | ⟨e, z⟩
    · rw [e, part_lo (g.fits z).1]
      exact g.nic p hp z
    · rw [e]
      show ¬ ((nicRow cs).first ≤ part ((c.enc p).1 + two c.bits * (encRow cs m).1) ((nicRow cs).off + c.bits) (nicRow cs).w ∧ part ((c.enc p).1 + two c.bits * (encRow cs m).1) ((nicRow cs).off + c.bits) (nicRow cs).w < (nicRow cs).first + (nicRow cs).n)
      rw [part_hi (g.lt p hp)]
      exact gs.nic m hm z
  fits := fun hn => by
    have hn : 0 < (better c.nic (moved c.bits (nicRow cs))).n := hn
    show (better c.nic (moved c.bits (nicRow cs))).off + (better c.nic (moved c.bits (nicRow cs))).w ≤ c.bits + bitsRow cs ∧ (better c.nic (moved c.bits (nicRow cs))).first + (better c.nic (moved c.bits (nicRow cs))).n ≤ two (better c.nic (moved c.bits (nicRow cs))).w
    rcases better_n hn with ⟨e, z⟩ | ⟨e, z⟩
    · rw [e]
      have := g.fits z
      exact ⟨by omega, this.2⟩
    · rw [e]
      have q : (nicRow cs).off + (nicRow cs).w ≤ bitsRow cs ∧ (nicRow cs).first + (nicRow cs).n ≤ two (nicRow cs).w := gs.fits z
      refine ⟨?_, q.2⟩
      show (nicRow cs).off + c.bits + (nicRow cs).w ≤ _
      omega
  back := fun p h => by
    obtain ⟨p, m, rfl, hp, hm⟩ := row_split g h
    show decRow (c :: cs) (encRow (c :: cs) (p ++ m)).1 = some (p ++ m)
    rw [encRow_app g hp]
    show (c.dec (((c.enc p).1 + two c.bits * (encRow cs m).1) % two c.bits)).bind (fun x => (decRow cs (((c.enc p).1 + two c.bits * (encRow cs m).1) / two c.bits)).map fun y => x ++ y) = some (p ++ m)
    rw [Nat.add_mul_mod_self_left, Nat.mod_eq_of_lt (g.lt p hp), Nat.add_mul_div_left _ _ (two_pos _), Nat.div_eq_of_lt (g.lt p hp), Nat.zero_add, g.back p hp, show decRow cs (encRow cs m).1 = some m from gs.back m hm]
    rfl
  nth := fun n h => by
    have h : n < c.cnt * cntRow cs := h
    have hr : 0 < cntRow cs := gs.pos
    have h1 := g.nth (n / cntRow cs) (Nat.div_lt_of_lt_mul (by rw [Nat.mul_comm]; exact h))
    exact (eatRow_app g h1).trans (gs.nth (n % cntRow cs) (Nat.mod_lt _ hr))
  idx := fun p h => by
    obtain ⟨p, m, rfl, hp, hm⟩ := row_split g h
    show (idxRow (c :: cs) (p ++ m)).1 < c.cnt * cntRow cs
    rw [idxRow_app g hp]
    have h1 := g.idx p hp
    have h2 : (idxRow cs m).1 < cntRow cs := gs.idx m hm
    have h3 : ((c.idx p).1 + 1) * cntRow cs ≤ c.cnt * cntRow cs := Nat.mul_le_mul_right _ h1
    rw [Nat.succ_mul] at h3
    show (c.idx p).1 * cntRow cs + (idxRow cs m).1 < _
    omega
theorem good_row : ∀ {cs : List Cod}, (∀ c ∈ cs, Good c) → Good (rowCod cs)
  | [], _ => good_nil
  | _ :: _, h => good_cons (h _ List.mem_cons_self) (good_row fun c hc => h c (List.mem_cons_of_mem _ hc))
/-- the row's value as the program finds it -/
def loopD : List Cod → Nat → Option (List Int)
  | [], n => if 0 < n then none else some []
  | c :: cs, n => (D c (n % two c.bits)).bind fun x => (loopD cs (n / two c.bits)).map fun y => x ++ y
theorem D_row : ∀ {cs : List Cod}, (∀ c ∈ cs, Good c) → ∀ n, D (rowCod cs) n = loopD cs n
  | [], _, n => by
    refine opt_ext fun v => ?_
    rw [D_iff good_nil]
    show (some v = some [] ∧ 0 = n) ↔ (if 0 < n then none else some []) = some v
    by_cases h : 0 < n
    · rw [if_pos h]
      constructor
      · rintro ⟨_, rfl⟩
        omega
      · intro z
        cases z
    · rw [if_neg h]
      constructor
      · rintro ⟨z, _⟩
        cases z
        rfl
      · intro z
        cases z
        exact ⟨rfl, by omega⟩
  | c :: cs, h, n => by
    have g : Good c := h _ List.mem_cons_self
    have gs : ∀ c ∈ cs, Good c := fun c hc => h c (List.mem_cons_of_mem _ hc)
    refine opt_ext fun v => ?_
    rw [D_iff (good_row h)]
    constructor
    · rintro ⟨h1, h2⟩
      obtain ⟨p, m, rfl, hp, hm⟩ := row_split g h1
      have h2 : (encRow (c :: cs) (p ++ m)).1 = n := h2
      rw [encRow_app g hp] at h2
      have h2 : (c.enc p).1 + two c.bits * (encRow cs m).1 = n := h2
      show (D c (n % two c.bits)).bind (fun x => (loopD cs (n / two c.bits)).map fun y => x ++ y) = some (p ++ m)
      have e1 : n % two c.bits = (c.enc p).1 := by rw [← h2, Nat.add_mul_mod_self_left, Nat.mod_eq_of_lt (g.lt p hp)]
      have e2 : n / two c.bits = (encRow cs m).1 := by rw [← h2, Nat.add_mul_div_left _ _ (two_pos _), Nat.div_eq_of_lt (g.lt p hp), Nat.zero_add]
      rw [e1, e2, (D_iff g).mpr ⟨hp, rfl⟩, ← D_row gs, (D_iff (good_row gs) (n := (encRow cs m).1)).mpr ⟨hm, rfl⟩]
      rfl
    · intro h1
      have h1 : (D c (n % two c.bits)).bind (fun x => (loopD cs (n / two c.bits)).map fun y => x ++ y) = some v := h1
      cases e1 : D c (n % two c.bits) with
      | none => rw [e1] at h1; cases h1
      | some p =>
        rw [e1] at h1
        have h1 : (loopD cs (n / two c.bits)).map (fun y => p ++ y) = some v := h1
        cases e2 : loopD cs (n / two c.bits) with
        | none => rw [e2] at h1; cases h1
        | some m =>
          rw [e2] at h1
          cases h1
          rw [← D_row gs] at e2
          obtain ⟨hp, q1⟩ := (D_iff g).mp e1
          obtain ⟨hm, q2⟩ := (D_iff (good_row gs)).mp e2
          refine ⟨(eatRow_app g hp).trans hm, ?_⟩
          show (encRow (c :: cs) (p ++ m)).1 = n
          rw [encRow_app g hp]
          have q2 : (encRow cs m).1 = n / two c.bits := q2
          show (c.enc p).1 + two c.bits * (encRow cs m).1 = n
          rw [q1, q2, Nat.add_comm]
          exact Nat.div_add_mod n (two c.bits)
end ML
/-! 2: numbers, maybe, one, as Cod. -/
namespace ML
open Valaya (Ty Rec countLeaves takeValue takeMany absent rowLength power countBy nthBy nthMany indexBy indexMany bitsBy)
open Valaye (Niche Form two part forms formOf noNiche moved better taken_ How howOf oneForm maybeForm manyForm encBy encMany decBy decMany spareCode spareTold bits0)

theorem bitsBy_spec : ∀ (f n : Nat), n ≤ 2 ^ f → n ≤ 2 ^ bitsBy f n ∧ (2 ≤ n → 0 < bitsBy f n ∧ 2 ^ (bitsBy f n - 1) < n)
  | 0, n, h => by
    have h : n ≤ 1 := h
    exact ⟨h, fun z => by omega⟩
  | f + 1, n, h => by
    show n ≤ 2 ^ (if n ≤ 1 then 0 else bitsBy f ((n + 1) / 2) + 1) ∧ (2 ≤ n → 0 < (if n ≤ 1 then 0 else bitsBy f ((n + 1) / 2) + 1) ∧ 2 ^ ((if n ≤ 1 then 0 else bitsBy f ((n + 1) / 2) + 1) - 1) < n)
    by_cases z : n ≤ 1
    · rw [if_pos z]
      exact ⟨z, fun y => by omega⟩
    · rw [if_neg z]
      rw [Nat.pow_succ] at h
      obtain ⟨h1, h2⟩ := bitsBy_spec f ((n + 1) / 2) (by omega)
      refine ⟨?_, fun _ => ⟨Nat.succ_pos _, ?_⟩⟩
      · rw [Nat.pow_succ]
        omega
      · rw [Nat.add_sub_cancel]
        by_cases y : n = 2
        · subst y
          have e : bitsBy f ((2 + 1) / 2) = 0 := by cases f <;> rfl
          rw [e]
          decide
        · obtain ⟨p, q⟩ := h2 (by omega)
          obtain ⟨m, hm⟩ : ∃ m, bitsBy f ((n + 1) / 2) = m + 1 := ⟨_, (Nat.succ_pred_eq_of_pos p).symm⟩
          rw [hm] at q ⊢
          rw [Nat.add_sub_cancel] at q
          rw [Nat.pow_succ]
          omega
/-- as Python counts bits -/
def bl (n : Nat) : Nat := if n = 0 then 0 else n.log2 + 1
theorem bl_lt (n : Nat) : n < 2 ^ bl n := by
  unfold bl
  split
  · rename_i h
    subst h
    decide
  · exact Nat.lt_log2_self
theorem bl_le {n : Nat} (h : n ≠ 0) : 2 ^ (bl n - 1) ≤ n := by
  unfold bl
  rw [if_neg h, Nat.add_sub_cancel]
  exact Nat.log2_self_le h
theorem bitsBy_bl {f n : Nat} (h1 : 1 ≤ n) (h : n ≤ 2 ^ f) : bitsBy f n = bl (n - 1) := by
  obtain ⟨p, q⟩ := bitsBy_spec f n h
  by_cases z : n = 1
  · subst z
    cases f <;> rfl
  · obtain ⟨q1, q2⟩ := q (by omega)
    have r1 := bl_lt (n - 1)
    have r2 := bl_le (n := n - 1) (by omega)
    have b0 : 0 < bl (n - 1) := by unfold bl; rw [if_neg (by omega)]; omega
    have c1 : bitsBy f n - 1 < bl (n - 1) := (Nat.pow_lt_pow_iff_right (by decide : 1 < 2)).mp (by omega)
    have c2 : bl (n - 1) - 1 < bitsBy f n := (Nat.pow_lt_pow_iff_right (by decide : 1 < 2)).mp (by omega)
    omega
theorem bits0_bl {n : Nat} (h1 : 1 ≤ n) (h : n ≤ 2 ^ 64) : bits0 n = bl (n - 1) := bitsBy_bl h1 h
theorem bits0_fits {n : Nat} (h : n ≤ 2 ^ 64) : n ≤ two (bits0 n) := by
  rw [two_eq]
  exact (bitsBy_spec 64 n h).1

/-! ### a number -/
def eatNum (a b : Int) : List Int → Option (List Int)
  | v :: r => if a ≤ v ∧ v ≤ b then some r else none
  | [] => none
def numCod (a b : Int) : Cod where
  bits := bits0 (b - a + 1).toNat
  nic := ⟨0, bits0 (b - a + 1).toNat, (b - a + 1).toNat, two (bits0 (b - a + 1).toNat) - (b - a + 1).toNat⟩
  cnt := (b - a + 1).toNat
  eat := eatNum a b
  enc := fun l => ((l.headD a - a).toNat, l.drop 1)
  dec := fun n => if a + (n : Int) ≤ b then some [a + (n : Int)] else none
  nth := fun n => [a + (n : Int)]
  idx := fun l => ((l.headD a - a).toNat, l.drop 1)
theorem eatNum_some {a b : Int} {l r : List Int} (h : eatNum a b l = some r) : ∃ v, l = v :: r ∧ a ≤ v ∧ v ≤ b := by
  cases l with
  | nil => cases h
  | cons v m =>
    have h : (if a ≤ v ∧ v ≤ b then some m else none) = some r := h
    by_cases z : a ≤ v ∧ v ≤ b
    · rw [if_pos z] at h
      cases h
      exact ⟨v, rfl, z⟩
    · rw [if_neg z] at h
      cases h
theorem part0 (n w : Nat) : part n 0 w = n % two w := by
  unfold part
  rw [show two 0 = 1 from rfl, Nat.div_one]
theorem good_num {a b : Int} (h : a ≤ b) (hs : (b - a + 1).toNat ≤ 2 ^ 64) : Good (numCod a b) where
  pos := by show 0 < (b - a + 1).toNat; omega
  split := fun l r q => by
    obtain ⟨v, rfl, z⟩ := eatNum_some q
    exact ⟨[v], rfl, if_pos z⟩
  app := fun p r q => by
    obtain ⟨v, rfl, z⟩ := eatNum_some q
    exact ⟨if_pos z, rfl, rfl⟩
  lt := fun p q => by
    obtain ⟨v, rfl, z⟩ := eatNum_some q
    show (v - a).toNat < two (bits0 (b - a + 1).toNat)
    have := bits0_fits hs
    omega
  nic := fun p q hn => by
    obtain ⟨v, rfl, z⟩ := eatNum_some q
    have y := bits0_fits hs
    show ¬ ((b - a + 1).toNat ≤ part (v - a).toNat 0 (bits0 (b - a + 1).toNat) ∧ _)
    rw [part0, Nat.mod_eq_of_lt (by omega)]
    rintro ⟨z, _⟩
    omega
  fits := fun hn => by
    have y := bits0_fits hs
    show 0 + _ ≤ _ ∧ (b - a + 1).toNat + (two (bits0 (b - a + 1).toNat) - (b - a + 1).toNat) ≤ two (bits0 (b - a + 1).toNat)
    exact ⟨by rw [Nat.zero_add]; exact Nat.le_refl _, by omega⟩
  back := fun p q => by
    obtain ⟨v, rfl, z⟩ := eatNum_some q
    show (if a + (((v - a).toNat : Nat) : Int) ≤ b then some [a + (((v - a).toNat : Nat) : Int)] else none) = some [v]
    have e : a + (((v - a).toNat : Nat) : Int) = v := by omega
    rw [e, if_pos z.2]
  nth := fun n q => by
    have q : n < (b - a + 1).toNat := q
    exact if_pos ⟨by omega, by omega⟩
  idx := fun p q => by
    obtain ⟨v, rfl, z⟩ := eatNum_some q
    show (v - a).toNat < (b - a + 1).toNat
    omega
theorem D_num {a b : Int} (h : a ≤ b) (hs : (b - a + 1).toNat ≤ 2 ^ 64) (n : Nat) : D (numCod a b) n = if (b - a + 1).toNat ≤ n then none else some [a + (n : Int)] := by
  refine opt_ext fun v => ?_
  rw [D_iff (good_num h hs)]
  constructor
  · rintro ⟨h1, h2⟩
    obtain ⟨x, rfl, z⟩ := eatNum_some h1
    have h2 : (x - a).toNat = n := h2
    rw [if_neg (by omega)]
    congr 2
    omega
  · intro q
    by_cases z : (b - a + 1).toNat ≤ n
    · rw [if_pos z] at q
      cases q
    · rw [if_neg z] at q
      cases q
      refine ⟨if_pos ⟨by omega, by omega⟩, ?_⟩
      show (a + (n : Int) - a).toNat = n
      omega

/-! ### maybe -/
def eatMay (c : Cod) : List Int → Option (List Int)
  | v :: r => if v = 0 then some r else if v = 1 then c.eat r else none
  | [] => none
def encMay (c : Cod) (l : List Int) : Nat × List Int :=
  if 0 < c.nic.n then (if l.headD 0 = 0 then (spareCode c.nic 0, l.drop 1) else c.enc (l.drop 1))
  else if l.headD 0 = 0 then (0, l.drop 1) else (1 + 2 * (c.enc (l.drop 1)).1, (c.enc (l.drop 1)).2)
def decMay (c : Cod) (n : Nat) : Option (List Int) :=
  if 0 < c.nic.n then (match spareTold c.nic n with
    | some 0 => some [0]
    | _ => (c.dec n).map fun v => 1 :: v)
  else if n % 2 = 0 then some [0] else (c.dec (n / 2)).map fun v => 1 :: v
def mayCod (c : Cod) : Cod where
  bits := (maybeForm (frm c)).bits
  nic := (maybeForm (frm c)).niche
  cnt := 1 + c.cnt
  eat := eatMay c
  enc := encMay c
  dec := decMay c
  nth := fun n => if n = 0 then [0] else 1 :: c.nth (n - 1)
  idx := fun l => if l.headD 0 = 0 then (0, l.drop 1) else ((c.idx (l.drop 1)).1 + 1, (c.idx (l.drop 1)).2)
theorem eatMay_some {c : Cod} {l r : List Int} (h : eatMay c l = some r) : l = 0 :: r ∨ ∃ m, l = 1 :: m ∧ c.eat m = some r := by
  cases l with
  | nil => cases h
  | cons v m =>
    have h : (if v = 0 then some m else if v = 1 then c.eat m else none) = some r := h
    by_cases z : v = 0
    · rw [if_pos z] at h
      cases h
      exact .inl (by rw [z])
    · rw [if_neg z] at h
      by_cases y : v = 1
      · rw [if_pos y] at h
        exact .inr ⟨m, by rw [y], h⟩
      · rw [if_neg y] at h
        cases h
theorem eatMay_valid {c : Cod} {p : List Int} (h : eatMay c p = some []) : p = [0] ∨ ∃ m, p = 1 :: m ∧ c.eat m = some [] := eatMay_some h
theorem may_bits {c : Cod} : (mayCod c).bits = if 0 < c.nic.n then c.bits else c.bits + 1 := by
  show (maybeForm (frm c)).bits = _
  unfold maybeForm
  show (if 0 < c.nic.n then (⟨c.bits, taken_ 1 c.nic⟩ : Form) else ⟨c.bits + 1, noNiche⟩).bits = _
  split <;> rfl
theorem may_nic {c : Cod} : (mayCod c).nic = if 0 < c.nic.n then taken_ 1 c.nic else noNiche := by
  show (maybeForm (frm c)).niche = _
  unfold maybeForm
  show (if 0 < c.nic.n then (⟨c.bits, taken_ 1 c.nic⟩ : Form) else ⟨c.bits + 1, noNiche⟩).niche = _
  split <;> rfl
theorem enc_zero {c : Cod} {r : List Int} : encMay c (0 :: r) = (if 0 < c.nic.n then spareCode c.nic 0 else 0, r) := by
  unfold encMay
  show (if 0 < c.nic.n then (if (0 : Int) = 0 then (spareCode c.nic 0, r) else c.enc r) else if (0 : Int) = 0 then (0, r) else _) = _
  rw [if_pos rfl, if_pos rfl]
  split <;> rfl
theorem enc_one {c : Cod} {r : List Int} : encMay c (1 :: r) = if 0 < c.nic.n then c.enc r else (1 + 2 * (c.enc r).1, (c.enc r).2) := by
  unfold encMay
  show (if 0 < c.nic.n then (if (1 : Int) = 0 then (spareCode c.nic 0, r) else c.enc r) else if (1 : Int) = 0 then (0, r) else (1 + 2 * (c.enc r).1, (c.enc r).2)) = _
  have e : ¬ (1 : Int) = 0 := by decide
  rw [if_neg e, if_neg e]
/-- a spare value's bits -/
theorem spare_part {c : Cod} (g : Good c) {k : Nat} (h : k < c.nic.n) : part (spareCode c.nic k) c.nic.off c.nic.w = c.nic.first + k ∧ spareCode c.nic k < two c.bits := by
  obtain ⟨f1, f2⟩ := g.fits (by omega)
  unfold part spareCode
  rw [Nat.mul_div_cancel_left _ (two_pos _), Nat.mod_eq_of_lt (by omega)]
  refine ⟨rfl, ?_⟩
  have h1 : two (c.nic.off + c.nic.w) ≤ two c.bits := two_le f1
  rw [two_add] at h1
  have h2 : two c.nic.off * (c.nic.first + k + 1) ≤ two c.nic.off * two c.nic.w := Nat.mul_le_mul_left _ (by omega)
  rw [Nat.mul_add, Nat.mul_one] at h2
  have := two_pos c.nic.off
  omega
theorem spare_not {c : Cod} (g : Good c) {k : Nat} (h : k < c.nic.n) {p : List Int} (hp : c.eat p = some []) : (c.enc p).1 ≠ spareCode c.nic k := fun e => by
  have q := g.nic p hp (by omega)
  rw [e, (spare_part g h).1] at q
  exact q ⟨by omega, by omega⟩
theorem spareTold_none {c : Cod} (g : Good c) (h : 0 < c.nic.n) {p : List Int} (hp : c.eat p = some []) : spareTold c.nic (c.enc p).1 = none := by
  unfold spareTold
  exact if_neg (g.nic p hp h)
theorem spareTold_some {c : Cod} (g : Good c) {k : Nat} (h : k < c.nic.n) : spareTold c.nic (spareCode c.nic k) = some k := by
  show (if c.nic.first ≤ part (spareCode c.nic k) c.nic.off c.nic.w ∧ part (spareCode c.nic k) c.nic.off c.nic.w < c.nic.first + c.nic.n then some (part (spareCode c.nic k) c.nic.off c.nic.w - c.nic.first) else none) = some k
  rw [(spare_part g h).1, if_pos ⟨by omega, by omega⟩]
  congr 1
  omega
theorem good_may {c : Cod} (g : Good c) : Good (mayCod c) where
  pos := by show 0 < 1 + c.cnt; omega
  split := fun l r h => by
    rcases eatMay_some h with rfl | ⟨m, rfl, hm⟩
    · exact ⟨[0], rfl, rfl⟩
    · obtain ⟨p, rfl, hp⟩ := g.split m r hm
      exact ⟨1 :: p, rfl, hp⟩
  app := fun p r h => by
    show eatMay c (p ++ r) = some r ∧ encMay c (p ++ r) = ((encMay c p).1, r) ∧ _
    rcases eatMay_valid h with rfl | ⟨m, rfl, hm⟩
    · refine ⟨rfl, ?_, rfl⟩
      show encMay c (0 :: r) = _
      rw [enc_zero, enc_zero]
    · obtain ⟨q1, q2, q3⟩ := g.app m r hm
      refine ⟨q1, ?_, ?_⟩
      · show encMay c (1 :: (m ++ r)) = _
        rw [enc_one, enc_one, q2]
        split <;> rfl
      · show (if (1 : Int) = 0 then (0, m ++ r) else ((c.idx (m ++ r)).1 + 1, (c.idx (m ++ r)).2)) = ((if (1 : Int) = 0 then (0, m) else ((c.idx m).1 + 1, (c.idx m).2)).1, r)
        rw [if_neg (by decide), if_neg (by decide), q3]
  lt := fun p h => by
    rw [may_bits]
    show (encMay c p).1 < _
    rcases eatMay_valid h with rfl | ⟨m, rfl, hm⟩
    · rw [enc_zero]
      split
      · rename_i z
        exact (spare_part g z).2
      · exact two_pos _
    · rw [enc_one]
      have := g.lt m hm
      split
      · exact this
      · rw [two_add, show two 1 = 2 from rfl]
        show 1 + 2 * (c.enc m).1 < _
        omega
  nic := fun p h hn => by
    rw [may_nic] at *
    show ¬ (_ ≤ part (encMay c p).1 _ _ ∧ _)
    by_cases z : 0 < c.nic.n
    · rw [if_pos z] at *
      show ¬ (c.nic.first + 1 ≤ part (encMay c p).1 c.nic.off c.nic.w ∧ part (encMay c p).1 c.nic.off c.nic.w < c.nic.first + 1 + (c.nic.n - 1))
      rcases eatMay_valid h with rfl | ⟨m, rfl, hm⟩
      · rw [enc_zero, if_pos z, (spare_part g z).1]
        omega
      · rw [enc_one, if_pos z]
        have := g.nic m hm z
        omega
    · rw [if_neg z] at hn
      exact absurd hn (Nat.lt_irrefl 0)
  fits := fun hn => by
    rw [may_nic] at *
    rw [may_bits]
    by_cases z : 0 < c.nic.n
    · rw [if_pos z] at *
      rw [if_pos z]
      have := g.fits z
      show c.nic.off + c.nic.w ≤ _ ∧ c.nic.first + 1 + (c.nic.n - 1) ≤ two c.nic.w
      omega
    · rw [if_neg z] at hn
      exact absurd hn (Nat.lt_irrefl 0)
  back := fun p h => by
    show decMay c (encMay c p).1 = some p
    rcases eatMay_valid h with rfl | ⟨m, rfl, hm⟩
    · rw [enc_zero]
      unfold decMay
      by_cases z : 0 < c.nic.n
      · rw [if_pos z, if_pos z]
        show (match spareTold c.nic (spareCode c.nic 0) with
          | some 0 => some [0]
          | _ => (c.dec (spareCode c.nic 0)).map fun v => 1 :: v) = _
        rw [spareTold_some g z]
        rfl
      · rw [if_neg z, if_neg z]
        rfl
    · rw [enc_one]
      unfold decMay
      by_cases z : 0 < c.nic.n
      · rw [if_pos z, if_pos z, spareTold_none g z hm, g.back m hm]
        rfl
      · rw [if_neg z, if_neg z]
        show (if (1 + 2 * (c.enc m).1) % 2 = 0 then some [0] else (c.dec ((1 + 2 * (c.enc m).1) / 2)).map fun v => 1 :: v) = _
        rw [if_neg (by omega), show (1 + 2 * (c.enc m).1) / 2 = (c.enc m).1 by omega, g.back m hm]
        rfl
  nth := fun n h => by
    have h : n < 1 + c.cnt := h
    show eatMay c (if n = 0 then [0] else 1 :: c.nth (n - 1)) = some []
    by_cases z : n = 0
    · rw [if_pos z]
      rfl
    · rw [if_neg z]
      exact g.nth (n - 1) (by omega)
  idx := fun p h => by
    show (if p.headD 0 = 0 then (0, p.drop 1) else ((c.idx (p.drop 1)).1 + 1, (c.idx (p.drop 1)).2)).1 < 1 + c.cnt
    rcases eatMay_valid h with rfl | ⟨m, rfl, hm⟩
    · show (if (0 : Int) = 0 then ((0 : Nat), ([] : List Int)) else _).1 < _
      rw [if_pos rfl]
      show 0 < 1 + c.cnt
      omega
    · show (if (1 : Int) = 0 then (0, m) else ((c.idx m).1 + 1, (c.idx m).2)).1 < _
      rw [if_neg (show ¬ (1 : Int) = 0 by decide)]
      have := g.idx m hm
      show (c.idx m).1 + 1 < 1 + c.cnt
      omega
/-- nothing's bits -/
def noBits (c : Cod) : Nat := if 0 < c.nic.n then spareCode c.nic 0 else 0
theorem D_may {c : Cod} (g : Good c) (n : Nat) : D (mayCod c) n = if n = noBits c then some [0] else if 0 < c.nic.n then (D c n).map (fun v => 1 :: v) else if n % 2 = 0 then none else (D c (n / 2)).map (fun v => 1 :: v) := by
  refine opt_ext fun v => ?_
  rw [D_iff (good_may g)]
  show (eatMay c v = some [] ∧ (encMay c v).1 = n) ↔ _
  constructor
  · rintro ⟨h1, h2⟩
    rcases eatMay_valid h1 with rfl | ⟨m, rfl, hm⟩
    · rw [enc_zero] at h2
      have h2 : noBits c = n := h2
      rw [if_pos h2.symm]
    · rw [enc_one] at h2
      unfold noBits
      by_cases z : 0 < c.nic.n
      · rw [if_pos z] at h2
        rw [if_pos z, if_neg (by rw [← h2]; exact spare_not g z hm), if_pos z, ← h2, (D_iff g).mpr ⟨hm, rfl⟩]
        rfl
      · rw [if_neg z] at h2
        have h2 : 1 + 2 * (c.enc m).1 = n := h2
        rw [if_neg z, if_neg (by omega), if_neg z, if_neg (by omega), show n / 2 = (c.enc m).1 by omega, (D_iff g).mpr ⟨hm, rfl⟩]
        rfl
  · intro h
    by_cases y : n = noBits c
    · rw [if_pos y] at h
      cases h
      refine ⟨rfl, ?_⟩
      rw [enc_zero]
      exact y.symm
    · rw [if_neg y] at h
      by_cases z : 0 < c.nic.n
      · rw [if_pos z] at h
        obtain ⟨m, hm, rfl⟩ := Option.map_eq_some_iff.mp h
        obtain ⟨q1, q2⟩ := (D_iff g).mp hm
        refine ⟨q1, ?_⟩
        rw [enc_one, if_pos z]
        exact q2
      · rw [if_neg z] at h
        by_cases x : n % 2 = 0
        · rw [if_pos x] at h
          cases h
        · rw [if_neg x] at h
          obtain ⟨m, hm, rfl⟩ := Option.map_eq_some_iff.mp h
          obtain ⟨q1, q2⟩ := (D_iff g).mp hm
          refine ⟨q1, ?_⟩
          rw [enc_one, if_neg z]
          show 1 + 2 * (c.enc m).1 = n
          omega
end ML
/-! 3: one. -/
namespace ML
open Valaya (Ty Rec countLeaves takeValue takeMany absent rowLength power countBy nthBy nthMany indexBy indexMany bitsBy)
open Valaye (Niche Form two part forms formOf noNiche moved better taken_ How howOf oneForm maybeForm manyForm encBy encMany decBy decMany spareCode spareTold bits0)

def eatOne (cs : List Cod) : List Int → Option (List Int)
  | v :: r => if 0 ≤ v ∧ v < (cs.length : Int) then (match cs[v.toNat]? with
    | some c => c.eat r
    | none => some r) else none
  | [] => none
def encAlt (cs : List Cod) (k : Nat) (l : List Int) : Nat × List Int := match cs[k]? with
  | some c => c.enc l
  | none => (0, l)
def decAlt (cs : List Cod) (k : Nat) (n : Nat) : Option (List Int) := match cs[k]? with
  | some c => c.dec (n % two c.bits)
  | none => some []
/-- the one alternative with bits whose spare values can tell the others -/
def carrier (cs : List Cod) : Option Nat := match howOf (cs.map frm) with
  | .spare b => some b
  | .tag _ => none
def nicOf (cs : List Cod) (b : Nat) : Niche := match cs[b]? with
  | some c => c.nic
  | none => noNiche
def encOne (cs : List Cod) (l : List Int) : Nat × List Int := match carrier cs with
  | some b => if (l.headD 0).toNat = b then encAlt cs (l.headD 0).toNat (l.drop 1) else (spareCode (nicOf cs b) (if (l.headD 0).toNat < b then (l.headD 0).toNat else (l.headD 0).toNat - 1), (encAlt cs (l.headD 0).toNat (l.drop 1)).2)
  | none => ((l.headD 0).toNat + two (bits0 cs.length) * (encAlt cs (l.headD 0).toNat (l.drop 1)).1, (encAlt cs (l.headD 0).toNat (l.drop 1)).2)
def decOne (cs : List Cod) (n : Nat) : Option (List Int) := match carrier cs with
  | some b => (match spareTold (nicOf cs b) n with
    | some j => if j + 1 < cs.length then (decAlt cs (if j < b then j else j + 1) 0).map (fun v => ((if j < b then j else j + 1 : Nat) : Int) :: v) else (decAlt cs b n).map fun v => (b : Int) :: v
    | none => (decAlt cs b n).map fun v => (b : Int) :: v)
  | none => if n % two (bits0 cs.length) < cs.length then (decAlt cs (n % two (bits0 cs.length)) (n / two (bits0 cs.length))).map (fun v => ((n % two (bits0 cs.length) : Nat) : Int) :: v) else none
def cntOne : List Cod → Nat
  | [] => 0
  | c :: cs => c.cnt + cntOne cs
def nthOne : List Cod → Nat → Nat → List Int
  | [], _, _ => []
  | c :: cs, k, n => if n < c.cnt then (k : Int) :: c.nth n else nthOne cs (k + 1) (n - c.cnt)
def idxAlt : List Cod → Nat → List Int → Nat × List Int
  | [], _, l => (0, l)
  | c :: _, 0, l => c.idx l
  | c :: cs, k + 1, l => (c.cnt + (idxAlt cs k l).1, (idxAlt cs k l).2)
def oneCod (cs : List Cod) : Cod where
  bits := (oneForm (cs.map frm)).bits
  nic := (oneForm (cs.map frm)).niche
  cnt := cntOne cs
  eat := eatOne cs
  enc := encOne cs
  dec := decOne cs
  nth := nthOne cs 0
  idx := fun l => idxAlt cs (l.headD 0).toNat (l.drop 1)
def maxBits : List Cod → Nat
  | [] => 0
  | c :: cs => max c.bits (maxBits cs)
theorem foldl_max : ∀ (l : List Nat) (a : Nat), l.foldl Nat.max a = max a (l.foldl Nat.max 0)
  | [], a => by simp
  | x :: l, a => by
    rw [List.foldl_cons, List.foldl_cons, foldl_max l, foldl_max l (Nat.max 0 x)]
    show max (max a x) _ = max a (max (max 0 x) _)
    omega
theorem maxBits_eq : ∀ cs : List Cod, ((cs.map frm).map fun f => f.bits).foldl Nat.max 0 = maxBits cs
  | [] => rfl
  | c :: cs => by
    show (((cs.map frm).map fun f => f.bits).foldl Nat.max (Nat.max 0 c.bits)) = max c.bits (maxBits cs)
    rw [foldl_max, maxBits_eq cs]
    show max (max 0 c.bits) _ = _
    omega
theorem le_maxBits : ∀ {cs : List Cod} {k : Nat} {c : Cod}, cs[k]? = some c → c.bits ≤ maxBits cs
  | [], _, _, h => by simp at h
  | d :: cs, 0, c, h => by
    have e : d = c := Option.some.inj h
    subst e
    exact Nat.le_max_left _ _
  | d :: cs, k + 1, c, h => Nat.le_trans (le_maxBits (cs := cs) h) (Nat.le_max_right _ _)
/-- what a carrier is -/
theorem zip_filter : ∀ {l : List Form} {i : Nat} {x : Form × Nat}, (l.zipIdx i).filter (fun f => decide (0 < f.1.bits)) = [x] → ∃ b, x.2 = i + b ∧ l[b]? = some x.1 ∧ 0 < x.1.bits ∧ ∀ k y, l[k]? = some y → k ≠ b → y.bits = 0
  | [], i, x, h => by simp at h
  | f :: l, i, x, h => by
    rw [List.zipIdx_cons, List.filter_cons] at h
    by_cases z : 0 < f.bits
    · rw [if_pos (decide_eq_true z)] at h
      obtain ⟨e, h2⟩ := List.cons.inj h
      subst e
      refine ⟨0, rfl, rfl, z, fun k y hk hne => ?_⟩
      cases k with
      | zero => exact absurd rfl hne
      | succ k =>
        have hk : l[k]? = some y := hk
        have q := List.filter_eq_nil_iff.mp h2 (y, i + 1 + k) (by
          refine List.mk_mem_zipIdx_iff_le_and_getElem?_sub.mpr ⟨by omega, ?_⟩
          rw [show i + 1 + k - (i + 1) = k by omega]
          exact hk)
        simp at q
        omega
    · rw [if_neg (by simpa using z)] at h
      obtain ⟨b, h1, h2, h3, h4⟩ := zip_filter h
      refine ⟨b + 1, by omega, h2, h3, fun k y hk hne => ?_⟩
      cases k with
      | zero =>
        have e : f = y := Option.some.inj hk
        subst e
        omega
      | succ k => exact h4 k y hk (by omega)
theorem carrier_some {cs : List Cod} {b : Nat} (h : carrier cs = some b) : ∃ c, cs[b]? = some c ∧ 0 < c.bits ∧ cs.length - 1 ≤ c.nic.n ∧ (∀ k d, cs[k]? = some d → k ≠ b → d.bits = 0) ∧ nicOf cs b = c.nic ∧ howOf (cs.map frm) = .spare b := by
  unfold carrier at h
  cases e : howOf (cs.map frm) with
  | tag w => rw [e] at h; cases h
  | spare b' =>
    rw [e] at h
    cases h
    have e' := e
    unfold howOf at e
    rw [List.length_map] at e
    split at e
    · rename_i x hx
      by_cases z : cs.length - 1 ≤ x.1.niche.n
      · rw [if_pos z] at e
        cases e
        obtain ⟨b, h1, h2, h3, h4⟩ := zip_filter hx
        rw [Nat.zero_add] at h1
        rw [h1]
        rw [List.getElem?_map] at h2
        cases q : cs[b]? with
        | none => rw [q] at h2; cases h2
        | some c =>
          rw [q] at h2
          have e2 : frm c = x.1 := Option.some.inj h2
          rw [← e2] at z h3
          refine ⟨c, rfl, h3, z, fun k d hk hne => ?_, ?_, rfl⟩
          · exact h4 k (frm d) (by rw [List.getElem?_map, hk]; rfl) hne
          · unfold nicOf
            rw [q]
      · rw [if_neg z] at e
        cases e
    · cases e
theorem carrier_none {cs : List Cod} (h : carrier cs = none) : howOf (cs.map frm) = .tag (bits0 cs.length) := by
  unfold carrier at h
  cases e : howOf (cs.map frm) with
  | spare b => rw [e] at h; cases h
  | tag w =>
    unfold howOf at e
    rw [List.length_map] at e
    split at e
    · rename_i x hx
      by_cases z : cs.length - 1 ≤ x.1.niche.n
      · rw [if_pos z] at e
        cases e
      · rw [if_neg z] at e
        exact e.symm
    · exact e.symm
theorem one_bits_s {cs : List Cod} {b : Nat} {c : Cod} (h : carrier cs = some b) (hc : cs[b]? = some c) : (oneCod cs).bits = c.bits ∧ (oneCod cs).nic = taken_ (cs.length - 1) c.nic := by
  obtain ⟨c', q, _, _, _, _, hw⟩ := carrier_some h
  rw [hc] at q
  cases q
  show (oneForm (cs.map frm)).bits = _ ∧ (oneForm (cs.map frm)).niche = _
  unfold oneForm
  rw [hw]
  show (match (cs.map frm)[b]? with
    | some f => (⟨f.bits, taken_ ((cs.map frm).length - 1) f.niche⟩ : Form)
    | none => ⟨0, noNiche⟩).bits = _ ∧ (match (cs.map frm)[b]? with
    | some f => (⟨f.bits, taken_ ((cs.map frm).length - 1) f.niche⟩ : Form)
    | none => ⟨0, noNiche⟩).niche = _
  rw [List.getElem?_map, hc, List.length_map]
  exact ⟨rfl, rfl⟩
theorem one_bits_t {cs : List Cod} (h : carrier cs = none) : (oneCod cs).bits = bits0 cs.length + maxBits cs ∧ (oneCod cs).nic = ⟨0, bits0 cs.length, cs.length, two (bits0 cs.length) - cs.length⟩ := by
  show (oneForm (cs.map frm)).bits = _ ∧ (oneForm (cs.map frm)).niche = _
  unfold oneForm
  rw [carrier_none h, ← maxBits_eq, List.length_map]
  exact ⟨rfl, rfl⟩
theorem eatOne_some {cs : List Cod} {l r : List Int} (h : eatOne cs l = some r) : ∃ (k : Nat) (c : Cod) (m : List Int), l = (k : Int) :: m ∧ cs[k]? = some c ∧ k < cs.length ∧ c.eat m = some r := by
  cases l with
  | nil => cases h
  | cons v m =>
    have h : (if 0 ≤ v ∧ v < (cs.length : Int) then (match cs[v.toNat]? with
      | some c => c.eat m
      | none => some m) else none) = some r := h
    by_cases z : 0 ≤ v ∧ v < (cs.length : Int)
    · rw [if_pos z] at h
      have hk : v.toNat < cs.length := by omega
      rw [List.getElem?_eq_getElem hk] at h
      exact ⟨v.toNat, cs[v.toNat], m, by congr 1; omega, List.getElem?_eq_getElem hk, hk, h⟩
    · rw [if_neg z] at h
      cases h
theorem eatOne_at {cs : List Cod} {k : Nat} {c : Cod} (h : cs[k]? = some c) (m : List Int) : eatOne cs ((k : Int) :: m) = c.eat m := by
  have hk : k < cs.length := (List.getElem?_eq_some_iff.mp h).1
  show (if 0 ≤ (k : Int) ∧ (k : Int) < (cs.length : Int) then (match cs[(k : Int).toNat]? with
    | some c => c.eat m
    | none => some m) else none) = _
  rw [if_pos ⟨by omega, by omega⟩, Int.toNat_natCast, h]
theorem encAlt_at {cs : List Cod} {k : Nat} {c : Cod} (h : cs[k]? = some c) (l : List Int) : encAlt cs k l = c.enc l := by
  unfold encAlt
  rw [h]
theorem decAlt_at {cs : List Cod} {k : Nat} {c : Cod} (h : cs[k]? = some c) {n : Nat} (hn : n < two c.bits) : decAlt cs k n = c.dec n := by
  unfold decAlt
  rw [h]
  show c.dec (n % two c.bits) = _
  rw [Nat.mod_eq_of_lt hn]
theorem idxAlt_at : ∀ {cs : List Cod} {k : Nat} {c : Cod}, cs[k]? = some c → ∀ l, idxAlt cs k l = (cntOne (cs.take k) + (c.idx l).1, (c.idx l).2)
  | [], _, _, h, _ => by simp at h
  | d :: cs, 0, c, h, l => by
    have e : d = c := Option.some.inj h
    subst e
    show d.idx l = (0 + _, _)
    rw [Nat.zero_add]
  | d :: cs, k + 1, c, h, l => by
    have ih := idxAlt_at (cs := cs) (k := k) h l
    show (d.cnt + (idxAlt cs k l).1, (idxAlt cs k l).2) = (d.cnt + cntOne (cs.take k) + (c.idx l).1, (c.idx l).2)
    rw [ih, Nat.add_assoc]
/-- the number of the spare value that tells the alternative k -/
def jOf (b k : Nat) : Nat := if k < b then k else k - 1
theorem encOne_s {cs : List Cod} {b k : Nat} {c d : Cod} (h : carrier cs = some b) (hc : cs[b]? = some c) (hd : cs[k]? = some d) (m : List Int) : encOne cs ((k : Int) :: m) = if k = b then d.enc m else (spareCode c.nic (jOf b k), (d.enc m).2) := by
  obtain ⟨c', q, _, _, _, hn, _⟩ := carrier_some h
  rw [hc] at q
  cases q
  unfold encOne
  rw [h]
  show (if ((k : Int)).toNat = b then encAlt cs ((k : Int)).toNat m else (spareCode (nicOf cs b) (if ((k : Int)).toNat < b then ((k : Int)).toNat else ((k : Int)).toNat - 1), (encAlt cs ((k : Int)).toNat m).2)) = _
  rw [Int.toNat_natCast, encAlt_at hd, hn]
  rfl
theorem encOne_t {cs : List Cod} {k : Nat} {d : Cod} (h : carrier cs = none) (hd : cs[k]? = some d) (m : List Int) : encOne cs ((k : Int) :: m) = (k + two (bits0 cs.length) * (d.enc m).1, (d.enc m).2) := by
  unfold encOne
  rw [h]
  show (((k : Int)).toNat + two (bits0 cs.length) * (encAlt cs ((k : Int)).toNat m).1, (encAlt cs ((k : Int)).toNat m).2) = _
  rw [Int.toNat_natCast, encAlt_at hd]
theorem nthOne_good : ∀ {cs : List Cod}, (∀ c ∈ cs, Good c) → ∀ (i n : Nat), n < cntOne cs → ∃ (k : Nat) (c : Cod) (m : Nat), nthOne cs i n = ((i + k : Nat) : Int) :: c.nth m ∧ cs[k]? = some c ∧ m < c.cnt
  | [], _, i, n, h => absurd h (Nat.not_lt_zero _)
  | c :: cs, g, i, n, h => by
    have h : n < c.cnt + cntOne cs := h
    show ∃ (k : Nat) (c' : Cod) (m : Nat), (if n < c.cnt then (i : Int) :: c.nth n else nthOne cs (i + 1) (n - c.cnt)) = ((i + k : Nat) : Int) :: c'.nth m ∧ (c :: cs)[k]? = some c' ∧ m < c'.cnt
    by_cases z : n < c.cnt
    · rw [if_pos z]
      exact ⟨0, c, n, rfl, rfl, z⟩
    · rw [if_neg z]
      obtain ⟨k, c', m, h1, h2, h3⟩ := nthOne_good (fun c hc => g c (List.mem_cons_of_mem _ hc)) (i + 1) (n - c.cnt) (by omega)
      exact ⟨k + 1, c', m, by rw [h1]; congr 2; omega, h2, h3⟩
theorem mem_of {cs : List Cod} {k : Nat} {c : Cod} (h : cs[k]? = some c) : c ∈ cs := List.mem_of_getElem? h
theorem cnt_pos {c : Cod} : ∀ {cs : List Cod}, c ∈ cs → (∀ c ∈ cs, Good c) → 0 < cntOne cs
  | d :: cs, h, g => by
    have := (g d List.mem_cons_self).pos
    show 0 < d.cnt + cntOne cs
    omega
theorem jOf_lt {b k n : Nat} (hb : b < n) (hk : k < n) (h : k ≠ b) : jOf b k < n - 1 := by
  unfold jOf
  split <;> omega
theorem jOf_inj {b k l : Nat} (h : k ≠ b) (h' : l ≠ b) (e : jOf b k = jOf b l) : k = l := by
  unfold jOf at e
  split at e <;> split at e <;> omega
theorem spare_inj {x : Niche} {j l : Nat} (h : spareCode x j = spareCode x l) : j = l := by
  unfold spareCode at h
  have := Nat.eq_of_mul_eq_mul_left (two_pos _) h
  omega
theorem good_one {cs : List Cod} (g : ∀ c ∈ cs, Good c) (h2 : 2 ≤ cs.length) (h4 : cs.length ≤ 2 ^ 64) : Good (oneCod cs) where
  pos := by
    cases cs with
    | nil => exact absurd h2 (by decide)
    | cons c cs => exact cnt_pos List.mem_cons_self g
  split := fun l r h => by
    obtain ⟨k, c, m, rfl, hc, hk, hm⟩ := eatOne_some h
    obtain ⟨p, rfl, hp⟩ := (g c (mem_of hc)).split m r hm
    exact ⟨(k : Int) :: p, rfl, (eatOne_at hc p).trans hp⟩
  app := fun p r h => by
    obtain ⟨k, c, m, rfl, hc, hk, hm⟩ := eatOne_some h
    obtain ⟨q1, q2, q3⟩ := (g c (mem_of hc)).app m r hm
    show eatOne cs ((k : Int) :: (m ++ r)) = some r ∧ encOne cs ((k : Int) :: (m ++ r)) = ((encOne cs ((k : Int) :: m)).1, r) ∧ idxAlt cs ((k : Int)).toNat (m ++ r) = ((idxAlt cs ((k : Int)).toNat m).1, r)
    rw [eatOne_at hc, Int.toNat_natCast, idxAlt_at hc, idxAlt_at hc, q3]
    refine ⟨q1, ?_, rfl⟩
    cases e : carrier cs with
    | none => rw [encOne_t e hc, encOne_t e hc, q2]
    | some b =>
      obtain ⟨d, hd, _⟩ := carrier_some e
      rw [encOne_s e hd hc, encOne_s e hd hc, q2]
      split <;> rfl
  lt := fun p h => by
    obtain ⟨k, c, m, rfl, hc, hk, hm⟩ := eatOne_some h
    show (encOne cs ((k : Int) :: m)).1 < _
    have gc := g c (mem_of hc)
    cases e : carrier cs with
    | none =>
      rw [encOne_t e hc, (one_bits_t e).1, two_add]
      show k + two (bits0 cs.length) * (c.enc m).1 < _
      have h1 := gc.lt m hm
      have h3 : two c.bits ≤ two (maxBits cs) := two_le (le_maxBits hc)
      have h5 : k < two (bits0 cs.length) := Nat.lt_of_lt_of_le hk (bits0_fits h4)
      have h6 : two (bits0 cs.length) * ((c.enc m).1 + 1) ≤ two (bits0 cs.length) * two (maxBits cs) := Nat.mul_le_mul_left _ (by omega)
      rw [Nat.mul_add, Nat.mul_one] at h6
      omega
    | some b =>
      obtain ⟨d, hd, hb, hn, hz, _, _⟩ := carrier_some e
      rw [encOne_s e hd hc, (one_bits_s e hd).1]
      by_cases z : k = b
      · subst z
        rw [hd] at hc
        cases hc
        rw [if_pos rfl]
        exact gc.lt m hm
      · rw [if_neg z]
        have hbl := (List.getElem?_eq_some_iff.mp hd).1
        have := jOf_lt hbl hk z
        exact (spare_part (g d (mem_of hd)) (by omega)).2
  nic := fun p h hn => by
    obtain ⟨k, c, m, rfl, hc, hk, hm⟩ := eatOne_some h
    show ¬ (_ ≤ part (encOne cs ((k : Int) :: m)).1 _ _ ∧ part (encOne cs ((k : Int) :: m)).1 _ _ < _)
    have gc := g c (mem_of hc)
    cases e : carrier cs with
    | none =>
      rw [encOne_t e hc, (one_bits_t e).2]
      show ¬ (cs.length ≤ part (k + two (bits0 cs.length) * (c.enc m).1) 0 (bits0 cs.length) ∧ _)
      rw [part0, Nat.add_mul_mod_self_left, Nat.mod_eq_of_lt (Nat.lt_of_lt_of_le hk (bits0_fits h4))]
      omega
    | some b =>
      obtain ⟨d, hd, hb, hn', hz, _, _⟩ := carrier_some e
      have gd := g d (mem_of hd)
      rw [encOne_s e hd hc, (one_bits_s e hd).2]
      rw [(one_bits_s e hd).2] at hn
      have hn : 0 < d.nic.n - (cs.length - 1) := hn
      show ¬ (d.nic.first + (cs.length - 1) ≤ part (if k = b then c.enc m else (spareCode d.nic (jOf b k), (c.enc m).2)).1 d.nic.off d.nic.w ∧ part (if k = b then c.enc m else (spareCode d.nic (jOf b k), (c.enc m).2)).1 d.nic.off d.nic.w < d.nic.first + (cs.length - 1) + (d.nic.n - (cs.length - 1)))
      by_cases z : k = b
      · subst z
        rw [hd] at hc
        cases hc
        rw [if_pos rfl]
        have := gd.nic m hm (by omega)
        omega
      · rw [if_neg z]
        have hbl := (List.getElem?_eq_some_iff.mp hd).1
        have := jOf_lt hbl hk z
        rw [(spare_part gd (by omega)).1]
        omega
  fits := fun hn => by
    cases e : carrier cs with
    | none =>
      rw [(one_bits_t e).1, (one_bits_t e).2]
      show 0 + bits0 cs.length ≤ _ ∧ cs.length + (two (bits0 cs.length) - cs.length) ≤ two (bits0 cs.length)
      have := bits0_fits h4
      omega
    | some b =>
      obtain ⟨d, hd, hb, hn', hz, _, _⟩ := carrier_some e
      rw [(one_bits_s e hd).1, (one_bits_s e hd).2]
      rw [(one_bits_s e hd).2] at hn
      have hn : 0 < d.nic.n - (cs.length - 1) := hn
      have := (g d (mem_of hd)).fits (by omega)
      show d.nic.off + d.nic.w ≤ d.bits ∧ d.nic.first + (cs.length - 1) + (d.nic.n - (cs.length - 1)) ≤ two d.nic.w
      omega
  back := fun p h => by
    obtain ⟨k, c, m, rfl, hc, hk, hm⟩ := eatOne_some h
    have gc := g c (mem_of hc)
    show decOne cs (encOne cs ((k : Int) :: m)).1 = some ((k : Int) :: m)
    unfold decOne
    cases e : carrier cs with
    | none =>
      rw [encOne_t e hc]
      have h5 : k < two (bits0 cs.length) := Nat.lt_of_lt_of_le hk (bits0_fits h4)
      show (if (k + two (bits0 cs.length) * (c.enc m).1) % two (bits0 cs.length) < cs.length then (decAlt cs ((k + two (bits0 cs.length) * (c.enc m).1) % two (bits0 cs.length)) ((k + two (bits0 cs.length) * (c.enc m).1) / two (bits0 cs.length))).map (fun v => (((k + two (bits0 cs.length) * (c.enc m).1) % two (bits0 cs.length) : Nat) : Int) :: v) else none) = _
      rw [Nat.add_mul_mod_self_left, Nat.mod_eq_of_lt h5, Nat.add_mul_div_left _ _ (two_pos _), Nat.div_eq_of_lt h5, Nat.zero_add, if_pos hk, decAlt_at hc (gc.lt m hm), gc.back m hm]
      rfl
    | some b =>
      obtain ⟨d, hd, hb, hn', hz, hnic, _⟩ := carrier_some e
      have gd := g d (mem_of hd)
      have hbl := (List.getElem?_eq_some_iff.mp hd).1
      rw [encOne_s e hd hc]
      show (match spareTold (nicOf cs b) (if k = b then c.enc m else (spareCode d.nic (jOf b k), (c.enc m).2)).1 with
        | some j => if j + 1 < cs.length then (decAlt cs (if j < b then j else j + 1) 0).map (fun v => ((if j < b then j else j + 1 : Nat) : Int) :: v) else (decAlt cs b (if k = b then c.enc m else (spareCode d.nic (jOf b k), (c.enc m).2)).1).map fun v => (b : Int) :: v
        | none => (decAlt cs b (if k = b then c.enc m else (spareCode d.nic (jOf b k), (c.enc m).2)).1).map fun v => (b : Int) :: v) = _
      rw [hnic]
      by_cases z : k = b
      · subst z
        rw [hd] at hc
        cases hc
        rw [if_pos rfl, spareTold_none gc (by omega) hm]
        show (decAlt cs k (c.enc m).1).map _ = _
        rw [decAlt_at hd (gc.lt m hm), gc.back m hm]
        rfl
      · have hj := jOf_lt hbl hk z
        rw [if_neg z, spareTold_some gd (show jOf b k < d.nic.n by omega)]
        show (if jOf b k + 1 < cs.length then _ else _) = _
        have ek : (if jOf b k < b then jOf b k else jOf b k + 1) = k := by
          unfold jOf
          by_cases y : k < b
          · rw [if_pos y, if_pos y]
          · rw [if_neg y, if_neg (by omega)]
            omega
        rw [if_pos (by omega), ek, decAlt_at hc (two_pos _)]
        have e0 : (c.enc m).1 = 0 := by
          have := gc.lt m hm
          rw [hz k c hc z] at this
          have : (c.enc m).1 < 1 := this
          omega
        have := gc.back m hm
        rw [e0] at this
        rw [this]
        rfl
  nth := fun n h => by
    obtain ⟨k, c, m, h1, h2', h3⟩ := nthOne_good g 0 n h
    show eatOne cs (nthOne cs 0 n) = some []
    rw [h1, Nat.zero_add, eatOne_at h2']
    exact (g c (mem_of h2')).nth m h3
  idx := fun p h => by
    obtain ⟨k, c, m, rfl, hc, hk, hm⟩ := eatOne_some h
    show (idxAlt cs ((k : Int)).toNat m).1 < cntOne cs
    rw [Int.toNat_natCast, idxAlt_at hc]
    have h1 := (g c (mem_of hc)).idx m hm
    have h2 : ∀ (cs : List Cod) (k : Nat) (c : Cod), cs[k]? = some c → cntOne (cs.take k) + c.cnt ≤ cntOne cs := by
      intro cs
      induction cs with
      | nil => intro k c h; simp at h
      | cons d cs ih =>
        intro k c h
        cases k with
        | zero =>
          cases Option.some.inj h
          show 0 + d.cnt ≤ d.cnt + cntOne cs
          omega
        | succ k =>
          have := ih k c h
          show d.cnt + cntOne (cs.take k) + c.cnt ≤ d.cnt + cntOne cs
          omega
    have h3 := h2 cs k c hc
    show cntOne (cs.take k) + (c.idx m).1 < _
    omega
end ML
/-! 4: a type's Cod; the program's way to a one's value; sizes. -/
namespace ML
open ValayBase (PName)
open Valaya (Ty Rec countLeaves takeValue takeMany absent rowLength power countBy nthBy nthMany indexBy indexMany bitsBy)
open Valaye (Niche Form two part forms formOf noNiche moved better taken_ How howOf oneForm maybeForm manyForm encBy encMany decBy decMany spareCode spareTold bits0)

theorem D_one_t {cs : List Cod} (g : ∀ c ∈ cs, Good c) (h2 : 2 ≤ cs.length) (h4 : cs.length ≤ 2 ^ 64) (e : carrier cs = none) {n k : Nat} {d : Cod} (hk : n % two (bits0 cs.length) = k) (hd : cs[k]? = some d) :
    D (oneCod cs) n = (D d (n / two (bits0 cs.length))).map fun v => (k : Int) :: v := by
  have gd := g d (mem_of hd)
  refine opt_ext fun v => ?_
  rw [D_iff (good_one g h2 h4)]
  constructor
  · rintro ⟨h1, h3⟩
    obtain ⟨k', c, m, rfl, hc, hk', hm⟩ := eatOne_some h1
    have h3 : (encOne cs ((k' : Int) :: m)).1 = n := h3
    rw [encOne_t e hc] at h3
    have h3 : k' + two (bits0 cs.length) * (c.enc m).1 = n := h3
    have h5 : k' < two (bits0 cs.length) := Nat.lt_of_lt_of_le hk' (bits0_fits h4)
    have e1 : k' = k := by rw [← hk, ← h3, Nat.add_mul_mod_self_left, Nat.mod_eq_of_lt h5]
    subst e1
    rw [hd] at hc
    cases hc
    have e2 : n / two (bits0 cs.length) = (d.enc m).1 := by rw [← h3, Nat.add_mul_div_left _ _ (two_pos _), Nat.div_eq_of_lt h5, Nat.zero_add]
    rw [e2, (D_iff gd).mpr ⟨hm, rfl⟩]
    rfl
  · intro h
    obtain ⟨m, hm, rfl⟩ := Option.map_eq_some_iff.mp h
    obtain ⟨q1, q2⟩ := (D_iff gd).mp hm
    refine ⟨(eatOne_at hd m).trans q1, ?_⟩
    show (encOne cs ((k : Int) :: m)).1 = n
    rw [encOne_t e hd]
    show k + two (bits0 cs.length) * (d.enc m).1 = n
    rw [q2, ← hk]
    exact Nat.mod_add_div n _
theorem D_one_no {cs : List Cod} (g : ∀ c ∈ cs, Good c) (h2 : 2 ≤ cs.length) (h4 : cs.length ≤ 2 ^ 64) (e : carrier cs = none) {n : Nat} (hk : cs.length ≤ n % two (bits0 cs.length)) : D (oneCod cs) n = none := by
  refine opt_ext fun v => ?_
  rw [D_iff (good_one g h2 h4)]
  constructor
  · rintro ⟨h1, h3⟩
    obtain ⟨k', c, m, rfl, hc, hk', hm⟩ := eatOne_some h1
    have h3 : (encOne cs ((k' : Int) :: m)).1 = n := h3
    rw [encOne_t e hc] at h3
    have h3 : k' + two (bits0 cs.length) * (c.enc m).1 = n := h3
    have h5 : k' < two (bits0 cs.length) := Nat.lt_of_lt_of_le hk' (bits0_fits h4)
    rw [← h3, Nat.add_mul_mod_self_left, Nat.mod_eq_of_lt h5] at hk
    omega
  · intro h
    cases h
theorem D_one_hit {cs : List Cod} (g : ∀ c ∈ cs, Good c) (h2 : 2 ≤ cs.length) (h4 : cs.length ≤ 2 ^ 64) {b k : Nat} {c d : Cod} (e : carrier cs = some b) (hc : cs[b]? = some c) (hd : cs[k]? = some d) (hne : k ≠ b) :
    D (oneCod cs) (spareCode c.nic (jOf b k)) = some ((k : Int) :: d.nth 0) := by
  have gd := g d (mem_of hd)
  rw [D_iff (good_one g h2 h4)]
  refine ⟨(eatOne_at hd _).trans (gd.nth 0 gd.pos), ?_⟩
  show (encOne cs ((k : Int) :: d.nth 0)).1 = _
  rw [encOne_s e hc hd, if_neg hne]
theorem D_one_miss {cs : List Cod} (g : ∀ c ∈ cs, Good c) (h2 : 2 ≤ cs.length) (h4 : cs.length ≤ 2 ^ 64) {b n : Nat} {c : Cod} (e : carrier cs = some b) (hc : cs[b]? = some c) (hn : ∀ k, k < cs.length → k ≠ b → n ≠ spareCode c.nic (jOf b k)) :
    D (oneCod cs) n = (D c n).map fun v => (b : Int) :: v := by
  have gc := g c (mem_of hc)
  refine opt_ext fun v => ?_
  rw [D_iff (good_one g h2 h4)]
  constructor
  · rintro ⟨h1, h3⟩
    obtain ⟨k, d, m, rfl, hd, hk, hm⟩ := eatOne_some h1
    have h3 : (encOne cs ((k : Int) :: m)).1 = n := h3
    rw [encOne_s e hc hd] at h3
    by_cases z : k = b
    · subst z
      rw [hc] at hd
      cases hd
      rw [if_pos rfl] at h3
      rw [← h3, (D_iff gc).mpr ⟨hm, rfl⟩]
      rfl
    · rw [if_neg z] at h3
      exact absurd h3.symm (hn k hk z)
  · intro h
    obtain ⟨m, hm, rfl⟩ := Option.map_eq_some_iff.mp h
    obtain ⟨q1, q2⟩ := (D_iff gc).mp hm
    refine ⟨(eatOne_at hc m).trans q1, ?_⟩
    show (encOne cs ((b : Int) :: m)).1 = n
    rw [encOne_s e hc hc, if_pos rfl]
    exact q2

/-! ### types that a text tells -/
def rows : Ty → List Ty
  | .field _ _ t r => t :: rows r
  | _ => []
def wf : Ty → Bool → Prop
  | .num a b _, row => row = false ∧ -1000000 ≤ a ∧ a ≤ b ∧ b ≤ 1000000
  | .maybe t, row => row = false ∧ wf t false
  | .many n t, row => row = false ∧ 1 ≤ n ∧ n ≤ 8 ∧ wf t false
  | .rec_ fs, row => row = false ∧ wf fs true
  | .named _ t, row => row = false ∧ (∃ fs, t = .rec_ fs) ∧ wf t false
  | .one_ fs, row => row = false ∧ wf fs true ∧ 2 ≤ rowLength fs ∧ rowLength fs ≤ 4
  | .nil, row => row = true
  | .field _ _ t r, row => row = true ∧ wf t false ∧ wf r true
theorem rows_length : ∀ t : Ty, (rows t).length = rowLength t
  | .field _ _ t r => by
    show (rows r).length + 1 = rowLength r + 1
    rw [rows_length r]
  | .num _ _ _ => rfl
  | .maybe _ => rfl
  | .many _ _ => rfl
  | .rec_ _ => rfl
  | .named _ _ => rfl
  | .one_ _ => rfl
  | .nil => rfl
theorem Cod.ext' {c d : Cod} (h1 : c.bits = d.bits) (h2 : c.nic = d.nic) (h3 : c.cnt = d.cnt) (h4 : ∀ l, c.eat l = d.eat l) (h5 : ∀ l, c.enc l = d.enc l) (h6 : ∀ n, c.dec n = d.dec n) (h7 : ∀ n, c.nth n = d.nth n) (h8 : ∀ l, c.idx l = d.idx l) : c = d := by
  obtain ⟨a1, a2, a3, a4, a5, a6, a7, a8⟩ := c
  obtain ⟨b1, b2, b3, b4, b5, b6, b7, b8⟩ := d
  have e4 : a4 = b4 := funext h4
  have e5 : a5 = b5 := funext h5
  have e6 : a6 = b6 := funext h6
  have e7 : a7 = b7 := funext h7
  have e8 : a8 = b8 := funext h8
  have e1 : a1 = b1 := h1
  have e2 : a2 = b2 := h2
  have e3 : a3 = b3 := h3
  rw [e1, e2, e3, e4, e5, e6, e7, e8]
theorem cod_num (a b : Int) (al : Nat) : cod (.num a b al) = numCod a b := by
  refine Cod.ext' rfl rfl rfl (fun l => ?_) (fun _ => rfl) (fun _ => rfl) (fun _ => rfl) fun _ => rfl
  cases l with
  | nil => rfl
  | cons v r =>
    show (if a ≤ v ∧ v ≤ b then some ([some (v - a).toNat], r) else none).map (·.2) = if a ≤ v ∧ v ≤ b then some r else none
    split <;> rfl
theorem cod_may (t : Ty) : cod (.maybe t) = mayCod (cod t) := by
  refine Cod.ext' rfl rfl rfl (fun l => ?_) (fun l => ?_) (fun n => ?_) (fun _ => rfl) fun l => ?_
  · cases l with
    | nil => rfl
    | cons v r =>
      show (takeValue (.maybe t) none (v :: r)).map (·.2) = (if v = 0 then some r else if v = 1 then (takeValue t none r).map (·.2) else none)
      by_cases h0 : v = 0
      · subst h0
        rfl
      · rw [if_neg h0]
        by_cases h1 : v = 1
        · subst h1
          show ((takeValue t none r).map fun x => (some 1 :: x.1, x.2)).map (·.2) = _
          rw [Option.map_map]
          rfl
        · rw [if_neg h1]
          unfold takeValue
          split
          · rename_i q
            exact absurd (List.cons.inj q).1 h0
          · rename_i q
            exact absurd (List.cons.inj q).1 h1
          · rfl
  · rfl
  · rfl
  · rfl
theorem eat_many (t : Ty) : ∀ (n : Nat) (l : List Int), (takeMany (takeValue t none) n l).map (·.2) = eatRow (List.replicate n (cod t)) l
  | 0, l => rfl
  | n + 1, l => by
    show ((takeValue t none l).bind fun x => (takeMany (takeValue t none) n x.2).map fun y => (x.1 ++ y.1, y.2)).map (·.2) = (((takeValue t none l).map (·.2)).bind (eatRow (List.replicate n (cod t))))
    cases takeValue t none l with
    | none => rfl
    | some x =>
      show ((takeMany (takeValue t none) n x.2).map fun y => (x.1 ++ y.1, y.2)).map (·.2) = eatRow (List.replicate n (cod t)) x.2
      rw [← eat_many t n x.2, Option.map_map]
      rfl
theorem enc_many (t : Ty) : ∀ (n : Nat) (l : List Int), encMany (formOf t).bits (encBy t none) n l = encRow (List.replicate n (cod t)) l
  | 0, l => rfl
  | n + 1, l => by
    show ((encBy t none l).1 + two (formOf t).bits * (encMany (formOf t).bits (encBy t none) n (encBy t none l).2).1, (encMany (formOf t).bits (encBy t none) n (encBy t none l).2).2) = _
    rw [enc_many t n]
    rfl
theorem dec_many (t : Ty) : ∀ (n m : Nat), decMany (formOf t).bits (decBy t none) n m = decRow (List.replicate n (cod t)) m
  | 0, m => rfl
  | n + 1, m => by
    show ((decBy t none (m % two (formOf t).bits)).bind fun x => (decMany (formOf t).bits (decBy t none) n (m / two (formOf t).bits)).map fun y => x ++ y) = _
    rw [dec_many t n]
    rfl
theorem cnt_many (t : Ty) : ∀ n : Nat, power (countBy t false) n = cntRow (List.replicate n (cod t))
  | 0 => rfl
  | n + 1 => by
    show countBy t false * power (countBy t false) n = _
    rw [cnt_many t n]
    rfl
theorem nth_many (t : Ty) : ∀ (n m : Nat), nthMany (nthBy t none) (countBy t false) n m = nthRow (List.replicate n (cod t)) m
  | 0, m => rfl
  | n + 1, m => by
    show nthBy t none (m / power (countBy t false) n) ++ nthMany (nthBy t none) (countBy t false) n (m % power (countBy t false) n) = _
    rw [nth_many t n, cnt_many t n]
    rfl
theorem idx_many (t : Ty) : ∀ (n : Nat) (l : List Int), indexMany (indexBy t none) (countBy t false) n l = idxRow (List.replicate n (cod t)) l
  | 0, l => rfl
  | n + 1, l => by
    show ((indexBy t none l).1 * power (countBy t false) n + (indexMany (indexBy t none) (countBy t false) n (indexBy t none l).2).1, (indexMany (indexBy t none) (countBy t false) n (indexBy t none l).2).2) = _
    rw [idx_many t n, cnt_many t n]
    rfl
theorem form_many (t : Ty) : ∀ n : Nat, manyForm (formOf t) n = ⟨bitsRow (List.replicate n (cod t)), nicRow (List.replicate n (cod t))⟩
  | 0 => rfl
  | n + 1 => by
    show (⟨(formOf t).bits + (manyForm (formOf t) n).bits, better (formOf t).niche (moved (formOf t).bits (manyForm (formOf t) n).niche)⟩ : Form) = _
    rw [form_many t n]
    rfl
theorem cod_many (n : Nat) (t : Ty) : cod (.many n t) = rowCod (List.replicate n (cod t)) :=
  Cod.ext' (congrArg Form.bits (form_many t n)) (congrArg Form.niche (form_many t n)) (cnt_many t n) (eat_many t n) (enc_many t n) (dec_many t n) (nth_many t n) (idx_many t n)
theorem cod_named (x : ValayBase.Bytes) (t : Ty) : cod (.named x t) = cod t := Cod.ext' rfl rfl rfl (fun _ => rfl) (fun _ => rfl) (fun _ => rfl) (fun _ => rfl) fun _ => rfl
/-- a row of fields -/
theorem cod_row : ∀ {fs : Ty}, wf fs true → (takeValue fs none = fun l => takeValue fs none l) ∧ (∀ l, (takeValue fs none l).map (·.2) = eatRow ((rows fs).map cod) l) ∧ (∀ l, encBy fs none l = encRow ((rows fs).map cod) l) ∧ (∀ n, decBy fs none n = decRow ((rows fs).map cod) n) ∧
    countBy fs false = cntRow ((rows fs).map cod) ∧ (∀ n, nthBy fs none n = nthRow ((rows fs).map cod) n) ∧ (∀ l, indexBy fs none l = idxRow ((rows fs).map cod) l) ∧ (forms fs).1 = ⟨bitsRow ((rows fs).map cod), nicRow ((rows fs).map cod)⟩
  | .nil, _ => ⟨rfl, fun _ => rfl, fun _ => rfl, fun _ => rfl, rfl, fun _ => rfl, fun _ => rfl, rfl⟩
  | .field x h t r, w => by
    obtain ⟨_, h1, h2, h3, h4, h5, h6, h7⟩ := cod_row (fs := r) w.2.2
    refine ⟨rfl, fun l => ?_, fun l => ?_, fun n => ?_, ?_, fun n => ?_, fun l => ?_, ?_⟩
    · show ((takeValue t none l).bind fun x => (takeValue r none x.2).map fun y => (x.1 ++ y.1, y.2)).map (·.2) = ((takeValue t none l).map (·.2)).bind (eatRow ((rows r).map cod))
      cases takeValue t none l with
      | none => rfl
      | some x =>
        show ((takeValue r none x.2).map fun y => (x.1 ++ y.1, y.2)).map (·.2) = eatRow ((rows r).map cod) x.2
        rw [← h1, Option.map_map]
        rfl
    · show ((encBy t none l).1 + two (formOf t).bits * (encBy r none (encBy t none l).2).1, (encBy r none (encBy t none l).2).2) = _
      rw [h2]
      rfl
    · show ((decBy t none (n % two (formOf t).bits)).bind fun x => (decBy r none (n / two (formOf t).bits)).map fun y => x ++ y) = _
      rw [h3]
      rfl
    · show countBy t false * countBy r false = _
      rw [h4]
      rfl
    · show nthBy t none (n / countBy r false) ++ nthBy r none (n % countBy r false) = _
      rw [h5, h4]
      rfl
    · show ((indexBy t none l).1 * countBy r false + (indexBy r none (indexBy t none l).2).1, (indexBy r none (indexBy t none l).2).2) = _
      rw [h6, h4]
      rfl
    · show (⟨(formOf t).bits + (forms r).1.bits, better (formOf t).niche (moved (formOf t).bits (forms r).1.niche)⟩ : Form) = _
      rw [h7]
      rfl
theorem cod_rec {fs : Ty} (w : wf fs true) : cod (.rec_ fs) = rowCod ((rows fs).map cod) := by
  obtain ⟨_, h1, h2, h3, h4, h5, h6, h7⟩ := cod_row w
  exact Cod.ext' (congrArg Form.bits h7) (congrArg Form.niche h7) h4 h1 h2 h3 h5 h6
/-- a row of alternatives -/
theorem alts_at : ∀ {fs : Ty}, wf fs true → (forms fs).2 = ((rows fs).map cod).map frm ∧ countBy fs true = cntOne ((rows fs).map cod) ∧ (∀ (k : Nat) l, k < rowLength fs → (takeValue fs (some k) l).map (·.2) = match ((rows fs).map cod)[k]? with
      | some c => c.eat l
      | none => some l) ∧ (∀ (k : Nat) l, encBy fs (some k) l = encAlt ((rows fs).map cod) k l) ∧ (∀ (k n : Nat), decBy fs (some k) n = decAlt ((rows fs).map cod) k n) ∧
      (∀ (k n : Nat), nthBy fs (some k) n = nthOne ((rows fs).map cod) k n) ∧ (∀ (k : Nat) l, indexBy fs (some k) l = idxAlt ((rows fs).map cod) k l)
  | .nil, _ => ⟨rfl, rfl, fun k l h => absurd h (Nat.not_lt_zero _), fun k l => by cases k <;> rfl, fun k n => by cases k <;> rfl, fun k n => rfl, fun k l => by cases k <;> rfl⟩
  | .field x h t r, w => by
    obtain ⟨h1, h2, h3, h4, h5, h6, h7⟩ := alts_at (fs := r) w.2.2
    refine ⟨?_, ?_, fun k l hk => ?_, fun k l => ?_, fun k n => ?_, fun k n => ?_, fun k l => ?_⟩
    · show formOf t :: (forms r).2 = _
      rw [h1]
      rfl
    · show countBy t false + countBy r true = _
      rw [h2]
      rfl
    · cases k with
      | zero =>
        show ((takeValue t none l).map fun x => (x.1 ++ absent r, x.2)).map (·.2) = (takeValue t none l).map (·.2)
        rw [Option.map_map]
        rfl
      | succ k =>
        have hk : k < rowLength r := Nat.lt_of_succ_lt_succ hk
        show ((takeValue r (some k) l).map fun x => (absent t ++ x.1, x.2)).map (·.2) = _
        rw [Option.map_map]
        exact h3 k l hk
    · cases k with
      | zero => rfl
      | succ k => exact h4 k l
    · cases k with
      | zero => rfl
      | succ k => exact h5 k n
    · show (if n < countBy t false then (k : Int) :: nthBy t none n else nthBy r (some (k + 1)) (n - countBy t false)) = _
      rw [h6]
      rfl
    · cases k with
      | zero => rfl
      | succ k =>
        show (countBy t false + (indexBy r (some k) l).1, (indexBy r (some k) l).2) = _
        rw [h7]
        rfl
theorem howOf_carrier {cs : List Cod} {α : Type} (f : Nat → α) (z : α) : (match howOf (cs.map frm) with
    | .spare b => f b
    | .tag _ => z) = match carrier cs with
    | some b => f b
    | none => z := by
  unfold carrier
  cases howOf (cs.map frm) <;> rfl
theorem nic_get (cs : List Cod) (b : Nat) : (((cs.map frm)[b]?.map fun f => f.niche).getD noNiche) = nicOf cs b := by
  unfold nicOf
  rw [List.getElem?_map]
  cases cs[b]? <;> rfl
theorem cod_one {fs : Ty} (w : wf fs true) : cod (.one_ fs) = oneCod ((rows fs).map cod) := by
  obtain ⟨h1, h2, h3, h4, h5, h6, h7⟩ := alts_at w
  have hl : ((rows fs).map cod).length = rowLength fs := by rw [List.length_map, rows_length]
  refine Cod.ext' ?_ ?_ h2 (fun l => ?_) (fun l => ?_) (fun n => ?_) (fun n => h6 0 n) fun l => h7 _ _
  · show (oneForm (forms fs).2).bits = _
    rw [h1]
    rfl
  · show (oneForm (forms fs).2).niche = _
    rw [h1]
    rfl
  · cases l with
    | nil => rfl
    | cons v r =>
      show (if 0 ≤ v ∧ v < (rowLength fs : Int) then (takeValue fs (some v.toNat) r).map fun x => (some v.toNat :: x.1, x.2) else none).map (·.2) = if 0 ≤ v ∧ v < (((rows fs).map cod).length : Int) then (match ((rows fs).map cod)[v.toNat]? with
        | some c => c.eat r
        | none => some r) else none
      rw [hl]
      by_cases z : 0 ≤ v ∧ v < (rowLength fs : Int)
      · rw [if_pos z, if_pos z, Option.map_map, ← h3 v.toNat r (by omega)]
        rfl
      · rw [if_neg z, if_neg z]
        rfl
  · show (match howOf (forms fs).2 with
      | .spare b => if (l.headD 0).toNat = b then encBy fs (some (l.headD 0).toNat) (l.drop 1) else (spareCode (((forms fs).2[b]?.map fun f => f.niche).getD noNiche) (if (l.headD 0).toNat < b then (l.headD 0).toNat else (l.headD 0).toNat - 1), (encBy fs (some (l.headD 0).toNat) (l.drop 1)).2)
      | .tag w => ((l.headD 0).toNat + two w * (encBy fs (some (l.headD 0).toNat) (l.drop 1)).1, (encBy fs (some (l.headD 0).toNat) (l.drop 1)).2)) = encOne ((rows fs).map cod) l
    rw [h1]
    unfold encOne
    cases e : carrier ((rows fs).map cod) with
    | none =>
      rw [carrier_none e]
      show ((l.headD 0).toNat + two (bits0 ((rows fs).map cod).length) * (encBy fs (some (l.headD 0).toNat) (l.drop 1)).1, _) = _
      rw [h4]
    | some b =>
      obtain ⟨_, _, _, _, _, _, hw⟩ := carrier_some e
      rw [hw]
      show (if (l.headD 0).toNat = b then encBy fs (some (l.headD 0).toNat) (l.drop 1) else (spareCode ((((rows fs).map cod).map frm)[b]?.map (fun f => f.niche) |>.getD noNiche) (if (l.headD 0).toNat < b then (l.headD 0).toNat else (l.headD 0).toNat - 1), (encBy fs (some (l.headD 0).toNat) (l.drop 1)).2)) = _
      rw [nic_get, h4]
  · show (match howOf (forms fs).2 with
      | .spare b => (match spareTold (((forms fs).2[b]?.map fun f => f.niche).getD noNiche) n with
        | some j => if j + 1 < (forms fs).2.length then (decBy fs (some (if j < b then j else j + 1)) 0).map (fun v => ((if j < b then j else j + 1 : Nat) : Int) :: v) else (decBy fs (some b) n).map fun v => (b : Int) :: v
        | none => (decBy fs (some b) n).map fun v => (b : Int) :: v)
      | .tag w => if n % two w < (forms fs).2.length then (decBy fs (some (n % two w)) (n / two w)).map (fun v => ((n % two w : Nat) : Int) :: v) else none) = decOne ((rows fs).map cod) n
    rw [h1]
    unfold decOne
    cases e : carrier ((rows fs).map cod) with
    | none =>
      rw [carrier_none e]
      show (if n % two (bits0 ((rows fs).map cod).length) < (((rows fs).map cod).map frm).length then (decBy fs (some (n % two (bits0 ((rows fs).map cod).length))) (n / two (bits0 ((rows fs).map cod).length))).map (fun v => ((n % two (bits0 ((rows fs).map cod).length) : Nat) : Int) :: v) else none) = _
      rw [h5, List.length_map (f := frm)]
    | some b =>
      obtain ⟨_, _, _, _, _, _, hw⟩ := carrier_some e
      rw [hw]
      show (match spareTold ((((rows fs).map cod).map frm)[b]?.map (fun f => f.niche) |>.getD noNiche) n with
        | some j => if j + 1 < (((rows fs).map cod).map frm).length then (decBy fs (some (if j < b then j else j + 1)) 0).map (fun v => ((if j < b then j else j + 1 : Nat) : Int) :: v) else (decBy fs (some b) n).map fun v => (b : Int) :: v
        | none => (decBy fs (some b) n).map fun v => (b : Int) :: v) = _
      rw [nic_get, List.length_map (f := frm)]
      simp only [h5] <;> rfl
theorem good_cod : ∀ {t : Ty} {row : Bool}, wf t row → (row = false → Good (cod t)) ∧ (row = true → ∀ c ∈ (rows t).map cod, Good c)
  | .num a b al, row, w => by
    obtain ⟨rfl, h1, h2, h3⟩ := w
    refine ⟨fun _ => ?_, fun z => nomatch z⟩
    rw [cod_num]
    exact good_num h2 (by have : (b - a + 1).toNat ≤ 2000001 := by omega
                          exact Nat.le_trans this (by decide))
  | .maybe t, row, w => by
    obtain ⟨rfl, h1⟩ := w
    refine ⟨fun _ => ?_, fun z => nomatch z⟩
    rw [cod_may]
    exact good_may ((good_cod h1).1 rfl)
  | .many n t, row, w => by
    obtain ⟨rfl, h1, h2, h3⟩ := w
    refine ⟨fun _ => ?_, fun z => nomatch z⟩
    rw [cod_many]
    exact good_row fun c hc => by
      rw [(List.mem_replicate.mp hc).2]
      exact (good_cod h3).1 rfl
  | .rec_ fs, row, w => by
    obtain ⟨rfl, h1⟩ := w
    refine ⟨fun _ => ?_, fun z => nomatch z⟩
    rw [cod_rec h1]
    exact good_row ((good_cod h1).2 rfl)
  | .named x t, row, w => by
    obtain ⟨rfl, _, h1⟩ := w
    refine ⟨fun _ => ?_, fun z => nomatch z⟩
    rw [cod_named]
    exact (good_cod h1).1 rfl
  | .one_ fs, row, w => by
    obtain ⟨rfl, h1, h2, h3⟩ := w
    refine ⟨fun _ => ?_, fun z => nomatch z⟩
    rw [cod_one h1]
    have hl : ((rows fs).map cod).length = rowLength fs := by rw [List.length_map, rows_length]
    exact good_one ((good_cod h1).2 rfl) (by omega) (by
      rw [hl]
      exact Nat.le_trans h3 (by decide))
  | .nil, row, w => by
    have w : row = true := w
    subst w
    exact ⟨fun z => (nomatch z), fun _ c hc => by cases hc⟩
  | .field x h t r, row, w => by
    obtain ⟨rfl, h1, h2⟩ := w
    refine ⟨fun z => (nomatch z), fun _ c hc => ?_⟩
    rcases List.mem_cons.mp hc with rfl | hc
    · exact (good_cod h1).1 rfl
    · exact (good_cod h2).2 rfl c hc
theorem codes_some (t : Ty) (v : List Int) : (Valaya.codesOf t v).isSome = true ↔ (cod t).eat v = some [] := by
  unfold Valaya.codesOf
  show _ ↔ (takeValue t none v).map (·.2) = some []
  cases takeValue t none v with
  | none => exact ⟨fun h => absurd h Bool.false_ne_true, fun h => (nomatch h)⟩
  | some x =>
    show (if x.2.isEmpty = true then some x.1 else none).isSome = true ↔ some x.2 = some []
    obtain ⟨a, b⟩ := x
    cases b with
    | nil => exact ⟨fun _ => rfl, fun _ => rfl⟩
    | cons y r => exact ⟨fun h => absurd h Bool.false_ne_true, fun h => absurd (Option.some.inj h) (List.cons_ne_nil _ _)⟩
theorem encode_eq (t : Ty) (v : List Int) : Valaye.encode t v = if (cod t).eat v = some [] then some ((cod t).enc v).1 else none := by
  unfold Valaye.encode
  by_cases h : (cod t).eat v = some []
  · rw [if_pos h, if_pos ((codes_some t v).mpr h)]
    rfl
  · rw [if_neg h, if_neg fun z => h ((codes_some t v).mp z)]
theorem decode_eq (t : Ty) (n : Nat) : Valaye.decode t n = D (cod t) n := by
  unfold Valaye.decode D
  show (decBy t none n).bind _ = (decBy t none n).bind _
  congr 1
  funext v
  rw [encode_eq]
  by_cases h : (cod t).eat v = some []
  · rw [if_pos h]
    by_cases q : ((cod t).enc v).1 = n
    · rw [if_pos (congrArg some q), if_pos ⟨h, q⟩]
    · rw [if_neg (fun z => q (Option.some.inj z)), if_neg (fun z => q z.2)]
  · rw [if_neg h, if_neg (fun z => nomatch z), if_neg (fun z => h z.1)]
end ML
set_option Elab.async false
set_option linter.all false
set_option maxRecDepth 100000
set_option maxHeartbeats 0
namespace LY
open PySem PySem.Spec PyProof.Rows L2
/-! ### what the top has written, by names -/
def top (i : Nat) : Stmt := PySem.Challenge.pw_layouts_s01_answers.main.body.getD i (.Pass ⟨0, 0, 0, 0⟩)
def dOf (a : Str × Option Str) (x q : Str) (s : Stmt) : He.DefD := ⟨a, x, q, defArgs s, defBody s, defScope s, [], []⟩
def fa0 : List He.Fa := [.glo "bits_for", .glo "codes_to_spare", .glo "nothing_spare", .glo "greatest_spare", .glo "carrier_of", .glo "tokens_of", .glo "signs_of", .glo "remark_end", .glo "token_at", .glo "word_at", .glo "number_at", .glo "run_at", .glo "records_of", .glo "read_record", .glo "read_field", .glo "read_kind", .glo "read_number", .glo "read_value", .glo "read_last", .glo "read_align", .glo "read_one", .glo "read_named", .glo "room_for", .glo "bytes_told", .glo "number_read", .glo "answers", .glo "split_calls", .glo "answer_of_record", .glo "told_of_record", .glo "sizes"]
def fa1 : List He.Fa := [.glo "packed_bits", .glo "niche", .glo "enc", .glo "dec", .glo "pack", .glo "unpack", .glo "rank", .glo "NoValue", .glo "Cursor", .glo "Fault", .glo "Spare", .glo "Number", .glo "Maybe", .glo "One", .glo "Row", .glo "Many", .glo "Field", .glo "Record", .glo "Token", .glo "Reader", .glo "NotSuchBytes", .glo "Holder", .free "len", .free "sum", .free "max", .free "range", .free "enumerate", .free "zip", .free "reversed", .free "str"]
def fa2 : List He.Fa := [.free "int", .free "ord", .free "Exception", .str "LETTERS" "abcdefghijklmnopqrstuvwxyzABCDEFGHIJKLMNOPQRSTUVWXYZ", .str "DIGITS" "0123456789", .str "SIGNS" "{},;:-.", .int "LONGEST_NAME" (16), .int "GREATEST_NUMBER" (1000000000), .int "MOST_DIGITS" (10), .int "LONGEST_TEXT" (4096), .int "LONGEST_ONE_FORM" (4096), .int "MOST_RECORDS" (6), .int "MOST_LEAVES" (24), .int "MOST_DEEP" (6), .int "FEWEST_ALTERNATIVES" (2), .int "MOST_ALTERNATIVES" (4), .int "MOST_TIMES" (8), .int "HOTTEST" (1000), .int "GREATEST_VALUE" (1000000), .int "LOAD" (0), .int "SIZES" (1), .int "NICHE" (2), .int "ENC" (3), .int "DEC" (4), .int "PACK" (5), .int "RANK" (7), .int "NO_RECORDS" (-1), .int "NO_SUCH_RECORD" (-2), .int "NO_SUCH_VALUE" (-4), .int "NO_SUCH_BYTES" (-5)]
def fa3 : List He.Fa := [.cls "Cursor", .mkr "Cursor", .noat "Cursor" "numbers", .noat "Cursor" "place", .meth "Cursor" "draw", .meth "Cursor" "end", .meth "Cursor" "ended", .cls "Spare", .mkr "Spare", .noat "Spare" "at", .noat "Spare" "width", .noat "Spare" "first", .noat "Spare" "left", .meth "Spare" "moved", .meth "Spare" "without", .meth "Spare" "bits_with", .cls "Number", .mkr "Number", .noat "Number" "first", .noat "Number" "last", .noat "Number" "align", .noat "Number" "leaves", .noat "Number" "bits", .noat "Number" "spare", .noat "Number" "flat", .noat "Number" "shared", .meth "Number" "how_many", .meth "Number" "one_form", .meth "Number" "bits_told", .meth "Number" "number_told"]
def fa4 : List He.Fa := [.meth "Number" "value_with", .meth "Number" "value_at", .cls "Maybe", .mkr "Maybe", .noat "Maybe" "inner", .noat "Maybe" "leaves", .noat "Maybe" "flat", .noat "Maybe" "shared", .noat "Maybe" "tagged", .noat "Maybe" "bits", .noat "Maybe" "spare", .meth "Maybe" "how_many", .meth "Maybe" "one_form", .meth "Maybe" "bits_told", .meth "Maybe" "bits_of_nothing", .meth "Maybe" "number_told", .meth "Maybe" "value_with", .meth "Maybe" "value_at", .cls "One", .mkr "One", .noat "One" "names", .noat "One" "alternatives", .noat "One" "tag", .noat "One" "leaves", .noat "One" "flat", .noat "One" "shared", .noat "One" "carrier", .noat "One" "bits", .noat "One" "spare", .meth "One" "how_many"]
def fa5 : List He.Fa := [.meth "One" "one_form", .meth "One" "bits_told", .meth "One" "bits_beside_carrier", .meth "One" "number_told", .meth "One" "value_with", .meth "One" "value_with_tag", .meth "One" "value_at", .cls "Row", .mkr "Row", .noat "Row" "parts", .noat "Row" "leaves", .noat "Row" "flat", .noat "Row" "shared", .noat "Row" "bits", .noat "Row" "spare", .meth "Row" "how_many", .meth "Row" "bits_told", .meth "Row" "number_told", .meth "Row" "value_with", .meth "Row" "value_at", .cls "Many", .mkr "Many", .noat "Many" "parts", .noat "Many" "leaves", .noat "Many" "flat", .noat "Many" "shared", .noat "Many" "bits", .noat "Many" "spare", .noat "Many" "times", .noat "Many" "inner"]
def fa6 : List He.Fa := [.meth "Many" "how_many", .meth "Many" "bits_told", .meth "Many" "number_told", .meth "Many" "value_with", .meth "Many" "value_at", .meth "Many" "one_form", .cls "Field", .mkr "Field", .noat "Field" "name", .noat "Field" "inner", .noat "Field" "hot", .meth "Field" "line", .cls "Record", .mkr "Record", .noat "Record" "parts", .noat "Record" "leaves", .noat "Record" "flat", .noat "Record" "shared", .noat "Record" "bits", .noat "Record" "spare", .noat "Record" "name", .noat "Record" "fields", .meth "Record" "how_many", .meth "Record" "bits_told", .meth "Record" "number_told", .meth "Record" "value_with", .meth "Record" "value_at", .meth "Record" "one_form", .meth "Record" "lines", .cls "Token"]
def fa7 : List He.Fa := [.mkr "Token", .noat "Token" "kind", .noat "Token" "text", .noat "Token" "place", .cls "Reader", .mkr "Reader", .noat "Reader" "tokens", .noat "Reader" "place", .noat "Reader" "records", .meth "Reader" "look", .meth "Reader" "sees", .meth "Reader" "take", .meth "Reader" "take_name", .meth "Reader" "take_number", .cls "Holder", .mkr "Holder", .noat "Holder" "records", .meth "Holder" "answer", .meth "Holder" "load"]
def fa : List He.Fa := fa0 ++ (fa1 ++ (fa2 ++ (fa3 ++ (fa4 ++ (fa5 ++ (fa6 ++ (fa7)))))))
def fn0 : List He.DefD := [dOf ("bits_for", none) "bits_for" "bits_for" (top 6),
  dOf ("codes_to_spare", none) "codes_to_spare" "codes_to_spare" (top 8),
  dOf ("nothing_spare", none) "nothing_spare" "nothing_spare" (top 9),
  dOf ("greatest_spare", none) "greatest_spare" "greatest_spare" (top 10),
  dOf ("carrier_of", none) "carrier_of" "carrier_of" (top 15),
  dOf ("tokens_of", none) "tokens_of" "tokens_of" (top 29),
  dOf ("signs_of", none) "signs_of" "signs_of" (top 30),
  dOf ("remark_end", none) "remark_end" "remark_end" (top 31),
  dOf ("token_at", none) "token_at" "token_at" (top 32),
  dOf ("word_at", none) "word_at" "word_at" (top 33),
  dOf ("number_at", none) "number_at" "number_at" (top 34),
  dOf ("run_at", none) "run_at" "run_at" (top 35),
  dOf ("records_of", none) "records_of" "records_of" (top 49),
  dOf ("read_record", none) "read_record" "read_record" (top 50),
  dOf ("read_field", none) "read_field" "read_field" (top 51),
  dOf ("read_kind", none) "read_kind" "read_kind" (top 52),
  dOf ("read_number", none) "read_number" "read_number" (top 53),
  dOf ("read_value", none) "read_value" "read_value" (top 54),
  dOf ("read_last", none) "read_last" "read_last" (top 55),
  dOf ("read_align", none) "read_align" "read_align" (top 56)]
def fn1 : List He.DefD := [dOf ("read_one", none) "read_one" "read_one" (top 57),
  dOf ("read_named", none) "read_named" "read_named" (top 58),
  dOf ("room_for", none) "room_for" "room_for" (top 61),
  dOf ("bytes_told", none) "bytes_told" "bytes_told" (top 62),
  dOf ("number_read", none) "number_read" "number_read" (top 63),
  dOf ("answers", none) "answers" "answers" (top 78),
  dOf ("split_calls", none) "split_calls" "split_calls" (top 79),
  dOf ("answer_of_record", none) "answer_of_record" "answer_of_record" (top 81),
  dOf ("told_of_record", none) "told_of_record" "told_of_record" (top 82),
  dOf ("sizes", none) "sizes" "sizes" (top 83),
  dOf ("packed_bits", none) "packed_bits" "packed_bits" (top 84),
  dOf ("niche", none) "niche" "niche" (top 85),
  dOf ("enc", none) "enc" "enc" (top 86),
  dOf ("dec", none) "dec" "dec" (top 87),
  dOf ("pack", none) "pack" "pack" (top 88),
  dOf ("unpack", none) "unpack" "unpack" (top 89),
  dOf ("rank", none) "rank" "rank" (top 90),
  dOf ("Cursor", some "__init__") "__init__" "Cursor.__init__" (inClass (top 2) 0),
  dOf ("Cursor", some "draw") "draw" "Cursor.draw" (inClass (top 2) 1),
  dOf ("Cursor", some "end") "end" "Cursor.end" (inClass (top 2) 2)]
def fn2 : List He.DefD := [dOf ("Cursor", some "ended") "ended" "Cursor.ended" (inClass (top 2) 3),
  dOf ("Spare", some "__init__") "__init__" "Spare.__init__" (inClass (top 7) 0),
  dOf ("Spare", some "moved") "moved" "Spare.moved" (inClass (top 7) 1),
  dOf ("Spare", some "without") "without" "Spare.without" (inClass (top 7) 2),
  dOf ("Spare", some "bits_with") "bits_with" "Spare.bits_with" (inClass (top 7) 3),
  dOf ("Number", some "__init__") "__init__" "Number.__init__" (inClass (top 12) 0),
  dOf ("Number", some "how_many") "how_many" "Number.how_many" (inClass (top 12) 1),
  dOf ("Number", some "one_form") "one_form" "Number.one_form" (inClass (top 12) 2),
  dOf ("Number", some "bits_told") "bits_told" "Number.bits_told" (inClass (top 12) 3),
  dOf ("Number", some "number_told") "number_told" "Number.number_told" (inClass (top 12) 4),
  dOf ("Number", some "value_with") "value_with" "Number.value_with" (inClass (top 12) 5),
  dOf ("Number", some "value_at") "value_at" "Number.value_at" (inClass (top 12) 6),
  dOf ("Maybe", some "__init__") "__init__" "Maybe.__init__" (inClass (top 13) 0),
  dOf ("Maybe", some "how_many") "how_many" "Maybe.how_many" (inClass (top 13) 1),
  dOf ("Maybe", some "one_form") "one_form" "Maybe.one_form" (inClass (top 13) 2),
  dOf ("Maybe", some "bits_told") "bits_told" "Maybe.bits_told" (inClass (top 13) 3),
  dOf ("Maybe", some "bits_of_nothing") "bits_of_nothing" "Maybe.bits_of_nothing" (inClass (top 13) 4),
  dOf ("Maybe", some "number_told") "number_told" "Maybe.number_told" (inClass (top 13) 5),
  dOf ("Maybe", some "value_with") "value_with" "Maybe.value_with" (inClass (top 13) 6),
  dOf ("Maybe", some "value_at") "value_at" "Maybe.value_at" (inClass (top 13) 7)]
def fn3 : List He.DefD := [dOf ("One", some "__init__") "__init__" "One.__init__" (inClass (top 14) 0),
  dOf ("One", some "how_many") "how_many" "One.how_many" (inClass (top 14) 1),
  dOf ("One", some "one_form") "one_form" "One.one_form" (inClass (top 14) 2),
  dOf ("One", some "bits_told") "bits_told" "One.bits_told" (inClass (top 14) 3),
  dOf ("One", some "bits_beside_carrier") "bits_beside_carrier" "One.bits_beside_carrier" (inClass (top 14) 4),
  dOf ("One", some "number_told") "number_told" "One.number_told" (inClass (top 14) 5),
  dOf ("One", some "value_with") "value_with" "One.value_with" (inClass (top 14) 6),
  dOf ("One", some "value_with_tag") "value_with_tag" "One.value_with_tag" (inClass (top 14) 7),
  dOf ("One", some "value_at") "value_at" "One.value_at" (inClass (top 14) 8),
  dOf ("Row", some "__init__") "__init__" "Row.__init__" (inClass (top 16) 0),
  dOf ("Row", some "how_many") "how_many" "Row.how_many" (inClass (top 16) 1),
  dOf ("Row", some "bits_told") "bits_told" "Row.bits_told" (inClass (top 16) 2),
  dOf ("Row", some "number_told") "number_told" "Row.number_told" (inClass (top 16) 3),
  dOf ("Row", some "value_with") "value_with" "Row.value_with" (inClass (top 16) 4),
  dOf ("Row", some "value_at") "value_at" "Row.value_at" (inClass (top 16) 5),
  dOf ("Many", some "__init__") "__init__" "Many.__init__" (inClass (top 17) 0),
  dOf ("Many", some "one_form") "one_form" "Many.one_form" (inClass (top 17) 1),
  dOf ("Field", some "__init__") "__init__" "Field.__init__" (inClass (top 18) 0),
  dOf ("Field", some "line") "line" "Field.line" (inClass (top 18) 1),
  dOf ("Record", some "__init__") "__init__" "Record.__init__" (inClass (top 19) 0)]
def fn4 : List He.DefD := [dOf ("Record", some "one_form") "one_form" "Record.one_form" (inClass (top 19) 1),
  dOf ("Record", some "lines") "lines" "Record.lines" (inClass (top 19) 2),
  dOf ("Token", some "__init__") "__init__" "Token.__init__" (inClass (top 28) 0),
  dOf ("Reader", some "__init__") "__init__" "Reader.__init__" (inClass (top 48) 0),
  dOf ("Reader", some "look") "look" "Reader.look" (inClass (top 48) 1),
  dOf ("Reader", some "sees") "sees" "Reader.sees" (inClass (top 48) 2),
  dOf ("Reader", some "take") "take" "Reader.take" (inClass (top 48) 3),
  dOf ("Reader", some "take_name") "take_name" "Reader.take_name" (inClass (top 48) 4),
  dOf ("Reader", some "take_number") "take_number" "Reader.take_number" (inClass (top 48) 5),
  dOf ("Holder", some "__init__") "__init__" "Holder.__init__" (inClass (top 80) 0),
  dOf ("Holder", some "answer") "answer" "Holder.answer" (inClass (top 80) 1),
  dOf ("Holder", some "load") "load" "Holder.load" (inClass (top 80) 2)]
def fn : List He.DefD := fn0 ++ (fn1 ++ (fn2 ++ (fn3 ++ (fn4))))
abbrev excTail : List Value := [.type "Exception", .type "BaseException", .type "object"]
/-- an own error without __init__ -/
def plainErr (K : PySem.W.Frag) (x : Str) : Bool := PySem.W.excIn K (He.ga K x) excTail "Exception.__new__" && (PySem.W.keepIn K (.ref (He.ga K x)) && (decide (PySem.W.subIn K (.ref (He.ga K x)) (.type "BaseException") = some true) && decide (PySem.W.typeIn K (.ref (He.ga K x)) = some (.type "type"))))
/-- the error with fields: its class's object -/
def faultCls (K : PySem.W.Frag) (C : Addr) : Bool := match K.lookup C with
  | some ⟨.type "type", _, .cls cd, sl⟩ => (match cd.mro, sl.toList with
    | [.ref c, .type "Exception", .type "BaseException", .type "object"], [_, _, _, _, some (.builtin n), _] => c == C && (n == "Exception.__new__" && (!cd.hasDel && cd.hasDict))
    | _, _ => false)
  | _ => false
def faultIs (K : PySem.W.Frag) (C f : Addr) : Bool := faultCls K C && (He.eqO (PySem.W.findIn K (.ref C) "__setattr__") (some (some (.builtin "object.__setattr__"))) && (He.eqO (PySem.W.findIn K (.ref C) "__getattribute__") (some (some (.builtin "BaseException.__getattribute__")))
  && (He.eqO (PySem.W.findIn K (.ref C) "__getattr__") (some none) && (He.eqO (PySem.W.findIn K (.ref C) "code") (some none) && (He.eqO (PySem.W.findIn K (.ref C) "place") (some none) && (He.eqO (PySem.W.findIn K (.ref C) "__init__") (some (some (.ref f)))
  && (decide (PySem.W.typeIn K (.ref f) = some (.type "function")) && (PySem.W.keepIn K (.ref C) && (decide (PySem.W.subIn K (.ref C) (.type "BaseException") = some true) && (decide (PySem.W.typeIn K (.ref C) = some (.type "type")) && (PySem.W.hasDictIn K C && decide (PySem.W.exmOne K (.ref C) (.ref C) = some true))))))))))))
def clsNames : List Str := ["NoValue", "Fault", "NotSuchBytes", "Cursor", "Spare", "Number", "Maybe", "One", "Row", "Many", "Field", "Record", "Token", "Reader", "Holder"]
def apart (K : PySem.W.Frag) : List Str → Bool
  | [] => true
  | x :: r => r.all (fun y => !(He.ga K x == He.ga K y)) && apart K r
def isVal (c : Option PySem.W.CFound) (u : Value) : Bool := match c with
  | some (.val v) => decide (v = u)
  | _ => false
/-- what Many and Record have from Row -/
def inh (K : PySem.W.Frag) : Bool := [("Many" : Str), "Record"].all fun c => [("how_many" : Str), "bits_told", "number_told", "value_with", "value_at"].all fun m => He.ma K (He.ga K c) m == He.ma K (He.ga K "Row") m
def extra (K : PySem.W.Frag) : Bool := inh K && (plainErr K "NoValue" && (plainErr K "NotSuchBytes" && (faultIs K (He.ga K "Fault") (He.ma K (He.ga K "Fault") "__init__") && (apart K clsNames
  && (decide (PySem.W.exmOne K (.ref (He.ga K "NoValue")) (.ref (He.ga K "NoValue")) = some true) && (decide (PySem.W.exmOne K (.ref (He.ga K "NotSuchBytes")) (.ref (He.ga K "NotSuchBytes")) = some true) && (decide (PySem.W.exmOne K (.ref (He.ga K "NoValue")) (.ref (He.ga K "NotSuchBytes")) = some false)
  && (He.tupB K "WORDS" [.str "record", .str "from", .str "to", .str "at", .str "maybe", .str "many", .str "one", .str "hot", .str "layout", .str "size", .str "of"]
  && (He.tupB K "ALIGNS" [.int 1, .int 2, .int 4, .int 8, .int 16, .int 32] && (He.tupB K "CALLS_OF_A_RECORD" [.int 1, .int 2, .int 3, .int 4, .int 5, .int 6] && (He.tupB K "CALLS_WITH_A_ROW" [.int 0, .int 3, .int 4, .int 5, .int 6]
  && ((Fa4 K) && (isVal (PySem.W.findCls K (.type "Exception") (.type "type") "__init__") (.builtin "Exception.__init__")
  && (isVal (PySem.W.findCls K (.ref (He.ga K "Row")) (.type "type") "__init__") (.ref (He.ma K (He.ga K "Row") "__init__")) && (PySem.W.readsIn K (He.ga K "Row") (.type "type")
  && decide (PySem.W.specialIn K (.ref (He.ga K "Row")) "__getattribute__" = some (some (.builtin "type.__getattribute__"))))))))))))))))))
where Fa4 (K : PySem.W.Frag) : Bool := He.eqO (PySem.W.nsIn K mainGlobals "WORDS") (some (some (.ref (He.ga K "WORDS")))) && (He.eqO (PySem.W.nsIn K mainGlobals "ALIGNS") (some (some (.ref (He.ga K "ALIGNS")))) && (He.eqO (PySem.W.nsIn K mainGlobals "CALLS_OF_A_RECORD") (some (some (.ref (He.ga K "CALLS_OF_A_RECORD")))) && He.eqO (PySem.W.nsIn K mainGlobals "CALLS_WITH_A_ROW") (some (some (.ref (He.ga K "CALLS_WITH_A_ROW"))))))
/-- the def of the error: its object, told as a whole -/
def dFault : He.DefD := dOf ("Fault", some "__init__") "__init__" "Fault.__init__" (inClass (top 4) 0)
def fnA : List He.DefD := dFault :: fn
def Says (K : PySem.W.Frag) : Prop := He.SaysD fa fnA K ∧ extra K = true
/-- where the written part's namespaces, classes, functions and codes stand -/
def ad0 : List Addr := [3, 2, 24, 65, 86, 134, 218, 288, 359, 418, 444, 470, 501, 521, 625, 703, 770, 23, 64, 85, 133, 217, 287, 358, 417, 443, 469, 500, 520, 624]
def ad1 : List Addr := [702, 769, 504, 573, 726, 727, 41, 48, 55, 62, 83, 96, 110, 117, 124, 131, 145, 152, 159, 173, 180, 187, 194, 201, 208, 215, 236, 243, 250, 257]
def ad2 : List Addr := [264, 271, 278, 285, 304, 309, 316, 323, 330, 335, 342, 349, 356, 368, 380, 387, 394, 401, 408, 415, 434, 441, 460, 467, 486, 493, 498, 518, 532, 537]
def ad3 : List Addr := [544, 551, 558, 565, 572, 587, 594, 601, 608, 615, 622, 634, 639, 644, 651, 658, 665, 672, 679, 686, 693, 713, 718, 725, 734, 741, 755, 762, 767, 781]
def ad4 : List Addr := [788, 795, 802, 809, 816, 823, 830, 837, 844, 25, 40, 47, 54, 61, 66, 67, 82, 87, 95, 109, 116, 123, 130, 135, 136, 144, 151, 158, 172, 179]
def ad5 : List Addr := [186, 193, 200, 207, 214, 219, 220, 235, 242, 249, 256, 263, 270, 277, 284, 289, 290, 303, 308, 315, 322, 329, 334, 341, 348, 355, 360, 361, 367, 379]
def ad6 : List Addr := [386, 393, 400, 407, 414, 419, 420, 433, 440, 459, 466, 471, 472, 485, 492, 497, 517, 522, 523, 531, 536, 543, 550, 557, 564, 571, 586, 593, 600, 607]
def ad7 : List Addr := [614, 621, 626, 627, 633, 638, 643, 650, 657, 664, 671, 678, 685, 692, 704, 712, 717, 724, 733, 740, 754, 761, 766, 771, 772, 780, 787, 794, 801, 808]
def ad8 : List Addr := [815, 822, 829, 836, 843]
def ads : List Addr := ad0 ++ (ad1 ++ (ad2 ++ (ad3 ++ (ad4 ++ (ad5 ++ (ad6 ++ (ad7 ++ (ad8))))))))
def frag (g : Addr → Option Obj) : PySem.W.Frag := He.frG g ads
def hk : PySem.W.Hook where
  α := He.AlD × Bool
  obs := fun s => (He.obsD fa fnA (frag s.heap.get?), extra (frag s.heap.get?))
  val := fun _ => (He.valD fnA, true)
  says := fun _ h => ∃ K : PySem.W.Frag, K.In h ∧ Says K
  of := fun _ s e => ⟨_, He.frG_in, congrArg (fun z : He.AlD × Bool => z.1) e, congrArg (fun z : He.AlD × Bool => z.2) e⟩
  keeps := fun _ _ _ ⟨K, hK, c⟩ k => ⟨K, PySem.W.Frag.In.keeps hK k, c⟩
def ob (s : PySem.W.SharedT) : He.AlD × Bool := (He.obsD fa fnA (frag (HandSHeadRun.getT s)), extra (frag (HandSHeadRun.getT s)))
theorem ob_eq (s : PySem.W.SharedT) : ob s = hk.obs s.abs := by
  have e : HandSHeadRun.getT s = s.abs.heap.get? := funext (HandSHeadRun.getT_eq s)
  unfold ob
  rw [e]
  rfl
abbrev R : PySem.W.OpenSpec := PySem.Challenge.rw_layouts_s01_answers
abbrev qv : Program := PySem.W.view R.prog [78]
def loose0 : List Str := ["NoValue", "Cursor", "Fault", "bits_for", "Spare", "codes_to_spare", "nothing_spare", "greatest_spare", "Number", "Maybe", "One", "carrier_of", "Row", "Many", "Field", "Record", "WORDS", "LETTERS", "DIGITS", "SIGNS"]
def loose1 : List Str := ["LONGEST_NAME", "GREATEST_NUMBER", "MOST_DIGITS", "Token", "tokens_of", "signs_of", "remark_end", "token_at", "word_at", "number_at", "run_at", "LONGEST_TEXT", "LONGEST_ONE_FORM", "MOST_RECORDS", "MOST_LEAVES", "MOST_DEEP", "FEWEST_ALTERNATIVES", "MOST_ALTERNATIVES", "MOST_TIMES", "HOTTEST"]
def loose2 : List Str := ["GREATEST_VALUE", "ALIGNS", "Reader", "records_of", "read_record", "read_field", "read_kind", "read_number", "read_value", "read_last", "read_align", "read_one", "read_named", "NotSuchBytes", "room_for", "bytes_told", "number_read", "LOAD", "SIZES", "NICHE"]
def loose3 : List Str := ["ENC", "DEC", "PACK", "RANK", "CALLS_OF_A_RECORD", "CALLS_WITH_A_ROW", "NO_RECORDS", "NO_SUCH_RECORD", "NO_SUCH_VALUE", "NO_SUCH_BYTES", "split_calls", "Holder", "answer_of_record", "told_of_record", "sizes", "packed_bits", "niche", "enc", "dec", "pack"]
def loose4 : List Str := ["unpack", "rank"]
def loose : List Str := loose0 ++ (loose1 ++ (loose2 ++ (loose3 ++ (loose4))))
/-- the top's run, looked at off the tree -/
def RunEqS (M : Nat) (w : World) : Prop :=
  ∀ os : OsState, (HandSHeadRun.endF (HandSHeadRun.stepQ (HandSHeadRun.denQ HandSHeadRun.tabQ) R.prog w) M R.prog w os).map (fun s => (HandSHeadRun.looksF R.prog (PySem.W.boot_heap w.params) s.abs, HandSHeadRun.seenQ qv loose (importedModules R.prog.main.body) (fun s => PySem.W.xlAt qv [] s && PySem.W.recOk [] s) s.abs, ob s)) = some (true, PySem.W.openGood qv loose, hk.val w)
theorem run (w : World) : RunEqS 8000 w := by
  intro os
  kernel_rfl
end LY
set_option Elab.async false
set_option linter.all false
set_option maxRecDepth 100000
set_option maxHeartbeats 4000000
namespace LY
open PySem PySem.Spec PyProof.Rows L2
open PySem.W (OpenSpec Codec WData)
/-- the goal behind the head, from the promise of the asked def, the written part told by Says alone -/
theorem walkE {k : Nat} {q : Program} {ls : List Str} {XP : (Str → Option Value) → Heap → Prop} {d : DefRec} {ps : List Str} {sp : PySem.W.Frag → Sp}
    (hwell : R.wellSaid = true) (hlen : R.args.length = ps.length) (room : Room k callerA)
    (fns : ∀ (w : World) (K : PySem.W.Frag) (mg : Str → Option Value) (fa : Addr) (h : Heap), K.In h → Says K → h.Ns mainGlobals mg → mg d.name = some (.ref fa) →
      ∃ fd : FuncData, (∀ (s : Shared) (us : List Value), us.length = ps.length → BindsTo s fd ⟨us, []⟩ (ps.zip us)) ∧ ∀ base : Heap, K.In base → base.Ns mainGlobals mg → FnOk R.prog w K mg base CX0 k fa fd ps (sp K))
    (prom : ∀ (K : PySem.W.Frag) (H : Hp) (xs : List V) (a : Codec.denoteAll R.args), OnlyF H → Codec.withinAll R.args a = true → Codec.app R.args R.asked a = true → DwAll K H xs (Codec.encAll R.args a) →
      sp K xs H (fun v H' => Dw K H' v (R.ret.enc (Codec.app R.args R.f a))) fun _ _ _ => False) :
    PySem.W.WalkOS q ls XP hk.says R d [] (fun f vs => PySem.call f vs) := by
  intro w s₀ s₁ mg mb G Y fa o pm cd doc dV kV ho hd hcd hD hmg hg args vals as hpre hlay hrd hwl hlo
  obtain ⟨a, at1, at2⟩ := PySem.W.os_pre_some hpre
  obtain ⟨at3, within⟩ := Codec.encAll_of_decAll R.args args a at1
  subst at3
  obtain ⟨K, KX, c⟩ := Y
  obtain ⟨fd, bnd, ok⟩ := fns w K mg fa _ KX c G.T.g hmg
  have hl : (Codec.encAll R.args a).length = ps.length := (encAll_len R.args a).trans hlen
  have call := spec_call (R := []) (cl := classAt s₀.heap) (d0 := R.ret.enc (Codec.app R.args R.f a)) KX G.T.g G.T.b G.T.builtins G.T.nolimit hg hwl (pl_encAll _ _) (layable_weight hlay) room ok bnd hl
    (fun H xs hO hS => prom K H xs a hO within at2 hS) (fun H e s' z => z)
  refine PySem.W.enter_call (codeAny_mono call fun r' s' back => ?_)
  obtain ⟨u, bs, rfl, z1, z2, z3, z4⟩ := back
  exact ⟨.inl ⟨u, _, bs, rfl, fun _ => rfl, z1, (OpenSpec.post_iff hwell within _ _).mpr rfl, fun z => Bool.noConfusion (show false = true from z)⟩, z2, z3, z4⟩
def spAns (K : PySem.W.Frag) : Sp := fun vs H Q _ => ∃ (a : Addr) (ns : List Int), vs = [.ref a] ∧ SqL K H a (ns.map V.int) ∧ ns.length ≤ sizeLine ∧ PyValaye.answers_asked ns = true ∧
  ∀ (H' : Hp) (p : Addr), SqL K H' p ((PyValaye.answers ns).map V.int) → Q (.ref p) H'
theorem left : PySem.W.LeftO R.prog qv loose (fun s => PySem.W.xlAt qv [] s && PySem.W.recOk [] s) hk.obs hk.val (8000 + 600) true :=
  HandSHeadRun.left_one (M := 8000) (by kernel_rfl) (Nat.ble_eq_true_of_le (by omega)) (fun s => by kernel_rfl) (Nat.ble_eq_true_of_le (by omega)) fun w os => by
    have z := run w os
    have eo : ob = fun s => hk.obs s.abs := funext ob_eq
    rw [eo] at z
    simp only [HandSHeadRun.endQ_eq, HandSHeadRun.seenQ_eq]
    exact z
theorem topDef_name : (HandSHeadRun.topDef R.prog 78).name = ("answers" : Str) := by kernel_rfl
/-- the whole statement, from the asked def's promise -/
theorem holds_of (main : ∀ (w : World) (K : PySem.W.Frag) (mg : Str → Option Value) (fa : Addr) (h : Heap), K.In h → Says K → h.Ns mainGlobals mg → mg "answers" = some (.ref fa) →
      ∃ fd : FuncData, (∀ (s : Shared) (us : List Value), us.length = (["calls"] : List Str).length → BindsTo s fd ⟨us, []⟩ ((["calls"] : List Str).zip us)) ∧ ∀ base : Heap, K.In base → base.Ns mainGlobals mg → FnOk R.prog w K mg base CX0 200 fa fd ["calls"] (spAns K)) :
    R.Holds := by
  refine PySem.W.holds_os (r := R) (q := qv) (loose := loose) (XP := PySem.W.XL qv []) (YP := hk.says) (d := HandSHeadRun.topDef R.prog 78) (kwd := []) left hk.of hk.keeps (fun s z => PySem.W.xl_of s (Bool.and_eq_true_iff.mp z).1) PySem.W.XL.keeps
    (by kernel_rfl) (by kernel_rfl) (by kernel_rfl) (fun s z => PySem.W.recFacts_of (Bool.and_eq_true_iff.mp z).2) PySem.W.os_shapes (by decide +kernel) (by decide +kernel) ⟨rfl, rfl, rfl, rfl, rfl, by decide +kernel⟩ ⟨[.list [.int 7]], by decide +kernel, by decide +kernel⟩ ?_
  refine walkE (k := 200) (ps := ["calls"]) (sp := spAns) (by decide +kernel) rfl ⟨rfl, by decide, by decide⟩ (fun w K mg fa h KX c G hmg => main w K mg fa h KX c G (by rw [← topDef_name]; exact hmg)) ?_
  intro K H xs a hO hwi hask hx
  cases hx with
  | cons h1 h2 =>
    cases h2
    cases h1 with
    | lst hs ha =>
      have e := L2.ints_dw a.1 _ ha
      subst e
      have few : (a.1 : List Int).length ≤ 16900 := by
        have h1 : (Codec.within (.list 0 16900 (.int (-1000000000000000000) 1000000000000000000)) a.1 && true) = true := hwi
        simp only [Codec.within, Codec.inList, Codec.inLen, Codec.inNat, Bool.and_true, Bool.and_eq_true, decide_eq_true_eq] at h1
        exact h1.1.2
      exact ⟨_, a.1, rfl, hs, Nat.le_trans few (by decide), hask, fun H' p hp => .lst hp (L2.dw_ints _)⟩
end LY
set_option Elab.async false
set_option linter.all false
set_option maxRecDepth 100000
set_option maxHeartbeats 4000000
namespace LY
open PySem PySem.Spec PyProof.Rows L2
/-! ### calls whose promise the reading tells -/
section
variable (P : Program) (w : World) (K : PySem.W.Frag) (mg : Str → Option Value) (base : Heap) (CX : CXT)
/-- the name x stands for a def that keeps sp, within n rooms -/
def COk (n : Nat) (x : Str) (sp : Sp) : Prop := ∃ (f : Addr) (fd : FuncData) (ps : List Str) (k : Nat), k ≤ n ∧ mg x = some (.ref f) ∧ PySem.W.keepIn K (.ref f) = true ∧ FnOk P w K mg base CX k f fd ps sp ∧ Binds K fd ps []
/-- the method m of the class at C keeps sp -/
def MOk (n : Nat) (C : Addr) (m : Str) (sp : Sp) : Prop := ∃ (f : Addr) (fd : FuncData) (ps : List Str) (k : Nat), k ≤ n ∧ Cls K C ∧ Meth K C m f ∧ FnOk P w K mg base CX k f fd ps sp ∧ Binds K fd ps []
/-- the class x, at C, makes instances; sp: its __init__ -/
def KOk (n : Nat) (x : Str) (C : Addr) (sp : Sp) : Prop := ∃ (f : Addr) (fd : FuncData) (ps : List Str) (k : Nat), k + 1 ≤ n ∧ mg x = some (.ref C) ∧ Mk K C f ∧ FnOk P w K mg base CX0 k f fd ps sp ∧ Binds K fd ps []
/-- C.m, read off the class, is a def that keeps sp -/
def BOk (n : Nat) (x m : Str) (sp : Sp) : Prop := ∃ (C f : Addr) (fd : FuncData) (ps : List Str) (k : Nat), k ≤ n ∧ mg x = some (.ref C) ∧ ClX.CRead K C (.type "type") ∧ PySem.W.findCls K (.ref C) (.type "type") m = some (.val (.ref f)) ∧ PySem.W.keepIn K (.ref f) = true ∧ FnOk P w K mg base CX0 k f fd ps sp ∧ Binds K fd ps []
end
theorem COk.mono {P : Program} {w : World} {K : PySem.W.Frag} {mg : Str → Option Value} {base : Heap} {CX : CXT} {n n' : Nat} {x : Str} {sp : Sp} (c : COk P w K mg base CX n x sp) (h : n ≤ n') : COk P w K mg base CX n' x sp := by
  obtain ⟨f, fd, ps, k, h1, r⟩ := c
  exact ⟨f, fd, ps, k, Nat.le_trans h1 h, r⟩
theorem MOk.mono {P : Program} {w : World} {K : PySem.W.Frag} {mg : Str → Option Value} {base : Heap} {CX : CXT} {n n' : Nat} {C : Addr} {x : Str} {sp : Sp} (c : MOk P w K mg base CX n C x sp) (h : n ≤ n') : MOk P w K mg base CX n' C x sp := by
  obtain ⟨f, fd, ps, k, h1, r⟩ := c
  exact ⟨f, fd, ps, k, Nat.le_trans h1 h, r⟩
theorem KOk.mono {P : Program} {w : World} {K : PySem.W.Frag} {mg : Str → Option Value} {base : Heap} {n n' : Nat} {C : Addr} {x : Str} {sp : Sp} (c : KOk P w K mg base n x C sp) (h : n ≤ n') : KOk P w K mg base n' x C sp := by
  obtain ⟨f, fd, ps, k, h1, r⟩ := c
  exact ⟨f, fd, ps, k, Nat.le_trans h1 h, r⟩
def tCx (P : Program) (w : World) (K : PySem.W.Frag) (mg : Str → Option Value) (base : Heap) (CX : CXT) (n : Nat) (x : Str) (E : L2.St → XK) (t : TA) : TE := fun σ H Q => ∃ sp, COk P w K mg base CX n x sp ∧ t σ H fun vs H1 => sp vs H1 Q (E σ)
def tMx (P : Program) (w : World) (K : PySem.W.Frag) (mg : Str → Option Value) (base : Heap) (CX : CXT) (n : Nat) (m : Str) (E : L2.St → XK) (ta : TE) (t : TA) : TE := fun σ H Q => ta σ H fun x H1 => ∃ a C dx fs sp, x = .ref a ∧ H1 a = some (.ins C dx fs) ∧ fs.lookup m = none ∧ MOk P w K mg base CX n C m sp ∧
  t σ H1 fun vs H2 => sp (x :: vs) H2 Q (E σ)
def tKx (P : Program) (w : World) (K : PySem.W.Frag) (mg : Str → Option Value) (base : Heap) (n : Nat) (x : Str) (t : TA) : TE := fun σ H Q => ∃ C sp, KOk P w K mg base n x C sp ∧ t σ H fun vs H1 => ∀ a dx, H1 a = none → H1 dx = none → dx ≠ a →
  sp (.ref a :: vs) (upd (upd H1 dx (.own a)) a (.ins C dx [])) (fun v H2 => v = .non ∧ Q (.ref a) H2) E0
def tBx (P : Program) (w : World) (K : PySem.W.Frag) (mg : Str → Option Value) (base : Heap) (n : Nat) (x m : Str) (t : TA) : TE := fun σ H Q => ∃ sp, BOk P w K mg base n x m sp ∧ t σ H fun vs H1 => sp vs H1 Q E0
/-- a module's name that holds a plain value -/
def tGn (mg : Str → Option Value) (x : Str) : TE := fun _ H Q => ∃ v, (∃ u, mg x = some u ∧ RelV v u) ∧ Q v H
section
variable {X : Cx} {CX : CXT} {n : Nat} {x m : Str} {E : L2.St → XK} {p pos apos : Pos} {e o : Expr} {es : List Expr} {ta : TE} {t : TA}
theorem pas0 (σ : L2.St) : PassesAt CX0 X σ E0 := fun _ _ _ _ _ _ h => h.elim
theorem pe_gn (hg : Gl X x) (hd : (x == ("__debug__" : Str)) = false := by decide) : PE X (.Name x pos) (tGn X.mg x) :=
  ⟨fun pins s σ H Q I ⟨v, ⟨u, hm, r⟩, q⟩ => (pe_glob hg hm r hd).run pins s σ H Q I q⟩
theorem pe_cx (hr : Room n X.A) (hx : ∀ σ, PassesAt CX X σ (E σ)) (ha : PA X (e :: es) t) (hg : Gl X x := by rfl) (hdb : (x == ("__debug__" : Str)) = false := by decide) (he : starEach (e :: es) X.env = (false, eval e X.env) :: starEach es X.env := by rfl)
    (hpl : (backTo pos (starEach es X.env)).any (·.1) = false := by rfl) : PE X (.Call (.Name x p) (e :: es) [] pos) (tCx X.prog X.w X.K X.mg X.base CX n x E t) :=
  ⟨fun pins s σ H Q I ⟨sp, ⟨f, fd, ps, k, hk, hm, kp, F, b⟩, q⟩ => (pe_callS F (hr.mono hk) hg hm kp b hx ha hdb he hpl).run pins s σ H Q I q⟩
theorem pe_cx0 (hr : Room n X.A) (hx : ∀ σ, PassesAt CX X σ (E σ)) (hg : Gl X x := by rfl) (hdb : (x == ("__debug__" : Str)) = false := by decide) : PE X (.Call (.Name x p) [] [] pos) (tCx X.prog X.w X.K X.mg X.base CX n x E tNil) := by
  refine ⟨fun pins s σ H Q I ⟨sp, ⟨f, fd, ps, k, hk, hm, kp, F, b⟩, q⟩ => ?_⟩
  refine wpAny_Call_Name_kw (ld_glob I hg hm ?_ hdb)
  exact PySem.W.callWith_K0 I.kIn kp (run_fnS (us := []) F (hr.mono hk) b (hx σ) I .nil q)
/-- o.m(e, ..) whatever o's class is -/
theorem pe_mx {pl : Sem Bool} (hr : Room n X.A) (hx : ∀ σ, PassesAt CX X σ (E σ)) (he : PE X o ta) (ha : PA X (e :: es) t)
    (hst : starEach (e :: es) X.env = (false, eval e X.env) :: starEach es X.env := by rfl) (hpl : (backTo pos (starEach es X.env)).any (·.1) = false := by rfl)
    (ht : eval (.Call (.Attribute o m apos) (e :: es) [] pos) X.env = (do
      let ov ← eval o X.env
      standAt apos.atName
      let (f, first) ← holding [ov] (getMethod ov m pl)
      callWith pos f first (backTo pos (starEach (e :: es) X.env)) (backToKw pos (keywordEach [] X.env))) := by rfl) :
    PE X (.Call (.Attribute o m apos) (e :: es) [] pos) (tMx X.prog X.w X.K X.mg X.base CX n m E ta t) := by
  refine ⟨fun pins s σ H Q I h => ?_⟩
  refine PySem.W.methodCall_KW (pl := pl) (thn (he.run pins s σ H _ I h) fun u s1 ⟨x, H1, I1, rx, a, C, dx, fs, sp, ex, ea, l, ⟨f, fd, ps, k, hk, c, hm, F, b⟩, q⟩ => ?_) ht
  subst ex
  obtain rfl : u = Value.ref a := rx
  refine getmeth_ok I1 ea c hm l ?_
  refine PySem.W.callWith_K (first := [.ref a]) (h₀ := X.base) I.ok.mod.kin hm.kp (thn (ha.run pos pins s1 σ H1 _ I1 q) fun us s2 ⟨vs, H2, I2, r, q2⟩ => ⟨I2.kIn, ?_⟩) hst hpl
  exact run_fnS (us := .ref a :: us) (vs := .ref a :: vs) F (hr.mono hk) b (hx σ) I2 (.cons rfl r) q2
theorem pe_mx0 {pl : Sem Bool} (hr : Room n X.A) (hx : ∀ σ, PassesAt CX X σ (E σ)) (he : PE X o ta)
    (ht : eval (.Call (.Attribute o m apos) [] [] pos) X.env = (do
      let ov ← eval o X.env
      standAt apos.atName
      let (f, first) ← holding [ov] (getMethod ov m pl)
      callWith pos f first (backTo pos (starEach [] X.env)) (backToKw pos (keywordEach [] X.env))) := by rfl) :
    PE X (.Call (.Attribute o m apos) [] [] pos) (tMx X.prog X.w X.K X.mg X.base CX n m E ta tNil) := by
  refine ⟨fun pins s σ H Q I h => ?_⟩
  refine PySem.W.methodCall_KW (pl := pl) (thn (he.run pins s σ H _ I h) fun u s1 ⟨x, H1, I1, rx, a, C, dx, fs, sp, ex, ea, l, ⟨f, fd, ps, k, hk, c, hm, F, b⟩, q⟩ => ?_) ht
  subst ex
  obtain rfl : u = Value.ref a := rx
  refine getmeth_ok I1 ea c hm l ?_
  exact PySem.W.callWith_K0 (first := [.ref a]) I1.kIn hm.kp (run_fnS (us := [.ref a]) (vs := [.ref a]) F (hr.mono hk) b (hx σ) I1 (.cons rfl .nil) q)
/-- C(e, ..) -/
theorem pe_kx (hr : Room n X.A) (ha : PA X (e :: es) t) (hg : Gl X x := by rfl) (hdb : (x == ("__debug__" : Str)) = false := by decide) (he : starEach (e :: es) X.env = (false, eval e X.env) :: starEach es X.env := by rfl)
    (hpl : (backTo pos (starEach es X.env)).any (·.1) = false := by rfl) : PE X (.Call (.Name x p) (e :: es) [] pos) (tKx X.prog X.w X.K X.mg X.base n x t) :=
  ⟨fun pins s σ H Q I ⟨C, sp, ⟨f, fd, ps, k, hk, hm, M, F, b⟩, q⟩ => (pe_make M F (hr.mono hk) hg hm b .nil pass0 ha hdb he hpl).run pins s σ H Q I (by
    unfold tMake
    simp only [List.append_nil]
    exact q)⟩
theorem pe_kx0 (hr : Room n X.A) (hg : Gl X x := by rfl) (hdb : (x == ("__debug__" : Str)) = false := by decide) : PE X (.Call (.Name x p) [] [] pos) (tKx X.prog X.w X.K X.mg X.base n x tNil) :=
  ⟨fun pins s σ H Q I ⟨C, sp, ⟨f, fd, ps, k, hk, hm, M, F, b⟩, q⟩ => (pe_make0 M F (hr.mono hk) hg hm b .nil pass0 hdb).run pins s σ H Q I q⟩
/-- C.m(self, e, ..), a def read off its class -/
theorem pe_bx {pl : Sem Bool} (hr : Room n X.A) (ha : PA X (e :: es) t) (hg : Gl X x := by rfl) (hdb : (x == ("__debug__" : Str)) = false := by decide)
    (hst : starEach (e :: es) X.env = (false, eval e X.env) :: starEach es X.env := by rfl) (hpl : (backTo pos (starEach es X.env)).any (·.1) = false := by rfl)
    (ht : eval (.Call (.Attribute (.Name x p) m apos) (e :: es) [] pos) X.env = (do
      let ov ← eval (.Name x p) X.env
      standAt apos.atName
      let (f, first) ← holding [ov] (getMethod ov m pl)
      callWith pos f first (backTo pos (starEach (e :: es) X.env)) (backToKw pos (keywordEach [] X.env))) := by rfl) :
    PE X (.Call (.Attribute (.Name x p) m apos) (e :: es) [] pos) (tBx X.prog X.w X.K X.mg X.base n x m t) := by
  refine ⟨fun pins s σ H Q I ⟨sp, ⟨C, f, fd, ps, k, hk, hm, rd, fc, kp, F, b⟩, q⟩ => ?_⟩
  refine PySem.W.methodCall_KW (pl := pl) (ld_glob I hg hm ?_ hdb) ht
  refine PySem.W.method_cls (I.tok _).kIn rd.ga (ClX.getcval_ok (v := .ref f) (I.tok _) rd ⟨fc, rfl⟩ fun s' I' => ?_)
  refine PySem.W.callWith_K (first := []) (h₀ := X.base) I.ok.mod.kin kp (thn (ha.run pos pins s' σ H _ I' q) fun us s2 ⟨vs, H2, I2, r, q2⟩ => ⟨I2.kIn, ?_⟩) hst hpl
  exact run_fnS (E := fun _ => E0) (us := us) (vs := vs) F (hr.mono hk) b (pas0 σ) I2 r q2
end
end LY
set_option Elab.async false
set_option linter.all false
set_option maxRecDepth 100000
set_option maxHeartbeats 4000000
/-! An own error over Exception with fields: its __init__ says Exception.__init__(self), then sets them. -/
namespace LYX
open PySem PySem.W PySem.Calls PyProof.Rows PySem.HandSPX
abbrev exTail : List Value := [.type "Exception", .type "BaseException", .type "object"]
section
open Builtin Builtin.ObjectAttr
variable {prog : Program} {w : World} {A : Around} {E : Value → Shared → Prop} {R : Result → Shared → Prop} {hp : Heap} {g : Array GenState} {d : Drawn} {t : Nat} {os : OsState}
theorem passTail (self : Value) (C : Addr) : refuseLoop self "__setattr__" (.ref C :: exTail) = pure () := by
  rw [refuseLoop_ref]
  exact F.store_Exception.passes self
theorem osaNew {K : W.Frag} {name : Str} {tk : Tok} {v : Value} {x C : Addr} {fv : Array Value} {cd : ClassData}
    (X : K.In hp) (at_x : hp.get? x = some { cls := .ref C, data := .fields fv }) (isC : W.clsIn K C = some cd) (mr : cd.mro = .ref C :: exTail) (hasD : cd.hasDict = true) (no : W.findIn K (.ref C) name = some none)
    (fin : ∀ h' tk' dx, (∀ b o, b ≠ x → hp.get? b = some o → h'.get? b = some o) → hp.objs.size ≤ dx → dx ≠ x → h'.get? x = some { cls := .ref C, dict := some dx, data := .fields fv } →
      h'.Ns1 dx (fun y => if y = name then some v else none) → R (.ok (.ret .none)) ⟨h', g, d, tk', os⟩) :
    codeAny (model prog w) A (.call (.builtin "object.__setattr__") ⟨[.ref x, .str name tk, v], []⟩) R ⟨hp, g, d, t, os⟩ := by
  have inst : W.InstAt hp x { cls := .ref C, data := .fields fv } C none := ⟨at_x, rfl, rfl, trivial⟩
  have so := F.store_object
  have far : x ≠ hp.objs.size := Nat.ne_of_lt (Heap.lt_size at_x)
  have isObj : W.Looks (model prog w) hp (isInstance (.ref x) (.type "object")) true :=
    inst.type.andThen (W.looks_mroIn X (by unfold W.mroIn; rw [isC, Option.bind_some, mr]; first | rfl | decide +kernel))
  refine codeAny_call_builtin so.slot.plain so.entry (@W.check_slot (model prog w) _ _ ⟨hp, g, d, t, os⟩ "object.__setattr__" "object" "__setattr__" (.ref x) [.str name tk, v] [] _ so.kind so.split isObj (so.args (.ref x) (.str name tk) v) ?_)
  have lookM : W.Looks (model prog w) hp (mroOf (.ref C)) cd.mro := (W.looks_clsIn X isC).andThen .now
  have lookT : W.Looks (model prog w) hp (storeTaker? none) none := .now
  have lookC : W.Looks (model prog w) hp (classData C) cd := W.looks_clsIn X isC
  rw [W.osa_eq, refuse_eq]
  refine wpAny_bind (wpAny_bind (inst.type.at (wpAny_bind (lookM.at ?_))))
  rw [mr, passTail]
  refine wpAny_pure (wpAny_bind (inst.type.at (wpAny_bind ((W.looks_findIn X no).at (wpAny_bind (lookT.at ?_))))))
  show wpAny _ _ (storeInOwnDict (.ref x) (.ref C) (.str name tk) name v false) _ _ _
  obtain ⟨nm, bs, mro, ns, qn, hd, sn, sb, ab, col, del⟩ := cd
  dsimp only at hasD
  subst hasD
  unfold storeInOwnDict ownDictForStores
  repeat (first | with_reducible refine store_in_new ?_ ?_ | with_reducible refine wpAny_loadPart_at at_x ?_ | with_reducible refine lookC.at ?_ | wp_step)
  · exact ⟨_, #[], _, (Heap.get?_update_ne _ _ _ _ far.symm).trans (Heap.get?_push_at rfl rfl), rfl, fun e he => absurd he (by simp), fun _ => rfl⟩
  · intro h' tk' nsd same
    have at1 : (hp.push { cls := .type "dict", data := .dict #[] }).get? x = some { cls := .ref C, data := .fields fv } := Heap.get?_push_of_some _ at_x
    refine fin h' tk' hp.objs.size (fun b o hb ho => ?_) (Nat.le_refl _) far.symm ?_ nsd
    · exact (same.2 b (Nat.ne_of_lt (Heap.lt_size ho))).trans ((Heap.get?_update_ne _ _ _ _ hb).trans (Heap.get?_push_of_some _ ho))
    · exact (same.2 x far).trans (Heap.get?_update_self _ at1 rfl)
theorem osaOld {K : W.Frag} {name : Str} {tk : Tok} {v : Value} {x C dx : Addr} {fv : Array Value} {cd : ClassData} {m0 : Str → Option Value} {nl : List Str}
    (X : K.In hp) (at_x : hp.get? x = some { cls := .ref C, dict := some dx, data := .fields fv }) (ns0 : hp.Ns1 dx m0) (wi : Within m0 nl) (few : nl.length ≤ 1000) (isC : W.clsIn K C = some cd) (mr : cd.mro = .ref C :: exTail) (hasD : cd.hasDict = true)
    (no : W.findIn K (.ref C) name = some none)
    (fin : ∀ h' tk', (∀ b o, b ≠ dx → hp.get? b = some o → h'.get? b = some o) → h'.Ns1 dx (fun y => if y = name then some v else m0 y) → R (.ok (.ret .none)) ⟨h', g, d, tk', os⟩) :
    codeAny (model prog w) A (.call (.builtin "object.__setattr__") ⟨[.ref x, .str name tk, v], []⟩) R ⟨hp, g, d, t, os⟩ := by
  obtain ⟨oD, esD, epD, dAt, dD, _⟩ := ns0.count wi
  have inst : W.InstAt hp x { cls := .ref C, dict := some dx, data := .fields fv } C (some oD) := ⟨at_x, rfl, rfl, dAt⟩
  have so := F.store_object
  have isObj : W.Looks (model prog w) hp (isInstance (.ref x) (.type "object")) true :=
    inst.type.andThen (W.looks_mroIn X (by unfold W.mroIn; rw [isC, Option.bind_some, mr]; first | rfl | decide +kernel))
  refine codeAny_call_builtin so.slot.plain so.entry (@W.check_slot (model prog w) _ _ ⟨hp, g, d, t, os⟩ "object.__setattr__" "object" "__setattr__" (.ref x) [.str name tk, v] [] _ so.kind so.split isObj (so.args (.ref x) (.str name tk) v) ?_)
  have lookM : W.Looks (model prog w) hp (mroOf (.ref C)) cd.mro := (W.looks_clsIn X isC).andThen .now
  have lookT : W.Looks (model prog w) hp (storeTaker? none) none := .now
  have lookC : W.Looks (model prog w) hp (classData C) cd := W.looks_clsIn X isC
  rw [W.osa_eq, refuse_eq]
  refine wpAny_bind (wpAny_bind (inst.type.at (wpAny_bind (lookM.at ?_))))
  rw [mr, passTail]
  refine wpAny_pure (wpAny_bind (inst.type.at (wpAny_bind ((W.looks_findIn X no).at (wpAny_bind (lookT.at ?_))))))
  show wpAny _ _ (storeInOwnDict (.ref x) (.ref C) (.str name tk) name v false) _ _ _
  obtain ⟨nm, bs, mro, ns, qn, hd, sn, sb, ab, col, del⟩ := cd
  dsimp only at hasD
  subst hasD
  unfold storeInOwnDict ownDictForStores
  repeat (first | with_reducible refine PySem.OEX.store_in_old ns0 wi few ?_ | with_reducible refine wpAny_loadPart_at at_x ?_ | with_reducible refine lookC.at ?_ | wp_step)
  intro h' tk' nsd same
  exact fin h' tk' (fun b o hb ho => (same.2 b hb).trans ho) nsd
end
theorem typEx : typeOf (.type "Exception") = pure (.type "type") := by kernel_rfl
end LYX
namespace LY
open PySem PySem.Spec PyProof.Rows L2
open LYX (exTail)
/-- what the written part says of the error's class -/
structure FltC (K : PySem.W.Frag) (C : Addr) : Prop where
  cls : ∃ nm q N bs sn sub ab col dd k0 k1 k2 k3 k5, K.lookup C = some (excClassObj nm q C N bs exTail true sn sub ab col dd k0 k1 k2 k3 k5 "Exception.__new__")
  sa : PySem.W.findIn K (.ref C) "__setattr__" = some (some (.builtin "object.__setattr__"))
  exC : PySem.W.subIn K (.ref C) (.type "BaseException") = some true
  tyC : PySem.W.typeIn K (.ref C) = some (.type "type")
  kC : PySem.W.keepIn K (.ref C) = true
section
variable {X : Cx} {pins : List (Addr × Obj)} {σ : L2.St} {H : Hp} {s : Shared} {a C dx : Addr} {f : Str} {y : V} {u : Value} {fs : List (Str × V)} {Q : Unit → Shared → Prop} {E : Value → Shared → Prop} {A : Around}
theorem FltC.data (T : FltC X.K C) : ∃ cd, PySem.W.clsIn X.K C = some cd ∧ cd.mro = .ref C :: exTail ∧ cd.hasDict = true := by
  obtain ⟨nm, q, N, bs, sn, sub, ab, col, dd, k0, k1, k2, k3, k5, hC⟩ := T.cls
  exact ⟨{ name := nm, bases := bs, mro := .ref C :: exTail, ns := N, qualname := q, hasDict := true, slotNames := sn, subclasses := sub, abstract := ab, collection := col, hasDel := false }, by unfold PySem.W.clsIn; rw [hC] <;> rfl, rfl, rfl⟩
/-- the first field set -/
theorem fst_ok (T : FltC X.K C) (I : Inv X pins σ H s) (e : H a = some (exo a C none)) (no : PySem.W.findIn X.K (.ref C) f = some none) (ry : RelV y u)
    (h : ∀ dx s', H dx = none → dx ≠ a → Inv X pins σ (upd (upd H dx (exd dx [(f, y)])) a (exo a C (some dx))) s' → Q () s') : wpAny (model X.prog X.w) A (setAttr (.ref a) f u) Q E s := by
  obtain ⟨cd, isC, mr, hasD⟩ := T.data
  obtain ⟨t1, ho⟩ := exo_at I.hok e
  obtain ⟨hp, g, d, t, os⟩ := s
  refine PySem.W.set_plain I.kIn (ox := { cls := .ref C, dict := none, data := .fields #[.ref t1, .none, .none, .none, .bool false, .none] }) (od := none) ⟨ho, rfl, rfl, trivial⟩ T.sa ?_
  refine LYX.osaNew I.kIn ho isC mr hasD no (fun h' tk' dx k dn dne hx hn => ?_)
  have free : H dx = none := I.hok.fresh dn
  have old : ∀ {b : Addr} {o : Obj}, hp.get? b = some o → b ≠ dx := fun {b o} q => Nat.ne_of_lt (Nat.lt_of_lt_of_le (Heap.lt_size q) dn)
  have nota : ∀ {b : Addr}, H b = none → b ≠ a := fun {b} n z => by
    rw [z, e] at n
    cases n
  have U : Un X.fs [] H (upd (upd H dx (exd dx [(f, y)])) a (exo a C (some dx))) hp h' := {
    keep := fun b o q n _ _ => k b o (nota n) q
    slot := fun b o q n _ _ => ⟨o.slots, k b o (nota n) q⟩
    free := fun b o q n _ => by rw [upd_ne (nota n), upd_ne (old q)]; exact n
    there := fun b o q _ => (Classical.em (b = a)).elim (fun hb => ⟨_, (congrArg h'.get? hb).trans hx⟩) fun hb => ⟨o, k b o hb q⟩
    tups := fun b xs q => by rw [upd_ne (at_ne e q exo_tup), upd_ne (ne_of_none q free)]; exact q
    frzs := fun b o v q => by rw [upd_ne (at_ne e q exo_frz), upd_ne (ne_of_none q free)]; exact q
    tbls := fun b ps q => ⟨#[], by rw [upd_ne (at_ne e q exo_tbl), upd_ne (ne_of_none q free), q]; simp⟩ }
  refine h dx _ free dne (I.un (t' := tk') U fun b o q => ?_)
  by_cases hb : b = a
  · subst hb
    rw [upd_same] at q
    cases q
    exact exo_ok hx
  · rw [upd_ne hb] at q
    by_cases hd : b = dx
    · subst hd
      rw [upd_same] at q
      cases q
      exact exd_ok hn (relO_put (fs := []) ry fun g => True.intro)
    · rw [upd_ne hd] at q
      refine (I.hok b o q).stay (fun c v hc z => k c v ?_ z) (fun c hc => by rw [upd_ne (at_ne e hc exo_own), upd_ne (ne_of_none hc free)]; exact hc) fun c xs hc => by rw [upd_ne (at_ne e hc exo_tup), upd_ne (ne_of_none hc free)]; exact hc
      rcases hc with hc | hc
      · rw [hc]
        exact hb
      · exact at_ne e hc exo_own
/-- a further one -/
theorem snd_ok (T : FltC X.K C) (I : Inv X pins σ H s) (e : H a = some (exo a C (some dx))) (ed : H dx = some (exd dx fs)) (few : fs.length ≤ 900) (no : PySem.W.findIn X.K (.ref C) f = some none) (ry : RelV y u)
    (h : ∀ s', Inv X pins σ (upd H dx (exd dx ((f, y) :: fs))) s' → Q () s') : wpAny (model X.prog X.w) A (setAttr (.ref a) f u) Q E s := by
  obtain ⟨cd, isC, mr, hasD⟩ := T.data
  obtain ⟨t1, ho⟩ := exo_at I.hok e
  obtain ⟨mA, hns, rel⟩ := exd_at I.hok ed
  have hw := within_of rel
  obtain ⟨hp, g, d, t, os⟩ := s
  obtain ⟨oD, _, _, hoD, _, _⟩ := hns.count hw
  refine PySem.W.set_plain I.kIn (ox := { cls := .ref C, dict := some dx, data := .fields #[.ref t1, .none, .none, .none, .bool false, .none] }) (od := some oD) ⟨ho, rfl, rfl, hoD⟩ T.sa ?_
  refine LYX.osaOld I.kIn ho hns hw (by rw [List.length_map]; omega) isC mr hasD no (fun h' tk' k hn => ?_)
  obtain ⟨od, _, _, e', _⟩ := id hn
  exact h _ (I.write (t' := tk') (x := dx) (e := dx) (o := exd dx ((f, y) :: fs)) (by rw [ed]; exact True.intro) (.inl rfl) k ⟨od, e'⟩ (exd_ok hn (relO_put ry rel)))
/-- Exception.__init__(self): nothing of it is told -/
theorem exi_ok {us : List Value} {Q : Value → Shared → Prop} (T : FltC X.K C) (I : Inv X pins σ H s) (e : H a = some (exo a C none)) (hl : us.length ≤ sizeLine) (h : ∀ s', Inv X pins σ H s' → Q .none s') :
    wpAny (model X.prog X.w) A (call (.builtin "Exception.__init__") (.ref a :: us)) Q E s := by
  obtain ⟨nm, q, N, bs, sn, sub, ab, col, dd, k0, k1, k2, k3, k5, hC⟩ := T.cls
  obtain ⟨t1, ho⟩ := exo_at I.hok e
  obtain ⟨hp, g, d, t, os⟩ := s
  refine wpAny_call (PySem.HandSPX.init_base F.excBase_Exception (fun _ => rfl) (I.kIn _ _ hC) ho hl fun h' t2 k hx => ?_)
  have J := I.write (t' := t) (x := a) (e := a) (o := exo a C none) (by rw [e]; exact True.intro) (.inl rfl) k ⟨_, hx⟩ (exo_ok hx)
  have eu : upd H a (exo a C none) = H := funext fun b => (Classical.em (b = a)).elim (fun hb => by rw [hb, upd_same, e]) fun hb => upd_ne hb
  rw [eu] at J
  exact h _ J
end
def tExI (K : PySem.W.Frag) (ta : TA) : TE := fun σ H Q => ta σ H fun vs H1 => ∃ (a C : Addr) (ws : List V), vs = .ref a :: ws ∧ ws.length ≤ 1000 ∧ FltC K C ∧ H1 a = some (exo a C none) ∧ Q .non H1
def tFst (K : PySem.W.Frag) (f : Str) (to te : TE) : TS := fun D σ H => te σ H fun y H1 => to σ H1 fun x H2 => ∃ a C : Addr, x = .ref a ∧ FltC K C ∧ PySem.W.findIn K (.ref C) f = some none ∧
  ((H2 a = some (exo a C none) ∧ ∀ dx, H2 dx = none → dx ≠ a → D.nx σ (upd (upd H2 dx (exd dx [(f, y)])) a (exo a C (some dx)))) ∨
    ∃ (dx : Addr) (fs : List (Str × V)), H2 a = some (exo a C (some dx)) ∧ H2 dx = some (exd dx fs) ∧ fs.length ≤ 900 ∧ D.nx σ (upd H2 dx (exd dx ((f, y) :: fs))))
/-- C(e, ..) that is to be raised: its own __init__ keeps sp -/
def tMkF (C : Addr) (sp : Sp) (ta : TA) : L2.St → Hp → XK → Prop := fun σ H Q => ta σ H fun vs H1 => vs.length ≤ 1000 ∧ ∀ a, H1 a = none → sp (.ref a :: vs) (upd H1 a (exo a C none))
  (fun v H2 => v = .non ∧ ∃ (d : Addr) (fs : List (Str × V)), H2 a = some (exo a C (some d)) ∧ H2 d = some (exd d fs) ∧ H1 d = none ∧ Q (.ref C) (some d) (upd (del H2 a) d (.xd fs))) (fun _ _ _ => False)
section
variable {X : Cx} {o e : Expr} {es : List Expr} {to te : TE} {ta : TA} {f : Str} {p p' p1 p2 pos : Pos}
theorem pe_exi {pl : Sem Bool} (hm : X.mg "Exception" = none) (vV : PySem.W.findCls X.K (.type "Exception") (.type "type") "__init__" = some (.val (.builtin "Exception.__init__"))) (ha : PA X (e :: es) ta) (hg : Gl X "Exception" := by rfl)
    (hc : eval (.Call (.Attribute (.Name "Exception" p1) "__init__" p2) (e :: es) [] pos) X.env = (do
      let ov ← eval (.Name "Exception" p1) X.env
      standAt p2.atName
      let (f, first) ← holding [ov] (getMethod ov "__init__" pl)
      callWith pos f first (backTo pos (starEach (e :: es) X.env)) (backToKw pos (keywordEach [] X.env))) := by rfl)
    (he : starEach (e :: es) X.env = (false, eval e X.env) :: starEach es X.env := by rfl) (hpl : (backTo pos (starEach es X.env)).any (·.1) = false := by rfl) :
    PE X (.Call (.Attribute (.Name "Exception" p1) "__init__" p2) (e :: es) [] pos) (tExI X.K ta) := by
  refine ⟨fun pins s σ H Q I h => ?_⟩
  refine PySem.W.methodCall_KW (ld_blt I hg hm PyProof.Rows.Boot.«Exception» ?_ (by decide) (by decide)) hc
  obtain ⟨m, fr⟩ := I.fr
  refine PySem.W.method_type fr I.ok.mod.kin LYX.typEx (by decide +kernel) vV (by decide +kernel) ?_
  show wpAny _ _ (callWith pos (Value.builtin "Exception.__init__") [] (backTo pos (starEach (e :: es) X.env)) []) _ _ _
  refine PyProof.Rows.callWith_method1 (thn (ha.run pos pins _ σ H _ (I.tok _) h) fun us s1 ⟨vs, H1, I1, r1, a, C, ws, ev, hl, T, ea, q⟩ => ?_) he hpl
  subst ev
  cases r1 with
  | @cons _ u0 _ ur ra rest =>
    obtain rfl : u0 = Value.ref a := ra
    have small : ur.length ≤ sizeLine := by
      rw [← Paired.length rest, sizeLine_eq]
      omega
    exact exi_ok T I1 ea small fun s' J => ⟨.non, H1, J, rfl, q⟩
theorem ps_fst (ho : PE X o to) (he : PE X e te) (hs : swapsWith e (some (.Attribute o f p')) pos.line X.env = pure false := by rfl) : PS X (.Assign [.Attribute o f p'] e pos) (tFst X.K f to te) := by
  refine ⟨fun pins s σ H D I h => ?_⟩
  refine plainObj_wpAny_Assign_Attribute (thn (he.run pins s σ H _ I h) fun v s1 ⟨y, H1, I1, r1, q1⟩ => thn (ho.run pins s1 σ H1 _ I1 q1) fun u s2 ⟨x, H2, I2, r2, a, C, ex, T, no, q⟩ => ?_) hs
  subst ex
  obtain rfl : u = Value.ref a := r2
  rcases q with ⟨ea, q⟩ | ⟨dx, fs, ea, ed, hl, q⟩
  · exact fst_ok T I2 ea no r1 fun dx s' n ne J => ⟨σ, _, J, q dx n ne⟩
  · exact snd_ok T I2 ea ed hl no r1 fun s' J => ⟨σ, _, J, q⟩
theorem pmk_flt {CX : CXT} {x : Str} {C fI : Addr} {k : Nat} {fd : FuncData} {ps : List Str} {sp : Sp} (T : FltC X.K C) (iC : PySem.W.findIn X.K (.ref C) "__init__" = some (some (.ref fI))) (tI : PySem.W.typeIn X.K (.ref fI) = some (.type "function"))
    (F1 : FnOk X.prog X.w X.K X.mg X.base CX k fI fd ps sp) (hr : Room (k + 1) X.A) (hb : Binds X.K fd ps []) (hx : Passes CX X (fun _ _ _ => False)) (hm : X.mg x = some (.ref C)) (ha : PA X (e :: es) ta) (hg : Gl X x := by rfl)
    (hdb : (x == ("__debug__" : Str)) = false := by decide) (he : starEach (e :: es) X.env = (false, eval e X.env) :: starEach es X.env := by rfl) (hpl : (backTo pos (starEach es X.env)).any (·.1) = false := by rfl) :
    PMk X (.Call (.Name x p) (e :: es) [] pos) (tMkF C sp ta) := by
  intro pins s σ H Q I h
  obtain ⟨nm, q, N, bs, sn, sub, ab, col, dd, k0, k1, k2, k3, k5, hC⟩ := T.cls
  refine wpAny_Call_Name_kw (ld_glob I hg hm ?_ hdb)
  refine PySem.W.callWith_K (h₀ := X.base) I.ok.mod.kin T.kC (thn (ha.run pos pins s σ H _ I h) fun us s1 ⟨vs, H1, I1, r1, few, q1⟩ => ⟨I1.kIn, ?_⟩) he hpl
  show wpAny _ _ (call (.ref C) us) _ _ _
  obtain ⟨hp, g, dr, tk, os⟩ := s1
  have up : hp.objs.size ≤ hp.objs.size + 1 := Nat.le_succ _
  have free : H1 (hp.objs.size + 1) = none := I1.hok.fresh up
  have want := q1 (hp.objs.size + 1) free
  have kk : ∀ b o, hp.get? b = some o → ((hp.push (PySem.W.kdv_tup us)).push (PySem.HandSPX.excO C hp.objs.size)).get? b = some o := fun b o e => Heap.get?_push_of_some _ (Heap.get?_push_of_some _ e)
  have there : ((hp.push (PySem.W.kdv_tup us)).push (PySem.HandSPX.excO C hp.objs.size)).get? (hp.objs.size + 1) = some (PySem.HandSPX.excO C hp.objs.size) := by heap_get
  have I2 : Inv X pins σ (upd H1 (hp.objs.size + 1) (exo (hp.objs.size + 1) C none)) ⟨(hp.push (PySem.W.kdv_tup us)).push (PySem.HandSPX.excO C hp.objs.size), g, dr, tk, os⟩ :=
    I1.laid (t' := tk) (a := hp.objs.size + 1) (o := exo (hp.objs.size + 1) C none) (h' := (hp.push (PySem.W.kdv_tup us)).push (PySem.HandSPX.excO C hp.objs.size)) kk up (exo_ok there)
  have r2 : Vals (V.ref (hp.objs.size + 1) :: vs) (Value.ref (hp.objs.size + 1) :: us) := .cons rfl r1
  have hl : (Value.ref (hp.objs.size + 1) :: us).length = ps.length := by
    rw [← F1.len _ _ _ _ want]
    exact r2.length.symm
  have hb1 := hb ⟨(hp.push (PySem.W.kdv_tup us)).push (PySem.HandSPX.excO C hp.objs.size), g, dr, tk, os⟩ (Value.ref (hp.objs.size + 1) :: us) I2.kIn (by rw [List.append_nil]; exact hl)
  rw [List.append_nil] at hb1
  have small : us.length ≤ sizeLine := by
    rw [← Paired.length r1, sizeLine_eq]
    omega
  refine wpAny_call (PySem.HandSPX.call_own F.excBase_Exception (fun _ => rfl) (I1.kIn _ _ hC) (PySem.W.looks_findIn I1.kIn iC) (fun self => PySem.W.bind_fn I1.kIn self tI) small
    (codeAny_mono (F1.run _ X.stack _ _ ⟨Value.ref (hp.objs.size + 1) :: us, []⟩ (Value.ref (hp.objs.size + 1) :: us) _ _ (fun _ _ _ => False) (hr.make C us []) (I2.env0.make C us []) hb1 r2 want) fun r s' back => ?_))
  cases r with
  | error er => exact hx pins σ _ _ er s' I2 back
  | ok fl =>
    cases fl with
    | ret u =>
      obtain ⟨v, H2, os2, bare2, un2, hok2, rv, ev, d, fs, ea, ed, hd1, q2⟩ := back
      subst ev
      obtain ⟨h2, g2, d2, t2, os'⟩ := s'
      exact ⟨rv, mk_end (raises_own T.exC T.tyC) I1 up kk un2 hok2 os2 bare2 ea ed hd1 q2⟩
    | next => exact False.elim back
    | brk => exact False.elim back
    | cont => exact False.elim back
/-- C() of an own error without __init__ -/
theorem pmk_own0 {x : Str} {C : Addr} {bmB : List Value} {B newId initId : String} (F : ExcBaseFacts B newId initId bmB) (q : PySem.W.excIn X.K C bmB newId = true) (gC : X.mg x = some (.ref C)) (kC : PySem.W.keepIn X.K (.ref C) = true) (r : Raises X (.ref C)) (hg : Gl X x := by rfl)
    (hdb : (x == ("__debug__" : Str)) = false := by decide) : PMk X (.Call (.Name x p) [] [] pos) (fun _ H Q => Q (.ref C) none H) := by
  intro pins s σ H Q I h
  refine wpAny_Call_Name_kw (ld_glob I hg gC ?_ hdb)
  obtain ⟨bm, N, nm, qn, bs, hdct, sn, sub, ab, col, dd, k0, k1, k2, k3, k5, mN, hC, hN, hni, T⟩ := exc_obj I.kIn q
  refine PySem.W.callWith_K0 I.kIn kC ?_
  show wpAny _ _ (call (.ref C) []) _ _ _
  refine wpAny_call_exc_subT F T hC hN hni (fun h' e hm => ?_) (by show 0 ≤ sizeLine; omega)
  exact mk_of I hm r h (I.hok.gone hm.new)
end
end LY
set_option Elab.async false
set_option linter.all false
set_option maxRecDepth 100000
set_option maxHeartbeats 4000000
namespace LY
open PySem PySem.Spec PyProof.Rows L2
abbrev FnP (K : PySem.W.Frag) (x q : Str) (st : Stmt) (f : Addr) (fd : FuncData) : Prop := FunD K x q (defArgs st) (defBody st) (defScope st) [] [] f fd
/-- what the top has written -/
structure Txt (K : PySem.W.Frag) (mg : Str → Option Value) : Prop where
  ex : extra K = true
  g_bits_for : mg "bits_for" = some (.ref (He.ga K "bits_for"))
  g_codes_to_spare : mg "codes_to_spare" = some (.ref (He.ga K "codes_to_spare"))
  g_nothing_spare : mg "nothing_spare" = some (.ref (He.ga K "nothing_spare"))
  g_greatest_spare : mg "greatest_spare" = some (.ref (He.ga K "greatest_spare"))
  g_carrier_of : mg "carrier_of" = some (.ref (He.ga K "carrier_of"))
  g_tokens_of : mg "tokens_of" = some (.ref (He.ga K "tokens_of"))
  g_signs_of : mg "signs_of" = some (.ref (He.ga K "signs_of"))
  g_remark_end : mg "remark_end" = some (.ref (He.ga K "remark_end"))
  g_token_at : mg "token_at" = some (.ref (He.ga K "token_at"))
  g_word_at : mg "word_at" = some (.ref (He.ga K "word_at"))
  g_number_at : mg "number_at" = some (.ref (He.ga K "number_at"))
  g_run_at : mg "run_at" = some (.ref (He.ga K "run_at"))
  g_records_of : mg "records_of" = some (.ref (He.ga K "records_of"))
  g_read_record : mg "read_record" = some (.ref (He.ga K "read_record"))
  g_read_field : mg "read_field" = some (.ref (He.ga K "read_field"))
  g_read_kind : mg "read_kind" = some (.ref (He.ga K "read_kind"))
  g_read_number : mg "read_number" = some (.ref (He.ga K "read_number"))
  g_read_value : mg "read_value" = some (.ref (He.ga K "read_value"))
  g_read_last : mg "read_last" = some (.ref (He.ga K "read_last"))
  g_read_align : mg "read_align" = some (.ref (He.ga K "read_align"))
  g_read_one : mg "read_one" = some (.ref (He.ga K "read_one"))
  g_read_named : mg "read_named" = some (.ref (He.ga K "read_named"))
  g_room_for : mg "room_for" = some (.ref (He.ga K "room_for"))
  g_bytes_told : mg "bytes_told" = some (.ref (He.ga K "bytes_told"))
  g_number_read : mg "number_read" = some (.ref (He.ga K "number_read"))
  g_answers : mg "answers" = some (.ref (He.ga K "answers"))
  g_split_calls : mg "split_calls" = some (.ref (He.ga K "split_calls"))
  g_answer_of_record : mg "answer_of_record" = some (.ref (He.ga K "answer_of_record"))
  g_told_of_record : mg "told_of_record" = some (.ref (He.ga K "told_of_record"))
  g_sizes : mg "sizes" = some (.ref (He.ga K "sizes"))
  g_packed_bits : mg "packed_bits" = some (.ref (He.ga K "packed_bits"))
  g_niche : mg "niche" = some (.ref (He.ga K "niche"))
  g_enc : mg "enc" = some (.ref (He.ga K "enc"))
  g_dec : mg "dec" = some (.ref (He.ga K "dec"))
  g_pack : mg "pack" = some (.ref (He.ga K "pack"))
  g_unpack : mg "unpack" = some (.ref (He.ga K "unpack"))
  g_rank : mg "rank" = some (.ref (He.ga K "rank"))
  g_NoValue : mg "NoValue" = some (.ref (He.ga K "NoValue"))
  g_Cursor : mg "Cursor" = some (.ref (He.ga K "Cursor"))
  g_Fault : mg "Fault" = some (.ref (He.ga K "Fault"))
  g_Spare : mg "Spare" = some (.ref (He.ga K "Spare"))
  g_Number : mg "Number" = some (.ref (He.ga K "Number"))
  g_Maybe : mg "Maybe" = some (.ref (He.ga K "Maybe"))
  g_One : mg "One" = some (.ref (He.ga K "One"))
  g_Row : mg "Row" = some (.ref (He.ga K "Row"))
  g_Many : mg "Many" = some (.ref (He.ga K "Many"))
  g_Field : mg "Field" = some (.ref (He.ga K "Field"))
  g_Record : mg "Record" = some (.ref (He.ga K "Record"))
  g_Token : mg "Token" = some (.ref (He.ga K "Token"))
  g_Reader : mg "Reader" = some (.ref (He.ga K "Reader"))
  g_NotSuchBytes : mg "NotSuchBytes" = some (.ref (He.ga K "NotSuchBytes"))
  g_Holder : mg "Holder" = some (.ref (He.ga K "Holder"))
  f_len : mg "len" = none
  f_sum : mg "sum" = none
  f_max : mg "max" = none
  f_range : mg "range" = none
  f_enumerate : mg "enumerate" = none
  f_zip : mg "zip" = none
  f_reversed : mg "reversed" = none
  f_str : mg "str" = none
  f_int : mg "int" = none
  f_ord : mg "ord" = none
  f_Exception : mg "Exception" = none
  t_LETTERS : ∃ u, mg "LETTERS" = some u ∧ RelV (.str "abcdefghijklmnopqrstuvwxyzABCDEFGHIJKLMNOPQRSTUVWXYZ") u
  t_DIGITS : ∃ u, mg "DIGITS" = some u ∧ RelV (.str "0123456789") u
  t_SIGNS : ∃ u, mg "SIGNS" = some u ∧ RelV (.str "{},;:-.") u
  i_LONGEST_NAME : ∃ u, mg "LONGEST_NAME" = some u ∧ RelV (.int (16)) u
  i_GREATEST_NUMBER : ∃ u, mg "GREATEST_NUMBER" = some u ∧ RelV (.int (1000000000)) u
  i_MOST_DIGITS : ∃ u, mg "MOST_DIGITS" = some u ∧ RelV (.int (10)) u
  i_LONGEST_TEXT : ∃ u, mg "LONGEST_TEXT" = some u ∧ RelV (.int (4096)) u
  i_LONGEST_ONE_FORM : ∃ u, mg "LONGEST_ONE_FORM" = some u ∧ RelV (.int (4096)) u
  i_MOST_RECORDS : ∃ u, mg "MOST_RECORDS" = some u ∧ RelV (.int (6)) u
  i_MOST_LEAVES : ∃ u, mg "MOST_LEAVES" = some u ∧ RelV (.int (24)) u
  i_MOST_DEEP : ∃ u, mg "MOST_DEEP" = some u ∧ RelV (.int (6)) u
  i_FEWEST_ALTERNATIVES : ∃ u, mg "FEWEST_ALTERNATIVES" = some u ∧ RelV (.int (2)) u
  i_MOST_ALTERNATIVES : ∃ u, mg "MOST_ALTERNATIVES" = some u ∧ RelV (.int (4)) u
  i_MOST_TIMES : ∃ u, mg "MOST_TIMES" = some u ∧ RelV (.int (8)) u
  i_HOTTEST : ∃ u, mg "HOTTEST" = some u ∧ RelV (.int (1000)) u
  i_GREATEST_VALUE : ∃ u, mg "GREATEST_VALUE" = some u ∧ RelV (.int (1000000)) u
  i_LOAD : ∃ u, mg "LOAD" = some u ∧ RelV (.int (0)) u
  i_SIZES : ∃ u, mg "SIZES" = some u ∧ RelV (.int (1)) u
  i_NICHE : ∃ u, mg "NICHE" = some u ∧ RelV (.int (2)) u
  i_ENC : ∃ u, mg "ENC" = some u ∧ RelV (.int (3)) u
  i_DEC : ∃ u, mg "DEC" = some u ∧ RelV (.int (4)) u
  i_PACK : ∃ u, mg "PACK" = some u ∧ RelV (.int (5)) u
  i_RANK : ∃ u, mg "RANK" = some u ∧ RelV (.int (7)) u
  i_NO_RECORDS : ∃ u, mg "NO_RECORDS" = some u ∧ RelV (.int (-1)) u
  i_NO_SUCH_RECORD : ∃ u, mg "NO_SUCH_RECORD" = some u ∧ RelV (.int (-2)) u
  i_NO_SUCH_VALUE : ∃ u, mg "NO_SUCH_VALUE" = some u ∧ RelV (.int (-4)) u
  i_NO_SUCH_BYTES : ∃ u, mg "NO_SUCH_BYTES" = some u ∧ RelV (.int (-5)) u
  cl_Cursor : Cls K (He.ga K "Cursor")
  mk_Cursor : Mk K (He.ga K "Cursor") (He.ma K (He.ga K "Cursor") "__init__")
  na_Cursor_numbers : NoAttr K (He.ga K "Cursor") "numbers"
  na_Cursor_place : NoAttr K (He.ga K "Cursor") "place"
  me_Cursor_draw : Meth K (He.ga K "Cursor") "draw" (He.ma K (He.ga K "Cursor") "draw")
  me_Cursor_end : Meth K (He.ga K "Cursor") "end" (He.ma K (He.ga K "Cursor") "end")
  me_Cursor_ended : Meth K (He.ga K "Cursor") "ended" (He.ma K (He.ga K "Cursor") "ended")
  cl_Spare : Cls K (He.ga K "Spare")
  mk_Spare : Mk K (He.ga K "Spare") (He.ma K (He.ga K "Spare") "__init__")
  na_Spare_at : NoAttr K (He.ga K "Spare") "at"
  na_Spare_width : NoAttr K (He.ga K "Spare") "width"
  na_Spare_first : NoAttr K (He.ga K "Spare") "first"
  na_Spare_left : NoAttr K (He.ga K "Spare") "left"
  me_Spare_moved : Meth K (He.ga K "Spare") "moved" (He.ma K (He.ga K "Spare") "moved")
  me_Spare_without : Meth K (He.ga K "Spare") "without" (He.ma K (He.ga K "Spare") "without")
  me_Spare_bits_with : Meth K (He.ga K "Spare") "bits_with" (He.ma K (He.ga K "Spare") "bits_with")
  cl_Number : Cls K (He.ga K "Number")
  mk_Number : Mk K (He.ga K "Number") (He.ma K (He.ga K "Number") "__init__")
  na_Number_first : NoAttr K (He.ga K "Number") "first"
  na_Number_last : NoAttr K (He.ga K "Number") "last"
  na_Number_align : NoAttr K (He.ga K "Number") "align"
  na_Number_leaves : NoAttr K (He.ga K "Number") "leaves"
  na_Number_bits : NoAttr K (He.ga K "Number") "bits"
  na_Number_spare : NoAttr K (He.ga K "Number") "spare"
  na_Number_flat : NoAttr K (He.ga K "Number") "flat"
  na_Number_shared : NoAttr K (He.ga K "Number") "shared"
  me_Number_how_many : Meth K (He.ga K "Number") "how_many" (He.ma K (He.ga K "Number") "how_many")
  me_Number_one_form : Meth K (He.ga K "Number") "one_form" (He.ma K (He.ga K "Number") "one_form")
  me_Number_bits_told : Meth K (He.ga K "Number") "bits_told" (He.ma K (He.ga K "Number") "bits_told")
  me_Number_number_told : Meth K (He.ga K "Number") "number_told" (He.ma K (He.ga K "Number") "number_told")
  me_Number_value_with : Meth K (He.ga K "Number") "value_with" (He.ma K (He.ga K "Number") "value_with")
  me_Number_value_at : Meth K (He.ga K "Number") "value_at" (He.ma K (He.ga K "Number") "value_at")
  cl_Maybe : Cls K (He.ga K "Maybe")
  mk_Maybe : Mk K (He.ga K "Maybe") (He.ma K (He.ga K "Maybe") "__init__")
  na_Maybe_inner : NoAttr K (He.ga K "Maybe") "inner"
  na_Maybe_leaves : NoAttr K (He.ga K "Maybe") "leaves"
  na_Maybe_flat : NoAttr K (He.ga K "Maybe") "flat"
  na_Maybe_shared : NoAttr K (He.ga K "Maybe") "shared"
  na_Maybe_tagged : NoAttr K (He.ga K "Maybe") "tagged"
  na_Maybe_bits : NoAttr K (He.ga K "Maybe") "bits"
  na_Maybe_spare : NoAttr K (He.ga K "Maybe") "spare"
  me_Maybe_how_many : Meth K (He.ga K "Maybe") "how_many" (He.ma K (He.ga K "Maybe") "how_many")
  me_Maybe_one_form : Meth K (He.ga K "Maybe") "one_form" (He.ma K (He.ga K "Maybe") "one_form")
  me_Maybe_bits_told : Meth K (He.ga K "Maybe") "bits_told" (He.ma K (He.ga K "Maybe") "bits_told")
  me_Maybe_bits_of_nothing : Meth K (He.ga K "Maybe") "bits_of_nothing" (He.ma K (He.ga K "Maybe") "bits_of_nothing")
  me_Maybe_number_told : Meth K (He.ga K "Maybe") "number_told" (He.ma K (He.ga K "Maybe") "number_told")
  me_Maybe_value_with : Meth K (He.ga K "Maybe") "value_with" (He.ma K (He.ga K "Maybe") "value_with")
  me_Maybe_value_at : Meth K (He.ga K "Maybe") "value_at" (He.ma K (He.ga K "Maybe") "value_at")
  cl_One : Cls K (He.ga K "One")
  mk_One : Mk K (He.ga K "One") (He.ma K (He.ga K "One") "__init__")
  na_One_names : NoAttr K (He.ga K "One") "names"
  na_One_alternatives : NoAttr K (He.ga K "One") "alternatives"
  na_One_tag : NoAttr K (He.ga K "One") "tag"
  na_One_leaves : NoAttr K (He.ga K "One") "leaves"
  na_One_flat : NoAttr K (He.ga K "One") "flat"
  na_One_shared : NoAttr K (He.ga K "One") "shared"
  na_One_carrier : NoAttr K (He.ga K "One") "carrier"
  na_One_bits : NoAttr K (He.ga K "One") "bits"
  na_One_spare : NoAttr K (He.ga K "One") "spare"
  me_One_how_many : Meth K (He.ga K "One") "how_many" (He.ma K (He.ga K "One") "how_many")
  me_One_one_form : Meth K (He.ga K "One") "one_form" (He.ma K (He.ga K "One") "one_form")
  me_One_bits_told : Meth K (He.ga K "One") "bits_told" (He.ma K (He.ga K "One") "bits_told")
  me_One_bits_beside_carrier : Meth K (He.ga K "One") "bits_beside_carrier" (He.ma K (He.ga K "One") "bits_beside_carrier")
  me_One_number_told : Meth K (He.ga K "One") "number_told" (He.ma K (He.ga K "One") "number_told")
  me_One_value_with : Meth K (He.ga K "One") "value_with" (He.ma K (He.ga K "One") "value_with")
  me_One_value_with_tag : Meth K (He.ga K "One") "value_with_tag" (He.ma K (He.ga K "One") "value_with_tag")
  me_One_value_at : Meth K (He.ga K "One") "value_at" (He.ma K (He.ga K "One") "value_at")
  cl_Row : Cls K (He.ga K "Row")
  mk_Row : Mk K (He.ga K "Row") (He.ma K (He.ga K "Row") "__init__")
  na_Row_parts : NoAttr K (He.ga K "Row") "parts"
  na_Row_leaves : NoAttr K (He.ga K "Row") "leaves"
  na_Row_flat : NoAttr K (He.ga K "Row") "flat"
  na_Row_shared : NoAttr K (He.ga K "Row") "shared"
  na_Row_bits : NoAttr K (He.ga K "Row") "bits"
  na_Row_spare : NoAttr K (He.ga K "Row") "spare"
  me_Row_how_many : Meth K (He.ga K "Row") "how_many" (He.ma K (He.ga K "Row") "how_many")
  me_Row_bits_told : Meth K (He.ga K "Row") "bits_told" (He.ma K (He.ga K "Row") "bits_told")
  me_Row_number_told : Meth K (He.ga K "Row") "number_told" (He.ma K (He.ga K "Row") "number_told")
  me_Row_value_with : Meth K (He.ga K "Row") "value_with" (He.ma K (He.ga K "Row") "value_with")
  me_Row_value_at : Meth K (He.ga K "Row") "value_at" (He.ma K (He.ga K "Row") "value_at")
  cl_Many : Cls K (He.ga K "Many")
  mk_Many : Mk K (He.ga K "Many") (He.ma K (He.ga K "Many") "__init__")
  na_Many_parts : NoAttr K (He.ga K "Many") "parts"
  na_Many_leaves : NoAttr K (He.ga K "Many") "leaves"
  na_Many_flat : NoAttr K (He.ga K "Many") "flat"
  na_Many_shared : NoAttr K (He.ga K "Many") "shared"
  na_Many_bits : NoAttr K (He.ga K "Many") "bits"
  na_Many_spare : NoAttr K (He.ga K "Many") "spare"
  na_Many_times : NoAttr K (He.ga K "Many") "times"
  na_Many_inner : NoAttr K (He.ga K "Many") "inner"
  me_Many_how_many : Meth K (He.ga K "Many") "how_many" (He.ma K (He.ga K "Many") "how_many")
  me_Many_bits_told : Meth K (He.ga K "Many") "bits_told" (He.ma K (He.ga K "Many") "bits_told")
  me_Many_number_told : Meth K (He.ga K "Many") "number_told" (He.ma K (He.ga K "Many") "number_told")
  me_Many_value_with : Meth K (He.ga K "Many") "value_with" (He.ma K (He.ga K "Many") "value_with")
  me_Many_value_at : Meth K (He.ga K "Many") "value_at" (He.ma K (He.ga K "Many") "value_at")
  me_Many_one_form : Meth K (He.ga K "Many") "one_form" (He.ma K (He.ga K "Many") "one_form")
  cl_Field : Cls K (He.ga K "Field")
  mk_Field : Mk K (He.ga K "Field") (He.ma K (He.ga K "Field") "__init__")
  na_Field_name : NoAttr K (He.ga K "Field") "name"
  na_Field_inner : NoAttr K (He.ga K "Field") "inner"
  na_Field_hot : NoAttr K (He.ga K "Field") "hot"
  me_Field_line : Meth K (He.ga K "Field") "line" (He.ma K (He.ga K "Field") "line")
  cl_Record : Cls K (He.ga K "Record")
  mk_Record : Mk K (He.ga K "Record") (He.ma K (He.ga K "Record") "__init__")
  na_Record_parts : NoAttr K (He.ga K "Record") "parts"
  na_Record_leaves : NoAttr K (He.ga K "Record") "leaves"
  na_Record_flat : NoAttr K (He.ga K "Record") "flat"
  na_Record_shared : NoAttr K (He.ga K "Record") "shared"
  na_Record_bits : NoAttr K (He.ga K "Record") "bits"
  na_Record_spare : NoAttr K (He.ga K "Record") "spare"
  na_Record_name : NoAttr K (He.ga K "Record") "name"
  na_Record_fields : NoAttr K (He.ga K "Record") "fields"
  me_Record_how_many : Meth K (He.ga K "Record") "how_many" (He.ma K (He.ga K "Record") "how_many")
  me_Record_bits_told : Meth K (He.ga K "Record") "bits_told" (He.ma K (He.ga K "Record") "bits_told")
  me_Record_number_told : Meth K (He.ga K "Record") "number_told" (He.ma K (He.ga K "Record") "number_told")
  me_Record_value_with : Meth K (He.ga K "Record") "value_with" (He.ma K (He.ga K "Record") "value_with")
  me_Record_value_at : Meth K (He.ga K "Record") "value_at" (He.ma K (He.ga K "Record") "value_at")
  me_Record_one_form : Meth K (He.ga K "Record") "one_form" (He.ma K (He.ga K "Record") "one_form")
  me_Record_lines : Meth K (He.ga K "Record") "lines" (He.ma K (He.ga K "Record") "lines")
  cl_Token : Cls K (He.ga K "Token")
  mk_Token : Mk K (He.ga K "Token") (He.ma K (He.ga K "Token") "__init__")
  na_Token_kind : NoAttr K (He.ga K "Token") "kind"
  na_Token_text : NoAttr K (He.ga K "Token") "text"
  na_Token_place : NoAttr K (He.ga K "Token") "place"
  cl_Reader : Cls K (He.ga K "Reader")
  mk_Reader : Mk K (He.ga K "Reader") (He.ma K (He.ga K "Reader") "__init__")
  na_Reader_tokens : NoAttr K (He.ga K "Reader") "tokens"
  na_Reader_place : NoAttr K (He.ga K "Reader") "place"
  na_Reader_records : NoAttr K (He.ga K "Reader") "records"
  me_Reader_look : Meth K (He.ga K "Reader") "look" (He.ma K (He.ga K "Reader") "look")
  me_Reader_sees : Meth K (He.ga K "Reader") "sees" (He.ma K (He.ga K "Reader") "sees")
  me_Reader_take : Meth K (He.ga K "Reader") "take" (He.ma K (He.ga K "Reader") "take")
  me_Reader_take_name : Meth K (He.ga K "Reader") "take_name" (He.ma K (He.ga K "Reader") "take_name")
  me_Reader_take_number : Meth K (He.ga K "Reader") "take_number" (He.ma K (He.ga K "Reader") "take_number")
  cl_Holder : Cls K (He.ga K "Holder")
  mk_Holder : Mk K (He.ga K "Holder") (He.ma K (He.ga K "Holder") "__init__")
  na_Holder_records : NoAttr K (He.ga K "Holder") "records"
  me_Holder_answer : Meth K (He.ga K "Holder") "answer" (He.ma K (He.ga K "Holder") "answer")
  me_Holder_load : Meth K (He.ga K "Holder") "load" (He.ma K (He.ga K "Holder") "load")
  d_Fault_init : ∃ fd, FnP K "__init__" "Fault.__init__" (inClass (top 4) 0) (He.fAd K ("Fault", some "__init__")) fd
  d_bits_for : ∃ fd, FnP K "bits_for" "bits_for" (top 6) (He.fAd K ("bits_for", none)) fd
  d_codes_to_spare : ∃ fd, FnP K "codes_to_spare" "codes_to_spare" (top 8) (He.fAd K ("codes_to_spare", none)) fd
  d_nothing_spare : ∃ fd, FnP K "nothing_spare" "nothing_spare" (top 9) (He.fAd K ("nothing_spare", none)) fd
  d_greatest_spare : ∃ fd, FnP K "greatest_spare" "greatest_spare" (top 10) (He.fAd K ("greatest_spare", none)) fd
  d_carrier_of : ∃ fd, FnP K "carrier_of" "carrier_of" (top 15) (He.fAd K ("carrier_of", none)) fd
  d_tokens_of : ∃ fd, FnP K "tokens_of" "tokens_of" (top 29) (He.fAd K ("tokens_of", none)) fd
  d_signs_of : ∃ fd, FnP K "signs_of" "signs_of" (top 30) (He.fAd K ("signs_of", none)) fd
  d_remark_end : ∃ fd, FnP K "remark_end" "remark_end" (top 31) (He.fAd K ("remark_end", none)) fd
  d_token_at : ∃ fd, FnP K "token_at" "token_at" (top 32) (He.fAd K ("token_at", none)) fd
  d_word_at : ∃ fd, FnP K "word_at" "word_at" (top 33) (He.fAd K ("word_at", none)) fd
  d_number_at : ∃ fd, FnP K "number_at" "number_at" (top 34) (He.fAd K ("number_at", none)) fd
  d_run_at : ∃ fd, FnP K "run_at" "run_at" (top 35) (He.fAd K ("run_at", none)) fd
  d_records_of : ∃ fd, FnP K "records_of" "records_of" (top 49) (He.fAd K ("records_of", none)) fd
  d_read_record : ∃ fd, FnP K "read_record" "read_record" (top 50) (He.fAd K ("read_record", none)) fd
  d_read_field : ∃ fd, FnP K "read_field" "read_field" (top 51) (He.fAd K ("read_field", none)) fd
  d_read_kind : ∃ fd, FnP K "read_kind" "read_kind" (top 52) (He.fAd K ("read_kind", none)) fd
  d_read_number : ∃ fd, FnP K "read_number" "read_number" (top 53) (He.fAd K ("read_number", none)) fd
  d_read_value : ∃ fd, FnP K "read_value" "read_value" (top 54) (He.fAd K ("read_value", none)) fd
  d_read_last : ∃ fd, FnP K "read_last" "read_last" (top 55) (He.fAd K ("read_last", none)) fd
  d_read_align : ∃ fd, FnP K "read_align" "read_align" (top 56) (He.fAd K ("read_align", none)) fd
  d_read_one : ∃ fd, FnP K "read_one" "read_one" (top 57) (He.fAd K ("read_one", none)) fd
  d_read_named : ∃ fd, FnP K "read_named" "read_named" (top 58) (He.fAd K ("read_named", none)) fd
  d_room_for : ∃ fd, FnP K "room_for" "room_for" (top 61) (He.fAd K ("room_for", none)) fd
  d_bytes_told : ∃ fd, FnP K "bytes_told" "bytes_told" (top 62) (He.fAd K ("bytes_told", none)) fd
  d_number_read : ∃ fd, FnP K "number_read" "number_read" (top 63) (He.fAd K ("number_read", none)) fd
  d_answers : ∃ fd, FnP K "answers" "answers" (top 78) (He.fAd K ("answers", none)) fd
  d_split_calls : ∃ fd, FnP K "split_calls" "split_calls" (top 79) (He.fAd K ("split_calls", none)) fd
  d_answer_of_record : ∃ fd, FnP K "answer_of_record" "answer_of_record" (top 81) (He.fAd K ("answer_of_record", none)) fd
  d_told_of_record : ∃ fd, FnP K "told_of_record" "told_of_record" (top 82) (He.fAd K ("told_of_record", none)) fd
  d_sizes : ∃ fd, FnP K "sizes" "sizes" (top 83) (He.fAd K ("sizes", none)) fd
  d_packed_bits : ∃ fd, FnP K "packed_bits" "packed_bits" (top 84) (He.fAd K ("packed_bits", none)) fd
  d_niche : ∃ fd, FnP K "niche" "niche" (top 85) (He.fAd K ("niche", none)) fd
  d_enc : ∃ fd, FnP K "enc" "enc" (top 86) (He.fAd K ("enc", none)) fd
  d_dec : ∃ fd, FnP K "dec" "dec" (top 87) (He.fAd K ("dec", none)) fd
  d_pack : ∃ fd, FnP K "pack" "pack" (top 88) (He.fAd K ("pack", none)) fd
  d_unpack : ∃ fd, FnP K "unpack" "unpack" (top 89) (He.fAd K ("unpack", none)) fd
  d_rank : ∃ fd, FnP K "rank" "rank" (top 90) (He.fAd K ("rank", none)) fd
  d_Cursor_init : ∃ fd, FnP K "__init__" "Cursor.__init__" (inClass (top 2) 0) (He.fAd K ("Cursor", some "__init__")) fd
  d_Cursor_draw : ∃ fd, FnP K "draw" "Cursor.draw" (inClass (top 2) 1) (He.fAd K ("Cursor", some "draw")) fd
  d_Cursor_end : ∃ fd, FnP K "end" "Cursor.end" (inClass (top 2) 2) (He.fAd K ("Cursor", some "end")) fd
  d_Cursor_ended : ∃ fd, FnP K "ended" "Cursor.ended" (inClass (top 2) 3) (He.fAd K ("Cursor", some "ended")) fd
  d_Spare_init : ∃ fd, FnP K "__init__" "Spare.__init__" (inClass (top 7) 0) (He.fAd K ("Spare", some "__init__")) fd
  d_Spare_moved : ∃ fd, FnP K "moved" "Spare.moved" (inClass (top 7) 1) (He.fAd K ("Spare", some "moved")) fd
  d_Spare_without : ∃ fd, FnP K "without" "Spare.without" (inClass (top 7) 2) (He.fAd K ("Spare", some "without")) fd
  d_Spare_bits_with : ∃ fd, FnP K "bits_with" "Spare.bits_with" (inClass (top 7) 3) (He.fAd K ("Spare", some "bits_with")) fd
  d_Number_init : ∃ fd, FnP K "__init__" "Number.__init__" (inClass (top 12) 0) (He.fAd K ("Number", some "__init__")) fd
  d_Number_how_many : ∃ fd, FnP K "how_many" "Number.how_many" (inClass (top 12) 1) (He.fAd K ("Number", some "how_many")) fd
  d_Number_one_form : ∃ fd, FnP K "one_form" "Number.one_form" (inClass (top 12) 2) (He.fAd K ("Number", some "one_form")) fd
  d_Number_bits_told : ∃ fd, FnP K "bits_told" "Number.bits_told" (inClass (top 12) 3) (He.fAd K ("Number", some "bits_told")) fd
  d_Number_number_told : ∃ fd, FnP K "number_told" "Number.number_told" (inClass (top 12) 4) (He.fAd K ("Number", some "number_told")) fd
  d_Number_value_with : ∃ fd, FnP K "value_with" "Number.value_with" (inClass (top 12) 5) (He.fAd K ("Number", some "value_with")) fd
  d_Number_value_at : ∃ fd, FnP K "value_at" "Number.value_at" (inClass (top 12) 6) (He.fAd K ("Number", some "value_at")) fd
  d_Maybe_init : ∃ fd, FnP K "__init__" "Maybe.__init__" (inClass (top 13) 0) (He.fAd K ("Maybe", some "__init__")) fd
  d_Maybe_how_many : ∃ fd, FnP K "how_many" "Maybe.how_many" (inClass (top 13) 1) (He.fAd K ("Maybe", some "how_many")) fd
  d_Maybe_one_form : ∃ fd, FnP K "one_form" "Maybe.one_form" (inClass (top 13) 2) (He.fAd K ("Maybe", some "one_form")) fd
  d_Maybe_bits_told : ∃ fd, FnP K "bits_told" "Maybe.bits_told" (inClass (top 13) 3) (He.fAd K ("Maybe", some "bits_told")) fd
  d_Maybe_bits_of_nothing : ∃ fd, FnP K "bits_of_nothing" "Maybe.bits_of_nothing" (inClass (top 13) 4) (He.fAd K ("Maybe", some "bits_of_nothing")) fd
  d_Maybe_number_told : ∃ fd, FnP K "number_told" "Maybe.number_told" (inClass (top 13) 5) (He.fAd K ("Maybe", some "number_told")) fd
  d_Maybe_value_with : ∃ fd, FnP K "value_with" "Maybe.value_with" (inClass (top 13) 6) (He.fAd K ("Maybe", some "value_with")) fd
  d_Maybe_value_at : ∃ fd, FnP K "value_at" "Maybe.value_at" (inClass (top 13) 7) (He.fAd K ("Maybe", some "value_at")) fd
  d_One_init : ∃ fd, FnP K "__init__" "One.__init__" (inClass (top 14) 0) (He.fAd K ("One", some "__init__")) fd
  d_One_how_many : ∃ fd, FnP K "how_many" "One.how_many" (inClass (top 14) 1) (He.fAd K ("One", some "how_many")) fd
  d_One_one_form : ∃ fd, FnP K "one_form" "One.one_form" (inClass (top 14) 2) (He.fAd K ("One", some "one_form")) fd
  d_One_bits_told : ∃ fd, FnP K "bits_told" "One.bits_told" (inClass (top 14) 3) (He.fAd K ("One", some "bits_told")) fd
  d_One_bits_beside_carrier : ∃ fd, FnP K "bits_beside_carrier" "One.bits_beside_carrier" (inClass (top 14) 4) (He.fAd K ("One", some "bits_beside_carrier")) fd
  d_One_number_told : ∃ fd, FnP K "number_told" "One.number_told" (inClass (top 14) 5) (He.fAd K ("One", some "number_told")) fd
  d_One_value_with : ∃ fd, FnP K "value_with" "One.value_with" (inClass (top 14) 6) (He.fAd K ("One", some "value_with")) fd
  d_One_value_with_tag : ∃ fd, FnP K "value_with_tag" "One.value_with_tag" (inClass (top 14) 7) (He.fAd K ("One", some "value_with_tag")) fd
  d_One_value_at : ∃ fd, FnP K "value_at" "One.value_at" (inClass (top 14) 8) (He.fAd K ("One", some "value_at")) fd
  d_Row_init : ∃ fd, FnP K "__init__" "Row.__init__" (inClass (top 16) 0) (He.fAd K ("Row", some "__init__")) fd
  d_Row_how_many : ∃ fd, FnP K "how_many" "Row.how_many" (inClass (top 16) 1) (He.fAd K ("Row", some "how_many")) fd
  d_Row_bits_told : ∃ fd, FnP K "bits_told" "Row.bits_told" (inClass (top 16) 2) (He.fAd K ("Row", some "bits_told")) fd
  d_Row_number_told : ∃ fd, FnP K "number_told" "Row.number_told" (inClass (top 16) 3) (He.fAd K ("Row", some "number_told")) fd
  d_Row_value_with : ∃ fd, FnP K "value_with" "Row.value_with" (inClass (top 16) 4) (He.fAd K ("Row", some "value_with")) fd
  d_Row_value_at : ∃ fd, FnP K "value_at" "Row.value_at" (inClass (top 16) 5) (He.fAd K ("Row", some "value_at")) fd
  d_Many_init : ∃ fd, FnP K "__init__" "Many.__init__" (inClass (top 17) 0) (He.fAd K ("Many", some "__init__")) fd
  d_Many_one_form : ∃ fd, FnP K "one_form" "Many.one_form" (inClass (top 17) 1) (He.fAd K ("Many", some "one_form")) fd
  d_Field_init : ∃ fd, FnP K "__init__" "Field.__init__" (inClass (top 18) 0) (He.fAd K ("Field", some "__init__")) fd
  d_Field_line : ∃ fd, FnP K "line" "Field.line" (inClass (top 18) 1) (He.fAd K ("Field", some "line")) fd
  d_Record_init : ∃ fd, FnP K "__init__" "Record.__init__" (inClass (top 19) 0) (He.fAd K ("Record", some "__init__")) fd
  d_Record_one_form : ∃ fd, FnP K "one_form" "Record.one_form" (inClass (top 19) 1) (He.fAd K ("Record", some "one_form")) fd
  d_Record_lines : ∃ fd, FnP K "lines" "Record.lines" (inClass (top 19) 2) (He.fAd K ("Record", some "lines")) fd
  d_Token_init : ∃ fd, FnP K "__init__" "Token.__init__" (inClass (top 28) 0) (He.fAd K ("Token", some "__init__")) fd
  d_Reader_init : ∃ fd, FnP K "__init__" "Reader.__init__" (inClass (top 48) 0) (He.fAd K ("Reader", some "__init__")) fd
  d_Reader_look : ∃ fd, FnP K "look" "Reader.look" (inClass (top 48) 1) (He.fAd K ("Reader", some "look")) fd
  d_Reader_sees : ∃ fd, FnP K "sees" "Reader.sees" (inClass (top 48) 2) (He.fAd K ("Reader", some "sees")) fd
  d_Reader_take : ∃ fd, FnP K "take" "Reader.take" (inClass (top 48) 3) (He.fAd K ("Reader", some "take")) fd
  d_Reader_take_name : ∃ fd, FnP K "take_name" "Reader.take_name" (inClass (top 48) 4) (He.fAd K ("Reader", some "take_name")) fd
  d_Reader_take_number : ∃ fd, FnP K "take_number" "Reader.take_number" (inClass (top 48) 5) (He.fAd K ("Reader", some "take_number")) fd
  d_Holder_init : ∃ fd, FnP K "__init__" "Holder.__init__" (inClass (top 80) 0) (He.fAd K ("Holder", some "__init__")) fd
  d_Holder_answer : ∃ fd, FnP K "answer" "Holder.answer" (inClass (top 80) 1) (He.fAd K ("Holder", some "answer")) fd
  d_Holder_load : ∃ fd, FnP K "load" "Holder.load" (inClass (top 80) 2) (He.fAd K ("Holder", some "load")) fd
theorem txt_of {K : PySem.W.Frag} {mg : Str → Option Value} {h : Heap} (X : K.In h) (G : h.Ns mainGlobals mg) (c : Says K) : Txt K mg where
    ex := c.2
    g_bits_for := He.glo_ok X G (c.1.fact 0 (f := .glo "bits_for") rfl)
    g_codes_to_spare := He.glo_ok X G (c.1.fact 1 (f := .glo "codes_to_spare") rfl)
    g_nothing_spare := He.glo_ok X G (c.1.fact 2 (f := .glo "nothing_spare") rfl)
    g_greatest_spare := He.glo_ok X G (c.1.fact 3 (f := .glo "greatest_spare") rfl)
    g_carrier_of := He.glo_ok X G (c.1.fact 4 (f := .glo "carrier_of") rfl)
    g_tokens_of := He.glo_ok X G (c.1.fact 5 (f := .glo "tokens_of") rfl)
    g_signs_of := He.glo_ok X G (c.1.fact 6 (f := .glo "signs_of") rfl)
    g_remark_end := He.glo_ok X G (c.1.fact 7 (f := .glo "remark_end") rfl)
    g_token_at := He.glo_ok X G (c.1.fact 8 (f := .glo "token_at") rfl)
    g_word_at := He.glo_ok X G (c.1.fact 9 (f := .glo "word_at") rfl)
    g_number_at := He.glo_ok X G (c.1.fact 10 (f := .glo "number_at") rfl)
    g_run_at := He.glo_ok X G (c.1.fact 11 (f := .glo "run_at") rfl)
    g_records_of := He.glo_ok X G (c.1.fact 12 (f := .glo "records_of") rfl)
    g_read_record := He.glo_ok X G (c.1.fact 13 (f := .glo "read_record") rfl)
    g_read_field := He.glo_ok X G (c.1.fact 14 (f := .glo "read_field") rfl)
    g_read_kind := He.glo_ok X G (c.1.fact 15 (f := .glo "read_kind") rfl)
    g_read_number := He.glo_ok X G (c.1.fact 16 (f := .glo "read_number") rfl)
    g_read_value := He.glo_ok X G (c.1.fact 17 (f := .glo "read_value") rfl)
    g_read_last := He.glo_ok X G (c.1.fact 18 (f := .glo "read_last") rfl)
    g_read_align := He.glo_ok X G (c.1.fact 19 (f := .glo "read_align") rfl)
    g_read_one := He.glo_ok X G (c.1.fact 20 (f := .glo "read_one") rfl)
    g_read_named := He.glo_ok X G (c.1.fact 21 (f := .glo "read_named") rfl)
    g_room_for := He.glo_ok X G (c.1.fact 22 (f := .glo "room_for") rfl)
    g_bytes_told := He.glo_ok X G (c.1.fact 23 (f := .glo "bytes_told") rfl)
    g_number_read := He.glo_ok X G (c.1.fact 24 (f := .glo "number_read") rfl)
    g_answers := He.glo_ok X G (c.1.fact 25 (f := .glo "answers") rfl)
    g_split_calls := He.glo_ok X G (c.1.fact 26 (f := .glo "split_calls") rfl)
    g_answer_of_record := He.glo_ok X G (c.1.fact 27 (f := .glo "answer_of_record") rfl)
    g_told_of_record := He.glo_ok X G (c.1.fact 28 (f := .glo "told_of_record") rfl)
    g_sizes := He.glo_ok X G (c.1.fact 29 (f := .glo "sizes") rfl)
    g_packed_bits := He.glo_ok X G (c.1.fact 30 (f := .glo "packed_bits") rfl)
    g_niche := He.glo_ok X G (c.1.fact 31 (f := .glo "niche") rfl)
    g_enc := He.glo_ok X G (c.1.fact 32 (f := .glo "enc") rfl)
    g_dec := He.glo_ok X G (c.1.fact 33 (f := .glo "dec") rfl)
    g_pack := He.glo_ok X G (c.1.fact 34 (f := .glo "pack") rfl)
    g_unpack := He.glo_ok X G (c.1.fact 35 (f := .glo "unpack") rfl)
    g_rank := He.glo_ok X G (c.1.fact 36 (f := .glo "rank") rfl)
    g_NoValue := He.glo_ok X G (c.1.fact 37 (f := .glo "NoValue") rfl)
    g_Cursor := He.glo_ok X G (c.1.fact 38 (f := .glo "Cursor") rfl)
    g_Fault := He.glo_ok X G (c.1.fact 39 (f := .glo "Fault") rfl)
    g_Spare := He.glo_ok X G (c.1.fact 40 (f := .glo "Spare") rfl)
    g_Number := He.glo_ok X G (c.1.fact 41 (f := .glo "Number") rfl)
    g_Maybe := He.glo_ok X G (c.1.fact 42 (f := .glo "Maybe") rfl)
    g_One := He.glo_ok X G (c.1.fact 43 (f := .glo "One") rfl)
    g_Row := He.glo_ok X G (c.1.fact 44 (f := .glo "Row") rfl)
    g_Many := He.glo_ok X G (c.1.fact 45 (f := .glo "Many") rfl)
    g_Field := He.glo_ok X G (c.1.fact 46 (f := .glo "Field") rfl)
    g_Record := He.glo_ok X G (c.1.fact 47 (f := .glo "Record") rfl)
    g_Token := He.glo_ok X G (c.1.fact 48 (f := .glo "Token") rfl)
    g_Reader := He.glo_ok X G (c.1.fact 49 (f := .glo "Reader") rfl)
    g_NotSuchBytes := He.glo_ok X G (c.1.fact 50 (f := .glo "NotSuchBytes") rfl)
    g_Holder := He.glo_ok X G (c.1.fact 51 (f := .glo "Holder") rfl)
    f_len := He.free_ok X G (c.1.fact 52 (f := .free "len") rfl)
    f_sum := He.free_ok X G (c.1.fact 53 (f := .free "sum") rfl)
    f_max := He.free_ok X G (c.1.fact 54 (f := .free "max") rfl)
    f_range := He.free_ok X G (c.1.fact 55 (f := .free "range") rfl)
    f_enumerate := He.free_ok X G (c.1.fact 56 (f := .free "enumerate") rfl)
    f_zip := He.free_ok X G (c.1.fact 57 (f := .free "zip") rfl)
    f_reversed := He.free_ok X G (c.1.fact 58 (f := .free "reversed") rfl)
    f_str := He.free_ok X G (c.1.fact 59 (f := .free "str") rfl)
    f_int := He.free_ok X G (c.1.fact 60 (f := .free "int") rfl)
    f_ord := He.free_ok X G (c.1.fact 61 (f := .free "ord") rfl)
    f_Exception := He.free_ok X G (c.1.fact 62 (f := .free "Exception") rfl)
    t_LETTERS := (let ⟨t, e⟩ := He.str_ok X G (c.1.fact 63 (f := .str "LETTERS" "abcdefghijklmnopqrstuvwxyzABCDEFGHIJKLMNOPQRSTUVWXYZ") rfl); ⟨_, e, t, rfl⟩)
    t_DIGITS := (let ⟨t, e⟩ := He.str_ok X G (c.1.fact 64 (f := .str "DIGITS" "0123456789") rfl); ⟨_, e, t, rfl⟩)
    t_SIGNS := (let ⟨t, e⟩ := He.str_ok X G (c.1.fact 65 (f := .str "SIGNS" "{},;:-.") rfl); ⟨_, e, t, rfl⟩)
    i_LONGEST_NAME := (let ⟨t, e⟩ := He.int_ok X G (c.1.fact 66 (f := .int "LONGEST_NAME" (16)) rfl); ⟨_, e, t, rfl⟩)
    i_GREATEST_NUMBER := (let ⟨t, e⟩ := He.int_ok X G (c.1.fact 67 (f := .int "GREATEST_NUMBER" (1000000000)) rfl); ⟨_, e, t, rfl⟩)
    i_MOST_DIGITS := (let ⟨t, e⟩ := He.int_ok X G (c.1.fact 68 (f := .int "MOST_DIGITS" (10)) rfl); ⟨_, e, t, rfl⟩)
    i_LONGEST_TEXT := (let ⟨t, e⟩ := He.int_ok X G (c.1.fact 69 (f := .int "LONGEST_TEXT" (4096)) rfl); ⟨_, e, t, rfl⟩)
    i_LONGEST_ONE_FORM := (let ⟨t, e⟩ := He.int_ok X G (c.1.fact 70 (f := .int "LONGEST_ONE_FORM" (4096)) rfl); ⟨_, e, t, rfl⟩)
    i_MOST_RECORDS := (let ⟨t, e⟩ := He.int_ok X G (c.1.fact 71 (f := .int "MOST_RECORDS" (6)) rfl); ⟨_, e, t, rfl⟩)
    i_MOST_LEAVES := (let ⟨t, e⟩ := He.int_ok X G (c.1.fact 72 (f := .int "MOST_LEAVES" (24)) rfl); ⟨_, e, t, rfl⟩)
    i_MOST_DEEP := (let ⟨t, e⟩ := He.int_ok X G (c.1.fact 73 (f := .int "MOST_DEEP" (6)) rfl); ⟨_, e, t, rfl⟩)
    i_FEWEST_ALTERNATIVES := (let ⟨t, e⟩ := He.int_ok X G (c.1.fact 74 (f := .int "FEWEST_ALTERNATIVES" (2)) rfl); ⟨_, e, t, rfl⟩)
    i_MOST_ALTERNATIVES := (let ⟨t, e⟩ := He.int_ok X G (c.1.fact 75 (f := .int "MOST_ALTERNATIVES" (4)) rfl); ⟨_, e, t, rfl⟩)
    i_MOST_TIMES := (let ⟨t, e⟩ := He.int_ok X G (c.1.fact 76 (f := .int "MOST_TIMES" (8)) rfl); ⟨_, e, t, rfl⟩)
    i_HOTTEST := (let ⟨t, e⟩ := He.int_ok X G (c.1.fact 77 (f := .int "HOTTEST" (1000)) rfl); ⟨_, e, t, rfl⟩)
    i_GREATEST_VALUE := (let ⟨t, e⟩ := He.int_ok X G (c.1.fact 78 (f := .int "GREATEST_VALUE" (1000000)) rfl); ⟨_, e, t, rfl⟩)
    i_LOAD := (let ⟨t, e⟩ := He.int_ok X G (c.1.fact 79 (f := .int "LOAD" (0)) rfl); ⟨_, e, t, rfl⟩)
    i_SIZES := (let ⟨t, e⟩ := He.int_ok X G (c.1.fact 80 (f := .int "SIZES" (1)) rfl); ⟨_, e, t, rfl⟩)
    i_NICHE := (let ⟨t, e⟩ := He.int_ok X G (c.1.fact 81 (f := .int "NICHE" (2)) rfl); ⟨_, e, t, rfl⟩)
    i_ENC := (let ⟨t, e⟩ := He.int_ok X G (c.1.fact 82 (f := .int "ENC" (3)) rfl); ⟨_, e, t, rfl⟩)
    i_DEC := (let ⟨t, e⟩ := He.int_ok X G (c.1.fact 83 (f := .int "DEC" (4)) rfl); ⟨_, e, t, rfl⟩)
    i_PACK := (let ⟨t, e⟩ := He.int_ok X G (c.1.fact 84 (f := .int "PACK" (5)) rfl); ⟨_, e, t, rfl⟩)
    i_RANK := (let ⟨t, e⟩ := He.int_ok X G (c.1.fact 85 (f := .int "RANK" (7)) rfl); ⟨_, e, t, rfl⟩)
    i_NO_RECORDS := (let ⟨t, e⟩ := He.int_ok X G (c.1.fact 86 (f := .int "NO_RECORDS" (-1)) rfl); ⟨_, e, t, rfl⟩)
    i_NO_SUCH_RECORD := (let ⟨t, e⟩ := He.int_ok X G (c.1.fact 87 (f := .int "NO_SUCH_RECORD" (-2)) rfl); ⟨_, e, t, rfl⟩)
    i_NO_SUCH_VALUE := (let ⟨t, e⟩ := He.int_ok X G (c.1.fact 88 (f := .int "NO_SUCH_VALUE" (-4)) rfl); ⟨_, e, t, rfl⟩)
    i_NO_SUCH_BYTES := (let ⟨t, e⟩ := He.int_ok X G (c.1.fact 89 (f := .int "NO_SUCH_BYTES" (-5)) rfl); ⟨_, e, t, rfl⟩)
    cl_Cursor := He.cls_ok (c.1.fact 90 (f := .cls "Cursor") rfl)
    mk_Cursor := He.mkr_ok (c.1.fact 91 (f := .mkr "Cursor") rfl)
    na_Cursor_numbers := He.noat_ok (c.1.fact 92 (f := .noat "Cursor" "numbers") rfl)
    na_Cursor_place := He.noat_ok (c.1.fact 93 (f := .noat "Cursor" "place") rfl)
    me_Cursor_draw := He.meth_ok (c.1.fact 94 (f := .meth "Cursor" "draw") rfl)
    me_Cursor_end := He.meth_ok (c.1.fact 95 (f := .meth "Cursor" "end") rfl)
    me_Cursor_ended := He.meth_ok (c.1.fact 96 (f := .meth "Cursor" "ended") rfl)
    cl_Spare := He.cls_ok (c.1.fact 97 (f := .cls "Spare") rfl)
    mk_Spare := He.mkr_ok (c.1.fact 98 (f := .mkr "Spare") rfl)
    na_Spare_at := He.noat_ok (c.1.fact 99 (f := .noat "Spare" "at") rfl)
    na_Spare_width := He.noat_ok (c.1.fact 100 (f := .noat "Spare" "width") rfl)
    na_Spare_first := He.noat_ok (c.1.fact 101 (f := .noat "Spare" "first") rfl)
    na_Spare_left := He.noat_ok (c.1.fact 102 (f := .noat "Spare" "left") rfl)
    me_Spare_moved := He.meth_ok (c.1.fact 103 (f := .meth "Spare" "moved") rfl)
    me_Spare_without := He.meth_ok (c.1.fact 104 (f := .meth "Spare" "without") rfl)
    me_Spare_bits_with := He.meth_ok (c.1.fact 105 (f := .meth "Spare" "bits_with") rfl)
    cl_Number := He.cls_ok (c.1.fact 106 (f := .cls "Number") rfl)
    mk_Number := He.mkr_ok (c.1.fact 107 (f := .mkr "Number") rfl)
    na_Number_first := He.noat_ok (c.1.fact 108 (f := .noat "Number" "first") rfl)
    na_Number_last := He.noat_ok (c.1.fact 109 (f := .noat "Number" "last") rfl)
    na_Number_align := He.noat_ok (c.1.fact 110 (f := .noat "Number" "align") rfl)
    na_Number_leaves := He.noat_ok (c.1.fact 111 (f := .noat "Number" "leaves") rfl)
    na_Number_bits := He.noat_ok (c.1.fact 112 (f := .noat "Number" "bits") rfl)
    na_Number_spare := He.noat_ok (c.1.fact 113 (f := .noat "Number" "spare") rfl)
    na_Number_flat := He.noat_ok (c.1.fact 114 (f := .noat "Number" "flat") rfl)
    na_Number_shared := He.noat_ok (c.1.fact 115 (f := .noat "Number" "shared") rfl)
    me_Number_how_many := He.meth_ok (c.1.fact 116 (f := .meth "Number" "how_many") rfl)
    me_Number_one_form := He.meth_ok (c.1.fact 117 (f := .meth "Number" "one_form") rfl)
    me_Number_bits_told := He.meth_ok (c.1.fact 118 (f := .meth "Number" "bits_told") rfl)
    me_Number_number_told := He.meth_ok (c.1.fact 119 (f := .meth "Number" "number_told") rfl)
    me_Number_value_with := He.meth_ok (c.1.fact 120 (f := .meth "Number" "value_with") rfl)
    me_Number_value_at := He.meth_ok (c.1.fact 121 (f := .meth "Number" "value_at") rfl)
    cl_Maybe := He.cls_ok (c.1.fact 122 (f := .cls "Maybe") rfl)
    mk_Maybe := He.mkr_ok (c.1.fact 123 (f := .mkr "Maybe") rfl)
    na_Maybe_inner := He.noat_ok (c.1.fact 124 (f := .noat "Maybe" "inner") rfl)
    na_Maybe_leaves := He.noat_ok (c.1.fact 125 (f := .noat "Maybe" "leaves") rfl)
    na_Maybe_flat := He.noat_ok (c.1.fact 126 (f := .noat "Maybe" "flat") rfl)
    na_Maybe_shared := He.noat_ok (c.1.fact 127 (f := .noat "Maybe" "shared") rfl)
    na_Maybe_tagged := He.noat_ok (c.1.fact 128 (f := .noat "Maybe" "tagged") rfl)
    na_Maybe_bits := He.noat_ok (c.1.fact 129 (f := .noat "Maybe" "bits") rfl)
    na_Maybe_spare := He.noat_ok (c.1.fact 130 (f := .noat "Maybe" "spare") rfl)
    me_Maybe_how_many := He.meth_ok (c.1.fact 131 (f := .meth "Maybe" "how_many") rfl)
    me_Maybe_one_form := He.meth_ok (c.1.fact 132 (f := .meth "Maybe" "one_form") rfl)
    me_Maybe_bits_told := He.meth_ok (c.1.fact 133 (f := .meth "Maybe" "bits_told") rfl)
    me_Maybe_bits_of_nothing := He.meth_ok (c.1.fact 134 (f := .meth "Maybe" "bits_of_nothing") rfl)
    me_Maybe_number_told := He.meth_ok (c.1.fact 135 (f := .meth "Maybe" "number_told") rfl)
    me_Maybe_value_with := He.meth_ok (c.1.fact 136 (f := .meth "Maybe" "value_with") rfl)
    me_Maybe_value_at := He.meth_ok (c.1.fact 137 (f := .meth "Maybe" "value_at") rfl)
    cl_One := He.cls_ok (c.1.fact 138 (f := .cls "One") rfl)
    mk_One := He.mkr_ok (c.1.fact 139 (f := .mkr "One") rfl)
    na_One_names := He.noat_ok (c.1.fact 140 (f := .noat "One" "names") rfl)
    na_One_alternatives := He.noat_ok (c.1.fact 141 (f := .noat "One" "alternatives") rfl)
    na_One_tag := He.noat_ok (c.1.fact 142 (f := .noat "One" "tag") rfl)
    na_One_leaves := He.noat_ok (c.1.fact 143 (f := .noat "One" "leaves") rfl)
    na_One_flat := He.noat_ok (c.1.fact 144 (f := .noat "One" "flat") rfl)
    na_One_shared := He.noat_ok (c.1.fact 145 (f := .noat "One" "shared") rfl)
    na_One_carrier := He.noat_ok (c.1.fact 146 (f := .noat "One" "carrier") rfl)
    na_One_bits := He.noat_ok (c.1.fact 147 (f := .noat "One" "bits") rfl)
    na_One_spare := He.noat_ok (c.1.fact 148 (f := .noat "One" "spare") rfl)
    me_One_how_many := He.meth_ok (c.1.fact 149 (f := .meth "One" "how_many") rfl)
    me_One_one_form := He.meth_ok (c.1.fact 150 (f := .meth "One" "one_form") rfl)
    me_One_bits_told := He.meth_ok (c.1.fact 151 (f := .meth "One" "bits_told") rfl)
    me_One_bits_beside_carrier := He.meth_ok (c.1.fact 152 (f := .meth "One" "bits_beside_carrier") rfl)
    me_One_number_told := He.meth_ok (c.1.fact 153 (f := .meth "One" "number_told") rfl)
    me_One_value_with := He.meth_ok (c.1.fact 154 (f := .meth "One" "value_with") rfl)
    me_One_value_with_tag := He.meth_ok (c.1.fact 155 (f := .meth "One" "value_with_tag") rfl)
    me_One_value_at := He.meth_ok (c.1.fact 156 (f := .meth "One" "value_at") rfl)
    cl_Row := He.cls_ok (c.1.fact 157 (f := .cls "Row") rfl)
    mk_Row := He.mkr_ok (c.1.fact 158 (f := .mkr "Row") rfl)
    na_Row_parts := He.noat_ok (c.1.fact 159 (f := .noat "Row" "parts") rfl)
    na_Row_leaves := He.noat_ok (c.1.fact 160 (f := .noat "Row" "leaves") rfl)
    na_Row_flat := He.noat_ok (c.1.fact 161 (f := .noat "Row" "flat") rfl)
    na_Row_shared := He.noat_ok (c.1.fact 162 (f := .noat "Row" "shared") rfl)
    na_Row_bits := He.noat_ok (c.1.fact 163 (f := .noat "Row" "bits") rfl)
    na_Row_spare := He.noat_ok (c.1.fact 164 (f := .noat "Row" "spare") rfl)
    me_Row_how_many := He.meth_ok (c.1.fact 165 (f := .meth "Row" "how_many") rfl)
    me_Row_bits_told := He.meth_ok (c.1.fact 166 (f := .meth "Row" "bits_told") rfl)
    me_Row_number_told := He.meth_ok (c.1.fact 167 (f := .meth "Row" "number_told") rfl)
    me_Row_value_with := He.meth_ok (c.1.fact 168 (f := .meth "Row" "value_with") rfl)
    me_Row_value_at := He.meth_ok (c.1.fact 169 (f := .meth "Row" "value_at") rfl)
    cl_Many := He.cls_ok (c.1.fact 170 (f := .cls "Many") rfl)
    mk_Many := He.mkr_ok (c.1.fact 171 (f := .mkr "Many") rfl)
    na_Many_parts := He.noat_ok (c.1.fact 172 (f := .noat "Many" "parts") rfl)
    na_Many_leaves := He.noat_ok (c.1.fact 173 (f := .noat "Many" "leaves") rfl)
    na_Many_flat := He.noat_ok (c.1.fact 174 (f := .noat "Many" "flat") rfl)
    na_Many_shared := He.noat_ok (c.1.fact 175 (f := .noat "Many" "shared") rfl)
    na_Many_bits := He.noat_ok (c.1.fact 176 (f := .noat "Many" "bits") rfl)
    na_Many_spare := He.noat_ok (c.1.fact 177 (f := .noat "Many" "spare") rfl)
    na_Many_times := He.noat_ok (c.1.fact 178 (f := .noat "Many" "times") rfl)
    na_Many_inner := He.noat_ok (c.1.fact 179 (f := .noat "Many" "inner") rfl)
    me_Many_how_many := He.meth_ok (c.1.fact 180 (f := .meth "Many" "how_many") rfl)
    me_Many_bits_told := He.meth_ok (c.1.fact 181 (f := .meth "Many" "bits_told") rfl)
    me_Many_number_told := He.meth_ok (c.1.fact 182 (f := .meth "Many" "number_told") rfl)
    me_Many_value_with := He.meth_ok (c.1.fact 183 (f := .meth "Many" "value_with") rfl)
    me_Many_value_at := He.meth_ok (c.1.fact 184 (f := .meth "Many" "value_at") rfl)
    me_Many_one_form := He.meth_ok (c.1.fact 185 (f := .meth "Many" "one_form") rfl)
    cl_Field := He.cls_ok (c.1.fact 186 (f := .cls "Field") rfl)
    mk_Field := He.mkr_ok (c.1.fact 187 (f := .mkr "Field") rfl)
    na_Field_name := He.noat_ok (c.1.fact 188 (f := .noat "Field" "name") rfl)
    na_Field_inner := He.noat_ok (c.1.fact 189 (f := .noat "Field" "inner") rfl)
    na_Field_hot := He.noat_ok (c.1.fact 190 (f := .noat "Field" "hot") rfl)
    me_Field_line := He.meth_ok (c.1.fact 191 (f := .meth "Field" "line") rfl)
    cl_Record := He.cls_ok (c.1.fact 192 (f := .cls "Record") rfl)
    mk_Record := He.mkr_ok (c.1.fact 193 (f := .mkr "Record") rfl)
    na_Record_parts := He.noat_ok (c.1.fact 194 (f := .noat "Record" "parts") rfl)
    na_Record_leaves := He.noat_ok (c.1.fact 195 (f := .noat "Record" "leaves") rfl)
    na_Record_flat := He.noat_ok (c.1.fact 196 (f := .noat "Record" "flat") rfl)
    na_Record_shared := He.noat_ok (c.1.fact 197 (f := .noat "Record" "shared") rfl)
    na_Record_bits := He.noat_ok (c.1.fact 198 (f := .noat "Record" "bits") rfl)
    na_Record_spare := He.noat_ok (c.1.fact 199 (f := .noat "Record" "spare") rfl)
    na_Record_name := He.noat_ok (c.1.fact 200 (f := .noat "Record" "name") rfl)
    na_Record_fields := He.noat_ok (c.1.fact 201 (f := .noat "Record" "fields") rfl)
    me_Record_how_many := He.meth_ok (c.1.fact 202 (f := .meth "Record" "how_many") rfl)
    me_Record_bits_told := He.meth_ok (c.1.fact 203 (f := .meth "Record" "bits_told") rfl)
    me_Record_number_told := He.meth_ok (c.1.fact 204 (f := .meth "Record" "number_told") rfl)
    me_Record_value_with := He.meth_ok (c.1.fact 205 (f := .meth "Record" "value_with") rfl)
    me_Record_value_at := He.meth_ok (c.1.fact 206 (f := .meth "Record" "value_at") rfl)
    me_Record_one_form := He.meth_ok (c.1.fact 207 (f := .meth "Record" "one_form") rfl)
    me_Record_lines := He.meth_ok (c.1.fact 208 (f := .meth "Record" "lines") rfl)
    cl_Token := He.cls_ok (c.1.fact 209 (f := .cls "Token") rfl)
    mk_Token := He.mkr_ok (c.1.fact 210 (f := .mkr "Token") rfl)
    na_Token_kind := He.noat_ok (c.1.fact 211 (f := .noat "Token" "kind") rfl)
    na_Token_text := He.noat_ok (c.1.fact 212 (f := .noat "Token" "text") rfl)
    na_Token_place := He.noat_ok (c.1.fact 213 (f := .noat "Token" "place") rfl)
    cl_Reader := He.cls_ok (c.1.fact 214 (f := .cls "Reader") rfl)
    mk_Reader := He.mkr_ok (c.1.fact 215 (f := .mkr "Reader") rfl)
    na_Reader_tokens := He.noat_ok (c.1.fact 216 (f := .noat "Reader" "tokens") rfl)
    na_Reader_place := He.noat_ok (c.1.fact 217 (f := .noat "Reader" "place") rfl)
    na_Reader_records := He.noat_ok (c.1.fact 218 (f := .noat "Reader" "records") rfl)
    me_Reader_look := He.meth_ok (c.1.fact 219 (f := .meth "Reader" "look") rfl)
    me_Reader_sees := He.meth_ok (c.1.fact 220 (f := .meth "Reader" "sees") rfl)
    me_Reader_take := He.meth_ok (c.1.fact 221 (f := .meth "Reader" "take") rfl)
    me_Reader_take_name := He.meth_ok (c.1.fact 222 (f := .meth "Reader" "take_name") rfl)
    me_Reader_take_number := He.meth_ok (c.1.fact 223 (f := .meth "Reader" "take_number") rfl)
    cl_Holder := He.cls_ok (c.1.fact 224 (f := .cls "Holder") rfl)
    mk_Holder := He.mkr_ok (c.1.fact 225 (f := .mkr "Holder") rfl)
    na_Holder_records := He.noat_ok (c.1.fact 226 (f := .noat "Holder" "records") rfl)
    me_Holder_answer := He.meth_ok (c.1.fact 227 (f := .meth "Holder" "answer") rfl)
    me_Holder_load := He.meth_ok (c.1.fact 228 (f := .meth "Holder" "load") rfl)
    d_Fault_init := c.1.def_ 0 (d := dOf ("Fault", some "__init__") "__init__" "Fault.__init__" (inClass (top 4) 0)) rfl
    d_bits_for := c.1.def_ 1 (d := dOf ("bits_for", none) "bits_for" "bits_for" (top 6)) rfl
    d_codes_to_spare := c.1.def_ 2 (d := dOf ("codes_to_spare", none) "codes_to_spare" "codes_to_spare" (top 8)) rfl
    d_nothing_spare := c.1.def_ 3 (d := dOf ("nothing_spare", none) "nothing_spare" "nothing_spare" (top 9)) rfl
    d_greatest_spare := c.1.def_ 4 (d := dOf ("greatest_spare", none) "greatest_spare" "greatest_spare" (top 10)) rfl
    d_carrier_of := c.1.def_ 5 (d := dOf ("carrier_of", none) "carrier_of" "carrier_of" (top 15)) rfl
    d_tokens_of := c.1.def_ 6 (d := dOf ("tokens_of", none) "tokens_of" "tokens_of" (top 29)) rfl
    d_signs_of := c.1.def_ 7 (d := dOf ("signs_of", none) "signs_of" "signs_of" (top 30)) rfl
    d_remark_end := c.1.def_ 8 (d := dOf ("remark_end", none) "remark_end" "remark_end" (top 31)) rfl
    d_token_at := c.1.def_ 9 (d := dOf ("token_at", none) "token_at" "token_at" (top 32)) rfl
    d_word_at := c.1.def_ 10 (d := dOf ("word_at", none) "word_at" "word_at" (top 33)) rfl
    d_number_at := c.1.def_ 11 (d := dOf ("number_at", none) "number_at" "number_at" (top 34)) rfl
    d_run_at := c.1.def_ 12 (d := dOf ("run_at", none) "run_at" "run_at" (top 35)) rfl
    d_records_of := c.1.def_ 13 (d := dOf ("records_of", none) "records_of" "records_of" (top 49)) rfl
    d_read_record := c.1.def_ 14 (d := dOf ("read_record", none) "read_record" "read_record" (top 50)) rfl
    d_read_field := c.1.def_ 15 (d := dOf ("read_field", none) "read_field" "read_field" (top 51)) rfl
    d_read_kind := c.1.def_ 16 (d := dOf ("read_kind", none) "read_kind" "read_kind" (top 52)) rfl
    d_read_number := c.1.def_ 17 (d := dOf ("read_number", none) "read_number" "read_number" (top 53)) rfl
    d_read_value := c.1.def_ 18 (d := dOf ("read_value", none) "read_value" "read_value" (top 54)) rfl
    d_read_last := c.1.def_ 19 (d := dOf ("read_last", none) "read_last" "read_last" (top 55)) rfl
    d_read_align := c.1.def_ 20 (d := dOf ("read_align", none) "read_align" "read_align" (top 56)) rfl
    d_read_one := c.1.def_ 21 (d := dOf ("read_one", none) "read_one" "read_one" (top 57)) rfl
    d_read_named := c.1.def_ 22 (d := dOf ("read_named", none) "read_named" "read_named" (top 58)) rfl
    d_room_for := c.1.def_ 23 (d := dOf ("room_for", none) "room_for" "room_for" (top 61)) rfl
    d_bytes_told := c.1.def_ 24 (d := dOf ("bytes_told", none) "bytes_told" "bytes_told" (top 62)) rfl
    d_number_read := c.1.def_ 25 (d := dOf ("number_read", none) "number_read" "number_read" (top 63)) rfl
    d_answers := c.1.def_ 26 (d := dOf ("answers", none) "answers" "answers" (top 78)) rfl
    d_split_calls := c.1.def_ 27 (d := dOf ("split_calls", none) "split_calls" "split_calls" (top 79)) rfl
    d_answer_of_record := c.1.def_ 28 (d := dOf ("answer_of_record", none) "answer_of_record" "answer_of_record" (top 81)) rfl
    d_told_of_record := c.1.def_ 29 (d := dOf ("told_of_record", none) "told_of_record" "told_of_record" (top 82)) rfl
    d_sizes := c.1.def_ 30 (d := dOf ("sizes", none) "sizes" "sizes" (top 83)) rfl
    d_packed_bits := c.1.def_ 31 (d := dOf ("packed_bits", none) "packed_bits" "packed_bits" (top 84)) rfl
    d_niche := c.1.def_ 32 (d := dOf ("niche", none) "niche" "niche" (top 85)) rfl
    d_enc := c.1.def_ 33 (d := dOf ("enc", none) "enc" "enc" (top 86)) rfl
    d_dec := c.1.def_ 34 (d := dOf ("dec", none) "dec" "dec" (top 87)) rfl
    d_pack := c.1.def_ 35 (d := dOf ("pack", none) "pack" "pack" (top 88)) rfl
    d_unpack := c.1.def_ 36 (d := dOf ("unpack", none) "unpack" "unpack" (top 89)) rfl
    d_rank := c.1.def_ 37 (d := dOf ("rank", none) "rank" "rank" (top 90)) rfl
    d_Cursor_init := c.1.def_ 38 (d := dOf ("Cursor", some "__init__") "__init__" "Cursor.__init__" (inClass (top 2) 0)) rfl
    d_Cursor_draw := c.1.def_ 39 (d := dOf ("Cursor", some "draw") "draw" "Cursor.draw" (inClass (top 2) 1)) rfl
    d_Cursor_end := c.1.def_ 40 (d := dOf ("Cursor", some "end") "end" "Cursor.end" (inClass (top 2) 2)) rfl
    d_Cursor_ended := c.1.def_ 41 (d := dOf ("Cursor", some "ended") "ended" "Cursor.ended" (inClass (top 2) 3)) rfl
    d_Spare_init := c.1.def_ 42 (d := dOf ("Spare", some "__init__") "__init__" "Spare.__init__" (inClass (top 7) 0)) rfl
    d_Spare_moved := c.1.def_ 43 (d := dOf ("Spare", some "moved") "moved" "Spare.moved" (inClass (top 7) 1)) rfl
    d_Spare_without := c.1.def_ 44 (d := dOf ("Spare", some "without") "without" "Spare.without" (inClass (top 7) 2)) rfl
    d_Spare_bits_with := c.1.def_ 45 (d := dOf ("Spare", some "bits_with") "bits_with" "Spare.bits_with" (inClass (top 7) 3)) rfl
    d_Number_init := c.1.def_ 46 (d := dOf ("Number", some "__init__") "__init__" "Number.__init__" (inClass (top 12) 0)) rfl
    d_Number_how_many := c.1.def_ 47 (d := dOf ("Number", some "how_many") "how_many" "Number.how_many" (inClass (top 12) 1)) rfl
    d_Number_one_form := c.1.def_ 48 (d := dOf ("Number", some "one_form") "one_form" "Number.one_form" (inClass (top 12) 2)) rfl
    d_Number_bits_told := c.1.def_ 49 (d := dOf ("Number", some "bits_told") "bits_told" "Number.bits_told" (inClass (top 12) 3)) rfl
    d_Number_number_told := c.1.def_ 50 (d := dOf ("Number", some "number_told") "number_told" "Number.number_told" (inClass (top 12) 4)) rfl
    d_Number_value_with := c.1.def_ 51 (d := dOf ("Number", some "value_with") "value_with" "Number.value_with" (inClass (top 12) 5)) rfl
    d_Number_value_at := c.1.def_ 52 (d := dOf ("Number", some "value_at") "value_at" "Number.value_at" (inClass (top 12) 6)) rfl
    d_Maybe_init := c.1.def_ 53 (d := dOf ("Maybe", some "__init__") "__init__" "Maybe.__init__" (inClass (top 13) 0)) rfl
    d_Maybe_how_many := c.1.def_ 54 (d := dOf ("Maybe", some "how_many") "how_many" "Maybe.how_many" (inClass (top 13) 1)) rfl
    d_Maybe_one_form := c.1.def_ 55 (d := dOf ("Maybe", some "one_form") "one_form" "Maybe.one_form" (inClass (top 13) 2)) rfl
    d_Maybe_bits_told := c.1.def_ 56 (d := dOf ("Maybe", some "bits_told") "bits_told" "Maybe.bits_told" (inClass (top 13) 3)) rfl
    d_Maybe_bits_of_nothing := c.1.def_ 57 (d := dOf ("Maybe", some "bits_of_nothing") "bits_of_nothing" "Maybe.bits_of_nothing" (inClass (top 13) 4)) rfl
    d_Maybe_number_told := c.1.def_ 58 (d := dOf ("Maybe", some "number_told") "number_told" "Maybe.number_told" (inClass (top 13) 5)) rfl
    d_Maybe_value_with := c.1.def_ 59 (d := dOf ("Maybe", some "value_with") "value_with" "Maybe.value_with" (inClass (top 13) 6)) rfl
    d_Maybe_value_at := c.1.def_ 60 (d := dOf ("Maybe", some "value_at") "value_at" "Maybe.value_at" (inClass (top 13) 7)) rfl
    d_One_init := c.1.def_ 61 (d := dOf ("One", some "__init__") "__init__" "One.__init__" (inClass (top 14) 0)) rfl
    d_One_how_many := c.1.def_ 62 (d := dOf ("One", some "how_many") "how_many" "One.how_many" (inClass (top 14) 1)) rfl
    d_One_one_form := c.1.def_ 63 (d := dOf ("One", some "one_form") "one_form" "One.one_form" (inClass (top 14) 2)) rfl
    d_One_bits_told := c.1.def_ 64 (d := dOf ("One", some "bits_told") "bits_told" "One.bits_told" (inClass (top 14) 3)) rfl
    d_One_bits_beside_carrier := c.1.def_ 65 (d := dOf ("One", some "bits_beside_carrier") "bits_beside_carrier" "One.bits_beside_carrier" (inClass (top 14) 4)) rfl
    d_One_number_told := c.1.def_ 66 (d := dOf ("One", some "number_told") "number_told" "One.number_told" (inClass (top 14) 5)) rfl
    d_One_value_with := c.1.def_ 67 (d := dOf ("One", some "value_with") "value_with" "One.value_with" (inClass (top 14) 6)) rfl
    d_One_value_with_tag := c.1.def_ 68 (d := dOf ("One", some "value_with_tag") "value_with_tag" "One.value_with_tag" (inClass (top 14) 7)) rfl
    d_One_value_at := c.1.def_ 69 (d := dOf ("One", some "value_at") "value_at" "One.value_at" (inClass (top 14) 8)) rfl
    d_Row_init := c.1.def_ 70 (d := dOf ("Row", some "__init__") "__init__" "Row.__init__" (inClass (top 16) 0)) rfl
    d_Row_how_many := c.1.def_ 71 (d := dOf ("Row", some "how_many") "how_many" "Row.how_many" (inClass (top 16) 1)) rfl
    d_Row_bits_told := c.1.def_ 72 (d := dOf ("Row", some "bits_told") "bits_told" "Row.bits_told" (inClass (top 16) 2)) rfl
    d_Row_number_told := c.1.def_ 73 (d := dOf ("Row", some "number_told") "number_told" "Row.number_told" (inClass (top 16) 3)) rfl
    d_Row_value_with := c.1.def_ 74 (d := dOf ("Row", some "value_with") "value_with" "Row.value_with" (inClass (top 16) 4)) rfl
    d_Row_value_at := c.1.def_ 75 (d := dOf ("Row", some "value_at") "value_at" "Row.value_at" (inClass (top 16) 5)) rfl
    d_Many_init := c.1.def_ 76 (d := dOf ("Many", some "__init__") "__init__" "Many.__init__" (inClass (top 17) 0)) rfl
    d_Many_one_form := c.1.def_ 77 (d := dOf ("Many", some "one_form") "one_form" "Many.one_form" (inClass (top 17) 1)) rfl
    d_Field_init := c.1.def_ 78 (d := dOf ("Field", some "__init__") "__init__" "Field.__init__" (inClass (top 18) 0)) rfl
    d_Field_line := c.1.def_ 79 (d := dOf ("Field", some "line") "line" "Field.line" (inClass (top 18) 1)) rfl
    d_Record_init := c.1.def_ 80 (d := dOf ("Record", some "__init__") "__init__" "Record.__init__" (inClass (top 19) 0)) rfl
    d_Record_one_form := c.1.def_ 81 (d := dOf ("Record", some "one_form") "one_form" "Record.one_form" (inClass (top 19) 1)) rfl
    d_Record_lines := c.1.def_ 82 (d := dOf ("Record", some "lines") "lines" "Record.lines" (inClass (top 19) 2)) rfl
    d_Token_init := c.1.def_ 83 (d := dOf ("Token", some "__init__") "__init__" "Token.__init__" (inClass (top 28) 0)) rfl
    d_Reader_init := c.1.def_ 84 (d := dOf ("Reader", some "__init__") "__init__" "Reader.__init__" (inClass (top 48) 0)) rfl
    d_Reader_look := c.1.def_ 85 (d := dOf ("Reader", some "look") "look" "Reader.look" (inClass (top 48) 1)) rfl
    d_Reader_sees := c.1.def_ 86 (d := dOf ("Reader", some "sees") "sees" "Reader.sees" (inClass (top 48) 2)) rfl
    d_Reader_take := c.1.def_ 87 (d := dOf ("Reader", some "take") "take" "Reader.take" (inClass (top 48) 3)) rfl
    d_Reader_take_name := c.1.def_ 88 (d := dOf ("Reader", some "take_name") "take_name" "Reader.take_name" (inClass (top 48) 4)) rfl
    d_Reader_take_number := c.1.def_ 89 (d := dOf ("Reader", some "take_number") "take_number" "Reader.take_number" (inClass (top 48) 5)) rfl
    d_Holder_init := c.1.def_ 90 (d := dOf ("Holder", some "__init__") "__init__" "Holder.__init__" (inClass (top 80) 0)) rfl
    d_Holder_answer := c.1.def_ 91 (d := dOf ("Holder", some "answer") "answer" "Holder.answer" (inClass (top 80) 1)) rfl
    d_Holder_load := c.1.def_ 92 (d := dOf ("Holder", some "load") "load" "Holder.load" (inClass (top 80) 2)) rfl
end LY
set_option Elab.async false
set_option linter.all false
set_option maxRecDepth 100000
set_option maxHeartbeats 4000000
namespace LY
open PySem PySem.Spec PyProof.Rows L2
/-! ### from the facts: the errors, classes apart, constants -/
section
variable {K : PySem.W.Frag} {mg : Str → Option Value}
abbrev cNoValue (K : PySem.W.Frag) : Addr := He.ga K "NoValue"
abbrev cNoBytes (K : PySem.W.Frag) : Addr := He.ga K "NotSuchBytes"
abbrev cFault (K : PySem.W.Frag) : Addr := He.ga K "Fault"
theorem b2 {a b : Bool} (h : (a && b) = true) : a = true ∧ b = true := Bool.and_eq_true_iff.mp h
structure ExtraIs (K : PySem.W.Frag) : Prop where
  inh : inh K = true
  e1 : plainErr K "NoValue" = true
  e2 : plainErr K "NotSuchBytes" = true
  flt : faultIs K (cFault K) (He.ma K (cFault K) "__init__") = true
  apart : apart K clsNames = true
  x1 : PySem.W.exmOne K (.ref (cNoValue K)) (.ref (cNoValue K)) = some true
  x2 : PySem.W.exmOne K (.ref (cNoBytes K)) (.ref (cNoBytes K)) = some true
  x3 : PySem.W.exmOne K (.ref (cNoValue K)) (.ref (cNoBytes K)) = some false
  words : He.tupB K "WORDS" [.str "record", .str "from", .str "to", .str "at", .str "maybe", .str "many", .str "one", .str "hot", .str "layout", .str "size", .str "of"] = true
  aligns : He.tupB K "ALIGNS" [.int 1, .int 2, .int 4, .int 8, .int 16, .int 32] = true
  cor : He.tupB K "CALLS_OF_A_RECORD" [.int 1, .int 2, .int 3, .int 4, .int 5, .int 6] = true
  cwr : He.tupB K "CALLS_WITH_A_ROW" [.int 0, .int 3, .int 4, .int 5, .int 6] = true
  glo : extra.Fa4 K = true
  exi : isVal (PySem.W.findCls K (.type "Exception") (.type "type") "__init__") (.builtin "Exception.__init__") = true
  rowi : isVal (PySem.W.findCls K (.ref (He.ga K "Row")) (.type "type") "__init__") (.ref (He.ma K (He.ga K "Row") "__init__")) = true
  rd : PySem.W.readsIn K (He.ga K "Row") (.type "type") = true
  sp : PySem.W.specialIn K (.ref (He.ga K "Row")) "__getattribute__" = some (some (.builtin "type.__getattribute__"))
theorem Txt.is (T : Txt K mg) : ExtraIs K := by
  obtain ⟨h0, h⟩ := b2 (show (inh K && _) = true from T.ex)
  obtain ⟨h1, h⟩ := b2 h
  obtain ⟨h2, h⟩ := b2 h
  obtain ⟨h3, h⟩ := b2 h
  obtain ⟨h4, h⟩ := b2 h
  obtain ⟨h5, h⟩ := b2 h
  obtain ⟨h6, h⟩ := b2 h
  obtain ⟨h7, h⟩ := b2 h
  obtain ⟨h8, h⟩ := b2 h
  obtain ⟨h9, h⟩ := b2 h
  obtain ⟨h10, h⟩ := b2 h
  obtain ⟨h11, h⟩ := b2 h
  obtain ⟨h12, h⟩ := b2 h
  obtain ⟨h13, h⟩ := b2 h
  obtain ⟨h14, h⟩ := b2 h
  obtain ⟨h15, h16⟩ := b2 h
  exact ⟨h0, h1, h2, h3, h4, of_decide_eq_true h5, of_decide_eq_true h6, of_decide_eq_true h7, h8, h9, h10, h11, h12, h13, h14, h15, of_decide_eq_true h16⟩
theorem isVal_ok {c : Option PySem.W.CFound} {u : Value} (h : isVal c u = true) : c = some (.val u) := by
  unfold isVal at h
  split at h
  · rw [of_decide_eq_true h]
  · cases h
theorem Txt.excInit (T : Txt K mg) : PySem.W.findCls K (.type "Exception") (.type "type") "__init__" = some (.val (.builtin "Exception.__init__")) := isVal_ok T.is.exi
theorem Txt.same_ma (T : Txt K mg) {c m : Str} (hc : c ∈ [("Many" : Str), "Record"]) (hm : m ∈ [("how_many" : Str), "bits_told", "number_told", "value_with", "value_at"]) : He.ma K (He.ga K c) m = He.ma K (He.ga K "Row") m :=
  beq_iff_eq.mp (List.all_eq_true.mp (List.all_eq_true.mp T.is.inh c hc) m hm)
theorem apart_ne : ∀ {l : List Str} (i j : Nat) {x y : Str}, apart K l = true → l[i]? = some x → l[j]? = some y → i < j → He.ga K x ≠ He.ga K y
  | [], i, j, x, y, _, h, _, _ => by simp at h
  | z :: r, 0, 0, x, y, _, _, _, h => absurd h (Nat.lt_irrefl _)
  | z :: r, i + 1, 0, x, y, _, _, _, h => absurd h (Nat.not_lt_zero _)
  | z :: r, 0, j + 1, x, y, h, h1, h2, _ => by
    obtain ⟨q, _⟩ := b2 (show ((r.all fun y => !(He.ga K z == He.ga K y)) && apart K r) = true from h)
    have e : z = x := Option.some.inj h1
    subst e
    have := List.all_eq_true.mp q y (List.mem_of_getElem? (show r[j]? = some y from h2))
    intro z
    rw [z] at this
    simp at this
  | z :: r, i + 1, j + 1, x, y, h, h1, h2, hl => apart_ne (l := r) i j (b2 (show ((r.all fun y => !(He.ga K z == He.ga K y)) && apart K r) = true from h)).2 h1 h2 (Nat.lt_of_succ_lt_succ hl)
theorem Txt.errs (T : Txt K mg) {x : Str} (h : plainErr K x = true) : PySem.W.excIn K (He.ga K x) excTail "Exception.__new__" = true ∧ PySem.W.keepIn K (.ref (He.ga K x)) = true ∧ PySem.W.subIn K (.ref (He.ga K x)) (.type "BaseException") = some true ∧ PySem.W.typeIn K (.ref (He.ga K x)) = some (.type "type") := by
  obtain ⟨h1, h⟩ := b2 h
  obtain ⟨h2, h⟩ := b2 h
  obtain ⟨h3, h4⟩ := b2 h
  exact ⟨h1, h2, of_decide_eq_true h3, of_decide_eq_true h4⟩
theorem Txt.mkNoValue (T : Txt K mg) {X : Cx} {p pos : Pos} (hK : X.K = K := by rfl) (hm : X.mg = mg := by rfl) (hg : Gl X "NoValue" := by rfl) : PMk X (.Call (.Name "NoValue" p) [] [] pos) (fun _ H Q => Q (.ref (cNoValue K)) none H) := by
  subst hK hm
  obtain ⟨h1, h2, h3, h4⟩ := T.errs T.is.e1
  exact pmk_own0 PySem.F.excBase_Exception h1 T.g_NoValue h2 (raises_own h3 h4) hg
theorem Txt.mkNotSuchBytes (T : Txt K mg) {X : Cx} {p pos : Pos} (hK : X.K = K := by rfl) (hm : X.mg = mg := by rfl) (hg : Gl X "NotSuchBytes" := by rfl) : PMk X (.Call (.Name "NotSuchBytes" p) [] [] pos) (fun _ H Q => Q (.ref (cNoBytes K)) none H) := by
  subst hK hm
  obtain ⟨h1, h2, h3, h4⟩ := T.errs T.is.e2
  exact pmk_own0 PySem.F.excBase_Exception h1 T.g_NotSuchBytes h2 (raises_own h3 h4) hg
structure FltIs (K : PySem.W.Frag) : Prop where
  c : FltC K (cFault K)
  code : PySem.W.findIn K (.ref (cFault K)) "code" = some none
  place : PySem.W.findIn K (.ref (cFault K)) "place" = some none
  ini : PySem.W.findIn K (.ref (cFault K)) "__init__" = some (some (.ref (He.ma K (cFault K) "__init__")))
  ty : PySem.W.typeIn K (.ref (He.ma K (cFault K) "__init__")) = some (.type "function")
  ga : PySem.W.findIn K (.ref (cFault K)) "__getattribute__" = some (some (.builtin "BaseException.__getattribute__"))
  gg : PySem.W.findIn K (.ref (cFault K)) "__getattr__" = some none
  hd : PySem.W.hasDictIn K (cFault K) = true
  te : PySem.W.exmOne K (.ref (cFault K)) (.ref (cFault K)) = some true
theorem faultCls_ok {C : Addr} (h : faultCls K C = true) : ∃ nm q N bs sn sub ab col dd k0 k1 k2 k3 k5, K.lookup C = some (excClassObj nm q C N bs LYX.exTail true sn sub ab col dd k0 k1 k2 k3 k5 "Exception.__new__") := by
  unfold faultCls at h
  split at h
  · rename_i dd cd sl ho
    split at h
    · rename_i c k0 k1 k2 k3 n k5 hm hs
      simp only [Bool.and_eq_true, beq_iff_eq, Bool.not_eq_true'] at h
      obtain ⟨rfl, rfl, hdel, hdct⟩ := h
      obtain ⟨nm, bs, mro, ns, qn, hd, sn, sub, ab, col, del⟩ := cd
      dsimp only at hm hdel hdct
      subst hm hdel hdct
      have hsl : sl = #[k0, k1, k2, k3, some (.builtin "Exception.__new__"), k5] := by
        obtain ⟨l⟩ := sl
        simp only at hs
        rw [hs]
      subst hsl
      exact ⟨nm, qn, ns, bs, sn, sub, ab, col, dd, k0, k1, k2, k3, k5, ho⟩
    · cases h
  · cases h
theorem Txt.fault (T : Txt K mg) : FltIs K := by
  obtain ⟨h0, h⟩ := b2 (show (faultCls K (cFault K) && _) = true from T.is.flt)
  obtain ⟨h1, h⟩ := b2 h
  obtain ⟨h2, h⟩ := b2 h
  obtain ⟨h3, h⟩ := b2 h
  obtain ⟨h4, h⟩ := b2 h
  obtain ⟨h5, h⟩ := b2 h
  obtain ⟨h6, h⟩ := b2 h
  obtain ⟨h7, h⟩ := b2 h
  obtain ⟨h8, h⟩ := b2 h
  obtain ⟨h9, h⟩ := b2 h
  obtain ⟨h10, h⟩ := b2 h
  obtain ⟨h11, h12⟩ := b2 h
  exact ⟨⟨faultCls_ok h0, He.eqO_ok h1, of_decide_eq_true h9, of_decide_eq_true h10, h8⟩, He.eqO_ok h4, He.eqO_ok h5, He.eqO_ok h6, of_decide_eq_true h7, He.eqO_ok h2, He.eqO_ok h3, h11, of_decide_eq_true h12⟩
theorem Txt.words (T : Txt K mg) (H : Hp) : SqT K H (He.ga K "WORDS") [.str "record", .str "from", .str "to", .str "at", .str "maybe", .str "many", .str "one", .str "hot", .str "layout", .str "size", .str "of"] := He.tupB_ok T.is.words H
theorem Txt.aligns (T : Txt K mg) (H : Hp) : SqT K H (He.ga K "ALIGNS") [.int 1, .int 2, .int 4, .int 8, .int 16, .int 32] := He.tupB_ok T.is.aligns H
theorem Txt.cor (T : Txt K mg) (H : Hp) : SqT K H (He.ga K "CALLS_OF_A_RECORD") [.int 1, .int 2, .int 3, .int 4, .int 5, .int 6] := He.tupB_ok T.is.cor H
theorem Txt.cwr (T : Txt K mg) (H : Hp) : SqT K H (He.ga K "CALLS_WITH_A_ROW") [.int 0, .int 3, .int 4, .int 5, .int 6] := He.tupB_ok T.is.cwr H
/-- what a tuple's name stands for -/
structure TupIs (K : PySem.W.Frag) (mg : Str → Option Value) (x : Str) : Prop where
  is : ∃ u, mg x = some u ∧ RelV (.ref (He.ga K x)) u
theorem Txt.tups {h : Heap} (X : K.In h) (G : h.Ns mainGlobals mg) (T : Txt K mg) : TupIs K mg "WORDS" ∧ TupIs K mg "ALIGNS" ∧ TupIs K mg "CALLS_OF_A_RECORD" ∧ TupIs K mg "CALLS_WITH_A_ROW" := by
  obtain ⟨h1, h⟩ := b2 (show (He.eqO _ _ && _) = true from T.is.glo)
  obtain ⟨h2, h⟩ := b2 h
  obtain ⟨h3, h4⟩ := b2 h
  exact ⟨⟨_, PySem.W.mg_of X G (He.eqO_ok h1), rfl⟩, ⟨_, PySem.W.mg_of X G (He.eqO_ok h2), rfl⟩, ⟨_, PySem.W.mg_of X G (He.eqO_ok h3), rfl⟩, ⟨_, PySem.W.mg_of X G (He.eqO_ok h4), rfl⟩⟩
end
/-! ### rules in one piece -/
theorem pasE {P : Program} {w : World} {X : Cx} {E : XK} (tk : Takes X (fun cls d _ H => E cls d H)) (hP : X.prog = P := by rfl) (hw : X.w = w := by rfl) (σ : L2.St) : PassesAt (L2.CX P w) X σ E := by
  subst hP hw
  exact fun pins H s e s' I c => passes_call tk (fun _ _ _ _ h => h) pins σ H s e s' I c
theorem ip_or {X : Cx} : PIp X .BitOr (rI0 fun i j => .int (Builtin.bitOr i j)) := fun pins s σ H x y u v Q I rx ry h => iop_or pins s σ H x y u v Q I rx ry h
theorem ip_mulX {X : Cx} : PIp X .Mult (rI CMulX fun i j => .int (i * j)) := fun pins s σ H x y u v Q I rx ry h => (opI fun _ _ _ _ _ _ _ hc q => imul_int q hc.ok : OpR X (inplaceOp .Mult) (rI CMulX fun i j => .int (i * j))) pins s σ H x y u v Q I rx ry h
theorem ip_addS {X : Cx} : PIp X .Add (fun x y H Q => ∃ i j, x = .str i ∧ y = .str j ∧ i.length + j.length ≤ sizeLine ∧ Q (.str (i ++ j)) H) := fun pins s σ H x y u v Q I rx ry h => iop_add_str pins s σ H x y u v Q I rx ry h
/-! ### defs -/
section
variable {P : Program} {w : World} {K : PySem.W.Frag} {mg : Str → Option Value} {base : Heap}
/-- a def of the module, from its body -/
theorem mkC {CX : CXT} {x : Str} {st : Stmt} {N ps : List Str} {k : Nat} {sp : Sp} (g : mg x = some (.ref (He.ga K x))) (d : ∃ fd, FnP K x x st (He.fAd K (x, none)) fd) (S : FnScope N ps (defScope st)) (len : ∀ vs H Q E, sp vs H Q E → vs.length = ps.length)
    (b : ∀ (kV doc pm : Value) (an : Option Addr) (cdv ct : Value) (us : List Value), us.length = ps.length → bindArgs (PySem.W.fnOf x x (defArgs st) (defBody st) (defScope st) .none kV doc pm an cdv ct) ⟨us, []⟩ = pure (ps.zip us))
    (body : ∀ (cdv : Value) (A : Around) (outer : List Env) (s : Shared) (H : Hp) (vs : List V) (Q : VK) (E : XK), Room k (A.deeper (envOfC x (defScope st) s.heap.objs.size (He.ga K x) cdv)) → sp vs H Q E →
      ∃ t, PSs (cxOf CX P w K mg base N x (defScope st) (He.ga K x) cdv A outer s H E) (defBody st) t ∧ t { nx := fun _ H' => Q .non H', rt := Q } (start N vs) H) : COk P w K mg base CX (k + 1) x sp := by
  obtain ⟨fd, F⟩ := d
  exact ⟨_, fd, ps, k + 1, Nat.le_refl _, g, F.kp, FunD.ok F S len body, FunD.bindsN F b⟩
theorem mkM {CX : CXT} {c m q : Str} {st : Stmt} {N ps : List Str} {k : Nat} {sp : Sp} (cl : Cls K (He.ga K c)) (me : Meth K (He.ga K c) m (He.ma K (He.ga K c) m)) (d : ∃ fd, FnP K m q st (He.ma K (He.ga K c) m) fd) (S : FnScope N ps (defScope st)) (len : ∀ vs H Q E, sp vs H Q E → vs.length = ps.length)
    (b : ∀ (kV doc pm : Value) (an : Option Addr) (cdv ct : Value) (us : List Value), us.length = ps.length → bindArgs (PySem.W.fnOf m q (defArgs st) (defBody st) (defScope st) .none kV doc pm an cdv ct) ⟨us, []⟩ = pure (ps.zip us))
    (body : ∀ (cdv : Value) (A : Around) (outer : List Env) (s : Shared) (H : Hp) (vs : List V) (Q : VK) (E : XK), Room k (A.deeper (envOfC q (defScope st) s.heap.objs.size (He.ma K (He.ga K c) m) cdv)) → sp vs H Q E →
      ∃ t, PSs (cxOf CX P w K mg base N q (defScope st) (He.ma K (He.ga K c) m) cdv A outer s H E) (defBody st) t ∧ t { nx := fun _ H' => Q .non H', rt := Q } (start N vs) H) : MOk P w K mg base CX (k + 1) (He.ga K c) m sp := by
  obtain ⟨fd, F⟩ := d
  exact ⟨_, fd, ps, k + 1, Nat.le_refl _, cl, me, FunD.ok F S len body, FunD.bindsN F b⟩
theorem mkK {x q : Str} {st : Stmt} {N ps : List Str} {k : Nat} {sp : Sp} (g : mg x = some (.ref (He.ga K x))) (M : Mk K (He.ga K x) (He.ma K (He.ga K x) "__init__")) (d : ∃ fd, FnP K "__init__" q st (He.ma K (He.ga K x) "__init__") fd) (S : FnScope N ps (defScope st)) (len : ∀ vs H Q E, sp vs H Q E → vs.length = ps.length)
    (b : ∀ (kV doc pm : Value) (an : Option Addr) (cdv ct : Value) (us : List Value), us.length = ps.length → bindArgs (PySem.W.fnOf "__init__" q (defArgs st) (defBody st) (defScope st) .none kV doc pm an cdv ct) ⟨us, []⟩ = pure (ps.zip us))
    (body : ∀ (cdv : Value) (A : Around) (outer : List Env) (s : Shared) (H : Hp) (vs : List V) (Q : VK) (E : XK), Room k (A.deeper (envOfC q (defScope st) s.heap.objs.size (He.ma K (He.ga K x) "__init__") cdv)) → sp vs H Q E →
      ∃ t, PSs (cxOf CX0 P w K mg base N q (defScope st) (He.ma K (He.ga K x) "__init__") cdv A outer s H E) (defBody st) t ∧ t { nx := fun _ H' => Q .non H', rt := Q } (start N vs) H) : KOk P w K mg base (k + 2) x (He.ga K x) sp := by
  obtain ⟨fd, F⟩ := d
  exact ⟨_, fd, ps, k + 1, Nat.le_refl _, g, M, FunD.ok F S len body, FunD.bindsN F b⟩
end
end LY
set_option Elab.async false
set_option linter.all false
set_option maxRecDepth 100000
set_option maxHeartbeats 4000000
namespace LY
open PySem PySem.Spec PyProof.Rows L2
open Valaye (Niche)
/-! ### numbers, bits -/
theorem intBits_nat (n : Nat) : Builtin.Int.intBits (n : Int) = ML.bl n := by
  unfold ML.bl
  by_cases h : n = 0
  · subst h
    rfl
  · rw [if_neg h]
    show (if ((n : Int) == 0) = true then 0 else (n : Int).natAbs.log2 + 1) = _
    rw [if_neg (by simpa using h), Int.natAbs_natCast]
abbrev s_bits_for : Stmt := top 6
abbrev n_bits_for : List Str := ["codes"]
theorem sc_bits_for : FnScope n_bits_for ["codes"] (defScope s_bits_for) := ⟨rfl, rfl, rfl, by decide +kernel, rfl, by decide +kernel, by decide +kernel⟩

section
variable {P : Program} {w : World} {K : PySem.W.Frag} {mg : Str → Option Value} {base : Heap}
def spBitsFor : Sp := fun vs H Q _ => ∃ n : Nat, 1 ≤ n ∧ vs = [.int (n : Int)] ∧ Q (.int (ML.bl (n - 1) : Nat)) H
theorem ok_bits_for (T : Txt K mg) : COk P w K mg base CX0 1 "bits_for" spBitsFor :=
  mkC T.g_bits_for T.d_bits_for sc_bits_for (fun vs H Q E h => by obtain ⟨n, _, rfl, _⟩ := h; rfl) (fun _ _ _ _ _ _ us hl => match us, hl with | [_], _ => rfl) fun cdv A outer s H vs Q E hr h => by
    obtain ⟨n, h1, rfl, k⟩ := h
    refine ⟨_, PSs.nox (pss_one (ps_ret (by exact (pe_bits (pe_op op_sub (pv 0) pe_int))))), ?_⟩
    refine ⟨_, rfl, _, _, rfl, rfl, _, rfl, ?_⟩
    have e : ((n : Int) - 1) = ((n - 1 : Nat) : Int) := by omega
    rw [e, intBits_nat]
    exact k
/-! ### spare values -/
abbrev cSpare (K : PySem.W.Frag) : Addr := He.ga K "Spare"
def spF (x : Niche) : List (Str × V) := [("at", .int x.off), ("width", .int x.w), ("first", .int x.first), ("left", .int x.n)]
/-- a spare's object -/
def SpAt (K : PySem.W.Frag) (H : Hp) (a : Addr) (x : Niche) : Prop := ∃ dx, H a = some (.ins (cSpare K) dx (spF x))
theorem SpAt.same {H H' : Hp} {a : Addr} {x : Niche} (h : SpAt K H a x) (s : Same H H') : SpAt K H' a x := by
  obtain ⟨dx, e⟩ := h
  exact ⟨dx, s _ _ e⟩
def spSpInit (K : PySem.W.Frag) : Sp := fun vs H Q _ => ∃ (p dx : Addr) (x : Niche), vs = [.ref p, .int x.off, .int x.w, .int x.first, .int x.n] ∧ H p = some (.ins (cSpare K) dx []) ∧
  ∀ H' : Hp, H' p = some (.ins (cSpare K) dx (spF x)) → (∀ b o, H b = some o → b ≠ p → H' b = some o) → Q .non H'
abbrev s_Spare_init : Stmt := inClass (top 7) 0
abbrev n_Spare_init : List Str := ["self", "at", "width", "first", "left"]
theorem sc_Spare_init : FnScope n_Spare_init ["self", "at", "width", "first", "left"] (defScope s_Spare_init) := ⟨rfl, rfl, rfl, by decide +kernel, rfl, by decide +kernel, by decide +kernel⟩
abbrev s_Spare_moved : Stmt := inClass (top 7) 1
abbrev n_Spare_moved : List Str := ["self", "by"]
theorem sc_Spare_moved : FnScope n_Spare_moved ["self", "by"] (defScope s_Spare_moved) := ⟨rfl, rfl, rfl, by decide +kernel, rfl, by decide +kernel, by decide +kernel⟩
abbrev s_Spare_without : Stmt := inClass (top 7) 2
abbrev n_Spare_without : List Str := ["self", "taken"]
theorem sc_Spare_without : FnScope n_Spare_without ["self", "taken"] (defScope s_Spare_without) := ⟨rfl, rfl, rfl, by decide +kernel, rfl, by decide +kernel, by decide +kernel⟩
abbrev s_Spare_bits_with : Stmt := inClass (top 7) 3
abbrev n_Spare_bits_with : List Str := ["self", "number"]
theorem sc_Spare_bits_with : FnScope n_Spare_bits_with ["self", "number"] (defScope s_Spare_bits_with) := ⟨rfl, rfl, rfl, by decide +kernel, rfl, by decide +kernel, by decide +kernel⟩
abbrev s_codes_to_spare : Stmt := top 8
abbrev n_codes_to_spare : List Str := ["width", "codes"]
theorem sc_codes_to_spare : FnScope n_codes_to_spare ["width", "codes"] (defScope s_codes_to_spare) := ⟨rfl, rfl, rfl, by decide +kernel, rfl, by decide +kernel, by decide +kernel⟩
abbrev s_nothing_spare : Stmt := top 9
abbrev n_nothing_spare : List Str := []
theorem sc_nothing_spare : FnScope n_nothing_spare [] (defScope s_nothing_spare) := ⟨rfl, rfl, rfl, by decide +kernel, rfl, by decide +kernel, by decide +kernel⟩
abbrev s_greatest_spare : Stmt := top 10
abbrev n_greatest_spare : List Str := ["parts", "greatest", "offset", "part"]
theorem sc_greatest_spare : FnScope n_greatest_spare ["parts"] (defScope s_greatest_spare) := ⟨rfl, rfl, rfl, by decide +kernel, rfl, by decide +kernel, by decide +kernel⟩

theorem put_sp (x : Niche) : putF "left" (.int x.n) (putF "first" (.int x.first) (putF "width" (.int x.w) (putF "at" (.int x.off) []))) = spF x := by rfl
theorem ok_Spare (T : Txt K mg) : KOk P w K mg base 2 "Spare" (cSpare K) (spSpInit K) :=
  mkK T.g_Spare T.mk_Spare T.d_Spare_init sc_Spare_init (fun vs H Q E h => by obtain ⟨p, dx, x, rfl, _⟩ := h; rfl) (fun _ _ _ _ _ _ us hl => match us, hl with | [_, _, _, _, _], _ => rfl) fun cdv A outer s H vs Q E hr h => by
    obtain ⟨p, dx, x, rfl, hp, k⟩ := h
    refine ⟨_, PSs.nox (pss_cons (ps_fld (pv 0) (pv 1) rfl)
      (pss_cons (ps_fld (pv 0) (pv 2) rfl)
      (pss_cons (ps_fld (pv 0) (pv 3) rfl)
      (pss_one (ps_fld (pv 0) (pv 4) rfl))))), ?_⟩
    refine ⟨_, rfl, _, rfl, p, cSpare K, dx, [], rfl, hp, T.cl_Spare, T.na_Spare_at, (by show 0 < 1000; decide), ?_⟩
    refine ⟨_, rfl, _, rfl, p, cSpare K, dx, _, rfl, upd_same, T.cl_Spare, T.na_Spare_width, (by show 1 < 1000; decide), ?_⟩
    refine ⟨_, rfl, _, rfl, p, cSpare K, dx, _, rfl, upd_same, T.cl_Spare, T.na_Spare_first, (by show 2 < 1000; decide), ?_⟩
    refine ⟨_, rfl, _, rfl, p, cSpare K, dx, _, rfl, upd_same, T.cl_Spare, T.na_Spare_left, (by show 3 < 1000; decide), ?_⟩
    refine k _ (upd_same.trans (congrArg (fun q => some (HO.ins (cSpare K) dx q)) (put_sp x))) fun b o e hb => ?_
    rw [upd_ne hb, upd_ne hb, upd_ne hb, upd_ne hb]
    exact e
/-- a spare made -/
theorem make_sp (T : Txt K mg) {H1 : Hp} {x : Niche} {Q : VK} (k : ∀ p H', H1 p = none → Same H1 H' → SpAt K H' p x → Q (.ref p) H') (a dx : Addr) (na : H1 a = none) (nd : H1 dx = none) (ne : dx ≠ a) :
    spSpInit K [.ref a, .int x.off, .int x.w, .int x.first, .int x.n] (upd (upd H1 dx (.own a)) a (.ins (cSpare K) dx [])) (fun v H2 => v = .non ∧ Q (.ref a) H2) E0 :=
  ⟨a, dx, x, rfl, upd_same, fun H' e kp => ⟨rfl, k a H' na (Same.made na nd kp) ⟨dx, e⟩⟩⟩
def spMoved (K : PySem.W.Frag) : Sp := fun vs H Q _ => ∃ (a : Addr) (x : Niche) (n : Nat), vs = [.ref a, .int n] ∧ SpAt K H a x ∧ ∀ p H', H p = none → Same H H' → SpAt K H' p (Valaye.moved n x) → Q (.ref p) H'
theorem ok_moved (T : Txt K mg) : MOk P w K mg base CX0 3 (cSpare K) "moved" (spMoved K) :=
  mkM T.cl_Spare T.me_Spare_moved T.d_Spare_moved sc_Spare_moved (fun vs H Q E h => by obtain ⟨a, x, n, rfl, _⟩ := h; rfl) (fun _ _ _ _ _ _ us hl => match us, hl with | [_, _], _ => rfl) fun cdv A outer s H vs Q E hr h => by
    obtain ⟨a, x, n, rfl, ⟨dx, ha⟩, k⟩ := h
    refine ⟨_, PSs.nox (pss_one (ps_ret (by exact (pe_kx hr (by exact (pa_cons (pe_op op_add (pe_fld (pv 0) (by rfl)) (pv 1)) (pa_cons (pe_fld (pv 0) (by rfl)) (pa_cons (pe_fld (pv 0) (by rfl)) (pa_cons (pe_fld (pv 0) (by rfl)) pa_nil))))))))), ?_⟩
    refine ⟨cSpare K, spSpInit K, ok_Spare T, ?_⟩
    refine ⟨_, rfl, a, _, dx, _, _, rfl, ha, T.cl_Spare, T.na_Spare_at, rfl, _, rfl, _, _, rfl, rfl, ?_⟩
    refine ⟨_, rfl, a, _, dx, _, _, rfl, ha, T.cl_Spare, T.na_Spare_width, rfl, ?_⟩
    refine ⟨_, rfl, a, _, dx, _, _, rfl, ha, T.cl_Spare, T.na_Spare_first, rfl, ?_⟩
    refine ⟨_, rfl, a, _, dx, _, _, rfl, ha, T.cl_Spare, T.na_Spare_left, rfl, ?_⟩
    exact make_sp T (x := Valaye.moved n x) k
def spWithout (K : PySem.W.Frag) : Sp := fun vs H Q _ => ∃ (a : Addr) (x : Niche) (n : Nat), vs = [.ref a, .int n] ∧ SpAt K H a x ∧ n ≤ x.n ∧ ∀ p H', H p = none → Same H H' → SpAt K H' p (Valaye.taken_ n x) → Q (.ref p) H'
theorem ok_without (T : Txt K mg) : MOk P w K mg base CX0 3 (cSpare K) "without" (spWithout K) :=
  mkM T.cl_Spare T.me_Spare_without T.d_Spare_without sc_Spare_without (fun vs H Q E h => by obtain ⟨a, x, n, rfl, _⟩ := h; rfl) (fun _ _ _ _ _ _ us hl => match us, hl with | [_, _], _ => rfl) fun cdv A outer s H vs Q E hr h => by
    obtain ⟨a, x, n, rfl, ⟨dx, ha⟩, hn, k⟩ := h
    refine ⟨_, PSs.nox (pss_one (ps_ret (by exact (pe_kx hr (by exact (pa_cons (pe_fld (pv 0) (by rfl)) (pa_cons (pe_fld (pv 0) (by rfl)) (pa_cons (pe_op op_add (pe_fld (pv 0) (by rfl)) (pv 1)) (pa_cons (pe_op op_sub (pe_fld (pv 0) (by rfl)) (pv 1)) pa_nil))))))))), ?_⟩
    refine ⟨cSpare K, spSpInit K, ok_Spare T, ?_⟩
    refine ⟨_, rfl, a, _, dx, _, _, rfl, ha, T.cl_Spare, T.na_Spare_at, rfl, ?_⟩
    refine ⟨_, rfl, a, _, dx, _, _, rfl, ha, T.cl_Spare, T.na_Spare_width, rfl, ?_⟩
    refine ⟨_, rfl, a, _, dx, _, _, rfl, ha, T.cl_Spare, T.na_Spare_first, rfl, _, rfl, _, _, rfl, rfl, ?_⟩
    refine ⟨_, rfl, a, _, dx, _, _, rfl, ha, T.cl_Spare, T.na_Spare_left, rfl, _, rfl, _, _, rfl, rfl, ?_⟩
    have m := make_sp T (x := Valaye.taken_ n x) k
    have e : ((Valaye.taken_ n x).n : Int) = (x.n : Int) - n := by
      show ((x.n - n : Nat) : Int) = _
      omega
    rw [e] at m
    exact m
def spBitsWith (K : PySem.W.Frag) : Sp := fun vs H Q _ => ∃ (a : Addr) (x : Niche) (n : Nat), vs = [.ref a, .int n] ∧ SpAt K H a x ∧ x.first + n < 2 ^ 1000 ∧ x.off ≤ 1000 ∧ Q (.int (Valaye.spareCode x n : Nat)) H
theorem ok_bits_with (T : Txt K mg) : MOk P w K mg base CX0 1 (cSpare K) "bits_with" (spBitsWith K) :=
  mkM T.cl_Spare T.me_Spare_bits_with T.d_Spare_bits_with sc_Spare_bits_with (fun vs H Q E h => by obtain ⟨a, x, n, rfl, _⟩ := h; rfl) (fun _ _ _ _ _ _ us hl => match us, hl with | [_, _], _ => rfl) fun cdv A outer s H vs Q E hr h => by
    obtain ⟨a, x, n, rfl, ⟨dx, ha⟩, h1, h2, k⟩ := h
    refine ⟨_, PSs.nox (pss_one (ps_ret (by exact (pe_op op_shlW (pe_op op_add (pe_fld (pv 0) (by rfl)) (pv 1)) (pe_fld (pv 0) (by rfl)))))), ?_⟩
    refine ⟨_, rfl, a, _, dx, _, _, rfl, ha, T.cl_Spare, T.na_Spare_first, rfl, _, rfl, _, _, rfl, rfl, ?_⟩
    refine ⟨_, rfl, a, _, dx, _, _, rfl, ha, T.cl_Spare, T.na_Spare_at, rfl, _, _, rfl, rfl, shl_ok (n := 1000) (by omega) (by omega), ?_⟩
    have e : ((x.first : Int) + n) * 2 ^ ((x.off : Int)).toNat = ((Valaye.spareCode x n : Nat) : Int) := by
      unfold Valaye.spareCode
      rw [ML.two_eq, Int.toNat_natCast, Int.natCast_mul, Int.natCast_add, Int.mul_comm]
      simp
    show Q (.int (((x.first : Int) + n) * 2 ^ ((x.off : Int)).toNat)) H
    rw [e]
    exact k
def spCodesTo (K : PySem.W.Frag) : Sp := fun vs H Q _ => ∃ (wd c : Nat), vs = [.int wd, .int c] ∧ wd ≤ 1000 ∧ c ≤ 2 ^ wd ∧ ∀ p H', H p = none → Same H H' → SpAt K H' p ⟨0, wd, c, Valaye.two wd - c⟩ → Q (.ref p) H'
theorem ok_codes_to_spare (T : Txt K mg) : COk P w K mg base CX0 3 "codes_to_spare" (spCodesTo K) :=
  mkC T.g_codes_to_spare T.d_codes_to_spare sc_codes_to_spare (fun vs H Q E h => by obtain ⟨a, x, rfl, _⟩ := h; rfl) (fun _ _ _ _ _ _ us hl => match us, hl with | [_, _], _ => rfl) fun cdv A outer s H vs Q E hr h => by
    obtain ⟨wd, c, rfl, h1, h2, k⟩ := h
    refine ⟨_, PSs.nox (pss_one (ps_ret (by exact (pe_kx hr (by exact (pa_cons pe_int (pa_cons (pv 0) (pa_cons (pv 1) (pa_cons (pe_op op_sub (pe_op op_shlW pe_int (pv 0)) (pv 1)) pa_nil))))))))), ?_⟩
    refine ⟨cSpare K, spSpInit K, ok_Spare T, ?_⟩
    refine ⟨_, rfl, _, rfl, _, rfl, _, _, rfl, rfl, shl_ok (n := 1) (by decide) (by omega), _, rfl, _, _, rfl, rfl, ?_⟩
    have m := make_sp T (x := ⟨0, wd, c, Valaye.two wd - c⟩) k
    have e : (1 : Int) * 2 ^ ((wd : Int)).toNat - (c : Int) = ((Valaye.two wd - c : Nat) : Int) := by
      rw [ML.two_eq, Int.toNat_natCast, Int.natCast_sub h2]
      simp
    have m2 : ∀ (a dx : Addr), H a = none → H dx = none → dx ≠ a → spSpInit K [.ref a, .int 0, .int wd, .int c, .int ((Valaye.two wd - c : Nat) : Int)] (upd (upd H dx (.own a)) a (.ins (cSpare K) dx [])) (fun v H2 => v = .non ∧ Q (.ref a) H2) E0 := m
    rw [← e] at m2
    exact m2
def spNothing (K : PySem.W.Frag) : Sp := fun vs H Q _ => vs = [] ∧ ∀ p H', H p = none → Same H H' → SpAt K H' p Valaye.noNiche → Q (.ref p) H'
theorem ok_nothing_spare (T : Txt K mg) : COk P w K mg base CX0 3 "nothing_spare" (spNothing K) :=
  mkC T.g_nothing_spare T.d_nothing_spare sc_nothing_spare (fun vs H Q E h => by obtain ⟨rfl, _⟩ := h; rfl) (fun _ _ _ _ _ _ us hl => match us, hl with | [], _ => rfl) fun cdv A outer s H vs Q E hr h => by
    obtain ⟨rfl, k⟩ := h
    refine ⟨_, PSs.nox (pss_one (ps_ret (by exact (pe_kx hr (by exact (pa_cons pe_int (pa_cons pe_int (pa_cons pe_int (pa_cons pe_int pa_nil))))))))), ?_⟩
    exact ⟨cSpare K, spSpInit K, ok_Spare T, make_sp T (x := Valaye.noNiche) k⟩
/-- a part of a row, by what its object has -/
structure Pv where
  bits : Nat
  leaves : Nat
  flat : Nat
  shared : Nat
  nic : Niche
def PartAt (K : PySem.W.Frag) (H : Hp) (a : Addr) (v : Pv) : Prop := ∃ (C dx : Addr) (fs : List (Str × V)) (sp : Addr), H a = some (.ins C dx fs) ∧ Cls K C ∧ (NoAttr K C "bits" ∧ NoAttr K C "leaves" ∧ NoAttr K C "flat" ∧ NoAttr K C "shared" ∧ NoAttr K C "spare") ∧
  fs.lookup ("bits" : Str) = some (.int v.bits) ∧ fs.lookup ("leaves" : Str) = some (.int v.leaves) ∧ fs.lookup ("flat" : Str) = some (.int v.flat) ∧ fs.lookup ("shared" : Str) = some (.int v.shared) ∧ fs.lookup ("spare" : Str) = some (.ref sp) ∧ SpAt K H sp v.nic
theorem PartAt.same {H H' : Hp} {a : Addr} {v : Pv} (h : PartAt K H a v) (s : Same H H') : PartAt K H' a v := by
  obtain ⟨C, dx, fs, sp, h1, h2, h3, h4, h5, h6, h7, h8, h9⟩ := h
  exact ⟨C, dx, fs, sp, s _ _ h1, h2, h3, h4, h5, h6, h7, h8, h9.same s⟩
def PartsAt (K : PySem.W.Frag) (H : Hp) (as : List Addr) (vs : List Pv) : Prop := as.length = vs.length ∧ ∀ (i : Nat) (a : Addr) (v : Pv), as[i]? = some a → vs[i]? = some v → PartAt K H a v
theorem PartsAt.same {H H' : Hp} {as : List Addr} {vs : List Pv} (h : PartsAt K H as vs) (s : Same H H') : PartsAt K H' as vs := ⟨h.1, fun i a v q r => (h.2 i a v q r).same s⟩
theorem PartsAt.at_ {H : Hp} {as : List Addr} {vs : List Pv} (h : PartsAt K H as vs) {i : Nat} {a : Addr} (q : as[i]? = some a) : ∃ v, vs[i]? = some v ∧ PartAt K H a v := by
  have hi : i < vs.length := by rw [← h.1]; exact (List.getElem?_eq_some_iff.mp q).1
  exact ⟨vs[i], List.getElem?_eq_getElem hi, h.2 i a _ q (List.getElem?_eq_getElem hi)⟩
/-- greatest_spare's loop -/
def great : List Pv → Niche → Nat → Niche
  | [], g, _ => g
  | v :: r, g, o => great r (if g.n < v.nic.n then Valaye.moved o v.nic else g) (o + v.bits)
theorem drop_some {α : Type} {l : List α} {i : Nat} {x : α} (h : l[i]? = some x) : l.drop i = x :: l.drop (i + 1) := by
  obtain ⟨hi, e⟩ := List.getElem?_eq_some_iff.mp h
  rw [List.drop_eq_getElem_cons hi, e]
theorem map_get {α β : Type} {f : α → β} {l : List α} {i : Nat} {y : β} (h : (l.map f)[i]? = some y) : ∃ x, l[i]? = some x ∧ y = f x := by
  rw [List.getElem?_map] at h
  cases e : l[i]? with
  | none =>
    rw [e] at h
    cases h
  | some x =>
    rw [e] at h
    exact ⟨x, rfl, (Option.some.inj h).symm⟩
def spGreatest (K : PySem.W.Frag) : Sp := fun vs H Q _ => ∃ (a : Addr) (as : List Addr) (ps : List Pv), vs = [.ref a] ∧ SqL K H a (as.map V.ref) ∧ PartsAt K H as ps ∧ ∀ p H', H p = none → Same H H' → SpAt K H' p (great ps Valaye.noNiche 0) → Q (.ref p) H'
theorem ok_greatest_spare (T : Txt K mg) : COk P w K mg base CX0 4 "greatest_spare" (spGreatest K) :=
  mkC T.g_greatest_spare T.d_greatest_spare sc_greatest_spare (fun vs H Q E h => by obtain ⟨a, as, ps, rfl, _⟩ := h; rfl) (fun _ _ _ _ _ _ us hl => match us, hl with | [_], _ => rfl) fun cdv A outer s H vs Q E hr h => by
    obtain ⟨a, as, ps, rfl, hS, hP, k⟩ := h
    refine ⟨_, PSs.nox (pss_cons (ps_set (i := 1) sc_greatest_spare.nd rfl (Or.inl rfl) (by exact (pe_cx0 (CX := CX0) hr pas0)))
      (pss_cons (ps_set (i := 2) sc_greatest_spare.nd rfl (Or.inl rfl) (by exact pe_int))
      (pss_cons (ps_for PassesOwn.never rfl (pi_list (pv 0)) (pg_name (i := 3) sc_greatest_spare.nd rfl (Or.inl rfl)) (pss_cons (ps_if (pt_cmpR op_gt (pe_fld (pe_fld (pv 3) (by rfl)) (by rfl)) (pe_fld (pv 1) (by rfl)) (nomark _)) (pss_one (ps_set (i := 1) sc_greatest_spare.nd rfl (Or.inl rfl) (by exact (pe_mx (CX := CX0) hr pas0 (pe_fld (pv 3) (by rfl)) (by exact (pa_cons (pv 2) pa_nil)))))) pss_nil)
      (pss_one (ps_aug (i := 2) sc_greatest_spare.nd rfl (.inl rfl) (pe_fld (pv 3) (by rfl)) ip_add))))
      (pss_one (ps_ret (by exact (pv 1))))))), ?_⟩
    refine ⟨spNothing K, ok_nothing_spare T, rfl, fun p0 H0 n0 s0 z0 => ?_⟩
    refine ⟨_, rfl, a, rfl, ⟨_, s0.seq hS⟩, for_list (K := K) (a := a) (xs := as.map V.ref) (fun i σ H' => ∃ (g : Niche) (o : Nat) (pg : Addr) (v : Option V), σ = [some (.ref a), some (.ref pg), some (.int o), v] ∧ Same H H' ∧ H pg = none ∧ SpAt K H' pg g ∧ great (ps.drop i) g o = great ps Valaye.noNiche 0)
      ⟨_, 0, p0, none, rfl, s0, n0, z0, rfl⟩ (fun i σ H' _ ⟨_, _, _, _, _, s5, _⟩ => s5.seq hS) ?_ ?_⟩
    · rintro i y σ H' hi ⟨g, o, pg, v, rfl, s5, npg, zg, eq⟩
      obtain ⟨b, hb, rfl⟩ := map_get hi
      obtain ⟨u, hu, C, dx, fs, sp, h1, c1, ⟨n1, n2, n3, n4, n5⟩, l1, l2, l3, l4, l5, h2⟩ := (hP.same s5).at_ hb
      rw [drop_some hu] at eq
      obtain ⟨dg, hg⟩ := zg
      obtain ⟨ds, hs⟩ := h2
      refine ⟨_, rfl, b, C, dx, fs, _, rfl, h1, c1, n5, l5, sp, _, ds, _, _, rfl, hs, T.cl_Spare, T.na_Spare_left, rfl, ?_⟩
      refine ⟨_, rfl, pg, _, dg, _, _, rfl, hg, T.cl_Spare, T.na_Spare_left, rfl, _, _, rfl, rfl, _, rfl, ?_⟩
      by_cases c : g.n < u.nic.n
      · rw [decide_eq_true (by omega : (g.n : Int) < (u.nic.n : Int))]
        refine iteT ?_
        refine ⟨_, rfl, b, C, dx, fs, _, rfl, h1, c1, n5, l5, sp, _, ds, _, spMoved K, rfl, hs, rfl, (ok_moved T).mono (by omega), ?_⟩
        refine ⟨_, rfl, sp, u.nic, o, rfl, ⟨ds, hs⟩, fun p1 H1 m1 s1 z1 => ?_⟩
        refine ⟨_, rfl, _, rfl, b, C, dx, fs, _, rfl, s1 _ _ h1, c1, n1, l1, _, _, rfl, rfl, ?_⟩
        refine ⟨_, o + u.bits, p1, _, rfl, s5.trans s1, s5.free m1, z1, ?_⟩
        rw [← eq]
        show _ = great (ps.drop (i + 1)) (if g.n < u.nic.n then Valaye.moved o u.nic else g) (o + u.bits)
        rw [if_pos c]
      · rw [decide_eq_false (by omega : ¬ (g.n : Int) < (u.nic.n : Int))]
        refine iteF ?_
        refine ⟨_, rfl, _, rfl, b, C, dx, fs, _, rfl, h1, c1, n1, l1, _, _, rfl, rfl, ?_⟩
        refine ⟨g, o + u.bits, pg, _, rfl, s5, npg, ⟨dg, hg⟩, ?_⟩
        rw [← eq]
        show _ = great (ps.drop (i + 1)) (if g.n < u.nic.n then Valaye.moved o u.nic else g) (o + u.bits)
        rw [if_neg c]
    · rintro σ H' ⟨g, o, pg, v, rfl, s5, npg, zg, eq⟩
      rw [List.length_map, hP.1, List.drop_length] at eq
      have eq : g = great ps Valaye.noNiche 0 := eq
      subst eq
      exact ⟨_, rfl, k _ _ npg s5 zg⟩
end
end LY
set_option Elab.async false
set_option linter.all false
set_option maxRecDepth 100000
set_option maxHeartbeats 4000000
namespace LY
open PySem PySem.Spec PyProof.Rows L2
/-! ### the cursor -/
theorem iteC {c : Prop} [Decidable c] {A B : Prop} (h : c) (a : A) : if decide c = true then A else B := by
  rw [if_pos (decide_eq_true h)]
  exact a
theorem iteD {c : Prop} [Decidable c] {A B : Prop} (h : ¬ c) (b : B) : if decide c = true then A else B := by
  rw [if_neg (by rw [decide_eq_false h]; exact Bool.false_ne_true)]
  exact b
/-- a comprehension's item that no test asks after -/
theorem yes {σ : L2.St} {H : Hp} {A B : Hp → Prop} (h : A H) : tYes σ H (fun b H3 => if b = true then A H3 else B H3) := by
  show if true = true then A H else B H
  rw [if_pos rfl]
  exact h
section
variable {P : Program} {w : World} {K : PySem.W.Frag} {mg : Str → Option Value} {base : Heap}
abbrev cCursor (K : PySem.W.Frag) : Addr := He.ga K "Cursor"
def SameBut (c : Addr) (H H' : Hp) : Prop := ∀ b o, H b = some o → b ≠ c → H' b = some o
theorem SameBut.refl (c : Addr) (H : Hp) : SameBut c H H := fun _ _ h _ => h
theorem SameBut.trans {c : Addr} {H H1 H2 : Hp} (a : SameBut c H H1) (b : SameBut c H1 H2) : SameBut c H H2 := fun x o h n => b x o (a x o h n) n
theorem Same.but {c : Addr} {H H1 : Hp} (a : Same H H1) : SameBut c H H1 := fun x o h _ => a x o h
theorem SameBut.seq {c : Addr} {H H' : Hp} {a C dx : Addr} {fs : List (Str × V)} {xs : List V} (s : SameBut c H H') (hc : H c = some (.ins C dx fs)) (h : SqL K H a xs) : SqL K H' a xs := by
  rcases h with (h | ⟨o, h⟩) | h
  · exact .inl (.inl (s _ _ h (ne_of h hc (by intro z; cases z))))
  · exact .inl (.inr ⟨o, s _ _ h (ne_of h hc (by intro z; cases z))⟩)
  · exact .inr h
def cuF (a : Addr) (i : Nat) : List (Str × V) := [("numbers", .ref a), ("place", .int i)]
def CurAt (K : PySem.W.Frag) (H : Hp) (c : Addr) (ns : List Int) (i : Nat) : Prop := ∃ dx a, H c = some (.ins (cCursor K) dx (cuF a i)) ∧ SqL K H a (ns.map V.int) ∧ i ≤ ns.length
abbrev s_Cursor_init : Stmt := inClass (top 2) 0
abbrev n_Cursor_init : List Str := ["self", "numbers"]
theorem sc_Cursor_init : FnScope n_Cursor_init ["self", "numbers"] (defScope s_Cursor_init) := ⟨rfl, rfl, rfl, by decide +kernel, rfl, by decide +kernel, by decide +kernel⟩
abbrev s_Cursor_draw : Stmt := inClass (top 2) 1
abbrev n_Cursor_draw : List Str := ["self", "least", "greatest", "number"]
theorem sc_Cursor_draw : FnScope n_Cursor_draw ["self", "least", "greatest"] (defScope s_Cursor_draw) := ⟨rfl, rfl, rfl, by decide +kernel, rfl, by decide +kernel, by decide +kernel⟩
abbrev s_Cursor_end : Stmt := inClass (top 2) 2
abbrev n_Cursor_end : List Str := ["self"]
theorem sc_Cursor_end : FnScope n_Cursor_end ["self"] (defScope s_Cursor_end) := ⟨rfl, rfl, rfl, by decide +kernel, rfl, by decide +kernel, by decide +kernel⟩
abbrev s_Cursor_ended : Stmt := inClass (top 2) 3
abbrev n_Cursor_ended : List Str := ["self"]
theorem sc_Cursor_ended : FnScope n_Cursor_ended ["self"] (defScope s_Cursor_ended) := ⟨rfl, rfl, rfl, by decide +kernel, rfl, by decide +kernel, by decide +kernel⟩

def spCuInit (K : PySem.W.Frag) : Sp := fun vs H Q _ => ∃ (p dx a : Addr), vs = [.ref p, .ref a] ∧ H p = some (.ins (cCursor K) dx []) ∧
  ∀ H' : Hp, H' p = some (.ins (cCursor K) dx (cuF a 0)) → (∀ b o, H b = some o → b ≠ p → H' b = some o) → Q .non H'
theorem put_cu (a : Addr) : putF "place" (.int 0) (putF "numbers" (.ref a) []) = cuF a 0 := by rfl
theorem ok_Cursor (T : Txt K mg) : KOk P w K mg base 2 "Cursor" (cCursor K) (spCuInit K) :=
  mkK T.g_Cursor T.mk_Cursor T.d_Cursor_init sc_Cursor_init (fun vs H Q E h => by obtain ⟨p, dx, a, rfl, _⟩ := h; rfl) (fun _ _ _ _ _ _ us hl => match us, hl with | [_, _], _ => rfl) fun cdv A outer s H vs Q E hr h => by
    obtain ⟨p, dx, a, rfl, hp, k⟩ := h
    refine ⟨_, PSs.nox (pss_cons (ps_fld (pv 0) (pv 1) rfl)
      (pss_one (ps_fld (pv 0) pe_int rfl))), ?_⟩
    refine ⟨_, rfl, _, rfl, p, cCursor K, dx, [], rfl, hp, T.cl_Cursor, T.na_Cursor_numbers, (by show 0 < 1000; decide), ?_⟩
    refine ⟨_, rfl, p, cCursor K, dx, _, rfl, upd_same, T.cl_Cursor, T.na_Cursor_place, (by show 1 < 1000; decide), ?_⟩
    refine k _ (upd_same.trans (congrArg (fun q => some (HO.ins (cCursor K) dx q)) (put_cu a))) fun b o e hb => ?_
    rw [upd_ne hb, upd_ne hb]
    exact e
theorem make_cu {H1 : Hp} {ns : List Int} {l : Addr} (hS : SqL K H1 l (ns.map V.int)) {Q : VK} (k : ∀ p H', H1 p = none → Same H1 H' → CurAt K H' p ns 0 → Q (.ref p) H') (a dx : Addr) (na : H1 a = none) (nd : H1 dx = none) (ne : dx ≠ a) :
    spCuInit K [.ref a, .ref l] (upd (upd H1 dx (.own a)) a (.ins (cCursor K) dx [])) (fun v H2 => v = .non ∧ Q (.ref a) H2) E0 :=
  ⟨a, dx, l, rfl, upd_same, fun H' e kp => ⟨rfl, k a H' na (Same.made na nd kp) ⟨dx, l, e, (Same.made na nd kp).seq hS, Nat.zero_le _⟩⟩⟩
def spEnded (K : PySem.W.Frag) : Sp := fun vs H Q _ => ∃ (c : Addr) (ns : List Int) (i : Nat), vs = [.ref c] ∧ CurAt K H c ns i ∧ Q (.bl (decide (i = ns.length))) H
theorem dec_int (i j : Nat) : decide (V.int (i : Int) = V.int (j : Int)) = decide (i = j) := by
  by_cases h : i = j
  · rw [h, decide_eq_true rfl, decide_eq_true rfl]
  · rw [decide_eq_false h, decide_eq_false fun z => h (by injection z with z; omega)]
theorem ok_ended (T : Txt K mg) : MOk P w K mg base CX0 1 (cCursor K) "ended" (spEnded K) :=
  mkM T.cl_Cursor T.me_Cursor_ended T.d_Cursor_ended sc_Cursor_ended (fun vs H Q E h => by obtain ⟨p, ns, a, rfl, _⟩ := h; rfl) (fun _ _ _ _ _ _ us hl => match us, hl with | [_], _ => rfl) fun cdv A outer s H vs Q E hr h => by
    obtain ⟨c, ns, i, rfl, ⟨dx, a, hc, hS, hi⟩, k⟩ := h
    refine ⟨_, PSs.nox (pss_one (ps_ret (by exact (pe_cmpR op_eq (pe_fld (pv 0) (by rfl)) (pe_callB call_len (by rfl) T.f_len (by decide +kernel) (by exact (pa_cons (pe_fld (pv 0) (by rfl)) pa_nil))) (nomark _))))), ?_⟩
    refine ⟨_, rfl, c, _, dx, _, _, rfl, hc, T.cl_Cursor, T.na_Cursor_place, rfl, ?_⟩
    refine ⟨_, rfl, c, _, dx, _, _, rfl, hc, T.cl_Cursor, T.na_Cursor_numbers, rfl, _, ns.length, rfl, .inl ⟨_, hS, by rw [List.length_map]⟩, rfl, ?_⟩
    rw [← dec_int] at k
    exact k
def spDraw (K : PySem.W.Frag) : Sp := fun vs H Q E => ∃ (c : Addr) (ns : List Int) (i : Nat) (lo hi : Int), vs = [.ref c, .int lo, .int hi] ∧ CurAt K H c ns i ∧
  (∀ v, ns[i]? = some v → lo ≤ v → v ≤ hi → ∀ H', SameBut c H H' → CurAt K H' c ns (i + 1) → Q (.int v) H') ∧ ((∀ v, ns[i]? = some v → ¬ (lo ≤ v ∧ v ≤ hi)) → E (.ref (cNoValue K)) none H)
theorem ok_draw (T : Txt K mg) : MOk P w K mg base (L2.CX P w) 2 (cCursor K) "draw" (spDraw K) :=
  mkM T.cl_Cursor T.me_Cursor_draw T.d_Cursor_draw sc_Cursor_draw (fun vs H Q E h => by obtain ⟨p, ns, a, lo, hi, rfl, _⟩ := h; rfl) (fun _ _ _ _ _ _ us hl => match us, hl with | [_, _, _], _ => rfl) fun cdv A outer s H vs Q E hr h => by
    obtain ⟨c, ns, i, lo, hi, rfl, hC, k, ke⟩ := h
    obtain ⟨dx, a, hc, hS, hle⟩ := id hC
    refine ⟨_, (pss_cons (ps_if (pt_val (pe_mx0 (CX := CX0) hr pas0 (pv 0))) (pss_one (ps_raise rfl (takes_of rfl rfl rfl rfl) T.mkNoValue)) pss_nil)
      (pss_cons (ps_set (i := 3) sc_Cursor_draw.nd rfl (Or.inl rfl) (by exact (pe_ix ix_list (pe_fld (pv 0) (by rfl)) (pe_fld (pv 0) (by rfl)) (fun _ _ => rfl))))
      (pss_cons (ps_if (PW.pt (pw_or (pt_cmpR op_lt (pv 3) (pv 1) (nomark _)) (pw_or1 (pt_cmpR op_gt (pv 3) (pv 2) (nomark _))))) (pss_one (ps_raise rfl (takes_of rfl rfl rfl rfl) T.mkNoValue)) pss_nil)
      (pss_cons (ps_fldaug (pv 0) pe_int in_add)
      (pss_one (ps_ret (by exact (pv 3)))))))), ?_⟩
    refine ⟨_, rfl, c, _, dx, _, _, rfl, hc, rfl, ok_ended T, c, ns, i, rfl, hC, _, rfl, ?_⟩
    by_cases z : i = ns.length
    · rw [decide_eq_true z]
      refine iteT (ke fun v hv => ?_)
      rw [z, List.getElem?_eq_none (Nat.le_refl _)] at hv
      cases hv
    · rw [decide_eq_false z]
      refine iteF ?_
      have hlt : i < ns.length := Nat.lt_of_le_of_ne hle z
      have hv : ns[i]? = some ns[i] := List.getElem?_eq_getElem hlt
      generalize ns[i] = v at hv
      refine ⟨_, rfl, c, _, dx, _, _, rfl, hc, T.cl_Cursor, T.na_Cursor_numbers, rfl, _, rfl, c, _, dx, _, _, rfl, hc, T.cl_Cursor, T.na_Cursor_place, rfl, _, _, _, V.int v, rfl, rfl, hS, atI_nat (by rw [List.getElem?_map, hv]; rfl), ?_⟩
      refine ⟨_, rfl, _, rfl, _, _, rfl, rfl, _, rfl, ?_⟩
      by_cases h1 : v < lo
      · rw [decide_eq_true h1]
        refine iteT ?_
        refine iteT (ke fun v' hv' => ?_)
        rw [hv] at hv'
        cases hv'
        omega
      · rw [decide_eq_false h1]
        refine iteF ⟨_, rfl, _, rfl, _, _, rfl, rfl, _, rfl, ?_⟩
        by_cases h2 : hi < v
        · rw [decide_eq_true h2]
          refine iteT (ke fun v' hv' => ?_)
          rw [hv] at hv'
          cases hv'
          omega
        · rw [decide_eq_false h2]
          refine iteF ?_
          refine ⟨_, rfl, c, _, dx, _, _, rfl, hc, T.cl_Cursor, T.na_Cursor_place, rfl, _, _, rfl, rfl, _, _, hc, (by show 2 < 1000; decide), ?_⟩
          refine ⟨_, rfl, ?_⟩
          refine k v hv (by omega) (by omega) _ (fun b o e hb => (upd_ne hb).trans e) ⟨dx, a, upd_same, ?_, hlt⟩
          exact SameBut.seq (c := c) (fun b o e hb => (upd_ne hb).trans e) hc hS
def spEnd (K : PySem.W.Frag) : Sp := fun vs H Q E => ∃ (c : Addr) (ns : List Int) (i : Nat), vs = [.ref c] ∧ CurAt K H c ns i ∧ (i = ns.length → Q .non H) ∧ (i ≠ ns.length → E (.ref (cNoValue K)) none H)
theorem ok_end (T : Txt K mg) : MOk P w K mg base (L2.CX P w) 2 (cCursor K) "end" (spEnd K) :=
  mkM T.cl_Cursor T.me_Cursor_end T.d_Cursor_end sc_Cursor_end (fun vs H Q E h => by obtain ⟨p, ns, a, rfl, _⟩ := h; rfl) (fun _ _ _ _ _ _ us hl => match us, hl with | [_], _ => rfl) fun cdv A outer s H vs Q E hr h => by
    obtain ⟨c, ns, i, rfl, hC, k, ke⟩ := h
    obtain ⟨dx, a, hc, hS, hle⟩ := id hC
    refine ⟨_, (pss_one (ps_if (pt_not (pt_val (pe_mx0 (CX := CX0) hr pas0 (pv 0)))) (pss_one (ps_raise rfl (takes_of rfl rfl rfl rfl) T.mkNoValue)) pss_nil)), ?_⟩
    refine ⟨_, rfl, c, _, dx, _, _, rfl, hc, rfl, ok_ended T, c, ns, i, rfl, hC, _, rfl, ?_⟩
    by_cases z : i = ns.length
    · rw [decide_eq_true z]
      exact iteF (k z)
    · rw [decide_eq_false z]
      exact iteT (ke z)
end
end LY
set_option Elab.async false
set_option linter.all false
set_option maxRecDepth 100000
set_option maxHeartbeats 4000000
namespace LY
open PySem PySem.Spec PyProof.Rows L2
open Valaye (bytesFor bytesOfNat natOfBytes readBytes)
/-! ### bytes -/
theorem pow_256 (i : Nat) : (256 : Nat) ^ i = 2 ^ (8 * i) := by rw [Nat.pow_mul]
theorem bytes_succ : ∀ (k n : Nat), bytesOfNat (k + 1) n = bytesOfNat k n ++ [n / 2 ^ (8 * k) % 256]
  | 0, n => by
    show [n % 256] = [n / 1 % 256]
    rw [Nat.div_one]
  | k + 1, n => by
    show n % 256 :: bytesOfNat (k + 1) (n / 256) = (n % 256 :: bytesOfNat k (n / 256)) ++ [n / 2 ^ (8 * (k + 1)) % 256]
    rw [bytes_succ k (n / 256), Nat.div_div_eq_div_mul, show (256 : Nat) * 2 ^ (8 * k) = 2 ^ (8 * (k + 1)) by rw [show 8 * (k + 1) = 8 * k + 8 by omega, Nat.pow_add, Nat.mul_comm]]
    rfl
theorem bytes_len : ∀ (k n : Nat), (bytesOfNat k n).length = k
  | 0, _ => rfl
  | k + 1, n => congrArg (· + 1) (bytes_len k (n / 256))
theorem nat_snoc : ∀ (l : List Nat) (b : Nat), natOfBytes (l ++ [b]) = natOfBytes l + 2 ^ (8 * l.length) * b
  | [], b => by
    show b + 256 * 0 = 0 + 1 * b
    omega
  | c :: l, b => by
    show c + 256 * natOfBytes (l ++ [b]) = c + 256 * natOfBytes l + 2 ^ (8 * (l.length + 1)) * b
    rw [nat_snoc l b, show 8 * (l.length + 1) = 8 * l.length + 8 by omega, Nat.pow_add, Nat.mul_add, ← Nat.mul_assoc, Nat.mul_comm 256 (2 ^ _), Nat.add_assoc]
theorem nat_lt : ∀ (l : List Nat), (∀ b ∈ l, b < 256) → natOfBytes l < 2 ^ (8 * l.length)
  | [], _ => by decide
  | c :: l, h => by
    have h1 := h c List.mem_cons_self
    have h2 := nat_lt l fun b hb => h b (List.mem_cons_of_mem _ hb)
    show c + 256 * natOfBytes l < 2 ^ (8 * (l.length + 1))
    rw [show 8 * (l.length + 1) = 8 * l.length + 8 by omega, Nat.pow_add]
    omega
/-- bits that lie apart -/
theorem or_apart {a b k : Nat} (h : a < 2 ^ k) : Builtin.bitOr (a : Int) ((b : Int) * 2 ^ k) = ((a + 2 ^ k * b : Nat) : Int) := by
  have e : ((b : Int) * 2 ^ k) = ((2 ^ k * b : Nat) : Int) := by
    rw [Int.natCast_mul, Int.mul_comm]
    simp
  rw [e, bitOr_nn (by omega) (by omega), Int.toNat_natCast, Int.toNat_natCast, Nat.or_comm, ← Nat.two_pow_add_eq_or_of_lt h, Nat.add_comm]
section
variable {P : Program} {w : World} {K : PySem.W.Frag} {mg : Str → Option Value} {base : Heap}
abbrev s_room_for : Stmt := top 61
abbrev n_room_for : List Str := ["bits"]
theorem sc_room_for : FnScope n_room_for ["bits"] (defScope s_room_for) := ⟨rfl, rfl, rfl, by decide +kernel, rfl, by decide +kernel, by decide +kernel⟩
abbrev s_bytes_told : Stmt := top 62
abbrev n_bytes_told : List Str := ["number", "bits", "room", "place"]
theorem sc_bytes_told : FnScope n_bytes_told ["number", "bits"] (defScope s_bytes_told) := ⟨rfl, rfl, rfl, by decide +kernel, rfl, by decide +kernel, by decide +kernel⟩
abbrev s_number_read : Stmt := top 63
abbrev n_number_read : List Str := ["row", "bits", "number", "place", "byte"]
theorem sc_number_read : FnScope n_number_read ["row", "bits"] (defScope s_number_read) := ⟨rfl, rfl, rfl, by decide +kernel, rfl, by decide +kernel, by decide +kernel⟩

def spRoom : Sp := fun vs H Q _ => ∃ n : Nat, vs = [.int (n : Int)] ∧ Q (.int (bytesFor n : Nat)) H
theorem ok_room_for (T : Txt K mg) : COk P w K mg base CX0 1 "room_for" spRoom :=
  mkC T.g_room_for T.d_room_for sc_room_for (fun vs H Q E h => by obtain ⟨n, rfl, _⟩ := h; rfl) (fun _ _ _ _ _ _ us hl => match us, hl with | [_], _ => rfl) fun cdv A outer s H vs Q E hr h => by
    obtain ⟨n, rfl, k⟩ := h
    refine ⟨_, PSs.nox (pss_one (ps_ret (by exact (pe_op op_fdiv (pe_op op_add (pv 0) pe_int) pe_int)))), ?_⟩
    refine ⟨_, rfl, _, _, rfl, rfl, _, _, rfl, rfl, ⟨by decide, by decide⟩, ?_⟩
    have e : ((n : Int) + 7) / 8 = ((bytesFor n : Nat) : Int) := by
      unfold bytesFor
      omega
    show Q (.int (((n : Int) + 7) / 8)) H
    rw [e]
    exact k
def toldRow (b n : Nat) : List Int := (bytesFor b : Int) :: (bytesOfNat (bytesFor b) n).map fun (z : Nat) => (z : Int)
def spBytesTold : Sp := fun vs H Q _ => ∃ n b : Nat, vs = [.int (n : Int), .int (b : Int)] ∧ b ≤ 1000 ∧ ∀ p H', H p = none → Same H H' → H' p = some (.lst ((toldRow b n).map V.int)) → Q (.ref p) H'
theorem shr_and (n i : Nat) : ((n : Int) / 2 ^ (((8 : Int) * (i : Int))).toNat) % 2 ^ 8 = ((n / 2 ^ (8 * i) % 256 : Nat) : Int) := by
  have e : ((8 : Int) * (i : Int)).toNat = 8 * i := by omega
  rw [e]
  simp
theorem ok_bytes_told (T : Txt K mg) : COk P w K mg base CX0 2 "bytes_told" spBytesTold :=
  mkC T.g_bytes_told T.d_bytes_told sc_bytes_told (fun vs H Q E h => by obtain ⟨n, b, rfl, _⟩ := h; rfl) (fun _ _ _ _ _ _ us hl => match us, hl with | [_, _], _ => rfl) fun cdv A outer s H vs Q E hr h => by
    obtain ⟨n, b, rfl, hb, k⟩ := h
    refine ⟨_, PSs.nox (pss_cons (ps_set (i := 2) sc_bytes_told.nd rfl (Or.inl rfl) (by exact (pe_cx (CX := CX0) hr pas0 (by exact (pa_cons (pv 1) pa_nil)))))
      (pss_one (ps_ret (by exact (pe_op op_cat (pe_lst (pa_cons (pv 2) pa_nil)) (pe_lc (own := [("place", 3)]) (g := gName 3) (tt := tYes) rfl sc_bytes_told.nd (pi_range1 (by rfl) T.f_range (pa_cons (pv 2) pa_nil)) (blkOk_by (own := [("place", 3)]) (N := n_bytes_told) (sc := defScope s_bytes_told) (by decide +kernel)) (fun _ _ _ _ _ => by exact (pg_name (i := 3) sc_bytes_told.nd rfl (Or.inl rfl))) (fun _ _ _ _ _ => pts_nil) (fun _ _ _ _ _ => by exact (pe_op op_andM (pe_op op_shr (pv 0) (pe_op op_mul pe_int (pv 3))) pe_int)))))))), ?_⟩
    refine ⟨_, ok_room_for T, _, rfl, b, rfl, ?_⟩
    refine ⟨_, rfl, (by show 1 ≤ sizeLine; decide), fun l0 n0 => ?_⟩
    have hbl : bytesFor b ≤ 200 := by
      unfold bytesFor
      omega
    refine ⟨_, rfl, _, rfl, (by omega), (by omega), fun D hD => lc_range (lo := 0) (n := ((bytesFor b : Nat) : Int).toNat) (fun i H' => Same (upd H l0 (.lst [.int (bytesFor b : Nat)])) H' ∧ H' D = some (.lst (((bytesOfNat i n).map fun (z : Nat) => (z : Int)).map V.int))) ?_ ?_ ?_⟩
    · refine ⟨fun c o e => ?_, upd_same⟩
      rw [upd_ne (ne_of_none e hD)]
      exact e
    · rintro i H' hi ⟨s1, d1⟩
      refine ⟨rfl, yes ?_⟩
      refine ⟨_, rfl, _, rfl, _, _, rfl, rfl, .inl ⟨by decide, by decide⟩, _, _, rfl, rfl, (by omega), _, 8, rfl, rfl, ?_⟩
      refine ⟨_, d1, ?_, ?_, ?_⟩
      · rw [List.length_map, List.length_map, bytes_len]
        exact small1000 (by omega)
      · intro c o e
        by_cases hc : c = D
        · subst hc
          rw [e] at hD
          cases hD
        · rw [upd_ne hc]
          exact s1 c o e
      · rw [upd_same, bytes_succ, List.map_append, List.map_append]
        show some (HO.lst (_ ++ [V.int (((n : Int) / 2 ^ ((8 : Int) * (0 + (i : Int))).toNat) % 2 ^ 8)])) = some (HO.lst (_ ++ [V.int ((n / 2 ^ (8 * i) % 256 : Nat) : Int)]))
        rw [Int.zero_add, shr_and]
    · rintro H' ⟨s1, d1⟩
      rw [Int.toNat_natCast] at d1
      refine ⟨_, _, _, _, rfl, rfl, s1 _ _ upd_same, d1, ?_, fun p np => ?_⟩
      · rw [List.length_map, List.length_map, bytes_len]
        exact Nat.le_of_lt (small1000 (show 1 + bytesFor b ≤ 1000 by omega))
      · have s0 : Same H H' := fun c o e => s1 c o (by rw [upd_ne (ne_of_none e n0)]; exact e)
        refine k p _ (s0.free np) (fun c o e => ?_) upd_same
        rw [upd_ne (ne_of_none (s0 c o e) np)]
        exact s0 c o e
/-- bytes read: another number of them, or none's, is the error -/
def spNumberRead (K : PySem.W.Frag) : Sp := fun vs H Q E => ∃ (a : Addr) (ns : List Int) (b : Nat), vs = [.ref a, .int (b : Int)] ∧ SqL K H a (ns.map V.int) ∧ b ≤ 1000 ∧
  (∀ n H', readBytes b ns = some n → Same H H' → Q (.int (n : Nat)) H') ∧ (readBytes b ns = none → ∀ H', Same H H' → E (.ref (cNoBytes K)) none H')
def isByte (z : Int) : Bool := decide (0 ≤ z ∧ z < 256)
theorem ok_number_read (T : Txt K mg) : COk P w K mg base (L2.CX P w) 2 "number_read" (spNumberRead K) :=
  mkC T.g_number_read T.d_number_read sc_number_read (fun vs H Q E h => by obtain ⟨a, ns, b, rfl, _⟩ := h; rfl) (fun _ _ _ _ _ _ us hl => match us, hl with | [_, _], _ => rfl) fun cdv A outer s H vs Q E hr h => by
    obtain ⟨a, ns, b, rfl, hS, hb, k, ke⟩ := h
    have hbl : bytesFor b ≤ 200 := by
      unfold bytesFor
      omega
    refine ⟨_, (pss_cons (ps_if (pt_cmpR op_ne (pe_callB call_len (by rfl) T.f_len (by decide +kernel) (by exact (pa_cons (pv 0) pa_nil))) (pe_cx (CX := CX0) hr pas0 (by exact (pa_cons (pv 1) pa_nil))) (nomark _)) (pss_one (ps_raise rfl (takes_of rfl rfl rfl rfl) T.mkNotSuchBytes)) pss_nil)
      (pss_cons (ps_set (i := 2) sc_number_read.nd rfl (Or.inl rfl) (by exact pe_int))
      (pss_cons (ps_for (passes_of rfl) rfl (pi_enum (by rfl) T.f_enumerate (pa_cons (pv 0) pa_nil)) (pg_tup rfl (pgs_cons (pg_name (i := 3) sc_number_read.nd rfl (Or.inl rfl)) (pgs_cons (pg_name (i := 4) sc_number_read.nd rfl (Or.inl rfl)) pgs_nil))) (pss_cons (ps_if (PW.pt (pw_or (pt_cmpR op_lt (pv 4) pe_int (nomark _)) (pw_or1 (pt_cmpR op_gt (pv 4) pe_int (nomark _))))) (pss_one (ps_raise rfl (takes_of rfl rfl rfl rfl) T.mkNotSuchBytes)) pss_nil)
      (pss_one (ps_aug (i := 2) sc_number_read.nd rfl (.inl rfl) (pe_op op_shlW (pv 4) (pe_op op_mul pe_int (pv 3))) ip_or))))
      (pss_one (ps_ret (by exact (pv 2))))))), ?_⟩
    refine ⟨_, rfl, _, ns.length, rfl, .inl ⟨_, hS, by rw [List.length_map]⟩, _, ok_room_for T, _, rfl, b, rfl, rfl, _, rfl, ?_⟩
    rw [dec_int]
    by_cases hl : ns.length = bytesFor b
    · rw [decide_eq_true hl]
      refine iteF ?_
      refine ⟨_, rfl, a, _, rfl, hS, L2.for_it (L2.walk_enum (K := K) (a := a) (xs := ns.map V.int)) (fun i σ H' => ∃ v1 v2 : Option V, σ = [some (.ref a), some (.int b), some (.int (natOfBytes ((ns.take i).map Int.toNat) : Nat)), v1, v2] ∧ Same H H' ∧ (ns.take i).all isByte = true) ⟨none, none, rfl, Same.refl _, rfl⟩ (fun i σ H' _ ⟨_, _, _, s5, _⟩ => s5.seq hS) ?_ ?_⟩
      · rintro i y σ H' H'' hi ⟨v1, v2, rfl, s5, al⟩ ⟨Tp, x, y', rfl, nT, rfl, ex, ey⟩
        cases Option.some.inj ex
        obtain ⟨z, hz, rfl⟩ := map_get ey
        have s6 : Same H (upd H' Tp (.tup [.int (i : Nat), .int z])) := fun c o e => by
          rw [upd_ne (ne_of_none (s5 c o e) nT)]
          exact s5 c o e
        refine ⟨Tp, _, rfl, .inl (.inl upd_same), rfl, _, _, rfl, _, _, rfl, rfl, ?_⟩
        refine ⟨_, rfl, _, _, rfl, rfl, _, rfl, ?_⟩
        have bad : isByte z = false → ∀ H1, Same H H1 → E (.ref (cNoBytes K)) none H1 := fun q => ke (if_neg fun c => by
          have := List.all_eq_true.mp c.2 z (List.mem_of_getElem? hz)
          rw [show decide (0 ≤ z ∧ z < 256) = isByte z from rfl, q] at this
          cases this)
        by_cases h1 : z < 0
        · rw [decide_eq_true h1]
          exact iteT (iteT (bad (decide_eq_false (by omega)) _ s6))
        · rw [decide_eq_false h1]
          refine iteF ⟨_, rfl, _, _, rfl, rfl, _, rfl, ?_⟩
          by_cases h2 : 255 < z
          · rw [decide_eq_true h2]
            exact iteT (bad (decide_eq_false (by omega)) _ s6)
          · rw [decide_eq_false h2]
            refine iteF ?_
            have hz2 : isByte z = true := decide_eq_true ⟨by omega, by omega⟩
            have hil : i < ns.length := (List.getElem?_eq_some_iff.mp hz).1
            refine ⟨_, rfl, _, rfl, _, rfl, _, _, rfl, rfl, .inl ⟨by decide, by decide⟩, _, _, rfl, rfl, (by rw [show ((8 : Int) * (i : Int)) = ((8 * i : Nat) : Int) by omega]; exact shl_ok (n := 8) (by omega) (by omega)), _, _, rfl, rfl, ?_⟩
            have et : ns.take (i + 1) = ns.take i ++ [z] := by
              rw [List.take_succ, hz]
              rfl
            have lt : natOfBytes ((ns.take i).map Int.toNat) < 2 ^ (8 * i) := by
              have := nat_lt ((ns.take i).map Int.toNat) fun c hc => by
                obtain ⟨d, hd, rfl⟩ := List.mem_map.mp hc
                have := of_decide_eq_true (List.all_eq_true.mp al d hd)
                omega
              rw [List.length_map, List.length_take, Nat.min_eq_left (by omega)] at this
              exact this
            refine ⟨some (.int i), some (.int z), ?_, s6, ?_⟩
            · show [some (V.ref a), some (V.int b), some (V.int (Builtin.bitOr _ (z * 2 ^ ((8 : Int) * (i : Int)).toNat))), some (V.int i), some (V.int z)] = _
              rw [show ((8 : Int) * (i : Int)).toNat = 8 * i by omega, show z = ((z.toNat : Nat) : Int) by omega, or_apart lt, et, List.map_append]
              show _ = [some (V.ref a), some (V.int b), some (V.int ((natOfBytes ((ns.take i).map Int.toNat ++ [z.toNat]) : Nat) : Int)), some (V.int i), some (V.int ((z.toNat : Nat) : Int))]
              rw [nat_snoc, List.length_map, List.length_take, Nat.min_eq_left (by omega)]
            · rw [et, List.all_append, al]
              show (true && (isByte z && true)) = true
              rw [hz2]
              rfl
      · rintro σ H' ⟨v1, v2, rfl, s5, al⟩
        rw [List.length_map] at al ⊢
        rw [List.take_length] at al ⊢
        exact ⟨_, rfl, k _ _ (if_pos ⟨hl, al⟩) s5⟩
    · rw [decide_eq_false hl]
      exact iteT (ke (if_neg fun c => hl c.1) _ (Same.refl _))
end
end LY
set_option Elab.async false
set_option linter.all false
set_option maxRecDepth 100000
set_option maxHeartbeats 4000000
namespace LY
open PySem PySem.Spec PyProof.Rows L2
open Valaye (Niche)
/-! ### comprehensions over parts -/
theorem sum_cast : ∀ l : List Nat, (l.map fun (n : Nat) => (n : Int)).sum = ((l.sum : Nat) : Int)
  | [] => rfl
  | n :: l => by
    rw [List.map_cons, List.sum_cons, List.sum_cons, sum_cast l]
    omega
section
variable {P : Program} {w : World} {K : PySem.W.Frag} {mg : Str → Option Value} {base : Heap}
theorem same_new {H : Hp} {p : Addr} {o : HO} (n : H p = none) : Same H (upd H p o) := fun c u e => by
  rw [upd_ne (ne_of_none e n)]
  exact e
/-- what a comprehension over a list asks behind its iterable -/
abbrev LcL (K : PySem.W.Frag) (l : Addr) (g : TG) (tt : TT) (te : TE) (vs : List Nat) (σ : L2.St) (H : Hp) (D : Addr) (Qd : Hp → Prop) : Prop :=
  ∃ W : Nat → Nat → Hp → Prop, (∃ m, W 0 m (upd H D (.lst []))) ∧ ∀ i m H, W i m H → ((Itl K l).stop i H ∧ Qd H) ∨ ((Itl K l).go i H ∧ ∃ Nx : Hp → Prop, (∀ H', Nx H' → ∃ m', m' < m ∧ W (i + 1) m' H') ∧ ∀ x H', (Itl K l).yld i H x H' →
    g x (wipe σ vs) H' fun σ2 H2 => wipe σ2 vs = wipe σ vs ∧ tt σ2 H2 fun b H3 => if b = true then te σ2 H3 fun y H4 => ∃ acc, H4 D = some (.lst acc) ∧ acc.length < sizeLine ∧ Nx (upd H4 D (.lst (acc ++ [y]))) else Nx H3)
/-- [x.f for x in ..] over objects whose f is a number -/
theorem lc_num {f : Str} {i : Nat} {σ : L2.St} {H : Hp} {l D : Addr} {as : List Addr} {ns : List Nat} {Qd : Hp → Prop} (hD : H D = none) (hS : SqL K H l (as.map V.ref)) (hlen : as.length = ns.length) (small : as.length < sizeLine)
    (hf : ∀ (j : Nat) (a : Addr) (n : Nat), as[j]? = some a → ns[j]? = some n → ∃ C dx fs, H a = some (.ins C dx fs) ∧ Cls K C ∧ NoAttr K C f ∧ fs.lookup f = some (.int n))
    (hget : ∀ x : V, ((wipe σ [i]).set i (some x))[i]? = some (some x)) (hwipe : ∀ x : V, wipe ((wipe σ [i]).set i (some x)) [i] = wipe σ [i])
    (k : ∀ H', Same H H' → H' D = some (.lst ((ns.map fun (n : Nat) => (n : Int)).map V.int)) → Qd H') :
    LcL K l (gName i) tYes (tFld K (tVar i) f) [i] σ H D Qd := by
  refine lc_list (K := K) (a := l) (xs := as.map V.ref) (fun j H' => Same H H' ∧ H' D = some (.lst (((ns.take j).map fun (n : Nat) => (n : Int)).map V.int))) ⟨same_new hD, upd_same⟩ (fun _ _ _ ⟨s, _⟩ => s.seq hS) ?_ ?_
  · rintro j x H' hx ⟨s1, d1⟩
    obtain ⟨a, ha, rfl⟩ := map_get hx
    have hj : j < ns.length := by rw [← hlen]; exact (List.getElem?_eq_some_iff.mp ha).1
    have hn : ns[j]? = some ns[j] := List.getElem?_eq_getElem hj
    generalize ns[j] = n at hn
    obtain ⟨C, dx, fs, h1, h2, h3, h4⟩ := hf j a n ha hn
    refine ⟨hwipe _, yes ?_⟩
    refine ⟨_, hget _, a, C, dx, fs, _, rfl, s1 _ _ h1, h2, h3, h4, _, d1, ?_, ?_, ?_⟩
    · rw [List.length_map, List.length_map, List.length_take, Nat.min_eq_left (Nat.le_of_lt hj)]
      omega
    · intro c o e
      rw [upd_ne (ne_of_none e hD)]
      exact s1 c o e
    · rw [upd_same, List.take_succ, hn, List.map_append, List.map_append]
      rfl
  · rintro H' ⟨s1, d1⟩
    rw [List.length_map, hlen, List.take_length] at d1
    exact k H' s1 d1
theorem PartAt.leaves {H : Hp} {a : Addr} {v : Pv} (h : PartAt K H a v) : ∃ C dx fs, H a = some (.ins C dx fs) ∧ Cls K C ∧ NoAttr K C "leaves" ∧ fs.lookup ("leaves" : Str) = some (.int v.leaves) := by
  obtain ⟨C, dx, fs, sp, h1, c1, ⟨n1, n2, n3, n4, n5⟩, l1, l2, l3, l4, l5, h2⟩ := h
  exact ⟨C, dx, fs, h1, c1, n2, l2⟩
theorem PartAt.flat {H : Hp} {a : Addr} {v : Pv} (h : PartAt K H a v) : ∃ C dx fs, H a = some (.ins C dx fs) ∧ Cls K C ∧ NoAttr K C "flat" ∧ fs.lookup ("flat" : Str) = some (.int v.flat) := by
  obtain ⟨C, dx, fs, sp, h1, c1, ⟨n1, n2, n3, n4, n5⟩, l1, l2, l3, l4, l5, h2⟩ := h
  exact ⟨C, dx, fs, h1, c1, n3, l3⟩
theorem PartAt.shared {H : Hp} {a : Addr} {v : Pv} (h : PartAt K H a v) : ∃ C dx fs, H a = some (.ins C dx fs) ∧ Cls K C ∧ NoAttr K C "shared" ∧ fs.lookup ("shared" : Str) = some (.int v.shared) := by
  obtain ⟨C, dx, fs, sp, h1, c1, ⟨n1, n2, n3, n4, n5⟩, l1, l2, l3, l4, l5, h2⟩ := h
  exact ⟨C, dx, fs, h1, c1, n4, l4⟩
theorem PartAt.bits {H : Hp} {a : Addr} {v : Pv} (h : PartAt K H a v) : ∃ C dx fs, H a = some (.ins C dx fs) ∧ Cls K C ∧ NoAttr K C "bits" ∧ fs.lookup ("bits" : Str) = some (.int v.bits) := by
  obtain ⟨C, dx, fs, sp, h1, c1, ⟨n1, n2, n3, n4, n5⟩, l1, l2, l3, l4, l5, h2⟩ := h
  exact ⟨C, dx, fs, h1, c1, n1, l1⟩
theorem PartAt.spare {H : Hp} {a : Addr} {v : Pv} (h : PartAt K H a v) : ∃ C dx fs sp, H a = some (.ins C dx fs) ∧ Cls K C ∧ NoAttr K C "spare" ∧ fs.lookup ("spare" : Str) = some (.ref sp) ∧ SpAt K H sp v.nic := by
  obtain ⟨C, dx, fs, sp, h1, c1, ⟨n1, n2, n3, n4, n5⟩, l1, l2, l3, l4, l5, h2⟩ := h
  exact ⟨C, dx, fs, sp, h1, c1, n5, l5, h2⟩
/-- a number of each part -/
theorem PartsAt.num {H : Hp} {as : List Addr} {ps : List Pv} (h : PartsAt K H as ps) {f : Str} {g : Pv → Nat} (one : ∀ (a : Addr) (v : Pv), PartAt K H a v → ∃ C dx fs, H a = some (.ins C dx fs) ∧ Cls K C ∧ NoAttr K C f ∧ fs.lookup f = some (.int (g v))) :
    ∀ (j : Nat) (a : Addr) (n : Nat), as[j]? = some a → (ps.map g)[j]? = some n → ∃ C dx fs, H a = some (.ins C dx fs) ∧ Cls K C ∧ NoAttr K C f ∧ fs.lookup f = some (.int n) := fun j a n ha hn => by
  obtain ⟨v, hv, rfl⟩ := map_get hn
  exact one a v (h.2 j a v ha hv)
/-! ### Row's __init__ -/
abbrev s_Row_init : Stmt := inClass (top 16) 0
abbrev n_Row_init : List Str := ["self", "parts", "part"]
theorem sc_Row_init : FnScope n_Row_init ["self", "parts"] (defScope s_Row_init) := ⟨rfl, rfl, rfl, by decide +kernel, rfl, by decide +kernel, by decide +kernel⟩

def rowF (pl sp : Addr) (lv fl sh b : Nat) : List (Str × V) := [("parts", .ref pl), ("leaves", .int lv), ("flat", .int fl), ("shared", .int sh), ("bits", .int b), ("spare", .ref sp)]
structure RowCls (K : PySem.W.Frag) (C : Addr) : Prop where
  cl : Cls K C
  n1 : NoAttr K C "parts"
  n2 : NoAttr K C "leaves"
  n3 : NoAttr K C "flat"
  n4 : NoAttr K C "shared"
  n5 : NoAttr K C "bits"
  n6 : NoAttr K C "spare"
/-- a heap without p -/
def Wo (p : Addr) (H : Hp) : Hp := fun b => if b = p then none else H b
def spRowInit (K : PySem.W.Frag) : Sp := fun vs H Q _ => ∃ (p dx pl C : Addr) (as : List Addr) (ps : List Pv), vs = [.ref p, .ref pl] ∧ H p = some (.ins C dx []) ∧ RowCls K C ∧ SqL K H pl (as.map V.ref) ∧ PartsAt K (Wo p H) as ps ∧ as.length < sizeLine ∧
  ∀ (H' : Hp) (sp : Addr), H' p = some (.ins C dx (rowF pl sp ((ps.map Pv.leaves).sum) ((ps.map Pv.flat).sum) ((ps.map Pv.shared).sum) ((ps.map Pv.bits).sum))) → H sp = none → SpAt K H' sp (great ps Valaye.noNiche 0) → (∀ b o, H b = some o → b ≠ p → H' b = some o) → Q .non H'
theorem put_row (pl sp : Addr) (lv fl sh b : Nat) : putF "spare" (.ref sp) (putF "bits" (.int b) (putF "shared" (.int sh) (putF "flat" (.int fl) (putF "leaves" (.int lv) (putF "parts" (.ref pl) []))))) = rowF pl sp lv fl sh b := by rfl
theorem Wo.get {p b : Addr} {H : Hp} {o : HO} (h : Wo p H b = some o) : H b = some o ∧ b ≠ p := by
  unfold Wo at h
  by_cases e : b = p
  · rw [if_pos e] at h
    cases h
  · rw [if_neg e] at h
    exact ⟨h, e⟩
theorem Wo.of {p b : Addr} {H : Hp} {o : HO} (h : H b = some o) (e : b ≠ p) : Wo p H b = some o := (if_neg e).trans h
theorem Wo.le (p : Addr) (H : Hp) : Same (Wo p H) H := fun _ _ h => (Wo.get h).1
theorem Wo.but {p : Addr} {H H' : Hp} (s : ∀ b o, H b = some o → b ≠ p → H' b = some o) : Same (Wo p H) (Wo p H') := fun b o h => Wo.of (s b o (Wo.get h).1 (Wo.get h).2) (Wo.get h).2
theorem Wo.new {p : Addr} {H H' : Hp} (n : H p = none) (s : ∀ b o, H b = some o → H' b = some o) : Same H (Wo p H') := fun b o h => Wo.of (s b o h) (ne_of_none h n)
theorem Wo.put {p : Addr} {H : Hp} {o : HO} : Same (Wo p H) (Wo p (upd H p o)) := Wo.but fun b u h e => (upd_ne e).trans h
theorem ok_Row_init (T : Txt K mg) : ∃ fd, FnOk P w K mg base CX0 5 (He.ma K (He.ga K "Row") "__init__") fd ["self", "parts"] (spRowInit K) ∧ Binds K fd ["self", "parts"] [] := by
  obtain ⟨fd, F⟩ := T.d_Row_init
  refine ⟨fd, FunD.ok F sc_Row_init (fun vs H Q E h => by obtain ⟨p, dx, a, C, as, ps, rfl, _⟩ := h; rfl) (fun cdv A outer s H vs Q E hr h => ?_), FunD.bindsN F (fun _ _ _ _ _ _ us hl => match us, hl with | [_, _], _ => rfl)⟩
  obtain ⟨p, dx, pl, C, as, ps, rfl, hp, R, hS, hP, hsm, k⟩ := h
  have lenP := hP.1
  refine ⟨_, PSs.nox (pss_cons (ps_fld (pv 0) (pv 1) rfl)
      (pss_cons (ps_fld (pv 0) (pe_callB (cr_sum rfl) (by rfl) T.f_sum (by decide +kernel) (by exact (pa_cons (pe_lc (own := [("part", 2)]) (g := gName 2) (tt := tYes) (te := (tFld K (tVar 2) "leaves")) rfl sc_Row_init.nd (pi_list (pv 1)) (blkOk_by (own := [("part", 2)]) (N := n_Row_init) (sc := defScope s_Row_init) (by decide +kernel)) (fun _ _ _ _ _ => by exact (pg_name (i := 2) sc_Row_init.nd rfl (Or.inl rfl))) (fun _ _ _ _ _ => pts_nil) (fun _ _ _ _ _ => by exact (pe_fld (pv 2) (by rfl)))) pa_nil))) rfl)
      (pss_cons (ps_fld (pv 0) (pe_callB (cr_sum rfl) (by rfl) T.f_sum (by decide +kernel) (by exact (pa_cons (pe_lc (own := [("part", 2)]) (g := gName 2) (tt := tYes) (te := (tFld K (tVar 2) "flat")) rfl sc_Row_init.nd (pi_list (pv 1)) (blkOk_by (own := [("part", 2)]) (N := n_Row_init) (sc := defScope s_Row_init) (by decide +kernel)) (fun _ _ _ _ _ => by exact (pg_name (i := 2) sc_Row_init.nd rfl (Or.inl rfl))) (fun _ _ _ _ _ => pts_nil) (fun _ _ _ _ _ => by exact (pe_fld (pv 2) (by rfl)))) pa_nil))) rfl)
      (pss_cons (ps_fld (pv 0) (pe_callB (cr_sum rfl) (by rfl) T.f_sum (by decide +kernel) (by exact (pa_cons (pe_lc (own := [("part", 2)]) (g := gName 2) (tt := tYes) (te := (tFld K (tVar 2) "shared")) rfl sc_Row_init.nd (pi_list (pv 1)) (blkOk_by (own := [("part", 2)]) (N := n_Row_init) (sc := defScope s_Row_init) (by decide +kernel)) (fun _ _ _ _ _ => by exact (pg_name (i := 2) sc_Row_init.nd rfl (Or.inl rfl))) (fun _ _ _ _ _ => pts_nil) (fun _ _ _ _ _ => by exact (pe_fld (pv 2) (by rfl)))) pa_nil))) rfl)
      (pss_cons (ps_fld (pv 0) (pe_callB (cr_sum rfl) (by rfl) T.f_sum (by decide +kernel) (by exact (pa_cons (pe_lc (own := [("part", 2)]) (g := gName 2) (tt := tYes) (te := (tFld K (tVar 2) "bits")) rfl sc_Row_init.nd (pi_list (pv 1)) (blkOk_by (own := [("part", 2)]) (N := n_Row_init) (sc := defScope s_Row_init) (by decide +kernel)) (fun _ _ _ _ _ => by exact (pg_name (i := 2) sc_Row_init.nd rfl (Or.inl rfl))) (fun _ _ _ _ _ => pts_nil) (fun _ _ _ _ _ => by exact (pe_fld (pv 2) (by rfl)))) pa_nil))) rfl)
      (pss_one (ps_fld (pv 0) (pe_cx (CX := CX0) hr pas0 (by exact (pa_cons (pv 1) pa_nil))) rfl))))))), ?_⟩
  refine ⟨_, rfl, _, rfl, p, C, dx, [], rfl, hp, R.cl, R.n1, (by show 0 < 1000; decide), ?_⟩
  have s1 : ∀ b o, H b = some o → b ≠ p → upd H p (.ins C dx (putF "parts" (.ref pl) [])) b = some o := fun b o h e => (upd_ne e).trans h
  have seq : ∀ {H' : Hp}, (∀ b o, H b = some o → b ≠ p → H' b = some o) → SqL K H' pl (as.map V.ref) := fun s => SameBut.seq s hp hS
  refine ⟨_, rfl, pl, rfl, ⟨_, (seq s1)⟩, fun D1 n1 => lc_num (f := "leaves") (i := 2) (as := as) (ns := ps.map Pv.leaves) n1 (seq s1) (by rw [List.length_map]; exact lenP) hsm (PartsAt.num (hP.same ((Wo.but s1).trans (Wo.le _ _))) fun a v h => h.leaves) (fun _ => rfl) (fun _ => rfl) fun H1 e1 d1 => ?_⟩
  refine ⟨D1, _, rfl, SqL.of d1, ?_⟩
  rw [sum_cast]
  refine ⟨_, rfl, p, C, dx, _, rfl, e1 _ _ upd_same, R.cl, R.n2, (by show 1 < 1000; decide), ?_⟩
  have s2 : ∀ b o, H b = some o → b ≠ p → upd H1 p (.ins C dx (putF "leaves" (.int ((ps.map Pv.leaves).sum : Nat)) (putF "parts" (.ref pl) []))) b = some o := fun b o h e => (upd_ne e).trans (e1 _ _ (s1 b o h e))
  refine ⟨_, rfl, pl, rfl, ⟨_, (seq s2)⟩, fun D2 n2 => lc_num (f := "flat") (i := 2) (as := as) (ns := ps.map Pv.flat) n2 (seq s2) (by rw [List.length_map]; exact lenP) hsm (PartsAt.num (hP.same ((Wo.but s2).trans (Wo.le _ _))) fun a v h => h.flat) (fun _ => rfl) (fun _ => rfl) fun H2 e2 d2 => ?_⟩
  refine ⟨D2, _, rfl, SqL.of d2, ?_⟩
  rw [sum_cast]
  refine ⟨_, rfl, p, C, dx, _, rfl, e2 _ _ upd_same, R.cl, R.n3, (by show 2 < 1000; decide), ?_⟩
  have s3 : ∀ b o, H b = some o → b ≠ p → upd H2 p (.ins C dx (putF "flat" (.int ((ps.map Pv.flat).sum : Nat)) (putF "leaves" (.int ((ps.map Pv.leaves).sum : Nat)) (putF "parts" (.ref pl) [])))) b = some o := fun b o h e => (upd_ne e).trans (e2 _ _ (s2 b o h e))
  refine ⟨_, rfl, pl, rfl, ⟨_, (seq s3)⟩, fun D3 n3 => lc_num (f := "shared") (i := 2) (as := as) (ns := ps.map Pv.shared) n3 (seq s3) (by rw [List.length_map]; exact lenP) hsm (PartsAt.num (hP.same ((Wo.but s3).trans (Wo.le _ _))) fun a v h => h.shared) (fun _ => rfl) (fun _ => rfl) fun H3 e3 d3 => ?_⟩
  refine ⟨D3, _, rfl, SqL.of d3, ?_⟩
  rw [sum_cast]
  refine ⟨_, rfl, p, C, dx, _, rfl, e3 _ _ upd_same, R.cl, R.n4, (by show 3 < 1000; decide), ?_⟩
  have s4 : ∀ b o, H b = some o → b ≠ p → upd H3 p (.ins C dx (putF "shared" (.int ((ps.map Pv.shared).sum : Nat)) (putF "flat" (.int ((ps.map Pv.flat).sum : Nat)) (putF "leaves" (.int ((ps.map Pv.leaves).sum : Nat)) (putF "parts" (.ref pl) []))))) b = some o := fun b o h e => (upd_ne e).trans (e3 _ _ (s3 b o h e))
  refine ⟨_, rfl, pl, rfl, ⟨_, (seq s4)⟩, fun D4 n4 => lc_num (f := "bits") (i := 2) (as := as) (ns := ps.map Pv.bits) n4 (seq s4) (by rw [List.length_map]; exact lenP) hsm (PartsAt.num (hP.same ((Wo.but s4).trans (Wo.le _ _))) fun a v h => h.bits) (fun _ => rfl) (fun _ => rfl) fun H4 e4 d4 => ?_⟩
  refine ⟨D4, _, rfl, SqL.of d4, ?_⟩
  rw [sum_cast]
  refine ⟨_, rfl, p, C, dx, _, rfl, e4 _ _ upd_same, R.cl, R.n5, (by show 4 < 1000; decide), ?_⟩
  have s5 : ∀ b o, H b = some o → b ≠ p → upd H4 p (.ins C dx (putF "bits" (.int ((ps.map Pv.bits).sum : Nat)) (putF "shared" (.int ((ps.map Pv.shared).sum : Nat)) (putF "flat" (.int ((ps.map Pv.flat).sum : Nat)) (putF "leaves" (.int ((ps.map Pv.leaves).sum : Nat)) (putF "parts" (.ref pl) [])))))) b = some o := fun b o h e => (upd_ne e).trans (e4 _ _ (s4 b o h e))
  refine ⟨_, ok_greatest_spare T, _, rfl, pl, as, ps, rfl, seq s5, hP.same ((Wo.but s5).trans (Wo.le _ _)), fun sp H5 n5 e5 z5 => ?_⟩
  refine ⟨_, rfl, p, C, dx, _, rfl, e5 _ _ upd_same, R.cl, R.n6, (by show 5 < 1000; decide), ?_⟩
  have s6 : ∀ b o, H b = some o → b ≠ p → H5 b = some o := fun b o h e => e5 _ _ (s5 b o h e)
  have nsp : H sp = none := by
    cases q : H sp with
    | none => rfl
    | some o =>
      by_cases e : sp = p
      · rw [e, upd_same] at n5
        cases n5
      · rw [s5 sp o q e] at n5
        cases n5
  obtain ⟨ds, hs⟩ := z5
  refine k _ sp (upd_same.trans (congrArg (fun q => some (HO.ins C dx q)) (put_row pl sp _ _ _ _))) nsp ⟨ds, (upd_ne fun e => ?_).trans hs⟩ fun b o h e => (upd_ne e).trans (s6 b o h e)
  rw [e, hp] at nsp
  cases nsp
end
end LY
set_option Elab.async false
set_option linter.all false
set_option maxRecDepth 100000
set_option maxHeartbeats 4000000
namespace LY
open PySem PySem.Spec PyProof.Rows L2
open Valaye (Niche formOf better moved noNiche bits0 sharedBits)
open Valaya (Ty countLeaves rowLength)
open ML (Cod cod rows wf)
/-! ### spare values, but for those that are none -/
def NEq (y x : Niche) : Prop := y.n = x.n ∧ (0 < x.n → y = x)
theorem NEq.refl (x : Niche) : NEq x x := ⟨rfl, fun _ => rfl⟩
theorem better_assoc (a b c : Niche) : better (better a b) c = better a (better b c) := by
  unfold better
  by_cases h1 : a.n < b.n
  · by_cases h2 : b.n < c.n
    · rw [if_pos h1, if_pos h2, if_pos (by omega)]
    · rw [if_pos h1, if_neg h2, if_pos h1]
  · by_cases h2 : b.n < c.n
    · rw [if_neg h1, if_pos h2]
    · rw [if_neg h1, if_neg h2, if_neg h1]
      by_cases h3 : a.n < c.n
      · omega
      · rw [if_neg h3]
theorem moved_better (o : Nat) (a b : Niche) : moved o (better a b) = better (moved o a) (moved o b) := by
  unfold better
  show moved o (if a.n < b.n then b else a) = if a.n < b.n then moved o b else moved o a
  split <;> rfl
theorem moved_moved (o k : Nat) (x : Niche) : moved o (moved k x) = moved (o + k) x := by
  unfold moved
  show (⟨x.off + k + o, x.w, x.first, x.n⟩ : Niche) = ⟨x.off + (o + k), x.w, x.first, x.n⟩
  rw [show x.off + k + o = x.off + (o + k) by omega]
theorem NEq.step {g g' y x : Niche} {o : Nat} (h : NEq g g') (k : NEq y x) : NEq (if g.n < y.n then moved o y else g) (better g' (moved o x)) := by
  unfold better
  show NEq _ (if g'.n < x.n then moved o x else g')
  rw [← h.1, ← k.1]
  by_cases c : g.n < y.n
  · rw [if_pos c, if_pos c]
    have e := k.2 (by rw [← k.1]; omega)
    rw [e]
    exact NEq.refl _
  · rw [if_neg c, if_neg c]
    exact h
def Alike : List Pv → List Cod → Prop
  | [], [] => True
  | v :: vs, c :: cs => v.bits = c.bits ∧ NEq v.nic c.nic ∧ Alike vs cs
  | _, _ => False
theorem great_is : ∀ {ps : List Pv} {cs : List Cod} {g g' : Niche} {o : Nat}, Alike ps cs → NEq g g' → NEq (great ps g o) (better g' (moved o (ML.nicRow cs)))
  | [], [], g, g', o, _, h => by
    show NEq g (if g'.n < 0 then moved o noNiche else g')
    rw [if_neg (Nat.not_lt_zero _)]
    exact h
  | v :: vs, c :: cs, g, g', o, a, h => by
    obtain ⟨a1, a2, a3⟩ := a
    show NEq (great vs (if g.n < v.nic.n then moved o v.nic else g) (o + v.bits)) (better g' (moved o (better c.nic (moved c.bits (ML.nicRow cs)))))
    rw [moved_better, moved_moved, ← better_assoc, ← a1]
    exact great_is a3 (NEq.step h a2)
  | [], _ :: _, _, _, _, a, _ => a.elim
  | _ :: _, [], _, _, _, a, _ => a.elim
theorem great_row {ps : List Pv} {cs : List Cod} (a : Alike ps cs) : NEq (great ps noNiche 0) (ML.nicRow cs) := by
  have h := great_is (o := 0) a (NEq.refl noNiche)
  have e : ∀ x : Niche, moved 0 x = x := fun x => rfl
  rw [e] at h
  obtain ⟨h1, h2⟩ := h
  unfold better at h1 h2
  by_cases z : noNiche.n < (ML.nicRow cs).n
  · rw [if_pos z] at h1 h2
    exact ⟨h1, h2⟩
  · rw [if_neg z] at h1 h2
    have z : (ML.nicRow cs).n = 0 := Nat.eq_zero_of_not_pos z
    exact ⟨h1.trans z.symm, fun q => by omega⟩
theorem alike_bits : ∀ {ps : List Pv} {cs : List Cod}, Alike ps cs → (ps.map Pv.bits).sum = ML.bitsRow cs
  | [], [], _ => rfl
  | v :: vs, c :: cs, a => by
    rw [List.map_cons, List.sum_cons, alike_bits a.2.2, a.1]
    rfl
  | [], _ :: _, a => a.elim
  | _ :: _, [], a => a.elim
/-! ### types' sizes -/
def flatT : Ty → Nat
  | .num a b _ => max 1 (bits0 (b - a + 1).toNat)
  | .maybe t => 1 + flatT t
  | .many n t => n * flatT t
  | .rec_ fs => flatT fs
  | .named _ t => flatT t
  | .one_ fs => bits0 (rowLength fs) + flatT fs
  | .nil => 0
  | .field _ _ t r => flatT t + flatT r
/-- what a kind's object tells of its type; y: its spare values -/
def pvT (t : Ty) (y : Niche) : Pv := ⟨(formOf t).bits, countLeaves t, flatT t, sharedBits t false, y⟩
/-! ### kinds as objects -/
section
variable {P : Program} {w : World} {K : PySem.W.Frag} {mg : Str → Option Value} {base : Heap}
abbrev cNumber (K : PySem.W.Frag) : Addr := He.ga K "Number"
abbrev cMaybe (K : PySem.W.Frag) : Addr := He.ga K "Maybe"
abbrev cOne (K : PySem.W.Frag) : Addr := He.ga K "One"
abbrev cMany (K : PySem.W.Frag) : Addr := He.ga K "Many"
abbrev cField (K : PySem.W.Frag) : Addr := He.ga K "Field"
abbrev cRecord (K : PySem.W.Frag) : Addr := He.ga K "Record"
/-- a text of bytes -/
def bstr (b : ValayBase.Bytes) : Str := ⟨(b.map UInt8.toNat).toArray⟩
def numF (lo hi : Int) (al b f : Nat) (sp : Addr) : List (Str × V) := [("first", .int lo), ("last", .int hi), ("align", .int al), ("leaves", .int 1), ("bits", .int b), ("spare", .ref sp), ("flat", .int f), ("shared", .int f)]
def mayF (i sp : Addr) (lv fl sh b : Nat) (tg : Bool) : List (Str × V) := [("inner", .ref i), ("leaves", .int lv), ("flat", .int fl), ("shared", .int sh), ("tagged", .bl tg), ("bits", .int b), ("spare", .ref sp)]
def oneF (nl al sp : Addr) (tg lv fl sh b : Nat) (car : V) : List (Str × V) := [("names", .ref nl), ("alternatives", .ref al), ("tag", .int tg), ("leaves", .int lv), ("flat", .int fl), ("shared", .int sh), ("carrier", car), ("bits", .int b), ("spare", .ref sp)]
def manyF (pl sp i : Addr) (lv fl sh b n : Nat) : List (Str × V) := rowF pl sp lv fl sh b ++ ([("times", .int n), ("inner", .ref i)] : List (Str × V))
def recF (pl sp fl' : Addr) (lv fl sh b : Nat) (nm : Str) : List (Str × V) := rowF pl sp lv fl sh b ++ ([("name", .str nm), ("fields", .ref fl')] : List (Str × V))
def fldF (nm : Str) (i : Addr) (h : Nat) : List (Str × V) := [("name", .str nm), ("inner", .ref i), ("hot", .int h)]
def carV : Option Nat → V
  | none => .non
  | some b => .int (b : Int)
/-- the fields' objects of a record's row -/
def FldsAt (K : PySem.W.Frag) (H : Hp) : Ty → List Addr → List Addr → Prop
  | .field x h _ r, f :: fs, i :: is => (∃ dx, H f = some (.ins (cField K) dx (fldF (bstr x.name) i h))) ∧ FldsAt K H r fs is
  | .field _ _ _ _, _, _ => False
  | _, fs, is => fs = [] ∧ is = []
def names : Ty → List Str
  | .field x _ _ r => bstr x.name :: names r
  | _ => []
/-- the kind t's object (of a row: the objects) -/
def KA (K : PySem.W.Frag) (H : Hp) : Ty → List Addr → Prop
  | .num lo hi al, as => ∃ a dx sp y, as = [a] ∧ H a = some (.ins (cNumber K) dx (numF lo hi al (formOf (.num lo hi al)).bits (flatT (.num lo hi al)) sp)) ∧ SpAt K H sp y ∧ NEq y (formOf (.num lo hi al)).niche
  | .maybe t, as => ∃ a dx i sp y, as = [a] ∧ H a = some (.ins (cMaybe K) dx (mayF i sp (countLeaves (.maybe t)) (flatT (.maybe t)) (sharedBits (.maybe t) false) (formOf (.maybe t)).bits (decide ((formOf t).niche.n = 0)))) ∧ KA K H t [i] ∧ SpAt K H sp y ∧ NEq y (formOf (.maybe t)).niche
  | .many n t, as => ∃ a dx i pl sp y, as = [a] ∧ H a = some (.ins (cMany K) dx (manyF pl sp i (countLeaves (.many n t)) (flatT (.many n t)) (sharedBits (.many n t) false) (formOf (.many n t)).bits n)) ∧ KA K H t [i] ∧
      H pl = some (.lst ((List.replicate n i).map V.ref)) ∧ SpAt K H sp y ∧ NEq y (formOf (.many n t)).niche
  | .rec_ fs, as => ∃ a dx pl sp fl nm fas ias y, as = [a] ∧ H a = some (.ins (cRecord K) dx (recF pl sp fl (countLeaves (.rec_ fs)) (flatT (.rec_ fs)) (sharedBits (.rec_ fs) false) (formOf (.rec_ fs)).bits nm)) ∧ KA K H fs ias ∧
      H pl = some (.lst (ias.map V.ref)) ∧ H fl = some (.lst (fas.map V.ref)) ∧ FldsAt K H fs fas ias ∧ SpAt K H sp y ∧ NEq y (formOf (.rec_ fs)).niche
  | .named x t, as => KA K H t as ∧ ∃ a C dx fs, as = [a] ∧ H a = some (.ins C dx fs) ∧ fs.lookup ("name" : Str) = some (.str (bstr x))
  | .one_ fs, as => ∃ a dx nl al sp ias y, as = [a] ∧ H a = some (.ins (cOne K) dx (oneF nl al sp (bits0 (rowLength fs)) (countLeaves (.one_ fs)) (flatT (.one_ fs)) (sharedBits (.one_ fs) false) (formOf (.one_ fs)).bits (carV (ML.carrier ((rows fs).map cod))))) ∧ KA K H fs ias ∧
      H nl = some (.lst ((names fs).map V.str)) ∧ H al = some (.lst (ias.map V.ref)) ∧ SpAt K H sp y ∧ NEq y (formOf (.one_ fs)).niche
  | .nil, as => as = []
  | .field _ _ t r, as => ∃ a as', as = a :: as' ∧ KA K H t [a] ∧ KA K H r as'
theorem FldsAt.same {H H' : Hp} (s : Same H H') : ∀ {t : Ty} {fs is : List Addr}, FldsAt K H t fs is → FldsAt K H' t fs is
  | .field x h _ r, f :: fs, i :: is, q => ⟨q.1.elim fun dx e => ⟨dx, s _ _ e⟩, FldsAt.same s q.2⟩
  | .field _ _ _ _, [], _, q => q.elim
  | .field _ _ _ _, _ :: _, [], q => q.elim
  | .num _ _ _, _, _, q => q
  | .maybe _, _, _, q => q
  | .many _ _, _, _, q => q
  | .rec_ _, _, _, q => q
  | .named _ _, _, _, q => q
  | .one_ _, _, _, q => q
  | .nil, _, _, q => q
theorem KA.same {H H' : Hp} (s : Same H H') : ∀ {t : Ty} {as : List Addr}, KA K H t as → KA K H' t as
  | .num lo hi al, as, ⟨a, dx, sp, y, e, h1, h2, h3⟩ => ⟨a, dx, sp, y, e, s _ _ h1, h2.same s, h3⟩
  | .maybe t, as, ⟨a, dx, i, sp, y, e, h1, h2, h3, h4⟩ => ⟨a, dx, i, sp, y, e, s _ _ h1, KA.same s h2, h3.same s, h4⟩
  | .many n t, as, ⟨a, dx, i, pl, sp, y, e, h1, h2, h3, h4, h5⟩ => ⟨a, dx, i, pl, sp, y, e, s _ _ h1, KA.same s h2, s _ _ h3, h4.same s, h5⟩
  | .rec_ fs, as, ⟨a, dx, pl, sp, fl, nm, fas, ias, y, e, h1, h2, h3, h4, h5, h6, h7⟩ => ⟨a, dx, pl, sp, fl, nm, fas, ias, y, e, s _ _ h1, KA.same s h2, s _ _ h3, s _ _ h4, h5.same s, h6.same s, h7⟩
  | .named x t, as, ⟨h1, a, C, dx, fs, e, h2, h3⟩ => ⟨KA.same s h1, a, C, dx, fs, e, s _ _ h2, h3⟩
  | .one_ fs, as, ⟨a, dx, nl, al, sp, ias, y, e, h1, h2, h3, h4, h5, h6⟩ => ⟨a, dx, nl, al, sp, ias, y, e, s _ _ h1, KA.same s h2, s _ _ h3, s _ _ h4, h5.same s, h6⟩
  | .nil, as, h => h
  | .field _ _ t r, as, ⟨a, as', e, h1, h2⟩ => ⟨a, as', e, KA.same s h1, KA.same s h2⟩
/-- a kind as a part -/
theorem KA.part (T : Txt K mg) {H : Hp} : ∀ {t : Ty} {a : Addr}, wf t false → KA K H t [a] → ∃ y, NEq y (formOf t).niche ∧ PartAt K H a (pvT t y)
  | .num lo hi al, b, _, ⟨a, dx, sp, y, e, h1, h2, h3⟩ => by
    cases e
    exact ⟨y, h3, _, dx, _, sp, h1, T.cl_Number, ⟨T.na_Number_bits, T.na_Number_leaves, T.na_Number_flat, T.na_Number_shared, T.na_Number_spare⟩, rfl, rfl, rfl, rfl, rfl, h2⟩
  | .maybe t, b, _, ⟨a, dx, i, sp, y, e, h1, h2, h3, h4⟩ => by
    cases e
    exact ⟨y, h4, _, dx, _, sp, h1, T.cl_Maybe, ⟨T.na_Maybe_bits, T.na_Maybe_leaves, T.na_Maybe_flat, T.na_Maybe_shared, T.na_Maybe_spare⟩, rfl, rfl, rfl, rfl, rfl, h3⟩
  | .many n t, b, _, ⟨a, dx, i, pl, sp, y, e, h1, h2, h3, h4, h5⟩ => by
    cases e
    exact ⟨y, h5, _, dx, _, sp, h1, T.cl_Many, ⟨T.na_Many_bits, T.na_Many_leaves, T.na_Many_flat, T.na_Many_shared, T.na_Many_spare⟩, rfl, rfl, rfl, rfl, rfl, h4⟩
  | .rec_ fs, b, _, ⟨a, dx, pl, sp, fl, nm, fas, ias, y, e, h1, h2, h3, h4, h5, h6, h7⟩ => by
    cases e
    exact ⟨y, h7, _, dx, _, sp, h1, T.cl_Record, ⟨T.na_Record_bits, T.na_Record_leaves, T.na_Record_flat, T.na_Record_shared, T.na_Record_spare⟩, rfl, rfl, rfl, rfl, rfl, h6⟩
  | .named x t, b, wt, ⟨h1, _⟩ => KA.part T (t := t) wt.2.2 h1
  | .one_ fs, b, _, ⟨a, dx, nl, al, sp, ias, y, e, h1, h2, h3, h4, h5, h6⟩ => by
    cases e
    exact ⟨y, h6, _, dx, _, sp, h1, T.cl_One, ⟨T.na_One_bits, T.na_One_leaves, T.na_One_flat, T.na_One_shared, T.na_One_spare⟩, rfl, rfl, rfl, rfl, rfl, h5⟩
  | .nil, b, wt, _ => (nomatch wt)
  | .field _ _ _ _, b, wt, _ => (nomatch wt.1)
end
end LY
set_option Elab.async false
set_option linter.all false
set_option maxRecDepth 100000
set_option maxHeartbeats 4000000
namespace LY
open PySem PySem.Spec PyProof.Rows L2
open Valaye (Niche formOf better moved noNiche bits0 sharedBits)
open Valaya (Ty countLeaves rowLength)
open ML (Cod cod rows wf)
section
variable {P : Program} {w : World} {K : PySem.W.Frag} {mg : Str → Option Value} {base : Heap}
/-- a heap without what bad names -/
def Off (bad : Addr → Bool) (H : Hp) : Hp := fun b => if bad b = true then none else H b
theorem Off.le (bad : Addr → Bool) (H : Hp) : Same (Off bad H) H := fun b o h => by
  unfold Off at h
  by_cases e : bad b = true
  · rw [if_pos e] at h
    cases h
  · rw [if_neg e] at h
    exact h
theorem Off.of {bad : Addr → Bool} {H : Hp} {b : Addr} {o : HO} (h : H b = some o) (e : bad b = false) : Off bad H b = some o := by
  unfold Off
  rw [e]
  exact h
theorem Off.get {bad : Addr → Bool} {H : Hp} {b : Addr} {o : HO} (h : Off bad H b = some o) : H b = some o ∧ bad b = false := by
  unfold Off at h
  by_cases e : bad b = true
  · rw [if_pos e] at h
    cases h
  · rw [if_neg e] at h
    exact ⟨h, by simpa using e⟩
theorem Off.same {bad : Addr → Bool} {H H' : Hp} (s : ∀ b o, H b = some o → bad b = false → H' b = some o) : Same (Off bad H) (Off bad H') := fun b o h => Off.of (s b o (Off.get h).1 (Off.get h).2) (Off.get h).2
theorem Same.off {bad : Addr → Bool} {H H' : Hp} (s : Same H H') : Same (Off bad H) (Off bad H') := Off.same fun b o h _ => s b o h
/-- what bad names stands -/
def Bads (bad : Addr → Bool) (H : Hp) : Prop := ∀ b, bad b = true → H b ≠ none
theorem Bads.new {bad : Addr → Bool} {H : Hp} (h : Bads bad H) {p : Addr} (n : H p = none) : bad p = false := by
  cases e : bad p with
  | false => rfl
  | true => exact absurd n (h p e)
theorem Bads.same {bad : Addr → Bool} {H H' : Hp} (h : Bads bad H) (s : Same H H') : Bads bad H' := fun b e => by
  cases q : H b with
  | none => exact absurd q (h b e)
  | some o =>
    rw [s b o q]
    exact fun z => nomatch z
/-! ### numbers -/
abbrev s_Number_init : Stmt := inClass (top 12) 0
abbrev n_Number_init : List Str := ["self", "first", "last", "align"]
theorem sc_Number_init : FnScope n_Number_init ["self", "first", "last", "align"] (defScope s_Number_init) := ⟨rfl, rfl, rfl, by decide +kernel, rfl, by decide +kernel, by decide +kernel⟩
abbrev s_Number_how_many : Stmt := inClass (top 12) 1
abbrev n_Number_how_many : List Str := ["self"]
theorem sc_Number_how_many : FnScope n_Number_how_many ["self"] (defScope s_Number_how_many) := ⟨rfl, rfl, rfl, by decide +kernel, rfl, by decide +kernel, by decide +kernel⟩

def spNumHow (K : PySem.W.Frag) : Sp := fun vs H Q _ => ∃ (a dx : Addr) (fs : List (Str × V)) (lo hi : Int), vs = [.ref a] ∧ H a = some (.ins (cNumber K) dx fs) ∧ fs.lookup ("first" : Str) = some (.int lo) ∧ fs.lookup ("last" : Str) = some (.int hi) ∧ Q (.int (hi - lo + 1)) H
theorem ok_num_how (T : Txt K mg) : MOk P w K mg base CX0 1 (cNumber K) "how_many" (spNumHow K) :=
  mkM T.cl_Number T.me_Number_how_many T.d_Number_how_many sc_Number_how_many (fun vs H Q E h => by obtain ⟨n, dx, fs, lo, hi, rfl, _⟩ := h; rfl) (fun _ _ _ _ _ _ us hl => match us, hl with | [_], _ => rfl) fun cdv A outer s H vs Q E hr h => by
    obtain ⟨a, dx, fs, lo, hi, rfl, ha, l1, l2, k⟩ := h
    refine ⟨_, PSs.nox (pss_one (ps_ret (by exact (pe_op op_add (pe_op op_sub (pe_fld (pv 0) (by rfl)) (pe_fld (pv 0) (by rfl))) pe_int)))), ?_⟩
    exact ⟨_, rfl, a, _, dx, _, _, rfl, ha, T.cl_Number, T.na_Number_last, l2, _, rfl, a, _, dx, _, _, rfl, ha, T.cl_Number, T.na_Number_first, l1, _, _, rfl, rfl, _, _, rfl, rfl, k⟩
def spNumInit (K : PySem.W.Frag) : Sp := fun vs H Q _ => ∃ (p dx : Addr) (lo hi : Int) (al : Nat), vs = [.ref p, .int lo, .int hi, .int al] ∧ H p = some (.ins (cNumber K) dx []) ∧ wf (.num lo hi al) false ∧
  ∀ (H' : Hp) (sp : Addr), H' p = some (.ins (cNumber K) dx (numF lo hi al (formOf (.num lo hi al)).bits (flatT (.num lo hi al)) sp)) → H sp = none → SpAt K H' sp (formOf (.num lo hi al)).niche → (∀ b o, H b = some o → b ≠ p → H' b = some o) → Q .non H'
theorem put_num (lo hi : Int) (al b f : Nat) (sp : Addr) : putF "shared" (.int f) (putF "flat" (.int f) (putF "spare" (.ref sp) (putF "bits" (.int b) (putF "leaves" (.int 1) (putF "align" (.int al) (putF "last" (.int hi) (putF "first" (.int lo) []))))))) = numF lo hi al b f sp := by rfl
theorem max_if (b : Nat) : (if ((b : Nat) : Int) > 1 then ((b : Nat) : Int) else 1) = ((max 1 b : Nat) : Int) := by
  by_cases h : 1 < b
  · rw [if_pos (by omega), Nat.max_eq_right (by omega)]
  · rw [if_neg (by omega), Nat.max_eq_left (by omega)]
    rfl
theorem ok_Number (T : Txt K mg) : KOk P w K mg base 5 "Number" (cNumber K) (spNumInit K) :=
  mkK T.g_Number T.mk_Number T.d_Number_init sc_Number_init (fun vs H Q E h => by obtain ⟨p, dx, lo, hi, al, rfl, _⟩ := h; rfl) (fun _ _ _ _ _ _ us hl => match us, hl with | [_, _, _, _], _ => rfl) fun cdv A outer s H vs Q E hr h => by
    obtain ⟨p, dx, lo, hi, al, rfl, hp, wt, k⟩ := h
    obtain ⟨_, w1, w2, w3⟩ := id wt
    refine ⟨_, PSs.nox (pss_cons (ps_fld (pv 0) (pv 1) rfl)
      (pss_cons (ps_fld (pv 0) (pv 2) rfl)
      (pss_cons (ps_fld (pv 0) (pv 3) rfl)
      (pss_cons (ps_fld (pv 0) pe_int rfl)
      (pss_cons (ps_fld (pv 0) (pe_cx (CX := CX0) hr pas0 (by exact (pa_cons (pe_mx0 (CX := CX0) hr pas0 (pv 0)) pa_nil))) rfl)
      (pss_cons (ps_fld (pv 0) (pe_cx (CX := CX0) hr pas0 (by exact (pa_cons (pe_fld (pv 0) (by rfl)) (pa_cons (pe_mx0 (CX := CX0) hr pas0 (pv 0)) pa_nil)))) rfl)
      (pss_cons (ps_fld (pv 0) (pe_callB (call_max2 rfl) (by rfl) T.f_max (by decide +kernel) (by exact (pa_cons pe_int (pa_cons (pe_fld (pv 0) (by rfl)) pa_nil)))) rfl)
      (pss_one (ps_fld (pv 0) (pe_fld (pv 0) (by rfl)) rfl))))))))), ?_⟩
    have c0 : (hi - lo + 1) = (((hi - lo + 1).toNat : Nat) : Int) := by omega
    generalize hc : (hi - lo + 1).toNat = c at c0
    have c1 : 1 ≤ c := by omega
    have c2 : c ≤ 2 ^ 64 := by
      have : c ≤ 2000001 := by omega
      exact Nat.le_trans this (by decide)
    have eb : (formOf (.num lo hi al)).bits = bits0 c := by rw [← hc]; rfl
    have en : (formOf (.num lo hi al)).niche = ⟨0, bits0 c, c, Valaye.two (bits0 c) - c⟩ := by rw [← hc]; rfl
    have ef : flatT (.num lo hi al) = max 1 (bits0 c) := by rw [← hc]; rfl
    have e0 : ML.bl (c - 1) = bits0 c := (ML.bits0_bl c1 c2).symm
    have small : bits0 c ≤ 1000 := by
      have h2 := (ML.bitsBy_spec 64 c c2).2
      by_cases z : 2 ≤ c
      · obtain ⟨q1, q2⟩ := h2 z
        have : 2 ^ (bits0 c - 1) < 2 ^ 64 := Nat.lt_of_lt_of_le q2 c2
        have := (Nat.pow_lt_pow_iff_right (by decide : 1 < 2)).mp this
        omega
      · have z1 : c = 1 := by omega
        rw [z1]
        decide
    refine ⟨_, rfl, _, rfl, p, cNumber K, dx, [], rfl, hp, T.cl_Number, T.na_Number_first, (by show 0 < 1000; decide), ?_⟩
    refine ⟨_, rfl, _, rfl, p, cNumber K, dx, _, rfl, upd_same, T.cl_Number, T.na_Number_last, (by show 1 < 1000; decide), ?_⟩
    refine ⟨_, rfl, _, rfl, p, cNumber K, dx, _, rfl, upd_same, T.cl_Number, T.na_Number_align, (by show 2 < 1000; decide), ?_⟩
    refine ⟨_, rfl, p, cNumber K, dx, _, rfl, upd_same, T.cl_Number, T.na_Number_leaves, (by show 3 < 1000; decide), ?_⟩
    -- bits
    refine ⟨spBitsFor, (ok_bits_for T).mono (by decide), _, rfl, p, _, dx, _, spNumHow K, rfl, upd_same, rfl, (ok_num_how T).mono (by decide), p, dx, _, lo, hi, rfl, upd_same, rfl, rfl, c, c1, by rw [c0], ?_⟩
    rw [e0]
    refine ⟨_, rfl, p, cNumber K, dx, _, rfl, upd_same, T.cl_Number, T.na_Number_bits, (by show 4 < 1000; decide), ?_⟩
    -- spare
    refine ⟨_, ok_codes_to_spare T, _, rfl, p, _, dx, _, _, rfl, upd_same, T.cl_Number, T.na_Number_bits, rfl, _, rfl, p, _, dx, _, spNumHow K, rfl, upd_same, rfl, (ok_num_how T).mono (by decide), p, dx, _, lo, hi, rfl, upd_same, rfl, rfl, bits0 c, c, by rw [c0], small, ?_, fun sp H1 n1 s1 z1 => ?_⟩
    · have := ML.bits0_fits c2
      rw [ML.two_eq] at this
      exact this
    have nsp : sp ≠ p := fun e => by
      rw [e, upd_same] at n1
      cases n1
    refine ⟨_, rfl, p, cNumber K, dx, _, rfl, s1 _ _ upd_same, T.cl_Number, T.na_Number_spare, (by show 5 < 1000; decide), ?_⟩
    refine ⟨_, rfl, p, cNumber K, dx, _, _, rfl, upd_same, T.cl_Number, T.na_Number_bits, rfl, _, _, rfl, ?_⟩
    rw [max_if]
    refine ⟨_, rfl, p, cNumber K, dx, _, rfl, upd_same, T.cl_Number, T.na_Number_flat, (by show 6 < 1000; decide), ?_⟩
    refine ⟨_, rfl, p, cNumber K, dx, _, _, rfl, upd_same, T.cl_Number, T.na_Number_flat, rfl, _, rfl, p, cNumber K, dx, _, rfl, upd_same, T.cl_Number, T.na_Number_shared, (by show 7 < 1000; decide), ?_⟩
    obtain ⟨ds, hs⟩ := z1
    refine k _ sp ?_ ?_ ?_ fun b o h e => ?_
    · rw [eb, ef]
      exact upd_same.trans (congrArg (fun q => some (HO.ins (cNumber K) dx q)) (put_num lo hi al _ _ sp))
    · rw [upd_ne nsp, upd_ne nsp, upd_ne nsp, upd_ne nsp, upd_ne nsp] at n1
      exact n1
    · rw [en]
      exact ⟨ds, by rw [upd_ne nsp, upd_ne nsp, upd_ne nsp]; exact hs⟩
    · rw [upd_ne e, upd_ne e, upd_ne e]
      exact s1 _ _ (by rw [upd_ne e, upd_ne e, upd_ne e, upd_ne e, upd_ne e]; exact h)
theorem make_num (T : Txt K mg) {H1 : Hp} {lo hi : Int} {al : Nat} (wt : wf (.num lo hi al) false) {Q : VK} (k : ∀ p H', H1 p = none → Same H1 H' → (∀ bad, Bads bad H1 → KA K (Off bad H') (.num lo hi al) [p]) → Q (.ref p) H') (a dx : Addr) (na : H1 a = none) (nd : H1 dx = none) (ne : dx ≠ a) :
    spNumInit K [.ref a, .int lo, .int hi, .int al] (upd (upd H1 dx (.own a)) a (.ins (cNumber K) dx [])) (fun v H2 => v = .non ∧ Q (.ref a) H2) E0 :=
  ⟨a, dx, lo, hi, al, rfl, upd_same, wt, fun H' sp e n1 z kp => ⟨rfl, k a H' na (Same.made na nd kp) fun bad hb => by
    have nsa : sp ≠ a := fun q => by rw [q, upd_same] at n1; cases n1
    have nsd : sp ≠ dx := fun q => by rw [q, upd_ne ne, upd_same] at n1; cases n1
    rw [upd_ne nsa, upd_ne nsd] at n1
    obtain ⟨ds, hs⟩ := z
    exact ⟨a, dx, sp, _, rfl, Off.of e (hb.new na), ⟨ds, Off.of hs (hb.new n1)⟩, NEq.refl _⟩⟩⟩
end
end LY
set_option Elab.async false
set_option linter.all false
set_option maxRecDepth 100000
set_option maxHeartbeats 4000000
namespace LY
open PySem PySem.Spec PyProof.Rows L2
open Valaye (Niche formOf better moved noNiche bits0 sharedBits maybeForm taken_)
open Valaya (Ty countLeaves rowLength)
open ML (Cod cod rows wf)
section
variable {P : Program} {w : World} {K : PySem.W.Frag} {mg : Str → Option Value} {base : Heap}
/-! ### maybe -/
abbrev s_Maybe_init : Stmt := inClass (top 13) 0
abbrev n_Maybe_init : List Str := ["self", "inner"]
theorem sc_Maybe_init : FnScope n_Maybe_init ["self", "inner"] (defScope s_Maybe_init) := ⟨rfl, rfl, rfl, by decide +kernel, rfl, by decide +kernel, by decide +kernel⟩

def spMayInit (K : PySem.W.Frag) : Sp := fun vs H Q _ => ∃ (p dx i : Addr) (t : Ty) (y : Niche), vs = [.ref p, .ref i] ∧ H p = some (.ins (cMaybe K) dx []) ∧ PartAt K (Wo p H) i (pvT t y) ∧ NEq y (formOf t).niche ∧
  ∀ (H' : Hp) (sp : Addr) (y' : Niche), H' p = some (.ins (cMaybe K) dx (mayF i sp (countLeaves (.maybe t)) (flatT (.maybe t)) (sharedBits (.maybe t) false) (formOf (.maybe t)).bits (decide ((formOf t).niche.n = 0)))) → H sp = none → SpAt K H' sp y' → NEq y' (formOf (.maybe t)).niche →
    (∀ b o, H b = some o → b ≠ p → H' b = some o) → Q .non H'
theorem put_may (i sp : Addr) (lv fl sh b : Nat) (tg : Bool) : putF "spare" (.ref sp) (putF "bits" (.int b) (putF "tagged" (.bl tg) (putF "shared" (.int sh) (putF "flat" (.int fl) (putF "leaves" (.int lv) (putF "inner" (.ref i) [])))))) = mayF i sp lv fl sh b tg := by rfl
theorem one_add (n : Nat) : (1 : Int) + (n : Int) = ((1 + n : Nat) : Int) := by omega
theorem dec_zero (n : Nat) : decide (V.int (n : Int) = V.int 0) = decide (n = 0) := dec_int n 0
theorem Wo.part {p : Addr} {H H' : Hp} {a : Addr} {v : Pv} (h : PartAt K (Wo p H) a v) (s : ∀ b o, H b = some o → b ≠ p → H' b = some o) : PartAt K H' a v := h.same ((Wo.but s).trans (Wo.le _ _))
theorem ok_Maybe (T : Txt K mg) : KOk P w K mg base 5 "Maybe" (cMaybe K) (spMayInit K) :=
  mkK T.g_Maybe T.mk_Maybe T.d_Maybe_init sc_Maybe_init (fun vs H Q E h => by obtain ⟨p, dx, i, t, y, rfl, _⟩ := h; rfl) (fun _ _ _ _ _ _ us hl => match us, hl with | [_, _], _ => rfl) fun cdv A outer s H vs Q E hr h => by
    obtain ⟨p, dx, i, t, y, rfl, hp, hi, hy, k⟩ := h
    refine ⟨_, PSs.nox (pss_cons (ps_fld (pv 0) (pv 1) rfl)
      (pss_cons (ps_fld (pv 0) (pe_op op_add pe_int (pe_fld (pv 1) (by rfl))) rfl)
      (pss_cons (ps_fld (pv 0) (pe_op op_add pe_int (pe_fld (pv 1) (by rfl))) rfl)
      (pss_cons (ps_fld (pv 0) (pe_op op_add pe_int (pe_fld (pv 1) (by rfl))) rfl)
      (pss_cons (ps_fld (pv 0) (pe_cmpR op_eq (pe_fld (pe_fld (pv 1) (by rfl)) (by rfl)) pe_int (nomark _)) rfl)
      (pss_one (ps_if (pt_val (pe_fld (pv 0) (by rfl))) (pss_cons (ps_fld (pv 0) (pe_op op_add pe_int (pe_fld (pv 1) (by rfl))) rfl)
      (pss_one (ps_fld (pv 0) (pe_cx0 (CX := CX0) hr pas0) rfl))) (pss_cons (ps_fld (pv 0) (pe_fld (pv 1) (by rfl)) rfl)
      (pss_one (ps_fld (pv 0) (pe_mx (CX := CX0) hr pas0 (pe_fld (pv 1) (by rfl)) (by exact (pa_cons pe_int pa_nil))) rfl)))))))))), ?_⟩
    refine ⟨_, rfl, _, rfl, p, _, dx, [], rfl, hp, T.cl_Maybe, T.na_Maybe_inner, (by show 0 < 1000; decide), ?_⟩
    have s1 : ∀ b o, H b = some o → b ≠ p → upd H p (.ins (cMaybe K) dx (putF "inner" (.ref i) [])) b = some o := fun b o h e => (upd_ne e).trans h
    obtain ⟨C, dc, fs, g1, g2, g3, g4⟩ := (Wo.part hi s1).leaves
    refine ⟨_, rfl, i, C, dc, fs, _, rfl, g1, g2, g3, g4, _, _, rfl, rfl, ?_⟩
    refine ⟨_, rfl, p, _, dx, _, rfl, upd_same, T.cl_Maybe, T.na_Maybe_leaves, (by show 1 < 1000; decide), ?_⟩
    have s2 : ∀ {o' : HO} b o, H b = some o → b ≠ p → upd (upd H p (.ins (cMaybe K) dx (putF "inner" (.ref i) []))) p o' b = some o := fun b o h e => (upd_ne e).trans (s1 b o h e)
    obtain ⟨C, dc, fs, g1, g2, g3, g4⟩ := (Wo.part hi (s2 (o' := .ins (cMaybe K) dx (putF "leaves" (.int (1 + (countLeaves t : Nat))) (putF "inner" (.ref i) []))))).flat
    refine ⟨_, rfl, i, C, dc, fs, _, rfl, g1, g2, g3, g4, _, _, rfl, rfl, ?_⟩
    refine ⟨_, rfl, p, _, dx, _, rfl, upd_same, T.cl_Maybe, T.na_Maybe_flat, (by show 2 < 1000; decide), ?_⟩
    have s3 : ∀ {o1 o2 : HO} b o, H b = some o → b ≠ p → upd (upd (upd H p (.ins (cMaybe K) dx (putF "inner" (.ref i) []))) p o1) p o2 b = some o := fun b o h e => (upd_ne e).trans (s2 b o h e)
    obtain ⟨C, dc, fs, g1, g2, g3, g4⟩ := (Wo.part hi s3).shared
    refine ⟨_, rfl, i, C, dc, fs, _, rfl, g1, g2, g3, g4, _, _, rfl, rfl, ?_⟩
    refine ⟨_, rfl, p, _, dx, _, rfl, upd_same, T.cl_Maybe, T.na_Maybe_shared, (by show 3 < 1000; decide), ?_⟩
    have s4 : ∀ {o1 o2 o3 : HO} b o, H b = some o → b ≠ p → upd (upd (upd (upd H p (.ins (cMaybe K) dx (putF "inner" (.ref i) []))) p o1) p o2) p o3 b = some o := fun b o h e => (upd_ne e).trans (s3 b o h e)
    obtain ⟨C, dc, fs, si, g1, g2, g3, g4, ⟨dsi, g5⟩⟩ := (Wo.part hi s4).spare
    refine ⟨_, rfl, i, C, dc, fs, _, rfl, g1, g2, g3, g4, si, _, dsi, _, _, rfl, g5, T.cl_Spare, T.na_Spare_left, rfl, rfl, ?_⟩
    refine ⟨_, rfl, p, _, dx, _, rfl, upd_same, T.cl_Maybe, T.na_Maybe_tagged, (by show 4 < 1000; decide), ?_⟩
    rw [dec_zero]
    have ey : y.n = (formOf t).niche.n := hy.1
    rw [show (pvT t y).nic.n = (formOf t).niche.n from ey]
    refine ⟨_, rfl, p, _, dx, _, _, rfl, upd_same, T.cl_Maybe, T.na_Maybe_tagged, rfl, _, rfl, ?_⟩
    have s5 : ∀ {o1 o2 o3 o4 : HO} b o, H b = some o → b ≠ p → upd (upd (upd (upd (upd H p (.ins (cMaybe K) dx (putF "inner" (.ref i) []))) p o1) p o2) p o3) p o4 b = some o := fun b o h e => (upd_ne e).trans (s4 b o h e)
    obtain ⟨C, dc, fs, g1, g2, g3, g4⟩ := (Wo.part hi s5).bits
    by_cases c : (formOf t).niche.n = 0
    · have fm : formOf (.maybe t) = ⟨(formOf t).bits + 1, noNiche⟩ := by
        show maybeForm (formOf t) = _
        unfold maybeForm
        rw [if_neg (by omega)]
      refine iteC c ?_
      refine ⟨_, rfl, i, C, dc, fs, _, rfl, g1, g2, g3, g4, _, _, rfl, rfl, ?_⟩
      refine ⟨_, rfl, p, _, dx, _, rfl, upd_same, T.cl_Maybe, T.na_Maybe_bits, (by show 5 < 1000; decide), ?_⟩
      refine ⟨_, ok_nothing_spare T, rfl, fun sp H1 n1 e1 z1 => ?_⟩
      refine ⟨_, rfl, p, _, dx, _, rfl, e1 _ _ upd_same, T.cl_Maybe, T.na_Maybe_spare, (by show 6 < 1000; decide), ?_⟩
      have nsp : sp ≠ p := fun e => by
        rw [e, upd_same] at n1
        cases n1
      obtain ⟨ds, hs⟩ := z1
      refine k _ sp noNiche ?_ ?_ ⟨ds, (upd_ne nsp).trans hs⟩ (by rw [fm]; exact NEq.refl _) fun b o h e => (upd_ne e).trans (e1 _ _ ((upd_ne e).trans (s5 b o h e)))
      · rw [fm]
        refine upd_same.trans (congrArg (fun q => some (HO.ins (cMaybe K) dx q)) ?_)
        rw [show ((formOf t).bits + 1) = 1 + (formOf t).bits by omega]
        exact put_may i sp _ _ _ _ _
      · rw [upd_ne nsp, upd_ne nsp, upd_ne nsp, upd_ne nsp, upd_ne nsp, upd_ne nsp] at n1
        exact n1
    · have fm : formOf (.maybe t) = ⟨(formOf t).bits, taken_ 1 (formOf t).niche⟩ := by
        show maybeForm (formOf t) = _
        unfold maybeForm
        rw [if_pos (by omega)]
      have yy : y = (formOf t).niche := hy.2 (by omega)
      refine iteD c ?_
      refine ⟨_, rfl, i, C, dc, fs, _, rfl, g1, g2, g3, g4, ?_⟩
      refine ⟨_, rfl, p, _, dx, _, rfl, upd_same, T.cl_Maybe, T.na_Maybe_bits, (by show 5 < 1000; decide), ?_⟩
      have s6 : ∀ {o1 o2 o3 o4 o5 : HO} b o, H b = some o → b ≠ p → upd (upd (upd (upd (upd (upd H p (.ins (cMaybe K) dx (putF "inner" (.ref i) []))) p o1) p o2) p o3) p o4) p o5 b = some o := fun b o h e => (upd_ne e).trans (s5 b o h e)
      obtain ⟨C, dc, fs, si, g1, g2, g3, g4, ⟨dsi, g5⟩⟩ := (Wo.part hi s6).spare
      refine ⟨_, rfl, i, C, dc, fs, _, rfl, g1, g2, g3, g4, si, _, dsi, _, spWithout K, rfl, g5, rfl, (ok_without T).mono (by decide), si, y, 1, rfl, ⟨dsi, g5⟩, by omega, fun sp H1 n1 e1 z1 => ?_⟩
      refine ⟨_, rfl, p, _, dx, _, rfl, e1 _ _ upd_same, T.cl_Maybe, T.na_Maybe_spare, (by show 6 < 1000; decide), ?_⟩
      have nsp : sp ≠ p := fun e => by
        rw [e, upd_same] at n1
        cases n1
      obtain ⟨ds, hs⟩ := z1
      refine k _ sp (taken_ 1 y) ?_ ?_ ⟨ds, (upd_ne nsp).trans hs⟩ (by rw [fm, yy]; exact NEq.refl _) fun b o h e => (upd_ne e).trans (e1 _ _ (s6 b o h e))
      · rw [fm]
        exact upd_same.trans (congrArg (fun q => some (HO.ins (cMaybe K) dx q)) (put_may i sp _ _ _ _ _))
      · rw [upd_ne nsp, upd_ne nsp, upd_ne nsp, upd_ne nsp, upd_ne nsp, upd_ne nsp] at n1
        exact n1
theorem make_may (T : Txt K mg) {H1 : Hp} {i : Addr} {t : Ty} (wt : wf t false) {bad : Addr → Bool} (hb : Bads bad H1) (hi : KA K (Off bad H1) t [i]) {Q : VK} (k : ∀ p H', H1 p = none → Same H1 H' → KA K (Off bad H') (.maybe t) [p] → Q (.ref p) H') (a dx : Addr) (na : H1 a = none) (nd : H1 dx = none) (ne : dx ≠ a) :
    spMayInit K [.ref a, .ref i] (upd (upd H1 dx (.own a)) a (.ins (cMaybe K) dx [])) (fun v H2 => v = .non ∧ Q (.ref a) H2) E0 := by
  have hi1 := hi.same (Off.le _ _)
  obtain ⟨y, hy, pt⟩ := hi1.part T wt
  refine ⟨a, dx, i, t, y, rfl, upd_same, pt.same (Wo.new na fun b o e => ?_), hy, fun H' sp y' e n1 z ny kp => ⟨rfl, ?_⟩⟩
  · rw [upd_ne (ne_of_none e na), upd_ne (ne_of_none e nd)]
    exact e
  · have sm : Same H1 H' := Same.made na nd kp
    have nsa : sp ≠ a := fun q => by rw [q, upd_same] at n1; cases n1
    have nsd : sp ≠ dx := fun q => by rw [q, upd_ne ne, upd_same] at n1; cases n1
    rw [upd_ne nsa, upd_ne nsd] at n1
    obtain ⟨ds, hs⟩ := z
    exact k a H' na sm ⟨a, dx, i, sp, y', rfl, Off.of e (hb.new na), hi.same (Same.off sm), ⟨ds, Off.of hs (hb.new n1)⟩, ny⟩
end
end LY
set_option Elab.async false
set_option linter.all false
set_option maxRecDepth 100000
set_option maxHeartbeats 4000000
namespace LY
open PySem PySem.Spec PyProof.Rows L2
open Valaye (Niche formOf better moved noNiche bits0 sharedBits maybeForm taken_)
open Valaya (Ty countLeaves rowLength)
open ML (Cod cod rows wf)
section
variable {P : Program} {w : World} {K : PySem.W.Frag} {mg : Str → Option Value} {base : Heap}
/-! ### parts of rows -/
theorem alike_rep (t : Ty) {y : Niche} (h : NEq y (formOf t).niche) : ∀ n, Alike (List.replicate n (pvT t y)) (List.replicate n (cod t))
  | 0 => trivial
  | n + 1 => ⟨rfl, h, alike_rep t h n⟩
theorem sum_rep (n k : Nat) : (List.replicate n k).sum = n * k := by
  induction n with
  | zero => simp
  | succ n ih => rw [List.replicate_succ, List.sum_cons, ih, Nat.succ_mul, Nat.add_comm]
/-- a row's parts -/
structure RowIs (K : PySem.W.Frag) (H : Hp) (fs : Ty) (ias : List Addr) (ps : List Pv) : Prop where
  at_ : PartsAt K H ias ps
  alike : Alike ps ((rows fs).map cod)
  lv : (ps.map Pv.leaves).sum = countLeaves fs
  fl : (ps.map Pv.flat).sum = flatT fs
  sh : (ps.map Pv.shared).sum = sharedBits fs false
  mx : (ps.map Pv.shared).foldr Nat.max 0 = sharedBits fs true
theorem parts_cons {H : Hp} {a : Addr} {v : Pv} {as : List Addr} {vs : List Pv} (h : PartAt K H a v) (r : PartsAt K H as vs) : PartsAt K H (a :: as) (v :: vs) := by
  refine ⟨congrArg (· + 1) r.1, fun i x u q z => ?_⟩
  cases i with
  | zero =>
    cases Option.some.inj q
    cases Option.some.inj z
    exact h
  | succ i => exact r.2 i x u q z
theorem KA.row (T : Txt K mg) {H : Hp} : ∀ {fs : Ty} {ias : List Addr}, wf fs true → KA K H fs ias → ∃ ps, RowIs K H fs ias ps
  | .field x h t r, ias, w, ⟨a, as, e, h1, h2⟩ => by
    subst e
    obtain ⟨y, hy, pt⟩ := h1.part T w.2.1
    obtain ⟨ps, q⟩ := KA.row T w.2.2 h2
    refine ⟨pvT t y :: ps, parts_cons pt q.at_, ⟨rfl, hy, q.alike⟩, ?_, ?_, ?_, ?_⟩
    · rw [List.map_cons, List.sum_cons, q.lv]
      rfl
    · rw [List.map_cons, List.sum_cons, q.fl]
      rfl
    · rw [List.map_cons, List.sum_cons, q.sh]
      rfl
    · rw [List.map_cons, List.foldr_cons, q.mx]
      rfl
  | .nil, ias, _, h => by
    have h : ias = [] := h
    subst h
    exact ⟨[], ⟨rfl, fun i a v q => by simp at q⟩, trivial, rfl, rfl, rfl, rfl⟩
  | .num _ _ _, _, w, _ => (nomatch w.1)
  | .maybe _, _, w, _ => (nomatch w.1)
  | .many _ _, _, w, _ => (nomatch w.1)
  | .rec_ _, _, w, _ => (nomatch w.1)
  | .named _ _, _, w, _ => (nomatch w.1)
  | .one_ _, _, w, _ => (nomatch w.1)
theorem KA.len {H : Hp} : ∀ {fs : Ty} {ias : List Addr}, wf fs true → KA K H fs ias → ias.length = rowLength fs
  | .field x h t r, ias, w, ⟨a, as, e, h1, h2⟩ => by
    subst e
    exact congrArg (· + 1) (KA.len w.2.2 h2)
  | .nil, ias, _, h => by
    have h : ias = [] := h
    subst h
    rfl
  | .num _ _ _, _, w, _ => (nomatch w.1)
  | .maybe _, _, w, _ => (nomatch w.1)
  | .many _ _, _, w, _ => (nomatch w.1)
  | .rec_ _, _, w, _ => (nomatch w.1)
  | .named _ _, _, w, _ => (nomatch w.1)
  | .one_ _, _, w, _ => (nomatch w.1)
theorem RowIs.same {H H' : Hp} {fs : Ty} {ias : List Addr} {ps : List Pv} (h : RowIs K H fs ias ps) (s : Same H H') : RowIs K H' fs ias ps := ⟨h.at_.same s, h.alike, h.lv, h.fl, h.sh, h.mx⟩
theorem form_rec {fs : Ty} (w : wf fs true) : formOf (.rec_ fs) = ⟨ML.bitsRow ((rows fs).map cod), ML.nicRow ((rows fs).map cod)⟩ := by
  obtain ⟨_, _, _, _, _, _, _, h⟩ := ML.cod_row w
  exact h
/-! ### Row's __init__, read off its class -/
theorem ok_RowB (T : Txt K mg) : BOk P w K mg base 5 "Row" "__init__" (spRowInit K) := by
  obtain ⟨fd, F, b⟩ := ok_Row_init (P := P) (w := w) (base := base) T
  obtain ⟨fd2, F2⟩ := T.d_Row_init
  exact ⟨_, _, fd, _, 5, Nat.le_refl _, T.g_Row, ⟨T.is.rd, T.is.sp⟩, isVal_ok T.is.rowi, F2.kp, F, b⟩
/-! ### many -/
abbrev s_Many_init : Stmt := inClass (top 17) 0
abbrev n_Many_init : List Str := ["self", "times", "inner", "step"]
theorem sc_Many_init : FnScope n_Many_init ["self", "times", "inner"] (defScope s_Many_init) := ⟨rfl, rfl, rfl, by decide +kernel, rfl, by decide +kernel, by decide +kernel⟩
abbrev s_Field_init : Stmt := inClass (top 18) 0
abbrev n_Field_init : List Str := ["self", "name", "inner", "hot"]
theorem sc_Field_init : FnScope n_Field_init ["self", "name", "inner", "hot"] (defScope s_Field_init) := ⟨rfl, rfl, rfl, by decide +kernel, rfl, by decide +kernel, by decide +kernel⟩
abbrev s_Record_init : Stmt := inClass (top 19) 0
abbrev n_Record_init : List Str := ["self", "name", "fields", "field"]
theorem sc_Record_init : FnScope n_Record_init ["self", "name", "fields"] (defScope s_Record_init) := ⟨rfl, rfl, rfl, by decide +kernel, rfl, by decide +kernel, by decide +kernel⟩

theorem row_cls_many (T : Txt K mg) : RowCls K (cMany K) := ⟨T.cl_Many, T.na_Many_parts, T.na_Many_leaves, T.na_Many_flat, T.na_Many_shared, T.na_Many_bits, T.na_Many_spare⟩
theorem row_cls_rec (T : Txt K mg) : RowCls K (cRecord K) := ⟨T.cl_Record, T.na_Record_parts, T.na_Record_leaves, T.na_Record_flat, T.na_Record_shared, T.na_Record_bits, T.na_Record_spare⟩
def spManyInit (K : PySem.W.Frag) : Sp := fun vs H Q _ => ∃ (p dx i : Addr) (n : Nat) (t : Ty) (y : Niche), vs = [.ref p, .int (n : Int), .ref i] ∧ H p = some (.ins (cMany K) dx []) ∧ n ≤ 8 ∧ PartAt K (Wo p H) i (pvT t y) ∧ NEq y (formOf t).niche ∧
  ∀ (H' : Hp) (pl sp : Addr) (y' : Niche), H' p = some (.ins (cMany K) dx (manyF pl sp i (countLeaves (.many n t)) (flatT (.many n t)) (sharedBits (.many n t) false) (formOf (.many n t)).bits n)) → H pl = none → H' pl = some (.lst ((List.replicate n i).map V.ref)) → H sp = none → SpAt K H' sp y' → NEq y' (formOf (.many n t)).niche →
    (∀ b o, H b = some o → b ≠ p → H' b = some o) → Q .non H'
theorem put_many (pl sp i : Addr) (lv fl sh b n : Nat) : putF "inner" (.ref i) (putF "times" (.int n) (rowF pl sp lv fl sh b)) = manyF pl sp i lv fl sh b n := by rfl
theorem ok_Many (T : Txt K mg) : KOk P w K mg base 7 "Many" (cMany K) (spManyInit K) :=
  mkK T.g_Many T.mk_Many T.d_Many_init sc_Many_init (fun vs H Q E h => by obtain ⟨p, dx, i, n, t, y, rfl, _⟩ := h; rfl) (fun _ _ _ _ _ _ us hl => match us, hl with | [_, _, _], _ => rfl) fun cdv A outer s H vs Q E hr h => by
    obtain ⟨p, dx, i, n, t, y, rfl, hp, hn, hi, hy, k⟩ := h
    refine ⟨_, PSs.nox (pss_cons (ps_expr (pe_bx hr (by exact (pa_cons (pv 0) (pa_cons (pe_lc (own := [("step", 3)]) (g := gName 3) (tt := tYes) rfl sc_Many_init.nd (pi_range1 (by rfl) T.f_range (pa_cons (pv 1) pa_nil)) (blkOk_by (own := [("step", 3)]) (N := n_Many_init) (sc := defScope s_Many_init) (by decide +kernel)) (fun _ _ _ _ _ => by exact (pg_name (i := 3) sc_Many_init.nd rfl (Or.inl rfl))) (fun _ _ _ _ _ => pts_nil) (fun _ _ _ _ _ => by exact (pv 2))) pa_nil)))))
      (pss_cons (ps_fld (pv 0) (pv 1) rfl)
      (pss_one (ps_fld (pv 0) (pv 2) rfl)))), ?_⟩
    refine ⟨spRowInit K, ok_RowB T, _, rfl, _, rfl, _, rfl, by omega, by omega, fun D hD => lc_range (lo := 0) (n := ((n : Nat) : Int).toNat) (fun j H' => Same H H' ∧ H' D = some (.lst ((List.replicate j i).map V.ref))) ⟨same_new hD, upd_same⟩ ?_ ?_⟩
    · rintro j H' hj ⟨s1, d1⟩
      refine ⟨rfl, yes ⟨_, rfl, _, d1, ?_, ?_, ?_⟩⟩
      · rw [List.length_map, List.length_replicate]
        exact small1000 (by omega)
      · intro c o e
        rw [upd_ne (ne_of_none e hD)]
        exact s1 c o e
      · rw [upd_same, List.replicate_succ', List.map_append]
        rfl
    · rintro H1 ⟨s1, d1⟩
      rw [Int.toNat_natCast] at d1
      refine ⟨p, dx, D, cMany K, List.replicate n i, List.replicate n (pvT t y), rfl, s1 _ _ hp, row_cls_many T, SqL.of d1, ⟨by rw [List.length_replicate, List.length_replicate], fun j a v q r => ?_⟩, ?_, fun H2 sp e2 n2 z2 k2 => ?_⟩
      · rw [(List.mem_replicate.mp (List.mem_of_getElem? q)).2, (List.mem_replicate.mp (List.mem_of_getElem? r)).2]
        exact hi.same (Wo.but fun b o e _ => s1 b o e)
      · rw [List.length_replicate]
        exact small1000 (by omega)
      · rw [List.map_replicate, List.map_replicate, List.map_replicate, List.map_replicate, sum_rep, sum_rep, sum_rep, sum_rep] at e2
        have al := alike_rep t hy n
        have eb : n * (pvT t y).bits = (formOf (.many n t)).bits := by
          have := alike_bits al
          rw [List.map_replicate, sum_rep] at this
          rw [this]
          exact (congrArg Valaye.Form.bits (ML.form_many t n)).symm
        have en : NEq (great (List.replicate n (pvT t y)) noNiche 0) (formOf (.many n t)).niche := by
          have := great_row al
          rw [show (formOf (.many n t)).niche = ML.nicRow (List.replicate n (cod t)) from congrArg Valaye.Form.niche (ML.form_many t n)]
          exact this
        have Dp : D ≠ p := fun e => by
          rw [e, hp] at hD
          cases hD
        have nsp : sp ≠ p := fun e => by
          rw [e, s1 _ _ hp] at n2
          cases n2
        refine ⟨_, rfl, _, rfl, p, _, dx, _, rfl, e2, T.cl_Many, T.na_Many_times, (by show 6 < 1000; decide), ?_⟩
        refine ⟨_, rfl, _, rfl, p, _, dx, _, rfl, upd_same, T.cl_Many, T.na_Many_inner, (by show 7 < 1000; decide), ?_⟩
        obtain ⟨ds, hs⟩ := z2
        refine k _ D sp (great (List.replicate n (pvT t y)) noNiche 0) ?_ hD ?_ (Same.free s1 n2) ⟨ds, by rw [upd_ne nsp, upd_ne nsp]; exact hs⟩ en fun b o h e => ?_
        · rw [← eb]
          exact upd_same.trans (congrArg (fun q => some (HO.ins (cMany K) dx q)) (put_many D sp i _ _ _ _ n))
        · rw [upd_ne Dp, upd_ne Dp]
          exact k2 _ _ d1 Dp
        · rw [upd_ne e, upd_ne e]
          exact k2 _ _ (s1 _ _ h) e
theorem make_many (T : Txt K mg) {H1 : Hp} {i : Addr} {n : Nat} {t : Ty} (wt : wf t false) (hn : n ≤ 8) {bad : Addr → Bool} (hb : Bads bad H1) (hi : KA K (Off bad H1) t [i]) {Q : VK} (k : ∀ p H', H1 p = none → Same H1 H' → KA K (Off bad H') (.many n t) [p] → Q (.ref p) H') (a dx : Addr) (na : H1 a = none) (nd : H1 dx = none) (ne : dx ≠ a) :
    spManyInit K [.ref a, .int (n : Int), .ref i] (upd (upd H1 dx (.own a)) a (.ins (cMany K) dx [])) (fun v H2 => v = .non ∧ Q (.ref a) H2) E0 := by
  have hi1 := hi.same (Off.le _ _)
  obtain ⟨y, hy, pt⟩ := hi1.part T wt
  have new : ∀ {q : Addr}, upd (upd H1 dx (.own a)) a (.ins (cMany K) dx []) q = none → H1 q = none := fun {q} n1 => by
    have nsa : q ≠ a := fun e => by rw [e, upd_same] at n1; cases n1
    have nsd : q ≠ dx := fun e => by rw [e, upd_ne ne, upd_same] at n1; cases n1
    rw [upd_ne nsa, upd_ne nsd] at n1
    exact n1
  refine ⟨a, dx, i, n, t, y, rfl, upd_same, hn, pt.same (Wo.new na fun b o e => ?_), hy, fun H' pl sp y' e n1 d1 n2 z ny kp => ⟨rfl, ?_⟩⟩
  · rw [upd_ne (ne_of_none e na), upd_ne (ne_of_none e nd)]
    exact e
  · have sm : Same H1 H' := Same.made na nd kp
    obtain ⟨ds, hs⟩ := z
    exact k a H' na sm ⟨a, dx, i, pl, sp, y', rfl, Off.of e (hb.new na), hi.same (Same.off sm), Off.of d1 (hb.new (new n1)), ⟨ds, Off.of hs (hb.new (new n2))⟩, ny⟩
/-! ### fields -/
def spFldInit (K : PySem.W.Frag) : Sp := fun vs H Q _ => ∃ (p dx i : Addr) (nm : Str) (h : Nat), vs = [.ref p, .str nm, .ref i, .int (h : Int)] ∧ H p = some (.ins (cField K) dx []) ∧
  ∀ H' : Hp, H' p = some (.ins (cField K) dx (fldF nm i h)) → (∀ b o, H b = some o → b ≠ p → H' b = some o) → Q .non H'
theorem put_fld (nm : Str) (i : Addr) (h : Nat) : putF "hot" (.int h) (putF "inner" (.ref i) (putF "name" (.str nm) [])) = fldF nm i h := by rfl
theorem ok_Field (T : Txt K mg) : KOk P w K mg base 2 "Field" (cField K) (spFldInit K) :=
  mkK T.g_Field T.mk_Field T.d_Field_init sc_Field_init (fun vs H Q E h => by obtain ⟨p, dx, i, nm, h, rfl, _⟩ := h; rfl) (fun _ _ _ _ _ _ us hl => match us, hl with | [_, _, _, _], _ => rfl) fun cdv A outer s H vs Q E hr h => by
    obtain ⟨p, dx, i, nm, h, rfl, hp, k⟩ := h
    refine ⟨_, PSs.nox (pss_cons (ps_fld (pv 0) (pv 1) rfl)
      (pss_cons (ps_fld (pv 0) (pv 2) rfl)
      (pss_one (ps_fld (pv 0) (pv 3) rfl)))), ?_⟩
    refine ⟨_, rfl, _, rfl, p, _, dx, [], rfl, hp, T.cl_Field, T.na_Field_name, (by show 0 < 1000; decide), ?_⟩
    refine ⟨_, rfl, _, rfl, p, _, dx, _, rfl, upd_same, T.cl_Field, T.na_Field_inner, (by show 1 < 1000; decide), ?_⟩
    refine ⟨_, rfl, _, rfl, p, _, dx, _, rfl, upd_same, T.cl_Field, T.na_Field_hot, (by show 2 < 1000; decide), ?_⟩
    refine k _ (upd_same.trans (congrArg (fun q => some (HO.ins (cField K) dx q)) (put_fld nm i h))) fun b o e hb => ?_
    rw [upd_ne hb, upd_ne hb, upd_ne hb]
    exact e
/-! ### records -/
/-- [x.f for x in ..] over objects, whatever f is -/
theorem lc_val {f : Str} {i : Nat} {σ : L2.St} {H : Hp} {l D : Addr} {as : List Addr} {vs : List V} {Qd : Hp → Prop} (hD : H D = none) (hS : SqL K H l (as.map V.ref)) (hlen : as.length = vs.length) (small : as.length < sizeLine)
    (hf : ∀ (j : Nat) (a : Addr) (v : V), as[j]? = some a → vs[j]? = some v → ∃ C dx fs, H a = some (.ins C dx fs) ∧ Cls K C ∧ NoAttr K C f ∧ fs.lookup f = some v)
    (hget : ∀ x : V, ((wipe σ [i]).set i (some x))[i]? = some (some x)) (hwipe : ∀ x : V, wipe ((wipe σ [i]).set i (some x)) [i] = wipe σ [i])
    (k : ∀ H', Same H H' → H' D = some (.lst vs) → Qd H') :
    LcL K l (gName i) tYes (tFld K (tVar i) f) [i] σ H D Qd := by
  refine lc_list (K := K) (a := l) (xs := as.map V.ref) (fun j H' => Same H H' ∧ H' D = some (.lst (vs.take j))) ⟨same_new hD, upd_same⟩ (fun _ _ _ ⟨s, _⟩ => s.seq hS) ?_ ?_
  · rintro j x H' hx ⟨s1, d1⟩
    obtain ⟨a, ha, rfl⟩ := map_get hx
    have hj : j < vs.length := by rw [← hlen]; exact (List.getElem?_eq_some_iff.mp ha).1
    have hn : vs[j]? = some vs[j] := List.getElem?_eq_getElem hj
    generalize vs[j] = n at hn
    obtain ⟨C, dx, fs, h1, h2, h3, h4⟩ := hf j a n ha hn
    refine ⟨hwipe _, yes ?_⟩
    refine ⟨_, hget _, a, C, dx, fs, _, rfl, s1 _ _ h1, h2, h3, h4, _, d1, ?_, ?_, ?_⟩
    · rw [List.length_take, Nat.min_eq_left (Nat.le_of_lt hj)]
      omega
    · intro c o e
      rw [upd_ne (ne_of_none e hD)]
      exact s1 c o e
    · rw [upd_same, List.take_succ, hn]
      rfl
  · rintro H' ⟨s1, d1⟩
    rw [List.length_map, hlen, List.take_length] at d1
    exact k H' s1 d1
theorem flds_get {H : Hp} (T : Txt K mg) : ∀ {fs : Ty} {fas ias : List Addr}, FldsAt K H fs fas ias → fas.length = ias.length ∧ ∀ (j : Nat) (a : Addr) (v : V), fas[j]? = some a → (ias.map V.ref)[j]? = some v → ∃ C dx fl, H a = some (.ins C dx fl) ∧ Cls K C ∧ NoAttr K C "inner" ∧ fl.lookup ("inner" : Str) = some v
  | .field x h t r, f :: fas, i :: ias, q => by
    obtain ⟨⟨dx, e⟩, q2⟩ := q
    obtain ⟨l, g⟩ := flds_get T q2
    refine ⟨congrArg (· + 1) l, fun j a v e1 e2 => ?_⟩
    cases j with
    | zero =>
      cases Option.some.inj e1
      cases Option.some.inj e2
      exact ⟨_, dx, _, e, T.cl_Field, T.na_Field_inner, rfl⟩
    | succ j => exact g j a v e1 e2
  | .field _ _ _ _, [], _, q => q.elim
  | .field _ _ _ _, _ :: _, [], q => q.elim
  | .num _ _ _, fas, ias, q => by obtain ⟨rfl, rfl⟩ : fas = [] ∧ ias = [] := q; exact ⟨rfl, fun j a v e => by simp at e⟩
  | .maybe _, fas, ias, q => by obtain ⟨rfl, rfl⟩ : fas = [] ∧ ias = [] := q; exact ⟨rfl, fun j a v e => by simp at e⟩
  | .many _ _, fas, ias, q => by obtain ⟨rfl, rfl⟩ : fas = [] ∧ ias = [] := q; exact ⟨rfl, fun j a v e => by simp at e⟩
  | .rec_ _, fas, ias, q => by obtain ⟨rfl, rfl⟩ : fas = [] ∧ ias = [] := q; exact ⟨rfl, fun j a v e => by simp at e⟩
  | .named _ _, fas, ias, q => by obtain ⟨rfl, rfl⟩ : fas = [] ∧ ias = [] := q; exact ⟨rfl, fun j a v e => by simp at e⟩
  | .one_ _, fas, ias, q => by obtain ⟨rfl, rfl⟩ : fas = [] ∧ ias = [] := q; exact ⟨rfl, fun j a v e => by simp at e⟩
  | .nil, fas, ias, q => by obtain ⟨rfl, rfl⟩ : fas = [] ∧ ias = [] := q; exact ⟨rfl, fun j a v e => by simp at e⟩
def spRecInit (K : PySem.W.Frag) : Sp := fun vs H Q _ => ∃ (p dx fl : Addr) (nm : Str) (fs : Ty) (fas ias : List Addr) (ps : List Pv), vs = [.ref p, .str nm, .ref fl] ∧ H p = some (.ins (cRecord K) dx []) ∧ wf fs true ∧ H fl = some (.lst (fas.map V.ref)) ∧ fas.length < sizeLine ∧ FldsAt K (Wo p H) fs fas ias ∧ RowIs K (Wo p H) fs ias ps ∧
  ∀ (H' : Hp) (pl sp : Addr) (y' : Niche), H' p = some (.ins (cRecord K) dx (recF pl sp fl (countLeaves (.rec_ fs)) (flatT (.rec_ fs)) (sharedBits (.rec_ fs) false) (formOf (.rec_ fs)).bits nm)) → H pl = none → H' pl = some (.lst (ias.map V.ref)) → H sp = none → SpAt K H' sp y' → NEq y' (formOf (.rec_ fs)).niche →
    (∀ b o, H b = some o → b ≠ p → H' b = some o) → Q .non H'
theorem put_rec (pl sp fl : Addr) (lv f sh b : Nat) (nm : Str) : putF "fields" (.ref fl) (putF "name" (.str nm) (rowF pl sp lv f sh b)) = recF pl sp fl lv f sh b nm := by rfl
theorem ok_Record (T : Txt K mg) : KOk P w K mg base 7 "Record" (cRecord K) (spRecInit K) :=
  mkK T.g_Record T.mk_Record T.d_Record_init sc_Record_init (fun vs H Q E h => by obtain ⟨p, dx, fl, nm, fs, fas, ias, ps, rfl, _⟩ := h; rfl) (fun _ _ _ _ _ _ us hl => match us, hl with | [_, _, _], _ => rfl) fun cdv A outer s H vs Q E hr h => by
    obtain ⟨p, dx, fl, nm, fs, fas, ias, ps, rfl, hp, wt, hfl, hsm, hF, hR, k⟩ := h
    have flp : fl ≠ p := ne_of hfl hp (by intro z; cases z)
    obtain ⟨len, get⟩ := flds_get T (hF.same (Wo.le _ _))
    refine ⟨_, PSs.nox (pss_cons (ps_expr (pe_bx hr (by exact (pa_cons (pv 0) (pa_cons (pe_lc (own := [("field", 3)]) (g := gName 3) (tt := tYes) (te := (tFld K (tVar 3) "inner")) rfl sc_Record_init.nd (pi_list (pv 2)) (blkOk_by (own := [("field", 3)]) (N := n_Record_init) (sc := defScope s_Record_init) (by decide +kernel)) (fun _ _ _ _ _ => by exact (pg_name (i := 3) sc_Record_init.nd rfl (Or.inl rfl))) (fun _ _ _ _ _ => pts_nil) (fun _ _ _ _ _ => by exact (pe_fld (pv 3) (by rfl)))) pa_nil)))))
      (pss_cons (ps_fld (pv 0) (pv 1) rfl)
      (pss_one (ps_fld (pv 0) (pv 2) rfl)))), ?_⟩
    refine ⟨spRowInit K, ok_RowB T, _, rfl, _, rfl, fl, rfl, ⟨_, SqL.of hfl⟩, fun D hD => lc_val (f := "inner") (i := 3) (as := fas) (vs := ias.map V.ref) hD (SqL.of hfl) (by rw [List.length_map]; exact len) hsm get (fun _ => rfl) (fun _ => rfl) fun H1 s1 d1 => ?_⟩
    refine ⟨p, dx, D, cRecord K, ias, ps, rfl, s1 _ _ hp, row_cls_rec T, SqL.of d1, hR.at_.same (Wo.but fun b o e _ => s1 b o e), by rw [← len]; exact hsm, fun H2 sp e2 n2 z2 k2 => ?_⟩
    rw [hR.lv, hR.fl, hR.sh, alike_bits hR.alike] at e2
    have en : NEq (great ps noNiche 0) (formOf (.rec_ fs)).niche := by
      rw [form_rec wt]
      exact great_row hR.alike
    have Dp : D ≠ p := fun e => by
      rw [e, hp] at hD
      cases hD
    have nsp : sp ≠ p := fun e => by
      rw [e, s1 _ _ hp] at n2
      cases n2
    refine ⟨_, rfl, _, rfl, p, _, dx, _, rfl, e2, T.cl_Record, T.na_Record_name, (by show 6 < 1000; decide), ?_⟩
    refine ⟨_, rfl, _, rfl, p, _, dx, _, rfl, upd_same, T.cl_Record, T.na_Record_fields, (by show 7 < 1000; decide), ?_⟩
    obtain ⟨ds, hs⟩ := z2
    refine k _ D sp (great ps noNiche 0) ?_ hD ?_ (Same.free s1 n2) ⟨ds, by rw [upd_ne nsp, upd_ne nsp]; exact hs⟩ en fun b o h e => ?_
    · rw [form_rec wt]
      exact upd_same.trans (congrArg (fun q => some (HO.ins (cRecord K) dx q)) (put_rec D sp fl _ _ _ _ nm))
    · rw [upd_ne Dp, upd_ne Dp]
      exact k2 _ _ d1 Dp
    · rw [upd_ne e, upd_ne e]
      exact k2 _ _ (s1 _ _ h) e
theorem make_rec (T : Txt K mg) {H1 : Hp} {fl : Addr} {nm : Str} {fs : Ty} {fas ias : List Addr} (wt : wf fs true) (hsm : fas.length < sizeLine) {bad : Addr → Bool} (hb : Bads bad H1) (hfl : Off bad H1 fl = some (.lst (fas.map V.ref))) (hF : FldsAt K (Off bad H1) fs fas ias) (hi : KA K (Off bad H1) fs ias) {Q : VK}
    (k : ∀ p H', H1 p = none → Same H1 H' → KA K (Off bad H') (.rec_ fs) [p] → (∃ dx fs', H' p = some (.ins (cRecord K) dx fs') ∧ fs'.lookup ("name" : Str) = some (.str nm) ∧ fs'.lookup ("leaves" : Str) = some (.int (countLeaves fs : Nat))) → Q (.ref p) H') (a dx : Addr) (na : H1 a = none) (nd : H1 dx = none) (ne : dx ≠ a) :
    spRecInit K [.ref a, .str nm, .ref fl] (upd (upd H1 dx (.own a)) a (.ins (cRecord K) dx [])) (fun v H2 => v = .non ∧ Q (.ref a) H2) E0 := by
  have hi1 := hi.same (Off.le _ _)
  obtain ⟨ps, R⟩ := hi1.row T wt
  have old : Same H1 (upd (upd H1 dx (.own a)) a (.ins (cRecord K) dx [])) := fun b o e => by
    rw [upd_ne (ne_of_none e na), upd_ne (ne_of_none e nd)]
    exact e
  have new : ∀ {q : Addr}, upd (upd H1 dx (.own a)) a (.ins (cRecord K) dx []) q = none → H1 q = none := fun {q} n1 => by
    have nsa : q ≠ a := fun e => by rw [e, upd_same] at n1; cases n1
    have nsd : q ≠ dx := fun e => by rw [e, upd_ne ne, upd_same] at n1; cases n1
    rw [upd_ne nsa, upd_ne nsd] at n1
    exact n1
  refine ⟨a, dx, fl, nm, fs, fas, ias, ps, rfl, upd_same, wt, old _ _ (Off.le _ _ _ _ hfl), hsm, (hF.same (Off.le _ _)).same (Wo.new na old), R.same (Wo.new na old), fun H' pl sp y' e n1 d1 n2 z ny kp => ⟨rfl, ?_⟩⟩
  have sm : Same H1 H' := Same.made na nd kp
  obtain ⟨ds, hs⟩ := z
  exact k a H' na sm ⟨a, dx, pl, sp, fl, nm, fas, ias, y', rfl, Off.of e (hb.new na), hi.same (Same.off sm), Off.of d1 (hb.new (new n1)), Same.off sm _ _ hfl, hF.same (Same.off sm), ⟨ds, Off.of hs (hb.new (new n2))⟩, ny⟩ ⟨dx, _, e, rfl, rfl⟩
end
end LY
set_option Elab.async false
set_option linter.all false
set_option maxRecDepth 100000
set_option maxHeartbeats 4000000
namespace LY
open PySem PySem.Spec PyProof.Rows L2
open Valaye (Niche Form formOf better moved noNiche bits0 sharedBits maybeForm taken_)
open Valaya (Ty countLeaves rowLength)
open ML (Cod cod rows wf frm carrier)
/-! ### the carrier -/
def idxs : List Pv → Nat → List Nat
  | [], _ => []
  | v :: r, i => if 0 < v.bits then i :: idxs r (i + 1) else idxs r (i + 1)
def carOf (ps : List Pv) : Option Nat := match idxs ps 0 with
  | [b] => if ps.length - 1 ≤ ((ps[b]?).map fun v => v.nic.n).getD 0 then some b else none
  | _ => none
theorem idxs_filter : ∀ {ps : List Pv} {cs : List Cod} (i : Nat), Alike ps cs → idxs ps i = (((cs.map frm).zipIdx i).filter fun f => decide (0 < f.1.bits)).map (·.2) ∧
    ∀ x ∈ ((cs.map frm).zipIdx i).filter (fun f => decide (0 < f.1.bits)), ∃ j v, x.2 = i + j ∧ ps[j]? = some v ∧ v.nic.n = x.1.niche.n
  | [], [], i, _ => ⟨rfl, fun x h => by simp at h⟩
  | v :: ps, c :: cs, i, a => by
    obtain ⟨a1, a2, a3⟩ := a
    obtain ⟨h1, h2⟩ := idxs_filter (i + 1) a3
    rw [List.map_cons, List.zipIdx_cons, List.filter_cons]
    have more : ∀ x ∈ ((cs.map frm).zipIdx (i + 1)).filter (fun f => decide (0 < f.1.bits)), ∃ j u, x.2 = i + j ∧ (v :: ps)[j]? = some u ∧ u.nic.n = x.1.niche.n := fun x hx => by
      obtain ⟨j, u, q1, q2, q3⟩ := h2 x hx
      exact ⟨j + 1, u, by omega, q2, q3⟩
    show (if 0 < v.bits then i :: idxs ps (i + 1) else idxs ps (i + 1)) = _ ∧ _
    by_cases z : 0 < v.bits
    · have z2 : 0 < (frm c).bits := by
        show 0 < c.bits
        omega
      rw [if_pos z, if_pos (by exact decide_eq_true z2), h1]
      refine ⟨rfl, fun x hx => ?_⟩
      rcases List.mem_cons.mp hx with rfl | hx
      · exact ⟨0, v, rfl, rfl, a2.1⟩
      · exact more x hx
    · have z2 : ¬ 0 < (frm c).bits := by
        show ¬ 0 < c.bits
        omega
      rw [if_neg z, if_neg (by exact fun q => z2 (of_decide_eq_true q)), h1]
      exact ⟨rfl, more⟩
  | [], _ :: _, _, a => a.elim
  | _ :: _, [], _, a => a.elim
theorem alike_len : ∀ {ps : List Pv} {cs : List Cod}, Alike ps cs → ps.length = cs.length
  | [], [], _ => rfl
  | _ :: ps, _ :: cs, a => congrArg (· + 1) (alike_len a.2.2)
  | [], _ :: _, a => a.elim
  | _ :: _, [], a => a.elim
theorem alike_get : ∀ {ps : List Pv} {cs : List Cod}, Alike ps cs → ∀ (i : Nat) (v : Pv) (c : Cod), ps[i]? = some v → cs[i]? = some c → v.bits = c.bits ∧ NEq v.nic c.nic
  | v :: ps, c :: cs, a, 0, u, d, h1, h2 => by
    cases Option.some.inj h1
    cases Option.some.inj h2
    exact ⟨a.1, a.2.1⟩
  | _ :: ps, _ :: cs, a, i + 1, u, d, h1, h2 => alike_get a.2.2 i u d h1 h2
  | [], [], _, i, _, _, h1, _ => by simp at h1
  | [], _ :: _, a, _, _, _, _, _ => a.elim
  | _ :: _, [], a, _, _, _, _, _ => a.elim
theorem carOf_is {ps : List Pv} {cs : List Cod} (a : Alike ps cs) : carOf ps = carrier cs := by
  obtain ⟨h1, h2⟩ := idxs_filter 0 a
  unfold carOf ML.carrier Valaye.howOf
  rw [h1, alike_len a, List.length_map]
  generalize hl : ((cs.map frm).zipIdx.filter fun f => decide (0 < f.1.bits)) = l at h2
  cases l with
  | nil => rfl
  | cons x l =>
    cases l with
    | nil =>
      obtain ⟨j, v, q1, q2, q3⟩ := h2 x List.mem_cons_self
      rw [Nat.zero_add] at q1
      show (if cs.length - 1 ≤ ((ps[x.2]?).map fun v => v.nic.n).getD 0 then some x.2 else none) = (match (if cs.length - 1 ≤ x.1.niche.n then Valaye.How.spare x.2 else Valaye.How.tag (bits0 cs.length)) with
        | .spare b => some b
        | .tag _ => none)
      rw [q1, q2]
      show (if cs.length - 1 ≤ v.nic.n then some j else none) = _
      rw [q3]
      split <;> rfl
    | cons y l => rfl
section
variable {P : Program} {w : World} {K : PySem.W.Frag} {mg : Str → Option Value} {base : Heap}
abbrev s_carrier_of : Stmt := top 15
abbrev n_carrier_of : List Str := ["alternatives", "with_bits", "number", "inner"]
theorem sc_carrier_of : FnScope n_carrier_of ["alternatives"] (defScope s_carrier_of) := ⟨rfl, rfl, rfl, by decide +kernel, rfl, by decide +kernel, by decide +kernel⟩
abbrev s_One_init : Stmt := inClass (top 14) 0
abbrev n_One_init : List Str := ["self", "names", "alternatives", "inner"]
theorem sc_One_init : FnScope n_One_init ["self", "names", "alternatives"] (defScope s_One_init) := ⟨rfl, rfl, rfl, by decide +kernel, rfl, by decide +kernel, by decide +kernel⟩

def spCarrier (K : PySem.W.Frag) : Sp := fun vs H Q _ => ∃ (a : Addr) (as : List Addr) (ps : List Pv), vs = [.ref a] ∧ SqL K H a (as.map V.ref) ∧ PartsAt K H as ps ∧ as.length ≤ 8 ∧ ∀ H', Same H H' → Q (carV (carOf ps)) H'
theorem idxs_more : ∀ (ps : List Pv) (i j : Nat) (v : Pv), ps[j]? = some v → idxs (ps.take (j + 1)) i = idxs (ps.take j) i ++ (if 0 < v.bits then [i + j] else [])
  | [], _, _, _, h => by simp at h
  | u :: ps, i, 0, v, h => by
    cases Option.some.inj h
    show (if 0 < u.bits then i :: idxs (ps.take 0) (i + 1) else idxs (ps.take 0) (i + 1)) = [] ++ _
    rw [List.take_zero]
    rfl
  | u :: ps, i, j + 1, v, h => by
    have ih := idxs_more ps (i + 1) j v h
    show (if 0 < u.bits then i :: idxs (ps.take (j + 1)) (i + 1) else idxs (ps.take (j + 1)) (i + 1)) = (if 0 < u.bits then i :: idxs (ps.take j) (i + 1) else idxs (ps.take j) (i + 1)) ++ (if 0 < v.bits then [i + (j + 1)] else [])
    rw [ih, show i + 1 + j = i + (j + 1) by omega]
    split <;> rfl
theorem idxs_len : ∀ (ps : List Pv) (i : Nat), (idxs ps i).length ≤ ps.length
  | [], _ => Nat.le_refl _
  | v :: ps, i => by
    have := idxs_len ps (i + 1)
    show (if 0 < v.bits then i :: idxs ps (i + 1) else idxs ps (i + 1)).length ≤ ps.length + 1
    split
    · exact Nat.succ_le_succ this
    · omega
theorem idxs_lt : ∀ (ps : List Pv) (i b : Nat), b ∈ idxs ps i → b < i + ps.length
  | [], _, _, h => by simp [idxs] at h
  | v :: ps, i, b, h => by
    have h : b ∈ (if 0 < v.bits then i :: idxs ps (i + 1) else idxs ps (i + 1)) := h
    show b < i + (ps.length + 1)
    split at h
    · rcases List.mem_cons.mp h with rfl | h
      · omega
      · have := idxs_lt ps (i + 1) b h
        omega
    · have := idxs_lt ps (i + 1) b h
      omega
theorem gt_dec (n : Nat) : decide ((0 : Int) < (n : Int)) = decide (0 < n) := by
  by_cases h : 0 < n
  · rw [decide_eq_true h, decide_eq_true (by omega)]
  · rw [decide_eq_false h, decide_eq_false (by omega)]
theorem ok_carrier_of (T : Txt K mg) : COk P w K mg base CX0 1 "carrier_of" (spCarrier K) :=
  mkC T.g_carrier_of T.d_carrier_of sc_carrier_of (fun vs H Q E h => by obtain ⟨a, as, ps, rfl, _⟩ := h; rfl) (fun _ _ _ _ _ _ us hl => match us, hl with | [_], _ => rfl) fun cdv A outer s H vs Q E hr h => by
    obtain ⟨a, as, ps, rfl, hS, hP, h8, k⟩ := h
    refine ⟨_, PSs.nox (pss_cons (ps_setLc (i := 1) (own := [("number", 2), ("inner", 3)]) (g := gTup K 2 (gCons (gName 2) (gCons (gName 3) gNil))) (tt := tTest (tOp (rI0 fun i j => .bl (decide (j < i))) (tFld K (tVar 3) "bits") (tC (.int 0)))) rfl sc_carrier_of.nd rfl rfl (sw_true rfl rfl rfl (by decide +kernel)) (pi_enum (by rfl) T.f_enumerate (pa_cons (pv 0) pa_nil)) (blkOk_by (own := [("number", 2), ("inner", 3)]) (N := n_carrier_of) (sc := defScope s_carrier_of) (by decide +kernel)) (fun _ _ _ _ _ => by exact (pg_tup rfl (pgs_cons (pg_name (i := 2) sc_carrier_of.nd rfl (Or.inl rfl)) (pgs_cons (pg_name (i := 3) sc_carrier_of.nd rfl (Or.inl rfl)) pgs_nil)))) (fun _ _ _ _ _ => by exact (pts_one (pt_cmpR op_gt (pe_fld (pv 3) (by rfl)) pe_int (nomark _)))) (fun _ _ _ _ _ => by exact (pv 2)))
      (pss_cons (ps_if (pt_cmpR op_ne (pe_callB call_len (by rfl) T.f_len (by decide +kernel) (by exact (pa_cons (pv 1) pa_nil))) pe_int (nomark _)) (pss_one (ps_ret (by exact pe_non))) pss_nil)
      (pss_cons (ps_if (pt_cmpR op_lt (pe_fld (pe_fld (pe_ix ix_list (pv 0) (pe_ix ix_list (pv 1) pe_int (fun _ _ => rfl)) (fun _ _ => rfl)) (by rfl)) (by rfl)) (pe_op op_sub (pe_callB call_len (by rfl) T.f_len (by decide +kernel) (by exact (pa_cons (pv 0) pa_nil))) pe_int) (nomark _)) (pss_one (ps_ret (by exact pe_non))) pss_nil)
      (pss_one (ps_ret (by exact (pe_ix ix_list (pv 1) pe_int (fun _ _ => rfl)))))))), ?_⟩
    refine ⟨_, rfl, a, _, rfl, hS, fun D hD => L2.lc_it (L2.walk_enum (K := K) (a := a) (xs := as.map V.ref)) (fun i H' => Same H H' ∧ H' D = some (.lst (((idxs (ps.take i) 0).map fun (n : Nat) => (n : Int)).map V.int))) ⟨same_new hD, upd_same⟩ (fun i H' _ ⟨s, _⟩ => s.seq hS) ?_ ?_⟩
    · rintro i y H' H'' hi ⟨s1, d1⟩ ⟨Tp, x, y', rfl, nT, rfl, ex, ey⟩
      cases Option.some.inj ex
      obtain ⟨b, hb, rfl⟩ := map_get ey
      obtain ⟨v, hv, pt⟩ := hP.at_ hb
      have s2 : Same H (upd H' Tp (.tup [.int (i : Nat), .ref b])) := fun c o e => by
        rw [upd_ne (ne_of_none (s1 c o e) nT)]
        exact s1 c o e
      obtain ⟨C, dx, fs, g1, g2, g3, g4⟩ := (pt.same s2).bits
      have DT : D ≠ Tp := ne_of_none d1 nT
      refine ⟨Tp, _, rfl, .inl (.inl upd_same), rfl, _, _, rfl, _, _, rfl, rfl, rfl, ?_⟩
      refine ⟨_, rfl, b, C, dx, fs, _, rfl, g1, g2, g3, g4, _, _, rfl, rfl, _, rfl, ?_⟩
      rw [gt_dec]
      have more := idxs_more ps 0 i v hv
      rw [Nat.zero_add] at more
      by_cases z : 0 < v.bits
      · refine iteC z ⟨_, rfl, _, (upd_ne DT).trans d1, ?_, fun c o e => ?_, ?_⟩
        · rw [List.length_map, List.length_map]
          have := idxs_len (ps.take i) 0
          have := hP.1
          have : (ps.take i).length ≤ ps.length := by rw [List.length_take]; omega
          exact small1000 (by omega)
        · rw [upd_ne (ne_of_none e hD)]
          exact s2 c o e
        · rw [upd_same, more, if_pos z, List.map_append, List.map_append]
          rfl
      · refine iteD z ⟨s2, (upd_ne DT).trans ?_⟩
        rw [more, if_neg z, List.append_nil]
        exact d1
    · rintro H1 ⟨s1, d1⟩
      rw [List.length_map, hP.1, List.take_length] at d1
      refine ⟨_, rfl, _, (idxs ps 0).length, rfl, .inl ⟨_, SqL.of d1, by rw [List.length_map, List.length_map]⟩, rfl, _, rfl, ?_⟩
      show if (!decide (V.int ((idxs ps 0).length : Nat) = V.int ((1 : Nat) : Int))) = true then _ else _
      rw [dec_int]
      have out : carOf ps = match idxs ps 0 with
        | [b] => if ps.length - 1 ≤ ((ps[b]?).map fun v => v.nic.n).getD 0 then some b else none
        | _ => none := rfl
      generalize hl : idxs ps 0 = l at *
      match l, hl with
      | [], hl =>
        refine iteT ?_
        have := k H1 s1
        rw [out] at this
        exact this
      | x :: y :: r, hl =>
        rw [decide_eq_false (by simp)]
        refine iteT ?_
        have := k H1 s1
        rw [out] at this
        exact this
      | [b], hl =>
        refine iteF ?_
        have hb : b < ps.length := by
          have := idxs_lt ps 0 b (by rw [hl]; exact List.mem_cons_self)
          omega
        have hv : ps[b]? = some ps[b] := List.getElem?_eq_getElem hb
        generalize ps[b] = v at hv
        have ha : as[b]? = some (as[b]'(by rw [hP.1]; exact hb)) := List.getElem?_eq_getElem _
        generalize as[b]'(by rw [hP.1]; exact hb) = q at ha
        obtain ⟨C, dx, fs, sp, g1, g2, g3, g4, ⟨ds, g5⟩⟩ := ((hP.2 b q v ha hv).same s1).spare
        have e1 : carOf ps = if ps.length - 1 ≤ v.nic.n then some b else none := by
          rw [out]
          show (if ps.length - 1 ≤ ((ps[b]?).map fun v => v.nic.n).getD 0 then some b else none) = _
          rw [hv]
          rfl
        have h2 : 2 ≤ ps.length ∨ ps.length = 1 := by omega
        refine ⟨_, rfl, _, rfl, _, _, _, _, rfl, rfl, SqL.of d1, atI_nat (j := 0) rfl, _, _, _, V.ref q, rfl, rfl, s1.seq hS, atI_nat (by rw [List.getElem?_map, ha]; rfl), q, C, dx, fs, _, rfl, g1, g2, g3, g4, sp, _, ds, _, _, rfl, g5, T.cl_Spare, T.na_Spare_left, rfl, ?_⟩
        refine ⟨_, rfl, _, as.length, rfl, .inl ⟨_, s1.seq hS, by rw [List.length_map]⟩, _, _, rfl, rfl, _, _, rfl, rfl, _, rfl, ?_⟩
        have eq : decide ((v.nic.n : Int) < (as.length : Int) - 1) = decide (¬ ps.length - 1 ≤ v.nic.n) := by
          have := hP.1
          by_cases z : ps.length - 1 ≤ v.nic.n
          · rw [decide_eq_false (by omega), decide_eq_false (by omega)]
          · rw [decide_eq_true (by omega), decide_eq_true z]
        show if decide ((v.nic.n : Int) < (as.length : Int) - 1) = true then _ else _
        rw [eq]
        have kk := k H1 s1
        rw [e1] at kk
        by_cases z : ps.length - 1 ≤ v.nic.n
        · rw [if_pos z] at kk
          refine iteD (fun c => c z) ?_
          exact ⟨_, rfl, _, _, _, _, rfl, rfl, SqL.of d1, atI_nat (j := 0) rfl, kk⟩
        · rw [if_neg z] at kk
          exact iteC z kk
/-! ### one -/
def spOneInit (K : PySem.W.Frag) : Sp := fun vs H Q _ => ∃ (p dx nl al : Addr) (fs : Ty) (ias : List Addr) (ps : List Pv), vs = [.ref p, .ref nl, .ref al] ∧ H p = some (.ins (cOne K) dx []) ∧ wf fs true ∧ 2 ≤ rowLength fs ∧ rowLength fs ≤ 4 ∧ ias.length = rowLength fs ∧ SqL K (Wo p H) al (ias.map V.ref) ∧ RowIs K (Wo p H) fs ias ps ∧
  ∀ (H' : Hp) (sp : Addr) (y' : Niche), H' p = some (.ins (cOne K) dx (oneF nl al sp (bits0 (rowLength fs)) (countLeaves (.one_ fs)) (flatT (.one_ fs)) (sharedBits (.one_ fs) false) (formOf (.one_ fs)).bits (carV (carrier ((rows fs).map cod))))) → H sp = none → SpAt K H' sp y' → NEq y' (formOf (.one_ fs)).niche →
    (∀ b o, H b = some o → b ≠ p → H' b = some o) → Q .non H'
theorem put_one (nl al sp : Addr) (tg lv fl sh b : Nat) (car : V) : putF "spare" (.ref sp) (putF "bits" (.int b) (putF "carrier" car (putF "shared" (.int sh) (putF "flat" (.int fl) (putF "leaves" (.int lv) (putF "tag" (.int tg) (putF "alternatives" (.ref al) (putF "names" (.ref nl) [])))))))) = oneF nl al sp tg lv fl sh b car := by rfl
theorem max_mem : ∀ {l : List Nat} {m : Int}, l ≠ [] → m ∈ (l.map fun (n : Nat) => (n : Int)) → (∀ y ∈ (l.map fun (n : Nat) => (n : Int)), y ≤ m) → m = ((l.foldr Nat.max 0 : Nat) : Int) := by
  intro l m hne hm hle
  have up : ∀ (l : List Nat) (x : Nat), x ∈ l → x ≤ l.foldr Nat.max 0 := by
    intro l
    induction l with
    | nil => intro x h; cases h
    | cons a l ih =>
      intro x h
      rw [List.foldr_cons]
      rcases List.mem_cons.mp h with rfl | h
      · exact Nat.le_max_left _ _
      · exact Nat.le_trans (ih x h) (Nat.le_max_right _ _)
  have at_ : ∀ l : List Nat, l ≠ [] → l.foldr Nat.max 0 ∈ l := by
    intro l
    induction l with
    | nil => intro h; exact absurd rfl h
    | cons a l ih =>
      intro _
      rw [List.foldr_cons]
      by_cases z : l = []
      · subst z
        show max a 0 ∈ [a]
        rw [Nat.max_eq_left (Nat.zero_le _)]
        exact List.mem_cons_self
      · by_cases y : a ≤ l.foldr Nat.max 0
        · show max a _ ∈ _
          rw [Nat.max_eq_right y]
          exact List.mem_cons_of_mem _ (ih z)
        · show max a _ ∈ _
          rw [Nat.max_eq_left (by omega)]
          exact List.mem_cons_self
  obtain ⟨n, hn, rfl⟩ := List.mem_map.mp hm
  have h1 := up l n hn
  have h2 := hle _ (List.mem_map.mpr ⟨_, at_ l hne, rfl⟩)
  omega
theorem alike_max : ∀ {ps : List Pv} {cs : List Cod}, Alike ps cs → (ps.map Pv.bits).foldr Nat.max 0 = ML.maxBits cs
  | [], [], _ => rfl
  | v :: vs, c :: cs, a => by
    rw [List.map_cons, List.foldr_cons, alike_max a.2.2, a.1]
    rfl
  | [], _ :: _, a => a.elim
  | _ :: _, [], a => a.elim
theorem bits0_small {k : Nat} (h2 : 2 ≤ k) (h4 : k ≤ 4) : bits0 k = ML.bl (k - 1) ∧ Valaya.bitsFor k = bits0 k ∧ bits0 k ≤ 2 := by
  have : k = 2 ∨ k = 3 ∨ k = 4 := by omega
  rcases this with rfl | rfl | rfl <;> decide
theorem ok_One (T : Txt K mg) : KOk P w K mg base 5 "One" (cOne K) (spOneInit K) :=
  mkK T.g_One T.mk_One T.d_One_init sc_One_init (fun vs H Q E h => by obtain ⟨p, dx, nl, al, fs, ias, ps, rfl, _⟩ := h; rfl) (fun _ _ _ _ _ _ us hl => match us, hl with | [_, _, _], _ => rfl) fun cdv A outer s H vs Q E hr h => by
    obtain ⟨p, dx, nl, al, fs, ias, ps, rfl, hp, wt, h2, h4, hl, hS, hR, k⟩ := h
    have lenP := hR.at_.1
    have hsm : ias.length < sizeLine := small1000 (by omega)
    have hne : ∀ g : Pv → Nat, ps.map g ≠ [] := fun g e => by
      have := congrArg List.length e
      rw [List.length_map] at this
      have : ps.length = 0 := this
      omega
    obtain ⟨b1, b2, b3⟩ := bits0_small h2 h4
    have seq : ∀ {H' : Hp}, (∀ b o, H b = some o → b ≠ p → H' b = some o) → SqL K H' al (ias.map V.ref) := fun s => Same.seq ((Wo.but s).trans (Wo.le _ _)) hS
    have par : ∀ {H' : Hp}, (∀ b o, H b = some o → b ≠ p → H' b = some o) → PartsAt K H' ias ps := fun s => hR.at_.same ((Wo.but s).trans (Wo.le _ _))
    have cw := ML.cod_one wt
    refine ⟨_, PSs.nox (pss_cons (ps_fld (pv 0) (pv 1) rfl)
      (pss_cons (ps_fld (pv 0) (pv 2) rfl)
      (pss_cons (ps_fld (pv 0) (pe_cx (CX := CX0) hr pas0 (by exact (pa_cons (pe_callB call_len (by rfl) T.f_len (by decide +kernel) (by exact (pa_cons (pv 2) pa_nil))) pa_nil))) rfl)
      (pss_cons (ps_fld (pv 0) (pe_op op_add pe_int (pe_callB (cr_sum rfl) (by rfl) T.f_sum (by decide +kernel) (by exact (pa_cons (pe_lc (own := [("inner", 3)]) (g := gName 3) (tt := tYes) (te := (tFld K (tVar 3) "leaves")) rfl sc_One_init.nd (pi_list (pv 2)) (blkOk_by (own := [("inner", 3)]) (N := n_One_init) (sc := defScope s_One_init) (by decide +kernel)) (fun _ _ _ _ _ => by exact (pg_name (i := 3) sc_One_init.nd rfl (Or.inl rfl))) (fun _ _ _ _ _ => pts_nil) (fun _ _ _ _ _ => by exact (pe_fld (pv 3) (by rfl)))) pa_nil)))) rfl)
      (pss_cons (ps_fld (pv 0) (pe_op op_add (pe_fld (pv 0) (by rfl)) (pe_callB (cr_sum rfl) (by rfl) T.f_sum (by decide +kernel) (by exact (pa_cons (pe_lc (own := [("inner", 3)]) (g := gName 3) (tt := tYes) (te := (tFld K (tVar 3) "flat")) rfl sc_One_init.nd (pi_list (pv 2)) (blkOk_by (own := [("inner", 3)]) (N := n_One_init) (sc := defScope s_One_init) (by decide +kernel)) (fun _ _ _ _ _ => by exact (pg_name (i := 3) sc_One_init.nd rfl (Or.inl rfl))) (fun _ _ _ _ _ => pts_nil) (fun _ _ _ _ _ => by exact (pe_fld (pv 3) (by rfl)))) pa_nil)))) rfl)
      (pss_cons (ps_fld (pv 0) (pe_op op_add (pe_fld (pv 0) (by rfl)) (pe_callB (cr_max rfl) (by rfl) T.f_max (by decide +kernel) (by exact (pa_cons (pe_lc (own := [("inner", 3)]) (g := gName 3) (tt := tYes) (te := (tFld K (tVar 3) "shared")) rfl sc_One_init.nd (pi_list (pv 2)) (blkOk_by (own := [("inner", 3)]) (N := n_One_init) (sc := defScope s_One_init) (by decide +kernel)) (fun _ _ _ _ _ => by exact (pg_name (i := 3) sc_One_init.nd rfl (Or.inl rfl))) (fun _ _ _ _ _ => pts_nil) (fun _ _ _ _ _ => by exact (pe_fld (pv 3) (by rfl)))) pa_nil)))) rfl)
      (pss_cons (ps_fld (pv 0) (pe_cx (CX := CX0) hr pas0 (by exact (pa_cons (pv 2) pa_nil))) rfl)
      (pss_one (ps_if (pt_cmpR op_isN (pe_fld (pv 0) (by rfl)) pe_non (nomark _)) (pss_cons (ps_fld (pv 0) (pe_op op_add (pe_fld (pv 0) (by rfl)) (pe_callB (cr_max rfl) (by rfl) T.f_max (by decide +kernel) (by exact (pa_cons (pe_lc (own := [("inner", 3)]) (g := gName 3) (tt := tYes) (te := (tFld K (tVar 3) "bits")) rfl sc_One_init.nd (pi_list (pv 2)) (blkOk_by (own := [("inner", 3)]) (N := n_One_init) (sc := defScope s_One_init) (by decide +kernel)) (fun _ _ _ _ _ => by exact (pg_name (i := 3) sc_One_init.nd rfl (Or.inl rfl))) (fun _ _ _ _ _ => pts_nil) (fun _ _ _ _ _ => by exact (pe_fld (pv 3) (by rfl)))) pa_nil)))) rfl)
      (pss_one (ps_fld (pv 0) (pe_cx (CX := CX0) hr pas0 (by exact (pa_cons (pe_fld (pv 0) (by rfl)) (pa_cons (pe_callB call_len (by rfl) T.f_len (by decide +kernel) (by exact (pa_cons (pv 2) pa_nil))) pa_nil)))) rfl))) (pss_cons (ps_fld (pv 0) (pe_fld (pe_ix ix_list (pv 2) (pe_fld (pv 0) (by rfl)) (fun _ _ => rfl)) (by rfl)) rfl)
      (pss_one (ps_fld (pv 0) (pe_mx (CX := CX0) hr pas0 (pe_fld (pe_ix ix_list (pv 2) (pe_fld (pv 0) (by rfl)) (fun _ _ => rfl)) (by rfl)) (by exact (pa_cons (pe_op op_sub (pe_callB call_len (by rfl) T.f_len (by decide +kernel) (by exact (pa_cons (pv 2) pa_nil))) pe_int) pa_nil))) rfl)))))))))))), ?_⟩
    refine ⟨_, rfl, _, rfl, p, _, dx, [], rfl, hp, T.cl_One, T.na_One_names, (by show 0 < 1000; decide), ?_⟩
    refine ⟨_, rfl, _, rfl, p, _, dx, _, rfl, upd_same, T.cl_One, T.na_One_alternatives, (by show 1 < 1000; decide), ?_⟩
    have s2 : ∀ {o1 o2 : HO} b o, H b = some o → b ≠ p → upd (upd H p o1) p o2 b = some o := fun b o h e => (upd_ne e).trans ((upd_ne e).trans h)
    refine ⟨spBitsFor, (ok_bits_for T).mono (by decide), _, rfl, _, ias.length, rfl, .inl ⟨_, seq s2, by rw [List.length_map]⟩, rowLength fs, by omega, by rw [hl], ?_⟩
    rw [← b1]
    refine ⟨_, rfl, p, _, dx, _, rfl, upd_same, T.cl_One, T.na_One_tag, (by show 2 < 1000; decide), ?_⟩
    have s3 : ∀ {o1 o2 o3 : HO} b o, H b = some o → b ≠ p → upd (upd (upd H p o1) p o2) p o3 b = some o := fun b o h e => (upd_ne e).trans (s2 b o h e)
    refine ⟨_, rfl, al, rfl, ⟨_, seq s3⟩, fun D1 n1 => lc_num (f := "leaves") (i := 3) (as := ias) (ns := ps.map Pv.leaves) n1 (seq s3) (by rw [List.length_map]; exact lenP) hsm (PartsAt.num (par s3) fun a v h => h.leaves) (fun _ => rfl) (fun _ => rfl) fun H1 e1 d1 => ?_⟩
    refine ⟨D1, _, rfl, SqL.of d1, _, _, rfl, rfl, ?_⟩
    rw [sum_cast, hR.lv]
    refine ⟨_, rfl, p, _, dx, _, rfl, e1 _ _ upd_same, T.cl_One, T.na_One_leaves, (by show 3 < 1000; decide), ?_⟩
    have s4 : ∀ {o4 : HO} b o, H b = some o → b ≠ p → upd H1 p o4 b = some o := fun b o h e => (upd_ne e).trans (e1 _ _ (s3 b o h e))
    refine ⟨_, rfl, p, _, dx, _, _, rfl, upd_same, T.cl_One, T.na_One_tag, rfl, ?_⟩
    refine ⟨_, rfl, al, rfl, ⟨_, seq s4⟩, fun D2 n2 => lc_num (f := "flat") (i := 3) (as := ias) (ns := ps.map Pv.flat) n2 (seq s4) (by rw [List.length_map]; exact lenP) hsm (PartsAt.num (par s4) fun a v h => h.flat) (fun _ => rfl) (fun _ => rfl) fun H2 e2 d2 => ?_⟩
    refine ⟨D2, _, rfl, SqL.of d2, _, _, rfl, rfl, ?_⟩
    rw [sum_cast, hR.fl]
    refine ⟨_, rfl, p, _, dx, _, rfl, e2 _ _ upd_same, T.cl_One, T.na_One_flat, (by show 4 < 1000; decide), ?_⟩
    have s5 : ∀ {o5 : HO} b o, H b = some o → b ≠ p → upd H2 p o5 b = some o := fun b o h e => (upd_ne e).trans (e2 _ _ (s4 b o h e))
    refine ⟨_, rfl, p, _, dx, _, _, rfl, upd_same, T.cl_One, T.na_One_tag, rfl, ?_⟩
    refine ⟨_, rfl, al, rfl, ⟨_, seq s5⟩, fun D3 n3 => lc_num (f := "shared") (i := 3) (as := ias) (ns := ps.map Pv.shared) n3 (seq s5) (by rw [List.length_map]; exact lenP) hsm (PartsAt.num (par s5) fun a v h => h.shared) (fun _ => rfl) (fun _ => rfl) fun H3 e3 d3 => ?_⟩
    refine ⟨D3, _, rfl, SqL.of d3, ?_, fun m hm hle => ⟨_, _, rfl, rfl, ?_⟩⟩
    · rw [List.length_map, List.length_map]
      omega
    rw [max_mem (hne _) hm hle, hR.mx]
    refine ⟨_, rfl, p, _, dx, _, rfl, e3 _ _ upd_same, T.cl_One, T.na_One_shared, (by show 5 < 1000; decide), ?_⟩
    have s6 : ∀ {o6 : HO} b o, H b = some o → b ≠ p → upd H3 p o6 b = some o := fun b o h e => (upd_ne e).trans (e3 _ _ (s5 b o h e))
    refine ⟨spCarrier K, (ok_carrier_of T).mono (by decide), _, rfl, al, ias, ps, rfl, seq s6, par s6, by omega, fun H4 e4 => ?_⟩
    rw [carOf_is hR.alike]
    refine ⟨_, rfl, p, _, dx, _, rfl, e4 _ _ upd_same, T.cl_One, T.na_One_carrier, (by show 6 < 1000; decide), ?_⟩
    have s7 : ∀ {o7 : HO} b o, H b = some o → b ≠ p → upd H4 p o7 b = some o := fun b o h e => (upd_ne e).trans (e4 _ _ (s6 b o h e))
    refine ⟨_, rfl, p, _, dx, _, _, rfl, upd_same, T.cl_One, T.na_One_carrier, rfl, rfl, _, rfl, ?_⟩
    have sums : (bits0 (rowLength fs) : Int) + ((sharedBits fs true : Nat) : Int) = ((sharedBits (.one_ fs) false : Nat) : Int) := by
      show _ = ((Valaya.bitsFor (rowLength fs) + sharedBits fs true : Nat) : Int)
      rw [b2]
      omega
    have ones : (1 : Int) + ((countLeaves fs : Nat) : Int) = ((countLeaves (.one_ fs) : Nat) : Int) := one_add _
    have flats : (bits0 (rowLength fs) : Int) + ((flatT fs : Nat) : Int) = ((flatT (.one_ fs) : Nat) : Int) := by
      show _ = ((bits0 (rowLength fs) + flatT fs : Nat) : Int)
      omega
    have fb : ∀ {b : Nat} {y : Niche}, (cod (.one_ fs)).bits = b → (cod (.one_ fs)).nic = y → (formOf (.one_ fs)).bits = b ∧ (formOf (.one_ fs)).niche = y := fun h1 h2 => ⟨h1, h2⟩
    have cl : ((rows fs).map cod).length = rowLength fs := by rw [List.length_map, ML.rows_length]
    have nof : ∀ {q : Addr} {Hn : Hp}, Hn q = none → (∀ b o, H b = some o → b ≠ p → Hn b = some o) → Hn p ≠ none → H q = none ∧ q ≠ p := fun {q Hn} hn hs hpp => by
      have qp : q ≠ p := fun e => hpp (e ▸ hn)
      refine ⟨?_, qp⟩
      cases z : H q with
      | none => rfl
      | some o =>
        rw [hs q o z qp] at hn
        cases hn
    cases hc : carrier ((rows fs).map cod) with
    | none =>
      obtain ⟨q1, q2⟩ := ML.one_bits_t hc
      rw [← cw] at q1 q2
      obtain ⟨f1, f2⟩ := fb q1 q2
      rw [cl] at f1 f2
      refine iteT ?_
      refine ⟨_, rfl, p, _, dx, _, _, rfl, upd_same, T.cl_One, T.na_One_tag, rfl, ?_⟩
      refine ⟨_, rfl, al, rfl, ⟨_, seq s7⟩, fun D5 n5 => lc_num (f := "bits") (i := 3) (as := ias) (ns := ps.map Pv.bits) n5 (seq s7) (by rw [List.length_map]; exact lenP) hsm (PartsAt.num (par s7) fun a v h => h.bits) (fun _ => rfl) (fun _ => rfl) fun H5 e5 d5 => ?_⟩
      refine ⟨D5, _, rfl, SqL.of d5, ?_, fun m hm hle => ⟨_, _, rfl, rfl, ?_⟩⟩
      · rw [List.length_map, List.length_map]
        omega
      rw [max_mem (hne _) hm hle, alike_max hR.alike]
      refine ⟨_, rfl, p, _, dx, _, rfl, e5 _ _ upd_same, T.cl_One, T.na_One_bits, (by show 7 < 1000; decide), ?_⟩
      have s8 : ∀ {o8 : HO} b o, H b = some o → b ≠ p → upd H5 p o8 b = some o := fun b o h e => (upd_ne e).trans (e5 _ _ (s7 b o h e))
      refine ⟨_, ok_codes_to_spare T, _, rfl, p, _, dx, _, _, rfl, upd_same, T.cl_One, T.na_One_tag, rfl, _, rfl, _, ias.length, rfl, .inl ⟨_, seq s8, by rw [List.length_map]⟩, bits0 (rowLength fs), rowLength fs, by rw [hl], by omega, ?_, fun sp H6 n6 e6 z6 => ?_⟩
      · have := ML.bits0_fits (n := rowLength fs) (Nat.le_trans h4 (by decide))
        rw [ML.two_eq] at this
        exact this
      obtain ⟨nsp, spp⟩ := nof n6 s8 (by rw [upd_same]; exact fun z => nomatch z)
      obtain ⟨ds, hs⟩ := z6
      refine ⟨_, rfl, p, _, dx, _, rfl, e6 _ _ upd_same, T.cl_One, T.na_One_spare, (by show 8 < 1000; decide), ?_⟩
      refine k _ sp _ ?_ nsp ⟨ds, (upd_ne spp).trans hs⟩ (by rw [f2]; exact NEq.refl _) fun b o h e => (upd_ne e).trans (e6 _ _ (s8 b o h e))
      rw [hc, f1]
      have pb : (bits0 (rowLength fs) : Int) + ((ML.maxBits ((rows fs).map cod) : Nat) : Int) = ((bits0 (rowLength fs) + ML.maxBits ((rows fs).map cod) : Nat) : Int) := by omega
      refine upd_same.trans (congrArg (fun q => some (HO.ins (cOne K) dx q)) ?_)
      dsimp only
      rw [sums, flats, ones, pb]
      exact put_one nl al sp _ _ _ _ _ _
    | some b =>
      obtain ⟨c, q1, q2, q3, q4, q5, q6⟩ := ML.carrier_some hc
      obtain ⟨f1, f2⟩ := ML.one_bits_s hc q1
      rw [← cw] at f1 f2
      obtain ⟨f1, f2⟩ := fb f1 f2
      rw [cl] at f2 q3
      have hb : b < ias.length := by
        rw [hl, ← cl]
        exact (List.getElem?_eq_some_iff.mp q1).1
      have ha : ias[b]? = some ias[b] := List.getElem?_eq_getElem hb
      generalize ias[b] = q at ha
      obtain ⟨v, hv, _⟩ := hR.at_.at_ ha
      obtain ⟨vb, vn⟩ := alike_get hR.alike b v c hv q1
      refine iteF ?_
      obtain ⟨C, dc, gs, g1, g2, g3, g4⟩ := ((par (s7 (o7 := .ins (cOne K) dx (putF "carrier" (.int (b : Int)) (putF "shared" (.int ((bits0 (rowLength fs) : Int) + ((sharedBits fs true : Nat) : Int))) (putF "flat" (.int ((bits0 (rowLength fs) : Int) + ((flatT fs : Nat) : Int))) (putF "leaves" (.int ((1 : Int) + ((countLeaves fs : Nat) : Int))) (putF "tag" (.int (bits0 (rowLength fs) : Nat)) (putF "alternatives" (.ref al) (putF "names" (.ref nl) [])))))))))).2 b q v ha hv).bits
      refine ⟨_, rfl, _, rfl, p, _, dx, _, _, rfl, upd_same, T.cl_One, T.na_One_carrier, rfl, _, _, _, V.ref q, rfl, rfl, seq s7, atI_nat (by rw [List.getElem?_map, ha]; rfl), q, C, dc, gs, _, rfl, g1, g2, g3, g4, ?_⟩
      refine ⟨_, rfl, p, _, dx, _, rfl, upd_same, T.cl_One, T.na_One_bits, (by show 7 < 1000; decide), ?_⟩
      have s8 : ∀ {o7 o8 : HO} b o, H b = some o → b ≠ p → upd (upd H4 p o7) p o8 b = some o := fun b o h e => (upd_ne e).trans (s7 b o h e)
      obtain ⟨C, dc, gs, si, g1, g2, g3, g4, ⟨dsi, g5⟩⟩ := ((par s8).2 b q v ha hv).spare
      refine ⟨_, rfl, _, rfl, p, _, dx, _, _, rfl, upd_same, T.cl_One, T.na_One_carrier, rfl, _, _, _, V.ref q, rfl, rfl, seq s8, atI_nat (by rw [List.getElem?_map, ha]; rfl), q, C, dc, gs, _, rfl, g1, g2, g3, g4, si, _, dsi, _, spWithout K, rfl, g5, rfl, (ok_without T).mono (by decide), ?_⟩
      have en : v.nic.n = c.nic.n := vn.1
      have ey : v.nic = c.nic := vn.2 (by omega)
      refine ⟨_, rfl, _, ias.length, rfl, .inl ⟨_, seq s8, by rw [List.length_map]⟩, _, _, rfl, rfl, si, v.nic, rowLength fs - 1, ?_, ⟨dsi, g5⟩, by omega, fun sp H6 n6 e6 z6 => ?_⟩
      · rw [hl]
        show [V.ref si, V.int (((rowLength fs : Nat) : Int) - 1)] = _
        rw [show ((rowLength fs : Nat) : Int) - 1 = ((rowLength fs - 1 : Nat) : Int) by omega]
      obtain ⟨nsp, spp⟩ := nof n6 s8 (by rw [upd_same]; exact fun z => nomatch z)
      obtain ⟨ds, hs⟩ := z6
      refine ⟨_, rfl, p, _, dx, _, rfl, e6 _ _ upd_same, T.cl_One, T.na_One_spare, (by show 8 < 1000; decide), ?_⟩
      refine k _ sp _ ?_ nsp ⟨ds, (upd_ne spp).trans hs⟩ (by rw [f2, ey]; exact NEq.refl _) fun b o h e => (upd_ne e).trans (e6 _ _ (s8 b o h e))
      rw [hc, f1, ← vb]
      refine upd_same.trans (congrArg (fun q => some (HO.ins (cOne K) dx q)) ?_)
      dsimp only
      rw [sums, flats, ones]
      exact put_one nl al sp _ _ _ _ _ _
theorem make_one (T : Txt K mg) {H1 : Hp} {nl al : Addr} {fs : Ty} {ias : List Addr} (wt : wf fs true) (h2 : 2 ≤ rowLength fs) (h4 : rowLength fs ≤ 4) {bad : Addr → Bool} (hb : Bads bad H1) (hnl : Off bad H1 nl = some (.lst ((names fs).map V.str))) (hal : Off bad H1 al = some (.lst (ias.map V.ref)))
    (hi : KA K (Off bad H1) fs ias) {Q : VK} (k : ∀ p H', H1 p = none → Same H1 H' → KA K (Off bad H') (.one_ fs) [p] → Q (.ref p) H') (a dx : Addr) (na : H1 a = none) (nd : H1 dx = none) (ne : dx ≠ a) :
    spOneInit K [.ref a, .ref nl, .ref al] (upd (upd H1 dx (.own a)) a (.ins (cOne K) dx [])) (fun v H2 => v = .non ∧ Q (.ref a) H2) E0 := by
  have hi1 := hi.same (Off.le _ _)
  obtain ⟨ps, R⟩ := hi1.row T wt
  have old : Same H1 (upd (upd H1 dx (.own a)) a (.ins (cOne K) dx [])) := fun b o e => by
    rw [upd_ne (ne_of_none e na), upd_ne (ne_of_none e nd)]
    exact e
  have new : ∀ {q : Addr}, upd (upd H1 dx (.own a)) a (.ins (cOne K) dx []) q = none → H1 q = none := fun {q} n1 => by
    have nsa : q ≠ a := fun e => by rw [e, upd_same] at n1; cases n1
    have nsd : q ≠ dx := fun e => by rw [e, upd_ne ne, upd_same] at n1; cases n1
    rw [upd_ne nsa, upd_ne nsd] at n1
    exact n1
  refine ⟨a, dx, nl, al, fs, ias, ps, rfl, upd_same, wt, h2, h4, KA.len wt hi1, SqL.of (Wo.new na old _ _ (Off.le _ _ _ _ hal)), R.same (Wo.new na old), fun H' sp y' e n2 z ny kp => ⟨rfl, ?_⟩⟩
  have sm : Same H1 H' := Same.made na nd kp
  obtain ⟨ds, hs⟩ := z
  exact k a H' na sm ⟨a, dx, nl, al, sp, ias, y', rfl, Off.of e (hb.new na), hi.same (Same.off sm), Same.off sm _ _ hnl, Same.off sm _ _ hal, ⟨ds, Off.of hs (hb.new (new n2))⟩, ny⟩
end
end LY
set_option Elab.async false
set_option linter.all false
set_option maxRecDepth 100000
set_option maxHeartbeats 4000000
set_option exponentiation.threshold 4000
namespace LY
open PySem PySem.Spec PyProof.Rows L2
open Valaye (Niche Form formOf better moved noNiche bits0 sharedBits maybeForm taken_)
open Valaya (Ty countLeaves rowLength countBy)
open ML (Cod cod rows wf frm carrier)
/-- how deep a type nests -/
def dp : Ty → Nat
  | .num _ _ _ => 1
  | .maybe t => dp t + 1
  | .many _ t => dp t + 1
  | .rec_ fs => dp fs + 1
  | .named _ t => dp t
  | .one_ fs => dp fs + 1
  | .nil => 0
  | .field _ _ t r => max (dp t) (dp r)
theorem dp_rows : ∀ {fs u : Ty}, u ∈ rows fs → dp u ≤ dp fs
  | .field _ _ t r, u, h => by
    rcases List.mem_cons.mp h with rfl | h
    · exact Nat.le_max_left _ _
    · exact Nat.le_trans (dp_rows h) (Nat.le_max_right _ _)
  | .num _ _ _, _, h => by cases h
  | .maybe _, _, h => by cases h
  | .many _ _, _, h => by cases h
  | .rec_ _, _, h => by cases h
  | .named _ _, _, h => by cases h
  | .one_ _, _, h => by cases h
  | .nil, _, h => by cases h
theorem wf_rows : ∀ {fs u : Ty}, wf fs true → u ∈ rows fs → wf u false
  | .field _ _ t r, u, w, h => by
    rcases List.mem_cons.mp h with rfl | h
    · exact w.2.1
    · exact wf_rows w.2.2 h
  | .num _ _ _, _, _, h => by cases h
  | .maybe _, _, _, h => by cases h
  | .many _ _, _, _, h => by cases h
  | .rec_ _, _, _, h => by cases h
  | .named _ _, _, _, h => by cases h
  | .one_ _, _, _, h => by cases h
  | .nil, _, _, h => by cases h
theorem lv_rows : ∀ {fs u : Ty}, u ∈ rows fs → countLeaves u ≤ countLeaves fs
  | .field _ _ t r, u, h => by
    show _ ≤ countLeaves t + countLeaves r
    rcases List.mem_cons.mp h with rfl | h
    · omega
    · have := lv_rows h
      omega
  | .num _ _ _, _, h => by cases h
  | .maybe _, _, h => by cases h
  | .many _ _, _, h => by cases h
  | .rec_ _, _, h => by cases h
  | .named _ _, _, h => by cases h
  | .one_ _, _, h => by cases h
  | .nil, _, h => by cases h
/-- a number's bound -/
theorem pow_mono {a b : Nat} (h : a ≤ b) : (2 : Nat) ^ a ≤ 2 ^ b := Nat.pow_le_pow_right (by decide) h
theorem cnt_le : ∀ {t : Ty} {row : Bool}, wf t row → (row = false → countBy t false ≤ 2 ^ (22 * countLeaves t) ∧ (formOf t).bits ≤ 22 * countLeaves t) ∧
    (row = true → countBy t false ≤ 2 ^ (22 * countLeaves t) ∧ countBy t true ≤ 2 ^ (22 * countLeaves t) * rowLength t ∧ ML.bitsRow ((rows t).map cod) ≤ 22 * countLeaves t ∧ ML.maxBits ((rows t).map cod) ≤ 22 * countLeaves t)
  | .num a b al, row, w => by
    obtain ⟨rfl, w1, w2, w3⟩ := w
    refine ⟨fun _ => ⟨?_, ?_⟩, fun z => (nomatch z)⟩
    · show (b - a + 1).toNat ≤ 2 ^ 22
      have : (2 : Nat) ^ 22 = 4194304 := by decide
      omega
    · show bits0 (b - a + 1).toNat ≤ 22
      have h1 : (b - a + 1).toNat ≤ 2000001 := by omega
      have h2 := (ML.bitsBy_spec 64 (b - a + 1).toNat (Nat.le_trans h1 (by decide))).2
      by_cases z : 2 ≤ (b - a + 1).toNat
      · obtain ⟨q1, q2⟩ := h2 z
        have h3 : 2 ^ (bits0 (b - a + 1).toNat - 1) < 2 ^ 21 := Nat.lt_of_lt_of_le q2 (Nat.le_trans h1 (by decide))
        have := (Nat.pow_lt_pow_iff_right (by decide : 1 < 2)).mp h3
        omega
      · have z1 : (b - a + 1).toNat = 1 := by omega
        rw [z1]
        decide
  | .maybe t, row, w => by
    obtain ⟨rfl, w1⟩ := w
    obtain ⟨h1, h3⟩ := (cnt_le w1).1 rfl
    refine ⟨fun _ => ⟨?_, ?_⟩, fun z => (nomatch z)⟩
    · show 1 + countBy t false ≤ 2 ^ (22 * (1 + countLeaves t))
      rw [Nat.mul_add, Nat.pow_add, Nat.mul_one]
      have : 0 < 2 ^ (22 * countLeaves t) := Nat.two_pow_pos _
      have : (2 : Nat) ^ 22 = 4194304 := by decide
      omega
    · have := ML.may_bits (c := cod t)
      rw [← ML.cod_may] at this
      have this : (formOf (.maybe t)).bits = if 0 < (cod t).nic.n then (formOf t).bits else (formOf t).bits + 1 := this
      rw [this]
      show _ ≤ 22 * (1 + countLeaves t)
      split <;> omega
  | .many n t, row, w => by
    obtain ⟨rfl, w1, w2, w3⟩ := w
    obtain ⟨h1, h3⟩ := (cnt_le w3).1 rfl
    have e : ∀ n, 22 * ((n + 1) * countLeaves t) = 22 * countLeaves t + 22 * (n * countLeaves t) := fun n => by rw [Nat.succ_mul n (countLeaves t), Nat.mul_add, Nat.add_comm]
    refine ⟨fun _ => ⟨?_, ?_⟩, fun z => (nomatch z)⟩
    · show Valaya.power (countBy t false) n ≤ 2 ^ (22 * (n * countLeaves t))
      have : ∀ n, Valaya.power (countBy t false) n ≤ 2 ^ (22 * (n * countLeaves t)) := fun n => by
        induction n with
        | zero => simp [Valaya.power]
        | succ n ih =>
          show countBy t false * Valaya.power (countBy t false) n ≤ _
          rw [e, Nat.pow_add]
          exact Nat.mul_le_mul h1 ih
      exact this n
    · rw [show (formOf (.many n t)).bits = ML.bitsRow (List.replicate n (cod t)) from congrArg Form.bits (ML.form_many t n)]
      show _ ≤ 22 * (n * countLeaves t)
      have : ∀ n, ML.bitsRow (List.replicate n (cod t)) ≤ 22 * (n * countLeaves t) := fun n => by
        induction n with
        | zero => exact Nat.zero_le _
        | succ n ih =>
          show (formOf t).bits + ML.bitsRow (List.replicate n (cod t)) ≤ _
          rw [e]
          omega
      exact this n
  | .rec_ fs, row, w => by
    obtain ⟨rfl, w1⟩ := w
    obtain ⟨h1, h2, h3, h4⟩ := (cnt_le w1).2 rfl
    refine ⟨fun _ => ⟨h1, ?_⟩, fun z => (nomatch z)⟩
    · rw [form_rec w1]
      exact h3
  | .named x t, row, w => by
    obtain ⟨rfl, _, w1⟩ := w
    exact ⟨(cnt_le w1).1, fun z => (nomatch z)⟩
  | .one_ fs, row, w => by
    obtain ⟨rfl, w1, w2, w3⟩ := w
    obtain ⟨h1, h2, h3, h4⟩ := (cnt_le w1).2 rfl
    refine ⟨fun _ => ⟨?_, ?_⟩, fun z => (nomatch z)⟩
    · show countBy fs true ≤ 2 ^ (22 * (1 + countLeaves fs))
      rw [Nat.mul_add, Nat.pow_add, Nat.mul_comm]
      refine Nat.le_trans h2 (Nat.mul_le_mul_left _ ?_)
      have : (2 : Nat) ^ (22 * 1) = 4194304 := by decide
      omega
    · have cw := ML.cod_one w1
      have cl : ((rows fs).map cod).length = rowLength fs := by rw [List.length_map, ML.rows_length]
      have b3 := (bits0_small w2 w3).2.2
      show (cod (.one_ fs)).bits ≤ 22 * (1 + countLeaves fs)
      rw [cw]
      cases hc : carrier ((rows fs).map cod) with
      | none =>
        rw [(ML.one_bits_t hc).1, cl]
        omega
      | some b =>
        obtain ⟨c, q1, _⟩ := ML.carrier_some hc
        rw [(ML.one_bits_s hc q1).1]
        have := ML.le_maxBits q1
        omega
  | .nil, row, w => by
    have w : row = true := w
    subst w
    exact ⟨fun z => (nomatch z), fun _ => ⟨Nat.le_refl _, Nat.zero_le _, Nat.zero_le _, Nat.zero_le _⟩⟩
  | .field x h t r, row, w => by
    obtain ⟨rfl, w1, w2⟩ := w
    obtain ⟨h1, h3⟩ := (cnt_le w1).1 rfl
    obtain ⟨g1, g2, g3, g4⟩ := (cnt_le w2).2 rfl
    have e : 22 * (countLeaves t + countLeaves r) = 22 * countLeaves t + 22 * countLeaves r := Nat.mul_add _ _ _
    have p1 : 0 < 2 ^ (22 * countLeaves t) := Nat.two_pow_pos _
    have p2 : 0 < 2 ^ (22 * countLeaves r) := Nat.two_pow_pos _
    refine ⟨fun z => (nomatch z), fun _ => ⟨?_, ?_, ?_, ?_⟩⟩
    · show countBy t false * countBy r false ≤ 2 ^ (22 * (countLeaves t + countLeaves r))
      rw [e, Nat.pow_add]
      exact Nat.mul_le_mul h1 g1
    · show countBy t false + countBy r true ≤ 2 ^ (22 * (countLeaves t + countLeaves r)) * (rowLength r + 1)
      rw [e, Nat.pow_add, Nat.mul_add, Nat.mul_one]
      have q1 : 2 ^ (22 * countLeaves t) ≤ 2 ^ (22 * countLeaves t) * 2 ^ (22 * countLeaves r) := Nat.le_mul_of_pos_right _ p2
      have q2 : 2 ^ (22 * countLeaves r) * rowLength r ≤ 2 ^ (22 * countLeaves t) * 2 ^ (22 * countLeaves r) * rowLength r := Nat.mul_le_mul_right _ (Nat.le_mul_of_pos_left _ p1)
      omega
    · show (formOf t).bits + ML.bitsRow ((rows r).map cod) ≤ 22 * (countLeaves t + countLeaves r)
      omega
    · show max (formOf t).bits (ML.maxBits ((rows r).map cod)) ≤ 22 * (countLeaves t + countLeaves r)
      have : max (formOf t).bits (ML.maxBits ((rows r).map cod)) ≤ (formOf t).bits + ML.maxBits ((rows r).map cod) := by omega
      omega
theorem cnt_small {t : Ty} (w : wf t false) (h : countLeaves t ≤ 24) : countBy t false ≤ 2 ^ 528 := Nat.le_trans ((cnt_le w).1 rfl).1 (pow_mono (by omega))
theorem bits_small {t : Ty} (w : wf t false) (h : countLeaves t ≤ 24) : (formOf t).bits ≤ 528 := Nat.le_trans ((cnt_le w).1 rfl).2 (by omega)
section
variable {P : Program} {w : World} {K : PySem.W.Frag} {mg : Str → Option Value} {base : Heap}
/-! ### a kind's class -/
def clsT (K : PySem.W.Frag) : Ty → Addr
  | .num _ _ _ => cNumber K
  | .maybe _ => cMaybe K
  | .many _ _ => cMany K
  | .rec_ _ => cRecord K
  | .named _ t => clsT K t
  | .one_ _ => cOne K
  | _ => 0
/-- no method's name is an attribute -/
structure NoM (fs : List (Str × V)) : Prop where
  m1 : fs.lookup ("how_many" : Str) = none
  m2 : fs.lookup ("one_form" : Str) = none
  m3 : fs.lookup ("bits_told" : Str) = none
  m4 : fs.lookup ("number_told" : Str) = none
  m5 : fs.lookup ("value_with" : Str) = none
  m6 : fs.lookup ("value_at" : Str) = none
theorem KA.ins {H : Hp} : ∀ {t : Ty} {a : Addr}, wf t false → KA K H t [a] → ∃ dx fs, H a = some (.ins (clsT K t) dx fs) ∧ NoM fs
  | .num lo hi al, b, _, ⟨a, dx, sp, y, e, h1, h2, h3⟩ => by
    cases e
    exact ⟨dx, _, h1, rfl, rfl, rfl, rfl, rfl, rfl⟩
  | .maybe t, b, _, ⟨a, dx, i, sp, y, e, h1, h2, h3, h4⟩ => by
    cases e
    exact ⟨dx, _, h1, rfl, rfl, rfl, rfl, rfl, rfl⟩
  | .many n t, b, _, ⟨a, dx, i, pl, sp, y, e, h1, h2, h3, h4, h5⟩ => by
    cases e
    exact ⟨dx, _, h1, rfl, rfl, rfl, rfl, rfl, rfl⟩
  | .rec_ fs, b, _, ⟨a, dx, pl, sp, fl, nm, fas, ias, y, e, h1, h2, h3, h4, h5, h6, h7⟩ => by
    cases e
    exact ⟨dx, _, h1, rfl, rfl, rfl, rfl, rfl, rfl⟩
  | .named x t, b, wt, ⟨h1, _⟩ => KA.ins (t := t) wt.2.2 h1
  | .one_ fs, b, _, ⟨a, dx, nl, al, sp, ias, y, e, h1, h2, h3, h4, h5, h6⟩ => by
    cases e
    exact ⟨dx, _, h1, rfl, rfl, rfl, rfl, rfl, rfl⟩
  | .nil, b, wt, _ => (nomatch wt)
  | .field _ _ _ _, b, wt, _ => (nomatch wt.1)
theorem MOk.imp {CX : CXT} {n : Nat} {C : Addr} {m : Str} {sp sp' : Sp} (c : MOk P w K mg base CX n C m sp) (h : ∀ vs H Q E, sp' vs H Q E → sp vs H Q E) : MOk P w K mg base CX n C m sp' := by
  obtain ⟨f, fd, ps, k, h1, h2, h3, F, b⟩ := c
  exact ⟨f, fd, ps, k, h1, h2, h3, F.imp h, b⟩
/-- the parts of a many or a record -/
def RowAt (K : PySem.W.Frag) (H : Hp) (a : Addr) (C : Addr) (ts : List Ty) : Prop := ∃ (dx : Addr) (fs : List (Str × V)) (pl : Addr) (as : List Addr), H a = some (.ins C dx fs) ∧ fs.lookup ("parts" : Str) = some (.ref pl) ∧ H pl = some (.lst (as.map V.ref)) ∧ as.length = ts.length ∧ ∀ (i : Nat) (b : Addr) (u : Ty), as[i]? = some b → ts[i]? = some u → KA K H u [b]
theorem KA.rows_at {H : Hp} : ∀ {fs : Ty} {ias : List Addr}, wf fs true → KA K H fs ias → ias.length = (rows fs).length ∧ ∀ (i : Nat) (b : Addr) (u : Ty), ias[i]? = some b → (rows fs)[i]? = some u → KA K H u [b]
  | .field x h t r, ias, w, ⟨a, as, e, h1, h2⟩ => by
    subst e
    obtain ⟨l, g⟩ := KA.rows_at w.2.2 h2
    refine ⟨congrArg (· + 1) l, fun i b u q z => ?_⟩
    cases i with
    | zero =>
      cases Option.some.inj q
      cases Option.some.inj z
      exact h1
    | succ i => exact g i b u q z
  | .nil, ias, _, h => by
    have h : ias = [] := h
    subst h
    exact ⟨rfl, fun i b u q => by simp at q⟩
  | .num _ _ _, _, w, _ => (nomatch w.1)
  | .maybe _, _, w, _ => (nomatch w.1)
  | .many _ _, _, w, _ => (nomatch w.1)
  | .rec_ _, _, w, _ => (nomatch w.1)
  | .named _ _, _, w, _ => (nomatch w.1)
  | .one_ _, _, w, _ => (nomatch w.1)
theorem KA.many_row {H : Hp} {n : Nat} {t : Ty} {a : Addr} (h : KA K H (.many n t) [a]) : RowAt K H a (cMany K) (List.replicate n t) := by
  obtain ⟨b, dx, i, pl, sp, y, e, h1, h2, h3, h4, h5⟩ := h
  cases e
  refine ⟨dx, _, pl, List.replicate n i, h1, rfl, h3, by rw [List.length_replicate, List.length_replicate], fun j b u q z => ?_⟩
  rw [(List.mem_replicate.mp (List.mem_of_getElem? q)).2, (List.mem_replicate.mp (List.mem_of_getElem? z)).2]
  exact h2
theorem KA.rec_row {H : Hp} {fs : Ty} {a : Addr} (w : wf fs true) (h : KA K H (.rec_ fs) [a]) : RowAt K H a (cRecord K) (rows fs) := by
  obtain ⟨b, dx, pl, sp, fl, nm, fas, ias, y, e, h1, h2, h3, h4, h5, h6, h7⟩ := h
  cases e
  obtain ⟨l, g⟩ := h2.rows_at w
  exact ⟨dx, _, pl, ias, h1, rfl, h3, l, g⟩
theorem RowAt.same {H H' : Hp} {a C : Addr} {ts : List Ty} (h : RowAt K H a C ts) (s : Same H H') : RowAt K H' a C ts := by
  obtain ⟨dx, fs, pl, as, h1, h2, h3, h4, h5⟩ := h
  exact ⟨dx, fs, pl, as, s _ _ h1, h2, s _ _ h3, h4, fun i b u q z => (h5 i b u q z).same s⟩
/-- a class that has Row's methods -/
def RowC (x : Str) : Prop := x ∈ [("Many" : Str), "Record"]
theorem rowc_many : RowC "Many" := List.mem_cons_self
theorem rowc_rec : RowC "Record" := List.mem_cons_of_mem _ List.mem_cons_self
theorem mkRM (T : Txt K mg) {CX : CXT} {x m q : Str} {st : Stmt} {N ps : List Str} {k : Nat} {sp : Sp} (hx : RowC x) (hm : m ∈ [("how_many" : Str), "bits_told", "number_told", "value_with", "value_at"]) (cl : Cls K (He.ga K x)) (me : Meth K (He.ga K x) m (He.ma K (He.ga K x) m))
    (d : ∃ fd, FnP K m q st (He.ma K (He.ga K "Row") m) fd) (S : FnScope N ps (defScope st)) (len : ∀ vs H Q E, sp vs H Q E → vs.length = ps.length)
    (b : ∀ (kV doc pm : Value) (an : Option Addr) (cdv ct : Value) (us : List Value), us.length = ps.length → bindArgs (PySem.W.fnOf m q (defArgs st) (defBody st) (defScope st) .none kV doc pm an cdv ct) ⟨us, []⟩ = pure (ps.zip us))
    (body : ∀ (cdv : Value) (A : Around) (outer : List Env) (s : Shared) (H : Hp) (vs : List V) (Q : VK) (E : XK), Room k (A.deeper (envOfC q (defScope st) s.heap.objs.size (He.ma K (He.ga K x) m) cdv)) → sp vs H Q E →
      ∃ t, PSs (cxOf CX P w K mg base N q (defScope st) (He.ma K (He.ga K x) m) cdv A outer s H E) (defBody st) t ∧ t { nx := fun _ H' => Q .non H', rt := Q } (start N vs) H) : MOk P w K mg base CX (k + 1) (He.ga K x) m sp := by
  rw [← T.same_ma hx hm] at d
  exact mkM cl me d S len b body
theorem row_cl (T : Txt K mg) {x : Str} (hx : RowC x) : RowCls K (He.ga K x) := by
  rcases List.mem_cons.mp hx with rfl | hx
  · exact row_cls_many T
  · rcases List.mem_cons.mp hx with rfl | hx
    · exact row_cls_rec T
    · cases hx
end
end LY
set_option Elab.async false
set_option linter.all false
set_option maxRecDepth 100000
set_option maxHeartbeats 4000000
set_option exponentiation.threshold 4000
namespace LY
open PySem PySem.Spec PyProof.Rows L2
open Valaye (Niche Form formOf better moved noNiche bits0 sharedBits maybeForm taken_)
open Valaya (Ty countLeaves rowLength countBy)
open ML (Cod cod rows wf frm carrier)
section
variable {P : Program} {w : World} {K : PySem.W.Frag} {mg : Str → Option Value} {base : Heap}
/-! ### how many values -/
abbrev s_Maybe_how_many : Stmt := inClass (top 13) 1
abbrev n_Maybe_how_many : List Str := ["self"]
theorem sc_Maybe_how_many : FnScope n_Maybe_how_many ["self"] (defScope s_Maybe_how_many) := ⟨rfl, rfl, rfl, by decide +kernel, rfl, by decide +kernel, by decide +kernel⟩
abbrev s_One_how_many : Stmt := inClass (top 14) 1
abbrev n_One_how_many : List Str := ["self", "inner"]
theorem sc_One_how_many : FnScope n_One_how_many ["self"] (defScope s_One_how_many) := ⟨rfl, rfl, rfl, by decide +kernel, rfl, by decide +kernel, by decide +kernel⟩
abbrev s_Row_how_many : Stmt := inClass (top 16) 1
abbrev n_Row_how_many : List Str := ["self", "product", "part"]
theorem sc_Row_how_many : FnScope n_Row_how_many ["self"] (defScope s_Row_how_many) := ⟨rfl, rfl, rfl, by decide +kernel, rfl, by decide +kernel, by decide +kernel⟩

def spHow (K : PySem.W.Frag) (t : Ty) : Sp := fun vs H Q _ => ∃ a : Addr, vs = [.ref a] ∧ KA K H t [a] ∧ ∀ H', Same H H' → Q (.int (countBy t false : Nat)) H'
theorem natAbs_lt {n k : Nat} (h : n ≤ 2 ^ k) : (n : Int).natAbs < 2 ^ (k + 1) := by
  rw [Int.natAbs_natCast, Nat.pow_succ]
  have := Nat.two_pow_pos k
  omega
theorem cntRow_pos : ∀ {cs : List Cod}, (∀ c ∈ cs, 0 < c.cnt) → 0 < ML.cntRow cs
  | [], _ => Nat.one_pos
  | c :: cs, h => Nat.mul_pos (h c List.mem_cons_self) (cntRow_pos fun d hd => h d (List.mem_cons_of_mem _ hd))
theorem row_how (T : Txt K mg) {x : Str} (hx : RowC x) (cl : Cls K (He.ga K x)) (me : Meth K (He.ga K x) "how_many" (He.ma K (He.ga K x) "how_many")) {ts : List Ty} {k : Nat} (hw : ∀ u ∈ ts, wf u false) (hl : ∀ u ∈ ts, countLeaves u ≤ 24)
    (small : ML.cntRow (ts.map cod) ≤ 2 ^ 528) (ih : ∀ u ∈ ts, MOk P w K mg base CX0 k (clsT K u) "how_many" (spHow K u)) :
    MOk P w K mg base CX0 (k + 1) (He.ga K x) "how_many" (fun vs H Q _ => ∃ a, vs = [.ref a] ∧ RowAt K H a (He.ga K x) ts ∧ ∀ H', Same H H' → Q (.int (ML.cntRow (ts.map cod) : Nat)) H') :=
  mkRM T hx (by decide +kernel) cl me T.d_Row_how_many sc_Row_how_many (fun vs H Q E h => by obtain ⟨a, rfl, _⟩ := h; rfl) (fun _ _ _ _ _ _ us hl => match us, hl with | [_], _ => rfl) fun cdv A outer s H vs Q E hr h => by
    obtain ⟨a, rfl, hR, kk⟩ := h
    obtain ⟨dx, fs, pl, as, h1, h2, h3, h4, h5⟩ := id hR
    refine ⟨_, PSs.nox (pss_cons (ps_set (i := 1) sc_Row_how_many.nd rfl (Or.inl rfl) (by exact pe_int))
      (pss_cons (ps_for PassesOwn.never rfl (pi_list (pe_fld (pv 0) (by rfl))) (pg_name (i := 2) sc_Row_how_many.nd rfl (Or.inl rfl)) (pss_one (ps_aug (i := 1) sc_Row_how_many.nd rfl (.inl rfl) (pe_mx0 (CX := CX0) hr pas0 (pv 2)) ip_mulX)))
      (pss_one (ps_ret (by exact (pv 1)))))), ?_⟩
    refine ⟨_, rfl, a, _, dx, fs, _, rfl, h1, cl, (row_cl T hx).n1, h2, pl, rfl, ⟨_, SqL.of h3⟩, for_list (K := K) (a := pl) (xs := as.map V.ref) (fun i σ H' => ∃ (n : Nat) (v : Option V), σ = [some (.ref a), some (.int n), v] ∧ Same H H' ∧ n * ML.cntRow ((ts.drop i).map cod) = ML.cntRow (ts.map cod))
      ⟨1, none, rfl, Same.refl _, Nat.one_mul _⟩ (fun i σ H' _ ⟨_, _, _, s5, _⟩ => s5.seq (SqL.of h3)) ?_ ?_⟩
    · rintro i y σ H' hi ⟨n, v, rfl, s5, eq⟩
      obtain ⟨b, hb, rfl⟩ := map_get hi
      have hlt : i < ts.length := by rw [← h4]; exact (List.getElem?_eq_some_iff.mp hb).1
      have hu : ts[i]? = some ts[i] := List.getElem?_eq_getElem hlt
      generalize ts[i] = u at hu
      have hm := List.mem_of_getElem? hu
      have ka := (h5 i b u hb hu).same s5
      obtain ⟨db, fb, g1, g2⟩ := ka.ins (hw u hm)
      rw [drop_some hu] at eq
      have eq : n * (countBy u false * ML.cntRow ((ts.drop (i + 1)).map cod)) = ML.cntRow (ts.map cod) := eq
      have pos : 0 < ML.cntRow ((ts.drop (i + 1)).map cod) := cntRow_pos fun c hc => by
        obtain ⟨z, hz, rfl⟩ := List.mem_map.mp hc
        exact ((ML.good_cod (hw z (List.mem_of_mem_drop hz))).1 rfl).pos
      have pos2 : 0 < countBy u false := ((ML.good_cod (hw u hm)).1 rfl).pos
      have nb : n ≤ 2 ^ 528 := by
        refine Nat.le_trans ?_ small
        rw [← eq]
        exact Nat.le_mul_of_pos_right _ (Nat.mul_pos pos2 pos)
      refine ⟨_, rfl, _, rfl, b, _, db, fb, _, rfl, g1, g2.m1, ih u hm, b, rfl, ka, fun H2 s2 => ?_⟩
      refine ⟨_, _, rfl, rfl, mulx_ok (natAbs_lt nb) (natAbs_lt (cnt_small (hw u hm) (hl u hm))) (by omega), ?_⟩
      refine ⟨n * countBy u false, some (.ref b), ?_, s5.trans s2, ?_⟩
      · show [some (V.ref a), some (V.int ((n : Int) * ((countBy u false : Nat) : Int))), some (V.ref b)] = _
        rw [← Int.natCast_mul]
      · rw [Nat.mul_assoc]
        exact eq
    · rintro σ H' ⟨n, v, rfl, s5, eq⟩
      rw [List.length_map, h4, List.drop_length] at eq
      have eq : n * 1 = ML.cntRow (ts.map cod) := eq
      rw [Nat.mul_one] at eq
      subst eq
      exact ⟨_, rfl, kk _ s5⟩
theorem num_how (T : Txt K mg) {lo hi : Int} {al : Nat} (wt : wf (.num lo hi al) false) : MOk P w K mg base CX0 1 (cNumber K) "how_many" (spHow K (.num lo hi al)) :=
  (ok_num_how T).imp fun vs H Q E h => by
    obtain ⟨a, rfl, ⟨b, dx, sp, y, e, h1, h2, h3⟩, k⟩ := h
    cases e
    refine ⟨a, dx, _, lo, hi, rfl, h1, rfl, rfl, ?_⟩
    have := k H (Same.refl _)
    rw [show (hi - lo + 1) = ((countBy (.num lo hi al) false : Nat) : Int) by
      obtain ⟨_, _, w2, _⟩ := wt
      show _ = (((hi - lo + 1).toNat : Nat) : Int)
      omega]
    exact this
theorem may_how (T : Txt K mg) {t : Ty} {k : Nat} (wt : wf t false) (ih : MOk P w K mg base CX0 k (clsT K t) "how_many" (spHow K t)) : MOk P w K mg base CX0 (k + 1) (cMaybe K) "how_many" (spHow K (.maybe t)) :=
  mkM T.cl_Maybe T.me_Maybe_how_many T.d_Maybe_how_many sc_Maybe_how_many (fun vs H Q E h => by obtain ⟨a, rfl, _⟩ := h; rfl) (fun _ _ _ _ _ _ us hl => match us, hl with | [_], _ => rfl) fun cdv A outer s H vs Q E hr h => by
    obtain ⟨a, rfl, ⟨b, dx, i, sp, y, e, h1, h2, h3, h4⟩, kk⟩ := h
    cases e
    obtain ⟨di, fi, g1, g2⟩ := h2.ins wt
    refine ⟨_, PSs.nox (pss_one (ps_ret (by exact (pe_op op_add pe_int (pe_mx0 (CX := CX0) hr pas0 (pe_fld (pv 0) (by rfl))))))), ?_⟩
    refine ⟨_, rfl, a, _, dx, _, _, rfl, h1, T.cl_Maybe, T.na_Maybe_inner, rfl, i, _, di, fi, _, rfl, g1, g2.m1, ih, i, rfl, h2, fun H2 s2 => ⟨_, _, rfl, rfl, ?_⟩⟩
    show Q (.int ((1 : Int) + ((countBy t false : Nat) : Int))) H2
    rw [one_add]
    exact kk _ s2
theorem one_how (T : Txt K mg) {fs : Ty} {k : Nat} (wt : wf fs true) (h4 : rowLength fs ≤ 4) (ih : ∀ u ∈ rows fs, MOk P w K mg base CX0 k (clsT K u) "how_many" (spHow K u)) : MOk P w K mg base CX0 (k + 1) (cOne K) "how_many" (spHow K (.one_ fs)) :=
  mkM T.cl_One T.me_One_how_many T.d_One_how_many sc_One_how_many (fun vs H Q E h => by obtain ⟨a, rfl, _⟩ := h; rfl) (fun _ _ _ _ _ _ us hl => match us, hl with | [_], _ => rfl) fun cdv A outer s H vs Q E hr h => by
    obtain ⟨a, rfl, ⟨b, dx, nl, al, sp, ias, y, e, h1, h2, h3, h4', h5, h6⟩, kk⟩ := h
    cases e
    obtain ⟨len, get⟩ := h2.rows_at wt
    refine ⟨_, PSs.nox (pss_one (ps_ret (by exact (pe_callB (cr_sum rfl) (by rfl) T.f_sum (by decide +kernel) (by exact (pa_cons (pe_lc (own := [("inner", 1)]) (g := gName 1) (tt := tYes) (te := (tMx P w K mg base CX0 _ "how_many" (fun _ => E0) (tVar 1) tNil)) rfl sc_One_how_many.nd (pi_list (pe_fld (pv 0) (by rfl))) (blkOk_by (own := [("inner", 1)]) (N := n_One_how_many) (sc := defScope s_One_how_many) (by decide +kernel)) (fun _ _ _ _ _ => by exact (pg_name (i := 1) sc_One_how_many.nd rfl (Or.inl rfl))) (fun _ _ _ _ _ => pts_nil) (fun _ _ _ _ _ => by exact (pe_mx0 (CX := CX0) hr pas0 (pv 1)))) pa_nil)))))), ?_⟩
    refine ⟨_, rfl, a, _, dx, _, _, rfl, h1, T.cl_One, T.na_One_alternatives, rfl, al, rfl, ⟨_, SqL.of h4'⟩, fun D hD => lc_list (K := K) (a := al) (xs := ias.map V.ref) (fun j H' => Same H H' ∧ H' D = some (.lst ((((rows fs).take j).map fun u => ((countBy u false : Nat) : Int)).map V.int))) ⟨same_new hD, upd_same⟩ (fun _ _ _ ⟨s, _⟩ => s.seq (SqL.of h4')) ?_ ?_⟩
    · rintro j x H' hx ⟨s1, d1⟩
      obtain ⟨c, hc, rfl⟩ := map_get hx
      have hj : j < (rows fs).length := by rw [← len]; exact (List.getElem?_eq_some_iff.mp hc).1
      have hu : (rows fs)[j]? = some (rows fs)[j] := List.getElem?_eq_getElem hj
      generalize (rows fs)[j] = u at hu
      have hm := List.mem_of_getElem? hu
      have ka := (get j c u hc hu).same s1
      obtain ⟨dc, fc, g1, g2⟩ := ka.ins (wf_rows wt hm)
      refine ⟨rfl, yes ?_⟩
      refine ⟨_, rfl, c, _, dc, fc, _, rfl, g1, g2.m1, ih u hm, c, rfl, ka, fun H2 s2 => ⟨_, s2 _ _ d1, ?_, fun q o e => ?_, ?_⟩⟩
      · rw [List.length_map, List.length_map, List.length_take]
        have : (rows fs).length ≤ 4 := by rw [ML.rows_length]; exact h4
        exact small1000 (by omega)
      · rw [upd_ne (ne_of_none e hD)]
        exact s2 _ _ (s1 q o e)
      · rw [upd_same, List.take_succ, hu, List.map_append, List.map_append]
        rfl
    · rintro H' ⟨s1, d1⟩
      rw [List.length_map, len, List.take_length] at d1
      refine ⟨D, _, rfl, SqL.of d1, ?_⟩
      have e : ((rows fs).map fun u => ((countBy u false : Nat) : Int)).sum = ((countBy (.one_ fs) false : Nat) : Int) := by
        show _ = ((countBy fs true : Nat) : Int)
        rw [(ML.alts_at wt).2.1]
        have : ∀ l : List Ty, (l.map fun u => ((countBy u false : Nat) : Int)).sum = ((ML.cntOne (l.map cod) : Nat) : Int) := fun l => by
          induction l with
          | nil => rfl
          | cons u l ihl =>
            rw [List.map_cons, List.sum_cons, ihl]
            show _ = ((countBy u false + ML.cntOne (l.map cod) : Nat) : Int)
            omega
        exact this _
      rw [e]
      exact kk _ s1
theorem all_how (T : Txt K mg) : ∀ {t : Ty} {row : Bool}, wf t row → countLeaves t ≤ 24 → (row = false → MOk P w K mg base CX0 (dp t) (clsT K t) "how_many" (spHow K t)) ∧ (row = true → ∀ u ∈ rows t, MOk P w K mg base CX0 (dp t) (clsT K u) "how_many" (spHow K u))
  | .num lo hi al, row, wt, _ => by
    obtain rfl := wt.1
    exact ⟨fun _ => num_how T wt, fun z => (nomatch z)⟩
  | .maybe t, row, wt, hl => by
    obtain rfl := wt.1
    have hl : 1 + countLeaves t ≤ 24 := hl
    exact ⟨fun _ => may_how T wt.2 ((all_how T wt.2 (by omega)).1 rfl), fun z => (nomatch z)⟩
  | .many n t, row, wt, hl => by
    have wt' := wt
    obtain ⟨rfl, w1, w2, w3⟩ := wt
    have hl' : n * countLeaves t ≤ 24 := hl
    have hl2 : countLeaves t ≤ 24 := Nat.le_trans (Nat.le_mul_of_pos_left _ w1) hl'
    refine ⟨fun _ => ?_, fun z => (nomatch z)⟩
    have cs := cnt_small wt' hl
    rw [show countBy (.many n t) false = ML.cntRow ((List.replicate n t).map cod) by rw [List.map_replicate]; exact ML.cnt_many t n] at cs
    refine (row_how T (x := "Many") (ts := List.replicate n t) rowc_many T.cl_Many T.me_Many_how_many (fun u hu => by rw [(List.mem_replicate.mp hu).2]; exact w3) (fun u hu => by rw [(List.mem_replicate.mp hu).2]; exact hl2) cs
      fun u hu => by rw [(List.mem_replicate.mp hu).2]; exact (all_how T w3 hl2).1 rfl).imp fun vs H Q E h => ?_
    obtain ⟨a, e, ka, k⟩ := h
    refine ⟨a, e, ka.many_row, fun H' s => ?_⟩
    have := k H' s
    rw [show countBy (.many n t) false = ML.cntRow ((List.replicate n t).map cod) by rw [List.map_replicate]; exact ML.cnt_many t n] at this
    exact this
  | .rec_ fs, row, wt, hl => by
    have wt' := wt
    obtain ⟨rfl, w1⟩ := wt
    have hl' : countLeaves fs ≤ 24 := hl
    refine ⟨fun _ => ?_, fun z => (nomatch z)⟩
    have cs := cnt_small wt' hl
    have ec : countBy (.rec_ fs) false = ML.cntRow ((rows fs).map cod) := (ML.cod_row w1).2.2.2.2.1
    rw [ec] at cs
    refine (row_how T (x := "Record") (ts := rows fs) rowc_rec T.cl_Record T.me_Record_how_many (fun u hu => wf_rows w1 hu) (fun u hu => Nat.le_trans (lv_rows hu) hl') cs
      fun u hu => (all_how T w1 hl').2 rfl u hu).imp fun vs H Q E h => ?_
    obtain ⟨a, e, ka, k⟩ := h
    refine ⟨a, e, ka.rec_row w1, fun H' s => ?_⟩
    have := k H' s
    rw [ec] at this
    exact this
  | .named x t, row, wt, hl => by
    obtain ⟨rfl, _, w1⟩ := wt
    refine ⟨fun _ => ((all_how T w1 hl).1 rfl).imp fun vs H Q E h => ?_, fun z => (nomatch z)⟩
    obtain ⟨a, e, ka, k⟩ := h
    exact ⟨a, e, ka.1, k⟩
  | .one_ fs, row, wt, hl => by
    obtain ⟨rfl, w1, w2, w3⟩ := wt
    have hl' : 1 + countLeaves fs ≤ 24 := hl
    exact ⟨fun _ => one_how T w1 w3 fun u hu => (all_how T w1 (by omega)).2 rfl u hu, fun z => (nomatch z)⟩
  | .nil, row, wt, _ => by
    have wt : row = true := wt
    subst wt
    exact ⟨fun z => (nomatch z), fun _ u hu => by cases hu⟩
  | .field x h t r, row, wt, hl => by
    obtain ⟨rfl, w1, w2⟩ := wt
    have hl : countLeaves t + countLeaves r ≤ 24 := hl
    have i1 := (all_how T w1 (by omega)).1 rfl
    have i2 := (all_how T w2 (by omega)).2 rfl
    refine ⟨fun z => (nomatch z), fun _ u hu => ?_⟩
    rcases List.mem_cons.mp hu with e | hu
    · rw [e]
      exact i1.mono (Nat.le_max_left _ _)
    · exact (i2 u hu).mono (Nat.le_max_right _ _)
end
end LY
set_option Elab.async false
set_option linter.all false
set_option maxRecDepth 100000
set_option maxHeartbeats 4000000
set_option exponentiation.threshold 4000
namespace LY
open PySem PySem.Spec PyProof.Rows L2
open Valaye (Niche Form formOf better moved noNiche bits0 sharedBits maybeForm taken_)
open Valaya (Ty countLeaves rowLength countBy)
open ML (Cod cod rows wf frm carrier Good)
section
variable {P : Program} {w : World} {K : PySem.W.Frag} {mg : Str → Option Value} {base : Heap}
/-! ### a value's bits -/
abbrev s_Number_bits_told : Stmt := inClass (top 12) 3
abbrev n_Number_bits_told : List Str := ["self", "cursor"]
theorem sc_Number_bits_told : FnScope n_Number_bits_told ["self", "cursor"] (defScope s_Number_bits_told) := ⟨rfl, rfl, rfl, by decide +kernel, rfl, by decide +kernel, by decide +kernel⟩
abbrev s_Maybe_bits_told : Stmt := inClass (top 13) 3
abbrev n_Maybe_bits_told : List Str := ["self", "cursor", "bits"]
theorem sc_Maybe_bits_told : FnScope n_Maybe_bits_told ["self", "cursor"] (defScope s_Maybe_bits_told) := ⟨rfl, rfl, rfl, by decide +kernel, rfl, by decide +kernel, by decide +kernel⟩
abbrev s_Maybe_bits_of_nothing : Stmt := inClass (top 13) 4
abbrev n_Maybe_bits_of_nothing : List Str := ["self"]
theorem sc_Maybe_bits_of_nothing : FnScope n_Maybe_bits_of_nothing ["self"] (defScope s_Maybe_bits_of_nothing) := ⟨rfl, rfl, rfl, by decide +kernel, rfl, by decide +kernel, by decide +kernel⟩
abbrev s_One_bits_told : Stmt := inClass (top 14) 3
abbrev n_One_bits_told : List Str := ["self", "cursor", "number", "bits"]
theorem sc_One_bits_told : FnScope n_One_bits_told ["self", "cursor"] (defScope s_One_bits_told) := ⟨rfl, rfl, rfl, by decide +kernel, rfl, by decide +kernel, by decide +kernel⟩
abbrev s_One_bits_beside_carrier : Stmt := inClass (top 14) 4
abbrev n_One_bits_beside_carrier : List Str := ["self", "number", "spare"]
theorem sc_One_bits_beside_carrier : FnScope n_One_bits_beside_carrier ["self", "number"] (defScope s_One_bits_beside_carrier) := ⟨rfl, rfl, rfl, by decide +kernel, rfl, by decide +kernel, by decide +kernel⟩
abbrev s_Row_bits_told : Stmt := inClass (top 16) 2
abbrev n_Row_bits_told : List Str := ["self", "cursor", "bits", "offset", "part"]
theorem sc_Row_bits_told : FnScope n_Row_bits_told ["self", "cursor"] (defScope s_Row_bits_told) := ⟨rfl, rfl, rfl, by decide +kernel, rfl, by decide +kernel, by decide +kernel⟩

/-- what a method that reads a value off a cursor promises: g tells what it hands back -/
def spRead (K : PySem.W.Frag) (at_ : Hp → Addr → Prop) (c : Cod) (g : List Int → Nat) : Sp := fun vs H Q E => ∃ (a cu : Addr) (ns : List Int) (i : Nat), vs = [.ref a, .ref cu] ∧ at_ (Wo cu H) a ∧ CurAt K H cu ns i ∧
  (∀ r, c.eat (ns.drop i) = some r → ∀ H', SameBut cu H H' → CurAt K H' cu ns (ns.length - r.length) → Q (.int (g (ns.drop i) : Nat)) H') ∧ (c.eat (ns.drop i) = none → ∀ H', SameBut cu H H' → E (.ref (cNoValue K)) none H')
def atT (K : PySem.W.Frag) (t : Ty) : Hp → Addr → Prop := fun H a => KA K H t [a]
def spBT (K : PySem.W.Frag) (t : Ty) : Sp := spRead K (atT K t) (cod t) fun l => ((cod t).enc l).1
theorem drop_cases (ns : List Int) (i : Nat) : (ns[i]? = none ∧ ns.drop i = []) ∨ ∃ v, ns[i]? = some v ∧ ns.drop i = v :: ns.drop (i + 1) := by
  cases h : ns[i]? with
  | none => exact .inl ⟨rfl, List.drop_eq_nil_of_le (List.getElem?_eq_none_iff.mp h)⟩
  | some v => exact .inr ⟨v, rfl, drop_some h⟩
theorem sub_drop {ns : List Int} {i : Nat} (h : i ≤ ns.length) : ns.length - (ns.drop i).length = i := by
  rw [List.length_drop]
  omega
theorem lt_of_get {ns : List Int} {i : Nat} {v : Int} (h : ns[i]? = some v) : i + 1 ≤ ns.length := (List.getElem?_eq_some_iff.mp h).1
theorem SameBut.wo {cu : Addr} {H H' : Hp} (s : SameBut cu H H') : Same (Wo cu H) (Wo cu H') := Wo.but s
theorem CurAt.ins {H : Hp} {cu : Addr} {ns : List Int} {i : Nat} (h : CurAt K H cu ns i) : ∃ dx fs, H cu = some (.ins (cCursor K) dx fs) ∧ fs.lookup ("draw" : Str) = none := by
  obtain ⟨dx, a, h1, _⟩ := h
  exact ⟨dx, _, h1, rfl⟩
theorem num_bits (T : Txt K mg) {lo hi : Int} {al : Nat} (wt : wf (.num lo hi al) false) : MOk P w K mg base (L2.CX P w) 3 (cNumber K) "bits_told" (spBT K (.num lo hi al)) :=
  mkM T.cl_Number T.me_Number_bits_told T.d_Number_bits_told sc_Number_bits_told (fun vs H Q E h => by obtain ⟨a, cu, ns, i, rfl, _⟩ := h; rfl) (fun _ _ _ _ _ _ us hl => match us, hl with | [_, _], _ => rfl) fun cdv A outer s H vs Q E hr h => by
    obtain ⟨a, cu, ns, i, rfl, ⟨b, dx, sp, y, e, h1, h2, h3⟩, hc, kq, ke⟩ := h
    cases e
    obtain ⟨dc, fc, g1, g2⟩ := hc.ins
    obtain ⟨h1, ne⟩ := Wo.get h1
    rw [ML.cod_num] at kq ke
    refine ⟨_, (pss_one (ps_ret (by exact (pe_op op_sub (pe_mx (CX := L2.CX P w) (E := fun _ => E) hr (pasE (takes_of rfl rfl rfl rfl)) (pv 1) (by exact (pa_cons (pe_fld (pv 0) (by rfl)) (pa_cons (pe_fld (pv 0) (by rfl)) pa_nil)))) (pe_fld (pv 0) (by rfl)))))), ?_⟩
    refine ⟨_, rfl, cu, _, dc, fc, spDraw K, rfl, g1, g2, (ok_draw T).mono (by decide), _, rfl, a, _, dx, _, _, rfl, h1, T.cl_Number, T.na_Number_first, rfl, _, rfl, a, _, dx, _, _, rfl, h1, T.cl_Number, T.na_Number_last, rfl, ?_⟩
    refine ⟨cu, ns, i, lo, hi, rfl, hc, fun v hv v1 v2 H1 s1 c1 => ?_, fun bad => ?_⟩
    · refine ⟨_, rfl, a, _, dx, _, _, rfl, s1 _ _ h1 ne, T.cl_Number, T.na_Number_first, rfl, _, _, rfl, rfl, ?_⟩
      have hd := drop_some hv
      have := kq (ns.drop (i + 1)) (by rw [hd]; exact if_pos ⟨v1, v2⟩) H1 s1 (by rw [sub_drop (lt_of_get hv)]; exact c1)
      rw [hd] at this
      have e : (((v - lo).toNat : Nat) : Int) = v - lo := by omega
      have this : Q (.int (((v - lo).toNat : Nat) : Int)) H1 := this
      rw [e] at this
      exact this
    · refine ke ?_ H (SameBut.refl _ _)
      rcases drop_cases ns i with ⟨h, e⟩ | ⟨v, h, e⟩
      · rw [e]
        rfl
      · rw [e]
        exact if_neg (bad v h)
/-- nothing's bits -/
theorem may_nothing (T : Txt K mg) {t : Ty} (wt : wf t false) (hl : countLeaves t ≤ 24) : MOk P w K mg base CX0 2 (cMaybe K) "bits_of_nothing" (fun vs H Q _ => ∃ a, vs = [.ref a] ∧ KA K H (.maybe t) [a] ∧ Q (.int (ML.noBits (cod t) : Nat)) H) :=
  mkM T.cl_Maybe T.me_Maybe_bits_of_nothing T.d_Maybe_bits_of_nothing sc_Maybe_bits_of_nothing (fun vs H Q E h => by obtain ⟨a, rfl, _⟩ := h; rfl) (fun _ _ _ _ _ _ us hl => match us, hl with | [_], _ => rfl) fun cdv A outer s H vs Q E hr h => by
    obtain ⟨a, rfl, ⟨b, dx, i, sp, y, e, h1, h2, h3, h4⟩, kk⟩ := h
    cases e
    refine ⟨_, PSs.nox (pss_cons (ps_if (pt_val (pe_fld (pv 0) (by rfl))) (pss_one (ps_ret (by exact pe_int))) pss_nil)
      (pss_one (ps_ret (by exact (pe_mx (CX := CX0) hr pas0 (pe_fld (pe_fld (pv 0) (by rfl)) (by rfl)) (by exact (pa_cons pe_int pa_nil))))))), ?_⟩
    refine ⟨_, rfl, a, _, dx, _, _, rfl, h1, T.cl_Maybe, T.na_Maybe_tagged, rfl, _, rfl, ?_⟩
    unfold ML.noBits at kk
    by_cases c : (formOf t).niche.n = 0
    · rw [if_neg (show ¬ 0 < (cod t).nic.n by show ¬ 0 < (formOf t).niche.n; omega)] at kk
      exact iteC c kk
    · have c' : 0 < (cod t).nic.n := Nat.pos_of_ne_zero c
      rw [if_pos c'] at kk
      refine iteD c ?_
      obtain ⟨yi, ny, pt⟩ := h2.part T wt
      obtain ⟨C, dc, fs, si, g1, g2, g3, g4, ⟨dsi, g5⟩⟩ := pt.spare
      have ey : yi = (formOf t).niche := ny.2 c'
      have fit := ((ML.good_cod wt).1 rfl).fits c'
      have bs := bits_small wt hl
      have fit : (formOf t).niche.off + (formOf t).niche.w ≤ (formOf t).bits ∧ (formOf t).niche.first + (formOf t).niche.n ≤ Valaye.two (formOf t).niche.w := fit
      refine ⟨_, rfl, a, _, dx, _, _, rfl, h1, T.cl_Maybe, T.na_Maybe_inner, rfl, i, C, dc, fs, _, rfl, g1, g2, g3, g4, si, _, dsi, _, spBitsWith K, rfl, g5, rfl, ok_bits_with T, si, yi, 0, rfl, ⟨dsi, g5⟩, ?_, ?_, ?_⟩
      · rw [ey]
        rw [ML.two_eq] at fit
        have : (2 : Nat) ^ (formOf t).niche.w ≤ 2 ^ 528 := pow_mono (by omega)
        have h9 : (2 : Nat) ^ 528 < 2 ^ 1000 := Nat.pow_lt_pow_right (by decide) (by decide)
        omega
      · rw [ey]
        omega
      · rw [ey]
        exact kk
theorem Good.enc_small {t : Ty} (wt : wf t false) (hl : countLeaves t ≤ 24) {l r : List Int} (h : (cod t).eat l = some r) : ((cod t).enc l).1 < 2 ^ 528 := by
  have := (ML.good_cod wt).1 rfl |>.enc_lt h
  rw [ML.two_eq] at this
  exact Nat.lt_of_lt_of_le this (pow_mono (bits_small wt hl))
theorem natAbs_lt' {n k : Nat} (h : n < 2 ^ k) : (n : Int).natAbs < 2 ^ k := by
  rw [Int.natAbs_natCast]
  exact h
theorem may_bits (T : Txt K mg) {t : Ty} {k : Nat} (hk : 2 ≤ k) (wt : wf t false) (hl : countLeaves t ≤ 24) (ih : MOk P w K mg base (L2.CX P w) k (clsT K t) "bits_told" (spBT K t)) : MOk P w K mg base (L2.CX P w) (k + 1) (cMaybe K) "bits_told" (spBT K (.maybe t)) :=
  mkM T.cl_Maybe T.me_Maybe_bits_told T.d_Maybe_bits_told sc_Maybe_bits_told (fun vs H Q E h => by obtain ⟨a, cu, ns, i, rfl, _⟩ := h; rfl) (fun _ _ _ _ _ _ us hl => match us, hl with | [_, _], _ => rfl) fun cdv A outer s H vs Q E hr h => by
    obtain ⟨a, cu, ns, i, rfl, hka, hc, kq, ke⟩ := h
    obtain ⟨b, dx, ii, sp, y, e, h1, h2, h3, h4⟩ := id hka
    cases e
    obtain ⟨dc, fc, g1, g2⟩ := hc.ins
    obtain ⟨h1', hne⟩ := Wo.get h1
    have g := (ML.good_cod wt).1 rfl
    rw [ML.cod_may] at kq ke
    refine ⟨_, (pss_cons (ps_if (pt_cmpR op_eq (pe_mx (CX := L2.CX P w) (E := fun _ => E) hr (pasE (takes_of rfl rfl rfl rfl)) (pv 1) (by exact (pa_cons pe_int (pa_cons pe_int pa_nil)))) pe_int (nomark _)) (pss_one (ps_ret (by exact (pe_mx0 (CX := CX0) hr pas0 (pv 0))))) pss_nil)
      (pss_cons (ps_set (i := 2) sc_Maybe_bits_told.nd rfl (Or.inl rfl) (by exact (pe_mx (CX := L2.CX P w) (E := fun _ => E) hr (pasE (takes_of rfl rfl rfl rfl)) (pe_fld (pv 0) (by rfl)) (by exact (pa_cons (pv 1) pa_nil)))))
      (pss_cons (ps_if (pt_val (pe_fld (pv 0) (by rfl))) (pss_one (ps_ret (by exact (pe_op op_or (pe_op op_shlW (pv 2) pe_int) pe_int)))) pss_nil)
      (pss_one (ps_ret (by exact (pv 2))))))), ?_⟩
    refine ⟨_, rfl, cu, _, dc, fc, spDraw K, rfl, g1, g2, (ok_draw T).mono hk, cu, ns, i, 0, 1, rfl, hc, fun v hv v1 v2 H1 s1 c1 => ⟨rfl, _, rfl, ?_⟩, fun bad => ?_⟩
    · have hd := drop_some hv
      have ka1 : KA K (Wo cu H1) (.maybe t) [a] := hka.same s1.wo
      obtain ⟨dd, fd, l1, l2⟩ := (show ∃ dx fs, H1 a = some (.ins (cMaybe K) dx fs) ∧ fs.lookup ("bits_of_nothing" : Str) = none from ⟨dx, _, s1 _ _ h1' hne, rfl⟩)
      by_cases z : v = 0
      · subst z
        refine iteT ⟨_, rfl, a, _, dd, fd, _, rfl, l1, l2, (may_nothing T wt hl).mono hk, a, rfl, ka1.same (Wo.le _ _), ?_⟩
        have := kq (ns.drop (i + 1)) (by rw [hd]; rfl) H1 s1 (by rw [sub_drop (lt_of_get hv)]; exact c1)
        rw [hd] at this
        have this : Q (.int ((ML.encMay (cod t) (0 :: ns.drop (i + 1))).1 : Nat)) H1 := this
        rw [ML.enc_zero] at this
        exact this
      · have z1 : v = 1 := by omega
        subst z1
        refine iteF ?_
        obtain ⟨di, fi, i1, i2⟩ := (h2.same s1.wo).ins wt
        have i1 := (Wo.get i1).1
        refine ⟨_, rfl, a, _, dx, _, _, rfl, s1 _ _ h1' hne, T.cl_Maybe, T.na_Maybe_inner, rfl, ii, _, di, fi, _, rfl, i1, i2.m3, ih, _, rfl, ii, cu, ns, i + 1, rfl, h2.same s1.wo, c1, fun r hr' H2 s2 c2 => ?_, fun no H2 s2 => ?_⟩
        · have s3 := s1.trans s2
          refine ⟨_, rfl, a, _, dx, _, _, rfl, s3 _ _ h1' hne, T.cl_Maybe, T.na_Maybe_tagged, rfl, _, rfl, ?_⟩
          have := kq r (by rw [hd]; exact hr') H2 s3 c2
          rw [hd] at this
          have this : Q (.int ((ML.encMay (cod t) (1 :: ns.drop (i + 1))).1 : Nat)) H2 := this
          rw [ML.enc_one] at this
          by_cases c : (formOf t).niche.n = 0
          · rw [if_neg (show ¬ 0 < (cod t).nic.n by show ¬ 0 < (formOf t).niche.n; omega)] at this
            refine iteC c ⟨_, rfl, _, _, rfl, rfl, shl_ok (j := 1) (natAbs_lt' (Good.enc_small wt hl hr')) (by omega), _, _, rfl, rfl, ?_⟩
            show Q (.int (Builtin.bitOr ((((cod t).enc (ns.drop (i + 1))).1 : Nat) * 2 ^ 1) 1)) H2
            rw [or_low (k := 1) (by omega) (by omega) (by omega)]
            have this : Q (.int ((1 + 2 * ((cod t).enc (ns.drop (i + 1))).1 : Nat) : Int)) H2 := this
            rw [show ((1 + 2 * ((cod t).enc (ns.drop (i + 1))).1 : Nat) : Int) = (((cod t).enc (ns.drop (i + 1))).1 : Nat) * 2 ^ 1 + 1 by omega] at this
            exact this
          · rw [if_pos (show 0 < (cod t).nic.n from Nat.pos_of_ne_zero c)] at this
            exact iteD c ⟨_, rfl, this⟩
        · exact ke (by rw [hd]; exact no) H2 (s1.trans s2)
    · refine ke ?_ H (SameBut.refl _ _)
      rcases drop_cases ns i with ⟨h, e⟩ | ⟨v, h, e⟩
      · rw [e]
        rfl
      · rw [e]
        have := bad v h
        show (if v = 0 then some (ns.drop (i + 1)) else if v = 1 then (cod t).eat (ns.drop (i + 1)) else none) = none
        rw [if_neg (by omega), if_neg (by omega)]
/-! one -/
theorem one_beside (T : Txt K mg) {fs : Ty} (wt : wf (.one_ fs) false) (hl : countLeaves (.one_ fs) ≤ 24) : MOk P w K mg base CX0 2 (cOne K) "bits_beside_carrier" (fun vs H Q _ => ∃ (a : Addr) (b k : Nat) (c : Cod), vs = [.ref a, .int (k : Int)] ∧ KA K H (.one_ fs) [a] ∧ carrier ((rows fs).map cod) = some b ∧ ((rows fs).map cod)[b]? = some c ∧ k < rowLength fs ∧ k ≠ b ∧ Q (.int (Valaye.spareCode c.nic (ML.jOf b k) : Nat)) H) :=
  mkM T.cl_One T.me_One_bits_beside_carrier T.d_One_bits_beside_carrier sc_One_bits_beside_carrier (fun vs H Q E h => by obtain ⟨a, b, k, c, rfl, _⟩ := h; rfl) (fun _ _ _ _ _ _ us hl => match us, hl with | [_, _], _ => rfl) fun cdv A outer s H vs Q E hr h => by
    obtain ⟨a, b, k, c, rfl, ⟨a', dx, nl, al, sp, ias, y, e, h1, h2, h3, h4, h5, h6⟩, hb, hc, hk, hne, kk⟩ := h
    cases e
    obtain ⟨_, wr, w2, w4⟩ := wt
    rw [hb] at h1
    obtain ⟨c', q1, q2, q3, q4, q5, q6⟩ := ML.carrier_some hb
    rw [hc] at q1
    cases q1
    have cl : ((rows fs).map cod).length = rowLength fs := by rw [List.length_map, ML.rows_length]
    have hbl : b < rowLength fs := by
      rw [← cl]
      exact (List.getElem?_eq_some_iff.mp hc).1
    obtain ⟨len, get⟩ := h2.rows_at wr
    obtain ⟨u, hu, eu⟩ := map_get hc
    subst eu
    have hm := List.mem_of_getElem? hu
    have wu := wf_rows wr hm
    have hb2 : b < ias.length := by rw [len, ML.rows_length]; exact hbl
    have ha : ias[b]? = some ias[b] := List.getElem?_eq_getElem hb2
    generalize ias[b] = q at ha
    have ka := get b q u ha hu
    obtain ⟨yi, ny, pt⟩ := ka.part T wu
    obtain ⟨C, dc, gs, si, g1, g2, g3, g4, ⟨dsi, g5⟩⟩ := pt.spare
    rw [cl] at q3
    have ey : yi = (formOf u).niche := ny.2 (show 0 < (cod u).nic.n by omega)
    have fit := ((ML.good_cod wu).1 rfl).fits (show 0 < (cod u).nic.n by omega)
    have hl2 : countLeaves u ≤ 24 := by
      have := lv_rows hm
      have hl : 1 + countLeaves fs ≤ 24 := hl
      omega
    have bs := bits_small wu hl2
    have fit : (formOf u).niche.off + (formOf u).niche.w ≤ (formOf u).bits ∧ (formOf u).niche.first + (formOf u).niche.n ≤ Valaye.two (formOf u).niche.w := fit
    have hj := ML.jOf_lt hbl hk hne
    have hj : ML.jOf b k < rowLength fs - 1 := hj
    have q3 : rowLength fs - 1 ≤ (formOf u).niche.n := q3
    have sm : (formOf u).niche.first + ML.jOf b k < 2 ^ 1000 := by
      rw [ML.two_eq] at fit
      have : (2 : Nat) ^ (formOf u).niche.w ≤ 2 ^ 528 := pow_mono (by omega)
      have h9 : (2 : Nat) ^ 528 < 2 ^ 1000 := Nat.pow_lt_pow_right (by decide) (by decide)
      omega
    refine ⟨_, PSs.nox (pss_cons (ps_set (i := 2) sc_One_bits_beside_carrier.nd rfl (Or.inl rfl) (by exact (pe_fld (pe_ix ix_list (pe_fld (pv 0) (by rfl)) (pe_fld (pv 0) (by rfl)) (fun _ _ => rfl)) (by rfl))))
      (pss_cons (ps_if (pt_cmpR op_lt (pv 1) (pe_fld (pv 0) (by rfl)) (nomark _)) (pss_one (ps_ret (by exact (pe_mx (CX := CX0) hr pas0 (pv 2) (by exact (pa_cons (pv 1) pa_nil)))))) pss_nil)
      (pss_one (ps_ret (by exact (pe_mx (CX := CX0) hr pas0 (pv 2) (by exact (pa_cons (pe_op op_sub (pv 1) pe_int) pa_nil)))))))), ?_⟩
    refine ⟨_, rfl, a, _, dx, _, _, rfl, h1, T.cl_One, T.na_One_alternatives, rfl, _, rfl, a, _, dx, _, _, rfl, h1, T.cl_One, T.na_One_carrier, rfl, _, _, _, V.ref q, rfl, rfl, SqL.of h4, atI_nat (by rw [List.getElem?_map, ha]; rfl), q, C, dc, gs, _, rfl, g1, g2, g3, g4, ?_⟩
    refine ⟨_, rfl, _, rfl, a, _, dx, _, _, rfl, h1, T.cl_One, T.na_One_carrier, rfl, _, _, rfl, rfl, _, rfl, ?_⟩
    unfold ML.jOf at kk sm
    by_cases z : k < b
    · rw [if_pos z] at kk sm
      rw [decide_eq_true (show (k : Int) < (b : Int) by omega)]
      refine iteT ⟨_, rfl, si, _, dsi, _, spBitsWith K, rfl, g5, rfl, (ok_bits_with T).mono (by decide), _, rfl, si, yi, k, rfl, ⟨dsi, g5⟩, ?_, ?_, ?_⟩
      · rw [ey]
        exact sm
      · rw [ey]
        omega
      · rw [ey]
        exact kk
    · rw [if_neg z] at kk sm
      rw [decide_eq_false (show ¬ (k : Int) < (b : Int) by omega)]
      refine iteF ⟨_, rfl, si, _, dsi, _, spBitsWith K, rfl, g5, rfl, (ok_bits_with T).mono (by decide), _, rfl, _, _, rfl, rfl, si, yi, k - 1, ?_, ⟨dsi, g5⟩, ?_, ?_, ?_⟩
      · show [V.ref si, V.int ((k : Int) - 1)] = _
        rw [show (k : Int) - 1 = ((k - 1 : Nat) : Int) by omega]
      · rw [ey]
        exact sm
      · rw [ey]
        omega
      · rw [ey]
        exact kk
theorem one_bits (T : Txt K mg) {fs : Ty} {k : Nat} (hk : 2 ≤ k) (wt : wf (.one_ fs) false) (hl : countLeaves (.one_ fs) ≤ 24) (ih : ∀ u ∈ rows fs, MOk P w K mg base (L2.CX P w) k (clsT K u) "bits_told" (spBT K u)) : MOk P w K mg base (L2.CX P w) (k + 1) (cOne K) "bits_told" (spBT K (.one_ fs)) :=
  mkM T.cl_One T.me_One_bits_told T.d_One_bits_told sc_One_bits_told (fun vs H Q E h => by obtain ⟨a, cu, ns, i, rfl, _⟩ := h; rfl) (fun _ _ _ _ _ _ us hl => match us, hl with | [_, _], _ => rfl) fun cdv A outer s H vs Q E hr h => by
    obtain ⟨a, cu, ns, i, rfl, hka, hc, kq, ke⟩ := h
    obtain ⟨b, dx, nl, al, sp, ias, y, e, h1, h2, h3, h4, h5, h6⟩ := id hka
    cases e
    obtain ⟨_, wr, w2, w4⟩ := id wt
    obtain ⟨dc, fc, g1, g2⟩ := hc.ins
    obtain ⟨h1', hne⟩ := Wo.get h1
    obtain ⟨h4', ane⟩ := Wo.get h4
    obtain ⟨len, get⟩ := h2.rows_at wr
    have cl : ((rows fs).map cod).length = rowLength fs := by rw [List.length_map, ML.rows_length]
    have len2 : ias.length = rowLength fs := by rw [len, ML.rows_length]
    rw [ML.cod_one wr] at kq ke
    refine ⟨_, (pss_cons (ps_set (i := 2) sc_One_bits_told.nd rfl (Or.inl rfl) (by exact (pe_mx (CX := L2.CX P w) (E := fun _ => E) hr (pasE (takes_of rfl rfl rfl rfl)) (pv 1) (by exact (pa_cons pe_int (pa_cons (pe_op op_sub (pe_callB call_len (by rfl) T.f_len (by decide +kernel) (by exact (pa_cons (pe_fld (pv 0) (by rfl)) pa_nil))) pe_int) pa_nil))))))
      (pss_cons (ps_set (i := 3) sc_One_bits_told.nd rfl (Or.inl rfl) (by exact (pe_mx (CX := L2.CX P w) (E := fun _ => E) hr (pasE (takes_of rfl rfl rfl rfl)) (pe_ix ix_list (pe_fld (pv 0) (by rfl)) (pv 2) (fun _ _ => rfl)) (by exact (pa_cons (pv 1) pa_nil)))))
      (pss_cons (ps_if (pt_cmpR op_isN (pe_fld (pv 0) (by rfl)) pe_non (nomark _)) (pss_one (ps_ret (by exact (pe_op op_or (pe_op op_shlW (pv 3) (pe_fld (pv 0) (by rfl))) (pv 2))))) pss_nil)
      (pss_cons (ps_if (pt_cmpR op_eq (pv 2) (pe_fld (pv 0) (by rfl)) (nomark _)) (pss_one (ps_ret (by exact (pv 3)))) pss_nil)
      (pss_one (ps_ret (by exact (pe_mx (CX := CX0) hr pas0 (pv 0) (by exact (pa_cons (pv 2) pa_nil)))))))))), ?_⟩
    refine ⟨_, rfl, cu, _, dc, fc, spDraw K, rfl, g1, g2, (ok_draw T).mono hk, _, rfl, a, _, dx, _, _, rfl, h1', T.cl_One, T.na_One_alternatives, rfl, _, ias.length, rfl, .inl ⟨_, SqL.of h4', by rw [List.length_map]⟩, _, _, rfl, rfl, ?_⟩
    refine ⟨cu, ns, i, 0, (ias.length : Int) - 1, rfl, hc, fun v hv v1 v2 H1 s1 c1 => ?_, fun bad => ?_⟩
    · have hd := drop_some hv
      obtain ⟨n, rfl⟩ : ∃ n : Nat, v = (n : Int) := ⟨v.toNat, by omega⟩
      have hn : n < rowLength fs := by omega
      have hn2 : n < (rows fs).length := by rw [ML.rows_length]; exact hn
      have hu : (rows fs)[n]? = some (rows fs)[n] := List.getElem?_eq_getElem hn2
      generalize (rows fs)[n] = u at hu
      have hm := List.mem_of_getElem? hu
      have wu := wf_rows wr hm
      have hcu : ((rows fs).map cod)[n]? = some (cod u) := by rw [List.getElem?_map, hu]; rfl
      have ha : ias[n]? = some (ias[n]'(by omega)) := List.getElem?_eq_getElem _
      generalize ias[n]'(by omega) = q at ha
      have kau := (get n q u ha hu).same s1.wo
      obtain ⟨di, fi, i1, i2⟩ := kau.ins wu
      have i1 := (Wo.get i1).1
      have hl2 : countLeaves u ≤ 24 := by
        have := lv_rows hm
        have hl : 1 + countLeaves fs ≤ 24 := hl
        omega
      refine ⟨_, rfl, a, _, dx, _, _, rfl, s1 _ _ h1' hne, T.cl_One, T.na_One_alternatives, rfl, _, rfl, _, _, _, V.ref q, rfl, rfl, SqL.of (s1 _ _ h4' ane), atI_nat (by rw [List.getElem?_map, ha]; rfl), q, _, di, fi, _, rfl, i1, i2.m3, ih u hm, _, rfl, ?_⟩
      refine ⟨q, cu, ns, i + 1, rfl, kau, c1, fun r hr' H2 s2 c2 => ?_, fun no H2 s2 => ?_⟩
      · have s3 := s1.trans s2
        have ka3 : KA K (Wo cu H2) (.one_ fs) [a] := hka.same s3.wo
        have h1'' := s3 _ _ h1' hne
        refine ⟨_, rfl, a, _, dx, _, _, rfl, h1'', T.cl_One, T.na_One_carrier, rfl, rfl, _, rfl, ?_⟩
        have := kq r (by rw [hd]; exact (ML.eatOne_at hcu _).trans hr') H2 s3 c2
        rw [hd] at this
        have this : Q (.int ((ML.encOne ((rows fs).map cod) ((n : Int) :: ns.drop (i + 1))).1 : Nat)) H2 := this
        have es := Good.enc_small wu hl2 hr'
        cases hcar : carrier ((rows fs).map cod) with
        | none =>
          rw [ML.encOne_t hcar hcu, cl] at this
          have b3 := bits0_small w2 w4
          have hnb : n < 2 ^ bits0 (rowLength fs) := by
            have := ML.bits0_fits (n := rowLength fs) (Nat.le_trans w4 (by decide))
            rw [ML.two_eq] at this
            omega
          refine iteT ⟨_, rfl, _, rfl, a, _, dx, _, _, rfl, h1'', T.cl_One, T.na_One_tag, rfl, _, _, rfl, rfl, shl_ok (natAbs_lt' es) (by omega), _, rfl, _, _, rfl, rfl, ?_⟩
          show Q (.int (Builtin.bitOr ((((cod u).enc (ns.drop (i + 1))).1 : Nat) * 2 ^ ((bits0 (rowLength fs) : Nat) : Int).toNat) (n : Int))) H2
          rw [Int.toNat_natCast, or_low (by omega) (by omega) (by have := (Int.ofNat_lt).mpr hnb; simpa using this)]
          have e2 : (((cod u).enc (ns.drop (i + 1))).1 : Int) * 2 ^ bits0 (rowLength fs) + (n : Int) = ((n + Valaye.two (bits0 (rowLength fs)) * ((cod u).enc (ns.drop (i + 1))).1 : Nat) : Int) := by
            rw [ML.two_eq, Int.natCast_add, Int.natCast_mul, Int.add_comm, Int.mul_comm]
            simp
          rw [e2]
          exact this
        | some b =>
          obtain ⟨c, q1, q2, q3, q4, q5, q6⟩ := ML.carrier_some hcar
          rw [ML.encOne_s hcar q1 hcu] at this
          refine iteF ⟨_, rfl, _, rfl, a, _, dx, _, _, rfl, h1'', T.cl_One, T.na_One_carrier, by rw [hcar]; rfl, rfl, _, rfl, ?_⟩
          show if decide (V.int (n : Int) = V.int (b : Int)) = true then _ else _
          rw [dec_int]
          by_cases z : n = b
          · rw [if_pos z] at this
            exact iteC z ⟨_, rfl, this⟩
          · rw [if_neg z] at this
            exact iteD z ⟨_, rfl, a, _, dx, _, _, rfl, h1'', rfl, (one_beside T wt hl).mono hk, _, rfl, a, b, n, c, rfl, ka3.same (Wo.le _ _), hcar, q1, hn, z, this⟩
      · exact ke (by rw [hd]; exact (ML.eatOne_at hcu _).trans no) H2 (s1.trans s2)
    · refine ke ?_ H (SameBut.refl _ _)
      rcases drop_cases ns i with ⟨h, e⟩ | ⟨v, h, e⟩
      · rw [e]
        rfl
      · rw [e]
        have := bad v h
        exact if_neg fun z => this (by rw [cl, ← len2] at z; omega)
end
end LY
set_option Elab.async false
set_option linter.all false
set_option maxRecDepth 100000
set_option maxHeartbeats 4000000
set_option exponentiation.threshold 4000
namespace LY
open PySem PySem.Spec PyProof.Rows L2
open Valaye (Niche Form formOf better moved noNiche bits0 sharedBits maybeForm taken_)
open Valaya (Ty countLeaves rowLength countBy)
open ML (Cod cod rows wf frm carrier Good)
section
variable {P : Program} {w : World} {K : PySem.W.Frag} {mg : Str → Option Value} {base : Heap}
def rowAt (K : PySem.W.Frag) (C : Addr) (ts : List Ty) : Hp → Addr → Prop := fun H a => RowAt K H a C ts
theorem enc_row_lt : ∀ {cs : List Cod}, (∀ c ∈ cs, Good c) → ∀ {l r : List Int}, ML.eatRow cs l = some r → (ML.encRow cs l).1 < Valaye.two (ML.bitsRow cs) := fun g l r h => (ML.good_row g).enc_lt h
theorem row_bits (T : Txt K mg) {x : Str} (hx : RowC x) (cl : Cls K (He.ga K x)) (me : Meth K (He.ga K x) "bits_told" (He.ma K (He.ga K x) "bits_told")) {ts : List Ty} {k : Nat} (hw : ∀ u ∈ ts, wf u false) (hl : ∀ u ∈ ts, countLeaves u ≤ 24)
    (small : ML.bitsRow (ts.map cod) ≤ 528) (ih : ∀ u ∈ ts, MOk P w K mg base (L2.CX P w) k (clsT K u) "bits_told" (spBT K u)) :
    MOk P w K mg base (L2.CX P w) (k + 1) (He.ga K x) "bits_told" (spRead K (rowAt K (He.ga K x) ts) (ML.rowCod (ts.map cod)) fun l => ((ML.rowCod (ts.map cod)).enc l).1) :=
  mkRM T hx (by decide +kernel) cl me T.d_Row_bits_told sc_Row_bits_told (fun vs H Q E h => by obtain ⟨a, cu, ns, i, rfl, _⟩ := h; rfl) (fun _ _ _ _ _ _ us hl => match us, hl with | [_, _], _ => rfl) fun cdv A outer s H vs Q E hr h => by
    obtain ⟨a, cu, ns, i, rfl, hR, hc, kq, ke⟩ := h
    obtain ⟨dx, fs, pl, as, h1, h2, h3, h4, h5⟩ := id hR
    obtain ⟨h1', ane⟩ := Wo.get h1
    obtain ⟨h3', pne⟩ := Wo.get h3
    have gr : Good (ML.rowCod (ts.map cod)) := ML.good_row fun c hc => by
      obtain ⟨u, hu, rfl⟩ := List.mem_map.mp hc
      exact (ML.good_cod (hw u hu)).1 rfl
    refine ⟨_, (pss_cons (ps_set (i := 2) sc_Row_bits_told.nd rfl (Or.inl rfl) (by exact pe_int))
      (pss_cons (ps_set (i := 3) sc_Row_bits_told.nd rfl (Or.inl rfl) (by exact pe_int))
      (pss_cons (ps_for (passes_of rfl) rfl (pi_list (pe_fld (pv 0) (by rfl))) (pg_name (i := 4) sc_Row_bits_told.nd rfl (Or.inl rfl)) (pss_cons (ps_aug (i := 2) sc_Row_bits_told.nd rfl (.inl rfl) (pe_op op_shlW (pe_mx (CX := L2.CX P w) (E := fun _ => E) hr (pasE (takes_of rfl rfl rfl rfl)) (pv 4) (by exact (pa_cons (pv 1) pa_nil))) (pv 3)) ip_or)
      (pss_one (ps_aug (i := 3) sc_Row_bits_told.nd rfl (.inl rfl) (pe_fld (pv 4) (by rfl)) ip_add))))
      (pss_one (ps_ret (by exact (pv 2))))))), ?_⟩
    -- behind i parts: bits below 2 ^ offset; what is left of the parts on what is left of the numbers is what all are on all
    refine ⟨_, rfl, a, _, dx, fs, _, rfl, h1', cl, (row_cl T hx).n1, h2, pl, rfl, ⟨_, SqL.of h3'⟩, for_list (K := K) (a := pl) (xs := as.map V.ref) (fun j σ H' => ∃ (b o p : Nat) (v : Option V), σ = [some (.ref a), some (.ref cu), some (.int b), some (.int o), v] ∧ SameBut cu H H' ∧ CurAt K H' cu ns p ∧ b < 2 ^ o ∧ o + ML.bitsRow ((ts.drop j).map cod) = ML.bitsRow (ts.map cod) ∧
        ML.eatRow ((ts.drop j).map cod) (ns.drop p) = ML.eatRow (ts.map cod) (ns.drop i) ∧ ∀ r, ML.eatRow (ts.map cod) (ns.drop i) = some r → b + 2 ^ o * (ML.encRow ((ts.drop j).map cod) (ns.drop p)).1 = (ML.encRow (ts.map cod) (ns.drop i)).1)
      ⟨0, 0, i, none, rfl, SameBut.refl _ _, hc, by decide, Nat.zero_add _, rfl, fun r _ => by
        show 0 + 2 ^ 0 * (ML.encRow (ts.map cod) (ns.drop i)).1 = _
        omega⟩ (fun j σ H' _ ⟨_, _, _, _, _, s5, _⟩ => SqL.of (s5 _ _ h3' pne)) ?_ ?_⟩
    · rintro j y σ H' hj ⟨b, o, p, v, rfl, s5, c5, lt5, of5, ea5, en5⟩
      obtain ⟨q, hq, rfl⟩ := map_get hj
      have hlt : j < ts.length := by rw [← h4]; exact (List.getElem?_eq_some_iff.mp hq).1
      have hu : ts[j]? = some ts[j] := List.getElem?_eq_getElem hlt
      generalize ts[j] = u at hu
      have hm := List.mem_of_getElem? hu
      have gu := (ML.good_cod (hw u hm)).1 rfl
      have ka := (h5 j q u hq hu).same s5.wo
      obtain ⟨db, fb, g1, g2⟩ := ka.ins (hw u hm)
      have g1 := (Wo.get g1).1
      rw [drop_some hu] at of5 ea5 en5
      have of5 : o + ((formOf u).bits + ML.bitsRow ((ts.drop (j + 1)).map cod)) = ML.bitsRow (ts.map cod) := of5
      have ea5 : ((cod u).eat (ns.drop p)).bind (ML.eatRow ((ts.drop (j + 1)).map cod)) = ML.eatRow (ts.map cod) (ns.drop i) := ea5
      refine ⟨_, rfl, _, rfl, q, _, db, fb, _, rfl, g1, g2.m3, ih u hm, _, rfl, q, cu, ns, p, rfl, ka, c5, fun r hr' H2 s2 c2 => ?_, fun no H2 s2 => ?_⟩
      · have s3 := s5.trans s2
        have es := Good.enc_small (hw u hm) (hl u hm) hr'
        obtain ⟨sl, sd⟩ := gu.suffix hr'
        obtain ⟨y', ny, pt⟩ := ((h5 j q u hq hu).same s3.wo).part T (hw u hm)
        obtain ⟨C, dc, gs, p1, p2, p3, p4⟩ := pt.bits
        have p1 := (Wo.get p1).1
        rw [hr'] at ea5
        have ea5 : ML.eatRow ((ts.drop (j + 1)).map cod) r = ML.eatRow (ts.map cod) (ns.drop i) := ea5
        refine ⟨_, rfl, _, _, rfl, rfl, shl_ok (natAbs_lt' es) (by omega), _, _, rfl, rfl, ?_⟩
        refine ⟨_, rfl, _, rfl, q, C, dc, gs, _, rfl, p1, p2, p3, p4, _, _, rfl, rfl, ?_⟩
        refine ⟨b + 2 ^ o * ((cod u).enc (ns.drop p)).1, o + (formOf u).bits, ns.length - r.length, some (.ref q), ?_, s3, c2, ?_, by omega, by rw [sd]; exact ea5, fun r' h' => ?_⟩
        · show [some (V.ref a), some (V.ref cu), some (V.int (Builtin.bitOr (b : Int) ((((cod u).enc (ns.drop p)).1 : Nat) * 2 ^ ((o : Nat) : Int).toNat))), some (V.int ((o : Int) + (((formOf u).bits : Nat) : Int))), some (V.ref q)] = _
          rw [Int.toNat_natCast, or_apart lt5, ← Int.natCast_add]
        · have := gu.enc_lt hr'
          rw [ML.two_eq] at this
          have this : ((cod u).enc (ns.drop p)).1 < 2 ^ (formOf u).bits := this
          rw [Nat.pow_add]
          have h9 : 2 ^ o * (((cod u).enc (ns.drop p)).1 + 1) ≤ 2 ^ o * 2 ^ (formOf u).bits := Nat.mul_le_mul_left _ this
          rw [Nat.mul_add, Nat.mul_one] at h9
          omega
        · have := en5 r' h'
          have this : b + 2 ^ o * (((cod u).enc (ns.drop p)).1 + Valaye.two (formOf u).bits * (ML.encRow ((ts.drop (j + 1)).map cod) ((cod u).enc (ns.drop p)).2).1) = _ := this
          rw [gu.enc_rest hr', ML.two_eq] at this
          rw [sd, ← this, Nat.pow_add, Nat.mul_add, Nat.mul_assoc, Nat.add_assoc]
      · rw [no] at ea5
        exact ke ea5.symm H2 (s5.trans s2)
    · rintro σ H' ⟨b, o, p, v, rfl, s5, c5, lt5, of5, ea5, en5⟩
      rw [List.length_map, h4, List.drop_length] at ea5 en5
      have ea5 : some (ns.drop p) = ML.eatRow (ts.map cod) (ns.drop i) := ea5
      have e : b = (ML.encRow (ts.map cod) (ns.drop i)).1 := by
        have := en5 _ ea5.symm
        have this : b + 2 ^ o * 0 = _ := this
        omega
      have hp : p ≤ ns.length := by obtain ⟨_, _, _, _, z⟩ := c5; exact z
      subst e
      exact ⟨_, rfl, kq _ ea5.symm H' s5 (by rw [sub_drop hp]; exact c5)⟩
theorem all_bits (T : Txt K mg) : ∀ {t : Ty} {row : Bool}, wf t row → countLeaves t ≤ 24 → (row = false → MOk P w K mg base (L2.CX P w) (dp t + 2) (clsT K t) "bits_told" (spBT K t)) ∧ (row = true → ∀ u ∈ rows t, MOk P w K mg base (L2.CX P w) (dp t + 2) (clsT K u) "bits_told" (spBT K u))
  | .num lo hi al, row, wt, _ => by
    obtain rfl := wt.1
    exact ⟨fun _ => num_bits T wt, fun z => (nomatch z)⟩
  | .maybe t, row, wt, hl => by
    obtain rfl := wt.1
    have hl : 1 + countLeaves t ≤ 24 := hl
    exact ⟨fun _ => may_bits T (k := dp t + 2) (by omega) wt.2 (by omega) ((all_bits T wt.2 (by omega)).1 rfl), fun z => (nomatch z)⟩
  | .many n t, row, wt, hl => by
    have wt' := wt
    obtain ⟨rfl, w1, w2, w3⟩ := wt
    have hl' : n * countLeaves t ≤ 24 := hl
    have hl2 : countLeaves t ≤ 24 := Nat.le_trans (Nat.le_mul_of_pos_left _ w1) hl'
    refine ⟨fun _ => ?_, fun z => (nomatch z)⟩
    have bs := bits_small wt' hl
    have eb : (formOf (.many n t)).bits = ML.bitsRow ((List.replicate n t).map cod) := by rw [List.map_replicate]; exact congrArg Form.bits (ML.form_many t n)
    rw [eb] at bs
    have ec : cod (.many n t) = ML.rowCod ((List.replicate n t).map cod) := by rw [List.map_replicate]; exact ML.cod_many n t
    refine (row_bits T (x := "Many") (ts := List.replicate n t) rowc_many T.cl_Many T.me_Many_bits_told (fun u hu => by rw [(List.mem_replicate.mp hu).2]; exact w3) (fun u hu => by rw [(List.mem_replicate.mp hu).2]; exact hl2) bs
      fun u hu => by rw [(List.mem_replicate.mp hu).2]; exact (all_bits T w3 hl2).1 rfl).imp fun vs H Q E h => ?_
    obtain ⟨a, cu, ns, i, e, ka, r⟩ := h
    rw [ec] at r
    exact ⟨a, cu, ns, i, e, KA.many_row ka, r⟩
  | .rec_ fs, row, wt, hl => by
    have wt' := wt
    obtain ⟨rfl, w1⟩ := wt
    have hl' : countLeaves fs ≤ 24 := hl
    refine ⟨fun _ => ?_, fun z => (nomatch z)⟩
    have bs := bits_small wt' hl
    rw [form_rec w1] at bs
    have ec := ML.cod_rec w1
    refine (row_bits T (x := "Record") (ts := rows fs) rowc_rec T.cl_Record T.me_Record_bits_told (fun u hu => wf_rows w1 hu) (fun u hu => Nat.le_trans (lv_rows hu) hl') bs
      fun u hu => (all_bits T w1 hl').2 rfl u hu).imp fun vs H Q E h => ?_
    obtain ⟨a, cu, ns, i, e, ka, r⟩ := h
    rw [ec] at r
    exact ⟨a, cu, ns, i, e, KA.rec_row w1 ka, r⟩
  | .named x t, row, wt, hl => by
    obtain ⟨rfl, _, w1⟩ := wt
    refine ⟨fun _ => ((all_bits T w1 hl).1 rfl).imp fun vs H Q E h => ?_, fun z => (nomatch z)⟩
    obtain ⟨a, cu, ns, i, e, ka, r⟩ := h
    rw [ML.cod_named] at r
    exact ⟨a, cu, ns, i, e, ka.1, r⟩
  | .one_ fs, row, wt, hl => by
    have wt' := wt
    obtain ⟨rfl, w1, w2, w3⟩ := wt
    have hl' : 1 + countLeaves fs ≤ 24 := hl
    exact ⟨fun _ => one_bits T (k := dp fs + 2) (by omega) wt' hl fun u hu => (all_bits T w1 (by omega)).2 rfl u hu, fun z => (nomatch z)⟩
  | .nil, row, wt, _ => by
    have wt : row = true := wt
    subst wt
    exact ⟨fun z => (nomatch z), fun _ u hu => by cases hu⟩
  | .field x h t r, row, wt, hl => by
    obtain ⟨rfl, w1, w2⟩ := wt
    have hl : countLeaves t + countLeaves r ≤ 24 := hl
    have i1 := (all_bits T w1 (by omega)).1 rfl
    have i2 := (all_bits T w2 (by omega)).2 rfl
    refine ⟨fun z => (nomatch z), fun _ u hu => ?_⟩
    rcases List.mem_cons.mp hu with e | hu
    · rw [e]
      exact i1.mono (Nat.add_le_add_right (Nat.le_max_left _ _) 2)
    · exact (i2 u hu).mono (Nat.add_le_add_right (Nat.le_max_right _ _) 2)
end
end LY
set_option Elab.async false
set_option linter.all false
set_option maxRecDepth 100000
set_option maxHeartbeats 4000000
set_option exponentiation.threshold 4000
namespace LY
open PySem PySem.Spec PyProof.Rows L2
open Valaye (Niche Form formOf better moved noNiche bits0 sharedBits maybeForm taken_)
open Valaya (Ty countLeaves rowLength countBy)
open ML (Cod cod rows wf frm carrier Good)
section
variable {P : Program} {w : World} {K : PySem.W.Frag} {mg : Str → Option Value} {base : Heap}
/-! ### a value's number -/
abbrev s_Number_number_told : Stmt := inClass (top 12) 4
abbrev n_Number_number_told : List Str := ["self", "cursor"]
theorem sc_Number_number_told : FnScope n_Number_number_told ["self", "cursor"] (defScope s_Number_number_told) := ⟨rfl, rfl, rfl, by decide +kernel, rfl, by decide +kernel, by decide +kernel⟩
abbrev s_Maybe_number_told : Stmt := inClass (top 13) 5
abbrev n_Maybe_number_told : List Str := ["self", "cursor"]
theorem sc_Maybe_number_told : FnScope n_Maybe_number_told ["self", "cursor"] (defScope s_Maybe_number_told) := ⟨rfl, rfl, rfl, by decide +kernel, rfl, by decide +kernel, by decide +kernel⟩
abbrev s_One_number_told : Stmt := inClass (top 14) 5
abbrev n_One_number_told : List Str := ["self", "cursor", "number", "before", "inner"]
theorem sc_One_number_told : FnScope n_One_number_told ["self", "cursor"] (defScope s_One_number_told) := ⟨rfl, rfl, rfl, by decide +kernel, rfl, by decide +kernel, by decide +kernel⟩
abbrev s_Row_number_told : Stmt := inClass (top 16) 3
abbrev n_Row_number_told : List Str := ["self", "cursor", "number", "part"]
theorem sc_Row_number_told : FnScope n_Row_number_told ["self", "cursor"] (defScope s_Row_number_told) := ⟨rfl, rfl, rfl, by decide +kernel, rfl, by decide +kernel, by decide +kernel⟩

def spNT (K : PySem.W.Frag) (t : Ty) : Sp := spRead K (atT K t) (cod t) fun l => ((cod t).idx l).1
theorem num_number (T : Txt K mg) {lo hi : Int} {al : Nat} (wt : wf (.num lo hi al) false) : MOk P w K mg base (L2.CX P w) 4 (cNumber K) "number_told" (spNT K (.num lo hi al)) :=
  mkM T.cl_Number T.me_Number_number_told T.d_Number_number_told sc_Number_number_told (fun vs H Q E h => by obtain ⟨a, cu, ns, i, rfl, _⟩ := h; rfl) (fun _ _ _ _ _ _ us hl => match us, hl with | [_, _], _ => rfl) fun cdv A outer s H vs Q E hr h => by
    obtain ⟨a, cu, ns, i, rfl, hka, hc, kq, ke⟩ := h
    obtain ⟨di, fi, i1, i2⟩ := KA.ins wt hka
    have i1 := (Wo.get i1).1
    rw [ML.cod_num] at kq ke
    refine ⟨_, (pss_one (ps_ret (by exact (pe_mx (CX := L2.CX P w) (E := fun _ => E) hr (pasE (takes_of rfl rfl rfl rfl)) (pv 0) (by exact (pa_cons (pv 1) pa_nil)))))), ?_⟩
    refine ⟨_, rfl, a, _, di, fi, _, rfl, i1, i2.m3, num_bits T wt, _, rfl, a, cu, ns, i, rfl, hka, hc, ?_, ?_⟩
    · rw [ML.cod_num]
      exact kq
    · rw [ML.cod_num]
      exact ke
theorem may_number (T : Txt K mg) {t : Ty} {k : Nat} (hk : 2 ≤ k) (wt : wf t false) (ih : MOk P w K mg base (L2.CX P w) k (clsT K t) "number_told" (spNT K t)) : MOk P w K mg base (L2.CX P w) (k + 1) (cMaybe K) "number_told" (spNT K (.maybe t)) :=
  mkM T.cl_Maybe T.me_Maybe_number_told T.d_Maybe_number_told sc_Maybe_number_told (fun vs H Q E h => by obtain ⟨a, cu, ns, i, rfl, _⟩ := h; rfl) (fun _ _ _ _ _ _ us hl => match us, hl with | [_, _], _ => rfl) fun cdv A outer s H vs Q E hr h => by
    obtain ⟨a, cu, ns, i, rfl, hka, hc, kq, ke⟩ := h
    obtain ⟨b, dx, ii, sp, y, e, h1, h2, h3, h4⟩ := id hka
    cases e
    obtain ⟨dc, fc, g1, g2⟩ := hc.ins
    obtain ⟨h1', hne⟩ := Wo.get h1
    have g := (ML.good_cod wt).1 rfl
    rw [ML.cod_may] at kq ke
    refine ⟨_, (pss_cons (ps_if (pt_cmpR op_eq (pe_mx (CX := L2.CX P w) (E := fun _ => E) hr (pasE (takes_of rfl rfl rfl rfl)) (pv 1) (by exact (pa_cons pe_int (pa_cons pe_int pa_nil)))) pe_int (nomark _)) (pss_one (ps_ret (by exact pe_int))) pss_nil)
      (pss_one (ps_ret (by exact (pe_op op_add pe_int (pe_mx (CX := L2.CX P w) (E := fun _ => E) hr (pasE (takes_of rfl rfl rfl rfl)) (pe_fld (pv 0) (by rfl)) (by exact (pa_cons (pv 1) pa_nil)))))))), ?_⟩
    refine ⟨_, rfl, cu, _, dc, fc, spDraw K, rfl, g1, g2, (ok_draw T).mono hk, cu, ns, i, 0, 1, rfl, hc, fun v hv v1 v2 H1 s1 c1 => ⟨rfl, _, rfl, ?_⟩, fun bad => ?_⟩
    · have hd := drop_some hv
      by_cases z : v = 0
      · subst z
        refine iteT ?_
        have := kq (ns.drop (i + 1)) (by rw [hd]; rfl) H1 s1 (by rw [sub_drop (lt_of_get hv)]; exact c1)
        rw [hd] at this
        exact this
      · have z1 : v = 1 := by omega
        subst z1
        refine iteF ?_
        obtain ⟨di, fi, i1, i2⟩ := (h2.same s1.wo).ins wt
        have i1 := (Wo.get i1).1
        refine ⟨_, rfl, a, _, dx, _, _, rfl, s1 _ _ h1' hne, T.cl_Maybe, T.na_Maybe_inner, rfl, ii, _, di, fi, _, rfl, i1, i2.m4, ih, _, rfl, ii, cu, ns, i + 1, rfl, h2.same s1.wo, c1, fun r hr' H2 s2 c2 => ?_, fun no H2 s2 => ?_⟩
        · refine ⟨_, _, rfl, rfl, ?_⟩
          have := kq r (by rw [hd]; exact hr') H2 (s1.trans s2) c2
          rw [hd] at this
          have this : Q (.int ((((cod t).idx (ns.drop (i + 1))).1 + 1 : Nat) : Int)) H2 := this
          rw [Nat.add_comm, ← one_add] at this
          exact this
        · exact ke (by rw [hd]; exact no) H2 (s1.trans s2)
    · refine ke ?_ H (SameBut.refl _ _)
      rcases drop_cases ns i with ⟨h, e⟩ | ⟨v, h, e⟩
      · rw [e]
        rfl
      · rw [e]
        have := bad v h
        show (if v = 0 then some (ns.drop (i + 1)) else if v = 1 then (cod t).eat (ns.drop (i + 1)) else none) = none
        rw [if_neg (by omega), if_neg (by omega)]
/-- [x.how_many() for x in ..] over kinds -/
theorem lc_how (T : Txt K mg) {k i : Nat} {σ : L2.St} {H : Hp} {l D : Addr} {as : List Addr} {ts : List Ty} {Qd : Hp → Prop} (hD : H D = none) (hS : SqL K H l (as.map V.ref)) (hlen : as.length = ts.length) (small : as.length ≤ 8) (hw : ∀ u ∈ ts, wf u false)
    (ih : ∀ u ∈ ts, MOk P w K mg base CX0 k (clsT K u) "how_many" (spHow K u)) (ka : ∀ (j : Nat) (a : Addr) (u : Ty), as[j]? = some a → ts[j]? = some u → KA K H u [a])
    (hget : ∀ x : V, ((wipe σ [i]).set i (some x))[i]? = some (some x)) (hwipe : ∀ x : V, wipe ((wipe σ [i]).set i (some x)) [i] = wipe σ [i])
    (kk : ∀ H', Same H H' → H' D = some (.lst ((ts.map fun u => ((countBy u false : Nat) : Int)).map V.int)) → Qd H') :
    LcL K l (gName i) tYes (tMx P w K mg base CX0 k "how_many" (fun _ => E0) (tVar i) tNil) [i] σ H D Qd := by
  refine lc_list (K := K) (a := l) (xs := as.map V.ref) (fun j H' => Same H H' ∧ H' D = some (.lst (((ts.take j).map fun u => ((countBy u false : Nat) : Int)).map V.int))) ⟨same_new hD, upd_same⟩ (fun _ _ _ ⟨s, _⟩ => s.seq hS) ?_ ?_
  · rintro j x H' hx ⟨s1, d1⟩
    obtain ⟨c, hc, rfl⟩ := map_get hx
    have hj : j < ts.length := by rw [← hlen]; exact (List.getElem?_eq_some_iff.mp hc).1
    have hu : ts[j]? = some ts[j] := List.getElem?_eq_getElem hj
    generalize ts[j] = u at hu
    have hm := List.mem_of_getElem? hu
    have kau := (ka j c u hc hu).same s1
    obtain ⟨dc, fc, g1, g2⟩ := kau.ins (hw u hm)
    refine ⟨hwipe _, yes ?_⟩
    refine ⟨_, hget _, c, _, dc, fc, _, rfl, g1, g2.m1, ih u hm, c, rfl, kau, fun H2 s2 => ⟨_, s2 _ _ d1, ?_, fun q o e => ?_, ?_⟩⟩
    · rw [List.length_map, List.length_map, List.length_take]
      exact small1000 (by omega)
    · rw [upd_ne (ne_of_none e hD)]
      exact s2 _ _ (s1 q o e)
    · rw [upd_same, List.take_succ, hu, List.map_append, List.map_append]
      rfl
  · rintro H' ⟨s1, d1⟩
    rw [List.length_map, hlen, List.take_length] at d1
    exact kk H' s1 d1
theorem sum_cnt : ∀ l : List Ty, (l.map fun u => ((countBy u false : Nat) : Int)).sum = ((ML.cntOne (l.map cod) : Nat) : Int)
  | [] => rfl
  | u :: l => by
    rw [List.map_cons, List.sum_cons, sum_cnt l]
    show _ = ((countBy u false + ML.cntOne (l.map cod) : Nat) : Int)
    omega
theorem cut_to (xs : List V) {n : Nat} (h : n ≤ xs.length) : cutV xs none (some (n : Int)) = xs.take n := by
  unfold cutV
  show (xs.drop 0).take (HT.sIx xs.length xs.length (some (n : Int)) - 0) = _
  have e : HT.sIx xs.length xs.length (some (n : Int)) = n := by
    unfold HT.sIx
    dsimp only
    repeat (first | rw [if_pos (by omega)] | rw [if_neg (by omega)])
    all_goals omega
  rw [e]
  rfl
theorem one_number (T : Txt K mg) {fs : Ty} {k : Nat} (hk : 2 ≤ k) (wt : wf (.one_ fs) false) (hl : countLeaves (.one_ fs) ≤ 24) (ihc : ∀ u ∈ rows fs, MOk P w K mg base CX0 k (clsT K u) "how_many" (spHow K u)) (ih : ∀ u ∈ rows fs, MOk P w K mg base (L2.CX P w) k (clsT K u) "number_told" (spNT K u)) :
    MOk P w K mg base (L2.CX P w) (k + 1) (cOne K) "number_told" (spNT K (.one_ fs)) :=
  mkM T.cl_One T.me_One_number_told T.d_One_number_told sc_One_number_told (fun vs H Q E h => by obtain ⟨a, cu, ns, i, rfl, _⟩ := h; rfl) (fun _ _ _ _ _ _ us hl => match us, hl with | [_, _], _ => rfl) fun cdv A outer s H vs Q E hr h => by
    obtain ⟨a, cu, ns, i, rfl, hka, hc, kq, ke⟩ := h
    obtain ⟨b, dx, nl, al, sp, ias, y, e, h1, h2, h3, h4, h5, h6⟩ := id hka
    cases e
    obtain ⟨_, wr, w2, w4⟩ := id wt
    obtain ⟨dc, fc, g1, g2⟩ := hc.ins
    obtain ⟨h1', hne⟩ := Wo.get h1
    obtain ⟨h4', ane⟩ := Wo.get h4
    obtain ⟨len, get⟩ := h2.rows_at wr
    have cl : ((rows fs).map cod).length = rowLength fs := by rw [List.length_map, ML.rows_length]
    have len2 : ias.length = rowLength fs := by rw [len, ML.rows_length]
    rw [ML.cod_one wr] at kq ke
    refine ⟨_, (pss_cons (ps_set (i := 2) sc_One_number_told.nd rfl (Or.inl rfl) (by exact (pe_mx (CX := L2.CX P w) (E := fun _ => E) hr (pasE (takes_of rfl rfl rfl rfl)) (pv 1) (by exact (pa_cons pe_int (pa_cons (pe_op op_sub (pe_callB call_len (by rfl) T.f_len (by decide +kernel) (by exact (pa_cons (pe_fld (pv 0) (by rfl)) pa_nil))) pe_int) pa_nil))))))
      (pss_cons (ps_set (i := 3) sc_One_number_told.nd rfl (Or.inl rfl) (by exact (pe_callB (cr_sum rfl) (by rfl) T.f_sum (by decide +kernel) (by exact (pa_cons (pe_lc (own := [("inner", 4)]) (g := gName 4) (tt := tYes) (te := (tMx P w K mg base CX0 _ "how_many" (fun _ => E0) (tVar 4) tNil)) rfl sc_One_number_told.nd (pi_list (pe_slice sl_list (pe_fld (pv 0) (by rfl)) po_none (po_some (pv 2)))) (blkOk_by (own := [("inner", 4)]) (N := n_One_number_told) (sc := defScope s_One_number_told) (by decide +kernel)) (fun _ _ _ _ _ => by exact (pg_name (i := 4) sc_One_number_told.nd rfl (Or.inl rfl))) (fun _ _ _ _ _ => pts_nil) (fun _ _ _ _ _ => by exact (pe_mx0 (CX := CX0) hr pas0 (pv 4)))) pa_nil)))))
      (pss_one (ps_ret (by exact (pe_op op_add (pv 3) (pe_mx (CX := L2.CX P w) (E := fun _ => E) hr (pasE (takes_of rfl rfl rfl rfl)) (pe_ix ix_list (pe_fld (pv 0) (by rfl)) (pv 2) (fun _ _ => rfl)) (by exact (pa_cons (pv 1) pa_nil))))))))), ?_⟩
    refine ⟨_, rfl, cu, _, dc, fc, spDraw K, rfl, g1, g2, (ok_draw T).mono hk, _, rfl, a, _, dx, _, _, rfl, h1', T.cl_One, T.na_One_alternatives, rfl, _, ias.length, rfl, .inl ⟨_, SqL.of h4', by rw [List.length_map]⟩, _, _, rfl, rfl, ?_⟩
    refine ⟨cu, ns, i, 0, (ias.length : Int) - 1, rfl, hc, fun v hv v1 v2 H1 s1 c1 => ?_, fun bad => ?_⟩
    · have hd := drop_some hv
      obtain ⟨n, rfl⟩ : ∃ n : Nat, v = (n : Int) := ⟨v.toNat, by omega⟩
      have hn : n < rowLength fs := by omega
      have hn2 : n < (rows fs).length := by rw [ML.rows_length]; exact hn
      have hu : (rows fs)[n]? = some (rows fs)[n] := List.getElem?_eq_getElem hn2
      generalize (rows fs)[n] = u at hu
      have hm := List.mem_of_getElem? hu
      have wu := wf_rows wr hm
      have hcu : ((rows fs).map cod)[n]? = some (cod u) := by rw [List.getElem?_map, hu]; rfl
      have ha : ias[n]? = some (ias[n]'(by omega)) := List.getElem?_eq_getElem _
      generalize ias[n]'(by omega) = q at ha
      have c1' := c1
      obtain ⟨dcu, lcu, u1, u2, u3⟩ := c1'
      refine ⟨_, rfl, a, _, dx, _, _, rfl, s1 _ _ h1' hne, T.cl_One, T.na_One_alternatives, rfl, _, rfl, _, rfl, al, _, rfl, SqL.of (s1 _ _ h4' ane), fun L nL => ⟨L, rfl, ⟨_, SqL.of upd_same⟩, ?_⟩⟩
      rw [cut_to (ias.map V.ref) (n := n) (by rw [List.length_map]; omega), ← List.map_take]
      have sL : Same H1 (upd H1 L (.lst ((ias.take n).map V.ref))) := same_new nL
      refine fun D nD => lc_how T (i := 4) (as := ias.take n) (ts := (rows fs).take n) nD (SqL.of upd_same) (by rw [List.length_take, List.length_take, len]) (by rw [List.length_take]; omega) (fun u hu => wf_rows wr (List.mem_of_mem_take hu)) (fun u hu => ihc u (List.mem_of_mem_take hu)) (fun j b u q1 q2 => ?_) (fun _ => rfl) (fun _ => rfl) fun H2 s2 d2 => ?_
      · have q1 : ias[j]? = some b := by
          rw [List.getElem?_take] at q1
          split at q1
          · exact q1
          · cases q1
        have q2 : (rows fs)[j]? = some u := by
          rw [List.getElem?_take] at q2
          split at q2
          · exact q2
          · cases q2
        exact ((get j b u q1 q2).same s1.wo).same ((Wo.le _ _).trans sL)
      · have s3 : SameBut cu H H2 := s1.trans (Same.but (sL.trans s2))
        have c2 : CurAt K H2 cu ns (i + 1) := ⟨dcu, lcu, s2 _ _ (sL _ _ u1), s2.seq (sL.seq u2), u3⟩
        have kau := (get n q u ha hu).same s3.wo
        obtain ⟨di, fi, i1, i2⟩ := kau.ins wu
        have i1 := (Wo.get i1).1
        refine ⟨D, _, rfl, SqL.of d2, _, rfl, ?_⟩
        refine ⟨_, rfl, a, _, dx, _, _, rfl, s3 _ _ h1' hne, T.cl_One, T.na_One_alternatives, rfl, _, rfl, _, _, _, V.ref q, rfl, rfl, SqL.of (s3 _ _ h4' ane), atI_nat (by rw [List.getElem?_map, ha]; rfl), q, _, di, fi, _, rfl, i1, i2.m4, ih u hm, _, rfl, ?_⟩
        refine ⟨q, cu, ns, i + 1, rfl, kau, c2, fun r hr' H3 s4 c3 => ⟨_, _, rfl, rfl, ?_⟩, fun no H3 s4 => ?_⟩
        · have := kq r (by rw [hd]; exact (ML.eatOne_at hcu _).trans hr') H3 (s3.trans s4) c3
          rw [hd] at this
          have this : Q (.int ((ML.idxAlt ((rows fs).map cod) ((n : Int)).toNat (ns.drop (i + 1))).1 : Nat)) H3 := this
          rw [Int.toNat_natCast, ML.idxAlt_at hcu, ← List.map_take] at this
          rw [sum_cnt]
          have this : Q (.int ((ML.cntOne (((rows fs).take n).map cod) + ((cod u).idx (ns.drop (i + 1))).1 : Nat) : Int)) H3 := this
          rw [Int.natCast_add] at this
          exact this
        · exact ke (by rw [hd]; exact (ML.eatOne_at hcu _).trans no) H3 (s3.trans s4)
    · refine ke ?_ H (SameBut.refl _ _)
      rcases drop_cases ns i with ⟨h, e⟩ | ⟨v, h, e⟩
      · rw [e]
        rfl
      · rw [e]
        have := bad v h
        exact if_neg fun z => this (by rw [cl, ← len2] at z; omega)
theorem row_number (T : Txt K mg) {x : Str} (hx : RowC x) (cl : Cls K (He.ga K x)) (me : Meth K (He.ga K x) "number_told" (He.ma K (He.ga K x) "number_told")) {ts : List Ty} {k : Nat} (hw : ∀ u ∈ ts, wf u false) (hl : ∀ u ∈ ts, countLeaves u ≤ 24)
    (small : ML.cntRow (ts.map cod) ≤ 2 ^ 528) (ihc : ∀ u ∈ ts, MOk P w K mg base CX0 k (clsT K u) "how_many" (spHow K u)) (ih : ∀ u ∈ ts, MOk P w K mg base (L2.CX P w) k (clsT K u) "number_told" (spNT K u)) :
    MOk P w K mg base (L2.CX P w) (k + 1) (He.ga K x) "number_told" (spRead K (rowAt K (He.ga K x) ts) (ML.rowCod (ts.map cod)) fun l => ((ML.rowCod (ts.map cod)).idx l).1) :=
  mkRM T hx (by decide +kernel) cl me T.d_Row_number_told sc_Row_number_told (fun vs H Q E h => by obtain ⟨a, cu, ns, i, rfl, _⟩ := h; rfl) (fun _ _ _ _ _ _ us hl => match us, hl with | [_, _], _ => rfl) fun cdv A outer s H vs Q E hr h => by
    obtain ⟨a, cu, ns, i, rfl, hR, hc, kq, ke⟩ := h
    obtain ⟨dx, fs, pl, as, h1, h2, h3, h4, h5⟩ := id hR
    obtain ⟨h1', ane⟩ := Wo.get h1
    obtain ⟨h3', pne⟩ := Wo.get h3
    have gr : Good (ML.rowCod (ts.map cod)) := ML.good_row fun c hc => by
      obtain ⟨u, hu, rfl⟩ := List.mem_map.mp hc
      exact (ML.good_cod (hw u hu)).1 rfl
    refine ⟨_, (pss_cons (ps_set (i := 2) sc_Row_number_told.nd rfl (Or.inl rfl) (by exact pe_int))
      (pss_cons (ps_for (passes_of rfl) rfl (pi_list (pe_fld (pv 0) (by rfl))) (pg_name (i := 3) sc_Row_number_told.nd rfl (Or.inl rfl)) (pss_one (ps_set (i := 2) sc_Row_number_told.nd rfl (Or.inl rfl) (by exact (pe_op op_add (pe_op op_mulX (pv 2) (pe_mx0 (CX := CX0) hr pas0 (pv 3))) (pe_mx (CX := L2.CX P w) (E := fun _ => E) hr (pasE (takes_of rfl rfl rfl rfl)) (pv 3) (by exact (pa_cons (pv 1) pa_nil))))))))
      (pss_one (ps_ret (by exact (pv 2)))))), ?_⟩
    refine ⟨_, rfl, a, _, dx, fs, _, rfl, h1', cl, (row_cl T hx).n1, h2, pl, rfl, ⟨_, SqL.of h3'⟩, for_list (K := K) (a := pl) (xs := as.map V.ref) (fun j σ H' => ∃ (n p : Nat) (v : Option V), σ = [some (.ref a), some (.ref cu), some (.int n), v] ∧ SameBut cu H H' ∧ CurAt K H' cu ns p ∧ n < ML.cntRow ((ts.take j).map cod) ∧
        ML.eatRow ((ts.drop j).map cod) (ns.drop p) = ML.eatRow (ts.map cod) (ns.drop i) ∧ ∀ r, ML.eatRow (ts.map cod) (ns.drop i) = some r → n * ML.cntRow ((ts.drop j).map cod) + (ML.idxRow ((ts.drop j).map cod) (ns.drop p)).1 = (ML.idxRow (ts.map cod) (ns.drop i)).1)
      ⟨0, i, none, rfl, SameBut.refl _ _, hc, Nat.one_pos, rfl, fun r _ => by
        show 0 * ML.cntRow (ts.map cod) + (ML.idxRow (ts.map cod) (ns.drop i)).1 = _
        rw [Nat.zero_mul, Nat.zero_add]⟩ (fun j σ H' _ ⟨_, _, _, _, s5, _⟩ => SqL.of (s5 _ _ h3' pne)) ?_ ?_⟩
    · rintro j y σ H' hj ⟨n, p, v, rfl, s5, c5, lt5, ea5, en5⟩
      obtain ⟨q, hq, rfl⟩ := map_get hj
      have hlt : j < ts.length := by rw [← h4]; exact (List.getElem?_eq_some_iff.mp hq).1
      have hu : ts[j]? = some ts[j] := List.getElem?_eq_getElem hlt
      generalize ts[j] = u at hu
      have hm := List.mem_of_getElem? hu
      have gu := (ML.good_cod (hw u hm)).1 rfl
      have ka := (h5 j q u hq hu).same s5.wo
      obtain ⟨db, fb, g1, g2⟩ := ka.ins (hw u hm)
      have g1 := (Wo.get g1).1
      have nb : n ≤ 2 ^ 528 := by
        have : ∀ (cs ds : List Cod), (∀ c ∈ ds, 0 < c.cnt) → ML.cntRow cs ≤ ML.cntRow (cs ++ ds) := fun cs ds hp => by
          induction cs with
          | nil => exact cntRow_pos hp
          | cons c cs ihh => exact Nat.mul_le_mul_left _ ihh
        have h9 := this ((ts.take j).map cod) ((ts.drop j).map cod) fun c hc => by
          obtain ⟨z, hz, rfl⟩ := List.mem_map.mp hc
          exact ((ML.good_cod (hw z (List.mem_of_mem_drop hz))).1 rfl).pos
        rw [← List.map_append, List.take_append_drop] at h9
        omega
      rw [drop_some hu] at ea5 en5
      have ea5 : ((cod u).eat (ns.drop p)).bind (ML.eatRow ((ts.drop (j + 1)).map cod)) = ML.eatRow (ts.map cod) (ns.drop i) := ea5
      obtain ⟨dcu, lcu, u1, u2, u3⟩ := id c5
      refine ⟨_, rfl, _, rfl, q, _, db, fb, _, rfl, g1, g2.m1, ihc u hm, q, rfl, ka.same (Wo.le _ _), fun H1 s1 => ⟨_, _, rfl, rfl, mulx_ok (natAbs_lt nb) (natAbs_lt (cnt_small (hw u hm) (hl u hm))) (by omega), ?_⟩⟩
      have c6 : CurAt K H1 cu ns p := ⟨dcu, lcu, s1 _ _ u1, s1.seq u2, u3⟩
      have s6 := s5.trans (Same.but s1)
      have ka6 := (h5 j q u hq hu).same s6.wo
      refine ⟨_, rfl, q, _, db, fb, _, rfl, s1 _ _ g1, g2.m4, ih u hm, _, rfl, q, cu, ns, p, rfl, ka6, c6, fun r hr' H2 s2 c2 => ⟨_, _, rfl, rfl, ?_⟩, fun no H2 s2 => ?_⟩
      · obtain ⟨sl, sd⟩ := gu.suffix hr'
        rw [hr'] at ea5
        have ea5 : ML.eatRow ((ts.drop (j + 1)).map cod) r = ML.eatRow (ts.map cod) (ns.drop i) := ea5
        refine ⟨n * countBy u false + ((cod u).idx (ns.drop p)).1, ns.length - r.length, some (.ref q), ?_, s6.trans s2, c2, ?_, by rw [sd]; exact ea5, fun r' h' => ?_⟩
        · show [some (V.ref a), some (V.ref cu), some (V.int ((n : Int) * ((countBy u false : Nat) : Int) + ((((cod u).idx (ns.drop p)).1 : Nat) : Int))), some (V.ref q)] = _
          rw [← Int.natCast_mul, ← Int.natCast_add]
        · have h8 := gu.idx_lt hr'
          have h8 : ((cod u).idx (ns.drop p)).1 < countBy u false := h8
          have et : ts.take (j + 1) = ts.take j ++ [u] := by
            rw [List.take_succ, hu]
            rfl
          have ec : ∀ (cs : List Cod) (c : Cod), ML.cntRow (cs ++ [c]) = ML.cntRow cs * c.cnt := fun cs c => by
            induction cs with
            | nil =>
              show c.cnt * 1 = 1 * c.cnt
              omega
            | cons d cs ihh =>
              show d.cnt * ML.cntRow (cs ++ [c]) = d.cnt * ML.cntRow cs * c.cnt
              rw [ihh, Nat.mul_assoc]
          rw [et, List.map_append]
          show _ < ML.cntRow ((ts.take j).map cod ++ [cod u])
          rw [ec]
          show _ < _ * countBy u false
          have h9 : (n + 1) * countBy u false ≤ ML.cntRow ((ts.take j).map cod) * countBy u false := Nat.mul_le_mul_right _ lt5
          rw [Nat.succ_mul] at h9
          omega
        · have := en5 r' h'
          have this : n * (countBy u false * ML.cntRow ((ts.drop (j + 1)).map cod)) + (((cod u).idx (ns.drop p)).1 * ML.cntRow ((ts.drop (j + 1)).map cod) + (ML.idxRow ((ts.drop (j + 1)).map cod) ((cod u).idx (ns.drop p)).2).1) = _ := this
          rw [gu.idx_rest hr'] at this
          rw [sd, ← this, Nat.add_mul, Nat.mul_assoc, Nat.add_assoc]
      · rw [no] at ea5
        exact ke ea5.symm H2 (s6.trans s2)
    · rintro σ H' ⟨n, p, v, rfl, s5, c5, lt5, ea5, en5⟩
      rw [List.length_map, h4, List.drop_length] at ea5 en5
      have ea5 : some (ns.drop p) = ML.eatRow (ts.map cod) (ns.drop i) := ea5
      have e : n = (ML.idxRow (ts.map cod) (ns.drop i)).1 := by
        have := en5 _ ea5.symm
        have this : n * 1 + 0 = _ := this
        omega
      have hp : p ≤ ns.length := by obtain ⟨_, _, _, _, z⟩ := c5; exact z
      subst e
      exact ⟨_, rfl, kq _ ea5.symm H' s5 (by rw [sub_drop hp]; exact c5)⟩
theorem all_number (T : Txt K mg) : ∀ {t : Ty} {row : Bool}, wf t row → countLeaves t ≤ 24 → (row = false → MOk P w K mg base (L2.CX P w) (dp t + 3) (clsT K t) "number_told" (spNT K t)) ∧ (row = true → ∀ u ∈ rows t, MOk P w K mg base (L2.CX P w) (dp t + 3) (clsT K u) "number_told" (spNT K u))
  | .num lo hi al, row, wt, _ => by
    obtain rfl := wt.1
    exact ⟨fun _ => num_number T wt, fun z => (nomatch z)⟩
  | .maybe t, row, wt, hl => by
    obtain rfl := wt.1
    have hl : 1 + countLeaves t ≤ 24 := hl
    exact ⟨fun _ => may_number T (k := dp t + 3) (by omega) wt.2 ((all_number T wt.2 (by omega)).1 rfl), fun z => (nomatch z)⟩
  | .many n t, row, wt, hl => by
    have wt' := wt
    obtain ⟨rfl, w1, w2, w3⟩ := wt
    have hl' : n * countLeaves t ≤ 24 := hl
    have hl2 : countLeaves t ≤ 24 := Nat.le_trans (Nat.le_mul_of_pos_left _ w1) hl'
    refine ⟨fun _ => ?_, fun z => (nomatch z)⟩
    have cs := cnt_small wt' hl
    rw [show countBy (.many n t) false = ML.cntRow ((List.replicate n t).map cod) by rw [List.map_replicate]; exact ML.cnt_many t n] at cs
    have ec : cod (.many n t) = ML.rowCod ((List.replicate n t).map cod) := by rw [List.map_replicate]; exact ML.cod_many n t
    refine (row_number T (k := dp t + 3) (x := "Many") (ts := List.replicate n t) rowc_many T.cl_Many T.me_Many_number_told (fun u hu => by rw [(List.mem_replicate.mp hu).2]; exact w3) (fun u hu => by rw [(List.mem_replicate.mp hu).2]; exact hl2) cs
      (fun u hu => by rw [(List.mem_replicate.mp hu).2]; exact ((all_how T w3 hl2).1 rfl).mono (Nat.le_add_right _ _)) fun u hu => by rw [(List.mem_replicate.mp hu).2]; exact (all_number T w3 hl2).1 rfl).imp fun vs H Q E h => ?_
    obtain ⟨a, cu, ns, i, e, ka, r⟩ := h
    rw [ec] at r
    exact ⟨a, cu, ns, i, e, KA.many_row ka, r⟩
  | .rec_ fs, row, wt, hl => by
    have wt' := wt
    obtain ⟨rfl, w1⟩ := wt
    have hl' : countLeaves fs ≤ 24 := hl
    refine ⟨fun _ => ?_, fun z => (nomatch z)⟩
    have cs := cnt_small wt' hl
    rw [show countBy (.rec_ fs) false = ML.cntRow ((rows fs).map cod) from (ML.cod_row w1).2.2.2.2.1] at cs
    have ec := ML.cod_rec w1
    refine (row_number T (k := dp fs + 3) (x := "Record") (ts := rows fs) rowc_rec T.cl_Record T.me_Record_number_told (fun u hu => wf_rows w1 hu) (fun u hu => Nat.le_trans (lv_rows hu) hl') cs
      (fun u hu => ((all_how T w1 hl').2 rfl u hu).mono (Nat.le_add_right _ _)) fun u hu => (all_number T w1 hl').2 rfl u hu).imp fun vs H Q E h => ?_
    obtain ⟨a, cu, ns, i, e, ka, r⟩ := h
    rw [ec] at r
    exact ⟨a, cu, ns, i, e, KA.rec_row w1 ka, r⟩
  | .named x t, row, wt, hl => by
    obtain ⟨rfl, _, w1⟩ := wt
    refine ⟨fun _ => ((all_number T w1 hl).1 rfl).imp fun vs H Q E h => ?_, fun z => (nomatch z)⟩
    obtain ⟨a, cu, ns, i, e, ka, r⟩ := h
    rw [ML.cod_named] at r
    exact ⟨a, cu, ns, i, e, ka.1, r⟩
  | .one_ fs, row, wt, hl => by
    have wt' := wt
    obtain ⟨rfl, w1, w2, w3⟩ := wt
    have hl' : 1 + countLeaves fs ≤ 24 := hl
    exact ⟨fun _ => one_number T (k := dp fs + 3) (by omega) wt' hl (fun u hu => ((all_how T w1 (by omega)).2 rfl u hu).mono (Nat.le_add_right _ _)) fun u hu => (all_number T w1 (by omega)).2 rfl u hu, fun z => (nomatch z)⟩
  | .nil, row, wt, _ => by
    have wt : row = true := wt
    subst wt
    exact ⟨fun z => (nomatch z), fun _ u hu => by cases hu⟩
  | .field x h t r, row, wt, hl => by
    obtain ⟨rfl, w1, w2⟩ := wt
    have hl : countLeaves t + countLeaves r ≤ 24 := hl
    have i1 := (all_number T w1 (by omega)).1 rfl
    have i2 := (all_number T w2 (by omega)).2 rfl
    refine ⟨fun z => (nomatch z), fun _ u hu => ?_⟩
    rcases List.mem_cons.mp hu with e | hu
    · rw [e]
      exact i1.mono (Nat.add_le_add_right (Nat.le_max_left _ _) 3)
    · exact (i2 u hu).mono (Nat.add_le_add_right (Nat.le_max_right _ _) 3)
end
end LY
set_option Elab.async false
set_option linter.all false
set_option maxRecDepth 100000
set_option maxHeartbeats 4000000
set_option exponentiation.threshold 10000
namespace LY
open PySem PySem.Spec PyProof.Rows L2
open Valaye (Niche Form formOf better moved noNiche bits0 sharedBits maybeForm taken_)
open Valaya (Ty countLeaves rowLength countBy)
open ML (Cod cod rows wf frm carrier Good)
section
variable {P : Program} {w : World} {K : PySem.W.Frag} {mg : Str → Option Value} {base : Heap}
/-! ### how long values are -/
theorem eatRow_len {m : Nat → Nat} : ∀ {cs : List Cod} {ls : List Nat}, (∀ (i : Nat) (c : Cod) (k : Nat), cs[i]? = some c → ls[i]? = some k → ∀ l r, c.eat l = some r → l.length ≤ r.length + k) → cs.length = ls.length → ∀ {l r : List Int}, ML.eatRow cs l = some r → l.length ≤ r.length + ls.sum
  | [], [], _, _, l, r, h => by
    cases h
    exact Nat.le_refl _
  | c :: cs, k :: ls, g, e, l, r, h => by
    have h : (c.eat l).bind (ML.eatRow cs) = some r := h
    cases hc : c.eat l with
    | none =>
      rw [hc] at h
      cases h
    | some r1 =>
      rw [hc] at h
      have h : ML.eatRow cs r1 = some r := h
      have a1 := g 0 c k rfl rfl l r1 hc
      have a2 := eatRow_len (m := m) (fun i c' k' p q => g (i + 1) c' k' p q) (Nat.succ.inj e) h
      rw [List.sum_cons]
      omega
theorem rows_leaves : ∀ {fs : Ty}, wf fs true → ((rows fs).map countLeaves).sum = countLeaves fs
  | .nil, _ => rfl
  | .field _ _ t r, h => by
    show countLeaves t + ((rows r).map countLeaves).sum = countLeaves t + countLeaves r
    rw [rows_leaves h.2.2]
  | .num _ _ _, h => (nomatch h.1)
  | .maybe _, h => (nomatch h.1)
  | .many _ _, h => (nomatch h.1)
  | .rec_ _, h => (nomatch h.1)
  | .named _ _, h => (nomatch h.1)
  | .one_ _, h => (nomatch h.1)
theorem row_len {ts : List Ty} (h : ∀ u ∈ ts, ∀ l r, (cod u).eat l = some r → l.length ≤ r.length + countLeaves u) {l r : List Int} (e : ML.eatRow (ts.map cod) l = some r) : l.length ≤ r.length + (ts.map countLeaves).sum :=
  eatRow_len (m := id) (fun i c k p q l r x => by
    rw [List.getElem?_map] at p q
    cases hu : ts[i]? with
    | none =>
      rw [hu] at p
      cases p
    | some u =>
      rw [hu] at p q
      cases p
      cases q
      exact h u (List.mem_of_getElem? hu) l r x) (by rw [List.length_map, List.length_map]) e
theorem eat_len : ∀ {t : Ty} {row : Bool}, wf t row → (row = false → ∀ l r, (cod t).eat l = some r → l.length ≤ r.length + countLeaves t) ∧ (row = true → ∀ u ∈ rows t, ∀ l r, (cod u).eat l = some r → l.length ≤ r.length + countLeaves u)
  | .num lo hi al, row, wt => by
    obtain rfl := wt.1
    refine ⟨fun _ l r h => ?_, fun z => (nomatch z)⟩
    rw [ML.cod_num] at h
    obtain ⟨v, rfl, _⟩ := ML.eatNum_some h
    exact Nat.le_refl _
  | .maybe t, row, wt => by
    obtain rfl := wt.1
    have ih := (eat_len wt.2).1 rfl
    refine ⟨fun _ l r h => ?_, fun z => (nomatch z)⟩
    rw [ML.cod_may] at h
    have e : countLeaves (.maybe t) = 1 + countLeaves t := rfl
    rcases ML.eatMay_some h with rfl | ⟨m, rfl, q⟩
    · rw [List.length_cons]
      omega
    · have := ih m r q
      rw [List.length_cons]
      omega
  | .many n t, row, wt => by
    obtain ⟨rfl, w1, w2, w3⟩ := wt
    have ih := (eat_len w3).1 rfl
    refine ⟨fun _ l r h => ?_, fun z => (nomatch z)⟩
    rw [ML.cod_many] at h
    have h : ML.eatRow (List.replicate n (cod t)) l = some r := h
    rw [← List.map_replicate] at h
    have := row_len (fun u hu => by rw [(List.mem_replicate.mp hu).2]; exact ih) h
    rw [List.map_replicate, List.sum_replicate_nat] at this
    exact this
  | .rec_ fs, row, wt => by
    obtain ⟨rfl, w1⟩ := wt
    have ih := (eat_len w1).2 rfl
    refine ⟨fun _ l r h => ?_, fun z => (nomatch z)⟩
    rw [ML.cod_rec w1] at h
    have := row_len ih h
    rw [rows_leaves w1] at this
    exact this
  | .named x t, row, wt => by
    obtain ⟨rfl, _, w1⟩ := wt
    have ih := (eat_len w1).1 rfl
    exact ⟨fun _ l r h => ih l r (by rw [ML.cod_named] at h; exact h), fun z => (nomatch z)⟩
  | .one_ fs, row, wt => by
    obtain ⟨rfl, w1, w2, w3⟩ := wt
    have ih := (eat_len w1).2 rfl
    refine ⟨fun _ l r h => ?_, fun z => (nomatch z)⟩
    rw [ML.cod_one w1] at h
    obtain ⟨k, c, m, rfl, hc, _, hm⟩ := ML.eatOne_some h
    rw [List.getElem?_map] at hc
    cases hu : (rows fs)[k]? with
    | none =>
      rw [hu] at hc
      cases hc
    | some u =>
      rw [hu] at hc
      cases hc
      have hin := List.mem_of_getElem? hu
      have a1 := ih u hin m r hm
      have a2 := lv_rows hin
      show (m.length + 1) ≤ r.length + (1 + countLeaves fs)
      omega
  | .nil, row, wt => by
    have wt : row = true := wt
    subst wt
    exact ⟨fun z => (nomatch z), fun _ u hu => by cases hu⟩
  | .field x h t r, row, wt => by
    obtain ⟨rfl, w1, w2⟩ := wt
    have i1 := (eat_len w1).1 rfl
    have i2 := (eat_len w2).2 rfl
    refine ⟨fun z => (nomatch z), fun _ u hu => ?_⟩
    rcases List.mem_cons.mp hu with e | hu
    · rw [e]
      exact i1
    · exact i2 u hu
/-- no record without fields -/
def full : Ty → Prop
  | .maybe t => full t
  | .many _ t => full t
  | .rec_ fs => full fs ∧ 0 < rowLength fs
  | .named _ t => full t
  | .one_ fs => full fs
  | .field _ _ t r => full t ∧ full r
  | _ => True
theorem full_leaves : ∀ {t : Ty} {row : Bool}, wf t row → full t → (row = false → 0 < countLeaves t) ∧ (row = true → rowLength t ≤ countLeaves t)
  | .num _ _ _, row, w, _ => ⟨fun _ => Nat.one_pos, fun z => (by rw [w.1] at z; cases z)⟩
  | .maybe t, row, w, f => ⟨fun _ => (show 0 < 1 + countLeaves t by omega), fun z => (by rw [w.1] at z; cases z)⟩
  | .many n t, row, w, f => ⟨fun _ => Nat.mul_pos w.2.1 ((full_leaves w.2.2.2 f).1 rfl), fun z => (by rw [w.1] at z; cases z)⟩
  | .rec_ fs, row, w, f => ⟨fun _ => Nat.lt_of_lt_of_le f.2 ((full_leaves w.2 f.1).2 rfl), fun z => (by rw [w.1] at z; cases z)⟩
  | .named _ t, row, w, f => ⟨fun _ => (full_leaves w.2.2 f).1 rfl, fun z => (by rw [w.1] at z; cases z)⟩
  | .one_ fs, row, w, f => ⟨fun _ => (show 0 < 1 + countLeaves fs by omega), fun z => (by rw [w.1] at z; cases z)⟩
  | .nil, row, w, _ => ⟨fun z => (by rw [show row = true from w] at z; cases z), fun _ => Nat.le_refl _⟩
  | .field x h t r, row, w, f => ⟨fun z => (by rw [w.1] at z; cases z), fun _ => by
    have a1 := (full_leaves w.2.1 f.1).1 rfl
    have a2 := (full_leaves w.2.2 f.2).2 rfl
    show rowLength r + 1 ≤ countLeaves t + countLeaves r
    omega⟩
theorem nth_len {t : Ty} (wt : wf t false) {n : Nat} (h : n < (cod t).cnt) : ((cod t).nth n).length ≤ countLeaves t := by
  have := (eat_len wt).1 rfl _ _ (((ML.good_cod wt).1 rfl).nth n h)
  simpa using this
theorem D_len {t : Ty} (wt : wf t false) {n : Nat} {v : List Int} (h : ML.D (cod t) n = some v) : v.length ≤ countLeaves t := by
  have := (eat_len wt).1 rfl _ _ ((ML.D_iff ((ML.good_cod wt).1 rfl)).mp h).1
  simpa using this
/-! ### a row's digits -/
def digs : List Cod → Nat → List (List Int)
  | [], _ => []
  | c :: cs, n => c.nth (n / ML.cntRow cs % c.cnt) :: digs cs n
theorem digs_len : ∀ (cs : List Cod) (n : Nat), (digs cs n).length = cs.length
  | [], _ => rfl
  | _ :: cs, n => congrArg (· + 1) (digs_len cs n)
theorem digs_mod : ∀ (cs : List Cod) (m n : Nat), digs cs (n % (m * ML.cntRow cs)) = digs cs n
  | [], _, _ => rfl
  | c :: cs, m, n => by
    show c.nth (n % (m * (c.cnt * ML.cntRow cs)) / ML.cntRow cs % c.cnt) :: digs cs (n % (m * (c.cnt * ML.cntRow cs))) = c.nth (n / ML.cntRow cs % c.cnt) :: digs cs n
    rw [← Nat.mul_assoc, digs_mod cs (m * c.cnt) n, Nat.mod_mul_left_div_self, Nat.mod_mul_left_mod]
theorem nthRow_digs : ∀ (cs : List Cod) (n : Nat), ML.nthRow cs (n % ML.cntRow cs) = (digs cs n).flatten
  | [], _ => rfl
  | c :: cs, n => by
    show c.nth (n % (c.cnt * ML.cntRow cs) / ML.cntRow cs) ++ ML.nthRow cs (n % (c.cnt * ML.cntRow cs) % ML.cntRow cs) = c.nth (n / ML.cntRow cs % c.cnt) ++ (digs cs n).flatten
    rw [Nat.mod_mul_left_div_self, Nat.mod_mul_left_mod, nthRow_digs cs n]
theorem digs_at : ∀ {cs : List Cod} {k : Nat} {c : Cod} (n : Nat), cs[k]? = some c → (digs cs n)[k]? = some (c.nth (n / ML.cntRow (cs.drop (k + 1)) % c.cnt))
  | _ :: _, 0, _, n, h => by
    cases h
    rfl
  | _ :: cs, k + 1, c, n, h => digs_at (cs := cs) (k := k) n h
theorem flat_take_le (ls : List (List Int)) (j : Nat) : (ls.take j).flatten.length ≤ ls.flatten.length := by
  have := congrArg (fun l => (List.flatten l).length) (List.take_append_drop j ls)
  simp only [List.flatten_append, List.length_append] at this
  omega
/-! ### the value of a number -/
abbrev s_Number_value_at : Stmt := inClass (top 12) 6
abbrev n_Number_value_at : List Str := ["self", "number"]
theorem sc_Number_value_at : FnScope n_Number_value_at ["self", "number"] (defScope s_Number_value_at) := ⟨rfl, rfl, rfl, by decide +kernel, rfl, by decide +kernel, by decide +kernel⟩
abbrev s_Maybe_value_at : Stmt := inClass (top 13) 7
abbrev n_Maybe_value_at : List Str := ["self", "number"]
theorem sc_Maybe_value_at : FnScope n_Maybe_value_at ["self", "number"] (defScope s_Maybe_value_at) := ⟨rfl, rfl, rfl, by decide +kernel, rfl, by decide +kernel, by decide +kernel⟩
abbrev s_One_value_at : Stmt := inClass (top 14) 8
abbrev n_One_value_at : List Str := ["self", "number", "chosen", "rest"]
theorem sc_One_value_at : FnScope n_One_value_at ["self", "number"] (defScope s_One_value_at) := ⟨rfl, rfl, rfl, by decide +kernel, rfl, by decide +kernel, by decide +kernel⟩
abbrev s_Row_value_at : Stmt := inClass (top 16) 5
abbrev n_Row_value_at : List Str := ["self", "number", "found", "rest", "part", "value", "numbers"]
theorem sc_Row_value_at : FnScope n_Row_value_at ["self", "number"] (defScope s_Row_value_at) := ⟨rfl, rfl, rfl, by decide +kernel, rfl, by decide +kernel, by decide +kernel⟩

theorem free_of {H H' : Hp} {a : Addr} (s : Same H H') (h : H' a = none) : H a = none := by
  cases e : H a with
  | none => rfl
  | some o =>
    rw [s _ _ e] at h
    cases h
def spVA (K : PySem.W.Frag) (at_ : Hp → Addr → Prop) (c : Cod) : Sp := fun vs H Q _ => ∃ (a : Addr) (n : Nat), vs = [.ref a, .int (n : Nat)] ∧ at_ H a ∧ n < c.cnt ∧ ∀ D H', H D = none → Same H H' → H' D = some (.lst ((c.nth n).map V.int)) → Q (.ref D) H'
theorem num_at (T : Txt K mg) {lo hi : Int} {al : Nat} (wt : wf (.num lo hi al) false) : MOk P w K mg base CX0 1 (cNumber K) "value_at" (spVA K (atT K (.num lo hi al)) (cod (.num lo hi al))) :=
  mkM T.cl_Number T.me_Number_value_at T.d_Number_value_at sc_Number_value_at (fun vs H Q E h => by obtain ⟨a, n, rfl, _⟩ := h; rfl) (fun _ _ _ _ _ _ us hl => match us, hl with | [_, _], _ => rfl) fun cdv A outer s H vs Q E hr h => by
    obtain ⟨a, n, rfl, ⟨b, dx, sp, y, e, h1, h2, h3⟩, hn, k⟩ := h
    cases e
    refine ⟨_, PSs.nox (pss_one (ps_ret (by exact (pe_lst (pa_cons (pe_op op_add (pe_fld (pv 0) (by rfl)) (pv 1)) pa_nil))))), ?_⟩
    refine ⟨_, rfl, a, _, dx, _, _, rfl, h1, T.cl_Number, T.na_Number_first, rfl, _, rfl, _, _, rfl, rfl, ?_⟩
    refine ⟨small1000 (by decide), fun D nD => k D _ nD (same_new nD) ?_⟩
    rw [upd_same, ML.cod_num]
    rfl
theorem may_at (T : Txt K mg) {t : Ty} {k : Nat} (wt : wf t false) (hl : countLeaves t ≤ 24) (ih : MOk P w K mg base CX0 k (clsT K t) "value_at" (spVA K (atT K t) (cod t))) : MOk P w K mg base CX0 (k + 1) (cMaybe K) "value_at" (spVA K (atT K (.maybe t)) (cod (.maybe t))) :=
  mkM T.cl_Maybe T.me_Maybe_value_at T.d_Maybe_value_at sc_Maybe_value_at (fun vs H Q E h => by obtain ⟨a, n, rfl, _⟩ := h; rfl) (fun _ _ _ _ _ _ us hl => match us, hl with | [_, _], _ => rfl) fun cdv A outer s H vs Q E hr h => by
    obtain ⟨a, n, rfl, hka, hn, kk⟩ := h
    obtain ⟨b, dx, ii, sp, y, e, h1, h2, h3, h4⟩ := id hka
    cases e
    rw [ML.cod_may] at kk hn
    refine ⟨_, PSs.nox (pss_cons (ps_if (pt_cmpR op_eq (pv 1) pe_int (nomark _)) (pss_one (ps_ret (by exact (pe_lst (pa_cons pe_int pa_nil))))) pss_nil)
      (pss_one (ps_ret (by exact (pe_op op_cat (pe_lst (pa_cons pe_int pa_nil)) (pe_mx (CX := CX0) hr pas0 (pe_fld (pv 0) (by rfl)) (by exact (pa_cons (pe_op op_sub (pv 1) pe_int) pa_nil)))))))), ?_⟩
    refine ⟨_, rfl, rfl, _, rfl, ?_⟩
    by_cases z : n = 0
    · subst z
      refine iteT ⟨small1000 (by decide), fun D nD => kk D _ nD (same_new nD) ?_⟩
      rw [upd_same]
      rfl
    · have hn : n < 1 + (cod t).cnt := hn
      have e : ((n : Int) - 1) = ((n - 1 : Nat) : Int) := by omega
      refine (show if decide (V.int (n : Int) = .int 0) = true then _ else _ from iteD (by intro q; injection q with q; omega) ?_)
      refine ⟨small1000 (by decide), fun L nL => ?_⟩
      have s1 : Same H (upd H L (.lst [V.int 1])) := same_new nL
      obtain ⟨di, fi, i1, i2⟩ := (h2.same s1).ins wt
      refine ⟨_, rfl, a, _, dx, _, _, rfl, s1 _ _ h1, T.cl_Maybe, T.na_Maybe_inner, rfl, ii, _, di, fi, _, rfl, i1, i2.m6, ih, _, rfl, _, _, rfl, rfl, ii, n - 1, congrArg (fun z => [V.ref ii, V.int z]) e, h2.same s1, by omega, fun D H2 _ s2 d2 => ?_⟩
      have lv := nth_len wt (n := n - 1) (by omega)
      refine ⟨L, D, [V.int 1], _, rfl, rfl, s2 _ _ upd_same, d2, ?_, fun R nR => kk R _ (free_of (s1.trans s2) nR) ((s1.trans s2).trans (same_new nR)) ?_⟩
      · exact Nat.le_trans (by rw [List.length_map, List.length_cons, List.length_nil]; omega) (small1000 (Nat.le_refl 1000))
      rw [upd_same]
      show _ = some (HO.lst ((if n = 0 then [0] else 1 :: (cod t).nth (n - 1)).map V.int))
      rw [if_neg z]
      rfl
theorem one_at (T : Txt K mg) {fs : Ty} {k : Nat} (wt : wf (.one_ fs) false) (hl : countLeaves (.one_ fs) ≤ 24) (ihc : ∀ u ∈ rows fs, MOk P w K mg base CX0 k (clsT K u) "how_many" (spHow K u)) (ih : ∀ u ∈ rows fs, MOk P w K mg base CX0 k (clsT K u) "value_at" (spVA K (atT K u) (cod u))) :
    MOk P w K mg base CX0 (k + 1) (cOne K) "value_at" (spVA K (atT K (.one_ fs)) (cod (.one_ fs))) :=
  mkM T.cl_One T.me_One_value_at T.d_One_value_at sc_One_value_at (fun vs H Q E h => by obtain ⟨a, n, rfl, _⟩ := h; rfl) (fun _ _ _ _ _ _ us hl => match us, hl with | [_, _], _ => rfl) fun cdv A outer s H vs Q E hr h => by
    obtain ⟨a, n, rfl, hka, hn, kk⟩ := h
    obtain ⟨b, dx, nl, al, sp, ias, y, e, h1, h2, h3, h4, h5, h6⟩ := id hka
    cases e
    obtain ⟨_, wr, w2, w4⟩ := id wt
    obtain ⟨len, get⟩ := h2.rows_at wr
    rw [ML.cod_one wr] at kk hn
    have hn : n < ML.cntOne ((rows fs).map cod) := hn
    have hl' : 1 + countLeaves fs ≤ 24 := hl
    refine ⟨_, PSs.nox (pss_cons (ps_set (i := 2) sc_One_value_at.nd rfl (Or.inl rfl) (by exact pe_int))
      (pss_cons (ps_set (i := 3) sc_One_value_at.nd rfl (Or.inl rfl) (by exact (pv 1)))
      (pss_cons (ps_while PassesOwn.never (pt_cmpR op_ge (pv 3) (pe_mx0 (CX := CX0) hr pas0 (pe_ix ix_list (pe_fld (pv 0) (by rfl)) (pv 2) (fun _ _ => rfl))) (nomark _)) (pss_cons (ps_aug (i := 3) sc_One_value_at.nd rfl (.inl rfl) (pe_mx0 (CX := CX0) hr pas0 (pe_ix ix_list (pe_fld (pv 0) (by rfl)) (pv 2) (fun _ _ => rfl))) ip_sub)
      (pss_one (ps_aug (i := 2) sc_One_value_at.nd rfl (.inl rfl) pe_int ip_add))))
      (pss_one (ps_ret (by exact (pe_op op_cat (pe_lst (pa_cons (pv 2) pa_nil)) (pe_mx (CX := CX0) hr pas0 (pe_ix ix_list (pe_fld (pv 0) (by rfl)) (pv 2) (fun _ _ => rfl)) (by exact (pa_cons (pv 3) pa_nil)))))))))), ?_⟩
    refine ⟨_, rfl, fun m σ H' => ∃ j r : Nat, m = (rows fs).length - j ∧ σ = [some (.ref a), some (.int n), some (.int j), some (.int r)] ∧ Same H H' ∧ ML.nthOne (((rows fs).drop j).map cod) j r = ML.nthOne ((rows fs).map cod) 0 n ∧ r < ML.cntOne (((rows fs).drop j).map cod), ⟨_, 0, n, rfl, rfl, Same.refl _, rfl, hn⟩, ?_⟩
    rintro m σ H' ⟨j, r, rfl, rfl, s1, eq, lt⟩
    have hj : j < (rows fs).length := by
      rcases Nat.lt_or_ge j (rows fs).length with h | h
      · exact h
      · rw [List.drop_eq_nil_of_le h] at lt
        exact absurd lt (Nat.not_lt_zero _)
    have hu : (rows fs)[j]? = some (rows fs)[j] := List.getElem?_eq_getElem hj
    generalize (rows fs)[j] = u at hu
    have hm := List.mem_of_getElem? hu
    have wu := wf_rows wr hm
    obtain ⟨q, ha⟩ : ∃ q, ias[j]? = some q := ⟨_, List.getElem?_eq_getElem (by rw [len]; exact hj)⟩
    have kau := (get j q u ha hu).same s1
    obtain ⟨di, fi, i1, i2⟩ := kau.ins wu
    rw [drop_some hu] at eq lt
    have eq : (if r < (cod u).cnt then (j : Int) :: (cod u).nth r else ML.nthOne (((rows fs).drop (j + 1)).map cod) (j + 1) (r - (cod u).cnt)) = ML.nthOne ((rows fs).map cod) 0 n := eq
    have lt : r < (cod u).cnt + ML.cntOne (((rows fs).drop (j + 1)).map cod) := lt
    refine ⟨_, rfl, _, rfl, a, _, dx, _, _, rfl, s1 _ _ h1, T.cl_One, T.na_One_alternatives, rfl, _, rfl, _, _, _, V.ref q, rfl, rfl, SqL.of (s1 _ _ h4), atI_nat (by rw [List.getElem?_map, ha]; rfl), q, _, di, fi, _, rfl, i1, i2.m1, ihc u hm, q, rfl, kau, fun H2 s2 => ⟨_, _, rfl, rfl, _, rfl, ?_⟩⟩
    have s3 := s1.trans s2
    by_cases z : r < (cod u).cnt
    · rw [if_pos z] at eq
      refine (show if decide (((countBy u false : Nat) : Int) ≤ (r : Int)) = true then _ else _ from iteD (by show ¬ (((cod u).cnt : Nat) : Int) ≤ _; omega) ?_)
      refine ⟨_, rfl, small1000 (by decide), fun L nL => ?_⟩
      have s4 : Same H2 (upd H2 L (.lst [V.int j])) := same_new nL
      have s5 := s3.trans s4
      have kau2 := (get j q u ha hu).same s5
      obtain ⟨di, fi, i1, i2⟩ := kau2.ins wu
      refine ⟨_, rfl, a, _, dx, _, _, rfl, s5 _ _ h1, T.cl_One, T.na_One_alternatives, rfl, _, rfl, _, _, _, V.ref q, rfl, rfl, SqL.of (s5 _ _ h4), atI_nat (by rw [List.getElem?_map, ha]; rfl), q, _, di, fi, _, rfl, i1, i2.m6, ih u hm, _, rfl, q, r, rfl, kau2, z, fun D H4 _ s6 d6 => ?_⟩
      have lv := nth_len wu z
      have lu := lv_rows hm
      refine ⟨L, D, [V.int j], _, rfl, rfl, s6 _ _ upd_same, d6, ?_, fun R nR => kk R _ (free_of (s5.trans s6) nR) ((s5.trans s6).trans (same_new nR)) ?_⟩
      · exact Nat.le_trans (by rw [List.length_map, List.length_cons, List.length_nil]; omega) (small1000 (Nat.le_refl 1000))
      rw [upd_same]
      show _ = some (HO.lst ((ML.nthOne ((rows fs).map cod) 0 n).map V.int))
      rw [← eq]
      rfl
    · rw [if_neg z] at eq
      refine (show if decide (((countBy u false : Nat) : Int) ≤ (r : Int)) = true then _ else _ from iteC (by show (((cod u).cnt : Nat) : Int) ≤ _; omega) ?_)
      have kau2 := (get j q u ha hu).same s3
      obtain ⟨di, fi, i1, i2⟩ := kau2.ins wu
      refine ⟨_, fun σ' H' h => h, _, rfl, _, rfl, a, _, dx, _, _, rfl, s3 _ _ h1, T.cl_One, T.na_One_alternatives, rfl, _, rfl, _, _, _, V.ref q, rfl, rfl, SqL.of (s3 _ _ h4), atI_nat (by rw [List.getElem?_map, ha]; rfl), q, _, di, fi, _, rfl, i1, i2.m1, ihc u hm, q, rfl, kau2, fun H4 s4 => ⟨_, _, rfl, rfl, ?_⟩⟩
      refine ⟨_, rfl, _, _, rfl, rfl, (rows fs).length - (j + 1), by omega, j + 1, r - (cod u).cnt, rfl, ?_, s3.trans s4, eq, by omega⟩
      show [some (V.ref a), some (V.int n), some (V.int ((j : Int) + 1)), some (V.int ((r : Int) - (((cod u).cnt : Nat) : Int)))] = _
      rw [show ((j : Int) + 1) = ((j + 1 : Nat) : Int) by omega, show ((r : Int) - (((cod u).cnt : Nat) : Int)) = ((r - (cod u).cnt : Nat) : Int) by omega]
theorem cntRow_split : ∀ {cs : List Cod} {k : Nat} {c : Cod}, cs[k]? = some c → ML.cntRow (cs.drop k) = c.cnt * ML.cntRow (cs.drop (k + 1))
  | _ :: _, 0, _, h => by
    cases h
    rfl
  | _ :: cs, k + 1, c, h => cntRow_split (cs := cs) (k := k) h
theorem cnt_log {u : Ty} (wu : wf u false) (hl : countLeaves u ≤ 24) : (((cod u).cnt : Nat) : Int).natAbs.log2 < 9000 := by
  have := cnt_small wu hl
  have pos := ((ML.good_cod wu).1 rfl).pos
  rw [Int.natAbs_natCast]
  have h : (cod u).cnt < 2 ^ 9000 := Nat.lt_of_le_of_lt this (Nat.pow_lt_pow_right (by decide) (by decide))
  exact (Nat.log2_lt (by omega)).mpr h
theorem row_at (T : Txt K mg) {x : Str} (hx : RowC x) (cl : Cls K (He.ga K x)) (me : Meth K (He.ga K x) "value_at" (He.ma K (He.ga K x) "value_at")) {ts : List Ty} {k : Nat} (hw : ∀ u ∈ ts, wf u false) (hl : ∀ u ∈ ts, countLeaves u ≤ 24) (hts : ts.length ≤ 24)
    (hlen : ∀ n, n < ML.cntRow (ts.map cod) → (ML.nthRow (ts.map cod) n).length ≤ 24)
    (ihc : ∀ u ∈ ts, MOk P w K mg base CX0 k (clsT K u) "how_many" (spHow K u)) (ih : ∀ u ∈ ts, MOk P w K mg base CX0 k (clsT K u) "value_at" (spVA K (atT K u) (cod u))) :
    MOk P w K mg base CX0 (k + 1) (He.ga K x) "value_at" (spVA K (rowAt K (He.ga K x) ts) (ML.rowCod (ts.map cod))) :=
  mkRM T hx (by decide +kernel) cl me T.d_Row_value_at sc_Row_value_at (fun vs H Q E h => by obtain ⟨a, n, rfl, _⟩ := h; rfl) (fun _ _ _ _ _ _ us hl => match us, hl with | [_, _], _ => rfl) fun cdv A outer s H vs Q E hr h => by
    obtain ⟨a, n, rfl, hR, hn, kk⟩ := h
    obtain ⟨dx, fs, pl, as, h1, h2, h3, h4, h5⟩ := id hR
    have hn : n < ML.cntRow (ts.map cod) := hn
    have en : ML.nthRow (ts.map cod) n = (digs (ts.map cod) n).flatten := by
      rw [← nthRow_digs, Nat.mod_eq_of_lt hn]
    have ln := hlen n hn
    rw [en] at ln
    have dl : (digs (ts.map cod) n).length = ts.length := by rw [digs_len, List.length_map]
    refine ⟨_, PSs.nox (pss_cons (ps_set (i := 2) sc_Row_value_at.nd rfl (Or.inl rfl) (by exact (pe_lst pa_nil)))
      (pss_cons (ps_set (i := 3) sc_Row_value_at.nd rfl (Or.inl rfl) (by exact (pv 1)))
      (pss_cons (ps_for PassesOwn.never rfl (pi_reversed (by rfl) T.f_reversed (pa_cons (pe_fld (pv 0) (by rfl)) pa_nil)) (pg_name (i := 4) sc_Row_value_at.nd rfl (Or.inl rfl)) (pss_cons (ps_expr (pe_bm PySem.F.plainAttrs_list PySem.F.slot_list_append PySem.F.type_list_append mt_append (pv 2) (by exact (pa_cons (pe_mx (CX := CX0) hr pas0 (pv 4) (by exact (pa_cons (pe_op op_mod (pv 3) (pe_mx0 (CX := CX0) hr pas0 (pv 4))) pa_nil))) pa_nil))))
      (pss_one (ps_set (i := 3) sc_Row_value_at.nd rfl (Or.inl rfl) (by exact (pe_op op_fdivW (pv 3) (pe_mx0 (CX := CX0) hr pas0 (pv 4))))))))
      (pss_cons (ps_set (i := 5) sc_Row_value_at.nd rfl (Or.inl rfl) (by exact (pe_lst pa_nil)))
      (pss_cons (ps_for PassesOwn.never rfl (pi_reversed (by rfl) T.f_reversed (pa_cons (pv 2) pa_nil)) (pg_name (i := 6) sc_Row_value_at.nd rfl (Or.inl rfl)) (pss_one (ps_expr (pe_bm PySem.F.plainAttrs_list PySem.F.slot_list_extend PySem.F.type_list_extend mt_extend (pv 5) (by exact (pa_cons (pv 6) pa_nil))))))
      (pss_one (ps_ret (by exact (pv 5))))))))), ?_⟩
    refine ⟨Nat.zero_le _, fun F nF => ?_⟩
    have sF : Same H (upd H F (.lst [])) := same_new nF
    refine ⟨_, rfl, _, rfl, a, _, dx, fs, _, rfl, sF _ _ h1, cl, (row_cl T hx).n1, h2, pl, _, rfl, SqL.of (sF _ _ h3), L2.for_it (L2.walk_rev (K := K) (a := pl) (xs := as.map V.ref)) (fun j σ H' => ∃ (r : Nat) (v x5 x6 : Option V) (ls : List Addr), σ = [some (.ref a), some (.int n), some (.ref F), some (.int r), v, x5, x6] ∧ Same H H' ∧ H' F = some (.lst (ls.map V.ref)) ∧ ls.length = j ∧ r = n / ML.cntRow ((ts.map cod).drop (ts.length - j)) ∧
        ∀ (i : Nat) (l : Addr) (d : List Int), ls[i]? = some l → (digs (ts.map cod) n)[ts.length - 1 - i]? = some d → l ≠ F ∧ H' l = some (.lst (d.map V.int)))
      ⟨n, none, none, none, [], rfl, sF, upd_same, rfl, by
        rw [Nat.sub_zero, List.drop_eq_nil_of_le (by rw [List.length_map]; exact Nat.le_refl _)]
        exact (Nat.div_one n).symm, fun i l d q => by simp at q⟩ (fun j σ H' _ ⟨_, _, _, _, _, _, s5, _⟩ => SqL.of (s5 _ _ h3)) ?_ ?_⟩
    · rintro j y σ H2 H1 hj ⟨r, v, x5, x6, ls, rfl, s1, f1, len1, er, ge1⟩ ⟨e, hy⟩
      subst e
      rw [List.length_map, h4] at hj hy
      obtain ⟨q, hq, rfl⟩ := map_get hy
      have hlt : ts.length - 1 - j < ts.length := by omega
      have hu : ts[ts.length - 1 - j]? = some ts[ts.length - 1 - j] := List.getElem?_eq_getElem hlt
      generalize ts[ts.length - 1 - j] = u at hu
      have hm := List.mem_of_getElem? hu
      have hcu : (ts.map cod)[ts.length - 1 - j]? = some (cod u) := by rw [List.getElem?_map, hu]; rfl
      have wu := hw u hm
      have gu := (ML.good_cod wu).1 rfl
      have ka := (h5 _ q u hq hu).same s1
      obtain ⟨di, fi, i1, i2⟩ := ka.ins wu
      have pos : 0 < (cod u).cnt := gu.pos
      refine ⟨_, rfl, .inl ⟨rfl, _, SqL.of f1⟩, _, rfl, q, _, di, fi, _, rfl, i1, i2.m6, ih u hm, _, rfl, _, rfl, q, _, di, fi, _, rfl, i1, i2.m1, ihc u hm, q, rfl, ka, fun H3 s3 => ⟨_, _, rfl, rfl, ?_, q, r % (cod u).cnt, rfl, ka.same s3, Nat.mod_lt _ pos, fun D H4 nD s4 d4 => ?_⟩⟩
      · show 0 < (((cod u).cnt : Nat) : Int)
        omega
      have s5 := s3.trans s4
      refine ⟨F, _, _, rfl, rfl, s5 _ _ f1, ?_, ?_⟩
      · rw [List.length_map, len1]
        exact Nat.lt_of_lt_of_le (Nat.lt_of_lt_of_le hj hts) (small1000 (by decide))
      have keep : ∀ l o, H1 l = some o → l ≠ F → upd H4 F (.lst (ls.map V.ref ++ [V.ref D])) l = some o := fun l o e ne => (upd_ne ne).trans (s5 l o e)
      have s6 : Same H (upd H4 F (.lst (ls.map V.ref ++ [V.ref D]))) := fun b o e => keep b o (s1 b o e) (ne_of_none e nF)
      have ka6 := (h5 _ q u hq hu).same s6
      obtain ⟨di, fi, i1, i2⟩ := ka6.ins wu
      refine ⟨_, rfl, _, rfl, q, _, di, fi, _, rfl, i1, i2.m1, ihc u hm, q, rfl, ka6, fun H5 s7 => ⟨_, _, rfl, rfl, ⟨?_, cnt_log wu (hl u hm)⟩, ?_⟩⟩
      · show 0 < (((cod u).cnt : Nat) : Int)
        omega
      have dj : (digs (ts.map cod) n)[ts.length - 1 - j]? = some ((cod u).nth (r % (cod u).cnt)) := by
        rw [digs_at n hcu, er, show ts.length - 1 - j + 1 = ts.length - j by omega]
      refine ⟨r / (cod u).cnt, some (.ref q), x5, x6, ls ++ [D], rfl, s6.trans s7, ?_, by rw [List.length_append, len1]; rfl, ?_, fun i l d e1 e2 => ?_⟩
      · rw [List.map_append]
        exact s7 _ _ upd_same
      · rw [er, Nat.div_div_eq_div_mul]
        have := cntRow_split hcu
        rw [show ts.length - (j + 1) = ts.length - 1 - j by omega, this, show ts.length - 1 - j + 1 = ts.length - j by omega, Nat.mul_comm]
      · rcases Nat.lt_or_ge i j with h | h
        · have e1 : ls[i]? = some l := by rw [List.getElem?_append_left (by omega)] at e1; exact e1
          obtain ⟨ne, old⟩ := ge1 i l d e1 e2
          exact ⟨ne, s7 _ _ (keep _ _ old ne)⟩
        · have hi : i = j := by
            have := (List.getElem?_eq_some_iff.mp e1).1
            rw [List.length_append, len1] at this
            simp at this
            omega
          subst hi
          rw [List.getElem?_append_right (by omega), len1, Nat.sub_self] at e1
          cases e1
          rw [dj] at e2
          cases e2
          have ne : D ≠ F := fun e => by
            rw [e] at nD
            have := (s3 _ _ f1).symm.trans nD
            cases this
          exact ⟨ne, s7 _ _ ((upd_ne ne).trans d4)⟩
    · rintro σ H1 ⟨r, v, x5, x6, ls, rfl, s1, f1, len1, er, ge1⟩
      rw [List.length_map, h4] at len1
      refine ⟨Nat.zero_le _, fun V0 nV => ?_⟩
      have sV : Same H1 (upd H1 V0 (.lst [])) := same_new nV
      refine ⟨_, rfl, F, _, rfl, SqL.of (sV _ _ f1), L2.for_it (L2.walk_rev (K := K) (a := F) (xs := ls.map V.ref)) (fun j σ H' => ∃ x6 : Option V, σ = [some (.ref a), some (.int n), some (.ref F), some (.int r), v, some (.ref V0), x6] ∧ Same H1 H' ∧ H' V0 = some (.lst (((digs (ts.map cod) n).take j).flatten.map V.int)))
        ⟨x6, rfl, sV, upd_same⟩ (fun j σ H' _ ⟨_, _, s5, _⟩ => SqL.of (s5 _ _ f1)) ?_ ?_⟩
      · rintro j y σ H3 H2 hj ⟨x7, rfl, s2, v2⟩ ⟨e, hy⟩
        subst e
        rw [List.length_map, len1] at hj hy
        obtain ⟨q, hq, rfl⟩ := map_get hy
        have hd : (digs (ts.map cod) n)[j]? = some (digs (ts.map cod) n)[j] := List.getElem?_eq_getElem (by rw [dl]; exact hj)
        generalize (digs (ts.map cod) n)[j] = d at hd
        have old := (ge1 _ q d hq (by rw [show ts.length - 1 - (ts.length - 1 - j) = j by omega]; exact hd)).2
        have et : (digs (ts.map cod) n).take (j + 1) = (digs (ts.map cod) n).take j ++ [d] := by
          rw [List.take_succ, hd]
          rfl
        have le := flat_take_le (digs (ts.map cod) n) (j + 1)
        rw [et, List.flatten_append, List.length_append, List.flatten_cons, List.flatten_nil, List.append_nil] at le
        refine ⟨_, rfl, .inl ⟨rfl, _, SqL.of v2⟩, _, rfl, V0, q, _, _, rfl, rfl, v2, s2 _ _ old, ?_, some (.ref q), rfl, ?_, ?_⟩
        · refine Nat.le_trans ?_ (small1000 (Nat.le_refl 1000))
          rw [List.length_map, List.length_map]
          omega
        · exact fun b o e => (upd_ne (ne_of_none e nV)).trans (s2 _ _ e)
        · rw [upd_same, et, List.flatten_append, List.flatten_cons, List.flatten_nil, List.append_nil, List.map_append]
      · rintro σ H2 ⟨x7, rfl, s2, v2⟩
        rw [List.length_map, len1, ← dl, List.take_length, ← en] at v2
        exact ⟨_, rfl, kk V0 H2 (free_of s1 nV) (s1.trans s2) v2⟩
theorem all_at (T : Txt K mg) : ∀ {t : Ty} {row : Bool}, wf t row → full t → countLeaves t ≤ 24 → (row = false → MOk P w K mg base CX0 (dp t) (clsT K t) "value_at" (spVA K (atT K t) (cod t))) ∧ (row = true → ∀ u ∈ rows t, MOk P w K mg base CX0 (dp t) (clsT K u) "value_at" (spVA K (atT K u) (cod u)))
  | .num lo hi al, row, wt, _, _ => by
    obtain rfl := wt.1
    exact ⟨fun _ => num_at T wt, fun z => (nomatch z)⟩
  | .maybe t, row, wt, fu, hl => by
    obtain rfl := wt.1
    have hl : 1 + countLeaves t ≤ 24 := hl
    exact ⟨fun _ => may_at T wt.2 (by omega) ((all_at T wt.2 fu (by omega)).1 rfl), fun z => (nomatch z)⟩
  | .many n t, row, wt, fu, hl => by
    have wt' := wt
    obtain ⟨rfl, w1, w2, w3⟩ := wt
    have hl' : n * countLeaves t ≤ 24 := hl
    have hl2 : countLeaves t ≤ 24 := Nat.le_trans (Nat.le_mul_of_pos_left _ w1) hl'
    refine ⟨fun _ => ?_, fun z => (nomatch z)⟩
    have ec : cod (.many n t) = ML.rowCod ((List.replicate n t).map cod) := by rw [List.map_replicate]; exact ML.cod_many n t
    refine (row_at T (k := dp t) (x := "Many") (ts := List.replicate n t) rowc_many T.cl_Many T.me_Many_value_at (fun u hu => by rw [(List.mem_replicate.mp hu).2]; exact w3) (fun u hu => by rw [(List.mem_replicate.mp hu).2]; exact hl2) (by rw [List.length_replicate]; omega)
      (fun m hm => by
        have := nth_len wt' (n := m) (by rw [ec]; exact hm)
        rw [ec] at this
        exact Nat.le_trans this hl')
      (fun u hu => by rw [(List.mem_replicate.mp hu).2]; exact (all_how T w3 hl2).1 rfl) fun u hu => by rw [(List.mem_replicate.mp hu).2]; exact (all_at T w3 fu hl2).1 rfl).imp fun vs H Q E h => ?_
    obtain ⟨a, m, e, ka, r⟩ := h
    rw [ec] at r
    exact ⟨a, m, e, KA.many_row ka, r⟩
  | .rec_ fs, row, wt, fu, hl => by
    have wt' := wt
    obtain ⟨rfl, w1⟩ := wt
    have hl' : countLeaves fs ≤ 24 := hl
    refine ⟨fun _ => ?_, fun z => (nomatch z)⟩
    have ec := ML.cod_rec w1
    refine (row_at T (k := dp fs) (x := "Record") (ts := rows fs) rowc_rec T.cl_Record T.me_Record_value_at (fun u hu => wf_rows w1 hu) (fun u hu => Nat.le_trans (lv_rows hu) hl') (by rw [ML.rows_length]; exact Nat.le_trans ((full_leaves w1 fu.1).2 rfl) hl')
      (fun m hm => by
        have := nth_len wt' (n := m) (by rw [ec]; exact hm)
        rw [ec] at this
        exact Nat.le_trans this hl')
      (fun u hu => (all_how T w1 hl').2 rfl u hu) fun u hu => (all_at T w1 fu.1 hl').2 rfl u hu).imp fun vs H Q E h => ?_
    obtain ⟨a, m, e, ka, r⟩ := h
    rw [ec] at r
    exact ⟨a, m, e, KA.rec_row w1 ka, r⟩
  | .named x t, row, wt, fu, hl => by
    obtain ⟨rfl, _, w1⟩ := wt
    refine ⟨fun _ => ((all_at T w1 fu hl).1 rfl).imp fun vs H Q E h => ?_, fun z => (nomatch z)⟩
    obtain ⟨a, m, e, ka, r⟩ := h
    rw [ML.cod_named] at r
    exact ⟨a, m, e, ka.1, r⟩
  | .one_ fs, row, wt, fu, hl => by
    have wt' := wt
    obtain ⟨rfl, w1, w2, w3⟩ := wt
    have hl' : 1 + countLeaves fs ≤ 24 := hl
    exact ⟨fun _ => one_at T (k := dp fs) wt' hl (fun u hu => (all_how T w1 (by omega)).2 rfl u hu) fun u hu => (all_at T w1 fu (by omega)).2 rfl u hu, fun z => (nomatch z)⟩
  | .nil, row, wt, _, _ => by
    have wt : row = true := wt
    subst wt
    exact ⟨fun z => (nomatch z), fun _ u hu => by cases hu⟩
  | .field x h t r, row, wt, fu, hl => by
    obtain ⟨rfl, w1, w2⟩ := wt
    have hl : countLeaves t + countLeaves r ≤ 24 := hl
    have i1 := (all_at T w1 fu.1 (by omega)).1 rfl
    have i2 := (all_at T w2 fu.2 (by omega)).2 rfl
    refine ⟨fun z => (nomatch z), fun _ u hu => ?_⟩
    rcases List.mem_cons.mp hu with e | hu
    · rw [e]
      exact i1.mono (Nat.le_max_left _ _)
    · exact (i2 u hu).mono (Nat.le_max_right _ _)
end
end LY
set_option Elab.async false
set_option linter.all false
set_option maxRecDepth 100000
set_option maxHeartbeats 4000000
set_option exponentiation.threshold 10000
namespace LY
open PySem PySem.Spec PyProof.Rows L2
open Valaye (Niche Form formOf better moved noNiche bits0 sharedBits maybeForm taken_)
open Valaya (Ty countLeaves rowLength countBy)
open ML (Cod cod rows wf frm carrier Good)
section
variable {P : Program} {w : World} {K : PySem.W.Frag} {mg : Str → Option Value} {base : Heap}
/-! ### the value with these bits -/
abbrev s_Number_value_with : Stmt := inClass (top 12) 5
abbrev n_Number_value_with : List Str := ["self", "bits"]
theorem sc_Number_value_with : FnScope n_Number_value_with ["self", "bits"] (defScope s_Number_value_with) := ⟨rfl, rfl, rfl, by decide +kernel, rfl, by decide +kernel, by decide +kernel⟩
abbrev s_Maybe_value_with : Stmt := inClass (top 13) 6
abbrev n_Maybe_value_with : List Str := ["self", "bits"]
theorem sc_Maybe_value_with : FnScope n_Maybe_value_with ["self", "bits"] (defScope s_Maybe_value_with) := ⟨rfl, rfl, rfl, by decide +kernel, rfl, by decide +kernel, by decide +kernel⟩
abbrev s_One_value_with : Stmt := inClass (top 14) 6
abbrev n_One_value_with : List Str := ["self", "bits", "number", "inner"]
theorem sc_One_value_with : FnScope n_One_value_with ["self", "bits"] (defScope s_One_value_with) := ⟨rfl, rfl, rfl, by decide +kernel, rfl, by decide +kernel, by decide +kernel⟩
abbrev s_One_value_with_tag : Stmt := inClass (top 14) 7
abbrev n_One_value_with_tag : List Str := ["self", "number", "bits"]
theorem sc_One_value_with_tag : FnScope n_One_value_with_tag ["self", "number", "bits"] (defScope s_One_value_with_tag) := ⟨rfl, rfl, rfl, by decide +kernel, rfl, by decide +kernel, by decide +kernel⟩
abbrev s_Row_value_with : Stmt := inClass (top 16) 4
abbrev n_Row_value_with : List Str := ["self", "bits", "value", "rest", "part"]
theorem sc_Row_value_with : FnScope n_Row_value_with ["self", "bits"] (defScope s_Row_value_with) := ⟨rfl, rfl, rfl, by decide +kernel, rfl, by decide +kernel, by decide +kernel⟩

/-- what is handed back for r -/
def Gives (H : Hp) (Q : VK) (E : XK) (K : PySem.W.Frag) (r : Option (List Int)) : Prop :=
  (∀ v, r = some v → ∀ D H', H D = none → Same H H' → H' D = some (.lst (v.map V.int)) → Q (.ref D) H') ∧ (r = none → ∀ H', Same H H' → E (.ref (cNoValue K)) none H')
def spVW (K : PySem.W.Frag) (at_ : Hp → Addr → Prop) (c : Cod) : Sp := fun vs H Q E => ∃ (a : Addr) (n : Nat), vs = [.ref a, .int (n : Nat)] ∧ at_ H a ∧ n < 2 ^ 1000 ∧ Gives H Q E K (ML.D c n)
theorem num_with (T : Txt K mg) {lo hi : Int} {al : Nat} (wt : wf (.num lo hi al) false) : MOk P w K mg base (L2.CX P w) 2 (cNumber K) "value_with" (spVW K (atT K (.num lo hi al)) (cod (.num lo hi al))) :=
  mkM T.cl_Number T.me_Number_value_with T.d_Number_value_with sc_Number_value_with (fun vs H Q E h => by obtain ⟨a, n, rfl, _⟩ := h; rfl) (fun _ _ _ _ _ _ us hl => match us, hl with | [_, _], _ => rfl) fun cdv A outer s H vs Q E hr h => by
    obtain ⟨a, n, rfl, hka, hn, kq, ke⟩ := h
    obtain ⟨di, fi, i1, i2⟩ := KA.ins wt hka
    rw [ML.cod_num, ML.D_num wt.2.2.1 (by have := wt.2; omega)] at kq ke
    refine ⟨_, (pss_cons (ps_if (pt_cmpR op_ge (pv 1) (pe_mx0 (CX := CX0) hr pas0 (pv 0)) (nomark _)) (pss_one (ps_raise rfl (takes_of rfl rfl rfl rfl) T.mkNoValue)) pss_nil)
      (pss_one (ps_ret (by exact (pe_mx (CX := CX0) hr pas0 (pv 0) (by exact (pa_cons (pv 1) pa_nil))))))), ?_⟩
    refine ⟨_, rfl, _, rfl, a, _, di, fi, _, rfl, i1, i2.m1, (all_how T wt (show 1 ≤ 24 by decide)).1 rfl, a, rfl, hka, fun H1 s1 => ⟨_, _, rfl, rfl, _, rfl, ?_⟩⟩
    have ec : countBy (.num lo hi al) false = (hi - lo + 1).toNat := congrArg Cod.cnt (ML.cod_num lo hi al)
    by_cases c : (hi - lo + 1).toNat ≤ n
    · rw [if_pos c] at ke
      refine (show if decide (((countBy (.num lo hi al) false : Nat) : Int) ≤ (n : Int)) = true then _ else _ from iteC (by rw [ec]; omega) ?_)
      exact ke rfl H1 s1
    · rw [if_neg c] at kq
      refine (show if decide (((countBy (.num lo hi al) false : Nat) : Int) ≤ (n : Int)) = true then _ else _ from iteD (by rw [ec]; omega) ?_)
      refine ⟨_, rfl, a, _, di, fi, _, rfl, s1 _ _ i1, i2.m6, (num_at T wt).mono (by decide), _, rfl, a, n, rfl, hka.same s1, ?_, fun D H2 nD s2 d2 => kq _ rfl D H2 (free_of s1 nD) (s1.trans s2) ?_⟩
      · rw [ML.cod_num]
        show n < (hi - lo + 1).toNat
        omega
      · rw [ML.cod_num] at d2
        exact d2
theorem iteNC {c : Prop} [Decidable c] {A B : Prop} (h : c) (b : B) : if (!decide c) = true then A else B := by
  rw [decide_eq_true h]
  exact b
theorem iteND {c : Prop} [Decidable c] {A B : Prop} (h : ¬ c) (a : A) : if (!decide c) = true then A else B := by
  rw [decide_eq_false h]
  exact a
theorem map_some {r : Option (List Int)} {x : Int} {v : List Int} (h : r.map (fun v => x :: v) = some v) : ∃ v', r = some v' ∧ v = x :: v' := by
  cases r with
  | none => cases h
  | some w => exact ⟨w, rfl, (Option.some.inj h).symm⟩
/-- [x] before what came back -/
theorem cons_list {H : Hp} {L D : Addr} {x : V} {ys : List V} {Q : VK} (hL : H L = some (.lst [x])) (hD : H D = some (.lst ys)) (few : ys.length ≤ 24) (k : ∀ R, H R = none → Q (.ref R) (upd H R (.lst (x :: ys)))) :
    rCat (.ref L) (.ref D) H Q :=
  ⟨L, D, [x], ys, rfl, rfl, hL, hD, Nat.le_trans (by rw [List.length_cons, List.length_nil]; omega) (small1000 (Nat.le_refl 1000)), k⟩
theorem may_with (T : Txt K mg) {t : Ty} {k : Nat} (hk : 2 ≤ k) (wt : wf t false) (hl : countLeaves t ≤ 24) (ih : MOk P w K mg base (L2.CX P w) k (clsT K t) "value_with" (spVW K (atT K t) (cod t))) : MOk P w K mg base (L2.CX P w) (k + 1) (cMaybe K) "value_with" (spVW K (atT K (.maybe t)) (cod (.maybe t))) :=
  mkM T.cl_Maybe T.me_Maybe_value_with T.d_Maybe_value_with sc_Maybe_value_with (fun vs H Q E h => by obtain ⟨a, n, rfl, _⟩ := h; rfl) (fun _ _ _ _ _ _ us hl => match us, hl with | [_, _], _ => rfl) fun cdv A outer s H vs Q E hr h => by
    obtain ⟨a, n, rfl, hka, hn, kq, ke⟩ := h
    obtain ⟨b, dx, ii, sp, y, e, h1, h2, h3, h4⟩ := id hka
    cases e
    have g := (ML.good_cod wt).1 rfl
    rw [ML.cod_may, ML.D_may g] at kq ke
    refine ⟨_, (pss_cons (ps_if (pt_cmpR op_eq (pv 1) (pe_mx0 (CX := CX0) hr pas0 (pv 0)) (nomark _)) (pss_one (ps_ret (by exact (pe_lst (pa_cons pe_int pa_nil))))) pss_nil)
      (pss_cons (ps_if (pt_not (pt_val (pe_fld (pv 0) (by rfl)))) (pss_one (ps_ret (by exact (pe_op op_cat (pe_lst (pa_cons pe_int pa_nil)) (pe_mx (CX := L2.CX P w) (E := fun _ => E) hr (pasE (takes_of rfl rfl rfl rfl)) (pe_fld (pv 0) (by rfl)) (by exact (pa_cons (pv 1) pa_nil))))))) pss_nil)
      (pss_cons (ps_if (pt_cmpR op_eq (pe_op op_andM (pv 1) pe_int) pe_int (nomark _)) (pss_one (ps_raise rfl (takes_of rfl rfl rfl rfl) T.mkNoValue)) pss_nil)
      (pss_one (ps_ret (by exact (pe_op op_cat (pe_lst (pa_cons pe_int pa_nil)) (pe_mx (CX := L2.CX P w) (E := fun _ => E) hr (pasE (takes_of rfl rfl rfl rfl)) (pe_fld (pv 0) (by rfl)) (by exact (pa_cons (pe_op op_shr (pv 1) pe_int) pa_nil)))))))))), ?_⟩
    refine ⟨_, rfl, _, rfl, a, _, dx, _, _, rfl, h1, rfl, (may_nothing T wt hl).mono hk, a, rfl, hka, rfl, _, rfl, ?_⟩
    by_cases z : n = ML.noBits (cod t)
    · rw [if_pos z] at kq
      refine iteC (by rw [z]) ⟨small1000 (by decide), fun D nD => kq _ rfl D _ nD (same_new nD) ?_⟩
      rw [upd_same]
      rfl
    · rw [if_neg z] at kq ke
      refine iteD (by intro q; injection q with q; exact z (Int.ofNat.inj q)) ?_
      refine ⟨_, rfl, a, _, dx, _, _, rfl, h1, T.cl_Maybe, T.na_Maybe_tagged, rfl, _, rfl, ?_⟩
      by_cases c : (formOf t).niche.n = 0
      · rw [if_neg (show ¬ 0 < (cod t).nic.n by show ¬ 0 < (formOf t).niche.n; omega)] at kq ke
        refine iteNC c ⟨_, rfl, _, 1, rfl, rfl, rfl, _, rfl, ?_⟩
        have em : ((n : Int) % 2 ^ 1) = ((n % 2 : Nat) : Int) := by omega
        by_cases p : n % 2 = 0
        · rw [if_pos p] at ke
          refine iteC (by rw [em, p]; rfl) (ke rfl H (Same.refl _))
        · rw [if_neg p] at kq ke
          refine iteD (by rw [em]; intro q; injection q with q; exact p (Int.ofNat.inj q)) ?_
          refine ⟨small1000 (by decide), fun L nL => ?_⟩
          have s1 : Same H (upd H L (.lst [V.int 1])) := same_new nL
          have h2' := h2.same s1
          obtain ⟨di, fi, i1, i2⟩ := h2'.ins wt
          refine ⟨_, rfl, a, _, dx, _, _, rfl, s1 _ _ h1, T.cl_Maybe, T.na_Maybe_inner, rfl, ii, _, di, fi, _, rfl, i1, i2.m5, ih, _, rfl, _, _, rfl, rfl, (show (0 : Int) ≤ 1 by decide), ii, n / 2, rfl, h2', ?_, fun v hv D H2 nD s2 d2 => ?_, fun no H2 s2 => ?_⟩
          · omega
          · refine cons_list (s2 _ _ upd_same) d2 (by rw [List.length_map]; exact Nat.le_trans (D_len wt hv) hl) fun R nR => kq _ (by rw [hv]; rfl) R _ (free_of (s1.trans s2) nR) ((s1.trans s2).trans (same_new nR)) ?_
            rw [upd_same]
            rfl
          · exact ke (by rw [no]; rfl) H2 (s1.trans s2)
      · rw [if_pos (show 0 < (cod t).nic.n from Nat.pos_of_ne_zero c)] at kq ke
        refine iteND c ?_
        refine ⟨small1000 (by decide), fun L nL => ?_⟩
        have s1 : Same H (upd H L (.lst [V.int 1])) := same_new nL
        have h2' := h2.same s1
        obtain ⟨di, fi, i1, i2⟩ := h2'.ins wt
        refine ⟨_, rfl, a, _, dx, _, _, rfl, s1 _ _ h1, T.cl_Maybe, T.na_Maybe_inner, rfl, ii, _, di, fi, _, rfl, i1, i2.m5, ih, _, rfl, ii, n, rfl, h2', hn, fun v hv D H2 nD s2 d2 => ?_, fun no H2 s2 => ?_⟩
        · refine cons_list (s2 _ _ upd_same) d2 (by rw [List.length_map]; exact Nat.le_trans (D_len wt hv) hl) fun R nR => kq _ (by rw [hv]; rfl) R _ (free_of (s1.trans s2) nR) ((s1.trans s2).trans (same_new nR)) ?_
          rw [upd_same]
          rfl
        · exact ke (by rw [no]; rfl) H2 (s1.trans s2)
/-- what the alternative k holds -/
def altD (cs : List Cod) (k m : Nat) : Option (List Int) := match cs[k]? with
  | some c => (ML.D c m).map fun v => (k : Int) :: v
  | none => none
theorem one_tag (T : Txt K mg) {fs : Ty} {k : Nat} (wt : wf (.one_ fs) false) (hl : countLeaves (.one_ fs) ≤ 24) (ih : ∀ u ∈ rows fs, MOk P w K mg base (L2.CX P w) k (clsT K u) "value_with" (spVW K (atT K u) (cod u))) :
    MOk P w K mg base (L2.CX P w) (k + 1) (cOne K) "value_with_tag" (fun vs H Q E => ∃ (a : Addr) (j m : Nat), vs = [.ref a, .int (j : Nat), .int (m : Nat)] ∧ KA K H (.one_ fs) [a] ∧ m < 2 ^ 1000 ∧ Gives H Q E K (altD ((rows fs).map cod) j m)) :=
  mkM T.cl_One T.me_One_value_with_tag T.d_One_value_with_tag sc_One_value_with_tag (fun vs H Q E h => by obtain ⟨a, j, m, rfl, _⟩ := h; rfl) (fun _ _ _ _ _ _ us hl => match us, hl with | [_, _, _], _ => rfl) fun cdv A outer s H vs Q E hr h => by
    obtain ⟨a, j, m, rfl, hka, hm, kq, ke⟩ := h
    obtain ⟨b, dx, nl, al, sp, ias, y, e, h1, h2, h3, h4, h5, h6⟩ := id hka
    cases e
    obtain ⟨_, wr, w2, w4⟩ := id wt
    obtain ⟨len, get⟩ := h2.rows_at wr
    have hl' : 1 + countLeaves fs ≤ 24 := hl
    refine ⟨_, (pss_cons (ps_if (pt_cmpR op_ge (pv 1) (pe_callB call_len (by rfl) T.f_len (by decide +kernel) (by exact (pa_cons (pe_fld (pv 0) (by rfl)) pa_nil))) (nomark _)) (pss_one (ps_raise rfl (takes_of rfl rfl rfl rfl) T.mkNoValue)) pss_nil)
      (pss_one (ps_ret (by exact (pe_op op_cat (pe_lst (pa_cons (pv 1) pa_nil)) (pe_mx (CX := L2.CX P w) (E := fun _ => E) hr (pasE (takes_of rfl rfl rfl rfl)) (pe_ix ix_list (pe_fld (pv 0) (by rfl)) (pv 1) (fun _ _ => rfl)) (by exact (pa_cons (pv 2) pa_nil)))))))), ?_⟩
    refine ⟨_, rfl, _, rfl, a, _, dx, _, _, rfl, h1, T.cl_One, T.na_One_alternatives, rfl, _, ias.length, rfl, .inl ⟨_, SqL.of h4, by rw [List.length_map]⟩, _, _, rfl, rfl, _, rfl, ?_⟩
    cases hu : (rows fs)[j]? with
    | none =>
      have hj := List.getElem?_eq_none_iff.mp hu
      have e0 : altD ((rows fs).map cod) j m = none := by
        unfold altD
        rw [List.getElem?_map, hu]
        rfl
      exact (show if decide ((ias.length : Int) ≤ (j : Int)) = true then _ else _ from iteC (by omega) (ke e0 H (Same.refl _)))
    | some u =>
      have hj := (List.getElem?_eq_some_iff.mp hu).1
      have e0 : altD ((rows fs).map cod) j m = (ML.D (cod u) m).map fun v => (j : Int) :: v := by
        unfold altD
        rw [List.getElem?_map, hu]
        rfl
      rw [e0] at kq ke
      have hin := List.mem_of_getElem? hu
      have wu := wf_rows wr hin
      have lu := lv_rows hin
      obtain ⟨q, ha⟩ : ∃ q, ias[j]? = some q := ⟨_, List.getElem?_eq_getElem (by rw [len]; exact hj)⟩
      refine (show if decide ((ias.length : Int) ≤ (j : Int)) = true then _ else _ from iteD (by omega) ?_)
      refine ⟨_, rfl, small1000 (by decide), fun L nL => ?_⟩
      have s1 : Same H (upd H L (.lst [V.int j])) := same_new nL
      have kau := (get j q u ha hu).same s1
      obtain ⟨di, fi, i1, i2⟩ := kau.ins wu
      refine ⟨_, rfl, a, _, dx, _, _, rfl, s1 _ _ h1, T.cl_One, T.na_One_alternatives, rfl, _, rfl, _, _, _, V.ref q, rfl, rfl, SqL.of (s1 _ _ h4), atI_nat (by rw [List.getElem?_map, ha]; rfl), q, _, di, fi, _, rfl, i1, i2.m5, ih u hin, _, rfl, q, m, rfl, kau, hm, fun v hv D H2 nD s2 d2 => ?_, fun no H2 s2 => ?_⟩
      · refine cons_list (s2 _ _ upd_same) d2 (by rw [List.length_map]; exact Nat.le_trans (D_len wu hv) (by omega)) fun R nR => kq _ (by rw [hv]; rfl) R _ (free_of (s1.trans s2) nR) ((s1.trans s2).trans (same_new nR)) ?_
        rw [upd_same]
        rfl
      · exact ke (by rw [no]; rfl) H2 (s1.trans s2)
theorem D_alt {cs : List Cod} (g : ∀ c ∈ cs, Good c) (h2 : 2 ≤ cs.length) (h4 : cs.length ≤ 2 ^ 64) (e : carrier cs = none) (n : Nat) :
    ML.D (ML.oneCod cs) n = altD cs (n % Valaye.two (bits0 cs.length)) (n / Valaye.two (bits0 cs.length)) := by
  unfold altD
  cases h : cs[n % Valaye.two (bits0 cs.length)]? with
  | none => exact ML.D_one_no g h2 h4 e (List.getElem?_eq_none_iff.mp h)
  | some d => exact ML.D_one_t g h2 h4 e rfl h
theorem one_with (T : Txt K mg) {fs : Ty} {k : Nat} (hk : 2 ≤ k) (wt : wf (.one_ fs) false) (hl : countLeaves (.one_ fs) ≤ 24) (iha : ∀ u ∈ rows fs, MOk P w K mg base CX0 k (clsT K u) "value_at" (spVA K (atT K u) (cod u)))
    (ih : ∀ u ∈ rows fs, MOk P w K mg base (L2.CX P w) k (clsT K u) "value_with" (spVW K (atT K u) (cod u))) : MOk P w K mg base (L2.CX P w) (k + 2) (cOne K) "value_with" (spVW K (atT K (.one_ fs)) (cod (.one_ fs))) :=
  mkM T.cl_One T.me_One_value_with T.d_One_value_with sc_One_value_with (fun vs H Q E h => by obtain ⟨a, n, rfl, _⟩ := h; rfl) (fun _ _ _ _ _ _ us hl => match us, hl with | [_, _], _ => rfl) fun cdv A outer s H vs Q E hr h => by
    obtain ⟨a, n, rfl, hka, hn, kq, ke⟩ := h
    obtain ⟨b, dx, nl, al, sp, ias, y, e, h1, h2, h3, h4, h5, h6⟩ := id hka
    cases e
    obtain ⟨_, wr, w2, w4⟩ := id wt
    obtain ⟨len, get⟩ := h2.rows_at wr
    have hl' : 1 + countLeaves fs ≤ 24 := hl
    have cl : ((rows fs).map cod).length = rowLength fs := by rw [List.length_map, ML.rows_length]
    have len2 : ias.length = rowLength fs := by rw [len, ML.rows_length]
    have g : ∀ c ∈ (rows fs).map cod, Good c := fun c hc => by
      obtain ⟨u, hu, rfl⟩ := List.mem_map.mp hc
      exact (ML.good_cod (wf_rows wr hu)).1 rfl
    have g2 : 2 ≤ ((rows fs).map cod).length := by rw [cl]; exact w2
    have g4 : ((rows fs).map cod).length ≤ 2 ^ 64 := by rw [cl]; exact Nat.le_trans w4 (by decide)
    have b3 := bits0_small w2 w4
    rw [ML.cod_one wr] at kq ke
    refine ⟨_, (pss_cons (ps_if (pt_cmpR op_isN (pe_fld (pv 0) (by rfl)) pe_non (nomark _)) (pss_one (ps_ret (by exact (pe_mx (CX := L2.CX P w) (E := fun _ => E) hr (pasE (takes_of rfl rfl rfl rfl)) (pv 0) (by exact (pa_cons (pe_op op_andM (pv 1) (pe_op op_sub (pe_op op_shlW pe_int (pe_fld (pv 0) (by rfl))) pe_int)) (pa_cons (pe_op op_shr (pv 1) (pe_fld (pv 0) (by rfl))) pa_nil))))))) pss_nil)
      (pss_cons (ps_for (passes_of rfl) rfl (pi_enum (by rfl) T.f_enumerate (pa_cons (pe_fld (pv 0) (by rfl)) pa_nil)) (pg_tup rfl (pgs_cons (pg_name (i := 2) sc_One_value_with.nd rfl (Or.inl rfl)) (pgs_cons (pg_name (i := 3) sc_One_value_with.nd rfl (Or.inl rfl)) pgs_nil))) (pss_one (ps_if (PW.pt (pw_and (pt_cmpR op_ne (pv 2) (pe_fld (pv 0) (by rfl)) (nomark _)) (pw_and1 (pt_cmpR op_eq (pv 1) (pe_mx (CX := CX0) hr pas0 (pv 0) (by exact (pa_cons (pv 2) pa_nil))) (nomark _))))) (pss_one (ps_ret (by exact (pe_op op_cat (pe_lst (pa_cons (pv 2) pa_nil)) (pe_mx (CX := CX0) hr pas0 (pv 3) (by exact (pa_cons pe_int pa_nil))))))) pss_nil)))
      (pss_one (ps_ret (by exact (pe_op op_cat (pe_lst (pa_cons (pe_fld (pv 0) (by rfl)) pa_nil)) (pe_mx (CX := L2.CX P w) (E := fun _ => E) hr (pasE (takes_of rfl rfl rfl rfl)) (pe_ix ix_list (pe_fld (pv 0) (by rfl)) (pe_fld (pv 0) (by rfl)) (fun _ _ => rfl)) (by exact (pa_cons (pv 1) pa_nil))))))))), ?_⟩
    refine ⟨_, rfl, a, _, dx, _, _, rfl, h1, T.cl_One, T.na_One_carrier, rfl, rfl, _, rfl, ?_⟩
    cases hc : carrier ((rows fs).map cod) with
    | none =>
      rw [hc] at h1
      have kq : ∀ v, ML.D (ML.oneCod ((rows fs).map cod)) n = some v → _ := kq
      have ke : ML.D (ML.oneCod ((rows fs).map cod)) n = none → _ := ke
      rw [D_alt g g2 g4 hc, cl] at kq ke
      have et : (2 : Int) ^ bits0 (rowLength fs) = ((Valaye.two (bits0 (rowLength fs)) : Nat) : Int) := by
        rw [ML.two_eq, Int.natCast_pow]
        rfl
      refine iteC rfl ⟨_, rfl, a, _, dx, _, _, rfl, h1, rfl, one_tag T wt hl ih, _, rfl, _, rfl, a, _, dx, _, _, rfl, h1, T.cl_One, T.na_One_tag, rfl, _, _, rfl, rfl, shl_ok (n := 1) (by decide) (by omega), _, _, rfl, rfl, _, bits0 (rowLength fs), rfl, ?_, _, rfl, _, rfl, a, _, dx, _, _, rfl, h1, T.cl_One, T.na_One_tag, rfl, _, _, rfl, rfl, ?_, a, n % Valaye.two (bits0 (rowLength fs)), n / Valaye.two (bits0 (rowLength fs)), ?_, hka, ?_, kq, ke⟩
      · show V.int (1 * 2 ^ ((bits0 (rowLength fs) : Nat) : Int).toNat - 1) = _
        rw [Int.one_mul, Int.toNat_natCast]
      · exact Int.natCast_nonneg _
      · show [V.ref a, V.int ((n : Int) % 2 ^ bits0 (rowLength fs)), V.int ((n : Int) / 2 ^ ((bits0 (rowLength fs) : Nat) : Int).toNat)] = _
        rw [Int.toNat_natCast, et]
        rfl
      · exact Nat.lt_of_le_of_lt (Nat.div_le_self _ _) hn
    | some b =>
      rw [hc] at h1
      have kq : ∀ v, ML.D (ML.oneCod ((rows fs).map cod)) n = some v → _ := kq
      have ke : ML.D (ML.oneCod ((rows fs).map cod)) n = none → _ := ke
      obtain ⟨c, q1, q2, q3, q4, q5, q6⟩ := ML.carrier_some hc
      have hbl : b < rowLength fs := by
        rw [← cl]
        exact (List.getElem?_eq_some_iff.mp q1).1
      refine iteD (by intro q; cases q) ?_
      refine ⟨_, rfl, a, _, dx, _, _, rfl, h1, T.cl_One, T.na_One_alternatives, rfl, al, _, rfl, SqL.of h4, L2.for_it (L2.walk_enum (K := K) (a := al) (xs := ias.map V.ref)) (fun i σ H' => ∃ v1 v2 : Option V, σ = [some (.ref a), some (.int n), v1, v2] ∧ Same H H' ∧ ∀ k, k < i → k ≠ b → n ≠ Valaye.spareCode c.nic (ML.jOf b k))
        ⟨none, none, rfl, Same.refl _, fun k h => absurd h (Nat.not_lt_zero _)⟩ (fun i σ H' _ ⟨_, _, _, s5, _⟩ => SqL.of (s5 _ _ h4)) ?_ ?_⟩
      · rintro i y σ H' H'' hi ⟨v1, v2, rfl, s5, no⟩ ⟨Tp, x, y', rfl, nT, rfl, ex, ey⟩
        cases Option.some.inj ex
        obtain ⟨q, ha, rfl⟩ := map_get ey
        have s6 : Same H (upd H' Tp (.tup [.int (i : Nat), .ref q])) := fun c o e => by
          rw [upd_ne (ne_of_none (s5 c o e) nT)]
          exact s5 c o e
        rw [List.length_map, len2] at hi
        have hi2 : i < (rows fs).length := by rw [ML.rows_length]; exact hi
        have hu : (rows fs)[i]? = some (rows fs)[i] := List.getElem?_eq_getElem hi2
        generalize (rows fs)[i] = u at hu
        have hin := List.mem_of_getElem? hu
        have wu := wf_rows wr hin
        have lu := lv_rows hin
        have hcu : ((rows fs).map cod)[i]? = some (cod u) := by rw [List.getElem?_map, hu]; rfl
        refine ⟨Tp, _, rfl, .inl (.inl upd_same), rfl, _, _, rfl, _, _, rfl, rfl, ?_⟩
        refine ⟨_, rfl, _, rfl, a, _, dx, _, _, rfl, s6 _ _ h1, T.cl_One, T.na_One_carrier, rfl, rfl, _, rfl, ?_⟩
        by_cases z : i = b
        · refine iteNC (by rw [z]; rfl) (iteF ⟨_, _, rfl, s6, fun k hk hne => ?_⟩)
          rcases Nat.lt_or_ge k i with h | h
          · exact no k h hne
          · omega
        · refine iteND (by intro e; injection e with e; exact z (Int.ofNat.inj e)) ?_
          refine ⟨_, rfl, _, rfl, a, _, dx, _, _, rfl, s6 _ _ h1, rfl, (one_beside T wt hl).mono (by omega), _, rfl, a, b, i, c, rfl, hka.same s6, hc, q1, hi, z, rfl, _, rfl, ?_⟩
          by_cases h9 : n = Valaye.spareCode c.nic (ML.jOf b i)
          · rw [h9, ML.D_one_hit g g2 g4 hc q1 hcu z] at kq
            refine iteC (by rw [h9]) ?_
            refine ⟨_, rfl, small1000 (by decide), fun L nL => ?_⟩
            have s7 := s6.trans (same_new nL (o := .lst [V.int i]))
            have kau := (get i q u ha hu).same s7
            obtain ⟨di, fi, i1, i2⟩ := kau.ins wu
            refine ⟨_, rfl, q, _, di, fi, _, rfl, i1, i2.m6, (iha u hin).mono (by omega), q, 0, rfl, kau, ((ML.good_cod wu).1 rfl).pos, fun D H2 nD s8 d2 => ?_⟩
            have s9 := s7.trans s8
            refine cons_list (s8 _ _ upd_same) d2 (by rw [List.length_map]; exact Nat.le_trans (nth_len wu ((ML.good_cod wu).1 rfl).pos) (by omega)) fun R nR => kq _ rfl R _ (free_of s9 nR) (s9.trans (same_new nR)) ?_
            rw [upd_same]
            rfl
          · refine iteD (by intro e; injection e with e; exact h9 (Int.ofNat.inj e)) ⟨_, _, rfl, s6, fun k hk hne => ?_⟩
            rcases Nat.lt_or_ge k i with h | h
            · exact no k h hne
            · rw [show k = i by omega]
              exact h9
      · rintro σ H' ⟨v1, v2, rfl, s5, no⟩
        rw [List.length_map, len2] at no
        rw [ML.D_one_miss g g2 g4 hc q1 (fun k hk hne => no k (by rw [← cl]; exact hk) hne)] at kq ke
        obtain ⟨u, hu, eu⟩ := map_get q1
        subst eu
        have hin := List.mem_of_getElem? hu
        have wu := wf_rows wr hin
        have lu := lv_rows hin
        obtain ⟨q, ha⟩ : ∃ q, ias[b]? = some q := ⟨_, List.getElem?_eq_getElem (by rw [len2]; exact hbl)⟩
        refine ⟨_, rfl, a, _, dx, _, _, rfl, s5 _ _ h1, T.cl_One, T.na_One_carrier, rfl, small1000 (by decide), fun L nL => ?_⟩
        have s7 := s5.trans (same_new nL (o := .lst [V.int b]))
        have kau := (get b q u ha hu).same s7
        obtain ⟨di, fi, i1, i2⟩ := kau.ins wu
        refine ⟨_, rfl, a, _, dx, _, _, rfl, s7 _ _ h1, T.cl_One, T.na_One_alternatives, rfl, _, rfl, a, _, dx, _, _, rfl, s7 _ _ h1, T.cl_One, T.na_One_carrier, rfl, _, _, _, V.ref q, rfl, rfl, SqL.of (s7 _ _ h4), atI_nat (by rw [List.getElem?_map, ha]; rfl), q, _, di, fi, _, rfl, i1, i2.m5, (ih u hin).mono (by omega), _, rfl, q, n, rfl, kau, hn, fun v hv D H2 nD s2 d2 => ?_, fun none' H2 s2 => ?_⟩
        · refine cons_list (s2 _ _ upd_same) d2 (by rw [List.length_map]; exact Nat.le_trans (D_len wu hv) (by omega)) fun R nR => kq _ (by rw [hv]; rfl) R _ (free_of (s7.trans s2) nR) ((s7.trans s2).trans (same_new nR)) ?_
          rw [upd_same]
          rfl
        · exact ke (by rw [none']; rfl) H2 (s7.trans s2)
theorem dp_pos : ∀ {t : Ty}, wf t false → 0 < dp t
  | .num _ _ _, _ => Nat.one_pos
  | .maybe _, _ => Nat.succ_pos _
  | .many _ _, _ => Nat.succ_pos _
  | .rec_ _, _ => Nat.succ_pos _
  | .named _ t, w => dp_pos (t := t) w.2.2
  | .one_ _, _ => Nat.succ_pos _
  | .nil, w => (nomatch (show false = true from w))
  | .field _ _ _ _, w => (nomatch (show false = true from w.1))
theorem dp_pos_row : ∀ {t : Ty}, wf t true → 0 < rowLength t → 0 < dp t
  | .nil, _, h => absurd h (Nat.not_lt_zero _)
  | .field x h t r, w, _ => Nat.lt_of_lt_of_le (dp_pos w.2.1) (Nat.le_max_left (dp t) (dp r))
  | .num _ _ _, w, _ => (nomatch w.1)
  | .maybe _, w, _ => (nomatch w.1)
  | .many _ _, w, _ => (nomatch w.1)
  | .rec_ _, w, _ => (nomatch w.1)
  | .named _ _, w, _ => (nomatch w.1)
  | .one_ _, w, _ => (nomatch w.1)
theorem row_with (T : Txt K mg) {x : Str} (hx : RowC x) (cl : Cls K (He.ga K x)) (me : Meth K (He.ga K x) "value_with" (He.ma K (He.ga K x) "value_with")) {ts : List Ty} {k : Nat} (hw : ∀ u ∈ ts, wf u false) (hl : ∀ u ∈ ts, countLeaves u ≤ 24) (hts : (ts.map countLeaves).sum ≤ 24)
    (ih : ∀ u ∈ ts, MOk P w K mg base (L2.CX P w) k (clsT K u) "value_with" (spVW K (atT K u) (cod u))) :
    MOk P w K mg base (L2.CX P w) (k + 1) (He.ga K x) "value_with" (spVW K (rowAt K (He.ga K x) ts) (ML.rowCod (ts.map cod))) :=
  mkRM T hx (by decide +kernel) cl me T.d_Row_value_with sc_Row_value_with (fun vs H Q E h => by obtain ⟨a, n, rfl, _⟩ := h; rfl) (fun _ _ _ _ _ _ us hl => match us, hl with | [_, _], _ => rfl) fun cdv A outer s H vs Q E hr h => by
    obtain ⟨a, n, rfl, hR, hn, kq, ke⟩ := h
    obtain ⟨dx, fs, pl, as, h1, h2, h3, h4, h5⟩ := id hR
    have g : ∀ c ∈ ts.map cod, Good c := fun c hc => by
      obtain ⟨u, hu, rfl⟩ := List.mem_map.mp hc
      exact (ML.good_cod (hw u hu)).1 rfl
    rw [ML.D_row g] at kq ke
    refine ⟨_, (pss_cons (ps_set (i := 2) sc_Row_value_with.nd rfl (Or.inl rfl) (by exact (pe_lst pa_nil)))
      (pss_cons (ps_set (i := 3) sc_Row_value_with.nd rfl (Or.inl rfl) (by exact (pv 1)))
      (pss_cons (ps_for (passes_of rfl) rfl (pi_list (pe_fld (pv 0) (by rfl))) (pg_name (i := 4) sc_Row_value_with.nd rfl (Or.inl rfl)) (pss_cons (ps_expr (pe_bm PySem.F.plainAttrs_list PySem.F.slot_list_extend PySem.F.type_list_extend mt_extend (pv 2) (by exact (pa_cons (pe_mx (CX := L2.CX P w) (E := fun _ => E) hr (pasE (takes_of rfl rfl rfl rfl)) (pv 4) (by exact (pa_cons (pe_op op_andM (pv 3) (pe_op op_sub (pe_op op_shlW pe_int (pe_fld (pv 4) (by rfl))) pe_int)) pa_nil))) pa_nil))))
      (pss_one (ps_set (i := 3) sc_Row_value_with.nd rfl (Or.inl rfl) (by exact (pe_op op_shr (pv 3) (pe_fld (pv 4) (by rfl))))))))
      (pss_cons (ps_if (pt_cmpR op_gt (pv 3) pe_int (nomark _)) (pss_one (ps_raise rfl (takes_of rfl rfl rfl rfl) T.mkNoValue)) pss_nil)
      (pss_one (ps_ret (by exact (pv 2)))))))), ?_⟩
    refine ⟨Nat.zero_le _, fun F nF => ?_⟩
    have sF : Same H (upd H F (.lst [])) := same_new nF
    refine ⟨_, rfl, _, rfl, a, _, dx, fs, _, rfl, sF _ _ h1, cl, (row_cl T hx).n1, h2, pl, rfl, ⟨_, SqL.of (sF _ _ h3)⟩, for_list (K := K) (a := pl) (xs := as.map V.ref) (fun j σ H' => ∃ (r : Nat) (v : Option V) (acc : List Int), σ = [some (.ref a), some (.int n), some (.ref F), some (.int r), v] ∧ Same H H' ∧ H' F = some (.lst (acc.map V.int)) ∧ r < 2 ^ 1000 ∧
        acc.length ≤ ((ts.take j).map countLeaves).sum ∧ ML.loopD (ts.map cod) n = (ML.loopD ((ts.drop j).map cod) r).map fun v => acc ++ v)
      ⟨n, none, [], rfl, sF, upd_same, hn, Nat.le_refl _, by
        show ML.loopD (ts.map cod) n = (ML.loopD (ts.map cod) n).map fun v => v
        exact Option.map_id'.symm⟩ (fun j σ H' _ ⟨_, _, _, _, s5, _⟩ => SqL.of (s5 _ _ h3)) ?_ ?_⟩
    · rintro j y σ H1 hj ⟨r, v, acc, rfl, s1, f1, hr1, la, el⟩
      obtain ⟨q, hq, rfl⟩ := map_get hj
      have hlt : j < ts.length := by rw [← h4]; exact (List.getElem?_eq_some_iff.mp hq).1
      have hu : ts[j]? = some ts[j] := List.getElem?_eq_getElem hlt
      generalize ts[j] = u at hu
      have hm := List.mem_of_getElem? hu
      have wu := hw u hm
      have ka := (h5 _ q u hq hu).same s1
      obtain ⟨di, fi, i1, i2⟩ := ka.ins wu
      obtain ⟨yi, ny, pt⟩ := ka.part T wu
      have bs := bits_small wu (hl u hm)
      rw [drop_some hu] at el
      have el : ML.loopD (ts.map cod) n = ((ML.D (cod u) (r % Valaye.two (cod u).bits)).bind fun x => (ML.loopD ((ts.drop (j + 1)).map cod) (r / Valaye.two (cod u).bits)).map fun y => x ++ y).map fun v => acc ++ v := el
      have et : (2 : Int) ^ (cod u).bits = ((Valaye.two (cod u).bits : Nat) : Int) := by
        rw [ML.two_eq, Int.natCast_pow]
        rfl
      obtain ⟨C, dc, gs, p1, p2, p3, p4⟩ := pt.bits
      refine ⟨_, rfl, .inl ⟨rfl, _, SqL.of f1⟩, _, rfl, q, _, di, fi, _, rfl, i1, i2.m5, ih u hm, _, rfl, _, rfl, q, C, dc, gs, _, rfl, p1, p2, p3, p4, _, _, rfl, rfl, shl_ok (n := 1) (by decide) (by show 1 + (formOf u).bits ≤ _; omega), _, _, rfl, rfl, _, (cod u).bits, rfl, ?_, q, r % Valaye.two (cod u).bits, ?_, ka, ?_, fun v hv D H2 nD s2 d2 => ?_, fun no H2 s2 => ?_⟩
      · show V.int (1 * 2 ^ (((formOf u).bits : Nat) : Int).toNat - 1) = V.int (2 ^ (formOf u).bits - 1)
        rw [Int.one_mul, Int.toNat_natCast]
      · show [V.ref q, V.int ((r : Int) % 2 ^ (cod u).bits)] = _
        rw [et]
        rfl
      · exact Nat.lt_of_le_of_lt (Nat.mod_le _ _) hr1
      · rw [hv] at el
        have lv := D_len wu hv
        have sm : (acc ++ v).length ≤ ((ts.take (j + 1)).map countLeaves).sum := by
          rw [List.take_succ, hu, List.map_append, List.sum_append, List.length_append]
          show _ ≤ _ + (countLeaves u + 0)
          omega
        have all24 : ((ts.take (j + 1)).map countLeaves).sum ≤ 24 := by
          have e9 := congrArg (fun l : List Ty => (l.map countLeaves).sum) (List.take_append_drop (j + 1) ts)
          simp only [List.map_append, List.sum_append] at e9
          omega
        have s4 : Same H (upd H2 F (.lst (acc.map V.int ++ v.map V.int))) := fun b o e => (upd_ne (ne_of_none e nF)).trans (s2 _ _ (s1 _ _ e))
        obtain ⟨yi, ny, pt⟩ := ((h5 _ q u hq hu).same s4).part T wu
        obtain ⟨C, dc, gs, p1, p2, p3, p4⟩ := pt.bits
        refine ⟨F, D, _, _, rfl, rfl, s2 _ _ f1, d2, ?_, _, rfl, _, rfl, q, C, dc, gs, _, rfl, p1, p2, p3, p4, _, _, rfl, rfl, Int.natCast_nonneg _, r / Valaye.two (cod u).bits, some (.ref q), acc ++ v, ?_, s4, ?_, ?_, sm, ?_⟩
        · refine Nat.le_trans ?_ (small1000 (Nat.le_refl 1000))
          rw [List.length_map, List.length_map, ← List.length_append]
          omega
        · show [some (V.ref a), some (V.int n), some (V.ref F), some (V.int ((r : Int) / 2 ^ (((formOf u).bits : Nat) : Int).toNat)), some (V.ref q)] = _
          rw [Int.toNat_natCast, show (2 : Int) ^ (formOf u).bits = ((Valaye.two (cod u).bits : Nat) : Int) from et]
          rfl
        · rw [upd_same, List.map_append]
        · exact Nat.lt_of_le_of_lt (Nat.div_le_self _ _) hr1
        · rw [el]
          show ((ML.loopD ((ts.drop (j + 1)).map cod) (r / Valaye.two (cod u).bits)).map fun y => v ++ y).map (fun w => acc ++ w) = _
          rw [Option.map_map]
          congr 1
          funext z
          exact (List.append_assoc _ _ _).symm
      · refine ke ?_ H2 (s1.trans s2)
        rw [el, no]
        rfl
    · rintro σ H1 ⟨r, v, acc, rfl, s1, f1, hr1, la, el⟩
      rw [List.length_map, h4, List.drop_length] at el
      have el : ML.loopD (ts.map cod) n = (if 0 < r then none else some []).map fun v => acc ++ v := el
      refine ⟨_, rfl, _, _, rfl, rfl, _, rfl, ?_⟩
      by_cases z : 0 < r
      · rw [if_pos z] at el
        exact (show if decide ((0 : Int) < (r : Int)) = true then _ else _ from iteC (by omega) (ke el H1 s1))
      · rw [if_neg z] at el
        have el : ML.loopD (ts.map cod) n = some acc := by
          rw [el]
          exact congrArg some (List.append_nil acc)
        exact (show if decide ((0 : Int) < (r : Int)) = true then _ else _ from iteD (by omega) ⟨_, rfl, kq acc el F H1 nF s1 f1⟩)
/-- Room for value_with -/
def wl (t : Ty) : Nat := 2 * dp t + 1
theorem all_with (T : Txt K mg) : ∀ {t : Ty} {row : Bool}, wf t row → full t → countLeaves t ≤ 24 → (row = false → MOk P w K mg base (L2.CX P w) (wl t) (clsT K t) "value_with" (spVW K (atT K t) (cod t))) ∧ (row = true → ∀ u ∈ rows t, MOk P w K mg base (L2.CX P w) (wl t) (clsT K u) "value_with" (spVW K (atT K u) (cod u)))
  | .num lo hi al, row, wt, _, _ => by
    obtain rfl := wt.1
    exact ⟨fun _ => (num_with T wt).mono (show 2 ≤ 2 * 1 + 1 by decide), fun z => (nomatch z)⟩
  | .maybe t, row, wt, fu, hl => by
    obtain rfl := wt.1
    have hl : 1 + countLeaves t ≤ 24 := hl
    have hd := dp_pos wt.2
    have i1 := (all_with T wt.2 fu (by omega)).1 rfl
    exact ⟨fun _ => (may_with T (k := wl t) (by unfold wl; omega) wt.2 (by omega) i1).mono (show 2 * dp t + 1 + 1 ≤ 2 * (dp t + 1) + 1 by omega), fun z => (nomatch z)⟩
  | .many n t, row, wt, fu, hl => by
    have wt' := wt
    obtain ⟨rfl, w1, w2, w3⟩ := wt
    have hl' : n * countLeaves t ≤ 24 := hl
    have hl2 : countLeaves t ≤ 24 := Nat.le_trans (Nat.le_mul_of_pos_left _ w1) hl'
    have i1 := (all_with T w3 fu hl2).1 rfl
    refine ⟨fun _ => ?_, fun z => (nomatch z)⟩
    have ec : cod (.many n t) = ML.rowCod ((List.replicate n t).map cod) := by rw [List.map_replicate]; exact ML.cod_many n t
    refine ((row_with T (k := wl t) (x := "Many") (ts := List.replicate n t) rowc_many T.cl_Many T.me_Many_value_with (fun u hu => by rw [(List.mem_replicate.mp hu).2]; exact w3) (fun u hu => by rw [(List.mem_replicate.mp hu).2]; exact hl2) (by rw [List.map_replicate, List.sum_replicate_nat]; exact hl')
      fun u hu => by rw [(List.mem_replicate.mp hu).2]; exact i1).imp fun vs H Q E h => ?_).mono (show 2 * dp t + 1 + 1 ≤ 2 * (dp t + 1) + 1 by omega)
    obtain ⟨a, m, e, ka, r⟩ := h
    rw [ec] at r
    exact ⟨a, m, e, KA.many_row ka, r⟩
  | .rec_ fs, row, wt, fu, hl => by
    have wt' := wt
    obtain ⟨rfl, w1⟩ := wt
    have hl' : countLeaves fs ≤ 24 := hl
    have i1 := (all_with T w1 fu.1 hl').2 rfl
    refine ⟨fun _ => ?_, fun z => (nomatch z)⟩
    have ec := ML.cod_rec w1
    refine ((row_with T (k := wl fs) (x := "Record") (ts := rows fs) rowc_rec T.cl_Record T.me_Record_value_with (fun u hu => wf_rows w1 hu) (fun u hu => Nat.le_trans (lv_rows hu) hl') (by rw [rows_leaves w1]; exact hl')
      fun u hu => i1 u hu).imp fun vs H Q E h => ?_).mono (show 2 * dp fs + 1 + 1 ≤ 2 * (dp fs + 1) + 1 by omega)
    obtain ⟨a, m, e, ka, r⟩ := h
    rw [ec] at r
    exact ⟨a, m, e, KA.rec_row w1 ka, r⟩
  | .named x t, row, wt, fu, hl => by
    obtain ⟨rfl, _, w1⟩ := wt
    have i1 := (all_with T w1 fu hl).1 rfl
    refine ⟨fun _ => i1.imp fun vs H Q E h => ?_, fun z => (nomatch z)⟩
    obtain ⟨a, m, e, ka, r⟩ := h
    rw [ML.cod_named] at r
    exact ⟨a, m, e, ka.1, r⟩
  | .one_ fs, row, wt, fu, hl => by
    have wt' := wt
    obtain ⟨rfl, w1, w2, w3⟩ := wt
    have hl' : 1 + countLeaves fs ≤ 24 := hl
    have i1 := (all_with T w1 fu (by omega)).2 rfl
    have hd := dp_pos_row w1 (by omega)
    exact ⟨fun _ => (one_with T (k := wl fs) (by unfold wl; omega) wt' hl (fun u hu => ((all_at T w1 fu (by omega)).2 rfl u hu).mono (show dp fs ≤ 2 * dp fs + 1 by omega)) i1).mono (show 2 * dp fs + 1 + 2 ≤ 2 * (dp fs + 1) + 1 by omega), fun z => (nomatch z)⟩
  | .nil, row, wt, _, _ => by
    have wt : row = true := wt
    subst wt
    exact ⟨fun z => (nomatch z), fun _ u hu => by cases hu⟩
  | .field x h t r, row, wt, fu, hl => by
    obtain ⟨rfl, w1, w2⟩ := wt
    have hl : countLeaves t + countLeaves r ≤ 24 := hl
    have i1 := (all_with T w1 fu.1 (by omega)).1 rfl
    have i2 := (all_with T w2 fu.2 (by omega)).2 rfl
    have m1 : dp t ≤ dp (.field x h t r) := Nat.le_max_left _ _
    have m2 : dp r ≤ dp (.field x h t r) := Nat.le_max_right _ _
    refine ⟨fun z => (nomatch z), fun _ u hu => ?_⟩
    rcases List.mem_cons.mp hu with e | hu
    · rw [e]
      exact i1.mono (show 2 * dp t + 1 ≤ 2 * dp (.field x h t r) + 1 by omega)
    · exact (i2 u hu).mono (show 2 * dp r + 1 ≤ 2 * dp (.field x h t r) + 1 by omega)
end
end LY
set_option Elab.async false
set_option linter.all false
set_option maxRecDepth 100000
set_option maxHeartbeats 4000000
set_option exponentiation.threshold 10000
namespace LY
open PySem PySem.Spec PyProof.Rows L2
open Valaye (Niche Form formOf better moved noNiche bits0 sharedBits maybeForm taken_ packedBits flatBits sizesOf readBytes nats)
open Valaya (Ty countLeaves rowLength countBy)
open ML (Cod cod rows wf frm carrier Good)
/-! ### sizes, as the words have them -/
theorem upTo_by : ∀ f n, Valaye.bitsUpTo f n = Valaya.bitsBy f n
  | 0, _ => rfl
  | f + 1, n => by
    show (if n ≤ 1 then 0 else Valaye.bitsUpTo f ((n + 1) / 2) + 1) = if n ≤ 1 then 0 else Valaya.bitsBy f ((n + 1) / 2) + 1
    rw [upTo_by f]
/-- what a record's type has to be -/
structure Fit (t : Ty) : Prop where
  wf : wf t false
  full : full t
  lv : countLeaves t ≤ 24
  dp : dp t ≤ 48
theorem Fit.good {t : Ty} (f : Fit t) : Good (cod t) := (ML.good_cod f.wf).1 rfl
theorem Fit.cnt {t : Ty} (f : Fit t) : 1 ≤ countBy t false ∧ countBy t false ≤ 2 ^ 528 := ⟨f.good.pos, cnt_small f.wf f.lv⟩
theorem Fit.packed {t : Ty} (f : Fit t) : packedBits t = ML.bl (countBy t false - 1) := by
  unfold packedBits Valaya.countOf
  rw [upTo_by, ML.bitsBy_bl f.cnt.1 (Nat.le_trans f.cnt.2 (pow_mono (by decide)))]
theorem Fit.packed_le {t : Ty} (f : Fit t) : packedBits t ≤ 529 := by
  rw [f.packed]
  unfold ML.bl
  by_cases z : countBy t false - 1 = 0
  · rw [if_pos z]
    exact Nat.zero_le _
  · rw [if_neg z]
    have h : countBy t false - 1 < 2 ^ 528 := by
      have := f.cnt
      omega
    have := (Nat.log2_lt z).mpr h
    omega
theorem Fit.bits {t : Ty} (f : Fit t) : (formOf t).bits ≤ 528 := bits_small f.wf f.lv
theorem read_lt {b n : Nat} {l : List Int} (hb : b ≤ 600) (h : readBytes b l = some n) : n < 2 ^ 1000 := by
  unfold readBytes at h
  by_cases c : l.length = Valaye.bytesFor b ∧ l.all (fun z => decide (0 ≤ z ∧ z < 256)) = true
  · rw [if_pos c] at h
    cases h
    have := nat_lt (l.map fun z => z.toNat) fun x hx => by
      obtain ⟨z, hz, rfl⟩ := List.mem_map.mp hx
      have := of_decide_eq_true (List.all_eq_true.mp c.2 z hz)
      omega
    refine Nat.lt_of_lt_of_le this (pow_mono ?_)
    rw [List.length_map, c.1]
    unfold Valaye.bytesFor
    omega
  · rw [if_neg c] at h
    cases h
theorem width_eq {a b : Int} (h1 : -1000000 ≤ a) (h2 : a ≤ b) (h3 : b ≤ 1000000) : Valaya.bitsFor (b - a + 1).toNat = max 1 (bits0 (b - a + 1).toNat) := rfl
theorem leaves_flat : ∀ {t : Ty} {row : Bool}, wf t row → ∀ (k : Nat) (x : ValayBase.Bytes) (h : Nat) (g : List (Nat × Nat)) (alt : Option (Nat × Nat)), ((Valaya.leavesBy t k x h g alt).map Valaya.width).sum = flatT t
  | .num a b c, row, w => fun k x h g alt => rfl
  | .maybe t, row, w => fun k x h g alt => by
    have := leaves_flat w.2 (k + 1) (Valaya.dotted x (ValayBase.word "some")) h (g ++ [(k, 1)]) none
    show Valaya.bitsFor ((1 : Int) - 0 + 1).toNat + ((Valaya.leavesBy t (k + 1) (Valaya.dotted x (ValayBase.word "some")) h (g ++ [(k, 1)]) none).map Valaya.width).sum = 1 + flatT t
    rw [this]
    rfl
  | .many n t, row, w => fun k x h g alt => by
    have ih := leaves_flat w.2.2.2
    show (((List.range n).flatMap fun i => Valaya.leavesBy t (k + i * countLeaves t) (Valaya.dotted x (ValayBase.showNat i)) h g none).map Valaya.width).sum = n * flatT t
    rw [List.map_flatMap]
    have : ∀ l : List Nat, (l.flatMap fun i => (Valaya.leavesBy t (k + i * countLeaves t) (Valaya.dotted x (ValayBase.showNat i)) h g none).map Valaya.width).sum = l.length * flatT t := fun l => by
      induction l with
      | nil => simp
      | cons a l ihl => rw [List.flatMap_cons, List.sum_append, ihl, ih, List.length_cons, Nat.succ_mul, Nat.add_comm]
    rw [this, List.length_range]
  | .rec_ fs, row, w => fun k x h g alt => leaves_flat w.2 k x h g none
  | .named _ t, row, w => fun k x h g alt => leaves_flat w.2.2 k x h g none
  | .one_ fs, row, w => fun k x h g alt => by
    have := leaves_flat w.2.1 (k + 1) x h g (some (k, 0))
    show Valaya.bitsFor ((rowLength fs : Int) - 1 - 0 + 1).toNat + ((Valaya.leavesBy fs (k + 1) x h g (some (k, 0))).map Valaya.width).sum = bits0 (rowLength fs) + flatT fs
    rw [this, show ((rowLength fs : Int) - 1 - 0 + 1).toNat = rowLength fs by omega, (bits0_small w.2.2.1 w.2.2.2).2.1]
  | .nil, row, w => fun k x h g alt => rfl
  | .field y f t r, row, w => fun k x h g alt => by
    have i1 := leaves_flat w.2.1
    have i2 := leaves_flat w.2.2
    cases alt with
    | none =>
      show ((Valaya.leavesBy t k (Valaya.dotted x y.name) (h * f) g none ++ Valaya.leavesBy r (k + countLeaves t) x h g none).map Valaya.width).sum = flatT t + flatT r
      rw [List.map_append, List.sum_append, i1, i2]
    | some a =>
      show ((Valaya.leavesBy t k (Valaya.dotted x y.name) (h * f) (g ++ [a]) none ++ Valaya.leavesBy r (k + countLeaves t) x h g (some (a.1, a.2 + 1))).map Valaya.width).sum = flatT t + flatT r
      rw [List.map_append, List.sum_append, i1, i2]
theorem Fit.flat {t : Ty} (f : Fit t) : flatBits t = flatT t := leaves_flat f.wf _ _ _ _ _
/-! ### what is told of a record -/
inductive Out where
  | list (l : List Int)
  | noV
  | noB
def encO (t : Ty) (v : List Int) : Out := match Valaye.encode t v with
  | none => .noV
  | some n => .list (toldRow (formOf t).bits n)
def valO : Option (List Int) → Out
  | none => .noV
  | some l => .list ((l.length : Int) :: l)
def decO (t : Ty) (b : List Int) : Out := match readBytes (formOf t).bits b with
  | none => .noB
  | some n => valO (Valaye.decode t n)
def packO (t : Ty) (v : List Int) : Out := if (Valaya.codesOf t v).isSome = true then .list (toldRow (packedBits t) (Valaya.indexOf t v)) else .noV
def unpackO (t : Ty) (b : List Int) : Out := match readBytes (packedBits t) b with
  | none => .noB
  | some n => if n < Valaya.countOf t then valO (some (Valaya.nthOf t n)) else .noV
def nicheL (t : Ty) : List Int := if (formOf t).niche.n = 0 then [((formOf t).bits : Int), 0] else ((formOf t).bits : Int) :: nats [(formOf t).niche.n, (formOf t).niche.off, (formOf t).niche.w, (formOf t).niche.first]
def toldO (t : Ty) (c : Int) (row : List Int) : Out :=
  if c = 1 then .list (1 :: nats (sizesOf t)) else if c = 2 then .list (nicheL t) else if c = 3 then encO t row else if c = 4 then decO t row else if c = 5 then packO t row else unpackO t row
section
variable {P : Program} {w : World} {K : PySem.W.Frag} {mg : Str → Option Value} {base : Heap}
abbrev s_sizes : Stmt := top 83
abbrev n_sizes : List Str := ["record"]
theorem sc_sizes : FnScope n_sizes ["record"] (defScope s_sizes) := ⟨rfl, rfl, rfl, by decide +kernel, rfl, by decide +kernel, by decide +kernel⟩
abbrev s_packed_bits : Stmt := top 84
abbrev n_packed_bits : List Str := ["record"]
theorem sc_packed_bits : FnScope n_packed_bits ["record"] (defScope s_packed_bits) := ⟨rfl, rfl, rfl, by decide +kernel, rfl, by decide +kernel, by decide +kernel⟩
abbrev s_niche : Stmt := top 85
abbrev n_niche : List Str := ["record", "spare"]
theorem sc_niche : FnScope n_niche ["record"] (defScope s_niche) := ⟨rfl, rfl, rfl, by decide +kernel, rfl, by decide +kernel, by decide +kernel⟩
abbrev s_enc : Stmt := top 86
abbrev n_enc : List Str := ["record", "value", "cursor", "bits"]
theorem sc_enc : FnScope n_enc ["record", "value"] (defScope s_enc) := ⟨rfl, rfl, rfl, by decide +kernel, rfl, by decide +kernel, by decide +kernel⟩
abbrev s_dec : Stmt := top 87
abbrev n_dec : List Str := ["record", "row", "value"]
theorem sc_dec : FnScope n_dec ["record", "row"] (defScope s_dec) := ⟨rfl, rfl, rfl, by decide +kernel, rfl, by decide +kernel, by decide +kernel⟩
abbrev s_pack : Stmt := top 88
abbrev n_pack : List Str := ["record", "value", "cursor", "number"]
theorem sc_pack : FnScope n_pack ["record", "value"] (defScope s_pack) := ⟨rfl, rfl, rfl, by decide +kernel, rfl, by decide +kernel, by decide +kernel⟩
abbrev s_unpack : Stmt := top 89
abbrev n_unpack : List Str := ["record", "row", "number", "value"]
theorem sc_unpack : FnScope n_unpack ["record", "row"] (defScope s_unpack) := ⟨rfl, rfl, rfl, by decide +kernel, rfl, by decide +kernel, by decide +kernel⟩
abbrev s_told_of_record : Stmt := top 82
abbrev n_told_of_record : List Str := ["record", "number", "row"]
theorem sc_told_of_record : FnScope n_told_of_record ["record", "number", "row"] (defScope s_told_of_record) := ⟨rfl, rfl, rfl, by decide +kernel, rfl, by decide +kernel, by decide +kernel⟩
abbrev s_rank : Stmt := top 90
abbrev n_rank : List Str := ["records", "told", "record"]
theorem sc_rank : FnScope n_rank ["records"] (defScope s_rank) := ⟨rfl, rfl, rfl, by decide +kernel, rfl, by decide +kernel, by decide +kernel⟩

def GivesO (H : Hp) (Q : VK) (E : XK) (K : PySem.W.Frag) : Out → Prop
  | .list l => ∀ D H', H D = none → Same H H' → H' D = some (.lst (l.map V.int)) → Q (.ref D) H'
  | .noV => ∀ H', Same H H' → E (.ref (cNoValue K)) none H'
  | .noB => ∀ H', Same H H' → E (.ref (cNoBytes K)) none H'
def RecK (K : PySem.W.Frag) (H : Hp) (a : Addr) (t : Ty) : Prop := KA K H t [a] ∧ Fit t ∧ clsT K t = cRecord K
theorem RecK.same {H H' : Hp} {a : Addr} {t : Ty} (h : RecK K H a t) (s : Same H H') : RecK K H' a t := ⟨h.1.same s, h.2⟩
theorem ok_packed_bits (T : Txt K mg) : COk P w K mg base CX0 50 "packed_bits" (fun vs H Q _ => ∃ a t, vs = [.ref a] ∧ RecK K H a t ∧ ∀ H', Same H H' → Q (.int (packedBits t : Nat)) H') :=
  mkC T.g_packed_bits T.d_packed_bits sc_packed_bits (fun vs H Q E h => by obtain ⟨a, t, rfl, _⟩ := h; rfl) (fun _ _ _ _ _ _ us hl => match us, hl with | [_], _ => rfl) fun cdv A outer s H vs Q E hr h => by
    obtain ⟨a, t, rfl, ⟨ka, ft, ec⟩, kk⟩ := h
    obtain ⟨di, fi, i1, i2⟩ := ka.ins ft.wf
    rw [ft.packed] at kk
    refine ⟨_, PSs.nox (pss_one (ps_ret (by exact (pe_cx (CX := CX0) hr pas0 (by exact (pa_cons (pe_mx0 (CX := CX0) hr pas0 (pv 0)) pa_nil)))))), ?_⟩
    refine ⟨spBitsFor, (ok_bits_for T).mono (by decide), _, rfl, a, _, di, fi, _, rfl, i1, i2.m1, ((all_how T ft.wf ft.lv).1 rfl).mono (Nat.le_trans ft.dp (by decide)), a, rfl, ka, fun H1 s1 => ⟨countBy t false, ft.cnt.1, rfl, kk H1 s1⟩⟩
def spSizes (K : PySem.W.Frag) : Sp := fun vs H Q _ => ∃ a t, vs = [.ref a] ∧ RecK K H a t ∧ ∀ D H', H D = none → Same H H' → H' D = some (.lst ((nats (sizesOf t)).map V.int)) → Q (.ref D) H'
theorem ok_sizes (T : Txt K mg) : COk P w K mg base CX0 52 "sizes" (spSizes K) :=
  mkC T.g_sizes T.d_sizes sc_sizes (fun vs H Q E h => by obtain ⟨a, t, rfl, _⟩ := h; rfl) (fun _ _ _ _ _ _ us hl => match us, hl with | [_], _ => rfl) fun cdv A outer s H vs Q E hr h => by
    obtain ⟨a, t, rfl, hr', kk⟩ := h
    obtain ⟨ka, ft, ec⟩ := id hr'
    obtain ⟨y, ny, C, dx, fs, sp, h1, h2, h3, h4, h5, h6, h7, h8, h9⟩ := ka.part T ft.wf
    refine ⟨_, PSs.nox (pss_one (ps_ret (by exact (pe_lst (pa_cons (pe_fld (pv 0) (by rfl)) (pa_cons (pe_fld (pv 0) (by rfl)) (pa_cons (pe_fld (pv 0) (by rfl)) (pa_cons (pe_cx (CX := CX0) hr pas0 (by exact (pa_cons (pv 0) pa_nil))) pa_nil)))))))), ?_⟩
    refine ⟨_, rfl, a, C, dx, fs, _, rfl, h1, h2, h3.2.2.1, h6, _, rfl, a, C, dx, fs, _, rfl, h1, h2, h3.2.2.2.1, h7, _, rfl, a, C, dx, fs, _, rfl, h1, h2, h3.1, h4, _, (ok_packed_bits T).mono (by decide), _, rfl, a, t, rfl, hr', fun H1 s1 => ⟨small1000 (Nat.le_of_ble_eq_true rfl), fun D nD => kk D _ (free_of s1 nD) (s1.trans (same_new nD)) ?_⟩⟩
    rw [upd_same]
    unfold sizesOf
    rw [ft.flat]
    rfl
theorem ok_niche (T : Txt K mg) : COk P w K mg base CX0 2 "niche" (fun vs H Q _ => ∃ a t, vs = [.ref a] ∧ RecK K H a t ∧ ∀ D H', H D = none → Same H H' → H' D = some (.lst ((nicheL t).map V.int)) → Q (.ref D) H') :=
  mkC T.g_niche T.d_niche sc_niche (fun vs H Q E h => by obtain ⟨a, t, rfl, _⟩ := h; rfl) (fun _ _ _ _ _ _ us hl => match us, hl with | [_], _ => rfl) fun cdv A outer s H vs Q E hr h => by
    obtain ⟨a, t, rfl, hr', kk⟩ := h
    obtain ⟨ka, ft, ec⟩ := id hr'
    obtain ⟨y, ny, C, dx, fs, sp, h1, h2, h3, h4, h5, h6, h7, h8, ⟨ds, h9⟩⟩ := ka.part T ft.wf
    unfold nicheL at kk
    refine ⟨_, PSs.nox (pss_cons (ps_set (i := 1) sc_niche.nd rfl (Or.inl rfl) (by exact (pe_fld (pv 0) (by rfl))))
      (pss_cons (ps_if (pt_cmpR op_eq (pe_fld (pv 1) (by rfl)) pe_int (nomark _)) (pss_one (ps_ret (by exact (pe_lst (pa_cons (pe_fld (pv 0) (by rfl)) (pa_cons pe_int pa_nil)))))) pss_nil)
      (pss_one (ps_ret (by exact (pe_lst (pa_cons (pe_fld (pv 0) (by rfl)) (pa_cons (pe_fld (pv 1) (by rfl)) (pa_cons (pe_fld (pv 1) (by rfl)) (pa_cons (pe_fld (pv 1) (by rfl)) (pa_cons (pe_fld (pv 1) (by rfl)) pa_nil))))))))))), ?_⟩
    refine ⟨_, rfl, a, C, dx, fs, _, rfl, h1, h2, h3.2.2.2.2, h8, ?_⟩
    refine ⟨_, rfl, sp, _, ds, _, _, rfl, h9, T.cl_Spare, T.na_Spare_left, rfl, rfl, _, rfl, ?_⟩
    by_cases z : (formOf t).niche.n = 0
    · rw [if_pos z] at kk
      have zy : y.n = 0 := by
        rcases Nat.eq_zero_or_pos y.n with h | h
        · exact h
        · exact absurd z (by have := ny.1; omega)
      refine iteC (by show V.int ((y.n : Nat) : Int) = V.int 0; rw [zy]; rfl) ⟨_, rfl, a, C, dx, fs, _, rfl, h1, h2, h3.1, h4, small1000 (Nat.le_of_ble_eq_true rfl), fun D nD => kk D _ nD (same_new nD) ?_⟩
      rw [upd_same]
      rfl
    · rw [if_neg z] at kk
      have ey := ny.2 (Nat.pos_of_ne_zero z)
      subst ey
      refine iteD (by intro e; injection e with e; exact z (Int.ofNat.inj e)) ?_
      refine ⟨_, rfl, a, C, dx, fs, _, rfl, h1, h2, h3.1, h4, _, rfl, sp, _, ds, _, _, rfl, h9, T.cl_Spare, T.na_Spare_left, rfl, _, rfl, sp, _, ds, _, _, rfl, h9, T.cl_Spare, T.na_Spare_at, rfl, _, rfl, sp, _, ds, _, _, rfl, h9, T.cl_Spare, T.na_Spare_width, rfl, _, rfl, sp, _, ds, _, _, rfl, h9, T.cl_Spare, T.na_Spare_first, rfl, small1000 (Nat.le_of_ble_eq_true rfl), fun D nD => kk D _ nD (same_new nD) ?_⟩
      rw [upd_same]
      rfl
/-- what holds after a cursor is made, and read from -/
theorem SameBut.new {H H1 H2 : Hp} {c : Addr} (n : H c = none) (s1 : Same H H1) (s2 : SameBut c H1 H2) : Same H H2 := fun b o e => s2 b o (s1 b o e) (ne_of_none e n)
def spRow (K : PySem.W.Frag) (o : Ty → List Int → Out) : Sp := fun vs H Q E => ∃ (a l : Addr) (t : Ty) (ns : List Int), vs = [.ref a, .ref l] ∧ RecK K H a t ∧ SqL K H l (ns.map V.int) ∧ GivesO H Q E K (o t ns)
theorem ok_enc (T : Txt K mg) : COk P w K mg base (L2.CX P w) 104 "enc" (spRow K encO) :=
  mkC T.g_enc T.d_enc sc_enc (fun vs H Q E h => by obtain ⟨a, l, t, ns, rfl, _⟩ := h; rfl) (fun _ _ _ _ _ _ us hl => match us, hl with | [_, _], _ => rfl) fun cdv A outer s H vs Q E hr h => by
    obtain ⟨a, l, t, ns, rfl, hr', hS, gv⟩ := h
    obtain ⟨ka, ft, ec⟩ := id hr'
    have bs := ft.bits
    have dpt := ft.dp
    have gd := ft.good
    unfold encO at gv
    rw [ML.encode_eq] at gv
    refine ⟨_, (pss_cons (ps_set (i := 2) sc_enc.nd rfl (Or.inl rfl) (by exact (pe_kx hr (by exact (pa_cons (pv 1) pa_nil)))))
      (pss_cons (ps_set (i := 3) sc_enc.nd rfl (Or.inl rfl) (by exact (pe_mx (CX := L2.CX P w) (E := fun _ => E) hr (pasE (takes_of rfl rfl rfl rfl)) (pv 0) (by exact (pa_cons (pv 2) pa_nil)))))
      (pss_cons (ps_expr (pe_mx0 (CX := L2.CX P w) (E := fun _ => E) hr (pasE (takes_of rfl rfl rfl rfl)) (pv 2)))
      (pss_one (ps_ret (by exact (pe_cx (CX := CX0) hr pas0 (by exact (pa_cons (pv 3) (pa_cons (pe_fld (pv 0) (by rfl)) pa_nil)))))))))), ?_⟩
    refine ⟨cCursor K, spCuInit K, (ok_Cursor T).mono (by decide), _, rfl, fun cu dcu ncu nd ne => ⟨cu, dcu, l, rfl, upd_same, fun H1 e kp => ⟨rfl, ?_⟩⟩⟩
    have s1 := Same.made ncu nd kp
    have c1 : CurAt K H1 cu ns 0 := ⟨dcu, l, e, s1.seq hS, Nat.zero_le _⟩
    have ka1 : KA K (Wo cu H1) t [a] := ka.same (Wo.new ncu s1)
    obtain ⟨di, fi, i1, i2⟩ := (ka.same s1).ins ft.wf
    refine ⟨_, rfl, a, _, di, fi, _, rfl, i1, i2.m3, ((all_bits T ft.wf ft.lv).1 rfl).mono (by omega), _, rfl, a, cu, ns, 0, rfl, ka1, c1, fun r hr' H2 s2 c2 => ?_, fun no H2 s2 => ?_⟩
    · have s3 := SameBut.new ncu s1 s2
      obtain ⟨dc, lc, u1, u2, u3⟩ := id c2
      have hrl := (gd.suffix hr').1
      refine ⟨_, rfl, cu, _, dc, _, _, rfl, u1, rfl, (ok_end T).mono (by decide), cu, ns, _, rfl, c2, fun full => ?_, fun nf => ?_⟩
      · have r0 : r = [] := List.eq_nil_of_length_eq_zero (by omega)
        subst r0
        have hr' : (cod t).eat ns = some [] := hr'
        rw [if_pos hr'] at gv
        obtain ⟨y, ny, pt⟩ := (ka.same s3).part T ft.wf
        obtain ⟨C, dx, fs, p1, p2, p3, p4⟩ := pt.bits
        exact ⟨spBytesTold, (ok_bytes_told T).mono (by decide), _, rfl, _, rfl, a, C, dx, fs, _, rfl, p1, p2, p3, p4, _, (formOf t).bits, rfl, by omega, fun D H3 nD s4 d => gv D H3 (free_of s3 nD) (s3.trans s4) d⟩
      · have : ¬ (cod t).eat ns = some [] := fun e => by
          have hr' : (cod t).eat ns = some r := hr'
          rw [e] at hr'
          cases hr'
          exact nf rfl
        rw [if_neg this] at gv
        exact gv H2 s3
    · have no : (cod t).eat ns = none := no
      rw [if_neg (by rw [no]; intro z; cases z)] at gv
      exact gv H2 (SameBut.new ncu s1 s2)
theorem ok_dec (T : Txt K mg) : COk P w K mg base (L2.CX P w) 104 "dec" (spRow K decO) :=
  mkC T.g_dec T.d_dec sc_dec (fun vs H Q E h => by obtain ⟨a, l, t, ns, rfl, _⟩ := h; rfl) (fun _ _ _ _ _ _ us hl => match us, hl with | [_, _], _ => rfl) fun cdv A outer s H vs Q E hr h => by
    obtain ⟨a, l, t, ns, rfl, hr', hS, gv⟩ := h
    obtain ⟨ka, ft, ec⟩ := id hr'
    have bs := ft.bits
    have dpt := ft.dp
    unfold decO at gv
    obtain ⟨di, fi, i1, i2⟩ := ka.ins ft.wf
    obtain ⟨y, ny, pt⟩ := ka.part T ft.wf
    obtain ⟨C, dx, fs, p1, p2, p3, p4⟩ := pt.bits
    refine ⟨_, (pss_cons (ps_set (i := 2) sc_dec.nd rfl (Or.inl rfl) (by exact (pe_mx (CX := L2.CX P w) (E := fun _ => E) hr (pasE (takes_of rfl rfl rfl rfl)) (pv 0) (by exact (pa_cons (pe_cx (CX := L2.CX P w) (E := fun _ => E) hr (pasE (takes_of rfl rfl rfl rfl)) (by exact (pa_cons (pv 1) (pa_cons (pe_fld (pv 0) (by rfl)) pa_nil)))) pa_nil)))))
      (pss_one (ps_ret (by exact (pe_op op_cat (pe_lst (pa_cons (pe_callB call_len (by rfl) T.f_len (by decide +kernel) (by exact (pa_cons (pv 2) pa_nil))) pa_nil)) (pv 2)))))), ?_⟩
    refine ⟨_, rfl, a, _, di, fi, _, rfl, i1, i2.m5, ((all_with T ft.wf ft.full ft.lv).1 rfl).mono (by unfold wl; omega), spNumberRead K, (ok_number_read T).mono (by decide), _, rfl, _, rfl, a, C, dx, fs, _, rfl, p1, p2, p3, p4, l, ns, (formOf t).bits, rfl, hS, by omega, fun n H1 hn s1 => ?_, fun no H1 s1 => ?_⟩
    · rw [hn] at gv
      refine ⟨a, n, rfl, ka.same s1, read_lt (by omega) hn, fun v hv D H2 nD s2 d2 => ?_, fun no H2 s2 => ?_⟩
      · have gv : GivesO H Q E K (valO (Valaye.decode t n)) := gv
        rw [ML.decode_eq, hv] at gv
        refine ⟨_, rfl, _, v.length, rfl, .inl ⟨_, SqL.of d2, by rw [List.length_map]⟩, small1000 (Nat.le_of_ble_eq_true rfl), fun L nL => ?_⟩
        have s3 := (s1.trans s2).trans (same_new nL (o := .lst [V.int (v.length : Nat)]))
        refine ⟨_, rfl, cons_list upd_same ((upd_ne (ne_of_none d2 nL)).trans d2) (by rw [List.length_map]; exact Nat.le_trans (D_len ft.wf hv) ft.lv) fun R nR => gv R _ (free_of s3 nR) (s3.trans (same_new nR)) ?_⟩
        rw [upd_same]
        rfl
      · have gv : GivesO H Q E K (valO (Valaye.decode t n)) := gv
        rw [ML.decode_eq, no] at gv
        exact gv H2 (s1.trans s2)
    · rw [no] at gv
      exact gv H1 s1
theorem ok_pack (T : Txt K mg) : COk P w K mg base (L2.CX P w) 104 "pack" (spRow K packO) :=
  mkC T.g_pack T.d_pack sc_pack (fun vs H Q E h => by obtain ⟨a, l, t, ns, rfl, _⟩ := h; rfl) (fun _ _ _ _ _ _ us hl => match us, hl with | [_, _], _ => rfl) fun cdv A outer s H vs Q E hr h => by
    obtain ⟨a, l, t, ns, rfl, hr', hS, gv⟩ := h
    obtain ⟨ka, ft, ec⟩ := id hr'
    have bs := ft.bits
    have dpt := ft.dp
    have gd := ft.good
    unfold packO at gv
    have cs := ML.codes_some t ns
    have pl := ft.packed_le
    refine ⟨_, (pss_cons (ps_set (i := 2) sc_pack.nd rfl (Or.inl rfl) (by exact (pe_kx hr (by exact (pa_cons (pv 1) pa_nil)))))
      (pss_cons (ps_set (i := 3) sc_pack.nd rfl (Or.inl rfl) (by exact (pe_mx (CX := L2.CX P w) (E := fun _ => E) hr (pasE (takes_of rfl rfl rfl rfl)) (pv 0) (by exact (pa_cons (pv 2) pa_nil)))))
      (pss_cons (ps_expr (pe_mx0 (CX := L2.CX P w) (E := fun _ => E) hr (pasE (takes_of rfl rfl rfl rfl)) (pv 2)))
      (pss_one (ps_ret (by exact (pe_cx (CX := CX0) hr pas0 (by exact (pa_cons (pv 3) (pa_cons (pe_cx (CX := CX0) hr pas0 (by exact (pa_cons (pv 0) pa_nil))) pa_nil)))))))))), ?_⟩
    refine ⟨cCursor K, spCuInit K, (ok_Cursor T).mono (by decide), _, rfl, fun cu dcu ncu nd ne => ⟨cu, dcu, l, rfl, upd_same, fun H1 e kp => ⟨rfl, ?_⟩⟩⟩
    have s1 := Same.made ncu nd kp
    have c1 : CurAt K H1 cu ns 0 := ⟨dcu, l, e, s1.seq hS, Nat.zero_le _⟩
    have ka1 : KA K (Wo cu H1) t [a] := ka.same (Wo.new ncu s1)
    obtain ⟨di, fi, i1, i2⟩ := (ka.same s1).ins ft.wf
    refine ⟨_, rfl, a, _, di, fi, _, rfl, i1, i2.m4, ((all_number T ft.wf ft.lv).1 rfl).mono (by omega), _, rfl, a, cu, ns, 0, rfl, ka1, c1, fun r hr' H2 s2 c2 => ?_, fun no H2 s2 => ?_⟩
    · have s3 := SameBut.new ncu s1 s2
      obtain ⟨dc, lc, u1, u2, u3⟩ := id c2
      have hrl := (gd.suffix hr').1
      refine ⟨_, rfl, cu, _, dc, _, _, rfl, u1, rfl, (ok_end T).mono (by decide), cu, ns, _, rfl, c2, fun full => ?_, fun nf => ?_⟩
      · have r0 : r = [] := List.eq_nil_of_length_eq_zero (by omega)
        subst r0
        have hr' : (cod t).eat ns = some [] := hr'
        rw [if_pos (cs.mpr hr')] at gv
        exact ⟨spBytesTold, (ok_bytes_told T).mono (by decide), _, rfl, _, (ok_packed_bits T).mono (by decide), _, rfl, a, t, rfl, ⟨ka.same s3, ft, ec⟩, fun H4 s5 => ⟨_, packedBits t, rfl, by omega, fun D H3 nD s4 d => gv D H3 (free_of (s3.trans s5) nD) ((s3.trans s5).trans s4) d⟩⟩
      · have : ¬ (cod t).eat ns = some [] := fun e => by
          have hr' : (cod t).eat ns = some r := hr'
          rw [e] at hr'
          cases hr'
          exact nf rfl
        rw [if_neg fun z => this (cs.mp z)] at gv
        exact gv H2 s3
    · have no : (cod t).eat ns = none := no
      rw [if_neg fun z => by
        have := cs.mp z
        rw [no] at this
        cases this] at gv
      exact gv H2 (SameBut.new ncu s1 s2)
theorem ok_unpack (T : Txt K mg) : COk P w K mg base (L2.CX P w) 104 "unpack" (spRow K unpackO) :=
  mkC T.g_unpack T.d_unpack sc_unpack (fun vs H Q E h => by obtain ⟨a, l, t, ns, rfl, _⟩ := h; rfl) (fun _ _ _ _ _ _ us hl => match us, hl with | [_, _], _ => rfl) fun cdv A outer s H vs Q E hr h => by
    obtain ⟨a, l, t, ns, rfl, hr', hS, gv⟩ := h
    obtain ⟨ka, ft, ec⟩ := id hr'
    have pl := ft.packed_le
    have dpt := ft.dp
    unfold unpackO at gv
    refine ⟨_, (pss_cons (ps_set (i := 2) sc_unpack.nd rfl (Or.inl rfl) (by exact (pe_cx (CX := L2.CX P w) (E := fun _ => E) hr (pasE (takes_of rfl rfl rfl rfl)) (by exact (pa_cons (pv 1) (pa_cons (pe_cx (CX := CX0) hr pas0 (by exact (pa_cons (pv 0) pa_nil))) pa_nil))))))
      (pss_cons (ps_if (pt_cmpR op_ge (pv 2) (pe_mx0 (CX := CX0) hr pas0 (pv 0)) (nomark _)) (pss_one (ps_raise rfl (takes_of rfl rfl rfl rfl) T.mkNoValue)) pss_nil)
      (pss_cons (ps_set (i := 3) sc_unpack.nd rfl (Or.inl rfl) (by exact (pe_mx (CX := CX0) hr pas0 (pv 0) (by exact (pa_cons (pv 2) pa_nil)))))
      (pss_one (ps_ret (by exact (pe_op op_cat (pe_lst (pa_cons (pe_callB call_len (by rfl) T.f_len (by decide +kernel) (by exact (pa_cons (pv 3) pa_nil))) pa_nil)) (pv 3)))))))), ?_⟩
    refine ⟨spNumberRead K, (ok_number_read T).mono (by decide), _, rfl, _, (ok_packed_bits T).mono (by decide), _, rfl, a, t, rfl, hr', fun H0 s0 => ⟨l, ns, packedBits t, rfl, s0.seq hS, by omega, fun n H1 hn s1' => ?_, fun no H1 s1' => ?_⟩⟩
    · have s1 := s0.trans s1'
      rw [hn] at gv
      have gv : GivesO H Q E K (if n < (cod t).cnt then valO (some ((cod t).nth n)) else .noV) := gv
      have ka1 := ka.same s1
      obtain ⟨di, fi, i1, i2⟩ := ka1.ins ft.wf
      refine ⟨_, rfl, _, rfl, a, _, di, fi, _, rfl, i1, i2.m1, ((all_how T ft.wf ft.lv).1 rfl).mono (by omega), a, rfl, ka1, fun H2 s2 => ⟨_, _, rfl, rfl, _, rfl, ?_⟩⟩
      have s3 := s1.trans s2
      by_cases z : n < (cod t).cnt
      · rw [if_pos z] at gv
        refine (show if decide (((countBy t false : Nat) : Int) ≤ (n : Int)) = true then _ else _ from iteD (by show ¬ (((cod t).cnt : Nat) : Int) ≤ _; omega) ?_)
        refine ⟨_, rfl, a, _, di, fi, _, rfl, s2 _ _ i1, i2.m6, ((all_at T ft.wf ft.full ft.lv).1 rfl).mono (by omega), _, rfl, a, n, rfl, ka1.same s2, z, fun D H4 nD s4 d4 => ?_⟩
        refine ⟨_, rfl, _, ((cod t).nth n).length, rfl, .inl ⟨_, SqL.of d4, by rw [List.length_map]⟩, small1000 (Nat.le_of_ble_eq_true rfl), fun L nL => ?_⟩
        have s5 := (s3.trans s4).trans (same_new nL (o := .lst [V.int (((cod t).nth n).length : Nat)]))
        refine ⟨_, rfl, cons_list upd_same ((upd_ne (ne_of_none d4 nL)).trans d4) (by rw [List.length_map]; exact Nat.le_trans (nth_len ft.wf z) ft.lv) fun R nR => gv R _ (free_of s5 nR) (s5.trans (same_new nR)) ?_⟩
        rw [upd_same]
        rfl
      · rw [if_neg z] at gv
        exact (show if decide (((countBy t false : Nat) : Int) ≤ (n : Int)) = true then _ else _ from iteC (by show (((cod t).cnt : Nat) : Int) ≤ _; omega) (gv H2 s3))
    · rw [no] at gv
      exact gv H1 (s0.trans s1')
/-- the numbers of the calls -/
def spTold (K : PySem.W.Frag) : Sp := fun vs H Q E => ∃ (a l : Addr) (t : Ty) (c : Int) (ns : List Int), vs = [.ref a, .int c, .ref l] ∧ RecK K H a t ∧ SqL K H l (ns.map V.int) ∧ GivesO H Q E K (toldO t c ns)
theorem ok_told (T : Txt K mg) : COk P w K mg base (L2.CX P w) 105 "told_of_record" (spTold K) :=
  mkC T.g_told_of_record T.d_told_of_record sc_told_of_record (fun vs H Q E h => by obtain ⟨a, l, t, c, ns, rfl, _⟩ := h; rfl) (fun _ _ _ _ _ _ us hl => match us, hl with | [_, _, _], _ => rfl) fun cdv A outer s H vs Q E hr h => by
    obtain ⟨a, l, t, c, ns, rfl, hr', hS, gv⟩ := h
    unfold toldO at gv
    have hne : ∀ {x : Int}, c ≠ x → ¬ V.int c = V.int x := fun h e => by
      injection e with e
      exact h e
    refine ⟨_, (pss_cons (ps_if (pt_cmpR op_eq (pv 1) (pe_gn rfl) (nomark _)) (pss_one (ps_ret (by exact (pe_op op_cat (pe_lst (pa_cons pe_int pa_nil)) (pe_cx (CX := CX0) hr pas0 (by exact (pa_cons (pv 0) pa_nil))))))) pss_nil)
      (pss_cons (ps_if (pt_cmpR op_eq (pv 1) (pe_gn rfl) (nomark _)) (pss_one (ps_ret (by exact (pe_cx (CX := CX0) hr pas0 (by exact (pa_cons (pv 0) pa_nil)))))) pss_nil)
      (pss_cons (ps_if (pt_cmpR op_eq (pv 1) (pe_gn rfl) (nomark _)) (pss_one (ps_ret (by exact (pe_cx (CX := L2.CX P w) (E := fun _ => E) hr (pasE (takes_of rfl rfl rfl rfl)) (by exact (pa_cons (pv 0) (pa_cons (pv 2) pa_nil))))))) pss_nil)
      (pss_cons (ps_if (pt_cmpR op_eq (pv 1) (pe_gn rfl) (nomark _)) (pss_one (ps_ret (by exact (pe_cx (CX := L2.CX P w) (E := fun _ => E) hr (pasE (takes_of rfl rfl rfl rfl)) (by exact (pa_cons (pv 0) (pa_cons (pv 2) pa_nil))))))) pss_nil)
      (pss_cons (ps_if (pt_cmpR op_eq (pv 1) (pe_gn rfl) (nomark _)) (pss_one (ps_ret (by exact (pe_cx (CX := L2.CX P w) (E := fun _ => E) hr (pasE (takes_of rfl rfl rfl rfl)) (by exact (pa_cons (pv 0) (pa_cons (pv 2) pa_nil))))))) pss_nil)
      (pss_one (ps_ret (by exact (pe_cx (CX := L2.CX P w) (E := fun _ => E) hr (pasE (takes_of rfl rfl rfl rfl)) (by exact (pa_cons (pv 0) (pa_cons (pv 2) pa_nil)))))))))))), ?_⟩
    refine ⟨_, rfl, _, T.i_SIZES, rfl, _, rfl, ?_⟩
    by_cases z : c = 1
    · rw [if_pos z] at gv
      refine iteC (by rw [z]) ⟨small1000 (Nat.le_of_ble_eq_true rfl), fun L nL => ?_⟩
      have s1 : Same H (upd H L (.lst [V.int 1])) := same_new nL
      refine ⟨spSizes K, (ok_sizes T).mono (by decide), _, rfl, a, t, rfl, hr'.same s1, fun D H2 nD s2 d2 => cons_list (s2 _ _ upd_same) d2 (by rw [List.length_map]; exact Nat.le_of_ble_eq_true rfl) fun R nR => gv R _ (free_of (s1.trans s2) nR) ((s1.trans s2).trans (same_new nR)) ?_⟩
      rw [upd_same]
      rfl
    rw [if_neg z] at gv
    refine iteD (hne z) ⟨_, rfl, _, T.i_NICHE, rfl, _, rfl, ?_⟩
    by_cases z : c = 2
    · rw [if_pos z] at gv
      exact iteC (by rw [z]) ⟨_, (ok_niche T).mono (by decide), _, rfl, a, t, rfl, hr', fun D H2 nD s2 d2 => gv D H2 nD s2 d2⟩
    rw [if_neg z] at gv
    refine iteD (hne z) ⟨_, rfl, _, T.i_ENC, rfl, _, rfl, ?_⟩
    by_cases z : c = 3
    · rw [if_pos z] at gv
      exact iteC (by rw [z]) ⟨_, ok_enc T, _, rfl, _, rfl, a, l, t, ns, rfl, hr', hS, gv⟩
    rw [if_neg z] at gv
    refine iteD (hne z) ⟨_, rfl, _, T.i_DEC, rfl, _, rfl, ?_⟩
    by_cases z : c = 4
    · rw [if_pos z] at gv
      exact iteC (by rw [z]) ⟨_, ok_dec T, _, rfl, _, rfl, a, l, t, ns, rfl, hr', hS, gv⟩
    rw [if_neg z] at gv
    refine iteD (hne z) ⟨_, rfl, _, T.i_PACK, rfl, _, rfl, ?_⟩
    by_cases z : c = 5
    · rw [if_pos z] at gv
      exact iteC (by rw [z]) ⟨_, ok_pack T, _, rfl, _, rfl, a, l, t, ns, rfl, hr', hS, gv⟩
    rw [if_neg z] at gv
    exact iteD (hne z) ⟨_, ok_unpack T, _, rfl, _, rfl, a, l, t, ns, rfl, hr', hS, gv⟩
end
end LY
set_option Elab.async false
set_option linter.all false
set_option maxRecDepth 100000
set_option maxHeartbeats 4000000
set_option exponentiation.threshold 10000
namespace LY
open PySem PySem.Spec PyProof.Rows L2
open Valaye (Niche Form formOf better moved noNiche bits0 sharedBits maybeForm taken_ packedBits flatBits sizesOf readBytes nats)
open Valaya (Ty countLeaves rowLength countBy)
open ML (Cod cod rows wf frm carrier Good)
section
variable {P : Program} {w : World} {K : PySem.W.Frag} {mg : Str → Option Value} {base : Heap}
abbrev s_answer_of_record : Stmt := top 81
abbrev n_answer_of_record : List Str := ["record", "number", "row"]
theorem sc_answer_of_record : FnScope n_answer_of_record ["record", "number", "row"] (defScope s_answer_of_record) := ⟨rfl, rfl, rfl, by decide +kernel, rfl, by decide +kernel, by decide +kernel⟩

def ansL (t : Ty) (c : Int) (ns : List Int) : List Int := match toldO t c ns with
  | .list l => l
  | .noV => [-4]
  | .noB => [-5]
def spAR (K : PySem.W.Frag) : Sp := fun vs H Q _ => ∃ (a l : Addr) (t : Ty) (c : Int) (ns : List Int), vs = [.ref a, .int c, .ref l] ∧ RecK K H a t ∧ SqL K H l (ns.map V.int) ∧ ∀ D H', H D = none → Same H H' → H' D = some (.lst ((ansL t c ns).map V.int)) → Q (.ref D) H'
theorem ok_ar (T : Txt K mg) : COk P w K mg base CX0 106 "answer_of_record" (spAR K) :=
  mkC T.g_answer_of_record T.d_answer_of_record sc_answer_of_record (fun vs H Q E h => by obtain ⟨a, l, t, c, ns, rfl, _⟩ := h; rfl) (fun _ _ _ _ _ _ us hl => match us, hl with | [_, _, _], _ => rfl) fun cdv A outer s H vs Q E hr h => by
    obtain ⟨a, l, t, c, ns, rfl, hr', hS, gv⟩ := h
    refine ⟨_, pss_one (ps_try_many (tb := fun W => tRet (tCx P w K mg base (L2.CX P w) 105 "told_of_record" (WE W) (tCons (tVar 0) (tCons (tVar 1) (tCons (tVar 2) tNil)))))
      (l := [(.ref (cNoBytes K), fun _ _ _ => tRet (tLst (tCons (tGn mg "NO_SUCH_BYTES") tNil))), (.ref (cNoValue K), fun _ _ _ => tRet (tLst (tCons (tGn mg "NO_SUCH_VALUE") tNil)))]) (Wout := fun _ _ _ _ => False) rfl rfl takes0
      (fun W pn xe tk _ => pss_one (ps_ret (by exact (pe_cx (CX := L2.CX P w) hr (fun σ => passAt tk σ) (by exact (pa_cons (pv 0) (pa_cons (pv 1) (pa_cons (pv 2) pa_nil))))))))
      (.cons ⟨rfl, by decide, Or.inl T.g_NotSuchBytes⟩ (fun a oe cls d pn hz hf => pss_one (ps_ret (by exact (pe_lst (pa_cons (pe_gn rfl) pa_nil)))))
        (.cons ⟨rfl, by decide, Or.inl T.g_NoValue⟩ (fun a oe cls d pn hz hf => pss_one (ps_ret (by exact (pe_lst (pa_cons (pe_gn rfl) pa_nil))))) .nil))), ?_⟩
    have x := T.is
    refine ⟨spTold K, ok_told T, _, rfl, _, rfl, _, rfl, a, l, t, c, ns, rfl, hr', hS, ?_⟩
    unfold ansL at gv
    cases ht : toldO t c ns with
    | list r =>
      rw [ht] at gv
      exact gv
    | noV =>
      rw [ht] at gv
      refine fun H1 s1 => ⟨false, x.x3, (by intro z; cases z), fun _ => ⟨true, x.x1, fun _ b nb => ⟨_, T.i_NO_SUCH_VALUE, small1000 (by decide), fun D nD => gv D _ (free_of s1 nD) (s1.trans (same_new nD)) ?_⟩, (by intro z; cases z)⟩⟩
      rw [upd_same]
      rfl
    | noB =>
      rw [ht] at gv
      refine fun H1 s1 => ⟨true, x.x2, fun _ b nb => ⟨_, T.i_NO_SUCH_BYTES, small1000 (by decide), fun D nD => gv D _ (free_of s1 nD) (s1.trans (same_new nD)) ?_⟩, (by intro z; cases z)⟩
      rw [upd_same]
      rfl
end
end LY
set_option Elab.async false
set_option linter.all false
set_option maxRecDepth 100000
set_option maxHeartbeats 4000000
set_option exponentiation.threshold 10000
namespace LY
open PySem PySem.Spec PyProof.Rows L2
open Valaye (Niche Form formOf better moved noNiche bits0 sharedBits maybeForm taken_ packedBits flatBits sizesOf readBytes nats)
open Valaya (Ty countLeaves rowLength countBy Rec)
open ML (Cod cod rows wf frm carrier Good)
section
variable {P : Program} {w : World} {K : PySem.W.Frag} {mg : Str → Option Value} {base : Heap}
abbrev s_Holder_init : Stmt := inClass (top 80) 0
abbrev n_Holder_init : List Str := ["self"]
theorem sc_Holder_init : FnScope n_Holder_init ["self"] (defScope s_Holder_init) := ⟨rfl, rfl, rfl, by decide +kernel, rfl, by decide +kernel, by decide +kernel⟩
abbrev s_Holder_answer : Stmt := inClass (top 80) 1
abbrev n_Holder_answer : List Str := ["self", "number", "index", "row"]
theorem sc_Holder_answer : FnScope n_Holder_answer ["self", "number", "index", "row"] (defScope s_Holder_answer) := ⟨rfl, rfl, rfl, by decide +kernel, rfl, by decide +kernel, by decide +kernel⟩

/-- a list of records' objects -/
def RecsAt (K : PySem.W.Frag) (H : Hp) (l : Addr) (rs : List Rec) : Prop := ∃ as : List Addr, H l = some (.lst (as.map V.ref)) ∧ as.length = rs.length ∧ rs.length ≤ 6 ∧
  ∀ (i : Nat) (a : Addr) (r : Rec), as[i]? = some a → rs[i]? = some r → RecK K H a r.t
theorem RecsAt.same {H H' : Hp} {l : Addr} {rs : List Rec} (h : RecsAt K H l rs) (s : Same H H') : RecsAt K H' l rs := by
  obtain ⟨as, h1, h2, h3, h4⟩ := h
  exact ⟨as, s _ _ h1, h2, h3, fun i a r x y => (h4 i a r x y).same s⟩
def rankL (rs : List Rec) : List Int := (rs.length : Int) :: rs.flatMap fun r => nats (sizesOf r.t)
def rankL' (rs : List Rec) (j : Nat) : List Int := (rs.length : Int) :: (rs.take j).flatMap fun r => nats (sizesOf r.t)
theorem rank_len : ∀ rs : List Rec, (rs.flatMap fun r => nats (sizesOf r.t)).length = 4 * rs.length
  | [] => rfl
  | r :: rs => by
    rw [List.flatMap_cons, List.length_append, rank_len rs]
    show 4 + 4 * rs.length = 4 * (rs.length + 1)
    omega
theorem ok_rank (T : Txt K mg) : COk P w K mg base CX0 54 "rank" (fun vs H Q _ => ∃ (l : Addr) (rs : List Rec), vs = [.ref l] ∧ RecsAt K H l rs ∧ ∀ D H', H D = none → Same H H' → H' D = some (.lst ((rankL rs).map V.int)) → Q (.ref D) H') :=
  mkC T.g_rank T.d_rank sc_rank (fun vs H Q E h => by obtain ⟨l, rs, rfl, _⟩ := h; rfl) (fun _ _ _ _ _ _ us hl => match us, hl with | [_], _ => rfl) fun cdv A outer s H vs Q E hr h => by
    obtain ⟨l, rs, rfl, ⟨as, h1, h2, h3, h4⟩, kk⟩ := h
    refine ⟨_, PSs.nox (pss_cons (ps_set (i := 1) sc_rank.nd rfl (Or.inl rfl) (by exact (pe_lst (pa_cons (pe_callB call_len (by rfl) T.f_len (by decide +kernel) (by exact (pa_cons (pv 0) pa_nil))) pa_nil))))
      (pss_cons (ps_for PassesOwn.never rfl (pi_list (pv 0)) (pg_name (i := 2) sc_rank.nd rfl (Or.inl rfl)) (pss_one (ps_expr (pe_bm PySem.F.plainAttrs_list PySem.F.slot_list_extend PySem.F.type_list_extend mt_extend (pv 1) (by exact (pa_cons (pe_cx (CX := CX0) hr pas0 (by exact (pa_cons (pv 2) pa_nil))) pa_nil))))))
      (pss_one (ps_ret (by exact (pv 1)))))), ?_⟩
    refine ⟨_, rfl, _, rs.length, rfl, .inl ⟨_, SqL.of h1, by rw [List.length_map, h2]⟩, small1000 (Nat.le_of_ble_eq_true rfl), fun F nF => ?_⟩
    have sF : Same H (upd H F (.lst [V.int (rs.length : Nat)])) := same_new nF
    refine ⟨_, rfl, l, rfl, ⟨_, SqL.of (sF _ _ h1)⟩, for_list (K := K) (a := l) (xs := as.map V.ref) (fun j σ H' => ∃ v : Option V, σ = [some (.ref l), some (.ref F), v] ∧ Same H H' ∧ H' F = some (.lst ((rankL' rs j).map V.int)))
      ⟨none, rfl, sF, by rw [upd_same]; rfl⟩ (fun j σ H' _ ⟨_, _, s5, _⟩ => SqL.of (s5 _ _ h1)) ?_ ?_⟩
    · rintro j y σ H1 hj ⟨v, rfl, s1, f1⟩
      obtain ⟨q, hq, rfl⟩ := map_get hj
      have hlt : j < rs.length := by rw [← h2]; exact (List.getElem?_eq_some_iff.mp hq).1
      have hu : rs[j]? = some rs[j] := List.getElem?_eq_getElem hlt
      generalize rs[j] = u at hu
      have rk := (h4 _ q u hq hu).same s1
      refine ⟨_, rfl, .inl ⟨rfl, _, SqL.of f1⟩, spSizes K, (ok_sizes T).mono (by decide), _, rfl, q, u.t, rfl, rk, fun D H2 nD s2 d2 => ⟨F, D, _, _, rfl, rfl, s2 _ _ f1, d2, ?_, some (.ref q), rfl, fun b o e => (upd_ne (ne_of_none e nF)).trans (s2 _ _ (s1 _ _ e)), ?_⟩⟩
      · refine Nat.le_trans ?_ (small1000 (Nat.le_refl 1000))
        rw [List.length_map, List.length_map]
        show (((rs.take j).flatMap fun r => nats (sizesOf r.t)).length + 1) + 4 ≤ _
        rw [rank_len, List.length_take]
        omega
      · rw [upd_same, ← List.map_append]
        unfold rankL'
        rw [List.take_succ, hu, List.flatMap_append]
        simp
    · rintro σ H1 ⟨v, rfl, s1, f1⟩
      rw [List.length_map, h2] at f1
      unfold rankL' at f1
      rw [List.take_length] at f1
      exact ⟨_, rfl, kk F H1 nF s1 f1⟩
/-! ### the object -/
abbrev cHolder (K : PySem.W.Frag) : Addr := He.ga K "Holder"
def HoldAt (K : PySem.W.Frag) (H : Hp) (a : Addr) (o : Option (List Rec)) : Prop := ∃ dx l, H a = some (.ins (cHolder K) dx [("records", .ref l)]) ∧ RecsAt K H l (o.getD []) ∧ ∀ rs, o = some rs → rs ≠ []
theorem HoldAt.same {H H' : Hp} {a : Addr} {o : Option (List Rec)} (h : HoldAt K H a o) (s : Same H H') : HoldAt K H' a o := by
  obtain ⟨dx, l, h1, h2, h3⟩ := h
  exact ⟨dx, l, s _ _ h1, h2.same s, h3⟩
/-- a call, as the words have it -/
def rowsOf (c i : Int) (ns : List Int) : List (List Int) := if c = 0 then [[0], ns] else if c = 7 then [[7]] else if c = 1 then [[1, i]] else if c = 2 then [[2, i]] else [[c, i], ns]
def spLoad (K : PySem.W.Frag) : Sp := fun vs H Q _ => ∃ (a l F : Addr) (o : Option (List Rec)) (ns : List Int), vs = [.ref a, .ref l] ∧ H F ≠ none ∧ HoldAt K (Wo F H) a o ∧ SqL K H l (ns.map V.int) ∧ NeutralIO.bytes ns = true ∧ ns.length ≤ 8192 ∧
  ∀ D H', H D = none → SameBut a H H' → HoldAt K (Wo F H') a (ValayeNeutral.step o [[0], ns]).1 → H' D = some (.lst ((ValayeNeutral.step o [[0], ns]).2.map V.int)) → Q (.ref D) H'
def spHA (K : PySem.W.Frag) : Sp := fun vs H Q _ => ∃ (a l F : Addr) (o : Option (List Rec)) (c i : Int) (ns : List Int), vs = [.ref a, .int c, .int i, .ref l] ∧ 0 ≤ c ∧ c ≤ 7 ∧ H F ≠ none ∧ HoldAt K (Wo F H) a o ∧ SqL K H l (ns.map V.int) ∧ (c = 0 → NeutralIO.bytes ns = true ∧ ns.length ≤ 8192) ∧
  ∀ D H', H D = none → SameBut a H H' → HoldAt K (Wo F H') a (ValayeNeutral.step o (rowsOf c i ns)).1 → H' D = some (.lst ((ValayeNeutral.step o (rowsOf c i ns)).2.map V.int)) → Q (.ref D) H'
theorem toldO_step {t : Ty} {c : Int} {ns : List Int} (h1 : 1 ≤ c) (h2 : c ≤ 6) (i : Int) (o : List Rec) (r : Rec) (hi : (ValayBase.index i o.length).bind (fun k => o[k]?) = some r) (ht : r.t = t) :
    ValayeNeutral.step (some o) (rowsOf c i ns) = (some o, ansL t c ns) := by
  subst ht
  have : c = 1 ∨ c = 2 ∨ c = 3 ∨ c = 4 ∨ c = 5 ∨ c = 6 := by omega
  have wr : ∀ f, Valaye.withRec o i f = f r.t := fun f => by
    unfold Valaye.withRec
    rw [hi]
  rcases this with rfl | rfl | rfl | rfl | rfl | rfl
  · show (some o, ValayeNeutral.encode (Valaye.withRec o i _)) = _
    rw [wr]
    rfl
  · show (some o, ValayeNeutral.encode (Valaye.withRec o i _)) = _
    rw [wr]
    show _ = (some o, nicheL r.t)
    unfold nicheL
    dsimp only
    split <;> rfl
  · show (some o, ValayeNeutral.encode (Valaye.withRec o i _)) = _
    rw [wr]
    unfold ansL
    show _ = (some o, match encO r.t ns with
      | .list l => l
      | .noV => [-4]
      | .noB => [-5])
    unfold encO
    cases h : Valaye.encode r.t ns with
    | none => rfl
    | some n => exact congrArg (Prod.mk (some o)) (congrArg (fun z : Nat => (z : Int) :: (Valaye.bytesOfNat (Valaye.bytesFor (formOf r.t).bits) n).map fun (z : Nat) => (z : Int)) (by show ((Valaye.bytesOfNat _ _)).length = _; exact bytes_len _ _))
  · show (some o, ValayeNeutral.encode (Valaye.withRec o i _)) = _
    rw [wr]
    unfold ansL
    show _ = (some o, match decO r.t ns with
      | .list l => l
      | .noV => [-4]
      | .noB => [-5])
    unfold decO
    cases h : readBytes (formOf r.t).bits ns with
    | none => rfl
    | some n =>
      dsimp only
      cases h2 : Valaye.decode r.t n with
      | none => rfl
      | some v => rfl
  · show (some o, ValayeNeutral.encode (Valaye.withRec o i _)) = _
    rw [wr]
    unfold ansL
    show _ = (some o, match packO r.t ns with
      | .list l => l
      | .noV => [-4]
      | .noB => [-5])
    unfold packO
    by_cases h : (Valaya.codesOf r.t ns).isSome = true
    · rw [if_pos h, if_pos h]
      exact congrArg (Prod.mk (some o)) (congrArg (fun z : Nat => (z : Int) :: (Valaye.bytesOfNat (Valaye.bytesFor (packedBits r.t)) (Valaya.indexOf r.t ns)).map fun (z : Nat) => (z : Int)) (by show ((Valaye.bytesOfNat _ _)).length = _; exact bytes_len _ _))
    · rw [if_neg h, if_neg h]
      rfl
  · show (some o, ValayeNeutral.encode (Valaye.withRec o i _)) = _
    rw [wr]
    unfold ansL
    show _ = (some o, match unpackO r.t ns with
      | .list l => l
      | .noV => [-4]
      | .noB => [-5])
    unfold unpackO
    cases h : readBytes (packedBits r.t) ns with
    | none => rfl
    | some n =>
      dsimp only
      split <;> rfl
theorem step_none {c i : Int} {ns : List Int} (h1 : 1 ≤ c) (h2 : c ≤ 7) : ValayeNeutral.step none (rowsOf c i ns) = (none, [-1]) := by
  have : c = 1 ∨ c = 2 ∨ c = 3 ∨ c = 4 ∨ c = 5 ∨ c = 6 ∨ c = 7 := by omega
  rcases this with rfl | rfl | rfl | rfl | rfl | rfl | rfl <;> rfl
theorem step_off {c i : Int} {ns : List Int} (h1 : 1 ≤ c) (h2 : c ≤ 6) (o : List Rec) (hi : (ValayBase.index i o.length).bind (fun k => o[k]?) = none) : ValayeNeutral.step (some o) (rowsOf c i ns) = (some o, [-2]) := by
  have wr : ∀ f, Valaye.withRec o i f = ValayBase.one (-2) := fun f => by
    unfold Valaye.withRec
    rw [hi]
  have : c = 1 ∨ c = 2 ∨ c = 3 ∨ c = 4 ∨ c = 5 ∨ c = 6 := by omega
  rcases this with rfl | rfl | rfl | rfl | rfl | rfl
  all_goals
    show (some o, ValayeNeutral.encode (Valaye.withRec o i _)) = _
    rw [wr]
    rfl
theorem ok_HA (T : Txt K mg) (ld : MOk P w K mg base CX0 107 (cHolder K) "load" (spLoad K)) : MOk P w K mg base CX0 108 (cHolder K) "answer" (spHA K) :=
  mkM T.cl_Holder T.me_Holder_answer T.d_Holder_answer sc_Holder_answer (fun vs H Q E h => by obtain ⟨a, l, F, o, c, i, ns, rfl, _⟩ := h; rfl) (fun _ _ _ _ _ _ us hl => match us, hl with | [_, _, _, _], _ => rfl) fun cdv A outer s H vs Q E hr h => by
    obtain ⟨a, l, F, o, c, i, ns, rfl, c0, c7, hF, hw, hS, hb, kk⟩ := h
    have ho := hw.same (Wo.le F H)
    obtain ⟨dx, rl, h1, hR, ne⟩ := id ho
    obtain ⟨as, r1, r2, r3, r4⟩ := id hR
    have hne : ∀ {x : Int}, c ≠ x → ¬ V.int c = V.int x := fun h e => by
      injection e with e
      exact h e
    have SB : ∀ {H'}, Same H H' → SameBut a H H' := fun s => Same.but s
    refine ⟨_, PSs.nox (pss_cons (ps_if (pt_cmpR op_eq (pv 1) (pe_gn rfl) (nomark _)) (pss_one (ps_ret (by exact (pe_mx (CX := CX0) hr pas0 (pv 0) (by exact (pa_cons (pv 3) pa_nil)))))) pss_nil)
      (pss_cons (ps_if (pt_not (pt_truth (pe_fld (pv 0) (by rfl)) (by intro _; rfl))) (pss_one (ps_ret (by exact (pe_lst (pa_cons (pe_gn rfl) pa_nil))))) pss_nil)
      (pss_cons (ps_if (pt_cmpR op_eq (pv 1) (pe_gn rfl) (nomark _)) (pss_one (ps_ret (by exact (pe_cx (CX := CX0) hr pas0 (by exact (pa_cons (pe_fld (pv 0) (by rfl)) pa_nil)))))) pss_nil)
      (pss_cons (ps_if (PW.pt (pw_or (pt_cmpR op_lt (pv 2) pe_int (nomark _)) (pw_or1 (pt_cmpR op_ge (pv 2) (pe_callB call_len (by rfl) T.f_len (by decide +kernel) (by exact (pa_cons (pe_fld (pv 0) (by rfl)) pa_nil))) (nomark _))))) (pss_one (ps_ret (by exact (pe_lst (pa_cons (pe_gn rfl) pa_nil))))) pss_nil)
      (pss_one (ps_ret (by exact (pe_cx (CX := CX0) hr pas0 (by exact (pa_cons (pe_ix ix_list (pe_fld (pv 0) (by rfl)) (pv 2) (fun _ _ => rfl)) (pa_cons (pv 1) (pa_cons (pv 3) pa_nil)))))))))))), ?_⟩
    refine ⟨_, rfl, _, T.i_LOAD, rfl, _, rfl, ?_⟩
    by_cases z : c = 0
    · subst z
      obtain ⟨b1, b2⟩ := hb rfl
      exact iteC rfl ⟨_, rfl, a, _, dx, _, spLoad K, rfl, h1, rfl, ld, _, rfl, a, l, F, o, ns, rfl, hF, hw, hS, b1, b2, kk⟩
    refine iteD (hne z) ⟨_, rfl, a, _, dx, _, _, rfl, h1, T.cl_Holder, T.na_Holder_records, rfl, _, .inl ⟨_, SqL.of r1, rfl⟩, ?_⟩
    cases o with
    | none =>
      have e0 : as = [] := List.eq_nil_of_length_eq_zero r2
      subst e0
      rw [step_none (by omega) c7] at kk
      refine iteT ⟨_, T.i_NO_RECORDS, small1000 (by decide), fun D nD => kk D _ nD (SB (same_new nD)) (hw.same (Wo.but fun b o e _ => same_new nD b o e)) ?_⟩
      rw [upd_same]
      rfl
    | some rs =>
      have r2 : as.length = rs.length := r2
      have hne0 := ne rs rfl
      obtain ⟨b, as', rfl⟩ : ∃ b as', as = b :: as' := by
        cases as with
        | nil => exact absurd (List.eq_nil_of_length_eq_zero r2.symm) hne0
        | cons b as' => exact ⟨b, as', rfl⟩
      refine iteF ⟨_, rfl, _, T.i_RANK, rfl, _, rfl, ?_⟩
      by_cases z7 : c = 7
      · subst z7
        refine iteC rfl ⟨_, (ok_rank T).mono (by decide), _, rfl, a, _, dx, _, _, rfl, h1, T.cl_Holder, T.na_Holder_records, rfl, rl, rs, rfl, hR, fun D H2 nD s2 d2 => kk D H2 nD (SB s2) (hw.same (Wo.but fun b o e _ => s2 b o e)) d2⟩
      refine iteD (hne z7) ⟨_, rfl, _, _, rfl, rfl, _, rfl, ?_⟩
      have off : (ValayBase.index i rs.length).bind (fun k => rs[k]?) = none → ∀ D H', H D = none → Same H H' → H' D = some (.lst [.int (-2)]) → Q (.ref D) H' := fun e D H' nD s2 d2 => by
        rw [step_off (by omega) (by omega) rs e] at kk
        exact kk D H' nD (SB s2) (hw.same (Wo.but fun b o e _ => s2 b o e)) d2
      by_cases ilt : i < 0
      · rw [decide_eq_true ilt]
        refine iteT (iteT ⟨_, T.i_NO_SUCH_RECORD, small1000 (by decide), fun D nD => off ?_ D _ nD (same_new nD) ?_⟩)
        · unfold ValayBase.index
          rw [if_neg (by omega)]
          rfl
        · rw [upd_same]
      · rw [decide_eq_false ilt]
        refine iteF ⟨_, rfl, _, rfl, a, _, dx, _, _, rfl, h1, T.cl_Holder, T.na_Holder_records, rfl, _, rs.length, rfl, .inl ⟨_, SqL.of r1, by rw [List.length_map, r2]⟩, _, _, rfl, rfl, _, rfl, ?_⟩
        by_cases ige : (rs.length : Int) ≤ i
        · rw [decide_eq_true ige]
          refine iteT ⟨_, T.i_NO_SUCH_RECORD, small1000 (by decide), fun D nD => off ?_ D _ nD (same_new nD) ?_⟩
          · unfold ValayBase.index
            rw [if_neg (by omega)]
            rfl
          · rw [upd_same]
        · rw [decide_eq_false ige]
          obtain ⟨n, rfl⟩ : ∃ n : Nat, i = (n : Int) := ⟨i.toNat, by omega⟩
          have hn : n < rs.length := by omega
          have hu : rs[n]? = some rs[n] := List.getElem?_eq_getElem hn
          generalize rs[n] = u at hu
          obtain ⟨q, hq⟩ : ∃ q, (b :: as')[n]? = some q := ⟨_, List.getElem?_eq_getElem (by omega)⟩
          have rk := r4 n q u hq hu
          have hi : (ValayBase.index (n : Int) rs.length).bind (fun k => rs[k]?) = some u := by
            unfold ValayBase.index
            rw [if_pos ⟨by omega, by omega⟩]
            exact hu
          rw [toldO_step (by omega) (by omega) _ rs u hi rfl] at kk
          exact iteF ⟨_, (ok_ar T).mono (by decide), _, rfl, a, _, dx, _, _, rfl, h1, T.cl_Holder, T.na_Holder_records, rfl, _, rfl, _, _, _, V.ref q, rfl, rfl, SqL.of r1, atI_nat (by rw [List.getElem?_map, hq]; rfl), _, rfl, _, rfl, q, l, u.t, c, ns, rfl, rk, hS, fun D H2 nD s2 d2 => kk D H2 nD (SB s2) (hw.same (Wo.but fun b o e _ => s2 b o e)) d2⟩
end
end LY
set_option Elab.async false
set_option linter.all false
set_option maxRecDepth 100000
set_option maxHeartbeats 4000000
set_option exponentiation.threshold 10000
namespace LY
open PySem PySem.Spec PyProof.Rows L2
open Valaya (Rec)
/-! ### the calls in one list -/
theorem row_some {l x s : List Int} (h : PyFlat.row l = some (x, s)) : l = (x.length : Int) :: (x ++ s) := by
  cases l with
  | nil => cases h
  | cons n q =>
    have h : (if 0 ≤ n ∧ n.toNat ≤ q.length then some (q.take n.toNat, q.drop n.toNat) else none) = some (x, s) := h
    by_cases c : 0 ≤ n ∧ n.toNat ≤ q.length
    · rw [if_pos c] at h
      cases h
      rw [List.take_append_drop, List.length_take, Nat.min_eq_left c.2, Int.toNat_of_nonneg c.1]
    · rw [if_neg c] at h
      cases h
def hasI (p : Int) : Bool := decide (1 ≤ p ∧ p ≤ 6)
def hasR (p : Int) : Bool := decide (p = 0 ∨ (3 ≤ p ∧ p ≤ 6))
def midOf (p i : Int) (row : List Int) : List Int := (if hasI p = true then [i] else []) ++ (if hasR p = true then (row.length : Int) :: row else [])
theorem rows1 {l : List Int} {xs : List (List Int)} {t : List Int} (h : PyFlat.rows 1 l = some (xs, t)) : ∃ row, xs = [row] ∧ l = (row.length : Int) :: (row ++ t) := by
  have h : (match PyFlat.row l with
    | none => none
    | some (x, s) => match PyFlat.rows 0 s with
      | none => none
      | some (xs, t) => some (x :: xs, t)) = some (xs, t) := h
  cases e : PyFlat.row l with
  | none =>
    rw [e] at h
    cases h
  | some y =>
    obtain ⟨x, s⟩ := y
    rw [e] at h
    cases h
    exact ⟨x, rfl, row_some e⟩
theorem call_split {p : Int} {r t : List Int} {raw : List (List Int)} (h : PyFlat.call PyValaye.shape (p :: r) = some (raw, t)) :
    ∃ (i : Int) (row : List Int), 0 ≤ p ∧ p ≤ 7 ∧ PyValaye.whole raw = rowsOf p i row ∧ raw = rowsOf p i row ∧ r = midOf p i row ++ t ∧ (hasI p = false → i = 0) ∧ (hasR p = false → row = []) := by
  have hs : ∀ {n k : Nat}, PyValaye.shape p = some (n, k) → (if r.length < n then none else match PyFlat.rows k (r.drop n) with
        | none => none
        | some (xs, t) => some ((p :: r.take n) :: xs, t)) = some (raw, t) := fun {n k} e => by
    have h : (match PyValaye.shape p with
      | none => none
      | some (n, k) => if r.length < n then none else match PyFlat.rows k (r.drop n) with
        | none => none
        | some (xs, t) => some ((p :: r.take n) :: xs, t)) = some (raw, t) := h
    rw [e] at h
    exact h
  by_cases p0 : p = 0
  · subst p0
    have h := hs (n := 0) (k := 1) rfl
    rw [if_neg (Nat.not_lt_zero _)] at h
    cases e : PyFlat.rows 1 (r.drop 0) with
    | none =>
      rw [e] at h
      cases h
    | some y =>
      obtain ⟨xs, t'⟩ := y
      rw [e] at h
      cases h
      obtain ⟨row, rfl, er⟩ := rows1 e
      exact ⟨0, row, by decide, by decide, rfl, rfl, er, fun _ => rfl, fun z => (nomatch z)⟩
  by_cases p7 : p = 7
  · subst p7
    have h := hs (n := 0) (k := 0) rfl
    rw [if_neg (Nat.not_lt_zero _)] at h
    cases h
    exact ⟨0, [], by decide, by decide, rfl, rfl, rfl, fun _ => rfl, fun _ => rfl⟩
  by_cases p12 : p = 1 ∨ p = 2
  · have h := hs (n := 1) (k := 0) (by rcases p12 with rfl | rfl <;> rfl)
    cases r with
    | nil => cases h
    | cons i r =>
      rw [if_neg (by rw [List.length_cons]; omega)] at h
      cases h
      rcases p12 with rfl | rfl
      · exact ⟨i, [], by decide, by decide, rfl, rfl, rfl, (fun z => (nomatch z)), fun _ => rfl⟩
      · exact ⟨i, [], by decide, by decide, rfl, rfl, rfl, (fun z => (nomatch z)), fun _ => rfl⟩
  by_cases p36 : 3 ≤ p ∧ p ≤ 6
  · have p36' : p = 3 ∨ p = 4 ∨ p = 5 ∨ p = 6 := by omega
    have h := hs (n := 1) (k := 1) (by rcases p36' with rfl | rfl | rfl | rfl <;> rfl)
    cases r with
    | nil => cases h
    | cons i r =>
      rw [if_neg (by rw [List.length_cons]; omega)] at h
      cases e : PyFlat.rows 1 ((i :: r).drop 1) with
      | none =>
        rw [e] at h
        cases h
      | some y =>
        obtain ⟨xs, t'⟩ := y
        rw [e] at h
        cases h
        obtain ⟨row, rfl, er⟩ := rows1 e
        have er : r = (row.length : Int) :: (row ++ t) := er
        subst er
        rcases p36' with rfl | rfl | rfl | rfl
        all_goals exact ⟨i, row, by decide, by decide, rfl, rfl, rfl, (fun z => (nomatch z)), (fun z => (nomatch z))⟩
  · exfalso
    have : PyValaye.shape p = none := by
      unfold PyValaye.shape
      repeat rw [if_neg (by omega)]
    have h : (match PyValaye.shape p with
      | none => none
      | some (n, k) => if r.length < n then none else match PyFlat.rows k (r.drop n) with
        | none => none
        | some (xs, t) => some ((p :: r.take n) :: xs, t)) = some (raw, t) := h
    rw [this] at h
    cases h
theorem calls_cons {f : Nat} {p : Int} {r : List Int} {cs : List (List (List Int))} (h : PyFlat.calls PyValaye.shape f (p :: r) = some cs) : ∃ (f' : Nat) (raw : List (List Int)) (t : List Int) (cs' : List (List (List Int))), PyFlat.call PyValaye.shape (p :: r) = some (raw, t) ∧ PyFlat.calls PyValaye.shape f' t = some cs' ∧ cs = raw :: cs' := by
  cases f with
  | zero => cases h
  | succ f =>
    have h : (match PyFlat.call PyValaye.shape (p :: r) with
      | none => none
      | some (c, t) => match PyFlat.calls PyValaye.shape f t with
        | none => none
        | some cs => some (c :: cs)) = some cs := h
    cases e : PyFlat.call PyValaye.shape (p :: r) with
    | none =>
      rw [e] at h
      cases h
    | some y =>
      obtain ⟨raw, t⟩ := y
      rw [e] at h
      dsimp only at h
      cases e2 : PyFlat.calls PyValaye.shape f t with
      | none =>
        rw [e2] at h
        cases h
      | some cs' =>
        rw [e2] at h
        cases h
        exact ⟨f, raw, t, cs', rfl, e2, rfl⟩
theorem calls_nil {f : Nat} {cs : List (List (List Int))} (h : PyFlat.calls PyValaye.shape f [] = some cs) : cs = [] := by
  cases f <;> cases h <;> rfl
/-- a call's three parts -/
abbrev Trip := Int × Int × List Int
def rowsT (x : Trip) : List (List Int) := rowsOf x.1 x.2.1 x.2.2
theorem inV_cor {p : Int} (h0 : 0 ≤ p) (h7 : p ≤ 7) : inV (.int p) [.int 1, .int 2, .int 3, .int 4, .int 5, .int 6] = hasI p := by
  have : p = 0 ∨ p = 1 ∨ p = 2 ∨ p = 3 ∨ p = 4 ∨ p = 5 ∨ p = 6 ∨ p = 7 := by omega
  rcases this with rfl | rfl | rfl | rfl | rfl | rfl | rfl | rfl <;> decide +kernel
theorem inV_cwr {p : Int} (h0 : 0 ≤ p) (h7 : p ≤ 7) : inV (.int p) [.int 0, .int 3, .int 4, .int 5, .int 6] = hasR p := by
  have : p = 0 ∨ p = 1 ∨ p = 2 ∨ p = 3 ∨ p = 4 ∨ p = 5 ∨ p = 6 ∨ p = 7 := by omega
  rcases this with rfl | rfl | rfl | rfl | rfl | rfl | rfl | rfl <;> decide +kernel
theorem drop_succ_of {l r : List Int} {p : Int} {pos : Nat} (h : l.drop pos = p :: r) : l.drop (pos + 1) = r := by
  rw [← List.drop_drop, h]
  rfl
theorem atI_eq {xs : List V} {i : Int} {j : Nat} {v : V} (e : i = (j : Int)) (h : xs[j]? = some v) : atI xs i = some v := by
  rw [e]
  exact atI_nat h
theorem cut_mid {xs : List V} {lo hi : Nat} (h1 : lo ≤ hi) (h2 : hi ≤ xs.length) : cutV xs (some (lo : Int)) (some (hi : Int)) = (xs.drop lo).take (hi - lo) := by
  unfold cutV
  rw [HT.sIx_nat, HT.sIx_nat, Nat.min_eq_left h2, Nat.min_eq_left (Nat.le_trans h1 h2)]
section
variable {P : Program} {w : World} {K : PySem.W.Frag} {mg : Str → Option Value} {base : Heap}
abbrev s_split_calls : Stmt := top 79
abbrev n_split_calls : List Str := ["calls", "found", "place", "number", "index", "row", "start"]
theorem sc_split_calls : FnScope n_split_calls ["calls"] (defScope s_split_calls) := ⟨rfl, rfl, rfl, by decide +kernel, rfl, by decide +kernel, by decide +kernel⟩

/-- the calls' tuples, all beside F -/
def TripsAt (H0 H : Hp) (F : Addr) (as : List Addr) (ts : List Trip) : Prop := as.length = ts.length ∧ ∀ (k : Nat) (a : Addr) (x : Trip), as[k]? = some a → ts[k]? = some x → ∃ L, (H0 a = none ∧ a ≠ F) ∧ (H0 L = none ∧ L ≠ F) ∧ H a = some (.tup [.int x.1, .int x.2.1, .ref L]) ∧ H L = some (.lst (x.2.2.map V.int))
theorem TripsAt.but {H0 H H' : Hp} {F : Addr} {as : List Addr} {ts : List Trip} (h : TripsAt H0 H F as ts) (s : ∀ b o, H b = some o → H0 b = none → b ≠ F → H' b = some o) : TripsAt H0 H' F as ts :=
  ⟨h.1, fun k a x q r => by
    obtain ⟨L, n1, n2, h1, h2⟩ := h.2 k a x q r
    exact ⟨L, n1, n2, s _ _ h1 n1.1 n1.2, s _ _ h2 n2.1 n2.2⟩⟩
theorem trips_snoc {H H1 H2 : Hp} {F Tp L : Addr} {as : List Addr} {ts : List Trip} {p i : Int} {row : List Int} (nF : H F = none) (s1 : Same H H1) (f1 : H1 F = some (.lst (as.map V.ref))) (tr : TripsAt H H1 F as ts) (s2 : Same H1 H2) (hL : H2 L = some (.lst (row.map V.int))) (LF : H L = none ∧ L ≠ F) (nT : H2 Tp = none) :
    Same H (upd (upd H2 Tp (.tup [.int p, .int i, .ref L])) F (.lst (as.map V.ref ++ [.ref Tp]))) ∧ (upd (upd H2 Tp (.tup [.int p, .int i, .ref L])) F (.lst (as.map V.ref ++ [.ref Tp]))) F = some (.lst ((as ++ [Tp]).map V.ref)) ∧
      TripsAt H (upd (upd H2 Tp (.tup [.int p, .int i, .ref L])) F (.lst (as.map V.ref ++ [.ref Tp]))) F (as ++ [Tp]) (ts ++ [(p, i, row)]) := by
  have keep : ∀ b o, H2 b = some o → b ≠ F → (upd (upd H2 Tp (.tup [.int p, .int i, .ref L])) F (.lst (as.map V.ref ++ [.ref Tp]))) b = some o := fun b o e ne => (upd_ne ne).trans ((upd_ne (ne_of_none e nT)).trans e)
  have TF : Tp ≠ F := fun e => by
    rw [e] at nT
    have := (s2 _ _ f1).symm.trans nT
    cases this
  refine ⟨fun b o e => keep b o (s2 _ _ (s1 _ _ e)) (ne_of_none e nF), ?_, by rw [List.length_append, List.length_append, tr.1]; rfl, fun k a x q r => ?_⟩
  · rw [upd_same, List.map_append]
    rfl
  · rcases Nat.lt_or_ge k as.length with h | h
    · rw [List.getElem?_append_left h] at q
      rw [List.getElem?_append_left (by rw [← tr.1]; exact h)] at r
      obtain ⟨L', n1, n2, h1, h2⟩ := tr.2 k a x q r
      exact ⟨L', n1, n2, keep _ _ (s2 _ _ h1) n1.2, keep _ _ (s2 _ _ h2) n2.2⟩
    · have hk : k = as.length := by
        have := (List.getElem?_eq_some_iff.mp q).1
        rw [List.length_append] at this
        have e1 : [Tp].length = 1 := rfl
        omega
      subst hk
      rw [List.getElem?_append_right (Nat.le_refl _), Nat.sub_self] at q
      rw [tr.1, List.getElem?_append_right (Nat.le_refl _), Nat.sub_self] at r
      cases q
      cases r
      exact ⟨L, ⟨free_of (s1.trans s2) nT, TF⟩, LF, (upd_ne TF).trans upd_same, keep _ _ hL LF.2⟩
def TripOk (x : Trip) : Prop := 0 ≤ x.1 ∧ x.1 ≤ 7
def spSplit (K : PySem.W.Frag) : Sp := fun vs H Q _ => ∃ (a : Addr) (l : List Int) (f : Nat) (cs : List (List (List Int))), vs = [.ref a] ∧ SqL K H a (l.map V.int) ∧ l.length ≤ sizeLine ∧ PyFlat.calls PyValaye.shape f l = some cs ∧
  ∀ D H' as ts, H D = none → Same H H' → H' D = some (.lst (as.map V.ref)) → TripsAt H H' D as ts → (∀ x ∈ ts, TripOk x) → ts.map rowsT = cs → Q (.ref D) H'
theorem ok_split (T : Txt K mg) (t1 : TupIs K mg "CALLS_OF_A_RECORD") (t2 : TupIs K mg "CALLS_WITH_A_ROW") : COk P w K mg base CX0 1 "split_calls" (spSplit K) :=
  mkC T.g_split_calls T.d_split_calls sc_split_calls (fun vs H Q E h => by obtain ⟨a, l, f, cs, rfl, _⟩ := h; rfl) (fun _ _ _ _ _ _ us hl => match us, hl with | [_], _ => rfl) fun cdv A outer s H vs Q E hr h => by
    obtain ⟨a, l, f, cs, rfl, hS, small, hc, kk⟩ := h
    refine ⟨_, PSs.nox (pss_cons (ps_set (i := 1) sc_split_calls.nd rfl (Or.inl rfl) (by exact (pe_lst pa_nil)))
      (pss_cons (ps_set (i := 2) sc_split_calls.nd rfl (Or.inl rfl) (by exact pe_int))
      (pss_cons (ps_while PassesOwn.never (pt_cmpR op_lt (pv 2) (pe_callB call_len (by rfl) T.f_len (by decide +kernel) (by exact (pa_cons (pv 0) pa_nil))) (nomark _)) (pss_cons (ps_set (i := 3) sc_split_calls.nd rfl (Or.inl rfl) (by exact (pe_ix ix_list (pv 0) (pv 2) (fun _ _ => rfl))))
      (pss_cons (ps_aug (i := 2) sc_split_calls.nd rfl (.inl rfl) pe_int ip_add)
      (pss_cons (ps_set (i := 4) sc_split_calls.nd rfl (Or.inl rfl) (by exact pe_int))
      (pss_cons (ps_if (pt_cmpR op_in_seq (pv 3) (pe_gn rfl) (by rfl)) (pss_cons (ps_set (i := 4) sc_split_calls.nd rfl (Or.inl rfl) (by exact (pe_ix ix_list (pv 0) (pv 2) (fun _ _ => rfl))))
      (pss_one (ps_aug (i := 2) sc_split_calls.nd rfl (.inl rfl) pe_int ip_add))) pss_nil)
      (pss_cons (ps_set (i := 5) sc_split_calls.nd rfl (Or.inl rfl) (by exact (pe_lst pa_nil)))
      (pss_cons (ps_if (pt_cmpR op_in_seq (pv 3) (pe_gn rfl) (by rfl)) (pss_cons (ps_set (i := 6) sc_split_calls.nd rfl (Or.inl rfl) (by exact (pe_op op_add (pv 2) pe_int)))
      (pss_cons (ps_set (i := 2) sc_split_calls.nd rfl (Or.inl rfl) (by exact (pe_op op_add (pv 6) (pe_ix ix_list (pv 0) (pv 2) (fun _ _ => rfl)))))
      (pss_one (ps_set (i := 5) sc_split_calls.nd rfl (Or.inl rfl) (by exact (pe_slice sl_list (pv 0) (po_some (pv 6)) (po_some (pv 2)))))))) pss_nil)
      (pss_one (ps_expr (pe_bm PySem.F.plainAttrs_list PySem.F.slot_list_append PySem.F.type_list_append mt_append (pv 1) (by exact (pa_cons (pe_tup (pa_cons (pv 3) (pa_cons (pv 4) (pa_cons (pv 5) pa_nil)))) pa_nil))))))))))))
      (pss_one (ps_ret (by exact (pv 1))))))), ?_⟩
    refine ⟨Nat.zero_le _, fun F nF => ?_⟩
    have sF : Same H (upd H F (.lst [])) := same_new nF
    refine ⟨fun m σ H' => ∃ (pos f' : Nat) (cs' : List (List (List Int))) (as : List Addr) (ts : List Trip) (v3 v4 v5 v6 : Option V), m = l.length - pos ∧ σ = [some (.ref a), some (.ref F), some (.int (pos : Nat)), v3, v4, v5, v6] ∧ Same H H' ∧ H' F = some (.lst (as.map V.ref)) ∧ pos ≤ l.length ∧ PyFlat.calls PyValaye.shape f' (l.drop pos) = some cs' ∧
        TripsAt H H' F as ts ∧ (∀ x ∈ ts, TripOk x) ∧ ts.map rowsT ++ cs' = cs ∧ as.length ≤ pos, ⟨_, 0, f, cs, [], [], none, none, none, none, rfl, rfl, sF, upd_same, Nat.zero_le _, hc, ⟨rfl, fun k a x q => by simp at q⟩, (fun x hx => by cases hx), rfl, Nat.zero_le _⟩, ?_⟩
    rintro m σ H' ⟨pos, f', cs', as, ts, v3, v4, v5, v6, rfl, rfl, s1, f1, hpos, hcs, tr, tok, ecs, few⟩
    refine ⟨_, rfl, _, rfl, _, l.length, rfl, .inl ⟨_, s1.seq hS, by rw [List.length_map]⟩, _, _, rfl, rfl, _, rfl, ?_⟩
    rcases Nat.lt_or_ge pos l.length with hlt | hge
    · refine (show if decide ((pos : Int) < (l.length : Int)) = true then _ else _ from iteC (by omega) ?_)
      obtain ⟨p, hp⟩ : ∃ p, l[pos]? = some p := ⟨_, List.getElem?_eq_getElem hlt⟩
      have hd := drop_some hp
      generalize hrr : l.drop (pos + 1) = r at hd
      rw [hd] at hcs
      obtain ⟨f2, raw, t, cs2, hcall, hcs2, e2⟩ := calls_cons hcs
      obtain ⟨i, row, p0, p7, _, ew, er, ei, erow⟩ := call_split hcall
      have g1 : ∀ k v, (midOf p i row ++ t)[k]? = some v → (l.map V.int)[pos + 1 + k]? = some (.int v) := fun k v e => by
        have := congrArg (fun z : List Int => z[k]?) (drop_succ_of hd)
        rw [List.getElem?_drop] at this
        rw [List.getElem?_map, this, er, e]
        rfl
      have gl : pos + 1 + (midOf p i row).length + t.length = l.length := by
        have := congrArg List.length hd
        rw [List.length_drop, List.length_cons, er, List.length_append] at this
        omega
      have gt : l.drop (pos + 1 + (midOf p i row).length) = t := by
        have := congrArg (List.drop (midOf p i row).length) (drop_succ_of hd)
        rw [List.drop_drop, er, List.drop_left] at this
        exact this
      refine ⟨_, fun σ' H' h => h, _, rfl, _, rfl, _, _, _, V.int p, rfl, rfl, s1.seq hS, atI_nat (by rw [List.getElem?_map, hp]; rfl), _, rfl, _, _, rfl, rfl, ?_⟩
      refine ⟨_, rfl, _, t1.is, _, _, rfl, .inr (T.cor _), rfl, rfl, _, rfl, ?_⟩
      refine (show if inV (.int p) [.int 1, .int 2, .int 3, .int 4, .int 5, .int 6] = true then _ else _ from ?_)
      rw [inV_cor p0 p7]
      unfold midOf at g1 gl gt
      cases hI : hasI p with
      | true =>
        rw [hI] at g1 gl gt
        refine iteT ⟨_, rfl, _, rfl, _, _, _, V.int i, rfl, rfl, s1.seq hS, atI_eq (j := pos + 1) (by show (pos : Int) + 1 = _; omega) (g1 0 i rfl), _, rfl, _, _, rfl, rfl, ?_⟩
        refine ⟨Nat.zero_le _, fun R nR => ?_⟩
        have sR : Same H' (upd H' R (.lst [])) := same_new nR
        have RF : H R = none ∧ R ≠ F := ⟨free_of s1 nR, (ne_of_none f1 nR).symm⟩
        refine ⟨_, rfl, _, t2.is, _, _, rfl, .inr (T.cwr _), rfl, rfl, _, rfl, ?_⟩
        refine (show if inV (.int p) [.int 0, .int 3, .int 4, .int 5, .int 6] = true then _ else _ from ?_)
        rw [inV_cwr p0 p7]
        cases hW : hasR p with
        | true =>
          rw [hW] at g1 gl gt
          have gl : pos + 1 + 1 + (row.length + 1) + t.length = l.length := by
            simp only [List.length_append, List.length_cons, List.length_nil, if_true, Bool.false_eq_true, if_false] at gl
            omega
          refine iteT ⟨_, rfl, _, _, rfl, rfl, _, rfl, _, rfl, _, rfl, _, _, _, V.int (row.length : Nat), rfl, rfl, (s1.trans sR).seq hS, atI_eq (j := pos + 1 + 1) (by show (pos : Int) + 1 + 1 = _; omega) (g1 1 _ rfl), _, _, rfl, rfl, ?_⟩
          refine ⟨_, rfl, _, rfl, _, rfl, _, rfl, _, rfl, _, _, rfl, (s1.trans sR).seq hS, fun L nL => ?_⟩
          have ec : cutV (l.map V.int) (some ((pos : Int) + 1 + 1 + 1)) (some ((pos : Int) + 1 + 1 + 1 + ((row.length : Nat) : Int))) = row.map V.int := by
            rw [show ((pos : Int) + 1 + 1 + 1) = ((pos + 1 + 1 + 1 : Nat) : Int) by omega, ← Int.natCast_add, cut_mid (by omega) (by rw [List.length_map]; omega), ← List.map_drop, ← List.map_take]
            have e9 := congrArg (fun z : List Int => (z.drop (1 + 1)).take row.length) ((drop_succ_of hd).trans er)
            unfold midOf at e9
            rw [hI, hW] at e9
            rw [List.drop_drop] at e9
            rw [show pos + 1 + 1 + 1 + row.length - (pos + 1 + 1 + 1) = row.length by omega, show pos + 1 + 1 + 1 = pos + 1 + (1 + 1) by omega, e9]
            exact congrArg (List.map V.int) (List.take_left (l₁ := row) (l₂ := t))
          have sL : Same H' (upd (upd H' R (.lst [])) L (.lst (row.map V.int))) := sR.trans (same_new nL)
          have LF : H L = none ∧ L ≠ F := ⟨free_of (s1.trans sR) nL, (ne_of_none (sR _ _ f1) nL).symm⟩
          rw [ec]
          refine ⟨_, rfl, .inl ⟨rfl, _, SqL.of (sL _ _ f1)⟩, _, rfl, _, rfl, _, rfl, small1000 (Nat.le_of_ble_eq_true rfl), fun Tp nT => ?_⟩
          obtain ⟨a1, a2, a3⟩ := trips_snoc (p := p) (i := i) nF s1 f1 tr sL upd_same LF nT
          refine ⟨F, _, _, rfl, rfl, (upd_ne (ne_of_none (sL _ _ f1) nT)).trans (sL _ _ f1), ?_, l.length - (pos + 1 + 1 + (row.length + 1)), by omega, pos + 1 + 1 + (row.length + 1), f2, cs2, as ++ [Tp], ts ++ [(p, i, row)], some (.int p), some (.int i), some (.ref L), some (.int ((pos : Int) + 1 + 1 + 1)), rfl, ?_, a1, a2, by omega, ?_, a3, ?_, ?_, ?_⟩
          · rw [List.length_map]
            exact Nat.lt_of_le_of_lt few (Nat.lt_of_lt_of_le hlt small)
          · show [some (V.ref a), some (V.ref F), some (V.int ((pos : Int) + 1 + 1 + 1 + ((row.length : Nat) : Int))), some (V.int p), some (V.int i), some (V.ref L), some (V.int ((pos : Int) + 1 + 1 + 1))] = _
            rw [show ((pos : Int) + 1 + 1 + 1 + ((row.length : Nat) : Int)) = ((pos + 1 + 1 + (row.length + 1) : Nat) : Int) by omega]
          · rw [← hcs2, ← gt]
            congr 2
            try simp only [List.length_append, List.length_cons, List.length_nil, if_true, Bool.false_eq_true, if_false]
            try omega
          · intro x hx
            rcases List.mem_append.mp hx with h | h
            · exact tok x h
            · cases List.mem_singleton.mp h
              exact ⟨p0, p7⟩
          · rw [List.map_append, List.append_assoc, ← ecs, e2, ew]
            rfl
          · rw [List.length_append]
            show as.length + 1 ≤ _
            omega
        | false =>
          rw [hW] at g1 gl gt
          have r0 := erow hW
          subst r0
          refine iteF ?_
          have gl : pos + 1 + 1 + t.length = l.length := by
            simp only [List.length_append, List.length_cons, List.length_nil, if_true, Bool.false_eq_true, if_false] at gl
            omega
          refine ⟨_, rfl, .inl ⟨rfl, _, SqL.of (sR _ _ f1)⟩, _, rfl, _, rfl, _, rfl, small1000 (Nat.le_of_ble_eq_true rfl), fun Tp nT => ?_⟩
          obtain ⟨a1, a2, a3⟩ := trips_snoc (p := p) (i := i) (row := []) nF s1 f1 tr sR upd_same RF nT
          refine ⟨F, _, _, rfl, rfl, (upd_ne (ne_of_none (sR _ _ f1) nT)).trans (sR _ _ f1), ?_, l.length - (pos + 1 + 1), by omega, pos + 1 + 1, f2, cs2, as ++ [Tp], ts ++ [(p, i, [])], some (.int p), some (.int i), some (.ref R), v6, rfl, ?_, a1, a2, by omega, ?_, a3, ?_, ?_, ?_⟩
          · rw [List.length_map]
            exact Nat.lt_of_le_of_lt few (Nat.lt_of_lt_of_le hlt small)
          · show [some (V.ref a), some (V.ref F), some (V.int ((pos : Int) + 1 + 1)), some (V.int p), some (V.int i), some (V.ref R), v6] = _
            rw [show ((pos : Int) + 1 + 1) = ((pos + 1 + 1 : Nat) : Int) by omega]
          · rw [← hcs2, ← gt]
            congr 2
          · intro x hx
            rcases List.mem_append.mp hx with h | h
            · exact tok x h
            · cases List.mem_singleton.mp h
              exact ⟨p0, p7⟩
          · rw [List.map_append, List.append_assoc, ← ecs, e2, ew]
            rfl
          · rw [List.length_append]
            show as.length + 1 ≤ _
            omega
      | false =>
        rw [hI] at g1 gl gt
        have i0 := ei hI
        subst i0
        refine iteF ?_
        refine ⟨Nat.zero_le _, fun R nR => ?_⟩
        have sR : Same H' (upd H' R (.lst [])) := same_new nR
        have RF : H R = none ∧ R ≠ F := ⟨free_of s1 nR, (ne_of_none f1 nR).symm⟩
        refine ⟨_, rfl, _, t2.is, _, _, rfl, .inr (T.cwr _), rfl, rfl, _, rfl, ?_⟩
        refine (show if inV (.int p) [.int 0, .int 3, .int 4, .int 5, .int 6] = true then _ else _ from ?_)
        rw [inV_cwr p0 p7]
        cases hW : hasR p with
        | true =>
          rw [hW] at g1 gl gt
          have gl : pos + 1 + 0 + (row.length + 1) + t.length = l.length := by
            simp only [List.length_append, List.length_cons, List.length_nil, if_true, Bool.false_eq_true, if_false] at gl
            omega
          refine iteT ⟨_, rfl, _, _, rfl, rfl, _, rfl, _, rfl, _, rfl, _, _, _, V.int (row.length : Nat), rfl, rfl, (s1.trans sR).seq hS, atI_eq (j := pos + 1 + 0) (by show (pos : Int) + 1 = _; omega) (g1 0 _ rfl), _, _, rfl, rfl, ?_⟩
          refine ⟨_, rfl, _, rfl, _, rfl, _, rfl, _, rfl, _, _, rfl, (s1.trans sR).seq hS, fun L nL => ?_⟩
          have ec : cutV (l.map V.int) (some ((pos : Int) + 1 + 1)) (some ((pos : Int) + 1 + 1 + ((row.length : Nat) : Int))) = row.map V.int := by
            rw [show ((pos : Int) + 1 + 1) = ((pos + 1 + 0 + 1 : Nat) : Int) by omega, ← Int.natCast_add, cut_mid (by omega) (by rw [List.length_map]; omega), ← List.map_drop, ← List.map_take]
            have e9 := congrArg (fun z : List Int => (z.drop (0 + 1)).take row.length) ((drop_succ_of hd).trans er)
            unfold midOf at e9
            rw [hI, hW] at e9
            rw [List.drop_drop] at e9
            rw [show pos + 1 + 0 + 1 + row.length - (pos + 1 + 0 + 1) = row.length by omega, show pos + 1 + 0 + 1 = pos + 1 + (0 + 1) by omega, e9]
            exact congrArg (List.map V.int) (List.take_left (l₁ := row) (l₂ := t))
          have sL : Same H' (upd (upd H' R (.lst [])) L (.lst (row.map V.int))) := sR.trans (same_new nL)
          have LF : H L = none ∧ L ≠ F := ⟨free_of (s1.trans sR) nL, (ne_of_none (sR _ _ f1) nL).symm⟩
          rw [ec]
          refine ⟨_, rfl, .inl ⟨rfl, _, SqL.of (sL _ _ f1)⟩, _, rfl, _, rfl, _, rfl, small1000 (Nat.le_of_ble_eq_true rfl), fun Tp nT => ?_⟩
          obtain ⟨a1, a2, a3⟩ := trips_snoc (p := p) (i := 0) nF s1 f1 tr sL upd_same LF nT
          refine ⟨F, _, _, rfl, rfl, (upd_ne (ne_of_none (sL _ _ f1) nT)).trans (sL _ _ f1), ?_, l.length - (pos + 1 + 0 + (row.length + 1)), by omega, pos + 1 + 0 + (row.length + 1), f2, cs2, as ++ [Tp], ts ++ [(p, 0, row)], some (.int p), some (.int 0), some (.ref L), some (.int ((pos : Int) + 1 + 1)), rfl, ?_, a1, a2, by omega, ?_, a3, ?_, ?_, ?_⟩
          · rw [List.length_map]
            exact Nat.lt_of_le_of_lt few (Nat.lt_of_lt_of_le hlt small)
          · show [some (V.ref a), some (V.ref F), some (V.int ((pos : Int) + 1 + 1 + ((row.length : Nat) : Int))), some (V.int p), some (V.int 0), some (V.ref L), some (V.int ((pos : Int) + 1 + 1))] = _
            rw [show ((pos : Int) + 1 + 1 + ((row.length : Nat) : Int)) = ((pos + 1 + 0 + (row.length + 1) : Nat) : Int) by omega]
          · rw [← hcs2, ← gt]
            congr 2
            try simp only [List.length_append, List.length_cons, List.length_nil, if_true, Bool.false_eq_true, if_false]
            try omega
          · intro x hx
            rcases List.mem_append.mp hx with h | h
            · exact tok x h
            · cases List.mem_singleton.mp h
              exact ⟨p0, p7⟩
          · rw [List.map_append, List.append_assoc, ← ecs, e2, ew]
            rfl
          · rw [List.length_append]
            show as.length + 1 ≤ _
            omega
        | false =>
          rw [hW] at g1 gl gt
          have r0 := erow hW
          subst r0
          refine iteF ?_
          have gl : pos + 1 + 0 + t.length = l.length := by
            simp only [List.length_append, List.length_cons, List.length_nil, if_true, Bool.false_eq_true, if_false] at gl
            omega
          refine ⟨_, rfl, .inl ⟨rfl, _, SqL.of (sR _ _ f1)⟩, _, rfl, _, rfl, _, rfl, small1000 (Nat.le_of_ble_eq_true rfl), fun Tp nT => ?_⟩
          obtain ⟨a1, a2, a3⟩ := trips_snoc (p := p) (i := 0) (row := []) nF s1 f1 tr sR upd_same RF nT
          refine ⟨F, _, _, rfl, rfl, (upd_ne (ne_of_none (sR _ _ f1) nT)).trans (sR _ _ f1), ?_, l.length - (pos + 1 + 0), by omega, pos + 1 + 0, f2, cs2, as ++ [Tp], ts ++ [(p, 0, [])], some (.int p), some (.int 0), some (.ref R), v6, rfl, ?_, a1, a2, by omega, ?_, a3, ?_, ?_, ?_⟩
          · rw [List.length_map]
            exact Nat.lt_of_le_of_lt few (Nat.lt_of_lt_of_le hlt small)
          · show [some (V.ref a), some (V.ref F), some (V.int ((pos : Int) + 1)), some (V.int p), some (V.int 0), some (V.ref R), v6] = _
            rw [show ((pos : Int) + 1) = ((pos + 1 + 0 : Nat) : Int) by omega]
          · rw [← hcs2, ← gt]
            congr 2
          · intro x hx
            rcases List.mem_append.mp hx with h | h
            · exact tok x h
            · cases List.mem_singleton.mp h
              exact ⟨p0, p7⟩
          · rw [List.map_append, List.append_assoc, ← ecs, e2, ew]
            rfl
          · rw [List.length_append]
            show as.length + 1 ≤ _
            omega
    · refine (show if decide ((pos : Int) < (l.length : Int)) = true then _ else _ from iteD (by omega) ?_)
      rw [List.drop_eq_nil_of_le hge] at hcs
      have e0 := calls_nil hcs
      subst e0
      rw [List.append_nil] at ecs
      exact ⟨_, rfl, kk F H' as ts nF s1 f1 tr tok ecs⟩
end
end LY
set_option Elab.async false
set_option linter.all false
set_option maxRecDepth 100000
set_option maxHeartbeats 4000000
set_option exponentiation.threshold 10000
namespace LY
open PySem PySem.Spec PyProof.Rows L2
open Valaya (Rec)
/-! ### all calls -/
abbrev stp := ValayeNeutral.step
def fin (s : ValayeNeutral.S) : List (List (List Int)) → ValayeNeutral.S
  | [] => s
  | c :: r => fin (stp s c).1 r
theorem fin_snoc : ∀ (xs : List (List (List Int))) (c : List (List Int)) (s : ValayeNeutral.S), fin s (xs ++ [c]) = (stp (fin s xs) c).1
  | [], _, _ => rfl
  | x :: xs, c, s => fin_snoc xs c (stp s x).1
theorem played_snoc : ∀ (xs : List (List (List Int))) (c : List (List Int)) (s : ValayeNeutral.S), PyFlat.played stp s (xs ++ [c]) = PyFlat.played stp s xs ++ [(stp (fin s xs) c).2]
  | [], _, _ => rfl
  | x :: xs, c, s => congrArg (List.cons (stp s x).2) (played_snoc xs c (stp s x).1)
theorem played_app : ∀ (xs ys : List (List (List Int))) (s : ValayeNeutral.S), PyFlat.played stp s (xs ++ ys) = PyFlat.played stp s xs ++ PyFlat.played stp (fin s xs) ys
  | [], _, _ => rfl
  | x :: xs, ys, s => congrArg (List.cons (stp s x).2) (played_app xs ys (stp s x).1)
theorem told_app (a b : List (List Int)) : PyFlat.told (a ++ b) = PyFlat.told a ++ PyFlat.told b := List.flatMap_append
theorem whole_rows {p i : Int} {row : List Int} (h0 : 0 ≤ p) (h7 : p ≤ 7) : PyValaye.whole (rowsOf p i row) = rowsOf p i row := by
  have : p = 0 ∨ p = 1 ∨ p = 2 ∨ p = 3 ∨ p = 4 ∨ p = 5 ∨ p = 6 ∨ p = 7 := by omega
  rcases this with rfl | rfl | rfl | rfl | rfl | rfl | rfl | rfl <;> rfl
theorem whole_all : ∀ {ts : List Trip}, (∀ x ∈ ts, TripOk x) → (ts.map rowsT).map PyValaye.whole = ts.map rowsT
  | [], _ => rfl
  | x :: ts, h => by
    have := whole_all (ts := ts) fun y hy => h y (List.mem_cons_of_mem _ hy)
    show PyValaye.whole (rowsT x) :: _ = rowsT x :: _
    rw [this]
    exact congrArg (· :: ts.map rowsT) (whole_rows (h x List.mem_cons_self).1 (h x List.mem_cons_self).2)
theorem asked_load {row : List Int} (h : ValayeNeutral.asked1 [[0], row] = true) : NeutralIO.bytes row = true ∧ row.length ≤ 8192 := by
  have h : (row.all (fun (z : Int) => ValayeNeutral.natural z 8) && decide (row.length ≤ 8192)) = true := h
  obtain ⟨h1, h2⟩ := Bool.and_eq_true_iff.mp h
  refine ⟨List.all_eq_true.mpr fun z hz => ?_, of_decide_eq_true h2⟩
  have := List.all_eq_true.mp h1 z hz
  obtain ⟨a, b⟩ := Bool.and_eq_true_iff.mp this
  have a := of_decide_eq_true a
  have b := of_decide_eq_true b
  have e : (2 : Int) ^ 8 = 256 := by decide
  rw [e] at b
  exact Bool.and_eq_true_iff.mpr ⟨decide_eq_true a, decide_eq_true (by omega)⟩
/-- what the asked line tells -/
theorem asked_is {ns : List Int} (h : PyValaye.answers_asked ns = true) : ∃ raw, PyFlat.calls PyValaye.shape ns.length ns = some raw ∧ ((raw.map PyValaye.whole).all ValayeNeutral.asked1 = true) ∧ (PyFlat.told (PyFlat.played stp ValayeNeutral.start (raw.map PyValaye.whole))).length ≤ 10000000 ∧
    PyValaye.answers ns = PyFlat.told (PyFlat.played stp ValayeNeutral.start (raw.map PyValaye.whole)) := by
  unfold PyValaye.answers_asked at h
  cases e : PyFlat.calls PyValaye.shape ns.length ns with
  | none =>
    rw [e] at h
    cases h
  | some raw =>
    rw [e] at h
    dsimp only at h
    obtain ⟨h1, h5⟩ := Bool.and_eq_true_iff.mp h
    obtain ⟨h1, h4⟩ := Bool.and_eq_true_iff.mp h1
    have ea : PyValaye.answers ns = PyFlat.told (PyFlat.played stp ValayeNeutral.start (raw.map PyValaye.whole)) := by
      unfold PyValaye.answers PyValaye.calls
      rw [e]
    rw [ea] at h5
    exact ⟨raw, rfl, (Bool.and_eq_true_iff.mp h4).1, of_decide_eq_true h5, ea⟩
section
variable {P : Program} {w : World} {K : PySem.W.Frag} {mg : Str → Option Value} {base : Heap}
abbrev s_answers : Stmt := top 78
abbrev n_answers : List Str := ["calls", "holder", "told", "number", "index", "row", "answer"]
theorem sc_answers : FnScope n_answers ["calls"] (defScope s_answers) := ⟨rfl, rfl, rfl, by decide +kernel, rfl, by decide +kernel, by decide +kernel⟩

def spHoldInit (K : PySem.W.Frag) : Sp := fun vs H Q _ => ∃ (p dx : Addr), vs = [.ref p] ∧ H p = some (.ins (cHolder K) dx []) ∧
  ∀ (H' : Hp) (l : Addr), H' p = some (.ins (cHolder K) dx [("records", .ref l)]) → H' l = some (.lst []) → (∀ b o, H b = some o → b ≠ p → H' b = some o) → Q .non H'
theorem ok_Holder (T : Txt K mg) : KOk P w K mg base 2 "Holder" (cHolder K) (spHoldInit K) :=
  mkK T.g_Holder T.mk_Holder T.d_Holder_init sc_Holder_init (fun vs H Q E h => by obtain ⟨p, dx, rfl, _⟩ := h; rfl) (fun _ _ _ _ _ _ us hl => match us, hl with | [_], _ => rfl) fun cdv A outer s H vs Q E hr h => by
    obtain ⟨p, dx, rfl, hp, k⟩ := h
    refine ⟨_, PSs.nox (pss_one (ps_fld (pv 0) (pe_lst pa_nil) rfl)), ?_⟩
    refine ⟨Nat.zero_le _, fun L nL => ?_⟩
    have pL : p ≠ L := ne_of_none hp nL
    refine ⟨_, rfl, p, cHolder K, dx, [], rfl, (upd_ne pL).trans hp, T.cl_Holder, T.na_Holder_records, (by show 0 < 1000; decide), ?_⟩
    refine k _ L upd_same ((upd_ne pL.symm).trans upd_same) fun b o e hb => ?_
    rw [upd_ne hb, upd_ne (ne_of_none e nL)]
    exact e
theorem answers_body (T : Txt K mg) (t1 : TupIs K mg "CALLS_OF_A_RECORD") (t2 : TupIs K mg "CALLS_WITH_A_ROW") (ld : MOk P w K mg base CX0 107 (cHolder K) "load" (spLoad K)) (cdv : Value) (A : Around) (outer : List Env) (s : Shared) (H : Hp) (vs : List V) (Q : VK) (E : XK)
    (hr : Room 199 (A.deeper (envOfC "answers" (defScope s_answers) s.heap.objs.size (He.ga K "answers") cdv))) (h : ∃ (a : Addr) (ns : List Int), vs = [.ref a] ∧ SqL K H a (ns.map V.int) ∧ ns.length ≤ sizeLine ∧ PyValaye.answers_asked ns = true ∧
      ∀ (H' : Hp) (p : Addr), SqL K H' p ((PyValaye.answers ns).map V.int) → Q (.ref p) H') :
    ∃ t, PSs (cxOf CX0 P w K mg base n_answers "answers" (defScope s_answers) (He.ga K "answers") cdv A outer s H E) (defBody s_answers) t ∧ t { nx := fun _ H' => Q .non H', rt := Q } (start n_answers vs) H := by
  obtain ⟨a, ns, rfl, hS, small, hask, kk⟩ := h
  obtain ⟨raw, hc, hall, hlen, ea⟩ := asked_is hask
  refine ⟨_, PSs.nox (pss_cons (ps_set (i := 1) sc_answers.nd rfl (Or.inl rfl) (by exact (pe_kx0 hr)))
      (pss_cons (ps_set (i := 2) sc_answers.nd rfl (Or.inl rfl) (by exact (pe_lst pa_nil)))
      (pss_cons (ps_for PassesOwn.never rfl (pi_list (pe_cx (CX := CX0) hr pas0 (by exact (pa_cons (pv 0) pa_nil)))) (pg_tup rfl (pgs_cons (pg_name (i := 3) sc_answers.nd rfl (Or.inl rfl)) (pgs_cons (pg_name (i := 4) sc_answers.nd rfl (Or.inl rfl)) (pgs_cons (pg_name (i := 5) sc_answers.nd rfl (Or.inl rfl)) pgs_nil)))) (pss_cons (ps_set (i := 6) sc_answers.nd rfl (Or.inl rfl) (by exact (pe_mx (CX := CX0) hr pas0 (pv 1) (by exact (pa_cons (pv 3) (pa_cons (pv 4) (pa_cons (pv 5) pa_nil)))))))
      (pss_cons (ps_expr (pe_bm PySem.F.plainAttrs_list PySem.F.slot_list_append PySem.F.type_list_append mt_append (pv 2) (by exact (pa_cons (pe_callB call_len (by rfl) T.f_len (by decide +kernel) (by exact (pa_cons (pv 6) pa_nil))) pa_nil))))
      (pss_one (ps_expr (pe_bm PySem.F.plainAttrs_list PySem.F.slot_list_extend PySem.F.type_list_extend mt_extend (pv 2) (by exact (pa_cons (pv 6) pa_nil))))))))
      (pss_one (ps_ret (by exact (pv 2))))))), ?_⟩
  refine ⟨cHolder K, spHoldInit K, (ok_Holder T).mono (by decide), fun ho dho nho ndho ne => ⟨ho, dho, rfl, upd_same, fun H0 rl e0 el kp => ⟨rfl, ?_⟩⟩⟩
  have s0 : Same H H0 := Same.made nho ndho kp
  refine ⟨Nat.zero_le _, fun F nF => ?_⟩
  have sF : Same H0 (upd H0 F (.lst [])) := same_new nF
  have hF : ho ≠ F := ne_of_none e0 nF
  have ho0 : HoldAt K (Wo F (upd H0 F (.lst []))) ho none := ⟨dho, rl, Wo.new nF sF _ _ e0, ⟨[], Wo.new nF sF _ _ el, rfl, Nat.zero_le _, fun i a r q => by simp at q⟩, fun rs z => by cases z⟩
  refine ⟨spSplit K, (ok_split T t1 t2).mono (by decide), _, rfl, a, ns, _, raw, rfl, (s0.trans sF).seq hS, small, hc, fun D H2 as ts nD s2 d2 tr tok er => ⟨D, rfl, ⟨_, SqL.of d2⟩, ?_⟩⟩
  have ewh : raw.map PyValaye.whole = ts.map rowsT := by rw [← er, whole_all tok]
  rw [ewh] at hall hlen ea
  have hoN : upd H0 F (.lst []) ho ≠ none := by
    rw [sF _ _ e0]
    exact fun z => by cases z
  have FN : upd H0 F (.lst []) F ≠ none := by
    rw [upd_same]
    exact fun z => by cases z
  have Dho : D ≠ ho := fun e => hoN (by rw [e] at nD; exact nD)
  have DF : D ≠ F := fun e => FN (by rw [e] at nD; exact nD)
  refine for_list (K := K) (a := D) (xs := as.map V.ref) (fun j σ H' => ∃ v3 v4 v5 v6 : Option V, σ = [some (.ref a), some (.ref ho), some (.ref F), v3, v4, v5, v6] ∧ HoldAt K (Wo F H') ho (fin ValayeNeutral.start ((ts.take j).map rowsT)) ∧ H' F = some (.lst ((PyFlat.told (PyFlat.played stp ValayeNeutral.start ((ts.take j).map rowsT))).map V.int)) ∧
      H' D = some (.lst (as.map V.ref)) ∧ TripsAt (upd H0 F (.lst [])) H' D as ts)
    ⟨none, none, none, none, rfl, ho0.same (Wo.but fun b o e _ => s2 b o e), s2 _ _ upd_same, d2, tr⟩ (fun j σ H' _ ⟨_, _, _, _, _, _, _, d5, _⟩ => SqL.of d5) ?_ ?_
  · rintro j y σ H3 hj ⟨v3, v4, v5, v6, rfl, hold, f3, d3, tr3⟩
    obtain ⟨q, hq, rfl⟩ := map_get hj
    have hjl : j < ts.length := by
      rw [← tr3.1]
      exact (List.getElem?_eq_some_iff.mp hq).1
    have hx : ts[j]? = some ts[j] := List.getElem?_eq_getElem hjl
    generalize ts[j] = x at hx
    obtain ⟨c, i, row⟩ := x
    have hm := List.mem_of_getElem? hx
    obtain ⟨c0, c7⟩ := tok _ hm
    have c0 : 0 ≤ c := c0
    have c7 : c ≤ 7 := c7
    obtain ⟨L, n1, n2, q1, q2⟩ := tr3.2 j q _ hq hx
    have q1 : H3 q = some (.tup [.int c, .int i, .ref L]) := q1
    have q2 : H3 L = some (.lst (row.map V.int)) := q2
    have hb : c = 0 → NeutralIO.bytes row = true ∧ row.length ≤ 8192 := fun e => by
      subst e
      exact asked_load (List.all_eq_true.mp hall _ (List.mem_map.mpr ⟨_, hm, rfl⟩))
    have et : ts.take (j + 1) = ts.take j ++ [(c, i, row)] := by
      rw [List.take_succ, hx]
      rfl
    have em : (ts.take (j + 1)).map rowsT = (ts.take j).map rowsT ++ [rowsOf c i row] := by
      rw [et, List.map_append]
      rfl
    have ep : PyFlat.told (PyFlat.played stp ValayeNeutral.start ((ts.take (j + 1)).map rowsT)) = PyFlat.told (PyFlat.played stp ValayeNeutral.start ((ts.take j).map rowsT)) ++ (((stp (fin ValayeNeutral.start ((ts.take j).map rowsT)) (rowsOf c i row)).2.length : Int) :: (stp (fin ValayeNeutral.start ((ts.take j).map rowsT)) (rowsOf c i row)).2) := by
      rw [em, played_snoc, told_app]
      exact congrArg (_ ++ ·) (List.append_nil _)
    have lp : (PyFlat.told (PyFlat.played stp ValayeNeutral.start ((ts.take (j + 1)).map rowsT))).length ≤ 10000000 := by
      refine Nat.le_trans ?_ hlen
      have := congrArg (fun l => (PyFlat.told (PyFlat.played stp ValayeNeutral.start (l.map rowsT))).length) (List.take_append_drop (j + 1) ts)
      rw [← this, List.map_append, played_app, told_app, List.length_append]
      exact Nat.le_add_right _ _
    rw [ep, List.length_append, List.length_cons] at lp
    obtain ⟨dxh, lh, hh1, hh2, hh3⟩ := hold.same (Wo.le F H3)
    refine ⟨q, _, rfl, .inl (.inl q1), rfl, _, _, rfl, _, _, rfl, _, _, rfl, rfl, ?_⟩
    refine ⟨_, rfl, ho, _, dxh, _, spHA K, rfl, hh1, rfl, (ok_HA T ld).mono (by decide), _, rfl, _, rfl, _, rfl, ho, L, F, _, c, i, row, rfl, c0, c7, (by rw [f3]; exact fun z => by cases z), hold, SqL.of q2, hb, fun An H4 nA sb hold4 a4 => ?_⟩
    have hl4 : H4 F = some (.lst ((PyFlat.told (PyFlat.played stp ValayeNeutral.start ((ts.take j).map rowsT))).map V.int)) := sb _ _ f3 hF.symm
    have AF : An ≠ F := fun e => by
      rw [e, f3] at nA
      cases nA
    have lim : (10000000 : Nat) < sizeLine := by decide
    refine ⟨_, rfl, .inl ⟨rfl, _, SqL.of hl4⟩, _, rfl, _, _, rfl, .inl ⟨_, SqL.of a4, rfl⟩, F, _, _, rfl, rfl, hl4, ?_, _, rfl, .inl ⟨rfl, _, SqL.of upd_same⟩, _, rfl, F, An, _, _, rfl, rfl, upd_same, (upd_ne AF).trans a4, ?_, some (.int c), some (.int i), some (.ref L), some (.ref An), rfl, ?_, ?_, ?_, ?_⟩
    · rw [List.length_map]
      omega
    · refine Nat.le_trans (Nat.le_of_eq ?_) (Nat.le_trans lp (Nat.le_of_lt lim))
      rw [List.length_append, List.length_map, List.length_map, List.length_singleton, Nat.add_assoc, Nat.add_comm 1]
    · rw [em, fin_snoc]
      exact hold4.same fun b o e => by
        obtain ⟨e1, e2⟩ := Wo.get e
        exact Wo.of ((upd_ne e2).trans ((upd_ne e2).trans e1)) e2
    · rw [upd_same, ep, List.map_append, List.append_assoc, List.length_map]
      rfl
    · rw [upd_ne DF, upd_ne DF]
      exact sb _ _ d3 Dho
    · exact tr3.but fun b o e nb bD => by
        have bF : b ≠ F := fun z => FN (by rw [z] at nb; exact nb)
        rw [upd_ne bF, upd_ne bF]
        exact sb _ _ e fun z => hoN (by rw [z] at nb; exact nb)
  · rintro σ H3 ⟨v3, v4, v5, v6, rfl, hold, f3, d3, tr3⟩
    rw [List.length_map, tr3.1, List.take_length, ← ea] at f3
    exact ⟨_, rfl, kk H3 F (SqL.of f3)⟩
end
end LY
set_option Elab.async false
set_option linter.all false
set_option maxRecDepth 100000
set_option maxHeartbeats 4000000
namespace LY
open PySem PySem.Spec PyProof.Rows L2
section
variable {P : Program} {w : World} {K : PySem.W.Frag} {mg : Str → Option Value} {base : Heap}
/-! ### faults made -/
abbrev s_Fault_init : Stmt := inClass (top 4) 0
abbrev n_Fault_init : List Str := ["self", "code", "place"]
theorem sc_Fault_init : FnScope n_Fault_init ["self", "code", "place"] (defScope s_Fault_init) := ⟨rfl, rfl, rfl, by decide +kernel, rfl, by decide +kernel, by decide +kernel⟩

def spFlt (K : PySem.W.Frag) : Sp := fun vs H Q _ => ∃ (a : Addr) (c p : V), vs = [.ref a, c, p] ∧ H a = some (exo a (cFault K) none) ∧
  ∀ dx, H dx = none → dx ≠ a → Q .non (upd (upd (upd H dx (exd dx [("code", c)])) a (exo a (cFault K) (some dx))) dx (exd dx [("place", p), ("code", c)]))
theorem ok_Fault (T : Txt K mg) : ∃ fd, FnOk P w K mg base CX0 1 (He.ma K (cFault K) "__init__") fd ["self", "code", "place"] (spFlt K) ∧ Binds K fd ["self", "code", "place"] [] := by
  obtain ⟨fd, F⟩ := T.d_Fault_init
  have f := T.fault
  refine ⟨fd, FunD.ok F sc_Fault_init (fun vs H Q E h => by obtain ⟨a, c, p, rfl, _⟩ := h; rfl) (fun cdv A outer s H vs Q E hr h => ?_), FunD.bindsN F (fun _ _ _ _ _ _ us hl => match us, hl with | [_, _, _], _ => rfl)⟩
  obtain ⟨a, c, p, rfl, ha, k⟩ := h
  refine ⟨_, PSs.nox (pss_cons (ps_expr (pe_exi T.f_Exception T.excInit (by exact (pa_cons (pv 0) pa_nil))))
      (pss_cons (ps_fst (pv 0) (pv 1))
      (pss_one (ps_fst (pv 0) (pv 2))))), ?_⟩
  refine ⟨_, rfl, a, cFault K, [], rfl, Nat.zero_le _, f.c, ha, ?_⟩
  refine ⟨_, rfl, _, rfl, a, cFault K, rfl, f.c, f.code, .inl ⟨ha, fun dx nd ne => ?_⟩⟩
  refine ⟨_, rfl, _, rfl, a, cFault K, rfl, f.c, f.place, .inr ⟨dx, [("code", c)], upd_same, (upd_ne ne).trans upd_same, Nat.le_of_ble_eq_true rfl, k dx nd ne⟩⟩
theorem Txt.mkFault (T : Txt K mg) {X : Cx} {n : Nat} {e : Expr} {es : List Expr} {ta : TA} {p pos : Pos} (hr : Room (n + 2) X.A) (ha : PA X (e :: es) ta) (hK : X.K = K := by rfl) (hm : X.mg = mg := by rfl) (hg : Gl X "Fault" := by rfl)
    (he : starEach (e :: es) X.env = (false, eval e X.env) :: starEach es X.env := by rfl) (hpl : (backTo pos (starEach es X.env)).any (·.1) = false := by rfl) :
    PMk X (.Call (.Name "Fault" p) (e :: es) [] pos) (tMkF (cFault K) (spFlt K) ta) := by
  subst hK hm
  obtain ⟨fd, F, b⟩ := ok_Fault (P := X.prog) (w := X.w) (base := X.base) T
  have f := T.fault
  exact pmk_flt f.c f.ini f.ty F (hr.mono (by omega)) b pass0 T.g_Fault ha hg (by decide) he hpl
/-- a fault told -/
theorem flt_go {H : Hp} {Q : XK} {c p : V} (k : ∀ d, H d = none → Q (.ref (cFault K)) (some d) (upd H d (.xd [("place", p), ("code", c)]))) :
    ([c, p] : List V).length ≤ 1000 ∧ ∀ a, H a = none → spFlt K (.ref a :: [c, p]) (upd H a (exo a (cFault K) none))
      (fun v H2 => v = .non ∧ ∃ (d : Addr) (fs : List (Str × V)), H2 a = some (exo a (cFault K) (some d)) ∧ H2 d = some (exd d fs) ∧ H d = none ∧ Q (.ref (cFault K)) (some d) (upd (del H2 a) d (.xd fs))) (fun _ _ _ => False) := by
  refine ⟨Nat.le_of_ble_eq_true rfl, fun a na => ⟨a, c, p, rfl, upd_same, fun dx nd ne => ?_⟩⟩
  have nd' : H dx = none := by rw [upd_ne ne] at nd; exact nd
  refine ⟨rfl, dx, [("place", p), ("code", c)], (upd_ne ne.symm).trans upd_same, upd_same, nd', ?_⟩
  have e : upd (del (upd (upd (upd (upd H a (exo a (cFault K) none)) dx (exd dx [("code", c)])) a (exo a (cFault K) (some dx))) dx (exd dx [("place", p), ("code", c)])) a) dx (.xd [("place", p), ("code", c)]) = upd H dx (.xd [("place", p), ("code", c)]) := by
    funext b
    by_cases h1 : b = dx
    · subst h1
      rw [upd_same, upd_same]
    · rw [upd_ne h1, upd_ne h1]
      by_cases h2 : b = a
      · subst h2
        rw [na]
        exact del_same
      · rw [del_ne h2, upd_ne h1, upd_ne h2, upd_ne h1, upd_ne h2]
  rw [e]
  exact k dx nd'
end
end LY
set_option Elab.async false
set_option linter.all false
set_option maxRecDepth 100000
set_option maxHeartbeats 4000000
namespace LY
open PySem PySem.Spec PyProof.Rows L2
open ValayBase (isLetter isDigit isBlank)
/-! ### signs -/
/-- the sign that a byte becomes -/
def signOf (b : UInt8) : Nat := if b.toNat = 9 then 32 else if b.toNat = 10 ∨ b.toNat = 32 ∨ b.toNat = 35 then b.toNat else if isLetter b = true ∨ isDigit b = true ∨ ValayBase.SIGNS.contains b = true then b.toNat else 63
def sgV (b : UInt8) : V := .str ⟨#[signOf b]⟩
theorem all_bytes (p : UInt8 → Bool) (h : (List.range 256).all (fun n => p (UInt8.ofNat n)) = true) (b : UInt8) : p b = true := by
  have := List.all_eq_true.mp h b.toNat (List.mem_range.mpr b.toNat_lt)
  rw [UInt8.ofNat_toNat] at this
  exact this
def alnum (b : UInt8) : Bool := isLetter b || isDigit b
theorem in_letters (b : UInt8) : decide (signOf b ∈ (("abcdefghijklmnopqrstuvwxyzABCDEFGHIJKLMNOPQRSTUVWXYZ" : Str)).cps.toList) = isLetter b :=
  eq_of_beq (all_bytes (fun b => decide (signOf b ∈ (("abcdefghijklmnopqrstuvwxyzABCDEFGHIJKLMNOPQRSTUVWXYZ" : Str)).cps.toList) == isLetter b) (by decide +kernel) b)
theorem in_digits (b : UInt8) : decide (signOf b ∈ (("0123456789" : Str)).cps.toList) = isDigit b :=
  eq_of_beq (all_bytes (fun b => decide (signOf b ∈ (("0123456789" : Str)).cps.toList) == isDigit b) (by decide +kernel) b)
theorem in_alnum (b : UInt8) : decide (signOf b ∈ (("abcdefghijklmnopqrstuvwxyzABCDEFGHIJKLMNOPQRSTUVWXYZ" : Str) ++ ("0123456789" : Str)).cps.toList) = alnum b :=
  eq_of_beq (all_bytes (fun b => decide (signOf b ∈ (("abcdefghijklmnopqrstuvwxyzABCDEFGHIJKLMNOPQRSTUVWXYZ" : Str) ++ ("0123456789" : Str)).cps.toList) == alnum b) (by decide +kernel) b)
theorem in_signs (b : UInt8) : decide (signOf b ∈ (("{},;:-." : Str)).cps.toList) = ValayBase.SIGNS.contains b :=
  eq_of_beq (all_bytes (fun b => decide (signOf b ∈ (("{},;:-." : Str)).cps.toList) == ValayBase.SIGNS.contains b) (by decide +kernel) b)
theorem sign_blank (b : UInt8) : (decide (sgV b = .str " ") || decide (sgV b = .str "\n")) = isBlank b :=
  eq_of_beq (all_bytes (fun b => (decide (sgV b = .str " ") || decide (sgV b = .str "\n")) == isBlank b) (by decide +kernel) b)
theorem sign_line (b : UInt8) : decide (sgV b = .str "\n") = (b == 10) :=
  eq_of_beq (all_bytes (fun b => decide (sgV b = .str "\n") == (b == 10)) (by decide +kernel) b)
theorem sign_hash (b : UInt8) : decide (sgV b = .str "#") = (b == 35) :=
  eq_of_beq (all_bytes (fun b => decide (sgV b = .str "#") == (b == 35)) (by decide +kernel) b)
theorem sign_alnum (b : UInt8) : (alnum b → signOf b = b.toNat) := by
  intro h
  have := all_bytes (fun b => !alnum b || signOf b == b.toNat) (by decide +kernel) b
  rw [h] at this
  exact eq_of_beq this
section
variable {P : Program} {w : World} {K : PySem.W.Frag} {mg : Str → Option Value} {base : Heap}
abbrev s_Token_init : Stmt := inClass (top 28) 0
abbrev n_Token_init : List Str := ["self", "kind", "text", "place"]
theorem sc_Token_init : FnScope n_Token_init ["self", "kind", "text", "place"] (defScope s_Token_init) := ⟨rfl, rfl, rfl, by decide +kernel, rfl, by decide +kernel, by decide +kernel⟩
abbrev s_remark_end : Stmt := top 31
abbrev n_remark_end : List Str := ["signs", "place"]
theorem sc_remark_end : FnScope n_remark_end ["signs", "place"] (defScope s_remark_end) := ⟨rfl, rfl, rfl, by decide +kernel, rfl, by decide +kernel, by decide +kernel⟩
abbrev s_run_at : Stmt := top 35
abbrev n_run_at : List Str := ["signs", "place", "allowed", "after"]
theorem sc_run_at : FnScope n_run_at ["signs", "place", "allowed"] (defScope s_run_at) := ⟨rfl, rfl, rfl, by decide +kernel, rfl, by decide +kernel, by decide +kernel⟩
abbrev s_word_at : Stmt := top 33
abbrev n_word_at : List Str := ["signs", "place", "text"]
theorem sc_word_at : FnScope n_word_at ["signs", "place"] (defScope s_word_at) := ⟨rfl, rfl, rfl, by decide +kernel, rfl, by decide +kernel, by decide +kernel⟩
abbrev s_number_at : Stmt := top 34
abbrev n_number_at : List Str := ["signs", "place", "text"]
theorem sc_number_at : FnScope n_number_at ["signs", "place"] (defScope s_number_at) := ⟨rfl, rfl, rfl, by decide +kernel, rfl, by decide +kernel, by decide +kernel⟩
abbrev s_token_at : Stmt := top 32
abbrev n_token_at : List Str := ["signs", "place", "sign"]
theorem sc_token_at : FnScope n_token_at ["signs", "place"] (defScope s_token_at) := ⟨rfl, rfl, rfl, by decide +kernel, rfl, by decide +kernel, by decide +kernel⟩

abbrev cToken (K : PySem.W.Frag) : Addr := He.ga K "Token"
def tokF (k t : V) (p : Nat) : List (Str × V) := [("kind", k), ("text", t), ("place", .int p)]
def TokAt (K : PySem.W.Frag) (H : Hp) (a : Addr) (k t : Str) (p : Nat) : Prop := ∃ dx, H a = some (.ins (cToken K) dx (tokF (.str k) (.str t) p))
def spTokInit (K : PySem.W.Frag) : Sp := fun vs H Q _ => ∃ (a dx : Addr) (k t : Str) (p : Nat), vs = [.ref a, .str k, .str t, .int p] ∧ H a = some (.ins (cToken K) dx []) ∧
  ∀ H' : Hp, H' a = some (.ins (cToken K) dx (tokF (.str k) (.str t) p)) → (∀ b o, H b = some o → b ≠ a → H' b = some o) → Q .non H'
theorem put_tok (k t : V) (p : Nat) : putF "place" (.int p) (putF "text" t (putF "kind" k [])) = tokF k t p := by rfl
theorem ok_Token (T : Txt K mg) : KOk P w K mg base 2 "Token" (cToken K) (spTokInit K) :=
  mkK T.g_Token T.mk_Token T.d_Token_init sc_Token_init (fun vs H Q E h => by obtain ⟨a, dx, k, t, p, rfl, _⟩ := h; rfl) (fun _ _ _ _ _ _ us hl => match us, hl with | [_, _, _, _], _ => rfl) fun cdv A outer s H vs Q E hr h => by
    obtain ⟨a, dx, k, t, p, rfl, ha, kk⟩ := h
    refine ⟨_, PSs.nox (pss_cons (ps_fld (pv 0) (pv 1) rfl)
      (pss_cons (ps_fld (pv 0) (pv 2) rfl)
      (pss_one (ps_fld (pv 0) (pv 3) rfl)))), ?_⟩
    refine ⟨_, rfl, _, rfl, a, cToken K, dx, [], rfl, ha, T.cl_Token, T.na_Token_kind, (by show 0 < 1000; decide), ?_⟩
    refine ⟨_, rfl, _, rfl, a, cToken K, dx, _, rfl, upd_same, T.cl_Token, T.na_Token_text, (by show 1 < 1000; decide), ?_⟩
    refine ⟨_, rfl, _, rfl, a, cToken K, dx, _, rfl, upd_same, T.cl_Token, T.na_Token_place, (by show 2 < 1000; decide), ?_⟩
    refine kk _ (upd_same.trans (congrArg (fun q => some (HO.ins (cToken K) dx q)) (put_tok _ _ _))) fun b o e hb => ?_
    rw [upd_ne hb, upd_ne hb, upd_ne hb]
    exact e
def SignsAt (H : Hp) (l : Addr) (bs : ValayBase.Bytes) : Prop := H l = some (.lst (bs.map sgV))
/-- where the first byte stands that p does not hold for -/
def runEnd (p : UInt8 → Bool) (bs : ValayBase.Bytes) (i : Nat) : Nat := i + ((bs.drop i).takeWhile p).length
theorem run_step {p : UInt8 → Bool} {bs : ValayBase.Bytes} {i : Nat} {b : UInt8} (h : bs[i]? = some b) : runEnd p bs i = if p b = true then runEnd p bs (i + 1) else i := by
  have e : bs.drop i = b :: bs.drop (i + 1) := by
    have hi := (List.getElem?_eq_some_iff.mp h).1
    rw [List.drop_eq_getElem_cons hi]
    rw [List.getElem?_eq_getElem hi] at h
    rw [Option.some.inj h]
  unfold runEnd
  rw [e, List.takeWhile_cons]
  split
  · rw [List.length_cons]
    omega
  · rfl
theorem run_stop {p : UInt8 → Bool} {bs : ValayBase.Bytes} {i : Nat} (h : bs.length ≤ i) : runEnd p bs i = i := by
  unfold runEnd
  rw [List.drop_eq_nil_of_le h]
  rfl
theorem ok_remark_end (T : Txt K mg) : COk P w K mg base CX0 1 "remark_end" (fun vs H Q _ => ∃ (l : Addr) (bs : ValayBase.Bytes) (i : Nat), vs = [.ref l, .int i] ∧ SignsAt H l bs ∧ bs.length ≤ 4096 ∧ i ≤ bs.length ∧ Q (.int (runEnd (· != 10) bs i : Nat)) H) :=
  mkC T.g_remark_end T.d_remark_end sc_remark_end (fun vs H Q E h => by obtain ⟨l, bs, i, rfl, _⟩ := h; rfl) (fun _ _ _ _ _ _ us hl => match us, hl with | [_, _], _ => rfl) fun cdv A outer s H vs Q E hr h => by
    obtain ⟨l, bs, i, rfl, hS, small, hi, kk⟩ := h
    refine ⟨_, PSs.nox (pss_cons (ps_while PassesOwn.never (PW.pt (pw_and (pt_cmpR op_lt (pv 1) (pe_callB call_len (by rfl) T.f_len (by decide +kernel) (by exact (pa_cons (pv 0) pa_nil))) (nomark _)) (pw_and1 (pt_cmpR op_ne (pe_ix ix_list (pv 0) (pv 1) (fun _ _ => rfl)) pe_str (nomark _))))) (pss_one (ps_aug (i := 1) sc_remark_end.nd rfl (.inl rfl) pe_int ip_add)))
      (pss_one (ps_ret (by exact (pv 1))))), ?_⟩
    refine ⟨fun m σ H' => ∃ j : Nat, m = bs.length - j ∧ σ = [some (.ref l), some (.int j)] ∧ H' = H ∧ j ≤ bs.length ∧ runEnd (· != 10) bs j = runEnd (· != 10) bs i, ⟨_, i, rfl, rfl, rfl, hi, rfl⟩, ?_⟩
    rintro m σ H' ⟨j, rfl, rfl, rfl, hj, ej⟩
    refine ⟨_, rfl, _, rfl, _, bs.length, rfl, .inl ⟨_, SqL.of hS, by rw [List.length_map]⟩, _, _, rfl, rfl, _, rfl, ?_⟩
    rcases Nat.lt_or_ge j bs.length with hlt | hge
    · rw [decide_eq_true (show (j : Int) < (bs.length : Int) by omega)]
      obtain ⟨b, hb⟩ : ∃ b, bs[j]? = some b := ⟨_, List.getElem?_eq_getElem hlt⟩
      refine iteT ⟨_, rfl, _, rfl, _, _, _, sgV b, rfl, rfl, SqL.of hS, atI_nat (by rw [List.getElem?_map, hb]; rfl), rfl, _, rfl, ?_⟩
      refine (show if (!decide (sgV b = .str "\n")) = true then _ else _ from ?_)
      rw [sign_line]
      have st := run_step (p := (· != 10)) hb
      cases hz : b == 10 with
      | false =>
        rw [if_pos (show (b != 10) = true by show (!(b == 10)) = true; rw [hz]; rfl)] at st
        exact iteT ⟨_, fun _ _ h => h, _, rfl, _, _, rfl, rfl, bs.length - (j + 1), by omega, j + 1, rfl, rfl, rfl, by omega, by rw [← ej, st]⟩
      | true =>
        rw [if_neg (show ¬ (b != 10) = true by show ¬ (!(b == 10)) = true; rw [hz]; exact Bool.false_ne_true)] at st
        rw [← ej, st] at kk
        exact iteF ⟨_, rfl, kk⟩
    · rw [decide_eq_false (show ¬ (j : Int) < (bs.length : Int) by omega)]
      rw [← ej, run_stop hge] at kk
      exact iteF ⟨_, rfl, kk⟩
theorem join_sgn (l : List Nat) : Txt.join ("" : Str) (l.map fun k => (⟨#[k]⟩ : Str)) = ⟨l.toArray⟩ := by
  have h := eq_of_beq (join_plain_closes ("" : Str) (l.map fun k => (⟨#[k]⟩ : Str)))
  rw [h]
  exact join_ones l
/-- the bytes of the run that begins at i -/
def runOf (p : UInt8 → Bool) (bs : ValayBase.Bytes) (i : Nat) : ValayBase.Bytes := (bs.drop i).takeWhile p
def sStr (l : ValayBase.Bytes) : Str := ⟨(l.map signOf).toArray⟩
theorem run_cut {p : UInt8 → Bool} {bs : ValayBase.Bytes} {i : Nat} : (bs.drop i).take (runEnd p bs i - i) = runOf p bs i := by
  unfold runEnd runOf
  rw [Nat.add_sub_cancel_left]
  generalize bs.drop i = l
  induction l with
  | nil => rfl
  | cons b l ih =>
    rw [List.takeWhile_cons]
    split
    · rw [List.length_cons, List.take_succ_cons, ih]
    · rfl
theorem run_le {p : UInt8 → Bool} {bs : ValayBase.Bytes} {i : Nat} (h : i ≤ bs.length) : runEnd p bs i ≤ bs.length := by
  unfold runEnd
  have : ((bs.drop i).takeWhile p).length ≤ (bs.drop i).length := (List.takeWhile_sublist p).length_le
  rw [List.length_drop] at this
  omega
theorem cut_between {xs : List V} {lo hi : Nat} (h1 : lo ≤ hi) (h2 : hi ≤ xs.length) : cutV xs (some (lo : Int)) (some (hi : Int)) = (xs.drop lo).take (hi - lo) := by
  unfold cutV
  rw [HT.sIx_nat, HT.sIx_nat, Nat.min_eq_left h2, Nat.min_eq_left (Nat.le_trans h1 h2)]
theorem free_of' {H H' : Hp} {a : Addr} (s : ∀ b o, H b = some o → H' b = some o) (h : H' a = none) : H a = none := by
  cases e : H a with
  | none => rfl
  | some o =>
    rw [s _ _ e] at h
    cases h
theorem ok_run_at (T : Txt K mg) : COk P w K mg base CX0 1 "run_at" (fun vs H Q _ => ∃ (l : Addr) (bs : ValayBase.Bytes) (i : Nat) (al : Str) (p : UInt8 → Bool), vs = [.ref l, .int i, .str al] ∧ SignsAt H l bs ∧ bs.length ≤ 4096 ∧ i ≤ bs.length ∧ (∀ b, decide (signOf b ∈ al.cps.toList) = p b) ∧
    ∀ H', (∀ b o, H b = some o → H' b = some o) → Q (.str (sStr (runOf p bs i))) H') :=
  mkC T.g_run_at T.d_run_at sc_run_at (fun vs H Q E h => by obtain ⟨l, bs, i, al, p, rfl, _⟩ := h; rfl) (fun _ _ _ _ _ _ us hl => match us, hl with | [_, _, _], _ => rfl) fun cdv A outer s H vs Q E hr h => by
    obtain ⟨l, bs, i, al, p, rfl, hS, small, hi, hp, kk⟩ := h
    refine ⟨_, PSs.nox (pss_cons (ps_set (i := 3) sc_run_at.nd rfl (Or.inl rfl) (by exact (pv 1)))
      (pss_cons (ps_while PassesOwn.never (PW.pt (pw_and (pt_cmpR op_lt (pv 3) (pe_callB call_len (by rfl) T.f_len (by decide +kernel) (by exact (pa_cons (pv 0) pa_nil))) (nomark _)) (pw_and1 (pt_cmpR op_in_sign (pe_ix ix_list (pv 0) (pv 3) (fun _ _ => rfl)) (pv 2) rfl)))) (pss_one (ps_aug (i := 3) sc_run_at.nd rfl (.inl rfl) pe_int ip_add)))
      (pss_one (ps_ret (by exact (pe_join pe_str (pe_slice sl_list (pv 0) (po_some (pv 1)) (po_some (pv 3))))))))), ?_⟩
    refine ⟨_, rfl, fun m σ H' => ∃ j : Nat, m = bs.length - j ∧ σ = [some (.ref l), some (.int i), some (.str al), some (.int j)] ∧ H' = H ∧ j ≤ bs.length ∧ runEnd p bs j = runEnd p bs i, ⟨_, i, rfl, rfl, rfl, hi, rfl⟩, ?_⟩
    rintro m σ H' ⟨j, rfl, rfl, rfl, hj, ej⟩
    refine ⟨_, rfl, _, rfl, _, bs.length, rfl, .inl ⟨_, SqL.of hS, by rw [List.length_map]⟩, _, _, rfl, rfl, _, rfl, ?_⟩
    have done : runEnd p bs j = j → ∀ L, H' L = none → Q (.str (Txt.join ("" : Str) (((runOf p bs i).map signOf).map fun k => (⟨#[k]⟩ : Str)))) (upd H' L (.lst (cutV (bs.map sgV) (some (i : Int)) (some (j : Int))))) := fun _ L nL => by
      rw [join_sgn]
      exact kk _ fun b o e => (upd_ne (ne_of_none e nL)).trans e
    have fin : runEnd p bs j = j → ∀ L, H' L = none → cutV (bs.map sgV) (some (i : Int)) (some (j : Int)) = ((((runOf p bs i).map signOf).map fun k => (⟨#[k]⟩ : Str)).map V.str) := fun e L nL => by
      have ij : i ≤ j := by
        rw [← e, ej]
        exact Nat.le_add_right _ _
      rw [cut_between ij (by rw [List.length_map]; exact hj), ← List.map_drop, ← List.map_take, ← e, ej, run_cut, List.map_map, List.map_map]
      rfl
    have rl : (runOf p bs i).length ≤ 4096 := by
      have : ((bs.drop i).takeWhile p).length ≤ (bs.drop i).length := (List.takeWhile_sublist p).length_le
      rw [List.length_drop] at this
      unfold runOf
      omega
    have sm : (((((runOf p bs i).map signOf).map fun k => (⟨#[k]⟩ : Str))).map (·.length)).sum ≤ 4096 := by
      have : ∀ r : List Nat, ((r.map fun k => (⟨#[k]⟩ : Str)).map (·.length)).sum = r.length := fun r => by
        induction r with
        | nil => rfl
        | cons k r ih =>
          show 1 + ((r.map fun k => (⟨#[k]⟩ : Str)).map (·.length)).sum = r.length + 1
          rw [ih, Nat.add_comm]
      rw [this, List.length_map]
      exact rl
    rcases Nat.lt_or_ge j bs.length with hlt | hge
    · rw [decide_eq_true (show (j : Int) < (bs.length : Int) by omega)]
      obtain ⟨b, hb⟩ : ∃ b, bs[j]? = some b := ⟨_, List.getElem?_eq_getElem hlt⟩
      have st := run_step (p := p) hb
      refine iteT ⟨_, rfl, _, rfl, _, _, _, sgV b, rfl, rfl, SqL.of hS, atI_nat (by rw [List.getElem?_map, hb]; rfl), _, rfl, signOf b, al, rfl, rfl, _, rfl, ?_⟩
      rw [hp b]
      cases hz : p b with
      | true =>
        rw [if_pos hz] at st
        exact iteT ⟨_, fun _ _ h => h, _, rfl, _, _, rfl, rfl, bs.length - (j + 1), by omega, j + 1, rfl, rfl, rfl, by omega, by rw [← ej, st]⟩
      | false =>
        rw [if_neg (by rw [hz]; exact Bool.false_ne_true)] at st
        refine iteF ⟨⟨_, rfl⟩, _, rfl, _, rfl, _, rfl, _, rfl, _, rfl, l, _, rfl, SqL.of hS, fun L nL => ⟨("" : Str), L, ((runOf p bs i).map signOf).map fun k => (⟨#[k]⟩ : Str), rfl, rfl, .inl (by rw [← fin st L nL]; exact SqL.of upd_same), ?_, done st L nL⟩⟩
        show _ + _ * 0 ≤ _
        omega
    · rw [decide_eq_false (show ¬ (j : Int) < (bs.length : Int) by omega)]
      have st := run_stop (p := p) hge
      refine iteF ⟨⟨_, rfl⟩, _, rfl, _, rfl, _, rfl, _, rfl, _, rfl, l, _, rfl, SqL.of hS, fun L nL => ⟨("" : Str), L, ((runOf p bs i).map signOf).map fun k => (⟨#[k]⟩ : Str), rfl, rfl, .inl (by rw [← fin st L nL]; exact SqL.of upd_same), ?_, done st L nL⟩⟩
      show _ + _ * 0 ≤ _
      omega
end
end LY
set_option Elab.async false
set_option linter.all false
set_option maxRecDepth 100000
set_option maxHeartbeats 4000000
namespace LY
open PySem PySem.Spec PyProof.Rows L2
open ValayBase (isLetter isDigit isBlank RESERVED)
/-! ### tokens -/
theorem toNat_inj : ∀ {a b : ValayBase.Bytes}, a.map UInt8.toNat = b.map UInt8.toNat → a = b
  | [], [], _ => rfl
  | [], _ :: _, h => by cases h
  | _ :: _, [], h => by cases h
  | x :: a, y :: b, h => by
    rw [List.map_cons, List.map_cons] at h
    injection h with h1 h2
    rw [UInt8.toNat_inj.mp h1, toNat_inj h2]
theorem bstr_inj {a b : ValayBase.Bytes} (h : bstr a = bstr b) : a = b := by
  unfold bstr at h
  injection h with h
  exact toNat_inj (congrArg Array.toList h)
theorem run_str {p : UInt8 → Bool} (hp : ∀ b, p b = true → alnum b = true) {bs : ValayBase.Bytes} {i : Nat} : sStr (runOf p bs i) = bstr (runOf p bs i) := by
  unfold sStr bstr
  have : (runOf p bs i).map signOf = (runOf p bs i).map UInt8.toNat := List.map_congr_left fun b hb => sign_alnum b (hp b (by
    have := List.all_takeWhile (l := bs.drop i) (p := p)
    exact List.all_eq_true.mp this b hb))
  rw [this]
theorem in_words (b : ValayBase.Bytes) : inV (.str (bstr b)) [.str "record", .str "from", .str "to", .str "at", .str "maybe", .str "many", .str "one", .str "hot", .str "layout", .str "size", .str "of"] = RESERVED.contains b := by
  have e : ([.str "record", .str "from", .str "to", .str "at", .str "maybe", .str "many", .str "one", .str "hot", .str "layout", .str "size", .str "of"] : List V) = RESERVED.map fun w => V.str (bstr w) := by decide +kernel
  rw [e]
  unfold inV
  rw [List.any_map]
  have : ∀ l : List ValayBase.Bytes, l.any ((fun y => eqV y (.str (bstr b))) ∘ fun w => V.str (bstr w)) = l.contains b := fun l => by
    induction l with
    | nil => rfl
    | cons w l ih =>
      rw [List.any_cons, List.contains_cons, ih]
      congr 1
      show (bstr w == bstr b) = (b == w)
      by_cases h : b = w
      · subst h
        rw [beq_self_eq_true, beq_self_eq_true]
      · rw [beq_eq_false_iff_ne.mpr h, beq_eq_false_iff_ne.mpr fun z => h (bstr_inj z).symm]
  exact this _
def kindT : ValayBase.Tok → Str
  | .name b => if RESERVED.contains b = true then bstr b else "name"
  | .num _ => "number"
  | .sign c => ⟨#[c]⟩
  | .last => "end"
def TextIs (tx : Str) : ValayBase.Tok → Prop
  | .name b => tx = bstr b
  | .num n => PySem.intText? tx = some (n : Int) ∧ tx.length ≤ 640
  | .sign c => tx = ⟨#[c]⟩
  | .last => True
section
variable {P : Program} {w : World} {K : PySem.W.Frag} {mg : Str → Option Value} {base : Heap}
def TokObj (K : PySem.W.Frag) (H : Hp) (a : Addr) (t : ValayBase.PTok) (tx : Str) : Prop := TokAt K H a (kindT t.tok) tx t.place ∧ TextIs tx t.tok
/-- what is raised: the fault with this code and place -/
def FltE (H : Hp) (E : XK) (K : PySem.W.Frag) (c p : Nat) : Prop := ∀ H' d, Same H H' → H' d = none → E (.ref (cFault K)) (some d) (upd H' d (.xd [("place", .int p), ("code", .int c)]))
def TokRes (H : Hp) (Q : VK) (E : XK) (K : PySem.W.Frag) (i : Nat) : Option (ValayBase.Tok × Nat) → Prop
  | none => FltE H E K 2 i
  | some x => ∀ D H' tx, H D = none → Same H H' → TokObj K H' D ⟨i, x.1⟩ tx → tx.length = x.2 → Q (.ref D) H'
def spTokenAt (K : PySem.W.Frag) (ok : UInt8 → Bool) : Sp := fun vs H Q E => ∃ (l : Addr) (bs : ValayBase.Bytes) (i : Nat) (b : UInt8), vs = [.ref l, .int i] ∧ SignsAt H l bs ∧ bs.length ≤ 4096 ∧ bs[i]? = some b ∧ ok b = true ∧ TokRes H Q E K i (ValayBase.token (bs.drop i))
theorem drop_at {bs : ValayBase.Bytes} {i : Nat} {b : UInt8} (h : bs[i]? = some b) : bs.drop i = b :: bs.drop (i + 1) := by
  have hi := (List.getElem?_eq_some_iff.mp h).1
  rw [List.drop_eq_getElem_cons hi]
  rw [List.getElem?_eq_getElem hi] at h
  rw [Option.some.inj h]
theorem run_len {p : UInt8 → Bool} {bs : ValayBase.Bytes} {i : Nat} (h : bs.length ≤ 4096) : (runOf p bs i).length ≤ 4096 := by
  have : ((bs.drop i).takeWhile p).length ≤ (bs.drop i).length := (List.takeWhile_sublist p).length_le
  rw [List.length_drop] at this
  unfold runOf
  omega
theorem bstr_len (b : ValayBase.Bytes) : (bstr b).length = b.length := by
  unfold bstr
  show ((b.map UInt8.toNat).toArray).size = _
  rw [List.size_toArray, List.length_map]
theorem big4096 {n : Nat} (h : n ≤ 4096) : n ≤ sizeLine := Nat.le_trans h (by decide)
/-- a token made -/
theorem make_tok {H1 : Hp} {k t : Str} {i : Nat} {Q : VK} (kk : ∀ D H', H1 D = none → Same H1 H' → TokAt K H' D k t i → Q (.ref D) H') (a dx : Addr) (na : H1 a = none) (nd : H1 dx = none) (ne : dx ≠ a) :
    spTokInit K [.ref a, .str k, .str t, .int i] (upd (upd H1 dx (.own a)) a (.ins (cToken K) dx [])) (fun v H2 => v = .non ∧ Q (.ref a) H2) E0 :=
  ⟨a, dx, k, t, i, rfl, upd_same, fun H' e kp => ⟨rfl, kk a H' na (Same.made na nd kp) ⟨dx, e⟩⟩⟩
theorem ok_word_at (T : Txt K mg) (tw : TupIs K mg "WORDS") : COk P w K mg base (L2.CX P w) 5 "word_at" (spTokenAt K isLetter) :=
  mkC T.g_word_at T.d_word_at sc_word_at (fun vs H Q E h => by obtain ⟨l, bs, i, b, rfl, _⟩ := h; rfl) (fun _ _ _ _ _ _ us hl => match us, hl with | [_, _], _ => rfl) fun cdv A outer s H vs Q E hr h => by
    obtain ⟨l, bs, i, b, rfl, hS, small, hb, hl, hk⟩ := h
    have hi := (List.getElem?_eq_some_iff.mp hb).1
    have ht : ValayBase.token (bs.drop i) = if 16 < (runOf alnum bs i).length then none else some (.name (runOf alnum bs i), (runOf alnum bs i).length) := by
      unfold runOf
      rw [drop_at hb]
      show (if isLetter b = true then _ else _) = _
      rw [if_pos hl]
      rfl
    rw [ht] at hk
    have rs : sStr (runOf alnum bs i) = bstr (runOf alnum bs i) := run_str fun _ h => h
    have rl := run_len (p := alnum) (i := i) small
    refine ⟨_, (pss_cons (ps_set (i := 2) sc_word_at.nd rfl (Or.inl rfl) (by exact (pe_cx (CX := CX0) hr pas0 (by exact (pa_cons (pv 0) (pa_cons (pv 1) (pa_cons (pe_op op_add_str (pe_gn rfl) (pe_gn rfl)) pa_nil)))))))
      (pss_cons (ps_if (pt_cmpR op_gt (pe_callB call_len (by rfl) T.f_len (by decide +kernel) (by exact (pa_cons (pv 2) pa_nil))) (pe_gn rfl) (nomark _)) (pss_one (ps_raise rfl (takes_of rfl rfl rfl rfl) (T.mkFault hr (by exact (pa_cons pe_int (pa_cons (pv 1) pa_nil)))))) pss_nil)
      (pss_cons (ps_if (pt_cmpR op_in_seq (pv 2) (pe_gn rfl) (by rfl)) (pss_one (ps_ret (by exact (pe_kx hr (by exact (pa_cons (pv 2) (pa_cons (pv 2) (pa_cons (pv 1) pa_nil)))))))) pss_nil)
      (pss_one (ps_ret (by exact (pe_kx hr (by exact (pa_cons pe_str (pa_cons (pv 2) (pa_cons (pv 1) pa_nil))))))))))), ?_⟩
    refine ⟨_, (ok_run_at T).mono (by decide), _, rfl, _, rfl, _, T.t_LETTERS, _, T.t_DIGITS, _, _, rfl, rfl, by decide +kernel, l, bs, i, _, alnum, rfl, hS, small, Nat.le_of_lt hi, in_alnum, fun H1 s1 => ?_⟩
    have s1 : Same H H1 := s1
    rw [rs]
    refine ⟨_, rfl, _, (runOf alnum bs i).length, rfl, ⟨by rw [bstr_len]; exact big4096 rl, (bstr_len _).symm⟩, _, T.i_LONGEST_NAME, _, _, rfl, rfl, _, rfl, ?_⟩
    by_cases c : 16 < (runOf alnum bs i).length
    · rw [if_pos c] at hk
      refine (show if decide ((16 : Int) < ((runOf alnum bs i).length : Int)) = true then _ else _ from iteC (by omega) ⟨_, rfl, ?_⟩)
      exact flt_go fun d nd => hk H1 d s1 nd
    · rw [if_neg c] at hk
      refine (show if decide ((16 : Int) < ((runOf alnum bs i).length : Int)) = true then _ else _ from iteD (by omega) ?_)
      refine ⟨_, rfl, _, tw.is, _, _, rfl, .inr (T.words _), rfl, rfl, _, rfl, ?_⟩
      refine (show if inV (.str (bstr (runOf alnum bs i))) [.str "record", .str "from", .str "to", .str "at", .str "maybe", .str "many", .str "one", .str "hot", .str "layout", .str "size", .str "of"] = true then _ else _ from ?_)
      rw [in_words]
      have go : ∀ k, k = kindT (.name (runOf alnum bs i)) → ∀ D H', H1 D = none → Same H1 H' → TokAt K H' D k (bstr (runOf alnum bs i)) i → Q (.ref D) H' := fun k ek D H' nD s2 tk => by
        subst ek
        exact hk D H' _ (free_of s1 nD) (s1.trans s2) ⟨tk, rfl⟩ (bstr_len _)
      cases hr : RESERVED.contains (runOf alnum bs i) with
      | true =>
        refine iteT ⟨cToken K, spTokInit K, (ok_Token T).mono (by decide), _, rfl, _, rfl, _, rfl, ?_⟩
        exact make_tok (go _ (if_pos hr).symm)
      | false =>
        refine iteF ⟨cToken K, spTokInit K, (ok_Token T).mono (by decide), _, rfl, _, rfl, ?_⟩
        exact make_tok (go _ (if_neg (by rw [hr]; exact Bool.false_ne_true)).symm)
theorem digits_val : ∀ (l : ValayBase.Bytes) (a : Nat), l.foldl (fun n b => 10 * n + (b.toNat - 48)) a = (l.map UInt8.toNat).foldl (fun acc c => acc * 10 + (c - 48)) a
  | [], _ => rfl
  | b :: l, a => by
    rw [List.foldl_cons, List.map_cons, List.foldl_cons, digits_val l, Nat.mul_comm 10 a]
theorem digit_alnum {b : UInt8} (h : isDigit b = true) : alnum b = true := by
  unfold alnum
  rw [h, Bool.or_true]
theorem int_run {bs : ValayBase.Bytes} {i : Nat} (hne : runOf isDigit bs i ≠ []) (hl : (runOf isDigit bs i).length ≤ 600) : PySem.intText? (bstr (runOf isDigit bs i)) = some ((ValayBase.decimal (runOf isDigit bs i) : Nat) : Int) := by
  rw [PySem.intText_digits (x := bstr (runOf isDigit bs i)) (fun c hc => ?_) (fun e => hne ?_) (by rw [bstr_len]; omega)]
  · unfold ValayBase.decimal
    rw [digits_val]
    rfl
  · have hc : c ∈ (runOf isDigit bs i).map UInt8.toNat := hc
    obtain ⟨b, hb, rfl⟩ := List.mem_map.mp hc
    have := List.all_eq_true.mp (List.all_takeWhile (l := bs.drop i) (p := isDigit)) b hb
    exact of_decide_eq_true this
  · have e : (runOf isDigit bs i).map UInt8.toNat = [] := e
    exact List.map_eq_nil_iff.mp e
theorem ok_number_at (T : Txt K mg) : COk P w K mg base (L2.CX P w) 5 "number_at" (spTokenAt K fun b => !isLetter b && isDigit b) :=
  mkC T.g_number_at T.d_number_at sc_number_at (fun vs H Q E h => by obtain ⟨l, bs, i, b, rfl, _⟩ := h; rfl) (fun _ _ _ _ _ _ us hl => match us, hl with | [_, _], _ => rfl) fun cdv A outer s H vs Q E hr h => by
    obtain ⟨l, bs, i, b, rfl, hS, small, hb, hl, hk⟩ := h
    have hi := (List.getElem?_eq_some_iff.mp hb).1
    obtain ⟨hl1, hl2⟩ := Bool.and_eq_true_iff.mp hl
    have hl1 : ¬ isLetter b = true := by
      intro z
      rw [z] at hl1
      cases hl1
    have er : runOf isDigit bs i = b :: (bs.drop (i + 1)).takeWhile isDigit := by
      unfold runOf
      rw [drop_at hb, List.takeWhile_cons, if_pos hl2]
    have ht : ValayBase.token (bs.drop i) = (ValayBase.numberOf (runOf isDigit bs i)).map fun n => (.num n, (runOf isDigit bs i).length) := by
      unfold runOf
      rw [drop_at hb]
      show (if isLetter b = true then _ else if isDigit b = true then _ else _) = _
      rw [if_neg hl1, if_pos hl2]
    rw [ht] at hk
    have rs : sStr (runOf isDigit bs i) = bstr (runOf isDigit bs i) := run_str fun _ h => digit_alnum h
    have rl := run_len (p := isDigit) (i := i) small
    have hne : runOf isDigit bs i ≠ [] := by
      rw [er]
      exact fun z => by cases z
    refine ⟨_, (pss_cons (ps_set (i := 2) sc_number_at.nd rfl (Or.inl rfl) (by exact (pe_cx (CX := CX0) hr pas0 (by exact (pa_cons (pv 0) (pa_cons (pv 1) (pa_cons (pe_gn rfl) pa_nil)))))))
      (pss_cons (ps_if (PW.pt (pw_and (pt_cmpR op_gt (pe_callB call_len (by rfl) T.f_len (by decide +kernel) (by exact (pa_cons (pv 2) pa_nil))) pe_int (nomark _)) (pw_and1 (pt_cmpR op_eq (pe_ix ix_str (pv 2) pe_int (fun _ _ => rfl)) pe_str (nomark _))))) (pss_one (ps_raise rfl (takes_of rfl rfl rfl rfl) (T.mkFault hr (by exact (pa_cons pe_int (pa_cons (pv 1) pa_nil)))))) pss_nil)
      (pss_cons (ps_if (PW.pt (pw_or (pt_cmpR op_gt (pe_callB call_len (by rfl) T.f_len (by decide +kernel) (by exact (pa_cons (pv 2) pa_nil))) (pe_gn rfl) (nomark _)) (pw_or1 (pt_cmpR op_gt (pe_callTy call_int_str (by rfl) T.f_int (by decide +kernel) (by exact (pa_cons (pv 2) pa_nil))) (pe_gn rfl) (nomark _))))) (pss_one (ps_raise rfl (takes_of rfl rfl rfl rfl) (T.mkFault hr (by exact (pa_cons pe_int (pa_cons (pv 1) pa_nil)))))) pss_nil)
      (pss_one (ps_ret (by exact (pe_kx hr (by exact (pa_cons pe_str (pa_cons (pv 2) (pa_cons (pv 1) pa_nil))))))))))), ?_⟩
    refine ⟨_, (ok_run_at T).mono (by decide), _, rfl, _, rfl, _, T.t_DIGITS, l, bs, i, _, isDigit, rfl, hS, small, Nat.le_of_lt hi, in_digits, fun H1 s1 => ?_⟩
    have s1 : Same H H1 := s1
    rw [rs]
    have bad : ValayBase.numberOf (runOf isDigit bs i) = none → FltE H E K 2 i := fun e => by
      rw [e] at hk
      exact hk
    generalize hR : runOf isDigit bs i = R at *
    have num : ValayBase.numberOf R = if R = [] ∨ 10 < R.length ∨ (1 < R.length ∧ R.head? = some 48) ∨ 1000000000 < ValayBase.decimal R then none else some (ValayBase.decimal R) := rfl
    have hh : R.head? = some b := by rw [er]; rfl
    refine ⟨_, rfl, _, R.length, rfl, ⟨by rw [bstr_len]; exact big4096 rl, (bstr_len _).symm⟩, _, _, rfl, rfl, _, rfl, ?_⟩
    by_cases c1 : 1 < R.length
    · rw [decide_eq_true (show (1 : Int) < (R.length : Int) by omega)]
      refine iteT ⟨_, rfl, _, _, b.toNat, rfl, rfl, by rw [bstr_len]; exact big4096 rl, ?_, rfl, _, rfl, ?_⟩
      · show atI (R.map UInt8.toNat) (0 : Int) = _
        rw [er]
        exact atI_nat (j := 0) rfl
      refine (show if decide (V.str ⟨#[b.toNat]⟩ = V.str "0") = true then _ else _ from ?_)
      by_cases c48 : b = 48
      · refine iteC (by rw [c48]; rfl) ⟨_, rfl, ?_⟩
        exact flt_go fun d nd => bad (by rw [num, if_pos (.inr (.inr (.inl ⟨c1, by rw [hh, c48]⟩)))]) H1 d s1 nd
      refine iteD (fun z => c48 (by
        have z := V.str.inj z
        have z := congrArg (fun y : Str => y.cps.toList) z
        have z : [b.toNat] = [48] := z
        exact UInt8.toNat_inj.mp (List.cons.inj z).1)) ?_
      have no48 : ¬ (1 < R.length ∧ R.head? = some 48) := fun z => c48 (by
        have := z.2
        rw [hh] at this
        exact Option.some.inj this)
      refine ⟨_, rfl, _, R.length, rfl, ⟨by rw [bstr_len]; exact big4096 rl, (bstr_len _).symm⟩, _, T.i_MOST_DIGITS, _, _, rfl, rfl, _, rfl, ?_⟩
      by_cases c10 : 10 < R.length
      · rw [decide_eq_true (show (10 : Int) < (R.length : Int) by omega)]
        refine iteT ?_
        refine ⟨_, rfl, ?_⟩
        exact flt_go fun d nd => bad (by rw [num, if_pos (.inr (.inl c10))]) H1 d s1 nd
      · rw [decide_eq_false (show ¬ (10 : Int) < (R.length : Int) by omega)]
        refine iteF ⟨_, rfl, _, ((ValayBase.decimal R : Nat) : Int), rfl, ?_, by rw [bstr_len]; omega, _, T.i_GREATEST_NUMBER, _, _, rfl, rfl, _, rfl, ?_⟩
        · rw [← hR]
          exact int_run (by rw [hR]; exact hne) (by rw [hR]; omega)
        · by_cases cg : 1000000000 < ValayBase.decimal R
          · rw [decide_eq_true (show (1000000000 : Int) < (ValayBase.decimal R : Int) by omega)]
            refine iteT ⟨_, rfl, ?_⟩
            exact flt_go fun d nd => bad (by rw [num, if_pos (.inr (.inr (.inr cg)))]) H1 d s1 nd
          · rw [decide_eq_false (show ¬ (1000000000 : Int) < (ValayBase.decimal R : Int) by omega)]
            refine iteF ⟨cToken K, spTokInit K, (ok_Token T).mono (by decide), _, rfl, _, rfl, ?_⟩
            have en : ValayBase.numberOf R = some (ValayBase.decimal R) := by
              rw [num, if_neg]
              rintro (z | z | z | z)
              · exact hne z
              · exact c10 z
              · exact no48 z
              · exact cg z
            rw [en] at hk
            exact make_tok fun D H' nD s2 tk => hk D H' _ (free_of s1 nD) (s1.trans s2) ⟨tk, by
              rw [← hR]
              exact int_run (by rw [hR]; exact hne) (by rw [hR]; omega), by rw [bstr_len]; omega⟩ (bstr_len _)
    · rw [decide_eq_false (show ¬ (1 : Int) < (R.length : Int) by omega)]
      refine iteF (iteF ?_)
      have no48 : ¬ (1 < R.length ∧ R.head? = some 48) := fun z => c1 z.1
      refine ⟨_, rfl, _, R.length, rfl, ⟨by rw [bstr_len]; exact big4096 rl, (bstr_len _).symm⟩, _, T.i_MOST_DIGITS, _, _, rfl, rfl, _, rfl, ?_⟩
      by_cases c10 : 10 < R.length
      · rw [decide_eq_true (show (10 : Int) < (R.length : Int) by omega)]
        refine iteT ?_
        refine ⟨_, rfl, ?_⟩
        exact flt_go fun d nd => bad (by rw [num, if_pos (.inr (.inl c10))]) H1 d s1 nd
      · rw [decide_eq_false (show ¬ (10 : Int) < (R.length : Int) by omega)]
        refine iteF ⟨_, rfl, _, ((ValayBase.decimal R : Nat) : Int), rfl, ?_, by rw [bstr_len]; omega, _, T.i_GREATEST_NUMBER, _, _, rfl, rfl, _, rfl, ?_⟩
        · rw [← hR]
          exact int_run (by rw [hR]; exact hne) (by rw [hR]; omega)
        · by_cases cg : 1000000000 < ValayBase.decimal R
          · rw [decide_eq_true (show (1000000000 : Int) < (ValayBase.decimal R : Int) by omega)]
            refine iteT ⟨_, rfl, ?_⟩
            exact flt_go fun d nd => bad (by rw [num, if_pos (.inr (.inr (.inr cg)))]) H1 d s1 nd
          · rw [decide_eq_false (show ¬ (1000000000 : Int) < (ValayBase.decimal R : Int) by omega)]
            refine iteF ⟨cToken K, spTokInit K, (ok_Token T).mono (by decide), _, rfl, _, rfl, ?_⟩
            have en : ValayBase.numberOf R = some (ValayBase.decimal R) := by
              rw [num, if_neg]
              rintro (z | z | z | z)
              · exact hne z
              · exact c10 z
              · exact no48 z
              · exact cg z
            rw [en] at hk
            exact make_tok fun D H' nD s2 tk => hk D H' _ (free_of s1 nD) (s1.trans s2) ⟨tk, by
              rw [← hR]
              exact int_run (by rw [hR]; exact hne) (by rw [hR]; omega), by rw [bstr_len]; omega⟩ (bstr_len _)
theorem sign_known (b : UInt8) (h : ValayBase.SIGNS.contains b = true) : signOf b = b.toNat := by
  have := all_bytes (fun b => !ValayBase.SIGNS.contains b || signOf b == b.toNat) (by decide +kernel) b
  rw [h] at this
  exact eq_of_beq this
theorem ok_token_at (T : Txt K mg) (tw : TupIs K mg "WORDS") : COk P w K mg base (L2.CX P w) 6 "token_at" (spTokenAt K fun _ => true) :=
  mkC T.g_token_at T.d_token_at sc_token_at (fun vs H Q E h => by obtain ⟨l, bs, i, b, rfl, _⟩ := h; rfl) (fun _ _ _ _ _ _ us hl => match us, hl with | [_, _], _ => rfl) fun cdv A outer s H vs Q E hr h => by
    obtain ⟨l, bs, i, b, rfl, hS, small, hb, _, hk⟩ := h
    refine ⟨_, (pss_cons (ps_set (i := 2) sc_token_at.nd rfl (Or.inl rfl) (by exact (pe_ix ix_list (pv 0) (pv 1) (fun _ _ => rfl))))
      (pss_cons (ps_if (pt_cmpR op_in_sign (pv 2) (pe_gn rfl) rfl) (pss_one (ps_ret (by exact (pe_cx (CX := L2.CX P w) (E := fun _ => E) hr (pasE (takes_of rfl rfl rfl rfl)) (by exact (pa_cons (pv 0) (pa_cons (pv 1) pa_nil))))))) pss_nil)
      (pss_cons (ps_if (pt_cmpR op_in_sign (pv 2) (pe_gn rfl) rfl) (pss_one (ps_ret (by exact (pe_cx (CX := L2.CX P w) (E := fun _ => E) hr (pasE (takes_of rfl rfl rfl rfl)) (by exact (pa_cons (pv 0) (pa_cons (pv 1) pa_nil))))))) pss_nil)
      (pss_cons (ps_if (pt_cmpR op_in_sign (pv 2) (pe_gn rfl) rfl) (pss_one (ps_ret (by exact (pe_kx hr (by exact (pa_cons (pv 2) (pa_cons (pv 2) (pa_cons (pv 1) pa_nil)))))))) pss_nil)
      (pss_one (ps_raise rfl (takes_of rfl rfl rfl rfl) (T.mkFault hr (by exact (pa_cons pe_int (pa_cons (pv 1) pa_nil)))))))))), ?_⟩
    refine ⟨_, rfl, _, rfl, _, _, _, sgV b, rfl, rfl, SqL.of hS, atI_nat (by rw [List.getElem?_map, hb]; rfl), ?_⟩
    refine ⟨_, rfl, _, T.t_LETTERS, signOf b, _, rfl, rfl, _, rfl, ?_⟩
    rw [in_letters]
    cases h1 : isLetter b with
    | true => exact iteT ⟨_, ok_word_at T tw, _, rfl, _, rfl, l, bs, i, b, rfl, hS, small, hb, h1, hk⟩
    | false =>
      refine iteF ⟨_, rfl, _, T.t_DIGITS, signOf b, _, rfl, rfl, _, rfl, ?_⟩
      rw [in_digits]
      cases h2 : isDigit b with
      | true => exact iteT ⟨_, ok_number_at T, _, rfl, _, rfl, l, bs, i, b, rfl, hS, small, hb, (show (!isLetter b && isDigit b) = true by rw [h1, h2]; rfl), hk⟩
      | false =>
        refine iteF ⟨_, rfl, _, T.t_SIGNS, signOf b, _, rfl, rfl, _, rfl, ?_⟩
        rw [in_signs]
        have ht : ValayBase.token (bs.drop i) = if ValayBase.SIGNS.contains b = true then some (.sign b.toNat, 1) else none := by
          rw [drop_at hb]
          show (if isLetter b = true then _ else if isDigit b = true then _ else _) = _
          rw [if_neg (by rw [h1]; exact Bool.false_ne_true), if_neg (by rw [h2]; exact Bool.false_ne_true)]
        rw [ht] at hk
        cases h3 : ValayBase.SIGNS.contains b with
        | true =>
          rw [if_pos h3] at hk
          refine iteT ⟨cToken K, spTokInit K, (ok_Token T).mono (by decide), _, rfl, _, rfl, _, rfl, ?_⟩
          have es := sign_known b h3
          show ∀ a dx : Addr, _ → _ → _ → spTokInit K [.ref a, .str ⟨#[signOf b]⟩, .str ⟨#[signOf b]⟩, .int i] _ _ _
          rw [es]
          exact make_tok fun D H' nD s2 tk => hk D H' _ nD s2 ⟨tk, rfl⟩ rfl
        | false =>
          rw [if_neg (by rw [h3]; exact Bool.false_ne_true)] at hk
          refine iteF ⟨_, rfl, ?_⟩
          exact flt_go fun d nd => hk H d (Same.refl _) nd
end
end LY
set_option Elab.async false
set_option linter.all false
set_option maxRecDepth 100000
set_option maxHeartbeats 4000000
namespace LY
open PySem PySem.Spec PyProof.Rows L2
open ValayBase (isLetter isDigit isBlank RESERVED lex PTok Toks)
/-! ### all tokens -/
theorem drop_while (p : UInt8 → Bool) : ∀ l : ValayBase.Bytes, l.dropWhile p = l.drop (l.takeWhile p).length
  | [] => rfl
  | b :: l => by
    rw [List.dropWhile_cons, List.takeWhile_cons]
    split
    · rw [List.length_cons, List.drop_succ_cons]
      exact drop_while p l
    · rfl
section
variable {P : Program} {w : World} {K : PySem.W.Frag} {mg : Str → Option Value} {base : Heap}
abbrev s_tokens_of : Stmt := top 29
abbrev n_tokens_of : List Str := ["text", "signs", "tokens", "place", "token"]
theorem sc_tokens_of : FnScope n_tokens_of ["text"] (defScope s_tokens_of) := ⟨rfl, rfl, rfl, by decide +kernel, rfl, by decide +kernel, by decide +kernel⟩

def bytesOf (ns : List Int) : ValayBase.Bytes := ValayeNeutral.bytesOf ns
def spSigns (K : PySem.W.Frag) : Sp := fun vs H Q _ => ∃ (a : Addr) (ns : List Int), vs = [.ref a] ∧ SqL K H a (ns.map V.int) ∧ NeutralIO.bytes ns = true ∧ ns.length ≤ 4096 ∧ ∀ D H', H D = none → Same H H' → SignsAt H' D (bytesOf ns) → Q (.ref D) H'
def ToksAt (K : PySem.W.Frag) (H : Hp) (D : Addr) (ts : Toks) : Prop := ∃ as : List Addr, H D = some (.lst (as.map V.ref)) ∧ as.length = ts.length ∧ ∀ (i : Nat) (a : Addr) (t : PTok), as[i]? = some a → ts[i]? = some t → ∃ tx, TokObj K H a t tx
theorem TokObj.same {H H' : Hp} {a : Addr} {t : PTok} {tx : Str} (h : TokObj K H a t tx) (s : ∀ dx, H a = some (.ins (cToken K) dx (tokF (.str (kindT t.tok)) (.str tx) t.place)) → H' a = some (.ins (cToken K) dx (tokF (.str (kindT t.tok)) (.str tx) t.place))) : TokObj K H' a t tx := by
  obtain ⟨⟨dx, e⟩, r⟩ := h
  exact ⟨⟨dx, s dx e⟩, r⟩
def LexRes (H : Hp) (Q : VK) (E : XK) (K : PySem.W.Frag) : Except ValayBase.Fault Toks → Prop
  | .error f => FltE H E K f.code f.place
  | .ok ts => ∀ D H', H D = none → Same H H' → ToksAt K H' D ts → Q (.ref D) H'
def spTokens (K : PySem.W.Frag) : Sp := fun vs H Q E => ∃ (a : Addr) (ns : List Int), vs = [.ref a] ∧ SqL K H a (ns.map V.int) ∧ NeutralIO.bytes ns = true ∧ ns.length ≤ 4096 ∧ LexRes H Q E K (lex (ns.length + 1) 0 (bytesOf ns))
theorem bytesOf_len (ns : List Int) : (bytesOf ns).length = ns.length := List.length_map ..
theorem map_map' (a b : Toks) (r : Except ValayBase.Fault Toks) : (r.map fun l => b ++ l).map (fun l => a ++ l) = r.map fun l => (a ++ b) ++ l := by
  cases r with
  | error f => rfl
  | ok l => exact congrArg Except.ok (List.append_assoc a b l).symm
theorem toks_snoc {H1 H2 : Hp} {A : Addr} {as : List Addr} {ts : Toks} {t : PTok} {tx : Str} (h : ∀ (i : Nat) (a : Addr) (t : PTok), as[i]? = some a → ts[i]? = some t → ∃ tx, TokObj K H1 a t tx) (hl : as.length = ts.length) (s : ∀ b C dx fs, H1 b = some (.ins C dx fs) → H2 b = some (.ins C dx fs)) (ha : TokObj K H2 A t tx) :
    (as ++ [A]).length = (ts ++ [t]).length ∧ ∀ (i : Nat) (a : Addr) (x : PTok), (as ++ [A])[i]? = some a → (ts ++ [t])[i]? = some x → ∃ tx, TokObj K H2 a x tx := by
  refine ⟨by rw [List.length_append, List.length_append, hl]; rfl, fun i a x q r => ?_⟩
  rcases Nat.lt_or_ge i as.length with c | c
  · rw [List.getElem?_append_left c] at q
    rw [List.getElem?_append_left (by rw [← hl]; exact c)] at r
    obtain ⟨tx', o⟩ := h i a x q r
    exact ⟨tx', o.same fun dx e => s _ _ _ _ e⟩
  · have hi : i = as.length := by
      have := (List.getElem?_eq_some_iff.mp q).1
      rw [List.length_append] at this
      have e1 : [A].length = 1 := rfl
      omega
    subst hi
    rw [List.getElem?_append_right (Nat.le_refl _), Nat.sub_self] at q
    rw [hl, List.getElem?_append_right (Nat.le_refl _), Nat.sub_self] at r
    cases q
    cases r
    exact ⟨tx, ha⟩
theorem token_len {l : ValayBase.Bytes} {x : ValayBase.Tok × Nat} (h : ValayBase.token l = some x) : 0 < x.2 ∧ x.2 ≤ l.length := by
  cases l with
  | nil => cases h
  | cons b r =>
    have h : (if isLetter b = true then (if 16 < ((b :: r).takeWhile fun c => isLetter c || isDigit c).length then none else some (.name ((b :: r).takeWhile fun c => isLetter c || isDigit c), ((b :: r).takeWhile fun c => isLetter c || isDigit c).length))
      else if isDigit b = true then (ValayBase.numberOf ((b :: r).takeWhile isDigit)).map fun n => (.num n, ((b :: r).takeWhile isDigit).length)
      else if ValayBase.SIGNS.contains b = true then some (.sign b.toNat, 1) else none) = some x := h
    have le : ∀ p : UInt8 → Bool, ((b :: r).takeWhile p).length ≤ (b :: r).length := fun p => (List.takeWhile_sublist p).length_le
    by_cases h1 : isLetter b = true
    · rw [if_pos h1] at h
      split at h
      · cases h
      · cases h
        refine ⟨?_, le _⟩
        rw [List.takeWhile_cons, if_pos (by rw [h1]; rfl)]
        exact Nat.succ_pos _
    · rw [if_neg h1] at h
      by_cases h2 : isDigit b = true
      · rw [if_pos h2] at h
        cases hn : ValayBase.numberOf ((b :: r).takeWhile isDigit) with
        | none =>
          rw [hn] at h
          cases h
        | some n =>
          rw [hn] at h
          cases h
          refine ⟨?_, le _⟩
          rw [List.takeWhile_cons, if_pos h2]
          exact Nat.succ_pos _
      · rw [if_neg h2] at h
        split at h
        · cases h
          exact ⟨Nat.one_pos, Nat.succ_pos _⟩
        · cases h
theorem ok_tokens_of (T : Txt K mg) (tw : TupIs K mg "WORDS") {k : Nat} (hk : 7 ≤ k) (sg : COk P w K mg base CX0 k "signs_of" (spSigns K)) : COk P w K mg base (L2.CX P w) (k + 1) "tokens_of" (spTokens K) :=
  mkC T.g_tokens_of T.d_tokens_of sc_tokens_of (fun vs H Q E h => by obtain ⟨a, ns, rfl, _⟩ := h; rfl) (fun _ _ _ _ _ _ us hl => match us, hl with | [_], _ => rfl) fun cdv A outer s H vs Q E hr h => by
    obtain ⟨a, ns, rfl, hS, hby, hlen, res⟩ := h
    refine ⟨_, (pss_cons (ps_set (i := 1) sc_tokens_of.nd rfl (Or.inl rfl) (by exact (pe_cx (CX := CX0) hr pas0 (by exact (pa_cons (pv 0) pa_nil)))))
      (pss_cons (ps_set (i := 2) sc_tokens_of.nd rfl (Or.inl rfl) (by exact (pe_lst pa_nil)))
      (pss_cons (ps_set (i := 3) sc_tokens_of.nd rfl (Or.inl rfl) (by exact pe_int))
      (pss_cons (ps_while (passes_of rfl) (pt_cmpR op_lt (pv 3) (pe_callB call_len (by rfl) T.f_len (by decide +kernel) (by exact (pa_cons (pv 1) pa_nil))) (nomark _)) (pss_one (ps_if (PW.pt (pw_or (pt_cmpR op_eq (pe_ix ix_list (pv 1) (pv 3) (fun _ _ => rfl)) pe_str (nomark _)) (pw_or1 (pt_cmpR op_eq (pe_ix ix_list (pv 1) (pv 3) (fun _ _ => rfl)) pe_str (nomark _))))) (pss_one (ps_aug (i := 3) sc_tokens_of.nd rfl (.inl rfl) pe_int ip_add)) (pss_one (ps_if (pt_cmpR op_eq (pe_ix ix_list (pv 1) (pv 3) (fun _ _ => rfl)) pe_str (nomark _)) (pss_one (ps_set (i := 3) sc_tokens_of.nd rfl (Or.inl rfl) (by exact (pe_cx (CX := CX0) hr pas0 (by exact (pa_cons (pv 1) (pa_cons (pv 3) pa_nil))))))) (pss_cons (ps_set (i := 4) sc_tokens_of.nd rfl (Or.inl rfl) (by exact (pe_cx (CX := L2.CX P w) (E := fun _ => E) hr (pasE (takes_of rfl rfl rfl rfl)) (by exact (pa_cons (pv 1) (pa_cons (pv 3) pa_nil))))))
      (pss_cons (ps_expr (pe_bm PySem.F.plainAttrs_list PySem.F.slot_list_append PySem.F.type_list_append mt_append (pv 2) (by exact (pa_cons (pv 4) pa_nil))))
      (pss_one (ps_aug (i := 3) sc_tokens_of.nd rfl (.inl rfl) (pe_callB call_len (by rfl) T.f_len (by decide +kernel) (by exact (pa_cons (pe_fld (pv 4) (by rfl)) pa_nil))) ip_add)))))))))
      (pss_cons (ps_expr (pe_bm PySem.F.plainAttrs_list PySem.F.slot_list_append PySem.F.type_list_append mt_append (pv 2) (by exact (pa_cons (pe_kx hr (by exact (pa_cons pe_str (pa_cons pe_str (pa_cons (pe_callB call_len (by rfl) T.f_len (by decide +kernel) (by exact (pa_cons (pv 0) pa_nil))) pa_nil))))) pa_nil))))
      (pss_one (ps_ret (by exact (pv 2))))))))), ?_⟩
    refine ⟨_, sg.mono (by omega), _, rfl, a, ns, rfl, hS, hby, hlen, fun S H1 nS s1 gS => ?_⟩
    have bl := bytesOf_len ns
    generalize bytesOf ns = bs at *
    have small : bs.length ≤ 4096 := by omega
    refine ⟨Nat.zero_le _, fun D nD => ?_⟩
    have hD : H D = none := free_of s1 nD
    have sD : Same H1 (upd H1 D (.lst [])) := same_new nD
    have DS : D ≠ S := fun e => by
      rw [e] at nD
      have gS : H1 S = _ := gS
      rw [gS] at nD
      cases nD
    refine ⟨fun m σ H' => ∃ (pos f : Nat) (dn : Toks) (as : List Addr) (v4 : Option V), m = bs.length - pos ∧ σ = [some (.ref a), some (.ref S), some (.ref D), some (.int (pos : Nat)), v4] ∧ Same H H' ∧ SignsAt H' S bs ∧ H' D = some (.lst (as.map V.ref)) ∧ as.length = dn.length ∧
        (∀ (i : Nat) (a : Addr) (t : PTok), as[i]? = some a → dn[i]? = some t → ∃ tx, TokObj K H' a t tx) ∧ pos ≤ bs.length ∧ bs.length - pos < f ∧ lex (ns.length + 1) 0 bs = (lex f pos (bs.drop pos)).map (fun l => dn ++ l) ∧ as.length ≤ pos,
      ⟨_, 0, ns.length + 1, [], [], none, rfl, rfl, s1.trans sD, sD _ _ gS, upd_same, rfl, (fun i a t q => by simp at q), Nat.zero_le _, by omega, (by
        show _ = (lex (ns.length + 1) 0 bs).map fun l => l
        cases lex (ns.length + 1) 0 bs <;> rfl), Nat.zero_le _⟩, ?_⟩
    rintro m σ H' ⟨pos, f, dn, as, v4, rfl, rfl, s2, g2, d2, l2, o2, hp, hf, el, few⟩
    refine ⟨_, rfl, _, rfl, _, bs.length, rfl, .inl ⟨_, SqL.of g2, by rw [List.length_map]⟩, _, _, rfl, rfl, _, rfl, ?_⟩
    rcases Nat.lt_or_ge pos bs.length with hlt | hge
    · refine (show if decide ((pos : Int) < (bs.length : Int)) = true then _ else _ from iteC (by omega) ?_)
      obtain ⟨b, hb⟩ : ∃ b, bs[pos]? = some b := ⟨_, List.getElem?_eq_getElem hlt⟩
      obtain ⟨f, rfl⟩ : ∃ f', f = f' + 1 := ⟨f - 1, by omega⟩
      have hd := drop_at hb
      have el0 : lex (f + 1) pos (bs.drop pos) = if isBlank b = true then lex f (pos + 1) (bs.drop (pos + 1)) else if (b == 35) = true then lex f (pos + 1 + ((bs.drop (pos + 1)).takeWhile (· != 10)).length) ((bs.drop (pos + 1)).dropWhile (· != 10)) else match ValayBase.token (bs.drop pos) with
          | none => .error ⟨2, pos⟩
          | some x => (lex f (pos + x.2) ((bs.drop pos).drop x.2)).map fun l => ⟨pos, x.1⟩ :: l := by
        rw [hd]
        rfl
      rw [el0] at el
      refine ⟨_, fun _ _ h => h, _, rfl, _, rfl, _, _, _, sgV b, rfl, rfl, SqL.of g2, atI_nat (by rw [List.getElem?_map, hb]; rfl), rfl, _, rfl, ?_⟩
      have sb := sign_blank b
      have step1 : isBlank b = true → ∃ m', m' < bs.length - pos ∧ ∃ (pos' f : Nat) (dn : Toks) (as : List Addr) (v4' : Option V), m' = bs.length - pos' ∧ [some (V.ref a), some (.ref S), some (.ref D), some (.int ((pos : Int) + 1)), v4] = [some (.ref a), some (.ref S), some (.ref D), some (.int (pos' : Nat)), v4'] ∧ Same H H' ∧ SignsAt H' S bs ∧ H' D = some (.lst (as.map V.ref)) ∧ as.length = dn.length ∧
        (∀ (i : Nat) (a : Addr) (t : PTok), as[i]? = some a → dn[i]? = some t → ∃ tx, TokObj K H' a t tx) ∧ pos' ≤ bs.length ∧ bs.length - pos' < f ∧ lex (ns.length + 1) 0 bs = (lex f pos' (bs.drop pos')).map (fun l => dn ++ l) ∧ as.length ≤ pos' := fun z => by
        rw [if_pos z] at el
        exact ⟨bs.length - (pos + 1), by omega, pos + 1, f, dn, as, v4, rfl, rfl, s2, g2, d2, l2, o2, by omega, by omega, el, by omega⟩
      cases z1 : decide (sgV b = V.str " ") with
      | true =>
        rw [z1, Bool.true_or] at sb
        exact iteT (iteT ⟨_, rfl, _, _, rfl, rfl, step1 sb.symm⟩)
      | false =>
        rw [z1, Bool.false_or] at sb
        refine iteF ⟨_, rfl, _, rfl, _, _, _, sgV b, rfl, rfl, SqL.of g2, atI_nat (by rw [List.getElem?_map, hb]; rfl), rfl, _, rfl, ?_⟩
        refine (show if decide (sgV b = V.str "\n") = true then _ else _ from ?_)
        rw [sb]
        cases z2 : isBlank b with
        | true => exact iteT ⟨_, rfl, _, _, rfl, rfl, step1 z2⟩
        | false =>
          rw [if_neg (by rw [z2]; exact Bool.false_ne_true)] at el
          refine iteF ⟨_, rfl, _, rfl, _, _, _, sgV b, rfl, rfl, SqL.of g2, atI_nat (by rw [List.getElem?_map, hb]; rfl), rfl, _, rfl, ?_⟩
          refine (show if decide (sgV b = V.str "#") = true then _ else _ from ?_)
          rw [sign_hash]
          cases z3 : b == 35 with
          | true =>
            rw [if_pos z3] at el
            have e35 : b = 35 := eq_of_beq z3
            have rr : runEnd (· != 10) bs pos = pos + 1 + ((bs.drop (pos + 1)).takeWhile (· != 10)).length := by
              rw [run_step hb, if_pos (by rw [e35]; rfl)]
              rfl
            have rl : runEnd (· != 10) bs pos ≤ bs.length := run_le hp
            refine iteT ⟨_, (ok_remark_end T).mono (by omega), _, rfl, _, rfl, S, bs, pos, rfl, g2, small, hp, ?_⟩
            refine ⟨bs.length - runEnd (· != 10) bs pos, by omega, runEnd (· != 10) bs pos, f, dn, as, v4, rfl, rfl, s2, g2, d2, l2, o2, rl, by omega, ?_, by omega⟩
            rw [el, drop_while, List.drop_drop, ← rr]
          | false =>
            rw [if_neg (by rw [z3]; exact Bool.false_ne_true)] at el
            refine iteF ⟨_, (ok_token_at T tw).mono (by omega), _, rfl, _, rfl, S, bs, pos, b, rfl, g2, small, hb, rfl, ?_⟩
            cases ht : ValayBase.token (bs.drop pos) with
            | none =>
              rw [ht] at el
              have el : lex (ns.length + 1) 0 bs = .error ⟨2, pos⟩ := el
              rw [el] at res
              exact fun H2 d s3 nd => res H2 d (s2.trans s3) nd
            | some x =>
              rw [ht] at el
              have el : lex (ns.length + 1) 0 bs = ((lex f (pos + x.2) ((bs.drop pos).drop x.2)).map fun l => [⟨pos, x.1⟩] ++ l).map (fun l => dn ++ l) := el
              rw [map_map', List.drop_drop] at el
              have tl := token_len ht
              rw [List.length_drop] at tl
              intro A H2 tx nA s3 tok ltx
              have DA : A ≠ D := fun e => by
                rw [e, d2] at nA
                cases nA
              have d3 := s3 _ _ d2
              have keep : ∀ b o, H2 b = some o → b ≠ D → upd H2 D (.lst (as.map V.ref ++ [.ref A])) b = some o := fun b o e ne => (upd_ne ne).trans e
              have tok3 : TokObj K (upd H2 D (.lst (as.map V.ref ++ [.ref A]))) A ⟨pos, x.1⟩ tx := tok.same fun dx e => keep _ _ e DA
              obtain ⟨⟨dxt, et⟩, _⟩ := id tok3
              obtain ⟨q1, q2⟩ := toks_snoc o2 l2 (H2 := upd H2 D (.lst (as.map V.ref ++ [.ref A]))) (fun b C dx fs e => keep _ _ (s3 _ _ e) fun z => by
                rw [z, d2] at e
                cases e) tok3
              refine ⟨_, rfl, .inl ⟨rfl, _, SqL.of d3⟩, _, rfl, D, _, _, rfl, rfl, d3, ?_, _, rfl, _, rfl, A, _, dxt, _, _, rfl, et, T.cl_Token, T.na_Token_text, rfl, _, x.2, rfl, ⟨big4096 (by omega), ltx.symm⟩, _, _, rfl, rfl, bs.length - (pos + x.2), by omega, pos + x.2, f, dn ++ [⟨pos, x.1⟩], as ++ [A], some (.ref A), rfl, rfl, ?_, ?_, ?_, q1, q2, by omega, by omega, el, ?_⟩
              · rw [List.length_map]
                exact Nat.lt_of_le_of_lt few (Nat.lt_of_lt_of_le hlt (big4096 small))
              · exact fun b o e => keep _ _ (s3 _ _ (s2 _ _ e)) (ne_of_none e hD)
              · exact keep _ _ (s3 _ _ g2) DS.symm
              · rw [upd_same, List.map_append]
                rfl
              · rw [List.length_append]
                show as.length + 1 ≤ _
                omega
    · refine (show if decide ((pos : Int) < (bs.length : Int)) = true then _ else _ from iteD (by omega) ?_)
      rw [List.drop_eq_nil_of_le hge] at el
      have e0 : lex f pos [] = .ok [⟨pos, .last⟩] := by cases f <;> rfl
      rw [e0] at el
      have el : lex (ns.length + 1) 0 bs = .ok (dn ++ [⟨pos, .last⟩]) := el
      rw [el] at res
      have ep : pos = ns.length := by omega
      refine ⟨_, rfl, .inl ⟨rfl, _, SqL.of d2⟩, cToken K, spTokInit K, (ok_Token T).mono (by omega), _, rfl, _, ns.length, rfl, .inl ⟨_, s2.seq hS, by rw [List.length_map]⟩, ?_⟩
      refine fun A dxA nA ndA neA => ⟨A, dxA, "end", "", ns.length, rfl, upd_same, fun H2 eA kp => ⟨rfl, ?_⟩⟩
      have s3 : Same H' H2 := Same.made nA ndA kp
      have tk : TokAt K H2 A "end" "" ns.length := ⟨dxA, eA⟩
      have DA : A ≠ D := fun e => by
        rw [e, d2] at nA
        cases nA
      have d3 := s3 _ _ d2
      have keep : ∀ b o, H2 b = some o → b ≠ D → upd H2 D (.lst (as.map V.ref ++ [.ref A])) b = some o := fun b o e ne => (upd_ne ne).trans e
      have tok3 : TokObj K (upd H2 D (.lst (as.map V.ref ++ [.ref A]))) A ⟨pos, .last⟩ "" := by
        rw [ep]
        exact TokObj.same (t := ⟨ns.length, .last⟩) ⟨tk, trivial⟩ fun dx e => keep _ _ e DA
      obtain ⟨q1, q2⟩ := toks_snoc o2 l2 (H2 := upd H2 D (.lst (as.map V.ref ++ [.ref A]))) (fun b C dx fs e => keep _ _ (s3 _ _ e) fun z => by
        rw [z, d2] at e
        cases e) tok3
      refine ⟨D, _, _, rfl, rfl, d3, ?_, _, rfl, res D _ hD (fun b o e => keep _ _ (s3 _ _ (s2 _ _ e)) (ne_of_none e hD)) ⟨as ++ [A], ?_, q1, q2⟩⟩
      · rw [List.length_map]
        have := big4096 (n := 4096) (Nat.le_refl _)
        have h6 : (4096 : Nat) < sizeLine := by decide
        omega
      · rw [upd_same, List.map_append]
        rfl
end
end LY
set_option Elab.async false
set_option linter.all false
set_option maxRecDepth 100000
set_option maxHeartbeats 4000000
namespace LY
open PySem PySem.Spec PyProof.Rows L2
open ValayBase (RESERVED lex PTok Toks)
/-! ### the reader's own steps -/
theorem kind_len : ∀ w ∈ RESERVED, 2 ≤ w.length := by decide +kernel
theorem kind_no : ∀ w ∈ RESERVED, bstr w ≠ ("name" : Str) ∧ bstr w ≠ ("number" : Str) ∧ bstr w ≠ ("end" : Str) := by decide +kernel
theorem kind_word {t : ValayBase.Tok} {w : ValayBase.Bytes} (hw : RESERVED.contains w = true) : kindT t = bstr w ↔ t = .name w := by
  have hm : w ∈ RESERVED := List.contains_iff_mem.mp hw
  obtain ⟨n1, n2, n3⟩ := kind_no w hm
  cases t with
  | name b =>
    unfold kindT
    by_cases h : RESERVED.contains b = true
    · dsimp only
      rw [if_pos h]
      exact ⟨fun e => by rw [bstr_inj e], fun e => by cases e; rfl⟩
    · dsimp only
      rw [if_neg h]
      exact ⟨fun e => absurd e.symm n1, fun e => by cases e; exact absurd hw h⟩
  | num n => exact ⟨fun e => absurd e.symm n2, fun e => by cases e⟩
  | sign c =>
    refine ⟨fun e => ?_, fun e => by cases e⟩
    have e : (⟨#[c]⟩ : Str) = bstr w := e
    have := congrArg Str.length e
    rw [bstr_len] at this
    have h2 := kind_len w hm
    have h1 : (⟨#[c]⟩ : Str).length = 1 := rfl
    omega
  | last => exact ⟨fun e => absurd e.symm n3, fun e => by cases e⟩
theorem kind_sign {t : ValayBase.Tok} {c : Nat} : kindT t = ⟨#[c]⟩ ↔ t = .sign c := by
  have l1 : (⟨#[c]⟩ : Str).length = 1 := rfl
  cases t with
  | name b =>
    unfold kindT
    refine ⟨fun e => ?_, fun e => by cases e⟩
    dsimp only at e
    have := congrArg Str.length e
    by_cases h : RESERVED.contains b = true
    · rw [if_pos h, bstr_len] at this
      have h2 := kind_len b (List.contains_iff_mem.mp h)
      omega
    · rw [if_neg h] at this
      cases this
  | num n => exact ⟨fun e => (by have := congrArg Str.length e; cases this), fun e => by cases e⟩
  | sign d =>
    refine ⟨fun e => ?_, fun e => by cases e; rfl⟩
    have e : (⟨#[d]⟩ : Str) = ⟨#[c]⟩ := e
    injection e with e
    have := congrArg Array.toList e
    have : [d] = [c] := this
    rw [(List.cons.inj this).1]
  | last => exact ⟨fun e => (by have := congrArg Str.length e; cases this), fun e => by cases e⟩
theorem kind_name {t : ValayBase.Tok} : kindT t = ("name" : Str) ↔ ∃ b, t = .name b ∧ RESERVED.contains b = false := by
  cases t with
  | name b =>
    unfold kindT
    by_cases h : RESERVED.contains b = true
    · dsimp only
      rw [if_pos h]
      exact ⟨fun e => absurd e (kind_no b (List.contains_iff_mem.mp h)).1, fun ⟨b', e, z⟩ => by
        cases e
        rw [h] at z
        cases z⟩
    · dsimp only
      rw [if_neg h]
      exact ⟨fun _ => ⟨b, rfl, by simpa using h⟩, fun _ => rfl⟩
  | num n => exact ⟨fun e => absurd e (show ¬ ("number" : Str) = "name" by decide +kernel), fun ⟨_, e, _⟩ => by cases e⟩
  | sign c => exact ⟨fun e => (by have := congrArg Str.length e; cases this), fun ⟨_, e, _⟩ => by cases e⟩
  | last => exact ⟨fun e => absurd e (show ¬ ("end" : Str) = "name" by decide +kernel), fun ⟨_, e, _⟩ => by cases e⟩
theorem kind_num {t : ValayBase.Tok} : kindT t = ("number" : Str) ↔ ∃ n, t = .num n := by
  cases t with
  | name b =>
    unfold kindT
    by_cases h : RESERVED.contains b = true
    · dsimp only
      rw [if_pos h]
      exact ⟨fun e => absurd e (kind_no b (List.contains_iff_mem.mp h)).2.1, fun ⟨_, e⟩ => by cases e⟩
    · dsimp only
      rw [if_neg h]
      exact ⟨fun e => absurd e (show ¬ ("name" : Str) = "number" by decide +kernel), fun ⟨_, e⟩ => by cases e⟩
  | num n => exact ⟨fun _ => ⟨n, rfl⟩, fun _ => rfl⟩
  | sign c => exact ⟨fun e => (by have := congrArg Str.length e; cases this), fun ⟨_, e⟩ => by cases e⟩
  | last => exact ⟨fun e => absurd e (show ¬ ("end" : Str) = "number" by decide +kernel), fun ⟨_, e⟩ => by cases e⟩
theorem kind_last {t : ValayBase.Tok} : kindT t = ("end" : Str) ↔ t = .last := by
  cases t with
  | name b =>
    unfold kindT
    by_cases h : RESERVED.contains b = true
    · dsimp only
      rw [if_pos h]
      exact ⟨fun e => absurd e (kind_no b (List.contains_iff_mem.mp h)).2.2, fun e => by cases e⟩
    · dsimp only
      rw [if_neg h]
      exact ⟨fun e => absurd e (show ¬ ("name" : Str) = "end" by decide +kernel), fun e => by cases e⟩
  | num n => exact ⟨fun e => absurd e (show ¬ ("number" : Str) = "end" by decide +kernel), fun e => by cases e⟩
  | sign c => exact ⟨fun e => (by have := congrArg Str.length e; cases this), fun e => by cases e⟩
  | last => exact ⟨fun _ => rfl, fun _ => rfl⟩
section
variable {P : Program} {w : World} {K : PySem.W.Frag} {mg : Str → Option Value} {base : Heap}
abbrev s_Reader_init : Stmt := inClass (top 48) 0
abbrev n_Reader_init : List Str := ["self", "tokens"]
theorem sc_Reader_init : FnScope n_Reader_init ["self", "tokens"] (defScope s_Reader_init) := ⟨rfl, rfl, rfl, by decide +kernel, rfl, by decide +kernel, by decide +kernel⟩
abbrev s_Reader_look : Stmt := inClass (top 48) 1
abbrev n_Reader_look : List Str := ["self"]
theorem sc_Reader_look : FnScope n_Reader_look ["self"] (defScope s_Reader_look) := ⟨rfl, rfl, rfl, by decide +kernel, rfl, by decide +kernel, by decide +kernel⟩
abbrev s_Reader_sees : Stmt := inClass (top 48) 2
abbrev n_Reader_sees : List Str := ["self", "kind"]
theorem sc_Reader_sees : FnScope n_Reader_sees ["self", "kind"] (defScope s_Reader_sees) := ⟨rfl, rfl, rfl, by decide +kernel, rfl, by decide +kernel, by decide +kernel⟩
abbrev s_Reader_take : Stmt := inClass (top 48) 3
abbrev n_Reader_take : List Str := ["self", "kind", "token"]
theorem sc_Reader_take : FnScope n_Reader_take ["self", "kind"] (defScope s_Reader_take) := ⟨rfl, rfl, rfl, by decide +kernel, rfl, by decide +kernel, by decide +kernel⟩
abbrev s_Reader_take_name : Stmt := inClass (top 48) 4
abbrev n_Reader_take_name : List Str := ["self", "earlier", "token"]
theorem sc_Reader_take_name : FnScope n_Reader_take_name ["self", "earlier"] (defScope s_Reader_take_name) := ⟨rfl, rfl, rfl, by decide +kernel, rfl, by decide +kernel, by decide +kernel⟩
abbrev s_Reader_take_number : Stmt := inClass (top 48) 5
abbrev n_Reader_take_number : List Str := ["self", "least", "greatest", "token", "number"]
theorem sc_Reader_take_number : FnScope n_Reader_take_number ["self", "least", "greatest"] (defScope s_Reader_take_number) := ⟨rfl, rfl, rfl, by decide +kernel, rfl, by decide +kernel, by decide +kernel⟩

abbrev cReader (K : PySem.W.Frag) : Addr := He.ga K "Reader"
def rdF (Tl : Addr) (i : Nat) (Rl : Addr) : List (Str × V) := [("tokens", .ref Tl), ("place", .int i), ("records", .ref Rl)]
/-- the reader stands before the i-th of these tokens -/
structure RdIs (K : PySem.W.Frag) (H : Hp) (rd : Addr) (ts : Toks) (i : Nat) (Rl : Addr × Addr) (dx Tl : Addr) : Prop where
  at_ : H rd = some (.ins (cReader K) dx (rdF Tl i Rl.1))
  tl : Tl = Rl.2
  toks : ToksAt K (Wo rd H) Tl ts
  lt : i < ts.length
  ends : ∃ init p, ts = init ++ [⟨p, .last⟩]
def RdAt (K : PySem.W.Frag) (H : Hp) (rd : Addr) (ts : Toks) (i : Nat) (Rl : Addr × Addr) : Prop := ∃ dx Tl, RdIs K H rd ts i Rl dx Tl
theorem ToksAt.same {H H' : Hp} {D : Addr} {ts : Toks} (h : ToksAt K H D ts) (s : Same H H') : ToksAt K H' D ts := by
  obtain ⟨as, h1, h2, h3⟩ := h
  exact ⟨as, s _ _ h1, h2, fun i a t q r => by
    obtain ⟨tx, o⟩ := h3 i a t q r
    exact ⟨tx, o.same fun dx e => s _ _ e⟩⟩
theorem RdIs.same {H H' : Hp} {rd : Addr} {ts : Toks} {i : Nat} {Rl : Addr × Addr} {dx Tl : Addr} (h : RdIs K H rd ts i Rl dx Tl) (s : Same H H') : RdIs K H' rd ts i Rl dx Tl :=
  ⟨s _ _ h.at_, h.tl, h.toks.same (Wo.but fun b o e _ => s b o e), h.lt, h.ends⟩
/-- what is raised by a reader's step -/
def FltB (H : Hp) (E : XK) (K : PySem.W.Frag) (rd : Addr) (c p : Nat) : Prop := ∀ H' d, SameBut rd H H' → H' d = none → E (.ref (cFault K)) (some d) (upd H' d (.xd [("place", .int p), ("code", .int c)]))
theorem RdIs.tok {H : Hp} {rd : Addr} {ts : Toks} {i : Nat} {Rl : Addr × Addr} {dx Tl : Addr} (h : RdIs K H rd ts i Rl dx Tl) : ∃ (t : PTok) (as : List Addr) (a : Addr) (tx : Str), ts[i]? = some t ∧ H Tl = some (.lst (as.map V.ref)) ∧ Tl ≠ rd ∧ as[i]? = some a ∧ TokObj K H a t tx ∧ a ≠ rd := by
  obtain ⟨as, h1, h2, h3⟩ := h.toks
  have ht : ts[i]? = some (ts[i]'h.lt) := List.getElem?_eq_getElem h.lt
  generalize ts[i]'h.lt = t at ht
  have ha : as[i]? = some (as[i]'(by rw [h2]; exact h.lt)) := List.getElem?_eq_getElem _
  generalize as[i]'(by rw [h2]; exact h.lt) = a at ha
  obtain ⟨tx, ⟨dxt, e⟩, r⟩ := h3 i a t ha ht
  obtain ⟨e1, e2⟩ := Wo.get e
  obtain ⟨l1, l2⟩ := Wo.get h1
  exact ⟨t, as, a, tx, ht, l1, l2, ha, ⟨⟨dxt, e1⟩, r⟩, e2⟩
theorem ok_look (T : Txt K mg) : MOk P w K mg base CX0 1 (cReader K) "look" (fun vs H Q _ => ∃ (rd : Addr) (ts : Toks) (i : Nat) (Rl : Addr × Addr) (dx Tl : Addr), vs = [.ref rd] ∧ RdIs K H rd ts i Rl dx Tl ∧ ∀ t a tx, ts[i]? = some t → TokObj K H a t tx → a ≠ rd → Q (.ref a) H) :=
  mkM T.cl_Reader T.me_Reader_look T.d_Reader_look sc_Reader_look (fun vs H Q E h => by obtain ⟨rd, ts, i, Rl, dx, Tl, rfl, _⟩ := h; rfl) (fun _ _ _ _ _ _ us hl => match us, hl with | [_], _ => rfl) fun cdv A outer s H vs Q E hr h => by
    obtain ⟨rd, ts, i, Rl, dx, Tl, rfl, hR, kk⟩ := h
    obtain ⟨t, as, a, tx, h1, h2, h3, h4, h5, h6⟩ := hR.tok
    refine ⟨_, PSs.nox (pss_one (ps_ret (by exact (pe_ix ix_list (pe_fld (pv 0) (by rfl)) (pe_fld (pv 0) (by rfl)) (fun _ _ => rfl))))), ?_⟩
    exact ⟨_, rfl, rd, _, dx, _, _, rfl, hR.at_, T.cl_Reader, T.na_Reader_tokens, rfl, _, rfl, rd, _, dx, _, _, rfl, hR.at_, T.cl_Reader, T.na_Reader_place, rfl, _, _, _, V.ref a, rfl, rfl, SqL.of h2, atI_nat (by rw [List.getElem?_map, h4]; rfl), kk t a tx h1 h5 h6⟩
def spSees (K : PySem.W.Frag) : Sp := fun vs H Q _ => ∃ (rd : Addr) (k : Str) (ts : Toks) (i : Nat) (Rl : Addr × Addr), vs = [.ref rd, .str k] ∧ RdAt K H rd ts i Rl ∧ ∀ t, ts[i]? = some t → Q (.bl (decide (kindT t.tok = k))) H
theorem str_dec (a b : Str) : decide (V.str a = V.str b) = decide (a = b) := decide_eq_decide.mpr ⟨fun e => V.str.inj e, fun e => by rw [e]⟩
theorem ok_sees (T : Txt K mg) : MOk P w K mg base CX0 2 (cReader K) "sees" (spSees K) :=
  mkM T.cl_Reader T.me_Reader_sees T.d_Reader_sees sc_Reader_sees (fun vs H Q E h => by obtain ⟨rd, k, ts, i, Rl, rfl, _⟩ := h; rfl) (fun _ _ _ _ _ _ us hl => match us, hl with | [_, _], _ => rfl) fun cdv A outer s H vs Q E hr h => by
    obtain ⟨rd, k, ts, i, Rl, rfl, ⟨dx, Tl, hR⟩, kk⟩ := h
    refine ⟨_, PSs.nox (pss_one (ps_ret (by exact (pe_cmpR op_eq (pe_fld (pe_mx0 (CX := CX0) hr pas0 (pv 0)) (by rfl)) (pv 1) (nomark _))))), ?_⟩
    refine ⟨_, rfl, rd, _, dx, _, _, rfl, hR.at_, rfl, ok_look T, rd, ts, i, Rl, dx, Tl, rfl, hR, fun t a tx ht ⟨⟨dt, ha⟩, _⟩ hn => ?_⟩
    refine ⟨a, _, dt, _, _, rfl, ha, T.cl_Token, T.na_Token_kind, rfl, _, rfl, rfl, ?_⟩
    have := kk t ht
    rw [← str_dec] at this
    exact this
theorem in_add_ok : True := trivial
def spTake (K : PySem.W.Frag) : Sp := fun vs H Q E => ∃ (rd : Addr) (k : Str) (ts : Toks) (i : Nat) (Rl : Addr × Addr) (t : PTok), vs = [.ref rd, .str k] ∧ k ≠ "end" ∧ RdAt K H rd ts i Rl ∧ ts[i]? = some t ∧
  (kindT t.tok = k → ∀ a tx H', TokObj K H' a t tx → SameBut rd H H' → RdAt K H' rd ts (i + 1) Rl → Q (.ref a) H') ∧ (kindT t.tok ≠ k → FltB H E K rd 3 t.place)
theorem next_lt {ts : Toks} {i : Nat} {t : PTok} (hl : i < ts.length) (he : ∃ init p, ts = init ++ [⟨p, .last⟩]) (ht : ts[i]? = some t) (hk : t.tok ≠ .last) : i + 1 < ts.length := by
  obtain ⟨init, p, rfl⟩ := he
  rw [List.length_append] at hl ⊢
  have e1 : ([⟨p, .last⟩] : Toks).length = 1 := rfl
  rcases Nat.lt_or_ge i init.length with c | c
  · omega
  · have hi : i = init.length := by omega
    subst hi
    rw [List.getElem?_append_right (Nat.le_refl _), Nat.sub_self] at ht
    cases ht
    exact absurd rfl hk
theorem ok_take (T : Txt K mg) : MOk P w K mg base (L2.CX P w) 3 (cReader K) "take" (spTake K) :=
  mkM T.cl_Reader T.me_Reader_take T.d_Reader_take sc_Reader_take (fun vs H Q E h => by obtain ⟨rd, k, ts, i, Rl, t, rfl, _⟩ := h; rfl) (fun _ _ _ _ _ _ us hl => match us, hl with | [_, _], _ => rfl) fun cdv A outer s H vs Q E hr h => by
    obtain ⟨rd, k, ts, i, Rl, t, rfl, hk, ⟨dx, Tl, hR⟩, ht, kq, ke⟩ := h
    refine ⟨_, (pss_cons (ps_set (i := 2) sc_Reader_take.nd rfl (Or.inl rfl) (by exact (pe_mx0 (CX := CX0) hr pas0 (pv 0))))
      (pss_cons (ps_if (pt_cmpR op_ne (pe_fld (pv 2) (by rfl)) (pv 1) (nomark _)) (pss_one (ps_raise rfl (takes_of rfl rfl rfl rfl) (T.mkFault hr (by exact (pa_cons pe_int (pa_cons (pe_fld (pv 2) (by rfl)) pa_nil)))))) pss_nil)
      (pss_cons (ps_fldaug (pv 0) pe_int in_add)
      (pss_one (ps_ret (by exact (pv 2))))))), ?_⟩
    refine ⟨_, rfl, rd, _, dx, _, _, rfl, hR.at_, rfl, (ok_look T).mono (by decide), rd, ts, i, Rl, dx, Tl, rfl, hR, fun t' a tx ht' to hn => ?_⟩
    rw [ht] at ht'
    cases ht'
    obtain ⟨⟨dt, ha⟩, htx⟩ := id to
    refine ⟨_, rfl, a, _, dt, _, _, rfl, ha, T.cl_Token, T.na_Token_kind, rfl, _, rfl, rfl, _, rfl, ?_⟩
    refine (show if (!decide (V.str (kindT t.tok) = V.str k)) = true then _ else _ from ?_)
    by_cases z : kindT t.tok = k
    · refine iteNC (by rw [z]) ?_
      refine ⟨_, rfl, rd, _, dx, _, _, rfl, hR.at_, T.cl_Reader, T.na_Reader_place, rfl, _, _, rfl, rfl, dx, _, hR.at_, (by show 3 < 1000; decide), ?_⟩
      have sb : SameBut rd H (upd H rd (.ins (cReader K) dx (rdF Tl (i + 1) Rl.1))) := fun b o e ne => (upd_ne ne).trans e
      have e1 : (putF "place" (.int ((i : Int) + 1)) (rdF Tl i Rl.1)) = rdF Tl (i + 1) Rl.1 := rfl
      refine ⟨_, rfl, ?_⟩
      show Q (.ref a) (upd H rd (.ins (cReader K) dx (putF "place" (.int ((i : Int) + 1)) (rdF Tl i Rl.1))))
      rw [e1]
      refine kq z a tx _ (to.same fun dx e => sb _ _ e hn) sb ⟨dx, Tl, upd_same, hR.tl, hR.toks.same (Wo.but sb), next_lt hR.lt hR.ends ht fun e => hk (by rw [← z, e]; rfl), hR.ends⟩
    · refine iteND (fun e => z (V.str.inj e)) ⟨_, rfl, a, _, dt, _, _, rfl, ha, T.cl_Token, T.na_Token_place, rfl, ?_⟩
      exact flt_go fun d nd => ke z H d (SameBut.refl _ _) nd
def spTakeName (K : PySem.W.Frag) : Sp := fun vs H Q E => ∃ (rd el : Addr) (ns : List Str) (ts : Toks) (i : Nat) (Rl : Addr × Addr) (t : PTok), vs = [.ref rd, .ref el] ∧ SqL K H el (ns.map V.str) ∧ RdAt K H rd ts i Rl ∧ ts[i]? = some t ∧
  (∀ b, t.tok = .name b → RESERVED.contains b = false → (bstr b ∈ ns → FltB H E K rd 5 t.place) ∧ (bstr b ∉ ns → ∀ H', SameBut rd H H' → RdAt K H' rd ts (i + 1) Rl → Q (.str (bstr b)) H')) ∧ (kindT t.tok ≠ "name" → FltB H E K rd 3 t.place)
theorem inV_str (x : Str) (ns : List Str) : inV (.str x) (ns.map V.str) = decide (x ∈ ns) := by
  unfold inV
  rw [List.any_map]
  induction ns with
  | nil => rfl
  | cons n ns ih =>
    rw [List.any_cons, ih]
    show ((n == x) || decide (x ∈ ns)) = decide (x ∈ n :: ns)
    by_cases h : n = x
    · subst h
      rw [beq_self_eq_true, Bool.true_or]
      exact (decide_eq_true List.mem_cons_self).symm
    · rw [beq_eq_false_iff_ne.mpr h, Bool.false_or]
      exact decide_eq_decide.mpr ⟨fun z => List.mem_cons_of_mem _ z, fun z => (List.mem_cons.mp z).resolve_left fun e => h e.symm⟩
theorem flat_str (ns : List Str) : (ns.map V.str).all flatV = true := by
  rw [List.all_map]
  exact List.all_eq_true.mpr fun _ _ => rfl
theorem ok_take_name (T : Txt K mg) : MOk P w K mg base (L2.CX P w) 4 (cReader K) "take_name" (spTakeName K) :=
  mkM T.cl_Reader T.me_Reader_take_name T.d_Reader_take_name sc_Reader_take_name (fun vs H Q E h => by obtain ⟨rd, el, ns, ts, i, Rl, t, rfl, _⟩ := h; rfl) (fun _ _ _ _ _ _ us hl => match us, hl with | [_, _], _ => rfl) fun cdv A outer s H vs Q E hr h => by
    obtain ⟨rd, el, ns, ts, i, Rl, t, rfl, hS, hR, ht, kq, ke⟩ := h
    obtain ⟨dx, Tl, hI⟩ := id hR
    refine ⟨_, (pss_cons (ps_set (i := 2) sc_Reader_take_name.nd rfl (Or.inl rfl) (by exact (pe_mx (CX := L2.CX P w) (E := fun _ => E) hr (pasE (takes_of rfl rfl rfl rfl)) (pv 0) (by exact (pa_cons pe_str pa_nil)))))
      (pss_cons (ps_if (pt_cmpR op_in_seq (pe_fld (pv 2) (by rfl)) (pv 1) (by rfl)) (pss_one (ps_raise rfl (takes_of rfl rfl rfl rfl) (T.mkFault hr (by exact (pa_cons pe_int (pa_cons (pe_fld (pv 2) (by rfl)) pa_nil)))))) pss_nil)
      (pss_one (ps_ret (by exact (pe_fld (pv 2) (by rfl))))))), ?_⟩
    refine ⟨_, rfl, rd, _, dx, _, spTake K, rfl, hI.at_, rfl, ok_take T, rd, "name", ts, i, Rl, t, rfl, by decide +kernel, hR, ht, fun z a tx H' to sb hR' => ?_, ke⟩
    obtain ⟨b, eb, hb⟩ := kind_name.mp z
    obtain ⟨k1, k2⟩ := kq b eb hb
    obtain ⟨⟨dt, ha⟩, htx⟩ := to
    rw [eb] at htx
    have htx : tx = bstr b := htx
    subst htx
    have hS' : SqL K H' el (ns.map V.str) := sb.seq hI.at_ hS
    refine ⟨_, rfl, a, _, dt, _, _, rfl, ha, T.cl_Token, T.na_Token_text, rfl, _, rfl, _, _, rfl, .inl hS', rfl, flat_str ns, _, rfl, ?_⟩
    refine (show if inV (.str (bstr b)) (ns.map V.str) = true then _ else _ from ?_)
    rw [inV_str]
    by_cases c : bstr b ∈ ns
    · refine iteC c ⟨_, rfl, a, _, dt, _, _, rfl, ha, T.cl_Token, T.na_Token_place, rfl, ?_⟩
      exact flt_go fun d nd => k1 c H' d sb nd
    · exact iteD c ⟨_, rfl, a, _, dt, _, _, rfl, ha, T.cl_Token, T.na_Token_text, rfl, k2 c H' sb hR'⟩
def spTakeNum (K : PySem.W.Frag) : Sp := fun vs H Q E => ∃ (rd : Addr) (lo hi : Int) (ts : Toks) (i : Nat) (Rl : Addr × Addr) (t : PTok), vs = [.ref rd, .int lo, .int hi] ∧ RdAt K H rd ts i Rl ∧ ts[i]? = some t ∧
  (∀ n : Nat, t.tok = .num n → ((n : Int) < lo ∨ hi < (n : Int) → FltB H E K rd 7 t.place) ∧ (¬ ((n : Int) < lo ∨ hi < (n : Int)) → ∀ H', SameBut rd H H' → RdAt K H' rd ts (i + 1) Rl → Q (.int n) H')) ∧ (kindT t.tok ≠ "number" → FltB H E K rd 3 t.place)
theorem ok_take_number (T : Txt K mg) : MOk P w K mg base (L2.CX P w) 4 (cReader K) "take_number" (spTakeNum K) :=
  mkM T.cl_Reader T.me_Reader_take_number T.d_Reader_take_number sc_Reader_take_number (fun vs H Q E h => by obtain ⟨rd, lo, hi, ts, i, Rl, t, rfl, _⟩ := h; rfl) (fun _ _ _ _ _ _ us hl => match us, hl with | [_, _, _], _ => rfl) fun cdv A outer s H vs Q E hr h => by
    obtain ⟨rd, lo, hi, ts, i, Rl, t, rfl, hR, ht, kq, ke⟩ := h
    obtain ⟨dx, Tl, hI⟩ := id hR
    refine ⟨_, (pss_cons (ps_set (i := 3) sc_Reader_take_number.nd rfl (Or.inl rfl) (by exact (pe_mx (CX := L2.CX P w) (E := fun _ => E) hr (pasE (takes_of rfl rfl rfl rfl)) (pv 0) (by exact (pa_cons pe_str pa_nil)))))
      (pss_cons (ps_set (i := 4) sc_Reader_take_number.nd rfl (Or.inl rfl) (by exact (pe_callTy call_int_str (by rfl) T.f_int (by decide +kernel) (by exact (pa_cons (pe_fld (pv 3) (by rfl)) pa_nil)))))
      (pss_cons (ps_if (PW.pt (pw_or (pt_cmpR op_lt (pv 4) (pv 1) (nomark _)) (pw_or1 (pt_cmpR op_gt (pv 4) (pv 2) (nomark _))))) (pss_one (ps_raise rfl (takes_of rfl rfl rfl rfl) (T.mkFault hr (by exact (pa_cons pe_int (pa_cons (pe_fld (pv 3) (by rfl)) pa_nil)))))) pss_nil)
      (pss_one (ps_ret (by exact (pv 4))))))), ?_⟩
    refine ⟨_, rfl, rd, _, dx, _, spTake K, rfl, hI.at_, rfl, ok_take T, rd, "number", ts, i, Rl, t, rfl, by decide +kernel, hR, ht, fun z a tx H' to sb hR' => ?_, ke⟩
    obtain ⟨n, en⟩ := kind_num.mp z
    obtain ⟨k1, k2⟩ := kq n en
    obtain ⟨⟨dt, ha⟩, htx⟩ := to
    rw [en] at htx
    obtain ⟨hn, hl⟩ : PySem.intText? tx = some (n : Int) ∧ tx.length ≤ 640 := htx
    have bad : (n : Int) < lo ∨ hi < (n : Int) → _ := fun c => k1 c
    refine ⟨_, rfl, a, _, dt, _, _, rfl, ha, T.cl_Token, T.na_Token_text, rfl, _, (n : Int), rfl, hn, hl, ?_⟩
    refine ⟨_, rfl, _, rfl, _, _, rfl, rfl, _, rfl, ?_⟩
    by_cases c1 : (n : Int) < lo
    · rw [decide_eq_true c1]
      refine iteT (iteT ⟨_, rfl, a, _, dt, _, _, rfl, ha, T.cl_Token, T.na_Token_place, rfl, ?_⟩)
      exact flt_go fun d nd => k1 (.inl c1) H' d sb nd
    · rw [decide_eq_false c1]
      refine iteF ⟨_, rfl, _, rfl, _, _, rfl, rfl, _, rfl, ?_⟩
      by_cases c2 : hi < (n : Int)
      · rw [decide_eq_true c2]
        refine iteT ⟨_, rfl, a, _, dt, _, _, rfl, ha, T.cl_Token, T.na_Token_place, rfl, ?_⟩
        exact flt_go fun d nd => k1 (.inr c2) H' d sb nd
      · rw [decide_eq_false c2]
        exact iteF ⟨_, rfl, k2 (fun z => z.elim c1 c2) H' sb hR'⟩
end
end LY
set_option Elab.async false
set_option linter.all false
set_option maxRecDepth 100000
set_option maxHeartbeats 4000000
namespace LY
open PySem PySem.Spec PyProof.Rows L2
open ValayBase (RESERVED lex PTok Toks next taken takeName tokEq here wrong)
open Valaya (takeCount takeInt takeAlign)
/-! ### the reader's steps, as the words have them -/
theorem tokEq_iff {a b : ValayBase.Tok} : tokEq a b = true ↔ a = b := by
  cases a <;> cases b <;> first
    | exact ⟨fun _ => rfl, fun _ => rfl⟩
    | exact ⟨fun e => congrArg _ (eq_of_beq e), fun e => (by cases e; exact beq_self_eq_true _)⟩
    | exact ⟨fun e => (by cases e), fun e => (by cases e)⟩
theorem drop_tok {ts : Toks} {i : Nat} {t : PTok} (h : ts[i]? = some t) : ts.drop i = t :: ts.drop (i + 1) := by
  have hi := (List.getElem?_eq_some_iff.mp h).1
  rw [List.drop_eq_getElem_cons hi]
  rw [List.getElem?_eq_getElem hi] at h
  rw [Option.some.inj h]
theorem next_is {ts : Toks} {i : Nat} {t : PTok} {x : ValayBase.Tok} (h : ts[i]? = some t) : next x (ts.drop i) = true ↔ t.tok = x := by
  rw [drop_tok h]
  exact tokEq_iff
section
variable {P : Program} {w : World} {K : PySem.W.Frag} {mg : Str → Option Value} {base : Heap}
theorem RdAt.tok {H : Hp} {rd : Addr} {ts : Toks} {i : Nat} {Rl : Addr × Addr} (h : RdAt K H rd ts i Rl) : ∃ t, ts[i]? = some t := by
  obtain ⟨_, _, hI⟩ := h
  exact ⟨_, List.getElem?_eq_getElem hI.lt⟩
/-- this kind tells this token -/
def KindIs (k : Str) (x : ValayBase.Tok) : Prop := k ≠ "end" ∧ ∀ t, kindT t = k ↔ t = x
theorem kw (w : ValayBase.Bytes) (h : RESERVED.contains w = true) : KindIs (bstr w) (.name w) := ⟨(kind_no w (List.contains_iff_mem.mp h)).2.2, fun _ => kind_word h⟩
theorem ks (c : Nat) : KindIs ⟨#[c]⟩ (.sign c) := ⟨fun e => (by have := congrArg Str.length e; cases this), fun _ => kind_sign⟩
theorem use_sees {H : Hp} {Q : VK} {E : XK} {rd : Addr} {k : Str} {x : ValayBase.Tok} {ts : Toks} {i : Nat} {Rl : Addr × Addr} (hk : ∀ t, kindT t = k ↔ t = x) (hR : RdAt K H rd ts i Rl) (q : Q (.bl (next x (ts.drop i))) H) : spSees K [.ref rd, .str k] H Q E := by
  refine ⟨rd, k, ts, i, Rl, rfl, hR, fun t ht => ?_⟩
  have e : decide (kindT t.tok = k) = next x (ts.drop i) := by
    cases hn : next x (ts.drop i) with
    | true => exact decide_eq_true ((hk _).mpr ((next_is ht).mp hn))
    | false => exact decide_eq_false fun z => (by
        have := (next_is (x := x) ht).mpr ((hk _).mp z)
        rw [hn] at this
        cases this)
  rw [e]
  exact q
/-- what a step of the reader leaves -/
def Step (H : Hp) (E : XK) (K : PySem.W.Frag) (rd : Addr) (ts : Toks) (Rl : Addr × Addr) {α : Type} (r : Except ValayBase.Fault (α × Toks)) (good : α → Hp → Prop) : Prop := match r with
  | .error f => FltB H E K rd f.code f.place
  | .ok x => ∀ H' j, SameBut rd H H' → RdAt K H' rd ts j Rl → ts.drop j = x.2 → good x.1 H'
theorem use_take {H : Hp} {Q : VK} {E : XK} {rd : Addr} {k : Str} {x : ValayBase.Tok} {ts : Toks} {i : Nat} {Rl : Addr × Addr} (hk : KindIs k x) (hR : RdAt K H rd ts i Rl)
    (h : Step H E K rd ts Rl ((taken x (ts.drop i)).map fun r => ((), r)) fun _ H' => ∀ a, Q (.ref a) H') : spTake K [.ref rd, .str k] H Q E := by
  obtain ⟨t, ht⟩ := hR.tok
  refine ⟨rd, k, ts, i, Rl, t, rfl, hk.1, hR, ht, fun z a tx H' to sb hR' => ?_, fun z => ?_⟩
  · have hn := (next_is ht).mpr ((hk.2 _).mp z)
    unfold taken at h
    rw [if_pos hn] at h
    exact h H' (i + 1) sb hR' (by rw [drop_tok ht]; rfl) a
  · have hn : ¬ next x (ts.drop i) = true := fun e => z ((hk.2 _).mpr ((next_is ht).mp e))
    unfold taken at h
    rw [if_neg hn, drop_tok ht] at h
    exact h
theorem use_num {H : Hp} {Q : VK} {E : XK} {rd : Addr} {lo hi : Nat} {ts : Toks} {i : Nat} {Rl : Addr × Addr} (hR : RdAt K H rd ts i Rl)
    (h : Step H E K rd ts Rl (takeCount lo hi (ts.drop i)) fun n H' => Q (.int (n : Nat)) H') : spTakeNum K [.ref rd, .int (lo : Nat), .int (hi : Nat)] H Q E := by
  obtain ⟨t, ht⟩ := hR.tok
  refine ⟨rd, lo, hi, ts, i, Rl, t, rfl, hR, ht, fun n en => ?_, fun z => ?_⟩
  · have e : takeCount lo hi (ts.drop i) = if n < lo ∨ hi < n then .error ⟨7, t.place⟩ else .ok (n, ts.drop (i + 1)) := by
      rw [drop_tok ht]
      obtain ⟨q, tk⟩ := t
      cases en
      rfl
    rw [e] at h
    refine ⟨fun c => ?_, fun c H' sb hR' => ?_⟩
    · rw [if_pos (by omega)] at h
      exact h
    · rw [if_neg (by omega)] at h
      exact h H' (i + 1) sb hR' rfl
  · have e : takeCount lo hi (ts.drop i) = .error ⟨3, t.place⟩ := by
      rw [drop_tok ht]
      obtain ⟨q, tk⟩ := t
      cases tk with
      | num n => exact absurd (kind_num.mpr ⟨n, rfl⟩) z
      | name b => rfl
      | sign c => rfl
      | last => rfl
    rw [e] at h
    exact h
theorem use_name {H : Hp} {Q : VK} {E : XK} {rd el : Addr} {ns : List Str} {ts : Toks} {i : Nat} {Rl : Addr × Addr} (hS : SqL K H el (ns.map V.str)) (hR : RdAt K H rd ts i Rl)
    (h : Step H E K rd ts Rl ((takeName (ts.drop i)).bind fun x => if bstr x.1.name ∈ ns then .error ⟨5, x.1.place⟩ else .ok x) fun x H' => Q (.str (bstr x.name)) H') : spTakeName K [.ref rd, .ref el] H Q E := by
  obtain ⟨t, ht⟩ := hR.tok
  refine ⟨rd, el, ns, ts, i, Rl, t, rfl, hS, hR, ht, fun b eb hb => ?_, fun z => ?_⟩
  · have e : takeName (ts.drop i) = .ok (⟨t.place, b⟩, ts.drop (i + 1)) := by
      rw [drop_tok ht]
      obtain ⟨q, tk⟩ := t
      cases eb
      show (if RESERVED.contains b = true then _ else _) = _
      rw [if_neg (by rw [hb]; exact Bool.false_ne_true)]
    rw [e] at h
    have h : Step H E K rd ts Rl (if bstr b ∈ ns then .error ⟨5, t.place⟩ else .ok ((⟨t.place, b⟩ : ValayBase.PName), ts.drop (i + 1))) fun x H' => Q (.str (bstr x.name)) H' := h
    refine ⟨fun c => ?_, fun c H' sb hR' => ?_⟩
    · rw [if_pos c] at h
      exact h
    · rw [if_neg c] at h
      exact h H' (i + 1) sb hR' rfl
  · have e : takeName (ts.drop i) = .error ⟨3, t.place⟩ := by
      rw [drop_tok ht]
      obtain ⟨q, tk⟩ := t
      cases tk with
      | name b =>
        show (if RESERVED.contains b = true then _ else _) = _
        have : RESERVED.contains b = true := by
          cases hb : RESERVED.contains b with
          | true => rfl
          | false => exact absurd (kind_name.mpr ⟨b, rfl, hb⟩) z
        rw [if_pos this]
        rfl
      | num n => rfl
      | sign c => rfl
      | last => rfl
    rw [e] at h
    exact h
theorem see_ {σ : L2.St} {H : Hp} {Q : VK} {E : XK} {rd : Addr} {k : Str} {x : ValayBase.Tok} {ts : Toks} {i : Nat} {Rl : Addr × Addr} (hk : ∀ t, kindT t = k ↔ t = x) (hR : RdAt K H rd ts i Rl) (q : Q (.bl (next x (ts.drop i))) H) :
    tCons (tC (.str k)) tNil σ H fun vs H2 => spSees K (.ref rd :: vs) H2 Q E := use_sees (E := E) hk hR q
theorem take_ {σ : L2.St} {H : Hp} {Q : VK} {E : XK} {rd : Addr} {k : Str} {x : ValayBase.Tok} {ts : Toks} {i : Nat} {Rl : Addr × Addr} (hk : KindIs k x) (hR : RdAt K H rd ts i Rl)
    (h : Step H E K rd ts Rl ((taken x (ts.drop i)).map fun r => ((), r)) fun _ H' => ∀ a, Q (.ref a) H') : tCons (tC (.str k)) tNil σ H fun vs H2 => spTake K (.ref rd :: vs) H2 Q E := use_take hk hR h
end
end LY
set_option Elab.async false
set_option linter.all false
set_option maxRecDepth 100000
set_option maxHeartbeats 4000000
namespace LY
open PySem PySem.Spec PyProof.Rows L2
open ValayBase (RESERVED lex PTok Toks next taken takeName tokEq here wrong word takeWord takeSign nextWord)
open Valaya (takeCount takeInt takeAlign Ty)
theorem kSign (s : Str) (c : Nat) (e : s = ⟨#[c]⟩) : KindIs s (.sign c) := e ▸ ks c
theorem kWord (s : Str) (w : ValayBase.Bytes) (h : RESERVED.contains w = true) (e : s = bstr w) : KindIs s (.name w) := e ▸ kw w h
theorem k45 : KindIs "-" (.sign 45) := kSign _ _ (by decide +kernel)
theorem k58 : KindIs ":" (.sign 58) := kSign _ _ (by decide +kernel)
theorem k59 : KindIs ";" (.sign 59) := kSign _ _ (by decide +kernel)
theorem k44 : KindIs "," (.sign 44) := kSign _ _ (by decide +kernel)
theorem k123 : KindIs "{" (.sign 123) := kSign _ _ (by decide +kernel)
theorem k125 : KindIs "}" (.sign 125) := kSign _ _ (by decide +kernel)
theorem kFrom : KindIs "from" (.name (word "from")) := kWord _ _ (by decide +kernel) (by decide +kernel)
theorem kTo : KindIs "to" (.name (word "to")) := kWord _ _ (by decide +kernel) (by decide +kernel)
theorem kAt : KindIs "at" (.name (word "at")) := kWord _ _ (by decide +kernel) (by decide +kernel)
theorem kMaybe : KindIs "maybe" (.name (word "maybe")) := kWord _ _ (by decide +kernel) (by decide +kernel)
theorem kMany : KindIs "many" (.name (word "many")) := kWord _ _ (by decide +kernel) (by decide +kernel)
theorem kOne : KindIs "one" (.name (word "one")) := kWord _ _ (by decide +kernel) (by decide +kernel)
theorem kHot : KindIs "hot" (.name (word "hot")) := kWord _ _ (by decide +kernel) (by decide +kernel)
theorem kRecord : KindIs "record" (.name (word "record")) := kWord _ _ (by decide +kernel) (by decide +kernel)
/-- a whole number, by the number behind its sign -/
def afterMinus (l : Toks) : Toks := if next (.sign 45) l = true then l.drop 1 else l
theorem takeInt_eq (l : Toks) : takeInt l = (takeCount 0 1000000 (afterMinus l)).map fun x => (if next (.sign 45) l = true then -(x.1 : Int) else (x.1 : Int), here (afterMinus l), x.2) := by
  unfold takeInt
  show (match afterMinus l with
    | ⟨q, .num n⟩ :: r => if 1000000 < n then (Except.error ⟨7, q⟩ : Except ValayBase.Fault (Int × Nat × Toks)) else .ok (if next (.sign 45) l = true then -(n : Int) else (n : Int), q, r)
    | m => wrong m) = _
  generalize afterMinus l = m
  cases m with
  | nil => rfl
  | cons t r =>
    obtain ⟨q, tk⟩ := t
    cases tk with
    | num n =>
      show (if 1000000 < n then _ else _) = (if n < 0 ∨ 1000000 < n then _ else _ : Except ValayBase.Fault (Nat × Toks)).map _
      by_cases c : 1000000 < n
      · rw [if_pos c, if_pos (.inr c)]
        rfl
      · rw [if_neg c, if_neg (show ¬ (n < 0 ∨ 1000000 < n) by omega)]
        rfl
    | name b => rfl
    | sign c => rfl
    | last => rfl
theorem count_at {lo hi n : Nat} {l r : Toks} (h : takeCount lo hi l = .ok (n, r)) : ∃ q, l = ⟨q, .num n⟩ :: r := by
  cases l with
  | nil => cases h
  | cons t r' =>
    obtain ⟨q, tk⟩ := t
    cases tk with
    | num m =>
      have h : (if m < lo ∨ hi < m then .error ⟨7, q⟩ else .ok (m, r') : Except ValayBase.Fault (Nat × Toks)) = .ok (n, r) := h
      split at h
      · cases h
      · cases h
        exact ⟨q, rfl⟩
    | name b => cases h
    | sign c => cases h
    | last => cases h
section
variable {P : Program} {w : World} {K : PySem.W.Frag} {mg : Str → Option Value} {base : Heap}
abbrev s_read_value : Stmt := top 54
abbrev n_read_value : List Str := ["reader"]
theorem sc_read_value : FnScope n_read_value ["reader"] (defScope s_read_value) := ⟨rfl, rfl, rfl, by decide +kernel, rfl, by decide +kernel, by decide +kernel⟩
abbrev s_read_last : Stmt := top 55
abbrev n_read_last : List Str := ["reader", "first", "last"]
theorem sc_read_last : FnScope n_read_last ["reader", "first"] (defScope s_read_last) := ⟨rfl, rfl, rfl, by decide +kernel, rfl, by decide +kernel, by decide +kernel⟩
abbrev s_read_align : Stmt := top 56
abbrev n_read_align : List Str := ["reader", "token"]
theorem sc_read_align : FnScope n_read_align ["reader"] (defScope s_read_align) := ⟨rfl, rfl, rfl, by decide +kernel, rfl, by decide +kernel, by decide +kernel⟩
abbrev s_read_number : Stmt := top 53
abbrev n_read_number : List Str := ["reader", "first", "last"]
theorem sc_read_number : FnScope n_read_number ["reader"] (defScope s_read_number) := ⟨rfl, rfl, rfl, by decide +kernel, rfl, by decide +kernel, by decide +kernel⟩

theorem Step.map {H : Hp} {E : XK} {rd : Addr} {ts : Toks} {Rl : Addr × Addr} {α β : Type} {r : Except ValayBase.Fault (α × Toks)} {f : α → β} {good : β → Hp → Prop} (h : Step H E K rd ts Rl (r.map fun x => (f x.1, x.2)) good) : Step H E K rd ts Rl r fun a => good (f a) := by
  cases r with
  | error f => exact h
  | ok x => exact h
/-- from a later heap on -/
theorem FltB.from {H H' : Hp} {E : XK} {rd : Addr} {c p : Nat} (h : FltB H E K rd c p) (s : SameBut rd H H') : FltB H' E K rd c p := fun H2 d s2 nd => h H2 d (s.trans s2) nd
theorem Step.from {H H' : Hp} {E : XK} {rd : Addr} {ts : Toks} {Rl : Addr × Addr} {α : Type} {r : Except ValayBase.Fault (α × Toks)} {good : α → Hp → Prop} (h : Step H E K rd ts Rl r good) (s : SameBut rd H H') : Step H' E K rd ts Rl r good := by
  cases r with
  | error f => exact FltB.from h s
  | ok x => exact fun H2 j s2 hR e => h H2 j (s.trans s2) hR e
/-- one step, then another -/
theorem Step.bind {H : Hp} {E : XK} {rd : Addr} {ts : Toks} {Rl : Addr × Addr} {α β : Type} {r : Except ValayBase.Fault (α × Toks)} {g : α → Toks → Except ValayBase.Fault (β × Toks)} {good : β → Hp → Prop} {good' : α → Hp → Prop} (h : Step H E K rd ts Rl (r.bind fun x => g x.1 x.2) good)
    (k : ∀ x H' j, SameBut rd H H' → RdAt K H' rd ts j Rl → Step H' E K rd ts Rl (g x (ts.drop j)) good → good' x H') : Step H E K rd ts Rl r good' := by
  cases r with
  | error f => exact h
  | ok x =>
    refine fun H' j s hR e => k x.1 H' j s hR ?_
    have h : Step H E K rd ts Rl (g x.1 x.2) good := h
    rw [e]
    exact h.from s
def spRV (K : PySem.W.Frag) : Sp := fun vs H Q E => ∃ (rd : Addr) (ts : Toks) (i : Nat) (Rl : Addr × Addr), vs = [.ref rd] ∧ RdAt K H rd ts i Rl ∧ Step H E K rd ts Rl ((takeInt (ts.drop i)).map fun x => (x.1, x.2.2)) fun v H' => Q (.int v) H'
theorem ok_read_value (T : Txt K mg) : COk P w K mg base (L2.CX P w) 5 "read_value" (spRV K) :=
  mkC T.g_read_value T.d_read_value sc_read_value (fun vs H Q E h => by obtain ⟨rd, ts, i, Rl, rfl, _⟩ := h; rfl) (fun _ _ _ _ _ _ us hl => match us, hl with | [_], _ => rfl) fun cdv A outer s H vs Q E hr h => by
    obtain ⟨rd, ts, i, Rl, rfl, hR, st⟩ := h
    obtain ⟨dx, Tl, hI⟩ := id hR
    rw [takeInt_eq] at st
    have st : Step H E K rd ts Rl (((takeCount 0 1000000 (afterMinus (ts.drop i))).map fun x => (if next (.sign 45) (ts.drop i) = true then -(x.1 : Int) else (x.1 : Int), here (afterMinus (ts.drop i)), x.2)).map fun x => (x.1, x.2.2)) fun v H' => Q (.int v) H' := st
    have st : Step H E K rd ts Rl (takeCount 0 1000000 (afterMinus (ts.drop i))) fun n H' => Q (.int (if next (.sign 45) (ts.drop i) = true then -(n : Int) else (n : Int))) H' := by
      cases hc : takeCount 0 1000000 (afterMinus (ts.drop i)) with
      | error f =>
        rw [hc] at st
        exact st
      | ok x =>
        rw [hc] at st
        exact st
    refine ⟨_, (pss_cons (ps_if (pt_val (pe_mx (CX := CX0) hr pas0 (pv 0) (by exact (pa_cons pe_str pa_nil)))) (pss_cons (ps_expr (pe_mx (CX := L2.CX P w) (E := fun _ => E) hr (pasE (takes_of rfl rfl rfl rfl)) (pv 0) (by exact (pa_cons pe_str pa_nil))))
      (pss_one (ps_ret (by exact (pe_un un_neg (pe_mx (CX := L2.CX P w) (E := fun _ => E) hr (pasE (takes_of rfl rfl rfl rfl)) (pv 0) (by exact (pa_cons pe_int (pa_cons (pe_gn rfl) pa_nil))))))))) pss_nil)
      (pss_one (ps_ret (by exact (pe_mx (CX := L2.CX P w) (E := fun _ => E) hr (pasE (takes_of rfl rfl rfl rfl)) (pv 0) (by exact (pa_cons pe_int (pa_cons (pe_gn rfl) pa_nil)))))))), ?_⟩
    refine ⟨_, rfl, rd, _, dx, _, spSees K, rfl, hI.at_, rfl, (ok_sees T).mono (by decide), see_ k45.2 hR ⟨_, rfl, ?_⟩⟩
    unfold afterMinus at st
    cases hm : next (.sign 45) (ts.drop i) with
    | true =>
      rw [hm] at st
      refine iteT ⟨_, rfl, rd, _, dx, _, spTake K, rfl, hI.at_, rfl, (ok_take T).mono (by decide), take_ k45 hR ?_⟩
      unfold taken
      rw [if_pos hm]
      intro H' j s1 hR' e a
      obtain ⟨dx', Tl', hI'⟩ := id hR'
      have st : Step H E K rd ts Rl (takeCount 0 1000000 ((ts.drop i).drop 1)) fun n H' => Q (.int (-(n : Int))) H' := st
      have e : ts.drop j = (ts.drop i).drop 1 := e
      rw [← e] at st
      refine ⟨_, rfl, rd, _, dx', _, spTakeNum K, rfl, hI'.at_, rfl, ok_take_number T, _, T.i_GREATEST_VALUE, ?_⟩
      have this := st.from s1
      have st2 : Step H' E K rd ts Rl (takeCount 0 1000000 (ts.drop j)) fun n H2 => (fun x H2 => ∃ i, x = V.int i ∧ Q (.int (-i)) H2) (.int (n : Nat)) H2 := by
        cases hc : takeCount 0 1000000 (ts.drop j) with
        | error f =>
          rw [hc] at this
          exact this
        | ok x =>
          rw [hc] at this
          exact fun H2 j2 s2 hR2 e2 => ⟨_, rfl, this H2 j2 s2 hR2 e2⟩
      exact use_num (lo := 0) (hi := 1000000) (E := E) (Q := fun x H2 => ∃ i, x = V.int i ∧ Q (.int (-i)) H2) hR' st2
    | false =>
      rw [hm] at st
      have st : Step H E K rd ts Rl (takeCount 0 1000000 (ts.drop i)) fun n H' => Q (.int (n : Int)) H' := st
      refine iteF ⟨_, rfl, rd, _, dx, _, spTakeNum K, rfl, hI.at_, rfl, ok_take_number T, _, T.i_GREATEST_VALUE, ?_⟩
      exact use_num (lo := 0) (hi := 1000000) hR st
theorem prev_tok {ts r : Toks} {i j q n : Nat} (h : ts.drop i = ⟨q, .num n⟩ :: r) (hj : ts.drop j = r) (lj : j ≤ ts.length) : 1 ≤ j ∧ ts[j - 1]? = some ⟨q, .num n⟩ := by
  have l1 := congrArg List.length h
  have l2 := congrArg List.length hj
  rw [List.length_drop, List.length_cons] at l1
  rw [List.length_drop] at l2
  have : j = i + 1 := by omega
  subst this
  refine ⟨Nat.succ_pos _, ?_⟩
  have := congrArg (fun l : Toks => l[0]?) h
  rw [List.getElem?_drop] at this
  exact this
theorem int_prev {ts r : Toks} {i j q : Nat} {v : Int} (h : takeInt (ts.drop i) = .ok (v, q, r)) (hj : ts.drop j = r) (lj : j ≤ ts.length) : 1 ≤ j ∧ ∃ t, ts[j - 1]? = some t ∧ t.place = q := by
  rw [takeInt_eq] at h
  cases hc : takeCount 0 1000000 (afterMinus (ts.drop i)) with
  | error f =>
    rw [hc] at h
    cases h
  | ok x =>
    obtain ⟨n, r'⟩ := x
    rw [hc] at h
    obtain ⟨q', eq⟩ := count_at hc
    have h : (Except.ok (if next (.sign 45) (ts.drop i) = true then -(n : Int) else (n : Int), here (afterMinus (ts.drop i)), r') : Except ValayBase.Fault (Int × Nat × Toks)) = .ok (v, q, r) := h
    cases h
    have ex : ∃ i', ts.drop i' = ⟨q', .num n⟩ :: r := by
      unfold afterMinus at eq
      split at eq
      · rw [List.drop_drop] at eq
        exact ⟨_, eq⟩
      · exact ⟨_, eq⟩
    obtain ⟨i', e'⟩ := ex
    obtain ⟨h1, h2⟩ := prev_tok e' hj lj
    refine ⟨h1, _, h2, ?_⟩
    rw [eq]
    rfl
theorem RdIs.nth {H : Hp} {rd : Addr} {ts : Toks} {i : Nat} {Rl : Addr × Addr} {dx Tl : Addr} (h : RdIs K H rd ts i Rl dx Tl) {k : Nat} {t : PTok} (ht : ts[k]? = some t) : ∃ (as : List Addr) (a : Addr) (tx : Str), H Tl = some (.lst (as.map V.ref)) ∧ as[k]? = some a ∧ TokObj K H a t tx := by
  obtain ⟨as, h1, h2, h3⟩ := h.toks
  have hk := (List.getElem?_eq_some_iff.mp ht).1
  have ha : as[k]? = some (as[k]'(by rw [h2]; exact hk)) := List.getElem?_eq_getElem _
  obtain ⟨tx, ⟨dxt, e⟩, r⟩ := h3 k _ t ha ht
  exact ⟨as, _, tx, (Wo.get h1).1, ha, ⟨⟨dxt, (Wo.get e).1⟩, r⟩⟩
def spRL (K : PySem.W.Frag) : Sp := fun vs H Q E => ∃ (rd : Addr) (a : Int) (ts : Toks) (i : Nat) (Rl : Addr × Addr), vs = [.ref rd, .int a] ∧ RdAt K H rd ts i Rl ∧ Step H E K rd ts Rl ((takeInt (ts.drop i)).bind fun b => if b.1 < a then .error ⟨7, b.2.1⟩ else .ok (b.1, b.2.2)) fun v H' => Q (.int v) H'
theorem ok_read_last (T : Txt K mg) : COk P w K mg base (L2.CX P w) 6 "read_last" (spRL K) :=
  mkC T.g_read_last T.d_read_last sc_read_last (fun vs H Q E h => by obtain ⟨rd, a, ts, i, Rl, rfl, _⟩ := h; rfl) (fun _ _ _ _ _ _ us hl => match us, hl with | [_, _], _ => rfl) fun cdv A outer s H vs Q E hr h => by
    obtain ⟨rd, a, ts, i, Rl, rfl, hR, st⟩ := h
    refine ⟨_, (pss_cons (ps_set (i := 2) sc_read_last.nd rfl (Or.inl rfl) (by exact (pe_cx (CX := L2.CX P w) (E := fun _ => E) hr (pasE (takes_of rfl rfl rfl rfl)) (by exact (pa_cons (pv 0) pa_nil)))))
      (pss_cons (ps_if (pt_cmpR op_lt (pv 2) (pv 1) (nomark _)) (pss_one (ps_raise rfl (takes_of rfl rfl rfl rfl) (T.mkFault hr (by exact (pa_cons pe_int (pa_cons (pe_fld (pe_ix ix_list (pe_fld (pv 0) (by rfl)) (pe_op op_sub (pe_fld (pv 0) (by rfl)) pe_int) (fun _ _ => rfl)) (by rfl)) pa_nil)))))) pss_nil)
      (pss_one (ps_ret (by exact (pv 2)))))), ?_⟩
    refine ⟨_, ok_read_value T, _, rfl, rd, ts, i, Rl, rfl, hR, ?_⟩
    cases hc : takeInt (ts.drop i) with
    | error f =>
      rw [hc] at st
      exact st
    | ok x =>
      obtain ⟨v, q, r⟩ := x
      rw [hc] at st
      have st : Step H E K rd ts Rl (if v < a then .error ⟨7, q⟩ else .ok (v, r)) fun v H' => Q (.int v) H' := st
      intro H' j s1 hR' e
      obtain ⟨dx, Tl, hI⟩ := id hR'
      refine ⟨_, rfl, _, rfl, _, _, rfl, rfl, _, rfl, ?_⟩
      by_cases c : v < a
      · rw [if_pos c] at st
        obtain ⟨hj, t, ht, hq⟩ := int_prev hc e (Nat.le_of_lt hI.lt)
        obtain ⟨as, ad, tx, l1, l2, ⟨⟨dt, ha⟩, _⟩⟩ := hI.nth ht
        refine (show if decide (v < a) = true then _ else _ from iteC c ⟨_, rfl, rd, _, dx, _, _, rfl, hI.at_, T.cl_Reader, T.na_Reader_tokens, rfl, _, rfl, rd, _, dx, _, _, rfl, hI.at_, T.cl_Reader, T.na_Reader_place, rfl, _, _, rfl, rfl, _, _, _, V.ref ad, rfl, rfl, SqL.of l1, atI_eq (j := j - 1) (by show (j : Int) - 1 = _; omega) (by rw [List.getElem?_map, l2]; rfl), ad, _, dt, _, _, rfl, ha, T.cl_Token, T.na_Token_place, rfl, ?_⟩)
        rw [hq]
        exact flt_go fun d nd => st H' d s1 nd
      · rw [if_neg c] at st
        exact (show if decide (v < a) = true then _ else _ from iteD c ⟨_, rfl, st H' j s1 hR' e⟩)
def spRA (K : PySem.W.Frag) : Sp := fun vs H Q E => ∃ (rd : Addr) (ts : Toks) (i : Nat) (Rl : Addr × Addr), vs = [.ref rd] ∧ RdAt K H rd ts i Rl ∧ Step H E K rd ts Rl (takeAlign (ts.drop i)) fun c H' => Q (.int (c : Nat)) H'
theorem ok_read_align (T : Txt K mg) (ta : TupIs K mg "ALIGNS") : COk P w K mg base (L2.CX P w) 5 "read_align" (spRA K) :=
  mkC T.g_read_align T.d_read_align sc_read_align (fun vs H Q E h => by obtain ⟨rd, ts, i, Rl, rfl, _⟩ := h; rfl) (fun _ _ _ _ _ _ us hl => match us, hl with | [_], _ => rfl) fun cdv A outer s H vs Q E hr h => by
    obtain ⟨rd, ts, i, Rl, rfl, hR, st⟩ := h
    obtain ⟨dx, Tl, hI⟩ := id hR
    refine ⟨_, (pss_cons (ps_if (pt_not (pt_val (pe_mx (CX := CX0) hr pas0 (pv 0) (by exact (pa_cons pe_str pa_nil))))) (pss_one (ps_ret (by exact pe_int))) pss_nil)
      (pss_cons (ps_expr (pe_mx (CX := L2.CX P w) (E := fun _ => E) hr (pasE (takes_of rfl rfl rfl rfl)) (pv 0) (by exact (pa_cons pe_str pa_nil))))
      (pss_cons (ps_set (i := 1) sc_read_align.nd rfl (Or.inl rfl) (by exact (pe_mx (CX := L2.CX P w) (E := fun _ => E) hr (pasE (takes_of rfl rfl rfl rfl)) (pv 0) (by exact (pa_cons pe_str pa_nil)))))
      (pss_cons (ps_if (pt_cmpR op_notIn_seq (pe_callTy call_int_str (by rfl) T.f_int (by decide +kernel) (by exact (pa_cons (pe_fld (pv 1) (by rfl)) pa_nil))) (pe_gn rfl) (by rfl)) (pss_one (ps_raise rfl (takes_of rfl rfl rfl rfl) (T.mkFault hr (by exact (pa_cons pe_int (pa_cons (pe_fld (pv 1) (by rfl)) pa_nil)))))) pss_nil)
      (pss_one (ps_ret (by exact (pe_callTy call_int_str (by rfl) T.f_int (by decide +kernel) (by exact (pa_cons (pe_fld (pv 1) (by rfl)) pa_nil)))))))))), ?_⟩
    refine ⟨_, rfl, rd, _, dx, _, spSees K, rfl, hI.at_, rfl, (ok_sees T).mono (by decide), see_ kAt.2 hR ⟨_, rfl, ?_⟩⟩
    unfold takeAlign nextWord at st
    cases hm : next (.name (word "at")) (ts.drop i) with
    | false =>
      rw [hm, if_pos rfl] at st
      exact iteT (st H i (SameBut.refl _ _) hR rfl)
    | true =>
      rw [hm, if_neg (fun z => by cases z)] at st
      refine iteF ⟨_, rfl, rd, _, dx, _, spTake K, rfl, hI.at_, rfl, (ok_take T).mono (by decide), take_ kAt hR ?_⟩
      unfold taken
      rw [if_pos hm]
      intro H' j s1 hR' e a
      have e : ts.drop j = (ts.drop i).drop 1 := e
      rw [← e] at st
      obtain ⟨dx', Tl', hI'⟩ := id hR'
      obtain ⟨t, ht⟩ := hR'.tok
      rw [drop_tok ht] at st
      refine ⟨_, rfl, rd, _, dx', _, spTake K, rfl, hI'.at_, rfl, (ok_take T).mono (by decide), rd, "number", ts, j, Rl, t, rfl, by decide +kernel, hR', ht, fun z b tx H2 to sb hR2 => ?_, fun z => ?_⟩
      · obtain ⟨n, en⟩ := kind_num.mp z
        obtain ⟨⟨dt, ha⟩, htx⟩ := to
        rw [en] at htx
        obtain ⟨hn, hl⟩ : PySem.intText? tx = some (n : Int) ∧ tx.length ≤ 640 := htx
        have st : Step H E K rd ts Rl (if Valaya.ALIGNS.contains n = true then .ok (n, ts.drop (j + 1)) else .error ⟨7, t.place⟩) fun c H' => Q (.int (c : Nat)) H' := by
          obtain ⟨q, tk⟩ := t
          cases en
          exact st
        refine ⟨_, rfl, b, _, dt, _, _, rfl, ha, T.cl_Token, T.na_Token_text, rfl, _, (n : Int), rfl, hn, hl, _, ta.is, _, _, rfl, .inr (T.aligns _), rfl, rfl, _, rfl, ?_⟩
        have ea : inV (.int (n : Int)) [.int 1, .int 2, .int 4, .int 8, .int 16, .int 32] = Valaya.ALIGNS.contains n := by
          have : ∀ l : List Nat, inV (.int (n : Int)) (l.map fun k : Nat => V.int (k : Int)) = l.contains n := fun l => by
            unfold inV
            rw [List.any_map]
            induction l with
            | nil => rfl
            | cons k l ih =>
              rw [List.any_cons, List.contains_cons, ih]
              congr 1
              show ((k : Int) == (n : Int)) = (n == k)
              by_cases h : n = k
              · subst h
                rw [beq_self_eq_true, beq_self_eq_true]
              · rw [beq_eq_false_iff_ne.mpr h, beq_eq_false_iff_ne.mpr fun z => h (by omega)]
          exact this [1, 2, 4, 8, 16, 32]
        refine (show if (!inV (.int (n : Int)) [.int 1, .int 2, .int 4, .int 8, .int 16, .int 32]) = true then _ else _ from ?_)
        rw [ea]
        cases hc : Valaya.ALIGNS.contains n with
        | true =>
          rw [hc, if_pos rfl] at st
          exact iteF ⟨_, rfl, b, _, dt, _, _, rfl, ha, T.cl_Token, T.na_Token_text, rfl, _, (n : Int), rfl, hn, hl, st H2 (j + 1) (s1.trans sb) hR2 rfl⟩
        | false =>
          rw [hc, if_neg (fun z => by cases z)] at st
          refine iteT ⟨_, rfl, b, _, dt, _, _, rfl, ha, T.cl_Token, T.na_Token_place, rfl, ?_⟩
          exact flt_go fun d nd => st H2 d (s1.trans sb) nd
      · have st : Step H E K rd ts Rl (Except.error ⟨3, t.place⟩ : Except ValayBase.Fault (Nat × Toks)) fun c H' => Q (.int (c : Nat)) H' := by
          obtain ⟨q, tk⟩ := t
          cases tk with
          | num n => exact absurd (kind_num.mpr ⟨n, rfl⟩) z
          | name b => exact st
          | sign c => exact st
          | last => exact st
        exact FltB.from st s1
end
end LY
set_option Elab.async false
set_option linter.all false
set_option maxRecDepth 100000
set_option maxHeartbeats 4000000
namespace LY
open PySem PySem.Spec PyProof.Rows L2
open ValayBase (RESERVED lex PTok Toks next taken takeName tokEq here wrong word takeWord takeSign nextWord)
open Valaya (takeCount takeInt takeAlign Ty)
open ML (wf)
theorem int_bound {l : Toks} {v : Int} {q : Nat} {r : Toks} (h : takeInt l = .ok (v, q, r)) : -1000000 ≤ v ∧ v ≤ 1000000 := by
  rw [takeInt_eq] at h
  cases hc : takeCount 0 1000000 (afterMinus l) with
  | error f =>
    rw [hc] at h
    cases h
  | ok x =>
    obtain ⟨n, r'⟩ := x
    rw [hc] at h
    obtain ⟨q', eq⟩ := count_at hc
    rw [eq] at hc
    have hc : (if n < 0 ∨ 1000000 < n then .error ⟨7, q'⟩ else .ok (n, r') : Except ValayBase.Fault (Nat × Toks)) = .ok (n, r') := hc
    have hn : n ≤ 1000000 := by
      split at hc
      · cases hc
      · omega
    have h : (Except.ok (if next (.sign 45) l = true then -(n : Int) else (n : Int), here (afterMinus l), r') : Except ValayBase.Fault (Int × Nat × Toks)) = .ok (v, q, r) := h
    injection h with h
    injection h with h _
    rw [← h]
    split <;> omega
/-- a number's kind, behind «from» -/
def numTy (l : Toks) : Except ValayBase.Fault (Ty × Toks) := (takeInt l).bind fun a => (takeWord "to" a.2.2).bind fun l => (takeInt l).bind fun b => if b.1 < a.1 then .error ⟨7, b.2.1⟩ else (takeAlign b.2.2).map fun c => (.num a.1 b.1 c.1, c.2)
section
variable {P : Program} {w : World} {K : PySem.W.Frag} {mg : Str → Option Value} {base : Heap}
theorem RdAt.same {H H' : Hp} {rd : Addr} {ts : Toks} {i : Nat} {Rl : Addr × Addr} (h : RdAt K H rd ts i Rl) (s : Same H H') : RdAt K H' rd ts i Rl := by
  obtain ⟨dx, Tl, hI⟩ := h
  exact ⟨dx, Tl, hI.same s⟩
theorem Bads.but {bad : Addr → Bool} {H H' : Hp} {rd : Addr} (h : Bads bad H) (s : SameBut rd H H') (hr : H' rd ≠ none) : Bads bad H' := fun b e => by
  by_cases c : b = rd
  · rw [c]
    exact hr
  · intro z
    have := h b e
    cases hb : H b with
    | none => exact this hb
    | some o =>
      rw [s b o hb c] at z
      cases z
theorem RdAt.some {H : Hp} {rd : Addr} {ts : Toks} {i : Nat} {Rl : Addr × Addr} (h : RdAt K H rd ts i Rl) : H rd ≠ none := by
  obtain ⟨_, _, hI⟩ := h
  rw [hI.at_]
  exact fun z => by cases z
/-- a kind read: what holds of the object handed back -/
def KindStep (K : PySem.W.Frag) (H : Hp) (Q : VK) (E : XK) (rd : Addr) (ts : Toks) (Rl : Addr × Addr) (bad : Addr → Bool) (r : Except ValayBase.Fault (Ty × Toks)) : Prop := Step H E K rd ts Rl r fun t H' => ∀ a, KA K (Off bad H') t [a] → Q (.ref a) H'
def spRNum (K : PySem.W.Frag) : Sp := fun vs H Q E => ∃ (rd : Addr) (ts : Toks) (i : Nat) (Rl : Addr × Addr) (bad : Addr → Bool), vs = [.ref rd] ∧ RdAt K H rd ts i Rl ∧ Bads bad H ∧ next (.name (word "from")) (ts.drop i) = true ∧ KindStep K H Q E rd ts Rl bad (numTy ((ts.drop i).drop 1))
theorem ok_read_number (T : Txt K mg) (ta : TupIs K mg "ALIGNS") : COk P w K mg base (L2.CX P w) 7 "read_number" (spRNum K) :=
  mkC T.g_read_number T.d_read_number sc_read_number (fun vs H Q E h => by obtain ⟨rd, ts, i, Rl, bad, rfl, _⟩ := h; rfl) (fun _ _ _ _ _ _ us hl => match us, hl with | [_], _ => rfl) fun cdv A outer s H vs Q E hr h => by
    obtain ⟨rd, ts, i, Rl, bad, rfl, hR, hb, hf, st⟩ := h
    obtain ⟨dx, Tl, hI⟩ := id hR
    refine ⟨_, (pss_cons (ps_expr (pe_mx (CX := L2.CX P w) (E := fun _ => E) hr (pasE (takes_of rfl rfl rfl rfl)) (pv 0) (by exact (pa_cons pe_str pa_nil))))
      (pss_cons (ps_set (i := 1) sc_read_number.nd rfl (Or.inl rfl) (by exact (pe_cx (CX := L2.CX P w) (E := fun _ => E) hr (pasE (takes_of rfl rfl rfl rfl)) (by exact (pa_cons (pv 0) pa_nil)))))
      (pss_cons (ps_expr (pe_mx (CX := L2.CX P w) (E := fun _ => E) hr (pasE (takes_of rfl rfl rfl rfl)) (pv 0) (by exact (pa_cons pe_str pa_nil))))
      (pss_cons (ps_set (i := 2) sc_read_number.nd rfl (Or.inl rfl) (by exact (pe_cx (CX := L2.CX P w) (E := fun _ => E) hr (pasE (takes_of rfl rfl rfl rfl)) (by exact (pa_cons (pv 0) (pa_cons (pv 1) pa_nil))))))
      (pss_one (ps_ret (by exact (pe_kx hr (by exact (pa_cons (pv 1) (pa_cons (pv 2) (pa_cons (pe_cx (CX := L2.CX P w) (E := fun _ => E) hr (pasE (takes_of rfl rfl rfl rfl)) (by exact (pa_cons (pv 0) pa_nil))) pa_nil)))))))))))), ?_⟩
    refine ⟨_, rfl, rd, _, dx, _, spTake K, rfl, hI.at_, rfl, (ok_take T).mono (by decide), take_ kFrom hR ?_⟩
    unfold taken
    rw [if_pos hf]
    intro H1 j1 s1 hR1 e1 _
    have e1 : ts.drop j1 = (ts.drop i).drop 1 := e1
    rw [← e1] at st
    have st := Step.from st s1
    have hb1 := hb.but s1 hR1.some
    clear hI hR s1 e1 hf hb
    unfold numTy at st
    refine ⟨_, (ok_read_value T).mono (by decide), _, rfl, rd, ts, j1, Rl, rfl, hR1, ?_⟩
    cases c1 : takeInt (ts.drop j1) with
    | error f =>
      rw [c1] at st
      exact st
    | ok x =>
      obtain ⟨a, qa, ra⟩ := x
      rw [c1] at st
      have st : Step H1 E K rd ts Rl ((takeWord "to" ra).bind fun l => (takeInt l).bind fun b => if b.1 < a then .error ⟨7, b.2.1⟩ else (takeAlign b.2.2).map fun c => (Ty.num a b.1 c.1, c.2)) fun t H' => ∀ a, KA K (Off bad H') t [a] → Q (.ref a) H' := st
      intro H2 j2 s2 hR2 e2
      have e2 : ts.drop j2 = ra := e2
      rw [← e2] at st
      have st := Step.from st s2
      have hb2 := hb1.but s2 hR2.some
      obtain ⟨dx2, Tl2, hI2⟩ := id hR2
      have ab := int_bound c1
      refine ⟨_, rfl, rd, _, dx2, _, spTake K, rfl, hI2.at_, rfl, (ok_take T).mono (by decide), take_ kTo hR2 ?_⟩
      have st : Step H2 E K rd ts Rl ((taken (.name (word "to")) (ts.drop j2)).bind fun l => (takeInt l).bind fun b => if b.1 < a then .error ⟨7, b.2.1⟩ else (takeAlign b.2.2).map fun c => (Ty.num a b.1 c.1, c.2)) fun t H' => ∀ a, KA K (Off bad H') t [a] → Q (.ref a) H' := st
      cases c2 : taken (.name (word "to")) (ts.drop j2) with
      | error f =>
        rw [c2] at st
        exact st
      | ok r2 =>
        rw [c2] at st
        intro H3 j3 s3 hR3 e3 _
        have e3 : ts.drop j3 = r2 := e3
        have st : Step H2 E K rd ts Rl ((takeInt r2).bind fun b => if b.1 < a then .error ⟨7, b.2.1⟩ else (takeAlign b.2.2).map fun c => (Ty.num a b.1 c.1, c.2)) fun t H' => ∀ a, KA K (Off bad H') t [a] → Q (.ref a) H' := st
        rw [← e3] at st
        have st := Step.from st s3
        have hb3 := hb2.but s3 hR3.some
        refine ⟨_, ok_read_last T, _, rfl, _, rfl, rd, a, ts, j3, Rl, rfl, hR3, ?_⟩
        cases c3 : takeInt (ts.drop j3) with
        | error f =>
          rw [c3] at st
          exact st
        | ok y =>
          obtain ⟨b, qb, rb⟩ := y
          rw [c3] at st
          have bb := int_bound c3
          have st : Step H3 E K rd ts Rl (if b < a then .error ⟨7, qb⟩ else (takeAlign rb).map fun c => (Ty.num a b c.1, c.2)) fun t H' => ∀ a, KA K (Off bad H') t [a] → Q (.ref a) H' := st
          show Step H3 E K rd ts Rl (if b < a then .error ⟨7, qb⟩ else .ok (b, rb)) _
          by_cases c : b < a
          · rw [if_pos c] at st ⊢
            exact st
          · rw [if_neg c] at st ⊢
            intro H4 j4 s4 hR4 e4
            have e4 : ts.drop j4 = rb := e4
            rw [← e4] at st
            have st := Step.from st s4
            have hb4 := hb3.but s4 hR4.some
            refine ⟨cNumber K, spNumInit K, (ok_Number T).mono (by decide), _, rfl, _, rfl, _, (ok_read_align T ta).mono (by decide), _, rfl, rd, ts, j4, Rl, rfl, hR4, ?_⟩
            cases c5 : takeAlign (ts.drop j4) with
            | error f =>
              rw [c5] at st
              exact st
            | ok z =>
              obtain ⟨al, r5⟩ := z
              rw [c5] at st
              intro H5 j5 s5 hR5 e5
              have hb5 := hb4.but s5 hR5.some
              have wt : wf (.num a b al) false := ⟨rfl, by omega, by omega, by omega⟩
              exact make_num T wt fun p H6 np s6 ka => st H6 j5 (s5.trans (Same.but s6)) (hR5.same s6) e5 p (ka bad hb5)
end
end LY
set_option Elab.async false
set_option linter.all false
set_option maxRecDepth 100000
set_option maxHeartbeats 4000000
namespace LY
open PySem PySem.Spec PyProof.Rows L2
open ValayBase (RESERVED lex PTok Toks next taken takeName tokEq here wrong word takeWord takeSign nextWord)
open Valaya (takeCount takeInt takeAlign Ty Rec takeTy takeAlts)
open ML (wf)
section
variable {P : Program} {w : World} {K : PySem.W.Frag} {mg : Str → Option Value} {base : Heap}
abbrev s_read_named : Stmt := top 58
abbrev n_read_named : List Str := ["reader", "token", "record"]
theorem sc_read_named : FnScope n_read_named ["reader"] (defScope s_read_named) := ⟨rfl, rfl, rfl, by decide +kernel, rfl, by decide +kernel, by decide +kernel⟩
abbrev s_read_kind : Stmt := top 52
abbrev n_read_kind : List Str := ["reader", "deep", "times"]
theorem sc_read_kind : FnScope n_read_kind ["reader", "deep"] (defScope s_read_kind) := ⟨rfl, rfl, rfl, by decide +kernel, rfl, by decide +kernel, by decide +kernel⟩

/-- the records read so far, beside what may change -/
def RecsR (K : PySem.W.Frag) (H : Hp) (bad : Addr → Bool) (Rl : Addr) (rs : List Rec) : Prop := ∃ as : List Addr, H Rl = some (.lst (as.map V.ref)) ∧ as.length = rs.length ∧ ∀ (i : Nat) (a : Addr) (r : Rec), as[i]? = some a → rs[i]? = some r → KA K (Off bad H) (.named r.x.name r.t) [a] ∧ ∃ fs, r.t = .rec_ fs
theorem RecsR.but {H H' : Hp} {bad : Addr → Bool} {Rl rd : Addr} {rs : List Rec} (h : RecsR K H bad Rl rs) (s : SameBut rd H H') (hr : bad rd = true) (ne : Rl ≠ rd) : RecsR K H' bad Rl rs := by
  obtain ⟨as, h1, h2, h3⟩ := h
  exact ⟨as, s _ _ h1 ne, h2, fun i a r q z => ⟨(h3 i a r q z).1.same (Off.same fun b o e nb => s b o e fun c => by
    rw [c, hr] at nb
    cases nb), (h3 i a r q z).2⟩⟩
theorem RecsR.ne {H : Hp} {bad : Addr → Bool} {Rl : Addr × Addr} {rd dx Tl : Addr} {rs : List Rec} {ts : Toks} {i : Nat} (h : RecsR K H bad Rl.1 rs) (hI : RdIs K H rd ts i Rl dx Tl) : Rl.1 ≠ rd := fun e => by
  obtain ⟨as, h1, _⟩ := h
  rw [e, hI.at_] at h1
  cases h1
def namedTy (rs : List Rec) (l : Toks) : Except ValayBase.Fault (Ty × Toks) := (takeName l).bind fun x => match rs.find? fun r => r.x.name == x.1.name with
  | none => .error ⟨6, x.1.place⟩
  | some r => .ok (.named r.x.name r.t, x.2)
def spRNamed (K : PySem.W.Frag) : Sp := fun vs H Q E => ∃ (rd : Addr) (ts : Toks) (i : Nat) (Rl : Addr × Addr) (bad : Addr → Bool) (rs : List Rec), vs = [.ref rd] ∧ RdAt K H rd ts i Rl ∧ Bads bad H ∧ bad rd = true ∧ RecsR K H bad Rl.1 rs ∧ KindStep K H Q E rd ts Rl bad (namedTy rs (ts.drop i))
theorem find_none {rs : List Rec} {b : ValayBase.Bytes} (h : ∀ (i : Nat) (r : Rec), rs[i]? = some r → r.x.name ≠ b) : rs.find? (fun r => r.x.name == b) = none := by
  rw [List.find?_eq_none]
  intro r hr
  obtain ⟨i, hi⟩ := List.getElem?_of_mem hr
  rw [beq_eq_false_iff_ne.mpr (h i r hi)]
  exact Bool.false_ne_true
theorem find_at : ∀ {rs : List Rec} {b : ValayBase.Bytes} {i : Nat} {r : Rec}, (∀ (j : Nat) (r : Rec), j < i → rs[j]? = some r → r.x.name ≠ b) → rs[i]? = some r → r.x.name = b → rs.find? (fun r => r.x.name == b) = some r
  | x :: rs, b, 0, r, _, h, e => by
    cases h
    rw [List.find?_cons_of_pos]
    exact beq_iff_eq.mpr e
  | x :: rs, b, i + 1, r, hn, h, e => by
    rw [List.find?_cons_of_neg]
    · exact find_at (i := i) (fun j r hj hr => hn (j + 1) r (by omega) hr) h e
    · rw [beq_eq_false_iff_ne.mpr (hn 0 x (by omega) rfl)]
      exact Bool.false_ne_true
theorem ok_read_named (T : Txt K mg) : COk P w K mg base (L2.CX P w) 5 "read_named" (spRNamed K) :=
  mkC T.g_read_named T.d_read_named sc_read_named (fun vs H Q E h => by obtain ⟨rd, ts, i, Rl, bad, rs, rfl, _⟩ := h; rfl) (fun _ _ _ _ _ _ us hl => match us, hl with | [_], _ => rfl) fun cdv A outer s H vs Q E hr h => by
    obtain ⟨rd, ts, i, Rl, bad, rs, rfl, hR, hb, hbr, hrs, st⟩ := h
    obtain ⟨dx, Tl, hI⟩ := id hR
    have hne := hrs.ne hI
    obtain ⟨t, ht⟩ := hR.tok
    unfold namedTy at st
    refine ⟨_, (pss_cons (ps_set (i := 1) sc_read_named.nd rfl (Or.inl rfl) (by exact (pe_mx (CX := L2.CX P w) (E := fun _ => E) hr (pasE (takes_of rfl rfl rfl rfl)) (pv 0) (by exact (pa_cons pe_str pa_nil)))))
      (pss_cons (ps_for (passes_of rfl) rfl (pi_list (pe_fld (pv 0) (by rfl))) (pg_name (i := 2) sc_read_named.nd rfl (Or.inl rfl)) (pss_one (ps_if (pt_cmpR op_eq (pe_fld (pv 2) (by rfl)) (pe_fld (pv 1) (by rfl)) (nomark _)) (pss_one (ps_ret (by exact (pv 2)))) pss_nil)))
      (pss_one (ps_raise rfl (takes_of rfl rfl rfl rfl) (T.mkFault hr (by exact (pa_cons pe_int (pa_cons (pe_fld (pv 1) (by rfl)) pa_nil)))))))), ?_⟩
    refine ⟨_, rfl, rd, _, dx, _, spTake K, rfl, hI.at_, rfl, (ok_take T).mono (by decide), rd, "name", ts, i, Rl, t, rfl, by decide +kernel, hR, ht, fun z a tx H1 to s1 hR1 => ?_, fun z => ?_⟩
    · obtain ⟨b, eb, hbb⟩ := kind_name.mp z
      have e : takeName (ts.drop i) = .ok (⟨t.place, b⟩, ts.drop (i + 1)) := by
        rw [drop_tok ht]
        obtain ⟨q, tk⟩ := t
        cases eb
        show (if RESERVED.contains b = true then _ else _) = _
        rw [if_neg (by rw [hbb]; exact Bool.false_ne_true)]
      rw [e] at st
      have st : Step H E K rd ts Rl (match rs.find? fun r => r.x.name == b with
        | none => .error ⟨6, t.place⟩
        | some r => .ok (Ty.named r.x.name r.t, ts.drop (i + 1))) fun t H' => ∀ a, KA K (Off bad H') t [a] → Q (.ref a) H' := st
      obtain ⟨⟨dt, ha⟩, htx⟩ := to
      rw [eb] at htx
      have htx : tx = bstr b := htx
      subst htx
      have hrs1 := hrs.but s1 hbr hne
      obtain ⟨as, l1, l2, l3⟩ := id hrs1
      obtain ⟨dx1, Tl1, hI1⟩ := id hR1
      refine ⟨_, rfl, rd, _, dx1, _, _, rfl, hI1.at_, T.cl_Reader, T.na_Reader_records, rfl, Rl.1, rfl, ⟨_, SqL.of l1⟩, for_list (K := K) (a := Rl.1) (xs := as.map V.ref) (fun j σ H' => ∃ v : Option V, σ = [some (.ref rd), some (.ref a), v] ∧ H' = H1 ∧ ∀ (m : Nat) (r : Rec), m < j → rs[m]? = some r → r.x.name ≠ b)
        ⟨none, rfl, rfl, fun m r h => absurd h (Nat.not_lt_zero _)⟩ (fun j σ H' _ ⟨_, _, e5, _⟩ => by rw [e5]; exact SqL.of l1) ?_ ?_⟩
      · rintro j y σ H' hj ⟨v, rfl, rfl, no⟩
        obtain ⟨q, hq, rfl⟩ := map_get hj
        have hlt : j < rs.length := by rw [← l2]; exact (List.getElem?_eq_some_iff.mp hq).1
        have hu : rs[j]? = some rs[j] := List.getElem?_eq_getElem hlt
        generalize rs[j] = r at hu
        obtain ⟨ka, fsr, ert⟩ := l3 j q r hq hu
        obtain ⟨kt, q', C, dq, fq, eq, f1, f2⟩ := id ka
        cases eq
        rw [ert] at kt
        obtain ⟨b', dxr, _, _, _, _, _, _, _, er, k1, _⟩ := kt
        cases er
        rw [f1] at k1
        cases k1
        have clC : Cls K (cRecord K) := T.cl_Record
        have naC : NoAttr K (cRecord K) "name" := T.na_Record_name
        have f1 := (Off.get f1).1
        refine ⟨_, rfl, q, _, dq, _, _, rfl, f1, clC, naC, f2, _, rfl, a, _, dt, _, _, rfl, ha, T.cl_Token, T.na_Token_text, rfl, rfl, _, rfl, ?_⟩
        refine (show if decide (V.str (bstr r.x.name) = V.str (bstr b)) = true then _ else _ from ?_)
        by_cases c : r.x.name = b
        · rw [find_at no hu c] at st
          exact iteC (by rw [c]) ⟨_, rfl, st H' (i + 1) s1 hR1 rfl q ka⟩
        · refine iteD (fun e => c (bstr_inj (V.str.inj e))) ⟨_, rfl, rfl, fun m r' hm hr' => ?_⟩
          rcases Nat.lt_or_ge m j with h | h
          · exact no m r' h hr'
          · have : m = j := by omega
            subst this
            rw [hu] at hr'
            cases hr'
            exact c
      · rintro σ H' ⟨v, rfl, rfl, no⟩
        have en : rs.find? (fun r => r.x.name == b) = none := find_none fun m r hr => no m r (by rw [List.length_map, l2]; exact (List.getElem?_eq_some_iff.mp hr).1) hr
        rw [en] at st
        refine ⟨_, rfl, a, _, dt, _, _, rfl, ha, T.cl_Token, T.na_Token_place, rfl, ?_⟩
        exact flt_go fun d nd => st H' d s1 nd
    · have e : takeName (ts.drop i) = .error ⟨3, t.place⟩ := by
        rw [drop_tok ht]
        obtain ⟨q, tk⟩ := t
        cases tk with
        | name b =>
          show (if RESERVED.contains b = true then _ else _) = _
          have : RESERVED.contains b = true := by
            cases hb : RESERVED.contains b with
            | true => rfl
            | false => exact absurd (kind_name.mpr ⟨b, rfl, hb⟩) z
          rw [if_pos this]
          rfl
        | num n => rfl
        | sign c => rfl
        | last => rfl
      rw [e] at st
      exact st
/-- what the types that are read are -/
def RsOk (rs : List Rec) : Prop := ∀ r ∈ rs, (∃ fs, r.t = .rec_ fs) ∧ wf r.t false
def TyOk (rs : List Rec) (n : Nat) : Prop := ∀ l t r, takeTy rs n l = .ok (t, r) → wf t false ∧ r.length < l.length
/-- read_kind at the depth that leaves n -/
def spRK (K : PySem.W.Frag) (n : Nat) : Sp := fun vs H Q E => ∃ (rd : Addr) (ts : Toks) (i : Nat) (Rl : Addr × Addr) (bad : Addr → Bool) (rs : List Rec), vs = [.ref rd, .int (7 - (n : Int))] ∧ RdAt K H rd ts i Rl ∧ Bads bad H ∧ bad rd = true ∧ RecsR K H bad Rl.1 rs ∧ RsOk rs ∧ KindStep K H Q E rd ts Rl bad (takeTy rs n (ts.drop i))
def oneTy (rs : List Rec) (n : Nat) (l : Toks) : Except ValayBase.Fault (Ty × Toks) := (takeSign 123 l).bind fun l => takeAlts (takeTy rs n) (l.length + 1) [] l
def spROne (K : PySem.W.Frag) (n : Nat) : Sp := fun vs H Q E => ∃ (rd : Addr) (ts : Toks) (i : Nat) (Rl : Addr × Addr) (bad : Addr → Bool) (rs : List Rec), vs = [.ref rd, .int (6 - (n : Int))] ∧ RdAt K H rd ts i Rl ∧ Bads bad H ∧ bad rd = true ∧ RecsR K H bad Rl.1 rs ∧ RsOk rs ∧ next (.name (word "one")) (ts.drop i) = true ∧ KindStep K H Q E rd ts Rl bad (oneTy rs n ((ts.drop i).drop 1))
theorem kind_zero (T : Txt K mg) {k : Nat} : COk P w K mg base (L2.CX P w) (k + 2 + 1) "read_kind" (spRK K 0) :=
  mkC T.g_read_kind T.d_read_kind sc_read_kind (fun vs H Q E h => by obtain ⟨rd, ts, i, Rl, bad, rs, rfl, _⟩ := h; rfl) (fun _ _ _ _ _ _ us hl => match us, hl with | [_, _], _ => rfl) fun cdv A outer s H vs Q E hr h => by
    obtain ⟨rd, ts, i, Rl, bad, rs, rfl, hR, hb, hbr, hrs, hro, st⟩ := h
    obtain ⟨dx, Tl, hI⟩ := id hR
    refine ⟨_, (pss_cons (ps_if (pt_cmpR op_gt (pv 1) (pe_gn rfl) (nomark _)) (pss_one (ps_raise rfl (takes_of rfl rfl rfl rfl) (T.mkFault hr (by exact (pa_cons pe_int (pa_cons (pe_fld (pe_mx0 (CX := CX0) hr pas0 (pv 0)) (by rfl)) pa_nil)))))) pss_nil)
      (pss_cons (ps_if (pt_val (pe_mx (CX := CX0) hr pas0 (pv 0) (by exact (pa_cons pe_str pa_nil)))) (pss_one (ps_ret (by exact (pe_cx (CX := L2.CX P w) (E := fun _ => E) hr (pasE (takes_of rfl rfl rfl rfl)) (by exact (pa_cons (pv 0) pa_nil)))))) pss_nil)
      (pss_cons (ps_if (pt_val (pe_mx (CX := CX0) hr pas0 (pv 0) (by exact (pa_cons pe_str pa_nil)))) (pss_cons (ps_expr (pe_mx (CX := L2.CX P w) (E := fun _ => E) hr (pasE (takes_of rfl rfl rfl rfl)) (pv 0) (by exact (pa_cons pe_str pa_nil))))
      (pss_one (ps_ret (by exact (pe_kx hr (by exact (pa_cons (pe_cx (CX := L2.CX P w) (E := fun _ => E) hr (pasE (takes_of rfl rfl rfl rfl)) (by exact (pa_cons (pv 0) (pa_cons (pe_op op_add (pv 1) pe_int) pa_nil)))) pa_nil))))))) pss_nil)
      (pss_cons (ps_if (pt_val (pe_mx (CX := CX0) hr pas0 (pv 0) (by exact (pa_cons pe_str pa_nil)))) (pss_cons (ps_expr (pe_mx (CX := L2.CX P w) (E := fun _ => E) hr (pasE (takes_of rfl rfl rfl rfl)) (pv 0) (by exact (pa_cons pe_str pa_nil))))
      (pss_cons (ps_set (i := 2) sc_read_kind.nd rfl (Or.inl rfl) (by exact (pe_mx (CX := L2.CX P w) (E := fun _ => E) hr (pasE (takes_of rfl rfl rfl rfl)) (pv 0) (by exact (pa_cons pe_int (pa_cons (pe_gn rfl) pa_nil))))))
      (pss_one (ps_ret (by exact (pe_kx hr (by exact (pa_cons (pv 2) (pa_cons (pe_cx (CX := L2.CX P w) (E := fun _ => E) hr (pasE (takes_of rfl rfl rfl rfl)) (by exact (pa_cons (pv 0) (pa_cons (pe_op op_add (pv 1) pe_int) pa_nil)))) pa_nil))))))))) pss_nil)
      (pss_cons (ps_if (pt_val (pe_mx (CX := CX0) hr pas0 (pv 0) (by exact (pa_cons pe_str pa_nil)))) (pss_one (ps_ret (by exact (pe_cx (CX := L2.CX P w) (E := fun _ => E) hr (pasE (takes_of rfl rfl rfl rfl)) (by exact (pa_cons (pv 0) (pa_cons (pv 1) pa_nil))))))) pss_nil)
      (pss_one (ps_ret (by exact (pe_cx (CX := L2.CX P w) (E := fun _ => E) hr (pasE (takes_of rfl rfl rfl rfl)) (by exact (pa_cons (pv 0) pa_nil))))))))))), ?_⟩
    refine ⟨_, rfl, _, T.i_MOST_DEEP, _, _, rfl, rfl, _, rfl, ?_⟩
    refine (show if decide ((6 : Int) < 7 - ((0 : Nat) : Int)) = true then _ else _ from iteC (by decide) ?_)
    refine ⟨_, rfl, rd, _, dx, _, _, rfl, hI.at_, rfl, (ok_look T).mono (by omega), rd, ts, i, Rl, dx, Tl, rfl, hI, fun t a tx ht ⟨⟨dt, ha⟩, _⟩ hn => ?_⟩
    refine ⟨a, _, dt, _, _, rfl, ha, T.cl_Token, T.na_Token_place, rfl, ?_⟩
    have st : Step H E K rd ts Rl (.error ⟨4, here (ts.drop i)⟩ : Except ValayBase.Fault (Ty × Toks)) fun t H' => ∀ a, KA K (Off bad H') t [a] → Q (.ref a) H' := st
    rw [drop_tok ht] at st
    exact flt_go fun d nd => st H d (SameBut.refl _ _) nd
theorem kind_succ (T : Txt K mg) (ta : TupIs K mg "ALIGNS") {k n : Nat} (hk : 6 ≤ k) (hn : n ≤ 6) (wfs : ∀ rs, RsOk rs → TyOk rs n) (ih : COk P w K mg base (L2.CX P w) (k + 2) "read_kind" (spRK K n)) (io : COk P w K mg base (L2.CX P w) (k + 2) "read_one" (spROne K n)) : COk P w K mg base (L2.CX P w) (k + 2 + 1) "read_kind" (spRK K (n + 1)) :=
  mkC T.g_read_kind T.d_read_kind sc_read_kind (fun vs H Q E h => by obtain ⟨rd, ts, i, Rl, bad, rs, rfl, _⟩ := h; rfl) (fun _ _ _ _ _ _ us hl => match us, hl with | [_, _], _ => rfl) fun cdv A outer s H vs Q E hr h => by
    obtain ⟨rd, ts, i, Rl, bad, rs, rfl, hR, hb, hbr, hrs, hro, st⟩ := h
    obtain ⟨dx, Tl, hI⟩ := id hR
    have hne := hrs.ne hI
    refine ⟨_, (pss_cons (ps_if (pt_cmpR op_gt (pv 1) (pe_gn rfl) (nomark _)) (pss_one (ps_raise rfl (takes_of rfl rfl rfl rfl) (T.mkFault hr (by exact (pa_cons pe_int (pa_cons (pe_fld (pe_mx0 (CX := CX0) hr pas0 (pv 0)) (by rfl)) pa_nil)))))) pss_nil)
      (pss_cons (ps_if (pt_val (pe_mx (CX := CX0) hr pas0 (pv 0) (by exact (pa_cons pe_str pa_nil)))) (pss_one (ps_ret (by exact (pe_cx (CX := L2.CX P w) (E := fun _ => E) hr (pasE (takes_of rfl rfl rfl rfl)) (by exact (pa_cons (pv 0) pa_nil)))))) pss_nil)
      (pss_cons (ps_if (pt_val (pe_mx (CX := CX0) hr pas0 (pv 0) (by exact (pa_cons pe_str pa_nil)))) (pss_cons (ps_expr (pe_mx (CX := L2.CX P w) (E := fun _ => E) hr (pasE (takes_of rfl rfl rfl rfl)) (pv 0) (by exact (pa_cons pe_str pa_nil))))
      (pss_one (ps_ret (by exact (pe_kx hr (by exact (pa_cons (pe_cx (CX := L2.CX P w) (E := fun _ => E) hr (pasE (takes_of rfl rfl rfl rfl)) (by exact (pa_cons (pv 0) (pa_cons (pe_op op_add (pv 1) pe_int) pa_nil)))) pa_nil))))))) pss_nil)
      (pss_cons (ps_if (pt_val (pe_mx (CX := CX0) hr pas0 (pv 0) (by exact (pa_cons pe_str pa_nil)))) (pss_cons (ps_expr (pe_mx (CX := L2.CX P w) (E := fun _ => E) hr (pasE (takes_of rfl rfl rfl rfl)) (pv 0) (by exact (pa_cons pe_str pa_nil))))
      (pss_cons (ps_set (i := 2) sc_read_kind.nd rfl (Or.inl rfl) (by exact (pe_mx (CX := L2.CX P w) (E := fun _ => E) hr (pasE (takes_of rfl rfl rfl rfl)) (pv 0) (by exact (pa_cons pe_int (pa_cons (pe_gn rfl) pa_nil))))))
      (pss_one (ps_ret (by exact (pe_kx hr (by exact (pa_cons (pv 2) (pa_cons (pe_cx (CX := L2.CX P w) (E := fun _ => E) hr (pasE (takes_of rfl rfl rfl rfl)) (by exact (pa_cons (pv 0) (pa_cons (pe_op op_add (pv 1) pe_int) pa_nil)))) pa_nil))))))))) pss_nil)
      (pss_cons (ps_if (pt_val (pe_mx (CX := CX0) hr pas0 (pv 0) (by exact (pa_cons pe_str pa_nil)))) (pss_one (ps_ret (by exact (pe_cx (CX := L2.CX P w) (E := fun _ => E) hr (pasE (takes_of rfl rfl rfl rfl)) (by exact (pa_cons (pv 0) (pa_cons (pv 1) pa_nil))))))) pss_nil)
      (pss_one (ps_ret (by exact (pe_cx (CX := L2.CX P w) (E := fun _ => E) hr (pasE (takes_of rfl rfl rfl rfl)) (by exact (pa_cons (pv 0) pa_nil))))))))))), ?_⟩
    refine ⟨_, rfl, _, T.i_MOST_DEEP, _, _, rfl, rfl, _, rfl, ?_⟩
    refine (show if decide ((6 : Int) < 7 - ((n + 1 : Nat) : Int)) = true then _ else _ from iteD (by omega) ?_)
    unfold KindStep takeTy nextWord at st
    refine ⟨_, rfl, rd, _, dx, _, spSees K, rfl, hI.at_, rfl, (ok_sees T).mono (by omega), see_ kFrom.2 hR ⟨_, rfl, ?_⟩⟩
    cases h1 : next (.name (word "from")) (ts.drop i) with
    | true =>
      rw [h1, if_pos rfl] at st
      exact iteT ⟨_, (ok_read_number T ta).mono (by omega), _, rfl, rd, ts, i, Rl, bad, rfl, hR, hb, h1, st⟩
    | false =>
      rw [h1, if_neg (fun z => by cases z)] at st
      refine iteF ⟨_, rfl, rd, _, dx, _, spSees K, rfl, hI.at_, rfl, (ok_sees T).mono (by omega), see_ kMaybe.2 hR ⟨_, rfl, ?_⟩⟩
      cases h2 : next (.name (word "maybe")) (ts.drop i) with
      | true =>
        rw [h2, if_pos rfl] at st
        refine iteT ⟨_, rfl, rd, _, dx, _, spTake K, rfl, hI.at_, rfl, (ok_take T).mono (by omega), take_ kMaybe hR ?_⟩
        unfold taken
        rw [if_pos h2]
        intro H1 j1 s1 hR1 e1 _
        have e1 : ts.drop j1 = (ts.drop i).drop 1 := e1
        rw [← e1] at st
        have st := Step.from st s1
        have hb1 := hb.but s1 hR1.some
        refine ⟨cMaybe K, spMayInit K, (ok_Maybe T).mono (by omega), _, ih, _, rfl, _, rfl, _, _, rfl, rfl, ?_⟩
        refine ⟨rd, ts, j1, Rl, bad, rs, ?_, hR1, hb1, hbr, hrs.but s1 hbr hne, hro, ?_⟩
        · show [V.ref rd, V.int (7 - ((n + 1 : Nat) : Int) + 1)] = _
          rw [show (7 - ((n + 1 : Nat) : Int) + 1) = 7 - (n : Int) by omega]
        · cases hc : takeTy rs n (ts.drop j1) with
          | error f =>
            rw [hc] at st
            exact st
          | ok x =>
            obtain ⟨t, r⟩ := x
            rw [hc] at st
            intro H2 j2 s2 hR2 e2 a ka
            have hb2 := hb1.but s2 hR2.some
            exact make_may T (wfs rs hro _ _ _ hc).1 hb2 ka fun p H3 np s3 kp => st H3 j2 (s2.trans (Same.but s3)) (hR2.same s3) e2 p kp
      | false =>
        rw [h2, if_neg (fun z => by cases z)] at st
        refine iteF ⟨_, rfl, rd, _, dx, _, spSees K, rfl, hI.at_, rfl, (ok_sees T).mono (by omega), see_ kMany.2 hR ⟨_, rfl, ?_⟩⟩
        cases h3 : next (.name (word "many")) (ts.drop i) with
        | true =>
          rw [h3, if_pos rfl] at st
          refine iteT ⟨_, rfl, rd, _, dx, _, spTake K, rfl, hI.at_, rfl, (ok_take T).mono (by omega), take_ kMany hR ?_⟩
          unfold taken
          rw [if_pos h3]
          intro H1 j1 s1 hR1 e1 _
          have e1 : ts.drop j1 = (ts.drop i).drop 1 := e1
          rw [← e1] at st
          have st := Step.from st s1
          have hb1 := hb.but s1 hR1.some
          obtain ⟨dx1, Tl1, hI1⟩ := id hR1
          refine ⟨_, rfl, rd, _, dx1, _, spTakeNum K, rfl, hI1.at_, rfl, (ok_take_number T).mono (by omega), _, T.i_MOST_TIMES, ?_⟩
          obtain ⟨t1, ht1⟩ := hR1.tok
          have et : ∀ m, t1.tok = .num m → takeCount 1 Valaya.MANY (ts.drop j1) = if m < 1 ∨ 8 < m then .error ⟨7, t1.place⟩ else .ok (m, ts.drop (j1 + 1)) := fun m em => by
            rw [drop_tok ht1]
            obtain ⟨q, tk⟩ := t1
            cases em
            rfl
          refine ⟨rd, 1, 8, ts, j1, Rl, t1, rfl, hR1, ht1, fun m em => ?_, fun z => ?_⟩
          · rw [et m em] at st
            refine ⟨fun c => ?_, fun c H2 s2 hR2 => ?_⟩
            · rw [if_pos (by omega)] at st
              exact st
            · rw [if_neg (by omega)] at st
              have st : Step H1 E K rd ts Rl ((takeTy rs n (ts.drop (j1 + 1))).map fun t => (Ty.many m t.1, t.2)) fun t H' => ∀ a, KA K (Off bad H') t [a] → Q (.ref a) H' := st
              have st := Step.from st s2
              have hb2 := hb1.but s2 hR2.some
              refine ⟨cMany K, spManyInit K, (ok_Many T).mono (by omega), _, rfl, _, ih, _, rfl, _, rfl, _, _, rfl, rfl, ?_⟩
              refine ⟨rd, ts, j1 + 1, Rl, bad, rs, ?_, hR2, hb2, hbr, (hrs.but s1 hbr hne).but s2 hbr hne, hro, ?_⟩
              · show [V.ref rd, V.int (7 - ((n + 1 : Nat) : Int) + 1)] = _
                rw [show (7 - ((n + 1 : Nat) : Int) + 1) = 7 - (n : Int) by omega]
              · cases hc : takeTy rs n (ts.drop (j1 + 1)) with
                | error f =>
                  rw [hc] at st
                  exact st
                | ok x =>
                  obtain ⟨t, r⟩ := x
                  rw [hc] at st
                  intro H3 j3 s3 hR3 e3 a ka
                  have hb3 := hb2.but s3 hR3.some
                  exact make_many T (wfs rs hro _ _ _ hc).1 (show m ≤ 8 by omega) hb3 ka fun p H4 np s4 kp => st H4 j3 (s3.trans (Same.but s4)) (hR3.same s4) e3 p kp
          · have e3 : takeCount 1 Valaya.MANY (ts.drop j1) = .error ⟨3, t1.place⟩ := by
              rw [drop_tok ht1]
              obtain ⟨q, tk⟩ := t1
              cases tk with
              | num m => exact absurd (kind_num.mpr ⟨m, rfl⟩) z
              | name b => rfl
              | sign c => rfl
              | last => rfl
            rw [e3] at st
            exact st
        | false =>
          rw [h3, if_neg (fun z => by cases z)] at st
          refine iteF ⟨_, rfl, rd, _, dx, _, spSees K, rfl, hI.at_, rfl, (ok_sees T).mono (by omega), see_ kOne.2 hR ⟨_, rfl, ?_⟩⟩
          cases h4 : next (.name (word "one")) (ts.drop i) with
          | true =>
            rw [h4, if_pos rfl] at st
            refine iteT ⟨_, io, _, rfl, _, rfl, rd, ts, i, Rl, bad, rs, ?_, hR, hb, hbr, hrs, hro, h4, st⟩
            show [V.ref rd, V.int (7 - ((n + 1 : Nat) : Int))] = _
            rw [show (7 - ((n + 1 : Nat) : Int)) = 6 - (n : Int) by omega]
          | false =>
            rw [h4, if_neg (fun z => by cases z)] at st
            exact iteF ⟨_, (ok_read_named T).mono (by omega), _, rfl, rd, ts, i, Rl, bad, rs, rfl, hR, hb, hbr, hrs, st⟩
end
end LY
set_option Elab.async false
set_option linter.all false
set_option maxRecDepth 100000
set_option maxHeartbeats 4000000
namespace LY
open ValayBase (PTok Toks next taken takeName here wrong word takeWord takeSign nextWord)
open Valaya (takeCount takeInt takeAlign Ty Rec takeTy takeAlts rowOf rowLength)
open ML (wf)
/-! ### what is read is a type -/
theorem bind_ok {α β : Type} {e : Except ValayBase.Fault α} {f : α → Except ValayBase.Fault β} {y : β} (h : e.bind f = .ok y) : ∃ x, e = .ok x ∧ f x = .ok y := by
  cases e with
  | error g => cases h
  | ok x => exact ⟨x, rfl, h⟩
theorem map_ok {α β : Type} {e : Except ValayBase.Fault α} {f : α → β} {y : β} (h : e.map f = .ok y) : ∃ x, e = .ok x ∧ f x = y := by
  cases e with
  | error g => cases h
  | ok x => exact ⟨x, rfl, Except.ok.inj h⟩
theorem taken_ok {x : ValayBase.Tok} {l r : Toks} (h : taken x l = .ok r) : r.length < l.length := by
  unfold taken at h
  split at h
  · rename_i c
    cases l with
    | nil => cases c
    | cons t l =>
      cases h
      exact Nat.lt_succ_self _
  · cases h
theorem name_ok {l r : Toks} {x : ValayBase.PName} (h : takeName l = .ok (x, r)) : r.length < l.length := by
  cases l with
  | nil => cases h
  | cons t l =>
    obtain ⟨q, tk⟩ := t
    cases tk with
    | name b =>
      have h : (if ValayBase.RESERVED.contains b = true then wrong (⟨q, .name b⟩ :: l) else .ok (⟨q, b⟩, l) : Except ValayBase.Fault (ValayBase.PName × Toks)) = .ok (x, r) := h
      split at h
      · cases h
      · cases h
        exact Nat.lt_succ_self _
    | num n => cases h
    | sign c => cases h
    | last => cases h
theorem after_le (l : Toks) : (afterMinus l).length ≤ l.length := by
  unfold afterMinus
  split
  · rw [List.length_drop]
    omega
  · exact Nat.le_refl _
theorem int_ok {l r : Toks} {v : Int} {q : Nat} (h : takeInt l = .ok (v, q, r)) : r.length < l.length := by
  rw [takeInt_eq] at h
  obtain ⟨x, h1, h2⟩ := map_ok h
  obtain ⟨n, r'⟩ := x
  obtain ⟨q', eq⟩ := count_at h1
  cases h2
  have := after_le l
  rw [eq] at this
  exact this
theorem align_ok {l r : Toks} {c : Nat} (h : takeAlign l = .ok (c, r)) : r.length ≤ l.length := by
  unfold takeAlign at h
  split at h
  · cases h
    exact Nat.le_refl _
  · cases hd : l.drop 1 with
    | nil =>
      rw [hd] at h
      cases h
    | cons t m =>
      rw [hd] at h
      obtain ⟨q, tk⟩ := t
      cases tk with
      | num n =>
        have h : (if Valaya.ALIGNS.contains n = true then .ok (n, m) else .error ⟨7, q⟩ : Except ValayBase.Fault (Nat × Toks)) = .ok (c, r) := h
        split at h
        · cases h
          have := congrArg List.length hd
          rw [List.length_drop, List.length_cons] at this
          omega
        · cases h
      | name b => cases h
      | sign c => cases h
      | last => cases h
theorem row_wf : ∀ {as : List (ValayBase.PName × Nat × Ty)}, (∀ a ∈ as, wf a.2.2 false) → wf (rowOf as) true ∧ rowLength (rowOf as) = as.length
  | [], _ => ⟨rfl, rfl⟩
  | a :: as, h => by
    obtain ⟨h1, h2⟩ := row_wf (as := as) fun b hb => h b (List.mem_cons_of_mem _ hb)
    exact ⟨⟨rfl, h a List.mem_cons_self, h1⟩, congrArg (· + 1) h2⟩
theorem alts_ok {part : Toks → Except ValayBase.Fault (Ty × Toks)} (hp : ∀ l t r, part l = .ok (t, r) → wf t false ∧ r.length < l.length) : ∀ (n : Nat) (as : List (ValayBase.PName × Nat × Ty)) (l : Toks) (t : Ty) (r : Toks), (∀ a ∈ as, wf a.2.2 false) → takeAlts part n as l = .ok (t, r) → wf t false ∧ r.length < l.length
  | 0, as, l, t, r, _, h => by cases h
  | n + 1, as, l, t, r, ha, h => by
    unfold takeAlts at h
    split at h
    · cases h
    rename_i c4
    obtain ⟨⟨x, l1⟩, h1, h⟩ := bind_ok h
    dsimp only at h
    split at h
    · cases h
    obtain ⟨l2, h2, h⟩ := bind_ok h
    obtain ⟨⟨t3, l3⟩, h3, h⟩ := bind_ok h
    dsimp only at h
    obtain ⟨w3, le3⟩ := hp _ _ _ h3
    have n1 := name_ok h1
    have n2 := taken_ok h2
    have hb : ∀ a ∈ as ++ [(x, 1, t3)], wf a.2.2 false := fun a hm => by
      rcases List.mem_append.mp hm with hm | hm
      · exact ha a hm
      · cases List.mem_singleton.mp hm
        exact w3
    split at h
    · obtain ⟨w, le⟩ := alts_ok hp n _ _ t r hb h
      refine ⟨w, ?_⟩
      rw [List.length_drop] at le
      omega
    · split at h
      · cases h
      rename_i c2
      obtain ⟨m, h5, h⟩ := map_ok h
      cases h
      have n5 := taken_ok h5
      obtain ⟨w, el⟩ := row_wf hb
      have e4 : Valaya.ALTS = 4 := rfl
      rw [e4] at c4
      rw [List.length_append] at c2
      have e1 : [(x, 1, t3)].length = 1 := rfl
      refine ⟨⟨rfl, w, ?_, ?_⟩, by omega⟩
      · rw [el, List.length_append]
        omega
      · rw [el, List.length_append]
        omega
theorem count_lt {lo hi n : Nat} {l r : Toks} (h : takeCount lo hi l = .ok (n, r)) : r.length < l.length ∧ lo ≤ n ∧ n ≤ hi := by
  obtain ⟨q, rfl⟩ := count_at h
  have h : (if n < lo ∨ hi < n then .error ⟨7, q⟩ else .ok (n, r) : Except ValayBase.Fault (Nat × Toks)) = .ok (n, r) := h
  split at h
  · cases h
  · exact ⟨Nat.lt_succ_self _, by omega, by omega⟩
theorem ty_ok {rs : List Rec} (hrs : RsOk rs) : ∀ n, TyOk rs n
  | 0, l, t, r, h => by cases h
  | n + 1, l, t, r, h => by
    unfold takeTy at h
    have d1 : (l.drop 1).length ≤ l.length := by rw [List.length_drop]; omega
    split at h
    · obtain ⟨⟨a, qa, ra⟩, h1, h⟩ := bind_ok h
      obtain ⟨l2, h2, h⟩ := bind_ok h
      obtain ⟨⟨b, qb, rb⟩, h3, h⟩ := bind_ok h
      dsimp only at h
      split at h
      · cases h
      rename_i cab
      obtain ⟨⟨c, rc⟩, h4, h⟩ := map_ok h
      cases h
      have b1 := int_bound h1
      have b3 := int_bound h3
      have n1 := int_ok h1
      have n2 := taken_ok h2
      have n3 := int_ok h3
      have n4 := align_ok h4
      dsimp only at cab n2 n4
      exact ⟨⟨rfl, by omega, by omega, by omega⟩, by dsimp only; omega⟩
    · split at h
      · obtain ⟨⟨t1, r1⟩, h1, h⟩ := map_ok h
        cases h
        obtain ⟨w1, n1⟩ := ty_ok hrs n _ _ _ h1
        exact ⟨⟨rfl, w1⟩, by dsimp only; omega⟩
      · split at h
        · obtain ⟨⟨k, r0⟩, h0, h⟩ := bind_ok h
          obtain ⟨⟨t1, r1⟩, h1, h⟩ := map_ok h
          cases h
          obtain ⟨n0, k1, k8⟩ := count_lt h0
          obtain ⟨w1, n1⟩ := ty_ok hrs n _ _ _ h1
          exact ⟨⟨rfl, k1, k8, w1⟩, by dsimp only at *; omega⟩
        · split at h
          · obtain ⟨l2, h2, h⟩ := bind_ok h
            have n2 := taken_ok h2
            obtain ⟨w, le⟩ := alts_ok (fun l t r e => ty_ok hrs n l t r e) _ _ _ _ _ (fun a ha => by cases ha) h
            exact ⟨w, by omega⟩
          · obtain ⟨⟨x, r1⟩, h1, h⟩ := bind_ok h
            have n1 := name_ok h1
            dsimp only at h
            cases hf : rs.find? (fun r => r.x.name == x.name) with
            | none =>
              rw [hf] at h
              cases h
            | some y =>
              rw [hf] at h
              cases h
              obtain ⟨w1, w2⟩ := hrs y (List.mem_of_find?_eq_some hf)
              exact ⟨⟨rfl, w1, w2⟩, n1⟩
end LY
set_option Elab.async false
set_option linter.all false
set_option maxRecDepth 100000
set_option maxHeartbeats 4000000
namespace LY
open PySem PySem.Spec PyProof.Rows L2
open ValayBase (RESERVED lex PTok Toks next taken takeName tokEq here wrong word takeWord takeSign nextWord PName)
open Valaya (takeCount takeInt takeAlign Ty Rec takeTy takeAlts rowOf rowLength)
open ML (wf)
section
variable {P : Program} {w : World} {K : PySem.W.Frag} {mg : Str → Option Value} {base : Heap}
abbrev s_read_one : Stmt := top 57
abbrev n_read_one : List Str := ["reader", "deep", "names", "alternatives"]
theorem sc_read_one : FnScope n_read_one ["reader", "deep"] (defScope s_read_one) := ⟨rfl, rfl, rfl, by decide +kernel, rfl, by decide +kernel, by decide +kernel⟩

theorem rd_frame {H H' : Hp} {rd X : Addr} {ts : Toks} {i : Nat} {Rl : Addr × Addr} {xs : List V} (h : RdAt K H rd ts i Rl) (hX : H X = some (.lst xs)) (ne : X ≠ Rl.2) (s : ∀ b o, H b = some o → b ≠ X → H' b = some o) : RdAt K H' rd ts i Rl := by
  obtain ⟨dx, Tl, hI⟩ := h
  have hrd : rd ≠ X := fun e => by
    have := hI.at_
    rw [e, hX] at this
    cases this
  obtain ⟨as, h1, h2, h3⟩ := hI.toks
  refine ⟨dx, Tl, s _ _ hI.at_ hrd, hI.tl, ⟨as, ?_, h2, fun k a t q r => ?_⟩, hI.lt, hI.ends⟩
  · obtain ⟨e1, e2⟩ := Wo.get h1
    exact Wo.of (s _ _ e1 (by rw [hI.tl]; exact ne.symm)) e2
  · obtain ⟨tx, o⟩ := h3 k a t q r
    refine ⟨tx, o.same fun dx e => ?_⟩
    obtain ⟨e1, e2⟩ := Wo.get e
    exact Wo.of (s _ _ e1 fun z => by
      rw [z, hX] at e1
      cases e1) e2
theorem names_row : ∀ as : List (PName × Nat × Ty), names (rowOf as) = as.map fun a => bstr a.1.name
  | [] => rfl
  | a :: as => congrArg (List.cons (bstr a.1.name)) (names_row as)
theorem ka_snoc {H : Hp} {x : PName × Nat × Ty} {p : Addr} (hp : KA K H x.2.2 [p]) : ∀ {as : List (PName × Nat × Ty)} {ias : List Addr}, KA K H (rowOf as) ias → KA K H (rowOf (as ++ [x])) (ias ++ [p])
  | [], ias, h => by
    have h : ias = [] := h
    subst h
    exact ⟨p, [], rfl, hp, rfl⟩
  | a :: as, ias, ⟨b, bs, e, h1, h2⟩ => by
    subst e
    exact ⟨b, bs ++ [p], rfl, h1, ka_snoc hp h2⟩
theorem ka_len {H : Hp} : ∀ {as : List (PName × Nat × Ty)} {ias : List Addr}, KA K H (rowOf as) ias → ias.length = as.length
  | [], ias, h => by
    have h : ias = [] := h
    rw [h]
    rfl
  | a :: as, ias, ⟨b, bs, e, _, h2⟩ => by
    subst e
    exact congrArg (· + 1) (ka_len h2)
/-- what is still to be read of a one -/
def afterAlt (part : Toks → Except ValayBase.Fault (Ty × Toks)) (fuel : Nat) (as : List (PName × Nat × Ty)) (l : Toks) : Except ValayBase.Fault (Ty × Toks) :=
  if next (.sign 44) l = true then takeAlts part fuel as (l.drop 1) else if as.length < 2 then wrong l else (takeSign 125 l).map fun m => (.one_ (rowOf as), m)
def restAlt (part : Toks → Except ValayBase.Fault (Ty × Toks)) (fuel : Nat) (as : List (PName × Nat × Ty)) (l : Toks) : Except ValayBase.Fault (Ty × Toks) := if as = [] then takeAlts part fuel as l else afterAlt part fuel as l
theorem takeAlts_succ {part : Toks → Except ValayBase.Fault (Ty × Toks)} {n : Nat} {as : List (PName × Nat × Ty)} {l : Toks} : takeAlts part (n + 1) as l = if 4 ≤ as.length then .error ⟨4, here l⟩ else
    (takeName l).bind fun x => if bstr x.1.name ∈ as.map (fun a => bstr a.1.name) then .error ⟨5, x.1.place⟩ else (takeSign 58 x.2).bind fun m => (part m).bind fun t => afterAlt part n (as ++ [(x.1, 1, t.1)]) t.2 := by
  show (if 4 ≤ as.length then _ else _) = _
  by_cases c : 4 ≤ as.length
  · rw [if_pos c, if_pos c]
  · rw [if_neg c, if_neg c]
    congr 1
    funext x
    have e : (as.any (fun a => a.1.name == x.1.name) = true) = (bstr x.1.name ∈ as.map (fun a => bstr a.1.name)) := propext ⟨fun h => by
      obtain ⟨a, ha, e⟩ := List.any_eq_true.mp h
      exact List.mem_map.mpr ⟨a, ha, by rw [eq_of_beq e]⟩, fun h => by
      obtain ⟨a, ha, e⟩ := List.mem_map.mp h
      exact List.any_eq_true.mpr ⟨a, ha, beq_iff_eq.mpr (bstr_inj e)⟩⟩
    by_cases d : bstr x.1.name ∈ as.map (fun a => bstr a.1.name)
    · rw [if_pos d, if_pos (by rw [e]; exact d)]
    · rw [if_neg d, if_neg (by rw [e]; exact d)]
      rfl
theorem name_at {ts : Toks} {i : Nat} {t : PTok} {b : ValayBase.Bytes} (ht : ts[i]? = some t) (eb : t.tok = .name b) (hb : RESERVED.contains b = false) : takeName (ts.drop i) = .ok (⟨t.place, b⟩, ts.drop (i + 1)) := by
  rw [drop_tok ht]
  obtain ⟨q, tk⟩ := t
  cases eb
  show (if RESERVED.contains b = true then _ else _) = _
  rw [if_neg (by rw [hb]; exact Bool.false_ne_true)]
theorem name_not {ts : Toks} {i : Nat} {t : PTok} (ht : ts[i]? = some t) (z : kindT t.tok ≠ "name") : takeName (ts.drop i) = .error ⟨3, t.place⟩ := by
  rw [drop_tok ht]
  obtain ⟨q, tk⟩ := t
  cases tk with
  | name b =>
    show (if RESERVED.contains b = true then _ else _) = _
    have : RESERVED.contains b = true := by
      cases hb : RESERVED.contains b with
      | true => rfl
      | false => exact absurd (kind_name.mpr ⟨b, rfl, hb⟩) z
    rw [if_pos this]
    rfl
  | num n => rfl
  | sign c => rfl
  | last => rfl
theorem ok_read_one (T : Txt K mg) {k n : Nat} (hk : 6 ≤ k) (hn : n ≤ 6) (ih : COk P w K mg base (L2.CX P w) (k + 2) "read_kind" (spRK K n)) : COk P w K mg base (L2.CX P w) (k + 2 + 1) "read_one" (spROne K n) :=
  mkC T.g_read_one T.d_read_one sc_read_one (fun vs H Q E h => by obtain ⟨rd, ts, i, Rl, bad, rs, rfl, _⟩ := h; rfl) (fun _ _ _ _ _ _ us hl => match us, hl with | [_, _], _ => rfl) fun cdv A outer s H vs Q E hr h => by
    obtain ⟨rd, ts, i, Rl, bad, rs, rfl, hR, hb, hbr, hrs, hro, h1, st⟩ := h
    obtain ⟨dx, Tl, hI⟩ := id hR
    have hne := hrs.ne hI
    refine ⟨_, (pss_cons (ps_expr (pe_mx (CX := L2.CX P w) (E := fun _ => E) hr (pasE (takes_of rfl rfl rfl rfl)) (pv 0) (by exact (pa_cons pe_str pa_nil))))
      (pss_cons (ps_expr (pe_mx (CX := L2.CX P w) (E := fun _ => E) hr (pasE (takes_of rfl rfl rfl rfl)) (pv 0) (by exact (pa_cons pe_str pa_nil))))
      (pss_cons (ps_set (i := 2) sc_read_one.nd rfl (Or.inl rfl) (by exact (pe_lst pa_nil)))
      (pss_cons (ps_set (i := 3) sc_read_one.nd rfl (Or.inl rfl) (by exact (pe_lst pa_nil)))
      (pss_cons (ps_while (passes_of rfl) (PW.pt (pw_or (pt_cmpR op_lt (pe_callB call_len (by rfl) T.f_len (by decide +kernel) (by exact (pa_cons (pv 2) pa_nil))) (pe_gn rfl) (nomark _)) (pw_or1 (pt_not (pt_val (pe_mx (CX := CX0) hr pas0 (pv 0) (by exact (pa_cons pe_str pa_nil)))))))) (pss_cons (ps_if (pt_truth (pv 2) (by intro _; rfl)) (pss_one (ps_expr (pe_mx (CX := L2.CX P w) (E := fun _ => E) hr (pasE (takes_of rfl rfl rfl rfl)) (pv 0) (by exact (pa_cons pe_str pa_nil))))) pss_nil)
      (pss_cons (ps_if (pt_cmpR op_eq (pe_callB call_len (by rfl) T.f_len (by decide +kernel) (by exact (pa_cons (pv 2) pa_nil))) (pe_gn rfl) (nomark _)) (pss_one (ps_raise rfl (takes_of rfl rfl rfl rfl) (T.mkFault hr (by exact (pa_cons pe_int (pa_cons (pe_fld (pe_mx0 (CX := CX0) hr pas0 (pv 0)) (by rfl)) pa_nil)))))) pss_nil)
      (pss_cons (ps_expr (pe_bm PySem.F.plainAttrs_list PySem.F.slot_list_append PySem.F.type_list_append mt_append (pv 2) (by exact (pa_cons (pe_mx (CX := L2.CX P w) (E := fun _ => E) hr (pasE (takes_of rfl rfl rfl rfl)) (pv 0) (by exact (pa_cons (pv 2) pa_nil))) pa_nil))))
      (pss_cons (ps_expr (pe_mx (CX := L2.CX P w) (E := fun _ => E) hr (pasE (takes_of rfl rfl rfl rfl)) (pv 0) (by exact (pa_cons pe_str pa_nil))))
      (pss_one (ps_expr (pe_bm PySem.F.plainAttrs_list PySem.F.slot_list_append PySem.F.type_list_append mt_append (pv 3) (by exact (pa_cons (pe_cx (CX := L2.CX P w) (E := fun _ => E) hr (pasE (takes_of rfl rfl rfl rfl)) (by exact (pa_cons (pv 0) (pa_cons (pe_op op_add (pv 1) pe_int) pa_nil)))) pa_nil))))))))))
      (pss_cons (ps_expr (pe_mx (CX := L2.CX P w) (E := fun _ => E) hr (pasE (takes_of rfl rfl rfl rfl)) (pv 0) (by exact (pa_cons pe_str pa_nil))))
      (pss_one (ps_ret (by exact (pe_kx hr (by exact (pa_cons (pv 2) (pa_cons (pv 3) pa_nil))))))))))))), ?_⟩
    refine ⟨_, rfl, rd, _, dx, _, spTake K, rfl, hI.at_, rfl, (ok_take T).mono (by omega), take_ kOne hR ?_⟩
    unfold taken
    rw [if_pos h1]
    intro H1 j1 s1 hR1 e1 _
    have e1 : ts.drop j1 = (ts.drop i).drop 1 := e1
    rw [← e1] at st
    obtain ⟨dx1, Tl1, hI1⟩ := id hR1
    refine ⟨_, rfl, rd, _, dx1, _, spTake K, rfl, hI1.at_, rfl, (ok_take T).mono (by omega), take_ k123 hR1 ?_⟩
    unfold oneTy takeSign at st
    cases c2 : taken (.sign 123) (ts.drop j1) with
    | error f =>
      rw [c2] at st
      exact FltB.from st s1
    | ok r2 =>
      rw [c2] at st
      intro H2 j2 s2 hR2 e2 _
      have e2 : ts.drop j2 = r2 := e2
      subst e2
      have st : KindStep K H Q E rd ts Rl bad (takeAlts (takeTy rs n) ((ts.drop j2).length + 1) [] (ts.drop j2)) := st
      have sb2 : SameBut rd H H2 := s1.trans s2
      have hb2 := hb.but sb2 hR2.some
      have hrs2 := hrs.but sb2 hbr hne
      refine ⟨Nat.zero_le _, fun Nl nN2 => ⟨Nat.zero_le _, fun Al nA2 => ?_⟩⟩
      have H2rd : H2 rd ≠ none := hR2.some
      have H2T : H2 Rl.2 ≠ none := by
        obtain ⟨_, Tl2, hI2⟩ := id hR2
        obtain ⟨as, q1, _⟩ := hI2.toks
        rw [← hI2.tl, (Wo.get q1).1]
        exact fun z => by cases z
      have nrd : Nl ≠ rd := fun e => H2rd (by rw [← e]; exact nN2)
      have NA : Nl ≠ Al := fun e => by
        rw [← e, upd_same] at nA2
        cases nA2
      have nA2' : H2 Al = none := by rw [upd_ne NA.symm] at nA2; exact nA2
      have ard : Al ≠ rd := fun e => H2rd (by rw [← e]; exact nA2')
      have nT : Nl ≠ Rl.2 := fun e => H2T (by rw [← e]; exact nN2)
      have aT : Al ≠ Rl.2 := fun e => H2T (by rw [← e]; exact nA2')
      have fr : ∀ {c : Addr}, c ≠ rd → H2 c = none → H c = none := fun {c} ne h => by
        cases e : H c with
        | none => rfl
        | some o =>
          rw [sb2 _ _ e ne] at h
          cases h
      have nN : H Nl = none := fr nrd nN2
      have nA : H Al = none := fr ard nA2'
      let bad' : Addr → Bool := fun c => bad c || (decide (c = Nl) || decide (c = Al))
      have bad'_no : ∀ {c : Addr}, bad' c = false → bad c = false ∧ c ≠ Nl ∧ c ≠ Al ∧ c ≠ rd := fun {c} h => by
        obtain ⟨a1, a2⟩ := Bool.or_eq_false_iff.mp h
        obtain ⟨a2, a3⟩ := Bool.or_eq_false_iff.mp a2
        exact ⟨a1, of_decide_eq_false a2, of_decide_eq_false a3, fun e => by
          rw [e, hbr] at a1
          cases a1⟩
      have hbr' : bad' rd = true := by
        show (bad rd || _) = true
        rw [hbr]
        rfl
      have s23 : Same H2 (upd (upd H2 Nl (.lst [])) Al (.lst [])) := (same_new nN2).trans (same_new nA2)
      have hR3 := hR2.same s23
      have sb3 : SameBut rd H (upd (upd H2 Nl (.lst [])) Al (.lst [])) := sb2.trans (Same.but s23)
      refine ⟨fun m σ H' => ∃ (j fuel : Nat) (as : List (PName × Nat × Ty)) (ias : List Addr), m = ts.length - j ∧ σ = [some (.ref rd), some (.int (6 - (n : Int))), some (.ref Nl), some (.ref Al)] ∧ SameBut rd H H' ∧ RdAt K H' rd ts j Rl ∧ H' Nl = some (.lst ((as.map fun a => bstr a.1.name).map V.str)) ∧ H' Al = some (.lst (ias.map V.ref)) ∧
          KA K (Off bad' H') (rowOf as) ias ∧ (∀ a ∈ as, wf a.2.2 false) ∧ as.length ≤ 4 ∧ (ts.drop j).length < fuel ∧ RecsR K H' bad' Rl.1 rs ∧ KindStep K H Q E rd ts Rl bad (restAlt (takeTy rs n) fuel as (ts.drop j)),
        ⟨_, j2, _, [], [], rfl, rfl, sb3, hR3, (upd_ne NA).trans upd_same, upd_same, rfl, (fun a h => by cases h), Nat.zero_le _, Nat.lt_succ_self _, ?_, ?_⟩, ?_⟩
      · obtain ⟨as, l1, l2, l3⟩ := hrs2
        exact ⟨as, s23 _ _ l1, l2, fun m a r q z => ⟨(l3 m a r q z).1.same fun b o e => by
          obtain ⟨e1, e2⟩ := Off.get e
          refine Off.of (s23 _ _ e1) ?_
          show (bad b || (decide (b = Nl) || decide (b = Al))) = false
          rw [e2, decide_eq_false (ne_of_none e1 nN2), decide_eq_false (ne_of_none e1 nA2')]
          rfl, (l3 m a r q z).2⟩⟩
      · unfold restAlt
        rw [if_pos rfl]
        exact st
      · clear st
        rintro m σ H' ⟨j, fuel, as, ias, rfl, rfl, sb, hR', nl, al, ka, wfa, len4, rem, recs, st⟩
        have fuel1 : 0 < fuel := by omega
        obtain ⟨fuel, rfl⟩ : ∃ f, fuel = f + 1 := ⟨fuel - 1, by omega⟩
        refine ⟨_, rfl, _, as.length, rfl, .inl ⟨_, SqL.of nl, by rw [List.length_map, List.length_map]⟩, _, T.i_FEWEST_ALTERNATIVES, _, _, rfl, rfl, _, rfl, ?_⟩
        by_cases c0 : as = []
        · have z0 : as.length = 0 := by rw [c0]; rfl
          rw [decide_eq_true (show ((as.length : Nat) : Int) < 2 by omega)]
          refine iteT (iteT ⟨_, fun _ _ h => h, _, rfl, false, .inl ⟨_, SqL.of nl, by rw [c0]; rfl⟩, ?_⟩)
          refine iteF ?_
          unfold restAlt at st
          rw [if_pos c0] at st
          have nl5 : SqL K H' Nl ((as.map fun a => bstr a.1.name).map V.str) := SqL.of nl
          obtain ⟨dx5, Tl5, hI5⟩ := id hR'
          obtain ⟨t5, ht5⟩ := hR'.tok
          refine ⟨_, rfl, _, as.length, rfl, .inl ⟨_, nl5, by rw [List.length_map, List.length_map]⟩, _, T.i_MOST_ALTERNATIVES, rfl, _, rfl, ?_⟩
          rw [takeAlts_succ] at st
          by_cases c4 : 4 ≤ as.length
          · rw [if_pos c4] at st
            have e4 : as.length = 4 := by omega
            refine iteC (by rw [e4]; rfl) ?_
            refine ⟨_, rfl, rd, _, dx5, _, _, rfl, hI5.at_, rfl, (ok_look T).mono (by omega), rd, ts, j, Rl, dx5, Tl5, rfl, hI5, fun t a tx ht ⟨⟨dt, ha⟩, _⟩ hn => ?_⟩
            refine ⟨a, _, dt, _, _, rfl, ha, T.cl_Token, T.na_Token_place, rfl, ?_⟩
            rw [drop_tok ht] at st
            exact flt_go fun d nd => st _ d sb nd
          rw [if_neg c4] at st
          refine iteD (fun e => c4 (by injection e with e; omega)) ?_
          refine ⟨_, rfl, .inl ⟨rfl, _, nl5⟩, _, rfl, rd, _, dx5, _, spTakeName K, rfl, hI5.at_, rfl, (ok_take_name T).mono (by omega), _, rfl, rd, Nl, (as.map fun a => bstr a.1.name), ts, j, Rl, t5, rfl, nl5, hR', ht5, fun b eb hbb => ?_, fun z => ?_⟩
          · rw [name_at ht5 eb hbb] at st
            have st : KindStep K H Q E rd ts Rl bad (if bstr b ∈ as.map (fun a => bstr a.1.name) then .error ⟨5, t5.place⟩ else (takeSign 58 (ts.drop (j + 1))).bind fun m => (takeTy rs n m).bind fun t => afterAlt (takeTy rs n) fuel (as ++ [(⟨t5.place, b⟩, 1, t.1)]) t.2) := st
            refine ⟨fun c => ?_, fun c H6 s6 hR6 => ?_⟩
            · rw [if_pos c] at st
              exact FltB.from st sb
            rw [if_neg c] at st
            have nl6 : H6 Nl = some (.lst ((as.map fun a => bstr a.1.name).map V.str)) := s6 _ _ nl nrd
            have al6 := s6 _ _ al ard
            have hR7 : RdAt K (upd H6 Nl (.lst ((as.map fun a => bstr a.1.name).map V.str ++ [.str (bstr b)]))) rd ts (j + 1) Rl := rd_frame hR6 nl6 nT fun b o e ne => (upd_ne ne).trans e
            have sb7 : SameBut rd H (upd H6 Nl (.lst ((as.map fun a => bstr a.1.name).map V.str ++ [.str (bstr b)]))) := fun c o e ne => (upd_ne (ne_of_none e nN)).trans (s6 _ _ (sb _ _ e ne) ne)
            obtain ⟨dx7, Tl7, hI7⟩ := id hR7
            refine ⟨Nl, _, _, rfl, rfl, nl6, ?_, _, rfl, rd, _, dx7, _, spTake K, rfl, hI7.at_, rfl, (ok_take T).mono (by omega), take_ k58 hR7 ?_⟩
            · rw [List.length_map, List.length_map]
              exact small1000 (show as.length ≤ 1000 by omega)
            cases c8 : taken (.sign 58) (ts.drop (j + 1)) with
            | error f =>
              unfold takeSign at st
              rw [c8] at st
              exact FltB.from st sb7
            | ok r8 =>
              unfold takeSign at st
              rw [c8] at st
              intro H8 j8 s8 hR8 e8 _
              have e8 : ts.drop j8 = r8 := e8
              have st : KindStep K H Q E rd ts Rl bad ((takeTy rs n r8).bind fun t => afterAlt (takeTy rs n) fuel (as ++ [(⟨t5.place, b⟩, 1, t.1)]) t.2) := st
              have sb8 : SameBut rd H H8 := sb7.trans s8
              have al7 : (upd H6 Nl (.lst ((as.map fun a => bstr a.1.name).map V.str ++ [.str (bstr b)]))) Al = some (.lst (ias.map V.ref)) := (upd_ne NA.symm).trans al6
              have al8 := s8 _ _ al7 ard
              have nl8 : H8 Nl = some (.lst (((as.map fun a => bstr a.1.name) ++ [bstr b]).map V.str)) := by
                rw [s8 _ _ upd_same nrd, List.map_append]
                rfl
              have fr8 : ∀ c o, H' c = some o → c ≠ Nl → c ≠ rd → H8 c = some o := fun c o e n2 n4 => s8 _ _ ((upd_ne n2).trans (s6 _ _ e n4)) n4
              have hb8 : Bads bad' H8 := fun c h z => by
                rcases Bool.or_eq_true_iff.mp h with h | h
                · by_cases cr : c = rd
                  · rw [cr] at z
                    exact hR8.some z
                  · cases e : H c with
                    | none => exact hb c h e
                    | some o =>
                      rw [sb8 _ _ e cr] at z
                      cases z
                · rcases Bool.or_eq_true_iff.mp h with h | h
                  · rw [of_decide_eq_true h, nl8] at z
                    cases z
                  · rw [of_decide_eq_true h, al8] at z
                    cases z
              have recs8 : RecsR K H8 bad' Rl.1 rs := by
                obtain ⟨rl, l1, l2, l3⟩ := recs
                obtain ⟨_, m1, _⟩ := hrs
                exact ⟨rl, fr8 _ _ l1 (fun e => by
                  rw [e, nN] at m1
                  cases m1) hne, l2, fun m a r q z => ⟨(l3 m a r q z).1.same (Off.same fun b o e nb => by
                    obtain ⟨n1, n2, n3, n4⟩ := bad'_no nb
                    exact fr8 _ _ e n2 n4), (l3 m a r q z).2⟩⟩
              refine ⟨_, rfl, .inl ⟨rfl, _, SqL.of al8⟩, _, ih, _, rfl, _, rfl, _, _, rfl, rfl, rd, ts, j8, Rl, bad', rs, ?_, hR8, hb8, hbr', recs8, hro, ?_⟩
              · show [V.ref rd, V.int (6 - (n : Int) + 1)] = _
                rw [show (6 - (n : Int) + 1) = 7 - (n : Int) by omega]
              rw [e8]
              cases c9 : takeTy rs n r8 with
              | error f =>
                rw [c9] at st
                exact FltB.from st sb8
              | ok y =>
                obtain ⟨t9, r9⟩ := y
                rw [c9] at st
                intro H9 j9 s9 hR9 e9 p kp
                have e9 : ts.drop j9 = r9 := e9
                obtain ⟨wt9, le9⟩ := ty_ok hro n _ _ _ c9
                have le8 := taken_ok c8
                have al9 := s9 _ _ al8 ard
                have nl9 := s9 _ _ nl8 nrd
                have l5 := congrArg List.length (drop_tok ht5)
                rw [List.length_cons] at l5
                have l9 := congrArg List.length e9
                have lj9 : (ts.drop j9).length = ts.length - j9 := List.length_drop
                have lj : (ts.drop j).length = ts.length - j := List.length_drop
                have rem5 := rem
                refine ⟨Al, _, _, rfl, rfl, al9, ?_, ts.length - j9, by omega, j9, fuel, as ++ [(⟨t5.place, b⟩, 1, t9)], ias ++ [p], rfl, rfl, ?_, rd_frame hR9 al9 aT fun b o e ne => (upd_ne ne).trans e, ?_, ?_, ?_, ?_, ?_, by omega, ?_, ?_⟩
                · rw [List.length_map, ka_len ka]
                  exact small1000 (show as.length ≤ 1000 by omega)
                · exact fun c o e ne => (upd_ne (ne_of_none e nA)).trans (s9 _ _ (sb8 _ _ e ne) ne)
                · rw [upd_ne NA, nl9, List.map_append (l₁ := as)]
                  rfl
                · rw [upd_same, List.map_append]
                  rfl
                · refine ka_snoc (kp.same (Off.same fun b o e nb => (upd_ne (bad'_no nb).2.2.1).trans e)) (ka.same (Off.same fun b o e nb => ?_))
                  obtain ⟨n1, n2, n3, n4⟩ := bad'_no nb
                  exact (upd_ne n3).trans (s9 _ _ (fr8 _ _ e n2 n4) n4)
                · intro a ha
                  rcases List.mem_append.mp ha with h | h
                  · exact wfa a h
                  · cases List.mem_singleton.mp h
                    exact wt9
                · rw [List.length_append]
                  show as.length + 1 ≤ 4
                  omega
                · obtain ⟨rl, l1, l2, l3⟩ := recs8
                  obtain ⟨_, m1, _⟩ := hrs
                  refine ⟨rl, (upd_ne fun e => by
                    rw [e, nA] at m1
                    cases m1).trans (s9 _ _ l1 hne), l2, fun m a r q z => ⟨(l3 m a r q z).1.same (Off.same fun b o e nb => ?_), (l3 m a r q z).2⟩⟩
                  obtain ⟨n1, n2, n3, n4⟩ := bad'_no nb
                  exact (upd_ne n3).trans (s9 _ _ e n4)
                · unfold restAlt
                  rw [if_neg (by intro z; cases as <;> cases z), e9]
                  exact st
          · rw [name_not ht5 z] at st
            exact FltB.from st sb
        · unfold restAlt at st
          rw [if_neg c0] at st
          unfold afterAlt at st
          obtain ⟨dx', Tl', hI'⟩ := id hR'
          by_cases c2 : as.length < 2
          · rw [decide_eq_true (show ((as.length : Nat) : Int) < 2 by omega)]
            refine iteT (iteT ?_)
            refine ⟨_, fun _ _ h => h, _, rfl, true, .inl ⟨_, SqL.of nl, by cases as with
              | nil => exact absurd rfl c0
              | cons _ _ => rfl⟩, ?_⟩
            refine iteT ?_
            refine ⟨_, rfl, rd, _, dx', _, spTake K, rfl, hI'.at_, rfl, (ok_take T).mono (by omega), take_ k44 hR' ?_⟩
            cases c44 : taken (.sign 44) (ts.drop j) with
            | error f =>
              have n44 : ¬ next (.sign 44) (ts.drop j) = true := fun z => by
                unfold taken at c44
                rw [if_pos z] at c44
                cases c44
              rw [if_neg n44] at st
              unfold taken at c44
              rw [if_neg n44] at c44
              cases c44
              rw [if_pos c2] at st
              exact FltB.from st sb
            | ok r5 =>
              have n44 : next (.sign 44) (ts.drop j) = true := by
                cases z : next (.sign 44) (ts.drop j) with
                | true => rfl
                | false =>
                  unfold taken at c44
                  rw [if_neg (by rw [z]; exact Bool.false_ne_true)] at c44
                  cases c44
              rw [if_pos n44] at st
              have lc := taken_ok c44
              have er : r5 = (ts.drop j).drop 1 := by
                unfold taken at c44
                rw [if_pos n44] at c44
                cases c44
                rfl
              intro H5 j5 s5 hR5 e5 _
              have e5 : ts.drop j5 = r5 := e5
              rw [← er, ← e5] at st
              have sbc : SameBut rd H H5 := sb.trans s5
              have nlc := s5 _ _ nl nrd
              have alc := s5 _ _ al ard
              have lcj := congrArg List.length e5
              obtain ⟨tq, htq⟩ := hR5.tok
              have lq := congrArg List.length (drop_tok htq)
              rw [List.length_cons] at lq
              have remc : (ts.drop j5).length < fuel + 1 := by omega
              have nl5 : SqL K H5 Nl ((as.map fun a => bstr a.1.name).map V.str) := SqL.of nlc
              obtain ⟨dx5, Tl5, hI5⟩ := id hR5
              obtain ⟨t5, ht5⟩ := hR5.tok
              refine ⟨_, rfl, _, as.length, rfl, .inl ⟨_, nl5, by rw [List.length_map, List.length_map]⟩, _, T.i_MOST_ALTERNATIVES, rfl, _, rfl, ?_⟩
              rw [takeAlts_succ] at st
              by_cases c4 : 4 ≤ as.length
              · rw [if_pos c4] at st
                have e4 : as.length = 4 := by omega
                refine iteC (by rw [e4]; rfl) ?_
                refine ⟨_, rfl, rd, _, dx5, _, _, rfl, hI5.at_, rfl, (ok_look T).mono (by omega), rd, ts, j5, Rl, dx5, Tl5, rfl, hI5, fun t a tx ht ⟨⟨dt, ha⟩, _⟩ hn => ?_⟩
                refine ⟨a, _, dt, _, _, rfl, ha, T.cl_Token, T.na_Token_place, rfl, ?_⟩
                rw [drop_tok ht] at st
                exact flt_go fun d nd => st _ d sbc nd
              rw [if_neg c4] at st
              refine iteD (fun e => c4 (by injection e with e; omega)) ?_
              refine ⟨_, rfl, .inl ⟨rfl, _, nl5⟩, _, rfl, rd, _, dx5, _, spTakeName K, rfl, hI5.at_, rfl, (ok_take_name T).mono (by omega), _, rfl, rd, Nl, (as.map fun a => bstr a.1.name), ts, j5, Rl, t5, rfl, nl5, hR5, ht5, fun b eb hbb => ?_, fun z => ?_⟩
              · rw [name_at ht5 eb hbb] at st
                have st : KindStep K H Q E rd ts Rl bad (if bstr b ∈ as.map (fun a => bstr a.1.name) then .error ⟨5, t5.place⟩ else (takeSign 58 (ts.drop (j5 + 1))).bind fun m => (takeTy rs n m).bind fun t => afterAlt (takeTy rs n) fuel (as ++ [(⟨t5.place, b⟩, 1, t.1)]) t.2) := st
                refine ⟨fun c => ?_, fun c H6 s6 hR6 => ?_⟩
                · rw [if_pos c] at st
                  exact FltB.from st sbc
                rw [if_neg c] at st
                have nl6 : H6 Nl = some (.lst ((as.map fun a => bstr a.1.name).map V.str)) := s6 _ _ nlc nrd
                have al6 := s6 _ _ alc ard
                have hR7 : RdAt K (upd H6 Nl (.lst ((as.map fun a => bstr a.1.name).map V.str ++ [.str (bstr b)]))) rd ts (j5 + 1) Rl := rd_frame hR6 nl6 nT fun b o e ne => (upd_ne ne).trans e
                have sb7 : SameBut rd H (upd H6 Nl (.lst ((as.map fun a => bstr a.1.name).map V.str ++ [.str (bstr b)]))) := fun c o e ne => (upd_ne (ne_of_none e nN)).trans (s6 _ _ (sbc _ _ e ne) ne)
                obtain ⟨dx7, Tl7, hI7⟩ := id hR7
                refine ⟨Nl, _, _, rfl, rfl, nl6, ?_, _, rfl, rd, _, dx7, _, spTake K, rfl, hI7.at_, rfl, (ok_take T).mono (by omega), take_ k58 hR7 ?_⟩
                · rw [List.length_map, List.length_map]
                  exact small1000 (show as.length ≤ 1000 by omega)
                cases c8 : taken (.sign 58) (ts.drop (j5 + 1)) with
                | error f =>
                  unfold takeSign at st
                  rw [c8] at st
                  exact FltB.from st sb7
                | ok r8 =>
                  unfold takeSign at st
                  rw [c8] at st
                  intro H8 j8 s8 hR8 e8 _
                  have e8 : ts.drop j8 = r8 := e8
                  have st : KindStep K H Q E rd ts Rl bad ((takeTy rs n r8).bind fun t => afterAlt (takeTy rs n) fuel (as ++ [(⟨t5.place, b⟩, 1, t.1)]) t.2) := st
                  have sb8 : SameBut rd H H8 := sb7.trans s8
                  have al7 : (upd H6 Nl (.lst ((as.map fun a => bstr a.1.name).map V.str ++ [.str (bstr b)]))) Al = some (.lst (ias.map V.ref)) := (upd_ne NA.symm).trans al6
                  have al8 := s8 _ _ al7 ard
                  have nl8 : H8 Nl = some (.lst (((as.map fun a => bstr a.1.name) ++ [bstr b]).map V.str)) := by
                    rw [s8 _ _ upd_same nrd, List.map_append]
                    rfl
                  have fr8 : ∀ c o, H5 c = some o → c ≠ Nl → c ≠ rd → H8 c = some o := fun c o e n2 n4 => s8 _ _ ((upd_ne n2).trans (s6 _ _ e n4)) n4
                  have hb8 : Bads bad' H8 := fun c h z => by
                    rcases Bool.or_eq_true_iff.mp h with h | h
                    · by_cases cr : c = rd
                      · rw [cr] at z
                        exact hR8.some z
                      · cases e : H c with
                        | none => exact hb c h e
                        | some o =>
                          rw [sb8 _ _ e cr] at z
                          cases z
                    · rcases Bool.or_eq_true_iff.mp h with h | h
                      · rw [of_decide_eq_true h, nl8] at z
                        cases z
                      · rw [of_decide_eq_true h, al8] at z
                        cases z
                  have recs8 : RecsR K H8 bad' Rl.1 rs := by
                    obtain ⟨rl, l1, l2, l3⟩ := recs
                    obtain ⟨_, m1, _⟩ := hrs
                    exact ⟨rl, fr8 _ _ (s5 _ _ l1 hne) (fun e => by
                      rw [e, nN] at m1
                      cases m1) hne, l2, fun m a r q z => ⟨(l3 m a r q z).1.same (Off.same fun b o e nb => by
                        obtain ⟨n1, n2, n3, n4⟩ := bad'_no nb
                        exact fr8 _ _ (s5 _ _ e n4) n2 n4), (l3 m a r q z).2⟩⟩
                  refine ⟨_, rfl, .inl ⟨rfl, _, SqL.of al8⟩, _, ih, _, rfl, _, rfl, _, _, rfl, rfl, rd, ts, j8, Rl, bad', rs, ?_, hR8, hb8, hbr', recs8, hro, ?_⟩
                  · show [V.ref rd, V.int (6 - (n : Int) + 1)] = _
                    rw [show (6 - (n : Int) + 1) = 7 - (n : Int) by omega]
                  rw [e8]
                  cases c9 : takeTy rs n r8 with
                  | error f =>
                    rw [c9] at st
                    exact FltB.from st sb8
                  | ok y =>
                    obtain ⟨t9, r9⟩ := y
                    rw [c9] at st
                    intro H9 j9 s9 hR9 e9 p kp
                    have e9 : ts.drop j9 = r9 := e9
                    obtain ⟨wt9, le9⟩ := ty_ok hro n _ _ _ c9
                    have le8 := taken_ok c8
                    have al9 := s9 _ _ al8 ard
                    have nl9 := s9 _ _ nl8 nrd
                    have l5 := congrArg List.length (drop_tok ht5)
                    rw [List.length_cons] at l5
                    have l9 := congrArg List.length e9
                    have lj9 : (ts.drop j9).length = ts.length - j9 := List.length_drop
                    have lj : (ts.drop j).length = ts.length - j := List.length_drop
                    have rem5 := remc
                    refine ⟨Al, _, _, rfl, rfl, al9, ?_, ts.length - j9, by omega, j9, fuel, as ++ [(⟨t5.place, b⟩, 1, t9)], ias ++ [p], rfl, rfl, ?_, rd_frame hR9 al9 aT fun b o e ne => (upd_ne ne).trans e, ?_, ?_, ?_, ?_, ?_, by omega, ?_, ?_⟩
                    · rw [List.length_map, ka_len ka]
                      exact small1000 (show as.length ≤ 1000 by omega)
                    · exact fun c o e ne => (upd_ne (ne_of_none e nA)).trans (s9 _ _ (sb8 _ _ e ne) ne)
                    · rw [upd_ne NA, nl9, List.map_append (l₁ := as)]
                      rfl
                    · rw [upd_same, List.map_append]
                      rfl
                    · refine ka_snoc (kp.same (Off.same fun b o e nb => (upd_ne (bad'_no nb).2.2.1).trans e)) (ka.same (Off.same fun b o e nb => ?_))
                      obtain ⟨n1, n2, n3, n4⟩ := bad'_no nb
                      exact (upd_ne n3).trans (s9 _ _ (fr8 _ _ (s5 _ _ e n4) n2 n4) n4)
                    · intro a ha
                      rcases List.mem_append.mp ha with h | h
                      · exact wfa a h
                      · cases List.mem_singleton.mp h
                        exact wt9
                    · rw [List.length_append]
                      show as.length + 1 ≤ 4
                      omega
                    · obtain ⟨rl, l1, l2, l3⟩ := recs8
                      obtain ⟨_, m1, _⟩ := hrs
                      refine ⟨rl, (upd_ne fun e => by
                        rw [e, nA] at m1
                        cases m1).trans (s9 _ _ l1 hne), l2, fun m a r q z => ⟨(l3 m a r q z).1.same (Off.same fun b o e nb => ?_), (l3 m a r q z).2⟩⟩
                      obtain ⟨n1, n2, n3, n4⟩ := bad'_no nb
                      exact (upd_ne n3).trans (s9 _ _ e n4)
                    · unfold restAlt
                      rw [if_neg (by intro z; cases as <;> cases z), e9]
                      exact st
              · rw [name_not ht5 z] at st
                exact FltB.from st sbc

          · rw [decide_eq_false (show ¬ ((as.length : Nat) : Int) < 2 by omega)]
            refine iteF ⟨_, rfl, rd, _, dx', _, spSees K, rfl, hI'.at_, rfl, (ok_sees T).mono (by omega), see_ k125.2 hR' ⟨_, rfl, ?_⟩⟩
            cases h125 : next (.sign 125) (ts.drop j) with
            | true =>
              have n44 : ¬ next (.sign 44) (ts.drop j) = true := fun z => by
                obtain ⟨tq, htq⟩ := hR'.tok
                have a1 := (next_is htq).mp z
                rw [(next_is htq).mp h125] at a1
                cases a1
              rw [if_neg n44, if_neg c2] at st
              unfold takeSign taken at st
              rw [if_pos h125] at st
              refine iteF ?_
              refine ⟨_, rfl, rd, _, dx', _, spTake K, rfl, hI'.at_, rfl, (ok_take T).mono (by omega), take_ k125 hR' ?_⟩
              unfold taken
              rw [if_pos h125]
              intro H5 j5 s5 hR5 e5 _
              have e5 : ts.drop j5 = (ts.drop j).drop 1 := e5
              have sb5 := sb.trans s5
              have hb5 := hb.but sb5 hR5.some
              obtain ⟨wr, rl⟩ := row_wf wfa
              refine ⟨cOne K, spOneInit K, (ok_One T).mono (by omega), _, rfl, _, rfl, ?_⟩
              refine make_one T wr (by rw [rl]; omega) (by rw [rl]; exact len4) hb5 (Off.of ?_ (hb.new nN)) (Off.of (s5 _ _ al ard) (hb.new nA)) (ka.same fun b o e => ?_) fun p H6 np s6 kp => st H6 j5 (sb5.trans (Same.but s6)) (hR5.same s6) e5 p kp
              · rw [names_row]
                exact s5 _ _ nl nrd
              · obtain ⟨e1, e2⟩ := Off.get e
                obtain ⟨n1, n2, n3, n4⟩ := bad'_no e2
                exact Off.of (s5 _ _ e1 n4) n1
            | false =>
              refine iteT ?_
              refine ⟨_, fun _ _ h => h, _, rfl, true, .inl ⟨_, SqL.of nl, by cases as with
                | nil => exact absurd rfl c0
                | cons _ _ => rfl⟩, ?_⟩
              refine iteT ?_
              refine ⟨_, rfl, rd, _, dx', _, spTake K, rfl, hI'.at_, rfl, (ok_take T).mono (by omega), take_ k44 hR' ?_⟩
              cases c44 : taken (.sign 44) (ts.drop j) with
              | error f =>
                have n44 : ¬ next (.sign 44) (ts.drop j) = true := fun z => by
                  unfold taken at c44
                  rw [if_pos z] at c44
                  cases c44
                rw [if_neg n44] at st
                unfold taken at c44
                rw [if_neg n44] at c44
                cases c44
                rw [if_neg c2] at st
                unfold takeSign taken at st
                rw [if_neg (by rw [h125]; exact Bool.false_ne_true)] at st
                exact FltB.from st sb
              | ok r5 =>
                have n44 : next (.sign 44) (ts.drop j) = true := by
                  cases z : next (.sign 44) (ts.drop j) with
                  | true => rfl
                  | false =>
                    unfold taken at c44
                    rw [if_neg (by rw [z]; exact Bool.false_ne_true)] at c44
                    cases c44
                rw [if_pos n44] at st
                have lc := taken_ok c44
                have er : r5 = (ts.drop j).drop 1 := by
                  unfold taken at c44
                  rw [if_pos n44] at c44
                  cases c44
                  rfl
                intro H5 j5 s5 hR5 e5 _
                have e5 : ts.drop j5 = r5 := e5
                rw [← er, ← e5] at st
                have sbc : SameBut rd H H5 := sb.trans s5
                have nlc := s5 _ _ nl nrd
                have alc := s5 _ _ al ard
                have lcj := congrArg List.length e5
                obtain ⟨tq, htq⟩ := hR5.tok
                have lq := congrArg List.length (drop_tok htq)
                rw [List.length_cons] at lq
                have remc : (ts.drop j5).length < fuel + 1 := by omega
                have nl5 : SqL K H5 Nl ((as.map fun a => bstr a.1.name).map V.str) := SqL.of nlc
                obtain ⟨dx5, Tl5, hI5⟩ := id hR5
                obtain ⟨t5, ht5⟩ := hR5.tok
                refine ⟨_, rfl, _, as.length, rfl, .inl ⟨_, nl5, by rw [List.length_map, List.length_map]⟩, _, T.i_MOST_ALTERNATIVES, rfl, _, rfl, ?_⟩
                rw [takeAlts_succ] at st
                by_cases c4 : 4 ≤ as.length
                · rw [if_pos c4] at st
                  have e4 : as.length = 4 := by omega
                  refine iteC (by rw [e4]; rfl) ?_
                  refine ⟨_, rfl, rd, _, dx5, _, _, rfl, hI5.at_, rfl, (ok_look T).mono (by omega), rd, ts, j5, Rl, dx5, Tl5, rfl, hI5, fun t a tx ht ⟨⟨dt, ha⟩, _⟩ hn => ?_⟩
                  refine ⟨a, _, dt, _, _, rfl, ha, T.cl_Token, T.na_Token_place, rfl, ?_⟩
                  rw [drop_tok ht] at st
                  exact flt_go fun d nd => st _ d sbc nd
                rw [if_neg c4] at st
                refine iteD (fun e => c4 (by injection e with e; omega)) ?_
                refine ⟨_, rfl, .inl ⟨rfl, _, nl5⟩, _, rfl, rd, _, dx5, _, spTakeName K, rfl, hI5.at_, rfl, (ok_take_name T).mono (by omega), _, rfl, rd, Nl, (as.map fun a => bstr a.1.name), ts, j5, Rl, t5, rfl, nl5, hR5, ht5, fun b eb hbb => ?_, fun z => ?_⟩
                · rw [name_at ht5 eb hbb] at st
                  have st : KindStep K H Q E rd ts Rl bad (if bstr b ∈ as.map (fun a => bstr a.1.name) then .error ⟨5, t5.place⟩ else (takeSign 58 (ts.drop (j5 + 1))).bind fun m => (takeTy rs n m).bind fun t => afterAlt (takeTy rs n) fuel (as ++ [(⟨t5.place, b⟩, 1, t.1)]) t.2) := st
                  refine ⟨fun c => ?_, fun c H6 s6 hR6 => ?_⟩
                  · rw [if_pos c] at st
                    exact FltB.from st sbc
                  rw [if_neg c] at st
                  have nl6 : H6 Nl = some (.lst ((as.map fun a => bstr a.1.name).map V.str)) := s6 _ _ nlc nrd
                  have al6 := s6 _ _ alc ard
                  have hR7 : RdAt K (upd H6 Nl (.lst ((as.map fun a => bstr a.1.name).map V.str ++ [.str (bstr b)]))) rd ts (j5 + 1) Rl := rd_frame hR6 nl6 nT fun b o e ne => (upd_ne ne).trans e
                  have sb7 : SameBut rd H (upd H6 Nl (.lst ((as.map fun a => bstr a.1.name).map V.str ++ [.str (bstr b)]))) := fun c o e ne => (upd_ne (ne_of_none e nN)).trans (s6 _ _ (sbc _ _ e ne) ne)
                  obtain ⟨dx7, Tl7, hI7⟩ := id hR7
                  refine ⟨Nl, _, _, rfl, rfl, nl6, ?_, _, rfl, rd, _, dx7, _, spTake K, rfl, hI7.at_, rfl, (ok_take T).mono (by omega), take_ k58 hR7 ?_⟩
                  · rw [List.length_map, List.length_map]
                    exact small1000 (show as.length ≤ 1000 by omega)
                  cases c8 : taken (.sign 58) (ts.drop (j5 + 1)) with
                  | error f =>
                    unfold takeSign at st
                    rw [c8] at st
                    exact FltB.from st sb7
                  | ok r8 =>
                    unfold takeSign at st
                    rw [c8] at st
                    intro H8 j8 s8 hR8 e8 _
                    have e8 : ts.drop j8 = r8 := e8
                    have st : KindStep K H Q E rd ts Rl bad ((takeTy rs n r8).bind fun t => afterAlt (takeTy rs n) fuel (as ++ [(⟨t5.place, b⟩, 1, t.1)]) t.2) := st
                    have sb8 : SameBut rd H H8 := sb7.trans s8
                    have al7 : (upd H6 Nl (.lst ((as.map fun a => bstr a.1.name).map V.str ++ [.str (bstr b)]))) Al = some (.lst (ias.map V.ref)) := (upd_ne NA.symm).trans al6
                    have al8 := s8 _ _ al7 ard
                    have nl8 : H8 Nl = some (.lst (((as.map fun a => bstr a.1.name) ++ [bstr b]).map V.str)) := by
                      rw [s8 _ _ upd_same nrd, List.map_append]
                      rfl
                    have fr8 : ∀ c o, H5 c = some o → c ≠ Nl → c ≠ rd → H8 c = some o := fun c o e n2 n4 => s8 _ _ ((upd_ne n2).trans (s6 _ _ e n4)) n4
                    have hb8 : Bads bad' H8 := fun c h z => by
                      rcases Bool.or_eq_true_iff.mp h with h | h
                      · by_cases cr : c = rd
                        · rw [cr] at z
                          exact hR8.some z
                        · cases e : H c with
                          | none => exact hb c h e
                          | some o =>
                            rw [sb8 _ _ e cr] at z
                            cases z
                      · rcases Bool.or_eq_true_iff.mp h with h | h
                        · rw [of_decide_eq_true h, nl8] at z
                          cases z
                        · rw [of_decide_eq_true h, al8] at z
                          cases z
                    have recs8 : RecsR K H8 bad' Rl.1 rs := by
                      obtain ⟨rl, l1, l2, l3⟩ := recs
                      obtain ⟨_, m1, _⟩ := hrs
                      exact ⟨rl, fr8 _ _ (s5 _ _ l1 hne) (fun e => by
                        rw [e, nN] at m1
                        cases m1) hne, l2, fun m a r q z => ⟨(l3 m a r q z).1.same (Off.same fun b o e nb => by
                          obtain ⟨n1, n2, n3, n4⟩ := bad'_no nb
                          exact fr8 _ _ (s5 _ _ e n4) n2 n4), (l3 m a r q z).2⟩⟩
                    refine ⟨_, rfl, .inl ⟨rfl, _, SqL.of al8⟩, _, ih, _, rfl, _, rfl, _, _, rfl, rfl, rd, ts, j8, Rl, bad', rs, ?_, hR8, hb8, hbr', recs8, hro, ?_⟩
                    · show [V.ref rd, V.int (6 - (n : Int) + 1)] = _
                      rw [show (6 - (n : Int) + 1) = 7 - (n : Int) by omega]
                    rw [e8]
                    cases c9 : takeTy rs n r8 with
                    | error f =>
                      rw [c9] at st
                      exact FltB.from st sb8
                    | ok y =>
                      obtain ⟨t9, r9⟩ := y
                      rw [c9] at st
                      intro H9 j9 s9 hR9 e9 p kp
                      have e9 : ts.drop j9 = r9 := e9
                      obtain ⟨wt9, le9⟩ := ty_ok hro n _ _ _ c9
                      have le8 := taken_ok c8
                      have al9 := s9 _ _ al8 ard
                      have nl9 := s9 _ _ nl8 nrd
                      have l5 := congrArg List.length (drop_tok ht5)
                      rw [List.length_cons] at l5
                      have l9 := congrArg List.length e9
                      have lj9 : (ts.drop j9).length = ts.length - j9 := List.length_drop
                      have lj : (ts.drop j).length = ts.length - j := List.length_drop
                      have rem5 := remc
                      refine ⟨Al, _, _, rfl, rfl, al9, ?_, ts.length - j9, by omega, j9, fuel, as ++ [(⟨t5.place, b⟩, 1, t9)], ias ++ [p], rfl, rfl, ?_, rd_frame hR9 al9 aT fun b o e ne => (upd_ne ne).trans e, ?_, ?_, ?_, ?_, ?_, by omega, ?_, ?_⟩
                      · rw [List.length_map, ka_len ka]
                        exact small1000 (show as.length ≤ 1000 by omega)
                      · exact fun c o e ne => (upd_ne (ne_of_none e nA)).trans (s9 _ _ (sb8 _ _ e ne) ne)
                      · rw [upd_ne NA, nl9, List.map_append (l₁ := as)]
                        rfl
                      · rw [upd_same, List.map_append]
                        rfl
                      · refine ka_snoc (kp.same (Off.same fun b o e nb => (upd_ne (bad'_no nb).2.2.1).trans e)) (ka.same (Off.same fun b o e nb => ?_))
                        obtain ⟨n1, n2, n3, n4⟩ := bad'_no nb
                        exact (upd_ne n3).trans (s9 _ _ (fr8 _ _ (s5 _ _ e n4) n2 n4) n4)
                      · intro a ha
                        rcases List.mem_append.mp ha with h | h
                        · exact wfa a h
                        · cases List.mem_singleton.mp h
                          exact wt9
                      · rw [List.length_append]
                        show as.length + 1 ≤ 4
                        omega
                      · obtain ⟨rl, l1, l2, l3⟩ := recs8
                        obtain ⟨_, m1, _⟩ := hrs
                        refine ⟨rl, (upd_ne fun e => by
                          rw [e, nA] at m1
                          cases m1).trans (s9 _ _ l1 hne), l2, fun m a r q z => ⟨(l3 m a r q z).1.same (Off.same fun b o e nb => ?_), (l3 m a r q z).2⟩⟩
                        obtain ⟨n1, n2, n3, n4⟩ := bad'_no nb
                        exact (upd_ne n3).trans (s9 _ _ e n4)
                      · unfold restAlt
                        rw [if_neg (by intro z; cases as <;> cases z), e9]
                        exact st
                · rw [name_not ht5 z] at st
                  exact FltB.from st sbc

theorem all_kind (T : Txt K mg) (ta : TupIs K mg "ALIGNS") : ∀ n, n ≤ 6 → COk P w K mg base (L2.CX P w) (9 + 2 * n) "read_kind" (spRK K n)
  | 0, _ => kind_zero T (k := 6)
  | n + 1, hn => by
    have ih := all_kind T ta n (by omega)
    have io := ok_read_one T (k := 7 + 2 * n) (n := n) (by omega) (by omega) (ih.mono (by omega))
    have := kind_succ T ta (k := 8 + 2 * n) (n := n) (by omega) (by omega) (fun rs hro => ty_ok hro n) (ih.mono (by omega)) (io.mono (by omega))
    exact this.mono (by omega)
end
end LY
set_option Elab.async false
set_option linter.all false
set_option maxRecDepth 100000
set_option maxHeartbeats 4000000
namespace LY
open PySem PySem.Spec PyProof.Rows L2
open ValayBase (RESERVED lex PTok Toks next taken takeName tokEq here wrong word takeWord takeSign nextWord PName)
open Valaya (takeCount takeInt takeAlign Ty Rec takeTy takeAlts rowOf rowLength)
open ML (wf)
/-- one field, behind what was told before -/
def fieldTy (rs : List Rec) (ns : List Str) (l : Toks) : Except ValayBase.Fault ((PName × Nat × Ty) × Toks) := (takeName l).bind fun x => if bstr x.1.name ∈ ns then .error ⟨5, x.1.place⟩ else
  (takeSign 58 x.2).bind fun m => (takeTy rs 6 m).bind fun t => (if nextWord "hot" t.2 = true then takeCount 1 1000 (t.2.drop 1) else .ok (1, t.2)).bind fun k => (takeSign 59 k.2).map fun m => ((x.1, k.1, t.1), m)
section
variable {P : Program} {w : World} {K : PySem.W.Frag} {mg : Str → Option Value} {base : Heap}
abbrev s_read_field : Stmt := top 51
abbrev n_read_field : List Str := ["reader", "earlier", "name", "inner", "hot", "field"]
theorem sc_read_field : FnScope n_read_field ["reader", "earlier"] (defScope s_read_field) := ⟨rfl, rfl, rfl, by decide +kernel, rfl, by decide +kernel, by decide +kernel⟩

def FldObj (K : PySem.W.Frag) (H : Hp) (a : Addr) (x : PName × Nat × Ty) : Prop := ∃ dx i, H a = some (.ins (cField K) dx (fldF (bstr x.1.name) i x.2.1)) ∧ KA K H x.2.2 [i]
def spRF (K : PySem.W.Frag) : Sp := fun vs H Q E => ∃ (rd el : Addr) (ts : Toks) (i : Nat) (Rl : Addr × Addr) (bad : Addr → Bool) (rs : List Rec) (fas : List Addr) (ns : List Str), vs = [.ref rd, .ref el] ∧ RdAt K H rd ts i Rl ∧ Bads bad H ∧ bad rd = true ∧ RecsR K H bad Rl.1 rs ∧ RsOk rs ∧
  SqL K H el (fas.map V.ref) ∧ fas.length = ns.length ∧ fas.length < sizeLine ∧ (∀ (j : Nat) (a : Addr) (x : Str), fas[j]? = some a → ns[j]? = some x → ∃ dx fi h, H a = some (.ins (cField K) dx (fldF x fi h))) ∧
  Step H E K rd ts Rl (fieldTy rs ns (ts.drop i)) fun x H' => ∀ a, FldObj K (Off bad H') a x → Q (.ref a) H'
theorem ok_read_field (T : Txt K mg) (ta : TupIs K mg "ALIGNS") : COk P w K mg base (L2.CX P w) 22 "read_field" (spRF K) :=
  mkC T.g_read_field T.d_read_field sc_read_field (fun vs H Q E h => by obtain ⟨rd, el, ts, i, Rl, bad, rs, fas, ns, rfl, _⟩ := h; rfl) (fun _ _ _ _ _ _ us hl => match us, hl with | [_, _], _ => rfl) fun cdv A outer s H vs Q E hr h => by
    obtain ⟨rd, el, ts, i, Rl, bad, rs, fas, ns, rfl, hR, hb, hbr, hrs, hro, hS, hlen, few, hf, st⟩ := h
    obtain ⟨dx, Tl, hI⟩ := id hR
    have hne := hrs.ne hI
    obtain ⟨t, ht⟩ := hR.tok
    refine ⟨_, (pss_cons (ps_set (i := 2) sc_read_field.nd rfl (Or.inl rfl) (by exact (pe_mx (CX := L2.CX P w) (E := fun _ => E) hr (pasE (takes_of rfl rfl rfl rfl)) (pv 0) (by exact (pa_cons (pe_lc (own := [("field", 5)]) (g := gName 5) (tt := tYes) (te := (tFld K (tVar 5) "name")) rfl sc_read_field.nd (pi_list (pv 1)) (blkOk_by (own := [("field", 5)]) (N := n_read_field) (sc := defScope s_read_field) (by decide +kernel)) (fun _ _ _ _ _ => by exact (pg_name (i := 5) sc_read_field.nd rfl (Or.inl rfl))) (fun _ _ _ _ _ => pts_nil) (fun _ _ _ _ _ => by exact (pe_fld (pv 5) (by rfl)))) pa_nil)))))
      (pss_cons (ps_expr (pe_mx (CX := L2.CX P w) (E := fun _ => E) hr (pasE (takes_of rfl rfl rfl rfl)) (pv 0) (by exact (pa_cons pe_str pa_nil))))
      (pss_cons (ps_set (i := 3) sc_read_field.nd rfl (Or.inl rfl) (by exact (pe_cx (CX := L2.CX P w) (E := fun _ => E) hr (pasE (takes_of rfl rfl rfl rfl)) (by exact (pa_cons (pv 0) (pa_cons pe_int pa_nil))))))
      (pss_cons (ps_set (i := 4) sc_read_field.nd rfl (Or.inl rfl) (by exact pe_int))
      (pss_cons (ps_if (pt_val (pe_mx (CX := CX0) hr pas0 (pv 0) (by exact (pa_cons pe_str pa_nil)))) (pss_cons (ps_expr (pe_mx (CX := L2.CX P w) (E := fun _ => E) hr (pasE (takes_of rfl rfl rfl rfl)) (pv 0) (by exact (pa_cons pe_str pa_nil))))
      (pss_one (ps_set (i := 4) sc_read_field.nd rfl (Or.inl rfl) (by exact (pe_mx (CX := L2.CX P w) (E := fun _ => E) hr (pasE (takes_of rfl rfl rfl rfl)) (pv 0) (by exact (pa_cons pe_int (pa_cons (pe_gn rfl) pa_nil)))))))) pss_nil)
      (pss_cons (ps_expr (pe_mx (CX := L2.CX P w) (E := fun _ => E) hr (pasE (takes_of rfl rfl rfl rfl)) (pv 0) (by exact (pa_cons pe_str pa_nil))))
      (pss_one (ps_ret (by exact (pe_kx hr (by exact (pa_cons (pv 2) (pa_cons (pv 3) (pa_cons (pv 4) pa_nil)))))))))))))), ?_⟩
    refine ⟨_, rfl, rd, _, dx, _, spTakeName K, rfl, hI.at_, rfl, (ok_take_name T).mono (by decide), _, rfl, el, rfl, ⟨_, hS⟩, fun D hD => lc_val (vs := ns.map V.str) hD hS (by rw [List.length_map]; exact hlen) few (fun j a v q z => ?_) (fun _ => rfl) (fun _ => rfl) fun H1 s1 d1 => ?_⟩
    · obtain ⟨x, hx, rfl⟩ := map_get z
      obtain ⟨dx, fi, h, e⟩ := hf j a x q hx
      exact ⟨_, dx, _, e, T.cl_Field, T.na_Field_name, rfl⟩
    · unfold fieldTy at st
      have sb1 : SameBut rd H H1 := Same.but s1
      refine ⟨rd, D, ns, ts, i, Rl, t, rfl, SqL.of d1, hR.same s1, ht, fun b eb hbb => ?_, fun z => ?_⟩
      · rw [name_at ht eb hbb] at st
        have st : Step H E K rd ts Rl (if bstr b ∈ ns then .error ⟨5, t.place⟩ else (takeSign 58 (ts.drop (i + 1))).bind fun m => (takeTy rs 6 m).bind fun t' => (if nextWord "hot" t'.2 = true then takeCount 1 1000 (t'.2.drop 1) else .ok (1, t'.2)).bind fun k => (takeSign 59 k.2).map fun m => (((⟨t.place, b⟩ : PName), k.1, t'.1), m)) fun x H' => ∀ a, FldObj K (Off bad H') a x → Q (.ref a) H' := st
        refine ⟨fun c => ?_, fun c H2 s2 hR2 => ?_⟩
        · rw [if_pos c] at st
          exact FltB.from st sb1
        rw [if_neg c] at st
        have sb2 := sb1.trans s2
        obtain ⟨dx2, Tl2, hI2⟩ := id hR2
        refine ⟨_, rfl, rd, _, dx2, _, spTake K, rfl, hI2.at_, rfl, (ok_take T).mono (by decide), take_ k58 hR2 ?_⟩
        unfold takeSign at st
        cases c3 : taken (.sign 58) (ts.drop (i + 1)) with
        | error f =>
          rw [c3] at st
          exact FltB.from st sb2
        | ok r3 =>
          rw [c3] at st
          intro H3 j3 s3 hR3 e3 _
          have e3 : ts.drop j3 = r3 := e3
          subst e3
          have sb3 := sb2.trans s3
          have hb3 := hb.but sb3 hR3.some
          have st : Step H E K rd ts Rl ((takeTy rs 6 (ts.drop j3)).bind fun t' => (if nextWord "hot" t'.2 = true then takeCount 1 1000 (t'.2.drop 1) else .ok (1, t'.2)).bind fun k => (taken (.sign 59) k.2).map fun m => (((⟨t.place, b⟩ : PName), k.1, t'.1), m)) fun x H' => ∀ a, FldObj K (Off bad H') a x → Q (.ref a) H' := st
          refine ⟨_, (all_kind T ta 6 (Nat.le_refl _)).mono (by decide), _, rfl, rd, ts, j3, Rl, bad, rs, rfl, hR3, hb3, hbr, hrs.but sb3 hbr hne, hro, ?_⟩
          cases c4 : takeTy rs 6 (ts.drop j3) with
          | error f =>
            rw [c4] at st
            exact FltB.from st sb3
          | ok y =>
            obtain ⟨ty, r4⟩ := y
            rw [c4] at st
            intro H4 j4 s4 hR4 e4 ia ka
            have e4 : ts.drop j4 = r4 := e4
            subst e4
            have sb4 := sb3.trans s4
            have st : Step H E K rd ts Rl ((if nextWord "hot" (ts.drop j4) = true then takeCount 1 1000 ((ts.drop j4).drop 1) else .ok (1, ts.drop j4)).bind fun k => (taken (.sign 59) k.2).map fun m => (((⟨t.place, b⟩ : PName), k.1, ty), m)) fun x H' => ∀ a, FldObj K (Off bad H') a x → Q (.ref a) H' := st
            obtain ⟨dx4, Tl4, hI4⟩ := id hR4
            refine ⟨_, rfl, rd, _, dx4, _, spSees K, rfl, hI4.at_, rfl, (ok_sees T).mono (by decide), see_ kHot.2 hR4 ⟨_, rfl, ?_⟩⟩
            unfold nextWord at st
            cases ch : next (.name (word "hot")) (ts.drop j4) with
            | false =>
              rw [ch, if_neg (fun z => by cases z)] at st
              refine iteF ?_
              have st : Step H E K rd ts Rl ((taken (.sign 59) (ts.drop j4)).map fun m => (((⟨t.place, b⟩ : PName), 1, ty), m)) fun x H' => ∀ a, FldObj K (Off bad H') a x → Q (.ref a) H' := st
              obtain ⟨dx9, Tl9, hI9⟩ := id hR4
              refine ⟨_, rfl, rd, _, dx9, _, spTake K, rfl, hI9.at_, rfl, (ok_take T).mono (by decide), take_ k59 hR4 ?_⟩
              cases c6 : taken (.sign 59) (ts.drop j4) with
              | error f =>
                rw [c6] at st
                exact FltB.from st sb4
              | ok r6 =>
                rw [c6] at st
                intro H6 j6 s6 hR6 e6 _
                have sb6 := (sb4).trans s6
                have hb6 := hb.but sb6 hR6.some
                refine ⟨cField K, spFldInit K, (ok_Field T).mono (by decide), _, rfl, _, rfl, _, rfl, fun p dp np nd ne => ⟨p, dp, ia, bstr b, 1, rfl, upd_same, fun H7 e7 kp => ⟨rfl, ?_⟩⟩⟩
                have s7 : Same H6 H7 := Same.made np nd kp
                exact st H7 j6 (sb6.trans (Same.but s7)) (hR6.same s7) e6 p ⟨dp, ia, Off.of e7 (hb6.new np), ka.same (Off.same fun c o e nb => by
                  have nr : c ≠ rd := fun z => by
                    rw [z, hbr] at nb
                    cases nb
                  exact s7 _ _ (s6 _ _ (e) nr))⟩

            | true =>
              rw [ch, if_pos rfl] at st
              refine iteT ⟨_, rfl, rd, _, dx4, _, spTake K, rfl, hI4.at_, rfl, (ok_take T).mono (by decide), take_ kHot hR4 ?_⟩
              unfold taken
              rw [if_pos ch]
              intro H5 j5 s5 hR5 e5 _
              have e5 : ts.drop j5 = (ts.drop j4).drop 1 := e5
              rw [← e5] at st
              have sb5 := sb4.trans s5
              obtain ⟨dx5, Tl5, hI5⟩ := id hR5
              obtain ⟨t5, ht5⟩ := hR5.tok
              refine ⟨_, rfl, rd, _, dx5, _, spTakeNum K, rfl, hI5.at_, rfl, (ok_take_number T).mono (by decide), _, T.i_HOTTEST, rd, 1, 1000, ts, j5, Rl, t5, rfl, hR5, ht5, fun m em => ?_, fun z => ?_⟩
              · have et : takeCount 1 1000 (ts.drop j5) = if m < 1 ∨ 1000 < m then .error ⟨7, t5.place⟩ else .ok (m, ts.drop (j5 + 1)) := by
                  rw [drop_tok ht5]
                  obtain ⟨q, tk⟩ := t5
                  cases em
                  rfl
                rw [et] at st
                refine ⟨fun c => ?_, fun c H8 s8 hR8 => ?_⟩
                · rw [if_pos (by omega)] at st
                  exact FltB.from st sb5
                · rw [if_neg (by omega)] at st
                  have st : Step H E K rd ts Rl ((taken (.sign 59) (ts.drop (j5 + 1))).map fun mm => (((⟨t.place, b⟩ : PName), m, ty), mm)) fun x H' => ∀ a, FldObj K (Off bad H') a x → Q (.ref a) H' := st
                  obtain ⟨dx9, Tl9, hI9⟩ := id hR8
                  refine ⟨_, rfl, rd, _, dx9, _, spTake K, rfl, hI9.at_, rfl, (ok_take T).mono (by decide), take_ k59 hR8 ?_⟩
                  cases c6 : taken (.sign 59) (ts.drop (j5 + 1)) with
                  | error f =>
                    rw [c6] at st
                    exact FltB.from st (sb5.trans s8)
                  | ok r6 =>
                    rw [c6] at st
                    intro H6 j6 s6 hR6 e6 _
                    have sb6 := (sb5.trans s8).trans s6
                    have hb6 := hb.but sb6 hR6.some
                    refine ⟨cField K, spFldInit K, (ok_Field T).mono (by decide), _, rfl, _, rfl, _, rfl, fun p dp np nd ne => ⟨p, dp, ia, bstr b, m, rfl, upd_same, fun H7 e7 kp => ⟨rfl, ?_⟩⟩⟩
                    have s7 : Same H6 H7 := Same.made np nd kp
                    exact st H7 j6 (sb6.trans (Same.but s7)) (hR6.same s7) e6 p ⟨dp, ia, Off.of e7 (hb6.new np), ka.same (Off.same fun c o e nb => by
                      have nr : c ≠ rd := fun z => by
                        rw [z, hbr] at nb
                        cases nb
                      exact s7 _ _ (s6 _ _ (s8 _ _ (s5 _ _ e nr) nr) nr))⟩

              · have e3 : takeCount 1 1000 (ts.drop j5) = .error ⟨3, t5.place⟩ := by
                  rw [drop_tok ht5]
                  obtain ⟨q, tk⟩ := t5
                  cases tk with
                  | num m => exact absurd (kind_num.mpr ⟨m, rfl⟩) z
                  | name b => rfl
                  | sign c => rfl
                  | last => rfl
                rw [e3] at st
                exact FltB.from st sb5
      · rw [name_not ht z] at st
        exact FltB.from st sb1
end
end LY
set_option Elab.async false
set_option linter.all false
set_option maxRecDepth 100000
set_option maxHeartbeats 4000000
namespace LY
open PySem PySem.Spec PyProof.Rows L2
open ValayBase (isLetter isDigit isBlank)
/-! ### the signs' table -/
def allSigns : Str := ("abcdefghijklmnopqrstuvwxyzABCDEFGHIJKLMNOPQRSTUVWXYZ" : Str) ++ ("0123456789" : Str) ++ ("{},;:-." : Str)
def tab0 : List (Key × V) := [(Sum.inl 9, .str " "), (Sum.inl 10, .str "\n"), (Sum.inl 32, .str " "), (Sum.inl 35, .str "#")]
def tabOf (l : List Nat) : List (Key × V) := l.foldl (fun (kvs : List (Key × V)) (c : Nat) => putK kvs (Sum.inl (c : Int)) (.str ⟨#[c]⟩)) (mergeK [] tab0)
theorem tab_snoc (l : List Nat) (c : Nat) : tabOf (l ++ [c]) = putK (tabOf l) (Sum.inl (c : Int)) (.str ⟨#[c]⟩) := by
  unfold tabOf
  rw [List.foldl_append]
  rfl
theorem put_len (kvs : List (Key × V)) (k : Key) (v : V) : (putK kvs k v).length ≤ kvs.length + 1 := by
  unfold putK
  split
  · rw [List.length_map]
    exact Nat.le_succ _
  · rw [List.length_append]
    exact Nat.le_refl _
theorem fold_len (l : List Nat) : ∀ kvs : List (Key × V), (l.foldl (fun (kvs : List (Key × V)) (c : Nat) => putK kvs (Sum.inl (c : Int)) (.str ⟨#[c]⟩)) kvs).length ≤ kvs.length + l.length := by
  induction l with
  | nil => exact fun kvs => Nat.le_refl _
  | cons c l ih =>
    intro kvs
    rw [List.foldl_cons]
    refine Nat.le_trans (ih _) ?_
    have := put_len kvs (Sum.inl (c : Int)) (.str ⟨#[c]⟩)
    rw [List.length_cons]
    omega
theorem tab_len (l : List Nat) : (tabOf l).length ≤ 4 + l.length := fold_len l _
theorem tab_get (b : UInt8) : (valV (tabOf allSigns.cps.toList) (Sum.inl (b.toNat : Int))).getD (.str "?") = sgV b :=
  of_decide_eq_true (all_bytes (fun b => decide ((valV (tabOf allSigns.cps.toList) (Sum.inl (b.toNat : Int))).getD (.str "?") = sgV b)) (by decide +kernel) b)
theorem byte_nat {z : Int} (h0 : 0 ≤ z) (h1 : z ≤ 255) : ((UInt8.ofNat z.toNat).toNat : Int) = z := by
  rw [UInt8.toNat_ofNat']
  omega
section
variable {P : Program} {w : World} {K : PySem.W.Frag} {mg : Str → Option Value} {base : Heap}
abbrev s_signs_of : Stmt := top 30
abbrev n_signs_of : List Str := ["text", "known", "sign", "byte"]
theorem sc_signs_of : FnScope n_signs_of ["text"] (defScope s_signs_of) := ⟨rfl, rfl, rfl, by decide +kernel, rfl, by decide +kernel, by decide +kernel⟩

theorem ok_signs_of (T : Txt K mg) : COk P w K mg base CX0 1 "signs_of" (spSigns K) :=
  mkC T.g_signs_of T.d_signs_of sc_signs_of (fun vs H Q E h => by obtain ⟨a, ns, rfl, _⟩ := h; rfl) (fun _ _ _ _ _ _ us hl => match us, hl with | [_], _ => rfl) fun cdv A outer s H vs Q E hr h => by
    obtain ⟨a, ns, rfl, hS, hby, hlen, kk⟩ := h
    refine ⟨_, PSs.nox (pss_cons (ps_set (i := 1) sc_signs_of.nd rfl (Or.inr rfl) (by exact (pe_disp (pps_cons pe_int pe_str (pps_cons pe_int pe_str (pps_cons pe_int pe_str (pps_cons pe_int pe_str pps_nil)))) (by rfl) (by rfl) (fun z => by cases z) (by decide))))
      (pss_cons (ps_for PassesOwn.never rfl (pi_str (pe_op op_add_str (pe_op op_add_str (pe_gn rfl) (pe_gn rfl)) (pe_gn rfl))) (pg_name (i := 2) sc_signs_of.nd rfl (Or.inl rfl)) (pss_one (ps_dput (hu_of hr) (pv 1) (pe_callB call_ord (by rfl) T.f_ord (by decide +kernel) (by exact (pa_cons (pv 2) pa_nil))) (pv 2) rfl)))
      (pss_one (ps_ret (by exact (pe_lc (own := [("byte", 3)]) (g := gName 3) (tt := tYes) rfl sc_signs_of.nd (pi_list (pv 0)) (blkOk_by (own := [("byte", 3)]) (N := n_signs_of) (sc := defScope s_signs_of) (by decide +kernel)) (fun _ _ _ _ _ => by exact (pg_name (i := 3) sc_signs_of.nd rfl (Or.inl rfl))) (fun _ _ _ _ _ => pts_nil) (fun _ _ _ _ _ => by exact (pe_dget2 (hu_of hr) (pv 1) (pv 3) pe_str ⟨rfl, rfl, rfl, rfl⟩)))))))), ?_⟩
    refine fun p np => ⟨upd_same, tab0, rfl, by decide, ?_⟩
    have sp : ∀ {o o' : HO}, Same H (upd (upd H p o) p o') := fun {o o'} b q e => (upd_ne (ne_of_none e np)).trans ((upd_ne (ne_of_none e np)).trans e)
    have lim : (1000 : Nat) < sizeLine := by decide
    have b1 : ("abcdefghijklmnopqrstuvwxyzABCDEFGHIJKLMNOPQRSTUVWXYZ" : Str).length + ("0123456789" : Str).length ≤ sizeLine := by decide +kernel
    have b2 : (("abcdefghijklmnopqrstuvwxyzABCDEFGHIJKLMNOPQRSTUVWXYZ" : Str) ++ ("0123456789" : Str)).length + ("{},;:-." : Str).length ≤ sizeLine := by decide +kernel
    refine ⟨_, T.t_LETTERS, _, T.t_DIGITS, _, _, rfl, rfl, b1, _, T.t_SIGNS, _, _, rfl, rfl, b2, allSigns, rfl, L2.for_it L2.walk_str (fun i σ H' => ∃ v : Option V, σ = [some (.ref a), some (.ref p), v, none] ∧ Same H H' ∧ H' p = some (.dK (tabOf (allSigns.cps.toList.take i)))) ⟨none, rfl, sp, upd_same⟩ (fun _ _ _ _ _ => trivial) ?_ ?_⟩
    · rintro i y σ H' H'' hi ⟨v, rfl, s5, d5⟩ ⟨rfl, c, hc, rfl⟩
      have hc : allSigns.cps.toList[i]? = some c := by rw [Array.getElem?_toList]; exact hc
      have tl := tab_len (allSigns.cps.toList.take i)
      have ll : allSigns.cps.toList.length = 69 := by decide +kernel
      rw [List.length_take] at tl
      refine ⟨_, rfl, _, rfl, _, rfl, _, rfl, rfl, ?_⟩
      refine ⟨p, _, rfl, DPut.k (k := Sum.inl (c : Int)) d5 (by omega), ?_⟩
      refine ⟨_, rfl, fun q o e => (upd_ne (ne_of_none e np)).trans (s5 _ _ e), ?_⟩
      rw [upd_same, List.take_succ, hc]
      exact congrArg (fun z => some (HO.dK z)) (tab_snoc _ _).symm
    · rintro σ H' ⟨v, rfl, s5, d5⟩
      have ll : allSigns.cps.size = allSigns.cps.toList.length := rfl
      rw [ll, List.take_length] at d5
      refine ⟨_, rfl, a, rfl, ⟨_, s5.seq hS⟩, fun D nD => lc_list (K := K) (a := a) (xs := ns.map V.int) (fun j H2 => Same H' H2 ∧ H2 D = some (.lst (((bytesOf ns).take j).map sgV))) ⟨same_new nD, upd_same⟩ (fun _ _ _ ⟨s2, _⟩ => s2.seq (s5.seq hS)) ?_ ?_⟩
      · rintro j x H2 hx ⟨s2, d2⟩
        obtain ⟨z, hz, rfl⟩ := map_get hx
        refine ⟨rfl, yes ?_⟩
        have dp2 := s2 _ _ d5
        refine ⟨_, rfl, p, rfl, .inl ⟨_, .inl dp2⟩, _, rfl, _, DGet.k (k := Sum.inl z) dp2, ?_⟩
        have bz := List.all_eq_true.mp hby z (List.mem_of_getElem? hz)
        obtain ⟨z0, z255⟩ := Bool.and_eq_true_iff.mp bz
        have zz := byte_nat (of_decide_eq_true z0) (of_decide_eq_true z255)
        have hb : (bytesOf ns)[j]? = some (UInt8.ofNat z.toNat) := by
          show (ns.map fun b : Int => UInt8.ofNat b.toNat)[j]? = _
          rw [List.getElem?_map, hz]
          rfl
        have tg := tab_get (UInt8.ofNat z.toNat)
        rw [zz] at tg
        have ql := bytesOf_len ns
        refine ⟨_, d2, ?_, fun q o e => (upd_ne (ne_of_none e nD)).trans (s2 _ _ e), ?_⟩
        · rw [List.length_map, List.length_take]
          exact Nat.lt_of_le_of_lt (show _ ≤ 4096 by omega) (by decide)
        · rw [upd_same, List.take_succ, hb, List.map_append, tg]
          rfl
      · rintro H2 ⟨s2, d2⟩
        rw [List.length_map, ← bytesOf_len ns, List.take_length] at d2
        exact kk D H2 (free_of s5 nD) (s5.trans s2) d2
end
end LY
set_option Elab.async false
set_option linter.all false
set_option maxRecDepth 100000
set_option maxHeartbeats 4000000
namespace LY
open ValayBase (PTok Toks next taken takeName here wrong word takeWord takeSign nextWord PName showNat showInt Bytes)
open Valaya (takeCount takeInt takeAlign Ty Rec takeTy takeAlts takeFields takeRecs rowOf rowLength showTy showFields shownRec line countLeaves fieldsOf)
open ML (wf)
/-! ### what is read is small, and of the kinds' shapes -/
def tokW : ValayBase.Tok → Nat
  | .name b => 40 + b.length
  | _ => 40
def wtT (l : Toks) : Nat := (l.map fun t => tokW t.tok).sum
theorem wt_cons (t : PTok) (l : Toks) : wtT (t :: l) = tokW t.tok + wtT l := rfl
theorem tokW_ge (t : ValayBase.Tok) : 40 ≤ tokW t := by
  cases t <;> first | exact Nat.le_refl _ | exact Nat.le_add_right _ _
/-- no record stands bare; what is told of a number, of how hot, is small -/
def nice : Ty → Prop
  | .num _ _ c => c ≤ 32
  | .maybe t => nice t
  | .many _ t => nice t
  | .rec_ _ => False
  | .named _ _ => True
  | .one_ fs => nice fs
  | .nil => True
  | .field _ h t r => h ≤ 1000 ∧ nice t ∧ nice r
theorem nat_len {n k : Nat} (hk : 0 < k) (h : n < 10 ^ k) : (showNat n).length ≤ k := by
  unfold showNat
  rw [List.length_map]
  exact (Nat.length_toDigits_le_iff (by decide) hk).mpr h
theorem int_len {i : Int} (h1 : -1000000 ≤ i) (h2 : i ≤ 1000000) : (showInt i).length ≤ 8 := by
  have : (showNat i.natAbs).length ≤ 7 := nat_len (by decide) (by
    show i.natAbs < 10000000
    omega)
  unfold showInt
  split
  · rw [List.length_cons]
    omega
  · omega
theorem c_taken {x : ValayBase.Tok} {l r : Toks} (h : taken x l = .ok r) : wtT r + 40 ≤ wtT l := by
  unfold taken at h
  split at h
  · rename_i c
    cases l with
    | nil => cases c
    | cons t l =>
      cases h
      rw [wt_cons]
      have := tokW_ge t.tok
      show wtT l + 40 ≤ _
      omega
  · cases h
theorem c_name {l r : Toks} {x : PName} (h : takeName l = .ok (x, r)) : wtT r + 40 + x.name.length ≤ wtT l := by
  cases l with
  | nil => cases h
  | cons t l =>
    obtain ⟨q, tk⟩ := t
    cases tk with
    | name b =>
      have h : (if ValayBase.RESERVED.contains b = true then wrong (⟨q, .name b⟩ :: l) else .ok (⟨q, b⟩, l) : Except ValayBase.Fault (PName × Toks)) = .ok (x, r) := h
      split at h
      · cases h
      · cases h
        show wtT r + 40 + b.length ≤ (40 + b.length) + wtT r
        omega
    | num n => cases h
    | sign c => cases h
    | last => cases h
theorem c_count {lo hi n : Nat} {l r : Toks} (h : takeCount lo hi l = .ok (n, r)) : wtT r + 40 ≤ wtT l ∧ n ≤ hi := by
  have h3 := (count_lt h).2.2
  obtain ⟨q, rfl⟩ := count_at h
  exact ⟨by rw [wt_cons]; show _ ≤ 40 + _; omega, h3⟩
theorem c_drop (l : Toks) (n : Nat) : wtT (l.drop n) ≤ wtT l := by
  induction l generalizing n with
  | nil => rw [List.drop_nil]; exact Nat.le_refl _
  | cons t l ih =>
    cases n with
    | zero => exact Nat.le_refl _
    | succ n =>
      rw [List.drop_succ_cons, wt_cons]
      have := ih n
      omega
theorem c_next {x : ValayBase.Tok} {l : Toks} (h : next x l = true) : wtT (l.drop 1) + 40 ≤ wtT l := by
  cases l with
  | nil => cases h
  | cons t l =>
    rw [wt_cons]
    have := tokW_ge t.tok
    show wtT l + 40 ≤ _
    omega
theorem c_int {l r : Toks} {v : Int} {q : Nat} (h : takeInt l = .ok (v, q, r)) : wtT r + 40 ≤ wtT l := by
  rw [takeInt_eq] at h
  obtain ⟨⟨n, r'⟩, h1, h2⟩ := map_ok h
  cases h2
  have := (c_count h1).1
  have h3 : wtT (afterMinus l) ≤ wtT l := by
    unfold afterMinus
    split
    · exact c_drop _ _
    · exact Nat.le_refl _
  show wtT r' + 40 ≤ _
  omega
theorem c_align {l r : Toks} {c : Nat} (h : takeAlign l = .ok (c, r)) : wtT r ≤ wtT l ∧ c ≤ 32 ∧ (c ≠ 1 → wtT r + 40 ≤ wtT l) := by
  unfold takeAlign at h
  split at h
  · cases h
    exact ⟨Nat.le_refl _, by decide, fun z => absurd rfl z⟩
  · have hd1 := c_drop l 1
    cases hd : l.drop 1 with
    | nil =>
      rw [hd] at h
      cases h
    | cons t m =>
      rw [hd] at h hd1
      obtain ⟨q, tk⟩ := t
      cases tk with
      | num n =>
        have h : (if Valaya.ALIGNS.contains n = true then .ok (n, m) else .error ⟨7, q⟩ : Except ValayBase.Fault (Nat × Toks)) = .ok (c, r) := h
        split at h
        · rename_i hc
          cases h
          have hm := List.contains_iff_mem.mp hc
          have : ∀ n ∈ Valaya.ALIGNS, n ≤ 32 := by decide
          rw [wt_cons] at hd1
          have hd1 : 40 + wtT r ≤ wtT l := hd1
          exact ⟨by omega, this _ hm, fun _ => by omega⟩
        · cases h
      | name b => cases h
      | sign c => cases h
      | last => cases h
def rowL (as : List (PName × Nat × Ty)) : Nat := (as.map fun a => a.1.name.length + 5 + (showTy a.2.2).length).sum
theorem word_len (s : String) : (word s).length = s.toList.length := List.length_map ..
theorem rowOf_len : ∀ as : List (PName × Nat × Ty), (showTy (rowOf as)).length ≤ rowL as
  | [] => Nat.le_refl _
  | [a] => by
    show (a.1.name ++ (word " : " ++ (showTy a.2.2 ++ []))).length ≤ _ + _
    rw [List.length_append, List.length_append, List.append_nil, word_len]
    show _ + (3 + _) ≤ a.1.name.length + 5 + (showTy a.2.2).length + 0
    omega
  | a :: b :: as => by
    have ih := rowOf_len (b :: as)
    show (a.1.name ++ (word " : " ++ (showTy a.2.2 ++ (word ", " ++ showTy (rowOf (b :: as)))))).length ≤ a.1.name.length + 5 + (showTy a.2.2).length + rowL (b :: as)
    rw [List.length_append, List.length_append, List.length_append, List.length_append, word_len, word_len]
    show _ + (3 + (_ + (2 + _))) ≤ _
    omega
def rowF' (as : List (PName × Nat × Ty)) : Nat := (as.map fun a => a.1.name.length + 20 + (showTy a.2.2).length).sum
theorem fields_len : ∀ as : List (PName × Nat × Ty), (∀ a ∈ as, a.2.1 ≤ 1000) → (showFields (rowOf as)).length ≤ rowF' as
  | [], _ => Nat.le_refl _
  | a :: as, h => by
    have ih := fields_len as fun b hb => h b (List.mem_cons_of_mem _ hb)
    have hh : (showNat a.2.1).length ≤ 4 := nat_len (by decide) (by
      have := h a List.mem_cons_self
      show a.2.1 < 10000
      omega)
    show (line (a.1.name ++ (word " : " ++ (showTy a.2.2 ++ ((if a.2.1 = 1 then [] else word " hot " ++ showNat a.2.1) ++ word " ;")))) ++ showFields (rowOf as)).length ≤ a.1.name.length + 20 + (showTy a.2.2).length + rowF' as
    unfold line
    have e : (if a.2.1 = 1 then ([] : Bytes) else word " hot " ++ showNat a.2.1).length ≤ 9 := by
      split
      · exact Nat.zero_le _
      · rw [List.length_append, word_len]
        show 5 + _ ≤ 9
        omega
    simp only [List.length_append, word_len]
    show (_ + (3 + (_ + (_ + 2)))) + 1 + _ ≤ _
    omega
/-- what holds of the records read before -/
structure RecOk (D : Nat) (r : Rec) : Prop where
  rec_ : ∃ fs, r.t = .rec_ fs ∧ nice fs
  wf : wf r.t false
  full : full r.t
  dp : dp r.t ≤ D
structure TyFit (n D : Nat) (t : Ty) : Prop where
  nice : nice t
  full : full t
  dp : dp t ≤ n + D
structure RowFit (n D : Nat) (as : List (PName × Nat × Ty)) : Prop where
  all : ∀ a ∈ as, TyFit n D a.2.2 ∧ a.2.1 ≤ 1000
theorem row_fit {n D : Nat} : ∀ {as : List (PName × Nat × Ty)}, RowFit n D as → nice (rowOf as) ∧ full (rowOf as) ∧ dp (rowOf as) ≤ n + D
  | [], _ => ⟨trivial, trivial, Nat.zero_le _⟩
  | a :: as, h => by
    obtain ⟨h1, h2, h3⟩ := row_fit (as := as) ⟨fun b hb => h.all b (List.mem_cons_of_mem _ hb)⟩
    obtain ⟨f, hh⟩ := h.all a List.mem_cons_self
    exact ⟨⟨hh, f.nice, h1⟩, ⟨f.full, h2⟩, Nat.max_le.mpr ⟨f.dp, h3⟩⟩
theorem RowFit.snoc {n D : Nat} {as : List (PName × Nat × Ty)} {x : PName × Nat × Ty} (h : RowFit n D as) (hx : TyFit n D x.2.2) (hh : x.2.1 ≤ 1000) : RowFit n D (as ++ [x]) := ⟨fun a ha => by
  rcases List.mem_append.mp ha with ha | ha
  · exact h.all a ha
  · cases List.mem_singleton.mp ha
    exact ⟨hx, hh⟩⟩
theorem rowL_snoc (as : List (PName × Nat × Ty)) (x : PName × Nat × Ty) : rowL (as ++ [x]) = rowL as + (x.1.name.length + 5 + (showTy x.2.2).length) := by
  unfold rowL
  rw [List.map_append, List.sum_append]
  simp
theorem rowF_snoc (as : List (PName × Nat × Ty)) (x : PName × Nat × Ty) : rowF' (as ++ [x]) = rowF' as + (x.1.name.length + 20 + (showTy x.2.2).length) := by
  unfold rowF'
  rw [List.map_append, List.sum_append]
  simp
theorem alts_fit {n D : Nat} {part : Toks → Except ValayBase.Fault (Ty × Toks)} (hp : ∀ l t r, part l = .ok (t, r) → TyFit n D t ∧ (showTy t).length + wtT r ≤ wtT l) : ∀ (f : Nat) (as : List (PName × Nat × Ty)) (l : Toks) (t : Ty) (r : Toks), RowFit n D as → takeAlts part f as l = .ok (t, r) → TyFit (n + 1) D t ∧ (showTy t).length + wtT r ≤ wtT l + rowL as + 10
  | 0, as, l, t, r, _, h => by cases h
  | f + 1, as, l, t, r, ha, h => by
    unfold takeAlts at h
    split at h
    · cases h
    obtain ⟨⟨x, l1⟩, h1, h⟩ := bind_ok h
    dsimp only at h
    split at h
    · cases h
    obtain ⟨l2, h2, h⟩ := bind_ok h
    obtain ⟨⟨t3, l3⟩, h3, h⟩ := bind_ok h
    dsimp only at h
    obtain ⟨w3, le3⟩ := hp _ _ _ h3
    have n1 := c_name h1
    have n2 := c_taken h2
    have hb : RowFit n D (as ++ [(x, 1, t3)]) := ha.snoc w3 (show (1 : Nat) ≤ 1000 by decide)
    have sn := rowL_snoc as (x, 1, t3)
    dsimp only at n1 n2 le3 sn
    split at h
    · obtain ⟨w, le⟩ := alts_fit hp f _ _ t r hb h
      refine ⟨w, ?_⟩
      have := c_drop l3 1
      omega
    · split at h
      · cases h
      obtain ⟨m, h5, h⟩ := map_ok h
      cases h
      have n5 := c_taken h5
      obtain ⟨q1, q2, q3⟩ := row_fit hb
      refine ⟨⟨q1, q2, by show dp (rowOf (as ++ [(x, 1, t3)])) + 1 ≤ _; omega⟩, ?_⟩
      have rl := rowOf_len (as ++ [(x, 1, t3)])
      show (word "one { " ++ (showTy (rowOf (as ++ [(x, 1, t3)])) ++ word " }")).length + _ ≤ _
      rw [List.length_append, List.length_append, word_len, word_len]
      show 6 + (_ + 2) + _ ≤ _
      omega
theorem ty_fit {rs : List Rec} {D : Nat} (hrs : ∀ r ∈ rs, RecOk D r) : ∀ n l t r, takeTy rs n l = .ok (t, r) → TyFit n D t ∧ (showTy t).length + wtT r ≤ wtT l
  | 0, l, t, r, h => by cases h
  | n + 1, l, t, r, h => by
    unfold takeTy nextWord at h
    split at h
    · rename_i c1
      obtain ⟨⟨a, qa, ra⟩, h1, h⟩ := bind_ok h
      obtain ⟨l2, h2, h⟩ := bind_ok h
      obtain ⟨⟨b, qb, rb⟩, h3, h⟩ := bind_ok h
      dsimp only at h
      split at h
      · cases h
      obtain ⟨⟨c, rc⟩, h4, h⟩ := map_ok h
      cases h
      have b1 := int_bound h1
      have b3 := int_bound h3
      have n0 := c_next c1
      have n1 := c_int h1
      have n2 := c_taken h2
      have n3 := c_int h3
      obtain ⟨n4, c32, n5⟩ := c_align h4
      dsimp only at n2 n4 n5
      have l1 := int_len b1.1 b1.2
      have l2 := int_len b3.1 b3.2
      have l3 : (showNat c).length ≤ 2 := nat_len (by decide) (show c < 100 by omega)
      refine ⟨⟨c32, trivial, by show 1 ≤ _; omega⟩, ?_⟩
      show (word "from " ++ (showInt a ++ (word " to " ++ (showInt b ++ (if c = 1 then [] else word " at " ++ showNat c))))).length + wtT rc ≤ _
      by_cases z : c = 1
      · rw [if_pos z]
        simp only [List.length_append, word_len]
        show 5 + (_ + (4 + (_ + 0))) + _ ≤ _
        omega
      · rw [if_neg z]
        have := n5 z
        simp only [List.length_append, word_len]
        show 5 + (_ + (4 + (_ + (4 + _)))) + _ ≤ _
        omega
    · split at h
      · rename_i c1
        obtain ⟨⟨t1, r1⟩, h1, h⟩ := map_ok h
        cases h
        obtain ⟨w1, n1⟩ := ty_fit hrs n _ _ _ h1
        have n0 := c_next c1
        refine ⟨⟨w1.nice, w1.full, by have := w1.dp; show dp t1 + 1 ≤ _; omega⟩, ?_⟩
        show (word "maybe " ++ showTy t1).length + wtT r1 ≤ _
        rw [List.length_append, word_len]
        show 6 + _ + _ ≤ _
        omega
      · split at h
        · rename_i c1
          obtain ⟨⟨k, r0⟩, h0, h⟩ := bind_ok h
          obtain ⟨⟨t1, r1⟩, h1, h⟩ := map_ok h
          cases h
          obtain ⟨n2, k8⟩ := c_count h0
          have k8 : k ≤ 8 := k8
          obtain ⟨w1, n1⟩ := ty_fit hrs n _ _ _ h1
          have n0 := c_next c1
          have l1 : (showNat k).length ≤ 1 := nat_len (by decide) (show k < 10 by omega)
          refine ⟨⟨w1.nice, w1.full, by have := w1.dp; show dp t1 + 1 ≤ _; omega⟩, ?_⟩
          show (word "many " ++ (showNat k ++ (word " " ++ showTy t1))).length + wtT r1 ≤ _
          rw [List.length_append, List.length_append, List.length_append, word_len, word_len]
          show 5 + (_ + (1 + _)) + _ ≤ _
          dsimp only at *
          omega
        · split at h
          · rename_i c1
            obtain ⟨l2, h2, h⟩ := bind_ok h
            have n2 := c_taken h2
            have n0 := c_next c1
            obtain ⟨w, le⟩ := alts_fit (fun l t r e => ty_fit hrs n l t r e) _ _ _ _ _ ⟨fun a ha => by cases ha⟩ h
            have : rowL [] = 0 := rfl
            exact ⟨w, by omega⟩
          · obtain ⟨⟨x, r1⟩, h1, h⟩ := bind_ok h
            have n1 := c_name h1
            dsimp only at h
            cases hf : rs.find? (fun r => r.x.name == x.name) with
            | none =>
              rw [hf] at h
              cases h
            | some y =>
              rw [hf] at h
              cases h
              have ok := hrs y (List.mem_of_find?_eq_some hf)
              have en : y.x.name = x.name := eq_of_beq (List.find?_some (p := fun r : Rec => r.x.name == x.name) hf)
              refine ⟨⟨trivial, ok.full, by have := ok.dp; show dp y.t ≤ _; omega⟩, ?_⟩
              show y.x.name.length + _ ≤ _
              rw [en]
              omega
end LY
set_option Elab.async false
set_option linter.all false
set_option maxRecDepth 100000
set_option maxHeartbeats 4000000
namespace LY
open ValayBase (PTok Toks next taken takeName here wrong word takeWord takeSign nextWord PName showNat showInt Bytes)
open Valaya (takeCount takeInt takeAlign Ty Rec takeTy takeAlts takeFields takeRecs rowOf rowLength showTy showFields shownRec line countLeaves fieldsOf)
open ML (wf)
theorem any_name {α : Type} (l : List α) (f : α → PName) (x : PName) : (l.any (fun a => (f a).name == x.name) = true) = (bstr x.name ∈ l.map fun a => bstr (f a).name) := propext ⟨fun h => by
  obtain ⟨a, ha, e⟩ := List.any_eq_true.mp h
  exact List.mem_map.mpr ⟨a, ha, by rw [eq_of_beq e]⟩, fun h => by
  obtain ⟨a, ha, e⟩ := List.mem_map.mp h
  exact List.any_eq_true.mpr ⟨a, ha, beq_iff_eq.mpr (bstr_inj e)⟩⟩
theorem takeFields_succ {rs : List Rec} {n : Nat} {fs : List (PName × Nat × Ty)} {l : Toks} : takeFields rs (n + 1) fs l = if next (.sign 125) l = true ∧ fs ≠ [] then .ok (.rec_ (rowOf fs), l.drop 1) else
    (fieldTy rs (fs.map fun f => bstr f.1.name) l).bind fun x => takeFields rs n (fs ++ [x.1]) x.2 := by
  have e0 : (fs.isEmpty = false) = (fs ≠ []) := by cases fs <;> simp
  show (if next (.sign 125) l = true ∧ fs.isEmpty = false then _ else _) = _
  by_cases c : next (.sign 125) l = true ∧ fs ≠ []
  · rw [if_pos (by rw [e0]; exact c), if_pos c]
  · rw [if_neg (by rw [e0]; exact c), if_neg c]
    unfold fieldTy
    cases h1 : takeName l with
    | error f => rfl
    | ok x =>
      show (if fs.any (fun f => f.1.name == x.1.name) = true then _ else _) = ((if bstr x.1.name ∈ _ then _ else _ : Except ValayBase.Fault _)).bind _
      by_cases d : bstr x.1.name ∈ fs.map fun f => bstr f.1.name
      · rw [if_pos d, if_pos (by rw [any_name fs (fun f => f.1)]; exact d)]
        rfl
      · rw [if_neg d, if_neg (by rw [any_name fs (fun f => f.1)]; exact d)]
        show (takeSign 58 x.2).bind _ = _
        cases h2 : takeSign 58 x.2 with
        | error f => rfl
        | ok m =>
          show (takeTy rs 6 m).bind _ = ((takeTy rs 6 m).bind _).bind _
          cases h3 : takeTy rs 6 m with
          | error f => rfl
          | ok t =>
            show (if nextWord "hot" t.2 = true then takeCount 1 1000 (t.2.drop 1) else .ok (1, t.2)).bind _ = ((if nextWord "hot" t.2 = true then takeCount 1 1000 (t.2.drop 1) else .ok (1, t.2)).bind _).bind _
            cases h4 : (if nextWord "hot" t.2 = true then takeCount 1 1000 (t.2.drop 1) else .ok (1, t.2)) with
            | error f => rfl
            | ok k =>
              show (takeSign 59 k.2).bind _ = ((takeSign 59 k.2).map _).bind _
              cases h5 : takeSign 59 k.2 with
              | error f => rfl
              | ok m => rfl
/-- one record, behind those told before -/
def recTy (rs : List Rec) (l : Toks) : Except ValayBase.Fault (Rec × Toks) := (takeWord "record" l).bind fun r => if 6 ≤ rs.length then .error ⟨4, here l⟩ else (takeName r).bind fun x =>
  if bstr x.1.name ∈ rs.map (fun y => bstr y.x.name) then .error ⟨5, x.1.place⟩
  else (takeSign 123 x.2).bind fun m => (takeFields rs (m.length + 1) [] m).bind fun t => if 24 < countLeaves t.1 then .error ⟨15, here l⟩ else .ok (⟨x.1, here l, t.1⟩, t.2)
theorem takeRecs_succ {n : Nat} {rs : List Rec} {l : Toks} : takeRecs (n + 1) rs l = if next .last l = true ∧ rs ≠ [] then .ok rs else (recTy rs l).bind fun x => takeRecs n (rs ++ [x.1]) x.2 := by
  have e0 : (rs.isEmpty = false) = (rs ≠ []) := by cases rs <;> simp
  show (if next .last l = true ∧ rs.isEmpty = false then _ else _) = _
  by_cases c : next .last l = true ∧ rs ≠ []
  · rw [if_pos (by rw [e0]; exact c), if_pos c]
  · rw [if_neg (by rw [e0]; exact c), if_neg c]
    unfold recTy
    cases h1 : takeWord "record" l with
    | error f => rfl
    | ok r =>
      show (if 6 ≤ rs.length then _ else _) = ((if 6 ≤ rs.length then _ else _ : Except ValayBase.Fault _)).bind _
      by_cases c6 : 6 ≤ rs.length
      · rw [if_pos c6, if_pos c6]
        rfl
      · rw [if_neg c6, if_neg c6]
        cases h2 : takeName r with
        | error f => rfl
        | ok x =>
          show (if rs.any (fun y => y.x.name == x.1.name) = true then _ else _) = ((if bstr x.1.name ∈ _ then _ else _ : Except ValayBase.Fault _)).bind _
          by_cases d : bstr x.1.name ∈ rs.map fun f => bstr f.x.name
          · rw [if_pos d, if_pos (by rw [any_name rs (fun f => f.x)]; exact d)]
            rfl
          · rw [if_neg d, if_neg (by rw [any_name rs (fun f => f.x)]; exact d)]
            cases h3 : takeSign 123 x.2 with
            | error f => rfl
            | ok m =>
              show (takeFields rs (m.length + 1) [] m).bind _ = ((takeFields rs (m.length + 1) [] m).bind _).bind _
              cases h4 : takeFields rs (m.length + 1) [] m with
              | error f => rfl
              | ok t =>
                show (if 24 < countLeaves t.1 then _ else _) = ((if 24 < countLeaves t.1 then _ else _ : Except ValayBase.Fault _)).bind _
                by_cases c24 : 24 < countLeaves t.1
                · rw [if_pos c24, if_pos c24]
                  rfl
                · rw [if_neg c24, if_neg c24]
                  rfl
theorem field_wf {rs : List Rec} (ro : RsOk rs) {ns : List PySem.Str} {l r : Toks} {x : PName × Nat × Ty} (h : fieldTy rs ns l = .ok (x, r)) : wf x.2.2 false ∧ r.length < l.length := by
  unfold fieldTy at h
  obtain ⟨⟨y, l1⟩, h1, h⟩ := bind_ok h
  dsimp only at h
  split at h
  · cases h
  obtain ⟨l2, h2, h⟩ := bind_ok h
  obtain ⟨⟨t3, l3⟩, h3, h⟩ := bind_ok h
  obtain ⟨⟨k, l4⟩, h4, h⟩ := bind_ok h
  obtain ⟨l5, h5, h⟩ := map_ok h
  cases h
  obtain ⟨w3, n3⟩ := ty_ok ro 6 _ _ _ h3
  have n1 := name_ok h1
  have n2 := taken_ok h2
  have n5 := taken_ok h5
  dsimp only at *
  have h4' : l4.length ≤ l3.length := by
    split at h4
    · have q2 := (count_lt h4).1
      have q4 : (l3.drop 1).length ≤ l3.length := by rw [List.length_drop]; omega
      omega
    · cases h4
      exact Nat.le_refl _
  exact ⟨w3, by omega⟩
structure FldFit (D : Nat) (x : PName × Nat × Ty) : Prop where
  fit : TyFit 6 D x.2.2
  hot : x.2.1 ≤ 1000
  wf : wf x.2.2 false
theorem field_fit {rs : List Rec} {D : Nat} (hrs : ∀ r ∈ rs, RecOk D r) {ns : List PySem.Str} {l r : Toks} {x : PName × Nat × Ty} (h : fieldTy rs ns l = .ok (x, r)) : FldFit D x ∧ x.1.name.length + 20 + (showTy x.2.2).length + wtT r ≤ wtT l ∧ r.length < l.length := by
  unfold fieldTy at h
  obtain ⟨⟨y, l1⟩, h1, h⟩ := bind_ok h
  dsimp only at h
  split at h
  · cases h
  obtain ⟨l2, h2, h⟩ := bind_ok h
  obtain ⟨⟨t3, l3⟩, h3, h⟩ := bind_ok h
  obtain ⟨⟨k, l4⟩, h4, h⟩ := bind_ok h
  obtain ⟨l5, h5, h⟩ := map_ok h
  cases h
  have ro : RsOk rs := fun r hr => ⟨(hrs r hr).rec_.imp fun fs h => h.1, (hrs r hr).wf⟩
  obtain ⟨w3, n3⟩ := ty_ok ro 6 _ _ _ h3
  obtain ⟨f3, c3⟩ := ty_fit hrs 6 _ _ _ h3
  have n1 := name_ok h1
  have c1 := c_name h1
  have n2 := taken_ok h2
  have c2 := c_taken h2
  have n5 := taken_ok h5
  have c5 := c_taken h5
  dsimp only at *
  have h4' : wtT l4 ≤ wtT l3 ∧ k ≤ 1000 ∧ l4.length ≤ l3.length := by
    split at h4
    · have q := c_count h4
      have q2 := (count_lt h4).1
      have q3 := c_drop l3 1
      have q4 : (l3.drop 1).length ≤ l3.length := by rw [List.length_drop]; omega
      exact ⟨by omega, q.2, by omega⟩
    · cases h4
      exact ⟨Nat.le_refl _, by decide, Nat.le_refl _⟩
  exact ⟨⟨f3, h4'.2.1, w3⟩, by omega, by omega⟩
structure FldsFit (D : Nat) (as : List (PName × Nat × Ty)) : Prop where
  all : ∀ a ∈ as, FldFit D a
theorem FldsFit.snoc {D : Nat} {as : List (PName × Nat × Ty)} {x : PName × Nat × Ty} (h : FldsFit D as) (hx : FldFit D x) : FldsFit D (as ++ [x]) := ⟨fun a ha => by
  rcases List.mem_append.mp ha with ha | ha
  · exact h.all a ha
  · cases List.mem_singleton.mp ha
    exact hx⟩
theorem fields_fit {rs : List Rec} {D : Nat} (hrs : ∀ r ∈ rs, RecOk D r) : ∀ (n : Nat) (fs : List (PName × Nat × Ty)) (l : Toks) (t : Ty) (r : Toks), FldsFit D fs → takeFields rs n fs l = .ok (t, r) →
    ∃ as, t = .rec_ (rowOf as) ∧ FldsFit D as ∧ as ≠ [] ∧ rowF' as + wtT r + 40 ≤ wtT l + rowF' fs ∧ r.length < l.length
  | 0, fs, l, t, r, _, h => by cases h
  | n + 1, fs, l, t, r, hf, h => by
    rw [takeFields_succ] at h
    by_cases c : next (.sign 125) l = true ∧ fs ≠ []
    · rw [if_pos c] at h
      cases h
      have := c_next c.1
      refine ⟨fs, rfl, hf, c.2, by omega, ?_⟩
      cases l with
      | nil => cases c.1
      | cons t l => exact Nat.lt_succ_self _
    · rw [if_neg c] at h
      obtain ⟨⟨x, l1⟩, h1, h⟩ := bind_ok h
      obtain ⟨f1, c1, n1⟩ := field_fit hrs h1
      obtain ⟨as, e, fa, na, cw, nl⟩ := fields_fit hrs n _ _ t r (hf.snoc f1) h
      have sn := rowF_snoc fs x
      dsimp only at cw nl c1 n1
      exact ⟨as, e, fa, na, by omega, by omega⟩
theorem flds_wf {D : Nat} {as : List (PName × Nat × Ty)} (h : FldsFit D as) : wf (rowOf as) true ∧ rowLength (rowOf as) = as.length := row_wf fun a ha => (h.all a ha).wf
theorem flds_fit {D : Nat} {as : List (PName × Nat × Ty)} (h : FldsFit D as) : nice (rowOf as) ∧ full (rowOf as) ∧ dp (rowOf as) ≤ 6 + D := row_fit ⟨fun a ha => ⟨(h.all a ha).fit, (h.all a ha).hot⟩⟩
theorem rec_fit {rs : List Rec} {D : Nat} (hrs : ∀ r ∈ rs, RecOk D r) {l r : Toks} {x : Rec} (h : recTy rs l = .ok (x, r)) : RecOk (D + 7) x ∧ countLeaves x.t ≤ 24 ∧ (shownRec x).length + wtT r ≤ wtT l ∧ r.length < l.length ∧ rs.length < 6 := by
  unfold recTy at h
  obtain ⟨l1, h1, h⟩ := bind_ok h
  split at h
  · cases h
  rename_i c6
  obtain ⟨⟨y, l2⟩, h2, h⟩ := bind_ok h
  dsimp only at h
  split at h
  · cases h
  obtain ⟨l3, h3, h⟩ := bind_ok h
  obtain ⟨⟨t, l4⟩, h4, h⟩ := bind_ok h
  dsimp only at h
  split at h
  · cases h
  rename_i c24
  cases h
  obtain ⟨as, rfl, fa, na, cw, nl⟩ := fields_fit hrs _ _ _ _ _ ⟨fun a ha => by cases ha⟩ h4
  have n1 := taken_ok h1
  have c1 := c_taken h1
  have n2 := name_ok h2
  have c2 := c_name h2
  have n3 := taken_ok h3
  have c3 := c_taken h3
  obtain ⟨w1, w2⟩ := flds_wf fa
  obtain ⟨q1, q2, q3⟩ := flds_fit fa
  have lp : 0 < as.length := List.length_pos_iff.mpr na
  have fl := fields_len as fun a ha => (fa.all a ha).hot
  have e0 : rowF' [] = 0 := rfl
  refine ⟨⟨⟨_, rfl, q1⟩, ⟨rfl, w1⟩, ⟨q2, by omega⟩, ?_⟩, Nat.le_of_not_lt c24, ?_, by omega, by omega⟩
  · show dp (rowOf as) + 1 ≤ _
    omega
  · show (line (word "record " ++ (y.name ++ word " {")) ++ (showFields (rowOf as) ++ line (word "}"))).length + _ ≤ _
    unfold line
    simp only [List.length_append, word_len]
    show 7 + (_ + 2) + 1 + (_ + (1 + 1)) + _ ≤ _
    omega
/-- the tokens of a text weigh little -/
theorem token_w {l : Bytes} {x : ValayBase.Tok × Nat} (h : ValayBase.token l = some x) : tokW x.1 ≤ 56 := by
  cases l with
  | nil => cases h
  | cons b r =>
    have h : (if ValayBase.isLetter b = true then (if 16 < ((b :: r).takeWhile fun c => ValayBase.isLetter c || ValayBase.isDigit c).length then none else some (.name ((b :: r).takeWhile fun c => ValayBase.isLetter c || ValayBase.isDigit c), ((b :: r).takeWhile fun c => ValayBase.isLetter c || ValayBase.isDigit c).length))
      else if ValayBase.isDigit b = true then (ValayBase.numberOf ((b :: r).takeWhile ValayBase.isDigit)).map fun n => (.num n, ((b :: r).takeWhile ValayBase.isDigit).length)
      else if ValayBase.SIGNS.contains b = true then some (.sign b.toNat, 1) else none) = some x := h
    split at h
    · split at h
      · cases h
      · cases h
        show 40 + _ ≤ 56
        omega
    · split at h
      · cases hn : ValayBase.numberOf ((b :: r).takeWhile ValayBase.isDigit) with
        | none =>
          rw [hn] at h
          cases h
        | some n =>
          rw [hn] at h
          cases h
          exact (by decide : 40 ≤ 56)
      · split at h
        · cases h
          exact (by decide : 40 ≤ 56)
        · cases h
theorem lex_w : ∀ (n at_ : Nat) (l : Bytes) (ts : Toks), ValayBase.lex n at_ l = .ok ts → wtT ts ≤ 56 * (l.length + 1)
  | 0, at_, l, ts, h => by
    cases h
    show 40 + 0 ≤ _
    omega
  | n + 1, at_, [], ts, h => by
    cases h
    show 40 + 0 ≤ _
    omega
  | n + 1, at_, b :: r, ts, h => by
    unfold ValayBase.lex at h
    split at h
    · have := lex_w n _ _ _ h
      rw [List.length_cons]
      omega
    · split at h
      · have := lex_w n _ _ _ h
        have l2 := drop_while (· != 10) r
        rw [l2, List.length_drop] at this
        rw [List.length_cons]
        omega
      · cases ht : ValayBase.token (b :: r) with
        | none =>
          rw [ht] at h
          cases h
        | some x =>
          rw [ht] at h
          obtain ⟨ts', h1, h2⟩ := map_ok h
          cases h2
          have := lex_w n _ _ _ h1
          have tl := token_len ht
          have tw := token_w ht
          rw [List.length_drop] at this
          rw [wt_cons]
          show tokW x.1 + _ ≤ _
          rw [List.length_cons] at *
          omega
theorem lex_ends : ∀ (n at_ : Nat) (l : Bytes) (ts : Toks), ValayBase.lex n at_ l = .ok ts → ∃ init p, ts = init ++ [⟨p, .last⟩]
  | 0, at_, l, ts, h => by
    cases h
    exact ⟨[], _, rfl⟩
  | n + 1, at_, [], ts, h => by
    cases h
    exact ⟨[], _, rfl⟩
  | n + 1, at_, b :: r, ts, h => by
    unfold ValayBase.lex at h
    split at h
    · exact lex_ends n _ _ _ h
    · split at h
      · exact lex_ends n _ _ _ h
      · cases ht : ValayBase.token (b :: r) with
        | none =>
          rw [ht] at h
          cases h
        | some x =>
          rw [ht] at h
          obtain ⟨ts', h1, h2⟩ := map_ok h
          cases h2
          obtain ⟨init, p, rfl⟩ := lex_ends n _ _ _ h1
          exact ⟨⟨at_, x.1⟩ :: init, p, rfl⟩
end LY
set_option Elab.async false
set_option linter.all false
set_option maxRecDepth 100000
set_option maxHeartbeats 4000000
namespace LY
open PySem PySem.Spec PyProof.Rows L2
open ValayBase (RESERVED lex PTok Toks next taken takeName tokEq here wrong word takeWord takeSign nextWord PName)
open Valaya (takeCount takeInt takeAlign Ty Rec takeTy takeAlts takeFields takeRecs rowOf rowLength countLeaves)
open ML (wf)
section
variable {P : Program} {w : World} {K : PySem.W.Frag} {mg : Str → Option Value} {base : Heap}
abbrev s_read_record : Stmt := top 50
abbrev n_read_record : List Str := ["reader", "start", "name", "fields", "record"]
theorem sc_read_record : FnScope n_read_record ["reader"] (defScope s_read_record) := ⟨rfl, rfl, rfl, by decide +kernel, rfl, by decide +kernel, by decide +kernel⟩

theorem flds_snoc {H : Hp} {x : PName × Nat × Ty} {a i dx : Addr} (ha : H a = some (.ins (cField K) dx (fldF (bstr x.1.name) i x.2.1))) : ∀ {as : List (PName × Nat × Ty)} {fas ias : List Addr}, FldsAt K H (rowOf as) fas ias → FldsAt K H (rowOf (as ++ [x])) (fas ++ [a]) (ias ++ [i])
  | [], fas, ias, h => by
    obtain ⟨rfl, rfl⟩ : fas = [] ∧ ias = [] := h
    exact ⟨⟨dx, ha⟩, rfl, rfl⟩
  | b :: as, f :: fas, j :: ias, h => ⟨h.1, flds_snoc ha h.2⟩
  | b :: as, [], _, h => h.elim
  | b :: as, _ :: _, [], h => h.elim
theorem flds_len {H : Hp} : ∀ {as : List (PName × Nat × Ty)} {fas ias : List Addr}, FldsAt K H (rowOf as) fas ias → fas.length = as.length
  | [], fas, ias, h => by
    obtain ⟨rfl, rfl⟩ : fas = [] ∧ ias = [] := h
    rfl
  | b :: as, f :: fas, j :: ias, h => congrArg (· + 1) (flds_len h.2)
  | b :: as, [], _, h => h.elim
  | b :: as, _ :: _, [], h => h.elim
theorem flds_names {H : Hp} : ∀ {as : List (PName × Nat × Ty)} {fas ias : List Addr}, FldsAt K H (rowOf as) fas ias → ∀ (j : Nat) (a : Addr) (x : Str), fas[j]? = some a → (as.map fun f => bstr f.1.name)[j]? = some x → ∃ dx fi h, H a = some (.ins (cField K) dx (fldF x fi h))
  | [], fas, ias, h => by
    obtain ⟨rfl, rfl⟩ : fas = [] ∧ ias = [] := h
    exact fun j a x q => by simp at q
  | b :: as, f :: fas, i :: ias, h => fun j a x q r => by
    cases j with
    | zero =>
      cases Option.some.inj q
      cases Option.some.inj r
      obtain ⟨dx, e⟩ := h.1
      exact ⟨dx, i, _, e⟩
    | succ j => exact flds_names h.2 j a x q r
  | b :: as, [], _, h => h.elim
  | b :: as, _ :: _, [], h => h.elim
/-- a record read before, by its name -/
theorem RecsR.name {H : Hp} {bad : Addr → Bool} {Rl : Addr} {rs : List Rec} (h : RecsR K H bad Rl rs) : ∃ as : List Addr, H Rl = some (.lst (as.map V.ref)) ∧ as.length = rs.length ∧ ∀ (j : Nat) (q : Addr) (r : Rec), as[j]? = some q → rs[j]? = some r → ∃ dq fq, H q = some (.ins (cRecord K) dq fq) ∧ fq.lookup ("name" : Str) = some (.str (bstr r.x.name)) := by
  obtain ⟨as, l1, l2, l3⟩ := h
  refine ⟨as, l1, l2, fun j q r hq hr => ?_⟩
  obtain ⟨ka, fsr, ert⟩ := l3 j q r hq hr
  obtain ⟨kt, q', C, dq, fq, eq, f1, f2⟩ := ka
  cases eq
  rw [ert] at kt
  obtain ⟨b', dxr, _, _, _, _, _, _, _, er, k1, _⟩ := kt
  cases er
  rw [f1] at k1
  cases k1
  exact ⟨dq, _, (Off.get f1).1, f2⟩
def spRR (K : PySem.W.Frag) : Sp := fun vs H Q E => ∃ (rd : Addr) (ts : Toks) (i : Nat) (Rl : Addr × Addr) (bad : Addr → Bool) (rs : List Rec), vs = [.ref rd] ∧ RdAt K H rd ts i Rl ∧ Bads bad H ∧ bad rd = true ∧ RecsR K H bad Rl.1 rs ∧ RsOk rs ∧ rs.length ≤ 6 ∧ ts.length < sizeLine ∧
  Step H E K rd ts Rl (recTy rs (ts.drop i)) fun x H' => ∀ a, KA K (Off bad H') (.named x.x.name x.t) [a] → Q (.ref a) H'
theorem make_recP (T : Txt K mg) {H1 : Hp} {fl : Addr} {nm : Str} {fs : Ty} {fas ias : List Addr} (wt : wf fs true) (hsm : fas.length < sizeLine) {bad : Addr → Bool} (hb : Bads bad H1) (hfl : Off bad H1 fl = some (.lst (fas.map V.ref))) (hF : FldsAt K (Off bad H1) fs fas ias) (hi : KA K (Off bad H1) fs ias) {R : Addr → Hp → Prop}
    (k : ∀ p H', H1 p = none → Same H1 H' → KA K (Off bad H') (.rec_ fs) [p] → (∃ dx fs', H' p = some (.ins (cRecord K) dx fs') ∧ fs'.lookup ("name" : Str) = some (.str nm) ∧ fs'.lookup ("leaves" : Str) = some (.int (countLeaves fs : Nat))) → R p H') (a dx : Addr) (na : H1 a = none) (nd : H1 dx = none) (ne : dx ≠ a) :
    spRecInit K [.ref a, .str nm, .ref fl] (upd (upd H1 dx (.own a)) a (.ins (cRecord K) dx [])) (fun v H2 => v = .non ∧ R a H2) E0 := by
  obtain ⟨p, dx', fl', nm', fs', fas', ias', ps, e, h1, h2, h3, h4, h5, h6, h7⟩ := make_rec T wt hsm hb hfl hF hi (Q := fun v H => ∀ p, v = .ref p → R p H) (fun p H' n s ka f q e => by cases e; exact k p H' n s ka f) a dx na nd ne
  exact ⟨p, dx', fl', nm', fs', fas', ias', ps, e, h1, h2, h3, h4, h5, h6, fun H' pl sp y q1 q2 q3 q4 q5 q6 q7 => ⟨rfl, (h7 H' pl sp y q1 q2 q3 q4 q5 q6 q7).2 a rfl⟩⟩
theorem tok_ne {H : Hp} {a rd : Addr} {t : PTok} {tx : Str} {ts : Toks} {i : Nat} {Rl : Addr × Addr} (to : TokObj K H a t tx) (hR : RdAt K H rd ts i Rl) : a ≠ rd := fun e => by
  obtain ⟨⟨dt, ha⟩, _⟩ := to
  obtain ⟨dx, Tl, hI⟩ := hR
  rw [e, hI.at_] at ha
  injection ha with ha
  injection ha with _ _ ha
  unfold rdF tokF at ha
  injection ha with ha _
  injection ha with ha _
  exact absurd ha (by decide +kernel)
theorem ok_read_record (T : Txt K mg) (ta : TupIs K mg "ALIGNS") : COk P w K mg base (L2.CX P w) 23 "read_record" (spRR K) :=
  mkC T.g_read_record T.d_read_record sc_read_record (fun vs H Q E h => by obtain ⟨rd, ts, i, Rl, bad, rs, rfl, _⟩ := h; rfl) (fun _ _ _ _ _ _ us hl => match us, hl with | [_], _ => rfl) fun cdv A outer s H vs Q E hr h => by
    obtain ⟨rd, ts, i, Rl, bad, rs, rfl, hR, hb, hbr, hrs, hro, hsix, htl, st⟩ := h
    obtain ⟨dx, Tl, hI⟩ := id hR
    have hne := hrs.ne hI
    obtain ⟨t, ht⟩ := hR.tok
    refine ⟨_, (pss_cons (ps_set (i := 1) sc_read_record.nd rfl (Or.inl rfl) (by exact (pe_mx (CX := L2.CX P w) (E := fun _ => E) hr (pasE (takes_of rfl rfl rfl rfl)) (pv 0) (by exact (pa_cons pe_str pa_nil)))))
      (pss_cons (ps_if (pt_cmpR op_eq (pe_callB call_len (by rfl) T.f_len (by decide +kernel) (by exact (pa_cons (pe_fld (pv 0) (by rfl)) pa_nil))) (pe_gn rfl) (nomark _)) (pss_one (ps_raise rfl (takes_of rfl rfl rfl rfl) (T.mkFault hr (by exact (pa_cons pe_int (pa_cons (pe_fld (pv 1) (by rfl)) pa_nil)))))) pss_nil)
      (pss_cons (ps_set (i := 2) sc_read_record.nd rfl (Or.inl rfl) (by exact (pe_mx (CX := L2.CX P w) (E := fun _ => E) hr (pasE (takes_of rfl rfl rfl rfl)) (pv 0) (by exact (pa_cons (pe_lc (own := [("record", 4)]) (g := gName 4) (tt := tYes) (te := (tFld K (tVar 4) "name")) rfl sc_read_record.nd (pi_list (pe_fld (pv 0) (by rfl))) (blkOk_by (own := [("record", 4)]) (N := n_read_record) (sc := defScope s_read_record) (by decide +kernel)) (fun _ _ _ _ _ => by exact (pg_name (i := 4) sc_read_record.nd rfl (Or.inl rfl))) (fun _ _ _ _ _ => pts_nil) (fun _ _ _ _ _ => by exact (pe_fld (pv 4) (by rfl)))) pa_nil)))))
      (pss_cons (ps_expr (pe_mx (CX := L2.CX P w) (E := fun _ => E) hr (pasE (takes_of rfl rfl rfl rfl)) (pv 0) (by exact (pa_cons pe_str pa_nil))))
      (pss_cons (ps_set (i := 3) sc_read_record.nd rfl (Or.inl rfl) (by exact (pe_lst pa_nil)))
      (pss_cons (ps_while (passes_of rfl) (PW.pt (pw_or (pt_not (pt_truth (pv 3) (by intro _; rfl))) (pw_or1 (pt_not (pt_val (pe_mx (CX := CX0) hr pas0 (pv 0) (by exact (pa_cons pe_str pa_nil)))))))) (pss_one (ps_expr (pe_bm PySem.F.plainAttrs_list PySem.F.slot_list_append PySem.F.type_list_append mt_append (pv 3) (by exact (pa_cons (pe_cx (CX := L2.CX P w) (E := fun _ => E) hr (pasE (takes_of rfl rfl rfl rfl)) (by exact (pa_cons (pv 0) (pa_cons (pv 3) pa_nil)))) pa_nil))))))
      (pss_cons (ps_expr (pe_mx (CX := L2.CX P w) (E := fun _ => E) hr (pasE (takes_of rfl rfl rfl rfl)) (pv 0) (by exact (pa_cons pe_str pa_nil))))
      (pss_cons (ps_set (i := 4) sc_read_record.nd rfl (Or.inl rfl) (by exact (pe_kx hr (by exact (pa_cons (pv 2) (pa_cons (pv 3) pa_nil))))))
      (pss_cons (ps_if (pt_cmpR op_gt (pe_fld (pv 4) (by rfl)) (pe_gn rfl) (nomark _)) (pss_one (ps_raise rfl (takes_of rfl rfl rfl rfl) (T.mkFault hr (by exact (pa_cons pe_int (pa_cons (pe_fld (pv 1) (by rfl)) pa_nil)))))) pss_nil)
      (pss_one (ps_ret (by exact (pv 4))))))))))))), ?_⟩
    unfold recTy takeWord taken at st
    refine ⟨_, rfl, rd, _, dx, _, spTake K, rfl, hI.at_, rfl, (ok_take T).mono (by decide), rd, "record", ts, i, Rl, t, rfl, by decide +kernel, hR, ht, fun z a tx H1 to s1 hR1 => ?_, fun z => ?_⟩
    case refine_2 =>
      rw [if_neg (fun c => z ((kRecord.2 _).mpr ((next_is ht).mp c))), drop_tok ht] at st
      exact st
    have an := tok_ne to hR1
    obtain ⟨⟨dt, ha⟩, _⟩ := id to
    rw [if_pos ((next_is ht).mpr ((kRecord.2 _).mp z))] at st
    have e1 : (ts.drop i).drop 1 = ts.drop (i + 1) := by rw [List.drop_drop]
    have h0 : here (ts.drop i) = t.place := by rw [drop_tok ht]; rfl
    rw [e1, h0] at st
    have st : Step H E K rd ts Rl (if 6 ≤ rs.length then .error ⟨4, t.place⟩ else (takeName (ts.drop (i + 1))).bind fun x => if bstr x.1.name ∈ rs.map (fun y => bstr y.x.name) then .error ⟨5, x.1.place⟩
      else (takeSign 123 x.2).bind fun m => (takeFields rs (m.length + 1) [] m).bind fun t' => if 24 < countLeaves t'.1 then .error ⟨15, t.place⟩ else .ok ((⟨x.1, t.place, t'.1⟩ : Rec), t'.2)) fun x H' => ∀ a, KA K (Off bad H') (.named x.x.name x.t) [a] → Q (.ref a) H' := st
    have hrs1 := hrs.but s1 hbr hne
    obtain ⟨as, l1, l2, l3⟩ := hrs1.name
    obtain ⟨dx1, Tl1, hI1⟩ := id hR1
    refine ⟨_, rfl, rd, _, dx1, _, _, rfl, hI1.at_, T.cl_Reader, T.na_Reader_records, rfl, _, rs.length, rfl, .inl ⟨_, SqL.of l1, by rw [List.length_map, l2]⟩, _, T.i_MOST_RECORDS, rfl, _, rfl, ?_⟩
    refine (show if decide (V.int (rs.length : Nat) = V.int 6) = true then _ else _ from ?_)
    by_cases c6 : 6 ≤ rs.length
    · rw [if_pos c6] at st
      have e6 : rs.length = 6 := by omega
      refine iteC (by rw [e6]; rfl) ⟨_, rfl, a, _, dt, _, _, rfl, ha, T.cl_Token, T.na_Token_place, rfl, ?_⟩
      exact flt_go fun d nd => st H1 d s1 nd
    rw [if_neg c6] at st
    refine iteD (fun e => c6 (by injection e with e; omega)) ?_
    obtain ⟨t1, ht1⟩ := hR1.tok
    refine ⟨_, rfl, rd, _, dx1, _, spTakeName K, rfl, hI1.at_, rfl, (ok_take_name T).mono (by decide), _, rfl, rd, _, dx1, _, _, rfl, hI1.at_, T.cl_Reader, T.na_Reader_records, rfl, Rl.1, rfl, ⟨_, SqL.of l1⟩, fun D hD => lc_val (vs := (rs.map fun y => bstr y.x.name).map V.str) hD (SqL.of l1) (by rw [List.length_map, List.length_map]; exact l2) (by rw [l2]; exact Nat.lt_of_le_of_lt hsix (by decide)) (fun j a v q z => ?_) (fun _ => rfl) (fun _ => rfl) fun H2 s2 d2 => ?_⟩
    · obtain ⟨x, hx, rfl⟩ := map_get z
      obtain ⟨r, hr, rfl⟩ := map_get hx
      obtain ⟨dq, fq, f1, f2⟩ := l3 j a r q hr
      exact ⟨_, dq, _, f1, T.cl_Record, T.na_Record_name, f2⟩
    have sb2 : SameBut rd H H2 := s1.trans (Same.but s2)
    refine ⟨rd, D, (rs.map fun y => bstr y.x.name), ts, i + 1, Rl, t1, rfl, SqL.of d2, hR1.same s2, ht1, fun b eb hbb => ?_, fun z => ?_⟩
    case refine_2 =>
      rw [name_not ht1 z] at st
      exact FltB.from st sb2
    rw [name_at ht1 eb hbb] at st
    have st : Step H E K rd ts Rl (if bstr b ∈ rs.map (fun y => bstr y.x.name) then .error ⟨5, t1.place⟩
      else (takeSign 123 (ts.drop (i + 1 + 1))).bind fun m => (takeFields rs (m.length + 1) [] m).bind fun t' => if 24 < countLeaves t'.1 then .error ⟨15, t.place⟩ else .ok ((⟨⟨t1.place, b⟩, t.place, t'.1⟩ : Rec), t'.2)) fun x H' => ∀ a, KA K (Off bad H') (.named x.x.name x.t) [a] → Q (.ref a) H' := st
    refine ⟨fun c => ?_, fun c H3 s3 hR3 => ?_⟩
    · rw [if_pos c] at st
      exact FltB.from st sb2
    rw [if_neg c] at st
    have sb3 := sb2.trans s3
    obtain ⟨dx3, Tl3, hI3⟩ := id hR3
    refine ⟨_, rfl, rd, _, dx3, _, spTake K, rfl, hI3.at_, rfl, (ok_take T).mono (by decide), take_ k123 hR3 ?_⟩
    unfold takeSign at st
    cases c4 : taken (.sign 123) (ts.drop (i + 1 + 1)) with
    | error f =>
      rw [c4] at st
      exact FltB.from st sb3
    | ok r4 =>
      rw [c4] at st
      intro H4 j4 s4 hR4 e4 _
      have e4 : ts.drop j4 = r4 := e4
      subst e4
      have sb4 := sb3.trans s4
      have hb4 := hb.but sb4 hR4.some
      have hrs4 := hrs.but sb4 hbr hne
      have a4 : H4 a = some (.ins (cToken K) dt (tokF (.str (kindT t.tok)) (.str tx) t.place)) := s4 _ _ (s3 _ _ (s2 _ _ ha) an) an
      have st : Step H E K rd ts Rl ((takeFields rs ((ts.drop j4).length + 1) [] (ts.drop j4)).bind fun t' => if 24 < countLeaves t'.1 then .error ⟨15, t.place⟩ else .ok ((⟨⟨t1.place, b⟩, t.place, t'.1⟩ : Rec), t'.2)) fun x H' => ∀ a, KA K (Off bad H') (.named x.x.name x.t) [a] → Q (.ref a) H' := st
      refine ⟨Nat.zero_le _, fun F nF4 => ?_⟩
      have H4rd : H4 rd ≠ none := hR4.some
      have Frd : F ≠ rd := fun e => H4rd (by rw [← e]; exact nF4)
      have H4T : H4 Rl.2 ≠ none := by
        obtain ⟨_, Tl4, hI4⟩ := id hR4
        obtain ⟨as, q1, _⟩ := hI4.toks
        rw [← hI4.tl, (Wo.get q1).1]
        exact fun z => by cases z
      have FT : F ≠ Rl.2 := fun e => H4T (by rw [← e]; exact nF4)
      have nF : H F = none := by
        cases e : H F with
        | none => rfl
        | some o =>
          rw [sb4 _ _ e Frd] at nF4
          cases nF4
      have aF : a ≠ F := ne_of_none a4 nF4
      let bad' : Addr → Bool := fun c => bad c || decide (c = F)
      have bad'_no : ∀ {c : Addr}, bad' c = false → bad c = false ∧ c ≠ F ∧ c ≠ rd := fun {c} h => by
        obtain ⟨a1, a2⟩ := Bool.or_eq_false_iff.mp h
        exact ⟨a1, of_decide_eq_false a2, fun e => by
          rw [e, hbr] at a1
          cases a1⟩
      have hbr' : bad' rd = true := by
        show (bad rd || _) = true
        rw [hbr]
        rfl
      have s45 : Same H4 (upd H4 F (.lst [])) := same_new nF4
      have recs5 : RecsR K (upd H4 F (.lst [])) bad' Rl.1 rs := by
        obtain ⟨as, l1, l2, l3⟩ := hrs4
        exact ⟨as, s45 _ _ l1, l2, fun m a r q z => ⟨(l3 m a r q z).1.same fun b o e => by
          obtain ⟨e1, e2⟩ := Off.get e
          refine Off.of (s45 _ _ e1) ?_
          show (bad b || decide (b = F)) = false
          rw [e2, decide_eq_false (ne_of_none e1 nF4)]
          rfl, (l3 m a r q z).2⟩⟩
      obtain ⟨_, m1, _⟩ := hrs
      have RF : Rl.1 ≠ F := fun e => by
        rw [e, nF] at m1
        cases m1
      refine ⟨fun m σ H' => ∃ (j fuel : Nat) (as : List (PName × Nat × Ty)) (fas ias : List Addr), m = ts.length - j ∧ σ = [some (.ref rd), some (.ref a), some (.str (bstr b)), some (.ref F), none] ∧ SameBut rd H H' ∧ RdAt K H' rd ts j Rl ∧ H' a = some (.ins (cToken K) dt (tokF (.str (kindT t.tok)) (.str tx) t.place)) ∧ H' F = some (.lst (fas.map V.ref)) ∧
          FldsAt K (Off bad' H') (rowOf as) fas ias ∧ KA K (Off bad' H') (rowOf as) ias ∧ (∀ a ∈ as, wf a.2.2 false) ∧ as.length ≤ j ∧ (ts.drop j).length < fuel ∧ RecsR K H' bad' Rl.1 rs ∧ takeFields rs ((ts.drop j4).length + 1) [] (ts.drop j4) = takeFields rs fuel as (ts.drop j),
        ⟨_, j4, _, [], [], [], rfl, rfl, sb4.trans (Same.but s45), hR4.same s45, s45 _ _ a4, upd_same, ⟨rfl, rfl⟩, rfl, (fun a h => by cases h), Nat.zero_le _, Nat.lt_succ_self _, recs5, rfl⟩, ?_⟩
      rintro m σ H' ⟨j, fuel, as, fas, ias, rfl, rfl, sb, hR', a', f', hF, ka, wfa, few, rem, recs, et⟩
      obtain ⟨fuel, rfl⟩ : ∃ f, fuel = f + 1 := ⟨fuel - 1, by omega⟩
      have jl : j < ts.length := by
        obtain ⟨tq, htq⟩ := hR'.tok
        exact (List.getElem?_eq_some_iff.mp htq).1
      have flen := flds_len hF
      have hb' : Bads bad' H' := fun c h z => by
        rcases Bool.or_eq_true_iff.mp h with h | h
        · by_cases cr : c = rd
          · rw [cr] at z
            exact hR'.some z
          · cases e : H c with
            | none => exact hb c h e
            | some o =>
              rw [sb _ _ e cr] at z
              cases z
        · rw [of_decide_eq_true h, f'] at z
          cases z
      obtain ⟨dx', Tl', hI'⟩ := id hR'
      have step : ¬ (next (.sign 125) (ts.drop j) = true ∧ as ≠ []) → takeFields rs ((ts.drop j4).length + 1) [] (ts.drop j4) = (fieldTy rs (as.map fun f => bstr f.1.name) (ts.drop j)).bind fun x => takeFields rs fuel (as ++ [x.1]) x.2 := fun hc => by
        rw [et, takeFields_succ, if_neg hc]
      -- one field more
      have more : ¬ (next (.sign 125) (ts.drop j) = true ∧ as ≠ []) → ∀ Q' : VK, (∀ (x : PName × Nat × Ty) (p : Addr) (j5 : Nat) (H5 : Hp), SameBut rd H' H5 → RdAt K H5 rd ts j5 Rl → fieldTy rs (as.map fun f => bstr f.1.name) (ts.drop j) = .ok (x, ts.drop j5) → FldObj K (Off bad' H5) p x → Q' (.ref p) H5) → spRF K [.ref rd, .ref F] H' Q' E := fun hc Q' kk => by
        refine ⟨rd, F, ts, j, Rl, bad', rs, fas, as.map fun f => bstr f.1.name, rfl, hR', hb', hbr', recs, hro, SqL.of f', by rw [List.length_map]; exact flen, by omega, flds_names (hF.same (Off.le _ _)), ?_⟩
        have st := st
        rw [step hc] at st
        cases h1 : fieldTy rs (as.map fun f => bstr f.1.name) (ts.drop j) with
        | error f =>
          rw [h1] at st
          exact FltB.from st sb
        | ok y =>
          obtain ⟨x, r⟩ := y
          intro H5 j5 s5 hR5 e5 p fo
          have e5 : ts.drop j5 = r := e5
          exact kk x p j5 H5 s5 hR5 (by rw [h1, e5]) fo
      -- the list with it
      have next_ : ∀ (x : PName × Nat × Ty) (p : Addr) (j5 : Nat) (H5 : Hp), ¬ (next (.sign 125) (ts.drop j) = true ∧ as ≠ []) → SameBut rd H' H5 → RdAt K H5 rd ts j5 Rl → fieldTy rs (as.map fun f => bstr f.1.name) (ts.drop j) = .ok (x, ts.drop j5) → FldObj K (Off bad' H5) p x →
          H5 F = some (.lst (fas.map V.ref)) ∧ (fas.map V.ref).length < sizeLine ∧ ∃ m', m' < ts.length - j ∧ ∃ (j' fuel : Nat) (as : List (PName × Nat × Ty)) (fas' ias : List Addr), m' = ts.length - j' ∧ [some (V.ref rd), some (.ref a), some (.str (bstr b)), some (.ref F), none] = [some (V.ref rd), some (.ref a), some (.str (bstr b)), some (.ref F), none] ∧ SameBut rd H (upd H5 F (.lst (fas.map V.ref ++ [.ref p]))) ∧ RdAt K (upd H5 F (.lst (fas.map V.ref ++ [.ref p]))) rd ts j' Rl ∧ upd H5 F (.lst (fas.map V.ref ++ [.ref p])) a = some (.ins (cToken K) dt (tokF (.str (kindT t.tok)) (.str tx) t.place)) ∧ upd H5 F (.lst (fas.map V.ref ++ [.ref p])) F = some (.lst (fas'.map V.ref)) ∧
          FldsAt K (Off bad' (upd H5 F (.lst (fas.map V.ref ++ [.ref p])))) (rowOf as) fas' ias ∧ KA K (Off bad' (upd H5 F (.lst (fas.map V.ref ++ [.ref p])))) (rowOf as) ias ∧ (∀ a ∈ as, wf a.2.2 false) ∧ as.length ≤ j' ∧ (ts.drop j').length < fuel ∧ RecsR K (upd H5 F (.lst (fas.map V.ref ++ [.ref p]))) bad' Rl.1 rs ∧ takeFields rs ((ts.drop j4).length + 1) [] (ts.drop j4) = takeFields rs fuel as (ts.drop j') := fun x p j5 H5 hc s5 hR5 e5 fo => by
        have f5 := s5 _ _ f' Frd
        obtain ⟨wx, lx⟩ := field_wf hro e5
        rw [List.length_drop, List.length_drop] at lx
        have old : ∀ c o, H' c = some o → c ≠ F → c ≠ rd → upd H5 F (.lst (fas.map V.ref ++ [.ref p])) c = some o := fun c o e n1 n2 => (upd_ne n1).trans (s5 _ _ e n2)
        have off : Same (Off bad' H') (Off bad' (upd H5 F (.lst (fas.map V.ref ++ [.ref p])))) := Off.same fun c o e nb => old c o e (bad'_no nb).2.1 (bad'_no nb).2.2
        have off5 : Same (Off bad' H5) (Off bad' (upd H5 F (.lst (fas.map V.ref ++ [.ref p])))) := Off.same fun c o e nb => (upd_ne (bad'_no nb).2.1).trans e
        obtain ⟨dp, ip, ep, kp⟩ := fo
        refine ⟨f5, by rw [List.length_map]; omega, ts.length - j5, by omega, j5, fuel, as ++ [x], fas ++ [p], ias ++ [ip], rfl, rfl, ?_, rd_frame hR5 f5 FT fun c o e ne => (upd_ne ne).trans e, old _ _ a' aF an, ?_, flds_snoc (off5 _ _ ep) (hF.same off), ka_snoc (kp.same off5) (ka.same off), ?_, ?_, ?_, ?_, ?_⟩
        · exact fun c o e ne => (upd_ne (ne_of_none e nF)).trans (s5 _ _ (sb _ _ e ne) ne)
        · rw [upd_same, List.map_append]
          rfl
        · intro a ha
          rcases List.mem_append.mp ha with h | h
          · exact wfa a h
          · cases List.mem_singleton.mp h
            exact wx
        · rw [List.length_append]
          show as.length + 1 ≤ j5
          omega
        · rw [List.length_drop] at rem ⊢
          omega
        · obtain ⟨rl, l1, l2, l3⟩ := recs
          exact ⟨rl, old _ _ l1 RF hne, l2, fun m a r q z => ⟨(l3 m a r q z).1.same off, (l3 m a r q z).2⟩⟩
        · rw [step hc, e5]
          rfl
      have emp : (!(fas.map V.ref).isEmpty) = decide (as ≠ []) := by
        cases as with
        | nil => rw [List.eq_nil_of_length_eq_zero flen]; rfl
        | cons x as =>
          cases fas with
          | nil => cases flen
          | cons f fas => rfl
      refine ⟨_, rfl, _, .inl ⟨_, SqL.of f', emp.symm⟩, ?_⟩
      by_cases c0 : as = []
      · rw [decide_eq_false (fun z => z c0)]
        have hc : ¬ (next (.sign 125) (ts.drop j) = true ∧ as ≠ []) := fun z => z.2 c0
        refine iteT (iteT ⟨_, fun _ _ h => h, _, rfl, .inl ⟨rfl, _, SqL.of f'⟩, _, ok_read_field T ta, _, rfl, _, rfl, ?_⟩)
        dsimp only [tNil]
        refine more hc _ fun x p j5 H5 s5 hR5 e5 fo => ?_
        obtain ⟨f5, sm, rest⟩ := next_ x p j5 H5 hc s5 hR5 e5 fo
        exact ⟨F, _, _, rfl, rfl, f5, sm, rest⟩
      · rw [decide_eq_true c0]
        refine iteF ⟨_, rfl, rd, _, dx', _, spSees K, rfl, hI'.at_, rfl, (ok_sees T).mono (by decide), see_ k125.2 hR' ⟨_, rfl, ?_⟩⟩
        cases h125 : next (.sign 125) (ts.drop j) with
        | false =>
          have hc : ¬ (next (.sign 125) (ts.drop j) = true ∧ as ≠ []) := fun z => by
            rw [h125] at z
            cases z.1
          refine iteT ⟨_, fun _ _ h => h, _, rfl, .inl ⟨rfl, _, SqL.of f'⟩, _, ok_read_field T ta, _, rfl, _, rfl, ?_⟩
          dsimp only [tNil]
          refine more hc _ fun x p j5 H5 s5 hR5 e5 fo => ?_
          obtain ⟨f5, sm, rest⟩ := next_ x p j5 H5 hc s5 hR5 e5 fo
          exact ⟨F, _, _, rfl, rfl, f5, sm, rest⟩
        | true =>
          refine iteF ?_
          rw [et, takeFields_succ, if_pos ⟨h125, c0⟩] at st
          have st : Step H E K rd ts Rl (if 24 < countLeaves (rowOf as) then .error ⟨15, t.place⟩ else .ok ((⟨⟨t1.place, b⟩, t.place, .rec_ (rowOf as)⟩ : Rec), (ts.drop j).drop 1)) fun x H' => ∀ a, KA K (Off bad H') (.named x.x.name x.t) [a] → Q (.ref a) H' := st
          refine ⟨_, rfl, rd, _, dx', _, spTake K, rfl, hI'.at_, rfl, (ok_take T).mono (by decide), take_ k125 hR' ?_⟩
          unfold taken
          rw [if_pos h125]
          intro H5 j5 s5 hR5 e5 _
          have e5 : ts.drop j5 = (ts.drop j).drop 1 := e5
          have sb5 := sb.trans s5
          have hb5 := hb.but sb5 hR5.some
          have off5 : Same (Off bad' H') (Off bad H5) := fun c o e => by
            obtain ⟨e1, nb⟩ := Off.get e
            obtain ⟨n1, n2, n3⟩ := bad'_no nb
            exact Off.of (s5 _ _ e1 n3) n1
          have a5 := s5 _ _ a' an
          refine ⟨cRecord K, spRecInit K, (ok_Record T).mono (by decide), _, rfl, _, rfl, ?_⟩
          show ∀ a dx : Addr, _ → _ → _ → spRecInit K [V.ref a, V.str (bstr b), V.ref F] _ _ _
          refine make_recP T (nm := bstr b) (row_wf wfa).1 (by omega) hb5 (Off.of (s5 _ _ f' Frd) (hb.new nF)) (hF.same off5) (ka.same off5) fun p H6 np s6 kp ⟨dxp, fs', ep, e1, e2⟩ => ?_
          refine ⟨_, rfl, p, _, dxp, fs', _, rfl, ep, T.cl_Record, T.na_Record_leaves, e2, _, T.i_MOST_LEAVES, _, _, rfl, rfl, _, rfl, ?_⟩
          refine (show if decide ((24 : Int) < (countLeaves (rowOf as) : Int)) = true then _ else _ from ?_)
          by_cases c24 : 24 < countLeaves (rowOf as)
          · rw [if_pos c24] at st
            refine iteC (by omega) ⟨_, rfl, a, _, dt, _, _, rfl, s6 _ _ a5, T.cl_Token, T.na_Token_place, rfl, ?_⟩
            exact flt_go fun d nd => st H6 d (sb5.trans (Same.but s6)) nd
          · rw [if_neg c24] at st
            exact iteD (by omega) ⟨_, rfl, st H6 j5 (sb5.trans (Same.but s6)) (hR5.same s6) e5 p ⟨kp, p, _, dxp, fs', rfl, Off.of ep (hb5.new np), e1⟩⟩
end
end LY
set_option Elab.async false
set_option linter.all false
set_option maxRecDepth 100000
set_option maxHeartbeats 4000000
set_option exponentiation.threshold 4000
namespace LY
open PySem PySem.Spec PyProof.Rows L2
open ValayBase (word showNat showInt)
open Valaye (Niche Form formOf better moved noNiche bits0 sharedBits maybeForm taken_)
open Valaya (Ty countLeaves rowLength countBy showTy showFields shownRec line fieldsOf Rec)
open ML (Cod cod rows wf frm carrier)
/-! ### lengths of texts -/
theorem of_len (s : String) : (Str.ofString s).length = s.toList.length := by
  have := ofString_ofList_length s.toList
  rw [String.ofList_toList] at this
  exact this
theorem show_len (i : Int) : (Str.ofString (toString i)).length = (showInt i).length := by
  rw [of_len]
  unfold showInt showNat
  cases i with
  | ofNat n =>
    rw [if_neg (by show ¬ ((n : Int) < 0); omega), List.length_map]
    show n.repr.toList.length = (Nat.toDigits 10 n).length
    rw [Nat.toList_repr]
  | negSucc n =>
    rw [if_pos (Int.negSucc_lt_zero n), List.length_cons, List.length_map]
    show ("-" ++ (n + 1).repr).toList.length = _
    rw [String.toList_append, List.length_append, Nat.toList_repr]
    show 1 + _ = _
    rw [Nat.add_comm]
    rfl
theorem nat_show_len (n : Nat) : (Str.ofString (toString (n : Int))).length = (showNat n).length := by
  rw [show_len]
  unfold showInt
  rw [if_neg (by omega)]
  rfl
theorem add_len (a b : Str) : (a ++ b).length = a.length + b.length := by
  show (a.cps ++ b.cps).size = _
  rw [Array.size_append]
  rfl
theorem join_len (sep : Str) : ∀ l : List Str, l ≠ [] → (Txt.join sep l).length = (l.map (·.length)).sum + (l.length - 1) * sep.length
  | [], h => absurd rfl h
  | a :: l, _ => by
    have gen : ∀ (l : List Str) (acc : Array Nat), (l.foldl (fun acc p => acc ++ sep.cps ++ p.cps) acc).size = acc.size + (l.map (·.length)).sum + l.length * sep.length := fun l => by
      induction l with
      | nil => intro acc; simp
      | cons b l ih =>
        intro acc
        rw [List.foldl_cons, ih, Array.size_append, Array.size_append, List.map_cons, List.sum_cons, List.length_cons, Nat.succ_mul]
        show acc.size + sep.length + b.length + _ + _ = _
        omega
    show (l.foldl (fun acc p => acc ++ sep.cps ++ p.cps) a.cps).size = _
    rw [gen, List.map_cons, List.sum_cons, List.length_cons]
    show a.length + _ + _ = _
    rw [Nat.add_sub_cancel]
theorem join_nil (sep : Str) : (Txt.join sep []).length = 0 := rfl
theorem log_small {i : Int} (h1 : -1000000 ≤ i) (h2 : i ≤ 1000000) : i.natAbs.log2 < 1920 := by
  by_cases z : i.natAbs = 0
  · rw [z]
    decide
  · rw [Nat.log2_lt z]
    refine Nat.lt_of_le_of_lt (show i.natAbs ≤ 2 ^ 20 from ?_) (Nat.pow_lt_pow_right (by decide) (by decide))
    show i.natAbs ≤ 1048576
    omega
section
variable {P : Program} {w : World} {K : PySem.W.Frag} {mg : Str → Option Value} {base : Heap}
abbrev s_Number_one_form : Stmt := inClass (top 12) 2
abbrev n_Number_one_form : List Str := ["self", "text"]
theorem sc_Number_one_form : FnScope n_Number_one_form ["self"] (defScope s_Number_one_form) := ⟨rfl, rfl, rfl, by decide +kernel, rfl, by decide +kernel, by decide +kernel⟩
abbrev s_Maybe_one_form : Stmt := inClass (top 13) 2
abbrev n_Maybe_one_form : List Str := ["self"]
theorem sc_Maybe_one_form : FnScope n_Maybe_one_form ["self"] (defScope s_Maybe_one_form) := ⟨rfl, rfl, rfl, by decide +kernel, rfl, by decide +kernel, by decide +kernel⟩
abbrev s_One_one_form : Stmt := inClass (top 14) 2
abbrev n_One_one_form : List Str := ["self", "told", "name", "inner"]
theorem sc_One_one_form : FnScope n_One_one_form ["self"] (defScope s_One_one_form) := ⟨rfl, rfl, rfl, by decide +kernel, rfl, by decide +kernel, by decide +kernel⟩
abbrev s_Many_one_form : Stmt := inClass (top 17) 1
abbrev n_Many_one_form : List Str := ["self"]
theorem sc_Many_one_form : FnScope n_Many_one_form ["self"] (defScope s_Many_one_form) := ⟨rfl, rfl, rfl, by decide +kernel, rfl, by decide +kernel, by decide +kernel⟩
abbrev s_Record_one_form : Stmt := inClass (top 19) 1
abbrev n_Record_one_form : List Str := ["self"]
theorem sc_Record_one_form : FnScope n_Record_one_form ["self"] (defScope s_Record_one_form) := ⟨rfl, rfl, rfl, by decide +kernel, rfl, by decide +kernel, by decide +kernel⟩

abbrev capL : Nat := 4000000
def spForm (K : PySem.W.Frag) (t : Ty) : Sp := fun vs H Q _ => ∃ a : Addr, vs = [.ref a] ∧ KA K H t [a] ∧ (showTy t).length ≤ capL ∧ ∀ H' s, Same H H' → s.length = (showTy t).length → Q (.str s) H'
theorem cap_lt {n : Nat} (h : n ≤ capL + 100) : n ≤ sizeLine := Nat.le_trans h (by decide)
theorem num_form (T : Txt K mg) {lo hi : Int} {al : Nat} (wt : wf (.num lo hi al) false) (ha : al ≤ 32) : MOk P w K mg base CX0 1 (cNumber K) "one_form" (spForm K (.num lo hi al)) :=
  mkM T.cl_Number T.me_Number_one_form T.d_Number_one_form sc_Number_one_form (fun vs H Q E h => by obtain ⟨a, rfl, _⟩ := h; rfl) (fun _ _ _ _ _ _ us hl => match us, hl with | [_], _ => rfl) fun cdv A outer s H vs Q E hr h => by
    obtain ⟨a, rfl, ⟨b, dx, sp, y, e, h1, h2, h3⟩, cap, kk⟩ := h
    cases e
    obtain ⟨_, w1, w2, w3⟩ := id wt
    refine ⟨_, PSs.nox (pss_cons (ps_set (i := 1) sc_Number_one_form.nd rfl (Or.inl rfl) (by exact (pe_op op_add_str (pe_op op_add_str (pe_op op_add_str pe_str (pe_callTy call_str_int (by rfl) T.f_str (by decide +kernel) (by exact (pa_cons (pe_fld (pv 0) (by rfl)) pa_nil)))) pe_str) (pe_callTy call_str_int (by rfl) T.f_str (by decide +kernel) (by exact (pa_cons (pe_fld (pv 0) (by rfl)) pa_nil))))))
      (pss_cons (ps_if (pt_cmpR op_eq (pe_fld (pv 0) (by rfl)) pe_int (nomark _)) (pss_one (ps_ret (by exact (pv 1)))) pss_nil)
      (pss_one (ps_ret (by exact (pe_op op_add_str (pe_op op_add_str (pv 1) pe_str) (pe_callTy call_str_int (by rfl) T.f_str (by decide +kernel) (by exact (pa_cons (pe_fld (pv 0) (by rfl)) pa_nil))))))))), ?_⟩
    have q1 := show_len lo
    have q2 := show_len hi
    have q3 := nat_show_len al
    have i1 := int_len (i := lo) (by omega) (by omega)
    have i2 := int_len (i := hi) (by omega) (by omega)
    have i3 : (showNat al).length ≤ 2 := nat_len (by decide) (show al < 100 by omega)
    have l1 : ("from " : Str).length = 5 := rfl
    have l2 : (" to " : Str).length = 4 := rfl
    have l3 : (" at " : Str).length = 4 := rfl
    have es : showTy (.num lo hi al) = word "from " ++ (showInt lo ++ (word " to " ++ (showInt hi ++ (if al = 1 then [] else word " at " ++ showNat al)))) := rfl
    have et : (showTy (.num lo hi al)).length = 5 + ((showInt lo).length + (4 + ((showInt hi).length + (if al = 1 then 0 else 4 + (showNat al).length)))) := by
      rw [es]
      simp only [List.length_append, word_len]
      split <;> (simp only [List.length_append, word_len, List.length_nil]; rfl)
    have b1 : ("from " : Str).length + (Str.ofString (toString lo)).length ≤ sizeLine := by
      rw [q1, l1]
      exact cap_lt (by omega)
    have b2 : (("from " : Str) ++ Str.ofString (toString lo)).length + (" to " : Str).length ≤ sizeLine := by
      rw [add_len, q1, l1, l2]
      exact cap_lt (by omega)
    have b3 : (("from " : Str) ++ Str.ofString (toString lo) ++ (" to " : Str)).length + (Str.ofString (toString hi)).length ≤ sizeLine := by
      rw [add_len, add_len, q1, q2, l1, l2]
      exact cap_lt (by omega)
    have n1 : (("from " : Str) ++ Str.ofString (toString lo) ++ (" to " : Str) ++ Str.ofString (toString hi)).length = 5 + ((showInt lo).length + (4 + (showInt hi).length)) := by
      rw [add_len, add_len, add_len, q1, q2, l1, l2]
      omega
    refine ⟨_, rfl, a, _, dx, _, _, rfl, h1, T.cl_Number, T.na_Number_first, rfl, lo, rfl, log_small (by omega) (by omega), _, _, rfl, rfl, b1, _, _, rfl, rfl, b2, _, rfl, a, _, dx, _, _, rfl, h1, T.cl_Number, T.na_Number_last, rfl, hi, rfl, log_small (by omega) (by omega), _, _, rfl, rfl, b3, ?_⟩
    generalize ("from " : Str) ++ Str.ofString (toString lo) ++ (" to " : Str) ++ Str.ofString (toString hi) = tx at n1
    refine ⟨_, rfl, a, _, dx, _, _, rfl, h1, T.cl_Number, T.na_Number_align, rfl, rfl, _, rfl, ?_⟩
    refine (show if decide (V.int (al : Nat) = V.int 1) = true then _ else _ from ?_)
    by_cases z : al = 1
    · rw [if_pos z] at et
      exact iteC (by rw [z]; rfl) ⟨_, rfl, kk H _ (Same.refl _) (by rw [n1, et]; omega)⟩
    · rw [if_neg z] at et
      have b4 : tx.length + (" at " : Str).length ≤ sizeLine := by
        rw [n1, l3]
        exact cap_lt (by omega)
      have b5 : (tx ++ (" at " : Str)).length + (Str.ofString (toString (al : Int))).length ≤ sizeLine := by
        rw [add_len, n1, q3, l3]
        exact cap_lt (by omega)
      refine iteD (fun e => z (by injection e with e; omega)) ⟨_, rfl, _, _, rfl, rfl, b4, _, rfl, a, _, dx, _, _, rfl, h1, T.cl_Number, T.na_Number_align, rfl, _, rfl, log_small (by omega) (by omega), _, _, rfl, rfl, b5, kk H _ (Same.refl _) ?_⟩
      rw [add_len, add_len, n1, q3, l3, et]
      omega
theorem may_form (T : Txt K mg) {t : Ty} {k : Nat} (wt : wf t false) (ih : MOk P w K mg base CX0 k (clsT K t) "one_form" (spForm K t)) : MOk P w K mg base CX0 (k + 1) (cMaybe K) "one_form" (spForm K (.maybe t)) :=
  mkM T.cl_Maybe T.me_Maybe_one_form T.d_Maybe_one_form sc_Maybe_one_form (fun vs H Q E h => by obtain ⟨a, rfl, _⟩ := h; rfl) (fun _ _ _ _ _ _ us hl => match us, hl with | [_], _ => rfl) fun cdv A outer s H vs Q E hr h => by
    obtain ⟨a, rfl, ⟨b, dx, i, sp, y, e, h1, h2, h3, h4⟩, cap, kk⟩ := h
    cases e
    obtain ⟨di, fi, g1, g2⟩ := h2.ins wt
    have et : (showTy (.maybe t)).length = 6 + (showTy t).length := by
      show (word "maybe " ++ showTy t).length = _
      rw [List.length_append, word_len]
      rfl
    rw [et] at cap kk
    refine ⟨_, PSs.nox (pss_one (ps_ret (by exact (pe_op op_add_str pe_str (pe_mx0 (CX := CX0) hr pas0 (pe_fld (pv 0) (by rfl))))))), ?_⟩
    have l1 : ("maybe " : Str).length = 6 := rfl
    exact ⟨_, rfl, a, _, dx, _, _, rfl, h1, T.cl_Maybe, T.na_Maybe_inner, rfl, i, _, di, fi, _, rfl, g1, g2.m2, ih, i, rfl, h2, by omega, fun H2 s s2 es => ⟨_, _, rfl, rfl, by rw [l1, es]; exact cap_lt (by omega), kk _ _ s2 (by rw [add_len, l1, es])⟩⟩
theorem many_form (T : Txt K mg) {t : Ty} {n k : Nat} (wt : wf t false) (hn : n ≤ 8) (ih : MOk P w K mg base CX0 k (clsT K t) "one_form" (spForm K t)) : MOk P w K mg base CX0 (k + 1) (cMany K) "one_form" (spForm K (.many n t)) :=
  mkM T.cl_Many T.me_Many_one_form T.d_Many_one_form sc_Many_one_form (fun vs H Q E h => by obtain ⟨a, rfl, _⟩ := h; rfl) (fun _ _ _ _ _ _ us hl => match us, hl with | [_], _ => rfl) fun cdv A outer s H vs Q E hr h => by
    obtain ⟨a, rfl, ⟨b, dx, i, pl, sp, y, e, h1, h2, h3, h4, h5⟩, cap, kk⟩ := h
    cases e
    obtain ⟨di, fi, g1, g2⟩ := h2.ins wt
    have q3 := nat_show_len n
    have et : (showTy (.many n t)).length = 5 + ((showNat n).length + (1 + (showTy t).length)) := by
      show (word "many " ++ (showNat n ++ (word " " ++ showTy t))).length = _
      rw [List.length_append, List.length_append, List.length_append, word_len, word_len]
      rfl
    rw [et] at cap kk
    refine ⟨_, PSs.nox (pss_one (ps_ret (by exact (pe_op op_add_str (pe_op op_add_str (pe_op op_add_str pe_str (pe_callTy call_str_int (by rfl) T.f_str (by decide +kernel) (by exact (pa_cons (pe_fld (pv 0) (by rfl)) pa_nil)))) pe_str) (pe_mx0 (CX := CX0) hr pas0 (pe_fld (pv 0) (by rfl))))))), ?_⟩
    have l1 : ("many " : Str).length = 5 := rfl
    have l2 : (" " : Str).length = 1 := rfl
    have b1 : ("many " : Str).length + (Str.ofString (toString (n : Int))).length ≤ sizeLine := by
      rw [q3, l1]
      exact cap_lt (by omega)
    have b2 : (("many " : Str) ++ Str.ofString (toString (n : Int))).length + (" " : Str).length ≤ sizeLine := by
      rw [add_len, q3, l1, l2]
      exact cap_lt (by omega)
    exact ⟨_, rfl, a, _, dx, _, _, rfl, h1, T.cl_Many, T.na_Many_times, rfl, _, rfl, log_small (by omega) (by omega), _, _, rfl, rfl, b1, _, _, rfl, rfl, b2, _, rfl, a, _, dx, _, _, rfl, h1, T.cl_Many, T.na_Many_inner, rfl, i, _, di, fi, _, rfl, g1, g2.m2, ih, i, rfl, h2, by omega, fun H2 s s2 es => ⟨_, _, rfl, rfl, by rw [add_len, add_len, q3, l1, l2, es]; exact cap_lt (by omega), kk _ _ s2 (by rw [add_len, add_len, add_len, l1, l2, q3, es]; omega)⟩⟩
theorem named_form (T : Txt K mg) {x : ValayBase.Bytes} {fs : Ty} : MOk P w K mg base CX0 1 (cRecord K) "one_form" (spForm K (.named x (.rec_ fs))) :=
  mkM T.cl_Record T.me_Record_one_form T.d_Record_one_form sc_Record_one_form (fun vs H Q E h => by obtain ⟨a, rfl, _⟩ := h; rfl) (fun _ _ _ _ _ _ us hl => match us, hl with | [_], _ => rfl) fun cdv A outer s H vs Q E hr h => by
    obtain ⟨a, rfl, ⟨kt, q', C, dq, fq, eq, f1, f2⟩, cap, kk⟩ := h
    cases eq
    obtain ⟨b', dxr, _, _, _, _, _, _, _, er, k1, _⟩ := kt
    cases er
    rw [f1] at k1
    cases k1
    refine ⟨_, PSs.nox (pss_one (ps_ret (by exact (pe_fld (pv 0) (by rfl))))), ?_⟩
    exact ⟨_, rfl, a, _, dq, _, _, rfl, f1, T.cl_Record, T.na_Record_name, f2, kk H _ (Same.refl _) (bstr_len x)⟩
/-- how much room each alternative takes -/
def altW : Ty → List Nat
  | .field x _ t r => (x.name.length + 3 + (showTy t).length) :: altW r
  | _ => []
theorem altW_len : ∀ {fs : Ty}, wf fs true → (altW fs).length = rowLength fs ∧ (names fs).length = rowLength fs
  | .field x _ t r, h => by
    obtain ⟨h1, h2⟩ := altW_len h.2.2
    exact ⟨congrArg (· + 1) h1, congrArg (· + 1) h2⟩
  | .nil, _ => ⟨rfl, rfl⟩
  | .num _ _ _, h => (nomatch h.1)
  | .maybe _, h => (nomatch h.1)
  | .many _ _, h => (nomatch h.1)
  | .rec_ _, h => (nomatch h.1)
  | .named _ _, h => (nomatch h.1)
  | .one_ _, h => (nomatch h.1)
theorem altW_sum : ∀ {fs : Ty}, wf fs true → (showTy fs).length = (altW fs).sum + (rowLength fs - 1) * 2
  | .nil, _ => rfl
  | .field x _ t .nil, h => by
    show (x.name ++ (word " : " ++ (showTy t ++ []))).length = (x.name.length + 3 + (showTy t).length + 0) + 0
    rw [List.length_append, List.length_append, List.append_nil, word_len]
    show _ + (3 + _) = _
    omega
  | .field x _ t (.field y h' t' r), h => by
    have ih := altW_sum (fs := .field y h' t' r) h.2.2
    show (x.name ++ (word " : " ++ (showTy t ++ (word ", " ++ showTy (.field y h' t' r))))).length = (x.name.length + 3 + (showTy t).length + (altW (.field y h' t' r)).sum) + (rowLength r + 1) * 2
    have e : rowLength (.field y h' t' r) = rowLength r + 1 := rfl
    rw [e, Nat.add_sub_cancel] at ih
    rw [List.length_append, List.length_append, List.length_append, List.length_append, word_len, word_len, ih]
    show _ + (3 + (_ + (2 + _))) = _
    omega
  | .field _ _ _ (.num _ _ _), h => (nomatch h.2.2.1)
  | .field _ _ _ (.maybe _), h => (nomatch h.2.2.1)
  | .field _ _ _ (.many _ _), h => (nomatch h.2.2.1)
  | .field _ _ _ (.rec_ _), h => (nomatch h.2.2.1)
  | .field _ _ _ (.named _ _), h => (nomatch h.2.2.1)
  | .field _ _ _ (.one_ _), h => (nomatch h.2.2.1)
  | .num _ _ _, h => (nomatch h.1)
  | .maybe _, h => (nomatch h.1)
  | .many _ _, h => (nomatch h.1)
  | .rec_ _, h => (nomatch h.1)
  | .named _ _, h => (nomatch h.1)
  | .one_ _, h => (nomatch h.1)
theorem altW_at : ∀ {fs : Ty} (j : Nat) (u : Ty) (nm : Str), wf fs true → (rows fs)[j]? = some u → (names fs)[j]? = some nm → (altW fs)[j]? = some (nm.length + 3 + (showTy u).length)
  | .field x _ t r, 0, u, nm, _, h1, h2 => by
    cases Option.some.inj h1
    cases Option.some.inj h2
    rw [bstr_len]
    rfl
  | .field x _ t r, j + 1, u, nm, h, h1, h2 => altW_at (fs := r) j u nm h.2.2 h1 h2
  | .nil, j, u, nm, _, h1, _ => by simp [rows] at h1
  | .num _ _ _, _, _, _, h, _, _ => (nomatch h.1)
  | .maybe _, _, _, _, h, _, _ => (nomatch h.1)
  | .many _ _, _, _, _, h, _, _ => (nomatch h.1)
  | .rec_ _, _, _, _, h, _, _ => (nomatch h.1)
  | .named _ _, _, _, _, h, _, _ => (nomatch h.1)
  | .one_ _, _, _, _, h, _, _ => (nomatch h.1)
theorem mem_le_sum : ∀ {l : List Nat} {x : Nat}, x ∈ l → x ≤ l.sum
  | y :: l, x, h => by
    rw [List.sum_cons]
    rcases List.mem_cons.mp h with rfl | h
    · omega
    · have := mem_le_sum h
      omega
theorem take_sum_le (l : List Nat) (j : Nat) : (l.take j).sum ≤ l.sum := by
  have := congrArg List.sum (List.take_append_drop j l)
  rw [List.sum_append] at this
  omega
theorem one_form (T : Txt K mg) {fs : Ty} {k : Nat} (wt : wf fs true) (h2' : 2 ≤ rowLength fs) (h4' : rowLength fs ≤ 4) (ih : ∀ u ∈ rows fs, MOk P w K mg base CX0 k (clsT K u) "one_form" (spForm K u)) : MOk P w K mg base CX0 (k + 1) (cOne K) "one_form" (spForm K (.one_ fs)) :=
  mkM T.cl_One T.me_One_one_form T.d_One_one_form sc_One_one_form (fun vs H Q E h => by obtain ⟨a, rfl, _⟩ := h; rfl) (fun _ _ _ _ _ _ us hl => match us, hl with | [_], _ => rfl) fun cdv A outer s H vs Q E hr h => by
    obtain ⟨a, rfl, ⟨b, dx, nl, al, sp, ias, y, e, h1, h2, h3, h4, h5, h6⟩, cap, kk⟩ := h
    cases e
    obtain ⟨len, get⟩ := h2.rows_at wt
    obtain ⟨aw, nw⟩ := altW_len wt
    have rl : (rows fs).length = rowLength fs := ML.rows_length fs
    have et : (showTy (.one_ fs)).length = 6 + (((altW fs).sum + (rowLength fs - 1) * 2) + 2) := by
      show (word "one { " ++ (showTy fs ++ word " }")).length = _
      rw [List.length_append, List.length_append, word_len, word_len, altW_sum wt]
      rfl
    rw [et] at cap kk
    refine ⟨_, PSs.nox (pss_cons (ps_set (i := 1) sc_One_one_form.nd rfl (Or.inl rfl) (by exact (pe_lst pa_nil)))
      (pss_cons (ps_for PassesOwn.never rfl (pi_zip (by rfl) T.f_zip (pa_cons (pe_fld (pv 0) (by rfl)) (pa_cons (pe_fld (pv 0) (by rfl)) pa_nil))) (pg_tup rfl (pgs_cons (pg_name (i := 2) sc_One_one_form.nd rfl (Or.inl rfl)) (pgs_cons (pg_name (i := 3) sc_One_one_form.nd rfl (Or.inl rfl)) pgs_nil))) (pss_one (ps_expr (pe_bm PySem.F.plainAttrs_list PySem.F.slot_list_append PySem.F.type_list_append mt_append (pv 1) (by exact (pa_cons (pe_op op_add_str (pe_op op_add_str (pv 2) pe_str) (pe_mx0 (CX := CX0) hr pas0 (pv 3))) pa_nil))))))
      (pss_one (ps_ret (by exact (pe_op op_add_str (pe_op op_add_str pe_str (pe_join pe_str (pv 1))) pe_str)))))), ?_⟩
    refine ⟨Nat.zero_le _, fun F nF => ?_⟩
    have sF : Same H (upd H F (.lst [])) := same_new nF
    have l1 : ("one { " : Str).length = 6 := rfl
    have l2 : (" }" : Str).length = 2 := rfl
    have l3 : (", " : Str).length = 2 := rfl
    have l4 : (" : " : Str).length = 3 := rfl
    refine ⟨_, rfl, a, _, dx, _, _, rfl, sF _ _ h1, T.cl_One, T.na_One_names, rfl, _, rfl, a, _, dx, _, _, rfl, sF _ _ h1, T.cl_One, T.na_One_alternatives, rfl, nl, al, (names fs).map V.str, ias.map V.ref, rfl, SqL.of (sF _ _ h3), SqL.of (sF _ _ h4),
      L2.for_it (L2.walk_zip (K := K) (a := nl) (b := al) (xs := (names fs).map V.str) (ys := ias.map V.ref) (n := rowLength fs) (by rw [List.length_map, List.length_map, nw, len, rl, Nat.min_self])) (fun j σ H' => ∃ (v2 v3 : Option V) (ss : List Str), σ = [some (.ref a), some (.ref F), v2, v3] ∧ Same H H' ∧ H' F = some (.lst (ss.map V.str)) ∧ ss.map (·.length) = (altW fs).take j)
        ⟨none, none, [], rfl, sF, upd_same, by rw [List.take_zero]; rfl⟩ (fun j σ H' _ ⟨_, _, _, _, s5, _⟩ => ⟨s5.seq (SqL.of h3), s5.seq (SqL.of h4)⟩) ?_ ?_⟩
    · rintro j z σ H' H'' hj ⟨v2, v3, ss, rfl, s5, f5, e5⟩ ⟨Tp, x, y', rfl, nT, rfl, ex, ey⟩
      obtain ⟨nm, hnm, rfl⟩ := map_get ex
      obtain ⟨c, hc, rfl⟩ := map_get ey
      have hu : (rows fs)[j]? = some ((rows fs)[j]'(by omega)) := List.getElem?_eq_getElem _
      generalize (rows fs)[j]'(by omega) = u at hu
      have hm := List.mem_of_getElem? hu
      have hw := altW_at j u nm wt hu hnm
      have wle := mem_le_sum (List.mem_of_getElem? hw)
      have s6 : Same H (upd H' Tp (.tup [.str nm, .ref c])) := s5.trans (same_new nT)
      have f6 : upd H' Tp (.tup [.str nm, .ref c]) F = some (.lst (ss.map V.str)) := same_new nT _ _ f5
      have ka := (get j c u hc hu).same s6
      obtain ⟨dc, fc, g1, g2⟩ := ka.ins (wf_rows wt hm)
      have sl := congrArg List.length e5
      rw [List.length_map, List.length_take] at sl
      have bb : nm.length + (" : " : Str).length ≤ sizeLine := by
        rw [l4]
        exact cap_lt (by omega)
      refine ⟨Tp, _, rfl, .inl (.inl upd_same), rfl, _, _, rfl, _, _, rfl, rfl, ?_⟩
      refine ⟨_, rfl, .inl ⟨rfl, _, SqL.of f6⟩, _, rfl, _, _, rfl, rfl, bb, _, rfl, c, _, dc, fc, _, rfl, g1, g2.m2, ih u hm, c, rfl, ka, by omega, fun H2 sx s2 es => ⟨_, _, rfl, rfl, by rw [add_len, l4, es]; exact cap_lt (by omega), ?_⟩⟩
      refine ⟨F, _, _, rfl, rfl, s2 _ _ f6, ?_, _, _, ss ++ [nm ++ (" : " : Str) ++ sx], rfl, fun q o e => (upd_ne (ne_of_none e nF)).trans (s2 _ _ (s6 _ _ e)), ?_, ?_⟩
      · rw [List.length_map]
        exact small1000 (by omega)
      · rw [upd_same, List.map_append]
        rfl
      · rw [List.map_append, e5, List.take_succ, hw]
        show _ ++ [(nm ++ (" : " : Str) ++ sx).length] = _
        rw [add_len, add_len, l4, es]
        rfl
    · rintro σ H' ⟨v2, v3, ss, rfl, s5, f5, e5⟩
      rw [← aw, List.take_length] at e5
      have sl := congrArg List.length e5
      rw [List.length_map, aw] at sl
      have ne : ss ≠ [] := fun z => by
        rw [z] at sl
        simp at sl
        omega
      have jl := join_len (", " : Str) ss ne
      rw [e5, sl, l3] at jl
      refine ⟨⟨_, rfl⟩, _, rfl, _, F, ss, rfl, rfl, .inl (SqL.of f5), ?_, _, _, rfl, rfl, ?_, _, _, rfl, rfl, ?_, kk H' _ s5 ?_⟩
      · rw [e5, sl, l3]
        have : capL + 100 ≤ 16777216 := by decide
        omega
      · rw [jl, l1]
        exact cap_lt (by omega)
      · rw [add_len, jl, l1, l2]
        exact cap_lt (by omega)
      · rw [add_len, add_len, jl, l1, l2]
        omega
theorem all_form (T : Txt K mg) : ∀ {t : Ty} {row : Bool}, wf t row → nice t → (row = false → MOk P w K mg base CX0 (dp t) (clsT K t) "one_form" (spForm K t)) ∧ (row = true → ∀ u ∈ rows t, MOk P w K mg base CX0 (dp t) (clsT K u) "one_form" (spForm K u))
  | .num lo hi al, row, wt, nt => by
    obtain rfl := wt.1
    exact ⟨fun _ => num_form T wt nt, fun z => (nomatch z)⟩
  | .maybe t, row, wt, nt => by
    obtain rfl := wt.1
    exact ⟨fun _ => may_form T wt.2 ((all_form T wt.2 nt).1 rfl), fun z => (nomatch z)⟩
  | .many n t, row, wt, nt => by
    obtain ⟨rfl, w1, w2, w3⟩ := wt
    exact ⟨fun _ => many_form T w3 w2 ((all_form T w3 nt).1 rfl), fun z => (nomatch z)⟩
  | .rec_ fs, row, wt, nt => nt.elim
  | .named x t, row, wt, nt => by
    obtain ⟨rfl, ⟨fs, rfl⟩, w1⟩ := wt
    exact ⟨fun _ => (named_form T).mono (by show 1 ≤ dp fs + 1; omega), fun z => (nomatch z)⟩
  | .one_ fs, row, wt, nt => by
    obtain ⟨rfl, w1, w2, w3⟩ := wt
    exact ⟨fun _ => one_form T w1 w2 w3 ((all_form T w1 nt).2 rfl), fun z => (nomatch z)⟩
  | .nil, row, wt, _ => by
    have wt : row = true := wt
    subst wt
    exact ⟨fun z => (nomatch z), fun _ u hu => by cases hu⟩
  | .field x h t r, row, wt, nt => by
    obtain ⟨rfl, w1, w2⟩ := wt
    have i1 := (all_form T w1 nt.2.1).1 rfl
    have i2 := (all_form T w2 nt.2.2).2 rfl
    refine ⟨fun z => (nomatch z), fun _ u hu => ?_⟩
    rcases List.mem_cons.mp hu with e | hu
    · rw [e]
      exact i1.mono (Nat.le_max_left _ _)
    · exact (i2 u hu).mono (Nat.le_max_right _ _)
end
end LY
set_option Elab.async false
set_option linter.all false
set_option maxRecDepth 100000
set_option maxHeartbeats 4000000
set_option exponentiation.threshold 4000
namespace LY
open PySem PySem.Spec PyProof.Rows L2
open ValayBase (word showNat showInt PName)
open Valaya (Ty countLeaves rowLength countBy showTy showFields shownRec line fieldsOf Rec rowOf)
open ML (Cod cod rows wf frm carrier)
/-! ### lines -/
def lineL (nm : Nat) (h : Nat) (t : Ty) : Nat := nm + 3 + (showTy t).length + (if h = 1 then 0 else 5 + (showNat h).length) + 3
def fldW : Ty → List Nat
  | .field x h t r => lineL x.name.length h t :: fldW r
  | _ => []
theorem fldW_sum : ∀ {fs : Ty}, wf fs true → (showFields fs).length = (fldW fs).sum
  | .nil, _ => rfl
  | .field x h t r, w => by
    have ih := fldW_sum w.2.2
    show (line (x.name ++ (word " : " ++ (showTy t ++ ((if h = 1 then [] else word " hot " ++ showNat h) ++ word " ;")))) ++ showFields r).length = (lineL x.name.length h t :: fldW r).sum
    unfold line lineL
    have e : (if h = 1 then ([] : ValayBase.Bytes) else word " hot " ++ showNat h).length = (if h = 1 then 0 else 5 + (showNat h).length) := by
      split
      · rfl
      · rw [List.length_append, word_len]
        rfl
    rw [List.sum_cons, ← ih]
    simp only [List.length_append, word_len, e]
    show (_ + (3 + (_ + (_ + 2)))) + 1 + _ = _
    omega
  | .num _ _ _, h => (nomatch h.1)
  | .maybe _, h => (nomatch h.1)
  | .many _ _, h => (nomatch h.1)
  | .rec_ _, h => (nomatch h.1)
  | .named _ _, h => (nomatch h.1)
  | .one_ _, h => (nomatch h.1)
section
variable {P : Program} {w : World} {K : PySem.W.Frag} {mg : Str → Option Value} {base : Heap}
abbrev s_Field_line : Stmt := inClass (top 18) 1
abbrev n_Field_line : List Str := ["self", "text"]
theorem sc_Field_line : FnScope n_Field_line ["self"] (defScope s_Field_line) := ⟨rfl, rfl, rfl, by decide +kernel, rfl, by decide +kernel, by decide +kernel⟩
abbrev s_Record_lines : Stmt := inClass (top 19) 2
abbrev n_Record_lines : List Str := ["self", "field"]
theorem sc_Record_lines : FnScope n_Record_lines ["self"] (defScope s_Record_lines) := ⟨rfl, rfl, rfl, by decide +kernel, rfl, by decide +kernel, by decide +kernel⟩

/-- a field's object, with what its line takes -/
structure FldIs (K : PySem.W.Frag) (H : Hp) (a : Addr) (nm : Str) (h : Nat) (t : Ty) : Prop where
  at_ : ∃ dx i, H a = some (.ins (cField K) dx (fldF nm i h)) ∧ KA K H t [i]
  wf : wf t false
  nice : nice t
  hot : h ≤ 1000
theorem flds_at {H : Hp} : ∀ {fs : Ty} {fas ias : List Addr}, wf fs true → nice fs → FldsAt K H fs fas ias → KA K H fs ias → fas.length = (fldW fs).length ∧ ∀ (j : Nat) (a : Addr), fas[j]? = some a → ∃ nm h t, FldIs K H a nm h t ∧ dp t ≤ dp fs ∧ (fldW fs)[j]? = some (lineL nm.length h t)
  | .field x h t r, f :: fas, i :: ias, w, n, q, ka => by
    obtain ⟨b, bs, e, k1, k2⟩ := ka
    cases e
    obtain ⟨l, g⟩ := flds_at w.2.2 n.2.2 q.2 k2
    refine ⟨congrArg (· + 1) l, fun j a hj => ?_⟩
    cases j with
    | zero =>
      cases Option.some.inj hj
      obtain ⟨dx, e⟩ := q.1
      exact ⟨bstr x.name, h, t, ⟨⟨dx, i, e, k1⟩, w.2.1, n.2.1, n.1⟩, Nat.le_max_left _ _, by rw [bstr_len]; rfl⟩
    | succ j =>
      obtain ⟨nm, h', t', f1, f2, f3⟩ := g j a hj
      exact ⟨nm, h', t', f1, Nat.le_trans f2 (Nat.le_max_right _ _), f3⟩
  | .field _ _ _ _, [], _, _, _, q, _ => q.elim
  | .field _ _ _ _, _ :: _, [], _, _, q, _ => q.elim
  | .nil, fas, ias, _, _, q, _ => by
    obtain ⟨rfl, rfl⟩ : fas = [] ∧ ias = [] := q
    exact ⟨rfl, fun j a e => by simp at e⟩
  | .num _ _ _, _, _, h, _, _, _ => (nomatch h.1)
  | .maybe _, _, _, h, _, _, _ => (nomatch h.1)
  | .many _ _, _, _, h, _, _, _ => (nomatch h.1)
  | .rec_ _, _, _, h, _, _, _ => (nomatch h.1)
  | .named _ _, _, _, h, _, _, _ => (nomatch h.1)
  | .one_ _, _, _, h, _, _, _ => (nomatch h.1)
theorem FldIs.same {H H' : Hp} {a : Addr} {nm : Str} {h : Nat} {t : Ty} (f : FldIs K H a nm h t) (s : Same H H') : FldIs K H' a nm h t := ⟨by
  obtain ⟨dx, i, e, k⟩ := f.at_
  exact ⟨dx, i, s _ _ e, k.same s⟩, f.wf, f.nice, f.hot⟩
def spLine (K : PySem.W.Frag) (D : Nat) : Sp := fun vs H Q _ => ∃ (a : Addr) (nm : Str) (h : Nat) (t : Ty), vs = [.ref a] ∧ FldIs K H a nm h t ∧ dp t ≤ D ∧ lineL nm.length h t ≤ capL ∧ ∀ H' s, Same H H' → s.length = lineL nm.length h t → Q (.str s) H'
theorem ok_line (T : Txt K mg) (D : Nat) : MOk P w K mg base CX0 (D + 1) (cField K) "line" (spLine K D) :=
  mkM T.cl_Field T.me_Field_line T.d_Field_line sc_Field_line (fun vs H Q E h => by obtain ⟨a, nm, h', t, rfl, _⟩ := h; rfl) (fun _ _ _ _ _ _ us hl => match us, hl with | [_], _ => rfl) fun cdv A outer s H vs Q E hr h => by
    obtain ⟨a, nm, h, t, rfl, ⟨⟨dx, i, h1, h2⟩, wt, nt, hh⟩, hd, cap, kk⟩ := h
    obtain ⟨di, fi, g1, g2⟩ := h2.ins wt
    have ih := ((all_form (P := P) (w := w) (base := base) T wt nt).1 rfl).mono hd
    refine ⟨_, PSs.nox (pss_cons (ps_set (i := 1) sc_Field_line.nd rfl (Or.inl rfl) (by exact (pe_op op_add_str (pe_op op_add_str (pe_fld (pv 0) (by rfl)) pe_str) (pe_mx0 (CX := CX0) hr pas0 (pe_fld (pv 0) (by rfl))))))
      (pss_cons (ps_if (pt_cmpR op_ne (pe_fld (pv 0) (by rfl)) pe_int (nomark _)) (pss_one (ps_aug (i := 1) sc_Field_line.nd rfl (.inl rfl) (pe_op op_add_str pe_str (pe_callTy call_str_int (by rfl) T.f_str (by decide +kernel) (by exact (pa_cons (pe_fld (pv 0) (by rfl)) pa_nil)))) ip_addS)) pss_nil)
      (pss_one (ps_ret (by exact (pe_op op_add_str (pv 1) pe_str)))))), ?_⟩
    have l1 : (" : " : Str).length = 3 := rfl
    have l2 : (" hot " : Str).length = 5 := rfl
    have l3 : (" ;\n" : Str).length = 3 := rfl
    have q3 := nat_show_len h
    unfold lineL at cap kk
    have bb : nm.length + (" : " : Str).length ≤ sizeLine := by
      rw [l1]
      exact cap_lt (by omega)
    refine ⟨_, rfl, a, _, dx, _, _, rfl, h1, T.cl_Field, T.na_Field_name, rfl, _, _, rfl, rfl, bb, _, rfl, a, _, dx, _, _, rfl, h1, T.cl_Field, T.na_Field_inner, rfl, i, _, di, fi, _, rfl, g1, g2.m2, ih, i, rfl, h2, by omega, fun H2 sx s2 es => ⟨_, _, rfl, rfl, by rw [add_len, l1, es]; exact cap_lt (by omega), ?_⟩⟩
    have n1 : (nm ++ (" : " : Str) ++ sx).length = nm.length + 3 + (showTy t).length := by rw [add_len, add_len, l1, es]
    generalize nm ++ (" : " : Str) ++ sx = tx at n1
    refine ⟨_, rfl, a, _, dx, _, _, rfl, s2 _ _ h1, T.cl_Field, T.na_Field_hot, rfl, rfl, _, rfl, ?_⟩
    refine (show if (!decide (V.int (h : Nat) = V.int 1)) = true then _ else _ from ?_)
    by_cases z : h = 1
    · rw [if_pos z] at cap kk
      refine iteNC (by rw [z]; rfl) ⟨_, rfl, _, _, rfl, rfl, by rw [n1, l3]; exact cap_lt (by omega), kk _ _ s2 (by rw [add_len, n1, l3])⟩
    · rw [if_neg z] at cap kk
      have b4 : (" hot " : Str).length + (Str.ofString (toString (h : Int))).length ≤ sizeLine := by
        rw [q3, l2]
        exact cap_lt (by omega)
      refine iteND (fun e => z (by injection e with e; omega)) ⟨_, rfl, _, rfl, a, _, dx, _, _, rfl, s2 _ _ h1, T.cl_Field, T.na_Field_hot, rfl, _, rfl, log_small (by omega) (by omega), _, _, rfl, rfl, b4, _, _, rfl, rfl, by rw [n1, add_len, q3, l2]; exact cap_lt (by omega), ?_⟩
      refine ⟨_, rfl, _, _, rfl, rfl, by rw [add_len, add_len, n1, q3, l2, l3]; exact cap_lt (by omega), kk _ _ s2 ?_⟩
      rw [add_len, add_len, add_len, n1, q3, l2, l3]
def spLines (K : PySem.W.Frag) : Sp := fun vs H Q _ => ∃ (a : Addr) (x : Rec) (fs : Ty), vs = [.ref a] ∧ KA K H (.named x.x.name x.t) [a] ∧ x.t = .rec_ fs ∧ wf fs true ∧ nice fs ∧ dp fs ≤ 48 ∧ (shownRec x).length ≤ capL ∧ ∀ H' s, Same H H' → s.length = (shownRec x).length → Q (.str s) H'
theorem ok_lines (T : Txt K mg) : MOk P w K mg base CX0 50 (cRecord K) "lines" (spLines K) :=
  mkM T.cl_Record T.me_Record_lines T.d_Record_lines sc_Record_lines (fun vs H Q E h => by obtain ⟨a, x, fs, rfl, _⟩ := h; rfl) (fun _ _ _ _ _ _ us hl => match us, hl with | [_], _ => rfl) fun cdv A outer s H vs Q E hr h => by
    obtain ⟨a, ⟨x, q, t⟩, fs, rfl, ⟨kt, q', C, dq, fq, eq, f1, f2⟩, et, wt, nt, hd, cap, kk⟩ := h
    have et : t = .rec_ fs := et
    subst et
    cases eq
    obtain ⟨b', dxr, pl, sp, fl, nm, fas, ias, y, er, k1, k2, k3, k4, k5, _⟩ := kt
    cases er
    rw [f1] at k1
    cases k1
    have f2 : some (V.str nm) = some (V.str (bstr x.name)) := f2
    cases f2
    obtain ⟨len, get⟩ := flds_at wt nt k5 k2
    have es : (shownRec ⟨x, q, .rec_ fs⟩).length = 7 + (x.name.length + 3 + ((fldW fs).sum + 2)) := by
      show (line (word "record " ++ (x.name ++ word " {")) ++ (showFields fs ++ line (word "}"))).length = _
      unfold line
      simp only [List.length_append, word_len, fldW_sum wt]
      show 7 + (_ + 2) + 1 + (_ + (1 + 1)) = _
      omega
    rw [es] at cap kk
    have l1 : ("record " : Str).length = 7 := rfl
    have l2 : (" {\n" : Str).length = 3 := rfl
    have l3 : ("}\n" : Str).length = 2 := rfl
    have l4 : ("" : Str).length = 0 := rfl
    have nb := bstr_len x.name
    have b1 : ("record " : Str).length + (bstr x.name).length ≤ sizeLine := by
      rw [nb, l1]
      exact cap_lt (by omega)
    have b2 : (("record " : Str) ++ bstr x.name).length + (" {\n" : Str).length ≤ sizeLine := by
      rw [add_len, nb, l1, l2]
      exact cap_lt (by omega)
    have n1 : (("record " : Str) ++ bstr x.name ++ (" {\n" : Str)).length = 7 + x.name.length + 3 := by rw [add_len, add_len, nb, l1, l2]
    have few : fas.length ≤ capL := by
      rw [len]
      have : ∀ l : List Nat, (∀ z ∈ l, 1 ≤ z) → l.length ≤ l.sum := fun l => by
        induction l with
        | nil => exact fun _ => Nat.le_refl _
        | cons z l ih =>
          intro h
          have := ih fun y hy => h y (List.mem_cons_of_mem _ hy)
          have := h z List.mem_cons_self
          rw [List.length_cons, List.sum_cons]
          omega
      have := this (fldW fs) fun z hz => by
        obtain ⟨j, hj⟩ := List.getElem?_of_mem hz
        have hlt := (List.getElem?_eq_some_iff.mp hj).1
        obtain ⟨nm', h', t', q1, q2, q3⟩ := get j (fas[j]'(by omega)) (List.getElem?_eq_getElem _)
        rw [hj] at q3
        cases Option.some.inj q3
        unfold lineL
        omega
      omega
    refine ⟨_, PSs.nox (pss_one (ps_ret (by exact (pe_op op_add_str (pe_op op_add_str (pe_op op_add_str (pe_op op_add_str pe_str (pe_fld (pv 0) (by rfl))) pe_str) (pe_join pe_str (pe_lc (own := [("field", 1)]) (g := gName 1) (tt := tYes) (te := (tMx P w K mg base CX0 _ "line" (fun _ => E0) (tVar 1) tNil)) rfl sc_Record_lines.nd (pi_list (pe_fld (pv 0) (by rfl))) (blkOk_by (own := [("field", 1)]) (N := n_Record_lines) (sc := defScope s_Record_lines) (by decide +kernel)) (fun _ _ _ _ _ => by exact (pg_name (i := 1) sc_Record_lines.nd rfl (Or.inl rfl))) (fun _ _ _ _ _ => pts_nil) (fun _ _ _ _ _ => by exact (pe_mx0 (CX := CX0) hr pas0 (pv 1)))))) pe_str)))), ?_⟩
    refine ⟨_, rfl, a, _, dq, _, _, rfl, f1, T.cl_Record, T.na_Record_name, rfl, _, _, rfl, rfl, b1, _, _, rfl, rfl, b2, ?_⟩
    generalize ("record " : Str) ++ bstr x.name ++ (" {\n" : Str) = tx at n1
    refine ⟨⟨_, rfl⟩, _, rfl, a, _, dq, _, _, rfl, f1, T.cl_Record, T.na_Record_fields, rfl, fl, rfl, ⟨_, SqL.of k4⟩, fun D nD => lc_list (K := K) (a := fl) (xs := fas.map V.ref) (fun j H' => Same H H' ∧ ∃ ss : List Str, H' D = some (.lst (ss.map V.str)) ∧ ss.map (·.length) = (fldW fs).take j) ⟨same_new nD, [], upd_same, by rw [List.take_zero]; rfl⟩ (fun _ _ _ ⟨s, _⟩ => s.seq (SqL.of k4)) ?_ ?_⟩
    · rintro j z H' hz ⟨s1, ss, d1, e1⟩
      obtain ⟨c, hc, rfl⟩ := map_get hz
      obtain ⟨nm', h', t', q1, q2, q3⟩ := get j c hc
      have wle := mem_le_sum (List.mem_of_getElem? q3)
      have q1 := q1.same s1
      obtain ⟨dc, ic, c1, c2⟩ := q1.at_
      have sl := congrArg List.length e1
      rw [List.length_map, List.length_take] at sl
      refine ⟨rfl, yes ?_⟩
      refine ⟨_, rfl, c, _, dc, _, _, rfl, c1, rfl, ok_line T 48, c, nm', h', t', rfl, q1, by omega, by omega, fun H2 sx s2 ex => ⟨_, s2 _ _ d1, ?_, fun q o e => ?_, ss ++ [sx], ?_, ?_⟩⟩
      · rw [List.length_map]
        have : capL < sizeLine := by decide
        omega
      · rw [upd_ne (ne_of_none e nD)]
        exact s2 _ _ (s1 q o e)
      · rw [upd_same, List.map_append]
        rfl
      · rw [List.map_append, e1, List.take_succ, q3]
        show _ ++ [sx.length] = _
        rw [ex]
        rfl
    · rintro H' ⟨s1, ss, d1, e1⟩
      rw [List.length_map, len, List.take_length] at e1
      have jl : (Txt.join ("" : Str) ss).length = (fldW fs).sum := by
        by_cases z : ss = []
        · subst z
          rw [← e1]
          rfl
        · rw [join_len _ _ z, e1, l4]
          omega
      refine ⟨_, D, ss, rfl, rfl, .inl (SqL.of d1), ?_, _, _, rfl, rfl, by rw [n1, jl]; exact cap_lt (by omega), _, _, rfl, rfl, by rw [add_len, n1, jl, l3]; exact cap_lt (by omega), kk H' _ s1 (by rw [add_len, add_len, n1, jl, l3]; omega)⟩
      rw [e1, l4]
      have : capL + 100 ≤ 16777216 := by decide
      omega
end
end LY
set_option Elab.async false
set_option linter.all false
set_option maxRecDepth 100000
set_option maxHeartbeats 4000000
namespace LY
open PySem PySem.Spec PyProof.Rows L2
open ValayBase (RESERVED lex PTok Toks next taken takeName tokEq here wrong word takeWord takeSign nextWord PName)
open Valaya (Ty Rec takeFields takeRecs rowOf rowLength countLeaves shownRec)
open ML (wf)
section
variable {P : Program} {w : World} {K : PySem.W.Frag} {mg : Str → Option Value} {base : Heap}
abbrev s_records_of : Stmt := top 49
abbrev n_records_of : List Str := ["text", "reader", "record"]
theorem sc_records_of : FnScope n_records_of ["text"] (defScope s_records_of) := ⟨rfl, rfl, rfl, by decide +kernel, rfl, by decide +kernel, by decide +kernel⟩

def spRdInit (K : PySem.W.Frag) : Sp := fun vs H Q _ => ∃ (p dx Tl : Addr), vs = [.ref p, .ref Tl] ∧ H p = some (.ins (cReader K) dx []) ∧
  ∀ (H' : Hp) (l : Addr), H' p = some (.ins (cReader K) dx (rdF Tl 0 l)) → H l = none → H' l = some (.lst []) → (∀ b o, H b = some o → b ≠ p → H' b = some o) → Q .non H'
theorem put_rd (Tl l : Addr) : putF "records" (.ref l) (putF "place" (.int 0) (putF "tokens" (.ref Tl) [])) = rdF Tl 0 l := by rfl
theorem ok_Reader (T : Txt K mg) : KOk P w K mg base 2 "Reader" (cReader K) (spRdInit K) :=
  mkK T.g_Reader T.mk_Reader T.d_Reader_init sc_Reader_init (fun vs H Q E h => by obtain ⟨p, dx, Tl, rfl, _⟩ := h; rfl) (fun _ _ _ _ _ _ us hl => match us, hl with | [_, _], _ => rfl) fun cdv A outer s H vs Q E hr h => by
    obtain ⟨p, dx, Tl, rfl, hp, k⟩ := h
    refine ⟨_, PSs.nox (pss_cons (ps_fld (pv 0) (pv 1) rfl)
      (pss_cons (ps_fld (pv 0) pe_int rfl)
      (pss_one (ps_fld (pv 0) (pe_lst pa_nil) rfl)))), ?_⟩
    refine ⟨_, rfl, _, rfl, p, cReader K, dx, [], rfl, hp, T.cl_Reader, T.na_Reader_tokens, (by show 0 < 1000; decide), ?_⟩
    refine ⟨_, rfl, p, cReader K, dx, _, rfl, upd_same, T.cl_Reader, T.na_Reader_place, (by show 1 < 1000; decide), ?_⟩
    refine ⟨Nat.zero_le _, fun L nL => ?_⟩
    have pL : p ≠ L := ne_of_none upd_same nL
    have nL' : H L = none := by
      rw [upd_ne pL.symm, upd_ne pL.symm] at nL
      exact nL
    refine ⟨_, rfl, p, cReader K, dx, _, rfl, (upd_ne pL).trans upd_same, T.cl_Reader, T.na_Reader_records, (by show 2 < 1000; decide), ?_⟩
    refine k _ L (upd_same.trans (congrArg (fun q => some (HO.ins (cReader K) dx q)) (put_rd Tl L))) nL' ((upd_ne pL.symm).trans upd_same) fun b o e hb => ?_
    rw [upd_ne hb, upd_ne (ne_of_none e nL'), upd_ne hb, upd_ne hb]
    exact e
/-- what the records read are: objects that are new -/
structure RecsNew (K : PySem.W.Frag) (H H' : Hp) (D : Addr) (rs : List Rec) : Prop where
  is : ∃ as : List Addr, H' D = some (.lst (as.map V.ref)) ∧ as.length = rs.length ∧ ∀ (i : Nat) (a : Addr) (r : Rec), as[i]? = some a → rs[i]? = some r → KA K (Off (fun b => (H b).isSome) H') (.named r.x.name r.t) [a]
  fit : ∀ r ∈ rs, RecOk 42 r ∧ countLeaves r.t ≤ 24
  ne : rs ≠ []
  few : rs.length ≤ 6
def ReadRes (H : Hp) (Q : VK) (E : XK) (K : PySem.W.Frag) : Except ValayBase.Fault (List Rec) → Prop
  | .error f => FltE H E K f.code f.place
  | .ok rs => ∀ D H', H D = none → Same H H' → RecsNew K H H' D rs → Q (.ref D) H'
def spRecs (K : PySem.W.Frag) : Sp := fun vs H Q E => ∃ (l : Addr) (ns : List Int), vs = [.ref l] ∧ SqL K H l (ns.map V.int) ∧ NeutralIO.bytes ns = true ∧ ns.length ≤ 8192 ∧ ReadRes H Q E K (Valaya.read (bytesOf ns))
theorem read_eq (b : ValayBase.Bytes) : Valaya.read b = if 4096 < b.length then .error ⟨1, 4096⟩ else (lex (b.length + 1) 0 b).bind fun l => (takeRecs (l.length + 1) [] l).bind fun rs => if 4096 < (rs.flatMap shownRec).length then .error ⟨16, 0⟩ else .ok rs := by
  show ((if 4096 < b.length then _ else _ : Except ValayBase.Fault Toks)).bind _ = _
  split <;> rfl
theorem ok_records_of (T : Txt K mg) (tw : TupIs K mg "WORDS") (ta : TupIs K mg "ALIGNS") : COk P w K mg base (L2.CX P w) 52 "records_of" (spRecs K) :=
  mkC T.g_records_of T.d_records_of sc_records_of (fun vs H Q E h => by obtain ⟨l, ns, rfl, _⟩ := h; rfl) (fun _ _ _ _ _ _ us hl => match us, hl with | [_], _ => rfl) fun cdv A outer s H vs Q E hr h => by
    obtain ⟨l, ns, rfl, hS, hby, hlen, res⟩ := h
    have bl := bytesOf_len ns
    rw [read_eq, bl] at res
    refine ⟨_, (pss_cons (ps_if (pt_cmpR op_gt (pe_callB call_len (by rfl) T.f_len (by decide +kernel) (by exact (pa_cons (pv 0) pa_nil))) (pe_gn rfl) (nomark _)) (pss_one (ps_raise rfl (takes_of rfl rfl rfl rfl) (T.mkFault hr (by exact (pa_cons pe_int (pa_cons (pe_gn rfl) pa_nil)))))) pss_nil)
      (pss_cons (ps_set (i := 1) sc_records_of.nd rfl (Or.inl rfl) (by exact (pe_kx hr (by exact (pa_cons (pe_cx (CX := L2.CX P w) (E := fun _ => E) hr (pasE (takes_of rfl rfl rfl rfl)) (by exact (pa_cons (pv 0) pa_nil))) pa_nil)))))
      (pss_cons (ps_while (passes_of rfl) (PW.pt (pw_or (pt_not (pt_truth (pe_fld (pv 1) (by rfl)) (by intro _; rfl))) (pw_or1 (pt_not (pt_val (pe_mx (CX := CX0) hr pas0 (pv 1) (by exact (pa_cons pe_str pa_nil)))))))) (pss_one (ps_expr (pe_bm PySem.F.plainAttrs_list PySem.F.slot_list_append PySem.F.type_list_append mt_append (pe_fld (pv 1) (by rfl)) (by exact (pa_cons (pe_cx (CX := L2.CX P w) (E := fun _ => E) hr (pasE (takes_of rfl rfl rfl rfl)) (by exact (pa_cons (pv 1) pa_nil))) pa_nil))))))
      (pss_cons (ps_if (pt_cmpR op_gt (pe_callB (cr_sum rfl) (by rfl) T.f_sum (by decide +kernel) (by exact (pa_cons (pe_lc (own := [("record", 2)]) (g := gName 2) (tt := tYes) (te := (tCB (fun xs H Q => ∃ x n, xs = [x] ∧ LenV K x H n ∧ Q (.int n) H) (tCons (tMx P w K mg base CX0 _ "lines" (fun _ => E0) (tVar 2) tNil) tNil))) rfl sc_records_of.nd (pi_list (pe_fld (pv 1) (by rfl))) (blkOk_by (own := [("record", 2)]) (N := n_records_of) (sc := defScope s_records_of) (by decide +kernel)) (fun _ _ _ _ _ => by exact (pg_name (i := 2) sc_records_of.nd rfl (Or.inl rfl))) (fun _ _ _ _ _ => pts_nil) (fun _ _ _ _ _ => by exact (pe_callB call_len (by rfl) T.f_len (by decide +kernel) (by exact (pa_cons (pe_mx0 (CX := CX0) hr pas0 (pv 2)) pa_nil))))) pa_nil))) (pe_gn rfl) (nomark _)) (pss_one (ps_raise rfl (takes_of rfl rfl rfl rfl) (T.mkFault hr (by exact (pa_cons pe_int (pa_cons pe_int pa_nil)))))) pss_nil)
      (pss_one (ps_ret (by exact (pe_fld (pv 1) (by rfl))))))))), ?_⟩
    refine ⟨_, rfl, _, ns.length, rfl, .inl ⟨_, hS, by rw [List.length_map]⟩, _, T.i_LONGEST_TEXT, _, _, rfl, rfl, _, rfl, ?_⟩
    refine (show if decide ((4096 : Int) < (ns.length : Int)) = true then _ else _ from ?_)
    by_cases c1 : 4096 < ns.length
    · rw [if_pos c1] at res
      refine iteC (by omega) ⟨_, T.i_LONGEST_TEXT, ?_⟩
      exact flt_go fun d nd => res H d (Same.refl _) nd
    rw [if_neg c1] at res
    refine iteD (by omega) ?_
    refine ⟨cReader K, spRdInit K, (ok_Reader T).mono (by decide), spTokens K, (ok_tokens_of T tw (k := 7) (Nat.le_refl _) ((ok_signs_of T).mono (by decide))).mono (by decide), _, rfl, l, ns, rfl, hS, hby, by omega, ?_⟩
    cases hl : lex (ns.length + 1) 0 (bytesOf ns) with
    | error f =>
      rw [hl] at res
      exact res
    | ok ts =>
      rw [hl] at res
      have res : ReadRes H Q E K ((takeRecs (ts.length + 1) [] ts).bind fun rs => if 4096 < (rs.flatMap shownRec).length then .error ⟨16, 0⟩ else .ok rs) := res
      have wts := lex_w _ _ _ _ hl
      rw [bl] at wts
      obtain ⟨init, pl, ets⟩ := lex_ends _ _ _ _ hl
      have tsl : 40 * ts.length ≤ wtT ts := by
        have : ∀ l : Toks, 40 * l.length ≤ wtT l := fun l => by
          induction l with
          | nil => exact Nat.le_refl _
          | cons t l ih =>
            rw [wt_cons, List.length_cons]
            have := tokW_ge t.tok
            omega
        exact this ts
      have lim : (1000000 : Nat) < sizeLine := by decide
      intro D1 H1 nD1 s1 tk
      intro rd dr nrd ndr ned
      refine ⟨rd, dr, D1, rfl, upd_same, fun H2 Rl e2 nl el kp => ⟨rfl, ?_⟩⟩
      have s2 : Same H1 H2 := Same.made nrd ndr kp
      have Rrd : Rl ≠ rd := fun e => by rw [e, upd_same] at nl; cases nl
      have Rdr : Rl ≠ dr := fun e => by rw [e, upd_ne ned, upd_same] at nl; cases nl
      rw [upd_ne Rrd, upd_ne Rdr] at nl
      have hRl : H Rl = none := free_of s1 nl
      have hrd : H rd = none := free_of s1 nrd
      have tkD : ∃ xs, H1 D1 = some (.lst xs) := by
        obtain ⟨as, q, _⟩ := tk
        exact ⟨_, q⟩
      have RD : Rl ≠ D1 := fun e => by
        obtain ⟨xs, q⟩ := tkD
        rw [e, q] at nl
        cases nl
      let bad : Addr → Bool := fun b => (H b).isSome || (decide (b = rd) || decide (b = Rl))
      have bad_no : ∀ {c : Addr}, bad c = false → (H c).isSome = false ∧ c ≠ rd ∧ c ≠ Rl := fun {c} h => by
        obtain ⟨a1, a2⟩ := Bool.or_eq_false_iff.mp h
        obtain ⟨a2, a3⟩ := Bool.or_eq_false_iff.mp a2
        exact ⟨a1, of_decide_eq_false a2, of_decide_eq_false a3⟩
      have hbr : bad rd = true := by
        show ((H rd).isSome || (decide (rd = rd) || _)) = true
        rw [decide_eq_true rfl, Bool.true_or, Bool.or_true]
      have hR2 : RdAt K H2 rd ts 0 (Rl, D1) := ⟨dr, D1, e2, rfl, tk.same (Wo.new nrd s2), by rw [ets, List.length_append]; show 0 < _ + 1; omega, init, pl, ets⟩
      refine ⟨fun m σ H' => ∃ (j fuel : Nat) (rs : List Rec), m = ts.length - j ∧ σ = [some (.ref l), some (.ref rd), none] ∧ Same H H' ∧ RdAt K H' rd ts j (Rl, D1) ∧ RecsR K H' bad Rl rs ∧ rs.length ≤ 6 ∧ (∀ (i : Nat) (r : Rec), rs[i]? = some r → RecOk (7 * (i + 1)) r ∧ countLeaves r.t ≤ 24) ∧
          (rs.flatMap shownRec).length + wtT (ts.drop j) ≤ wtT ts ∧ (ts.drop j).length < fuel ∧ takeRecs (ts.length + 1) [] ts = takeRecs fuel rs (ts.drop j),
        ⟨_, 0, ts.length + 1, [], rfl, rfl, s1.trans s2, hR2, ⟨[], el, rfl, fun i a r q => by simp at q⟩, Nat.zero_le _, (fun i r q => by simp at q), by rw [List.drop_zero]; show 0 + _ ≤ _; omega, by rw [List.drop_zero]; omega, rfl⟩, ?_⟩
      rintro m σ H' ⟨j, fuel, rs, rfl, rfl, sb, hR', recs, len6, fit, wle, rem, et⟩
      obtain ⟨fuel, rfl⟩ : ∃ f, fuel = f + 1 := ⟨fuel - 1, by omega⟩
      have jl : j < ts.length := by
        obtain ⟨tq, htq⟩ := hR'.tok
        exact (List.getElem?_eq_some_iff.mp htq).1
      obtain ⟨dx', Tl', hI'⟩ := id hR'
      obtain ⟨as, l1, l2, l3⟩ := id recs
      have okD : ∀ r ∈ rs, RecOk (7 * rs.length) r := fun r hr => by
        obtain ⟨i, hi⟩ := List.getElem?_of_mem hr
        have hlt := (List.getElem?_eq_some_iff.mp hi).1
        obtain ⟨q1, q2, q3, q4⟩ := (fit i r hi).1
        exact ⟨q1, q2, q3, by omega⟩
      have ro : RsOk rs := fun r hr => ⟨(okD r hr).rec_.imp fun fs h => h.1, (okD r hr).wf⟩
      have hb' : Bads bad H' := fun c h z => by
        rcases Bool.or_eq_true_iff.mp h with h | h
        · obtain ⟨o, e⟩ := Option.isSome_iff_exists.mp h
          rw [sb _ _ e] at z
          cases z
        · rcases Bool.or_eq_true_iff.mp h with h | h
          · rw [of_decide_eq_true h] at z
            exact hR'.some z
          · rw [of_decide_eq_true h, l1] at z
            cases z
      have fromSame : ∀ {H5 : Hp}, SameBut rd H' H5 → Same H H5 := fun {H5} s5 b o e => s5 _ _ (sb _ _ e) (ne_of_none e hrd)
      have step : ¬ (next .last (ts.drop j) = true ∧ rs ≠ []) → takeRecs (ts.length + 1) [] ts = (recTy rs (ts.drop j)).bind fun x => takeRecs fuel (rs ++ [x.1]) x.2 := fun hc => by
        rw [et, takeRecs_succ, if_neg hc]
      -- one record more
      have more : ¬ (next .last (ts.drop j) = true ∧ rs ≠ []) → ∀ Q' : VK, (∀ (x : Rec) (p : Addr) (j5 : Nat) (H5 : Hp), SameBut rd H' H5 → RdAt K H5 rd ts j5 (Rl, D1) → recTy rs (ts.drop j) = .ok (x, ts.drop j5) → KA K (Off bad H5) (.named x.x.name x.t) [p] → Q' (.ref p) H5) → spRR K [.ref rd] H' Q' E := fun hc Q' kk => by
        refine ⟨rd, ts, j, (Rl, D1), bad, rs, rfl, hR', hb', hbr, recs, ro, len6, by omega, ?_⟩
        have res := res
        rw [step hc] at res
        cases h1 : recTy rs (ts.drop j) with
        | error f =>
          rw [h1] at res
          exact fun H5 d s5 nd => res H5 d (fromSame s5) nd
        | ok y =>
          obtain ⟨x, r⟩ := y
          intro H5 j5 s5 hR5 e5 p ka
          have e5 : ts.drop j5 = r := e5
          exact kk x p j5 H5 s5 hR5 (by rw [h1, e5]) ka
      -- the list with it
      have next_ : ∀ (x : Rec) (p : Addr) (j5 : Nat) (H5 : Hp), ¬ (next .last (ts.drop j) = true ∧ rs ≠ []) → SameBut rd H' H5 → RdAt K H5 rd ts j5 (Rl, D1) → recTy rs (ts.drop j) = .ok (x, ts.drop j5) → KA K (Off bad H5) (.named x.x.name x.t) [p] →
          H5 Rl = some (.lst (as.map V.ref)) ∧ (as.map V.ref).length < sizeLine ∧ ∃ m', m' < ts.length - j ∧ ∃ (j' fuel : Nat) (rs : List Rec), m' = ts.length - j' ∧ [some (V.ref l), some (V.ref rd), none] = [some (V.ref l), some (V.ref rd), none] ∧ Same H (upd H5 Rl (.lst (as.map V.ref ++ [.ref p]))) ∧ RdAt K (upd H5 Rl (.lst (as.map V.ref ++ [.ref p]))) rd ts j' (Rl, D1) ∧ RecsR K (upd H5 Rl (.lst (as.map V.ref ++ [.ref p]))) bad Rl rs ∧ rs.length ≤ 6 ∧ (∀ (i : Nat) (r : Rec), rs[i]? = some r → RecOk (7 * (i + 1)) r ∧ countLeaves r.t ≤ 24) ∧
          (rs.flatMap shownRec).length + wtT (ts.drop j') ≤ wtT ts ∧ (ts.drop j').length < fuel ∧ takeRecs (ts.length + 1) [] ts = takeRecs fuel rs (ts.drop j') := fun x p j5 H5 hc s5 hR5 e5 kp => by
        have f5 := s5 _ _ l1 Rrd
        obtain ⟨okx, c24, cw, lx, c6⟩ := rec_fit okD e5
        have lx := lx
        rw [List.length_drop, List.length_drop] at lx
        have off : Same (Off bad H') (Off bad (upd H5 Rl (.lst (as.map V.ref ++ [.ref p])))) := Off.same fun c o e nb => (upd_ne (bad_no nb).2.2).trans (s5 _ _ e (bad_no nb).2.1)
        have off5 : Same (Off bad H5) (Off bad (upd H5 Rl (.lst (as.map V.ref ++ [.ref p])))) := Off.same fun c o e nb => (upd_ne (bad_no nb).2.2).trans e
        refine ⟨f5, by rw [List.length_map]; omega, ts.length - j5, by omega, j5, fuel, rs ++ [x], rfl, rfl, ?_, rd_frame hR5 f5 RD fun c o e ne => (upd_ne ne).trans e, ⟨as ++ [p], ?_, ?_, ?_⟩, ?_, ?_, ?_, ?_, ?_⟩
        · exact fun c o e => (upd_ne (ne_of_none e hRl)).trans (fromSame s5 _ _ e)
        · rw [upd_same, List.map_append]
          rfl
        · rw [List.length_append, List.length_append, l2]
          rfl
        · intro i a r q z
          rcases Nat.lt_or_ge i as.length with c | c
          · rw [List.getElem?_append_left c] at q
            rw [List.getElem?_append_left (by rw [← l2]; exact c)] at z
            exact ⟨(l3 i a r q z).1.same off, (l3 i a r q z).2⟩
          · have hi : i = as.length := by
              have := (List.getElem?_eq_some_iff.mp q).1
              rw [List.length_append] at this
              have e1 : [p].length = 1 := rfl
              omega
            subst hi
            rw [List.getElem?_append_right (Nat.le_refl _), Nat.sub_self] at q
            rw [l2, List.getElem?_append_right (Nat.le_refl _), Nat.sub_self] at z
            cases q
            cases z
            exact ⟨kp.same off5, okx.rec_.imp fun fs h => h.1⟩
        · rw [List.length_append]
          show rs.length + 1 ≤ 6
          omega
        · intro i r hi
          rcases Nat.lt_or_ge i rs.length with c | c
          · rw [List.getElem?_append_left c] at hi
            exact fit i r hi
          · have hi' : i = rs.length := by
              have := (List.getElem?_eq_some_iff.mp hi).1
              rw [List.length_append] at this
              have e1 : [x].length = 1 := rfl
              omega
            subst hi'
            rw [List.getElem?_append_right (Nat.le_refl _), Nat.sub_self] at hi
            cases hi
            obtain ⟨q1, q2, q3, q4⟩ := okx
            exact ⟨⟨q1, q2, q3, by omega⟩, c24⟩
        · rw [List.flatMap_append, List.length_append]
          show _ + (shownRec x ++ []).length + _ ≤ _
          rw [List.append_nil]
          omega
        · rw [List.length_drop] at rem ⊢
          omega
        · rw [step hc, e5]
          rfl
      have emp : (!(as.map V.ref).isEmpty) = decide (rs ≠ []) := by
        cases rs with
        | nil => rw [List.eq_nil_of_length_eq_zero l2]; rfl
        | cons x rs =>
          cases as with
          | nil => cases l2
          | cons f as => rfl
      refine ⟨_, rfl, rd, _, dx', _, _, rfl, hI'.at_, T.cl_Reader, T.na_Reader_records, rfl, _, .inl ⟨_, SqL.of l1, emp.symm⟩, ?_⟩
      by_cases c0 : rs = []
      · rw [decide_eq_false (fun z => z c0)]
        have hc : ¬ (next .last (ts.drop j) = true ∧ rs ≠ []) := fun z => z.2 c0
        refine iteT (iteT ⟨_, fun _ _ h => h, _, rfl, rd, _, dx', _, _, rfl, hI'.at_, T.cl_Reader, T.na_Reader_records, rfl, .inl ⟨rfl, _, SqL.of l1⟩, _, (ok_read_record T ta).mono (by decide), _, rfl, ?_⟩)
        dsimp only [tNil]
        refine more hc _ fun x p j5 H5 s5 hR5 e5 fo => ?_
        obtain ⟨f5, sm, rest⟩ := next_ x p j5 H5 hc s5 hR5 e5 fo
        exact ⟨Rl, _, _, rfl, rfl, f5, sm, rest⟩
      · rw [decide_eq_true c0]
        refine iteF ⟨_, rfl, rd, _, dx', _, spSees K, rfl, hI'.at_, rfl, (ok_sees T).mono (by decide), see_ (x := .last) (fun _ => kind_last) hR' ⟨_, rfl, ?_⟩⟩
        cases hlast : next .last (ts.drop j) with
        | false =>
          have hc : ¬ (next .last (ts.drop j) = true ∧ rs ≠ []) := fun z => by
            rw [hlast] at z
            cases z.1
          refine iteT ⟨_, fun _ _ h => h, _, rfl, rd, _, dx', _, _, rfl, hI'.at_, T.cl_Reader, T.na_Reader_records, rfl, .inl ⟨rfl, _, SqL.of l1⟩, _, (ok_read_record T ta).mono (by decide), _, rfl, ?_⟩
          dsimp only [tNil]
          refine more hc _ fun x p j5 H5 s5 hR5 e5 fo => ?_
          obtain ⟨f5, sm, rest⟩ := next_ x p j5 H5 hc s5 hR5 e5 fo
          exact ⟨Rl, _, _, rfl, rfl, f5, sm, rest⟩
        | true =>
          refine iteF ?_
          rw [et, takeRecs_succ, if_pos ⟨hlast, c0⟩] at res
          have res : ReadRes H Q E K (if 4096 < (rs.flatMap shownRec).length then .error ⟨16, 0⟩ else .ok rs) := res
          have tot : ∀ (k : Nat) (r : Rec), rs[k]? = some r → (shownRec r).length ≤ (rs.flatMap shownRec).length := fun k r hk => by
            rw [List.length_flatMap]
            exact mem_le_sum (List.mem_map.mpr ⟨r, List.mem_of_getElem? hk, rfl⟩)
          have capw : (rs.flatMap shownRec).length ≤ capL := by
            have : (1000000 : Nat) ≤ capL := by decide
            omega
          refine ⟨_, rfl, rd, _, dx', _, _, rfl, hI'.at_, T.cl_Reader, T.na_Reader_records, rfl, Rl, rfl, ⟨_, SqL.of l1⟩, fun D nD => lc_list (K := K) (a := Rl) (xs := as.map V.ref) (fun k H5 => Same H' H5 ∧ H5 D = some (.lst (((rs.take k).map fun r => ((shownRec r).length : Int)).map V.int))) ⟨same_new nD, upd_same⟩ (fun _ _ _ ⟨s, _⟩ => s.seq (SqL.of l1)) ?_ ?_⟩
          · rintro k z H5 hz ⟨s5, d5⟩
            obtain ⟨c, hc, rfl⟩ := map_get hz
            have hk : k < rs.length := by rw [← l2]; exact (List.getElem?_eq_some_iff.mp hc).1
            have hu : rs[k]? = some rs[k] := List.getElem?_eq_getElem hk
            generalize rs[k] = r at hu
            have ka := ((l3 k c r hc hu).1.same (Off.le _ _)).same s5
            obtain ⟨q1, q2, q3, q4⟩ := okD r (List.mem_of_getElem? hu)
            obtain ⟨fs, er, nf⟩ := q1
            have w2 : wf fs true := by
              rw [er] at q2
              exact q2.2
            have d2 : dp fs ≤ 48 := by
              rw [er] at q4
              have q4 : dp fs + 1 ≤ 7 * rs.length := q4
              omega
            have hin : ∃ dx fq, H5 c = some (.ins (cRecord K) dx fq) ∧ fq.lookup ("lines" : Str) = none := by
              obtain ⟨kt, _⟩ := id ka
              rw [er] at kt
              obtain ⟨b', dxr, _, _, _, _, _, _, _, ec, k1, _⟩ := kt
              cases ec
              exact ⟨_, _, k1, rfl⟩
            obtain ⟨dc, fc, g1, g2⟩ := hin
            have tr := tot k r hu
            refine ⟨rfl, yes ?_⟩
            refine ⟨_, rfl, c, _, dc, fc, _, rfl, g1, g2, (ok_lines T).mono (by decide), c, r, fs, rfl, ka, er, w2, nf, d2, by omega, fun H6 sx s6 es => ⟨_, (shownRec r).length, rfl, ⟨by rw [es]; exact cap_lt (by omega), es.symm⟩, _, s6 _ _ d5, ?_, fun q o e => ?_, ?_⟩⟩
            · rw [List.length_map, List.length_map, List.length_take]
              exact small1000 (by omega)
            · rw [upd_ne (ne_of_none e nD)]
              exact s6 _ _ (s5 q o e)
            · rw [upd_same, List.take_succ, hu, List.map_append, List.map_append]
              rfl
          · rintro H5 ⟨s5, d5⟩
            rw [List.length_map, l2, List.take_length] at d5
            have es : (rs.map fun r => ((shownRec r).length : Int)).sum = (((rs.flatMap shownRec).length : Nat) : Int) := by
              have : ∀ l : List Rec, (l.map fun r => ((shownRec r).length : Int)).sum = (((l.flatMap shownRec).length : Nat) : Int) := fun l => by
                induction l with
                | nil => rfl
                | cons r l ih =>
                  rw [List.map_cons, List.sum_cons, ih, List.flatMap_cons, List.length_append]
                  omega
              exact this rs
            refine ⟨D, _, rfl, SqL.of d5, _, T.i_LONGEST_ONE_FORM, _, _, rfl, rfl, _, rfl, ?_⟩
            rw [es]
            refine (show if decide ((4096 : Int) < (((rs.flatMap shownRec).length : Nat) : Int)) = true then _ else _ from ?_)
            by_cases c16 : 4096 < (rs.flatMap shownRec).length
            · rw [if_pos c16] at res
              refine iteC (by omega) ?_
              exact flt_go fun d nd => res H5 d (sb.trans s5) nd
            · rw [if_neg c16] at res
              refine iteD (by omega) ?_
              refine ⟨_, rfl, rd, _, dx', _, _, rfl, s5 _ _ hI'.at_, T.cl_Reader, T.na_Reader_records, rfl, ?_⟩
              refine res Rl H5 hRl (sb.trans s5) ⟨⟨as, s5 _ _ l1, l2, fun i a r q z => ?_⟩, fun r hr => ?_, c0, len6⟩
              · refine (l3 i a r q z).1.same fun b o e => ?_
                obtain ⟨e1, nb⟩ := Off.get e
                exact Off.of (s5 _ _ e1) (bad_no nb).1
              · obtain ⟨i, hi⟩ := List.getElem?_of_mem hr
                obtain ⟨q1, q2, q3, q4⟩ := okD r hr
                exact ⟨⟨q1, q2, q3, by omega⟩, (fit i r hi).2⟩
end
end LY
set_option Elab.async false
set_option linter.all false
set_option maxRecDepth 100000
set_option maxHeartbeats 4000000
namespace LY
open PySem PySem.Spec PyProof.Rows L2
open Valaya (Ty Rec countLeaves)
/-! ### a fault's field read -/
def tByF (C a : Addr) (cls : Value) (d : Option Addr) (f : Str) (te : TE) : TE := fun σ H Q => te σ H fun x H1 => x = .ref a ∧ cls = .ref C ∧ ∃ (dd : Addr) (fs : List (Str × V)) (v : V), d = some dd ∧ H1 dd = some (.xd fs) ∧ fs.lookup f = some v ∧ Q v H1
theorem pe_byF {X : Cx} {f : Str} {a : Addr} {oe : Obj} {cls : Value} {d : Option Addr} {pn : List (Addr × Obj)} {e : Expr} {te : TE} {pos : Pos} (T : FltIs X.K) (no : PySem.W.findIn X.K (.ref (cFault X.K)) f = some none) (hz : Zc cls d oe) (hf : ∃ vs, oe.data = .fields vs) (he : PE (X.suite a ((a, oe) :: pn)) e te)
    (hb : attributeBase e f X.env (eval e X.env) = eval e X.env := by rfl) :
    PE (X.suite a ((a, oe) :: pn)) (.Attribute e f pos) (tByF (cFault X.K) a cls d f te) := by
  refine ⟨fun pins s σ H Q I h => ?_⟩
  refine attr_of hb (thn (he.run pins s σ H _ I h) fun u s1 hh => ?_)
  obtain ⟨x, H1, I1, rx, ex, ec, dd, fs, v, ed, ea, l, q⟩ := hh
  subst ex
  obtain rfl : u = Value.ref a := rx
  subst ec
  subst ed
  obtain ⟨ha, _⟩ := I1.pin (a, oe) (List.mem_append_left _ List.mem_cons_self)
  obtain ⟨vs, hd⟩ := hf
  have hx : ObjOk X.prog X.w H1 s1.heap dd (.xd fs) := I1.hok dd _ ea
  obtain ⟨mA, hns, hr⟩ := hx
  obtain ⟨od, ho, hl⟩ := lookIn_ns hns
  obtain ⟨u, hu, ru⟩ := RelO.some_of (v := v) (o := mA f) (by rw [← l]; exact hr f)
  have J : PySem.W.InstAt s1.heap a oe (cFault X.K) (some od) := ⟨ha, hz.1, by unfold PySem.W.notCls; rw [hd] <;> rfl, by rw [hz.2]; exact ho⟩
  exact HandSPX.exc_get I1.kIn J T.ga T.gg T.c.exC (PySem.W.findObj_own T.hd no rfl (by rw [hl, hu])) (handed_of ru) ⟨v, H1, I1.tok _, ru, q⟩
/-! ### load -/
theorem step_load {o : Option (List Rec)} {ns : List Int} (h : NeutralIO.bytes ns = true) : ValayeNeutral.step o [[0], ns] = match Valaya.read (bytesOf ns) with
    | .ok l => (some l, (1 : Int) :: Valaye.nats (l.length :: l.map fun r => countLeaves r.t))
    | .error f => (o, [0, (f.code : Int), (f.place : Int)]) := by
  have e : ValayeNeutral.callOf [[0], ns] = some (.load (bytesOf ns)) := by
    show (if NeutralIO.bytes ns = true then _ else _) = _
    rw [if_pos h]
    rfl
  unfold ValayeNeutral.step
  rw [e]
  show ((Valaye.step o (.load (bytesOf ns))).1, ValayeNeutral.encode (Valaye.step o (.load (bytesOf ns))).2) = _
  have e2 : Valaye.step o (.load (bytesOf ns)) = match Valaya.read (bytesOf ns) with
    | .ok l => (some l, ⟨1, Valaye.nats (l.length :: l.map fun r => countLeaves r.t)⟩)
    | .error f => (o, ValayBase.faulty f) := by
    cases o <;> rfl
  rw [e2]
  cases Valaya.read (bytesOf ns) <;> rfl
section
variable {P : Program} {w : World} {K : PySem.W.Frag} {mg : Str → Option Value} {base : Heap}
abbrev s_Holder_load : Stmt := inClass (top 80) 2
abbrev n_Holder_load : List Str := ["self", "text", "fault", "records", "record"]
theorem sc_Holder_load : FnScope n_Holder_load ["self", "text"] (defScope s_Holder_load) := ⟨rfl, rfl, rfl, by decide +kernel, rfl, by decide +kernel, by decide +kernel⟩

theorem RecsNew.fits {H H' : Hp} {D : Addr} {rs : List Rec} (h : RecsNew K H H' D rs) {F : Addr} (hF : H F ≠ none) (hD : H D = none) : ∃ as : List Addr, H' D = some (.lst (as.map V.ref)) ∧ as.length = rs.length ∧ ∀ (i : Nat) (a : Addr) (r : Rec), as[i]? = some a → rs[i]? = some r → RecK K (Off (fun b => (H b).isSome) H') a r.t := by
  obtain ⟨as, h1, h2, h3⟩ := h.is
  refine ⟨as, h1, h2, fun i a r q z => ?_⟩
  obtain ⟨ok, lv⟩ := h.fit r (List.mem_of_getElem? z)
  obtain ⟨fs, er, nf⟩ := ok.rec_
  refine ⟨(h3 i a r q z).1, ⟨ok.wf, ok.full, lv, by have := ok.dp; omega⟩, ?_⟩
  rw [er]
  rfl
theorem ok_load (T : Txt K mg) (tw : TupIs K mg "WORDS") (ta : TupIs K mg "ALIGNS") : MOk P w K mg base CX0 54 (cHolder K) "load" (spLoad K) :=
  mkM T.cl_Holder T.me_Holder_load T.d_Holder_load sc_Holder_load (fun vs H Q E h => by obtain ⟨a, l, F, o, ns, rfl, _⟩ := h; rfl) (fun _ _ _ _ _ _ us hl => match us, hl with | [_, _], _ => rfl) fun cdv A outer s H vs Q E hr h => by
    obtain ⟨a, l, F, o, ns, rfl, hF, hw, hS, hby, hlen, kk⟩ := h
    have ho := hw.same (Wo.le F H)
    obtain ⟨dx, rl, h1, hR, ne⟩ := id ho
    rw [step_load hby] at kk
    have x := T.is
    have f := T.fault
    refine ⟨_, PSs.nox (pss_cons (ps_try_as (i := 2) (tb := fun W => tAsg (tCx P w K mg base (L2.CX P w) 53 "records_of" (WE W) (tCons (tVar 1) tNil)) (gName 3))
      (ts := fun a cls d => tRet (tLst (tCons (tC (.int 0)) (tCons (tByF (cFault K) a cls d "code" (tVar 2)) (tCons (tByF (cFault K) a cls d "place" (tVar 2)) tNil))))) (Wout := fun _ _ _ _ => False) rfl rfl sc_Holder_load.nd rfl rfl ⟨rfl, by decide, Or.inl T.g_Fault⟩ takes0
      (fun W pn xe tk _ => pss_one (ps_set (i := 3) sc_Holder_load.nd rfl (Or.inl rfl) (by exact (pe_cx (CX := L2.CX P w) hr (fun σ => passAt tk σ) (by exact (pa_cons (pv 1) pa_nil))))))
      (fun a oe cls d pn hz hf => pss_one (ps_ret (by exact (pe_lst (pa_cons pe_int (pa_cons (pe_byF f f.code hz hf (pv 2)) (pa_cons (pe_byF f f.place hz hf (pv 2)) pa_nil))))))))
      (pss_cons (ps_fld (pv 0) (pv 3) rfl)
      (pss_one (ps_ret (by exact (pe_op op_cat (pe_lst (pa_cons pe_int (pa_cons (pe_callB call_len (by rfl) T.f_len (by decide +kernel) (by exact (pa_cons (pv 3) pa_nil))) pa_nil))) (pe_lc (own := [("record", 4)]) (g := gName 4) (tt := tYes) (te := (tFld K (tVar 4) "leaves")) rfl sc_Holder_load.nd (pi_list (pv 3)) (blkOk_by (own := [("record", 4)]) (N := n_Holder_load) (sc := defScope s_Holder_load) (by decide +kernel)) (fun _ _ _ _ _ => by exact (pg_name (i := 4) sc_Holder_load.nd rfl (Or.inl rfl))) (fun _ _ _ _ _ => pts_nil) (fun _ _ _ _ _ => by exact (pe_fld (pv 4) (by rfl)))))))))), ?_⟩
    refine ⟨spRecs K, (ok_records_of T tw ta).mono (by decide), _, rfl, l, ns, rfl, hS, hby, hlen, ?_⟩
    cases hr : Valaya.read (bytesOf ns) with
    | error g =>
      rw [hr] at kk
      refine fun H1 d s1 nd => ⟨true, f.te, fun _ b nb => ?_, (by intro z; cases z)⟩
      have sE : Same H1 (upd H1 d (.xd [("place", .int g.place), ("code", .int g.code)])) := same_new nd
      refine ⟨_, rfl, rfl, rfl, d, _, _, rfl, upd_same, rfl, _, rfl, rfl, rfl, d, _, _, rfl, upd_same, rfl, small1000 (Nat.le_of_ble_eq_true rfl), fun L nL => ?_⟩
      have sA : Same H (upd (upd H1 d (.xd [("place", .int g.place), ("code", .int g.code)])) L (.lst [V.int 0, V.int g.code, V.int g.place])) := s1.trans (sE.trans (same_new nL))
      exact kk L _ (free_of (s1.trans sE) nL) (Same.but sA) (hw.same (Wo.but fun b o e _ => sA b o e)) upd_same
    | ok rs =>
      rw [hr] at kk
      intro D H1 nD s1 rn
      obtain ⟨as, d1, len, recs⟩ := rn.fits hF nD
      have len6 := rn.few
      have Da : D ≠ a := fun e => by
        rw [e, h1] at nD
        cases nD
      obtain ⟨_, _, hWo, _⟩ := id hw
      have aF := (Wo.get hWo).2
      have DF : D ≠ F := fun e => hF (by rw [← e]; exact nD)
      refine ⟨_, rfl, _, rfl, a, cHolder K, dx, _, rfl, s1 _ _ h1, T.cl_Holder, T.na_Holder_records, (by show 1 < 1000; decide), ?_⟩
      have e2 : (putF "records" (V.ref D) [(("records" : Str), V.ref rl)]) = [(("records" : Str), V.ref D)] := rfl
      rw [e2]
      have h2 : upd H1 a (.ins (cHolder K) dx [("records", .ref D)]) a = some (.ins (cHolder K) dx [("records", .ref D)]) := upd_same
      have d2 : upd H1 a (.ins (cHolder K) dx [("records", .ref D)]) D = some (.lst (as.map V.ref)) := (upd_ne Da).trans d1
      have s2 : ∀ b o, H1 b = some o → b ≠ a → upd H1 a (.ins (cHolder K) dx [("records", .ref D)]) b = some o := fun b o e n => (upd_ne n).trans e
      generalize upd H1 a (.ins (cHolder K) dx [("records", .ref D)]) = H2 at h2 d2 s2
      refine ⟨_, rfl, _, rs.length, rfl, .inl ⟨_, SqL.of d2, by rw [List.length_map, len]⟩, small1000 (Nat.le_of_ble_eq_true rfl), fun L nL => ?_⟩
      have s3 : Same H2 (upd H2 L (.lst [V.int 1, V.int (rs.length : Nat)])) := same_new nL
      have L3 : upd H2 L (.lst [V.int 1, V.int (rs.length : Nat)]) L = some (.lst [V.int 1, V.int (rs.length : Nat)]) := upd_same
      generalize upd H2 L (.lst [V.int 1, V.int (rs.length : Nat)]) = H3 at s3 L3
      refine ⟨_, rfl, D, rfl, ⟨_, SqL.of (s3 _ _ d2)⟩, fun M nM => lc_val (f := "leaves") (i := 4) (as := as) (vs := rs.map fun r => V.int (countLeaves r.t : Nat)) nM (SqL.of (s3 _ _ d2)) (by rw [List.length_map]; exact len) (by rw [len]; exact Nat.lt_of_le_of_lt len6 (by decide)) (fun j b v q z => ?_) (fun _ => rfl) (fun _ => rfl) fun H4 s4 m4 => ?_⟩
      · obtain ⟨r, hr', rfl⟩ := map_get z
        have rk := (recs j b r q hr').1
        obtain ⟨ok, _⟩ := rn.fit r (List.mem_of_getElem? hr')
        obtain ⟨fs, er, _⟩ := ok.rec_
        rw [er] at rk
        obtain ⟨b', dxr, _, _, _, _, _, _, _, ec, k1, _⟩ := rk
        cases ec
        obtain ⟨k1, nb⟩ := Off.get k1
        have ba : b ≠ a := fun e => by
          rw [e, h1] at nb
          cases nb
        exact ⟨_, _, _, s3 _ _ (s2 _ _ k1 ba), T.cl_Record, T.na_Record_leaves, by rw [er]; rfl⟩
      · refine ⟨L, M, _, _, rfl, rfl, s4 _ _ L3, m4, ?_, fun R nR => ?_⟩
        · rw [List.length_map]
          exact Nat.le_of_lt (small1000 (show 2 + rs.length ≤ 1000 by omega))
        have s5 : Same H2 (upd H4 R (.lst ([V.int 1, V.int (rs.length : Nat)] ++ rs.map fun r => V.int (countLeaves r.t : Nat)))) := s3.trans (s4.trans (same_new nR))
        have tot : ∀ b o, H1 b = some o → b ≠ a → upd H4 R (.lst ([V.int 1, V.int (rs.length : Nat)] ++ rs.map fun r => V.int (countLeaves r.t : Nat))) b = some o := fun b o e n => s5 _ _ (s2 _ _ e n)
        have nRH : H R = none := by
          cases e : H R with
          | none => rfl
          | some o =>
            by_cases c : R = a
            · rw [c, s4 _ _ (s3 _ _ h2)] at nR
              cases nR
            · rw [s4 _ _ (s3 _ _ (s2 _ _ (s1 _ _ e) c))] at nR
              cases nR
        refine kk R _ nRH (fun b o e n => tot b o (s1 _ _ e) n) ⟨dx, D, Wo.of (s5 _ _ h2) aF, ⟨as, Wo.of (s5 _ _ d2) DF, len, len6, fun i b r q z => (recs i b r q z).same fun c o e => ?_⟩, fun rs' e => by cases e; exact rn.ne⟩ ?_
        · obtain ⟨e1, nb⟩ := Off.get e
          refine Wo.of (tot _ _ e1 fun z => ?_) fun z => ?_
          · rw [z, h1] at nb
            cases nb
          · rw [z] at nb
            cases e3 : H F with
            | none => exact hF e3
            | some o =>
              rw [e3] at nb
              cases nb
        · rw [upd_same]
          show some (HO.lst ([V.int 1, V.int (rs.length : Nat)] ++ rs.map fun r => V.int (countLeaves r.t : Nat))) = some (HO.lst (((1 : Int) :: Valaye.nats (rs.length :: rs.map fun r => countLeaves r.t)).map V.int))
          unfold Valaye.nats
          rw [List.map_cons, List.map_cons, List.map_cons, List.map_map, List.map_map]
          rfl
end
end LY
set_option Elab.async false
set_option linter.all false
set_option maxRecDepth 100000
set_option maxHeartbeats 4000000
namespace LY
open PySem PySem.Spec PyProof.Rows L2
theorem ok_answers {P : Program} {w : World} {K : PySem.W.Frag} {mg : Str → Option Value} {base h : Heap} (X : K.In h) (G : h.Ns mainGlobals mg) (T : Txt K mg) {fd : FuncData} (F : FnP K "answers" "answers" s_answers (He.fAd K ("answers", none)) fd) : FnOk P w K mg base CX0 200 (He.ga K "answers") fd ["calls"] (spAns K) := by
  obtain ⟨tw, ta, t1, t2⟩ := T.tups X G
  refine FunD.ok F sc_answers (fun vs H Q E h => by obtain ⟨a, ns, rfl, _⟩ := h; rfl) fun cdv A outer s H vs Q E hr h => ?_
  exact answers_body T t1 t2 ((ok_load T tw ta).mono (by decide)) cdv A outer s H vs Q E hr h
theorem holds : R.Holds := holds_of fun w K mg fa h X c G hm => by
  have T := txt_of X G c
  obtain ⟨fd, F⟩ := T.d_answers
  have e : fa = He.ga K "answers" := by
    rw [T.g_answers] at hm
    cases hm
    rfl
  subst e
  refine ⟨fd, fun s us hl => ?_, fun base B GB => ok_answers X G T F⟩
  obtain ⟨oc, od, dV, kV, doc, pm, an, cdv, ct, osl, ef, _, _, dd, _⟩ := F.ex
  have ed : dV = Value.none := by
    rcases dd with ⟨_, e⟩ | ⟨z, _⟩
    · exact e
    · exact absurd rfl z
  subst ed
  rw [ef]
  exact BindsTo.of_eq (match us, hl with | [_], _ => rfl)
end LY
theorem PySem.Challenge.cw_layouts_s01_answers_holds : PySem.Challenge.rw_layouts_s01_answers.Holds :=
  LY.holds
