import PyProof.Rows.All
import Wide.All
import OpenK.AllK
import Wide.FinOn
import HandS.ForMost
import HandS.SlotsOwn
import HandS.Wide
import HandS.Gcd
import KE.KOpsOwn
import KE.KMathG
import KE.KCallOwn
import PyProof.ReprRoads
import HandS.ClsMeth
import HandS.IsInst
import HandS.Property
import HandS.Defaults
import HandS.FStr
import HandS.Style
import PyProof.ReprLen
import HandS.OwnEq
import HandS.MakeKw
import PySem.Challenge.RW_shrunkrooms_k22_tables_and_helpers_any_v
set_option Elab.async false
set_option maxRecDepth 100000
set_option linter.all false
/-! The mathematics of fractions in lowest terms: no Python here. -/
namespace RQ
/-- the part that is taken out of a top and a bottom, with the bottom's sign -/
def G (t b : Int) : Int := if b < 0 then -((Nat.gcd t.natAbs b.natAbs : Nat) : Int) else ((Nat.gcd t.natAbs b.natAbs : Nat) : Int)
def low (t b : Int) : Int × Int := (t.fdiv (G t b), b.fdiv (G t b))
/-- in lowest terms -/
def Red (p : Int × Int) : Prop := 0 < p.2 ∧ Nat.gcd p.1.natAbs p.2.natAbs = 1

theorem gcd_pos {t b : Int} (h : b ≠ 0) : 0 < Nat.gcd t.natAbs b.natAbs := Nat.gcd_pos_of_pos_right _ (Int.natAbs_pos.mpr h)
theorem G_ne {t b : Int} (h : b ≠ 0) : G t b ≠ 0 := by
  have := gcd_pos (t := t) h
  unfold G
  split <;> omega
theorem G_abs (t b : Int) : (G t b).natAbs = Nat.gcd t.natAbs b.natAbs := by
  unfold G
  split
  · rw [Int.natAbs_neg, Int.natAbs_natCast]
  · rw [Int.natAbs_natCast]
theorem G_dvd_top (t b : Int) : G t b ∣ t := Int.natAbs_dvd_natAbs.mp (by rw [G_abs]; exact Nat.gcd_dvd_left _ _)
theorem G_dvd_bot (t b : Int) : G t b ∣ b := Int.natAbs_dvd_natAbs.mp (by rw [G_abs]; exact Nat.gcd_dvd_right _ _)
theorem fdiv_mul {a g : Int} (h : g ∣ a) : a.fdiv g * g = a := by
  have h1 : g * a.fdiv g + a.fmod g = a := Int.mul_fdiv_add_fmod a g
  have h2 : a.fmod g = 0 := Int.fmod_eq_zero_of_dvd h
  rw [h2, Int.add_zero, Int.mul_comm] at h1
  exact h1
theorem low_top (t b : Int) : (low t b).1 * G t b = t := fdiv_mul (G_dvd_top t b)
theorem low_bot (t b : Int) : (low t b).2 * G t b = b := fdiv_mul (G_dvd_bot t b)
theorem low_pos {t b : Int} (h : b ≠ 0) : 0 < (low t b).2 := by
  have e := low_bot t b
  have g := gcd_pos (t := t) h
  by_cases hb : b < 0
  · have hG : G t b < 0 := by unfold G; rw [if_pos hb]; omega
    rcases Int.lt_trichotomy (low t b).2 0 with q | q | q
    · have := Int.mul_pos_of_neg_of_neg q hG
      omega
    · rw [q] at e; omega
    · exact q
  · have hG : 0 < G t b := by unfold G; rw [if_neg hb]; omega
    rcases Int.lt_trichotomy (low t b).2 0 with q | q | q
    · have := Int.mul_neg_of_neg_of_pos q hG
      omega
    · rw [q] at e; omega
    · exact q
theorem low_cop {t b : Int} (h : b ≠ 0) : Nat.gcd (low t b).1.natAbs (low t b).2.natAbs = 1 := by
  have g := gcd_pos (t := t) h
  have e1 : (low t b).1.natAbs * Nat.gcd t.natAbs b.natAbs = t.natAbs := by
    rw [← G_abs, ← Int.natAbs_mul, low_top]
  have e2 : (low t b).2.natAbs * Nat.gcd t.natAbs b.natAbs = b.natAbs := by
    rw [← G_abs, ← Int.natAbs_mul, low_bot]
  have e3 : Nat.gcd (low t b).1.natAbs (low t b).2.natAbs * Nat.gcd t.natAbs b.natAbs = Nat.gcd t.natAbs b.natAbs := by
    rw [← Nat.gcd_mul_right, e1, e2]
  exact Nat.eq_of_mul_eq_mul_right g (by rw [e3, Nat.one_mul])
theorem low_red {t b : Int} (h : b ≠ 0) : Red (low t b) := ⟨low_pos h, low_cop h⟩
theorem low_of_red {p : Int × Int} (h : Red p) : low p.1 p.2 = p := by
  have hG : G p.1 p.2 = 1 := by
    unfold G
    rw [if_neg (by have := h.1; omega), h.2]
    rfl
  unfold low
  rw [hG, Int.fdiv_one, Int.fdiv_one]
theorem red_one (t : Int) : Red (t, 1) := ⟨(by decide : (0 : Int) < 1), by show Nat.gcd t.natAbs 1 = 1; exact Nat.gcd_one_right _⟩
theorem low_one (t : Int) : low t 1 = (t, 1) := low_of_red (red_one t)
/-- two reduced fractions of one worth are one -/
theorem red_eq {p q : Int × Int} (hp : Red p) (hq : Red q) (h : p.1 * q.2 = q.1 * p.2) : p = q := by
  have h' : p.1.natAbs * q.2.natAbs = q.1.natAbs * p.2.natAbs := by rw [← Int.natAbs_mul, ← Int.natAbs_mul, h]
  have d1 : p.2.natAbs ∣ q.2.natAbs := by
    have : p.2.natAbs ∣ p.1.natAbs * q.2.natAbs := ⟨q.1.natAbs, by rw [h', Nat.mul_comm]⟩
    exact Nat.Coprime.dvd_of_dvd_mul_left (show Nat.Coprime p.2.natAbs p.1.natAbs from by rw [Nat.coprime_iff_gcd_eq_one, Nat.gcd_comm]; exact hp.2) this
  have d2 : q.2.natAbs ∣ p.2.natAbs := by
    have : q.2.natAbs ∣ q.1.natAbs * p.2.natAbs := ⟨p.1.natAbs, by rw [← h', Nat.mul_comm]⟩
    exact Nat.Coprime.dvd_of_dvd_mul_left (show Nat.Coprime q.2.natAbs q.1.natAbs from by rw [Nat.coprime_iff_gcd_eq_one, Nat.gcd_comm]; exact hq.2) this
  have e := Nat.dvd_antisymm d1 d2
  have e2 : p.2 = q.2 := by
    have a := hp.1
    have b := hq.1
    omega
  have e1 : p.1 = q.1 := by
    rw [e2] at h
    exact Int.eq_of_mul_eq_mul_right (by have := hq.1; omega) h
  exact Prod.ext e1 e2
/-- what low brings has the worth of what it was given -/
theorem low_worth (t b : Int) : (low t b).1 * b = t * (low t b).2 := by
  have e1 := low_top t b
  have e2 := low_bot t b
  calc (low t b).1 * b = (low t b).1 * ((low t b).2 * G t b) := by rw [e2]
    _ = ((low t b).1 * G t b) * (low t b).2 := by rw [Int.mul_comm (low t b).2, Int.mul_assoc]
    _ = t * (low t b).2 := by rw [e1]
theorem low_cross {t b s d : Int} (hb : b ≠ 0) (hd : d ≠ 0) (h : t * d = s * b) : low t b = low s d := by
  refine red_eq (low_red hb) (low_red hd) ?_
  have w1 := low_worth t b
  have w2 := low_worth s d
  have hbd : b * d ≠ 0 := Int.mul_ne_zero hb hd
  refine Int.eq_of_mul_eq_mul_right hbd ?_
  calc (low t b).1 * (low s d).2 * (b * d) = ((low t b).1 * b) * ((low s d).2 * d) := by
        simp only [Int.mul_assoc, Int.mul_left_comm, Int.mul_comm]
    _ = (t * (low t b).2) * ((low s d).2 * d) := by rw [w1]
    _ = (t * d) * ((low t b).2 * (low s d).2) := by simp only [Int.mul_assoc, Int.mul_left_comm, Int.mul_comm]
    _ = (s * b) * ((low t b).2 * (low s d).2) := by rw [h]
    _ = (s * (low s d).2) * ((low t b).2 * b) := by simp only [Int.mul_assoc, Int.mul_left_comm, Int.mul_comm]
    _ = ((low s d).1 * d) * ((low t b).2 * b) := by rw [w2]
    _ = (low s d).1 * (low t b).2 * (b * d) := by simp only [Int.mul_assoc, Int.mul_left_comm, Int.mul_comm]
theorem low_of_worth {t b : Int} {p : Int × Int} (hb : b ≠ 0) (hp : Red p) (h : t * p.2 = p.1 * b) : low t b = p := by
  have := low_cross (s := p.1) hb (show p.2 ≠ 0 from by have := hp.1; omega) h
  rw [this, low_of_red hp]
theorem low_le_top (t : Int) {b : Int} (hb : b ≠ 0) : (low t b).1.natAbs ≤ t.natAbs := by
  have e : (low t b).1.natAbs * (G t b).natAbs = t.natAbs := by rw [← Int.natAbs_mul, low_top]
  have g : 0 < (G t b).natAbs := by have := G_ne (t := t) hb; omega
  rw [← e]
  exact Nat.le_mul_of_pos_right _ g
theorem low_le_bot (t : Int) {b : Int} (hb : b ≠ 0) : (low t b).2.natAbs ≤ b.natAbs := by
  have e : (low t b).2.natAbs * (G t b).natAbs = b.natAbs := by rw [← Int.natAbs_mul, low_bot]
  have g : 0 < (G t b).natAbs := by have := G_ne (t := t) hb; omega
  rw [← e]
  exact Nat.le_mul_of_pos_right _ g

/-! ### sums, products, quotients of pairs -/
abbrev Fr := Int × Int
def add (p q : Fr) : Fr := low (p.1 * q.2 + q.1 * p.2) (p.2 * q.2)
def sub (p q : Fr) : Fr := low (p.1 * q.2 - q.1 * p.2) (p.2 * q.2)
def mul (p q : Fr) : Fr := low (p.1 * q.1) (p.2 * q.2)
def neg (p : Fr) : Fr := low (-p.1) p.2
def over (p q : Fr) : Fr := low (p.1 * q.2) (p.2 * q.1)
theorem Red.ne {p : Fr} (h : Red p) : p.2 ≠ 0 := by have := h.1; omega
theorem neg_eq {p : Fr} (h : Red p) : neg p = (-p.1, p.2) :=
  low_of_red (p := (-p.1, p.2)) ⟨h.1, by show Nat.gcd (-p.1).natAbs p.2.natAbs = 1; rw [Int.natAbs_neg]; exact h.2⟩
theorem abs_eq {p : Fr} (h : Red p) : low (if p.1 < 0 then -p.1 else p.1) p.2 = (if p.1 < 0 then -p.1 else p.1, p.2) :=
  low_of_red (p := (if p.1 < 0 then -p.1 else p.1, p.2)) ⟨h.1, by
    show Nat.gcd (if p.1 < 0 then -p.1 else p.1).natAbs p.2.natAbs = 1
    split
    · rw [Int.natAbs_neg]; exact h.2
    · exact h.2⟩
/-- 0 - p -/
theorem rsub0 {p : Fr} (h : Red p) : add (neg p) (0, 1) = (-p.1, p.2) := by
  have e := neg_eq h
  unfold add
  rw [e]
  show low (-p.1 * 1 + 0 * p.2) (p.2 * 1) = _
  rw [Int.mul_one, Int.zero_mul, Int.add_zero, Int.mul_one]
  exact e
/-- n - p, told by the law's own sum -/
theorem rsub {p : Fr} (h : Red p) (n : Int) : add (neg p) (n, 1) = add (n, 1) (0 - p.1, p.2) := by
  rw [neg_eq h]
  unfold add
  show low (-p.1 * 1 + n * p.2) (p.2 * 1) = low (n * p.2 + (0 - p.1) * 1) (1 * p.2)
  rw [Int.mul_one, Int.mul_one, Int.mul_one, Int.one_mul, Int.zero_sub, Int.add_comm]
theorem sub_less (p q : Fr) : sub p q = add p (0 - q.1, q.2) := by
  unfold sub add
  show low (p.1 * q.2 - q.1 * p.2) (p.2 * q.2) = low (p.1 * q.2 + (0 - q.1) * p.2) (p.2 * q.2)
  rw [Int.zero_sub, Int.neg_mul, Int.sub_eq_add_neg]
theorem add_red {p q : Fr} (hp : Red p) (hq : Red q) : Red (add p q) := low_red (Int.mul_ne_zero hp.ne hq.ne)

/-! ### Euclid's own steps -/
theorem euclid_step {x y : Int} (hy : 0 < y) (hx : 0 ≤ x) : Nat.gcd y.natAbs (x % y).natAbs = Nat.gcd x.natAbs y.natAbs := by
  have e : (x % y).natAbs = x.natAbs % y.natAbs := by
    obtain ⟨a, rfl⟩ := Int.eq_ofNat_of_zero_le hx
    obtain ⟨b, rfl⟩ := Int.eq_ofNat_of_zero_le (Int.le_of_lt hy)
    rfl
  rw [e, Nat.gcd_comm x.natAbs, Nat.gcd_rec y.natAbs x.natAbs]
  exact Nat.gcd_comm _ _

/-! ### sizes -/
def Sz (n : Nat) (x : Int) : Prop := x.natAbs < 2 ^ n
theorem Sz.mono {n m : Nat} {x : Int} (h : Sz n x) (hm : n ≤ m) : Sz m x := Nat.lt_of_lt_of_le h (Nat.pow_le_pow_right (by decide) hm)
theorem Sz.mul {n m : Nat} {x y : Int} (h : Sz n x) (k : Sz m y) : Sz (n + m) (x * y) := by
  unfold Sz
  rw [Int.natAbs_mul, Nat.pow_add]
  exact Nat.mul_lt_mul'' h k
theorem Sz.add {n : Nat} {x y : Int} (h : Sz n x) (k : Sz n y) : Sz (n + 1) (x + y) := by
  unfold Sz at *
  rw [Nat.pow_succ]
  have := Int.natAbs_add_le x y
  omega
theorem Sz.sub {n : Nat} {x y : Int} (h : Sz n x) (k : Sz n y) : Sz (n + 1) (x - y) := by
  unfold Sz at *
  rw [Nat.pow_succ]
  have := Int.natAbs_sub_le x y
  omega
theorem Sz.neg {n : Nat} {x : Int} (h : Sz n x) : Sz n (-x) := by unfold Sz; rw [Int.natAbs_neg]; exact h
theorem Sz.le {n : Nat} {x y : Int} (h : Sz n y) (k : x.natAbs ≤ y.natAbs) : Sz n x := Nat.lt_of_le_of_lt k h
theorem Sz.G {n : Nat} {t b : Int} (hb : b ≠ 0) (h : Sz n b) : Sz n (RQ.G t b) := by
  unfold Sz
  rw [G_abs]
  exact Nat.lt_of_le_of_lt (Nat.le_of_dvd (by omega) (Nat.gcd_dvd_right _ _)) h
theorem Sz.lowT {n : Nat} {t b : Int} (hb : b ≠ 0) (h : Sz n t) : Sz n (low t b).1 := h.le (low_le_top t hb)
theorem Sz.lowB {n : Nat} {t b : Int} (hb : b ≠ 0) (h : Sz n b) : Sz n (low t b).2 := h.le (low_le_bot t hb)

/-! ### totals: by least common multiples, and pair by pair -/
/-- one step of the program's: both sums keep their worth -/
theorem total_step {tt tb t b c : Int} {F : Fr} (hF : Red F) (htb : 0 < tb) (hb : 0 < b) (hc : 0 < c) (d1 : tb ∣ c) (d2 : b ∣ c) (h : tt * F.2 = F.1 * tb) :
    (tt * (c / tb) + t * (c / b)) * (add F (t, b)).2 = (add F (t, b)).1 * c := by
  obtain ⟨x, rfl⟩ := d1
  obtain ⟨y, hy⟩ := d2
  have e1 : tb * x / tb = x := Int.mul_ediv_cancel_left _ (by omega)
  have e2 : tb * x / b = y := by rw [hy]; exact Int.mul_ediv_cancel_left _ (by omega)
  rw [e1, e2]
  have w := low_worth (F.1 * b + t * F.2) (F.2 * b)
  have hne : F.2 * b ≠ 0 := Int.mul_ne_zero hF.ne (by omega)
  refine Int.eq_of_mul_eq_mul_right hne ?_
  show (tt * x + t * y) * (low (F.1 * b + t * F.2) (F.2 * b)).2 * (F.2 * b) = (low (F.1 * b + t * F.2) (F.2 * b)).1 * (tb * x) * (F.2 * b)
  generalize low (F.1 * b + t * F.2) (F.2 * b) = L at w
  have k : (tt * x + t * y) * (F.2 * b) = (F.1 * b + t * F.2) * (tb * x) := by
    calc (tt * x + t * y) * (F.2 * b) = (tt * F.2) * (x * b) + (t * F.2) * (b * y) := by
          rw [Int.add_mul]
          simp only [Int.mul_assoc, Int.mul_left_comm, Int.mul_comm]
      _ = (F.1 * tb) * (x * b) + (t * F.2) * (tb * x) := by rw [h, ← hy]
      _ = (F.1 * b + t * F.2) * (tb * x) := by
          rw [Int.add_mul]
          simp only [Int.mul_assoc, Int.mul_left_comm, Int.mul_comm]
  calc (tt * x + t * y) * L.2 * (F.2 * b) = ((tt * x + t * y) * (F.2 * b)) * L.2 := by simp only [Int.mul_assoc, Int.mul_left_comm, Int.mul_comm]
    _ = (F.1 * b + t * F.2) * (tb * x) * L.2 := by rw [k]
    _ = ((F.1 * b + t * F.2) * L.2) * (tb * x) := by simp only [Int.mul_assoc, Int.mul_left_comm, Int.mul_comm]
    _ = (L.1 * (F.2 * b)) * (tb * x) := by rw [w]
    _ = L.1 * (tb * x) * (F.2 * b) := by simp only [Int.mul_assoc, Int.mul_left_comm, Int.mul_comm]
end RQ

set_option Elab.async false
set_option linter.all false
set_option maxRecDepth 100000
set_option maxHeartbeats 4000000
/-! Rules of this proof's own, over the hand layer: operators, comparisons, text and repr of an instance by its own defs; least common multiples; floor division by any divisor. -/
namespace RQ
open PySem PySem.Spec PyProof.Rows L2

/-! ### facts of the written part about an own class and the type int -/
/-- the class has the def g for the operator's name and h for the name turned about -/
structure BinC (K : PySem.W.Frag) (C g h : Addr) (nm : String) : Prop where
  sf : PySem.W.selfFirst K C = true
  l : PySem.W.findIn K (.ref C) (PySem.dunder nm) = some (some (.ref g))
  lf : PySem.W.isFn K (.ref g) = true
  r : PySem.W.findIn K (.ref C) (dunderR nm) = some (some (.ref h))
  rf : PySem.W.isFn K (.ref h) = true
  below : PySem.W.subIn K (.type "int") (.ref C) = some false
  above : PySem.W.subIn K (.ref C) (.type "int") = some false

section
variable {X : Cx} {CX : CXT} {C g h : Addr} {sp : Sp} {E : XK} {n : Nat} {nm : String}

/-- x op y, x an instance of the class at C, y another one or an int -/
def rInsL (C : Addr) (sp : Sp) (E : XK) : R2 := fun x y H Q =>
  (∃ a dx fs, x = .ref a ∧ H a = some (.ins C dx fs)) ∧ ((∃ b dy gs, y = .ref b ∧ H b = some (.ins C dy gs)) ∨ ∃ i, y = .int i) ∧ sp [x, y] H Q E
theorem op_insL {op : Operator} (hn : op.info.2 = nm) (c : BinC X.K C g h nm) (i1 : ∃ fo, PySem.W.findIn X.K (.type "int") (PySem.dunder nm) = some fo)
    (i2 : ∃ ro, PySem.W.findIn X.K (.type "int") (dunderR nm) = some ro) (F : FnR X.prog X.w X.K X.mg X.base CX n g sp) (hr : Room n X.A) (hx : Passes CX X E) :
    OpR X (binaryOp op) (rInsL C sp E) := by
  subst hn
  intro pins s σ H x y v u Q I rx ry hq
  obtain ⟨⟨a, dx, fs, rfl, ha⟩, hy, q⟩ := hq
  cases (show v = Value.ref a from rx)
  obtain ⟨mA, O, _⟩ := ins_get I.hok ha
  obtain ⟨od, J, _⟩ := O.look
  obtain ⟨m, hF⟩ := I.fr
  have run : ∀ w : Value, RelV y w → wpAny (model X.prog X.w) X.A (call (.ref g) [.ref a, w]) (PySem.W.CmpBack (EP X pins σ Q)) X.xe s := fun w rw_ =>
    wpAny_mono (wpAny_call (run_fnR (us := [.ref a, w]) (vs := [.ref a, y]) F hr hx I (.cons rfl (.cons rw_ .nil)) q)) (fun z s' hz => by
      obtain ⟨z', H', I', rz, qz⟩ := hz
      exact SlX.cmpback rz ⟨z', H', I', rz, qz⟩) fun _ _ e => e
  rcases hy with ⟨b, dy, gs, rfl, hb⟩ | ⟨i, rfl⟩
  · cases (show u = Value.ref b from ry)
    obtain ⟨mB, O', _⟩ := ins_get I.hok hb
    obtain ⟨od', J', _⟩ := O'.look
    exact PySem.W.binop_K hF I.ok.mod.kin J J'.type c.sf c.l c.lf (run _ rfl)
  · obtain ⟨t, rfl⟩ := (show ∃ t, u = Value.int i t from ry)
    obtain ⟨fo, e1⟩ := i1
    obtain ⟨ro, e2⟩ := i2
    exact PySem.W.ksp_binT hF I.ok.mod.kin J rfl c.sf c.l c.lf c.r (.inr ⟨_, rfl⟩) e1 e2 c.below (run _ ⟨t, rfl⟩)

/-- i op y, i an int, y an instance: the int's own slot declines, the name turned about is called -/
def rInsR (C : Addr) (sp : Sp) (E : XK) : R2 := fun x y H Q => ∃ i b dy gs, x = .int i ∧ y = .ref b ∧ H b = some (.ins C dy gs) ∧ sp [y, x] H Q E
end

/-! ### the int's own slots decline an instance -/
abbrev Dec (t : Sem Fin) (b C dx : Addr) : Prop := Meets t (fun _ R s => s.heap.get? b = some (PySem.W.instObj C dx) ∧ R (.ok (.ret Value.notImplemented)) s)
theorem dec_add (i : Int) (t : Tok) (b C dx : Addr) : Dec (Builtin.«int.__add__» ⟨[.int i t, .ref b], []⟩) b C dx :=
  .of_wp fun prog w A R s h => by obtain ⟨hp, g, d, tk, os⟩ := s; obtain ⟨hl, h⟩ := h; wp_walk; exact ⟨_, rfl, h⟩
theorem dec_sub (i : Int) (t : Tok) (b C dx : Addr) : Dec (Builtin.«int.__sub__» ⟨[.int i t, .ref b], []⟩) b C dx :=
  .of_wp fun prog w A R s h => by obtain ⟨hp, g, d, tk, os⟩ := s; obtain ⟨hl, h⟩ := h; wp_walk; exact ⟨_, rfl, h⟩
theorem dec_mul (i : Int) (t : Tok) (b C dx : Addr) : Dec (Builtin.«int.__mul__» ⟨[.int i t, .ref b], []⟩) b C dx :=
  .of_wp fun prog w A R s h => by obtain ⟨hp, g, d, tk, os⟩ := s; obtain ⟨hl, h⟩ := h; wp_walk; exact ⟨_, rfl, h⟩
theorem dec_eq (i : Int) (t : Tok) (b C dx : Addr) : Dec (Builtin.«int.__eq__» ⟨[.int i t, .ref b], []⟩) b C dx :=
  .of_wp fun prog w A R s h => by obtain ⟨hp, g, d, tk, os⟩ := s; obtain ⟨hl, h⟩ := h; wp_walk; exact ⟨_, rfl, h⟩

section
variable {M : Model} {A : Around} {E : Value → Shared → Prop} {s : Shared} {K : PySem.W.Frag} {x C f g : Addr} {ox : Obj} {od : Option Obj} {nm : String}
/-- an int ahead of an instance: how the operator goes about it -/
theorem bin1_refl {id : String} {i : Int} {t : Tok} {Q : Option Value → Shared → Prop} (XK : K.In s.heap) (J : PySem.W.InstAt s.heap x ox C od) (c : BinC K C f g nm)
    (hfi : fillsNumberSlot (.type "int") nm = pure true) (hl : Slot "int" (PySem.dunder nm) id)
    (hd : wpAny M A (call (.builtin id) [.int i t, .ref x]) (fun v s' => v = .notImplemented ∧ s' = s) E s)
    (h : wpAny M A (call (.ref g) [.ref x, .int i t]) (PySem.W.CmpBack fun v s' => Q (some v) s') E s) : wpAny M A (binaryOp1 nm (.int i t) (.ref x)) Q E s := by
  obtain ⟨cd, rest, hcd, hm⟩ := PySem.W.ksp_first c.sf
  have L3 := PySem.W.fills_K (M := M) XK hcd hm c.l
  have L5 := PySem.W.looks_subIn (M := M) XK c.above
  have hne : (Value.type "int" == Value.ref C) = false := Bool.eq_false_iff.mpr fun q => by cases beq_iff_eq.mp q
  have back := PySem.W.ksp_try (Q := fun v s' => Q (some v) s') XK J c.r c.rf h
  unfold binaryOp1
  refine wpAny_bind (wpAny_typeOf (typeIs_int s i t) (wpAny_bind (J.type.here (wpAny_bind (wpAny_of_eq hfi ?_)))))
  simp only [hne, Bool.false_eq_true, if_false]
  refine wpAny_bind (L3.here ?_)
  simp only [Bool.and_self, if_true]
  refine wpAny_bind (L5.here ?_)
  have hpy : numberSlotInPython (.type "int") nm = pure false := rfl
  simp only [Bool.false_eq_true, if_false, pure_bind, Bool.not_false, Bool.and_self, if_true, hpy]
  refine wpAny_bind (wpAny_tryMethod_declines (typeIs_int s i t) hl (wpAny_mono hd (fun v s' z => ?_) fun _ _ e => e))
  obtain ⟨rfl, rfl⟩ := z
  refine ⟨rfl, ?_⟩
  refine wpAny_bind (wpAny_mono back (fun r s' z => ?_) fun _ _ e => e)
  obtain ⟨v, rfl, q⟩ := z
  exact wpAny_bind (wpAny_rule (wpAny_pure q))
end
section
variable {X : Cx} {CX : CXT} {C g h : Addr} {sp : Sp} {E : XK} {n : Nat} {nm : String}
theorem op_insR {op : Operator} {id : String} {B : Builtin} (hn : op.info.2 = nm) (c : BinC X.K C g h nm) (hfi : fillsNumberSlot (.type "int") nm = pure true) (hl : Slot "int" (PySem.dunder nm) id)
    (entry : entryFor table id = some B) (args : ∀ a b : Value, argsOk id ⟨[a, b], []⟩) (dec : ∀ (i : Int) (t : Tok) (b C dx : Addr), Dec (B ⟨[.int i t, .ref b], []⟩) b C dx)
    (F : FnR X.prog X.w X.K X.mg X.base CX n h sp) (hr : Room n X.A) (hx : Passes CX X E) : OpR X (binaryOp op) (rInsR C sp E) := by
  subst hn
  intro pins s σ H x y v u Q I rx ry hq
  obtain ⟨i, b, dy, gs, rfl, rfl, hb, q⟩ := hq
  obtain ⟨t, rfl⟩ := (show ∃ t, v = Value.int i t from rx)
  cases (show u = Value.ref b from ry)
  obtain ⟨mA, O, _⟩ := ins_get I.hok hb
  obtain ⟨od, J, _⟩ := O.look
  rcases hi : op.info with ⟨sym, nm'⟩
  rw [hi] at c hfi hl
  simp only [binaryOp, hi]
  refine wpAny_holding (wpAny_bind ?_)
  refine bin1_refl I.kIn J c hfi hl (call_meets hl (typeIs_int s i t) entry (args _ _) (dec i t b C dy) ⟨O.obj, rfl, rfl⟩) ?_
  refine wpAny_mono (wpAny_call (run_fnR (us := [.ref b, .int i t]) (vs := [.ref b, .int i]) F hr hx I (.cons rfl (.cons ⟨t, rfl⟩ .nil)) q)) (fun z s' hz => ?_) fun _ _ e => e
  obtain ⟨z', H', I', rz, qz⟩ := hz
  exact SlX.cmpback rz (wpAny_pure ⟨z', H', I', rz, qz⟩)
end

/-! ### == and != by the class's own == -/
structure EqC (K : PySem.W.Frag) (C g : Addr) : Prop where
  at_ : PySem.W.findIn K (.ref C) "__eq__" = some (some (.ref g))
  fn : PySem.W.isFn K (.ref g) = true
  ne : PySem.W.findIn K (.ref C) "__ne__" = some (some (.builtin "object.__ne__"))
  ob : PySem.W.mroIn K C (.type "object") = some true
  below : PySem.W.subIn K (.type "int") (.ref C) = some false
  above : PySem.W.subIn K (.ref C) (.type "int") = some false
section
variable {X : Cx} {CX : CXT} {C g : Addr} {sp : Sp} {E : XK} {n : Nat}
/-- x == y, x an instance, y another one or an int -/
def rEqL (C : Addr) (sp : Sp) (E : XK) : R2 := fun x y H Q =>
  (∃ a dx fs, x = .ref a ∧ H a = some (.ins C dx fs)) ∧ ((∃ b dy gs, y = .ref b ∧ H b = some (.ins C dy gs)) ∨ ∃ i, y = .int i) ∧ sp [x, y] H Q E
theorem op_eqL (c : EqC X.K C g) (F : FnR X.prog X.w X.K X.mg X.base CX n g sp) (hr : Room n X.A) (hx : Passes CX X E) : OpR X (compareOp .Eq) (rEqL C sp E) := by
  intro pins s σ H x y v u Q I rx ry hq
  obtain ⟨⟨a, dx, fs, rfl, ha⟩, hy, q⟩ := hq
  cases (show v = Value.ref a from rx)
  obtain ⟨mA, O, _⟩ := ins_get I.hok ha
  obtain ⟨od, J, _⟩ := O.look
  obtain ⟨m, hF⟩ := I.fr
  have run : ∀ w : Value, RelV y w → wpAny (model X.prog X.w) X.A (call (.ref g) [.ref a, w]) (PySem.W.CmpBack (EP X pins σ Q)) X.xe s := fun w rw_ =>
    wpAny_mono (wpAny_call (run_fnR (us := [.ref a, w]) (vs := [.ref a, y]) F hr hx I (.cons rfl (.cons rw_ .nil)) q)) (fun z s' hz => by
      obtain ⟨z', H', I', rz, qz⟩ := hz
      exact SlX.cmpback rz ⟨z', H', I', rz, qz⟩) fun _ _ e => e
  show wpAny (model X.prog X.w) X.A (richCompare .Eq (.ref a) u) (EP X pins σ Q) X.xe s
  rcases hy with ⟨b, dy, gs, rfl, hb⟩ | ⟨i, rfl⟩
  · cases (show u = Value.ref b from ry)
    obtain ⟨mB, O', _⟩ := ins_get I.hok hb
    obtain ⟨od', J', _⟩ := O'.look
    exact PySem.W.cmp_K (op := .Eq) (tb := .ref C) hr.units0 hF I.ok.mod.kin J J'.type (by simp [PySem.W.notFirst]) c.at_ c.fn (run _ rfl)
  · obtain ⟨t, rfl⟩ := (show ∃ t, u = Value.int i t from ry)
    exact PySem.W.cmp_K (op := .Eq) (tb := .type "int") hr.units0 hF I.ok.mod.kin J (PySem.W.Looks.of_pure rfl) (by unfold PySem.W.notFirst; rw [c.below]; simp) c.at_ c.fn (run _ ⟨t, rfl⟩)

/-- i == y, i an int, y an instance: the int's own == declines -/
def rEqR (C : Addr) (sp : Sp) (E : XK) : R2 := fun x y H Q => ∃ i b dy gs, x = .int i ∧ y = .ref b ∧ H b = some (.ins C dy gs) ∧ sp [y, x] H Q E
theorem op_eqR (c : EqC X.K C g) (F : FnR X.prog X.w X.K X.mg X.base CX n g sp) (hr : Room n X.A) (hx : Passes CX X E) : OpR X (compareOp .Eq) (rEqR C sp E) := by
  intro pins s σ H x y v u Q I rx ry hq
  obtain ⟨i, b, dy, gs, rfl, rfl, hb, q⟩ := hq
  obtain ⟨t, rfl⟩ := (show ∃ t, v = Value.int i t from rx)
  cases (show u = Value.ref b from ry)
  obtain ⟨mA, O, _⟩ := ins_get I.hok hb
  obtain ⟨od, J, _⟩ := O.look
  have L5 := PySem.W.looks_subIn (M := model X.prog X.w) I.kIn c.above
  have hne : (Value.type "int" != Value.ref C) = true := by
    have z : (Value.type "int" == Value.ref C) = false := Bool.eq_false_iff.mpr fun q => by cases beq_iff_eq.mp q
    rw [bne, z]; rfl
  show wpAny (model X.prog X.w) X.A (richCompare .Eq (.int i t) (.ref b)) (EP X pins σ Q) X.xe s
  unfold richCompare
  refine wpAny_holding (wpAny_bind (wpAny_cRoomFor hr.units0 ?_))
  have one : oneThing? .Eq (.int i t) (.ref b) = none := by first | rfl | simp [oneThing?]
  simp only [one]
  refine wpAny_bind (wpAny_typeOf (typeIs_int s i t) (wpAny_bind (J.type.here ?_)))
  simp only [hne, if_true]
  refine wpAny_bind (L5.here ?_)
  simp only [Bool.false_eq_true, if_false, Bool.not_false, if_true]
  have first_ : wpAny (model X.prog X.w) X.A (tryCompare (.int i t) (cmpInfo .Eq).2.1 (.ref b)) (fun r s' => r = none ∧ s' = s) X.xe s := by
    unfold tryCompare
    refine wpAny_bind (wpAny_callSpecialIfBound?_slot (typeIs_int s i t) PySem.F.slot_int_eq (call_meets PySem.F.slot_int_eq (typeIs_int s i t) PySem.F.entry_int_eq (PySem.F.args_int_eq_2 _ _) (dec_eq i t b C dy) ⟨O.obj, ?_⟩))
    exact wpAny_pure ⟨rfl, rfl⟩
  refine wpAny_bind (wpAny_mono first_ (fun r s' z => ?_) fun _ _ e => e)
  obtain ⟨rfl, rfl⟩ := z
  have two : wpAny (model X.prog X.w) X.A (tryCompare (.ref b) (cmpInfo .Eq).2.2 (.int i t)) (fun r s' => ∃ v, r = some v ∧ EP X pins σ Q v s') X.xe s' := by
    unfold tryCompare
    refine wpAny_bind (PySem.W.ifBound_K I.kIn J c.at_ c.fn (wpAny_mono (wpAny_call (run_fnR (us := [.ref b, .int i t]) (vs := [.ref b, .int i]) F hr hx I (.cons rfl (.cons ⟨t, rfl⟩ .nil)) q)) (fun z s' hz => ?_) fun _ _ e => e))
    obtain ⟨z', H', I', rz, qz⟩ := hz
    have k := SlX.cmpback (P := fun v s' => EP X pins σ Q v s') rz ⟨z', H', I', rz, qz⟩
    cases z <;> first | exact k.elim | exact wpAny_pure ⟨_, rfl, k⟩
  refine wpAny_bind (wpAny_mono two (fun r s' z => ?_) fun _ _ e => e)
  obtain ⟨v, rfl, hq⟩ := z
  exact wpAny_pure hq
end

section
variable {prog : Program} {w : World} {A : Around} {E : Value → Shared → Prop} {s : Shared} {K : PySem.W.Frag} {x C g : Addr} {ox : Obj} {od : Option Obj}
/-- a special name that the class has as a built-in -/
theorem bound_blt {M : Model} {id : String} {name : Str} {args : List Value} {Q : Option Value → Shared → Prop} (XK : K.In s.heap) (J : PySem.W.InstAt s.heap x ox C od) (hs : PySem.W.findIn K (.ref C) name = some (some (.builtin id)))
    (hb : ∀ self, bindSpecial (.builtin id) self = pure (.builtin id, [self])) (h : wpAny M A (call (.builtin id) (.ref x :: args)) (fun v => Q (some v)) E s) : wpAny M A (callSpecialIfBound? (.ref x) name args) Q E s := by
  simp only [callSpecialIfBound?, bindSpecialIfBound?]
  refine wpAny_holding (wpAny_bind (wpAny_bind (wpAny_bind (J.type.here ((PySem.W.looks_findIn XK hs).here ?_)))))
  refine wpAny_bind (wpAny_askSetting (wpAny_ite ?_))
  have go : wpAny M A (call (.builtin id) ([.ref x] ++ args) >>= fun v => pure (some v)) Q E s := wpAny_bind (wpAny_mono h (fun v s' z => wpAny_pure z) fun _ _ z => z)
  split
  · exact wpAny_bind ((PySem.W.Looks.of_pure (hb _)).here (wpAny_pure (by exact go)))
  · exact wpAny_tryCatch (wpAny_bind ((PySem.W.Looks.of_pure (hb _)).here (wpAny_pure (by exact go))))
/-- object's own != by the class's == -/
theorem obj_ne {y : Value} {Q : Value → Shared → Prop} (hu : A.in1.units < cLine) (XK : K.In s.heap) (J : PySem.W.InstAt s.heap x ox C od) (c : EqC K C g)
    (h : wpAny (model prog w) A.in1 (call (.ref g) [.ref x, y]) (fun v s' => ∃ b, v = .bool b ∧ Q (.bool (!b)) s') E s) : wpAny (model prog w) A (call (.builtin "object.__ne__") [.ref x, y]) Q E s := by
  refine wpAny_call (codeAny_call_builtin PySem.F.slot_object_ne.plain PySem.F.entry_object_ne (PySem.W.check_slot (i := "object.__ne__") (owner := "object") (n := "__ne__") (by decide +kernel) (by decide +kernel) (J.type.andThen (PySem.W.looks_mroIn XK c.ob)) (PySem.F.args_object_ne_2 _ _) ?_))
  unfold Builtin.«object.__ne__»
  refine wpAny_bind (m := slotArgs "__ne__" 1 _) (wpAny_pure ?_)
  refine wpAny_bind (m := cRoomFor _ _) (wpAny_cRoomFor hu ?_)
  refine wpAny_bind (m := callSpecialIfBound? (.ref x) (Str.ofString "__eq__") _) (PySem.W.ifBound_K XK J c.at_ c.fn (wpAny_mono h (fun r s' hq => ?_) fun _ _ z => z))
  obtain ⟨b, rfl, q⟩ := hq
  exact wpAny_bind (wpAny_truthy_bool (wpAny_pure q))
end
section
variable {X : Cx} {CX : CXT} {C g : Addr} {sp : Sp} {E : XK} {n : Nat}
/-- x != y, two instances of one class -/
def rNeL (C : Addr) (sp : Sp) (E : XK) : R2 := fun x y H Q =>
  (∃ a dx fs, x = .ref a ∧ H a = some (.ins C dx fs)) ∧ (∃ b dy gs, y = .ref b ∧ H b = some (.ins C dy gs)) ∧ sp [x, y] H (fun z H' => ∃ k, z = .bl k ∧ Q (.bl (!k)) H') E
theorem op_neL (c : EqC X.K C g) (F : FnR X.prog X.w X.K X.mg X.base CX n g sp) (hr : Room (n + 1) X.A) (hx : Passes CX X E) : OpR X (compareOp .NotEq) (rNeL C sp E) := by
  intro pins s σ H x y v u Q I rx ry hq
  obtain ⟨⟨a, dx, fs, rfl, ha⟩, ⟨b, dy, gs, rfl, hb⟩, q⟩ := hq
  cases (show v = Value.ref a from rx)
  cases (show u = Value.ref b from ry)
  obtain ⟨mA, O, _⟩ := ins_get I.hok ha
  obtain ⟨od, J, _⟩ := O.look
  obtain ⟨mB, O', _⟩ := ins_get I.hok hb
  obtain ⟨od', J', _⟩ := O'.look
  have run : wpAny (model X.prog X.w) X.A.in1 (call (.ref g) [.ref a, .ref b]) (fun v s' => ∃ k, v = .bool k ∧ EP X pins σ Q (.bool (!k)) s') X.xe s :=
    wpAny_mono (wpAny_call (SlX.run_at (us := [.ref a, .ref b]) (ws := [.ref a, .ref b]) F hr.in1 I.env0.in1 hx I (.cons rfl (.cons rfl .nil)) q)) (fun z s' hz => by
      obtain ⟨z', H', I', rz, k, e, qz⟩ := hz
      subst e
      exact ⟨k, rz, .bl (!k), H', I', rfl, qz⟩) fun _ _ e => e
  have one : wpAny (model X.prog X.w) X.A (tryCompare (.ref a) (cmpInfo .NotEq).2.1 (.ref b)) (fun r s' => ∃ v, r = some v ∧ EP X pins σ Q v s') X.xe s := by
    unfold tryCompare
    refine wpAny_bind (bound_blt I.kIn J c.ne PySem.F.slot_object_ne.bind (obj_ne (show X.A.in1.units < cLine from hr.in1.units0) I.kIn J c (wpAny_mono run (fun v s' z => ?_) fun _ _ e => e)))
    obtain ⟨k, e, z⟩ := z
    exact ⟨k, e, wpAny_pure ⟨_, rfl, z⟩⟩
  show wpAny (model X.prog X.w) X.A (richCompare .NotEq (.ref a) (.ref b)) (EP X pins σ Q) X.xe s
  unfold richCompare
  simp only [oneThing_ref]
  refine wpAny_holding (wpAny_bind (wpAny_cRoomFor hr.units0 ?_))
  refine wpAny_bind (J.type.here (wpAny_bind (J'.type.here ?_)))
  have hne : (Value.ref C != Value.ref C) = false := by simp
  simp only [hne, Bool.false_eq_true, if_false]
  refine wpAny_bind (wpAny_pure ?_)
  simp only [Bool.false_eq_true, if_false]
  refine wpAny_bind (wpAny_mono one (fun r s' z => ?_) fun _ _ e => e)
  obtain ⟨v, rfl, hq⟩ := z
  exact wpAny_pure hq

/-! ### - in front, str and repr -/
structure OneC (K : PySem.W.Frag) (C g : Addr) (nm : Str) : Prop where
  at_ : PySem.W.findIn K (.ref C) nm = some (some (.ref g))
  fn : PySem.W.isFn K (.ref g) = true
def rInsU (C : Addr) (sp : Sp) (E : XK) : V → Hp → VK → Prop := fun x H Q => ∃ a dx fs, x = .ref a ∧ H a = some (.ins C dx fs) ∧ sp [x] H Q E
theorem un_insN (c : OneC X.K C g "__neg__") (F : FnR X.prog X.w X.K X.mg X.base CX n g sp) (hr : Room n X.A) (hx : Passes CX X E) : UnR X (unaryOp .USub) (rInsU C sp E) := by
  intro pins s σ H x v Q I rx hq
  obtain ⟨a, dx, fs, rfl, ha, q⟩ := hq
  cases (show v = Value.ref a from rx)
  obtain ⟨mA, O, _⟩ := ins_get I.hok ha
  obtain ⟨od, J, _⟩ := O.look
  obtain ⟨m, hF⟩ := I.fr
  exact PySem.W.ksp_neg hF I.ok.mod.kin J c.at_ c.fn (wpAny_call (run_fnR (us := [.ref a]) (vs := [.ref a]) F hr hx I (.cons rfl .nil) q))
/-- str(x), repr(x): the class's own def tells a text -/
def rInsT (C : Addr) (sp : Sp) (E : XK) : List V → Hp → VK → Prop := fun xs H Q => ∃ a dx fs, xs = [.ref a] ∧ H a = some (.ins C dx fs) ∧ sp [.ref a] H (fun z H' => ∃ y, z = .str y ∧ Q z H') E
theorem strback {X : Cx} {pins : List (Addr × Obj)} {σ : L2.St} {Q : VK} {v : Value} {s' : Shared} (h : EP X pins σ (fun z H' => ∃ y, z = .str y ∧ Q z H') v s') : PySem.W.StrBack (EP X pins σ Q) v s' := by
  obtain ⟨z, H', I', rz, y, e, q⟩ := h
  subst e
  obtain ⟨t, rfl⟩ := (show ∃ t, v = Value.str y t from rz)
  exact ⟨.str y, H', I', ⟨t, rfl⟩, q⟩
theorem call_strI (c : OneC X.K C g "__str__") (F : FnR X.prog X.w X.K X.mg X.base CX n g sp) (hr : Room (n + 2) X.A) (hx : Passes CX X E) : CallR X (.type "str") (rInsT C sp E) := by
  intro pins s σ H xs us Q I r h
  obtain ⟨a, dx, fs, rfl, ha, q⟩ := h
  obtain ⟨u, rfl, ru⟩ := r.one
  cases (show u = Value.ref a from ru)
  obtain ⟨mA, O, _⟩ := ins_get I.hok ha
  obtain ⟨od, J, _⟩ := O.look
  have h2 : Room n X.A.in1.in1 := (show Room (n + 1) X.A.in1 from Room.in1 hr).in1
  refine PySem.W.kso_call h2.units0 I.kIn J c.at_ c.fn (wpAny_mono (wpAny_call (SlX.run_at (us := [.ref a]) (ws := [.ref a]) F h2 I.env0.in1.in1 hx I (.cons rfl .nil) q)) (fun z s' hz => strback hz) fun _ _ e => e)
theorem call_reprI (c : OneC X.K C g "__repr__") (F : FnR X.prog X.w X.K X.mg X.base CX n g sp) (hr : Room (n + 1) X.A) (hx : Passes CX X E) : CallR X (.builtin "repr") (rInsT C sp E) := by
  intro pins s σ H xs us Q I r h
  obtain ⟨a, dx, fs, rfl, ha, q⟩ := h
  obtain ⟨u, rfl, ru⟩ := r.one
  cases (show u = Value.ref a from ru)
  obtain ⟨mA, O, _⟩ := ins_get I.hok ha
  obtain ⟨od, J, _⟩ := O.look
  obtain ⟨m, hF⟩ := I.fr
  exact PySem.W.repr_K (show X.A.in1.units < cLine from hr.in1.units0) hF I.ok.mod.kin J c.at_ c.fn (wpAny_mono (wpAny_call (SlX.run_at (us := [.ref a]) (ws := [.ref a]) F hr.in1 I.env0.in1 hx I (.cons rfl .nil) q)) (fun z s' hz => strback hz) fun _ _ e => e)
end

/-! ### numbers -/
def CDivA (_ j : Int) : Prop := j ≠ 0 ∧ j.natAbs.log2 < 9000
/-- // by any divisor but 0 -/
theorem op_fdivA {X : Cx} : OpR X (binaryOp .FloorDiv) (rI CDivA fun i j => .int (i.fdiv j)) := opI fun _ _ _ _ _ _ _ hc q => floordiv_int hc.1 q (.inl (PyProof.noPylong_of_log2 hc.2))
theorem fdiv_ok {i j : Int} {b : Nat} (h : j ≠ 0) (hb : j.natAbs < 2 ^ b) (h0 : 0 < b) (h9 : b ≤ 9000) : CDivA i j := ⟨h, Nat.lt_of_lt_of_le (PySem.Flt.log2_lt_of h0 hb) h9⟩
def rLcm : List V → Hp → VK → Prop := fun vs H Q => ∃ a b : Int, vs = [.int a, .int b] ∧ a.natAbs < 2 ^ 6000 ∧ b.natAbs < 2 ^ 6000 ∧ Q (.int ((Nat.lcm a.natAbs b.natAbs : Nat) : Int)) H
theorem cr_lcm {X : Cx} : CallR X (.builtin "math.lcm") rLcm := by
  intro pins s σ H vs us Q I r h
  obtain ⟨a, b, rfl, ha, hb, q⟩ := h
  obtain ⟨t, u, rfl⟩ := Vals.int2 r
  have l0 : ∀ {n k : Nat}, n < 2 ^ (k + 1) → n.log2 ≤ k := fun h => PySem.W.mg_log h
  have h1 : (max 1 a.natAbs).log2 ≤ 5999 := l0 (Nat.max_lt.mpr ⟨Nat.one_lt_two_pow (by decide), ha⟩)
  have h2 : (max a.natAbs b.natAbs).log2 ≤ 5999 := l0 (Nat.max_lt.mpr ⟨ha, hb⟩)
  have e1 : Nat.lcm 1 a.natAbs = a.natAbs := Nat.lcm_one_left _
  have lt : Nat.lcm a.natAbs b.natAbs < 2 ^ 12000 := by
    have : Nat.lcm a.natAbs b.natAbs ≤ a.natAbs * b.natAbs := Nat.div_le_self _ _
    refine Nat.lt_of_le_of_lt this ?_
    have e : (2 : Nat) ^ 12000 = 2 ^ 6000 * 2 ^ 6000 := by rw [← Nat.pow_add]
    rw [e]
    exact Nat.mul_lt_mul'' ha hb
  have h3 : (Nat.lcm a.natAbs b.natAbs).log2 < bitsLine := Nat.lt_of_le_of_lt (l0 (k := 11999) lt) (by decide)
  have g := PySem.W.mg_run_lcm a t b u (by omega) (by omega) (by rw [e1]; exact h3)
  rw [e1] at g
  exact PySem.call_function_meets PySem.W.MGF.kind_lcm PySem.W.MGF.plain_lcm PySem.W.MGF.entry_lcm (PySem.W.MGF.args_lcm _ _) g.meets ⟨.int _, H, I.tok _, ⟨_, rfl⟩, q⟩
end RQ

set_option Elab.async false
set_option linter.all false
set_option maxRecDepth 100000
set_option maxHeartbeats 4000000
/-! Defs whose promise leans on nothing being written out around the call (no repr under way): the text of a list is told by its items alone. -/
namespace RQ
open PySem PySem.Spec PyProof.Rows L2

/-- a def's promise where no repr is under way -/
structure FnG (P : Program) (w : World) (K : PySem.W.Frag) (mg : Str → Option Value) (base : Heap) (k : Nat) (f : Addr) (fd : FuncData) (ps : List Str) (sp : Sp) : Prop where
  len : ∀ vs H Q E, sp vs H Q E → vs.length = ps.length
  go : ∀ (A : Around) (outer : List Env) (s : Shared) (H : Hp) (args : Args) (us : List Value) (vs : List V) (Q : VK) (E : XK), A.guards = some [] → Room k A → Env0 P w K mg base A outer s H → BindsTo s fd args (ps.zip us) → Vals vs us → sp vs H Q E →
    codeAny (model P w) A (.call (.ref f) args) (CR CX0 outer P w H s Q E) s

section
variable {P : Program} {w : World} {K : PySem.W.Frag} {mg : Str → Option Value} {base : Heap}
theorem okG {x qual : Str} {st : Stmt} {f : Addr} {fd : FuncData} {N ps : List Str} {k : Nat} {sp : Sp} (F : Fun K x qual st f fd) (S : FnScope N ps (defScope st)) (len : ∀ vs H Q E, sp vs H Q E → vs.length = ps.length)
    (body : ∀ (cdv : Value) (A : Around) (outer : List Env) (s : Shared) (H : Hp) (vs : List V) (Q : VK) (E : XK), (A.deeper (envOfC qual (defScope st) s.heap.objs.size f cdv)).guards = some [] → Room k (A.deeper (envOfC qual (defScope st) s.heap.objs.size f cdv)) → sp vs H Q E →
      ∃ t, PSs (cxOf CX0 P w K mg base N qual (defScope st) f cdv A outer s H E).nox (defBody st) t ∧ t { nx := fun _ H' => Q .non H', rt := Q } (start N vs) H) : FnG P w K mg base (k + 1) f fd ps sp := by
  obtain ⟨oc, od, kV, doc, pm, an, cdv, ct, osl, rfl, lk, hcd⟩ := F.ex
  refine ⟨len, fun A outer s H args us vs Q E hg hr e0 hb r hsp => ?_⟩
  have keep : ∀ b o, base.get? b = some o → s.heap.get? b = some o := fun b o e => (e0.bs b o e).1
  have KX : K.In s.heap := e0.mod.kin.keeps keep
  have lim : s.heap.NoLimit := e0.mod.nolimit.keeps keep
  have kinds : ∀ y ∈ ps.zip us, (defScope st).names.lookup y.1 = some .local ∨ ((defScope st).names.lookup y.1 = some .cell ∧ ((cellsFrom (s.heap.objs.size + 1) (defScope st).names []).lookup y.1).isSome = true) := by
    rintro ⟨n, v⟩ hy
    exact (S.par n (List.of_mem_zip hy).1).imp id fun q => ⟨q, PySem.W.cellsFrom_some _ _ _ (.inl q)⟩
  refine codeAny_call_function hr.depth (KX _ _ lk) rfl S.co S.gen rfl (PySem.W.codeRec_of KX hcd) (hb _ _ _ _ (wpAny_newFunctionEnv_cells S.kind kinds ?_))
  rintro env rfl s1 x
  refine ⟨lim.keeps x.toInCall.keep, codeAny_func ?_⟩
  obtain ⟨t, ht, hq⟩ := body cdv A outer s H vs Q E hg (hr.deeper _) hsp
  have I := inv_start (CX := CX0) (cd := cdv) (E := E) S hr.hd e0 (len _ _ _ _ hsp) r x
  refine wpAny_mono (ht.nox.run [] s1 (start N vs) H _ I hq) (fun fl s' hs => ?_) fun e s' hs => hs
  cases fl with
  | ret u => exact let ⟨v, _, H', J, rv, q⟩ := hs; ⟨v, H', J.os, J.bare, J.base, J.hok, rv, q⟩
  | next => exact let ⟨_, H', J, q⟩ := hs; ⟨V.non, H', J.os, J.bare, J.base, J.hok, rfl, q⟩
  | brk => exact let ⟨_, _, _, q⟩ := hs; q.elim
  | cont => exact let ⟨_, _, _, q⟩ := hs; q.elim
end

section
variable {X : Cx} {k : Nat} {f : Addr} {fd : FuncData} {ps : List Str} {sp : Sp} {E : XK} {x : Str} {p pos : Pos} {e : Expr} {es : List Expr} {t : TA}
/-- the call of such a def -/
theorem pe_callG (F : FnG X.prog X.w X.K X.mg X.base k f fd ps sp) (hgd : X.A.guards = some []) (hr : Room k X.A) (hg : Gl X x) (hm : X.mg x = some (.ref f)) (hk : PySem.W.keepIn X.K (.ref f) = true) (hb : Binds X.K fd ps [])
    (ha : PA X (e :: es) t) (hdb : (x == ("__debug__" : Str)) = false := by decide) (he : starEach (e :: es) X.env = (false, eval e X.env) :: starEach es X.env := by rfl) (hpl : (backTo pos (starEach es X.env)).any (·.1) = false := by rfl) :
    PE X (.Call (.Name x p) (e :: es) [] pos) (tCall sp [] E t) := by
  constructor
  intro pins s σ H Q I h
  refine wpAny_Call_Name_kw (ld_glob I hg hm ?_ hdb)
  refine PySem.W.callWith_K (h₀ := X.base) I.ok.mod.kin hk (thn (ha.run pos pins s σ H _ I h) fun us s1 ⟨vs, H1, I1, r, q⟩ => ⟨I1.kIn, ?_⟩) he hpl
  have q' : sp vs H1 Q E := by simpa using q
  have hl : us.length = ps.length := r.length.symm.trans (F.len _ _ _ _ q')
  have hb' := hb s1 us I1.kIn (by simpa using hl)
  refine wpAny_call (codeAny_mono (F.go X.A X.stack s1 H1 ⟨us, []⟩ us vs Q E hgd hr I1.env0 (by simpa using hb') r q') fun r s' hq => ?_)
  cases r with
  | error e => exact False.elim hq
  | ok fl =>
    cases fl with
    | ret u => exact I1.after hq
    | next => exact False.elim hq
    | brk => exact False.elim hq
    | cont => exact False.elim hq

/-- repr of a list or tuple of plain data -/
def rReprD (K : PySem.W.Frag) : List V → Hp → VK → Prop := fun xs H Q => ∃ (a : Addr) (d : PyData), xs = [.ref a] ∧ Dp K H (.ref a) d ∧ d.showable = true ∧ d.hasDict = false ∧ d.depth ≤ 60 ∧ d.shown.length ≤ sizeLine ∧ Q (.str d.shown) H
theorem call_reprD (hgd : X.A.guards = some []) (hu : X.A.units + 64 < cLine) : CallR X (.builtin "repr") (rReprD X.K) := by
  intro pins s σ H xs us Q I r h
  obtain ⟨a, d, rfl, hd, h1, h2, h3, h4, q⟩ := h
  obtain ⟨u, rfl, ru⟩ := r.one
  cases (show u = Value.ref a from ru)
  obtain ⟨as, rd⟩ := Dp.reads I d _ _ hd rfl
  exact repr_of_reads' rd h1 (fun z => by rw [h2] at z; cases z) hgd (by omega) (fun _ _ z => z) (fun h' u tk hk => ⟨.str d.shown, H, I.kept hk, ⟨u, rfl⟩, q⟩) h4
end

/-! ### the law's call -/
theorem law_callG {P : Program} {w : World} {K : PySem.W.Frag} {mg mb : Str → Option Value} {k : Nat} {fa a : Addr} {fd : FuncData} {x : Str} {sp : Sp} {s₁ : Shared} {vs : List Value} {ns : List Int}
    (KX : K.In s₁.heap) (hns : s₁.heap.Ns mainGlobals mg) (hb : s₁.heap.Ns builtinsNs mb) (hbb : ∀ x : Str, x ≠ "__name__" → mb x = bootBuiltins x) (hlim : s₁.heap.NoLimit) (hg : s₁.gens = #[])
    (ha : s₁.heap.get? a = some { cls := .type "list", data := .seq vs.toArray }) (hi : IntsAre vs ns) (hl : ns.length ≤ sizeLine) (hr : Room k callerA)
    (F : ∀ base : Heap, K.In base → base.Ns mainGlobals mg → FnG P w K mg base k fa fd [x] sp) (hbind : ∀ (s : Shared) (u : Value), BindsTo s fd ⟨[u], []⟩ [(x, u)])
    (hsp : ∀ H : Hp, Only H → SqL K H a (ns.map V.int) → sp [.ref a] H (fun v _ => v = .bl true) fun _ _ _ => False) :
    codeAny (model P w) callerA (.call (.ref fa) ⟨[.ref a], []⟩) (fun r s' => r = .ok (.ret (.bool true)) ∧ OldK s₁.heap s'.heap ∧ s'.os = s₁.os ∧ AllBare s'.gens) s₁ := by
  have rv := vals_ints hi
  have lenV := hi.length
  have main : ∀ H : Hp, Only H → SqL K H a (ns.map V.int) → HOk P w H s₁.heap → (∀ b, H b ≠ none → b = a) → (H a ≠ none → K.lookup a = none) →
      codeAny (model P w) callerA (.call (.ref fa) ⟨[.ref a], []⟩) (fun r s' => r = .ok (.ret (.bool true)) ∧ OldK s₁.heap s'.heap ∧ s'.os = s₁.os ∧ AllBare s'.gens) s₁ := by
    intro H hO hS hok hA hK
    have dicts : ∀ {b : Addr} {o : Obj} {es : Array DictEntry} {ep : Nat}, s₁.heap.get? b = some o → o.data = .dict es ep → H b = none := by
      intro b o es ep e d
      rcases Option.eq_none_or_eq_some (H b) with q | ⟨u, q⟩
      · exact q
      · have e' := hA b (by rw [q]; simp)
        rw [e', ha] at e
        cases e
        cases (show Data.seq vs.toArray _ = Data.dict es ep from d)
    have spaces : ∀ {b : Addr} {m : Str → Option Value}, s₁.heap.Ns b m → (hidT s₁.heap H).Ns b m := by
      rintro b m ⟨o, es, ep, e, d, r⟩
      exact ⟨o, es, ep, hidT_get e (dicts e d), d, r⟩
    have hKb : K.In (hidT s₁.heap H) := by
      intro b o e
      refine hidT_get (KX b o e) ?_
      rcases Option.eq_none_or_eq_some (H b) with q | ⟨u, q⟩
      · exact q
      · have e' := hA b (by rw [q]; simp)
        subst e'
        rw [hK (by rw [q]; simp)] at e
        cases e
    have hM : Mod K mg (hidT s₁.heap H) := ⟨hKb, spaces hns, ⟨mb, spaces hb, hbb⟩, let ⟨mc, h1, h2⟩ := hlim; ⟨mc, spaces h1, h2⟩⟩
    have e0 : Env0 P w K mg (hidT s₁.heap H) callerA [] s₁ H :=
      { frames := rfl, mod := hM, bs := fun b o e => of_hidT e, bsz := Nat.le_of_eq (hidT_size _ _), funs := trivial, frf := (fun b z => absurd (show b ∈ ([] : List Addr) from z) (by simp)), hok := hok, bare := .of_eq hg }
    refine codeAny_mono ((F _ hKb (spaces hns)).go callerA [] s₁ H ⟨[.ref a], []⟩ [.ref a] [.ref a] _ _ rfl hr e0 (hbind s₁ (.ref a)) (.cons rfl .nil) (hsp H hO hS)) fun r s' h => ?_
    match r, h with
    | .ok (.ret u), h =>
      obtain ⟨v, H', os, bare, un, hok', rvu, q⟩ := h
      have q' : v = .bl true := q
      subst q'
      obtain rfl : u = Value.bool true := rvu
      refine ⟨rfl, OldK.of_keep fun b o e => ?_, os, bare⟩
      rcases hO b with z | ⟨ob, xs, z⟩
      · exact un.keep b o e z (fun q => absurd (show b ∈ ([] : List Addr) from q) (by simp)) (by simp)
      · obtain ⟨e1, _⟩ := hok b _ z
        obtain ⟨e2, _⟩ := hok' b _ (un.frzs b ob _ z)
        rw [e] at e1
        cases e1
        exact e2
    | .ok .next, h => exact h.elim
    | .ok .brk, h => exact h.elim
    | .ok .cont, h => exact h.elim
    | .error e, h => exact h.elim
  rcases Option.eq_none_or_eq_some (K.lookup a) with hk | ⟨o, hk⟩
  · refine main (fun b => if b = a then some (.frz { cls := .type "list", data := .seq vs.toArray } (.lst (ns.map V.int))) else none) (fun b => ?_) (.inl (.inr ⟨_, if_pos rfl⟩)) (fun b u z => ?_) (fun b z => ?_) fun _ => hk
    · by_cases hb : b = a
      · exact .inr ⟨_, _, if_pos hb⟩
      · exact .inl (if_neg hb)
    · by_cases hb : b = a
      · subst hb
        cases (if_pos rfl).symm.trans z
        exact ⟨ha, by rw [List.length_map]; exact hl, vs, _, rv, ha⟩
      · cases (if_neg hb).symm.trans z
    · exact Decidable.byContradiction fun hb => z (if_neg hb)
  · have e := KX a o hk
    rw [ha] at e
    cases e
    refine main (fun _ => none) (fun _ => .inl rfl) (.inr ⟨_, vs.toArray, _, hk, rfl, rfl, rfl, by rw [List.size_toArray, lenV]; exact hl, by simpa using rv⟩) (fun b u z => ?_) (fun b z => absurd rfl z) fun z => absurd rfl z
    cases (show (none : Option HO) = some u from z)
theorem walkG {l : PySem.W.OpenLaw} {n k : Nat} {q : Program} {loose : List Str} {XP : (Str → Option Value) → Heap → Prop} {YP : World → Heap → Prop} {d : DefRec} {K : Params → PySem.W.Frag} {sp : PySem.W.Frag → Sp} {x : Str}
    (hn : l.most = some n) (hn2 : n ≤ sizeLine) (hdf : d.params.defaults = []) (hr : Room k callerA) (hY : ∀ (w : World) (h : Heap), YP w h → (K w.params).In h)
    (F : ∀ (w : World) (mg : Str → Option Value) (fa : Addr) (h : Heap), (K w.params).In h → h.Ns mainGlobals mg → mg d.name = some (.ref fa) →
      ∃ fd : FuncData, (∀ (s : Shared) (u : Value), BindsTo s fd ⟨[u], []⟩ [(x, u)]) ∧ ∀ base : Heap, (K w.params).In base → base.Ns mainGlobals mg → FnG l.prog w (K w.params) mg base k fa fd [x] (sp (K w.params)))
    (hsp : ∀ (K : PySem.W.Frag) (H : Hp) (a : Addr) (ns : List Int), ns.length ≤ n → SqL K H a (ns.map V.int) → sp K [.ref a] H (fun v _ => v = .bl true) fun _ _ _ => False) :
    PySem.W.WalkO q loose XP YP l.row.toRowW d [] (fun f vs => PySem.call f vs) := by
  refine Att.attach_call hn hdf fun w s₀ s₁ mg mb fa o pm cd doc a vs ns G Y ho hd hcd hmg hobj hints hlen hg => ?_
  obtain ⟨fd, hb, hF⟩ := F w mg fa _ (hY w _ Y) G.T.g hmg
  exact law_callG (hY w _ Y) G.T.g G.T.b G.T.builtins G.T.nolimit hg hobj hints (Nat.le_trans hlen hn2) hr hF hb fun H _ hS => hsp _ H a ns hlen hS
end RQ

set_option Elab.async false
set_option linter.all false
set_option maxRecDepth 100000
set_option maxHeartbeats 4000000
/-! The text of a list or tuple, however nested, that holds instances which tell their own text. -/
namespace RN
open PySem PySem.Spec PyProof.Rows L2
/-! ### below a running repr -/
abbrev lpC (args : Args) : Code := .builtin "list.__repr__.loop" args
theorem lp_depth {A : Around} {args : Args} : (A.under (lpC args)).depth ≤ A.depth + 1 := by
  first
    | exact Nat.le_of_eq rfl
    | simp [Around.under, Code.weight, Code.isCreation, Code.isGuard, Code.isCaller, Code.frames, Code.isFrame, guardIds]
theorem lp_frames {A : Around} {args : Args} {o : List Env} (h : A.frames = some o) : (A.under (lpC args)).frames = some o := by
  first
    | exact h
    | (simpa [Around.under, Code.envs, Code.isFrame, pushEnvs] using h)
theorem lp_handled {A : Around} {args : Args} : (A.under (lpC args)).handled = A.handled := rfl
theorem room_lp {k : Nat} {A : Around} {args : Args} (r : Room (k + 1) A) : Room k (A.under (lpC args)) :=
  ⟨r.hd, by have := r.dp; have := @lp_depth A args; omega, by have := r.un; rw [units_under_list_loop]; omega⟩
theorem tp_depth {A : Around} {id : String} {args : Args} (h : id = "tuple.__repr__" ∨ id = "tuple.__repr__.under") : (A.under (.builtin id args)).depth ≤ A.depth + 1 := by
  rcases h with rfl | rfl <;> first
    | exact Nat.le_of_eq rfl
    | simp [Around.under, Code.weight, Code.isCreation, Code.isGuard, Code.isCaller, Code.frames, Code.isFrame, guardIds]
/-- what tells t of x, wherever below this body, with these objects not under way -/
def RI (X : Cx) (H : Hp) (as : Addr → Prop) (d : Nat) (x : V) (t : Str) : Prop :=
  ∀ (base : Nat), base + t.length ≤ sizeLine → ∀ (A : Around) (g : List Code) (pins : List (Addr × Obj)) (σ : L2.St) (s : Shared) (v : Value) (Q : Str → Shared → Prop), Inv X pins σ H s → RelV x v → A.guards = some g → (∀ b, as b → Clear g b) → Room d A → A.frames = some X.stack →
    (∀ s', Inv X pins σ H s' → Q t s') → wpAny (model X.prog X.w) A (pyReprUnder base v) Q X.xe s
section
variable {X : Cx} {H : Hp} {as : Addr → Prop} {d : Nat} {x : V} {t : Str}
theorem RI.more {as' : Addr → Prop} (h : RI X H as d x t) (hs : ∀ b, as b → as' b) : RI X H as' d x t := fun b hb A g pins σ s v Q I r hg hc hr hf q => h b hb A g pins σ s v Q I r hg (fun a ha => hc a (hs a ha)) hr hf q
theorem RI.up {d' : Nat} (h : RI X H as d x t) (hd : d ≤ d') : RI X H as d' x t := fun b hb A g pins σ s v Q I r hg hc hr hf q => h b hb A g pins σ s v Q I r hg hc (hr.mono hd) hf q
theorem RI.of_is (h : ∀ v, RelV x v → ReprIs X.prog X.w v t) : RI X H as d x t := fun b hb A g pins σ s v Q I r hg hc hr hf q => h v r b hb A X.xe s Q fun tk => q _ (I.tok tk)
theorem RI.int {i : Int} (h : i.natAbs.log2 < 1920) : RI X H as d (.int i) (toString i) := .of_is fun v r => by
  obtain ⟨t, rfl⟩ := r
  exact ReprIs.int t h
theorem RI.bl {b : Bool} : RI X H as d (.bl b) (if b then "True" else "False") := .of_is fun v r => by
  cases (show v = Value.bool b from r)
  exact ReprIs.bool b
theorem RI.non : RI X H as d .non "None" := .of_is fun v r => by
  cases (show v = Value.none from r)
  exact ReprIs.none
theorem RI.str {z : Str} (h : (reprText z).length ≤ sizeLine) : RI X H as d (.str z) (reprText z) := .of_is fun v r => by
  obtain ⟨t, rfl⟩ := r
  exact ReprIs.str z t h
/-- an instance, by its own def -/
theorem ifBoundBy_K {M : Model} {A : Around} {E : Value → Shared → Prop} {s : Shared} {K : PySem.W.Frag} {a C f : Addr} {ox : Obj} {od : Option Obj} {name : Str} {last : Value → List Value → Sem Value} {Q : Option Value → Shared → Prop} (XK : K.In s.heap) (I : PySem.W.InstAt s.heap a ox C od)
    (hs : PySem.W.findIn K (.ref C) name = some (some (.ref f))) (hf : PySem.W.isFn K (.ref f) = true)
    (h : wpAny M A (last (.ref f) [.ref a]) (fun v => Q (some v)) E s) : wpAny M A (callSpecialIfBoundBy? last (.ref a) name) Q E s := by
  simp only [callSpecialIfBoundBy?, bindSpecialIfBound?]
  refine wpAny_holding (wpAny_bind (wpAny_bind (wpAny_bind (I.type.here ((PySem.W.looks_findIn XK hs).here ?_)))))
  refine wpAny_bind (wpAny_askSetting (wpAny_ite ?_))
  have fin : wpAny M A (last (.ref f) [.ref a] >>= fun v => pure (some v)) Q E s := wpAny_bind (wpAny_mono h (fun v s' h' => wpAny_pure h') fun _ _ h' => h')
  split
  · exact wpAny_bind ((PySem.W.bind_fn XK _ (beq_iff_eq.mp hf)).here (wpAny_pure (by exact fin)))
  · exact wpAny_tryCatch (wpAny_bind ((PySem.W.bind_fn XK _ (beq_iff_eq.mp hf)).here (wpAny_pure (by exact fin))))
theorem RI.own {CX : CXT} {C g a dx : Addr} {fs : List (Str × V)} {n : Nat} {sp : Sp} {E : XK} (c : RQ.OneC X.K C g "__repr__") (F : FnR X.prog X.w X.K X.mg X.base CX n g sp) (hx : Passes CX X E) (ha : H a = some (.ins C dx fs))
    (hsp : sp [.ref a] H (fun z H' => z = .str t ∧ H' = H) E) : RI X H as n (.ref a) t := by
  intro base hb A gs pins σ s v Q I r hg hc hr hf q
  cases (show v = Value.ref a from r)
  obtain ⟨mA, O, _⟩ := ins_get I.hok ha
  obtain ⟨od, J, _⟩ := O.look
  refine wpAny_pyReprUnder_ref (by omega) ?_
  unfold pyReprObjUnder pyReprObjBy
  refine wpAny_bind (wpAny_cRoomFor hr.units0 ?_)
  refine wpAny_bind (wpAny_bind (J.type.here ((PySem.W.looks_findIn I.kIn c.at_).here ?_)))
  show wpAny _ _ (if (some (Value.ref g)).isNone = true then _ else _) _ _ _
  rw [if_neg (by simp)]
  refine wpAny_bind (ifBoundBy_K I.kIn J c.at_ c.fn ?_)
  have e0 : Env0 X.prog X.w X.K X.mg X.base A X.stack s H := ⟨hf, I.env0.mod, I.env0.bs, I.env0.bsz, I.env0.funs, I.env0.frf, I.env0.hok, I.env0.bare⟩
  refine wpAny_mono (wpAny_call (SlX.run_at (us := [.ref a]) (ws := [.ref a]) F hr e0 hx I (.cons rfl .nil) hsp)) (fun z s' hz => ?_) fun _ _ e => e
  obtain ⟨z', H', I', rz, rfl, rfl⟩ := hz
  obtain ⟨tk, rfl⟩ := rz
  exact wpAny_bind (wpAny_isInstance (T := "str") (b := true) rfl isSubtype_str_str (wpAny_pure ⟨_, _, rfl, q _ I'⟩))
/-- an object of ours is held still -/
theorem repin {pins : List (Addr × Obj)} {σ : L2.St} {s : Shared} {P : Addr} {o : Obj} (I : Inv X pins σ H s) (f : FpOk X pins H P) (e : s.heap.get? P = some o) (nc : ∀ v, o.data ≠ .cell v) : Inv X ((P, o) :: pins) σ H s :=
  I.pins_of fun p hp => by
    rcases List.mem_cons.mp hp with rfl | z
    · exact ⟨e, f.1, f.2.1, f.2.2.1, nc⟩
    · exact I.pin p (List.mem_append_right _ z)
abbrev partsO (acc : Array Value) (c : Nat) : Obj := { cls := .type "list", dict := none, data := .seq acc c, slots := #[] }
theorem parts_nc {acc : Array Value} {c : Nat} : ∀ v, (partsO acc c).data ≠ .cell v := fun v z => by cases z
/-- the turns of a list's repr -/
theorem loop {a P : Addr} {xs : List V} {ts : List Str} {base : Nat} {g : List Code} {A : Around} {pins : List (Addr × Obj)} {σ : L2.St} {R : Result → Shared → Prop} (hH : H a = some (.lst xs)) (hlen : ts.length = xs.length)
    (hT : ∀ (i : Nat) (x : V), xs[i]? = some x → ∃ t, ts[i]? = some t ∧ RI X H as d x t) (hg : A.guards = some g) (hcl : ∀ b, as b → Clear g b) (hr : Room (d + 1) A) (hf : A.frames = some X.stack) (hna : ¬ as a) (f : FpOk X pins H P)
    (hsz : base + (listText ts).length ≤ sizeLine) (hE : ∀ e s', X.xe e s' → R (.error e) s') (hR : ∀ s' u, Inv X pins σ H s' → R (.ok (.ret (.str (listText ts) u))) s') :
    ∀ (k i : Nat) (s : Shared) (acc : Array Value) (c : Nat) (done : List (Str × Tok)), xs.length - i = k → i ≤ xs.length → Inv X ((P, partsO acc c) :: pins) σ H s → acc.toList = strValues done → done.map (·.1) = ts.take i →
      codeAny (model X.prog X.w) A (lpC ⟨[.ref a, rawInt i, .ref P, rawInt ((base + piled (ts.take i) : Nat) : Int)], []⟩) R s := by
  have hp3 := piled_le_listText ts
  have hX : (listText ts).length = (textFrom 0 "[" ts).length + 1 := by
    show (textFrom 0 "[" ts ++ "]").length = _
    rw [strLen_append]; rfl
  have hL := textFrom_len ts 0 "["
  have sz2 : ∀ t ∈ ts, t.length ≤ sizeLine := fun t ht => by
    have := hL.2.1 t ht
    omega
  have sz1 : xs.length ≤ sizeLine := by
    have h1 := hL.1
    rw [if_neg (Nat.lt_irrefl 0)] at h1
    omega
  intro k
  induction k with
  | zero =>
    intro i s acc c done hk hi I hacc hdone
    have ei : i = xs.length := by omega
    obtain ⟨z, its, n, r, hl, e⟩ := I.lstM hH
    refine codeAny_builtin F.entry_list_repr_loop ?_
    show wpAny _ _ (Builtin.«list.__repr__.loop» ⟨[.ref a, .int i 0, .ref P, .int ((base + piled (ts.take i) : Nat) : Int) 0], []⟩) _ _ s
    rw [repr_loop_tree]
    refine wpAny_bind (wpAny_listItems e rfl ?_)
    have hnone : its.toArray[(i : Int).toNat]? = none := by
      rw [Int.toNat_natCast, List.getElem?_toArray]
      exact List.getElem?_eq_none (by omega)
    simp only [hnone]
    unfold reprEnd
    refine wpAny_bind (wpAny_listItems (ClX.pin_at I) rfl ?_)
    rw [hacc, repr_fold]
    refine wpAny_bind (wpAny_pure ?_)
    have hall : done.map (·.1) = ts := by rw [hdone, ei, ← hlen, List.take_length]
    rw [hall]
    refine wpAny_bind (wpAny_mkStr (wpAny_pure ?_) (by show (listText ts).length ≤ sizeLine; omega))
    exact hR _ _ ((ClX.unpin I).tok _)
  | succ k ih =>
    intro i s acc c done hk hi I hacc hdone
    have hlt : i < xs.length := by omega
    obtain ⟨z, its, n, r, hl, e⟩ := I.lstM hH
    have hx : xs[i]? = some xs[i] := List.getElem?_eq_getElem hlt
    obtain ⟨t, ht, hrep⟩ := hT i xs[i] hx
    have hp1 := piled_take_succ ht
    have hp2 := piled_take_le ts (i + 1)
    have hli : i < its.length := by omega
    have rv : RelV xs[i] its[i] := by
      obtain ⟨u, hu, q⟩ := Vals.get r hx
      rw [List.getElem?_eq_getElem hli] at hu
      cases hu
      exact q
    refine codeAny_builtin F.entry_list_repr_loop ?_
    show wpAny _ _ (Builtin.«list.__repr__.loop» ⟨[.ref a, .int i 0, .ref P, .int ((base + piled (ts.take i) : Nat) : Int) 0], []⟩) _ _ s
    rw [repr_loop_tree]
    refine wpAny_bind (wpAny_listItems e rfl ?_)
    have hsome : its.toArray[(i : Int).toNat]? = some its[i] := by
      rw [Int.toNat_natCast, List.getElem?_toArray]
      exact List.getElem?_eq_getElem hli
    simp only [hsome]
    rw [Int.toNat_natCast]
    refine wpAny_bind (wpAny_holding (wpAny_mono (hrep (base + piled (ts.take i) + 1) (by omega) _ _ _ _ _ _ _ I rv (guards_under_guard (isGuard_list_loop _) hg) (fun b hb => (hcl b hb).cons (a := a) fun e => hna (e ▸ hb)) (room_lp hr) (lp_frames hf) fun s' I' => ?_) (fun _ _ q => q) hE))
    refine wpAny_bind (wpAny_mkStr ?_ (sz2 t (List.mem_of_getElem? ht)))
    refine wpAny_bind ?_
    show wpAny _ _ (updateSeq P _) _ _ _
    have hasz : acc.size ≤ sizeLine := by
      have e1 : acc.toList.length = acc.size := by simp
      have e2 : (strValues done).length = done.length := by simp [strValues]
      have e3 : done.length = (ts.take i).length := by rw [← hdone, List.length_map]
      have e4 : (ts.take i).length ≤ i := by rw [List.length_take]; omega
      rw [hacc] at e1
      omega
    have hP := ClX.pin_at I'
    refine wpAny_updateSeq hP rfl (wpAny_pure ⟨F.quiet_list_repr_loop _, ?_⟩) hasz
    have e1 : ((i : Int) + 1) = ((i + 1 : Nat) : Int) := by omega
    have e2 : base + piled (ts.take i) + (t.length + 2) = base + piled (ts.take (i + 1)) := by omega
    rw [e1, e2]
    have I2 := (ClX.unpin I').turned (it := P) (h' := s'.heap.update P (Obj.mapSeq (·.push (.str t s'.toks)))) (t' := s'.toks + 1) (fun b o hb q => (Heap.get?_update_other _ _ (Ne.symm hb)).trans q) f.1 f.2.1 f.2.2.2.1 f.2.2.2.2.1 f.2.2.2.2.2
    exact ih (i + 1) _ (acc.push (.str t s'.toks)) _ (done ++ [(t, s'.toks)]) (by omega) hlt (repin I2 f (Heap.get?_update_self _ hP rfl) (fun v z => by cases z)) (by simp [hacc, strValues]) (by simp [List.take_add_one, ht, hdone])
theorem head {a : Addr} {xs : List V} {ts : List Str} {base : Nat} {g : List Code} {A : Around} {pins : List (Addr × Obj)} {σ : L2.St} {s : Shared} {R : Result → Shared → Prop} (I : Inv X pins σ H s) (hH : H a = some (.lst xs)) (hlen : ts.length = xs.length) (h0 : xs ≠ [])
    (hT : ∀ (i : Nat) (x : V), xs[i]? = some x → ∃ t, ts[i]? = some t ∧ RI X H as d x t) (hg : A.guards = some g) (hcl : ∀ b, (b = a ∨ as b) → Clear g b) (hr : Room (d + 1) A) (hf : A.frames = some X.stack) (hna : ¬ as a)
    (hsz : base + (listText ts).length ≤ sizeLine) (hE : ∀ e s', X.xe e s' → R (.error e) s') (hR : ∀ s' u, Inv X pins σ H s' → R (.ok (.ret (.str (listText ts) u))) s') :
    wpAny (model X.prog X.w) A.in1 (Builtin.listReprAt base ⟨[.ref a], []⟩) (fun fin s' => match fin with | .done f => R (.ok f) s' | .again c' => c'.quiet = true ∧ codeAny (model X.prog X.w) A c' R s') (fun e s' => R (.error e) s') s := by
  obtain ⟨z, its, n, r, hl, e⟩ := I.lstM hH
  have hca : Clear g a := hcl a (.inl rfl)
  cases its with
  | nil =>
    cases xs with
    | nil => exact absurd rfl h0
    | cons x l => cases hl
  | cons y l =>
    refine wpAny_list_repr_head (A := A.in1) hg (fun v rest kw hm => listSameRef_of_ne (hca _ _ _ _ hm)) e rfl ?_
    refine wpAny_bind (m := newList []) (wpAny_newObj_type ?_)
    refine wpAny_pure ⟨F.quiet_list_repr_loop _, ?_⟩
    have f : FpOk X pins H s.heap.objs.size := I.fpOk (Nat.le_refl _) I.fresh
    have I1 : Inv X pins σ H { s with heap := s.heap.push { cls := .type "list", data := .seq #[] } } := I.kept (t' := s.toks) fun b o e => Heap.get?_push_of_some _ e
    exact loop (P := s.heap.objs.size) hH hlen hT hg (fun b hb => hcl b (.inr hb)) hr hf hna f hsz hE hR _ 0 _ #[] _ [] rfl (Nat.zero_le _) (repin I1 f (Heap.get?_push_size _ rfl) (fun v z => by cases z)) rfl (by simp)
theorem RI.list {a : Addr} {xs : List V} {ts : List Str} (hH : H a = some (.lst xs)) (hlen : ts.length = xs.length) (hT : ∀ (i : Nat) (x : V), xs[i]? = some x → ∃ t, ts[i]? = some t ∧ RI X H as d x t) (hna : ¬ as a) : RI X H (fun b => b = a ∨ as b) (d + 1) (.ref a) (listText ts) := by
  intro base hb A g pins σ s v Q I r hg hc hr hf q
  cases (show v = Value.ref a from r)
  obtain ⟨z, its, n, rv, hl, e⟩ := I.lstM hH
  cases xs with
  | nil =>
    cases its with
    | cons y l => cases hl
    | nil =>
      cases ts with
      | cons y l => cases hlen
      | nil => exact wpAny_pyReprUnder_ref (by omega) (wpAny_pyReprObjUnder_list_empty ⟨_, e, rfl⟩ hr.units0 e rfl ⟨_, _, rfl, q _ (I.tok _)⟩)
  | cons x l =>
    refine wpAny_pyReprUnder_ref (by omega) (wpAny_pyReprObjUnder_twin (twin := "list.__repr__.under") ⟨_, e, rfl⟩ F.slot_list_repr.toG rfl hr.units0 ?_)
    exact call_twin_plain F.plain_list_repr_under F.entry_list_repr_under F.check_list_repr_under ⟨_, e, rfl⟩ F.slot_list_repr.toG (F.args_list_repr_1 _)
      (head (R := callEnd _ X.xe) I hH hlen (fun z => nomatch z) hT hg hc hr hf hna hb (fun _ _ h => h) fun s' u I' => ⟨⟨_, _, rfl⟩, _, _, rfl, q _ I'⟩)
/-! ### the empty dict -/
theorem RI.dict {a : Addr} (hH : H a = some (.dK [])) : RI X H (fun b => b = a ∨ as b) (d + 1) (.ref a) "{}" := by
  intro base hb A g pins σ s v Q I r hg hc hr hf q
  cases (show v = Value.ref a from r)
  obtain ⟨_, hs, vs, kv, o, es, ep, e, hx, hd, _, hp, _⟩ := I.hok a _ hH
  cases kv
  have e0 : es.toList = [] := by
    cases h : es.toList with
    | nil => rfl
    | cons y l => rw [h] at hp; cases hp
  have t : dictText [] = ("{}" : Str) := by decide +kernel
  have k : ReprK X.prog X.w [a] s.heap 1 (.ref a) (dictText []) := ReprK.dict (d := 0) e hx.1 hd hs (by simp) (by rw [e0]; exact .nil)
  rw [t] at k
  have := hr.un
  exact k base hb A g X.xe s Q hg (fun b hb => hc b (.inl (List.mem_singleton.mp hb))) (by omega) (fun _ _ e => e) fun h' tk kk => q _ (I.kept kk)
/-! ### tuples -/
abbrev tpC (id : String) (args : Args) : Code := .builtin id args
theorem tp_frames {A : Around} {id : String} {args : Args} {o : List Env} (hid : id = "tuple.__repr__" ∨ id = "tuple.__repr__.under") (h : A.frames = some o) : (A.under (tpC id args)).frames = some o := by
  rcases hid with rfl | rfl <;> first
    | exact h
    | (simpa [Around.under, Code.envs, Code.isFrame, pushEnvs] using h)
theorem tp_units {A : Around} {id : String} {args : Args} (hid : id = "tuple.__repr__" ∨ id = "tuple.__repr__.under") : (A.under (tpC id args)).units = A.units + 1 := by
  rcases hid with rfl | rfl
  · exact units_under_tuple_repr _ _
  · exact units_under_tuple_repr_under _ _
theorem tp_guard {id : String} {args : Args} (hid : id = "tuple.__repr__" ∨ id = "tuple.__repr__.under") : (tpC id args).isGuard = true := by
  rcases hid with rfl | rfl
  · exact isGuard_tuple_repr _
  · exact isGuard_tuple_repr_under _
theorem room_tp {k : Nat} {A : Around} {id : String} {args : Args} (hid : id = "tuple.__repr__" ∨ id = "tuple.__repr__.under") (r : Room (k + 1) A) : Room k (A.under (tpC id args)) :=
  ⟨r.hd, by have := r.dp; have : (A.under (tpC id args)).depth ≤ A.depth + 1 := tp_depth hid; omega, by have := r.un; rw [tp_units hid]; omega⟩
theorem tfold {g : List Code} {A : Around} (hg : A.guards = some g) (hcl : ∀ b, as b → Clear g b) (hr : Room d A) (hf : A.frames = some X.stack) {pins : List (Addr × Obj)} {σ : L2.St} :
    ∀ (xs : List V) (us : List Value) (ts : List Str) (acc : Array Str) (n : Nat) (s : Shared) (Q : (Array Str × Nat) → Shared → Prop), Vals xs us → Paired (RI X H as d) xs ts → n + piled ts ≤ sizeLine → Inv X pins σ H s →
      (∀ s', Inv X pins σ H s' → Q ⟨acc ++ ts.toArray, n + piled ts⟩ s') → wpAny (model X.prog X.w) A (forIn us (⟨acc, n⟩ : (Array Str × Nat)) tupBody) Q X.xe s
  | _, _, _, acc, n, s, Q, .nil, .nil, _, I, h => by
    have h0 := h s I
    simp only [List.forIn_nil]
    exact wpAny_pure (by simpa [piled] using h0)
  | _, _, _, acc, n, s, Q, .cons (a := x) (b := u) rx rv, .cons (b := t) hx ht, hn, I, h => by
    rw [piled_cons] at hn
    rw [List.forIn_cons]
    refine wpAny_bind (wpAny_bind (hx (n + 1) (by omega) _ _ _ _ _ _ _ I rx hg hcl hr hf fun s' I' => wpAny_pure ?_))
    refine tfold hg hcl hr hf _ _ _ (acc.push t) (n + (t.length + 2)) _ Q rv ht (by omega) I' fun s'' I'' => ?_
    have h1 := h s'' I''
    rename_i ts'
    have e : n + piled (t :: ts') = n + (t.length + 2) + piled ts' := by rw [piled_cons]; omega
    rw [e] at h1
    simpa using h1
theorem thead {a : Addr} {xs : List V} {ts : List Str} {base : Nat} {g : List Code} {A : Around} {id : String} {rest : List Value} (hid : id = "tuple.__repr__" ∨ id = "tuple.__repr__.under") {pins : List (Addr × Obj)} {σ : L2.St} {s : Shared} {R : Result → Shared → Prop} (I : Inv X pins σ H s) (hH : H a = some (.tup xs))
    (hT : Paired (RI X H as d) xs ts) (hg : A.guards = some g) (hcl : ∀ b, (b = a ∨ as b) → Clear g b) (hr : Room (d + 1) A) (hf : A.frames = some X.stack) (hna : ¬ as a)
    (hsz : base + (tupleText ts).length ≤ sizeLine) (hE : ∀ e s', X.xe e s' → R (.error e) s') (hR : ∀ s' u, Inv X pins σ H s' → R (.ok (.ret (.str (tupleText ts) u))) s') :
    wpOwn (model X.prog X.w) A (.builtin id ⟨.ref a :: rest, []⟩) (Builtin.tupleReprAt base ⟨[.ref a], []⟩) (fun fin s' => match fin with | .done f => R (.ok f) s' | .again c' => c'.quiet = true ∧ codeAny (model X.prog X.w) A c' R s') (fun e s' => R (.error e) s') s := by
  obtain ⟨z, its, rv, o, e, hc, n, hd⟩ := I.hok a _ hH
  have hca : Clear g a := hcl a (.inl rfl)
  have hlen : ts.length = its.length := by rw [← Paired.length hT, Paired.length rv]
  have hp := piled_le_tupleText ts
  have hsz0 : (tupleText ts).length ≤ sizeLine := by omega
  rw [tuple_repr_tree, tupleReprUnderWay_eq]
  refine wpOwn_bind (wpOwn_stackTailAny hg (tupGuardF_off _) (tupGuardF_pos _) ?_)
  have hn : (g.any fun c => tupGuardF (.ref a) (c, default)) = false := by
    rw [List.any_eq_false]
    intro c hcm
    rw [tupGuardF_of_clear hca c hcm]
    exact Bool.false_ne_true
  rw [hn]
  refine wpOwn_of_wpAny ?_
  show wpAny _ _ (tupleReprRest base (.ref a)) _ _ s
  unfold tupleReprRest Builtin.Tuple.tupleItemsOf
  refine wpAny_bind (wpAny_bind (wpAny_seqItems e hd (wpAny_pure ?_)))
  rw [← Array.forIn_toList]
  refine wpAny_bind (wpAny_mono (tfold (guards_under_guard (tp_guard hid) hg) (fun b hb => (hcl b (.inr hb)).cons (a := a) fun e => hna (e ▸ hb)) (room_tp hid hr) (tp_frames hid hf) xs its ts #[] base _ _ rv hT (by omega) I fun s' I' => ?_) (fun _ _ q => q) hE)
  refine wpAny_bind (wpAny_mkStr (wpAny_pure ?_) (by simpa [tupleText, hlen] using hsz0))
  have h1 := hR _ s'.toks (I'.tok (s'.toks + 1))
  simpa [tupleText, hlen] using h1
theorem RI.tuple {a : Addr} {xs : List V} {ts : List Str} (hH : H a = some (.tup xs)) (hT : Paired (RI X H as d) xs ts) (hna : ¬ as a) : RI X H (fun b => b = a ∨ as b) (d + 1) (.ref a) (tupleText ts) := by
  intro base hb A g pins σ s v Q I r hg hc hr hf q
  cases (show v = Value.ref a from r)
  obtain ⟨z, its, rv, o, e, hcl, n, hd⟩ := I.hok a _ hH
  refine wpAny_pyReprUnder_ref (by omega) (wpAny_pyReprObjUnder_twin (twin := "tuple.__repr__.under") ⟨o, e, hcl⟩ F.slot_tuple_repr rfl hr.units0 ?_)
  exact call_twin_own (F.quiet_tuple_repr_under _) F.entry_tuple_repr_under F.check_tuple_repr_under ⟨o, e, hcl⟩ F.slot_tuple_repr (F.args_tuple_repr_1 _)
    (thead (R := callEnd _ X.xe) (.inr rfl) I hH hT hg hc hr hf hna hb (fun _ _ h => h) fun s' u I' => ⟨⟨_, _, rfl⟩, _, _, rfl, q _ I'⟩)
/-! ### repr itself -/
/-- repr of a list or a tuple that is told by RI -/
def rReprN (X : Cx) : List V → Hp → VK → Prop := fun vs H Q => ∃ (a : Addr) (as : Addr → Prop) (d : Nat) (t : Str), vs = [.ref a] ∧ t.length ≤ sizeLine ∧ Room (d + 2) X.A ∧ ¬ as a ∧ Q (.str t) H ∧
  ((∃ xs ts, H a = some (.lst xs) ∧ t = listText ts ∧ Paired (RI X H as d) xs ts) ∨ ∃ xs ts, H a = some (.tup xs) ∧ t = tupleText ts ∧ Paired (RI X H as d) xs ts)
end
theorem at_of {α β : Type} {R : α → β → Prop} : ∀ {xs : List α} {ys : List β}, Paired R xs ys → ∀ (i : Nat) (x : α), xs[i]? = some x → ∃ y, ys[i]? = some y ∧ R x y
  | _, _, .nil, i, x, e => by simp at e
  | _, _, .cons r _, 0, x, e => by simp at e; subst e; exact ⟨_, rfl, r⟩
  | _, _, .cons _ t, i + 1, x, e => by
    obtain ⟨y, h1, h2⟩ := at_of t i x (by simpa using e)
    exact ⟨y, by simpa using h1, h2⟩
theorem call_reprN {X : Cx} (hgd : X.A.guards = some []) : CallR X (.builtin "repr") (rReprN X) := by
  intro pins s σ H xs us Q I r h
  obtain ⟨a, as, d, t, rfl, hz, hr, hna, q, hh⟩ := h
  obtain ⟨u, rfl, ru⟩ := r.one
  cases (show u = Value.ref a from ru)
  have hf : X.A.frames = some X.stack := I.env0.frames
  have hr1 : Room (d + 1) X.A.in1 := hr.in1
  have hu1 := hr1.un
  have hu2 : X.A.in1.units = X.A.units + 1 := rfl
  rcases hh with ⟨zs, ts, hH, rfl, hT⟩ | ⟨zs, ts, hH, rfl, hT⟩
  · obtain ⟨z, its, n, rv, hl, e⟩ := I.lstM hH
    refine call_repr_slot (by omega) ⟨_, e, rfl⟩ F.slot_list_repr.toG ?_
    cases zs with
    | nil =>
      cases its with
      | cons y l => cases hl
      | nil =>
        cases hT
        exact call_list_repr_empty ⟨_, e, rfl⟩ e rfl ⟨_, _, rfl, .str _, H, I.tok _, ⟨_, rfl⟩, q⟩
    | cons x l =>
      exact wpAny_call (codeAny_call_builtin F.slot_list_repr.plain F.entry_list_repr (F.slot_list_repr.check _ _ _ _ _ _ _ _ ⟨_, e, rfl⟩ (F.args_list_repr_1 _)
        (head (base := 0) (R := callEnd _ X.xe) I hH (Paired.length hT).symm (fun z => nomatch z) (at_of hT) hgd (fun b _ => Clear.nil b) hr1 hf hna (by omega) (fun _ _ h => h) fun s' u I' => ⟨_, _, rfl, .str _, H, I', ⟨_, rfl⟩, q⟩)))
  · obtain ⟨z, its, rv, o, e, hc, n, hd⟩ := I.hok a _ hH
    refine call_repr_slot (by omega) ⟨o, e, hc⟩ F.slot_tuple_repr ?_
    exact wpAny_call (codeAny_call_builtin_own (Code.quiet_builtin _ (by decide +kernel)) F.entry_tuple_repr (F.slot_tuple_repr.check _ _ _ _ _ _ _ _ ⟨o, e, hc⟩ (F.args_tuple_repr_1 _)
      (thead (base := 0) (R := callEnd _ X.xe) (.inl rfl) I hH hT hgd (fun b _ => Clear.nil b) hr1 hf hna (by omega) (fun _ _ h => h) fun s' u I' => ⟨_, _, rfl, .str _, H, I', ⟨_, rfl⟩, q⟩)))
end RN

set_option Elab.async false
set_option linter.all false
set_option maxRecDepth 100000
set_option maxHeartbeats 4000000
/-! The class of fractions, def by def. -/
namespace RQ
open PySem L2
/-! ### the text by places -/
def top (i : Nat) : Stmt := PySem.Challenge.pw_shrunkrooms_k22_tables_and_helpers_any_v.main.body.getD i (.Pass ⟨0, 0, 0, 0⟩)
abbrev sIsInt : Stmt := top 3
abbrev sInit : Stmt := inClass (top 11) 0
abbrev sRepr : Stmt := inClass (top 11) 18
abbrev sIsNumber : Stmt := top 12
abbrev sAsRatio : Stmt := top 13
abbrev sIsList : Stmt := top 16
abbrev sIsNumbers : Stmt := top 17
abbrev sAreLists : Stmt := top 18
abbrev sAreTables : Stmt := top 19
abbrev sAsRow : Stmt := top 21
abbrev sAsRows : Stmt := top 22
abbrev sTeamInit : Stmt := inClass (top 26) 0
abbrev sMany : Stmt := inClass (top 26) 1
abbrev sWantTeam : Stmt := top 27
abbrev sIsHelpers : Stmt := top 30
abbrev sSides : Stmt := top 31
abbrev sWantHelpers : Stmt := top 32
abbrev sIsTable : Stmt := top 35
abbrev lPot : Stmt := top 37
abbrev lDraw : Stmt := top 38
abbrev lPick : Stmt := top 39
abbrev lNumber : Stmt := top 40
abbrev lTable : Stmt := top 41
abbrev lIsNumber : Stmt := top 42
abbrev lIsTable : Stmt := top 43
abbrev lAreHelpers : Stmt := top 44
abbrev lBent : Stmt := top 45
abbrev lTables : Stmt := top 46
abbrev lHelpers : Stmt := top 47
abbrev lRight : Stmt := top 48
abbrev lLaw : Stmt := top 49

/-! ### what the top leaves: names, the class -/
structure Blt (mg : Str → Option Value) : Prop where
  isi : mg "isinstance" = none
  int : mg "int" = none
  bool : mg "bool" = none
  abs : mg "abs" = none
  str : mg "str" = none
  list : mg "list" = none
  tuple : mg "tuple" = none
  len : mg "len" = none
  max : mg "max" = none
  divmod : mg "divmod" = none
  range : mg "range" = none
  repr : mg "repr" = none
  gcd : mg "gcd" = some (.builtin "math.gcd")
  all : mg "all" = none
  sum : mg "sum" = none
/-- the class of fractions -/
structure RCls (K : PySem.W.Frag) (mg : Str → Option Value) (C : Addr) : Prop where
  cl : Cls K C
  nT : NoAttr K C "_top"
  nB : NoAttr K C "_bottom"
  mg_ : mg "Ratio" = some (.ref C)
  kp : PySem.W.keepIn K (.ref C) = true
  ha : PySem.W.findIn K (.ref C) "__class__" = some (some (.builtin "object.__class__"))
  hn : PySem.W.specialIn K (.builtin "object.__class__") "__get__" = some (some (.builtin "getset_descriptor.__get__"))
  htk : PySem.W.takesIn K (.builtin "object.__class__") = some true
  hm : PySem.W.mroIn K C (.type "object") = some true
  kC : PySem.W.kitOne K (.ref C) (.ref C) = some true
  kI : PySem.W.kitOne K (.ref C) (.type "int") = some false
  kB : PySem.W.kitOne K (.ref C) (.type "bool") = some false
  kL : PySem.W.kitOne K (.ref C) (.type "list") = some false
  kT : PySem.W.kitOne K (.ref C) (.type "tuple") = some false
  iC : PySem.W.kitOne K (.type "int") (.ref C) = some false
  bC : PySem.W.kitOne K (.type "bool") (.ref C) = some false
  nC : PySem.W.kitOne K (.type "NoneType") (.ref C) = some false
  sC : PySem.W.kitOne K (.type "str") (.ref C) = some false
  lC : PySem.W.kitOne K (.type "list") (.ref C) = some false
  tC : PySem.W.kitOne K (.type "tuple") (.ref C) = some false
  dC : PySem.W.kitOne K (.type "dict") (.ref C) = some false

/-! ### fractions as they stand -/
abbrev rf (p : Int × Int) : List (Str × V) := [("_top", .int p.1), ("_bottom", .int p.2)]
def RAt (C : Addr) (H : Hp) (a : Addr) (p : Int × Int) : Prop := ∃ dx, H a = some (.ins C dx (rf p))
theorem RAt.same {C : Addr} {H H' : Hp} {a : Addr} {p : Int × Int} (h : RAt C H a p) (s : Same H H') : RAt C H' a p := let ⟨dx, e⟩ := h; ⟨dx, s _ _ e⟩
theorem RAt.is {K : PySem.W.Frag} {mg : Str → Option Value} {C : Addr} {H : Hp} {a : Addr} {p : Int × Int} (R : RCls K mg C) (h : RAt C H a p) : TyX K H (.ref a) (.ref C) :=
  let ⟨_, e⟩ := h
  .base (.ins e R.cl R.ha R.hn R.htk R.hm)
theorem same_new {H : Hp} {a : Addr} {o : HO} (h : H a = none) : Same H (upd H a o) := fun b u e => by rw [upd_ne (ne_of_none e h)]; exact e
theorem rf_top (p : Int × Int) : (rf p).lookup ("_top" : Str) = some (.int p.1) := by rfl
theorem rf_bot (p : Int × Int) : (rf p).lookup ("_bottom" : Str) = some (.int p.2) := by
  have e : (("_bottom" : Str) == ("_top" : Str)) = false := by decide +kernel
  show List.lookup ("_bottom" : Str) (("_top", V.int p.1) :: [("_bottom", V.int p.2)]) = _
  rw [List.lookup_cons, e]
  rfl

section
variable {P : Program} {w : World} {K : PySem.W.Frag} {mg : Str → Option Value} {base : Heap} {C : Addr}
/-! ### is_integer -/
/-- an int, or none -/
structure SpIsInt (K : PySem.W.Frag) (vs : List V) (H : Hp) (Q : VK) (E : XK) : Prop where
  ex : ∃ (v : V) (t : Value) (bi bb : Bool), vs = [v] ∧ TyX K H v t ∧ PySem.W.kitOne K t (.type "int") = some bi ∧ PySem.W.kitOne K t (.type "bool") = some bb ∧ Q (.bl (bi && !bb)) H
theorem SpIsInt.int {H : Hp} {Q : VK} {E : XK} (i : Int) (h : Q (.bl true) H) : SpIsInt K [.int i] H Q E := ⟨.int i, _, true, false, rfl, .base (.int i), kit_ty (by decide +kernel), kit_ty (by decide +kernel), h⟩
theorem scIsInt : FnScope ["value"] ["value"] (defScope sIsInt) := ⟨rfl, rfl, rfl, by decide +kernel, rfl, by decide +kernel, by decide +kernel⟩
theorem ok_isInt {f : Addr} {fd : FuncData} (F : Fun K "is_integer" "is_integer" sIsInt f fd) (B : Blt mg) : FnOk P w K mg base CX0 1 f fd ["value"] (SpIsInt K) := by
  refine F.ok scIsInt (fun vs H Q E h => ?_) (fun cdv A outer s H vs Q E hr h => ?_)
  · obtain ⟨v, t, bi, bb, rfl, _⟩ := h
    rfl
  · obtain ⟨v, t, bi, bb, rfl, ty, h1, h2, k⟩ := h
    refine ⟨_, pss_one (ps_ret (pe_and (pe_callB call_isi (by rfl) B.isi PyProof.Rows.boot_isinstance (pa_cons (pv 0) (pa_cons (pe_bltn (by rfl) B.int PyProof.Rows.boot_int (v := .ty "int") rfl) pa_nil)))
      (pe_one (pe_not (pe_callB call_isi (by rfl) B.isi PyProof.Rows.boot_isinstance (pa_cons (pv 0) (pa_cons (pe_bltn (by rfl) B.bool PyProof.Rows.boot_bool (v := .ty "bool") rfl) pa_nil))))))), ?_⟩
    refine ⟨v, rfl, v, .ty "int", t, _, bi, rfl, .ty "int", ty, h1, bi, rfl, ite2 (fun e => ?_) (fun e => ?_)⟩
    · refine ⟨v, rfl, v, .ty "bool", t, _, bb, rfl, .ty "bool", ty, h2, bb, rfl, ?_⟩
      rw [e] at k
      exact k
    · rw [Bool.eq_false_iff.mpr e] at k
      exact k

/-! ### making a fraction -/
structure SpInit (C : Addr) (vs : List V) (H : Hp) (Q : VK) (E : XK) : Prop where
  ex : ∃ (x dx : Addr) (t b : Int), vs = [.ref x, .int t, .int b] ∧ b ≠ 0 ∧ Sz 8000 b ∧ H x = some (.ins C dx []) ∧ Q .non (upd H x (.ins C dx (rf (low t b))))
theorem scInit : FnScope ["self", "top", "bottom", "common"] ["self", "top", "bottom"] (defScope sInit) := ⟨rfl, rfl, rfl, by decide +kernel, rfl, by decide +kernel, by decide +kernel⟩
theorem putf1 (v : V) : putF "_top" v [] = ([("_top", v)] : List (Str × V)) := rfl
theorem putf2 (v u : V) : putF "_bottom" u ([("_top", v)] : List (Str × V)) = ([("_top", v), ("_bottom", u)] : List (Str × V)) := by
  have e : ¬ (("_top" : Str) = "_bottom") := by decide +kernel
  show (if ("_top" : Str) = "_bottom" then ([(("_top" : Str), u)] : List (Str × V)) else (("_top" : Str), v) :: putF "_bottom" u []) = _
  rw [if_neg e]
  rfl
theorem ok_init {f fI : Addr} {fdI : FuncData} {dvs : List V} {fd : FuncData} (F : FunD K "__init__" "Ratio.__init__" (defArgs sInit) (defBody sInit) (defScope sInit) dvs [] f fd) (B : Blt mg) (R : RCls K mg C)
    (GI : FnOk P w K mg base CX0 1 fI fdI ["value"] (SpIsInt K)) (mI : mg "is_integer" = some (.ref fI)) (kI : PySem.W.keepIn K (.ref fI) = true) (bI : Binds K fdI ["value"] []) :
    FnOk P w K mg base CX0 2 f fd ["self", "top", "bottom"] (SpInit C) := by
  refine F.ok scInit (fun vs H Q E h => ?_) (fun cdv A outer s H vs Q E hr h => ?_)
  · obtain ⟨x, dx, t, b, rfl, _⟩ := h
    rfl
  · obtain ⟨x, dx, t, b, rfl, hb, hz, hx, k⟩ := h
    refine ⟨_, PSs.nox (pss_cons (ps_if (pt_not (pt_val (pe_call GI hr (by rfl) mI kI bI .nil pass0 (pa_cons (pv 1) pa_nil)))) (pss_one ps_never) pss_nil)
      (pss_cons (ps_if (pw_or (pt_not (pt_val (pe_call GI hr (by rfl) mI kI bI .nil pass0 (pa_cons (pv 2) pa_nil)))) (pw_or1 (pt_cmpR op_eq (pv 2) pe_int (nomark _)))).pt (pss_one ps_never) pss_nil)
      (pss_cons (ps_set (i := 3) scInit.nd rfl (Or.inl rfl) (pe_callBfun cr_gcd (by rfl) B.gcd (pa_cons (pv 1) (pa_cons (pv 2) pa_nil))))
      (pss_cons (ps_if (pt_cmpR op_lt (pv 2) pe_int (nomark _)) (pss_one (ps_set (i := 3) scInit.nd rfl (Or.inl rfl) (pe_un un_neg (pv 3)))) pss_nil)
      (pss_cons (ps_fld (pv 0) (pe_op op_fdivA (pv 1) (pv 3)) rfl)
      (pss_one (ps_fld (pv 0) (pe_op op_fdivA (pv 2) (pv 3)) rfl))))))), ?_⟩
    refine ⟨_, rfl, SpIsInt.int t ⟨true, rfl, iteF ?_⟩⟩
    refine ⟨_, rfl, SpIsInt.int b ⟨true, rfl, iteF ⟨_, rfl, rfl, _, rfl, ?_⟩⟩⟩
    have hbd : decide (V.int b = V.int 0) = false := decide_eq_false (fun e => hb (by injection e))
    rw [hbd]
    refine iteF ⟨_, rfl, _, rfl, t, b, rfl, ?_⟩
    have c1 : CDivA t (G t b) := fdiv_ok (G_ne hb) (Sz.G hb hz) (by decide) (by decide)
    have c2 : CDivA b (G t b) := fdiv_ok (G_ne hb) (Sz.G hb hz) (by decide) (by decide)
    have k' : Q .non (upd (upd H x (.ins C dx [("_top", .int (t.fdiv (G t b)))])) x (.ins C dx [("_top", .int (t.fdiv (G t b))), ("_bottom", .int (b.fdiv (G t b)))])) := by
      rw [upd_upd]
      exact k
    refine ⟨_, rfl, _, _, rfl, rfl, _, rfl, ite2 (fun e => ?_) (fun e => ?_)⟩
    · have hl : b < 0 := of_decide_eq_true e
      have hg : -((Nat.gcd t.natAbs b.natAbs : Nat) : Int) = G t b := (if_pos hl).symm
      rw [← hg] at c1 c2 k'
      refine ⟨_, rfl, _, rfl, ?_⟩
      refine ⟨_, rfl, _, rfl, _, _, rfl, rfl, c1, _, rfl, x, C, dx, _, rfl, hx, R.cl, R.nT, (by show 0 < 1000; decide), ?_⟩
      refine ⟨_, rfl, _, rfl, _, _, rfl, rfl, c2, _, rfl, x, C, dx, _, rfl, upd_same, R.cl, R.nB, (by show 1 < 1000; decide), ?_⟩
      rw [putf1, putf2]
      exact k'
    · have hl : ¬ b < 0 := fun z => e (decide_eq_true z)
      have hg : ((Nat.gcd t.natAbs b.natAbs : Nat) : Int) = G t b := (if_neg hl).symm
      rw [← hg] at c1 c2 k'
      refine ⟨_, rfl, _, rfl, _, _, rfl, rfl, c1, _, rfl, x, C, dx, _, rfl, hx, R.cl, R.nT, (by show 0 < 1000; decide), ?_⟩
      refine ⟨_, rfl, _, rfl, _, _, rfl, rfl, c2, _, rfl, x, C, dx, _, rfl, upd_same, R.cl, R.nB, (by show 1 < 1000; decide), ?_⟩
      rw [putf1, putf2]
      exact k'
end
end RQ

set_option Elab.async false
set_option linter.all false
set_option maxRecDepth 100000
set_option maxHeartbeats 4000000
/-! Values of all kinds, as they stand; which of them are lists, numbers; their text. -/
namespace RQ
open PySem L2
/-! ### texts -/
abbrev num (i : Int) : Str := Str.ofString (toString i)
def told (p : Int × Int) : Str := ("Ratio(" : Str) ++ num p.1 ++ ", " ++ num p.2 ++ ")"
inductive T where
  | non
  | bl (b : Bool)
  | int (i : Int)
  | str (s : Str)
  | dct
  | rat (p : Int × Int)
  | lst (xs : List T)
  | tup (xs : List T)
namespace T
/-- a list or a tuple -/
def isL : T → Bool
  | .lst _ => true
  | .tup _ => true
  | _ => false
/-- a NUMBER -/
def isNum : T → Bool
  | .int _ => true
  | .rat _ => true
  | _ => false
def items : T → List T
  | .lst xs => xs
  | .tup xs => xs
  | _ => []
abbrev len (t : T) : Nat := t.items.length
mutual
def depth : T → Nat
  | .lst xs => depths xs + 1
  | .tup xs => depths xs + 1
  | _ => 0
def depths : List T → Nat
  | [] => 0
  | x :: xs => max (depth x) (depths xs)
end
mutual
def text : T → Str
  | .non => "None"
  | .bl b => if b then "True" else "False"
  | .int i => num i
  | .str s => reprText s
  | .dct => "{}"
  | .rat p => told p
  | .lst xs => listText (texts xs)
  | .tup xs => tupleText (texts xs)
def texts : List T → List Str
  | [] => []
  | x :: xs => text x :: texts xs
end
end T
mutual
/-- v stands for t -/
inductive At (C : Addr) (H : Hp) : V → T → Prop
  | non : At C H .non .non
  | bl (b : Bool) : At C H (.bl b) (.bl b)
  | int (i : Int) : At C H (.int i) (.int i)
  | str (s : Str) : At C H (.str s) (.str s)
  | dct {a : Addr} : H a = some (.dK []) → At C H (.ref a) .dct
  | rat {a : Addr} {p : Int × Int} : RAt C H a p → At C H (.ref a) (.rat p)
  | lst {a : Addr} {xs : List V} {ts : List T} : H a = some (.lst xs) → Ats C H xs ts → At C H (.ref a) (.lst ts)
  | tup {a : Addr} {xs : List V} {ts : List T} : H a = some (.tup xs) → Ats C H xs ts → At C H (.ref a) (.tup ts)
inductive Ats (C : Addr) (H : Hp) : List V → List T → Prop
  | nil : Ats C H [] []
  | cons {v : V} {t : T} {vs : List V} {ts : List T} : At C H v t → Ats C H vs ts → Ats C H (v :: vs) (t :: ts)
end
section
variable {P : Program} {w : World} {K : PySem.W.Frag} {mg : Str → Option Value} {base : Heap} {C : Addr}
mutual
theorem At.same {H H' : Hp} (s : Same H H') : ∀ {v : V} {t : T}, At C H v t → At C H' v t
  | _, _, .non => .non
  | _, _, .bl b => .bl b
  | _, _, .int i => .int i
  | _, _, .str x => .str x
  | _, _, .dct e => .dct (s _ _ e)
  | _, _, .rat r => .rat (r.same s)
  | _, _, .lst e h => .lst (s _ _ e) (Ats.same s h)
  | _, _, .tup e h => .tup (s _ _ e) (Ats.same s h)
theorem Ats.same {H H' : Hp} (s : Same H H') : ∀ {vs : List V} {ts : List T}, Ats C H vs ts → Ats C H' vs ts
  | _, _, .nil => .nil
  | _, _, .cons h r => .cons (At.same s h) (Ats.same s r)
end
mutual
/-- .. and for nothing else -/
theorem At.inj {H : Hp} : ∀ {v : V} {t u : T}, At C H v t → At C H v u → t = u
  | _, _, _, .non, h => by cases h; rfl
  | _, _, _, .bl b, h => by cases h; rfl
  | _, _, _, .int i, h => by cases h; rfl
  | _, _, _, .str x, h => by cases h; rfl
  | _, _, _, .dct e, h => by
    cases h with
    | dct e' => rfl
    | rat r => obtain ⟨dx, r⟩ := r; rw [e] at r; cases r
    | lst e' _ => rw [e] at e'; cases e'
    | tup e' _ => rw [e] at e'; cases e'
  | _, _, _, .rat (p := p) r, h => by
    obtain ⟨dx, e⟩ := r
    cases h with
    | dct e' => rw [e] at e'; cases e'
    | rat r' =>
      rename_i q
      obtain ⟨dy, e'⟩ := r'
      rw [e] at e'
      have z := (HO.ins.inj (Option.some.inj e')).2.2
      obtain ⟨p1, p2⟩ := p
      obtain ⟨q1, q2⟩ := q
      cases z
      rfl
    | lst e' _ => rw [e] at e'; cases e'
    | tup e' _ => rw [e] at e'; cases e'
  | _, _, _, .lst e g, h => by
    cases h with
    | dct e' => rw [e] at e'; cases e'
    | rat r => obtain ⟨dx, r⟩ := r; rw [e] at r; cases r
    | lst e' g' => rw [e] at e'; cases e'; rw [Ats.inj g g']
    | tup e' _ => rw [e] at e'; cases e'
  | _, _, _, .tup e g, h => by
    cases h with
    | dct e' => rw [e] at e'; cases e'
    | rat r => obtain ⟨dx, r⟩ := r; rw [e] at r; cases r
    | lst e' _ => rw [e] at e'; cases e'
    | tup e' g' => rw [e] at e'; cases e'; rw [Ats.inj g g']
theorem Ats.inj {H : Hp} : ∀ {vs : List V} {ts us : List T}, Ats C H vs ts → Ats C H vs us → ts = us
  | _, _, _, .nil, h => by cases h; rfl
  | _, _, _, .cons g r, h => by
    cases h with
    | cons g' r' => rw [At.inj g g', Ats.inj r r']
end
theorem Ats.paired {H : Hp} : ∀ {vs : List V} {ts : List T}, Ats C H vs ts → Paired (At C H) vs ts
  | _, _, .nil => .nil
  | _, _, .cons h r => .cons h (Ats.paired r)
theorem Ats.of {H : Hp} : ∀ {vs : List V} {ts : List T}, Paired (At C H) vs ts → Ats C H vs ts
  | _, _, .nil => .nil
  | _, _, .cons h r => .cons h (Ats.of r)
theorem Ats.length {H : Hp} {vs : List V} {ts : List T} (h : Ats C H vs ts) : vs.length = ts.length := Paired.length h.paired
/-! ### what kind it is of -/
theorem At.listed {H : Hp} {v : V} {t : T} (R : RCls K mg C) (h : At C H v t) : ∃ c, TyX K H v c ∧ PySem.W.kitAny K c [.type "list", .type "tuple"] = some t.isL := by
  have two : ∀ {c : Value} {b1 b2 : Bool}, PySem.W.kitOne K c (.type "list") = some b1 → PySem.W.kitOne K c (.type "tuple") = some b2 → PySem.W.kitAny K c [.type "list", .type "tuple"] = some (b1 || b2) := fun {c b1 b2} h1 h2 => by
    refine kitAny_cons h1 (fun e => kitAny_cons (b := b2) h2 (fun e2 => ?_) (fun e2 => ?_)) (fun e => ?_)
    · rw [e, e2]; rfl
    · rw [e, e2]; rfl
    · rw [e]; rfl
  cases h with
  | non => exact ⟨_, .base .non, two (c := .type "NoneType") (b1 := false) (b2 := false) (kit_ty (by decide +kernel)) (kit_ty (by decide +kernel))⟩
  | bl b => exact ⟨_, .base (.bl b), two (c := .type "bool") (b1 := false) (b2 := false) (kit_ty (by decide +kernel)) (kit_ty (by decide +kernel))⟩
  | int i => exact ⟨_, .base (.int i), two (c := .type "int") (b1 := false) (b2 := false) (kit_ty (by decide +kernel)) (kit_ty (by decide +kernel))⟩
  | str s => exact ⟨_, .base (.str s), two (c := .type "str") (b1 := false) (b2 := false) (kit_ty (by decide +kernel)) (kit_ty (by decide +kernel))⟩
  | dct e => exact ⟨_, .base (.dK e), two (c := .type "dict") (b1 := false) (b2 := false) (kit_ty (by decide +kernel)) (kit_ty (by decide +kernel))⟩
  | rat r => exact ⟨_, r.is R, two R.kL R.kT⟩
  | lst e _ => exact ⟨_, .base (.lst e), two (c := .type "list") (b1 := true) (b2 := false) (kit_ty (by decide +kernel)) (kit_ty (by decide +kernel))⟩
  | tup e _ => exact ⟨_, .base (.tup e), two (c := .type "tuple") (b1 := false) (b2 := true) (kit_ty (by decide +kernel)) (kit_ty (by decide +kernel))⟩
theorem At.numbered {H : Hp} {v : V} {t : T} (R : RCls K mg C) (h : At C H v t) : ∃ (c : Value) (bc bi bb : Bool), TyX K H v c ∧ PySem.W.kitOne K c (.ref C) = some bc ∧ PySem.W.kitOne K c (.type "int") = some bi ∧ PySem.W.kitOne K c (.type "bool") = some bb ∧ (bc || (bi && !bb)) = t.isNum := by
  cases h with
  | non => exact ⟨_, false, false, false, .base .non, R.nC, kit_ty (by decide +kernel), kit_ty (by decide +kernel), rfl⟩
  | bl b => exact ⟨_, false, true, true, .base (.bl b), R.bC, kit_ty (by decide +kernel), kit_ty (by decide +kernel), rfl⟩
  | int i => exact ⟨_, false, true, false, .base (.int i), R.iC, kit_ty (by decide +kernel), kit_ty (by decide +kernel), rfl⟩
  | str s => exact ⟨_, false, false, false, .base (.str s), R.sC, kit_ty (by decide +kernel), kit_ty (by decide +kernel), rfl⟩
  | dct e => exact ⟨_, false, false, false, .base (.dK e), R.dC, kit_ty (by decide +kernel), kit_ty (by decide +kernel), rfl⟩
  | rat r => exact ⟨_, true, false, false, r.is R, R.kC, R.kI, R.kB, rfl⟩
  | lst e _ => exact ⟨_, false, false, false, .base (.lst e), R.lC, kit_ty (by decide +kernel), kit_ty (by decide +kernel), rfl⟩
  | tup e _ => exact ⟨_, false, false, false, .base (.tup e), R.tC, kit_ty (by decide +kernel), kit_ty (by decide +kernel), rfl⟩
/-- the objects that are less deep -/
def Lo (C : Addr) (H : Hp) (d : Nat) (b : Addr) : Prop := ∃ t, At C H (.ref b) t ∧ t.depth < d
theorem Lo.not {H : Hp} {a : Addr} {t : T} (h : At C H (.ref a) t) : ¬ Lo C H t.depth a := fun ⟨u, hu, hd⟩ => by
  rw [At.inj h hu] at hd
  exact Nat.lt_irrefl _ hd
end
/-! ### either of two readings -/
section
variable {X : Cx}
theorem PE.or {e : Expr} {t u : TE} (h : PE X e t) (h' : PE X e u) : PE X e (fun σ H Q => t σ H Q ∨ u σ H Q) := ⟨fun pins s σ H Q I q => q.elim (h.run pins s σ H Q I) (h'.run pins s σ H Q I)⟩
theorem PI.or {tg l : Expr} {t u : TI} (h : PI X tg l t) (h' : PI X tg l u) : PI X tg l (fun σ H R => t σ H R ∨ u σ H R) := ⟨fun pins s σ H R I q => q.elim (h.run pins s σ H R I) (h'.run pins s σ H R I)⟩
end
end RQ

set_option Elab.async false
set_option linter.all false
set_option maxRecDepth 100000
set_option maxHeartbeats 4000000
/-! The text of values of all kinds. -/
namespace RQ
open PySem L2
theorem log_lt {x : Int} {n : Nat} (h : Sz n x) (h0 : 0 < n) : x.natAbs.log2 < n := PySem.Flt.log2_lt_of h0 h
/-- p in lowest terms, of a told size -/
structure OkF (n : Nat) (p : Fr) : Prop where
  red : Red p
  st : Sz n p.1
  sb : Sz n p.2
theorem OkF.mono {n m : Nat} {p : Fr} (h : OkF n p) (k : n ≤ m) : OkF m p := ⟨h.red, h.st.mono k, h.sb.mono k⟩
section
variable {P : Program} {w : World} {K : PySem.W.Frag} {mg : Str → Option Value} {base : Heap} {C : Addr}
structure SpText (C : Addr) (g : Fr → Str) (vs : List V) (H : Hp) (Q : VK) (E : XK) : Prop where
  ex : ∃ (a : Addr) (p : Fr), vs = [.ref a] ∧ RAt C H a p ∧ OkF 1000 p ∧ Q (.str (g p)) H
theorem num_len {i : Int} (h : Sz 1000 i) : (num i).length ≤ 1921 := PyProof.Rows.int_text_len_1921 (Nat.lt_of_lt_of_le (log_lt h (by decide)) (by decide))
theorem len_app (x y : Str) : (x ++ y).length = x.length + y.length := by
  show (x.cps ++ y.cps).size = _
  rw [Array.size_append]
  rfl
theorem line_ok {n : Nat} (h : n ≤ 10000) : n ≤ sizeLine := Nat.le_trans h (by decide)
theorem scRepr : FnScope ["self"] ["self"] (defScope sRepr) := ⟨rfl, rfl, rfl, by decide +kernel, rfl, by decide +kernel, by decide +kernel⟩
theorem lg {i : Int} (h : Sz 1000 i) : i.natAbs.log2 < 1920 := Nat.lt_of_lt_of_le (log_lt h (by decide)) (by decide)
theorem ok_repr {f : Addr} {fd : FuncData} (F : Fun K "__repr__" "Ratio.__repr__" sRepr f fd) (R : RCls K mg C) : FnOk P w K mg base CX0 1 f fd ["self"] (SpText C told) := by
  refine F.ok scRepr (fun vs H Q E h => ?_) (fun cdv A outer s H vs Q E hr h => ?_)
  · obtain ⟨a, p, rfl, _⟩ := h
    rfl
  · obtain ⟨a, p, rfl, ⟨dx, ha⟩, hp, k⟩ := h
    have l1 := num_len hp.st
    have l2 := num_len hp.sb
    refine ⟨_, pss_one (ps_ret (pe_joined (.cons pe_str (.cons (pe_fmt (pe_fld (pv 0) rfl)) (.cons pe_str (.cons (pe_fmt (pe_fld (pv 0) rfl)) (.cons pe_str .nil))))))), ?_⟩
    refine ⟨_, rfl, ?_, ?_⟩
    · rw [Str.empty_append]
      exact line_ok (by decide)
    refine ⟨_, rfl, a, C, dx, _, _, rfl, ha, R.cl, R.nT, rf_top p, .inr ⟨_, rfl, lg hp.st, num p.1, rfl, ?_, ?_⟩⟩
    · rw [Str.empty_append, len_app]
      exact line_ok (by show 6 + _ ≤ _; omega)
    refine ⟨_, rfl, ?_, ?_⟩
    · rw [Str.empty_append, len_app, len_app]
      exact line_ok (by show 6 + _ + 2 ≤ _; omega)
    refine ⟨_, rfl, a, C, dx, _, _, rfl, ha, R.cl, R.nB, rf_bot p, .inr ⟨_, rfl, lg hp.sb, num p.2, rfl, ?_, ?_⟩⟩
    · rw [Str.empty_append, len_app, len_app, len_app]
      exact line_ok (by show 6 + _ + 2 + _ ≤ _; omega)
    refine ⟨_, rfl, ?_, ?_⟩
    · rw [Str.empty_append, len_app, len_app, len_app, len_app]
      exact line_ok (by show 6 + _ + 2 + _ + 1 ≤ _; omega)
    · show Q (.str (Str.empty ++ "Ratio(" ++ num p.1 ++ ", " ++ num p.2 ++ ")")) H
      rw [Str.empty_append]
      exact k
end
/-! ### sizes -/
namespace T
mutual
/-- its numbers are small -/
def ok : T → Prop
  | .int i => Sz 1000 i
  | .rat p => OkF 1000 p
  | .lst xs => oks xs
  | .tup xs => oks xs
  | _ => True
def oks : List T → Prop
  | [] => True
  | x :: xs => ok x ∧ oks xs
end
mutual
/-- its text is at most so long -/
def wt : T → Nat
  | .non => 4
  | .bl _ => 5
  | .int _ => 2000
  | .str s => (reprText s).length
  | .dct => 2
  | .rat _ => 5000
  | .lst xs => wts xs + 3
  | .tup xs => wts xs + 3
def wts : List T → Nat
  | [] => 0
  | x :: xs => wt x + 2 + wts xs
end
end T
theorem piled_sum (ts : List Str) : piled ts = (ts.map (·.length)).sum + 2 * ts.length := by
  induction ts with
  | nil => rfl
  | cons t r ih =>
    rw [piled_cons, ih, List.map_cons, List.sum_cons, List.length_cons]
    omega
theorem listText_le (ts : List Str) : (listText ts).length ≤ piled ts + 3 := by
  have h := textFrom_len_le ts 0 "["
  have e : (listText ts).length = (textFrom 0 "[" ts).length + 1 := by
    show (textFrom 0 "[" ts ++ "]").length = _
    rw [PySem.strLen_append]
    rfl
  have e3 : (("[" : Str)).length = 1 := rfl
  rw [e, piled_sum]
  omega
theorem tupleText_le (ts : List Str) : (tupleText ts).length ≤ piled ts + 3 := by
  unfold tupleText
  rw [PySem.strLen_append, PySem.strLen_append]
  have h1 : (("(" : Str)).length = 1 := rfl
  have h2 : (((if ts.length == 1 then ",)" else ")" : String)) : Str).length ≤ 2 := by
    split
    · exact Nat.le_refl 2
    · exact Nat.le_succ 1
  have h3 : (Str.join ", " ts).length ≤ piled ts := by
    cases ts with
    | nil => exact Nat.le_refl _
    | cons t r =>
      have := join_length_add (t :: r) (by simp)
      omega
  omega
mutual
theorem text_le : ∀ t : T, t.ok → t.text.length ≤ t.wt
  | .non, _ => Nat.le_refl _
  | .bl b, _ => by
    cases b
    · exact Nat.le_refl 5
    · exact Nat.le_succ 4
  | .int i, h => by
    have := num_len h
    show (num i).length ≤ 2000
    omega
  | .str s, _ => Nat.le_refl _
  | .dct, _ => Nat.le_refl _
  | .rat p, h => by
    have l1 := num_len h.st
    have l2 := num_len h.sb
    show (("Ratio(" : Str) ++ num p.1 ++ ", " ++ num p.2 ++ ")").length ≤ 5000
    rw [len_app, len_app, len_app, len_app]
    show 6 + (num p.1).length + 2 + (num p.2).length + 1 ≤ 5000
    omega
  | .lst xs, h => by
    have h1 := texts_le xs h
    have h2 := listText_le (T.texts xs)
    show (listText (T.texts xs)).length ≤ T.wts xs + 3
    omega
  | .tup xs, h => by
    have h1 := texts_le xs h
    have h2 := tupleText_le (T.texts xs)
    show (tupleText (T.texts xs)).length ≤ T.wts xs + 3
    omega
theorem texts_le : ∀ xs : List T, T.oks xs → piled (T.texts xs) ≤ T.wts xs
  | [], _ => Nat.le_refl _
  | x :: xs, h => by
    have h1 := text_le x h.1
    have h2 := texts_le xs h.2
    show piled (T.text x :: T.texts xs) ≤ T.wt x + 2 + T.wts xs
    rw [piled_cons]
    omega
end
theorem paired_mono {α β : Type} {R S : α → β → Prop} : ∀ {xs : List α} {ys : List β}, Paired R xs ys → (∀ x y, R x y → S x y) → Paired S xs ys
  | _, _, .nil, _ => .nil
  | _, _, .cons r t, f => .cons (f _ _ r) (paired_mono t f)
/-! ### what RI asks -/
section
variable {P : Program} {w : World} {K : PySem.W.Frag} {mg : Str → Option Value} {base : Heap} {C : Addr}
theorem Lo.up {H : Hp} {d e : Nat} {b : Addr} (h : Lo C H d b) (k : d ≤ e) : Lo C H e b := let ⟨t, ht, hd⟩ := h; ⟨t, ht, Nat.lt_of_lt_of_le hd k⟩
end
section
variable {X : Cx} {C g : Addr} {fd : FuncData} {H : Hp}
mutual
theorem ri_at (c : OneC X.K C g "__repr__") (F : FnR X.prog X.w X.K X.mg X.base CX0 1 g (SpText C told)) : ∀ {v : V} {t : T}, At C H v t → t.ok → t.wt ≤ sizeLine → RN.RI X H (Lo C H (t.depth + 1)) (t.depth + 1) v t.text
  | _, _, .non, _, _ => .non
  | _, _, .bl b, _, _ => .bl
  | _, _, .int i, h, _ => .int (lg h)
  | _, _, .str s, _, h => .str h
  | _, _, .dct e, _, _ => (RN.RI.dict (as := fun _ => False) (d := 0) e).more fun b hb => hb.elim (fun z => ⟨_, z ▸ At.dct e, Nat.lt_succ_self _⟩) fun z => z.elim
  | _, _, .rat (p := p) r, h, _ => by
    obtain ⟨dx, e⟩ := id r
    exact RN.RI.own (E := E0) c F pass0 e ⟨_, p, rfl, r, h, rfl, rfl⟩
  | _, _, .lst (a := a) (ts := ts) e r, h, hw => by
    have hw' : T.wts ts + 3 ≤ sizeLine := hw
    have ih := ri_ats c F r h (by omega)
    have hl : (T.texts ts).length = _ := (Paired.length ih).symm
    refine (RN.RI.list (d := T.depths ts + 1) e hl (RN.at_of ih) (Lo.not (At.lst e r))).more fun b hb => ?_
    rcases hb with rfl | hb
    · exact ⟨_, At.lst e r, Nat.lt_succ_self _⟩
    · exact hb.up (Nat.le_succ _)
  | _, _, .tup (a := a) (ts := ts) e r, h, hw => by
    have hw' : T.wts ts + 3 ≤ sizeLine := hw
    have ih := ri_ats c F r h (by omega)
    refine (RN.RI.tuple (d := T.depths ts + 1) e ih (Lo.not (At.tup e r))).more fun b hb => ?_
    rcases hb with rfl | hb
    · exact ⟨_, At.tup e r, Nat.lt_succ_self _⟩
    · exact hb.up (Nat.le_succ _)
theorem ri_ats (c : OneC X.K C g "__repr__") (F : FnR X.prog X.w X.K X.mg X.base CX0 1 g (SpText C told)) : ∀ {vs : List V} {ts : List T}, Ats C H vs ts → T.oks ts → T.wts ts ≤ sizeLine → Paired (RN.RI X H (Lo C H (T.depths ts + 1)) (T.depths ts + 1)) vs (T.texts ts)
  | _, _, .nil, _, _ => .nil
  | _, _, .cons (t := t) (ts := ts) a r, h, hw => by
    have hw' : T.wt t + 2 + T.wts ts ≤ sizeLine := hw
    have m1 : t.depth + 1 ≤ max t.depth (T.depths ts) + 1 := Nat.succ_le_succ (Nat.le_max_left _ _)
    have m2 : T.depths ts + 1 ≤ max t.depth (T.depths ts) + 1 := Nat.succ_le_succ (Nat.le_max_right _ _)
    exact .cons (((ri_at c F a h.1 (by omega)).more fun b hb => hb.up m1).up m1) (paired_mono (ri_ats c F r h.2 (by omega)) fun x y z => (z.more fun b hb => hb.up m2).up m2)
end
/-- repr of a value of any kind -/
def rReprT (X : Cx) (C : Addr) : List V → Hp → VK → Prop := fun vs H Q => ∃ (v : V) (t : T), vs = [v] ∧ At C H v t ∧ t.ok ∧ t.wt ≤ sizeLine ∧ Room (t.depth + 3) X.A ∧ Q (.str t.text) H
theorem call_reprT (hgd : X.A.guards = some []) (c : OneC X.K C g "__repr__") (F : FnR X.prog X.w X.K X.mg X.base CX0 1 g (SpText C told)) : CallR X (.builtin "repr") (rReprT X C) := by
  intro pins s σ H xs us Q I r h
  obtain ⟨v, t, rfl, hat, ok, wt, hr, q⟩ := h
  cases hat with
  | non =>
    obtain ⟨u, rfl, ru⟩ := r.one
    cases (show u = Value.none from ru)
    exact PySem.P.repr_of_none ⟨.str _, H, I.tok _, ⟨_, rfl⟩, q⟩
  | bl b =>
    obtain ⟨u, rfl, ru⟩ := r.one
    cases (show u = Value.bool b from ru)
    exact PySem.P.repr_of_bool ⟨.str _, H, I.tok _, ⟨_, rfl⟩, q⟩
  | int i =>
    obtain ⟨u, rfl, tk, rfl⟩ := r.one
    exact PySem.P.repr_of_int (lg ok) ⟨.str _, H, I.tok _, ⟨_, rfl⟩, q⟩
  | str z =>
    obtain ⟨u, rfl, tk, rfl⟩ := r.one
    exact PySem.P.repr_of_str ⟨.str _, H, I.tok _, ⟨_, rfl⟩, q⟩ wt
  | dct hH =>
    rename_i a
    obtain ⟨u, rfl, ru⟩ := r.one
    cases (show u = Value.ref a from ru)
    obtain ⟨_, hs, vs, kv, o, es, ep, e, hx, hd, _, hp, _⟩ := I.hok a _ hH
    cases kv
    have e0 : es.toList = [] := by
      cases h : es.toList with
      | nil => rfl
      | cons y l => rw [h] at hp; cases hp
    have tt : dictText [] = ("{}" : Str) := by decide +kernel
    have hr1 : Room 1 X.A.in1 := (hr.mono (by decide : 2 ≤ _)).in1
    have hu := hr1.un
    have hu2 : X.A.in1.units = X.A.units + 1 := rfl
    refine call_repr_slot (by omega) ⟨o, e, hx.1⟩ PySem.F.slot_dict_repr ?_
    refine call_dict_reprK (as := []) (d := 0) e hx.1 hd hs (by simp) (by rw [e0]; exact .nil) (g := []) hgd (fun b _ => Clear.nil b) (by omega) (fun _ _ e => e) fun h' u' tk hk => ⟨_, _, rfl, .str _, H, I.kept hk, ⟨_, rfl⟩, ?_⟩
    rw [tt]
    exact q
  | rat hR =>
    obtain ⟨dx, e⟩ := id hR
    exact call_reprI (E := E0) c F (hr.mono (Nat.le_add_left 2 _)) pass0 pins s σ H _ us Q I r ⟨_, dx, _, rfl, e, ⟨_, _, rfl, hR, ok, ⟨_, rfl, q⟩⟩⟩
  | lst hH hs =>
    have hw : T.wts _ + 3 ≤ sizeLine := wt
    have ih := ri_ats c F hs ok (by omega)
    exact RN.call_reprN hgd pins s σ H _ us Q I r ⟨_, _, _, _, rfl, Nat.le_trans (text_le _ ok) wt, hr.mono (by show T.depths _ + 1 + 2 ≤ T.depths _ + 1 + 3; omega), Lo.not (At.lst hH hs), q, .inl ⟨_, _, hH, rfl, ih⟩⟩
  | tup hH hs =>
    have hw : T.wts _ + 3 ≤ sizeLine := wt
    have ih := ri_ats c F hs ok (by omega)
    exact RN.call_reprN hgd pins s σ H _ us Q I r ⟨_, _, _, _, rfl, Nat.le_trans (text_le _ ok) wt, hr.mono (by show T.depths _ + 1 + 2 ≤ T.depths _ + 1 + 3; omega), Lo.not (At.tup hH hs), q, .inr ⟨_, _, hH, rfl, ih⟩⟩
end
end RQ

set_option Elab.async false
set_option linter.all false
set_option maxRecDepth 100000
set_option maxHeartbeats 4000000
/-! Which values are lists, numbers, tables: the package's own checks. -/
namespace RQ
open PySem L2
theorem small1000' {n : Nat} (h : n ≤ 1000) : n < sizeLine := small1000 h
namespace T
def isNums (lo hi : Int) (t : T) : Bool := t.isL && ((decide (lo ≤ (t.len : Int)) && decide ((t.len : Int) ≤ hi)) && t.items.all isNum)
/-- what stands first -/
def hd (t : T) : T := t.items.headD .non
def areLists (high widest : Int) (t : T) : Bool := t.isL && ((decide (1 ≤ (t.len : Int)) && decide ((t.len : Int) ≤ high)) && (t.items.all (isNums 1 widest) && t.items.all fun r => decide ((r.len : Int) = (t.hd.len : Int))))
def areTables (low high most : Int) (t : T) : Bool := t.isL && ((decide (low ≤ (t.len : Int)) && decide ((t.len : Int) ≤ high)) && (t.items.all (areLists most most) && t.items.all fun r => decide ((r.len : Int) = (t.hd.len : Int)) && decide ((r.hd.len : Int) = (t.hd.hd.len : Int))))
theorem len_le : ∀ xs : List T, xs.length + xs.length ≤ T.wts xs
  | [] => Nat.le_refl _
  | x :: xs => by
    have := len_le xs
    show xs.length + 1 + (xs.length + 1) ≤ T.wt x + 2 + T.wts xs
    omega
theorem wt_mem : ∀ {xs : List T} {x : T}, x ∈ xs → T.wt x ≤ T.wts xs
  | y :: xs, x, h => by
    show T.wt x ≤ T.wt y + 2 + T.wts xs
    rcases List.mem_cons.mp h with rfl | h
    · omega
    · have := wt_mem h
      omega
theorem items_wt (t : T) : T.wts t.items ≤ t.wt := by
  cases t with
  | lst xs =>
    show T.wts xs ≤ T.wts xs + 3
    omega
  | tup xs =>
    show T.wts xs ≤ T.wts xs + 3
    omega
  | _ => exact Nat.zero_le _
theorem len_wt (t : T) : t.len ≤ t.wt := by
  have h1 := len_le t.items
  have h2 := items_wt t
  show t.items.length ≤ _
  omega
end T
section
variable {P : Program} {w : World} {K : PySem.W.Frag} {mg : Str → Option Value} {base : Heap} {C : Addr}
theorem wipe1 {σ : L2.St} {j : Nat} {x : V} : wipe ((wipe σ [j]).set j (some x)) [j] = wipe σ [j] := by
  show (((σ.set j none).set j (some x)).set j none) = σ.set j none
  rw [List.set_set, List.set_set]
theorem take_snoc {α : Type} {l : List α} {i : Nat} {x : α} (h : l[i]? = some x) : l.take (i + 1) = l.take i ++ [x] := by
  rw [List.take_succ, h]
  rfl
/-- a list or tuple of such things, in the heap -/
def SqN (K : PySem.W.Frag) (C : Addr) (H : Hp) (v : V) (t : T) : Prop := ∃ (a : Addr) (xs : List V), v = .ref a ∧ Ats C H xs t.items ∧ ((SqL K H a xs) ∨ SqT K H a xs)
theorem At.sq {H : Hp} {v : V} {t : T} (h : At C H v t) (l : t.isL = true) : SqN K C H v t := by
  cases h with
  | lst e r => exact ⟨_, _, rfl, r, .inl (SqL.of e)⟩
  | tup e r => exact ⟨_, _, rfl, r, .inr (SqT.of e)⟩
  | non => cases l
  | bl b => cases l
  | int i => cases l
  | str s => cases l
  | dct e => cases l
  | rat r => cases l
/-- [e for x in such a thing], each e a bool -/
theorem lc_bls {a D : Addr} {j : Nat} {xs : List V} {ys : List T} {f : T → Bool} {te : TE} {σ : L2.St} {H1 : Hp} {Qd : Hp → Prop} {J : It} (hD : H1 D = none) (hats : Ats C H1 xs ys) (hs : xs.length < sizeLine)
    (hJ : (J = Itl K a ∧ SqL K H1 a xs) ∨ (J = Itt K a ∧ SqT K H1 a xs))
    (step : ∀ (x : V) (y : T) (H' : Hp) (Q' : VK), At C H' x y → y ∈ ys → Same H1 H' → (∀ H4, Same H' H4 → Q' (.bl (f y)) H4) → te ((wipe σ [j]).set j (some x)) H' Q')
    (hd : ∀ H', Same H1 H' → H' D = some (.lst ((ys.map f).map V.bl)) → Qd H') :
    ∃ W : Nat → Nat → Hp → Prop, (∃ m, W 0 m (upd H1 D (.lst []))) ∧ ∀ i m H, W i m H →
      (J.stop i H ∧ Qd H) ∨ (J.go i H ∧ ∃ Nx : Hp → Prop, (∀ H', Nx H' → ∃ m', m' < m ∧ W (i + 1) m' H') ∧ ∀ x H', J.yld i H x H' → gName j x (wipe σ [j]) H' fun σ2 H2 => wipe σ2 [j] = wipe σ [j] ∧ tYes σ2 H2 fun b H3 =>
        if b = true then te σ2 H3 fun y H4 => ∃ acc, H4 D = some (.lst acc) ∧ acc.length < sizeLine ∧ Nx (upd H4 D (.lst (acc ++ [y]))) else Nx H3) := by
  have turn : ∀ (i : Nat) (x : V) (H' : Hp), xs[i]? = some x → (Same H1 H' ∧ H' D = some (.lst (((ys.take i).map f).map V.bl))) → gName j x (wipe σ [j]) H' fun σ2 H2 => wipe σ2 [j] = wipe σ [j] ∧ tYes σ2 H2 fun b H3 =>
      if b = true then te σ2 H3 fun y H4 => ∃ acc, H4 D = some (.lst acc) ∧ acc.length < sizeLine ∧ (fun H' => Same H1 H' ∧ H' D = some (.lst (((ys.take (i + 1)).map f).map V.bl))) (upd H4 D (.lst (acc ++ [y]))) else (fun H' => Same H1 H' ∧ H' D = some (.lst (((ys.take (i + 1)).map f).map V.bl))) H3 := by
    rintro i x H' hx ⟨s, hD'⟩
    obtain ⟨y, hy, ha⟩ := RN.at_of hats.paired i x hx
    have hi : i < xs.length := (List.getElem?_eq_some_iff.mp hx).1
    refine ⟨wipe1, ?_⟩
    show te ((wipe σ [j]).set j (some x)) H' _
    refine step x y H' _ (ha.same s) (List.mem_of_getElem? hy) s fun H4 s4 => ?_
    refine ⟨_, s4 _ _ hD', ?_, ?_, ?_⟩
    · rw [List.length_map, List.length_map, List.length_take]
      omega
    · intro b o e
      rw [upd_ne (ne_of_none e hD)]
      exact s4 _ _ (s _ _ e)
    · rw [upd_same, take_snoc hy, List.map_append, List.map_append]
      rfl
  have fin : ∀ H', (Same H1 H' ∧ H' D = some (.lst (((ys.take xs.length).map f).map V.bl))) → Qd H' := by
    rintro H' ⟨s, hD'⟩
    rw [hats.length, List.take_length] at hD'
    exact hd H' s hD'
  rcases hJ with ⟨rfl, q⟩ | ⟨rfl, q⟩
  · exact lc_list (K := K) (a := a) (xs := xs) (fun i H' => Same H1 H' ∧ H' D = some (.lst (((ys.take i).map f).map V.bl))) ⟨same_new hD, upd_same⟩ (fun i H' _ ⟨s, _⟩ => s.seq q) turn fin
  · exact lc_tup (K := K) (a := a) (xs := xs) (fun i H' => Same H1 H' ∧ H' D = some (.lst (((ys.take i).map f).map V.bl))) ⟨same_new hD, upd_same⟩ (fun i H' _ ⟨s, _⟩ => SqT.ext q s) turn fin
theorem all_map (f : T → Bool) (ys : List T) : (ys.map f).all id = ys.all f := by
  rw [List.all_map]
  rfl
/-! ### is_list, is_number -/
structure SpP (C : Addr) (g : T → Bool) (vs : List V) (H : Hp) (Q : VK) (E : XK) : Prop where
  ex : ∃ (v : V) (t : T), vs = [v] ∧ At C H v t ∧ t.wt ≤ sizeLine ∧ ∀ H', Same H H' → Q (.bl (g t)) H'
theorem scIsList : FnScope ["value"] ["value"] (defScope sIsList) := ⟨rfl, rfl, rfl, by decide +kernel, rfl, by decide +kernel, by decide +kernel⟩
theorem ok_isList {f : Addr} {fd : FuncData} (F : Fun K "is_list" "is_list" sIsList f fd) (B : Blt mg) (R : RCls K mg C) : FnOk P w K mg base CX0 1 f fd ["value"] (SpP C T.isL) := by
  refine F.ok scIsList (fun vs H Q E h => ?_) (fun cdv A outer s H vs Q E hr h => ?_)
  · obtain ⟨v, t, rfl, _⟩ := h
    rfl
  · obtain ⟨v, t, rfl, hv, hw, k⟩ := h
    refine ⟨_, pss_one (ps_ret (pe_callB call_isiT (by rfl) B.isi PyProof.Rows.boot_isinstance (pa_cons (pv 0) (pa_cons (pe_tup (pa_cons (pe_bltn (by rfl) B.list PyProof.Rows.boot_list (v := .ty "list") rfl) (pa_cons (pe_bltn (by rfl) B.tuple PyProof.Rows.boot_tuple (v := .ty "tuple") rfl) pa_nil))) pa_nil)))), ?_⟩
    refine ⟨_, rfl, by decide, fun tp ntp => ?_⟩
    have s1 := same_new (o := .tup [.ty "list", .ty "tuple"]) ntp
    obtain ⟨c, ty, ka⟩ := (hv.same s1).listed R
    exact ⟨_, tp, _, _, _, _, rfl, upd_same, .cons (.ty "list") (.cons (.ty "tuple") .nil), ty, ka, k _ s1⟩
theorem scIsNumber : FnScope ["value"] ["value"] (defScope sIsNumber) := ⟨rfl, rfl, rfl, by decide +kernel, rfl, by decide +kernel, by decide +kernel⟩
theorem ok_isNumber {f fI : Addr} {fd fdI : FuncData} (F : Fun K "is_number" "is_number" sIsNumber f fd) (B : Blt mg) (R : RCls K mg C) (GI : FnOk P w K mg base CX0 1 fI fdI ["value"] (SpIsInt K)) (mI : mg "is_integer" = some (.ref fI)) (kI : PySem.W.keepIn K (.ref fI) = true) (bI : Binds K fdI ["value"] []) :
    FnOk P w K mg base CX0 2 f fd ["value"] (SpP C T.isNum) := by
  refine F.ok scIsNumber (fun vs H Q E h => ?_) (fun cdv A outer s H vs Q E hr h => ?_)
  · obtain ⟨v, t, rfl, _⟩ := h
    rfl
  · obtain ⟨v, t, rfl, hv, hw, k⟩ := h
    obtain ⟨c, bc, bi, bb, ty, h0, h1, h2, hb⟩ := hv.numbered R
    refine ⟨_, pss_one (ps_ret (pe_or (pe_callB call_isi (by rfl) B.isi PyProof.Rows.boot_isinstance (pa_cons (pv 0) (pa_cons (pe_glob (by rfl) R.mg_ (v := .ref C) rfl) pa_nil)))
      (pe_one (pe_call GI hr (by rfl) mI kI bI .nil pass0 (pa_cons (pv 0) pa_nil))))), ?_⟩
    have k' := k H (Same.refl _)
    rw [← hb] at k'
    refine ⟨v, rfl, v, .ref C, c, _, bc, rfl, .own C, ty, h0, bc, rfl, ite2 (fun e => ?_) (fun e => ?_)⟩
    · rw [e] at k'
      exact k'
    · rw [Bool.eq_false_iff.mpr e] at k'
      exact ⟨v, rfl, ⟨v, c, bi, bb, rfl, ty, h1, h2, k'⟩⟩
end
end RQ

set_option Elab.async false
set_option linter.all false
set_option maxRecDepth 100000
set_option maxHeartbeats 4000000
/-! Which values are lists of numbers, lists of lists, tables. -/
namespace RQ
open PySem L2
/-- the checks, as far as they stand -/
structure Chk (P : Program) (w : World) (K : PySem.W.Frag) (mg : Str → Option Value) (base : Heap) (C : Addr) where
  B : Blt mg
  R : RCls K mg C
  fL : Addr
  fdL : FuncData
  GL : FnOk P w K mg base CX0 1 fL fdL ["value"] (SpP C T.isL)
  mL : mg "is_list" = some (.ref fL)
  kL : PySem.W.keepIn K (.ref fL) = true
  bL : Binds K fdL ["value"] []
  fN : Addr
  fdN : FuncData
  GN : FnOk P w K mg base CX0 2 fN fdN ["value"] (SpP C T.isNum)
  mN : mg "is_number" = some (.ref fN)
  kN : PySem.W.keepIn K (.ref fN) = true
  bN : Binds K fdN ["value"] []
section
variable {P : Program} {w : World} {K : PySem.W.Frag} {mg : Str → Option Value} {base : Heap} {C : Addr}
theorem tLc_bls {a : Addr} {i j : Nat} {xs : List V} {ys : List T} {f : T → Bool} {te : TE} {σ : L2.St} {H1 : Hp} {Q : VK} (hi : σ[i]? = some (some (.ref a))) (hats : Ats C H1 xs ys) (hs : ys.length < sizeLine) (hsq : SqL K H1 a xs ∨ SqT K H1 a xs)
    (step : ∀ (x : V) (y : T) (H' : Hp) (Q' : VK), At C H' x y → y ∈ ys → Same H1 H' → (∀ H4, Same H' H4 → Q' (.bl (f y)) H4) → te ((wipe σ [j]).set j (some x)) H' Q')
    (hd : ∀ (H' : Hp) (D : Addr), Same H1 H' → H' D = some (.lst ((ys.map f).map V.bl)) → Q (.ref D) H') : tLc (fun σ H R => iList K (tVar i) σ H R ∨ iTup K (tVar i) σ H R) (gName j) tYes te [j] σ H1 Q := by
  have hs' : xs.length < sizeLine := by rw [hats.length]; exact hs
  rcases hsq with q | q
  · exact Or.inl ⟨_, hi, a, rfl, ⟨_, q⟩, fun D hD => lc_bls hD hats hs' (.inl ⟨rfl, q⟩) step fun H' s h => hd H' D s h⟩
  · exact Or.inr ⟨_, hi, a, rfl, ⟨_, q⟩, fun D hD => lc_bls hD hats hs' (.inr ⟨rfl, q⟩) step fun H' s h => hd H' D s h⟩
theorem all_lc {a : Addr} {i j : Nat} {xs : List V} {ys : List T} {f : T → Bool} {te : TE} {σ : L2.St} {H1 : Hp} {Q : VK} (hi : σ[i]? = some (some (.ref a))) (hats : Ats C H1 xs ys) (hs : ys.length < sizeLine) (hsq : SqL K H1 a xs ∨ SqT K H1 a xs)
    (step : ∀ (x : V) (y : T) (H' : Hp) (Q' : VK), At C H' x y → y ∈ ys → Same H1 H' → (∀ H4, Same H' H4 → Q' (.bl (f y)) H4) → te ((wipe σ [j]).set j (some x)) H' Q')
    (hd : ∀ (H' : Hp), Same H1 H' → Q (.bl (ys.all f)) H') : tCB (rAll K) (tCons (tLc (fun σ H R => iList K (tVar i) σ H R ∨ iTup K (tVar i) σ H R) (gName j) tYes te [j]) tNil) σ H1 Q := by
  exact tLc_bls (Q := fun x H1 => tNil σ H1 fun xs H2 => rAll K (x :: xs) H2 Q) hi hats hs hsq step fun H' D s hD => ⟨D, _, rfl, SqL.of hD, (all_map f ys).symm ▸ hd H' s⟩
theorem small_items {t : T} (h : t.wt ≤ sizeLine) : t.items.length < sizeLine := by
  have h1 := T.len_le t.items
  have h2 := T.items_wt t
  have h3 : 0 < sizeLine := by decide
  omega
theorem item_wt {t y : T} (h : t.wt ≤ sizeLine) (hy : y ∈ t.items) : y.wt ≤ sizeLine := Nat.le_trans (Nat.le_trans (T.wt_mem hy) (T.items_wt t)) h
structure SpNums (C : Addr) (vs : List V) (H : Hp) (Q : VK) (E : XK) : Prop where
  ex : ∃ (v : V) (t : T) (lo hi : Int), vs = [v, .int lo, .int hi] ∧ At C H v t ∧ t.wt ≤ sizeLine ∧ ∀ H', Same H H' → Q (.bl (t.isNums lo hi)) H'
abbrev nNums : List Str := ["value", "low", "high", "number"]
theorem scNums : FnScope nNums ["value", "low", "high"] (defScope sIsNumbers) := ⟨rfl, rfl, rfl, by decide +kernel, rfl, by decide +kernel, by decide +kernel⟩
theorem ok_isNumbers {f : Addr} {fd : FuncData} (F : Fun K "is_numbers" "is_numbers" sIsNumbers f fd) (L : Chk P w K mg base C) : FnOk P w K mg base CX0 3 f fd ["value", "low", "high"] (SpNums C) := by
  refine F.ok scNums (fun vs H Q E h => ?_) (fun cdv A outer s H vs Q E hr h => ?_)
  · obtain ⟨v, t, lo, hi, rfl, _⟩ := h
    rfl
  · obtain ⟨v, t, lo, hi, rfl, hv, hw, k⟩ := h
    have B := L.B
    have r1 : Room 1 _ := hr.mono (by decide)
    refine ⟨_, pss_one (ps_ret (pe_and (pe_call L.GL r1 (by rfl) L.mL L.kL L.bL .nil pass0 (pa_cons (pv 0) pa_nil)) (pe_and (pe_chain op_le op_le (pv 1) (pe_callB call_len_seq (by rfl) B.len PySem.boot_len (pa_cons (pv 0) pa_nil)) (pv 2))
      (pe_one (pe_callB (cr_all rfl) (by rfl) B.all PyProof.Rows.boot_all (pa_cons (pe_lc (own := [("number", 3)]) (g := gName 3) (tt := tYes) rfl scNums.nd (PI.or (pi_list (pv 0)) (pi_tup (pv 0))) (blkOk_by (own := [("number", 3)]) (N := nNums) (sc := defScope sIsNumbers) (by decide +kernel)) (fun _ _ _ _ _ => pg_name (i := 3) scNums.nd rfl (Or.inl rfl)) (fun _ _ _ _ _ => pts_nil)
        (fun _ _ _ _ _ => pe_call L.GN hr (by rfl) L.mN L.kN L.bN .nil pass0 (pa_cons (pv 3) pa_nil))) pa_nil)))))), ?_⟩
    refine ⟨_, rfl, ⟨v, t, rfl, hv, hw, fun H1 s1 => ⟨_, rfl, ite2 (fun e => ?_) (fun e => ?_)⟩⟩⟩
    · obtain ⟨a, xs, rfl, hats, hsq⟩ := (hv.same s1).sq e
      have hl := hats.length
      have k2 : ∀ H', Same H H' → Q (.bl ((decide (lo ≤ (xs.length : Int)) && decide ((xs.length : Int) ≤ hi)) && t.items.all T.isNum)) H' := fun H' s => by
        have z := k H' s
        unfold T.isNums T.len at z
        rw [e, ← hl] at z
        exact z
      refine ⟨_, rfl, _, rfl, a, xs, rfl, hsq, _, _, rfl, rfl, _, rfl, ite2 (fun e1 => ?_) (fun e1 => ?_)⟩
      · refine ⟨_, rfl, _, _, rfl, rfl, _, rfl, ite2 (fun e2 => ?_) (fun e2 => ?_)⟩
        · rw [e1, e2] at k2
          refine all_lc (i := 0) (j := 3) (f := T.isNum) ?_ hats (small_items hw) hsq ?_ ?_
          · rfl
          · intro x y H' Q' hx hy s' kq
            show tCall (SpP C T.isNum) [] E0 (tCons (tVar 3) tNil) _ H' Q'
            exact ⟨_, rfl, ⟨x, y, rfl, hx, item_wt hw hy, kq⟩⟩
          · intro H' s'
            exact k2 _ (s1.trans s')
        · rw [e1, Bool.eq_false_iff.mpr e2] at k2
          exact k2 _ s1
      · rw [Bool.eq_false_iff.mpr e1] at k2
        exact ⟨_, rfl, iteF (k2 _ s1)⟩
    · have k' := k H1 s1
      unfold T.isNums at k'
      rw [Bool.eq_false_iff.mpr e] at k'
      exact k'
end
end RQ

set_option Elab.async false
set_option linter.all false
set_option maxRecDepth 100000
set_option maxHeartbeats 4000000
/-! Lists of lists, tables, helpers. -/
namespace RQ
open PySem L2
section
variable {P : Program} {w : World} {K : PySem.W.Frag} {mg : Str → Option Value} {base : Heap} {C : Addr}
theorem dec_int {i j : Int} : decide (V.int i = V.int j) = decide (i = j) := by
  by_cases h : i = j
  · rw [h, decide_eq_true rfl, decide_eq_true rfl]
  · rw [decide_eq_false h, decide_eq_false fun e => h (by injection e)]
theorem at0 {x : V} {l : List V} : atI (x :: l) ((0 : Nat) : Int) = some x := atI_nat rfl
/-- what stands first of such a thing -/
theorem first_of {H : Hp} {xs : List V} {t : T} (h : Ats C H xs t.items) (n : 1 ≤ xs.length) : ∃ x xr, xs = x :: xr ∧ At C H x t.hd ∧ t.hd ∈ t.items := by
  cases xs with
  | nil => exact absurd n (by show ¬ 1 ≤ 0; decide)
  | cons x xr =>
    cases hi : t.items with
    | nil => rw [hi] at h; cases h
    | cons y ys =>
      rw [hi] at h
      cases h with
      | cons a b =>
        have e : t.hd = y := by unfold T.hd; rw [hi]; rfl
        exact ⟨x, xr, rfl, e ▸ a, by rw [e]; exact .head _⟩
/-- value[0], value a list or a tuple -/
theorem ix0 {σ : L2.St} {H : Hp} {Q : VK} {a : Addr} {x : V} {xr : List V} {i : Nat} (hi : σ[i]? = some (some (.ref a))) (hsq : SqL K H a (x :: xr) ∨ SqT K H a (x :: xr)) (q : Q x H) :
    tOp (rIxL K) (tVar i) (tC (.int 0)) σ H Q ∨ tOp (rIxT K) (tVar i) (tC (.int 0)) σ H Q := by
  rcases hsq with h | h
  · exact .inl ⟨_, hi, a, _, _, _, rfl, rfl, h, at0, q⟩
  · exact .inr ⟨_, hi, a, _, _, _, rfl, rfl, h, at0, q⟩
/-- if not all([..]): .. -/
theorem if_all {a : Addr} {i j : Nat} {xs : List V} {ys : List T} {f : T → Bool} {te : TE} {σ : L2.St} {H1 : Hp} {A B r : TS} {D : Ends} (hi : σ[i]? = some (some (.ref a))) (hats : Ats C H1 xs ys) (hs : ys.length < sizeLine) (hsq : SqL K H1 a xs ∨ SqT K H1 a xs)
    (step : ∀ (x : V) (y : T) (H' : Hp) (Q' : VK), At C H' x y → y ∈ ys → Same H1 H' → (∀ H4, Same H' H4 → Q' (.bl (f y)) H4) → te ((wipe σ [j]).set j (some x)) H' Q')
    (hd : ∀ (H' : Hp), Same H1 H' → if (!ys.all f) = true then A { D with nx := r D } σ H' else B { D with nx := r D } σ H') :
    tSeq (tIfS (tNot (tB (tCB (rAll K) (tCons (tLc (fun σ H R => iList K (tVar i) σ H R ∨ iTup K (tVar i) σ H R) (gName j) tYes te [j]) tNil)))) A B) r D σ H1 :=
  all_lc (Q := fun x H2 => ∃ d, x = .bl d ∧ if (!d) = true then A { D with nx := r D } σ H2 else B { D with nx := r D } σ H2) hi hats hs hsq step fun H' s => ⟨_, rfl, hd H' s⟩
theorem if_allN {a : Addr} {i j : Nat} {xs : List V} {ys : List T} {f : T → Bool} {te : TE} {σ : L2.St} {H1 : Hp} {A B r : TS} {D : Ends} {rt : VK} {bk ct : L2.St → Hp → Prop} (hi : σ[i]? = some (some (.ref a))) (hats : Ats C H1 xs ys) (hs : ys.length < sizeLine) (hsq : SqL K H1 a xs ∨ SqT K H1 a xs)
    (step : ∀ (x : V) (y : T) (H' : Hp) (Q' : VK), At C H' x y → y ∈ ys → Same H1 H' → (∀ H4, Same H' H4 → Q' (.bl (f y)) H4) → te ((wipe σ [j]).set j (some x)) H' Q')
    (hd : ∀ (H' : Hp), Same H1 H' → if (!ys.all f) = true then A { D with nx := r D } σ H' else B { D with nx := r D } σ H') :
    tNext { nx := tSeq (tIfS (tNot (tB (tCB (rAll K) (tCons (tLc (fun σ H R => iList K (tVar i) σ H R ∨ iTup K (tVar i) σ H R) (gName j) tYes te [j]) tNil)))) A B) r D, rt := rt, bk := bk, ct := ct } σ H1 :=
  if_all hi hats hs hsq step hd
structure SpLists (C : Addr) (vs : List V) (H : Hp) (Q : VK) (E : XK) : Prop where
  ex : ∃ (v : V) (t : T) (hi wi : Int), vs = [v, .int hi, .int wi] ∧ At C H v t ∧ t.wt ≤ sizeLine ∧ ∀ H', Same H H' → Q (.bl (t.areLists hi wi)) H'
abbrev nAL : List Str := ["value", "high", "widest", "row"]
theorem scAL : FnScope nAL ["value", "high", "widest"] (defScope sAreLists) := ⟨rfl, rfl, rfl, by decide +kernel, rfl, by decide +kernel, by decide +kernel⟩
theorem ok_areLists {f fN : Addr} {fd fdN : FuncData} (F : Fun K "are_lists" "are_lists" sAreLists f fd) (L : Chk P w K mg base C) (GN : FnOk P w K mg base CX0 3 fN fdN ["value", "low", "high"] (SpNums C)) (mN : mg "is_numbers" = some (.ref fN)) (kN : PySem.W.keepIn K (.ref fN) = true) (bN : Binds K fdN ["value", "low", "high"] []) :
    FnOk P w K mg base CX0 4 f fd ["value", "high", "widest"] (SpLists C) := by
  refine F.ok scAL (fun vs H Q E h => ?_) (fun cdv A outer s H vs Q E hr h => ?_)
  · obtain ⟨v, t, hi, wi, rfl, _⟩ := h
    rfl
  · obtain ⟨v, t, hi, wi, rfl, hv, hw, k⟩ := h
    have B := L.B
    have r1 : Room 1 _ := hr.mono (by decide)
    refine ⟨_, PSs.nox (pss_cons (ps_if (pw_or (pt_not (pt_val (pe_call L.GL r1 (by rfl) L.mL L.kL L.bL .nil pass0 (pa_cons (pv 0) pa_nil)))) (pw_or1 (pt_not (pt_chain op_le op_le pe_int (pe_callB call_len_seq (by rfl) B.len PySem.boot_len (pa_cons (pv 0) pa_nil)) (pv 1))))).pt (pss_one (ps_ret pe_bl)) pss_nil)
      (pss_cons (ps_if (pt_not (pt_val (pe_callB (cr_all rfl) (by rfl) B.all PyProof.Rows.boot_all (pa_cons (pe_lc (own := [("row", 3)]) (g := gName 3) (tt := tYes) rfl scAL.nd (PI.or (pi_list (pv 0)) (pi_tup (pv 0))) (blkOk_by (own := [("row", 3)]) (N := nAL) (sc := defScope sAreLists) (by decide +kernel)) (fun _ _ _ _ _ => pg_name (i := 3) scAL.nd rfl (Or.inl rfl)) (fun _ _ _ _ _ => pts_nil)
        (fun _ _ _ _ _ => pe_call GN hr (by rfl) mN kN bN .nil pass0 (pa_cons (pv 3) (pa_cons pe_int (pa_cons (pv 2) pa_nil))))) pa_nil)))) (pss_one (ps_ret pe_bl)) pss_nil)
      (pss_one (ps_ret (pe_callB (cr_all rfl) (by rfl) B.all PyProof.Rows.boot_all (pa_cons (pe_lc (own := [("row", 3)]) (g := gName 3) (tt := tYes) rfl scAL.nd (PI.or (pi_list (pv 0)) (pi_tup (pv 0))) (blkOk_by (own := [("row", 3)]) (N := nAL) (sc := defScope sAreLists) (by decide +kernel)) (fun _ _ _ _ _ => pg_name (i := 3) scAL.nd rfl (Or.inl rfl)) (fun _ _ _ _ _ => pts_nil)
        (fun _ _ _ _ _ => pe_cmpR op_eq (pe_callB (r := fun xs H Q => ∃ p ys, xs = [.ref p] ∧ (SqL K H p ys ∨ SqT K H p ys) ∧ Q (.int ys.length) H) call_len_seq (by rfl) B.len PySem.boot_len (pa_cons (pv 3) pa_nil)) (pe_callB (r := fun xs H Q => ∃ p ys, xs = [.ref p] ∧ (SqL K H p ys ∨ SqT K H p ys) ∧ Q (.int ys.length) H) call_len_seq (by rfl) B.len PySem.boot_len (pa_cons (PE.or (pe_ix (r := rIxL K) ix_list (pv 0) pe_int (fun _ _ => rfl)) (pe_ix (r := rIxT K) ix_tup (pv 0) pe_int (fun _ _ => rfl))) pa_nil)) (nomark _))) pa_nil)))))), ?_⟩
    refine ⟨_, rfl, ⟨v, t, rfl, hv, hw, fun H1 s1 => ⟨_, rfl, ite2 (fun e => ?_) (fun e => ?_)⟩⟩⟩
    · have eL : t.isL = false := by simpa using e
      have k' := k H1 s1
      unfold T.areLists at k'
      rw [eL] at k'
      exact iteT k'
    have eL : t.isL = true := by simpa using e
    obtain ⟨a, xs, rfl, hats, hsq⟩ := (hv.same s1).sq eL
    have hl := hats.length
    have k2 : ∀ H', Same H H' → Q (.bl ((decide (1 ≤ (xs.length : Int)) && decide ((xs.length : Int) ≤ hi)) && (t.items.all (T.isNums 1 wi) && t.items.all fun r => decide ((r.len : Int) = (t.hd.len : Int))))) H' := fun H' s => by
      have z := k H' s
      unfold T.areLists at z
      rw [eL] at z
      rw [hl]
      exact z
    refine ⟨_, rfl, a, xs, rfl, hsq, _, _, rfl, rfl, _, rfl, ite2 (fun e1 => ?_) (fun e1 => ?_)⟩
    rotate_left
    · rw [Bool.eq_false_iff.mpr e1] at k2
      exact ⟨_, rfl, iteT (k2 _ s1)⟩
    refine ⟨_, rfl, _, _, rfl, rfl, _, rfl, ite2 (fun e2 => ?_) (fun e2 => ?_)⟩
    · have e2' : decide ((xs.length : Int) ≤ hi) = false := by simpa using e2
      rw [e1, e2'] at k2
      exact k2 _ s1
    have e2' : decide ((xs.length : Int) ≤ hi) = true := by simpa using e2
    rw [e1, e2'] at k2
    have hn : 1 ≤ xs.length := by
      have := of_decide_eq_true e1
      omega
    first
      | refine if_all (i := 0) (j := 3) (f := T.isNums 1 wi) ?_ hats (small_items hw) hsq ?_ ?_
      | refine if_allN (i := 0) (j := 3) (f := T.isNums 1 wi) ?_ hats (small_items hw) hsq ?_ ?_
    · rfl
    · intro x y H' Q' hx hy s' kq
      show tCall (SpNums C) [] E0 (tCons (tVar 3) (tCons (tC (.int 1)) (tCons (tVar 2) tNil))) _ H' Q'
      exact ⟨_, rfl, _, rfl, ⟨x, y, 1, wi, rfl, hx, item_wt hw hy, kq⟩⟩
    intro H2 s2
    have k3 := k2 _ (s1.trans s2)
    refine ite2 (fun e3 => ?_) (fun e3 => ?_)
    · have e3' : t.items.all (T.isNums 1 wi) = false := by simpa using e3
      rw [e3'] at k2
      exact k2 _ (s1.trans s2)
    have e3' : t.items.all (T.isNums 1 wi) = true := by simpa using e3
    rw [e3'] at k2
    have hsq2 : SqL K H2 a xs ∨ SqT K H2 a xs := hsq.imp (fun q => s2.seq q) fun q => SqT.ext q s2
    have hats2 := hats.same s2
    refine all_lc (i := 0) (j := 3) (f := fun r => decide ((r.len : Int) = (t.hd.len : Int))) ?_ hats2 (small_items hw) hsq2 ?_ ?_
    · rfl
    · intro x y H' Q' hx hy s' kq
      have al := List.all_eq_true.mp e3'
      have isl : ∀ z ∈ t.items, z.isL = true := fun z hz => by
        have := al z hz
        unfold T.isNums at this
        exact (Bool.and_eq_true_iff.mp this).1
      obtain ⟨b, zs, rfl, hzs, hq⟩ := hx.sq (isl _ hy)
      obtain ⟨x0, xr, rfl, h0, m0⟩ := first_of hats2 hn
      obtain ⟨b0, z0, rfl, hz0, hq0⟩ := (h0.same s').sq (isl _ m0)
      have hsq3 : SqL K H' a (V.ref b0 :: xr) ∨ SqT K H' a (V.ref b0 :: xr) := hsq2.imp (fun q => s'.seq q) fun q => SqT.ext q s'
      refine ⟨_, rfl, b, zs, rfl, hq, ix0 (i := 0) rfl hsq3 ⟨b0, z0, rfl, hq0, rfl, ?_⟩⟩
      rw [dec_int, hzs.length, hz0.length]
      exact kq _ (Same.refl _)
    · intro H' s'
      exact k2 _ (s1.trans (s2.trans s'))
end
end RQ

set_option Elab.async false
set_option linter.all false
set_option maxRecDepth 100000
set_option maxHeartbeats 4000000
/-! Tables of one greatness. -/
namespace RQ
open PySem L2
/-- len of a list or a tuple -/
abbrev rLn (K : PySem.W.Frag) : List V → Hp → VK → Prop := fun xs H Q => ∃ p ys, xs = [V.ref p] ∧ (SqL K H p ys ∨ SqT K H p ys) ∧ Q (.int ys.length) H
/-- e[0], e a list or a tuple -/
def tIx0 (K : PySem.W.Frag) (te : TE) : TE := fun σ H Q => tOp (rIxL K) te (tC (.int 0)) σ H Q ∨ tOp (rIxT K) te (tC (.int 0)) σ H Q
section
variable {P : Program} {w : World} {K : PySem.W.Frag} {mg : Str → Option Value} {base : Heap} {C : Addr}
theorem ix0g {te : TE} {σ : L2.St} {H : Hp} {Q : VK} {a : Addr} {x : V} {xr : List V} (hte : ∀ Q' : VK, Q' (.ref a) H → te σ H Q') (hsq : SqL K H a (x :: xr) ∨ SqT K H a (x :: xr)) (q : Q x H) : tIx0 K te σ H Q := by
  rcases hsq with h | h
  · exact .inl (hte _ ⟨a, _, _, _, rfl, rfl, h, at0, q⟩)
  · exact .inr (hte _ ⟨a, _, _, _, rfl, rfl, h, at0, q⟩)
/-- such a thing is at hand, whatever stands first -/
theorem isl_of {t : T} {hi wi : Int} (h : t.areLists hi wi = true) : t.isL = true ∧ 1 ≤ t.items.length ∧ ∀ z ∈ t.items, z.isL = true := by
  unfold T.areLists at h
  simp only [Bool.and_eq_true, decide_eq_true_eq, List.all_eq_true] at h
  obtain ⟨h1, ⟨h2, _⟩, h3, _⟩ := h
  refine ⟨h1, ?_, fun z hz => ?_⟩
  · have e : t.len = t.items.length := rfl
    omega
  · have := h3 z hz
    unfold T.isNums at this
    exact (Bool.and_eq_true_iff.mp this).1
structure SpTables (C : Addr) (vs : List V) (H : Hp) (Q : VK) (E : XK) : Prop where
  ex : ∃ (v : V) (t : T) (lo hi mo : Int), vs = [v, .int lo, .int hi, .int mo] ∧ At C H v t ∧ t.wt ≤ sizeLine ∧ 1 ≤ lo ∧ ∀ H', Same H H' → Q (.bl (t.areTables lo hi mo)) H'
abbrev nAT : List Str := ["value", "low", "high", "most", "table"]
theorem scAT : FnScope nAT ["value", "low", "high", "most"] (defScope sAreTables) := ⟨rfl, rfl, rfl, by decide +kernel, rfl, by decide +kernel, by decide +kernel⟩
theorem ok_areTables {f fN : Addr} {fd fdN : FuncData} (F : Fun K "are_tables" "are_tables" sAreTables f fd) (L : Chk P w K mg base C) (GN : FnOk P w K mg base CX0 4 fN fdN ["value", "high", "widest"] (SpLists C)) (mN : mg "are_lists" = some (.ref fN)) (kN : PySem.W.keepIn K (.ref fN) = true) (bN : Binds K fdN ["value", "high", "widest"] []) :
    FnOk P w K mg base CX0 5 f fd ["value", "low", "high", "most"] (SpTables C) := by
  refine F.ok scAT (fun vs H Q E h => ?_) (fun cdv A outer s H vs Q E hr h => ?_)
  · obtain ⟨v, t, lo, hi, mo, rfl, _⟩ := h
    rfl
  · obtain ⟨v, t, lo, hi, mo, rfl, hv, hw, l1, k⟩ := h
    have B := L.B
    have r1 : Room 1 _ := hr.mono (by decide)
    refine ⟨_, PSs.nox (pss_cons (ps_if (pw_or (pt_not (pt_val (pe_call L.GL r1 (by rfl) L.mL L.kL L.bL .nil pass0 (pa_cons (pv 0) pa_nil)))) (pw_or1 (pt_not (pt_chain op_le op_le (pv 1) (pe_callB call_len_seq (by rfl) B.len PySem.boot_len (pa_cons (pv 0) pa_nil)) (pv 2))))).pt (pss_one (ps_ret pe_bl)) pss_nil)
      (pss_cons (ps_if (pt_not (pt_val (pe_callB (cr_all rfl) (by rfl) B.all PyProof.Rows.boot_all (pa_cons (pe_lc (own := [("table", 4)]) (g := gName 4) (tt := tYes) rfl scAT.nd (PI.or (pi_list (pv 0)) (pi_tup (pv 0))) (blkOk_by (own := [("table", 4)]) (N := nAT) (sc := defScope sAreTables) (by decide +kernel)) (fun _ _ _ _ _ => pg_name (i := 4) scAT.nd rfl (Or.inl rfl)) (fun _ _ _ _ _ => pts_nil)
        (fun _ _ _ _ _ => pe_call GN hr (by rfl) mN kN bN .nil pass0 (pa_cons (pv 4) (pa_cons (pv 3) (pa_cons (pv 3) pa_nil))))) pa_nil)))) (pss_one (ps_ret pe_bl)) pss_nil)
      (pss_one (ps_ret (pe_callB (cr_all rfl) (by rfl) B.all PyProof.Rows.boot_all (pa_cons (pe_lc (own := [("table", 4)]) (g := gName 4) (tt := tYes) rfl scAT.nd (PI.or (pi_list (pv 0)) (pi_tup (pv 0))) (blkOk_by (own := [("table", 4)]) (N := nAT) (sc := defScope sAreTables) (by decide +kernel)) (fun _ _ _ _ _ => pg_name (i := 4) scAT.nd rfl (Or.inl rfl)) (fun _ _ _ _ _ => pts_nil)
        (te := tAndV (tOp rEq (tCB (rLn K) (tCons (tVar 4) tNil)) (tCB (rLn K) (tCons (tIx0 K (tVar 0)) tNil))) (tOp rEq (tCB (rLn K) (tCons (tIx0 K (tVar 4)) tNil)) (tCB (rLn K) (tCons (tIx0 K (tIx0 K (tVar 0))) tNil))))
        (fun _ _ _ _ _ => pe_and (pe_cmpR op_eq (pe_callB (r := rLn K) call_len_seq (by rfl) B.len PySem.boot_len (pa_cons (pv 4) pa_nil)) (pe_callB (r := rLn K) call_len_seq (by rfl) B.len PySem.boot_len (pa_cons (PE.or (pe_ix (r := rIxL K) ix_list (pv 0) pe_int (fun _ _ => rfl)) (pe_ix (r := rIxT K) ix_tup (pv 0) pe_int (fun _ _ => rfl))) pa_nil)) (nomark _))
          (pe_one (pe_cmpR op_eq (pe_callB (r := rLn K) call_len_seq (by rfl) B.len PySem.boot_len (pa_cons (PE.or (pe_ix (r := rIxL K) ix_list (pv 4) pe_int (fun _ _ => rfl)) (pe_ix (r := rIxT K) ix_tup (pv 4) pe_int (fun _ _ => rfl))) pa_nil))
            (pe_callB (r := rLn K) call_len_seq (by rfl) B.len PySem.boot_len (pa_cons (PE.or (pe_ix (r := rIxL K) ix_list (PE.or (pe_ix (r := rIxL K) ix_list (pv 0) pe_int (fun _ _ => rfl)) (pe_ix (r := rIxT K) ix_tup (pv 0) pe_int (fun _ _ => rfl))) pe_int (fun _ _ => rfl)) (pe_ix (r := rIxT K) ix_tup (PE.or (pe_ix (r := rIxL K) ix_list (pv 0) pe_int (fun _ _ => rfl)) (pe_ix (r := rIxT K) ix_tup (pv 0) pe_int (fun _ _ => rfl))) pe_int (fun _ _ => rfl))) pa_nil)) (nomark _))))) pa_nil)))))), ?_⟩
    refine ⟨_, rfl, ⟨v, t, rfl, hv, hw, fun H1 s1 => ⟨_, rfl, ite2 (fun e => ?_) (fun e => ?_)⟩⟩⟩
    · have eL : t.isL = false := by simpa using e
      have k' := k H1 s1
      unfold T.areTables at k'
      rw [eL] at k'
      exact iteT k'
    have eL : t.isL = true := by simpa using e
    obtain ⟨a, xs, rfl, hats, hsq⟩ := (hv.same s1).sq eL
    have hl := hats.length
    have k2 : ∀ H', Same H H' → Q (.bl ((decide (lo ≤ (xs.length : Int)) && decide ((xs.length : Int) ≤ hi)) && (t.items.all (T.areLists mo mo) && t.items.all fun r => decide ((r.len : Int) = (t.hd.len : Int)) && decide ((r.hd.len : Int) = (t.hd.hd.len : Int))))) H' := fun H' s => by
      have z := k H' s
      unfold T.areTables at z
      rw [eL] at z
      rw [hl]
      exact z
    refine ⟨_, rfl, _, rfl, a, xs, rfl, hsq, _, _, rfl, rfl, _, rfl, ite2 (fun e1 => ?_) (fun e1 => ?_)⟩
    rotate_left
    · rw [Bool.eq_false_iff.mpr e1] at k2
      exact ⟨_, rfl, iteT (k2 _ s1)⟩
    refine ⟨_, rfl, _, _, rfl, rfl, _, rfl, ite2 (fun e2 => ?_) (fun e2 => ?_)⟩
    · have e2' : decide ((xs.length : Int) ≤ hi) = false := by simpa using e2
      rw [e1, e2'] at k2
      exact k2 _ s1
    have e2' : decide ((xs.length : Int) ≤ hi) = true := by simpa using e2
    rw [e1, e2'] at k2
    have hn : 1 ≤ xs.length := by
      have := of_decide_eq_true e1
      omega
    first
      | refine if_all (i := 0) (j := 4) (f := T.areLists mo mo) ?_ hats (small_items hw) hsq ?_ ?_
      | refine if_allN (i := 0) (j := 4) (f := T.areLists mo mo) ?_ hats (small_items hw) hsq ?_ ?_
    · rfl
    · intro x y H' Q' hx hy s' kq
      show tCall (SpLists C) [] E0 (tCons (tVar 4) (tCons (tVar 3) (tCons (tVar 3) tNil))) _ H' Q'
      exact ⟨_, rfl, _, rfl, _, rfl, ⟨x, y, mo, mo, rfl, hx, item_wt hw hy, kq⟩⟩
    intro H2 s2
    refine ite2 (fun e3 => ?_) (fun e3 => ?_)
    · have e3' : t.items.all (T.areLists mo mo) = false := by simpa using e3
      rw [e3'] at k2
      exact k2 _ (s1.trans s2)
    have e3' : t.items.all (T.areLists mo mo) = true := by simpa using e3
    rw [e3'] at k2
    have hsq2 : SqL K H2 a xs ∨ SqT K H2 a xs := hsq.imp (fun q => s2.seq q) fun q => SqT.ext q s2
    have hats2 := hats.same s2
    refine all_lc (i := 0) (j := 4) (f := fun r => decide ((r.len : Int) = (t.hd.len : Int)) && decide ((r.hd.len : Int) = (t.hd.hd.len : Int))) ?_ hats2 (small_items hw) hsq2 ?_ ?_
    · rfl
    · intro x y H' Q' hx hy s' kq
      have al := List.all_eq_true.mp e3'
      obtain ⟨yL, yn, yr⟩ := isl_of (al y hy)
      obtain ⟨b, zs, rfl, hzs, hq⟩ := hx.sq yL
      obtain ⟨x0, xr, rfl, h0, m0⟩ := first_of hats2 hn
      obtain ⟨tL, tn, tr⟩ := isl_of (al _ m0)
      obtain ⟨b0, z0, rfl, hz0, hq0⟩ := (h0.same s').sq tL
      have hsq3 : SqL K H' a (V.ref b0 :: xr) ∨ SqT K H' a (V.ref b0 :: xr) := hsq2.imp (fun q => s'.seq q) fun q => SqT.ext q s'
      obtain ⟨y0, yr', rfl, hy0, my0⟩ := first_of hzs (by rw [hzs.length]; exact yn)
      obtain ⟨c, cs, rfl, hcs, hqc⟩ := hy0.sq (yr _ my0)
      obtain ⟨u0, ur', rfl, hu0, mu0⟩ := first_of hz0 (by rw [hz0.length]; exact tn)
      obtain ⟨d, ds, rfl, hds, hqd⟩ := hu0.sq (tr _ mu0)
      refine ⟨_, rfl, b, _, rfl, hq, ix0g (te := tVar 0) (fun Q' q => ⟨_, rfl, q⟩) hsq3 ⟨b0, _, rfl, hq0, rfl, ?_⟩⟩
      rw [dec_int, hzs.length, hz0.length]
      refine ⟨_, rfl, ite2 (fun e4 => ?_) (fun e4 => ?_)⟩
      · have e4' : decide ((y.len : Int) = (t.hd.len : Int)) = true := e4
        refine ix0g (te := tVar 4) (fun Q' q => ⟨_, rfl, q⟩) hq ⟨c, _, rfl, hqc, ?_⟩
        refine ix0g (te := tIx0 K (tVar 0)) (fun Q' q => ix0g (te := tVar 0) (fun Q' q => ⟨_, rfl, q⟩) hsq3 q) hq0 ⟨d, _, rfl, hqd, rfl, ?_⟩
        rw [dec_int, hcs.length, hds.length]
        have z := kq H' (Same.refl _)
        rw [e4'] at z
        exact z
      · have e4' : decide ((y.len : Int) = (t.hd.len : Int)) = false := Bool.eq_false_iff.mpr e4
        have z := kq H' (Same.refl _)
        rw [e4'] at z
        exact z
    · intro H' s'
      exact k2 _ (s1.trans (s2.trans s'))
theorem scIsTable : FnScope ["value"] ["value"] (defScope sIsTable) := ⟨rfl, rfl, rfl, by decide +kernel, rfl, by decide +kernel, by decide +kernel⟩
theorem ok_isTable {f fN : Addr} {fd fdN : FuncData} {tk : Tok} (F : Fun K "is_table" "is_table" sIsTable f fd) (mM : mg "MOST_ROWS" = some (.int 96 tk)) (GN : FnOk P w K mg base CX0 4 fN fdN ["value", "high", "widest"] (SpLists C)) (mN : mg "are_lists" = some (.ref fN)) (kN : PySem.W.keepIn K (.ref fN) = true) (bN : Binds K fdN ["value", "high", "widest"] []) :
    FnOk P w K mg base CX0 5 f fd ["value"] (SpP C (T.areLists 96 96)) := by
  refine F.ok scIsTable (fun vs H Q E h => ?_) (fun cdv A outer s H vs Q E hr h => ?_)
  · obtain ⟨v, t, rfl, _⟩ := h
    rfl
  · obtain ⟨v, t, rfl, hv, hw, k⟩ := h
    refine ⟨_, pss_one (ps_ret (pe_call GN hr (by rfl) mN kN bN .nil pass0 (pa_cons (pv 0) (pa_cons (pe_glob (by rfl) mM (v := .int 96) ⟨tk, rfl⟩) (pa_cons (pe_glob (by rfl) mM (v := .int 96) ⟨tk, rfl⟩) pa_nil))))), ?_⟩
    exact ⟨_, rfl, ⟨v, t, 96, 96, rfl, hv, hw, k⟩⟩
end
end RQ

set_option Elab.async false
set_option linter.all false
set_option maxRecDepth 100000
set_option maxHeartbeats 4000000
/-! The law's own eye. -/
namespace RQ
open PySem L2
theorem all_and (f g : T → Bool) (ys : List T) : (ys.all f && ys.all g) = ys.all fun y => f y && g y := by
  induction ys with
  | nil => rfl
  | cons y r ih =>
    rw [List.all_cons, List.all_cons, List.all_cons, ← ih]
    cases f y <;> cases g y <;> cases r.all f <;> cases r.all g <;> rfl
section
variable {P : Program} {w : World} {K : PySem.W.Frag} {mg : Str → Option Value} {base : Heap} {C : Addr}
theorem scLN : FnScope ["_law_value"] ["_law_value"] (defScope lIsNumber) := ⟨rfl, rfl, rfl, by decide +kernel, rfl, by decide +kernel, by decide +kernel⟩
theorem ok_lIsNumber {f : Addr} {fd : FuncData} (F : Fun K "_law_is_number" "_law_is_number" lIsNumber f fd) (B : Blt mg) (R : RCls K mg C) : FnOk P w K mg base CX0 1 f fd ["_law_value"] (SpP C T.isNum) := by
  refine F.ok scLN (fun vs H Q E h => ?_) (fun cdv A outer s H vs Q E hr h => ?_)
  · obtain ⟨v, t, rfl, _⟩ := h
    rfl
  · obtain ⟨v, t, rfl, hv, hw, k⟩ := h
    obtain ⟨c, bc, bi, bb, ty, h0, h1, h2, hb⟩ := hv.numbered R
    refine ⟨_, pss_one (ps_ret (pe_or (pe_callB call_isi (by rfl) B.isi PyProof.Rows.boot_isinstance (pa_cons (pv 0) (pa_cons (pe_glob (by rfl) R.mg_ (v := .ref C) rfl) pa_nil)))
      (pe_one (pe_and (pe_callB call_isi (by rfl) B.isi PyProof.Rows.boot_isinstance (pa_cons (pv 0) (pa_cons (pe_bltn (by rfl) B.int PyProof.Rows.boot_int (v := .ty "int") rfl) pa_nil)))
        (pe_one (pe_not (pe_callB call_isi (by rfl) B.isi PyProof.Rows.boot_isinstance (pa_cons (pv 0) (pa_cons (pe_bltn (by rfl) B.bool PyProof.Rows.boot_bool (v := .ty "bool") rfl) pa_nil))))))))), ?_⟩
    have k' := k H (Same.refl _)
    rw [← hb] at k'
    refine ⟨v, rfl, v, .ref C, c, _, bc, rfl, .own C, ty, h0, bc, rfl, ite2 (fun e => ?_) (fun e => ?_)⟩
    · rw [e] at k'
      exact k'
    rw [Bool.eq_false_iff.mpr e] at k'
    refine ⟨v, rfl, v, .ty "int", c, _, bi, rfl, .ty "int", ty, h1, bi, rfl, ite2 (fun e2 => ?_) (fun e2 => ?_)⟩
    · rw [e2] at k'
      exact ⟨v, rfl, v, .ty "bool", c, _, bb, rfl, .ty "bool", ty, h2, bb, rfl, k'⟩
    · rw [Bool.eq_false_iff.mpr e2] at k'
      exact k'
structure SpTab (C : Addr) (vs : List V) (H : Hp) (Q : VK) (E : XK) : Prop where
  ex : ∃ (v : V) (t : T) (mo : Int), vs = [v, .int mo] ∧ At C H v t ∧ t.wt ≤ sizeLine ∧ ∀ H', Same H H' → Q (.bl (t.areLists mo mo)) H'
abbrev nLT : List Str := ["_law_value", "_law_most", "_law_row", "_law_number_here"]
theorem scLT : FnScope nLT ["_law_value", "_law_most"] (defScope lIsTable) := ⟨rfl, rfl, rfl, by decide +kernel, rfl, by decide +kernel, by decide +kernel⟩
theorem ok_lIsTable {f fN : Addr} {fd fdN : FuncData} (F : Fun K "_law_is_table" "_law_is_table" lIsTable f fd) (B : Blt mg) (R : RCls K mg C) (GN : FnOk P w K mg base CX0 1 fN fdN ["_law_value"] (SpP C T.isNum)) (mN : mg "_law_is_number" = some (.ref fN)) (kN : PySem.W.keepIn K (.ref fN) = true) (bN : Binds K fdN ["_law_value"] []) :
    FnOk P w K mg base CX0 2 f fd ["_law_value", "_law_most"] (SpTab C) := by
  refine F.ok scLT (fun vs H Q E h => ?_) (fun cdv A outer s H vs Q E hr h => ?_)
  · obtain ⟨v, t, mo, rfl, _⟩ := h
    rfl
  · obtain ⟨v, t, mo, rfl, hv, hw, k⟩ := h
    refine ⟨_, PSs.nox (pss_cons (ps_if (pw_or (pt_not (pt_val (pe_callB call_isiT (by rfl) B.isi PyProof.Rows.boot_isinstance (pa_cons (pv 0) (pa_cons (pe_tup (pa_cons (pe_bltn (by rfl) B.list PyProof.Rows.boot_list (v := .ty "list") rfl) (pa_cons (pe_bltn (by rfl) B.tuple PyProof.Rows.boot_tuple (v := .ty "tuple") rfl) pa_nil))) pa_nil))))) (pw_or1 (pt_not (pt_chain op_le op_le pe_int (pe_callB call_len_seq (by rfl) B.len PySem.boot_len (pa_cons (pv 0) pa_nil)) (pv 1))))).pt (pss_one (ps_ret pe_bl)) pss_nil)
      (pss_cons (ps_if (pt_not (pt_val (pe_callB (cr_all rfl) (by rfl) B.all PyProof.Rows.boot_all (pa_cons (pe_lc (own := [("_law_row", 2)]) (g := gName 2) (tt := tYes) rfl scLT.nd (PI.or (pi_list (pv 0)) (pi_tup (pv 0))) (blkOk_by (own := [("_law_row", 2)]) (N := nLT) (sc := defScope lIsTable) (by decide +kernel)) (fun _ _ _ _ _ => pg_name (i := 2) scLT.nd rfl (Or.inl rfl)) (fun _ _ _ _ _ => pts_nil)
        (te := tAndV (tCB (rIsiT K) (tCons (tVar 2) (tCons (tTup (tCons (tC (.ty "list")) (tCons (tC (.ty "tuple")) tNil))) tNil))) (tChain (rI0 fun i j => .bl (decide (i ≤ j))) (rI0 fun i j => .bl (decide (i ≤ j))) (tC (.int 1)) (tCB (rLn K) (tCons (tVar 2) tNil)) (tVar 1)))
        (fun _ _ _ _ _ => pe_and (pe_callB (r := rIsiT K) call_isiT (by rfl) B.isi PyProof.Rows.boot_isinstance (pa_cons (pv 2) (pa_cons (pe_tup (pa_cons (pe_bltn (by rfl) B.list PyProof.Rows.boot_list (v := .ty "list") rfl) (pa_cons (pe_bltn (by rfl) B.tuple PyProof.Rows.boot_tuple (v := .ty "tuple") rfl) pa_nil))) pa_nil)))
          (pe_one (pe_chain op_le op_le pe_int (pe_callB (r := rLn K) call_len_seq (by rfl) B.len PySem.boot_len (pa_cons (pv 2) pa_nil)) (pv 1))))) pa_nil)))) (pss_one (ps_ret pe_bl)) pss_nil)
      (pss_cons (ps_if (pt_not (pt_val (pe_callB (cr_all rfl) (by rfl) B.all PyProof.Rows.boot_all (pa_cons (pe_lc (own := [("_law_row", 2)]) (g := gName 2) (tt := tYes) rfl scLT.nd (PI.or (pi_list (pv 0)) (pi_tup (pv 0))) (blkOk_by (own := [("_law_row", 2)]) (N := nLT) (sc := defScope lIsTable) (by decide +kernel)) (fun _ _ _ _ _ => pg_name (i := 2) scLT.nd rfl (Or.inl rfl)) (fun _ _ _ _ _ => pts_nil)
        (te := tOp rEq (tCB (rLn K) (tCons (tVar 2) tNil)) (tCB (rLn K) (tCons (tIx0 K (tVar 0)) tNil)))
        (fun _ _ _ _ _ => pe_cmpR op_eq (pe_callB (r := rLn K) call_len_seq (by rfl) B.len PySem.boot_len (pa_cons (pv 2) pa_nil)) (pe_callB (r := rLn K) call_len_seq (by rfl) B.len PySem.boot_len (pa_cons (PE.or (pe_ix (r := rIxL K) ix_list (pv 0) pe_int (fun _ _ => rfl)) (pe_ix (r := rIxT K) ix_tup (pv 0) pe_int (fun _ _ => rfl))) pa_nil)) (nomark _))) pa_nil)))) (pss_one (ps_ret pe_bl)) pss_nil)
      (pss_one (ps_ret (pe_callB (cr_all rfl) (by rfl) B.all PyProof.Rows.boot_all (pa_cons (pe_lc (own := [("_law_row", 2)]) (g := gName 2) (tt := tYes) rfl scLT.nd (PI.or (pi_list (pv 0)) (pi_tup (pv 0))) (blkOk_by (own := [("_law_row", 2)]) (N := nLT) (sc := defScope lIsTable) (by decide +kernel)) (fun _ _ _ _ _ => pg_name (i := 2) scLT.nd rfl (Or.inl rfl)) (fun _ _ _ _ _ => pts_nil)
        (te := tCB (rAll K) (tCons (tLc (fun σ H R => iList K (tVar 2) σ H R ∨ iTup K (tVar 2) σ H R) (gName 3) tYes (tCall (SpP C T.isNum) [] E0 (tCons (tVar 3) tNil)) [3]) tNil))
        (fun _ _ _ _ _ => pe_callB (r := rAll K) (cr_all rfl) (by rfl) B.all PyProof.Rows.boot_all (pa_cons (pe_lc (own := [("_law_number_here", 3)]) (g := gName 3) (tt := tYes) (wi := fun σ H R => iList K (tVar 2) σ H R ∨ iTup K (tVar 2) σ H R) rfl scLT.nd (PI.or (pi_list (pv 2)) (pi_tup (pv 2))) (blkOk_by (own := [("_law_number_here", 3)]) (N := nLT) (sc := { kind := .function, names := [(".0", .local), ("_law_row", .local), ("all", .globalImplicit)], isGenerator := false, isCoroutine := false }) (by decide +kernel)) (fun _ _ _ _ _ => pg_name (i := 3) scLT.nd rfl (Or.inl rfl)) (fun _ _ _ _ _ => pts_nil)
          (fun _ _ _ _ _ => pe_call GN hr (by rfl) mN kN bN .nil pass0 (pa_cons (pv 3) pa_nil))) pa_nil))) pa_nil))))))), ?_⟩
    -- the same word, the law's way
    let f1 : T → Bool := fun r => r.isL && (decide (1 ≤ (r.len : Int)) && decide ((r.len : Int) ≤ mo))
    let f2 : T → Bool := fun r => decide ((r.len : Int) = (t.hd.len : Int))
    let f3 : T → Bool := fun r => r.items.all T.isNum
    have word : ∀ H', Same H H' → Q (.bl (t.isL && ((decide (1 ≤ (t.len : Int)) && decide ((t.len : Int) ≤ mo)) && (t.items.all f1 && (t.items.all f2 && t.items.all f3))))) H' := fun H' s => by
      have z := k H' s
      unfold T.areLists at z
      have e1 : T.isNums 1 mo = fun r => f1 r && f3 r := by
        funext r
        show (r.isL && ((decide (1 ≤ (r.len : Int)) && decide ((r.len : Int) ≤ mo)) && r.items.all T.isNum)) = ((r.isL && (decide (1 ≤ (r.len : Int)) && decide ((r.len : Int) ≤ mo))) && r.items.all T.isNum)
        exact (Bool.and_assoc _ _ _).symm
      rw [e1, ← all_and] at z
      have e2 : (t.items.all f1 && t.items.all f3 && t.items.all f2) = (t.items.all f1 && (t.items.all f2 && t.items.all f3)) := by
        cases t.items.all f1 <;> cases t.items.all f2 <;> cases t.items.all f3 <;> rfl
      rw [← e2]
      exact z
    refine ⟨_, rfl, by decide, fun tp ntp => ?_⟩
    have s1 := same_new (o := .tup [.ty "list", .ty "tuple"]) ntp
    obtain ⟨c, ty, ka⟩ := (hv.same s1).listed R
    refine ⟨_, tp, _, _, _, _, rfl, upd_same, .cons (.ty "list") (.cons (.ty "tuple") .nil), ty, ka, _, rfl, ite2 (fun e => ?_) (fun e => ?_)⟩
    · have eL : t.isL = false := by simpa using e
      have k' := word _ s1
      rw [eL] at k'
      exact iteT k'
    have eL : t.isL = true := by simpa using e
    obtain ⟨a, xs, rfl, hats, hsq⟩ := (hv.same s1).sq eL
    have hl := hats.length
    rw [eL] at word
    have k2 : ∀ H', Same H H' → Q (.bl ((decide (1 ≤ (xs.length : Int)) && decide ((xs.length : Int) ≤ mo)) && (t.items.all f1 && (t.items.all f2 && t.items.all f3)))) H' := fun H' s => by
      rw [hl]
      exact word H' s
    refine ⟨_, rfl, a, xs, rfl, hsq, _, _, rfl, rfl, _, rfl, ite2 (fun e1 => ?_) (fun e1 => ?_)⟩
    rotate_left
    · rw [Bool.eq_false_iff.mpr e1] at k2
      exact ⟨_, rfl, iteT (k2 _ s1)⟩
    refine ⟨_, rfl, _, _, rfl, rfl, _, rfl, ite2 (fun e2 => ?_) (fun e2 => ?_)⟩
    · have e2' : decide ((xs.length : Int) ≤ mo) = false := by simpa using e2
      rw [e1, e2'] at k2
      exact k2 _ s1
    have e2' : decide ((xs.length : Int) ≤ mo) = true := by simpa using e2
    rw [e1, e2'] at k2
    have hn : 1 ≤ xs.length := by
      have := of_decide_eq_true e1
      omega
    first
      | refine if_all (i := 0) (j := 2) (f := f1) ?_ hats (small_items hw) hsq ?_ ?_
      | refine if_allN (i := 0) (j := 2) (f := f1) ?_ hats (small_items hw) hsq ?_ ?_
    · rfl
    · intro x y H' Q' hx hy s' kq
      refine ⟨_, rfl, by decide, fun tp2 ntp2 => ?_⟩
      have s2 := same_new (o := .tup [.ty "list", .ty "tuple"]) ntp2
      obtain ⟨c2, ty2, ka2⟩ := (hx.same s2).listed R
      have kz := kq _ s2
      refine ⟨_, tp2, _, _, _, _, rfl, upd_same, .cons (.ty "list") (.cons (.ty "tuple") .nil), ty2, ka2, _, rfl, ite2 (fun e3 => ?_) (fun e3 => ?_)⟩
      · obtain ⟨b, zs, rfl, hzs, hq⟩ := (hx.same s2).sq e3
        have kz' : Q' (.bl (decide (1 ≤ (zs.length : Int)) && decide ((zs.length : Int) ≤ mo))) (upd H' tp2 (.tup [.ty "list", .ty "tuple"])) := by
          have z := kz
          rw [hzs.length]
          show Q' (.bl (decide (1 ≤ (y.len : Int)) && decide ((y.len : Int) ≤ mo))) (upd H' tp2 (.tup [.ty "list", .ty "tuple"]))
          have e4 : f1 y = (decide (1 ≤ (y.len : Int)) && decide ((y.len : Int) ≤ mo)) := by
            show (y.isL && _) = _
            rw [e3]
            rfl
          rw [← e4]
          exact z
        refine ⟨_, rfl, b, zs, rfl, hq, _, _, rfl, rfl, _, rfl, ite2 (fun e5 => ?_) (fun e5 => ?_)⟩
        · rw [e5] at kz'
          exact ⟨_, rfl, _, _, rfl, rfl, kz'⟩
        · rw [Bool.eq_false_iff.mpr e5] at kz'
          exact kz'
      · have e4 : f1 y = false := by
          show (y.isL && _) = _
          rw [Bool.eq_false_iff.mpr e3]
          rfl
        rw [e4] at kz
        exact kz
    intro H2 s2
    refine ite2 (fun e3 => ?_) (fun e3 => ?_)
    · have e3' : t.items.all f1 = false := by simpa using e3
      rw [e3'] at k2
      exact k2 _ (s1.trans s2)
    have e3' : t.items.all f1 = true := by simpa using e3
    rw [e3'] at k2
    have isl : ∀ z ∈ t.items, z.isL = true := fun z hz => (Bool.and_eq_true_iff.mp (List.all_eq_true.mp e3' z hz)).1
    have hsq2 : SqL K H2 a xs ∨ SqT K H2 a xs := hsq.imp (fun q => s2.seq q) fun q => SqT.ext q s2
    have hats2 := hats.same s2
    first
      | refine if_all (i := 0) (j := 2) (f := f2) ?_ hats2 (small_items hw) hsq2 ?_ ?_
      | refine if_allN (i := 0) (j := 2) (f := f2) ?_ hats2 (small_items hw) hsq2 ?_ ?_
    · rfl
    · intro x y H' Q' hx hy s' kq
      obtain ⟨b, zs, rfl, hzs, hq⟩ := hx.sq (isl _ hy)
      obtain ⟨x0, xr, rfl, h0, m0⟩ := first_of hats2 hn
      obtain ⟨b0, z0, rfl, hz0, hq0⟩ := (h0.same s').sq (isl _ m0)
      have hsq3 : SqL K H' a (V.ref b0 :: xr) ∨ SqT K H' a (V.ref b0 :: xr) := hsq2.imp (fun q => s'.seq q) fun q => SqT.ext q s'
      refine ⟨_, rfl, b, zs, rfl, hq, ix0g (te := tVar 0) (fun Q' q => ⟨_, rfl, q⟩) hsq3 ⟨b0, z0, rfl, hq0, rfl, ?_⟩⟩
      rw [dec_int, hzs.length, hz0.length]
      exact kq _ (Same.refl _)
    intro H3 s3
    refine ite2 (fun e4 => ?_) (fun e4 => ?_)
    · have e4' : t.items.all f2 = false := by simpa using e4
      rw [e4'] at k2
      exact k2 _ (s1.trans (s2.trans s3))
    have e4' : t.items.all f2 = true := by simpa using e4
    rw [e4'] at k2
    have hsq3 : SqL K H3 a xs ∨ SqT K H3 a xs := hsq2.imp (fun q => s3.seq q) fun q => SqT.ext q s3
    refine all_lc (i := 0) (j := 2) (f := f3) ?_ (hats2.same s3) (small_items hw) hsq3 ?_ ?_
    · rfl
    · intro x y H' Q' hx hy s' kq
      obtain ⟨b, zs, rfl, hzs, hq⟩ := hx.sq (isl _ hy)
      have wy := item_wt hw hy
      refine all_lc (i := 2) (j := 3) (f := T.isNum) ?_ hzs (small_items wy) hq ?_ ?_
      · rfl
      · intro x' y' H'' Q'' hx' hy' s'' kq'
        exact ⟨_, rfl, ⟨x', y', rfl, hx', item_wt wy hy', kq'⟩⟩
      · intro H'' s''
        exact kq _ s''
    · intro H' s'
      exact k2 _ (s1.trans (s2.trans (s3.trans s')))
end
end RQ

set_option Elab.async false
set_option linter.all false
set_option maxRecDepth 100000
set_option maxHeartbeats 4000000
/-! Helpers, by the law's own eye. -/
namespace RQ
open PySem L2
section
variable {P : Program} {w : World} {K : PySem.W.Frag} {mg : Str → Option Value} {base : Heap} {C : Addr}
theorem not_all {a : Addr} {i j : Nat} {xs : List V} {ys : List T} {f : T → Bool} {te : TE} {σ : L2.St} {H1 : Hp} {Q : Bool → Hp → Prop} (hi : σ[i]? = some (some (.ref a))) (hats : Ats C H1 xs ys) (hs : ys.length < sizeLine) (hsq : SqL K H1 a xs ∨ SqT K H1 a xs)
    (step : ∀ (x : V) (y : T) (H' : Hp) (Q' : VK), At C H' x y → y ∈ ys → Same H1 H' → (∀ H4, Same H' H4 → Q' (.bl (f y)) H4) → te ((wipe σ [j]).set j (some x)) H' Q')
    (hd : ∀ (H' : Hp), Same H1 H' → Q (!ys.all f) H') :
    tNot (tB (tCB (rAll K) (tCons (tLc (fun σ H R => iList K (tVar i) σ H R ∨ iTup K (tVar i) σ H R) (gName j) tYes te [j]) tNil))) σ H1 Q :=
  all_lc (Q := fun x H2 => ∃ d, x = .bl d ∧ Q (!d) H2) hi hats hs hsq step fun H' s => ⟨_, rfl, hd H' s⟩
structure SpHelp (C : Addr) (vs : List V) (H : Hp) (Q : VK) (E : XK) : Prop where
  ex : ∃ (v : V) (t : T) (m : Int), vs = [v, .int m] ∧ At C H v t ∧ t.wt ≤ sizeLine ∧ 1 ≤ m ∧ ∀ H', Same H H' → Q (.bl (t.areTables m m 24)) H'
abbrev nLH : List Str := ["_law_value", "_law_many", "_law_table_here"]
theorem scLH : FnScope nLH ["_law_value", "_law_many"] (defScope lAreHelpers) := ⟨rfl, rfl, rfl, by decide +kernel, rfl, by decide +kernel, by decide +kernel⟩
theorem ok_lHelpers {f fN : Addr} {fd fdN : FuncData} (F : Fun K "_law_are_helpers" "_law_are_helpers" lAreHelpers f fd) (B : Blt mg) (R : RCls K mg C) (GN : FnOk P w K mg base CX0 2 fN fdN ["_law_value", "_law_most"] (SpTab C)) (mN : mg "_law_is_table" = some (.ref fN)) (kN : PySem.W.keepIn K (.ref fN) = true) (bN : Binds K fdN ["_law_value", "_law_most"] []) :
    FnOk P w K mg base CX0 3 f fd ["_law_value", "_law_many"] (SpHelp C) := by
  refine F.ok scLH (fun vs H Q E h => ?_) (fun cdv A outer s H vs Q E hr h => ?_)
  · obtain ⟨v, t, m, rfl, _⟩ := h
    rfl
  · obtain ⟨v, t, m, rfl, hv, hw, m1, k⟩ := h
    refine ⟨_, PSs.nox (pss_cons (ps_if (pw_or (pt_not (pt_val (pe_callB call_isiT (by rfl) B.isi PyProof.Rows.boot_isinstance (pa_cons (pv 0) (pa_cons (pe_tup (pa_cons (pe_bltn (by rfl) B.list PyProof.Rows.boot_list (v := .ty "list") rfl) (pa_cons (pe_bltn (by rfl) B.tuple PyProof.Rows.boot_tuple (v := .ty "tuple") rfl) pa_nil))) pa_nil)))))
        (pw_or (pt_cmpR op_ne (pe_callB call_len_seq (by rfl) B.len PySem.boot_len (pa_cons (pv 0) pa_nil)) (pv 1) (nomark _))
        (pw_or1 (pt_not (pt_val (pe_callB (cr_all rfl) (by rfl) B.all PyProof.Rows.boot_all (pa_cons (pe_lc (own := [("_law_table_here", 2)]) (g := gName 2) (tt := tYes) rfl scLH.nd (PI.or (pi_list (pv 0)) (pi_tup (pv 0))) (blkOk_by (own := [("_law_table_here", 2)]) (N := nLH) (sc := defScope lAreHelpers) (by decide +kernel)) (fun _ _ _ _ _ => pg_name (i := 2) scLH.nd rfl (Or.inl rfl)) (fun _ _ _ _ _ => pts_nil)
          (fun _ _ _ _ _ => pe_call GN hr (by rfl) mN kN bN .nil pass0 (pa_cons (pv 2) (pa_cons pe_int pa_nil)))) pa_nil))))))).pt (pss_one (ps_ret pe_bl)) pss_nil)
      (pss_one (ps_ret (pe_callB (cr_all rfl) (by rfl) B.all PyProof.Rows.boot_all (pa_cons (pe_lc (own := [("_law_table_here", 2)]) (g := gName 2) (tt := tYes) rfl scLH.nd (PI.or (pi_list (pv 0)) (pi_tup (pv 0))) (blkOk_by (own := [("_law_table_here", 2)]) (N := nLH) (sc := defScope lAreHelpers) (by decide +kernel)) (fun _ _ _ _ _ => pg_name (i := 2) scLH.nd rfl (Or.inl rfl)) (fun _ _ _ _ _ => pts_nil)
        (te := tAndV (tOp rEq (tCB (rLn K) (tCons (tVar 2) tNil)) (tCB (rLn K) (tCons (tIx0 K (tVar 0)) tNil))) (tOp rEq (tCB (rLn K) (tCons (tIx0 K (tVar 2)) tNil)) (tCB (rLn K) (tCons (tIx0 K (tIx0 K (tVar 0))) tNil))))
        (fun _ _ _ _ _ => pe_and (pe_cmpR op_eq (pe_callB (r := rLn K) call_len_seq (by rfl) B.len PySem.boot_len (pa_cons (pv 2) pa_nil)) (pe_callB (r := rLn K) call_len_seq (by rfl) B.len PySem.boot_len (pa_cons (PE.or (pe_ix (r := rIxL K) ix_list (pv 0) pe_int (fun _ _ => rfl)) (pe_ix (r := rIxT K) ix_tup (pv 0) pe_int (fun _ _ => rfl))) pa_nil)) (nomark _))
          (pe_one (pe_cmpR op_eq (pe_callB (r := rLn K) call_len_seq (by rfl) B.len PySem.boot_len (pa_cons (PE.or (pe_ix (r := rIxL K) ix_list (pv 2) pe_int (fun _ _ => rfl)) (pe_ix (r := rIxT K) ix_tup (pv 2) pe_int (fun _ _ => rfl))) pa_nil))
            (pe_callB (r := rLn K) call_len_seq (by rfl) B.len PySem.boot_len (pa_cons (PE.or (pe_ix (r := rIxL K) ix_list (PE.or (pe_ix (r := rIxL K) ix_list (pv 0) pe_int (fun _ _ => rfl)) (pe_ix (r := rIxT K) ix_tup (pv 0) pe_int (fun _ _ => rfl))) pe_int (fun _ _ => rfl)) (pe_ix (r := rIxT K) ix_tup (PE.or (pe_ix (r := rIxL K) ix_list (pv 0) pe_int (fun _ _ => rfl)) (pe_ix (r := rIxT K) ix_tup (pv 0) pe_int (fun _ _ => rfl))) pe_int (fun _ _ => rfl))) pa_nil)) (nomark _))))) pa_nil))))), ?_⟩
    refine ⟨_, rfl, by decide, fun tp ntp => ?_⟩
    have s1 := same_new (o := .tup [.ty "list", .ty "tuple"]) ntp
    obtain ⟨c, ty, ka⟩ := (hv.same s1).listed R
    refine ⟨_, tp, _, _, _, _, rfl, upd_same, .cons (.ty "list") (.cons (.ty "tuple") .nil), ty, ka, _, rfl, ite2 (fun e => ?_) (fun e => ?_)⟩
    · have eL : t.isL = false := by simpa using e
      have k' := k _ s1
      unfold T.areTables at k'
      rw [eL] at k'
      exact iteT k'
    have eL : t.isL = true := by simpa using e
    obtain ⟨a, xs, rfl, hats, hsq⟩ := (hv.same s1).sq eL
    have hl := hats.length
    have k2 : ∀ H', Same H H' → Q (.bl (decide ((xs.length : Int) = m) && (t.items.all (T.areLists 24 24) && t.items.all fun r => decide ((r.len : Int) = (t.hd.len : Int)) && decide ((r.hd.len : Int) = (t.hd.hd.len : Int))))) H' := fun H' s => by
      have z := k H' s
      unfold T.areTables at z
      rw [eL] at z
      have e1 : (decide (m ≤ (t.len : Int)) && decide ((t.len : Int) ≤ m)) = decide ((xs.length : Int) = m) := by
        rw [hl]
        show (decide (m ≤ (t.items.length : Int)) && decide ((t.items.length : Int) ≤ m)) = _
        by_cases h : (t.items.length : Int) = m
        · rw [decide_eq_true h, decide_eq_true (by omega), decide_eq_true (by omega)]
          rfl
        · rw [decide_eq_false h]
          by_cases h' : m ≤ (t.items.length : Int)
          · rw [decide_eq_false (p := (t.items.length : Int) ≤ m) (by omega), Bool.and_false]
          · rw [decide_eq_false h', Bool.false_and]
      rw [e1] at z
      exact z
    refine ⟨_, rfl, a, xs, rfl, hsq, _, rfl, rfl, _, rfl, ?_⟩
    rw [dec_int]
    refine ite2 (fun e1 => ?_) (fun e1 => ?_)
    · have e1' : decide ((xs.length : Int) = m) = false := by simpa using e1
      rw [e1'] at k2
      exact iteT (k2 _ s1)
    have e1' : decide ((xs.length : Int) = m) = true := by simpa using e1
    rw [e1'] at k2
    have hn : 1 ≤ xs.length := by
      have := of_decide_eq_true e1'
      omega
    refine not_all (i := 0) (j := 2) (f := T.areLists 24 24) ?_ hats (small_items hw) hsq ?_ ?_
    · rfl
    · intro x y H' Q' hx hy s' kq
      show tCall (SpTab C) [] E0 (tCons (tVar 2) (tCons (tC (.int 24)) tNil)) _ H' Q'
      exact ⟨_, rfl, ⟨x, y, 24, rfl, hx, item_wt hw hy, kq⟩⟩
    intro H2 s2
    refine ite2 (fun e3 => ?_) (fun e3 => ?_)
    · have e3' : t.items.all (T.areLists 24 24) = false := by simpa using e3
      rw [e3'] at k2
      exact k2 _ (s1.trans s2)
    have e3' : t.items.all (T.areLists 24 24) = true := by simpa using e3
    rw [e3'] at k2
    have hsq2 : SqL K H2 a xs ∨ SqT K H2 a xs := hsq.imp (fun q => s2.seq q) fun q => SqT.ext q s2
    have hats2 := hats.same s2
    refine all_lc (i := 0) (j := 2) (f := fun r => decide ((r.len : Int) = (t.hd.len : Int)) && decide ((r.hd.len : Int) = (t.hd.hd.len : Int))) ?_ hats2 (small_items hw) hsq2 ?_ ?_
    · rfl
    · intro x y H' Q' hx hy s' kq
      have al := List.all_eq_true.mp e3'
      obtain ⟨yL, yn, yr⟩ := isl_of (al y hy)
      obtain ⟨b, zs, rfl, hzs, hq⟩ := hx.sq yL
      obtain ⟨x0, xr, rfl, h0, m0⟩ := first_of hats2 hn
      obtain ⟨tL, tn, tr⟩ := isl_of (al _ m0)
      obtain ⟨b0, z0, rfl, hz0, hq0⟩ := (h0.same s').sq tL
      have hsq3 : SqL K H' a (V.ref b0 :: xr) ∨ SqT K H' a (V.ref b0 :: xr) := hsq2.imp (fun q => s'.seq q) fun q => SqT.ext q s'
      obtain ⟨y0, yr', rfl, hy0, my0⟩ := first_of hzs (by rw [hzs.length]; exact yn)
      obtain ⟨c, cs, rfl, hcs, hqc⟩ := hy0.sq (yr _ my0)
      obtain ⟨u0, ur', rfl, hu0, mu0⟩ := first_of hz0 (by rw [hz0.length]; exact tn)
      obtain ⟨d, ds, rfl, hds, hqd⟩ := hu0.sq (tr _ mu0)
      refine ⟨_, rfl, b, _, rfl, hq, ix0g (te := tVar 0) (fun Q' q => ⟨_, rfl, q⟩) hsq3 ⟨b0, _, rfl, hq0, rfl, ?_⟩⟩
      rw [dec_int, hzs.length, hz0.length]
      refine ⟨_, rfl, ite2 (fun e4 => ?_) (fun e4 => ?_)⟩
      · have e4' : decide ((y.len : Int) = (t.hd.len : Int)) = true := e4
        refine ix0g (te := tVar 2) (fun Q' q => ⟨_, rfl, q⟩) hq ⟨c, _, rfl, hqc, ?_⟩
        refine ix0g (te := tIx0 K (tVar 0)) (fun Q' q => ix0g (te := tVar 0) (fun Q' q => ⟨_, rfl, q⟩) hsq3 q) hq0 ⟨d, _, rfl, hqd, rfl, ?_⟩
        rw [dec_int, hcs.length, hds.length]
        have z := kq H' (Same.refl _)
        rw [e4'] at z
        exact z
      · have e4' : decide ((y.len : Int) = (t.hd.len : Int)) = false := Bool.eq_false_iff.mpr e4
        have z := kq H' (Same.refl _)
        rw [e4'] at z
        exact z
    · intro H' s'
      exact k2 _ (s1.trans (s2.trans s'))
end
end RQ

set_option Elab.async false
set_option linter.all false
set_option maxRecDepth 100000
set_option maxHeartbeats 4000000
/-! Fractions of numbers, teams. -/
namespace RQ
open PySem L2
section
variable {P : Program} {w : World} {K : PySem.W.Frag} {mg : Str → Option Value} {base : Heap} {C CT : Addr}
theorem madeR {C : Addr} {H : Hp} {R : VK} {E : XK} {t b : Int} (hb : b ≠ 0) (hz : Sz 8000 b) (x dx : Addr) (nx : H x = none) (nd : H dx = none) (k : ∀ H', Same H H' → RAt C H' x (low t b) → R .non H') :
    SpInit C [.ref x, .int t, .int b] (upd (upd H dx (.own x)) x (.ins C dx [])) R E := by
  refine ⟨x, dx, t, b, rfl, hb, hz, upd_same, k _ ?_ ⟨dx, upd_same⟩⟩
  intro c o e
  rw [upd_ne (ne_of_none e nx), upd_ne (ne_of_none e nx), upd_ne (ne_of_none e nd)]
  exact e
/-- Ratio, made -/
structure Mkr (P : Program) (w : World) (K : PySem.W.Frag) (mg : Str → Option Value) (base : Heap) (C : Addr) where
  B : Blt mg
  R : RCls K mg C
  f0 : Addr
  fd0 : FuncData
  M : Mk K C f0
  G0 : FnOk P w K mg base CX0 2 f0 fd0 ["self", "top", "bottom"] (SpInit C)
  b0 : Binds K fd0 ["self", "top", "bottom"] []
  d1 : List Value
  v1 : Vals [.int 1] d1
  b1 : Binds K fd0 ["self", "top", "bottom"] d1
structure SpAs (C : Addr) (vs : List V) (H : Hp) (Q : VK) (E : XK) : Prop where
  ex : ∃ (v : V) (t : T), vs = [v] ∧ At C H v t ∧ t.isNum = true ∧ ∀ H' x, Same H H' → Q (.ref x) H'
theorem scAs : FnScope ["number"] ["number"] (defScope sAsRatio) := ⟨rfl, rfl, rfl, by decide +kernel, rfl, by decide +kernel, by decide +kernel⟩
theorem ok_asRatio {f : Addr} {fd : FuncData} (F : Fun K "as_ratio" "as_ratio" sAsRatio f fd) (D : Mkr P w K mg base C) : FnOk P w K mg base CX0 4 f fd ["number"] (SpAs C) := by
  refine F.ok scAs (fun vs H Q E h => ?_) (fun cdv A outer s H vs Q E hr h => ?_)
  · obtain ⟨v, t, rfl, _⟩ := h
    rfl
  · obtain ⟨v, t, rfl, hv, hn, k⟩ := h
    have B := D.B
    have R := D.R
    refine ⟨_, pss_cons (ps_if (pt_val (pe_callB call_isi (by rfl) B.isi PyProof.Rows.boot_isinstance (pa_cons (pv 0) (pa_cons (pe_glob (by rfl) R.mg_ (v := .ref C) rfl) pa_nil)))) (pss_one (ps_ret (pv 0))) pss_nil)
      (pss_one (ps_ret (pe_make D.M D.G0 hr rfl R.mg_ D.b1 D.v1 pass0 (pa_cons (pv 0) pa_nil)))), ?_⟩
    cases hv with
    | rat r => exact ⟨_, rfl, _, .ref C, _, _, true, rfl, .own C, r.is R, R.kC, true, rfl, iteT ⟨_, rfl, k _ _ (Same.refl _)⟩⟩
    | int i =>
      refine ⟨_, rfl, _, .ref C, _, _, false, rfl, .own C, .base (.int i), R.iC, false, rfl, iteF ?_⟩
      exact ⟨_, rfl, fun m dx nm nd ne => madeR (b := 1) (by decide) (by unfold Sz; exact Nat.one_lt_two_pow (by decide)) m dx nm nd fun H' s hm => ⟨rfl, k _ _ s⟩⟩
    | _ => cases hn
/-- [e for x in a list or a tuple], e anything -/
theorem lc_any {a D : Addr} {j : Nat} {xs : List V} {ys : List T} {te : TE} {σ : L2.St} {H1 : Hp} {Qd : Hp → Prop} {J : It} (hD : H1 D = none) (hats : Ats C H1 xs ys) (hs : xs.length < sizeLine)
    (hJ : (J = Itl K a ∧ SqL K H1 a xs) ∨ (J = Itt K a ∧ SqT K H1 a xs))
    (step : ∀ (x : V) (y : T) (H' : Hp) (Q' : VK), At C H' x y → y ∈ ys → Same H1 H' → (∀ z H4, Same H' H4 → Q' z H4) → te ((wipe σ [j]).set j (some x)) H' Q')
    (hd : ∀ H' zs, Same H1 H' → H' D = some (.lst zs) → zs.length = xs.length → Qd H') :
    ∃ W : Nat → Nat → Hp → Prop, (∃ m, W 0 m (upd H1 D (.lst []))) ∧ ∀ i m H, W i m H →
      (J.stop i H ∧ Qd H) ∨ (J.go i H ∧ ∃ Nx : Hp → Prop, (∀ H', Nx H' → ∃ m', m' < m ∧ W (i + 1) m' H') ∧ ∀ x H', J.yld i H x H' → gName j x (wipe σ [j]) H' fun σ2 H2 => wipe σ2 [j] = wipe σ [j] ∧ tYes σ2 H2 fun b H3 =>
        if b = true then te σ2 H3 fun y H4 => ∃ acc, H4 D = some (.lst acc) ∧ acc.length < sizeLine ∧ Nx (upd H4 D (.lst (acc ++ [y]))) else Nx H3) := by
  have turn : ∀ (i : Nat) (x : V) (H' : Hp), xs[i]? = some x → (Same H1 H' ∧ ∃ zs, H' D = some (.lst zs) ∧ zs.length = i) → gName j x (wipe σ [j]) H' fun σ2 H2 => wipe σ2 [j] = wipe σ [j] ∧ tYes σ2 H2 fun b H3 =>
      if b = true then te σ2 H3 fun y H4 => ∃ acc, H4 D = some (.lst acc) ∧ acc.length < sizeLine ∧ (fun H' => Same H1 H' ∧ ∃ zs, H' D = some (.lst zs) ∧ zs.length = i + 1) (upd H4 D (.lst (acc ++ [y]))) else (fun H' => Same H1 H' ∧ ∃ zs, H' D = some (.lst zs) ∧ zs.length = i + 1) H3 := by
    rintro i x H' hx ⟨s, zs, hD', hz⟩
    obtain ⟨y, hy, ha⟩ := RN.at_of hats.paired i x hx
    have hi : i < xs.length := (List.getElem?_eq_some_iff.mp hx).1
    refine ⟨wipe1, ?_⟩
    show te ((wipe σ [j]).set j (some x)) H' _
    refine step x y H' _ (ha.same s) (List.mem_of_getElem? hy) s fun z H4 s4 => ?_
    refine ⟨_, s4 _ _ hD', by omega, ?_, _, upd_same, by rw [List.length_append, hz]; rfl⟩
    intro b o e
    rw [upd_ne (ne_of_none e hD)]
    exact s4 _ _ (s _ _ e)
  have fin : ∀ H', (Same H1 H' ∧ ∃ zs, H' D = some (.lst zs) ∧ zs.length = xs.length) → Qd H' := fun H' ⟨s, zs, h1, h2⟩ => hd H' zs s h1 h2
  rcases hJ with ⟨rfl, q⟩ | ⟨rfl, q⟩
  · exact lc_list (K := K) (a := a) (xs := xs) (fun i H' => Same H1 H' ∧ ∃ zs, H' D = some (.lst zs) ∧ zs.length = i) ⟨same_new hD, [], upd_same, rfl⟩ (fun i H' _ ⟨s, _⟩ => s.seq q) turn fin
  · exact lc_tup (K := K) (a := a) (xs := xs) (fun i H' => Same H1 H' ∧ ∃ zs, H' D = some (.lst zs) ∧ zs.length = i) ⟨same_new hD, [], upd_same, rfl⟩ (fun i H' _ ⟨s, _⟩ => SqT.ext q s) turn fin
theorem tLc_any {a : Addr} {i j : Nat} {xs : List V} {ys : List T} {te : TE} {σ : L2.St} {H1 : Hp} {Q : VK} (hi : σ[i]? = some (some (.ref a))) (hats : Ats C H1 xs ys) (hs : ys.length < sizeLine) (hsq : SqL K H1 a xs ∨ SqT K H1 a xs)
    (step : ∀ (x : V) (y : T) (H' : Hp) (Q' : VK), At C H' x y → y ∈ ys → Same H1 H' → (∀ z H4, Same H' H4 → Q' z H4) → te ((wipe σ [j]).set j (some x)) H' Q')
    (hd : ∀ (H' : Hp) (D : Addr) zs, H1 D = none → Same H1 H' → H' D = some (.lst zs) → zs.length = xs.length → Q (.ref D) H') : tLc (fun σ H R => iList K (tVar i) σ H R ∨ iTup K (tVar i) σ H R) (gName j) tYes te [j] σ H1 Q := by
  have hs' : xs.length < sizeLine := by rw [hats.length]; exact hs
  rcases hsq with q | q
  · exact Or.inl ⟨_, hi, a, rfl, ⟨_, q⟩, fun D hD => lc_any hD hats hs' (.inl ⟨rfl, q⟩) step fun H' zs s h l => hd H' D zs hD s h l⟩
  · exact Or.inr ⟨_, hi, a, rfl, ⟨_, q⟩, fun D hD => lc_any hD hats hs' (.inr ⟨rfl, q⟩) step fun H' zs s h l => hd H' D zs hD s h l⟩
/-- a row, a table turned into fractions: something new, a list -/
structure SpRow (C : Addr) (g : T → Bool) (vs : List V) (H : Hp) (Q : VK) (E : XK) : Prop where
  ex : ∃ (v : V) (t : T), vs = [v] ∧ At C H v t ∧ t.wt ≤ sizeLine ∧ g t = true ∧ ∀ H' D, Same H H' → Q (.ref D) H'
def numsT (t : T) : Bool := t.isL && t.items.all T.isNum
def rowsT (t : T) : Bool := t.isL && t.items.all numsT
abbrev nRow : List Str := ["row", "number"]
theorem scRow : FnScope nRow ["row"] (defScope sAsRow) := ⟨rfl, rfl, rfl, by decide +kernel, rfl, by decide +kernel, by decide +kernel⟩
theorem ok_asRow {f fA : Addr} {fd fdA : FuncData} (F : Fun K "as_row" "as_row" sAsRow f fd) (GA : FnOk P w K mg base CX0 4 fA fdA ["number"] (SpAs C)) (mA : mg "as_ratio" = some (.ref fA)) (kA : PySem.W.keepIn K (.ref fA) = true) (bA : Binds K fdA ["number"] []) :
    FnOk P w K mg base CX0 5 f fd ["row"] (SpRow C numsT) := by
  refine F.ok scRow (fun vs H Q E h => ?_) (fun cdv A outer s H vs Q E hr h => ?_)
  · obtain ⟨v, t, rfl, _⟩ := h
    rfl
  · obtain ⟨v, t, rfl, hv, hw, hg, k⟩ := h
    obtain ⟨g1, g2⟩ := Bool.and_eq_true_iff.mp hg
    obtain ⟨a, xs, rfl, hats, hsq⟩ := hv.sq g1
    refine ⟨_, pss_one (ps_ret (pe_lc (own := [("number", 1)]) (g := gName 1) (tt := tYes) rfl scRow.nd (PI.or (pi_list (pv 0)) (pi_tup (pv 0))) (blkOk_by (own := [("number", 1)]) (N := nRow) (sc := defScope sAsRow) (by decide +kernel)) (fun _ _ _ _ _ => pg_name (i := 1) scRow.nd rfl (Or.inl rfl)) (fun _ _ _ _ _ => pts_nil)
      (fun _ _ _ _ _ => pe_call GA hr (by rfl) mA kA bA .nil pass0 (pa_cons (pv 1) pa_nil)))), ?_⟩
    refine tLc_any (i := 0) (j := 1) ?_ hats (small_items hw) hsq ?_ ?_
    · rfl
    · intro x y H' Q' hx hy s' kq
      show tCall (SpAs C) [] E0 (tCons (tVar 1) tNil) _ H' Q'
      exact ⟨_, rfl, ⟨x, y, rfl, hx, List.all_eq_true.mp g2 y hy, fun H2 z s2 => kq _ _ s2⟩⟩
    · intro H' D zs _ s' _ _
      exact k _ _ s'
abbrev nRows : List Str := ["rows", "row"]
theorem scRows : FnScope nRows ["rows"] (defScope sAsRows) := ⟨rfl, rfl, rfl, by decide +kernel, rfl, by decide +kernel, by decide +kernel⟩
theorem ok_asRows {f fA : Addr} {fd fdA : FuncData} (F : Fun K "as_rows" "as_rows" sAsRows f fd) (GA : FnOk P w K mg base CX0 5 fA fdA ["row"] (SpRow C numsT)) (mA : mg "as_row" = some (.ref fA)) (kA : PySem.W.keepIn K (.ref fA) = true) (bA : Binds K fdA ["row"] []) :
    FnOk P w K mg base CX0 6 f fd ["rows"] (SpRow C rowsT) := by
  refine F.ok scRows (fun vs H Q E h => ?_) (fun cdv A outer s H vs Q E hr h => ?_)
  · obtain ⟨v, t, rfl, _⟩ := h
    rfl
  · obtain ⟨v, t, rfl, hv, hw, hg, k⟩ := h
    obtain ⟨g1, g2⟩ := Bool.and_eq_true_iff.mp hg
    obtain ⟨a, xs, rfl, hats, hsq⟩ := hv.sq g1
    refine ⟨_, pss_one (ps_ret (pe_lc (own := [("row", 1)]) (g := gName 1) (tt := tYes) rfl scRows.nd (PI.or (pi_list (pv 0)) (pi_tup (pv 0))) (blkOk_by (own := [("row", 1)]) (N := nRows) (sc := defScope sAsRows) (by decide +kernel)) (fun _ _ _ _ _ => pg_name (i := 1) scRows.nd rfl (Or.inl rfl)) (fun _ _ _ _ _ => pts_nil)
      (fun _ _ _ _ _ => pe_call GA hr (by rfl) mA kA bA .nil pass0 (pa_cons (pv 1) pa_nil)))), ?_⟩
    refine tLc_any (i := 0) (j := 1) ?_ hats (small_items hw) hsq ?_ ?_
    · rfl
    · intro x y H' Q' hx hy s' kq
      show tCall (SpRow C numsT) [] E0 (tCons (tVar 1) tNil) _ H' Q'
      exact ⟨_, rfl, ⟨x, y, rfl, hx, item_wt hw hy, List.all_eq_true.mp g2 y hy, fun H2 z s2 => kq _ _ s2⟩⟩
    · intro H' D zs _ s' _ _
      exact k _ _ s'
end
end RQ

set_option Elab.async false
set_option linter.all false
set_option maxRecDepth 100000
set_option maxHeartbeats 4000000
/-! Teams; whether a value is helpers of one. -/
namespace RQ
open PySem L2
structure TCls (K : PySem.W.Frag) (mg : Str → Option Value) (CT : Addr) : Prop where
  cl : Cls K CT
  nT : NoAttr K CT "_tables"
  mg_ : mg "Team" = some (.ref CT)
  ha : PySem.W.findIn K (.ref CT) "__class__" = some (some (.builtin "object.__class__"))
  hm : PySem.W.mroIn K CT (.type "object") = some true
/-- a team of n tables -/
def TeamAt (CT : Addr) (H : Hp) (x : Addr) (n : Nat) : Prop := ∃ dx D zs, H x = some (.ins CT dx [("_tables", V.ref D)]) ∧ H D = some (.lst zs) ∧ zs.length = n
theorem TeamAt.same {CT : Addr} {H H' : Hp} {x : Addr} {n : Nat} (h : TeamAt CT H x n) (s : Same H H') : TeamAt CT H' x n := let ⟨dx, D, zs, a, b, c⟩ := h; ⟨dx, D, zs, s _ _ a, s _ _ b, c⟩
theorem rows_of {t : T} {m : Int} (h : t.areLists m m = true) : rowsT t = true := by
  unfold T.areLists at h
  simp only [Bool.and_eq_true, List.all_eq_true] at h
  obtain ⟨h1, _, h3, _⟩ := h
  refine Bool.and_eq_true_iff.mpr ⟨h1, List.all_eq_true.mpr fun y hy => ?_⟩
  have z := h3 y hy
  unfold T.isNums at z
  simp only [Bool.and_eq_true] at z
  exact Bool.and_eq_true_iff.mpr ⟨z.1, z.2.2⟩
theorem tabs_of {t : T} {lo hi m : Int} (h : t.areTables lo hi m = true) : t.isL = true ∧ ∀ y ∈ t.items, y.areLists m m = true := by
  unfold T.areTables at h
  simp only [Bool.and_eq_true, List.all_eq_true] at h
  exact ⟨h.1, h.2.2.1⟩
section
variable {P : Program} {w : World} {K : PySem.W.Frag} {mg : Str → Option Value} {base : Heap} {C CT : Addr}
theorem fld_any {a x : Addr} {i j : Nat} {xs : List V} {ys : List T} {te : TE} {σ : L2.St} {H1 : Hp} {D : Ends} {f : Str} (h0 : σ[0]? = some (some (.ref x))) (hi : σ[i]? = some (some (.ref a))) (hats : Ats C H1 xs ys) (hs : ys.length < sizeLine) (hsq : SqL K H1 a xs ∨ SqT K H1 a xs)
    (step : ∀ (x : V) (y : T) (H' : Hp) (Q' : VK), At C H' x y → y ∈ ys → Same H1 H' → (∀ z H4, Same H' H4 → Q' z H4) → te ((wipe σ [j]).set j (some x)) H' Q')
    (hd : ∀ (H' : Hp) (L : Addr) zs, H1 L = none → Same H1 H' → H' L = some (.lst zs) → zs.length = xs.length → ∃ B dx fs, H' x = some (.ins B dx fs) ∧ Cls K B ∧ NoAttr K B f ∧ fs.length < 1000 ∧ D.nx σ (upd H' x (.ins B dx (putF f (.ref L) fs)))) :
    sFld K (tVar 0) (tLc (fun σ H R => iList K (tVar i) σ H R ∨ iTup K (tVar i) σ H R) (gName j) tYes te [j]) f D σ H1 :=
  tLc_any (Q := fun y H2 => tVar 0 σ H2 fun z H3 => ∃ b B dx fs, z = .ref b ∧ H3 b = some (.ins B dx fs) ∧ Cls K B ∧ NoAttr K B f ∧ fs.length < 1000 ∧ D.nx σ (upd H3 b (.ins B dx (putF f y fs)))) hi hats hs hsq step fun H' L zs n s h l => by
    obtain ⟨B, dx, fs, e, q⟩ := hd H' L zs n s h l
    exact ⟨_, h0, x, B, dx, fs, rfl, e, q⟩
theorem fld_anyN {a x : Addr} {i j : Nat} {xs : List V} {ys : List T} {te : TE} {σ : L2.St} {H1 : Hp} {D : Ends} {f : Str} {rt : VK} {bk ct : L2.St → Hp → Prop} (h0 : σ[0]? = some (some (.ref x))) (hi : σ[i]? = some (some (.ref a))) (hats : Ats C H1 xs ys) (hs : ys.length < sizeLine) (hsq : SqL K H1 a xs ∨ SqT K H1 a xs)
    (step : ∀ (x : V) (y : T) (H' : Hp) (Q' : VK), At C H' x y → y ∈ ys → Same H1 H' → (∀ z H4, Same H' H4 → Q' z H4) → te ((wipe σ [j]).set j (some x)) H' Q')
    (hd : ∀ (H' : Hp) (L : Addr) zs, H1 L = none → Same H1 H' → H' L = some (.lst zs) → zs.length = xs.length → ∃ B dx fs, H' x = some (.ins B dx fs) ∧ Cls K B ∧ NoAttr K B f ∧ fs.length < 1000 ∧ D.nx σ (upd H' x (.ins B dx (putF f (.ref L) fs)))) :
    tNext { nx := sFld K (tVar 0) (tLc (fun σ H R => iList K (tVar i) σ H R ∨ iTup K (tVar i) σ H R) (gName j) tYes te [j]) f D, rt := rt, bk := bk, ct := ct } σ H1 :=
  fld_any h0 hi hats hs hsq step hd
structure SpTI (C CT : Addr) (vs : List V) (H : Hp) (Q : VK) (E : XK) : Prop where
  ex : ∃ (x dx : Addr) (v : V) (t : T), vs = [.ref x, v] ∧ At C H v t ∧ t.wt ≤ sizeLine ∧ t.areTables 1 16 4 = true ∧ H x = some (.ins CT dx []) ∧
    ∀ H' D zs, H D = none → Same H H' → H' D = some (.lst zs) → zs.length = t.len → Q .non (upd H' x (.ins CT dx [("_tables", .ref D)]))
abbrev nTI : List Str := ["self", "tables", "table"]
theorem scTI : FnScope nTI ["self", "tables"] (defScope sTeamInit) := ⟨rfl, rfl, rfl, by decide +kernel, rfl, by decide +kernel, by decide +kernel⟩
theorem ok_teamInit {f fA fR : Addr} {fd fdA fdR : FuncData} {k1 k2 : Tok} (F : Fun K "__init__" "Team.__init__" sTeamInit f fd) (R : TCls K mg CT) (m1 : mg "MOST_TABLES" = some (.int 16 k1)) (m2 : mg "MOST_PLACES" = some (.int 4 k2))
    (GA : FnOk P w K mg base CX0 5 fA fdA ["value", "low", "high", "most"] (SpTables C)) (mA : mg "are_tables" = some (.ref fA)) (kA : PySem.W.keepIn K (.ref fA) = true) (bA : Binds K fdA ["value", "low", "high", "most"] [])
    (GR : FnOk P w K mg base CX0 6 fR fdR ["rows"] (SpRow C rowsT)) (mR : mg "as_rows" = some (.ref fR)) (kR : PySem.W.keepIn K (.ref fR) = true) (bR : Binds K fdR ["rows"] []) : FnOk P w K mg base CX0 7 f fd ["self", "tables"] (SpTI C CT) := by
  refine F.ok scTI (fun vs H Q E h => ?_) (fun cdv A outer s H vs Q E hr h => ?_)
  · obtain ⟨x, dx, v, t, rfl, _⟩ := h
    rfl
  · obtain ⟨x, dx, v, t, rfl, hv, hw, hg, hx, k⟩ := h
    have r5 : Room 5 _ := hr.mono (by decide)
    refine ⟨_, PSs.nox (pss_cons (ps_if (pt_not (pt_val (pe_call GA r5 (by rfl) mA kA bA .nil pass0 (pa_cons (pv 1) (pa_cons pe_int (pa_cons (pe_glob (by rfl) m1 (v := .int 16) ⟨k1, rfl⟩) (pa_cons (pe_glob (by rfl) m2 (v := .int 4) ⟨k2, rfl⟩) pa_nil))))))) (pss_one ps_never) pss_nil)
      (pss_one (ps_fld (pv 0) (pe_lc (own := [("table", 2)]) (g := gName 2) (tt := tYes) rfl scTI.nd (PI.or (pi_list (pv 1)) (pi_tup (pv 1))) (blkOk_by (own := [("table", 2)]) (N := nTI) (sc := defScope sTeamInit) (by decide +kernel)) (fun _ _ _ _ _ => pg_name (i := 2) scTI.nd rfl (Or.inl rfl)) (fun _ _ _ _ _ => pts_nil)
        (fun _ _ _ _ _ => pe_call GR hr (by rfl) mR kR bR .nil pass0 (pa_cons (pv 2) pa_nil))) rfl))), ?_⟩
    refine ⟨_, rfl, ⟨v, t, 1, 16, 4, rfl, hv, hw, by decide, fun H1 s1 => ⟨_, rfl, ?_⟩⟩⟩
    rw [hg]
    obtain ⟨tL, tR⟩ := tabs_of hg
    obtain ⟨a, xs, rfl, hats, hsq⟩ := (hv.same s1).sq tL
    refine iteF ?_
    first
      | refine fld_any (i := 1) (j := 2) (x := x) ?_ ?_ hats (small_items hw) hsq ?_ ?_
      | refine fld_anyN (i := 1) (j := 2) (x := x) ?_ ?_ hats (small_items hw) hsq ?_ ?_
    · rfl
    · rfl
    · intro x' y H' Q' hx' hy s' kq
      show tCall (SpRow C rowsT) [] E0 (tCons (tVar 2) tNil) _ H' Q'
      exact ⟨_, rfl, ⟨x', y, rfl, hx', item_wt hw hy, rows_of (tR y hy), fun H2 z s2 => kq _ _ s2⟩⟩
    intro H' D zs nD s' hD hl
    exact ⟨CT, dx, [], (s1.trans s') _ _ hx, R.cl, R.nT, (by show 0 < 1000; decide), k _ _ _ (s1.free nD) (s1.trans s') hD (hl.trans hats.length)⟩
end
end RQ

set_option Elab.async false
set_option linter.all false
set_option maxRecDepth 100000
set_option maxHeartbeats 4000000
/-! Helpers of a team, their sides. -/
namespace RQ
open PySem L2
section
variable {P : Program} {w : World} {K : PySem.W.Frag} {mg : Str → Option Value} {base : Heap} {C CT : Addr}
structure SpMany (CT : Addr) (vs : List V) (H : Hp) (Q : VK) (E : XK) : Prop where
  ex : ∃ (x : Addr) (n : Nat), vs = [.ref x] ∧ TeamAt CT H x n ∧ Q (.int n) H
theorem scMany : FnScope ["self"] ["self"] (defScope sMany) := ⟨rfl, rfl, rfl, by decide +kernel, rfl, by decide +kernel, by decide +kernel⟩
theorem ok_many {f : Addr} {fd : FuncData} (F : Fun K "many" "Team.many" sMany f fd) (B : Blt mg) (R : TCls K mg CT) : FnOk P w K mg base CX0 1 f fd ["self"] (SpMany CT) := by
  refine F.ok scMany (fun vs H Q E h => ?_) (fun cdv A outer s H vs Q E hr h => ?_)
  · obtain ⟨x, n, rfl, _⟩ := h
    rfl
  · obtain ⟨x, n, rfl, ⟨dx, D, zs, hx, hD, rfl⟩, k⟩ := h
    refine ⟨_, pss_one (ps_ret (pe_callB call_len_seq (by rfl) B.len PySem.boot_len (pa_cons (pe_fld (pv 0) rfl) pa_nil))), ?_⟩
    exact ⟨_, rfl, x, CT, dx, _, _, rfl, hx, R.cl, R.nT, rfl, D, zs, rfl, .inl (SqL.of hD), k⟩
structure SpWant (CT : Addr) (vs : List V) (H : Hp) (Q : VK) (E : XK) : Prop where
  ex : ∃ (x : Addr) (n : Nat), vs = [.ref x] ∧ TeamAt CT H x n ∧ Q .non H
theorem scWant : FnScope ["team"] ["team"] (defScope sWantTeam) := ⟨rfl, rfl, rfl, by decide +kernel, rfl, by decide +kernel, by decide +kernel⟩
theorem ok_wantTeam {f : Addr} {fd : FuncData} (F : Fun K "want_team" "want_team" sWantTeam f fd) (B : Blt mg) (RR : RCls K mg C) (R : TCls K mg CT) (kT : PySem.W.kitOne K (.ref CT) (.ref CT) = some true) : FnOk P w K mg base CX0 1 f fd ["team"] (SpWant CT) := by
  refine F.ok scWant (fun vs H Q E h => ?_) (fun cdv A outer s H vs Q E hr h => ?_)
  · obtain ⟨x, n, rfl, _⟩ := h
    rfl
  · obtain ⟨x, n, rfl, ⟨dx, D, zs, hx, hD, rfl⟩, k⟩ := h
    refine ⟨_, PSs.nox (pss_one (ps_if (pt_not (pt_val (pe_callB call_isi (by rfl) B.isi PyProof.Rows.boot_isinstance (pa_cons (pv 0) (pa_cons (pe_glob (by rfl) R.mg_ (v := .ref CT) rfl) pa_nil))))) (pss_one ps_never) pss_nil)), ?_⟩
    exact ⟨_, rfl, _, .ref CT, _, _, true, rfl, .own CT, .base (.ins hx R.cl R.ha RR.hn RR.htk R.hm), kT, true, rfl, iteF k⟩
structure SpIsH (C CT : Addr) (vs : List V) (H : Hp) (Q : VK) (E : XK) : Prop where
  ex : ∃ (x : Addr) (n : Nat) (v : V) (t : T), vs = [.ref x, v] ∧ TeamAt CT H x n ∧ 1 ≤ n ∧ At C H v t ∧ t.wt ≤ sizeLine ∧ ∀ H', Same H H' → Q (.bl (t.areTables n n 24)) H'
theorem scIsH : FnScope ["team", "value"] ["team", "value"] (defScope sIsHelpers) := ⟨rfl, rfl, rfl, by decide +kernel, rfl, by decide +kernel, by decide +kernel⟩
/-- what is_helpers rests on -/
structure Hlp (P : Program) (w : World) (K : PySem.W.Frag) (mg : Str → Option Value) (base : Heap) (C CT : Addr) where
  B : Blt mg
  R : TCls K mg CT
  ks : Tok
  mS : mg "MOST_SIDE" = some (.int 24 ks)
  fW : Addr
  fdW : FuncData
  GW : FnOk P w K mg base CX0 1 fW fdW ["team"] (SpWant CT)
  mW : mg "want_team" = some (.ref fW)
  kW : PySem.W.keepIn K (.ref fW) = true
  bW : Binds K fdW ["team"] []
  pM : Addr
  fM : Addr
  fdM : FuncData
  GM : FnOk P w K mg base CX0 1 fM fdM ["self"] (SpMany CT)
  hM : PropOf K CT "many" pM fM
  bM : Binds K fdM ["self"] []
  fA : Addr
  fdA : FuncData
  GA : FnOk P w K mg base CX0 5 fA fdA ["value", "low", "high", "most"] (SpTables C)
  mA : mg "are_tables" = some (.ref fA)
  kA : PySem.W.keepIn K (.ref fA) = true
  bA : Binds K fdA ["value", "low", "high", "most"] []
theorem ok_isHelpers {f : Addr} {fd : FuncData} (F : Fun K "is_helpers" "is_helpers" sIsHelpers f fd) (L : Hlp P w K mg base C CT) : FnOk P w K mg base CX0 6 f fd ["team", "value"] (SpIsH C CT) := by
  refine F.ok scIsH (fun vs H Q E h => ?_) (fun cdv A outer s H vs Q E hr h => ?_)
  · obtain ⟨x, n, v, t, rfl, _⟩ := h
    rfl
  · obtain ⟨x, n, v, t, rfl, hx, hn, hv, hw, k⟩ := h
    have r1 : Room 1 _ := hr.mono (by decide)
    have r2 : Room 2 _ := hr.mono (by decide)
    refine ⟨_, pss_cons (ps_expr (pe_call L.GW r1 (by rfl) L.mW L.kW L.bW .nil pass0 (pa_cons (pv 0) pa_nil))) (pss_one (ps_ret (pe_call L.GA hr (by rfl) L.mA L.kA L.bA .nil pass0 (pa_cons (pv 1) (pa_cons (pe_prop (pv 0) L.R.cl L.hM L.GM r2 L.bM .nil pass0 rfl) (pa_cons (pe_prop (pv 0) L.R.cl L.hM L.GM r2 L.bM .nil pass0 rfl) (pa_cons (pe_glob (by rfl) L.mS (v := .int 24) ⟨L.ks, rfl⟩) pa_nil))))))), ?_⟩
    obtain ⟨dx, D, zs, e1, e2, e3⟩ := id hx
    refine ⟨_, rfl, ⟨x, n, rfl, hx, ?_⟩⟩
    refine ⟨_, rfl, _, rfl, x, dx, _, rfl, e1, ⟨x, n, rfl, hx, ?_⟩⟩
    refine ⟨_, rfl, x, dx, _, rfl, e1, ⟨x, n, rfl, hx, ?_⟩⟩
    exact ⟨v, t, n, n, 24, rfl, hv, hw, by omega, k⟩
/-- what is_helpers lets, want_helpers lets -/
structure SpWH (C CT : Addr) (vs : List V) (H : Hp) (Q : VK) (E : XK) : Prop where
  ex : ∃ (x : Addr) (n : Nat) (v : V) (t : T), vs = [.ref x, v] ∧ TeamAt CT H x n ∧ 1 ≤ n ∧ At C H v t ∧ t.wt ≤ sizeLine ∧ t.areTables n n 24 = true ∧ ∀ H', Same H H' → Q .non H'
theorem scWH : FnScope ["team", "helpers"] ["team", "helpers"] (defScope sWantHelpers) := ⟨rfl, rfl, rfl, by decide +kernel, rfl, by decide +kernel, by decide +kernel⟩
theorem ok_wantHelpers {f fI : Addr} {fd fdI : FuncData} (F : Fun K "want_helpers" "want_helpers" sWantHelpers f fd) (GI : FnOk P w K mg base CX0 6 fI fdI ["team", "value"] (SpIsH C CT)) (mI : mg "is_helpers" = some (.ref fI)) (kI : PySem.W.keepIn K (.ref fI) = true) (bI : Binds K fdI ["team", "value"] []) :
    FnOk P w K mg base CX0 7 f fd ["team", "helpers"] (SpWH C CT) := by
  refine F.ok scWH (fun vs H Q E h => ?_) (fun cdv A outer s H vs Q E hr h => ?_)
  · obtain ⟨x, n, v, t, rfl, _⟩ := h
    rfl
  · obtain ⟨x, n, v, t, rfl, hx, hn, hv, hw, hg, k⟩ := h
    refine ⟨_, PSs.nox (pss_one (ps_if (pt_not (pt_val (pe_call GI hr (by rfl) mI kI bI .nil pass0 (pa_cons (pv 0) (pa_cons (pv 1) pa_nil))))) (pss_one ps_never) pss_nil)), ?_⟩
    refine ⟨_, rfl, _, rfl, ⟨x, n, v, t, rfl, hx, hn, hv, hw, fun H1 s1 => ⟨_, rfl, ?_⟩⟩⟩
    rw [hg]
    exact iteF (k _ s1)
structure SpSides (C CT : Addr) (vs : List V) (H : Hp) (Q : VK) (E : XK) : Prop where
  ex : ∃ (x : Addr) (n : Nat) (v : V) (t : T), vs = [.ref x, v] ∧ TeamAt CT H x n ∧ 1 ≤ n ∧ At C H v t ∧ t.wt ≤ sizeLine ∧ t.areTables n n 24 = true ∧ ∀ H' u, Same H H' → H' u = some (.tup [.int (t.hd.len : Nat), .int (t.hd.hd.len : Nat)]) → Q (.ref u) H'
theorem scSides : FnScope ["team", "helpers"] ["team", "helpers"] (defScope sSides) := ⟨rfl, rfl, rfl, by decide +kernel, rfl, by decide +kernel, by decide +kernel⟩
theorem ok_sides {f fW : Addr} {fd fdW : FuncData} (F : Fun K "sides" "sides" sSides f fd) (B : Blt mg) (GW : FnOk P w K mg base CX0 7 fW fdW ["team", "helpers"] (SpWH C CT)) (mW : mg "want_helpers" = some (.ref fW)) (kW : PySem.W.keepIn K (.ref fW) = true) (bW : Binds K fdW ["team", "helpers"] []) :
    FnOk P w K mg base CX0 8 f fd ["team", "helpers"] (SpSides C CT) := by
  refine F.ok scSides (fun vs H Q E h => ?_) (fun cdv A outer s H vs Q E hr h => ?_)
  · obtain ⟨x, n, v, t, rfl, _⟩ := h
    rfl
  · obtain ⟨x, n, v, t, rfl, hx, hn, hv, hw, hg, k⟩ := h
    refine ⟨_, pss_cons (ps_expr (pe_call GW hr (by rfl) mW kW bW .nil pass0 (pa_cons (pv 0) (pa_cons (pv 1) pa_nil)))) (pss_one (ps_ret (pe_tup (pa_cons (pe_callB (r := rLn K) call_len_seq (by rfl) B.len PySem.boot_len (pa_cons (PE.or (pe_ix (r := rIxL K) ix_list (pv 1) pe_int (fun _ _ => rfl)) (pe_ix (r := rIxT K) ix_tup (pv 1) pe_int (fun _ _ => rfl))) pa_nil))
      (pa_cons (pe_callB (r := rLn K) call_len_seq (by rfl) B.len PySem.boot_len (pa_cons (PE.or (pe_ix (r := rIxL K) ix_list (PE.or (pe_ix (r := rIxL K) ix_list (pv 1) pe_int (fun _ _ => rfl)) (pe_ix (r := rIxT K) ix_tup (pv 1) pe_int (fun _ _ => rfl))) pe_int (fun _ _ => rfl)) (pe_ix (r := rIxT K) ix_tup (PE.or (pe_ix (r := rIxL K) ix_list (pv 1) pe_int (fun _ _ => rfl)) (pe_ix (r := rIxT K) ix_tup (pv 1) pe_int (fun _ _ => rfl))) pe_int (fun _ _ => rfl))) pa_nil)) pa_nil))))), ?_⟩
    refine ⟨_, rfl, _, rfl, ⟨x, n, v, t, rfl, hx, hn, hv, hw, hg, fun H1 s1 => ?_⟩⟩
    obtain ⟨tL, tR⟩ := tabs_of hg
    obtain ⟨a, xs, rfl, hats, hsq⟩ := (hv.same s1).sq tL
    have hlen : 1 ≤ xs.length := by
      rw [hats.length]
      unfold T.areTables at hg
      simp only [Bool.and_eq_true, decide_eq_true_eq] at hg
      have e : t.len = t.items.length := rfl
      omega
    obtain ⟨x0, xr, rfl, h0, m0⟩ := first_of hats hlen
    obtain ⟨yL, yn, yr⟩ := isl_of (tR _ m0)
    obtain ⟨b0, z0, rfl, hz0, hq0⟩ := h0.sq yL
    obtain ⟨u0, ur', rfl, hu0, mu0⟩ := first_of hz0 (by rw [hz0.length]; exact yn)
    obtain ⟨d, ds, rfl, hds, hqd⟩ := hu0.sq (yr _ mu0)
    refine ix0g (te := tVar 1) (fun Q' q => ⟨_, rfl, q⟩) hsq ⟨b0, _, rfl, hq0, ?_⟩
    refine ix0g (te := tIx0 K (tVar 1)) (fun Q' q => ix0g (te := tVar 1) (fun Q' q => ⟨_, rfl, q⟩) hsq q) hq0 ⟨d, _, rfl, hqd, ?_⟩
    rw [hz0.length, hds.length]
    exact ⟨by show 2 ≤ sizeLine; decide, fun u hu => k _ u (s1.trans (same_new hu)) upd_same⟩
end
end RQ

set_option Elab.async false
set_option linter.all false
set_option maxRecDepth 100000
set_option maxHeartbeats 4000000
/-! The law's pot, what is drawn from it. -/
namespace RQ
open PySem L2
theorem two_line : 2 ≤ sizeLine := by decide
/-! ### the pot that is drawn from -/
def PotAt (H : Hp) (pot : Addr) : Prop := ∃ a b : Int, H pot = some (.lst [.int a, .int b]) ∧ 0 ≤ a ∧ 0 ≤ b ∧ b < 4294967296
/-- all but the pot is kept -/
def Keep (pot : Addr) (H H' : Hp) : Prop := ∀ b o, b ≠ pot → H b = some o → H' b = some o
theorem Keep.refl (pot : Addr) (H : Hp) : Keep pot H H := fun _ _ _ h => h
theorem Keep.trans {pot : Addr} {H H1 H2 : Hp} (a : Keep pot H H1) (b : Keep pot H1 H2) : Keep pot H H2 := fun c o n h => b c o n (a c o n h)
theorem Keep.of {pot : Addr} {H H' : Hp} (s : Same H H') : Keep pot H H' := fun b o _ h => s b o h
theorem Keep.set {pot : Addr} {H : Hp} {o : HO} : Keep pot H (upd H pot o) := fun b u n h => by rw [upd_ne n]; exact h
theorem PotAt.same {H H' : Hp} {pot : Addr} (h : PotAt H pot) (s : Same H H') : PotAt H' pot := let ⟨a, b, e, r⟩ := h; ⟨a, b, s _ _ e, r⟩
section
variable {P : Program} {w : World} {K : PySem.W.Frag} {mg : Str → Option Value} {base : Heap} {C : Addr}
/-! ### the pot -/
structure SpPot (K : PySem.W.Frag) (vs : List V) (H : Hp) (Q : VK) (E : XK) : Prop where
  ex : ∃ (a : Addr) (ns : List Int), vs = [.ref a, .int 0] ∧ SqL K H a (ns.map V.int) ∧ ∀ (H' : Hp) (pot : Addr), PotAt H' pot → Q (.ref pot) H'
theorem scPot : FnScope ["_law_script", "_law_k", "_law_cell"] ["_law_script", "_law_k"] (defScope lPot) := ⟨rfl, rfl, rfl, by decide +kernel, rfl, by decide +kernel, by decide +kernel⟩
theorem ok_pot {f : Addr} {fd : FuncData} (F : Fun K "_law_pot" "_law_pot" lPot f fd) (B : Blt mg) : FnOk P w K mg base CX0 1 f fd ["_law_script", "_law_k"] (SpPot K) := by
  refine F.ok scPot (fun vs H Q E h => ?_) (fun cdv A outer s H vs Q E hr h => ?_)
  · obtain ⟨a, ns, rfl, _⟩ := h
    rfl
  · obtain ⟨a, ns, rfl, ha, k⟩ := h
    refine ⟨_, pss_cons (ps_set (i := 2) scPot.nd rfl (Or.inl rfl) (pe_op op_add (pe_op op_add (pe_op op_mul pe_int (pv 1)) pe_int) (pe_op op_mod (pe_callB (cr_sum rfl) (by rfl) B.sum PyProof.Rows.boot_sum (pa_cons (pe_slice sl_list (pv 0) po_none (po_some pe_int)) pa_nil)) pe_int)))
      (pss_cons (ps_if (pt_cmpR op_lt (pv 1) (pe_callB call_len_seq (by rfl) B.len PySem.boot_len (pa_cons (pv 0) pa_nil)) (nomark _))
        (pss_one (ps_set (i := 2) scPot.nd rfl (Or.inl rfl) (pe_callB call_abs (by rfl) B.abs (by decide +kernel) (pa_cons (pe_ix ix_list (pv 0) (pv 1) (fun _ _ => rfl)) pa_nil)))) pss_nil)
      (pss_one (ps_ret (pe_lst (pa_cons (pe_callB (call_max2 rfl) (by rfl) B.max PyProof.Rows.boot_max (pa_cons pe_int (pa_cons (pe_op op_sub (pv 2) (pe_op op_pow pe_int pe_int)) pa_nil)))
        (pa_cons (pe_op op_add (pe_op op_mod (pe_op op_mul (pe_callTy call_int1 (by rfl) B.int PyProof.Rows.boot_int (pa_cons (pe_op op_add (pe_op op_mod (pe_callTy call_int1 (by rfl) B.int PyProof.Rows.boot_int (pa_cons (pv 2) pa_nil)) pe_int) pe_int) pa_nil)) (pe_op op_pow (pe_op op_add (pe_op op_mul pe_int (pv 1)) pe_int) pe_int)) pe_int) pe_int) pa_nil)))))), ?_⟩
    have c0 : CPow 10 18 := ⟨by decide, by decide, by decide⟩
    have c1 : CPow (2 * 0 + 7) 3 := ⟨by decide, by decide, by decide⟩
    have fin : ∀ (H : Hp) (x : Int), (∀ p, H p = none → Q (.ref p) (upd H p (.lst [.int (if x - 10 ^ 18 > 0 then x - 10 ^ 18 else 0), .int ((x % 2147483549 + 16487) * (2 * 0 + 7) ^ 3 % 2147483477 + 1)]))) := fun H x p hp => by
      refine k _ p ⟨_, _, upd_same, ?_, ?_, ?_⟩
      · split <;> omega
      · have := Int.emod_nonneg ((x % 2147483549 + 16487) * (2 * 0 + 7) ^ 3) (show (2147483477 : Int) ≠ 0 by decide)
        omega
      · have := Int.emod_lt_of_pos ((x % 2147483549 + 16487) * (2 * 0 + 7) ^ 3) (show (0 : Int) < 2147483477 by decide)
        omega
    -- what is told of the cell x
    have c2 : CMul (2 : Int) 0 := .inl ⟨by decide, by decide⟩
    have c3 : CMul (227 : Int) 0 := .inl ⟨by decide, by decide⟩
    have c4 : ∀ y : Int, CMul y ((2 * 0 + 7) ^ (3 : Int).toNat) := fun y => .inr ⟨by decide, by decide⟩
    refine ⟨_, rfl, _, _, rfl, rfl, c3, _, _, rfl, rfl, ?_⟩
    refine ⟨_, rfl, ⟨1, rfl, a, _, rfl, ha, fun sl nsl => ?_⟩⟩
    have ec : cutV (ns.map V.int) none (some 1) = ((ns.drop (HT.sIx (ns.map V.int).length 0 none)).take (HT.sIx (ns.map V.int).length (ns.map V.int).length (some 1) - HT.sIx (ns.map V.int).length 0 none)).map V.int := by
      unfold cutV
      rw [← List.map_drop, ← List.map_take]
    rw [ec]
    have ss := same_new (o := .lst (((ns.drop (HT.sIx (ns.map V.int).length 0 none)).take (HT.sIx (ns.map V.int).length (ns.map V.int).length (some 1) - HT.sIx (ns.map V.int).length 0 none)).map V.int)) nsl
    have ha := ss.seq ha
    generalize ((ns.drop (HT.sIx (ns.map V.int).length 0 none)).take (HT.sIx (ns.map V.int).length (ns.map V.int).length (some 1) - HT.sIx (ns.map V.int).length 0 none)) = cut at ss ha ⊢
    refine ⟨sl, cut, rfl, SqL.of upd_same, _, _, rfl, rfl, (by show (0 : Int) < 1000003; decide), _, _, rfl, rfl, ?_⟩
    generalize upd H sl (.lst (cut.map V.int)) = H0 at ss ha ⊢
    refine ⟨_, rfl, _, rfl, a, _, rfl, .inl ha, _, _, rfl, rfl, _, rfl, ite2 (fun e => ?_) (fun e => ?_)⟩
    · have hl : 0 < ns.length := by
        have e' := of_decide_eq_true e
        rw [List.length_map] at e'
        omega
      obtain ⟨n, ns', rfl⟩ : ∃ n ns', ns = n :: ns' := by
        cases ns with
        | nil => cases hl
        | cons n ns' => exact ⟨n, ns', rfl⟩
      refine ⟨_, rfl, _, rfl, a, _, _, _, rfl, rfl, ha, atI_nat (j := 0) rfl, _, rfl, ?_⟩
      refine ⟨_, rfl, _, _, rfl, rfl, c0, _, _, rfl, rfl, _, _, rfl, ?_⟩
      refine ⟨_, rfl, .inl ⟨_, rfl, _, _, rfl, rfl, (by show (0 : Int) < 2147483549; decide), _, _, rfl, rfl, .inl ⟨_, rfl, ?_⟩⟩⟩
      refine ⟨_, rfl, _, _, rfl, rfl, c2, _, _, rfl, rfl, _, _, rfl, rfl, c1, _, _, rfl, rfl, c4 _, ?_⟩
      exact ⟨_, _, rfl, rfl, (by show (0 : Int) < 2147483477; decide), _, _, rfl, rfl, two_line, fin _ _⟩
    · skip
      refine ⟨_, rfl, _, _, rfl, rfl, c0, _, _, rfl, rfl, _, _, rfl, ?_⟩
      refine ⟨_, rfl, .inl ⟨_, rfl, _, _, rfl, rfl, (by show (0 : Int) < 2147483549; decide), _, _, rfl, rfl, .inl ⟨_, rfl, ?_⟩⟩⟩
      refine ⟨_, rfl, _, _, rfl, rfl, c2, _, _, rfl, rfl, _, _, rfl, rfl, c1, _, _, rfl, rfl, c4 _, ?_⟩
      exact ⟨_, _, rfl, rfl, (by show (0 : Int) < 2147483477; decide), _, _, rfl, rfl, two_line, fin _ _⟩
/-! ### draws -/
structure SpDraw (vs : List V) (H : Hp) (Q : VK) (E : XK) : Prop where
  ex : ∃ (pot : Addr) (n : Int), vs = [.ref pot, .int n] ∧ 1 ≤ n ∧ n ≤ 1000 ∧ PotAt H pot ∧ ∀ (H' : Hp) (d : Int), Keep pot H H' → PotAt H' pot → 0 ≤ d → d < n → Q (.int d) H'
abbrev nDraw : List Str := ["_law_pot_here", "_law_many", "_law_digit"]
theorem scDraw : FnScope nDraw ["_law_pot_here", "_law_many"] (defScope lDraw) := ⟨rfl, rfl, rfl, by decide +kernel, rfl, by decide +kernel, by decide +kernel⟩
theorem ok_draw {f : Addr} {fd : FuncData} (F : Fun K "_law_draw" "_law_draw" lDraw f fd) (B : Blt mg) : FnOk P w K mg base CX0 1 f fd ["_law_pot_here", "_law_many"] SpDraw := by
  refine F.ok scDraw (fun vs H Q E h => ?_) (fun cdv A outer s H vs Q E hr h => ?_)
  · obtain ⟨pot, n, rfl, _⟩ := h
    rfl
  · obtain ⟨pot, n, rfl, n1, n2, ⟨a, b, hp, a0, b0, b1⟩, k⟩ := h
    refine ⟨_, pss_cons (ps_if (pt_cmpR op_gt (pe_ix ix_list (pv 0) pe_int (fun _ _ => rfl)) pe_int (nomark _))
        (pss_cons (ps_asg (pe_callB call_divmod (by rfl) B.divmod PyProof.Rows.boot_divmod (pa_cons (pe_ix ix_list (pv 0) pe_int (fun _ _ => rfl)) (pa_cons (pv 1) pa_nil)))
          (pg_tup rfl (pgs_cons (pg_sub (pv 0) pe_int set_list) (pgs_cons (pg_name (i := 2) scDraw.nd rfl (Or.inl rfl)) pgs_nil))))
        (pss_one (ps_ret (pv 2)))) pss_nil)
      (pss_cons (ps_asg (pe_op op_mod (pe_callTy call_int1 (by rfl) B.int PyProof.Rows.boot_int (pa_cons (pe_op op_add (pe_op op_mul (pe_ix ix_list (pv 0) pe_int (fun _ _ => rfl)) pe_int) pe_int) pa_nil)) pe_int) (pg_sub (pv 0) pe_int set_list))
      (pss_one (ps_ret (pe_op op_mod (pe_callTy call_int1 (by rfl) B.int PyProof.Rows.boot_int (pa_cons (pe_op op_fdiv (pe_op op_mod (pe_callTy call_int1 (by rfl) B.int PyProof.Rows.boot_int (pa_cons (pe_op op_mul (pe_ix ix_list (pv 0) pe_int (fun _ _ => rfl)) (pe_ix ix_list (pv 0) pe_int (fun _ _ => rfl))) pa_nil)) pe_int) pe_int) pa_nil)) (pv 1))))), ?_⟩
    have at0 : ∀ x y : Int, atI [V.int x, V.int y] ((0 : Nat) : Int) = some (.int x) := fun x y => atI_nat rfl
    have at1 : ∀ x y : Int, atI [V.int x, V.int y] ((1 : Nat) : Int) = some (.int y) := fun x y => atI_nat rfl
    refine ⟨_, rfl, pot, _, _, _, rfl, rfl, SqL.of hp, at0 _ _, _, _, rfl, rfl, _, rfl, ite2 (fun e => ?_) (fun e => ?_)⟩
    · have hd : CDiv a n := ⟨by omega, by omega⟩
      refine ⟨_, rfl, pot, _, _, _, rfl, rfl, SqL.of hp, at0 _ _, _, rfl, a, n, rfl, hd, fun t ht => ?_⟩
      have npt : pot ≠ t := ne_of_none hp ht
      have hp2 : upd H t (.tup [.int (a / n), .int (a % n)]) pot = some (.lst [.int a, .int b]) := by rw [upd_ne npt]; exact hp
      refine ⟨t, _, rfl, SqT.of upd_same, rfl, _, _, rfl, ?_⟩
      refine ⟨_, rfl, pot, _, 0, 0, rfl, rfl, hp2, rfl, ?_⟩
      refine ⟨_, _, rfl, rfl, _, rfl, ?_⟩
      refine k _ (a % n) ?_ ⟨a / n, b, upd_same, Int.ediv_nonneg a0 (by omega), b0, b1⟩ (Int.emod_nonneg _ (by omega)) (Int.emod_lt_of_pos _ (by omega))
      exact (Keep.of (same_new ht)).trans Keep.set
    · have m1 : CMul b 48271 := .inl ⟨by omega, by omega⟩
      refine ⟨_, rfl, pot, _, _, _, rfl, rfl, SqL.of hp, at1 _ _, _, _, rfl, rfl, m1, _, _, rfl, rfl, .inl ⟨_, rfl, _, _, rfl, rfl, (by show (0 : Int) < 2147483587; decide), ?_⟩⟩
      refine ⟨_, rfl, pot, _, 1, 1, rfl, rfl, hp, rfl, ?_⟩
      have c0 : 0 ≤ (b * 48271 + 16487) % 2147483587 := Int.emod_nonneg _ (by decide)
      have c1 : (b * 48271 + 16487) % 2147483587 < 2147483587 := Int.emod_lt_of_pos _ (by decide)
      have m2 : CMul ((b * 48271 + 16487) % 2147483587) ((b * 48271 + 16487) % 2147483587) := .inl ⟨by omega, by omega⟩
      have hp2 : upd H pot (.lst [.int a, .int ((b * 48271 + 16487) % 2147483587)]) pot = some (.lst [.int a, .int ((b * 48271 + 16487) % 2147483587)]) := upd_same
      refine ⟨_, rfl, pot, _, _, _, rfl, rfl, SqL.of hp2, at1 _ _, _, rfl, pot, _, _, _, rfl, rfl, SqL.of hp2, at1 _ _, _, _, rfl, rfl, m2, .inl ⟨_, rfl, ?_⟩⟩
      refine ⟨_, _, rfl, rfl, (by show (0 : Int) < 2147483549; decide), _, _, rfl, rfl, ⟨by decide, by decide⟩, .inl ⟨_, rfl, ?_⟩⟩
      refine ⟨_, rfl, _, _, rfl, rfl, (by show (0 : Int) < n; omega), ?_⟩
      exact k _ _ Keep.set ⟨a, _, hp2, a0, c0, by omega⟩ (Int.emod_nonneg _ (by omega)) (Int.emod_lt_of_pos _ (by omega))
end
end RQ

set_option Elab.async false
set_option linter.all false
set_option maxRecDepth 100000
set_option maxHeartbeats 4000000
/-! Values beside the pot; expressions that make such values. -/
namespace RQ
open PySem L2
mutual
/-- v stands for t, and nothing of it is the pot -/
inductive Av (C pot : Addr) (H : Hp) : V → T → Prop
  | non : Av C pot H .non .non
  | bl (b : Bool) : Av C pot H (.bl b) (.bl b)
  | int (i : Int) : Av C pot H (.int i) (.int i)
  | str (s : Str) : Av C pot H (.str s) (.str s)
  | dct {a : Addr} : a ≠ pot → H a = some (.dK []) → Av C pot H (.ref a) .dct
  | rat {a : Addr} {p : Int × Int} : a ≠ pot → RAt C H a p → Av C pot H (.ref a) (.rat p)
  | lst {a : Addr} {xs : List V} {ts : List T} : a ≠ pot → H a = some (.lst xs) → Avs C pot H xs ts → Av C pot H (.ref a) (.lst ts)
  | tup {a : Addr} {xs : List V} {ts : List T} : a ≠ pot → H a = some (.tup xs) → Avs C pot H xs ts → Av C pot H (.ref a) (.tup ts)
inductive Avs (C pot : Addr) (H : Hp) : List V → List T → Prop
  | nil : Avs C pot H [] []
  | cons {v : V} {t : T} {vs : List V} {ts : List T} : Av C pot H v t → Avs C pot H vs ts → Avs C pot H (v :: vs) (t :: ts)
end
section
variable {C pot : Addr}
mutual
theorem Av.keep {H H' : Hp} (s : Keep pot H H') : ∀ {v : V} {t : T}, Av C pot H v t → Av C pot H' v t
  | _, _, .non => .non
  | _, _, .bl b => .bl b
  | _, _, .int i => .int i
  | _, _, .str x => .str x
  | _, _, .dct n e => .dct n (s _ _ n e)
  | _, _, .rat n ⟨dx, e⟩ => .rat n ⟨dx, s _ _ n e⟩
  | _, _, .lst n e h => .lst n (s _ _ n e) (Avs.keep s h)
  | _, _, .tup n e h => .tup n (s _ _ n e) (Avs.keep s h)
theorem Avs.keep {H H' : Hp} (s : Keep pot H H') : ∀ {vs : List V} {ts : List T}, Avs C pot H vs ts → Avs C pot H' vs ts
  | _, _, .nil => .nil
  | _, _, .cons h r => .cons (Av.keep s h) (Avs.keep s r)
end
mutual
theorem Av.at {H : Hp} : ∀ {v : V} {t : T}, Av C pot H v t → At C H v t
  | _, _, .non => .non
  | _, _, .bl b => .bl b
  | _, _, .int i => .int i
  | _, _, .str x => .str x
  | _, _, .dct n e => .dct e
  | _, _, .rat n r => .rat r
  | _, _, .lst n e h => .lst e (Avs.at h)
  | _, _, .tup n e h => .tup e (Avs.at h)
theorem Avs.at {H : Hp} : ∀ {vs : List V} {ts : List T}, Avs C pot H vs ts → Ats C H vs ts
  | _, _, .nil => .nil
  | _, _, .cons h r => .cons (Av.at h) (Avs.at r)
end
theorem Av.same {H H' : Hp} {v : V} {t : T} (h : Av C pot H v t) (s : Same H H') : Av C pot H' v t := h.keep (Keep.of s)
theorem Avs.same {H H' : Hp} {v : List V} {t : List T} (h : Avs C pot H v t) (s : Same H H') : Avs C pot H' v t := h.keep (Keep.of s)
theorem Avs.app {H : Hp} : ∀ {vs ws : List V} {ts us : List T}, Avs C pot H vs ts → Avs C pot H ws us → Avs C pot H (vs ++ ws) (ts ++ us)
  | _, _, _, _, .nil, h => h
  | _, _, _, _, .cons a r, h => .cons a (Avs.app r h)
theorem Avs.len {H : Hp} {vs : List V} {ts : List T} (h : Avs C pot H vs ts) : vs.length = ts.length := h.at.length
theorem Avs.take {H : Hp} : ∀ (n : Nat) {vs : List V} {ts : List T}, Avs C pot H vs ts → Avs C pot H (vs.take n) (ts.take n)
  | 0, _, _, _ => .nil
  | _ + 1, _, _, .nil => .nil
  | n + 1, _, _, .cons a r => .cons a (Avs.take n r)
theorem Avs.drop {H : Hp} : ∀ (n : Nat) {vs : List V} {ts : List T}, Avs C pot H vs ts → Avs C pot H (vs.drop n) (ts.drop n)
  | 0, _, _, h => h
  | _ + 1, _, _, .nil => .nil
  | n + 1, _, _, .cons a r => Avs.drop n r
theorem Avs.get {H : Hp} : ∀ {vs : List V} {ts : List T} {i : Nat} {v : V}, Avs C pot H vs ts → vs[i]? = some v → ∃ t, ts[i]? = some t ∧ Av C pot H v t
  | _, _, _, _, .nil, e => by simp at e
  | _, _, 0, _, .cons a _, e => by simp at e; subst e; exact ⟨_, rfl, a⟩
  | _, _, i + 1, v, .cons _ r, e => by
    obtain ⟨t, h1, h2⟩ := Avs.get (i := i) (v := v) r (by simpa using e)
    exact ⟨t, by simpa using h1, h2⟩
theorem Avs.rep {H : Hp} {vs : List V} {ts : List T} (h : Avs C pot H vs ts) : ∀ n, Avs C pot H (List.replicate n vs).flatten (List.replicate n ts).flatten
  | 0 => .nil
  | n + 1 => by
    rw [List.replicate_succ, List.replicate_succ, List.flatten_cons, List.flatten_cons]
    exact h.app (Avs.rep h n)
theorem PotAt.new {H : Hp} {a : Addr} (h : PotAt H pot) (n : H a = none) : a ≠ pot := fun z => by
  obtain ⟨_, _, e, _⟩ := h
  rw [z, e] at n
  cases n
end
/-! ### sizes -/
namespace T
/-- small numbers, so long a text, so deep -/
structure fin (n d : Nat) (t : T) : Prop where
  ok : t.ok
  wt : t.wt ≤ n
  dp : t.depth ≤ d
structure fins (n d : Nat) (ts : List T) : Prop where
  ok : T.oks ts
  wt : T.wts ts ≤ n
  dp : T.depths ts ≤ d
theorem fin.mono {n m d e : Nat} {t : T} (h : fin n d t) (h1 : n ≤ m) (h2 : d ≤ e) : fin m e t := ⟨h.ok, Nat.le_trans h.wt h1, Nat.le_trans h.dp h2⟩
theorem fins.mono {n m d e : Nat} {t : List T} (h : fins n d t) (h1 : n ≤ m) (h2 : d ≤ e) : fins m e t := ⟨h.ok, Nat.le_trans h.wt h1, Nat.le_trans h.dp h2⟩
theorem fins.nil {d : Nat} : fins 0 d [] := ⟨trivial, Nat.le_refl _, Nat.zero_le _⟩
theorem fins.cons {n m d : Nat} {t : T} {ts : List T} (h : fin n d t) (r : fins m d ts) : fins (n + 2 + m) d (t :: ts) := ⟨⟨h.ok, r.ok⟩, by show T.wt t + 2 + T.wts ts ≤ _; have := h.wt; have := r.wt; omega, Nat.max_le.mpr ⟨h.dp, r.dp⟩⟩
theorem fins.app {n m d : Nat} : ∀ {ts us : List T}, fins n d ts → fins m d us → fins (n + m) d (ts ++ us)
  | [], us, h, r => r.mono (Nat.le_add_left _ _) (Nat.le_refl _)
  | t :: ts, us, h, r => by
    have h1 : T.wt t + 2 + T.wts ts ≤ n := h.wt
    have h2 : max t.depth (T.depths ts) ≤ d := h.dp
    have ih := fins.app (n := n - (T.wt t + 2)) (m := m) (d := d) (ts := ts) (us := us) ⟨h.ok.2, by omega, by omega⟩ r
    have := fins.cons (n := T.wt t) (d := d) (t := t) ⟨h.ok.1, Nat.le_refl _, by omega⟩ ih
    exact this.mono (by omega) (Nat.le_refl _)
theorem fins.part {n d : Nat} : ∀ {ts us : List T}, fins n d (ts ++ us) → fins n d ts ∧ fins n d us
  | [], us, h => ⟨fins.nil.mono (Nat.zero_le _) (Nat.le_refl _), h⟩
  | t :: ts, us, h => by
    have h1 : T.wt t + 2 + T.wts (ts ++ us) ≤ n := h.wt
    have h2 : max t.depth (T.depths (ts ++ us)) ≤ d := h.dp
    obtain ⟨a, b⟩ := fins.part (n := n - (T.wt t + 2)) (d := d) (ts := ts) (us := us) ⟨h.ok.2, by omega, by omega⟩
    exact ⟨(fins.cons (n := T.wt t) (t := t) ⟨h.ok.1, Nat.le_refl _, by omega⟩ a).mono (by omega) (Nat.le_refl _), b.mono (by omega) (Nat.le_refl _)⟩
theorem fins.take {n d : Nat} {ts : List T} (h : fins n d ts) (k : Nat) : fins n d (ts.take k) := (fins.part (us := ts.drop k) (by rw [List.take_append_drop]; exact h)).1
theorem fins.drop {n d : Nat} {ts : List T} (h : fins n d ts) (k : Nat) : fins n d (ts.drop k) := (fins.part (ts := ts.take k) (by rw [List.take_append_drop]; exact h)).2
theorem fins.mem {n d : Nat} : ∀ {ts : List T} {t : T}, fins n d ts → t ∈ ts → fin n d t
  | x :: xs, t, h, hm => by
    have h1 : T.wt x + 2 + T.wts xs ≤ n := h.wt
    have h2 : max x.depth (T.depths xs) ≤ d := h.dp
    rcases List.mem_cons.mp hm with rfl | hm
    · exact ⟨h.ok.1, by omega, by omega⟩
    · exact (fins.mem (n := n) (d := d) (ts := xs) ⟨h.ok.2, by omega, by omega⟩ hm)
theorem fins.of {n d : Nat} : ∀ {ts : List T}, (∀ t ∈ ts, fin n d t) → fins ((n + 2) * ts.length) d ts
  | [], _ => fins.nil.mono (Nat.zero_le _) (Nat.le_refl _)
  | x :: xs, h => (fins.cons (h x (.head _)) (fins.of fun t ht => h t (.tail _ ht))).mono (by rw [List.length_cons, Nat.mul_succ]; omega) (Nat.le_refl _)
theorem fins.rep {n d : Nat} {ts : List T} (h : fins n d ts) : ∀ k, fins (n * k) d (List.replicate k ts).flatten
  | 0 => fins.nil
  | k + 1 => by
    rw [List.replicate_succ, List.flatten_cons]
    exact (h.app (fins.rep h k)).mono (by rw [Nat.mul_succ]; omega) (Nat.le_refl _)
theorem fin.lst {n d : Nat} {ts : List T} (h : fins n d ts) : fin (n + 3) (d + 1) (.lst ts) := ⟨h.ok, Nat.add_le_add_right h.wt 3, Nat.add_le_add_right h.dp 1⟩
theorem fin.tup {n d : Nat} {ts : List T} (h : fins n d ts) : fin (n + 3) (d + 1) (.tup ts) := ⟨h.ok, Nat.add_le_add_right h.wt 3, Nat.add_le_add_right h.dp 1⟩
end T
/-- beside all of S -/
def AvS (C : Addr) (S : Addr → Prop) (H : Hp) (v : V) (t : T) : Prop := ∀ X, S X → Av C X H v t
def AvsS (C : Addr) (S : Addr → Prop) (H : Hp) (vs : List V) (ts : List T) : Prop := ∀ X, S X → Avs C X H vs ts
section
variable {C : Addr} {S : Addr → Prop} {H H' : Hp}
theorem AvS.same {v : V} {t : T} (h : AvS C S H v t) (s : Same H H') : AvS C S H' v t := fun X hX => (h X hX).same s
theorem AvsS.same {v : List V} {t : List T} (h : AvsS C S H v t) (s : Same H H') : AvsS C S H' v t := fun X hX => (h X hX).same s
theorem AvsS.nil : AvsS C S H [] [] := fun _ _ => .nil
theorem AvsS.cons {v : V} {t : T} {vs : List V} {ts : List T} (h : AvS C S H v t) (r : AvsS C S H vs ts) : AvsS C S H (v :: vs) (t :: ts) := fun X hX => .cons (h X hX) (r X hX)
theorem AvsS.app {vs ws : List V} {ts us : List T} (h : AvsS C S H vs ts) (r : AvsS C S H ws us) : AvsS C S H (vs ++ ws) (ts ++ us) := fun X hX => (h X hX).app (r X hX)
theorem AvS.lst_inv {v : V} {ts : List T} {p : Addr} (hp : S p) (h : AvS C S H v (.lst ts)) : ∃ a xs, v = .ref a ∧ H a = some (.lst xs) ∧ (∀ X, S X → a ≠ X) ∧ AvsS C S H xs ts := by
  cases h p hp with
  | lst n e hs =>
    refine ⟨_, _, rfl, e, fun X hX => ?_, fun X hX => ?_⟩
    · cases h X hX with
      | lst m f ks => exact m
    · cases h X hX with
      | lst m f ks =>
        rw [e] at f
        cases f
        exact ks
theorem AvS.mk {a : Addr} {xs : List V} {ts : List T} (n : ∀ X, S X → a ≠ X) (e : H a = some (.lst xs)) (h : AvsS C S H xs ts) : AvS C S H (.ref a) (.lst ts) := fun X hX => .lst (n X hX) e (h X hX)
theorem AvS.mkT {a : Addr} {xs : List V} {ts : List T} (n : ∀ X, S X → a ≠ X) (e : H a = some (.tup xs)) (h : AvsS C S H xs ts) : AvS C S H (.ref a) (.tup ts) := fun X hX => .tup (n X hX) e (h X hX)
theorem newS (hS : ∀ X, S X → H X ≠ none) (s : Same H H') {a : Addr} (n : H' a = none) : ∀ X, S X → a ≠ X := fun X hX z => hS X hX (by rw [← z]; exact s.free n)
end
/-! ### expressions that make values -/
/-- te makes a value that stands for t, in every heap from H on -/
def Ev (C : Addr) (S : Addr → Prop) (te : TE) (σ : L2.St) (H : Hp) (t : T) : Prop := ∀ H1, Same H H1 → ∀ Q : VK, (∀ H' v, Same H1 H' → AvS C S H' v t → Q v H') → te σ H1 Q
def EvA (C : Addr) (S : Addr → Prop) (ta : TA) (σ : L2.St) (H : Hp) (ts : List T) : Prop := ∀ H1, Same H H1 → ∀ Q : List V → Hp → Prop, (∀ H' vs, Same H1 H' → AvsS C S H' vs ts → vs.length = ts.length → Q vs H') → ta σ H1 Q
section
variable {C p0 : Addr} {S : Addr → Prop} {σ : L2.St} {H : Hp} {K : PySem.W.Frag}
theorem EvA.nil : EvA C S tNil σ H [] := fun H1 _ Q q => q H1 [] (Same.refl _) .nil rfl
theorem EvA.cons {te : TE} {ta : TA} {t : T} {ts : List T} (h : Ev C S te σ H t) (r : EvA C S ta σ H ts) : EvA C S (tCons te ta) σ H (t :: ts) := fun H1 s1 Q q =>
  h H1 s1 _ fun H2 v s2 hv => r H2 (s1.trans s2) _ fun H3 vs s3 hvs hl => q H3 (v :: vs) (s2.trans s3) (.cons (hv.same s3) hvs) (by rw [List.length_cons, List.length_cons, hl])
theorem Ev.var {i : Nat} {v : V} {t : T} (hi : σ[i]? = some (some v)) (h : AvS C S H v t) : Ev C S (tVar i) σ H t := fun H1 s1 Q q => ⟨v, hi, q H1 v (Same.refl _) (h.same s1)⟩
theorem Ev.con {v : V} {t : T} (h : ∀ H X, Av C X H v t) : Ev C S (tC v) σ H t := fun H1 s1 Q q => q H1 v (Same.refl _) fun X _ => h H1 X
theorem Ev.lst {ta : TA} {ts : List T} (hS : ∀ X, S X → H X ≠ none) (h : EvA C S ta σ H ts) (hz : ts.length ≤ sizeLine) : Ev C S (tLst ta) σ H (.lst ts) := fun H1 s1 Q q =>
  h H1 s1 _ fun H2 vs s2 hvs hl => ⟨by rw [hl]; exact hz, fun p np => q _ _ (s2.trans (same_new np)) (.mk (newS hS (s1.trans s2) np) upd_same (hvs.same (same_new np)))⟩
theorem Ev.tup {ta : TA} {ts : List T} (hS : ∀ X, S X → H X ≠ none) (h : EvA C S ta σ H ts) (hz : ts.length ≤ sizeLine) : Ev C S (tTup ta) σ H (.tup ts) := fun H1 s1 Q q =>
  h H1 s1 _ fun H2 vs s2 hvs hl => ⟨by rw [hl]; exact hz, fun p np => q _ _ (s2.trans (same_new np)) (.mkT (newS hS (s1.trans s2) np) upd_same (hvs.same (same_new np)))⟩
theorem Ev.cat {a b : TE} {ts us : List T} (h0 : S p0) (hS : ∀ X, S X → H X ≠ none) (h : Ev C S a σ H (.lst ts)) (r : Ev C S b σ H (.lst us)) (hz : ts.length + us.length ≤ sizeLine) : Ev C S (tOp rCat a b) σ H (.lst (ts ++ us)) := fun H1 s1 Q q =>
  h H1 s1 _ fun H2 v s2 hv => r H2 (s1.trans s2) _ fun H3 w s3 hw => by
    obtain ⟨x, xs, rfl, e, n, hs⟩ := hv.lst_inv h0
    obtain ⟨y, ys, rfl, f, m, ks⟩ := hw.lst_inv h0
    exact ⟨_, _, _, _, rfl, rfl, s3 _ _ e, f, by rw [(hs _ h0).len, (ks _ h0).len]; exact hz, fun p np => q _ _ (s2.trans (s3.trans (same_new np))) (.mk (newS hS (s1.trans (s2.trans s3)) np) upd_same ((hs.same (s3.trans (same_new np))).app (ks.same (same_new np))))⟩
theorem Ev.rep {a b : TE} {ts : List T} {k : Nat} (h0 : S p0) (hS : ∀ X, S X → H X ≠ none) (h : Ev C S a σ H (.lst ts)) (hb : ∀ H1 (Q : VK), Q (.int k) H1 → b σ H1 Q) (hk : k ≤ 1000) (hz : ts.length * k ≤ sizeLine) : Ev C S (tOp rRep a b) σ H (.lst (List.replicate k ts).flatten) := fun H1 s1 Q q =>
  h H1 s1 _ fun H2 v s2 hv => hb H2 _ (by
    obtain ⟨x, xs, rfl, e, n, hs⟩ := hv.lst_inv h0
    exact ⟨_, _, _, rfl, rfl, e, by omega, by omega, by rw [(hs _ h0).len, Int.toNat_natCast]; exact hz, fun p np => q _ _ (s2.trans (same_new np)) (by
        rw [Int.toNat_natCast]
        exact .mk (newS hS (s1.trans s2) np) upd_same fun X hX => (((hs X hX).rep k).same (same_new np)))⟩)
/-- a slice of a list -/
def cutT (ts : List T) (lo hi : Option Int) : List T := (ts.drop (HT.sIx ts.length 0 lo)).take (HT.sIx ts.length ts.length hi - HT.sIx ts.length 0 lo)
theorem Ev.slice {a : TE} {tl th : TO} {ts : List T} {lo hi : Option Int} (h0 : S p0) (hS : ∀ X, S X → H X ≠ none) (h : Ev C S a σ H (.lst ts)) (hl : ∀ H1 (Q : Option Int → Hp → Prop), Q lo H1 → tl σ H1 Q) (hh : ∀ H1 (Q : Option Int → Hp → Prop), Q hi H1 → th σ H1 Q) :
    Ev C S (tSl (rSlL K) a tl th) σ H (.lst (cutT ts lo hi)) := fun H1 s1 Q q =>
  h H1 s1 _ fun H2 v s2 hv => hl H2 _ (hh H2 _ (by
    obtain ⟨x, xs, rfl, e, n, hs⟩ := hv.lst_inv h0
    exact ⟨_, _, rfl, SqL.of e, fun p np => q _ _ (s2.trans (same_new np)) (by
        refine .mk (newS hS (s1.trans s2) np) upd_same fun X hX => ?_
        unfold cutV cutT
        rw [(hs X hX).len]
        exact (((hs X hX).drop _).take _).same (same_new np))⟩))
/-- tuple(e) of a list -/
theorem Ev.tupOf {a : TE} {ts : List T} (h0 : S p0) (hS : ∀ X, S X → H X ≠ none) (h : Ev C S a σ H (.lst ts)) :
    Ev C S (tCB (fun xs H Q => ∃ p ys, xs = [V.ref p] ∧ ((SqL K H p ys ∧ ∀ l, H l = none → Q (.ref l) (upd H l (.tup ys))) ∨ (SqT K H p ys ∧ Q (.ref p) H))) (tCons a tNil)) σ H (.tup ts) := fun H1 s1 Q q =>
  h H1 s1 _ fun H2 v s2 hv => by
    obtain ⟨x, xs, rfl, e, n, hs⟩ := hv.lst_inv h0
    exact ⟨_, _, rfl, .inl ⟨SqL.of e, fun p np => q _ _ (s2.trans (same_new np)) (.mkT (newS hS (s1.trans s2) np) upd_same (hs.same (same_new np)))⟩⟩
end
theorem T.fins.cut {n d : Nat} {ts : List T} (h : T.fins n d ts) (lo hi : Option Int) : T.fins n d (cutT ts lo hi) := (h.drop _).take _
end RQ

set_option Elab.async false
set_option linter.all false
set_option maxRecDepth 100000
set_option maxHeartbeats 4000000
/-! Picks, numbers, tables that are drawn. -/
namespace RQ
open PySem L2
section
variable {P : Program} {w : World} {K : PySem.W.Frag} {mg : Str → Option Value} {base : Heap} {C : Addr}
/-- the draw, as it is called -/
structure Drw (P : Program) (w : World) (K : PySem.W.Frag) (mg : Str → Option Value) (base : Heap) where
  f : Addr
  fd : FuncData
  G : FnOk P w K mg base CX0 1 f fd ["_law_pot_here", "_law_many"] SpDraw
  m : mg "_law_draw" = some (.ref f)
  k : PySem.W.keepIn K (.ref f) = true
  b : Binds K fd ["_law_pot_here", "_law_many"] []
structure SpPick (vs : List V) (H : Hp) (Q : VK) (E : XK) : Prop where
  ex : ∃ (pot l : Addr) (xs : List V), vs = [.ref pot, .ref l] ∧ l ≠ pot ∧ H l = some (.lst xs) ∧ 1 ≤ xs.length ∧ xs.length ≤ 1000 ∧ PotAt H pot ∧ ∀ (H' : Hp) (d : Nat) (x : V), Keep pot H H' → PotAt H' pot → xs[d]? = some x → Q x H'
theorem scPick : FnScope ["_law_pot_here", "_law_some"] ["_law_pot_here", "_law_some"] (defScope lPick) := ⟨rfl, rfl, rfl, by decide +kernel, rfl, by decide +kernel, by decide +kernel⟩
theorem ok_pick {f : Addr} {fd : FuncData} (F : Fun K "_law_pick" "_law_pick" lPick f fd) (B : Blt mg) (L : Drw P w K mg base) : FnOk P w K mg base CX0 2 f fd ["_law_pot_here", "_law_some"] SpPick := by
  refine F.ok scPick (fun vs H Q E h => ?_) (fun cdv A outer s H vs Q E hr h => ?_)
  · obtain ⟨pot, l, xs, rfl, _⟩ := h
    rfl
  · obtain ⟨pot, l, xs, rfl, nl, hl, l1, l2, hp, k⟩ := h
    refine ⟨_, pss_one (ps_ret (pe_ix ix_list (pv 1) (pe_call L.G hr (by rfl) L.m L.k L.b .nil pass0 (pa_cons (pv 0) (pa_cons (pe_callB call_len_seq (by rfl) B.len PySem.boot_len (pa_cons (pv 1) pa_nil)) pa_nil))) (fun _ _ => rfl))), ?_⟩
    refine ⟨_, rfl, _, rfl, _, rfl, l, _, rfl, .inl (SqL.of hl), ⟨pot, _, rfl, by omega, by omega, hp, fun H' d kp hp' d0 d1 => ?_⟩⟩
    obtain ⟨j, rfl⟩ := Int.eq_ofNat_of_zero_le d0
    have hj : j < xs.length := by omega
    exact ⟨l, xs, _, xs[j], rfl, rfl, SqL.of (kp _ _ nl hl), atI_nat (List.getElem?_eq_getElem hj), k H' j _ kp hp' (List.getElem?_eq_getElem hj)⟩
structure Pck (P : Program) (w : World) (K : PySem.W.Frag) (mg : Str → Option Value) (base : Heap) where
  f : Addr
  fd : FuncData
  G : FnOk P w K mg base CX0 2 f fd ["_law_pot_here", "_law_some"] SpPick
  m : mg "_law_pick" = some (.ref f)
  k : PySem.W.keepIn K (.ref f) = true
  b : Binds K fd ["_law_pot_here", "_law_some"] []
structure SpNum (C : Addr) (vs : List V) (H : Hp) (Q : VK) (E : XK) : Prop where
  ex : ∃ pot : Addr, vs = [.ref pot] ∧ PotAt H pot ∧ ∀ H' v t, Keep pot H H' → PotAt H' pot → (∀ X, H X ≠ none → Av C X H' v t) → t.isNum = true → t.fin 5000 0 → Q v H'
theorem scNum : FnScope ["_law_pot_here"] ["_law_pot_here"] (defScope lNumber) := ⟨rfl, rfl, rfl, by decide +kernel, rfl, by decide +kernel, by decide +kernel⟩
theorem ratAv {pot a : Addr} {H : Hp} {p : Int × Int} (hp : PotAt H pot) (r : RAt C H a p) : Av C pot H (.ref a) (.rat p) := by
  obtain ⟨x, y, e, _⟩ := hp
  obtain ⟨dx, f⟩ := id r
  exact .rat (ne_of f e (by intro z; cases z)) r
theorem low_ok {t b : Int} (hb : b ≠ 0) (h1 : Sz 1000 t) (h2 : Sz 1000 b) : OkF 1000 (low t b) := ⟨low_red hb, h1.lowT hb, h2.lowB hb⟩
theorem intFin {i : Int} (h : Sz 1000 i) : (T.int i).fin 5000 0 := ⟨h, by show 2000 ≤ 5000; decide, Nat.le_refl _⟩
theorem ratFin {p : Int × Int} (h : OkF 1000 p) : (T.rat p).fin 5000 0 := ⟨h, Nat.le_refl _, Nat.le_refl _⟩
theorem small_sz {i : Int} (h : i.natAbs < 1000) : Sz 1000 i := Sz.mono (n := 10) (by unfold Sz; omega) (by decide)
theorem ok_number {f : Addr} {fd : FuncData} (F : Fun K "_law_number" "_law_number" lNumber f fd) (D : Mkr P w K mg base C) (L : Pck P w K mg base) : FnOk P w K mg base CX0 4 f fd ["_law_pot_here"] (SpNum C) := by
  refine F.ok scNum (fun vs H Q E h => ?_) (fun cdv A outer s H vs Q E hr h => ?_)
  · obtain ⟨pot, rfl, _⟩ := h
    rfl
  · obtain ⟨pot, rfl, hp, k⟩ := h
    have R := D.R
    have r2 : Room 2 _ := hr.mono (by decide)
    refine ⟨_, pss_one (ps_ret (pe_call L.G r2 (by rfl) L.m L.k L.b .nil pass0 (pa_cons (pv 0) (pa_cons (pe_lst (pa_cons pe_int (pa_cons pe_int (pa_cons (pe_un un_neg pe_int) (pa_cons pe_int (pa_cons (pe_make D.M D.G0 hr rfl R.mg_ D.b0 .nil pass0 (pa_cons pe_int (pa_cons pe_int pa_nil))) (pa_cons (pe_make D.M D.G0 hr rfl R.mg_ D.b1 D.v1 pass0 (pa_cons (pe_un un_neg pe_int) pa_nil)) pa_nil))))))) pa_nil)))), ?_⟩
    refine ⟨_, rfl, 1, rfl, fun m dx nm nd ne => madeR (b := 2) (by decide) (by unfold Sz; exact Nat.lt_of_lt_of_le (by decide : 2 < 2 ^ 2) (Nat.pow_le_pow_right (by decide) (by decide))) m dx nm nd fun H1 s1 h1 => ⟨rfl, ?_⟩⟩
    refine ⟨3, rfl, fun m2 dx2 nm2 nd2 ne2 => madeR (b := 1) (by decide) (by unfold Sz; exact Nat.one_lt_two_pow (by decide)) m2 dx2 nm2 nd2 fun H2 s2 h2 => ⟨rfl, ?_⟩⟩
    refine ⟨by show 6 ≤ sizeLine; decide, fun l nl => ?_⟩
    have s3 := same_new (o := .lst [.int 0, .int 1, .int (-1), .int 2, .ref m, .ref m2]) nl
    have s13 := s1.trans (s2.trans s3)
    have hp3 := hp.same s13
    refine ⟨pot, l, _, rfl, (hp.same (s1.trans s2)).new nl, upd_same, (by show 1 ≤ 6; decide), (by show 6 ≤ 1000; decide), hp3, fun H' d x kp hp' hx => ?_⟩
    have kk := (Keep.of s13).trans kp
    have fr : ∀ {b : Addr} {G : Hp}, Same H G → G b = none → ∀ X, H X ≠ none → b ≠ X := fun sg nb X nX z => nX (by rw [← z]; exact sg.free nb)
    obtain ⟨_, _, ep, _⟩ := id hp3
    have a1 : ∀ X, H X ≠ none → Av C X H' (.ref m) (.rat (low 1 2)) := fun X nX => by
      obtain ⟨dd, e⟩ := h1.same (s2.trans s3)
      exact .rat (fr (Same.refl _) nm X nX) ⟨dd, kp _ _ (ne_of e ep (by intro z; cases z)) e⟩
    have a2 : ∀ X, H X ≠ none → Av C X H' (.ref m2) (.rat (low (-3) 1)) := fun X nX => by
      obtain ⟨dd, e⟩ := h2.same s3
      exact .rat (fr s1 nm2 X nX) ⟨dd, kp _ _ (ne_of e ep (by intro z; cases z)) e⟩
    match d, hx with
    | 0, hx => exact Option.some.inj hx ▸ k H' _ _ kk hp' (fun _ _ => (.int 0)) rfl (intFin (small_sz (by decide)))
    | 1, hx => exact Option.some.inj hx ▸ k H' _ _ kk hp' (fun _ _ => (.int 1)) rfl (intFin (small_sz (by decide)))
    | 2, hx => exact Option.some.inj hx ▸ k H' _ _ kk hp' (fun _ _ => (.int (-1))) rfl (intFin (small_sz (by decide)))
    | 3, hx => exact Option.some.inj hx ▸ k H' _ _ kk hp' (fun _ _ => (.int 2)) rfl (intFin (small_sz (by decide)))
    | 4, hx => exact Option.some.inj hx ▸ k H' _ _ kk hp' a1 rfl (ratFin (low_ok (by decide) (small_sz (by decide)) (small_sz (by decide))))
    | 5, hx => exact Option.some.inj hx ▸ k H' _ _ kk hp' a2 rfl (ratFin (low_ok (by decide) (small_sz (by decide)) (small_sz (by decide))))
    | n + 6, hx => cases hx
end
end RQ

set_option Elab.async false
set_option linter.all false
set_option maxRecDepth 100000
set_option maxHeartbeats 4000000
/-! Tables that are drawn. -/
namespace RQ
open PySem L2
section
variable {C pot : Addr}
mutual
theorem Av.keep2 {X : Addr} {H H' : Hp} (s : Keep pot H H') : ∀ {v : V} {t : T}, Av C X H v t → Av C pot H v t → Av C X H' v t
  | _, _, .non, _ => .non
  | _, _, .bl b, _ => .bl b
  | _, _, .int i, _ => .int i
  | _, _, .str x, _ => .str x
  | _, _, .dct n e, .dct m _ => .dct n (s _ _ m e)
  | _, _, .rat n ⟨dx, e⟩, .rat m _ => .rat n ⟨dx, s _ _ m e⟩
  | _, _, .lst n e h, .lst m f k => .lst n (s _ _ m e) (Avs.keep2 s h (by rw [e] at f; cases f; exact k))
  | _, _, .tup n e h, .tup m f k => .tup n (s _ _ m e) (Avs.keep2 s h (by rw [e] at f; cases f; exact k))
theorem Avs.keep2 {X : Addr} {H H' : Hp} (s : Keep pot H H') : ∀ {vs : List V} {ts : List T}, Avs C X H vs ts → Avs C pot H vs ts → Avs C X H' vs ts
  | _, _, .nil, _ => .nil
  | _, _, .cons h r, .cons k q => .cons (Av.keep2 s h k) (Avs.keep2 s r q)
end
theorem PotAt.other {H : Hp} {pot D : Addr} {o : HO} (h : PotAt H pot) (n : D ≠ pot) : PotAt (upd H D o) pot := by
  obtain ⟨a, b, e, r⟩ := h
  exact ⟨a, b, by rw [upd_ne (Ne.symm n)]; exact e, r⟩
theorem keep_some {H H' : Hp} (k : Keep pot H H') (p : PotAt H' pot) {X : Addr} (n : H X ≠ none) : H' X ≠ none := by
  by_cases e : X = pot
  · obtain ⟨_, _, f, _⟩ := p
    rw [e, f]
    intro z
    cases z
  · cases h : H X with
    | none => exact absurd h n
    | some o =>
      rw [k X o e h]
      intro z
      cases z
/-- beside all that was -/
abbrev New' (C : Addr) (H H' : Hp) (v : V) (t : T) : Prop := ∀ X, H X ≠ none → Av C X H' v t
/-- [e for x in range(n)], each e drawn -/
theorem lcr_av {j n : Nat} {Pt : T → Prop} {te : TE} {tn : TE} {σ : L2.St} {H : Hp} {Q : VK} (hp : PotAt H pot) (hn : n ≤ 1000) (hr : ∀ Q' : VK, Q' (.int n) H → tn σ H Q')
    (step : ∀ (i : Nat) (H' : Hp) (Q' : VK), PotAt H' pot → Keep pot H H' → (∀ H4 v t, Keep pot H' H4 → PotAt H4 pot → New' C H' H4 v t → Pt t → Q' v H4) → te ((wipe σ [j]).set j (some (.int (0 + (i : Nat))))) H' Q')
    (hd : ∀ H' D ts, Keep pot H H' → PotAt H' pot → New' C H H' (.ref D) (.lst ts) → ts.length = n → (∀ t ∈ ts, Pt t) → Q (.ref D) H') : tLc (iRng1 (tCons tn tNil)) (gName j) tYes te [j] σ H Q := by
  refine hr _ ⟨n, rfl, by omega, by omega, fun D hD => ?_⟩
  have ep := hp
  refine lc_range (fun i H' => Keep pot H H' ∧ PotAt H' pot ∧ ∃ xs ts, H' D = some (.lst xs) ∧ (∀ X, (H X ≠ none ∨ X = D) → Avs C X H' xs ts) ∧ ts.length = i ∧ ∀ t ∈ ts, Pt t)
    ⟨Keep.of (same_new hD), hp.same (same_new hD), [], [], upd_same, fun _ _ => .nil, rfl, fun t z => by cases z⟩ ?_ ?_
  · rintro i H' hi ⟨kk, pp, xs, ts, hD', ha, hl, hP⟩
    have hi' : i < n := by rw [Int.toNat_natCast] at hi; exact hi
    refine ⟨wipe1, ?_⟩
    show te ((wipe σ [j]).set j (some (.int (0 + (i : Nat))))) H' _
    refine step i H' _ pp kk fun H4 v t k4 p4 hv pt => ?_
    have nD : D ≠ pot := ep.new hD
    have h4D := k4 _ _ nD hD'
    have old : ∀ X, (H X ≠ none ∨ X = D) → H' X ≠ none := fun X hX => by
      rcases hX with h | rfl
      · exact keep_some kk pp h
      · rw [hD']
        intro z
        cases z
    have hpot : H pot ≠ none := by
      obtain ⟨_, _, f, _⟩ := hp
      rw [f]
      intro z
      cases z
    refine ⟨_, h4D, by rw [(ha D (.inr rfl)).len, hl]; exact small1000' (by omega), ?_, PotAt.other p4 nD, xs ++ [v], ts ++ [t], upd_same, ?_, by rw [List.length_append, hl]; rfl, ?_⟩
    · intro b o nb e
      rw [upd_ne (ne_of_none e hD)]
      exact k4 _ _ nb (kk _ _ nb e)
    · intro X hX
      have a1 : Avs C X H4 xs ts := (ha X hX).keep2 k4 (ha pot (.inl hpot))
      have a2 : Avs C D H4 xs ts := (ha D (.inr rfl)).keep2 k4 (ha pot (.inl hpot))
      have b1 : Av C X H4 v t := hv X (old X hX)
      have b2 : Av C D H4 v t := hv D (old D (.inr rfl))
      exact (a1.keep2 Keep.set a2).app (.cons (b1.keep2 Keep.set b2) .nil)
    · intro u hu
      rcases List.mem_append.mp hu with z | z
      · exact hP u z
      · rw [List.mem_singleton.mp z]
        exact pt
  · rintro H' ⟨kk, pp, xs, ts, hD', ha, hl, hP⟩
    rw [Int.toNat_natCast] at hl
    refine hd H' D ts kk pp (fun X hX => .lst (fun z => hX (z ▸ hD)) hD' (ha X (.inl hX))) hl hP
end
section
variable {P : Program} {w : World} {K : PySem.W.Frag} {mg : Str → Option Value} {base : Heap} {C : Addr}
/-- a row of n numbers -/
def RowT (n : Nat) (t : T) : Prop := ∃ ts, t = .lst ts ∧ ts.length = n ∧ ∀ x ∈ ts, x.isNum = true ∧ x.fin 5000 0
/-- a table of m rows of n numbers -/
def TabT (m n : Nat) (t : T) : Prop := ∃ ts, t = .lst ts ∧ ts.length = m ∧ ∀ x ∈ ts, RowT n x
structure SpTable (C : Addr) (vs : List V) (H : Hp) (Q : VK) (E : XK) : Prop where
  ex : ∃ (pot : Addr) (m n : Nat), vs = [.ref pot, .int m, .int n] ∧ m ≤ 1000 ∧ n ≤ 1000 ∧ PotAt H pot ∧ ∀ H' v t, Keep pot H H' → PotAt H' pot → New' C H H' v t → TabT m n t → Q v H'
abbrev nTab : List Str := ["_law_pot_here", "_law_tall", "_law_wide", "_law_row", "_law_place"]
theorem scTab : FnScope nTab ["_law_pot_here", "_law_tall", "_law_wide"] (defScope lTable) := ⟨rfl, rfl, rfl, by decide +kernel, rfl, by decide +kernel, by decide +kernel⟩
theorem ok_table {f fN : Addr} {fd fdN : FuncData} (F : Fun K "_law_table" "_law_table" lTable f fd) (B : Blt mg) (GN : FnOk P w K mg base CX0 4 fN fdN ["_law_pot_here"] (SpNum C)) (mN : mg "_law_number" = some (.ref fN)) (kN : PySem.W.keepIn K (.ref fN) = true) (bN : Binds K fdN ["_law_pot_here"] []) :
    FnOk P w K mg base CX0 5 f fd ["_law_pot_here", "_law_tall", "_law_wide"] (SpTable C) := by
  refine F.ok scTab (fun vs H Q E h => ?_) (fun cdv A outer s H vs Q E hr h => ?_)
  · obtain ⟨pot, m, n, rfl, _⟩ := h
    rfl
  · obtain ⟨pot, m, n, rfl, hm, hn, hp, k⟩ := h
    refine ⟨_, pss_one (ps_ret (pe_lc (own := [("_law_row", 3)]) (g := gName 3) (tt := tYes) (te := tLc (iRng1 (tCons (tVar 2) tNil)) (gName 4) tYes (tCall (SpNum C) [] E0 (tCons (tVar 0) tNil)) [4]) rfl scTab.nd (pi_range1 (by rfl) B.range (pa_cons (pv 1) pa_nil)) (blkOk_by (own := [("_law_row", 3)]) (N := nTab) (sc := defScope lTable) (by decide +kernel)) (fun _ _ _ _ _ => pg_name (i := 3) scTab.nd rfl (Or.inl rfl)) (fun _ _ _ _ _ => pts_nil)
      (fun _ _ _ _ _ => pe_lc (own := [("_law_place", 4)]) (g := gName 4) (tt := tYes) rfl scTab.nd (pi_range1 (by rfl) B.range (pa_cons (pv 2) pa_nil)) (blkOk_by (own := [("_law_place", 4)]) (N := nTab) (sc := { kind := .function, names := [(".0", .local), ("_law_row", .local), ("range", .globalImplicit), ("_law_pot_here", .cell), ("_law_wide", .cell)], isGenerator := false, isCoroutine := false }) (by decide +kernel)) (fun _ _ _ _ _ => pg_name (i := 4) scTab.nd rfl (Or.inl rfl)) (fun _ _ _ _ _ => pts_nil)
        (fun _ _ _ _ _ => pe_call GN hr (by rfl) mN kN bN .nil pass0 (pa_cons (pv 0) pa_nil))))), ?_⟩
    refine lcr_av (C := C) (j := 3) (n := m) (Pt := RowT n) hp hm ?_ ?_ ?_
    · intro Q' q
      exact ⟨_, rfl, q⟩
    · intro i H' Q' pp kk kq
      refine lcr_av (C := C) (j := 4) (n := n) (Pt := fun x => x.isNum = true ∧ x.fin 5000 0) pp hn ?_ ?_ ?_
      · intro Q'' q
        exact ⟨_, rfl, q⟩
      · intro i2 H2 Q2 p2 k2 kq2
        exact ⟨_, rfl, ⟨pot, rfl, p2, fun H4 v t k4 p4 hv h1 h2 => kq2 H4 v t k4 p4 hv ⟨h1, h2⟩⟩⟩
      · intro H4 D ts k4 p4 hv hl hP
        exact kq H4 _ _ k4 p4 hv ⟨ts, rfl, hl, hP⟩
    · intro H' D ts k4 p4 hv hl hP
      exact k H' _ _ k4 p4 hv ⟨ts, rfl, hl, hP⟩
end
end RQ

set_option Elab.async false
set_option linter.all false
set_option maxRecDepth 100000
set_option maxHeartbeats 4000000
/-! Statements that make values; tables that are bent. -/
namespace RQ
open PySem L2
section
variable {C p0 : Addr} {S : Addr → Prop} {σ : L2.St} {H : Hp} {K : PySem.W.Frag}
theorem AvS.keep {H H' : Hp} {v : V} {t : T} {pot : Addr} (h0 : S pot) (h : AvS C S H v t) (k : Keep pot H H') : AvS C S H' v t := fun X hX => (h X hX).keep2 k (h pot h0)
theorem AvsS.get {vs : List V} {ts : List T} {i : Nat} {v : V} (h0 : S p0) (h : AvsS C S H vs ts) (e : vs[i]? = some v) : ∃ t, ts[i]? = some t ∧ AvS C S H v t := by
  obtain ⟨t, h1, _⟩ := (h p0 h0).get e
  refine ⟨t, h1, fun X hX => ?_⟩
  obtain ⟨u, h2, h3⟩ := (h X hX).get e
  rw [h1] at h2
  cases h2
  exact h3
theorem par3_ev {i j l : Nat} {ta : TA} {a b c : T} {r : TS} {D : Ends} (h : EvA C S ta σ H [a, b, c]) (hd : ∀ H' u v w, Same H H' → AvS C S H' u a → AvS C S H' v b → AvS C S H' w c → r D (((σ.set i (some u)).set j (some v)).set l (some w)) H') : tSeq (tPar3 i j l ta) r D σ H :=
  h H (Same.refl _) _ fun H' vs s hv hl => by
    match vs, hl, hv with
    | [u, v, w], _, hv =>
      refine ⟨u, v, w, rfl, hd H' u v w s (fun X hX => ?_) (fun X hX => ?_) (fun X hX => ?_)⟩
      · cases hv X hX with
        | cons p q => exact p
      · cases hv X hX with
        | cons p q =>
          cases q with
          | cons p' q' => exact p'
      · cases hv X hX with
        | cons p q =>
          cases q with
          | cons p' q' =>
            cases q' with
            | cons p'' q'' => exact p''
theorem par3_evN {i j l : Nat} {ta : TA} {a b c : T} {r : TS} {D : Ends} {rt : VK} {bk ct : L2.St → Hp → Prop} (h : EvA C S ta σ H [a, b, c]) (hd : ∀ H' u v w, Same H H' → AvS C S H' u a → AvS C S H' v b → AvS C S H' w c → r D (((σ.set i (some u)).set j (some v)).set l (some w)) H') : tNext { nx := tSeq (tPar3 i j l ta) r D, rt := rt, bk := bk, ct := ct } σ H :=
  par3_ev h hd
theorem asg_ev {i : Nat} {te : TE} {t : T} {r : TS} {D : Ends} (h : Ev C S te σ H t) (hd : ∀ H' v, Same H H' → AvS C S H' v t → r D (σ.set i (some v)) H') : tSeq (tAsg te (gName i)) r D σ H := h H (Same.refl _) _ hd
theorem asg_evN {i : Nat} {te : TE} {t : T} {r : TS} {D : Ends} {rt : VK} {bk ct : L2.St → Hp → Prop} (h : Ev C S te σ H t) (hd : ∀ H' v, Same H H' → AvS C S H' v t → r D (σ.set i (some v)) H') : tNext { nx := tSeq (tAsg te (gName i)) r D, rt := rt, bk := bk, ct := ct } σ H := asg_ev h hd
mutual
/-- .. and beside what is not yet there -/
theorem Av.fresh {L : Addr} {H : Hp} (n : H L = none) : ∀ {v : V} {t : T}, Av C p0 H v t → Av C L H v t
  | _, _, .non => .non
  | _, _, .bl b => .bl b
  | _, _, .int i => .int i
  | _, _, .str x => .str x
  | _, _, .dct _ e => .dct (fun z => by rw [z, n] at e; cases e) e
  | _, _, .rat _ ⟨dx, e⟩ => .rat (fun z => by rw [z, n] at e; cases e) ⟨dx, e⟩
  | _, _, .lst _ e h => .lst (fun z => by rw [z, n] at e; cases e) e (Avs.fresh n h)
  | _, _, .tup _ e h => .tup (fun z => by rw [z, n] at e; cases e) e (Avs.fresh n h)
theorem Avs.fresh {L : Addr} {H : Hp} (n : H L = none) : ∀ {vs : List V} {ts : List T}, Avs C p0 H vs ts → Avs C L H vs ts
  | _, _, .nil => .nil
  | _, _, .cons h r => .cons (Av.fresh n h) (Avs.fresh n r)
end
theorem AvS.fresh {L : Addr} {v : V} {t : T} (h0 : S p0) (h : AvS C S H v t) (n : H L = none) : AvS C (fun X => S X ∨ X = L) H v t := fun X hX => by
  rcases hX with h' | rfl
  · exact h X h'
  · exact (h p0 h0).fresh n
/-- name = [..] -/
theorem asg_lst {i : Nat} {ta : TA} {ts : List T} {r : TS} {D : Ends} (h0 : S p0) (hS : ∀ X, S X → H X ≠ none) (h : EvA C S ta σ H ts) (hz : ts.length ≤ sizeLine) (hd : ∀ H' L xs, Same H H' → H L = none → H' L = some (.lst xs) → AvsS C (fun X => S X ∨ X = L) H' xs ts → (∀ X, S X → L ≠ X) → r D (σ.set i (some (.ref L))) H') : tSeq (tAsg (tLst ta) (gName i)) r D σ H :=
  h H (Same.refl _) _ fun H2 vs s2 hvs hl => ⟨by rw [hl]; exact hz, fun p np => hd _ p vs (s2.trans (same_new np)) (s2.free np) upd_same (fun X hX => by
    rcases hX with h' | rfl
    · exact (hvs X h').same (same_new np)
    · exact ((hvs p0 h0).fresh np).same (same_new np)) (newS hS s2 np)⟩
theorem asg_lstN {i : Nat} {ta : TA} {ts : List T} {r : TS} {D : Ends} {rt : VK} {bk ct : L2.St → Hp → Prop} (h0 : S p0) (hS : ∀ X, S X → H X ≠ none) (h : EvA C S ta σ H ts) (hz : ts.length ≤ sizeLine) (hd : ∀ H' L xs, Same H H' → H L = none → H' L = some (.lst xs) → AvsS C (fun X => S X ∨ X = L) H' xs ts → (∀ X, S X → L ≠ X) → r D (σ.set i (some (.ref L))) H') : tNext { nx := tSeq (tAsg (tLst ta) (gName i)) r D, rt := rt, bk := bk, ct := ct } σ H :=
  asg_lst h0 hS h hz hd
/-- x.extend([..]), x what has just been made -/
theorem ext_ev {i : Nat} {te : TE} {ts us : List T} {L : Addr} {xs : List V} {r : TS} {D : Ends} (h0 : S p0) (hi : σ[i]? = some (some (.ref L))) (hL : H L = some (.lst xs)) (h : Ev C (fun X => S X ∨ X = L) te σ H (.lst us)) (hs : AvsS C (fun X => S X ∨ X = L) H xs ts) (nL : ∀ X, S X → L ≠ X) (hz : ts.length + us.length ≤ sizeLine)
    (hd : ∀ H' xs', (∀ b o, b ≠ L → H b = some o → H' b = some o) → H' L = some (.lst xs') → AvsS C (fun X => S X ∨ X = L) H' xs' (ts ++ us) → r D σ H') : tSeq (tDrop (tBM K "list" rExtend (tVar i) (tCons te tNil))) r D σ H := by
  refine ⟨_, hi, .inl ⟨rfl, _, SqL.of hL⟩, ?_⟩
  refine h H (Same.refl _) _ fun H1 v s1 hv => ?_
  obtain ⟨y, ys, rfl, e, n, ks⟩ := hv.lst_inv (S := fun X => S X ∨ X = L) (p := p0) (.inl h0)
  refine ⟨L, y, xs, ys, rfl, rfl, s1 _ _ hL, e, by rw [(hs p0 (.inl h0)).len, (ks p0 (.inl h0)).len]; exact hz, ?_⟩
  refine hd _ (xs ++ ys) (fun b o nb e' => by rw [upd_ne nb]; exact s1 _ _ e') upd_same fun X hX => ?_
  have a1 : Avs C L H1 xs ts := (hs L (.inr rfl)).same s1
  have b1 : Avs C L H1 ys us := ks L (.inr rfl)
  exact (((hs X hX).same s1).keep2 Keep.set a1).app ((ks X hX).keep2 Keep.set b1)
theorem ext_evN {i : Nat} {te : TE} {ts us : List T} {L : Addr} {xs : List V} {r : TS} {D : Ends} {rt : VK} {bk ct : L2.St → Hp → Prop} (h0 : S p0) (hi : σ[i]? = some (some (.ref L))) (hL : H L = some (.lst xs)) (h : Ev C (fun X => S X ∨ X = L) te σ H (.lst us)) (hs : AvsS C (fun X => S X ∨ X = L) H xs ts) (nL : ∀ X, S X → L ≠ X) (hz : ts.length + us.length ≤ sizeLine)
    (hd : ∀ H' xs', (∀ b o, b ≠ L → H b = some o → H' b = some o) → H' L = some (.lst xs') → AvsS C (fun X => S X ∨ X = L) H' xs' (ts ++ us) → r D σ H') : tNext { nx := tSeq (tDrop (tBM K "list" rExtend (tVar i) (tCons te tNil))) r D, rt := rt, bk := bk, ct := ct } σ H := ext_ev h0 hi hL h hs nL hz hd
theorem ret_ev {te : TE} {t : T} {D : Ends} (h : Ev C S te σ H t) (hd : ∀ H' v, Same H H' → AvS C S H' v t → D.rt v H') : tRet te D σ H := h H (Same.refl _) _ hd
theorem ret_evN {te : TE} {t : T} {D : Ends} {rt : VK} {bk ct : L2.St → Hp → Prop} (h : Ev C S te σ H t) (hd : ∀ H' v, Same H H' → AvS C S H' v t → D.rt v H') : tNext { nx := tRet te D, rt := rt, bk := bk, ct := ct } σ H := h H (Same.refl _) _ hd
/-- table[row] -/
theorem Ev.ix {i j : Nat} {v : V} {ts : List T} {t : T} {k : Nat} (h0 : S p0) (hi : σ[i]? = some (some v)) (hj : σ[j]? = some (some (.int k))) (h : AvS C S H v (.lst ts)) (hk : ts[k]? = some t) : Ev C S (tOp (rIxL K) (tVar i) (tVar j)) σ H t := fun H1 s1 Q q => by
  obtain ⟨a, xs, rfl, e, n, hs⟩ := (h.same s1).lst_inv h0
  have hl := (hs _ h0).len
  have hk' : k < xs.length := by rw [hl]; exact (List.getElem?_eq_some_iff.mp hk).1
  obtain ⟨u, h1, h2⟩ := AvsS.get h0 hs (List.getElem?_eq_getElem hk')
  rw [hk] at h1
  cases h1
  exact ⟨_, hi, _, hj, a, xs, _, _, rfl, rfl, SqL.of e, atI_nat (List.getElem?_eq_getElem hk'), q _ _ (Same.refl _) h2⟩
theorem Ev.ix0 {i : Nat} {v : V} {ts : List T} {t : T} (h0 : S p0) (hi : σ[i]? = some (some v)) (h : AvS C S H v (.lst ts)) (hk : ts[0]? = some t) : Ev C S (tOp (rIxL K) (tVar i) (tC (.int 0))) σ H t := fun H1 s1 Q q => by
  obtain ⟨a, xs, rfl, e, n, hs⟩ := (h.same s1).lst_inv h0
  have hl := (hs _ h0).len
  have hk' : 0 < xs.length := by rw [hl]; exact (List.getElem?_eq_some_iff.mp hk).1
  obtain ⟨u, h1, h2⟩ := AvsS.get h0 hs (List.getElem?_eq_getElem hk')
  rw [hk] at h1
  cases h1
  exact ⟨_, hi, a, xs, _, _, rfl, rfl, SqL.of e, atI_nat (j := 0) (List.getElem?_eq_getElem hk'), q _ _ (Same.refl _) h2⟩
end
section
variable {P : Program} {w : World} {K : PySem.W.Frag} {mg : Str → Option Value} {base : Heap} {C : Addr}
structure SpBent (C : Addr) (vs : List V) (H : Hp) (Q : VK) (E : XK) : Prop where
  ex : ∃ (pot : Addr) (S : Addr → Prop) (v : V) (t : T) (m n : Nat), vs = [.ref pot, v] ∧ PotAt H pot ∧ S pot ∧ (∀ X, S X → H X ≠ none) ∧ AvS C S H v t ∧ TabT m n t ∧ 1 ≤ m ∧ m ≤ 4 ∧ 1 ≤ n ∧ n ≤ 4 ∧
    ∀ H' D xs ts, Keep pot H H' → PotAt H' pot → (∀ X, S X → D ≠ X) → H' D = some (.lst xs) → AvsS C S H' xs ts → ts.length = 10 → (∀ u ∈ ts, u.fin 300000 3) → Q (.ref D) H'
abbrev nBent : List Str := ["_law_pot_here", "_law_table_here", "_law_row", "_law_place", "_law_odd", "_law_ahead", "_law_line", "_law_rest", "_law_found"]
theorem scBent : FnScope nBent ["_law_pot_here", "_law_table_here"] (defScope lBent) := ⟨rfl, rfl, rfl, by decide +kernel, rfl, by decide +kernel, by decide +kernel⟩
theorem ok_bent {f : Addr} {fd : FuncData} (F : Fun K "_law_bent" "_law_bent" lBent f fd) (D : Mkr P w K mg base C) (L : Drw P w K mg base) (G : Pck P w K mg base) : FnOk P w K mg base CX0 4 f fd ["_law_pot_here", "_law_table_here"] (SpBent C) := by
  refine F.ok scBent (fun vs H Q E h => ?_) (fun cdv A outer s H vs Q E hr h => ?_)
  · obtain ⟨pot, S, v, t, m, n, rfl, _⟩ := h
    rfl
  · obtain ⟨pot, S, v, t, m, n, rfl, hp, h0, hS, hv, ht, m1, m4, n1, n4, k⟩ := h
    have B := D.B
    have R := D.R
    have r1 : Room 1 _ := hr.mono (by decide)
    have r2 : Room 2 _ := hr.mono (by decide)
    refine ⟨_, PSs.nox (pss_cons (ps_par (i := 2) (j := 3) rfl scBent.nd rfl rfl (by decide) rfl rfl (pa_cons (pe_call L.G r1 (by rfl) L.m L.k L.b .nil pass0 (pa_cons (pv 0) (pa_cons (pe_callB call_len_seq (by rfl) B.len PySem.boot_len (pa_cons (pv 1) pa_nil)) pa_nil)))
        (pa_cons (pe_call L.G r1 (by rfl) L.m L.k L.b .nil pass0 (pa_cons (pv 0) (pa_cons (pe_callB call_len_seq (by rfl) B.len PySem.boot_len (pa_cons (pe_ix ix_list (pv 1) pe_int (fun _ _ => rfl)) pa_nil)) pa_nil))) pa_nil)) (by rfl))
      (pss_cons (ps_set (i := 4) scBent.nd rfl (Or.inl rfl) (pe_call G.G r2 (by rfl) G.m G.k G.b .nil pass0 (pa_cons (pv 0) (pa_cons (pe_lst (pa_cons pe_bl (pa_cons pe_non (pa_cons pe_str (pa_cons (pe_lst (pa_cons pe_int pa_nil)) (pa_cons pe_dnewK (pa_cons (pe_make D.M D.G0 hr rfl R.mg_ D.b0 .nil pass0 (pa_cons pe_int (pa_cons pe_int pa_nil))) (pa_cons (pe_un un_neg pe_int) pa_nil)))))))) pa_nil))))
      (pss_cons (ps_par3 (i := 5) (j := 6) (l := 7) rfl scBent.nd rfl rfl rfl (by decide) (by decide) (by decide) rfl rfl rfl (pa_cons (pe_slice sl_list (pv 1) po_none (po_some (pv 2))) (pa_cons (pe_ix ix_list (pv 1) (pv 2) (fun _ _ => rfl)) (pa_cons (pe_slice sl_list (pv 1) (po_some (pe_op op_add (pv 2) pe_int)) po_none) pa_nil))) (by rfl))
      (pss_cons (ps_set (i := 8) scBent.nd rfl (Or.inl rfl) (pe_lst (pa_cons (pe_op op_cat (pe_op op_cat (pv 5) (pe_lst (pa_cons (pe_op op_cat (pe_op op_cat (pe_slice sl_list (pv 6) po_none (po_some (pv 3))) (pe_lst (pa_cons (pv 4) pa_nil))) (pe_slice sl_list (pv 6) (po_some (pe_op op_add (pv 3) pe_int)) po_none)) pa_nil))) (pv 7))
        (pa_cons (pe_op op_cat (pe_op op_cat (pv 5) (pe_lst (pa_cons (pe_op op_cat (pv 6) (pe_lst (pa_cons pe_int pa_nil))) pa_nil))) (pv 7)) (pa_cons (pe_op op_cat (pv 1) (pe_lst (pa_cons (pe_ix ix_list (pv 1) pe_int (fun _ _ => rfl)) pa_nil))) pa_nil)))))
      (pss_cons (ps_expr (pe_bm PySem.F.plainAttrs_list PySem.F.slot_list_extend PySem.F.type_list_extend mt_extend (pv 8) (pa_cons (pe_lst (pa_cons (pe_op op_cat (pe_op op_cat (pv 5) (pe_lst (pa_cons (pe_slice sl_list (pv 6) po_none (po_some (pe_un un_neg pe_int))) pa_nil))) (pv 7))
        (pa_cons (pe_op op_cat (pe_op op_cat (pv 5) (pe_lst (pa_cons (pe_callTy call_tuple_of (by rfl) B.tuple PyProof.Rows.boot_tuple (pa_cons (pv 6) pa_nil)) pa_nil))) (pv 7)) (pa_cons (pe_callTy call_tuple_of (by rfl) B.tuple PyProof.Rows.boot_tuple (pa_cons (pv 1) pa_nil)) pa_nil)))) pa_nil)))
      (pss_one (ps_ret (pe_op op_cat (pv 8) (pe_lst (pa_cons (pe_op op_cat (pv 5) (pv 7)) (pa_cons (pe_lst (pa_cons (pv 1) pa_nil)) (pa_cons (pv 6) (pa_cons (pe_op op_cat (pe_op op_cat (pv 5) (pe_lst (pa_cons pe_non pa_nil))) (pv 7)) pa_nil))))))))))))), ?_⟩
    obtain ⟨rows, rfl, lr, hr0⟩ := ht
    obtain ⟨tb, xs, rfl, e, nt, hxs⟩ := hv.lst_inv h0
    have lx : xs.length = m := by rw [(hxs _ h0).len]; exact lr
    refine ⟨_, rfl, _, rfl, tb, xs, rfl, .inl (SqL.of e), ⟨pot, _, rfl, by omega, by omega, hp, fun H1 d1 k1 p1 a1 b1 => ?_⟩⟩
    have hv1 := hv.keep h0 k1
    have e1 : H1 tb = some (.lst xs) := k1 _ _ (nt _ h0) e
    have hxs1 : AvsS C S H1 xs rows := fun X hX => (hxs X hX).keep2 k1 (hxs pot h0)
    have hx0 : xs[0]? = some (xs[0]'(by omega)) := List.getElem?_eq_getElem (by omega)
    obtain ⟨u0, hu0, av0⟩ := AvsS.get h0 hxs1 hx0
    obtain ⟨ts0, rfl, lt0, _⟩ := hr0 u0 (List.mem_of_getElem? hu0)
    obtain ⟨b0, ys, eb0, e0, _, hys⟩ := av0.lst_inv h0
    have ly : ys.length = n := by rw [(hys _ h0).len]; exact lt0
    refine ⟨_, rfl, _, rfl, tb, xs, _, _, rfl, rfl, SqL.of e1, atI_nat (j := 0) hx0, b0, ys, by rw [eb0], .inl (SqL.of e0), ⟨pot, _, rfl, by omega, by omega, p1, fun H2 d2 k2 p2 a2 b2 => ?_⟩⟩
    obtain ⟨r, rfl⟩ := Int.eq_ofNat_of_zero_le a1
    obtain ⟨c, rfl⟩ := Int.eq_ofNat_of_zero_le a2
    refine ⟨_, _, rfl, ?_⟩
    have hv2 := hv1.keep h0 k2
    have hS2 : ∀ X, S X → H2 X ≠ none := fun X hX => keep_some (k1.trans k2) p2 (hS X hX)
    -- something odd
    refine ⟨_, rfl, by show 1 ≤ sizeLine; decide, fun l1 n1' => ?_⟩
    have s1 := same_new (o := .lst [.int 1]) n1'
    refine fun l2 n2' => ?_
    have s2 := same_new (o := .dK []) n2'
    refine fun rm dx nm nd ne => madeR (b := 3) (by decide) (by unfold Sz; exact Nat.lt_of_lt_of_le (by decide : 3 < 2 ^ 2) (Nat.pow_le_pow_right (by decide) (by decide))) rm dx nm nd fun H3 s3 hrm => ⟨rfl, ?_⟩
    refine ⟨7, rfl, by show 7 ≤ sizeLine; decide, fun l nl => ?_⟩
    have s4 := same_new (o := .lst [.bl true, .non, .str "1", .ref l1, .ref l2, .ref rm, .int (-7)]) nl
    have s14 := s1.trans (s2.trans (s3.trans s4))
    have p3 := p2.same s14
    refine ⟨pot, l, _, rfl, (p2.same (s1.trans (s2.trans s3))).new nl, upd_same, (by show 1 ≤ 7; decide), (by show 7 ≤ 1000; decide), p3, fun H5 dd x kp p5 hx => ?_⟩
    have k5 := ((k1.trans k2).trans (Keep.of s14)).trans kp
    have odd : ∃ to, AvS C S H5 x to ∧ to.fin 6000 1 := by
      have f1 : AvS C S _ (.ref l1) (.lst [.int 1]) := AvS.mk (H := upd H2 l1 (.lst [.int 1])) (newS hS2 (Same.refl _) n1') upd_same (.cons (fun _ _ => .int 1) .nil)
      have f2 : AvS C S (upd (upd H2 l1 (.lst [.int 1])) l2 (.dK [])) (.ref l2) .dct := fun X hX => .dct (newS hS2 s1 n2' X hX) upd_same
      have f3 : AvS C S H3 (.ref rm) (.rat (low 1 3)) := fun X hX => .rat (newS hS2 (s1.trans s2) nm X hX) hrm
      match dd, hx with
      | 0, hx => exact Option.some.inj hx ▸ ⟨.bl true, fun _ _ => .bl true, ⟨trivial, by show 5 ≤ 6000; decide, Nat.zero_le _⟩⟩
      | 1, hx => exact Option.some.inj hx ▸ ⟨.non, fun _ _ => .non, ⟨trivial, by show 4 ≤ 6000; decide, Nat.zero_le _⟩⟩
      | 2, hx => exact Option.some.inj hx ▸ ⟨.str "1", fun _ _ => .str "1", ⟨trivial, by show (reprText "1").length ≤ 6000; decide +kernel, Nat.zero_le _⟩⟩
      | 3, hx => exact Option.some.inj hx ▸ ⟨_, (f1.same (s2.trans (s3.trans s4))).keep h0 kp, (T.fin.lst (T.fins.cons (intFin (i := 1) (small_sz (by decide))) .nil)).mono (by decide) (by decide)⟩
      | 4, hx => exact Option.some.inj hx ▸ ⟨_, (f2.same (s3.trans s4)).keep h0 kp, ⟨trivial, by show 2 ≤ 6000; decide, Nat.zero_le _⟩⟩
      | 5, hx => exact Option.some.inj hx ▸ ⟨_, (f3.same s4).keep h0 kp, (ratFin (low_ok (by decide) (small_sz (by decide)) (small_sz (by decide)))).mono (by decide) (Nat.zero_le _)⟩
      | 6, hx => exact Option.some.inj hx ▸ ⟨.int (-7), fun _ _ => .int _, (intFin (small_sz (by decide))).mono (by decide) (Nat.zero_le _)⟩
      | q + 7, hx => cases hx
    obtain ⟨to, hto, fto⟩ := odd
    have hv5 : AvS C S H5 (.ref tb) (.lst rows) := hv.keep h0 k5
    have hS5 : ∀ X, S X → H5 X ≠ none := fun X hX => keep_some k5 p5 (hS X hX)
    have hrow : rows[r]? = some (rows[r]'(by omega)) := List.getElem?_eq_getElem (by omega)
    obtain ⟨lts, elts, llt, hlts⟩ := hr0 _ (List.mem_of_getElem? hrow)
    rw [elts] at hrow
    have fl : T.fins 20008 0 lts := (T.fins.of fun x hx => (hlts x hx).2).mono (by rw [llt]; omega) (Nat.le_refl _)
    have fr : T.fins 80052 1 rows := (T.fins.of (n := 20011) (d := 1) fun x hx => by
      obtain ⟨ts', rfl, l', h'⟩ := hr0 x hx
      exact (T.fin.lst ((T.fins.of fun y hy => (h' y hy).2).mono (by rw [l']; omega) (Nat.le_refl _) : T.fins 20008 0 ts')).mono (by decide) (by decide)).mono (by rw [lr]; omega) (Nat.le_refl _)
    first
      | refine par3_ev (C := C) (S := S) (a := .lst (cutT rows none (some (r : Int)))) (b := .lst lts) (c := .lst (cutT rows (some ((r : Int) + 1)) none)) ?_ ?_
      | refine par3_evN (C := C) (S := S) (a := .lst (cutT rows none (some (r : Int)))) (b := .lst lts) (c := .lst (cutT rows (some ((r : Int) + 1)) none)) ?_ ?_
    · exact EvA.cons (Ev.slice h0 hS5 (Ev.var rfl hv5) (fun _ _ q => q) (fun _ _ q => ⟨_, rfl, _, rfl, q⟩)) (EvA.cons (Ev.ix (k := r) h0 rfl rfl hv5 hrow) (EvA.cons (Ev.slice h0 hS5 (Ev.var rfl hv5) (fun _ _ q => ⟨_, rfl, _, _, rfl, rfl, _, rfl, q⟩) (fun _ _ q => q)) EvA.nil))
    intro H6 u v' w' s6 hu hl hw
    have fA := fr.cut none (some (r : Int))
    have fR := fr.cut (some ((r : Int) + 1)) none
    have lA : (cutT rows none (some (r : Int))).length ≤ 4 := by unfold cutT; rw [List.length_take, List.length_drop]; omega
    have lR : (cutT rows (some ((r : Int) + 1)) none).length ≤ 4 := by unfold cutT; rw [List.length_take, List.length_drop]; omega
    generalize cutT rows none (some (r : Int)) = Ah at hu fA lA
    generalize cutT rows (some ((r : Int) + 1)) none = Re at hw fR lR
    have sz : ∀ {q : Nat}, q ≤ 100 → q ≤ sizeLine := fun h => Nat.le_trans h (by decide)
    have hS6 : ∀ X, S X → H6 X ≠ none := fun X hX z => hS5 X hX (s6.free z)
    have hv6 := hv5.same s6
    have ho6 := hto.same s6
    have l1' : ∀ lo hi, (cutT lts lo hi).length ≤ 4 := fun lo hi => by unfold cutT; rw [List.length_take, List.length_drop]; omega
    have hrow0 : rows[0]? = some (T.lst ts0) := hu0
    first
      | refine asg_lst (C := C) (S := S) (ts := [.lst ((Ah ++ [.lst ((cutT lts none (some (c : Int)) ++ [to]) ++ cutT lts (some ((c : Int) + 1)) none)]) ++ Re), .lst ((Ah ++ [.lst (lts ++ [.int 0])]) ++ Re), .lst (rows ++ [.lst ts0])]) h0 hS6 ?_ (by show 3 ≤ sizeLine; decide) ?_
      | refine asg_lstN (C := C) (S := S) (ts := [.lst ((Ah ++ [.lst ((cutT lts none (some (c : Int)) ++ [to]) ++ cutT lts (some ((c : Int) + 1)) none)]) ++ Re), .lst ((Ah ++ [.lst (lts ++ [.int 0])]) ++ Re), .lst (rows ++ [.lst ts0])]) h0 hS6 ?_ (by show 3 ≤ sizeLine; decide) ?_
    · refine EvA.cons (Ev.cat h0 hS6 (Ev.cat h0 hS6 (Ev.var rfl hu) (Ev.lst hS6 (EvA.cons (Ev.cat h0 hS6 (Ev.cat h0 hS6 (Ev.slice h0 hS6 (Ev.var rfl hl) (fun _ _ q => q) (fun _ _ q => ⟨_, rfl, _, rfl, q⟩)) (Ev.lst hS6 (EvA.cons (Ev.var rfl ho6) EvA.nil) ?_) ?_) (Ev.slice h0 hS6 (Ev.var rfl hl) (fun _ _ q => ⟨_, rfl, _, _, rfl, rfl, _, rfl, q⟩) (fun _ _ q => q)) ?_) EvA.nil) ?_) ?_) (Ev.var rfl hw) ?_)
        (EvA.cons (Ev.cat h0 hS6 (Ev.cat h0 hS6 (Ev.var rfl hu) (Ev.lst hS6 (EvA.cons (Ev.cat h0 hS6 (Ev.var rfl hl) (Ev.lst hS6 (EvA.cons (Ev.con fun _ _ => .int 0) EvA.nil) ?_) ?_) EvA.nil) ?_) ?_) (Ev.var rfl hw) ?_) (EvA.cons (Ev.cat h0 hS6 (Ev.var rfl hv6) (Ev.lst hS6 (EvA.cons (Ev.ix0 h0 rfl hv6 hrow0) EvA.nil) ?_) ?_) EvA.nil))
      all_goals (refine sz ?_; simp only [List.length_append, List.length_cons, List.length_nil]; (try have := l1' none (some (c : Int))); (try have := l1' (some ((c : Int) + 1)) none); omega)
    intro H7 Lf xs7 s7 nL6 hLf hxs7 neL
    have h0' : (fun X => S X ∨ X = Lf) pot := .inl h0
    have hS7 : ∀ X, (S X ∨ X = Lf) → H7 X ≠ none := fun X hX z => by
      rcases hX with h | rfl
      · exact hS6 X h (s7.free z)
      · rw [hLf] at z
        cases z
    have hu7 := (hu.fresh h0 nL6).same s7
    have hl7 := (hl.fresh h0 nL6).same s7
    have hw7 := (hw.fresh h0 nL6).same s7
    have hv7 := (hv6.fresh h0 nL6).same s7
    first
      | refine ext_ev (C := C) (S := S) (p0 := pot) (K := K) (L := Lf) (us := [.lst ((Ah ++ [.lst (cutT lts none (some (-1)))]) ++ Re), .lst ((Ah ++ [.tup lts]) ++ Re), .tup rows]) h0 ?_ hLf ?_ hxs7 neL (by show 6 ≤ sizeLine; decide) ?_
      | refine ext_evN (C := C) (S := S) (p0 := pot) (K := K) (L := Lf) (us := [.lst ((Ah ++ [.lst (cutT lts none (some (-1)))]) ++ Re), .lst ((Ah ++ [.tup lts]) ++ Re), .tup rows]) h0 ?_ hLf ?_ hxs7 neL (by show 6 ≤ sizeLine; decide) ?_
    · rfl
    · refine Ev.lst hS7 (EvA.cons (Ev.cat h0' hS7 (Ev.cat h0' hS7 (Ev.var rfl hu7) (Ev.lst hS7 (EvA.cons (Ev.slice h0' hS7 (Ev.var rfl hl7) (fun _ _ q => q) (fun _ _ q => ⟨1, rfl, _, rfl, q⟩)) EvA.nil) ?_) ?_) (Ev.var rfl hw7) ?_)
        (EvA.cons (Ev.cat h0' hS7 (Ev.cat h0' hS7 (Ev.var rfl hu7) (Ev.lst hS7 (EvA.cons (Ev.tupOf h0' hS7 (Ev.var rfl hl7)) EvA.nil) ?_) ?_) (Ev.var rfl hw7) ?_) (EvA.cons (Ev.tupOf h0' hS7 (Ev.var rfl hv7)) EvA.nil))) ?_
      all_goals (refine sz ?_; simp only [List.length_append, List.length_cons, List.length_nil]; omega)
    intro H8 xs8 k8 hL8 hxs8
    have kL : Keep Lf H7 H8 := k8
    have hu8 : AvS C S H8 u _ := fun X hX => (hu7.keep (pot := Lf) (.inr rfl) kL) X (.inl hX)
    have hl8 : AvS C S H8 v' _ := fun X hX => (hl7.keep (pot := Lf) (.inr rfl) kL) X (.inl hX)
    have hw8 : AvS C S H8 w' _ := fun X hX => (hw7.keep (pot := Lf) (.inr rfl) kL) X (.inl hX)
    have hv8 : AvS C S H8 (.ref tb) _ := fun X hX => (hv7.keep (pot := Lf) (.inr rfl) kL) X (.inl hX)
    have hf8 : AvS C S H8 (.ref Lf) _ := AvS.mk neL hL8 fun X hX => hxs8 X (.inl hX)
    have hS8 : ∀ X, S X → H8 X ≠ none := fun X hX z => by
      have := hS7 X (.inl hX)
      cases h : H7 X with
      | none => exact this h
      | some o =>
        rw [k8 X o (fun e => neL X hX e.symm) h] at z
        cases z
    have kk8 : Keep pot H H8 := fun b o nb h => by
      have h6 := (k5.trans (Keep.of s6)) b o nb h
      refine k8 b o (fun z => ?_) (s7 _ _ h6)
      rw [z, nL6] at h6
      cases h6
    have p8 : PotAt H8 pot := by
      obtain ⟨pa, pb, pe, pr⟩ := p5.same (s6.trans s7)
      exact ⟨pa, pb, k8 _ _ (fun z => neL pot h0 z.symm) pe, pr⟩
    first
      | refine ret_ev (C := C) (S := S) (Ev.cat (us := [.lst (Ah ++ Re), .lst [.lst rows], .lst lts, .lst ((Ah ++ [.non]) ++ Re)]) h0 hS8 (Ev.var ?_ hf8) (Ev.lst hS8 (EvA.cons (Ev.cat h0 hS8 (Ev.var ?_ hu8) (Ev.var ?_ hw8) ?_) (EvA.cons (Ev.lst hS8 (EvA.cons (Ev.var ?_ hv8) EvA.nil) ?_) (EvA.cons (Ev.var ?_ hl8) (EvA.cons (Ev.cat h0 hS8 (Ev.cat h0 hS8 (Ev.var ?_ hu8) (Ev.lst hS8 (EvA.cons (Ev.con fun _ _ => .non) EvA.nil) ?_) ?_) (Ev.var ?_ hw8) ?_) EvA.nil)))) ?_) ?_) ?_
      | refine ret_evN (C := C) (S := S) (Ev.cat (us := [.lst (Ah ++ Re), .lst [.lst rows], .lst lts, .lst ((Ah ++ [.non]) ++ Re)]) h0 hS8 (Ev.var ?_ hf8) (Ev.lst hS8 (EvA.cons (Ev.cat h0 hS8 (Ev.var ?_ hu8) (Ev.var ?_ hw8) ?_) (EvA.cons (Ev.lst hS8 (EvA.cons (Ev.var ?_ hv8) EvA.nil) ?_) (EvA.cons (Ev.var ?_ hl8) (EvA.cons (Ev.cat h0 hS8 (Ev.cat h0 hS8 (Ev.var ?_ hu8) (Ev.lst hS8 (EvA.cons (Ev.con fun _ _ => .non) EvA.nil) ?_) ?_) (Ev.var ?_ hw8) ?_) EvA.nil)))) ?_) ?_) ?_
    all_goals first
      | rfl
      | (refine sz ?_; simp only [List.length_append, List.length_cons, List.length_nil]; omega)
      | (refine sz ?_; simp only [List.length_append, List.length_cons, List.length_nil]; done)
      | (refine sz ?_; omega)
      | (refine sz ?_; decide)
      | skip
    intro H9 vv s9 hvv
    obtain ⟨Df, xs9, rfl, e9, n9, hs9⟩ := hvv.lst_inv h0
    refine k H9 Df xs9 _ (kk8.trans (Keep.of s9)) (p8.same s9) n9 e9 hs9 rfl ?_
    have fA2 : T.fins 80052 2 Ah := fA.mono (Nat.le_refl _) (by decide)
    have fR2 : T.fins 80052 2 Re := fR.mono (Nat.le_refl _) (by decide)
    have fl1 : T.fins 20008 1 lts := fl.mono (Nat.le_refl _) (by decide)
    have frow0 : (T.lst ts0).fin 20011 1 := by
      obtain ⟨ts', e', l', h'⟩ := hr0 (T.lst ts0) (List.mem_of_getElem? hu0)
      cases e'
      exact (T.fin.lst ((T.fins.of fun y hy => (h' y hy).2).mono (by rw [l']; omega) (Nat.le_refl _) : T.fins 20008 0 ts0)).mono (by decide) (by decide)
    intro q hq
    simp only [List.cons_append, List.nil_append, List.mem_cons, List.not_mem_nil, or_false] at hq
    rcases hq with rfl | rfl | rfl | rfl | rfl | rfl | rfl | rfl | rfl | rfl
    · exact (T.fin.lst ((fA2.app (T.fins.cons (T.fin.lst (((fl1.cut _ _).app (T.fins.cons fto T.fins.nil)).app (fl1.cut _ _))) T.fins.nil)).app fR2)).mono (by decide) (by decide)
    · exact (T.fin.lst ((fA2.app (T.fins.cons (T.fin.lst (fl1.app (T.fins.cons ((intFin (small_sz (by decide))).mono (Nat.le_refl _) (Nat.zero_le 1)) T.fins.nil))) T.fins.nil)).app fR2)).mono (by decide) (by decide)
    · exact (T.fin.lst (fr.app (T.fins.cons frow0 T.fins.nil))).mono (by decide) (by decide)
    · exact (T.fin.lst ((fA2.app (T.fins.cons (T.fin.lst (fl1.cut _ _)) T.fins.nil)).app fR2)).mono (by decide) (by decide)
    · exact (T.fin.lst ((fA2.app (T.fins.cons (T.fin.tup fl1) T.fins.nil)).app fR2)).mono (by decide) (by decide)
    · exact (T.fin.tup fr).mono (by decide) (by decide)
    · exact (T.fin.lst (fA.app fR)).mono (by decide) (by decide)
    · exact (T.fin.lst (T.fins.cons (T.fin.lst fr) T.fins.nil)).mono (by decide) (by decide)
    · exact (T.fin.lst fl).mono (by decide) (by decide)
    · exact (T.fin.lst ((fA.app (T.fins.cons (t := .non) (n := 4) ⟨trivial, Nat.le_refl _, Nat.zero_le _⟩ T.fins.nil)).app fR)).mono (by decide) (by decide)
end
end RQ

set_option Elab.async false
set_option linter.all false
set_option maxRecDepth 100000
set_option maxHeartbeats 4000000
/-! Tables, asked whether they are. -/
namespace RQ
open PySem L2
theorem raw0 {P : Program} {w : World} {K : PySem.W.Frag} {mg : Str → Option Value} {base : Heap} {k : Nat} {f : Addr} {fd : FuncData} {ps : List Str} {sp : Sp} (F : FnOk P w K mg base CX0 k f fd ps sp) (b : Binds K fd ps []) : FnR P w K mg base CX0 k f sp :=
  (F.raw b .nil).imp fun vs H Q E h => by simpa using h
def tCallKk (n : Nat) (sp : Sp) (gV : List V → List V → List V) (E : XK) (t tk : TA) : TE := fun σ H Q => t σ H fun vs H1 => tk σ H1 fun zs H2 => zs.length = n ∧ sp (gV vs zs) H2 Q E
section
variable {X : Cx} {CX : CXT} {k n : Nat} {f : Addr} {fd : FuncData} {ps ks : List Str} {sp : Sp} {E : XK} {x : Str} {p pos : Pos} {e : Expr} {es : List Expr} {kws : List Keyword} {t tk : TA} {g : List Value → List Value → List Value} {gV : List V → List V → List V}
/-- f(k = v, ..) -/
theorem pe_callK0 (F : FnOk X.prog X.w X.K X.mg X.base CX k f fd ps sp) (hr : Room k X.A) (hg : Gl X x) (hm : X.mg x = some (.ref f)) (hk : PySem.W.keepIn X.K (.ref f) = true) (hb : KBn X.K fd ps 0 ks g gV) (hx : Passes CX X E) (hkw : PK X kws tk)
    (hall : (backToKw pos (keywordEach kws X.env)).all (·.1.isSome) = true := by rfl) (hks : (backToKw pos (keywordEach kws X.env)).filterMap (·.1) = ks := by rfl) (hdb : (x == ("__debug__" : Str)) = false := by decide)
    (hpl : ((backTo pos (starEach [] X.env)).any (·.1) || (backToKw pos (keywordEach kws X.env)).any (·.1.isNone)) = false := by rfl) :
    PE X (.Call (.Name x p) [] kws pos) (tCallKk ks.length sp gV E tNil tk) := by
  refine ⟨fun pins s σ H Q I h => ?_⟩
  refine wpAny_Call_Name_kw (ld_glob I hg hm ?_ hdb)
  refine PySem.W.callWith_KW0 (h₀ := X.base) I.ok.mod.kin hk hall ?_ hpl
  refine thn (hkw.run pos pins s σ H _ I h) fun ws s2 ⟨zs, H2, I2, rz, l2, q2⟩ => ⟨I2.kIn, ?_⟩
  rw [hks]
  exact run_fnN (us := []) (vs := []) F hr hb hx I2 .nil rz rfl l2 q2
/-- f(e, .., k = v, ..) -/
theorem pe_callKp (F : FnOk X.prog X.w X.K X.mg X.base CX k f fd ps sp) (hr : Room k X.A) (hg : Gl X x) (hm : X.mg x = some (.ref f)) (hk : PySem.W.keepIn X.K (.ref f) = true) (hb : KBn X.K fd ps n ks g gV) (hx : Passes CX X E) (ha : PA X (e :: es) t) (hn : ∀ σ H Q, t σ H Q → t σ H fun vs H1 => vs.length = n ∧ Q vs H1) (hkw : PK X kws tk)
    (hall : (backToKw pos (keywordEach kws X.env)).all (·.1.isSome) = true := by rfl) (hks : (backToKw pos (keywordEach kws X.env)).filterMap (·.1) = ks := by rfl) (hdb : (x == ("__debug__" : Str)) = false := by decide)
    (he : starEach (e :: es) X.env = (false, eval e X.env) :: starEach es X.env := by rfl) (hpl : ((backTo pos (starEach (e :: es) X.env)).any (·.1) || (backToKw pos (keywordEach kws X.env)).any (·.1.isNone)) = false := by rfl) :
    PE X (.Call (.Name x p) (e :: es) kws pos) (tCallKk ks.length sp gV E t tk) := by
  refine ⟨fun pins s σ H Q I h => ?_⟩
  refine wpAny_Call_Name_kw (ld_glob I hg hm ?_ hdb)
  refine PySem.W.callWith_KW (h₀ := X.base) I.ok.mod.kin hk hall (thn (ha.run pos pins s σ H _ I (hn σ H _ h)) fun us s1 ⟨vs, H1, I1, r, l1, q⟩ => ?_) hpl he
  refine thn (hkw.run pos pins s1 σ H1 _ I1 q) fun ws s2 ⟨zs, H2, I2, rz, l2, q2⟩ => ⟨I2.kIn, ?_⟩
  rw [hks]
  exact run_fnN F hr hb hx I2 r rz l1 l2 q2
end
theorem ev_dct {C : Addr} {S : Addr → Prop} {σ : L2.St} {H : Hp} (hS : ∀ X, S X → H X ≠ none) : Ev C S tDNewK σ H .dct := fun H1 s1 Q q p np => q _ _ (same_new np) fun X hX => .dct (newS hS s1 np X hX) upd_same
theorem ne_str {x : Str} {H : Hp} {Q : VK} (q : Q (.bl false) H) : rNe (.str x) (.str x) H Q := by
  refine ⟨rfl, ?_⟩
  rw [decide_eq_true rfl]
  exact q
theorem bb_data (b : Bool) : (PyData.list [.bool b, .bool b]).showable = true ∧ (PyData.list [.bool b, .bool b]).hasDict = false ∧ (PyData.list [.bool b, .bool b]).depth ≤ 60 ∧ (PyData.list [.bool b, .bool b]).shown.length ≤ sizeLine := by
  cases b <;> exact ⟨rfl, rfl, by decide, by decide +kernel⟩
theorem int2 {i : Int} (h : i.natAbs < 1000) : (T.int i).fin 2000 0 := ⟨small_sz h, Nat.le_refl _, Nat.le_refl _⟩
section
variable {P : Program} {w : World} {K : PySem.W.Frag} {mg : Str → Option Value} {base : Heap} {C : Addr}
theorem tab_fin {m n : Nat} {t : T} (h : TabT m n t) (m4 : m ≤ 4) (n4 : n ≤ 4) : t.fin 80055 2 := by
  obtain ⟨rows, rfl, lr, hr⟩ := h
  refine (T.fin.lst ((T.fins.of (n := 20011) (d := 1) fun x hx => ?_).mono (by rw [lr]; omega) (Nat.le_refl _) : T.fins 80052 1 rows)).mono (Nat.le_refl _) (Nat.le_refl _)
  obtain ⟨ts, rfl, l, h'⟩ := hr x hx
  exact (T.fin.lst ((T.fins.of fun y hy => (h' y hy).2).mono (by rw [l]; omega) (Nat.le_refl _) : T.fins 20008 0 ts)).mono (by decide) (by decide)
/-- all that the tables' part leans on -/
structure TR (P : Program) (w : World) (K : PySem.W.Frag) (mg : Str → Option Value) (base : Heap) (C : Addr) where
  B : Blt mg
  L : Drw P w K mg base
  fT : Addr
  fdT : FuncData
  GT : FnOk P w K mg base CX0 5 fT fdT ["_law_pot_here", "_law_tall", "_law_wide"] (SpTable C)
  mT : mg "_law_table" = some (.ref fT)
  kT : PySem.W.keepIn K (.ref fT) = true
  bT : Binds K fdT ["_law_pot_here", "_law_tall", "_law_wide"] []
  fB : Addr
  fdB : FuncData
  GB : FnOk P w K mg base CX0 4 fB fdB ["_law_pot_here", "_law_table_here"] (SpBent C)
  mB : mg "_law_bent" = some (.ref fB)
  kB : PySem.W.keepIn K (.ref fB) = true
  bB : Binds K fdB ["_law_pot_here", "_law_table_here"] []
  fI : Addr
  fdI : FuncData
  GI : FnOk P w K mg base CX0 5 fI fdI ["value"] (SpP C (T.areLists 96 96))
  mI : mg "is_table" = some (.ref fI)
  kI : PySem.W.keepIn K (.ref fI) = true
  bI : Binds K fdI ["value"] []
  bkI : KBn K fdI ["value"] 0 ["value"] (fun us ws => us ++ ws) (fun vs zs => vs ++ zs)
  fJ : Addr
  fdJ : FuncData
  GJ : FnOk P w K mg base CX0 2 fJ fdJ ["_law_value", "_law_most"] (SpTab C)
  mJ : mg "_law_is_table" = some (.ref fJ)
  kJ : PySem.W.keepIn K (.ref fJ) = true
  bJ : Binds K fdJ ["_law_value", "_law_most"] []
  gR : Addr
  fdR : FuncData
  GR : FnOk P w K mg base CX0 1 gR fdR ["self"] (SpText C told)
  cR : OneC K C gR "__repr__"
  bR : Binds K fdR ["self"] []
structure SpTR (vs : List V) (H : Hp) (Q : VK) (E : XK) : Prop where
  ex : ∃ pot : Addr, vs = [.ref pot] ∧ PotAt H pot ∧ ∀ H', PotAt H' pot → Q (.bl true) H'
abbrev nTR : List Str := ["_law_pot_here", "_law_table_here", "_law_values", "_law_value", "_law_shown", "_law_due"]
theorem scTR : FnScope nTR ["_law_pot_here"] (defScope lTables) := ⟨rfl, rfl, rfl, by decide +kernel, rfl, by decide +kernel, by decide +kernel⟩
theorem ok_tablesRight {f : Addr} {fd : FuncData} (F : Fun K "_law_tables_right" "_law_tables_right" lTables f fd) (D : TR P w K mg base C) : FnG P w K mg base 9 f fd ["_law_pot_here"] SpTR := by
  refine okG F scTR (fun vs H Q E h => ?_) (fun cdv A outer s H vs Q E hgd hr h => ?_)
  · obtain ⟨pot, rfl, _⟩ := h
    rfl
  · obtain ⟨pot, rfl, hp, k⟩ := h
    have B := D.B
    have r1 : Room 1 _ := hr.mono (by decide)
    have r2 : Room 2 _ := hr.mono (by decide)
    have r4 : Room 4 _ := hr.mono (by decide)
    have r5 : Room 5 _ := hr.mono (by decide)
    have hu := hr.units
    refine ⟨_, PSs.nox (pss_cons (ps_set (i := 1) scTR.nd rfl (Or.inl rfl) (pe_call D.GT r5 (by rfl) D.mT D.kT D.bT .nil pass0 (pa_cons (pv 0) (pa_cons (pe_op op_add pe_int (pe_call D.L.G r1 (by rfl) D.L.m D.L.k D.L.b .nil pass0 (pa_cons (pv 0) (pa_cons pe_int pa_nil)))) (pa_cons (pe_op op_add pe_int (pe_call D.L.G r1 (by rfl) D.L.m D.L.k D.L.b .nil pass0 (pa_cons (pv 0) (pa_cons pe_int pa_nil)))) pa_nil)))))
      (pss_cons (ps_set (i := 2) scTR.nd rfl (Or.inl rfl) (pe_lst (pa_cons (pv 1) (pa_cons pe_non (pa_cons pe_int (pa_cons pe_bl (pa_cons pe_str (pa_cons pe_dnewK (pa_cons (pe_lst pa_nil) (pa_cons (pe_lst (pa_cons (pe_lst pa_nil) pa_nil)) (pa_cons (pe_op op_rep (pe_lst (pa_cons (pe_lst (pa_cons pe_int pa_nil)) pa_nil)) pe_int) (pa_cons (pe_op op_rep (pe_lst (pa_cons (pe_lst (pa_cons pe_int pa_nil)) pa_nil)) pe_int)
        (pa_cons (pe_lst (pa_cons (pe_op op_rep (pe_lst (pa_cons pe_int pa_nil)) pe_int) pa_nil)) (pa_cons (pe_lst (pa_cons (pe_op op_rep (pe_lst (pa_cons pe_int pa_nil)) pe_int) pa_nil)) (pa_cons (pe_tup (pa_cons (pe_tup (pa_cons pe_int pa_nil)) pa_nil)) pa_nil)))))))))))))))
      (pss_cons (ps_expr (pe_bm PySem.F.plainAttrs_list PySem.F.slot_list_extend PySem.F.type_list_extend mt_extend (pv 2) (pa_cons (pe_call D.GB r4 (by rfl) D.mB D.kB D.bB .nil pass0 (pa_cons (pv 0) (pa_cons (pv 1) pa_nil))) pa_nil)))
      (pss_cons (ps_for PassesOwn.never rfl (pi_list (pv 2)) (pg_name (i := 3) scTR.nd rfl (Or.inl rfl)) (pss_cons (ps_par (i := 4) (j := 5) rfl scTR.nd rfl rfl (by decide) rfl rfl (pa_cons (pe_callB (call_reprT (C := C) hgd D.cR (raw0 D.GR D.bR)) (by rfl) B.repr PyProof.Rows.boot_repr (pa_cons (pv 3) pa_nil)) (pa_cons (pe_call D.GJ r2 (by rfl) D.mJ D.kJ D.bJ .nil pass0 (pa_cons (pv 3) (pa_cons pe_int pa_nil))) pa_nil)) (by rfl))
        (pss_one (ps_if (pw_or (pt_cmpR op_ne (pe_callB (call_reprD hgd hu) (by rfl) B.repr PyProof.Rows.boot_repr (pa_cons (pe_lst (pa_cons (pe_call D.GI r5 (by rfl) D.mI D.kI D.bI .nil pass0 (pa_cons (pv 3) pa_nil)) (pa_cons (pe_callK0 (E := E0) D.GI r5 (by rfl) D.mI D.kI D.bkI pass0 (pk_cons (pv 3) pk_nil)) pa_nil))) pa_nil)) (pe_callB (call_reprD hgd hu) (by rfl) B.repr PyProof.Rows.boot_repr (pa_cons (pe_lst (pa_cons (pv 5) (pa_cons (pv 5) pa_nil))) pa_nil)) (nomark _))
          (pw_or1 (pt_cmpR op_ne (pe_callB (call_reprT (C := C) hgd D.cR (raw0 D.GR D.bR)) (by rfl) B.repr PyProof.Rows.boot_repr (pa_cons (pv 3) pa_nil)) (pv 4) (nomark _)))).pt (pss_one ps_never) pss_nil))))
      (pss_one (ps_ret pe_bl)))))), ?_⟩
    refine ⟨_, rfl, _, rfl, ⟨pot, 4, rfl, by decide, by decide, hp, fun H1 d1 k1 p1 a1 b1 => ?_⟩⟩
    refine ⟨_, _, rfl, rfl, ?_⟩
    refine ⟨_, rfl, ⟨pot, 4, rfl, by decide, by decide, p1, fun H2 d2 k2 p2 a2 b2 => ?_⟩⟩
    refine ⟨_, _, rfl, rfl, ?_⟩
    obtain ⟨r, rfl⟩ := Int.eq_ofNat_of_zero_le a1
    obtain ⟨c, rfl⟩ := Int.eq_ofNat_of_zero_le a2
    have e1 : (1 + (r : Int)) = ((1 + r : Nat) : Int) := by omega
    have e2 : (1 + (c : Int)) = ((1 + c : Nat) : Int) := by omega
    refine ⟨pot, 1 + r, 1 + c, by rw [← e1, ← e2]; rfl, by omega, by omega, p2, fun H3 v t k3 p3 hv ht => ?_⟩
    have np : ∀ {G : Hp}, PotAt G pot → G pot ≠ none := fun p z => by
      obtain ⟨_, _, f, _⟩ := p
      rw [f] at z
      cases z
    have ft := tab_fin ht (by omega) (by omega)
    have h0 : (fun X => X = pot) pot := rfl
    have hS3 : ∀ X, X = pot → H3 X ≠ none := fun X hX => hX ▸ np p3
    have hv3 : AvS C (fun X => X = pot) H3 v t := fun X hX => hX ▸ hv pot (np p2)
    have sz : ∀ {q : Nat}, q ≤ 1000 → q ≤ sizeLine := fun h => Nat.le_trans h (by decide)
    first
      | refine asg_lst (C := C) (S := fun X => X = pot) (ts := [t, .non, .int 0, .bl true, .str "1", .dct, .lst [], .lst [.lst []], .lst (List.replicate 96 [.lst [.int 1]]).flatten, .lst (List.replicate 97 [.lst [.int 1]]).flatten, .lst [.lst (List.replicate 96 [.int 0]).flatten], .lst [.lst (List.replicate 97 [.int 0]).flatten], .tup [.tup [.int 1]]]) h0 hS3 ?_ (sz (by show 13 ≤ 1000; decide)) ?_
      | refine asg_lstN (C := C) (S := fun X => X = pot) (ts := [t, .non, .int 0, .bl true, .str "1", .dct, .lst [], .lst [.lst []], .lst (List.replicate 96 [.lst [.int 1]]).flatten, .lst (List.replicate 97 [.lst [.int 1]]).flatten, .lst [.lst (List.replicate 96 [.int 0]).flatten], .lst [.lst (List.replicate 97 [.int 0]).flatten], .tup [.tup [.int 1]]]) h0 hS3 ?_ (sz (by show 13 ≤ 1000; decide)) ?_
    · have i1 : ∀ {τ : L2.St} (i : Int), Ev C (fun X => X = pot) (tC (.int i)) τ H3 (.int i) := fun i => Ev.con fun _ _ => .int i
      have l1 : ∀ {τ : L2.St} (i : Int), Ev C (fun X => X = pot) (tLst (tCons (tC (.int i)) tNil)) τ H3 (.lst [.int i]) := fun i => Ev.lst hS3 (EvA.cons (i1 i) EvA.nil) (sz (by show 1 ≤ 1000; decide))
      exact EvA.cons (Ev.var rfl hv3) (EvA.cons (Ev.con fun _ _ => .non) (EvA.cons (i1 0) (EvA.cons (Ev.con fun _ _ => .bl true) (EvA.cons (Ev.con fun _ _ => .str "1") (EvA.cons (ev_dct hS3) (EvA.cons (Ev.lst hS3 EvA.nil (sz (by show 0 ≤ 1000; decide))) (EvA.cons (Ev.lst hS3 (EvA.cons (Ev.lst hS3 EvA.nil (sz (by show 0 ≤ 1000; decide))) EvA.nil) (sz (by show 1 ≤ 1000; decide)))
        (EvA.cons (Ev.rep (k := 96) h0 hS3 (Ev.lst hS3 (EvA.cons (l1 1) EvA.nil) (sz (by show 1 ≤ 1000; decide))) (fun _ _ q => q) (by decide) (sz (by show 96 ≤ 1000; decide))) (EvA.cons (Ev.rep (k := 97) h0 hS3 (Ev.lst hS3 (EvA.cons (l1 1) EvA.nil) (sz (by show 1 ≤ 1000; decide))) (fun _ _ q => q) (by decide) (sz (by show 97 ≤ 1000; decide)))
        (EvA.cons (Ev.lst hS3 (EvA.cons (Ev.rep (k := 96) h0 hS3 (l1 0) (fun _ _ q => q) (by decide) (sz (by show 96 ≤ 1000; decide))) EvA.nil) (sz (by show 1 ≤ 1000; decide))) (EvA.cons (Ev.lst hS3 (EvA.cons (Ev.rep (k := 97) h0 hS3 (l1 0) (fun _ _ q => q) (by decide) (sz (by show 97 ≤ 1000; decide))) EvA.nil) (sz (by show 1 ≤ 1000; decide)))
        (EvA.cons (Ev.tup hS3 (EvA.cons (Ev.tup hS3 (EvA.cons (i1 1) EvA.nil) (sz (by show 1 ≤ 1000; decide))) EvA.nil) (sz (by show 1 ≤ 1000; decide))) EvA.nil))))))))))))
    intro H4 L xs4 s4 nL3 hL4 hxs4 neL
    have p4 := p3.same s4
    have hS4 : ∀ X, (X = pot ∨ X = L) → H4 X ≠ none := fun X hX => by
      rcases hX with rfl | rfl
      · exact np p4
      · rw [hL4]
        intro z
        cases z
    have hv4 := (AvS.fresh (S := fun X => X = pot) h0 hv3 nL3).same s4
    -- values.extend(bent(..))
    refine ⟨_, rfl, .inl ⟨rfl, _, SqL.of hL4⟩, ?_⟩
    refine ⟨_, rfl, _, rfl, ⟨pot, (fun X => X = pot ∨ X = L), v, t, 1 + r, 1 + c, rfl, p4, .inl rfl, hS4, hv4, ht, by omega, by omega, by omega, by omega, fun H5 Db xs5 ts5 k5 p5 n5 hD5 hxs5 len5 fin5 => ?_⟩⟩
    have hL5 : H5 L = some (.lst xs4) := k5 _ _ (neL pot rfl) hL4
    have hx5 : AvsS C (fun X => X = pot ∨ X = L) H5 xs4 _ := fun X hX => (hxs4 X hX).keep2 k5 (hxs4 pot (.inl rfl))
    have len4 := (hxs4 pot (.inl rfl)).len
    have len5' := (hxs5 pot (.inl rfl)).len
    refine ⟨L, Db, xs4, xs5, rfl, rfl, hL5, hD5, sz (by rw [len4, len5', len5]; show 13 + 10 ≤ 1000; decide), ?_⟩
    have hL6 : upd H5 L (.lst (xs4 ++ xs5)) L = some (.lst (xs4 ++ xs5)) := upd_same
    have hats : Ats C (upd H5 L (.lst (xs4 ++ xs5))) (xs4 ++ xs5) (_ ++ ts5) := (((hx5 pot (.inl rfl)).keep2 Keep.set (hx5 L (.inr rfl))).app ((hxs5 pot (.inl rfl)).keep2 Keep.set (hxs5 L (.inr rfl)))).at
    have p6 : PotAt (upd H5 L (.lst (xs4 ++ xs5))) pot := p5.other (neL pot rfl)
    have fin : ∀ y ∈ ([t, .non, .int 0, .bl true, .str "1", .dct, .lst [], .lst [.lst []], .lst (List.replicate 96 [T.lst [.int 1]]).flatten, .lst (List.replicate 97 [T.lst [.int 1]]).flatten, .lst [.lst (List.replicate 96 [T.int 0]).flatten], .lst [.lst (List.replicate 97 [T.int 0]).flatten], .tup [.tup [.int 1]]] : List T) ++ ts5, y.fin 300000 3 := by
      intro y hy
      have one : (T.lst [.int 1]).fin 2005 1 := (T.fin.lst (T.fins.cons (int2 (i := 1) (by decide)) T.fins.nil)).mono (by decide) (by decide)
      rcases List.mem_append.mp hy with hy | hy
      · simp only [List.mem_cons, List.not_mem_nil, or_false] at hy
        rcases hy with rfl | rfl | rfl | rfl | rfl | rfl | rfl | rfl | rfl | rfl | rfl | rfl | rfl
        · exact ft.mono (by decide) (by decide)
        · exact ⟨trivial, by show 4 ≤ 300000; decide, Nat.zero_le _⟩
        · exact (int2 (by decide)).mono (by decide) (by decide)
        · exact ⟨trivial, by show 5 ≤ 300000; decide, Nat.zero_le _⟩
        · exact ⟨trivial, by show (reprText "1").length ≤ 300000; decide +kernel, Nat.zero_le _⟩
        · exact ⟨trivial, by show 2 ≤ 300000; decide, Nat.zero_le _⟩
        · exact (T.fin.lst (d := 0) T.fins.nil).mono (by decide) (by decide)
        · exact (T.fin.lst (T.fins.cons (T.fin.lst (d := 0) T.fins.nil) T.fins.nil)).mono (by decide) (by decide)
        · exact (T.fin.lst ((T.fins.cons one T.fins.nil).rep 96)).mono (by decide) (by decide)
        · exact (T.fin.lst ((T.fins.cons one T.fins.nil).rep 97)).mono (by decide) (by decide)
        · exact (T.fin.lst (T.fins.cons (T.fin.lst ((T.fins.cons (int2 (i := 0) (by decide)) T.fins.nil).rep 96)) T.fins.nil)).mono (by decide) (by decide)
        · exact (T.fin.lst (T.fins.cons (T.fin.lst ((T.fins.cons (int2 (i := 0) (by decide)) T.fins.nil).rep 97)) T.fins.nil)).mono (by decide) (by decide)
        · exact (T.fin.tup (T.fins.cons (T.fin.tup (T.fins.cons (int2 (i := 1) (by decide)) T.fins.nil)) T.fins.nil)).mono (by decide) (by decide)
      · exact fin5 y hy
    generalize upd H5 L (.lst (xs4 ++ xs5)) = H6 at hL6 hats p6 ⊢
    generalize ([t, .non, .int 0, .bl true, .str "1", .dct, .lst [], .lst [.lst []], .lst (List.replicate 96 [T.lst [.int 1]]).flatten, .lst (List.replicate 97 [T.lst [.int 1]]).flatten, .lst [.lst (List.replicate 96 [T.int 0]).flatten], .lst [.lst (List.replicate 97 [T.int 0]).flatten], .tup [.tup [.int 1]]] : List T) ++ ts5 = ys at hats fin
    generalize xs4 ++ xs5 = zs at hL6 hats
    -- each of them
    refine ⟨_, rfl, L, rfl, ⟨_, SqL.of hL6⟩, for_list (K := K) (a := L) (xs := zs) (fun i σ H' => ∃ v3 v4 v5, σ = [some (.ref pot), some v, some (.ref L), v3, v4, v5] ∧ Same H6 H')
      ⟨none, none, none, rfl, Same.refl _⟩ (fun i σ H' _ ⟨_, _, _, _, ss⟩ => ss.seq (SqL.of hL6)) ?_ ?_⟩
    · rintro i x σ H' hx ⟨v3, v4, v5, rfl, ss⟩
      obtain ⟨y, hy, ha⟩ := RN.at_of hats.paired i x hx
      have fy := fin y (List.mem_of_getElem? hy)
      have wy : y.wt ≤ sizeLine := Nat.le_trans fy.wt (by decide)
      have ry : Room (y.depth + 3) _ := hr.mono (by have := fy.dp; omega)
      have hx0 := ha.same ss
      refine ⟨_, rfl, x, y, rfl, hx0, fy.ok, wy, ry, ?_⟩
      refine ⟨_, rfl, ⟨x, y, 96, rfl, hx0, wy, fun Ha sa => ?_⟩⟩
      refine ⟨_, _, rfl, ?_⟩
      refine ⟨_, rfl, ⟨x, y, rfl, hx0.same sa, wy, fun Hb sb => ?_⟩⟩
      refine ⟨_, rfl, rfl, ⟨x, y, rfl, hx0.same (sa.trans sb), wy, fun Hc sc => ?_⟩⟩
      obtain ⟨g1, g2, g3, g4⟩ := bb_data (y.areLists 96 96)
      refine ⟨two_line, fun l1 n1 => ⟨l1, .list [.bool (y.areLists 96 96), .bool (y.areLists 96 96)], rfl, .lst (SqL.of upd_same) (.cons (.bl _) (.cons (.bl _) .nil)), g1, g2, g3, g4, ?_⟩⟩
      refine ⟨_, rfl, _, rfl, two_line, fun l2 n2 => ⟨l2, .list [.bool (y.areLists 96 96), .bool (y.areLists 96 96)], rfl, .lst (SqL.of upd_same) (.cons (.bl _) (.cons (.bl _) .nil)), g1, g2, g3, g4, ne_str ⟨false, rfl, iteF ?_⟩⟩⟩
      have sd := (sa.trans (sb.trans sc)).trans ((same_new (o := .lst [.bl (y.areLists 96 96), .bl (y.areLists 96 96)]) n1).trans (same_new (o := .lst [.bl (y.areLists 96 96), .bl (y.areLists 96 96)]) n2))
      exact ⟨_, rfl, x, y, rfl, hx0.same sd, fy.ok, wy, ry, _, rfl, ne_str ⟨false, rfl, iteF ⟨_, _, _, rfl, ss.trans sd⟩⟩⟩
    · rintro σ H' ⟨v3, v4, v5, rfl, ss⟩
      exact k _ (p6.same ss)
end
end RQ

set_option Elab.async false
set_option linter.all false
set_option maxRecDepth 100000
set_option maxHeartbeats 4000000
/-! Helpers, asked whether they are. -/
namespace RQ
open PySem L2
section
variable {P : Program} {w : World} {K : PySem.W.Frag} {mg : Str → Option Value} {base : Heap} {C CT : Addr}
/-- .. and the helpers' part -/
structure HR (P : Program) (w : World) (K : PySem.W.Frag) (mg : Str → Option Value) (base : Heap) (C CT : Addr) extends TR P w K mg base C where
  RT : TCls K mg CT
  f0 : Addr
  fd0 : FuncData
  MT : Mk K CT f0
  G0 : FnOk P w K mg base CX0 7 f0 fd0 ["self", "tables"] (SpTI C CT)
  b0 : Binds K fd0 ["self", "tables"] []
  fH : Addr
  fdH : FuncData
  GH : FnOk P w K mg base CX0 6 fH fdH ["team", "value"] (SpIsH C CT)
  mH : mg "is_helpers" = some (.ref fH)
  kH : PySem.W.keepIn K (.ref fH) = true
  bH : Binds K fdH ["team", "value"] []
  bkH : KBn K fdH ["team", "value"] 0 ["value", "team"] (fun us ws => us ++ ws.reverse) (fun vs zs => vs ++ zs.reverse)
  fO : Addr
  fdO : FuncData
  GO : FnOk P w K mg base CX0 3 fO fdO ["_law_value", "_law_many"] (SpHelp C)
  mO : mg "_law_are_helpers" = some (.ref fO)
  kO : PySem.W.keepIn K (.ref fO) = true
  bO : Binds K fdO ["_law_value", "_law_many"] []
  fS : Addr
  fdS : FuncData
  GS : FnOk P w K mg base CX0 8 fS fdS ["team", "helpers"] (SpSides C CT)
  mS : mg "sides" = some (.ref fS)
  kS : PySem.W.keepIn K (.ref fS) = true
  bkS : KBn K fdS ["team", "helpers"] 1 ["helpers"] (fun us ws => us ++ ws) (fun vs zs => vs ++ zs)
theorem tab_lists {m n : Nat} {mo : Int} {t : T} (h : TabT m n t) (m1 : 1 ≤ m) (mm : (m : Int) ≤ mo) (n1 : 1 ≤ n) (nm : (n : Int) ≤ mo) : t.areLists mo mo = true ∧ t.len = m ∧ t.hd.len = n := by
  obtain ⟨rows, rfl, lr, hr⟩ := h
  have rl : ∀ x ∈ rows, x.len = n := fun x hx => by
    obtain ⟨ts, rfl, l, _⟩ := hr x hx
    exact l
  have hd : (T.lst rows).hd.len = n := by
    cases rows with
    | nil => exact absurd lr (by show ¬ 0 = m; omega)
    | cons x xs => exact rl x (.head _)
  refine ⟨?_, lr, hd⟩
  unfold T.areLists
  simp only [Bool.and_eq_true, decide_eq_true_eq, List.all_eq_true]
  have e : (T.lst rows).len = m := lr
  refine ⟨rfl, ⟨by rw [e]; omega, by rw [e]; exact mm⟩, fun x hx => ?_, fun x hx => by rw [rl x hx, hd]⟩
  have lx := rl x hx
  obtain ⟨ts, rfl, l, h'⟩ := hr x hx
  unfold T.isNums
  simp only [Bool.and_eq_true, decide_eq_true_eq, List.all_eq_true]
  exact ⟨rfl, ⟨by rw [lx]; omega, by rw [lx]; exact nm⟩, fun y hy => (h' y hy).1⟩
theorem tabs_ok {m n : Nat} {lo hi mo : Int} {ts : List T} (h : ∀ t ∈ ts, TabT m n t) (m1 : 1 ≤ m) (mm : (m : Int) ≤ mo) (n1 : 1 ≤ n) (nm : (n : Int) ≤ mo) (l1 : 1 ≤ ts.length) (l2 : lo ≤ (ts.length : Int)) (l3 : (ts.length : Int) ≤ hi) : (T.lst ts).areTables lo hi mo = true := by
  have all := fun t ht => tab_lists (h t ht) m1 mm n1 nm
  have hd : (T.lst ts).hd.len = m ∧ (T.lst ts).hd.hd.len = n := by
    cases ts with
    | nil => exact absurd l1 (by show ¬ 1 ≤ 0; decide)
    | cons x xs => exact (all x (.head _)).2
  unfold T.areTables
  simp only [Bool.and_eq_true, decide_eq_true_eq, List.all_eq_true]
  exact ⟨rfl, ⟨l2, l3⟩, fun t ht => (all t ht).1, fun t ht => ⟨by rw [(all t ht).2.1, hd.1], by rw [(all t ht).2.2, hd.2]⟩⟩
/-- name = Cls([e for x in range(n)]) -/
theorem mk_av {pot : Addr} {i j n : Nat} {Pt : T → Prop} {te tn : TE} {σ : L2.St} {H : Hp} {r : TS} {D : Ends} {sp : Sp} {E : XK} (hp : PotAt H pot) (hn : n ≤ 1000) (hr : ∀ Q' : VK, Q' (.int n) H → tn σ H Q')
    (step : ∀ (i : Nat) (H' : Hp) (Q' : VK), PotAt H' pot → Keep pot H H' → (∀ H4 v t, Keep pot H' H4 → PotAt H4 pot → New' C H' H4 v t → Pt t → Q' v H4) → te ((wipe σ [j]).set j (some (.int (0 + (i : Nat))))) H' Q')
    (hd : ∀ H' L ts, Keep pot H H' → PotAt H' pot → New' C H H' (.ref L) (.lst ts) → ts.length = n → (∀ t ∈ ts, Pt t) → ∀ x dx, H' x = none → H' dx = none → dx ≠ x → sp [.ref x, .ref L] (upd (upd H' dx (.own x)) x (.ins CT dx [])) (fun v H2 => v = .non ∧ r D (σ.set i (some (.ref x))) H2) E) :
    tSeq (tAsg (tMake CT sp [] E (tCons (tLc (iRng1 (tCons tn tNil)) (gName j) tYes te [j]) tNil)) (gName i)) r D σ H :=
  lcr_av (C := C) (Q := fun v H1 => ∀ x dx, H1 x = none → H1 dx = none → dx ≠ x → sp (.ref x :: ([v] ++ [])) (upd (upd H1 dx (.own x)) x (.ins CT dx [])) (fun u H2 => u = .non ∧ r D (σ.set i (some (.ref x))) H2) E) hp hn hr step hd
theorem mk_avN {pot : Addr} {i j n : Nat} {Pt : T → Prop} {te tn : TE} {σ : L2.St} {H : Hp} {r : TS} {D : Ends} {sp : Sp} {E : XK} {rt : VK} {bk ct : L2.St → Hp → Prop} (hp : PotAt H pot) (hn : n ≤ 1000) (hr : ∀ Q' : VK, Q' (.int n) H → tn σ H Q')
    (step : ∀ (i : Nat) (H' : Hp) (Q' : VK), PotAt H' pot → Keep pot H H' → (∀ H4 v t, Keep pot H' H4 → PotAt H4 pot → New' C H' H4 v t → Pt t → Q' v H4) → te ((wipe σ [j]).set j (some (.int (0 + (i : Nat))))) H' Q')
    (hd : ∀ H' L ts, Keep pot H H' → PotAt H' pot → New' C H H' (.ref L) (.lst ts) → ts.length = n → (∀ t ∈ ts, Pt t) → ∀ x dx, H' x = none → H' dx = none → dx ≠ x → sp [.ref x, .ref L] (upd (upd H' dx (.own x)) x (.ins CT dx [])) (fun v H2 => v = .non ∧ r D (σ.set i (some (.ref x))) H2) E) :
    tNext { nx := tSeq (tAsg (tMake CT sp [] E (tCons (tLc (iRng1 (tCons tn tNil)) (gName j) tYes te [j]) tNil)) (gName i)) r D, rt := rt, bk := bk, ct := ct } σ H := mk_av (C := C) (Pt := Pt) hp hn hr step hd
/-- name = [e for x in range(n)] -/
theorem asg_lcr {pot : Addr} {i j n : Nat} {Pt : T → Prop} {te tn : TE} {σ : L2.St} {H : Hp} {r : TS} {D : Ends} (hp : PotAt H pot) (hn : n ≤ 1000) (hr : ∀ Q' : VK, Q' (.int n) H → tn σ H Q')
    (step : ∀ (i : Nat) (H' : Hp) (Q' : VK), PotAt H' pot → Keep pot H H' → (∀ H4 v t, Keep pot H' H4 → PotAt H4 pot → New' C H' H4 v t → Pt t → Q' v H4) → te ((wipe σ [j]).set j (some (.int (0 + (i : Nat))))) H' Q')
    (hd : ∀ H' L ts, Keep pot H H' → PotAt H' pot → New' C H H' (.ref L) (.lst ts) → ts.length = n → (∀ t ∈ ts, Pt t) → r D (σ.set i (some (.ref L))) H') :
    tSeq (tAsg (tLc (iRng1 (tCons tn tNil)) (gName j) tYes te [j]) (gName i)) r D σ H :=
  lcr_av (C := C) (Q := fun v H1 => r D (σ.set i (some v)) H1) hp hn hr step hd
theorem asg_lcrN {pot : Addr} {i j n : Nat} {Pt : T → Prop} {te tn : TE} {σ : L2.St} {H : Hp} {r : TS} {D : Ends} {rt : VK} {bk ct : L2.St → Hp → Prop} (hp : PotAt H pot) (hn : n ≤ 1000) (hr : ∀ Q' : VK, Q' (.int n) H → tn σ H Q')
    (step : ∀ (i : Nat) (H' : Hp) (Q' : VK), PotAt H' pot → Keep pot H H' → (∀ H4 v t, Keep pot H' H4 → PotAt H4 pot → New' C H' H4 v t → Pt t → Q' v H4) → te ((wipe σ [j]).set j (some (.int (0 + (i : Nat))))) H' Q')
    (hd : ∀ H' L ts, Keep pot H H' → PotAt H' pot → New' C H H' (.ref L) (.lst ts) → ts.length = n → (∀ t ∈ ts, Pt t) → r D (σ.set i (some (.ref L))) H') :
    tNext { nx := tSeq (tAsg (tLc (iRng1 (tCons tn tNil)) (gName j) tYes te [j]) (gName i)) r D, rt := rt, bk := bk, ct := ct } σ H := asg_lcr (C := C) (Pt := Pt) hp hn hr step hd
theorem app_ev {C p0 : Addr} {S : Addr → Prop} {σ : L2.St} {H : Hp} {K : PySem.W.Frag} {i : Nat} {te : TE} {ts : List T} {t : T} {L : Addr} {xs : List V} {D : Ends} (h0 : S p0) (hi : σ[i]? = some (some (.ref L))) (hL : H L = some (.lst xs)) (h : Ev C (fun X => S X ∨ X = L) te σ H t) (hs : AvsS C (fun X => S X ∨ X = L) H xs ts) (hz : ts.length < sizeLine)
    (hd : ∀ H' xs', (∀ b o, b ≠ L → H b = some o → H' b = some o) → H' L = some (.lst xs') → AvsS C (fun X => S X ∨ X = L) H' xs' (ts ++ [t]) → D.nx σ H') : tDrop (tBM K "list" rAppend (tVar i) (tCons te tNil)) D σ H := by
  refine ⟨_, hi, .inl ⟨rfl, _, SqL.of hL⟩, ?_⟩
  refine h H (Same.refl _) _ fun H1 v s1 hv => ?_
  refine ⟨L, xs, v, rfl, rfl, s1 _ _ hL, by rw [(hs p0 (.inl h0)).len]; exact hz, ?_⟩
  refine hd _ (xs ++ [v]) (fun b o nb e' => by rw [upd_ne nb]; exact s1 _ _ e') upd_same fun X hX => ?_
  have a1 : Avs C L H1 xs ts := (hs L (.inr rfl)).same s1
  have b1 : Av C L H1 v t := hv L (.inr rfl)
  exact (((hs X hX).same s1).keep2 Keep.set a1).app (.cons ((hv X hX).keep2 Keep.set b1) .nil)
theorem pair_bound {t : T} {m : Int} (h : t.areTables m m 24 = true) (n : 1 ≤ t.items.length) : t.hd.len ≤ 24 ∧ t.hd.hd.len ≤ 24 := by
  obtain ⟨_, h2⟩ := tabs_of h
  have mem : ∀ {t : T}, 1 ≤ t.items.length → t.hd ∈ t.items := fun {t} n => by
    unfold T.hd
    cases h : t.items with
    | nil => rw [h] at n; exact absurd n (by show ¬ 1 ≤ 0; decide)
    | cons x xs => exact .head _
  have h3 := h2 _ (mem n)
  have h4 := isl_of h3
  unfold T.areLists at h3
  simp only [Bool.and_eq_true, decide_eq_true_eq, List.all_eq_true] at h3
  have h5 := h3.2.2.1 _ (mem h4.2.1)
  unfold T.isNums at h5
  simp only [Bool.and_eq_true, decide_eq_true_eq] at h5
  refine ⟨?_, ?_⟩
  · have := h3.2.1.2
    omega
  · have := h5.2.1.2
    omega
theorem pair_data (a b : Nat) (ha : a ≤ 24) (hb : b ≤ 24) : (PyData.tuple [.int (a : Int), .int (b : Int)]).showable = true ∧ (PyData.tuple [.int (a : Int), .int (b : Int)]).hasDict = false ∧ (PyData.tuple [.int (a : Int), .int (b : Int)]).depth ≤ 60 ∧ (PyData.tuple [.int (a : Int), .int (b : Int)]).shown.length ≤ sizeLine := by
  have h : ∀ a b : Fin 25, (PyData.tuple [.int (a.val : Int), .int (b.val : Int)]).showable = true ∧ (PyData.tuple [.int (a.val : Int), .int (b.val : Int)]).hasDict = false ∧ (PyData.tuple [.int (a.val : Int), .int (b.val : Int)]).depth ≤ 60 ∧ (PyData.tuple [.int (a.val : Int), .int (b.val : Int)]).shown.length ≤ 1000 := by decide +kernel
  obtain ⟨h1, h2, h3, h4⟩ := h ⟨a, by omega⟩ ⟨b, by omega⟩
  exact ⟨h1, h2, h3, Nat.le_trans h4 (by decide)⟩
abbrev nHR : List Str := ["_law_pot_here", "_law_many", "_law_tall", "_law_wide", "_law_team", "_law_near", "_law_far", "_law_helpers", "_law_at", "_law_values", "_law_table_here", "_law_value", "_law_shown", "_law_due", "_law_turn"]
theorem scHR : FnScope nHR ["_law_pot_here"] (defScope lHelpers) := ⟨rfl, rfl, rfl, by decide +kernel, rfl, by decide +kernel, by decide +kernel⟩
theorem ok_helpersRight {f : Addr} {fd : FuncData} (F : Fun K "_law_helpers_right" "_law_helpers_right" lHelpers f fd) (D : HR P w K mg base C CT) : FnG P w K mg base 9 f fd ["_law_pot_here"] SpTR := by
  refine okG F scHR (fun vs H Q E h => ?_) (fun cdv A outer s H vs Q E hgd hr h => ?_)
  · obtain ⟨pot, rfl, _⟩ := h
    rfl
  · obtain ⟨pot, rfl, hp, k⟩ := h
    have B := D.B
    have r1 : Room 1 _ := hr.mono (by decide)
    have r2 : Room 2 _ := hr.mono (by decide)
    have r3 : Room 3 _ := hr.mono (by decide)
    have r4 : Room 4 _ := hr.mono (by decide)
    have r5 : Room 5 _ := hr.mono (by decide)
    have r6 : Room 6 _ := hr.mono (by decide)
    have hu := hr.units
    refine ⟨_, PSs.nox (pss_cons (ps_asg (pe_tup (pa_cons (pe_op op_add pe_int (pe_call D.L.G r1 (by rfl) D.L.m D.L.k D.L.b .nil pass0 (pa_cons (pv 0) (pa_cons pe_int pa_nil)))) (pa_cons (pe_op op_add pe_int (pe_call D.L.G r1 (by rfl) D.L.m D.L.k D.L.b .nil pass0 (pa_cons (pv 0) (pa_cons pe_int pa_nil)))) (pa_cons (pe_op op_add pe_int (pe_call D.L.G r1 (by rfl) D.L.m D.L.k D.L.b .nil pass0 (pa_cons (pv 0) (pa_cons pe_int pa_nil)))) pa_nil)))) (pg_tup rfl (pgs_cons (pg_name (i := 1) scHR.nd rfl (Or.inl rfl)) (pgs_cons (pg_name (i := 2) scHR.nd rfl (Or.inr rfl)) (pgs_cons (pg_name (i := 3) scHR.nd rfl (Or.inr rfl)) pgs_nil)))))
      (pss_cons (ps_set (i := 4) scHR.nd rfl (Or.inl rfl) (pe_make D.MT D.G0 hr rfl D.RT.mg_ D.b0 .nil pass0 (pa_cons (pe_lc (own := [("_law_turn", 14)]) (g := gName 14) (tt := tYes) rfl scHR.nd (pi_range1 (by rfl) B.range (pa_cons (pv 1) pa_nil)) (blkOk_by (own := [("_law_turn", 14)]) (N := nHR) (sc := defScope lHelpers) (by decide +kernel)) (fun _ _ _ _ _ => pg_name (i := 14) scHR.nd rfl (Or.inl rfl)) (fun _ _ _ _ _ => pts_nil)
        (fun _ _ _ _ _ => pe_call D.GT r5 (by rfl) D.mT D.kT D.bT .nil pass0 (pa_cons (pv 0) (pa_cons (pv 2) (pa_cons (pv 3) pa_nil))))) pa_nil)))
      (pss_cons (ps_asg (pe_tup (pa_cons (pe_op op_add pe_int (pe_call D.L.G r1 (by rfl) D.L.m D.L.k D.L.b .nil pass0 (pa_cons (pv 0) (pa_cons pe_int pa_nil)))) (pa_cons (pe_op op_add pe_int (pe_call D.L.G r1 (by rfl) D.L.m D.L.k D.L.b .nil pass0 (pa_cons (pv 0) (pa_cons pe_int pa_nil)))) pa_nil))) (pg_tup rfl (pgs_cons (pg_name (i := 5) scHR.nd rfl (Or.inr rfl)) (pgs_cons (pg_name (i := 6) scHR.nd rfl (Or.inr rfl)) pgs_nil))))
      (pss_cons (ps_setLc (own := [("_law_turn", 14)]) (g := gName 14) (tt := tYes) rfl scHR.nd (i := 7) rfl rfl (by rfl) (pi_range1 (by rfl) B.range (pa_cons (pv 1) pa_nil)) (blkOk_by (own := [("_law_turn", 14)]) (N := nHR) (sc := defScope lHelpers) (by decide +kernel)) (fun _ _ _ _ _ => pg_name (i := 14) scHR.nd rfl (Or.inl rfl)) (fun _ _ _ _ _ => pts_nil)
        (fun _ _ _ _ _ => pe_call D.GT r5 (by rfl) D.mT D.kT D.bT .nil pass0 (pa_cons (pv 0) (pa_cons (pv 5) (pa_cons (pv 6) pa_nil)))))
      (pss_cons (ps_set (i := 8) scHR.nd rfl (Or.inl rfl) (pe_call D.L.G r1 (by rfl) D.L.m D.L.k D.L.b .nil pass0 (pa_cons (pv 0) (pa_cons (pv 1) pa_nil))))
      (pss_cons (ps_set (i := 9) scHR.nd rfl (Or.inl rfl) (pe_lst (pa_cons (pv 7) (pa_cons (pe_callTy call_tuple_of (by rfl) B.tuple PyProof.Rows.boot_tuple (pa_cons (pv 7) pa_nil)) (pa_cons (pe_slice sl_list (pv 7) (po_some pe_int) po_none) (pa_cons (pe_op op_cat (pv 7) (pe_slice sl_list (pv 7) po_none (po_some pe_int))) (pa_cons pe_non (pa_cons pe_int (pa_cons pe_dnewK (pa_cons (pe_lst pa_nil) (pa_cons pe_str pa_nil)))))))))))
      (pss_cons (ps_expr (pe_bm PySem.F.plainAttrs_list PySem.F.slot_list_extend PySem.F.type_list_extend mt_extend (pv 9) (pa_cons (pe_lst (pa_cons (pe_op op_rep (pe_lst (pa_cons (pe_lst (pa_cons (pe_op op_rep (pe_lst (pa_cons pe_int pa_nil)) pe_int) pa_nil)) pa_nil)) (pv 1)) (pa_cons (pe_op op_rep (pe_lst (pa_cons (pe_op op_rep (pe_lst (pa_cons (pe_lst (pa_cons pe_int pa_nil)) pa_nil)) pe_int) pa_nil)) (pv 1)) (pa_cons (pe_op op_rep (pe_lst (pa_cons (pe_lst (pa_cons (pe_op op_rep (pe_lst (pa_cons pe_int pa_nil)) pe_int) pa_nil)) pa_nil)) (pv 1)) pa_nil)))) pa_nil)))
      (pss_cons (ps_expr (pe_bm PySem.F.plainAttrs_list PySem.F.slot_list_extend PySem.F.type_list_extend mt_extend (pv 9) (pa_cons (pe_lst (pa_cons (pe_op op_rep (pe_lst (pa_cons (pe_op op_rep (pe_lst (pa_cons (pe_lst (pa_cons pe_int pa_nil)) pa_nil)) pe_int) pa_nil)) (pv 1)) (pa_cons (pe_op op_rep (pe_lst (pa_cons (pe_lst (pa_cons pe_int pa_nil)) pa_nil)) (pv 1)) (pa_cons (pe_op op_rep (pe_lst (pa_cons pe_int pa_nil)) (pv 1)) (pa_cons (pe_lst (pa_cons (pv 7) pa_nil)) pa_nil))))) pa_nil)))
      (pss_cons (ps_for PassesOwn.never rfl (pi_list (pe_call D.GB r4 (by rfl) D.mB D.kB D.bB .nil pass0 (pa_cons (pv 0) (pa_cons (pe_ix ix_list (pv 7) (pv 8) (fun _ _ => rfl)) pa_nil)))) (pg_name (i := 10) scHR.nd rfl (Or.inl rfl)) (pss_one (ps_expr (pe_bm PySem.F.plainAttrs_list PySem.F.slot_list_append PySem.F.type_list_append mt_append (pv 9) (pa_cons (pe_op op_cat (pe_op op_cat (pe_slice sl_list (pv 7) po_none (po_some (pv 8))) (pe_lst (pa_cons (pv 10) pa_nil))) (pe_slice sl_list (pv 7) (po_some (pe_op op_add (pv 8) pe_int)) po_none)) pa_nil)))))
      (pss_cons (ps_for PassesOwn.never rfl (pi_list (pv 9)) (pg_name (i := 11) scHR.nd rfl (Or.inl rfl)) (pss_cons (ps_par (i := 12) (j := 13) rfl scHR.nd rfl rfl (by decide) rfl rfl (pa_cons (pe_callB (call_reprT (C := C) hgd D.cR (raw0 D.GR D.bR)) (by rfl) B.repr PyProof.Rows.boot_repr (pa_cons (pv 11) pa_nil)) (pa_cons (pe_call D.GO r3 (by rfl) D.mO D.kO D.bO .nil pass0 (pa_cons (pv 11) (pa_cons (pv 1) pa_nil))) pa_nil)) (by rfl))
        (pss_cons (ps_if (pw_or (pt_cmpR op_ne (pe_callB (call_reprD hgd hu) (by rfl) B.repr PyProof.Rows.boot_repr (pa_cons (pe_lst (pa_cons (pe_call D.GH r6 (by rfl) D.mH D.kH D.bH .nil pass0 (pa_cons (pv 4) (pa_cons (pv 11) pa_nil))) (pa_cons (pe_callK0 (E := E0) D.GH r6 (by rfl) D.mH D.kH D.bkH pass0 (pk_cons (pv 11) (pk_cons (pv 4) pk_nil))) pa_nil))) pa_nil)) (pe_callB (call_reprD hgd hu) (by rfl) B.repr PyProof.Rows.boot_repr (pa_cons (pe_lst (pa_cons (pv 13) (pa_cons (pv 13) pa_nil))) pa_nil)) (nomark _))
          (pw_or1 (pt_cmpR op_ne (pe_callB (call_reprT (C := C) hgd D.cR (raw0 D.GR D.bR)) (by rfl) B.repr PyProof.Rows.boot_repr (pa_cons (pv 11) pa_nil)) (pv 12) (nomark _)))).pt (pss_one ps_never) pss_nil)
        (pss_one (ps_if (pw_and (pt_val (pv 13)) (pw_and1 (pt_cmpR op_ne (pe_callB (call_reprD hgd hu) (by rfl) B.repr PyProof.Rows.boot_repr (pa_cons (pe_callKp (n := 1) (E := E0) D.GS hr (by rfl) D.mS D.kS D.bkS pass0 (pa_cons (pv 4) pa_nil) (fun _ _ _ q => let ⟨v, a, b⟩ := q; ⟨v, a, rfl, b⟩) (pk_cons (pv 11) pk_nil)) pa_nil)) (pe_callB (call_reprD hgd hu) (by rfl) B.repr PyProof.Rows.boot_repr (pa_cons (pe_tup (pa_cons (pe_callB (r := rLn K) call_len_seq (by rfl) B.len PySem.boot_len (pa_cons (PE.or (pe_ix (r := rIxL K) ix_list (pv 11) pe_int (fun _ _ => rfl)) (pe_ix (r := rIxT K) ix_tup (pv 11) pe_int (fun _ _ => rfl))) pa_nil))
          (pa_cons (pe_callB (r := rLn K) call_len_seq (by rfl) B.len PySem.boot_len (pa_cons (PE.or (pe_ix (r := rIxL K) ix_list (PE.or (pe_ix (r := rIxL K) ix_list (pv 11) pe_int (fun _ _ => rfl)) (pe_ix (r := rIxT K) ix_tup (pv 11) pe_int (fun _ _ => rfl))) pe_int (fun _ _ => rfl)) (pe_ix (r := rIxT K) ix_tup (PE.or (pe_ix (r := rIxL K) ix_list (pv 11) pe_int (fun _ _ => rfl)) (pe_ix (r := rIxT K) ix_tup (pv 11) pe_int (fun _ _ => rfl))) pe_int (fun _ _ => rfl))) pa_nil)) pa_nil))) pa_nil)) (nomark _)))).pt (pss_one ps_never) pss_nil)))))
      (pss_one (ps_ret pe_bl)))))))))))), ?_⟩
    have np : ∀ {G : Hp}, PotAt G pot → G pot ≠ none := fun p z => by
      obtain ⟨_, _, f, _⟩ := p
      rw [f] at z
      cases z
    have sz : ∀ {q : Nat}, q ≤ 1000 → q ≤ sizeLine := fun h => Nat.le_trans h (by decide)
    -- many, tall, wide
    refine ⟨_, rfl, ⟨pot, 4, rfl, by decide, by decide, hp, fun H1 d1 k1 p1 a1 b1 => ?_⟩⟩
    refine ⟨_, _, rfl, rfl, ?_⟩
    refine ⟨_, rfl, ⟨pot, 3, rfl, by decide, by decide, p1, fun H2 d2 k2 p2 a2 b2 => ?_⟩⟩
    refine ⟨_, _, rfl, rfl, ?_⟩
    refine ⟨_, rfl, ⟨pot, 3, rfl, by decide, by decide, p2, fun H3 d3 k3 p3 a3 b3 => ?_⟩⟩
    refine ⟨_, _, rfl, rfl, by show 3 ≤ sizeLine; decide, fun tp ntp => ?_⟩
    refine ⟨tp, _, rfl, SqT.of upd_same, rfl, _, _, rfl, _, _, rfl, _, _, rfl, rfl, ?_⟩
    obtain ⟨m', rfl⟩ := Int.eq_ofNat_of_zero_le a1
    obtain ⟨q', rfl⟩ := Int.eq_ofNat_of_zero_le a2
    obtain ⟨r', rfl⟩ := Int.eq_ofNat_of_zero_le a3
    have em : (1 + (m' : Int)) = ((1 + m' : Nat) : Int) := by omega
    have eq : (1 + (q' : Int)) = ((1 + q' : Nat) : Int) := by omega
    have er : (1 + (r' : Int)) = ((1 + r' : Nat) : Int) := by omega
    generalize hM : 1 + m' = M at em
    generalize hT : 1 + q' = Tl at eq
    generalize hW : 1 + r' = W at er
    have p4 := p3.same (same_new (o := .tup [.int (1 + (m' : Int)), .int (1 + (q' : Int)), .int (1 + (r' : Int))]) ntp)
    have hM4 : 1 ≤ M ∧ M ≤ 4 := by omega
    have hT3 : 1 ≤ Tl ∧ Tl ≤ 3 := by omega
    have hW3 : 1 ≤ W ∧ W ≤ 3 := by omega
    -- the team
    first
      | refine mk_av (C := C) (CT := CT) (pot := pot) (j := 14) (n := M) (Pt := TabT Tl W) p4 (by omega) ?_ ?_ ?_
      | refine mk_avN (C := C) (CT := CT) (pot := pot) (j := 14) (n := M) (Pt := TabT Tl W) p4 (by omega) ?_ ?_ ?_
    · intro Q' q
      exact ⟨_, rfl, by rw [← em] at q; exact q⟩
    · intro i H' Q' pp kk kq
      exact ⟨_, rfl, _, rfl, _, rfl, ⟨pot, Tl, W, by rw [← eq, ← er]; rfl, by omega, by omega, pp, fun H4 v t k4 p4 hv ht => kq H4 v t k4 p4 hv ht⟩⟩
    intro H5 L5 ts5 k5 p5 hv5 len5 ht5 x dx nx nd ne
    have sG5 : Same H5 (upd (upd H5 dx (.own x)) x (.ins CT dx [])) := fun b o e => by
      rw [upd_ne (ne_of_none e nx), upd_ne (ne_of_none e nd)]
      exact e
    have f5 : (T.lst ts5).fin 330000 3 := (T.fin.lst (T.fins.of fun y hy => tab_fin (ht5 y hy) (by omega) (by omega))).mono (by rw [len5]; omega) (by decide)
    refine ⟨x, dx, .ref L5, .lst ts5, rfl, ((hv5 pot (np p4)).at).same sG5, Nat.le_trans f5.wt (by decide), tabs_ok ht5 (by omega) (by omega) (by omega) (by omega) (by omega) (by omega) (by omega), upd_same, fun H6 L6 zs6 nL6 s6 hL6 hl6 => ⟨rfl, ?_⟩⟩
    have hx6 : H6 x = some (.ins CT dx []) := s6 _ _ upd_same
    have neL6 : L6 ≠ x := ne_of hL6 hx6 (by intro z; cases z)
    have team : TeamAt CT (upd H6 x (.ins CT dx [("_tables", .ref L6)])) x M := ⟨dx, L6, zs6, upd_same, by rw [upd_ne neL6]; exact hL6, hl6.trans len5⟩
    have s56 : Same H5 (upd H6 x (.ins CT dx [("_tables", .ref L6)])) := fun b o e => by
      rw [upd_ne (ne_of_none e nx)]
      exact s6 _ _ (sG5 _ _ e)
    have p6 := p5.same s56
    have neLp : L6 ≠ pot := p5.new (sG5.free nL6)
    have nexp : x ≠ pot := p5.new nx
    have hxT : (upd H6 x (.ins CT dx [("_tables", .ref L6)])) x = some (.ins CT dx [("_tables", .ref L6)]) := upd_same
    have hLT : (upd H6 x (.ins CT dx [("_tables", .ref L6)])) L6 = some (.lst zs6) := by rw [upd_ne neL6]; exact hL6
    generalize upd H6 x (.ins CT dx [("_tables", .ref L6)]) = G6 at team s56 p6 hxT hLT ⊢
    clear sG5 s6 hL6 hx6 neL6 s56 nx nd ne
    -- near, far
    refine ⟨_, rfl, ⟨pot, 3, rfl, by decide, by decide, p6, fun H7 d7 k7 p7 a7 b7 => ?_⟩⟩
    refine ⟨_, _, rfl, rfl, ?_⟩
    refine ⟨_, rfl, ⟨pot, 3, rfl, by decide, by decide, p7, fun H8 d8 k8 p8 a8 b8 => ?_⟩⟩
    refine ⟨_, _, rfl, rfl, by show 2 ≤ sizeLine; decide, fun tq ntq => ?_⟩
    refine ⟨tq, _, rfl, SqT.of upd_same, rfl, _, _, rfl, _, _, rfl, rfl, ?_⟩
    obtain ⟨n', rfl⟩ := Int.eq_ofNat_of_zero_le a7
    obtain ⟨f', rfl⟩ := Int.eq_ofNat_of_zero_le a8
    have en : (1 + (n' : Int)) = ((1 + n' : Nat) : Int) := by omega
    have ef : (1 + (f' : Int)) = ((1 + f' : Nat) : Int) := by omega
    generalize hN : 1 + n' = Nr at en
    generalize hF : 1 + f' = Fr' at ef
    have hN3 : 1 ≤ Nr ∧ Nr ≤ 3 := by omega
    have hF3 : 1 ≤ Fr' ∧ Fr' ≤ 3 := by omega
    have tpot : ∀ {H' : Hp}, Keep pot G6 H' → TeamAt CT H' x M := fun kk => ⟨dx, L6, zs6, kk _ _ nexp hxT, kk _ _ neLp hLT, hl6.trans len5⟩
    have p8' := p8.same (same_new (o := .tup [.int (1 + (n' : Int)), .int (1 + (f' : Int))]) ntq)
    have k68 := (k7.trans k8).trans (Keep.of (same_new (o := .tup [.int (1 + (n' : Int)), .int (1 + (f' : Int))]) ntq))
    -- helpers
    first
      | refine asg_lcr (C := C) (pot := pot) (j := 14) (n := M) (Pt := TabT Nr Fr') p8' (by omega) ?_ ?_ ?_
      | refine asg_lcrN (C := C) (pot := pot) (j := 14) (n := M) (Pt := TabT Nr Fr') p8' (by omega) ?_ ?_ ?_
    · intro Q' q
      exact ⟨_, rfl, by rw [← em] at q; exact q⟩
    · intro i H' Q' pp kk kq
      exact ⟨_, rfl, _, rfl, _, rfl, ⟨pot, Nr, Fr', by rw [← en, ← ef]; rfl, by omega, by omega, pp, fun H4 v t k4 p4 hv ht => kq H4 v t k4 p4 hv ht⟩⟩
    intro H9 Lh hs k9 p9 hv9 len9 ht9
    have hh9 : AvS C (fun X => X = pot) H9 (.ref Lh) (.lst hs) := fun X hX => hX ▸ hv9 pot (np p8')
    -- at
    refine ⟨_, rfl, _, rfl, ⟨pot, _, rfl, by omega, by omega, p9, fun HA dA kA pA aA bA => ?_⟩⟩
    obtain ⟨a', rfl⟩ := Int.eq_ofNat_of_zero_le aA
    have hhA := AvS.keep (S := fun X => X = pot) (pot := pot) rfl hh9 kA
    have kTA := ((k68.trans k9).trans kA)
    have h0 : (fun X => X = pot) pot := rfl
    have hSA : ∀ X, X = pot → HA X ≠ none := fun X hX => hX ▸ np pA
    have cl : ∀ lo hi, (cutT hs lo hi).length ≤ 4 := fun lo hi => by unfold cutT; rw [List.length_take, List.length_drop]; omega
    -- values
    first
      | refine asg_lst (C := C) (S := fun X => X = pot) (ts := [.lst hs, .tup hs, .lst (cutT hs (some 1) none), .lst (hs ++ cutT hs none (some 1)), .non, .int 5, .dct, .lst [], .str ""]) h0 hSA ?_ (sz (by show 9 ≤ 1000; decide)) ?_
      | refine asg_lstN (C := C) (S := fun X => X = pot) (ts := [.lst hs, .tup hs, .lst (cutT hs (some 1) none), .lst (hs ++ cutT hs none (some 1)), .non, .int 5, .dct, .lst [], .str ""]) h0 hSA ?_ (sz (by show 9 ≤ 1000; decide)) ?_
    · exact EvA.cons (Ev.var rfl hhA) (EvA.cons (Ev.tupOf h0 hSA (Ev.var rfl hhA)) (EvA.cons (Ev.slice h0 hSA (Ev.var rfl hhA) (fun _ _ q => ⟨_, rfl, q⟩) (fun _ _ q => q)) (EvA.cons (Ev.cat h0 hSA (Ev.var rfl hhA) (Ev.slice h0 hSA (Ev.var rfl hhA) (fun _ _ q => q) (fun _ _ q => ⟨_, rfl, q⟩)) (sz (by have := cl none (some 1); omega)))
        (EvA.cons (Ev.con fun _ _ => .non) (EvA.cons (Ev.con fun _ _ => .int 5) (EvA.cons (ev_dct hSA) (EvA.cons (Ev.lst hSA EvA.nil (sz (by show 0 ≤ 1000; decide))) (EvA.cons (Ev.con fun _ _ => .str "") EvA.nil))))))))
    intro HB Lv xsB sB nLA hLB hxsB neL
    have h0' : (fun X => X = pot ∨ X = Lv) pot := .inl rfl
    have hhB := (AvS.fresh (S := fun X => X = pot) h0 hhA nLA).same sB
    have pB := pA.same sB
    have hSB : ∀ X, (X = pot ∨ X = Lv) → HB X ≠ none := fun X hX => by
      rcases hX with rfl | rfl
      · exact np pB
      · rw [hLB]
        intro z
        cases z
    have mny : ∀ {τ : L2.St} {i : Int}, τ[1]? = some (some (.int i)) → i = (M : Int) → ∀ (G : Hp) (Q : VK), Q (.int M) G → tVar 1 τ G Q := fun h1 h2 G Q q => ⟨_, h1, by rw [h2]; exact q⟩
    -- two extends
    first
      | refine ext_ev (C := C) (S := fun X => X = pot) (p0 := pot) (K := K) (L := Lv) (us := [.lst (List.replicate M [T.lst [.lst (List.replicate 24 [T.int 1]).flatten]]).flatten, .lst (List.replicate M [T.lst (List.replicate 24 [T.lst [.int 1]]).flatten]).flatten, .lst (List.replicate M [T.lst [.lst (List.replicate 25 [T.int 1]).flatten]]).flatten]) h0 ?_ hLB ?_ hxsB neL (sz (by show 12 ≤ 1000; decide)) ?_
      | refine ext_evN (C := C) (S := fun X => X = pot) (p0 := pot) (K := K) (L := Lv) (us := [.lst (List.replicate M [T.lst [.lst (List.replicate 24 [T.int 1]).flatten]]).flatten, .lst (List.replicate M [T.lst (List.replicate 24 [T.lst [.int 1]]).flatten]).flatten, .lst (List.replicate M [T.lst [.lst (List.replicate 25 [T.int 1]).flatten]]).flatten]) h0 ?_ hLB ?_ hxsB neL (sz (by show 12 ≤ 1000; decide)) ?_
    · rfl
    · have i1 : ∀ {τ : L2.St} (i : Int), Ev C (fun X => X = pot ∨ X = Lv) (tC (.int i)) τ HB (.int i) := fun i => Ev.con fun _ _ => .int i
      have l1 : ∀ {τ : L2.St} (i : Int), Ev C (fun X => X = pot ∨ X = Lv) (tLst (tCons (tC (.int i)) tNil)) τ HB (.lst [.int i]) := fun i => Ev.lst hSB (EvA.cons (i1 i) EvA.nil) (sz (by show 1 ≤ 1000; decide))
      have o1 : (1 : Nat) ≤ sizeLine := sz (by decide)
      exact Ev.lst hSB (EvA.cons (Ev.rep (k := M) h0' hSB (Ev.lst hSB (EvA.cons (Ev.lst hSB (EvA.cons (Ev.rep (k := 24) h0' hSB (l1 1) (fun _ _ q => q) (by decide) (sz (by show 24 ≤ 1000; decide))) EvA.nil) o1) EvA.nil) o1) (mny rfl em) (by omega) (sz (by show 1 * M ≤ 1000; omega)))
        (EvA.cons (Ev.rep (k := M) h0' hSB (Ev.lst hSB (EvA.cons (Ev.rep (k := 24) h0' hSB (Ev.lst hSB (EvA.cons (l1 1) EvA.nil) o1) (fun _ _ q => q) (by decide) (sz (by show 24 ≤ 1000; decide))) EvA.nil) o1) (mny rfl em) (by omega) (sz (by show 1 * M ≤ 1000; omega)))
        (EvA.cons (Ev.rep (k := M) h0' hSB (Ev.lst hSB (EvA.cons (Ev.lst hSB (EvA.cons (Ev.rep (k := 25) h0' hSB (l1 1) (fun _ _ q => q) (by decide) (sz (by show 25 ≤ 1000; decide))) EvA.nil) o1) EvA.nil) o1) (mny rfl em) (by omega) (sz (by show 1 * M ≤ 1000; omega))) EvA.nil))) (sz (by show 3 ≤ 1000; decide))
    intro HC xsC kC hLC hxsC
    have hhC := AvS.keep (S := fun X => X = pot ∨ X = Lv) (pot := Lv) (.inr rfl) hhB kC
    have pC : PotAt HC pot := by
      obtain ⟨pa, pb, pe, pr⟩ := pB
      exact ⟨pa, pb, kC _ _ (fun z => neL pot rfl z.symm) pe, pr⟩
    have hSC : ∀ X, (X = pot ∨ X = Lv) → HC X ≠ none := fun X hX => by
      rcases hX with rfl | rfl
      · exact np pC
      · rw [hLC]
        intro z
        cases z
    first
      | refine ext_ev (C := C) (S := fun X => X = pot) (p0 := pot) (K := K) (L := Lv) (us := [.lst (List.replicate M [T.lst (List.replicate 25 [T.lst [.int 1]]).flatten]).flatten, .lst (List.replicate M [T.lst [.int 1]]).flatten, .lst (List.replicate M [T.int 1]).flatten, .lst [.lst hs]]) h0 ?_ hLC ?_ hxsC neL (sz (by show 16 ≤ 1000; decide)) ?_
      | refine ext_evN (C := C) (S := fun X => X = pot) (p0 := pot) (K := K) (L := Lv) (us := [.lst (List.replicate M [T.lst (List.replicate 25 [T.lst [.int 1]]).flatten]).flatten, .lst (List.replicate M [T.lst [.int 1]]).flatten, .lst (List.replicate M [T.int 1]).flatten, .lst [.lst hs]]) h0 ?_ hLC ?_ hxsC neL (sz (by show 16 ≤ 1000; decide)) ?_
    · rfl
    · have i1 : ∀ {τ : L2.St} (i : Int), Ev C (fun X => X = pot ∨ X = Lv) (tC (.int i)) τ HC (.int i) := fun i => Ev.con fun _ _ => .int i
      have l1 : ∀ {τ : L2.St} (i : Int), Ev C (fun X => X = pot ∨ X = Lv) (tLst (tCons (tC (.int i)) tNil)) τ HC (.lst [.int i]) := fun i => Ev.lst hSC (EvA.cons (i1 i) EvA.nil) (sz (by show 1 ≤ 1000; decide))
      have o1 : (1 : Nat) ≤ sizeLine := sz (by decide)
      exact Ev.lst hSC (EvA.cons (Ev.rep (k := M) h0' hSC (Ev.lst hSC (EvA.cons (Ev.rep (k := 25) h0' hSC (Ev.lst hSC (EvA.cons (l1 1) EvA.nil) o1) (fun _ _ q => q) (by decide) (sz (by show 25 ≤ 1000; decide))) EvA.nil) o1) (mny rfl em) (by omega) (sz (by show 1 * M ≤ 1000; omega)))
        (EvA.cons (Ev.rep (k := M) h0' hSC (Ev.lst hSC (EvA.cons (l1 1) EvA.nil) o1) (mny rfl em) (by omega) (sz (by show 1 * M ≤ 1000; omega)))
        (EvA.cons (Ev.rep (k := M) h0' hSC (l1 1) (mny rfl em) (by omega) (sz (by show 1 * M ≤ 1000; omega)))
        (EvA.cons (Ev.lst hSC (EvA.cons (Ev.var rfl hhC) EvA.nil) o1) EvA.nil)))) (sz (by show 4 ≤ 1000; decide))
    intro HD xsD kD hLD hxsD
    have hhD := AvS.keep (S := fun X => X = pot ∨ X = Lv) (pot := Lv) (.inr rfl) hhC kD
    have pD : PotAt HD pot := by
      obtain ⟨pa, pb, pe, pr⟩ := pC
      exact ⟨pa, pb, kD _ _ (fun z => neL pot rfl z.symm) pe, pr⟩
    -- bent ones
    obtain ⟨Ld, xsH, eLd, eH, nH, hsH⟩ := hhD.lst_inv (S := fun X => X = pot ∨ X = Lv) (p := pot) (.inl rfl)
    cases eLd
    have lH : xsH.length = hs.length := (hsH pot (.inl rfl)).len
    have ha4 : a' < xsH.length := by omega
    obtain ⟨tH, htH, avH⟩ := AvsS.get (S := fun X => X = pot ∨ X = Lv) (p0 := pot) (.inl rfl) hsH (List.getElem?_eq_getElem ha4)
    have hSD : ∀ X, (X = pot ∨ X = Lv) → HD X ≠ none := fun X hX => by
      rcases hX with rfl | rfl
      · exact np pD
      · rw [hLD]
        intro z
        cases z
    refine ⟨_, rfl, _, rfl, _, rfl, Lh, xsH, _, _, rfl, rfl, SqL.of eH, atI_nat (List.getElem?_eq_getElem ha4), ⟨pot, (fun X => X = pot ∨ X = Lv), _, tH, Nr, Fr', rfl, pD, .inl rfl, hSD, avH, ht9 _ (List.mem_of_getElem? htH), by omega, by omega, by omega, by omega, fun HE Db xsE tsE kE pE nE hDE hxsE lenE finE => ?_⟩⟩
    have hLE : HE Lv = some (.lst xsD) := kE _ _ (neL pot rfl) hLD
    have hxsE' := fun X hX => (hxsD X hX).keep2 kE (hxsD pot (.inl rfl))
    have hhE := AvS.keep (S := fun X => X = pot ∨ X = Lv) (pot := pot) (.inl rfl) hhD kE
    have fH : T.fins 330000 2 hs := (T.fins.of fun y hy => tab_fin (ht9 y hy) (by omega) (by omega)).mono (by rw [len9]; omega) (Nat.le_refl _)
    refine ⟨Db, rfl, ⟨_, SqL.of hDE⟩, for_list (K := K) (a := Db) (xs := xsE) (fun i σ H' => ∃ w2 w3 w5 w6 w10 w11 w12 w13 w14, σ = [some (.ref pot), some (.int (M : Int)), w2, w3, some (.ref x), w5, w6, some (.ref Lh), some (.int (a' : Int)), some (.ref Lv), w10, w11, w12, w13, w14] ∧ Keep Lv HE H' ∧ ∃ zs ts, H' Lv = some (.lst zs) ∧ AvsS C (fun X => X = pot ∨ X = Lv) H' zs ts ∧ ts.length = 16 + i ∧ ∀ y ∈ ts, y.fin 2000000 4)
      ⟨_, _, _, _, _, _, _, _, _, by rw [← em]; rfl, Keep.refl _ _, _, _, hLE, hxsE', rfl, ?_⟩ (fun i σ H' _ h => ?_) ?_ ?_⟩
    · intro y hy
      have one : (T.lst [.int 1]).fin 2005 1 := (T.fin.lst (T.fins.cons (int2 (i := 1) (by decide)) T.fins.nil)).mono (by decide) (by decide)
      have i1 : T.fins 2002 0 [.int 1] := T.fins.cons (int2 (i := 1) (by decide)) T.fins.nil
      have o1 : T.fins 2007 1 [.lst [.int 1]] := T.fins.cons one T.fins.nil
      have rp : ∀ {n d : Nat} {ts : List T}, T.fins n d ts → n ≤ 60000 → T.fins 240000 d (List.replicate M ts).flatten := fun h hn => (h.rep M).mono (by have := Nat.mul_le_mul hn (show M ≤ 4 by omega); omega) (Nat.le_refl _)
      simp only [List.cons_append, List.nil_append, List.mem_cons, List.not_mem_nil, or_false] at hy
      rcases hy with rfl | rfl | rfl | rfl | rfl | rfl | rfl | rfl | rfl | rfl | rfl | rfl | rfl | rfl | rfl | rfl
      · exact (T.fin.lst fH).mono (by decide) (by decide)
      · exact (T.fin.tup fH).mono (by decide) (by decide)
      · exact (T.fin.lst (fH.cut _ _)).mono (by decide) (by decide)
      · exact (T.fin.lst (fH.app (fH.cut _ _))).mono (by decide) (by decide)
      · exact ⟨trivial, by show 4 ≤ 2000000; decide, Nat.zero_le _⟩
      · exact (int2 (by decide)).mono (by decide) (by decide)
      · exact ⟨trivial, by show 2 ≤ 2000000; decide, Nat.zero_le _⟩
      · exact (T.fin.lst (d := 0) T.fins.nil).mono (by decide) (by decide)
      · exact ⟨trivial, by show (reprText "").length ≤ 2000000; decide +kernel, Nat.zero_le _⟩
      · exact (T.fin.lst (rp (T.fins.cons (T.fin.lst (T.fins.cons (T.fin.lst (i1.rep 24)) T.fins.nil)) T.fins.nil) (by decide))).mono (by decide) (by decide)
      · exact (T.fin.lst (rp (T.fins.cons (T.fin.lst (o1.rep 24)) T.fins.nil) (by decide))).mono (by decide) (by decide)
      · exact (T.fin.lst (rp (T.fins.cons (T.fin.lst (T.fins.cons (T.fin.lst (i1.rep 25)) T.fins.nil)) T.fins.nil) (by decide))).mono (by decide) (by decide)
      · exact (T.fin.lst (rp (T.fins.cons (T.fin.lst (o1.rep 25)) T.fins.nil) (by decide))).mono (by decide) (by decide)
      · exact (T.fin.lst (rp o1 (by decide))).mono (by decide) (by decide)
      · exact (T.fin.lst (rp i1 (by decide))).mono (by decide) (by decide)
      · exact (T.fin.lst (T.fins.cons (T.fin.lst fH) T.fins.nil)).mono (by decide) (by decide)
    · obtain ⟨_, _, _, _, _, _, _, _, _, _, kk, _⟩ := h
      exact SqL.of (kk _ _ (nE Lv (.inr rfl)) hDE)
    · rintro i xv σ H' hx ⟨w2, w3, w5, w6, w10, w11, w12, w13, w14, rfl, kk, zs, ts, hz, hzs, hl, hf⟩
      have hi10 : i < 10 := by
        have := (List.getElem?_eq_some_iff.mp hx).1
        have := (hxsE pot (.inl rfl)).len
        omega
      obtain ⟨t, ht, av⟩ := AvsS.get (S := fun X => X = pot ∨ X = Lv) (p0 := pot) (.inl rfl) hxsE hx
      have avE := AvS.keep (S := fun X => X = pot ∨ X = Lv) (pot := Lv) (.inr rfl) av kk
      have hhF := AvS.keep (S := fun X => X = pot ∨ X = Lv) (pot := Lv) (.inr rfl) hhE kk
      have ft := finE t (List.mem_of_getElem? ht)
      have hSF : ∀ X, (X = pot ∨ X = Lv) → H' X ≠ none := fun X hX => by
        rcases hX with rfl | rfl
        · obtain ⟨pa, pb, pe, pr⟩ := pE
          rw [kk _ _ (fun z => neL X rfl z.symm) pe]
          intro z
          cases z
        · rw [hz]
          intro z
          cases z
      refine app_ev (C := C) (S := fun X => X = pot) (p0 := pot) (K := K) (L := Lv) (xs := zs) (ts := ts) (t := .lst ((cutT hs none (some (a' : Int)) ++ [t]) ++ cutT hs (some ((a' : Int) + 1)) none)) rfl rfl hz ?_ hzs (small1000' (by omega)) (fun H'' zs' k2 hz' hzs' => ⟨_, _, _, _, _, _, _, _, _, rfl, kk.trans k2, zs', _, hz', hzs', by rw [List.length_append, hl]; rfl, fun y hy => ?_⟩)
      · exact Ev.cat h0' hSF (Ev.cat h0' hSF (Ev.slice h0' hSF (Ev.var rfl hhF) (fun _ _ q => q) (fun _ _ q => ⟨_, rfl, _, rfl, q⟩)) (Ev.lst hSF (EvA.cons (Ev.var rfl avE) EvA.nil) (sz (by show 1 ≤ 1000; decide))) (sz (by have := cl none (some (a' : Int)); show _ + 1 ≤ 1000; omega))) (Ev.slice h0' hSF (Ev.var rfl hhF) (fun _ _ q => ⟨_, rfl, _, _, rfl, rfl, _, rfl, q⟩) (fun _ _ q => q)) (sz (by have := cl none (some (a' : Int)); have := cl (some ((a' : Int) + 1)) none; rw [List.length_append]; show _ + 1 + _ ≤ 1000; omega))
      · rcases List.mem_append.mp hy with hy | hy
        · exact hf y hy
        · rw [List.mem_singleton.mp hy]
          have fH3 : T.fins 330000 3 hs := fH.mono (Nat.le_refl _) (by decide)
          exact (T.fin.lst (((fH3.cut _ _).app (T.fins.cons ft T.fins.nil)).app (fH3.cut _ _))).mono (by decide) (by decide)
    rintro σ H' ⟨w2, w3, w5, w6, w10, w11, w12, w13, w14, rfl, kk, zs, ts, hz, hzs, hl, hf⟩
    have pF : PotAt H' pot := by
      obtain ⟨pa, pb, pe, pr⟩ := pE
      exact ⟨pa, pb, kk _ _ (fun z => neL pot rfl z.symm) pe, pr⟩
    have chain : ∀ b o, b ≠ pot → G6 b = some o → H' b = some o := fun b o n1 e => by
      have e1 := kTA _ _ n1 e
      have n2 : b ≠ Lv := ne_of_none e1 nLA
      exact kk _ _ n2 (kE _ _ n1 (kD _ _ n2 (kC _ _ n2 (sB _ _ e1))))
    have tF : TeamAt CT H' x M := ⟨dx, L6, zs6, chain _ _ nexp hxT, chain _ _ neLp hLT, hl6.trans len5⟩
    have hats : Ats C H' zs ts := (hzs pot (.inl rfl)).at
    refine ⟨_, rfl, Lv, rfl, ⟨_, SqL.of hz⟩, for_list (K := K) (a := Lv) (xs := zs) (fun i σ H2 => ∃ w2 w3 w5 w6 w8 w10 w11 w12 w13 w14, σ = [some (.ref pot), some (.int (M : Int)), w2, w3, some (.ref x), w5, w6, some (.ref Lh), w8, some (.ref Lv), w10, w11, w12, w13, w14] ∧ Same H' H2)
      ⟨_, _, _, _, _, _, _, _, _, _, rfl, Same.refl _⟩ (fun i σ H2 _ h => ?_) ?_ ?_⟩
    · obtain ⟨_, _, _, _, _, _, _, _, _, _, _, ss⟩ := h
      exact ss.seq (SqL.of hz)
    · rintro i xv σ H2 hx ⟨w2, w3, w5, w6, w8, w10, w11, w12, w13, w14, rfl, ss⟩
      obtain ⟨y, hy, ha⟩ := RN.at_of hats.paired i xv hx
      have fy := hf y (List.mem_of_getElem? hy)
      have wy : y.wt ≤ sizeLine := Nat.le_trans fy.wt (by decide)
      have ry : Room (y.depth + 3) _ := hr.mono (by have := fy.dp; omega)
      have hx0 := ha.same ss
      have tm := tF.same ss
      have m1 : (1 : Int) ≤ (M : Int) := by omega
      refine ⟨_, rfl, xv, y, rfl, hx0, fy.ok, wy, ry, ?_⟩
      refine ⟨_, rfl, _, rfl, ⟨xv, y, (M : Int), rfl, hx0, wy, m1, fun Ha sa => ?_⟩⟩
      refine ⟨_, _, rfl, ?_⟩
      refine ⟨_, rfl, _, rfl, ⟨x, M, xv, y, rfl, tm.same sa, by omega, hx0.same sa, wy, fun Hb sb => ?_⟩⟩
      refine ⟨_, rfl, _, rfl, rfl, ⟨x, M, xv, y, rfl, tm.same (sa.trans sb), by omega, hx0.same (sa.trans sb), wy, fun Hc sc => ?_⟩⟩
      obtain ⟨g1, g2, g3, g4⟩ := bb_data (y.areTables M M 24)
      refine ⟨two_line, fun l1 n1 => ⟨l1, .list [.bool (y.areTables M M 24), .bool (y.areTables M M 24)], rfl, .lst (SqL.of upd_same) (.cons (.bl _) (.cons (.bl _) .nil)), g1, g2, g3, g4, ?_⟩⟩
      refine ⟨_, rfl, _, rfl, two_line, fun l2 n2 => ⟨l2, .list [.bool (y.areTables M M 24), .bool (y.areTables M M 24)], rfl, .lst (SqL.of upd_same) (.cons (.bl _) (.cons (.bl _) .nil)), g1, g2, g3, g4, ne_str ⟨false, rfl, iteF ?_⟩⟩⟩
      have sd := (sa.trans (sb.trans sc)).trans ((same_new (o := .lst [.bl (y.areTables M M 24), .bl (y.areTables M M 24)]) n1).trans (same_new (o := .lst [.bl (y.areTables M M 24), .bl (y.areTables M M 24)]) n2))
      refine ⟨_, rfl, xv, y, rfl, hx0.same sd, fy.ok, wy, ry, _, rfl, ne_str ⟨false, rfl, iteF ?_⟩⟩
      generalize upd (upd Hc l1 (.lst [.bl (y.areTables M M 24), .bl (y.areTables M M 24)])) l2 (.lst [.bl (y.areTables M M 24), .bl (y.areTables M M 24)]) = Hd at sd
      refine ⟨_, rfl, _, rfl, ite2 (fun e => ?_) (fun _ => iteF ⟨_, _, _, _, _, _, _, _, _, _, rfl, ss.trans sd⟩)⟩
      refine ⟨_, rfl, _, rfl, rfl, ⟨x, M, xv, y, rfl, tm.same sd, by omega, hx0.same sd, wy, e, fun He u se hu => ?_⟩⟩
      have ny : 1 ≤ y.items.length := by
        have hg := e
        unfold T.areTables at hg
        simp only [Bool.and_eq_true, decide_eq_true_eq] at hg
        have e' : y.len = y.items.length := rfl
        omega
      obtain ⟨b1, b2⟩ := pair_bound e ny
      obtain ⟨q1, q2, q3, q4⟩ := pair_data _ _ b1 b2
      refine ⟨u, .tuple [.int (y.hd.len : Nat), .int (y.hd.hd.len : Nat)], rfl, .tup (SqT.of hu) (.cons (.int _) (.cons (.int _) .nil)), q1, q2, q3, q4, ?_⟩
      obtain ⟨tL, tR⟩ := tabs_of e
      obtain ⟨a, ys, rfl, hats', hsq⟩ := (hx0.same (sd.trans se)).sq tL
      obtain ⟨x0, xr, rfl, hat0, m0⟩ := first_of hats' (by rw [hats'.length]; exact ny)
      obtain ⟨yL, yn, yr⟩ := isl_of (tR _ m0)
      obtain ⟨b0, z0, rfl, hz0, hq0⟩ := hat0.sq yL
      obtain ⟨u0, ur', rfl, hu0, mu0⟩ := first_of hz0 (by rw [hz0.length]; exact yn)
      obtain ⟨d, ds, rfl, hds, hqd⟩ := hu0.sq (yr _ mu0)
      refine ix0g (te := tVar 11) (fun Q' q => ⟨_, rfl, q⟩) hsq ⟨b0, _, rfl, hq0, ?_⟩
      refine ix0g (te := tIx0 K (tVar 11)) (fun Q' q => ix0g (te := tVar 11) (fun Q' q => ⟨_, rfl, q⟩) hsq q) hq0 ⟨d, _, rfl, hqd, ?_⟩
      rw [hz0.length, hds.length]
      refine ⟨two_line, fun u2 n2 => ⟨u2, .tuple [.int (y.hd.len : Nat), .int (y.hd.hd.len : Nat)], rfl, .tup (SqT.of upd_same) (.cons (.int _) (.cons (.int _) .nil)), q1, q2, q3, q4, ne_str ⟨false, rfl, iteF ⟨_, _, _, _, _, _, _, _, _, _, rfl, ss.trans (sd.trans (se.trans (same_new n2)))⟩⟩⟩⟩
    · rintro σ H2 ⟨w2, w3, w5, w6, w8, w10, w11, w12, w13, w14, rfl, ss⟩
      exact k _ (pF.same ss)
end
end RQ

set_option Elab.async false
set_option linter.all false
set_option maxRecDepth 100000
set_option maxHeartbeats 4000000
/-! The law, and what the top has written. -/
namespace RQ
open PySem L2 ClX PyProof.Rows
section
variable {P : Program} {w : World} {K : PySem.W.Frag} {mg : Str → Option Value} {base : Heap} {C : Addr}
theorem scRight : FnScope ["_law_pot_here"] ["_law_pot_here"] (defScope lRight) := ⟨rfl, rfl, rfl, by decide +kernel, rfl, by decide +kernel, by decide +kernel⟩
theorem ok_right {f f1 f2 : Addr} {fd fd1 fd2 : FuncData} (F : Fun K "_law_right" "_law_right" lRight f fd) (G1 : FnG P w K mg base 9 f1 fd1 ["_law_pot_here"] SpTR) (m1 : mg "_law_tables_right" = some (.ref f1)) (k1 : PySem.W.keepIn K (.ref f1) = true) (b1 : Binds K fd1 ["_law_pot_here"] [])
    (G2 : FnG P w K mg base 9 f2 fd2 ["_law_pot_here"] SpTR) (m2 : mg "_law_helpers_right" = some (.ref f2)) (k2 : PySem.W.keepIn K (.ref f2) = true) (b2 : Binds K fd2 ["_law_pot_here"] []) : FnG P w K mg base 10 f fd ["_law_pot_here"] SpTR := by
  refine okG F scRight (fun vs H Q E h => ?_) (fun cdv A outer s H vs Q E hgd hr h => ?_)
  · obtain ⟨pot, rfl, _⟩ := h
    rfl
  · obtain ⟨pot, rfl, hp, k⟩ := h
    refine ⟨_, PSs.nox (pss_one (ps_ret (pe_and (pe_callG (E := E0) G1 hgd hr (by rfl) m1 k1 b1 (pa_cons (pv 0) pa_nil)) (pe_one (pe_callG (E := E0) G2 hgd hr (by rfl) m2 k2 b2 (pa_cons (pv 0) pa_nil)))))), ?_⟩
    exact ⟨_, rfl, ⟨pot, rfl, hp, fun H1 p1 => ⟨true, rfl, iteT ⟨_, rfl, ⟨pot, rfl, p1, fun H2 p2 => k H2 p2⟩⟩⟩⟩⟩
structure SpLaw (K : PySem.W.Frag) (vs : List V) (H : Hp) (Q : VK) (E : XK) : Prop where
  ex : ∃ (a : Addr) (ns : List Int), vs = [.ref a] ∧ SqL K H a (ns.map V.int) ∧ ∀ H', Q (.bl true) H'
theorem scLaw : FnScope ["_law_script"] ["_law_script"] (defScope lLaw) := ⟨rfl, rfl, rfl, by decide +kernel, rfl, by decide +kernel, by decide +kernel⟩
theorem ok_law {f fR fP : Addr} {fd fdR fdP : FuncData} (F : Fun K "law" "law" lLaw f fd) (GR : FnG P w K mg base 10 fR fdR ["_law_pot_here"] SpTR) (mR : mg "_law_right" = some (.ref fR)) (kR : PySem.W.keepIn K (.ref fR) = true) (bR : Binds K fdR ["_law_pot_here"] [])
    (GP : FnOk P w K mg base CX0 1 fP fdP ["_law_script", "_law_k"] (SpPot K)) (mP : mg "_law_pot" = some (.ref fP)) (kP : PySem.W.keepIn K (.ref fP) = true) (bP : Binds K fdP ["_law_script", "_law_k"] []) : FnG P w K mg base 11 f fd ["_law_script"] (SpLaw K) := by
  refine okG F scLaw (fun vs H Q E h => ?_) (fun cdv A outer s H vs Q E hgd hr h => ?_)
  · obtain ⟨a, ns, rfl, _⟩ := h
    rfl
  · obtain ⟨a, ns, rfl, hS, k⟩ := h
    have r1 : Room 1 _ := hr.mono (by decide)
    refine ⟨_, PSs.nox (pss_one (ps_ret (pe_callG (E := E0) GR hgd hr (by rfl) mR kR bR (pa_cons (pe_call GP r1 (by rfl) mP kP bP .nil pass0 (pa_cons (pv 0) (pa_cons pe_int pa_nil))) pa_nil)))), ?_⟩
    exact ⟨_, rfl, ⟨a, ns, rfl, hS, fun H' pot hp => ⟨pot, rfl, hp, fun H2 _ => k H2⟩⟩⟩
theorem kit_self (C : Addr) : PySem.W.kitOne K (.ref C) (.ref C) = some true := by
  unfold PySem.W.kitOne
  rw [if_pos (beq_self_eq_true _)]
theorem kit_sub {C : Addr} {T : String} {r : Bool} (m : PySem.W.kitMeta T = true) (h : PySem.W.subIn K (.ref C) (.type T) = some r) : PySem.W.kitOne K (.ref C) (.type T) = some r := by
  unfold PySem.W.kitOne
  rw [if_neg (by intro z; cases (beq_iff_eq.mp z))]
  unfold PySem.W.kitCls
  simp only
  rw [if_pos m]
  exact h
theorem kit_own {C : Addr} {T : String} {cd : ClassData} {r : Bool} (c : PySem.W.clsIn K C = some cd) (t : PySem.W.typeIn K (.ref C) = some (.type "type")) (h : PySem.W.subIn K (.type T) (.ref C) = some r) : PySem.W.kitOne K (.type T) (.ref C) = some r := by
  unfold PySem.W.kitOne
  rw [if_neg (by intro z; cases (beq_iff_eq.mp z))]
  unfold PySem.W.kitCls
  simp only
  rw [if_pos (by rw [c, t]; simp)]
  exact h
theorem kbn_of {x qual : Str} {st : Stmt} {f : Addr} {fd : FuncData} {ps ks : List Str} {n : Nat} (F : Fun K x qual st f fd)
    (h : ∀ (kV doc pm : Value) (an : Option Addr) (cdv ct : Value) (us ws : List Value), us.length = n → ws.length = ks.length → bindArgs (PySem.W.fnOf x qual (defArgs st) (defBody st) (defScope st) .none kV doc pm an cdv ct) ⟨us, ks.zip ws⟩ = pure (ps.zip (us ++ ws))) :
    KBn K fd ps n ks (fun us ws => us ++ ws) (fun vs zs => vs ++ zs) := by
  obtain ⟨oc, od, kV, doc, pm, an, cdv, ct, osl, rfl, lk, hcd⟩ := F.ex
  exact ⟨fun s us ws _ l1 l2 => .of_eq (h kV doc pm an cdv ct us ws l1 l2), fun r1 r2 => Vals.append r1 r2⟩
theorem vals_rev : ∀ {vs : List V} {us : List Value}, Vals vs us → Vals vs.reverse us.reverse
  | _, _, .nil => .nil
  | _, _, .cons h r => by
    rw [List.reverse_cons, List.reverse_cons]
    exact Vals.append (vals_rev r) (.cons h .nil)
theorem kbn_turn {x qual : Str} {st : Stmt} {f : Addr} {fd : FuncData} {ps ks : List Str} {n : Nat} (F : Fun K x qual st f fd)
    (h : ∀ (kV doc pm : Value) (an : Option Addr) (cdv ct : Value) (us ws : List Value), us.length = n → ws.length = ks.length → bindArgs (PySem.W.fnOf x qual (defArgs st) (defBody st) (defScope st) .none kV doc pm an cdv ct) ⟨us, ks.zip ws⟩ = pure (ps.zip (us ++ ws.reverse))) :
    KBn K fd ps n ks (fun us ws => us ++ ws.reverse) (fun vs zs => vs ++ zs.reverse) := by
  obtain ⟨oc, od, kV, doc, pm, an, cdv, ct, osl, rfl, lk, hcd⟩ := F.ex
  exact ⟨fun s us ws _ l1 l2 => .of_eq (h kV doc pm an cdv ct us ws l1 l2), fun r1 r2 => Vals.append r1 (vals_rev r2)⟩
end
/-! ### what the top has written -/
theorem all_mk {l : PySem.W.OpenLaw} {w : World} {K : PySem.W.Frag} {h : Heap} {mg : Str → Option Value} {fa C CT T0 fInit fRepr fTI pMany fMany fI fN fAs fL fNs fAL fAT fRw fRs fWT fIH fSd fWH fIT flPot flDraw flPick flNumber flTable flIsN flIsT flAre flBent flTables flHelpers flRight fLaw : Addr} (X : K.In h) (G : h.Ns mainGlobals mg) (hfa : mg "law" = some (.ref fa))
    {odT odInit anInit odRepr anRepr odTI anTI odMany anMany odI anI odN anN odAs anAs odL anL odNs anNs odAL anAL odAT anAT odRw anRw odRs anRs odWT anWT odIH anIH odSd anSd odWH anWH odIT anIT odlPot anlPot odlDraw anlDraw odlPick anlPick odlNumber anlNumber odlTable anlTable odlIsN anlIsN odlIsT anlIsT odlAre anlAre odlBent anlBent odlTables anlTables odlHelpers anlHelpers odlRight anlRight odLaw anLaw : Option Addr} {slT slInit slRepr slTI slMany slI slN slAs slL slNs slAL slAT slRw slRs slWT slIH slSd slWH slIT sllPot sllDraw sllPick sllNumber sllTable sllIsN sllIsT sllAre sllBent sllTables sllHelpers sllRight slLaw : Array (Option Value)} {ocT ocInit kVInit dcInit pmInit cdInit ctInit ocRepr kVRepr dcRepr pmRepr cdRepr ctRepr ocTI kVTI dcTI pmTI cdTI ctTI ocMany kVMany dcMany pmMany cdMany ctMany ocI kVI dcI pmI cdI ctI ocN kVN dcN pmN cdN ctN ocAs kVAs dcAs pmAs cdAs ctAs ocL kVL dcL pmL cdL ctL ocNs kVNs dcNs pmNs cdNs ctNs ocAL kVAL dcAL pmAL cdAL ctAL ocAT kVAT dcAT pmAT cdAT ctAT ocRw kVRw dcRw pmRw cdRw ctRw ocRs kVRs dcRs pmRs cdRs ctRs ocWT kVWT dcWT pmWT cdWT ctWT ocIH kVIH dcIH pmIH cdIH ctIH ocSd kVSd dcSd pmSd cdSd ctSd ocWH kVWH dcWH pmWH cdWH ctWH ocIT kVIT dcIT pmIT cdIT ctIT oclPot kVlPot dclPot pmlPot cdlPot ctlPot oclDraw kVlDraw dclDraw pmlDraw cdlDraw ctlDraw oclPick kVlPick dclPick pmlPick cdlPick ctlPick oclNumber kVlNumber dclNumber pmlNumber cdlNumber ctlNumber oclTable kVlTable dclTable pmlTable cdlTable ctlTable oclIsN kVlIsN dclIsN pmlIsN cdlIsN ctlIsN oclIsT kVlIsT dclIsT pmlIsT cdlIsT ctlIsT oclAre kVlAre dclAre pmlAre cdlAre ctlAre oclBent kVlBent dclBent pmlBent cdlBent ctlBent oclTables kVlTables dclTables pmlTables cdlTables ctlTables oclHelpers kVlHelpers dclHelpers pmlHelpers cdlHelpers ctlHelpers oclRight kVlRight dclRight pmlRight cdlRight ctlRight ocLaw kVLaw dcLaw pmLaw cdLaw ctLaw : Value} {tkT tkc16 tkc4 tkc24 tkc96 : Tok} {nT : Nat} {cdC : ClassData} {rsMany : List Value}
    (aC : PySem.W.nsIn K mainGlobals "Ratio" = some (some (.ref C)))
    (aInit : PySem.W.findIn K (.ref C) "__init__" = some (some (.ref fInit)))
    (iInit : PySem.W.isFn K (.ref fInit) = true)
    (yInit : K.lookup fInit = some ⟨ocInit, odInit, .func (PySem.W.fnOf "__init__" "Ratio.__init__" (defArgs sInit) (defBody sInit) (defScope sInit) (.ref T0) kVInit dcInit pmInit anInit cdInit ctInit), slInit⟩)
    (cInit : PySem.W.codeIn K cdInit "Ratio.__init__" = true)
    (kInit : PySem.W.keepIn K (.ref fInit) = true)
    (lT0 : K.lookup T0 = some ⟨ocT, odT, .seq #[.int 1 tkT] nT, slT⟩)
    (aRepr : PySem.W.findIn K (.ref C) "__repr__" = some (some (.ref fRepr)))
    (iRepr : PySem.W.isFn K (.ref fRepr) = true)
    (yRepr : K.lookup fRepr = some ⟨ocRepr, odRepr, .func (PySem.W.fnOf "__repr__" "Ratio.__repr__" (defArgs sRepr) (defBody sRepr) (defScope sRepr) .none kVRepr dcRepr pmRepr anRepr cdRepr ctRepr), slRepr⟩)
    (cRepr : PySem.W.codeIn K cdRepr "Ratio.__repr__" = true)
    (kRepr : PySem.W.keepIn K (.ref fRepr) = true)
    (aCT : PySem.W.nsIn K mainGlobals "Team" = some (some (.ref CT)))
    (aTI : PySem.W.findIn K (.ref CT) "__init__" = some (some (.ref fTI)))
    (iTI : PySem.W.isFn K (.ref fTI) = true)
    (yTI : K.lookup fTI = some ⟨ocTI, odTI, .func (PySem.W.fnOf "__init__" "Team.__init__" (defArgs sTeamInit) (defBody sTeamInit) (defScope sTeamInit) .none kVTI dcTI pmTI anTI cdTI ctTI), slTI⟩)
    (cTI : PySem.W.codeIn K cdTI "Team.__init__" = true)
    (kTI : PySem.W.keepIn K (.ref fTI) = true)
    (aMany : PySem.W.findIn K (.ref CT) "many" = some (some (.ref pMany)))
    (gMany : PySem.W.specialIn K (.ref pMany) "__get__" = some (some (.builtin "property.__get__")))
    (tMany : PySem.W.takesIn K (.ref pMany) = some true)
    (rMany : PySem.W.recIn K pMany "property" = some (.ref fMany :: rsMany))
    (yMany : K.lookup fMany = some ⟨ocMany, odMany, .func (PySem.W.fnOf "many" "Team.many" (defArgs sMany) (defBody sMany) (defScope sMany) .none kVMany dcMany pmMany anMany cdMany ctMany), slMany⟩)
    (cMany : PySem.W.codeIn K cdMany "Team.many" = true)
    (kMany : PySem.W.keepIn K (.ref fMany) = true)
    (aI : PySem.W.nsIn K mainGlobals "is_integer" = some (some (.ref fI)))
    (yI : K.lookup fI = some ⟨ocI, odI, .func (PySem.W.fnOf "is_integer" "is_integer" (defArgs sIsInt) (defBody sIsInt) (defScope sIsInt) .none kVI dcI pmI anI cdI ctI), slI⟩)
    (cI : PySem.W.codeIn K cdI "is_integer" = true)
    (kI : PySem.W.keepIn K (.ref fI) = true)
    (aN : PySem.W.nsIn K mainGlobals "is_number" = some (some (.ref fN)))
    (yN : K.lookup fN = some ⟨ocN, odN, .func (PySem.W.fnOf "is_number" "is_number" (defArgs sIsNumber) (defBody sIsNumber) (defScope sIsNumber) .none kVN dcN pmN anN cdN ctN), slN⟩)
    (cN : PySem.W.codeIn K cdN "is_number" = true)
    (kN : PySem.W.keepIn K (.ref fN) = true)
    (aAs : PySem.W.nsIn K mainGlobals "as_ratio" = some (some (.ref fAs)))
    (yAs : K.lookup fAs = some ⟨ocAs, odAs, .func (PySem.W.fnOf "as_ratio" "as_ratio" (defArgs sAsRatio) (defBody sAsRatio) (defScope sAsRatio) .none kVAs dcAs pmAs anAs cdAs ctAs), slAs⟩)
    (cAs : PySem.W.codeIn K cdAs "as_ratio" = true)
    (kAs : PySem.W.keepIn K (.ref fAs) = true)
    (aL : PySem.W.nsIn K mainGlobals "is_list" = some (some (.ref fL)))
    (yL : K.lookup fL = some ⟨ocL, odL, .func (PySem.W.fnOf "is_list" "is_list" (defArgs sIsList) (defBody sIsList) (defScope sIsList) .none kVL dcL pmL anL cdL ctL), slL⟩)
    (cL : PySem.W.codeIn K cdL "is_list" = true)
    (kL : PySem.W.keepIn K (.ref fL) = true)
    (aNs : PySem.W.nsIn K mainGlobals "is_numbers" = some (some (.ref fNs)))
    (yNs : K.lookup fNs = some ⟨ocNs, odNs, .func (PySem.W.fnOf "is_numbers" "is_numbers" (defArgs sIsNumbers) (defBody sIsNumbers) (defScope sIsNumbers) .none kVNs dcNs pmNs anNs cdNs ctNs), slNs⟩)
    (cNs : PySem.W.codeIn K cdNs "is_numbers" = true)
    (kNs : PySem.W.keepIn K (.ref fNs) = true)
    (aAL : PySem.W.nsIn K mainGlobals "are_lists" = some (some (.ref fAL)))
    (yAL : K.lookup fAL = some ⟨ocAL, odAL, .func (PySem.W.fnOf "are_lists" "are_lists" (defArgs sAreLists) (defBody sAreLists) (defScope sAreLists) .none kVAL dcAL pmAL anAL cdAL ctAL), slAL⟩)
    (cAL : PySem.W.codeIn K cdAL "are_lists" = true)
    (kAL : PySem.W.keepIn K (.ref fAL) = true)
    (aAT : PySem.W.nsIn K mainGlobals "are_tables" = some (some (.ref fAT)))
    (yAT : K.lookup fAT = some ⟨ocAT, odAT, .func (PySem.W.fnOf "are_tables" "are_tables" (defArgs sAreTables) (defBody sAreTables) (defScope sAreTables) .none kVAT dcAT pmAT anAT cdAT ctAT), slAT⟩)
    (cAT : PySem.W.codeIn K cdAT "are_tables" = true)
    (kAT : PySem.W.keepIn K (.ref fAT) = true)
    (aRw : PySem.W.nsIn K mainGlobals "as_row" = some (some (.ref fRw)))
    (yRw : K.lookup fRw = some ⟨ocRw, odRw, .func (PySem.W.fnOf "as_row" "as_row" (defArgs sAsRow) (defBody sAsRow) (defScope sAsRow) .none kVRw dcRw pmRw anRw cdRw ctRw), slRw⟩)
    (cRw : PySem.W.codeIn K cdRw "as_row" = true)
    (kRw : PySem.W.keepIn K (.ref fRw) = true)
    (aRs : PySem.W.nsIn K mainGlobals "as_rows" = some (some (.ref fRs)))
    (yRs : K.lookup fRs = some ⟨ocRs, odRs, .func (PySem.W.fnOf "as_rows" "as_rows" (defArgs sAsRows) (defBody sAsRows) (defScope sAsRows) .none kVRs dcRs pmRs anRs cdRs ctRs), slRs⟩)
    (cRs : PySem.W.codeIn K cdRs "as_rows" = true)
    (kRs : PySem.W.keepIn K (.ref fRs) = true)
    (aWT : PySem.W.nsIn K mainGlobals "want_team" = some (some (.ref fWT)))
    (yWT : K.lookup fWT = some ⟨ocWT, odWT, .func (PySem.W.fnOf "want_team" "want_team" (defArgs sWantTeam) (defBody sWantTeam) (defScope sWantTeam) .none kVWT dcWT pmWT anWT cdWT ctWT), slWT⟩)
    (cWT : PySem.W.codeIn K cdWT "want_team" = true)
    (kWT : PySem.W.keepIn K (.ref fWT) = true)
    (aIH : PySem.W.nsIn K mainGlobals "is_helpers" = some (some (.ref fIH)))
    (yIH : K.lookup fIH = some ⟨ocIH, odIH, .func (PySem.W.fnOf "is_helpers" "is_helpers" (defArgs sIsHelpers) (defBody sIsHelpers) (defScope sIsHelpers) .none kVIH dcIH pmIH anIH cdIH ctIH), slIH⟩)
    (cIH : PySem.W.codeIn K cdIH "is_helpers" = true)
    (kIH : PySem.W.keepIn K (.ref fIH) = true)
    (aSd : PySem.W.nsIn K mainGlobals "sides" = some (some (.ref fSd)))
    (ySd : K.lookup fSd = some ⟨ocSd, odSd, .func (PySem.W.fnOf "sides" "sides" (defArgs sSides) (defBody sSides) (defScope sSides) .none kVSd dcSd pmSd anSd cdSd ctSd), slSd⟩)
    (cSd : PySem.W.codeIn K cdSd "sides" = true)
    (kSd : PySem.W.keepIn K (.ref fSd) = true)
    (aWH : PySem.W.nsIn K mainGlobals "want_helpers" = some (some (.ref fWH)))
    (yWH : K.lookup fWH = some ⟨ocWH, odWH, .func (PySem.W.fnOf "want_helpers" "want_helpers" (defArgs sWantHelpers) (defBody sWantHelpers) (defScope sWantHelpers) .none kVWH dcWH pmWH anWH cdWH ctWH), slWH⟩)
    (cWH : PySem.W.codeIn K cdWH "want_helpers" = true)
    (kWH : PySem.W.keepIn K (.ref fWH) = true)
    (aIT : PySem.W.nsIn K mainGlobals "is_table" = some (some (.ref fIT)))
    (yIT : K.lookup fIT = some ⟨ocIT, odIT, .func (PySem.W.fnOf "is_table" "is_table" (defArgs sIsTable) (defBody sIsTable) (defScope sIsTable) .none kVIT dcIT pmIT anIT cdIT ctIT), slIT⟩)
    (cIT : PySem.W.codeIn K cdIT "is_table" = true)
    (kIT : PySem.W.keepIn K (.ref fIT) = true)
    (alPot : PySem.W.nsIn K mainGlobals "_law_pot" = some (some (.ref flPot)))
    (ylPot : K.lookup flPot = some ⟨oclPot, odlPot, .func (PySem.W.fnOf "_law_pot" "_law_pot" (defArgs lPot) (defBody lPot) (defScope lPot) .none kVlPot dclPot pmlPot anlPot cdlPot ctlPot), sllPot⟩)
    (clPot : PySem.W.codeIn K cdlPot "_law_pot" = true)
    (klPot : PySem.W.keepIn K (.ref flPot) = true)
    (alDraw : PySem.W.nsIn K mainGlobals "_law_draw" = some (some (.ref flDraw)))
    (ylDraw : K.lookup flDraw = some ⟨oclDraw, odlDraw, .func (PySem.W.fnOf "_law_draw" "_law_draw" (defArgs lDraw) (defBody lDraw) (defScope lDraw) .none kVlDraw dclDraw pmlDraw anlDraw cdlDraw ctlDraw), sllDraw⟩)
    (clDraw : PySem.W.codeIn K cdlDraw "_law_draw" = true)
    (klDraw : PySem.W.keepIn K (.ref flDraw) = true)
    (alPick : PySem.W.nsIn K mainGlobals "_law_pick" = some (some (.ref flPick)))
    (ylPick : K.lookup flPick = some ⟨oclPick, odlPick, .func (PySem.W.fnOf "_law_pick" "_law_pick" (defArgs lPick) (defBody lPick) (defScope lPick) .none kVlPick dclPick pmlPick anlPick cdlPick ctlPick), sllPick⟩)
    (clPick : PySem.W.codeIn K cdlPick "_law_pick" = true)
    (klPick : PySem.W.keepIn K (.ref flPick) = true)
    (alNumber : PySem.W.nsIn K mainGlobals "_law_number" = some (some (.ref flNumber)))
    (ylNumber : K.lookup flNumber = some ⟨oclNumber, odlNumber, .func (PySem.W.fnOf "_law_number" "_law_number" (defArgs lNumber) (defBody lNumber) (defScope lNumber) .none kVlNumber dclNumber pmlNumber anlNumber cdlNumber ctlNumber), sllNumber⟩)
    (clNumber : PySem.W.codeIn K cdlNumber "_law_number" = true)
    (klNumber : PySem.W.keepIn K (.ref flNumber) = true)
    (alTable : PySem.W.nsIn K mainGlobals "_law_table" = some (some (.ref flTable)))
    (ylTable : K.lookup flTable = some ⟨oclTable, odlTable, .func (PySem.W.fnOf "_law_table" "_law_table" (defArgs lTable) (defBody lTable) (defScope lTable) .none kVlTable dclTable pmlTable anlTable cdlTable ctlTable), sllTable⟩)
    (clTable : PySem.W.codeIn K cdlTable "_law_table" = true)
    (klTable : PySem.W.keepIn K (.ref flTable) = true)
    (alIsN : PySem.W.nsIn K mainGlobals "_law_is_number" = some (some (.ref flIsN)))
    (ylIsN : K.lookup flIsN = some ⟨oclIsN, odlIsN, .func (PySem.W.fnOf "_law_is_number" "_law_is_number" (defArgs lIsNumber) (defBody lIsNumber) (defScope lIsNumber) .none kVlIsN dclIsN pmlIsN anlIsN cdlIsN ctlIsN), sllIsN⟩)
    (clIsN : PySem.W.codeIn K cdlIsN "_law_is_number" = true)
    (klIsN : PySem.W.keepIn K (.ref flIsN) = true)
    (alIsT : PySem.W.nsIn K mainGlobals "_law_is_table" = some (some (.ref flIsT)))
    (ylIsT : K.lookup flIsT = some ⟨oclIsT, odlIsT, .func (PySem.W.fnOf "_law_is_table" "_law_is_table" (defArgs lIsTable) (defBody lIsTable) (defScope lIsTable) .none kVlIsT dclIsT pmlIsT anlIsT cdlIsT ctlIsT), sllIsT⟩)
    (clIsT : PySem.W.codeIn K cdlIsT "_law_is_table" = true)
    (klIsT : PySem.W.keepIn K (.ref flIsT) = true)
    (alAre : PySem.W.nsIn K mainGlobals "_law_are_helpers" = some (some (.ref flAre)))
    (ylAre : K.lookup flAre = some ⟨oclAre, odlAre, .func (PySem.W.fnOf "_law_are_helpers" "_law_are_helpers" (defArgs lAreHelpers) (defBody lAreHelpers) (defScope lAreHelpers) .none kVlAre dclAre pmlAre anlAre cdlAre ctlAre), sllAre⟩)
    (clAre : PySem.W.codeIn K cdlAre "_law_are_helpers" = true)
    (klAre : PySem.W.keepIn K (.ref flAre) = true)
    (alBent : PySem.W.nsIn K mainGlobals "_law_bent" = some (some (.ref flBent)))
    (ylBent : K.lookup flBent = some ⟨oclBent, odlBent, .func (PySem.W.fnOf "_law_bent" "_law_bent" (defArgs lBent) (defBody lBent) (defScope lBent) .none kVlBent dclBent pmlBent anlBent cdlBent ctlBent), sllBent⟩)
    (clBent : PySem.W.codeIn K cdlBent "_law_bent" = true)
    (klBent : PySem.W.keepIn K (.ref flBent) = true)
    (alTables : PySem.W.nsIn K mainGlobals "_law_tables_right" = some (some (.ref flTables)))
    (ylTables : K.lookup flTables = some ⟨oclTables, odlTables, .func (PySem.W.fnOf "_law_tables_right" "_law_tables_right" (defArgs lTables) (defBody lTables) (defScope lTables) .none kVlTables dclTables pmlTables anlTables cdlTables ctlTables), sllTables⟩)
    (clTables : PySem.W.codeIn K cdlTables "_law_tables_right" = true)
    (klTables : PySem.W.keepIn K (.ref flTables) = true)
    (alHelpers : PySem.W.nsIn K mainGlobals "_law_helpers_right" = some (some (.ref flHelpers)))
    (ylHelpers : K.lookup flHelpers = some ⟨oclHelpers, odlHelpers, .func (PySem.W.fnOf "_law_helpers_right" "_law_helpers_right" (defArgs lHelpers) (defBody lHelpers) (defScope lHelpers) .none kVlHelpers dclHelpers pmlHelpers anlHelpers cdlHelpers ctlHelpers), sllHelpers⟩)
    (clHelpers : PySem.W.codeIn K cdlHelpers "_law_helpers_right" = true)
    (klHelpers : PySem.W.keepIn K (.ref flHelpers) = true)
    (alRight : PySem.W.nsIn K mainGlobals "_law_right" = some (some (.ref flRight)))
    (ylRight : K.lookup flRight = some ⟨oclRight, odlRight, .func (PySem.W.fnOf "_law_right" "_law_right" (defArgs lRight) (defBody lRight) (defScope lRight) .none kVlRight dclRight pmlRight anlRight cdlRight ctlRight), sllRight⟩)
    (clRight : PySem.W.codeIn K cdlRight "_law_right" = true)
    (klRight : PySem.W.keepIn K (.ref flRight) = true)
    (aLaw : PySem.W.nsIn K mainGlobals "law" = some (some (.ref fLaw)))
    (yLaw : K.lookup fLaw = some ⟨ocLaw, odLaw, .func (PySem.W.fnOf "law" "law" (defArgs lLaw) (defBody lLaw) (defScope lLaw) .none kVLaw dcLaw pmLaw anLaw cdLaw ctLaw), slLaw⟩)
    (cLaw : PySem.W.codeIn K cdLaw "law" = true)
    (kLaw : PySem.W.keepIn K (.ref fLaw) = true)
    (z_isinstance : PySem.W.nsIn K mainGlobals "isinstance" = some none)
    (z_int : PySem.W.nsIn K mainGlobals "int" = some none)
    (z_bool : PySem.W.nsIn K mainGlobals "bool" = some none)
    (z_abs : PySem.W.nsIn K mainGlobals "abs" = some none)
    (z_str : PySem.W.nsIn K mainGlobals "str" = some none)
    (z_list : PySem.W.nsIn K mainGlobals "list" = some none)
    (z_tuple : PySem.W.nsIn K mainGlobals "tuple" = some none)
    (z_len : PySem.W.nsIn K mainGlobals "len" = some none)
    (z_max : PySem.W.nsIn K mainGlobals "max" = some none)
    (z_divmod : PySem.W.nsIn K mainGlobals "divmod" = some none)
    (z_range : PySem.W.nsIn K mainGlobals "range" = some none)
    (z_repr : PySem.W.nsIn K mainGlobals "repr" = some none)
    (z_all : PySem.W.nsIn K mainGlobals "all" = some none)
    (z_sum : PySem.W.nsIn K mainGlobals "sum" = some none)
    (z_gcd : PySem.W.nsIn K mainGlobals "gcd" = some (some (.builtin "math.gcd")))
    (c16 : PySem.W.nsIn K mainGlobals "MOST_TABLES" = some (some (.int 16 tkc16)))
    (c4 : PySem.W.nsIn K mainGlobals "MOST_PLACES" = some (some (.int 4 tkc4)))
    (c24 : PySem.W.nsIn K mainGlobals "MOST_SIDE" = some (some (.int 24 tkc24)))
    (c96 : PySem.W.nsIn K mainGlobals "MOST_ROWS" = some (some (.int 96 tkc96)))
    (pg : PySem.W.plainGet K C Str.empty = true)
    (hd : PySem.W.hasDictIn K C = true)
    (po : PySem.W.plainOver K C = true)
    (sa : PySem.W.findIn K (.ref C) "__setattr__" = some (some (.builtin "object.__setattr__")))
    (mk : PySem.W.makesIn K C = true)
    (kc : PySem.W.keepIn K (.ref C) = true)
    (nTop : PySem.W.findIn K (.ref C) "_top" = some none)
    (nBot : PySem.W.findIn K (.ref C) "_bottom" = some none)
    (ha : PySem.W.findIn K (.ref C) "__class__" = some (some (.builtin "object.__class__")))
    (hn : PySem.W.specialIn K (.builtin "object.__class__") "__get__" = some (some (.builtin "getset_descriptor.__get__")))
    (htk : PySem.W.takesIn K (.builtin "object.__class__") = some true)
    (hm : PySem.W.mroIn K C (.type "object") = some true)
    (cC : PySem.W.clsIn K C = some cdC)
    (tyC : PySem.W.typeIn K (.ref C) = some (.type "type"))
    (b_int : PySem.W.subIn K (.ref C) (.type "int") = some false)
    (b_bool : PySem.W.subIn K (.ref C) (.type "bool") = some false)
    (b_list : PySem.W.subIn K (.ref C) (.type "list") = some false)
    (b_tuple : PySem.W.subIn K (.ref C) (.type "tuple") = some false)
    (o_int : PySem.W.subIn K (.type "int") (.ref C) = some false)
    (o_bool : PySem.W.subIn K (.type "bool") (.ref C) = some false)
    (o_NoneType : PySem.W.subIn K (.type "NoneType") (.ref C) = some false)
    (o_str : PySem.W.subIn K (.type "str") (.ref C) = some false)
    (o_list : PySem.W.subIn K (.type "list") (.ref C) = some false)
    (o_tuple : PySem.W.subIn K (.type "tuple") (.ref C) = some false)
    (o_dict : PySem.W.subIn K (.type "dict") (.ref C) = some false)
    (pgT : PySem.W.plainGet K CT Str.empty = true)
    (hdT : PySem.W.hasDictIn K CT = true)
    (poT : PySem.W.plainOver K CT = true)
    (saT : PySem.W.findIn K (.ref CT) "__setattr__" = some (some (.builtin "object.__setattr__")))
    (mkT : PySem.W.makesIn K CT = true)
    (kcT : PySem.W.keepIn K (.ref CT) = true)
    (nTab : PySem.W.findIn K (.ref CT) "_tables" = some none)
    (haT : PySem.W.findIn K (.ref CT) "__class__" = some (some (.builtin "object.__class__")))
    (hmT : PySem.W.mroIn K CT (.type "object") = some true) :
    ∃ fd : FuncData, (∀ (s : Shared) (v : Value), BindsTo s fd ⟨[v], []⟩ [("_law_script", v)]) ∧ ∀ base : Heap, K.In base → base.Ns mainGlobals mg → FnG l.prog w K mg base 11 fa fd ["_law_script"] (SpLaw K) := by
  have e := hfa.symm.trans (PySem.W.mg_of X G aLaw)
  cases e
  have B : Blt mg := ⟨PySem.W.mg_none_of X G z_isinstance, PySem.W.mg_none_of X G z_int, PySem.W.mg_none_of X G z_bool, PySem.W.mg_none_of X G z_abs, PySem.W.mg_none_of X G z_str, PySem.W.mg_none_of X G z_list, PySem.W.mg_none_of X G z_tuple, PySem.W.mg_none_of X G z_len, PySem.W.mg_none_of X G z_max, PySem.W.mg_none_of X G z_divmod, PySem.W.mg_none_of X G z_range, PySem.W.mg_none_of X G z_repr, PySem.W.mg_of X G z_gcd, PySem.W.mg_none_of X G z_all, PySem.W.mg_none_of X G z_sum⟩
  have R : RCls K mg C := ⟨⟨pg, hd, po, sa⟩, nTop, nBot, PySem.W.mg_of X G aC, kc, ha, hn, htk, hm, kit_self C, kit_sub rfl b_int, kit_sub rfl b_bool, kit_sub rfl b_list, kit_sub rfl b_tuple, kit_own cC tyC o_int, kit_own cC tyC o_bool, kit_own cC tyC o_NoneType, kit_own cC tyC o_str, kit_own cC tyC o_list, kit_own cC tyC o_tuple, kit_own cC tyC o_dict⟩
  have RT : TCls K mg CT := ⟨⟨pgT, hdT, poT, saT⟩, nTab, PySem.W.mg_of X G aCT, haT, hmT⟩
  have FI := fun_mk (st := sIsInt) yI cI kI
  have bI := FI.binds (ps := ["value"]) fun _ _ _ _ _ _ us hl => match us, hl with | [_], _ => rfl
  have FN := fun_mk (st := sIsNumber) yN cN kN
  have bN := FN.binds (ps := ["value"]) fun _ _ _ _ _ _ us hl => match us, hl with | [_], _ => rfl
  have FAs := fun_mk (st := sAsRatio) yAs cAs kAs
  have bAs := FAs.binds (ps := ["number"]) fun _ _ _ _ _ _ us hl => match us, hl with | [_], _ => rfl
  have FL := fun_mk (st := sIsList) yL cL kL
  have bL := FL.binds (ps := ["value"]) fun _ _ _ _ _ _ us hl => match us, hl with | [_], _ => rfl
  have FNs := fun_mk (st := sIsNumbers) yNs cNs kNs
  have bNs := FNs.binds (ps := ["value", "low", "high"]) fun _ _ _ _ _ _ us hl => match us, hl with | [_, _, _], _ => rfl
  have FAL := fun_mk (st := sAreLists) yAL cAL kAL
  have bAL := FAL.binds (ps := ["value", "high", "widest"]) fun _ _ _ _ _ _ us hl => match us, hl with | [_, _, _], _ => rfl
  have FAT := fun_mk (st := sAreTables) yAT cAT kAT
  have bAT := FAT.binds (ps := ["value", "low", "high", "most"]) fun _ _ _ _ _ _ us hl => match us, hl with | [_, _, _, _], _ => rfl
  have FRw := fun_mk (st := sAsRow) yRw cRw kRw
  have bRw := FRw.binds (ps := ["row"]) fun _ _ _ _ _ _ us hl => match us, hl with | [_], _ => rfl
  have FRs := fun_mk (st := sAsRows) yRs cRs kRs
  have bRs := FRs.binds (ps := ["rows"]) fun _ _ _ _ _ _ us hl => match us, hl with | [_], _ => rfl
  have FWT := fun_mk (st := sWantTeam) yWT cWT kWT
  have bWT := FWT.binds (ps := ["team"]) fun _ _ _ _ _ _ us hl => match us, hl with | [_], _ => rfl
  have FIH := fun_mk (st := sIsHelpers) yIH cIH kIH
  have bIH := FIH.binds (ps := ["team", "value"]) fun _ _ _ _ _ _ us hl => match us, hl with | [_, _], _ => rfl
  have FSd := fun_mk (st := sSides) ySd cSd kSd
  have bSd := FSd.binds (ps := ["team", "helpers"]) fun _ _ _ _ _ _ us hl => match us, hl with | [_, _], _ => rfl
  have FWH := fun_mk (st := sWantHelpers) yWH cWH kWH
  have bWH := FWH.binds (ps := ["team", "helpers"]) fun _ _ _ _ _ _ us hl => match us, hl with | [_, _], _ => rfl
  have FIT := fun_mk (st := sIsTable) yIT cIT kIT
  have bIT := FIT.binds (ps := ["value"]) fun _ _ _ _ _ _ us hl => match us, hl with | [_], _ => rfl
  have FlPot := fun_mk (st := lPot) ylPot clPot klPot
  have blPot := FlPot.binds (ps := ["_law_script", "_law_k"]) fun _ _ _ _ _ _ us hl => match us, hl with | [_, _], _ => rfl
  have FlDraw := fun_mk (st := lDraw) ylDraw clDraw klDraw
  have blDraw := FlDraw.binds (ps := ["_law_pot_here", "_law_many"]) fun _ _ _ _ _ _ us hl => match us, hl with | [_, _], _ => rfl
  have FlPick := fun_mk (st := lPick) ylPick clPick klPick
  have blPick := FlPick.binds (ps := ["_law_pot_here", "_law_some"]) fun _ _ _ _ _ _ us hl => match us, hl with | [_, _], _ => rfl
  have FlNumber := fun_mk (st := lNumber) ylNumber clNumber klNumber
  have blNumber := FlNumber.binds (ps := ["_law_pot_here"]) fun _ _ _ _ _ _ us hl => match us, hl with | [_], _ => rfl
  have FlTable := fun_mk (st := lTable) ylTable clTable klTable
  have blTable := FlTable.binds (ps := ["_law_pot_here", "_law_tall", "_law_wide"]) fun _ _ _ _ _ _ us hl => match us, hl with | [_, _, _], _ => rfl
  have FlIsN := fun_mk (st := lIsNumber) ylIsN clIsN klIsN
  have blIsN := FlIsN.binds (ps := ["_law_value"]) fun _ _ _ _ _ _ us hl => match us, hl with | [_], _ => rfl
  have FlIsT := fun_mk (st := lIsTable) ylIsT clIsT klIsT
  have blIsT := FlIsT.binds (ps := ["_law_value", "_law_most"]) fun _ _ _ _ _ _ us hl => match us, hl with | [_, _], _ => rfl
  have FlAre := fun_mk (st := lAreHelpers) ylAre clAre klAre
  have blAre := FlAre.binds (ps := ["_law_value", "_law_many"]) fun _ _ _ _ _ _ us hl => match us, hl with | [_, _], _ => rfl
  have FlBent := fun_mk (st := lBent) ylBent clBent klBent
  have blBent := FlBent.binds (ps := ["_law_pot_here", "_law_table_here"]) fun _ _ _ _ _ _ us hl => match us, hl with | [_, _], _ => rfl
  have FlTables := fun_mk (st := lTables) ylTables clTables klTables
  have blTables := FlTables.binds (ps := ["_law_pot_here"]) fun _ _ _ _ _ _ us hl => match us, hl with | [_], _ => rfl
  have FlHelpers := fun_mk (st := lHelpers) ylHelpers clHelpers klHelpers
  have blHelpers := FlHelpers.binds (ps := ["_law_pot_here"]) fun _ _ _ _ _ _ us hl => match us, hl with | [_], _ => rfl
  have FlRight := fun_mk (st := lRight) ylRight clRight klRight
  have blRight := FlRight.binds (ps := ["_law_pot_here"]) fun _ _ _ _ _ _ us hl => match us, hl with | [_], _ => rfl
  have FLaw := fun_mk (st := lLaw) yLaw cLaw kLaw
  have FRepr := fun_mk (st := sRepr) yRepr cRepr kRepr
  have bRepr := FRepr.binds (ps := ["self"]) fun _ _ _ _ _ _ us hl => match us, hl with | [_], _ => rfl
  have FTI := fun_mk (st := sTeamInit) yTI cTI kTI
  have bTI := FTI.binds (ps := ["self", "tables"]) fun _ _ _ _ _ _ us hl => match us, hl with | [_, _], _ => rfl
  have FMany := fun_mk (st := sMany) yMany cMany kMany
  have bMany := FMany.binds (ps := ["self"]) fun _ _ _ _ _ _ us hl => match us, hl with | [_], _ => rfl
  have hMany : PropOf K CT "many" pMany fMany := ⟨aMany, gMany, tMany, _, rMany⟩
  have FInit : FunD K "__init__" "Ratio.__init__" (defArgs sInit) (defBody sInit) (defScope sInit) [.int 1] [] fInit _ := ⟨⟨_, _, _, _, _, _, _, _, _, _, rfl, yInit, cInit, .inr ⟨(fun z => nomatch z), T0, _, [.int 1 tkT], nT, rfl, lT0, rfl, .cons ⟨tkT, rfl⟩ .nil⟩, .inl rfl⟩, kInit⟩
  obtain ⟨ds0, v0, b0⟩ := FInit.binds1 (ps := ["self", "top", "bottom"]) 3 1 (fun z => nomatch z) rfl fun _ _ _ _ _ _ _ us its hl hi => match us, hl, its, hi with | [_, _, _], _, [_], _ => ⟨_, rfl, rfl⟩
  cases v0
  obtain ⟨ds1, v1, b1⟩ := FInit.binds1 (ps := ["self", "top", "bottom"]) 2 0 (fun z => nomatch z) rfl fun _ _ _ _ _ _ _ us its hl hi => match us, hl, its, hi with | [_, _], _, [_], _ => ⟨_, rfl, rfl⟩
  have kbIT : KBn K _ ["value"] 0 ["value"] (fun us ws => us ++ ws) (fun vs zs => vs ++ zs) := kbn_of FIT fun _ _ _ _ _ _ us ws hl hw => match us, hl, ws, hw with | [], _, [_], _ => rfl
  have kbSd : KBn K _ ["team", "helpers"] 1 ["helpers"] (fun us ws => us ++ ws) (fun vs zs => vs ++ zs) := kbn_of FSd fun _ _ _ _ _ _ us ws hl hw => match us, hl, ws, hw with | [_], _, [_], _ => rfl
  have kbIH : KBn K _ ["team", "value"] 0 ["value", "team"] (fun us ws => us ++ ws.reverse) (fun vs zs => vs ++ zs.reverse) := kbn_turn FIH fun _ _ _ _ _ _ us ws hl hw => match us, hl, ws, hw with | [], _, [_, _], _ => rfl
  refine ⟨PySem.W.fnOf "law" "law" (defArgs lLaw) (defBody lLaw) (defScope lLaw) .none kVLaw dcLaw pmLaw anLaw cdLaw ctLaw, fun s v => .of_eq rfl, fun base _ _ => ?_⟩
  have GI := ok_isInt (P := l.prog) (w := w) (base := base) FI B
  have G0 := ok_init (P := l.prog) (w := w) (base := base) FInit B R GI (PySem.W.mg_of X G aI) kI bI
  let D : Mkr l.prog w K mg base C := ⟨B, R, fInit, _, ⟨mk, aInit, iInit, kc⟩, G0, b0, ds1, v1, b1⟩
  have GL := ok_isList (P := l.prog) (w := w) (base := base) FL B R
  have GN := ok_isNumber FN B R GI (PySem.W.mg_of X G aI) kI bI
  let H : Chk l.prog w K mg base C := ⟨B, R, fL, _, GL, PySem.W.mg_of X G aL, kL, bL, fN, _, GN, PySem.W.mg_of X G aN, kN, bN⟩
  have GNs := ok_isNumbers FNs H
  have GAL := ok_areLists FAL H GNs (PySem.W.mg_of X G aNs) kNs bNs
  have GAT := ok_areTables FAT H GAL (PySem.W.mg_of X G aAL) kAL bAL
  have GIT := ok_isTable FIT (PySem.W.mg_of X G c96) GAL (PySem.W.mg_of X G aAL) kAL bAL
  have GAs := ok_asRatio FAs D
  have GRw := ok_asRow FRw GAs (PySem.W.mg_of X G aAs) kAs bAs
  have GRs := ok_asRows FRs GRw (PySem.W.mg_of X G aRw) kRw bRw
  have GTI := ok_teamInit FTI RT (PySem.W.mg_of X G c16) (PySem.W.mg_of X G c4) GAT (PySem.W.mg_of X G aAT) kAT bAT GRs (PySem.W.mg_of X G aRs) kRs bRs
  have GMany := ok_many (P := l.prog) (w := w) (base := base) FMany B RT
  have GWT := ok_wantTeam (P := l.prog) (w := w) (base := base) FWT B R RT (kit_self CT)
  let HL : Hlp l.prog w K mg base C CT := ⟨B, RT, _, PySem.W.mg_of X G c24, fWT, _, GWT, PySem.W.mg_of X G aWT, kWT, bWT, pMany, fMany, _, GMany, hMany, bMany, fAT, _, GAT, PySem.W.mg_of X G aAT, kAT, bAT⟩
  have GIH := ok_isHelpers FIH HL
  have GWH := ok_wantHelpers FWH GIH (PySem.W.mg_of X G aIH) kIH bIH
  have GSd := ok_sides FSd B GWH (PySem.W.mg_of X G aWH) kWH bWH
  have GlIsN := ok_lIsNumber (P := l.prog) (w := w) (base := base) FlIsN B R
  have GlIsT := ok_lIsTable FlIsT B R GlIsN (PySem.W.mg_of X G alIsN) klIsN blIsN
  have GlAre := ok_lHelpers FlAre B R GlIsT (PySem.W.mg_of X G alIsT) klIsT blIsT
  let LD : Drw l.prog w K mg base := ⟨flDraw, _, ok_draw FlDraw B, PySem.W.mg_of X G alDraw, klDraw, blDraw⟩
  let LP : Pck l.prog w K mg base := ⟨flPick, _, ok_pick FlPick B LD, PySem.W.mg_of X G alPick, klPick, blPick⟩
  have GlNumber := ok_number FlNumber D LP
  have GlTable := ok_table FlTable B GlNumber (PySem.W.mg_of X G alNumber) klNumber blNumber
  have GlBent := ok_bent FlBent D LD LP
  have GRepr := ok_repr (P := l.prog) (w := w) (base := base) FRepr R
  let T1 : TR l.prog w K mg base C := ⟨B, LD, flTable, _, GlTable, PySem.W.mg_of X G alTable, klTable, blTable, flBent, _, GlBent, PySem.W.mg_of X G alBent, klBent, blBent, fIT, _, GIT, PySem.W.mg_of X G aIT, kIT, bIT, kbIT, flIsT, _, GlIsT, PySem.W.mg_of X G alIsT, klIsT, blIsT, fRepr, _, GRepr, ⟨aRepr, iRepr⟩, bRepr⟩
  let T2 : HR l.prog w K mg base C CT := { toTR := T1, RT := RT, f0 := fTI, fd0 := _, MT := ⟨mkT, aTI, iTI, kcT⟩, G0 := GTI, b0 := bTI, fH := fIH, fdH := _, GH := GIH, mH := PySem.W.mg_of X G aIH, kH := kIH, bH := bIH, bkH := kbIH, fO := flAre, fdO := _, GO := GlAre, mO := PySem.W.mg_of X G alAre, kO := klAre, bO := blAre, fS := fSd, fdS := _, GS := GSd, mS := PySem.W.mg_of X G aSd, kS := kSd, bkS := kbSd }
  have G1 := ok_tablesRight FlTables T1
  have G2 := ok_helpersRight FlHelpers T2
  have GR := ok_right FlRight G1 (PySem.W.mg_of X G alTables) klTables blTables G2 (PySem.W.mg_of X G alHelpers) klHelpers blHelpers
  exact ok_law FLaw GR (PySem.W.mg_of X G alRight) klRight blRight (ok_pot FlPot B) (PySem.W.mg_of X G alPot) klPot blPot
theorem walk {l : PySem.W.OpenLaw} {n : Nat} {q : Program} {loose : List Str} {XP : (Str → Option Value) → Heap → Prop} {YP : World → Heap → Prop} {d : DefRec} {K : Params → PySem.W.Frag} (hn : l.most = some n) (hn2 : n ≤ sizeLine) (hdf : d.params.defaults = [])
    (hY : ∀ (w : World) (h : Heap), YP w h → (K w.params).In h)
    (F : ∀ (w : World) (mg : Str → Option Value) (fa : Addr) (h : Heap), (K w.params).In h → h.Ns mainGlobals mg → mg d.name = some (.ref fa) →
      ∃ fd : FuncData, (∀ (s : Shared) (u : Value), BindsTo s fd ⟨[u], []⟩ [("_law_script", u)]) ∧ ∀ base : Heap, (K w.params).In base → base.Ns mainGlobals mg → FnG l.prog w (K w.params) mg base 11 fa fd ["_law_script"] (SpLaw (K w.params))) :
    PySem.W.WalkO q loose XP YP l.row.toRowW d [] (fun f vs => PySem.call f vs) :=
  walkG (k := 11) (x := "_law_script") (sp := fun K => SpLaw K) hn hn2 hdf ⟨rfl, by decide, by decide⟩ hY F fun K H a ns _ hS => ⟨a, ns, rfl, hS, fun _ => rfl⟩
end RQ

set_option Elab.async false
set_option maxRecDepth 100000
open PySem PySem.W PyProof.Rows in
set_option maxRecDepth 100000 in
set_option maxHeartbeats 0 in
theorem PySem.Challenge.cw_shrunkrooms_k22_tables_and_helpers_any_v_holds : PySem.Challenge.rw_shrunkrooms_k22_tables_and_helpers_any_v.Holds := by
  w_on; o_law; k_head; (case hw => w_witness2)
  k_fill
  refine RQ.walk (l := PySem.Challenge.rw_shrunkrooms_k22_tables_and_helpers_any_v) rfl (by decide) rfl (fun w h Y => PySem.W.kIn_of Y) ?F
  case F =>
    intro w mg fa h KX G hmg
    refine' RQ.all_mk KX G hmg ?aC ?aInit ?iInit ?yInit ?cInit ?kInit ?lT0 ?aRepr ?iRepr ?yRepr ?cRepr ?kRepr ?aCT ?aTI ?iTI ?yTI ?cTI ?kTI ?aMany ?gMany ?tMany ?rMany ?yMany ?cMany ?kMany ?aI ?yI ?cI ?kI ?aN ?yN ?cN ?kN ?aAs ?yAs ?cAs ?kAs ?aL ?yL ?cL ?kL ?aNs ?yNs ?cNs ?kNs ?aAL ?yAL ?cAL ?kAL ?aAT ?yAT ?cAT ?kAT ?aRw ?yRw ?cRw ?kRw ?aRs ?yRs ?cRs ?kRs ?aWT ?yWT ?cWT ?kWT ?aIH ?yIH ?cIH ?kIH ?aSd ?ySd ?cSd ?kSd ?aWH ?yWH ?cWH ?kWH ?aIT ?yIT ?cIT ?kIT ?alPot ?ylPot ?clPot ?klPot ?alDraw ?ylDraw ?clDraw ?klDraw ?alPick ?ylPick ?clPick ?klPick ?alNumber ?ylNumber ?clNumber ?klNumber ?alTable ?ylTable ?clTable ?klTable ?alIsN ?ylIsN ?clIsN ?klIsN ?alIsT ?ylIsT ?clIsT ?klIsT ?alAre ?ylAre ?clAre ?klAre ?alBent ?ylBent ?clBent ?klBent ?alTables ?ylTables ?clTables ?klTables ?alHelpers ?ylHelpers ?clHelpers ?klHelpers ?alRight ?ylRight ?clRight ?klRight ?aLaw ?yLaw ?cLaw ?kLaw ?z_isinstance ?z_int ?z_bool ?z_abs ?z_str ?z_list ?z_tuple ?z_len ?z_max ?z_divmod ?z_range ?z_repr ?z_all ?z_sum ?z_gcd ?c16 ?c4 ?c24 ?c96 ?pg ?hd ?po ?sa ?mk ?kc ?nTop ?nBot ?ha ?hn ?htk ?hm ?cC ?tyC ?b_int ?b_bool ?b_list ?b_tuple ?o_int ?o_bool ?o_NoneType ?o_str ?o_list ?o_tuple ?o_dict ?pgT ?hdT ?poT ?saT ?mkT ?kcT ?nTab ?haT ?hmT
    (case aC => k_is)
    (case aInit => k_is)
    (case iInit => k_is)
    (case yInit => k_is)
    (case cInit => k_is)
    (case kInit => k_is)
    (case lT0 => k_is)
    (case aRepr => k_is)
    (case iRepr => k_is)
    (case yRepr => k_is)
    (case cRepr => k_is)
    (case kRepr => k_is)
    (case aCT => k_is)
    (case aTI => k_is)
    (case iTI => k_is)
    (case yTI => k_is)
    (case cTI => k_is)
    (case kTI => k_is)
    (case aMany => k_is)
    (case gMany => k_is)
    (case tMany => k_is)
    (case rMany => k_is)
    (case yMany => k_is)
    (case cMany => k_is)
    (case kMany => k_is)
    (case aI => k_is)
    (case yI => k_is)
    (case cI => k_is)
    (case kI => k_is)
    (case aN => k_is)
    (case yN => k_is)
    (case cN => k_is)
    (case kN => k_is)
    (case aAs => k_is)
    (case yAs => k_is)
    (case cAs => k_is)
    (case kAs => k_is)
    (case aL => k_is)
    (case yL => k_is)
    (case cL => k_is)
    (case kL => k_is)
    (case aNs => k_is)
    (case yNs => k_is)
    (case cNs => k_is)
    (case kNs => k_is)
    (case aAL => k_is)
    (case yAL => k_is)
    (case cAL => k_is)
    (case kAL => k_is)
    (case aAT => k_is)
    (case yAT => k_is)
    (case cAT => k_is)
    (case kAT => k_is)
    (case aRw => k_is)
    (case yRw => k_is)
    (case cRw => k_is)
    (case kRw => k_is)
    (case aRs => k_is)
    (case yRs => k_is)
    (case cRs => k_is)
    (case kRs => k_is)
    (case aWT => k_is)
    (case yWT => k_is)
    (case cWT => k_is)
    (case kWT => k_is)
    (case aIH => k_is)
    (case yIH => k_is)
    (case cIH => k_is)
    (case kIH => k_is)
    (case aSd => k_is)
    (case ySd => k_is)
    (case cSd => k_is)
    (case kSd => k_is)
    (case aWH => k_is)
    (case yWH => k_is)
    (case cWH => k_is)
    (case kWH => k_is)
    (case aIT => k_is)
    (case yIT => k_is)
    (case cIT => k_is)
    (case kIT => k_is)
    (case alPot => k_is)
    (case ylPot => k_is)
    (case clPot => k_is)
    (case klPot => k_is)
    (case alDraw => k_is)
    (case ylDraw => k_is)
    (case clDraw => k_is)
    (case klDraw => k_is)
    (case alPick => k_is)
    (case ylPick => k_is)
    (case clPick => k_is)
    (case klPick => k_is)
    (case alNumber => k_is)
    (case ylNumber => k_is)
    (case clNumber => k_is)
    (case klNumber => k_is)
    (case alTable => k_is)
    (case ylTable => k_is)
    (case clTable => k_is)
    (case klTable => k_is)
    (case alIsN => k_is)
    (case ylIsN => k_is)
    (case clIsN => k_is)
    (case klIsN => k_is)
    (case alIsT => k_is)
    (case ylIsT => k_is)
    (case clIsT => k_is)
    (case klIsT => k_is)
    (case alAre => k_is)
    (case ylAre => k_is)
    (case clAre => k_is)
    (case klAre => k_is)
    (case alBent => k_is)
    (case ylBent => k_is)
    (case clBent => k_is)
    (case klBent => k_is)
    (case alTables => k_is)
    (case ylTables => k_is)
    (case clTables => k_is)
    (case klTables => k_is)
    (case alHelpers => k_is)
    (case ylHelpers => k_is)
    (case clHelpers => k_is)
    (case klHelpers => k_is)
    (case alRight => k_is)
    (case ylRight => k_is)
    (case clRight => k_is)
    (case klRight => k_is)
    (case aLaw => k_is)
    (case yLaw => k_is)
    (case cLaw => k_is)
    (case kLaw => k_is)
    (case z_isinstance => k_is)
    (case z_int => k_is)
    (case z_bool => k_is)
    (case z_abs => k_is)
    (case z_str => k_is)
    (case z_list => k_is)
    (case z_tuple => k_is)
    (case z_len => k_is)
    (case z_max => k_is)
    (case z_divmod => k_is)
    (case z_range => k_is)
    (case z_repr => k_is)
    (case z_all => k_is)
    (case z_sum => k_is)
    (case z_gcd => k_is)
    (case c16 => k_is)
    (case c4 => k_is)
    (case c24 => k_is)
    (case c96 => k_is)
    (case pg => k_is)
    (case hd => k_is)
    (case po => k_is)
    (case sa => k_is)
    (case mk => k_is)
    (case kc => k_is)
    (case nTop => k_is)
    (case nBot => k_is)
    (case ha => k_is)
    (case hn => k_is)
    (case htk => k_is)
    (case hm => k_is)
    (case cC => k_is)
    (case tyC => k_is)
    (case b_int => k_is)
    (case b_bool => k_is)
    (case b_list => k_is)
    (case b_tuple => k_is)
    (case o_int => k_is)
    (case o_bool => k_is)
    (case o_NoneType => k_is)
    (case o_str => k_is)
    (case o_list => k_is)
    (case o_tuple => k_is)
    (case o_dict => k_is)
    (case pgT => k_is)
    (case hdT => k_is)
    (case poT => k_is)
    (case saT => k_is)
    (case mkT => k_is)
    (case kcT => k_is)
    (case nTab => k_is)
    (case haT => k_is)
    (case hmT => k_is)
