import PyProof.Rows.All
import Wide.All
import OpenK.AllK
import Wide.FinOn
import HandS.ForMost
import HandS.SlotsOwn
import HandS.Wide
import HandS.Gcd
import KE.KOpsOwn
import KE.KMathG
import KE.KCallOwn
import HandS.IsInst
import HandS.Property
import HandS.Defaults
import HandS.FStr
import HandS.Style
import HandS.OwnEq
import HandS.ClsMeth
import HandS.MakeKwOnly
import HandS.MakeKw
import PySem.Challenge.RW_shrunkrooms_k11_ratios_reckoned
set_option Elab.async false
set_option maxRecDepth 100000
set_option linter.all false
/-! The mathematics of fractions in lowest terms: no Python here. -/
namespace RQ
/-- the part that is taken out of a top and a bottom, with the bottom's sign -/
def G (t b : Int) : Int := if b < 0 then -((Nat.gcd t.natAbs b.natAbs : Nat) : Int) else ((Nat.gcd t.natAbs b.natAbs : Nat) : Int)
def low (t b : Int) : Int × Int := (t.fdiv (G t b), b.fdiv (G t b))
/-- in lowest terms -/
def Red (p : Int × Int) : Prop := 0 < p.2 ∧ Nat.gcd p.1.natAbs p.2.natAbs = 1

theorem gcd_pos {t b : Int} (h : b ≠ 0) : 0 < Nat.gcd t.natAbs b.natAbs := Nat.gcd_pos_of_pos_right _ (Int.natAbs_pos.mpr h)
theorem G_ne {t b : Int} (h : b ≠ 0) : G t b ≠ 0 := by
  have := gcd_pos (t := t) h
  unfold G
  split <;> omega
theorem G_abs (t b : Int) : (G t b).natAbs = Nat.gcd t.natAbs b.natAbs := by
  unfold G
  split
  · rw [Int.natAbs_neg, Int.natAbs_natCast]
  · rw [Int.natAbs_natCast]
theorem G_dvd_top (t b : Int) : G t b ∣ t := Int.natAbs_dvd_natAbs.mp (by rw [G_abs]; exact Nat.gcd_dvd_left _ _)
theorem G_dvd_bot (t b : Int) : G t b ∣ b := Int.natAbs_dvd_natAbs.mp (by rw [G_abs]; exact Nat.gcd_dvd_right _ _)
theorem fdiv_mul {a g : Int} (h : g ∣ a) : a.fdiv g * g = a := by
  have h1 : g * a.fdiv g + a.fmod g = a := Int.mul_fdiv_add_fmod a g
  have h2 : a.fmod g = 0 := Int.fmod_eq_zero_of_dvd h
  rw [h2, Int.add_zero, Int.mul_comm] at h1
  exact h1
theorem low_top (t b : Int) : (low t b).1 * G t b = t := fdiv_mul (G_dvd_top t b)
theorem low_bot (t b : Int) : (low t b).2 * G t b = b := fdiv_mul (G_dvd_bot t b)
theorem low_pos {t b : Int} (h : b ≠ 0) : 0 < (low t b).2 := by
  have e := low_bot t b
  have g := gcd_pos (t := t) h
  by_cases hb : b < 0
  · have hG : G t b < 0 := by unfold G; rw [if_pos hb]; omega
    rcases Int.lt_trichotomy (low t b).2 0 with q | q | q
    · have := Int.mul_pos_of_neg_of_neg q hG
      omega
    · rw [q] at e; omega
    · exact q
  · have hG : 0 < G t b := by unfold G; rw [if_neg hb]; omega
    rcases Int.lt_trichotomy (low t b).2 0 with q | q | q
    · have := Int.mul_neg_of_neg_of_pos q hG
      omega
    · rw [q] at e; omega
    · exact q
theorem low_cop {t b : Int} (h : b ≠ 0) : Nat.gcd (low t b).1.natAbs (low t b).2.natAbs = 1 := by
  have g := gcd_pos (t := t) h
  have e1 : (low t b).1.natAbs * Nat.gcd t.natAbs b.natAbs = t.natAbs := by
    rw [← G_abs, ← Int.natAbs_mul, low_top]
  have e2 : (low t b).2.natAbs * Nat.gcd t.natAbs b.natAbs = b.natAbs := by
    rw [← G_abs, ← Int.natAbs_mul, low_bot]
  have e3 : Nat.gcd (low t b).1.natAbs (low t b).2.natAbs * Nat.gcd t.natAbs b.natAbs = Nat.gcd t.natAbs b.natAbs := by
    rw [← Nat.gcd_mul_right, e1, e2]
  exact Nat.eq_of_mul_eq_mul_right g (by rw [e3, Nat.one_mul])
theorem low_red {t b : Int} (h : b ≠ 0) : Red (low t b) := ⟨low_pos h, low_cop h⟩
theorem low_of_red {p : Int × Int} (h : Red p) : low p.1 p.2 = p := by
  have hG : G p.1 p.2 = 1 := by
    unfold G
    rw [if_neg (by have := h.1; omega), h.2]
    rfl
  unfold low
  rw [hG, Int.fdiv_one, Int.fdiv_one]
theorem red_one (t : Int) : Red (t, 1) := ⟨(by decide : (0 : Int) < 1), by show Nat.gcd t.natAbs 1 = 1; exact Nat.gcd_one_right _⟩
theorem low_one (t : Int) : low t 1 = (t, 1) := low_of_red (red_one t)
/-- two reduced fractions of one worth are one -/
theorem red_eq {p q : Int × Int} (hp : Red p) (hq : Red q) (h : p.1 * q.2 = q.1 * p.2) : p = q := by
  have h' : p.1.natAbs * q.2.natAbs = q.1.natAbs * p.2.natAbs := by rw [← Int.natAbs_mul, ← Int.natAbs_mul, h]
  have d1 : p.2.natAbs ∣ q.2.natAbs := by
    have : p.2.natAbs ∣ p.1.natAbs * q.2.natAbs := ⟨q.1.natAbs, by rw [h', Nat.mul_comm]⟩
    exact Nat.Coprime.dvd_of_dvd_mul_left (show Nat.Coprime p.2.natAbs p.1.natAbs from by rw [Nat.coprime_iff_gcd_eq_one, Nat.gcd_comm]; exact hp.2) this
  have d2 : q.2.natAbs ∣ p.2.natAbs := by
    have : q.2.natAbs ∣ q.1.natAbs * p.2.natAbs := ⟨p.1.natAbs, by rw [← h', Nat.mul_comm]⟩
    exact Nat.Coprime.dvd_of_dvd_mul_left (show Nat.Coprime q.2.natAbs q.1.natAbs from by rw [Nat.coprime_iff_gcd_eq_one, Nat.gcd_comm]; exact hq.2) this
  have e := Nat.dvd_antisymm d1 d2
  have e2 : p.2 = q.2 := by
    have a := hp.1
    have b := hq.1
    omega
  have e1 : p.1 = q.1 := by
    rw [e2] at h
    exact Int.eq_of_mul_eq_mul_right (by have := hq.1; omega) h
  exact Prod.ext e1 e2
/-- what low brings has the worth of what it was given -/
theorem low_worth (t b : Int) : (low t b).1 * b = t * (low t b).2 := by
  have e1 := low_top t b
  have e2 := low_bot t b
  calc (low t b).1 * b = (low t b).1 * ((low t b).2 * G t b) := by rw [e2]
    _ = ((low t b).1 * G t b) * (low t b).2 := by rw [Int.mul_comm (low t b).2, Int.mul_assoc]
    _ = t * (low t b).2 := by rw [e1]
theorem low_cross {t b s d : Int} (hb : b ≠ 0) (hd : d ≠ 0) (h : t * d = s * b) : low t b = low s d := by
  refine red_eq (low_red hb) (low_red hd) ?_
  have w1 := low_worth t b
  have w2 := low_worth s d
  have hbd : b * d ≠ 0 := Int.mul_ne_zero hb hd
  refine Int.eq_of_mul_eq_mul_right hbd ?_
  calc (low t b).1 * (low s d).2 * (b * d) = ((low t b).1 * b) * ((low s d).2 * d) := by
        simp only [Int.mul_assoc, Int.mul_left_comm, Int.mul_comm]
    _ = (t * (low t b).2) * ((low s d).2 * d) := by rw [w1]
    _ = (t * d) * ((low t b).2 * (low s d).2) := by simp only [Int.mul_assoc, Int.mul_left_comm, Int.mul_comm]
    _ = (s * b) * ((low t b).2 * (low s d).2) := by rw [h]
    _ = (s * (low s d).2) * ((low t b).2 * b) := by simp only [Int.mul_assoc, Int.mul_left_comm, Int.mul_comm]
    _ = ((low s d).1 * d) * ((low t b).2 * b) := by rw [w2]
    _ = (low s d).1 * (low t b).2 * (b * d) := by simp only [Int.mul_assoc, Int.mul_left_comm, Int.mul_comm]
theorem low_of_worth {t b : Int} {p : Int × Int} (hb : b ≠ 0) (hp : Red p) (h : t * p.2 = p.1 * b) : low t b = p := by
  have := low_cross (s := p.1) hb (show p.2 ≠ 0 from by have := hp.1; omega) h
  rw [this, low_of_red hp]
theorem low_le_top (t : Int) {b : Int} (hb : b ≠ 0) : (low t b).1.natAbs ≤ t.natAbs := by
  have e : (low t b).1.natAbs * (G t b).natAbs = t.natAbs := by rw [← Int.natAbs_mul, low_top]
  have g : 0 < (G t b).natAbs := by have := G_ne (t := t) hb; omega
  rw [← e]
  exact Nat.le_mul_of_pos_right _ g
theorem low_le_bot (t : Int) {b : Int} (hb : b ≠ 0) : (low t b).2.natAbs ≤ b.natAbs := by
  have e : (low t b).2.natAbs * (G t b).natAbs = b.natAbs := by rw [← Int.natAbs_mul, low_bot]
  have g : 0 < (G t b).natAbs := by have := G_ne (t := t) hb; omega
  rw [← e]
  exact Nat.le_mul_of_pos_right _ g

/-! ### sums, products, quotients of pairs -/
abbrev Fr := Int × Int
def add (p q : Fr) : Fr := low (p.1 * q.2 + q.1 * p.2) (p.2 * q.2)
def sub (p q : Fr) : Fr := low (p.1 * q.2 - q.1 * p.2) (p.2 * q.2)
def mul (p q : Fr) : Fr := low (p.1 * q.1) (p.2 * q.2)
def neg (p : Fr) : Fr := low (-p.1) p.2
def over (p q : Fr) : Fr := low (p.1 * q.2) (p.2 * q.1)
theorem Red.ne {p : Fr} (h : Red p) : p.2 ≠ 0 := by have := h.1; omega
theorem neg_eq {p : Fr} (h : Red p) : neg p = (-p.1, p.2) :=
  low_of_red (p := (-p.1, p.2)) ⟨h.1, by show Nat.gcd (-p.1).natAbs p.2.natAbs = 1; rw [Int.natAbs_neg]; exact h.2⟩
theorem abs_eq {p : Fr} (h : Red p) : low (if p.1 < 0 then -p.1 else p.1) p.2 = (if p.1 < 0 then -p.1 else p.1, p.2) :=
  low_of_red (p := (if p.1 < 0 then -p.1 else p.1, p.2)) ⟨h.1, by
    show Nat.gcd (if p.1 < 0 then -p.1 else p.1).natAbs p.2.natAbs = 1
    split
    · rw [Int.natAbs_neg]; exact h.2
    · exact h.2⟩
/-- 0 - p -/
theorem rsub0 {p : Fr} (h : Red p) : add (neg p) (0, 1) = (-p.1, p.2) := by
  have e := neg_eq h
  unfold add
  rw [e]
  show low (-p.1 * 1 + 0 * p.2) (p.2 * 1) = _
  rw [Int.mul_one, Int.zero_mul, Int.add_zero, Int.mul_one]
  exact e
/-- n - p, told by the law's own sum -/
theorem rsub {p : Fr} (h : Red p) (n : Int) : add (neg p) (n, 1) = add (n, 1) (0 - p.1, p.2) := by
  rw [neg_eq h]
  unfold add
  show low (-p.1 * 1 + n * p.2) (p.2 * 1) = low (n * p.2 + (0 - p.1) * 1) (1 * p.2)
  rw [Int.mul_one, Int.mul_one, Int.mul_one, Int.one_mul, Int.zero_sub, Int.add_comm]
theorem sub_less (p q : Fr) : sub p q = add p (0 - q.1, q.2) := by
  unfold sub add
  show low (p.1 * q.2 - q.1 * p.2) (p.2 * q.2) = low (p.1 * q.2 + (0 - q.1) * p.2) (p.2 * q.2)
  rw [Int.zero_sub, Int.neg_mul, Int.sub_eq_add_neg]
theorem add_red {p q : Fr} (hp : Red p) (hq : Red q) : Red (add p q) := low_red (Int.mul_ne_zero hp.ne hq.ne)

/-! ### Euclid's own steps -/
theorem euclid_step {x y : Int} (hy : 0 < y) (hx : 0 ≤ x) : Nat.gcd y.natAbs (x % y).natAbs = Nat.gcd x.natAbs y.natAbs := by
  have e : (x % y).natAbs = x.natAbs % y.natAbs := by
    obtain ⟨a, rfl⟩ := Int.eq_ofNat_of_zero_le hx
    obtain ⟨b, rfl⟩ := Int.eq_ofNat_of_zero_le (Int.le_of_lt hy)
    rfl
  rw [e, Nat.gcd_comm x.natAbs, Nat.gcd_rec y.natAbs x.natAbs]
  exact Nat.gcd_comm _ _

/-! ### sizes -/
def Sz (n : Nat) (x : Int) : Prop := x.natAbs < 2 ^ n
theorem Sz.mono {n m : Nat} {x : Int} (h : Sz n x) (hm : n ≤ m) : Sz m x := Nat.lt_of_lt_of_le h (Nat.pow_le_pow_right (by decide) hm)
theorem Sz.mul {n m : Nat} {x y : Int} (h : Sz n x) (k : Sz m y) : Sz (n + m) (x * y) := by
  unfold Sz
  rw [Int.natAbs_mul, Nat.pow_add]
  exact Nat.mul_lt_mul'' h k
theorem Sz.add {n : Nat} {x y : Int} (h : Sz n x) (k : Sz n y) : Sz (n + 1) (x + y) := by
  unfold Sz at *
  rw [Nat.pow_succ]
  have := Int.natAbs_add_le x y
  omega
theorem Sz.sub {n : Nat} {x y : Int} (h : Sz n x) (k : Sz n y) : Sz (n + 1) (x - y) := by
  unfold Sz at *
  rw [Nat.pow_succ]
  have := Int.natAbs_sub_le x y
  omega
theorem Sz.neg {n : Nat} {x : Int} (h : Sz n x) : Sz n (-x) := by unfold Sz; rw [Int.natAbs_neg]; exact h
theorem Sz.le {n : Nat} {x y : Int} (h : Sz n y) (k : x.natAbs ≤ y.natAbs) : Sz n x := Nat.lt_of_le_of_lt k h
theorem Sz.G {n : Nat} {t b : Int} (hb : b ≠ 0) (h : Sz n b) : Sz n (RQ.G t b) := by
  unfold Sz
  rw [G_abs]
  exact Nat.lt_of_le_of_lt (Nat.le_of_dvd (by omega) (Nat.gcd_dvd_right _ _)) h
theorem Sz.lowT {n : Nat} {t b : Int} (hb : b ≠ 0) (h : Sz n t) : Sz n (low t b).1 := h.le (low_le_top t hb)
theorem Sz.lowB {n : Nat} {t b : Int} (hb : b ≠ 0) (h : Sz n b) : Sz n (low t b).2 := h.le (low_le_bot t hb)

/-! ### totals: by least common multiples, and pair by pair -/
/-- one step of the program's: both sums keep their worth -/
theorem total_step {tt tb t b c : Int} {F : Fr} (hF : Red F) (htb : 0 < tb) (hb : 0 < b) (hc : 0 < c) (d1 : tb ∣ c) (d2 : b ∣ c) (h : tt * F.2 = F.1 * tb) :
    (tt * (c / tb) + t * (c / b)) * (add F (t, b)).2 = (add F (t, b)).1 * c := by
  obtain ⟨x, rfl⟩ := d1
  obtain ⟨y, hy⟩ := d2
  have e1 : tb * x / tb = x := Int.mul_ediv_cancel_left _ (by omega)
  have e2 : tb * x / b = y := by rw [hy]; exact Int.mul_ediv_cancel_left _ (by omega)
  rw [e1, e2]
  have w := low_worth (F.1 * b + t * F.2) (F.2 * b)
  have hne : F.2 * b ≠ 0 := Int.mul_ne_zero hF.ne (by omega)
  refine Int.eq_of_mul_eq_mul_right hne ?_
  show (tt * x + t * y) * (low (F.1 * b + t * F.2) (F.2 * b)).2 * (F.2 * b) = (low (F.1 * b + t * F.2) (F.2 * b)).1 * (tb * x) * (F.2 * b)
  generalize low (F.1 * b + t * F.2) (F.2 * b) = L at w
  have k : (tt * x + t * y) * (F.2 * b) = (F.1 * b + t * F.2) * (tb * x) := by
    calc (tt * x + t * y) * (F.2 * b) = (tt * F.2) * (x * b) + (t * F.2) * (b * y) := by
          rw [Int.add_mul]
          simp only [Int.mul_assoc, Int.mul_left_comm, Int.mul_comm]
      _ = (F.1 * tb) * (x * b) + (t * F.2) * (tb * x) := by rw [h, ← hy]
      _ = (F.1 * b + t * F.2) * (tb * x) := by
          rw [Int.add_mul]
          simp only [Int.mul_assoc, Int.mul_left_comm, Int.mul_comm]
  calc (tt * x + t * y) * L.2 * (F.2 * b) = ((tt * x + t * y) * (F.2 * b)) * L.2 := by simp only [Int.mul_assoc, Int.mul_left_comm, Int.mul_comm]
    _ = (F.1 * b + t * F.2) * (tb * x) * L.2 := by rw [k]
    _ = ((F.1 * b + t * F.2) * L.2) * (tb * x) := by simp only [Int.mul_assoc, Int.mul_left_comm, Int.mul_comm]
    _ = (L.1 * (F.2 * b)) * (tb * x) := by rw [w]
    _ = L.1 * (tb * x) * (F.2 * b) := by simp only [Int.mul_assoc, Int.mul_left_comm, Int.mul_comm]
end RQ

set_option Elab.async false
set_option linter.all false
set_option maxRecDepth 100000
set_option maxHeartbeats 4000000
/-! Rules of this proof's own, over the hand layer: operators, comparisons, text and repr of an instance by its own defs; least common multiples; floor division by any divisor. -/
namespace RQ
open PySem PySem.Spec PyProof.Rows L2

/-! ### facts of the written part about an own class and the type int -/
/-- the class has the def g for the operator's name and h for the name turned about -/
structure BinC (K : PySem.W.Frag) (C g h : Addr) (nm : String) : Prop where
  sf : PySem.W.selfFirst K C = true
  l : PySem.W.findIn K (.ref C) (PySem.dunder nm) = some (some (.ref g))
  lf : PySem.W.isFn K (.ref g) = true
  r : PySem.W.findIn K (.ref C) (dunderR nm) = some (some (.ref h))
  rf : PySem.W.isFn K (.ref h) = true
  below : PySem.W.subIn K (.type "int") (.ref C) = some false
  above : PySem.W.subIn K (.ref C) (.type "int") = some false

section
variable {X : Cx} {CX : CXT} {C g h : Addr} {sp : Sp} {E : XK} {n : Nat} {nm : String}

/-- x op y, x an instance of the class at C, y another one or an int -/
def rInsL (C : Addr) (sp : Sp) (E : XK) : R2 := fun x y H Q =>
  (∃ a dx fs, x = .ref a ∧ H a = some (.ins C dx fs)) ∧ ((∃ b dy gs, y = .ref b ∧ H b = some (.ins C dy gs)) ∨ ∃ i, y = .int i) ∧ sp [x, y] H Q E
theorem op_insL {op : Operator} (hn : op.info.2 = nm) (c : BinC X.K C g h nm) (i1 : ∃ fo, PySem.W.findIn X.K (.type "int") (PySem.dunder nm) = some fo)
    (i2 : ∃ ro, PySem.W.findIn X.K (.type "int") (dunderR nm) = some ro) (F : FnR X.prog X.w X.K X.mg X.base CX n g sp) (hr : Room n X.A) (hx : Passes CX X E) :
    OpR X (binaryOp op) (rInsL C sp E) := by
  subst hn
  intro pins s σ H x y v u Q I rx ry hq
  obtain ⟨⟨a, dx, fs, rfl, ha⟩, hy, q⟩ := hq
  cases (show v = Value.ref a from rx)
  obtain ⟨mA, O, _⟩ := ins_get I.hok ha
  obtain ⟨od, J, _⟩ := O.look
  obtain ⟨m, hF⟩ := I.fr
  have run : ∀ w : Value, RelV y w → wpAny (model X.prog X.w) X.A (call (.ref g) [.ref a, w]) (PySem.W.CmpBack (EP X pins σ Q)) X.xe s := fun w rw_ =>
    wpAny_mono (wpAny_call (run_fnR (us := [.ref a, w]) (vs := [.ref a, y]) F hr hx I (.cons rfl (.cons rw_ .nil)) q)) (fun z s' hz => by
      obtain ⟨z', H', I', rz, qz⟩ := hz
      exact SlX.cmpback rz ⟨z', H', I', rz, qz⟩) fun _ _ e => e
  rcases hy with ⟨b, dy, gs, rfl, hb⟩ | ⟨i, rfl⟩
  · cases (show u = Value.ref b from ry)
    obtain ⟨mB, O', _⟩ := ins_get I.hok hb
    obtain ⟨od', J', _⟩ := O'.look
    exact PySem.W.binop_K hF I.ok.mod.kin J J'.type c.sf c.l c.lf (run _ rfl)
  · obtain ⟨t, rfl⟩ := (show ∃ t, u = Value.int i t from ry)
    obtain ⟨fo, e1⟩ := i1
    obtain ⟨ro, e2⟩ := i2
    exact PySem.W.ksp_binT hF I.ok.mod.kin J rfl c.sf c.l c.lf c.r (.inr ⟨_, rfl⟩) e1 e2 c.below (run _ ⟨t, rfl⟩)

/-- i op y, i an int, y an instance: the int's own slot declines, the name turned about is called -/
def rInsR (C : Addr) (sp : Sp) (E : XK) : R2 := fun x y H Q => ∃ i b dy gs, x = .int i ∧ y = .ref b ∧ H b = some (.ins C dy gs) ∧ sp [y, x] H Q E
end

/-! ### the int's own slots decline an instance -/
abbrev Dec (t : Sem Fin) (b C dx : Addr) : Prop := Meets t (fun _ R s => s.heap.get? b = some (PySem.W.instObj C dx) ∧ R (.ok (.ret Value.notImplemented)) s)
theorem dec_add (i : Int) (t : Tok) (b C dx : Addr) : Dec (Builtin.«int.__add__» ⟨[.int i t, .ref b], []⟩) b C dx :=
  .of_wp fun prog w A R s h => by obtain ⟨hp, g, d, tk, os⟩ := s; obtain ⟨hl, h⟩ := h; wp_walk; exact ⟨_, rfl, h⟩
theorem dec_sub (i : Int) (t : Tok) (b C dx : Addr) : Dec (Builtin.«int.__sub__» ⟨[.int i t, .ref b], []⟩) b C dx :=
  .of_wp fun prog w A R s h => by obtain ⟨hp, g, d, tk, os⟩ := s; obtain ⟨hl, h⟩ := h; wp_walk; exact ⟨_, rfl, h⟩
theorem dec_mul (i : Int) (t : Tok) (b C dx : Addr) : Dec (Builtin.«int.__mul__» ⟨[.int i t, .ref b], []⟩) b C dx :=
  .of_wp fun prog w A R s h => by obtain ⟨hp, g, d, tk, os⟩ := s; obtain ⟨hl, h⟩ := h; wp_walk; exact ⟨_, rfl, h⟩
theorem dec_eq (i : Int) (t : Tok) (b C dx : Addr) : Dec (Builtin.«int.__eq__» ⟨[.int i t, .ref b], []⟩) b C dx :=
  .of_wp fun prog w A R s h => by obtain ⟨hp, g, d, tk, os⟩ := s; obtain ⟨hl, h⟩ := h; wp_walk; exact ⟨_, rfl, h⟩

section
variable {M : Model} {A : Around} {E : Value → Shared → Prop} {s : Shared} {K : PySem.W.Frag} {x C f g : Addr} {ox : Obj} {od : Option Obj} {nm : String}
/-- an int ahead of an instance: how the operator goes about it -/
theorem bin1_refl {id : String} {i : Int} {t : Tok} {Q : Option Value → Shared → Prop} (XK : K.In s.heap) (J : PySem.W.InstAt s.heap x ox C od) (c : BinC K C f g nm)
    (hfi : fillsNumberSlot (.type "int") nm = pure true) (hl : Slot "int" (PySem.dunder nm) id)
    (hd : wpAny M A (call (.builtin id) [.int i t, .ref x]) (fun v s' => v = .notImplemented ∧ s' = s) E s)
    (h : wpAny M A (call (.ref g) [.ref x, .int i t]) (PySem.W.CmpBack fun v s' => Q (some v) s') E s) : wpAny M A (binaryOp1 nm (.int i t) (.ref x)) Q E s := by
  obtain ⟨cd, rest, hcd, hm⟩ := PySem.W.ksp_first c.sf
  have L3 := PySem.W.fills_K (M := M) XK hcd hm c.l
  have L5 := PySem.W.looks_subIn (M := M) XK c.above
  have hne : (Value.type "int" == Value.ref C) = false := Bool.eq_false_iff.mpr fun q => by cases beq_iff_eq.mp q
  have back := PySem.W.ksp_try (Q := fun v s' => Q (some v) s') XK J c.r c.rf h
  unfold binaryOp1
  refine wpAny_bind (wpAny_typeOf (typeIs_int s i t) (wpAny_bind (J.type.here (wpAny_bind (wpAny_of_eq hfi ?_)))))
  simp only [hne, Bool.false_eq_true, if_false]
  refine wpAny_bind (L3.here ?_)
  simp only [Bool.and_self, if_true]
  refine wpAny_bind (L5.here ?_)
  have hpy : numberSlotInPython (.type "int") nm = pure false := rfl
  simp only [Bool.false_eq_true, if_false, pure_bind, Bool.not_false, Bool.and_self, if_true, hpy]
  refine wpAny_bind (wpAny_tryMethod_declines (typeIs_int s i t) hl (wpAny_mono hd (fun v s' z => ?_) fun _ _ e => e))
  obtain ⟨rfl, rfl⟩ := z
  refine ⟨rfl, ?_⟩
  refine wpAny_bind (wpAny_mono back (fun r s' z => ?_) fun _ _ e => e)
  obtain ⟨v, rfl, q⟩ := z
  exact wpAny_bind (wpAny_rule (wpAny_pure q))
end
section
variable {X : Cx} {CX : CXT} {C g h : Addr} {sp : Sp} {E : XK} {n : Nat} {nm : String}
theorem op_insR {op : Operator} {id : String} {B : Builtin} (hn : op.info.2 = nm) (c : BinC X.K C g h nm) (hfi : fillsNumberSlot (.type "int") nm = pure true) (hl : Slot "int" (PySem.dunder nm) id)
    (entry : entryFor table id = some B) (args : ∀ a b : Value, argsOk id ⟨[a, b], []⟩) (dec : ∀ (i : Int) (t : Tok) (b C dx : Addr), Dec (B ⟨[.int i t, .ref b], []⟩) b C dx)
    (F : FnR X.prog X.w X.K X.mg X.base CX n h sp) (hr : Room n X.A) (hx : Passes CX X E) : OpR X (binaryOp op) (rInsR C sp E) := by
  subst hn
  intro pins s σ H x y v u Q I rx ry hq
  obtain ⟨i, b, dy, gs, rfl, rfl, hb, q⟩ := hq
  obtain ⟨t, rfl⟩ := (show ∃ t, v = Value.int i t from rx)
  cases (show u = Value.ref b from ry)
  obtain ⟨mA, O, _⟩ := ins_get I.hok hb
  obtain ⟨od, J, _⟩ := O.look
  rcases hi : op.info with ⟨sym, nm'⟩
  rw [hi] at c hfi hl
  simp only [binaryOp, hi]
  refine wpAny_holding (wpAny_bind ?_)
  refine bin1_refl I.kIn J c hfi hl (call_meets hl (typeIs_int s i t) entry (args _ _) (dec i t b C dy) ⟨O.obj, rfl, rfl⟩) ?_
  refine wpAny_mono (wpAny_call (run_fnR (us := [.ref b, .int i t]) (vs := [.ref b, .int i]) F hr hx I (.cons rfl (.cons ⟨t, rfl⟩ .nil)) q)) (fun z s' hz => ?_) fun _ _ e => e
  obtain ⟨z', H', I', rz, qz⟩ := hz
  exact SlX.cmpback rz (wpAny_pure ⟨z', H', I', rz, qz⟩)
end

/-! ### == and != by the class's own == -/
structure EqC (K : PySem.W.Frag) (C g : Addr) : Prop where
  at_ : PySem.W.findIn K (.ref C) "__eq__" = some (some (.ref g))
  fn : PySem.W.isFn K (.ref g) = true
  ne : PySem.W.findIn K (.ref C) "__ne__" = some (some (.builtin "object.__ne__"))
  ob : PySem.W.mroIn K C (.type "object") = some true
  below : PySem.W.subIn K (.type "int") (.ref C) = some false
  above : PySem.W.subIn K (.ref C) (.type "int") = some false
section
variable {X : Cx} {CX : CXT} {C g : Addr} {sp : Sp} {E : XK} {n : Nat}
/-- x == y, x an instance, y another one or an int -/
def rEqL (C : Addr) (sp : Sp) (E : XK) : R2 := fun x y H Q =>
  (∃ a dx fs, x = .ref a ∧ H a = some (.ins C dx fs)) ∧ ((∃ b dy gs, y = .ref b ∧ H b = some (.ins C dy gs)) ∨ ∃ i, y = .int i) ∧ sp [x, y] H Q E
theorem op_eqL (c : EqC X.K C g) (F : FnR X.prog X.w X.K X.mg X.base CX n g sp) (hr : Room n X.A) (hx : Passes CX X E) : OpR X (compareOp .Eq) (rEqL C sp E) := by
  intro pins s σ H x y v u Q I rx ry hq
  obtain ⟨⟨a, dx, fs, rfl, ha⟩, hy, q⟩ := hq
  cases (show v = Value.ref a from rx)
  obtain ⟨mA, O, _⟩ := ins_get I.hok ha
  obtain ⟨od, J, _⟩ := O.look
  obtain ⟨m, hF⟩ := I.fr
  have run : ∀ w : Value, RelV y w → wpAny (model X.prog X.w) X.A (call (.ref g) [.ref a, w]) (PySem.W.CmpBack (EP X pins σ Q)) X.xe s := fun w rw_ =>
    wpAny_mono (wpAny_call (run_fnR (us := [.ref a, w]) (vs := [.ref a, y]) F hr hx I (.cons rfl (.cons rw_ .nil)) q)) (fun z s' hz => by
      obtain ⟨z', H', I', rz, qz⟩ := hz
      exact SlX.cmpback rz ⟨z', H', I', rz, qz⟩) fun _ _ e => e
  show wpAny (model X.prog X.w) X.A (richCompare .Eq (.ref a) u) (EP X pins σ Q) X.xe s
  rcases hy with ⟨b, dy, gs, rfl, hb⟩ | ⟨i, rfl⟩
  · cases (show u = Value.ref b from ry)
    obtain ⟨mB, O', _⟩ := ins_get I.hok hb
    obtain ⟨od', J', _⟩ := O'.look
    exact PySem.W.cmp_K (op := .Eq) (tb := .ref C) hr.units0 hF I.ok.mod.kin J J'.type (by simp [PySem.W.notFirst]) c.at_ c.fn (run _ rfl)
  · obtain ⟨t, rfl⟩ := (show ∃ t, u = Value.int i t from ry)
    exact PySem.W.cmp_K (op := .Eq) (tb := .type "int") hr.units0 hF I.ok.mod.kin J (PySem.W.Looks.of_pure rfl) (by unfold PySem.W.notFirst; rw [c.below]; simp) c.at_ c.fn (run _ ⟨t, rfl⟩)

/-- i == y, i an int, y an instance: the int's own == declines -/
def rEqR (C : Addr) (sp : Sp) (E : XK) : R2 := fun x y H Q => ∃ i b dy gs, x = .int i ∧ y = .ref b ∧ H b = some (.ins C dy gs) ∧ sp [y, x] H Q E
theorem op_eqR (c : EqC X.K C g) (F : FnR X.prog X.w X.K X.mg X.base CX n g sp) (hr : Room n X.A) (hx : Passes CX X E) : OpR X (compareOp .Eq) (rEqR C sp E) := by
  intro pins s σ H x y v u Q I rx ry hq
  obtain ⟨i, b, dy, gs, rfl, rfl, hb, q⟩ := hq
  obtain ⟨t, rfl⟩ := (show ∃ t, v = Value.int i t from rx)
  cases (show u = Value.ref b from ry)
  obtain ⟨mA, O, _⟩ := ins_get I.hok hb
  obtain ⟨od, J, _⟩ := O.look
  have L5 := PySem.W.looks_subIn (M := model X.prog X.w) I.kIn c.above
  have hne : (Value.type "int" != Value.ref C) = true := by
    have z : (Value.type "int" == Value.ref C) = false := Bool.eq_false_iff.mpr fun q => by cases beq_iff_eq.mp q
    rw [bne, z]; rfl
  show wpAny (model X.prog X.w) X.A (richCompare .Eq (.int i t) (.ref b)) (EP X pins σ Q) X.xe s
  unfold richCompare
  refine wpAny_holding (wpAny_bind (wpAny_cRoomFor hr.units0 ?_))
  have one : oneThing? .Eq (.int i t) (.ref b) = none := by first | rfl | simp [oneThing?]
  simp only [one]
  refine wpAny_bind (wpAny_typeOf (typeIs_int s i t) (wpAny_bind (J.type.here ?_)))
  simp only [hne, if_true]
  refine wpAny_bind (L5.here ?_)
  simp only [Bool.false_eq_true, if_false, Bool.not_false, if_true]
  have first_ : wpAny (model X.prog X.w) X.A (tryCompare (.int i t) (cmpInfo .Eq).2.1 (.ref b)) (fun r s' => r = none ∧ s' = s) X.xe s := by
    unfold tryCompare
    refine wpAny_bind (wpAny_callSpecialIfBound?_slot (typeIs_int s i t) PySem.F.slot_int_eq (call_meets PySem.F.slot_int_eq (typeIs_int s i t) PySem.F.entry_int_eq (PySem.F.args_int_eq_2 _ _) (dec_eq i t b C dy) ⟨O.obj, ?_⟩))
    exact wpAny_pure ⟨rfl, rfl⟩
  refine wpAny_bind (wpAny_mono first_ (fun r s' z => ?_) fun _ _ e => e)
  obtain ⟨rfl, rfl⟩ := z
  have two : wpAny (model X.prog X.w) X.A (tryCompare (.ref b) (cmpInfo .Eq).2.2 (.int i t)) (fun r s' => ∃ v, r = some v ∧ EP X pins σ Q v s') X.xe s' := by
    unfold tryCompare
    refine wpAny_bind (PySem.W.ifBound_K I.kIn J c.at_ c.fn (wpAny_mono (wpAny_call (run_fnR (us := [.ref b, .int i t]) (vs := [.ref b, .int i]) F hr hx I (.cons rfl (.cons ⟨t, rfl⟩ .nil)) q)) (fun z s' hz => ?_) fun _ _ e => e))
    obtain ⟨z', H', I', rz, qz⟩ := hz
    have k := SlX.cmpback (P := fun v s' => EP X pins σ Q v s') rz ⟨z', H', I', rz, qz⟩
    cases z <;> first | exact k.elim | exact wpAny_pure ⟨_, rfl, k⟩
  refine wpAny_bind (wpAny_mono two (fun r s' z => ?_) fun _ _ e => e)
  obtain ⟨v, rfl, hq⟩ := z
  exact wpAny_pure hq
end

section
variable {prog : Program} {w : World} {A : Around} {E : Value → Shared → Prop} {s : Shared} {K : PySem.W.Frag} {x C g : Addr} {ox : Obj} {od : Option Obj}
/-- a special name that the class has as a built-in -/
theorem bound_blt {M : Model} {id : String} {name : Str} {args : List Value} {Q : Option Value → Shared → Prop} (XK : K.In s.heap) (J : PySem.W.InstAt s.heap x ox C od) (hs : PySem.W.findIn K (.ref C) name = some (some (.builtin id)))
    (hb : ∀ self, bindSpecial (.builtin id) self = pure (.builtin id, [self])) (h : wpAny M A (call (.builtin id) (.ref x :: args)) (fun v => Q (some v)) E s) : wpAny M A (callSpecialIfBound? (.ref x) name args) Q E s := by
  simp only [callSpecialIfBound?, bindSpecialIfBound?]
  refine wpAny_holding (wpAny_bind (wpAny_bind (wpAny_bind (J.type.here ((PySem.W.looks_findIn XK hs).here ?_)))))
  refine wpAny_bind (wpAny_askSetting (wpAny_ite ?_))
  have go : wpAny M A (call (.builtin id) ([.ref x] ++ args) >>= fun v => pure (some v)) Q E s := wpAny_bind (wpAny_mono h (fun v s' z => wpAny_pure z) fun _ _ z => z)
  split
  · exact wpAny_bind ((PySem.W.Looks.of_pure (hb _)).here (wpAny_pure (by exact go)))
  · exact wpAny_tryCatch (wpAny_bind ((PySem.W.Looks.of_pure (hb _)).here (wpAny_pure (by exact go))))
/-- object's own != by the class's == -/
theorem obj_ne {y : Value} {Q : Value → Shared → Prop} (hu : A.in1.units < cLine) (XK : K.In s.heap) (J : PySem.W.InstAt s.heap x ox C od) (c : EqC K C g)
    (h : wpAny (model prog w) A.in1 (call (.ref g) [.ref x, y]) (fun v s' => ∃ b, v = .bool b ∧ Q (.bool (!b)) s') E s) : wpAny (model prog w) A (call (.builtin "object.__ne__") [.ref x, y]) Q E s := by
  refine wpAny_call (codeAny_call_builtin PySem.F.slot_object_ne.plain PySem.F.entry_object_ne (PySem.W.check_slot (i := "object.__ne__") (owner := "object") (n := "__ne__") (by decide +kernel) (by decide +kernel) (J.type.andThen (PySem.W.looks_mroIn XK c.ob)) (PySem.F.args_object_ne_2 _ _) ?_))
  unfold Builtin.«object.__ne__»
  refine wpAny_bind (m := slotArgs "__ne__" 1 _) (wpAny_pure ?_)
  refine wpAny_bind (m := cRoomFor _ _) (wpAny_cRoomFor hu ?_)
  refine wpAny_bind (m := callSpecialIfBound? (.ref x) (Str.ofString "__eq__") _) (PySem.W.ifBound_K XK J c.at_ c.fn (wpAny_mono h (fun r s' hq => ?_) fun _ _ z => z))
  obtain ⟨b, rfl, q⟩ := hq
  exact wpAny_bind (wpAny_truthy_bool (wpAny_pure q))
end
section
variable {X : Cx} {CX : CXT} {C g : Addr} {sp : Sp} {E : XK} {n : Nat}
/-- x != y, two instances of one class -/
def rNeL (C : Addr) (sp : Sp) (E : XK) : R2 := fun x y H Q =>
  (∃ a dx fs, x = .ref a ∧ H a = some (.ins C dx fs)) ∧ (∃ b dy gs, y = .ref b ∧ H b = some (.ins C dy gs)) ∧ sp [x, y] H (fun z H' => ∃ k, z = .bl k ∧ Q (.bl (!k)) H') E
theorem op_neL (c : EqC X.K C g) (F : FnR X.prog X.w X.K X.mg X.base CX n g sp) (hr : Room (n + 1) X.A) (hx : Passes CX X E) : OpR X (compareOp .NotEq) (rNeL C sp E) := by
  intro pins s σ H x y v u Q I rx ry hq
  obtain ⟨⟨a, dx, fs, rfl, ha⟩, ⟨b, dy, gs, rfl, hb⟩, q⟩ := hq
  cases (show v = Value.ref a from rx)
  cases (show u = Value.ref b from ry)
  obtain ⟨mA, O, _⟩ := ins_get I.hok ha
  obtain ⟨od, J, _⟩ := O.look
  obtain ⟨mB, O', _⟩ := ins_get I.hok hb
  obtain ⟨od', J', _⟩ := O'.look
  have run : wpAny (model X.prog X.w) X.A.in1 (call (.ref g) [.ref a, .ref b]) (fun v s' => ∃ k, v = .bool k ∧ EP X pins σ Q (.bool (!k)) s') X.xe s :=
    wpAny_mono (wpAny_call (SlX.run_at (us := [.ref a, .ref b]) (ws := [.ref a, .ref b]) F hr.in1 I.env0.in1 hx I (.cons rfl (.cons rfl .nil)) q)) (fun z s' hz => by
      obtain ⟨z', H', I', rz, k, e, qz⟩ := hz
      subst e
      exact ⟨k, rz, .bl (!k), H', I', rfl, qz⟩) fun _ _ e => e
  have one : wpAny (model X.prog X.w) X.A (tryCompare (.ref a) (cmpInfo .NotEq).2.1 (.ref b)) (fun r s' => ∃ v, r = some v ∧ EP X pins σ Q v s') X.xe s := by
    unfold tryCompare
    refine wpAny_bind (bound_blt I.kIn J c.ne PySem.F.slot_object_ne.bind (obj_ne (show X.A.in1.units < cLine from hr.in1.units0) I.kIn J c (wpAny_mono run (fun v s' z => ?_) fun _ _ e => e)))
    obtain ⟨k, e, z⟩ := z
    exact ⟨k, e, wpAny_pure ⟨_, rfl, z⟩⟩
  show wpAny (model X.prog X.w) X.A (richCompare .NotEq (.ref a) (.ref b)) (EP X pins σ Q) X.xe s
  unfold richCompare
  simp only [oneThing_ref]
  refine wpAny_holding (wpAny_bind (wpAny_cRoomFor hr.units0 ?_))
  refine wpAny_bind (J.type.here (wpAny_bind (J'.type.here ?_)))
  have hne : (Value.ref C != Value.ref C) = false := by simp
  simp only [hne, Bool.false_eq_true, if_false]
  refine wpAny_bind (wpAny_pure ?_)
  simp only [Bool.false_eq_true, if_false]
  refine wpAny_bind (wpAny_mono one (fun r s' z => ?_) fun _ _ e => e)
  obtain ⟨v, rfl, hq⟩ := z
  exact wpAny_pure hq

/-! ### - in front, str and repr -/
structure OneC (K : PySem.W.Frag) (C g : Addr) (nm : Str) : Prop where
  at_ : PySem.W.findIn K (.ref C) nm = some (some (.ref g))
  fn : PySem.W.isFn K (.ref g) = true
def rInsU (C : Addr) (sp : Sp) (E : XK) : V → Hp → VK → Prop := fun x H Q => ∃ a dx fs, x = .ref a ∧ H a = some (.ins C dx fs) ∧ sp [x] H Q E
theorem un_insN (c : OneC X.K C g "__neg__") (F : FnR X.prog X.w X.K X.mg X.base CX n g sp) (hr : Room n X.A) (hx : Passes CX X E) : UnR X (unaryOp .USub) (rInsU C sp E) := by
  intro pins s σ H x v Q I rx hq
  obtain ⟨a, dx, fs, rfl, ha, q⟩ := hq
  cases (show v = Value.ref a from rx)
  obtain ⟨mA, O, _⟩ := ins_get I.hok ha
  obtain ⟨od, J, _⟩ := O.look
  obtain ⟨m, hF⟩ := I.fr
  exact PySem.W.ksp_neg hF I.ok.mod.kin J c.at_ c.fn (wpAny_call (run_fnR (us := [.ref a]) (vs := [.ref a]) F hr hx I (.cons rfl .nil) q))
/-- str(x), repr(x): the class's own def tells a text -/
def rInsT (C : Addr) (sp : Sp) (E : XK) : List V → Hp → VK → Prop := fun xs H Q => ∃ a dx fs, xs = [.ref a] ∧ H a = some (.ins C dx fs) ∧ sp [.ref a] H (fun z H' => ∃ y, z = .str y ∧ Q z H') E
theorem strback {X : Cx} {pins : List (Addr × Obj)} {σ : L2.St} {Q : VK} {v : Value} {s' : Shared} (h : EP X pins σ (fun z H' => ∃ y, z = .str y ∧ Q z H') v s') : PySem.W.StrBack (EP X pins σ Q) v s' := by
  obtain ⟨z, H', I', rz, y, e, q⟩ := h
  subst e
  obtain ⟨t, rfl⟩ := (show ∃ t, v = Value.str y t from rz)
  exact ⟨.str y, H', I', ⟨t, rfl⟩, q⟩
theorem call_strI (c : OneC X.K C g "__str__") (F : FnR X.prog X.w X.K X.mg X.base CX n g sp) (hr : Room (n + 2) X.A) (hx : Passes CX X E) : CallR X (.type "str") (rInsT C sp E) := by
  intro pins s σ H xs us Q I r h
  obtain ⟨a, dx, fs, rfl, ha, q⟩ := h
  obtain ⟨u, rfl, ru⟩ := r.one
  cases (show u = Value.ref a from ru)
  obtain ⟨mA, O, _⟩ := ins_get I.hok ha
  obtain ⟨od, J, _⟩ := O.look
  have h2 : Room n X.A.in1.in1 := (show Room (n + 1) X.A.in1 from Room.in1 hr).in1
  refine PySem.W.kso_call h2.units0 I.kIn J c.at_ c.fn (wpAny_mono (wpAny_call (SlX.run_at (us := [.ref a]) (ws := [.ref a]) F h2 I.env0.in1.in1 hx I (.cons rfl .nil) q)) (fun z s' hz => strback hz) fun _ _ e => e)
theorem call_reprI (c : OneC X.K C g "__repr__") (F : FnR X.prog X.w X.K X.mg X.base CX n g sp) (hr : Room (n + 1) X.A) (hx : Passes CX X E) : CallR X (.builtin "repr") (rInsT C sp E) := by
  intro pins s σ H xs us Q I r h
  obtain ⟨a, dx, fs, rfl, ha, q⟩ := h
  obtain ⟨u, rfl, ru⟩ := r.one
  cases (show u = Value.ref a from ru)
  obtain ⟨mA, O, _⟩ := ins_get I.hok ha
  obtain ⟨od, J, _⟩ := O.look
  obtain ⟨m, hF⟩ := I.fr
  exact PySem.W.repr_K (show X.A.in1.units < cLine from hr.in1.units0) hF I.ok.mod.kin J c.at_ c.fn (wpAny_mono (wpAny_call (SlX.run_at (us := [.ref a]) (ws := [.ref a]) F hr.in1 I.env0.in1 hx I (.cons rfl .nil) q)) (fun z s' hz => strback hz) fun _ _ e => e)
end

/-! ### numbers -/
def CDivA (_ j : Int) : Prop := j ≠ 0 ∧ j.natAbs.log2 < 9000
/-- // by any divisor but 0 -/
theorem op_fdivA {X : Cx} : OpR X (binaryOp .FloorDiv) (rI CDivA fun i j => .int (i.fdiv j)) := opI fun _ _ _ _ _ _ _ hc q => floordiv_int hc.1 q (.inl (PyProof.noPylong_of_log2 hc.2))
theorem fdiv_ok {i j : Int} {b : Nat} (h : j ≠ 0) (hb : j.natAbs < 2 ^ b) (h0 : 0 < b) (h9 : b ≤ 9000) : CDivA i j := ⟨h, Nat.lt_of_lt_of_le (PySem.Flt.log2_lt_of h0 hb) h9⟩
def rLcm : List V → Hp → VK → Prop := fun vs H Q => ∃ a b : Int, vs = [.int a, .int b] ∧ a.natAbs < 2 ^ 6000 ∧ b.natAbs < 2 ^ 6000 ∧ Q (.int ((Nat.lcm a.natAbs b.natAbs : Nat) : Int)) H
theorem cr_lcm {X : Cx} : CallR X (.builtin "math.lcm") rLcm := by
  intro pins s σ H vs us Q I r h
  obtain ⟨a, b, rfl, ha, hb, q⟩ := h
  obtain ⟨t, u, rfl⟩ := Vals.int2 r
  have l0 : ∀ {n k : Nat}, n < 2 ^ (k + 1) → n.log2 ≤ k := fun h => PySem.W.mg_log h
  have h1 : (max 1 a.natAbs).log2 ≤ 5999 := l0 (Nat.max_lt.mpr ⟨Nat.one_lt_two_pow (by decide), ha⟩)
  have h2 : (max a.natAbs b.natAbs).log2 ≤ 5999 := l0 (Nat.max_lt.mpr ⟨ha, hb⟩)
  have e1 : Nat.lcm 1 a.natAbs = a.natAbs := Nat.lcm_one_left _
  have lt : Nat.lcm a.natAbs b.natAbs < 2 ^ 12000 := by
    have : Nat.lcm a.natAbs b.natAbs ≤ a.natAbs * b.natAbs := Nat.div_le_self _ _
    refine Nat.lt_of_le_of_lt this ?_
    have e : (2 : Nat) ^ 12000 = 2 ^ 6000 * 2 ^ 6000 := by rw [← Nat.pow_add]
    rw [e]
    exact Nat.mul_lt_mul'' ha hb
  have h3 : (Nat.lcm a.natAbs b.natAbs).log2 < bitsLine := Nat.lt_of_le_of_lt (l0 (k := 11999) lt) (by decide)
  have g := PySem.W.mg_run_lcm a t b u (by omega) (by omega) (by rw [e1]; exact h3)
  rw [e1] at g
  exact PySem.call_function_meets PySem.W.MGF.kind_lcm PySem.W.MGF.plain_lcm PySem.W.MGF.entry_lcm (PySem.W.MGF.args_lcm _ _) g.meets ⟨.int _, H, I.tok _, ⟨_, rfl⟩, q⟩
end RQ

set_option Elab.async false
set_option linter.all false
set_option maxRecDepth 100000
set_option maxHeartbeats 4000000
/-! Defs whose promise leans on nothing being written out around the call (no repr under way): the text of a list is told by its items alone. -/
namespace RQ
open PySem PySem.Spec PyProof.Rows L2

/-- a def's promise where no repr is under way -/
structure FnG (P : Program) (w : World) (K : PySem.W.Frag) (mg : Str → Option Value) (base : Heap) (k : Nat) (f : Addr) (fd : FuncData) (ps : List Str) (sp : Sp) : Prop where
  len : ∀ vs H Q E, sp vs H Q E → vs.length = ps.length
  go : ∀ (A : Around) (outer : List Env) (s : Shared) (H : Hp) (args : Args) (us : List Value) (vs : List V) (Q : VK) (E : XK), A.guards = some [] → Room k A → Env0 P w K mg base A outer s H → BindsTo s fd args (ps.zip us) → Vals vs us → sp vs H Q E →
    codeAny (model P w) A (.call (.ref f) args) (CR CX0 outer P w H s Q E) s

section
variable {P : Program} {w : World} {K : PySem.W.Frag} {mg : Str → Option Value} {base : Heap}
theorem okG {x qual : Str} {st : Stmt} {f : Addr} {fd : FuncData} {N ps : List Str} {k : Nat} {sp : Sp} (F : Fun K x qual st f fd) (S : FnScope N ps (defScope st)) (len : ∀ vs H Q E, sp vs H Q E → vs.length = ps.length)
    (body : ∀ (cdv : Value) (A : Around) (outer : List Env) (s : Shared) (H : Hp) (vs : List V) (Q : VK) (E : XK), (A.deeper (envOfC qual (defScope st) s.heap.objs.size f cdv)).guards = some [] → Room k (A.deeper (envOfC qual (defScope st) s.heap.objs.size f cdv)) → sp vs H Q E →
      ∃ t, PSs (cxOf CX0 P w K mg base N qual (defScope st) f cdv A outer s H E).nox (defBody st) t ∧ t { nx := fun _ H' => Q .non H', rt := Q } (start N vs) H) : FnG P w K mg base (k + 1) f fd ps sp := by
  obtain ⟨oc, od, kV, doc, pm, an, cdv, ct, osl, rfl, lk, hcd⟩ := F.ex
  refine ⟨len, fun A outer s H args us vs Q E hg hr e0 hb r hsp => ?_⟩
  have keep : ∀ b o, base.get? b = some o → s.heap.get? b = some o := fun b o e => (e0.bs b o e).1
  have KX : K.In s.heap := e0.mod.kin.keeps keep
  have lim : s.heap.NoLimit := e0.mod.nolimit.keeps keep
  have kinds : ∀ y ∈ ps.zip us, (defScope st).names.lookup y.1 = some .local ∨ ((defScope st).names.lookup y.1 = some .cell ∧ ((cellsFrom (s.heap.objs.size + 1) (defScope st).names []).lookup y.1).isSome = true) := by
    rintro ⟨n, v⟩ hy
    exact (S.par n (List.of_mem_zip hy).1).imp id fun q => ⟨q, PySem.W.cellsFrom_some _ _ _ (.inl q)⟩
  refine codeAny_call_function hr.depth (KX _ _ lk) rfl S.co S.gen rfl (PySem.W.codeRec_of KX hcd) (hb _ _ _ _ (wpAny_newFunctionEnv_cells S.kind kinds ?_))
  rintro env rfl s1 x
  refine ⟨lim.keeps x.toInCall.keep, codeAny_func ?_⟩
  obtain ⟨t, ht, hq⟩ := body cdv A outer s H vs Q E hg (hr.deeper _) hsp
  have I := inv_start (CX := CX0) (cd := cdv) (E := E) S hr.hd e0 (len _ _ _ _ hsp) r x
  refine wpAny_mono (ht.nox.run [] s1 (start N vs) H _ I hq) (fun fl s' hs => ?_) fun e s' hs => hs
  cases fl with
  | ret u => exact let ⟨v, _, H', J, rv, q⟩ := hs; ⟨v, H', J.os, J.bare, J.base, J.hok, rv, q⟩
  | next => exact let ⟨_, H', J, q⟩ := hs; ⟨V.non, H', J.os, J.bare, J.base, J.hok, rfl, q⟩
  | brk => exact let ⟨_, _, _, q⟩ := hs; q.elim
  | cont => exact let ⟨_, _, _, q⟩ := hs; q.elim
end

section
variable {X : Cx} {k : Nat} {f : Addr} {fd : FuncData} {ps : List Str} {sp : Sp} {E : XK} {x : Str} {p pos : Pos} {e : Expr} {es : List Expr} {t : TA}
/-- the call of such a def -/
theorem pe_callG (F : FnG X.prog X.w X.K X.mg X.base k f fd ps sp) (hgd : X.A.guards = some []) (hr : Room k X.A) (hg : Gl X x) (hm : X.mg x = some (.ref f)) (hk : PySem.W.keepIn X.K (.ref f) = true) (hb : Binds X.K fd ps [])
    (ha : PA X (e :: es) t) (hdb : (x == ("__debug__" : Str)) = false := by decide) (he : starEach (e :: es) X.env = (false, eval e X.env) :: starEach es X.env := by rfl) (hpl : (backTo pos (starEach es X.env)).any (·.1) = false := by rfl) :
    PE X (.Call (.Name x p) (e :: es) [] pos) (tCall sp [] E t) := by
  constructor
  intro pins s σ H Q I h
  refine wpAny_Call_Name_kw (ld_glob I hg hm ?_ hdb)
  refine PySem.W.callWith_K (h₀ := X.base) I.ok.mod.kin hk (thn (ha.run pos pins s σ H _ I h) fun us s1 ⟨vs, H1, I1, r, q⟩ => ⟨I1.kIn, ?_⟩) he hpl
  have q' : sp vs H1 Q E := by simpa using q
  have hl : us.length = ps.length := r.length.symm.trans (F.len _ _ _ _ q')
  have hb' := hb s1 us I1.kIn (by simpa using hl)
  refine wpAny_call (codeAny_mono (F.go X.A X.stack s1 H1 ⟨us, []⟩ us vs Q E hgd hr I1.env0 (by simpa using hb') r q') fun r s' hq => ?_)
  cases r with
  | error e => exact False.elim hq
  | ok fl =>
    cases fl with
    | ret u => exact I1.after hq
    | next => exact False.elim hq
    | brk => exact False.elim hq
    | cont => exact False.elim hq

/-- repr of a list or tuple of plain data -/
def rReprD (K : PySem.W.Frag) : List V → Hp → VK → Prop := fun xs H Q => ∃ (a : Addr) (d : PyData), xs = [.ref a] ∧ Dp K H (.ref a) d ∧ d.showable = true ∧ d.hasDict = false ∧ d.depth ≤ 60 ∧ d.shown.length ≤ sizeLine ∧ Q (.str d.shown) H
theorem call_reprD (hgd : X.A.guards = some []) (hu : X.A.units + 64 < cLine) : CallR X (.builtin "repr") (rReprD X.K) := by
  intro pins s σ H xs us Q I r h
  obtain ⟨a, d, rfl, hd, h1, h2, h3, h4, q⟩ := h
  obtain ⟨u, rfl, ru⟩ := r.one
  cases (show u = Value.ref a from ru)
  obtain ⟨as, rd⟩ := Dp.reads I d _ _ hd rfl
  exact repr_of_reads' rd h1 (fun z => by rw [h2] at z; cases z) hgd (by omega) (fun _ _ z => z) (fun h' u tk hk => ⟨.str d.shown, H, I.kept hk, ⟨u, rfl⟩, q⟩) h4
end

/-! ### the law's call -/
theorem law_callG {P : Program} {w : World} {K : PySem.W.Frag} {mg mb : Str → Option Value} {k : Nat} {fa a : Addr} {fd : FuncData} {x : Str} {sp : Sp} {s₁ : Shared} {vs : List Value} {ns : List Int}
    (KX : K.In s₁.heap) (hns : s₁.heap.Ns mainGlobals mg) (hb : s₁.heap.Ns builtinsNs mb) (hbb : ∀ x : Str, x ≠ "__name__" → mb x = bootBuiltins x) (hlim : s₁.heap.NoLimit) (hg : s₁.gens = #[])
    (ha : s₁.heap.get? a = some { cls := .type "list", data := .seq vs.toArray }) (hi : IntsAre vs ns) (hl : ns.length ≤ sizeLine) (hr : Room k callerA)
    (F : ∀ base : Heap, K.In base → base.Ns mainGlobals mg → FnG P w K mg base k fa fd [x] sp) (hbind : ∀ (s : Shared) (u : Value), BindsTo s fd ⟨[u], []⟩ [(x, u)])
    (hsp : ∀ H : Hp, Only H → SqL K H a (ns.map V.int) → sp [.ref a] H (fun v _ => v = .bl true) fun _ _ _ => False) :
    codeAny (model P w) callerA (.call (.ref fa) ⟨[.ref a], []⟩) (fun r s' => r = .ok (.ret (.bool true)) ∧ OldK s₁.heap s'.heap ∧ s'.os = s₁.os ∧ AllBare s'.gens) s₁ := by
  have rv := vals_ints hi
  have lenV := hi.length
  have main : ∀ H : Hp, Only H → SqL K H a (ns.map V.int) → HOk P w H s₁.heap → (∀ b, H b ≠ none → b = a) → (H a ≠ none → K.lookup a = none) →
      codeAny (model P w) callerA (.call (.ref fa) ⟨[.ref a], []⟩) (fun r s' => r = .ok (.ret (.bool true)) ∧ OldK s₁.heap s'.heap ∧ s'.os = s₁.os ∧ AllBare s'.gens) s₁ := by
    intro H hO hS hok hA hK
    have dicts : ∀ {b : Addr} {o : Obj} {es : Array DictEntry} {ep : Nat}, s₁.heap.get? b = some o → o.data = .dict es ep → H b = none := by
      intro b o es ep e d
      rcases Option.eq_none_or_eq_some (H b) with q | ⟨u, q⟩
      · exact q
      · have e' := hA b (by rw [q]; simp)
        rw [e', ha] at e
        cases e
        cases (show Data.seq vs.toArray _ = Data.dict es ep from d)
    have spaces : ∀ {b : Addr} {m : Str → Option Value}, s₁.heap.Ns b m → (hidT s₁.heap H).Ns b m := by
      rintro b m ⟨o, es, ep, e, d, r⟩
      exact ⟨o, es, ep, hidT_get e (dicts e d), d, r⟩
    have hKb : K.In (hidT s₁.heap H) := by
      intro b o e
      refine hidT_get (KX b o e) ?_
      rcases Option.eq_none_or_eq_some (H b) with q | ⟨u, q⟩
      · exact q
      · have e' := hA b (by rw [q]; simp)
        subst e'
        rw [hK (by rw [q]; simp)] at e
        cases e
    have hM : Mod K mg (hidT s₁.heap H) := ⟨hKb, spaces hns, ⟨mb, spaces hb, hbb⟩, let ⟨mc, h1, h2⟩ := hlim; ⟨mc, spaces h1, h2⟩⟩
    have e0 : Env0 P w K mg (hidT s₁.heap H) callerA [] s₁ H :=
      { frames := rfl, mod := hM, bs := fun b o e => of_hidT e, bsz := Nat.le_of_eq (hidT_size _ _), funs := trivial, frf := (fun b z => absurd (show b ∈ ([] : List Addr) from z) (by simp)), hok := hok, bare := .of_eq hg }
    refine codeAny_mono ((F _ hKb (spaces hns)).go callerA [] s₁ H ⟨[.ref a], []⟩ [.ref a] [.ref a] _ _ rfl hr e0 (hbind s₁ (.ref a)) (.cons rfl .nil) (hsp H hO hS)) fun r s' h => ?_
    match r, h with
    | .ok (.ret u), h =>
      obtain ⟨v, H', os, bare, un, hok', rvu, q⟩ := h
      have q' : v = .bl true := q
      subst q'
      obtain rfl : u = Value.bool true := rvu
      refine ⟨rfl, OldK.of_keep fun b o e => ?_, os, bare⟩
      rcases hO b with z | ⟨ob, xs, z⟩
      · exact un.keep b o e z (fun q => absurd (show b ∈ ([] : List Addr) from q) (by simp)) (by simp)
      · obtain ⟨e1, _⟩ := hok b _ z
        obtain ⟨e2, _⟩ := hok' b _ (un.frzs b ob _ z)
        rw [e] at e1
        cases e1
        exact e2
    | .ok .next, h => exact h.elim
    | .ok .brk, h => exact h.elim
    | .ok .cont, h => exact h.elim
    | .error e, h => exact h.elim
  rcases Option.eq_none_or_eq_some (K.lookup a) with hk | ⟨o, hk⟩
  · refine main (fun b => if b = a then some (.frz { cls := .type "list", data := .seq vs.toArray } (.lst (ns.map V.int))) else none) (fun b => ?_) (.inl (.inr ⟨_, if_pos rfl⟩)) (fun b u z => ?_) (fun b z => ?_) fun _ => hk
    · by_cases hb : b = a
      · exact .inr ⟨_, _, if_pos hb⟩
      · exact .inl (if_neg hb)
    · by_cases hb : b = a
      · subst hb
        cases (if_pos rfl).symm.trans z
        exact ⟨ha, by rw [List.length_map]; exact hl, vs, _, rv, ha⟩
      · cases (if_neg hb).symm.trans z
    · exact Decidable.byContradiction fun hb => z (if_neg hb)
  · have e := KX a o hk
    rw [ha] at e
    cases e
    refine main (fun _ => none) (fun _ => .inl rfl) (.inr ⟨_, vs.toArray, _, hk, rfl, rfl, rfl, by rw [List.size_toArray, lenV]; exact hl, by simpa using rv⟩) (fun b u z => ?_) (fun b z => absurd rfl z) fun z => absurd rfl z
    cases (show (none : Option HO) = some u from z)
theorem walkG {l : PySem.W.OpenLaw} {n k : Nat} {q : Program} {loose : List Str} {XP : (Str → Option Value) → Heap → Prop} {YP : World → Heap → Prop} {d : DefRec} {K : Params → PySem.W.Frag} {sp : PySem.W.Frag → Sp} {x : Str}
    (hn : l.most = some n) (hn2 : n ≤ sizeLine) (hdf : d.params.defaults = []) (hr : Room k callerA) (hY : ∀ (w : World) (h : Heap), YP w h → (K w.params).In h)
    (F : ∀ (w : World) (mg : Str → Option Value) (fa : Addr) (h : Heap), (K w.params).In h → h.Ns mainGlobals mg → mg d.name = some (.ref fa) →
      ∃ fd : FuncData, (∀ (s : Shared) (u : Value), BindsTo s fd ⟨[u], []⟩ [(x, u)]) ∧ ∀ base : Heap, (K w.params).In base → base.Ns mainGlobals mg → FnG l.prog w (K w.params) mg base k fa fd [x] (sp (K w.params)))
    (hsp : ∀ (K : PySem.W.Frag) (H : Hp) (a : Addr) (ns : List Int), ns.length ≤ n → SqL K H a (ns.map V.int) → sp K [.ref a] H (fun v _ => v = .bl true) fun _ _ _ => False) :
    PySem.W.WalkO q loose XP YP l.row.toRowW d [] (fun f vs => PySem.call f vs) := by
  refine Att.attach_call hn hdf fun w s₀ s₁ mg mb fa o pm cd doc a vs ns G Y ho hd hcd hmg hobj hints hlen hg => ?_
  obtain ⟨fd, hb, hF⟩ := F w mg fa _ (hY w _ Y) G.T.g hmg
  exact law_callG (hY w _ Y) G.T.g G.T.b G.T.builtins G.T.nolimit hg hobj hints (Nat.le_trans hlen hn2) hr hF hb fun H _ hS => hsp _ H a ns hlen hS
end RQ

set_option Elab.async false
set_option linter.all false
set_option maxRecDepth 100000
set_option maxHeartbeats 4000000
/-! The class of fractions, def by def. -/
namespace RQ
open PySem L2
/-! ### the text by places -/
def top (i : Nat) : Stmt := PySem.Challenge.pw_shrunkrooms_k11_ratios_reckoned.main.body.getD i (.Pass ⟨0, 0, 0, 0⟩)
abbrev sIsInt : Stmt := top 2
abbrev sIsCount : Stmt := top 3
abbrev sInit : Stmt := inClass (top 9) 0
abbrev sTop : Stmt := inClass (top 9) 1
abbrev sBottom : Stmt := inClass (top 9) 2
abbrev sSign : Stmt := inClass (top 9) 3
abbrev sWhole : Stmt := inClass (top 9) 4
abbrev sAdd : Stmt := inClass (top 9) 5
abbrev sRadd : Stmt := inClass (top 9) 6
abbrev sSub : Stmt := inClass (top 9) 7
abbrev sRsub : Stmt := inClass (top 9) 8
abbrev sMul : Stmt := inClass (top 9) 9
abbrev sRmul : Stmt := inClass (top 9) 10
abbrev sNeg : Stmt := inClass (top 9) 11
abbrev sOver : Stmt := inClass (top 9) 12
abbrev sUnsigned : Stmt := inClass (top 9) 13
abbrev sBelow : Stmt := inClass (top 9) 14
abbrev sAtMost : Stmt := inClass (top 9) 15
abbrev sEq : Stmt := inClass (top 9) 16
abbrev sStr : Stmt := inClass (top 9) 17
abbrev sRepr : Stmt := inClass (top 9) 18
abbrev sTotal : Stmt := inClass (top 9) 19
abbrev sIsNumber : Stmt := top 10
abbrev sParts : Stmt := top 11

/-! ### what the top leaves: names, the class -/
structure Blt (mg : Str → Option Value) : Prop where
  isi : mg "isinstance" = none
  int : mg "int" = none
  bool : mg "bool" = none
  abs : mg "abs" = none
  str : mg "str" = none
  list : mg "list" = none
  tuple : mg "tuple" = none
  len : mg "len" = none
  max : mg "max" = none
  divmod : mg "divmod" = none
  range : mg "range" = none
  repr : mg "repr" = none
  gcd : mg "gcd" = some (.builtin "math.gcd")
  lcm : mg "lcm" = some (.builtin "math.lcm")
/-- the class of fractions -/
structure RCls (K : PySem.W.Frag) (mg : Str → Option Value) (C : Addr) : Prop where
  cl : Cls K C
  nT : NoAttr K C "_top"
  nB : NoAttr K C "_bottom"
  mg_ : mg "Ratio" = some (.ref C)
  kp : PySem.W.keepIn K (.ref C) = true
  ha : PySem.W.findIn K (.ref C) "__class__" = some (some (.builtin "object.__class__"))
  hn : PySem.W.specialIn K (.builtin "object.__class__") "__get__" = some (some (.builtin "getset_descriptor.__get__"))
  htk : PySem.W.takesIn K (.builtin "object.__class__") = some true
  hm : PySem.W.mroIn K C (.type "object") = some true
  kC : PySem.W.kitOne K (.ref C) (.ref C) = some true
  kI : PySem.W.kitOne K (.ref C) (.type "int") = some false
  kB : PySem.W.kitOne K (.ref C) (.type "bool") = some false
  kL : PySem.W.kitOne K (.ref C) (.type "list") = some false
  kT : PySem.W.kitOne K (.ref C) (.type "tuple") = some false
  iC : PySem.W.kitOne K (.type "int") (.ref C) = some false
  bC : PySem.W.kitOne K (.type "bool") (.ref C) = some false
  nC : PySem.W.kitOne K (.type "NoneType") (.ref C) = some false
  sC : PySem.W.kitOne K (.type "str") (.ref C) = some false
  lC : PySem.W.kitOne K (.type "list") (.ref C) = some false
  tC : PySem.W.kitOne K (.type "tuple") (.ref C) = some false

/-! ### fractions as they stand -/
abbrev rf (p : Int × Int) : List (Str × V) := [("_top", .int p.1), ("_bottom", .int p.2)]
def RAt (C : Addr) (H : Hp) (a : Addr) (p : Int × Int) : Prop := ∃ dx, H a = some (.ins C dx (rf p))
theorem RAt.same {C : Addr} {H H' : Hp} {a : Addr} {p : Int × Int} (h : RAt C H a p) (s : Same H H') : RAt C H' a p := let ⟨dx, e⟩ := h; ⟨dx, s _ _ e⟩
theorem RAt.is {K : PySem.W.Frag} {mg : Str → Option Value} {C : Addr} {H : Hp} {a : Addr} {p : Int × Int} (R : RCls K mg C) (h : RAt C H a p) : TyX K H (.ref a) (.ref C) :=
  let ⟨_, e⟩ := h
  .base (.ins e R.cl R.ha R.hn R.htk R.hm)
theorem same_new {H : Hp} {a : Addr} {o : HO} (h : H a = none) : Same H (upd H a o) := fun b u e => by rw [upd_ne (ne_of_none e h)]; exact e
theorem rf_top (p : Int × Int) : (rf p).lookup ("_top" : Str) = some (.int p.1) := by rfl
theorem rf_bot (p : Int × Int) : (rf p).lookup ("_bottom" : Str) = some (.int p.2) := by
  have e : (("_bottom" : Str) == ("_top" : Str)) = false := by decide +kernel
  show List.lookup ("_bottom" : Str) (("_top", V.int p.1) :: [("_bottom", V.int p.2)]) = _
  rw [List.lookup_cons, e]
  rfl

section
variable {P : Program} {w : World} {K : PySem.W.Frag} {mg : Str → Option Value} {base : Heap} {C : Addr}
/-! ### is_integer -/
/-- an int, or none -/
structure SpIsInt (K : PySem.W.Frag) (vs : List V) (H : Hp) (Q : VK) (E : XK) : Prop where
  ex : ∃ (v : V) (t : Value) (bi bb : Bool), vs = [v] ∧ TyX K H v t ∧ PySem.W.kitOne K t (.type "int") = some bi ∧ PySem.W.kitOne K t (.type "bool") = some bb ∧ Q (.bl (bi && !bb)) H
theorem SpIsInt.int {H : Hp} {Q : VK} {E : XK} (i : Int) (h : Q (.bl true) H) : SpIsInt K [.int i] H Q E := ⟨.int i, _, true, false, rfl, .base (.int i), kit_ty (by decide +kernel), kit_ty (by decide +kernel), h⟩
theorem scIsInt : FnScope ["value"] ["value"] (defScope sIsInt) := ⟨rfl, rfl, rfl, by decide +kernel, rfl, by decide +kernel, by decide +kernel⟩
theorem ok_isInt {f : Addr} {fd : FuncData} (F : Fun K "is_integer" "is_integer" sIsInt f fd) (B : Blt mg) : FnOk P w K mg base CX0 1 f fd ["value"] (SpIsInt K) := by
  refine F.ok scIsInt (fun vs H Q E h => ?_) (fun cdv A outer s H vs Q E hr h => ?_)
  · obtain ⟨v, t, bi, bb, rfl, _⟩ := h
    rfl
  · obtain ⟨v, t, bi, bb, rfl, ty, h1, h2, k⟩ := h
    refine ⟨_, pss_one (ps_ret (pe_and (pe_callB call_isi (by rfl) B.isi PyProof.Rows.boot_isinstance (pa_cons (pv 0) (pa_cons (pe_bltn (by rfl) B.int PyProof.Rows.boot_int (v := .ty "int") rfl) pa_nil)))
      (pe_one (pe_not (pe_callB call_isi (by rfl) B.isi PyProof.Rows.boot_isinstance (pa_cons (pv 0) (pa_cons (pe_bltn (by rfl) B.bool PyProof.Rows.boot_bool (v := .ty "bool") rfl) pa_nil))))))), ?_⟩
    refine ⟨v, rfl, v, .ty "int", t, _, bi, rfl, .ty "int", ty, h1, bi, rfl, ite2 (fun e => ?_) (fun e => ?_)⟩
    · refine ⟨v, rfl, v, .ty "bool", t, _, bb, rfl, .ty "bool", ty, h2, bb, rfl, ?_⟩
      rw [e] at k
      exact k
    · rw [Bool.eq_false_iff.mpr e] at k
      exact k

/-! ### making a fraction -/
structure SpInit (C : Addr) (vs : List V) (H : Hp) (Q : VK) (E : XK) : Prop where
  ex : ∃ (x dx : Addr) (t b : Int), vs = [.ref x, .int t, .int b] ∧ b ≠ 0 ∧ Sz 8000 b ∧ H x = some (.ins C dx []) ∧ Q .non (upd H x (.ins C dx (rf (low t b))))
theorem scInit : FnScope ["self", "top", "bottom", "common"] ["self", "top", "bottom"] (defScope sInit) := ⟨rfl, rfl, rfl, by decide +kernel, rfl, by decide +kernel, by decide +kernel⟩
theorem putf1 (v : V) : putF "_top" v [] = ([("_top", v)] : List (Str × V)) := rfl
theorem putf2 (v u : V) : putF "_bottom" u ([("_top", v)] : List (Str × V)) = ([("_top", v), ("_bottom", u)] : List (Str × V)) := by
  have e : ¬ (("_top" : Str) = "_bottom") := by decide +kernel
  show (if ("_top" : Str) = "_bottom" then ([(("_top" : Str), u)] : List (Str × V)) else (("_top" : Str), v) :: putF "_bottom" u []) = _
  rw [if_neg e]
  rfl
theorem ok_init {f fI : Addr} {fdI : FuncData} {dvs : List V} {fd : FuncData} (F : FunD K "__init__" "Ratio.__init__" (defArgs sInit) (defBody sInit) (defScope sInit) dvs [] f fd) (B : Blt mg) (R : RCls K mg C)
    (GI : FnOk P w K mg base CX0 1 fI fdI ["value"] (SpIsInt K)) (mI : mg "is_integer" = some (.ref fI)) (kI : PySem.W.keepIn K (.ref fI) = true) (bI : Binds K fdI ["value"] []) :
    FnOk P w K mg base CX0 2 f fd ["self", "top", "bottom"] (SpInit C) := by
  refine F.ok scInit (fun vs H Q E h => ?_) (fun cdv A outer s H vs Q E hr h => ?_)
  · obtain ⟨x, dx, t, b, rfl, _⟩ := h
    rfl
  · obtain ⟨x, dx, t, b, rfl, hb, hz, hx, k⟩ := h
    refine ⟨_, PSs.nox (pss_cons (ps_if (pt_not (pt_val (pe_call GI hr (by rfl) mI kI bI .nil pass0 (pa_cons (pv 1) pa_nil)))) (pss_one ps_never) pss_nil)
      (pss_cons (ps_if (pw_or (pt_not (pt_val (pe_call GI hr (by rfl) mI kI bI .nil pass0 (pa_cons (pv 2) pa_nil)))) (pw_or1 (pt_cmpR op_eq (pv 2) pe_int (nomark _)))).pt (pss_one ps_never) pss_nil)
      (pss_cons (ps_set (i := 3) scInit.nd rfl (Or.inl rfl) (pe_callBfun cr_gcd (by rfl) B.gcd (pa_cons (pv 1) (pa_cons (pv 2) pa_nil))))
      (pss_cons (ps_if (pt_cmpR op_lt (pv 2) pe_int (nomark _)) (pss_one (ps_set (i := 3) scInit.nd rfl (Or.inl rfl) (pe_un un_neg (pv 3)))) pss_nil)
      (pss_cons (ps_fld (pv 0) (pe_op op_fdivA (pv 1) (pv 3)) rfl)
      (pss_one (ps_fld (pv 0) (pe_op op_fdivA (pv 2) (pv 3)) rfl))))))), ?_⟩
    refine ⟨_, rfl, SpIsInt.int t ⟨true, rfl, iteF ?_⟩⟩
    refine ⟨_, rfl, SpIsInt.int b ⟨true, rfl, iteF ⟨_, rfl, rfl, _, rfl, ?_⟩⟩⟩
    have hbd : decide (V.int b = V.int 0) = false := decide_eq_false (fun e => hb (by injection e))
    rw [hbd]
    refine iteF ⟨_, rfl, _, rfl, t, b, rfl, ?_⟩
    have c1 : CDivA t (G t b) := fdiv_ok (G_ne hb) (Sz.G hb hz) (by decide) (by decide)
    have c2 : CDivA b (G t b) := fdiv_ok (G_ne hb) (Sz.G hb hz) (by decide) (by decide)
    have k' : Q .non (upd (upd H x (.ins C dx [("_top", .int (t.fdiv (G t b)))])) x (.ins C dx [("_top", .int (t.fdiv (G t b))), ("_bottom", .int (b.fdiv (G t b)))])) := by
      rw [upd_upd]
      exact k
    refine ⟨_, rfl, _, _, rfl, rfl, _, rfl, ite2 (fun e => ?_) (fun e => ?_)⟩
    · have hl : b < 0 := of_decide_eq_true e
      have hg : -((Nat.gcd t.natAbs b.natAbs : Nat) : Int) = G t b := (if_pos hl).symm
      rw [← hg] at c1 c2 k'
      refine ⟨_, rfl, _, rfl, ?_⟩
      refine ⟨_, rfl, _, rfl, _, _, rfl, rfl, c1, _, rfl, x, C, dx, _, rfl, hx, R.cl, R.nT, (by show 0 < 1000; decide), ?_⟩
      refine ⟨_, rfl, _, rfl, _, _, rfl, rfl, c2, _, rfl, x, C, dx, _, rfl, upd_same, R.cl, R.nB, (by show 1 < 1000; decide), ?_⟩
      rw [putf1, putf2]
      exact k'
    · have hl : ¬ b < 0 := fun z => e (decide_eq_true z)
      have hg : ((Nat.gcd t.natAbs b.natAbs : Nat) : Int) = G t b := (if_neg hl).symm
      rw [← hg] at c1 c2 k'
      refine ⟨_, rfl, _, rfl, _, _, rfl, rfl, c1, _, rfl, x, C, dx, _, rfl, hx, R.cl, R.nT, (by show 0 < 1000; decide), ?_⟩
      refine ⟨_, rfl, _, rfl, _, _, rfl, rfl, c2, _, rfl, x, C, dx, _, rfl, upd_same, R.cl, R.nB, (by show 1 < 1000; decide), ?_⟩
      rw [putf1, putf2]
      exact k'
end
end RQ

set_option Elab.async false
set_option linter.all false
set_option maxRecDepth 100000
set_option maxHeartbeats 4000000
/-! The methods of fractions, def by def. -/
namespace RQ
open PySem L2
/-! ### what goes for a number -/
/-- p in lowest terms, of a told size -/
structure OkF (n : Nat) (p : Fr) : Prop where
  red : Red p
  st : Sz n p.1
  sb : Sz n p.2
theorem OkF.mono {n m : Nat} {p : Fr} (h : OkF n p) (k : n ≤ m) : OkF m p := ⟨h.red, h.st.mono k, h.sb.mono k⟩
/-- the value v has the worth p: a fraction, or an int -/
def Num (C : Addr) (H : Hp) (v : V) (p : Fr) : Prop := (∃ a, v = .ref a ∧ RAt C H a p) ∨ ∃ i, v = .int i ∧ p = (i, 1)
theorem Num.same {C : Addr} {H H' : Hp} {v : V} {p : Fr} (h : Num C H v p) (s : Same H H') : Num C H' v p := h.imp (fun ⟨a, e, r⟩ => ⟨a, e, r.same s⟩) id
/-- a new fraction of the worth p -/
def New (C : Addr) (H : Hp) (p : Fr) (Q : VK) : Prop := ∀ (H' : Hp) (x : Addr), Same H H' → H x = none → RAt C H' x p → Q (.ref x) H'
theorem New.same {C : Addr} {H H' : Hp} {p : Fr} {Q : VK} (h : New C H p Q) (s : Same H H') : New C H' p Q := fun H2 x s2 n r => h H2 x (s.trans s2) (s.free n) r
theorem made_ {C : Addr} {H : Hp} {Q : VK} {E : XK} {t b : Int} (hb : b ≠ 0) (hz : Sz 8000 b) (k : New C H (low t b) Q) (x dx : Addr) (nx : H x = none) (nd : H dx = none) (ne : dx ≠ x) :
    SpInit C [.ref x, .int t, .int b] (upd (upd H dx (.own x)) x (.ins C dx [])) (fun v H2 => v = .non ∧ Q (.ref x) H2) E := by
  refine ⟨x, dx, t, b, rfl, hb, hz, upd_same, rfl, k _ x ?_ nx ⟨dx, upd_same⟩⟩
  intro c o e
  rw [upd_ne (ne_of_none e nx), upd_ne (ne_of_none e nx), upd_ne (ne_of_none e nd)]
  exact e

/-- the class's own defs, as far as they stand -/
structure Defs (P : Program) (w : World) (K : PySem.W.Frag) (mg : Str → Option Value) (base : Heap) (C : Addr) where
  B : Blt mg
  R : RCls K mg C
  fI : Addr
  fdI : FuncData
  GI : FnOk P w K mg base CX0 1 fI fdI ["value"] (SpIsInt K)
  mI : mg "is_integer" = some (.ref fI)
  kI : PySem.W.keepIn K (.ref fI) = true
  bI : Binds K fdI ["value"] []
  f0 : Addr
  fd0 : FuncData
  M : Mk K C f0
  G0 : FnOk P w K mg base CX0 2 f0 fd0 ["self", "top", "bottom"] (SpInit C)
  b0 : Binds K fd0 ["self", "top", "bottom"] []

section
variable {P : Program} {w : World} {K : PySem.W.Frag} {mg : Str → Option Value} {base : Heap} {C : Addr}
/-! ### top, bottom, sign, is_whole -/
structure SpTop (C : Addr) (vs : List V) (H : Hp) (Q : VK) (E : XK) : Prop where
  ex : ∃ (a : Addr) (p : Fr), vs = [.ref a] ∧ RAt C H a p ∧ Q (.int p.1) H
structure SpBottom (C : Addr) (vs : List V) (H : Hp) (Q : VK) (E : XK) : Prop where
  ex : ∃ (a : Addr) (p : Fr), vs = [.ref a] ∧ RAt C H a p ∧ Q (.int p.2) H
structure SpSign (C : Addr) (vs : List V) (H : Hp) (Q : VK) (E : XK) : Prop where
  ex : ∃ (a : Addr) (p : Fr), vs = [.ref a] ∧ RAt C H a p ∧ Q (.int (if p.1 = 0 then 0 else if 0 < p.1 then 1 else -1)) H
structure SpWhole (C : Addr) (vs : List V) (H : Hp) (Q : VK) (E : XK) : Prop where
  ex : ∃ (a : Addr) (p : Fr), vs = [.ref a] ∧ RAt C H a p ∧ Q (.bl (decide (p.2 = 1))) H
theorem scTop : FnScope ["self"] ["self"] (defScope sTop) := ⟨rfl, rfl, rfl, by decide +kernel, rfl, by decide +kernel, by decide +kernel⟩
theorem scBottom : FnScope ["self"] ["self"] (defScope sBottom) := ⟨rfl, rfl, rfl, by decide +kernel, rfl, by decide +kernel, by decide +kernel⟩
theorem scSign : FnScope ["self"] ["self"] (defScope sSign) := ⟨rfl, rfl, rfl, by decide +kernel, rfl, by decide +kernel, by decide +kernel⟩
theorem scWhole : FnScope ["self"] ["self"] (defScope sWhole) := ⟨rfl, rfl, rfl, by decide +kernel, rfl, by decide +kernel, by decide +kernel⟩
theorem ok_top {f : Addr} {fd : FuncData} (F : Fun K "top" "Ratio.top" sTop f fd) (R : RCls K mg C) : FnOk P w K mg base CX0 1 f fd ["self"] (SpTop C) := by
  refine F.ok scTop (fun vs H Q E h => ?_) (fun cdv A outer s H vs Q E hr h => ?_)
  · obtain ⟨a, p, rfl, _⟩ := h
    rfl
  · obtain ⟨a, p, rfl, ⟨dx, ha⟩, k⟩ := h
    exact ⟨_, pss_one (ps_ret (pe_fld (pv 0) rfl)), _, rfl, a, C, dx, _, _, rfl, ha, R.cl, R.nT, rf_top p, k⟩
theorem ok_bottom {f : Addr} {fd : FuncData} (F : Fun K "bottom" "Ratio.bottom" sBottom f fd) (R : RCls K mg C) : FnOk P w K mg base CX0 1 f fd ["self"] (SpBottom C) := by
  refine F.ok scBottom (fun vs H Q E h => ?_) (fun cdv A outer s H vs Q E hr h => ?_)
  · obtain ⟨a, p, rfl, _⟩ := h
    rfl
  · obtain ⟨a, p, rfl, ⟨dx, ha⟩, k⟩ := h
    exact ⟨_, pss_one (ps_ret (pe_fld (pv 0) rfl)), _, rfl, a, C, dx, _, _, rfl, ha, R.cl, R.nB, rf_bot p, k⟩
theorem dec_int {i j : Int} : decide (V.int i = V.int j) = decide (i = j) := by
  by_cases h : i = j
  · rw [h, decide_eq_true rfl, decide_eq_true rfl]
  · rw [decide_eq_false h, decide_eq_false fun e => h (by injection e)]
theorem ok_sign {f : Addr} {fd : FuncData} (F : Fun K "sign" "Ratio.sign" sSign f fd) (R : RCls K mg C) : FnOk P w K mg base CX0 1 f fd ["self"] (SpSign C) := by
  refine F.ok scSign (fun vs H Q E h => ?_) (fun cdv A outer s H vs Q E hr h => ?_)
  · obtain ⟨a, p, rfl, _⟩ := h
    rfl
  · obtain ⟨a, p, rfl, ⟨dx, ha⟩, k⟩ := h
    refine ⟨_, pss_cons (ps_if (pt_cmpR op_eq (pe_fld (pv 0) rfl) pe_int (nomark _)) (pss_one (ps_ret pe_int)) pss_nil)
      (pss_one (ps_ret (pe_ifExp (pt_cmpR op_gt (pe_fld (pv 0) rfl) pe_int (nomark _)) pe_int (pe_un un_neg pe_int)))), ?_⟩
    refine ⟨_, rfl, a, C, dx, _, _, rfl, ha, R.cl, R.nT, rf_top p, rfl, _, rfl, ?_⟩
    rw [dec_int]
    refine ite2 (fun e => ?_) (fun e => ?_)
    · rw [if_pos (of_decide_eq_true e)] at k
      exact k
    · rw [if_neg fun z => e (decide_eq_true z)] at k
      refine ⟨_, rfl, a, C, dx, _, _, rfl, ha, R.cl, R.nT, rf_top p, _, _, rfl, rfl, _, rfl, ite2 (fun e => ?_) (fun e => ?_)⟩
      · rw [if_pos (of_decide_eq_true e)] at k
        exact k
      · rw [if_neg fun z => e (decide_eq_true z)] at k
        exact ⟨1, rfl, k⟩
theorem ok_whole {f : Addr} {fd : FuncData} (F : Fun K "is_whole" "Ratio.is_whole" sWhole f fd) (R : RCls K mg C) : FnOk P w K mg base CX0 1 f fd ["self"] (SpWhole C) := by
  refine F.ok scWhole (fun vs H Q E h => ?_) (fun cdv A outer s H vs Q E hr h => ?_)
  · obtain ⟨a, p, rfl, _⟩ := h
    rfl
  · obtain ⟨a, p, rfl, ⟨dx, ha⟩, k⟩ := h
    refine ⟨_, pss_one (ps_ret (pe_cmpR op_eq (pe_fld (pv 0) rfl) pe_int (nomark _))), _, rfl, a, C, dx, _, _, rfl, ha, R.cl, R.nB, rf_bot p, rfl, ?_⟩
    rw [dec_int]
    exact k

/-! ### _parts -/
structure SpParts (C : Addr) (vs : List V) (H : Hp) (Q : VK) (E : XK) : Prop where
  ex : ∃ (v : V) (p : Fr), vs = [v] ∧ Num C H v p ∧ ∀ t, H t = none → Q (.ref t) (upd H t (.tup [.int p.1, .int p.2]))
theorem scParts : FnScope ["value"] ["value"] (defScope sParts) := ⟨rfl, rfl, rfl, by decide +kernel, rfl, by decide +kernel, by decide +kernel⟩
theorem two_line : 2 ≤ sizeLine := by decide
theorem ok_parts {f : Addr} {fd : FuncData} (F : Fun K "_parts" "_parts" sParts f fd) (D : Defs P w K mg base C) {pT gT pB gB : Addr} {fdT fdB : FuncData} (hT : PropOf K C "top" pT gT) (hB : PropOf K C "bottom" pB gB)
    (GT : FnOk P w K mg base CX0 1 gT fdT ["self"] (SpTop C)) (GB : FnOk P w K mg base CX0 1 gB fdB ["self"] (SpBottom C)) (bT : Binds K fdT ["self"] []) (bB : Binds K fdB ["self"] []) : FnOk P w K mg base CX0 3 f fd ["value"] (SpParts C) := by
  refine F.ok scParts (fun vs H Q E h => ?_) (fun cdv A outer s H vs Q E hr h => ?_)
  · obtain ⟨v, p, rfl, _⟩ := h
    rfl
  · obtain ⟨v, p, rfl, hv, k⟩ := h
    refine ⟨_, PSs.nox (pss_cons (ps_if (pt_val (pe_callB call_isi (by rfl) D.B.isi PyProof.Rows.boot_isinstance (pa_cons (pv 0) (pa_cons (pe_glob (by rfl) D.R.mg_ (v := .ref C) rfl) pa_nil))))
        (pss_one (ps_ret (pe_tup (pa_cons (pe_prop (pv 0) D.R.cl hT GT hr bT .nil pass0 rfl) (pa_cons (pe_prop (pv 0) D.R.cl hB GB hr bB .nil pass0 rfl) pa_nil))))) pss_nil)
      (pss_cons (ps_if (pt_not (pt_val (pe_call D.GI (hr.mono (by decide)) (by rfl) D.mI D.kI D.bI .nil pass0 (pa_cons (pv 0) pa_nil)))) (pss_one ps_never) pss_nil)
      (pss_one (ps_ret (pe_tup (pa_cons (pv 0) (pa_cons pe_int pa_nil))))))), ?_⟩
    rcases hv with ⟨a, rfl, ha⟩ | ⟨i, rfl, rfl⟩
    · obtain ⟨dx, e⟩ := id ha
      refine ⟨_, rfl, _, .ref C, _, _, true, rfl, .own C, ha.is D.R, D.R.kC, true, rfl, iteT ?_⟩
      refine ⟨_, rfl, a, dx, _, rfl, e, ⟨a, p, rfl, ha, ?_⟩⟩
      refine ⟨_, rfl, a, dx, _, rfl, e, ⟨a, p, rfl, ha, ?_⟩⟩
      exact ⟨two_line, k⟩
    · refine ⟨_, rfl, _, .ref C, _, _, false, rfl, .own C, .base (.int i), D.R.iC, false, rfl, iteF ?_⟩
      refine ⟨_, rfl, SpIsInt.int i ⟨true, rfl, iteF ?_⟩⟩
      exact ⟨_, rfl, two_line, k⟩
end
end RQ

set_option Elab.async false
set_option linter.all false
set_option maxRecDepth 100000
set_option maxHeartbeats 4000000
/-! Sums, products, quotients, comparisons, texts of fractions. -/
namespace RQ
open PySem L2
/-- .. and what takes a number apart -/
structure DefsP (P : Program) (w : World) (K : PySem.W.Frag) (mg : Str → Option Value) (base : Heap) (C : Addr) extends Defs P w K mg base C where
  fP : Addr
  fdP : FuncData
  GP : FnOk P w K mg base CX0 3 fP fdP ["value"] (SpParts C)
  mP : mg "_parts" = some (.ref fP)
  kP : PySem.W.keepIn K (.ref fP) = true
  bP : Binds K fdP ["value"] []
theorem log_lt {x : Int} {n : Nat} (h : Sz n x) (h0 : 0 < n) : x.natAbs.log2 < n := PySem.Flt.log2_lt_of h0 h
theorem mulW_ok {x y : Int} {n m : Nat} (h : Sz n x) (k : Sz m y) (h0 : 0 < n) (h1 : 0 < m) (h2 : n + m ≤ 1000000) : CMulW x y := wide_mul h k h0 h1 h2
theorem mul1k {x y : Int} (h : Sz 1000 x) (k : Sz 1000 y) : CMulW x y := wide_mul h k (by decide) (by decide) (by decide)

section
variable {P : Program} {w : World} {K : PySem.W.Frag} {mg : Str → Option Value} {base : Heap} {C : Addr}
/-- a method of two: a fraction and a number, told by g -/
structure SpTwo (C : Addr) (g : Fr → Fr → Fr) (ok : Fr → Prop) (vs : List V) (H : Hp) (Q : VK) (E : XK) : Prop where
  ex : ∃ (a : Addr) (v : V) (p q : Fr), vs = [.ref a, v] ∧ RAt C H a p ∧ Num C H v q ∧ OkF 1000 p ∧ OkF 1000 q ∧ ok q ∧ New C H (g p q) Q
/-- .. told by a bool -/
structure SpTest (C : Addr) (g : Fr → Fr → Bool) (vs : List V) (H : Hp) (Q : VK) (E : XK) : Prop where
  ex : ∃ (a : Addr) (v : V) (p q : Fr), vs = [.ref a, v] ∧ RAt C H a p ∧ Num C H v q ∧ OkF 1000 p ∧ OkF 1000 q ∧ ∀ H', Same H H' → Q (.bl (g p q)) H'
/-- a method of one, told by g -/
structure SpOne (C : Addr) (g : Fr → Fr) (vs : List V) (H : Hp) (Q : VK) (E : XK) : Prop where
  ex : ∃ (a : Addr) (p : Fr), vs = [.ref a] ∧ RAt C H a p ∧ OkF 1000 p ∧ New C H (g p) Q
def any_ (_ : Fr) : Prop := True

abbrev four : List Str := ["self", "other", "top", "bottom"]
theorem scAdd : FnScope four ["self", "other"] (defScope sAdd) := ⟨rfl, rfl, rfl, by decide +kernel, rfl, by decide +kernel, by decide +kernel⟩
theorem ok_add {f : Addr} {fd : FuncData} (F : Fun K "__add__" "Ratio.__add__" sAdd f fd) (D : DefsP P w K mg base C) : FnOk P w K mg base CX0 4 f fd ["self", "other"] (SpTwo C add any_) := by
  refine F.ok scAdd (fun vs H Q E h => ?_) (fun cdv A outer s H vs Q E hr h => ?_)
  · obtain ⟨a, v, p, q, rfl, _⟩ := h
    rfl
  · obtain ⟨a, v, p, q, rfl, ha, hv, hp, hq, _, k⟩ := h
    refine ⟨_, pss_cons (ps_asg (pe_call D.GP hr (by rfl) D.mP D.kP D.bP .nil pass0 (pa_cons (pv 1) pa_nil)) (pg_tup rfl (pgs_cons (pg_name (i := 2) scAdd.nd rfl (Or.inl rfl)) (pgs_cons (pg_name (i := 3) scAdd.nd rfl (Or.inl rfl)) pgs_nil))))
      (pss_one (ps_ret (pe_make D.M D.G0 hr rfl D.R.mg_ D.b0 .nil pass0 (pa_cons (pe_op op_add (pe_op op_mulW (pe_fld (pv 0) rfl) (pv 3)) (pe_op op_mulW (pv 2) (pe_fld (pv 0) rfl))) (pa_cons (pe_op op_mulW (pe_fld (pv 0) rfl) (pv 3)) pa_nil))))), ?_⟩
    refine ⟨_, rfl, ⟨v, q, rfl, hv, fun t ht => ?_⟩⟩
    refine ⟨t, _, rfl, SqT.of upd_same, rfl, _, _, rfl, _, _, rfl, rfl, ?_⟩
    have s1 := same_new (o := .tup [.int q.1, .int q.2]) ht
    obtain ⟨dx, ha1⟩ := ha.same s1
    refine ⟨_, rfl, a, C, dx, _, _, rfl, ha1, D.R.cl, D.R.nT, rf_top p, _, rfl, _, _, rfl, rfl, mul1k hp.st hq.sb, ?_⟩
    refine ⟨_, rfl, _, rfl, a, C, dx, _, _, rfl, ha1, D.R.cl, D.R.nB, rf_bot p, _, _, rfl, rfl, mul1k hq.st hp.sb, ?_⟩
    refine ⟨_, _, rfl, rfl, ?_⟩
    refine ⟨_, rfl, a, C, dx, _, _, rfl, ha1, D.R.cl, D.R.nB, rf_bot p, _, rfl, _, _, rfl, rfl, mul1k hp.sb hq.sb, ?_⟩
    exact fun x dx nx nd ne => made_ (Int.mul_ne_zero hp.red.ne hq.red.ne) ((hp.sb.mul hq.sb).mono (by decide)) (k.same s1) x dx nx nd ne
theorem scSub : FnScope four ["self", "other"] (defScope sSub) := ⟨rfl, rfl, rfl, by decide +kernel, rfl, by decide +kernel, by decide +kernel⟩
theorem ok_sub {f : Addr} {fd : FuncData} (F : Fun K "__sub__" "Ratio.__sub__" sSub f fd) (D : DefsP P w K mg base C) : FnOk P w K mg base CX0 4 f fd ["self", "other"] (SpTwo C sub any_) := by
  refine F.ok scSub (fun vs H Q E h => ?_) (fun cdv A outer s H vs Q E hr h => ?_)
  · obtain ⟨a, v, p, q, rfl, _⟩ := h
    rfl
  · obtain ⟨a, v, p, q, rfl, ha, hv, hp, hq, _, k⟩ := h
    refine ⟨_, pss_cons (ps_asg (pe_call D.GP hr (by rfl) D.mP D.kP D.bP .nil pass0 (pa_cons (pv 1) pa_nil)) (pg_tup rfl (pgs_cons (pg_name (i := 2) scSub.nd rfl (Or.inl rfl)) (pgs_cons (pg_name (i := 3) scSub.nd rfl (Or.inl rfl)) pgs_nil))))
      (pss_one (ps_ret (pe_make D.M D.G0 hr rfl D.R.mg_ D.b0 .nil pass0 (pa_cons (pe_op op_sub (pe_op op_mulW (pe_fld (pv 0) rfl) (pv 3)) (pe_op op_mulW (pv 2) (pe_fld (pv 0) rfl))) (pa_cons (pe_op op_mulW (pe_fld (pv 0) rfl) (pv 3)) pa_nil))))), ?_⟩
    refine ⟨_, rfl, ⟨v, q, rfl, hv, fun t ht => ?_⟩⟩
    refine ⟨t, _, rfl, SqT.of upd_same, rfl, _, _, rfl, _, _, rfl, rfl, ?_⟩
    have s1 := same_new (o := .tup [.int q.1, .int q.2]) ht
    obtain ⟨dx, ha1⟩ := ha.same s1
    refine ⟨_, rfl, a, C, dx, _, _, rfl, ha1, D.R.cl, D.R.nT, rf_top p, _, rfl, _, _, rfl, rfl, mul1k hp.st hq.sb, ?_⟩
    refine ⟨_, rfl, _, rfl, a, C, dx, _, _, rfl, ha1, D.R.cl, D.R.nB, rf_bot p, _, _, rfl, rfl, mul1k hq.st hp.sb, ?_⟩
    refine ⟨_, _, rfl, rfl, ?_⟩
    refine ⟨_, rfl, a, C, dx, _, _, rfl, ha1, D.R.cl, D.R.nB, rf_bot p, _, rfl, _, _, rfl, rfl, mul1k hp.sb hq.sb, ?_⟩
    exact fun x dx nx nd ne => made_ (Int.mul_ne_zero hp.red.ne hq.red.ne) ((hp.sb.mul hq.sb).mono (by decide)) (k.same s1) x dx nx nd ne
theorem scMul : FnScope four ["self", "other"] (defScope sMul) := ⟨rfl, rfl, rfl, by decide +kernel, rfl, by decide +kernel, by decide +kernel⟩
theorem ok_mul {f : Addr} {fd : FuncData} (F : Fun K "__mul__" "Ratio.__mul__" sMul f fd) (D : DefsP P w K mg base C) : FnOk P w K mg base CX0 4 f fd ["self", "other"] (SpTwo C mul any_) := by
  refine F.ok scMul (fun vs H Q E h => ?_) (fun cdv A outer s H vs Q E hr h => ?_)
  · obtain ⟨a, v, p, q, rfl, _⟩ := h
    rfl
  · obtain ⟨a, v, p, q, rfl, ha, hv, hp, hq, _, k⟩ := h
    refine ⟨_, pss_cons (ps_asg (pe_call D.GP hr (by rfl) D.mP D.kP D.bP .nil pass0 (pa_cons (pv 1) pa_nil)) (pg_tup rfl (pgs_cons (pg_name (i := 2) scMul.nd rfl (Or.inl rfl)) (pgs_cons (pg_name (i := 3) scMul.nd rfl (Or.inl rfl)) pgs_nil))))
      (pss_one (ps_ret (pe_make D.M D.G0 hr rfl D.R.mg_ D.b0 .nil pass0 (pa_cons (pe_op op_mulW (pe_fld (pv 0) rfl) (pv 2)) (pa_cons (pe_op op_mulW (pe_fld (pv 0) rfl) (pv 3)) pa_nil))))), ?_⟩
    refine ⟨_, rfl, ⟨v, q, rfl, hv, fun t ht => ?_⟩⟩
    refine ⟨t, _, rfl, SqT.of upd_same, rfl, _, _, rfl, _, _, rfl, rfl, ?_⟩
    have s1 := same_new (o := .tup [.int q.1, .int q.2]) ht
    obtain ⟨dx, ha1⟩ := ha.same s1
    refine ⟨_, rfl, a, C, dx, _, _, rfl, ha1, D.R.cl, D.R.nT, rf_top p, _, rfl, _, _, rfl, rfl, mul1k hp.st hq.st, ?_⟩
    refine ⟨_, rfl, a, C, dx, _, _, rfl, ha1, D.R.cl, D.R.nB, rf_bot p, _, rfl, _, _, rfl, rfl, mul1k hp.sb hq.sb, ?_⟩
    exact fun x dx nx nd ne => made_ (Int.mul_ne_zero hp.red.ne hq.red.ne) ((hp.sb.mul hq.sb).mono (by decide)) (k.same s1) x dx nx nd ne
theorem scOver : FnScope four ["self", "other"] (defScope sOver) := ⟨rfl, rfl, rfl, by decide +kernel, rfl, by decide +kernel, by decide +kernel⟩
theorem ok_over {f : Addr} {fd : FuncData} (F : Fun K "over" "Ratio.over" sOver f fd) (D : DefsP P w K mg base C) : FnOk P w K mg base CX0 4 f fd ["self", "other"] (SpTwo C over fun q => q.1 ≠ 0) := by
  refine F.ok scOver (fun vs H Q E h => ?_) (fun cdv A outer s H vs Q E hr h => ?_)
  · obtain ⟨a, v, p, q, rfl, _⟩ := h
    rfl
  · obtain ⟨a, v, p, q, rfl, ha, hv, hp, hq, h0, k⟩ := h
    refine ⟨_, PSs.nox (pss_cons (ps_asg (pe_call D.GP hr (by rfl) D.mP D.kP D.bP .nil pass0 (pa_cons (pv 1) pa_nil)) (pg_tup rfl (pgs_cons (pg_name (i := 2) scOver.nd rfl (Or.inl rfl)) (pgs_cons (pg_name (i := 3) scOver.nd rfl (Or.inl rfl)) pgs_nil))))
      (pss_cons (ps_if (pt_cmpR op_eq (pv 2) pe_int (nomark _)) (pss_one ps_never) pss_nil)
      (pss_one (ps_ret (pe_make D.M D.G0 hr rfl D.R.mg_ D.b0 .nil pass0 (pa_cons (pe_op op_mulW (pe_fld (pv 0) rfl) (pv 3)) (pa_cons (pe_op op_mulW (pe_fld (pv 0) rfl) (pv 2)) pa_nil))))))), ?_⟩
    refine ⟨_, rfl, ⟨v, q, rfl, hv, fun t ht => ?_⟩⟩
    refine ⟨t, _, rfl, SqT.of upd_same, rfl, _, _, rfl, _, _, rfl, rfl, ?_⟩
    have s1 := same_new (o := .tup [.int q.1, .int q.2]) ht
    obtain ⟨dx, ha1⟩ := ha.same s1
    refine ⟨_, rfl, rfl, _, rfl, ?_⟩
    rw [dec_int, decide_eq_false h0]
    refine iteF ?_
    refine ⟨_, rfl, a, C, dx, _, _, rfl, ha1, D.R.cl, D.R.nT, rf_top p, _, rfl, _, _, rfl, rfl, mul1k hp.st hq.sb, ?_⟩
    refine ⟨_, rfl, a, C, dx, _, _, rfl, ha1, D.R.cl, D.R.nB, rf_bot p, _, rfl, _, _, rfl, rfl, mul1k hp.sb hq.st, ?_⟩
    exact fun x dx nx nd ne => made_ (Int.mul_ne_zero hp.red.ne h0) ((hp.sb.mul hq.st).mono (by decide)) (k.same s1) x dx nx nd ne
theorem scBelow : FnScope four ["self", "other"] (defScope sBelow) := ⟨rfl, rfl, rfl, by decide +kernel, rfl, by decide +kernel, by decide +kernel⟩
theorem ok_below {f : Addr} {fd : FuncData} (F : Fun K "is_below" "Ratio.is_below" sBelow f fd) (D : DefsP P w K mg base C) : FnOk P w K mg base CX0 4 f fd ["self", "other"] (SpTest C fun p q => decide (p.1 * q.2 < q.1 * p.2)) := by
  refine F.ok scBelow (fun vs H Q E h => ?_) (fun cdv A outer s H vs Q E hr h => ?_)
  · obtain ⟨a, v, p, q, rfl, _⟩ := h
    rfl
  · obtain ⟨a, v, p, q, rfl, ha, hv, hp, hq, k⟩ := h
    refine ⟨_, pss_cons (ps_asg (pe_call D.GP hr (by rfl) D.mP D.kP D.bP .nil pass0 (pa_cons (pv 1) pa_nil)) (pg_tup rfl (pgs_cons (pg_name (i := 2) scBelow.nd rfl (Or.inl rfl)) (pgs_cons (pg_name (i := 3) scBelow.nd rfl (Or.inl rfl)) pgs_nil))))
      (pss_one (ps_ret (pe_cmpR op_lt (pe_op op_mulW (pe_fld (pv 0) rfl) (pv 3)) (pe_op op_mulW (pv 2) (pe_fld (pv 0) rfl)) (nomark _)))), ?_⟩
    refine ⟨_, rfl, ⟨v, q, rfl, hv, fun t ht => ?_⟩⟩
    refine ⟨t, _, rfl, SqT.of upd_same, rfl, _, _, rfl, _, _, rfl, rfl, ?_⟩
    have s1 := same_new (o := .tup [.int q.1, .int q.2]) ht
    obtain ⟨dx, ha1⟩ := ha.same s1
    refine ⟨_, rfl, a, C, dx, _, _, rfl, ha1, D.R.cl, D.R.nT, rf_top p, _, rfl, _, _, rfl, rfl, mul1k hp.st hq.sb, ?_⟩
    refine ⟨_, rfl, _, rfl, a, C, dx, _, _, rfl, ha1, D.R.cl, D.R.nB, rf_bot p, _, _, rfl, rfl, mul1k hq.st hp.sb, ?_⟩
    exact ⟨_, _, rfl, rfl, k _ s1⟩
theorem scAtMost : FnScope four ["self", "other"] (defScope sAtMost) := ⟨rfl, rfl, rfl, by decide +kernel, rfl, by decide +kernel, by decide +kernel⟩
theorem ok_atMost {f : Addr} {fd : FuncData} (F : Fun K "is_at_most" "Ratio.is_at_most" sAtMost f fd) (D : DefsP P w K mg base C) : FnOk P w K mg base CX0 4 f fd ["self", "other"] (SpTest C fun p q => decide (p.1 * q.2 ≤ q.1 * p.2)) := by
  refine F.ok scAtMost (fun vs H Q E h => ?_) (fun cdv A outer s H vs Q E hr h => ?_)
  · obtain ⟨a, v, p, q, rfl, _⟩ := h
    rfl
  · obtain ⟨a, v, p, q, rfl, ha, hv, hp, hq, k⟩ := h
    refine ⟨_, pss_cons (ps_asg (pe_call D.GP hr (by rfl) D.mP D.kP D.bP .nil pass0 (pa_cons (pv 1) pa_nil)) (pg_tup rfl (pgs_cons (pg_name (i := 2) scAtMost.nd rfl (Or.inl rfl)) (pgs_cons (pg_name (i := 3) scAtMost.nd rfl (Or.inl rfl)) pgs_nil))))
      (pss_one (ps_ret (pe_cmpR op_le (pe_op op_mulW (pe_fld (pv 0) rfl) (pv 3)) (pe_op op_mulW (pv 2) (pe_fld (pv 0) rfl)) (nomark _)))), ?_⟩
    refine ⟨_, rfl, ⟨v, q, rfl, hv, fun t ht => ?_⟩⟩
    refine ⟨t, _, rfl, SqT.of upd_same, rfl, _, _, rfl, _, _, rfl, rfl, ?_⟩
    have s1 := same_new (o := .tup [.int q.1, .int q.2]) ht
    obtain ⟨dx, ha1⟩ := ha.same s1
    refine ⟨_, rfl, a, C, dx, _, _, rfl, ha1, D.R.cl, D.R.nT, rf_top p, _, rfl, _, _, rfl, rfl, mul1k hp.st hq.sb, ?_⟩
    refine ⟨_, rfl, _, rfl, a, C, dx, _, _, rfl, ha1, D.R.cl, D.R.nB, rf_bot p, _, _, rfl, rfl, mul1k hq.st hp.sb, ?_⟩
    exact ⟨_, _, rfl, rfl, k _ s1⟩
end
end RQ

set_option Elab.async false
set_option linter.all false
set_option maxRecDepth 100000
set_option maxHeartbeats 4000000
/-! The remaining methods of fractions but the total. -/
namespace RQ
open PySem L2
theorem OkF.neg {n : Nat} {p : Fr} (h : OkF n p) : OkF n (neg p) := by
  rw [neg_eq h.red]
  have := neg_eq h.red
  exact ⟨this ▸ low_red (t := -p.1) h.red.ne, h.st.neg, h.sb⟩
theorem raw0 {P : Program} {w : World} {K : PySem.W.Frag} {mg : Str → Option Value} {base : Heap} {k : Nat} {f : Addr} {fd : FuncData} {ps : List Str} {sp : Sp} (F : FnOk P w K mg base CX0 k f fd ps sp) (b : Binds K fd ps []) : FnR P w K mg base CX0 k f sp :=
  (F.raw b .nil).imp fun vs H Q E h => by simpa using h
theorem int_slots : (∃ fo, PySem.W.findIn K (.type "int") (PySem.dunder "add") = some fo) ∧ (∃ fo, PySem.W.findIn K (.type "int") (dunderR "add") = some fo) ∧
    (∃ fo, PySem.W.findIn K (.type "int") (PySem.dunder "mul") = some fo) ∧ (∃ fo, PySem.W.findIn K (.type "int") (dunderR "mul") = some fo) ∧
    (∃ fo, PySem.W.findIn K (.type "int") (PySem.dunder "sub") = some fo) ∧ (∃ fo, PySem.W.findIn K (.type "int") (dunderR "sub") = some fo) := by
  refine ⟨⟨some (.builtin "int.__add__"), ?_⟩, ⟨some (.builtin "int.__radd__"), ?_⟩, ⟨some (.builtin "int.__mul__"), ?_⟩, ⟨some (.builtin "int.__rmul__"), ?_⟩, ⟨some (.builtin "int.__sub__"), ?_⟩, ⟨some (.builtin "int.__rsub__"), ?_⟩⟩ <;> (show fastLookup _ _ = _; decide +kernel)
section
variable {P : Program} {w : World} {K : PySem.W.Frag} {mg : Str → Option Value} {base : Heap} {C : Addr}
theorem scNeg : FnScope ["self"] ["self"] (defScope sNeg) := ⟨rfl, rfl, rfl, by decide +kernel, rfl, by decide +kernel, by decide +kernel⟩
theorem ok_neg {f : Addr} {fd : FuncData} (F : Fun K "__neg__" "Ratio.__neg__" sNeg f fd) (D : Defs P w K mg base C) : FnOk P w K mg base CX0 4 f fd ["self"] (SpOne C neg) := by
  refine F.ok scNeg (fun vs H Q E h => ?_) (fun cdv A outer s H vs Q E hr h => ?_)
  · obtain ⟨a, p, rfl, _⟩ := h
    rfl
  · obtain ⟨a, p, rfl, ⟨dx, ha⟩, hp, k⟩ := h
    refine ⟨_, pss_one (ps_ret (pe_make D.M D.G0 hr rfl D.R.mg_ D.b0 .nil pass0 (pa_cons (pe_un un_neg (pe_fld (pv 0) rfl)) (pa_cons (pe_fld (pv 0) rfl) pa_nil)))), ?_⟩
    refine ⟨_, rfl, a, C, dx, _, _, rfl, ha, D.R.cl, D.R.nT, rf_top p, _, rfl, ?_⟩
    refine ⟨_, rfl, a, C, dx, _, _, rfl, ha, D.R.cl, D.R.nB, rf_bot p, ?_⟩
    exact fun x dx nx nd ne => made_ hp.red.ne (hp.sb.mono (by decide)) k x dx nx nd ne
theorem scUnsigned : FnScope ["self"] ["self"] (defScope sUnsigned) := ⟨rfl, rfl, rfl, by decide +kernel, rfl, by decide +kernel, by decide +kernel⟩
theorem ok_unsigned {f : Addr} {fd : FuncData} (F : Fun K "unsigned" "Ratio.unsigned" sUnsigned f fd) (D : Defs P w K mg base C) : FnOk P w K mg base CX0 4 f fd ["self"] (SpOne C fun p => low (if p.1 < 0 then -p.1 else p.1) p.2) := by
  refine F.ok scUnsigned (fun vs H Q E h => ?_) (fun cdv A outer s H vs Q E hr h => ?_)
  · obtain ⟨a, p, rfl, _⟩ := h
    rfl
  · obtain ⟨a, p, rfl, ⟨dx, ha⟩, hp, k⟩ := h
    refine ⟨_, pss_one (ps_ret (pe_make D.M D.G0 hr rfl D.R.mg_ D.b0 .nil pass0 (pa_cons (pe_callB call_abs (by rfl) D.B.abs (by decide +kernel) (pa_cons (pe_fld (pv 0) rfl) pa_nil)) (pa_cons (pe_fld (pv 0) rfl) pa_nil)))), ?_⟩
    refine ⟨_, rfl, a, C, dx, _, _, rfl, ha, D.R.cl, D.R.nT, rf_top p, _, rfl, ?_⟩
    refine ⟨_, rfl, a, C, dx, _, _, rfl, ha, D.R.cl, D.R.nB, rf_bot p, ?_⟩
    exact fun x dx nx nd ne => made_ hp.red.ne (hp.sb.mono (by decide)) k x dx nx nd ne
theorem scRadd : FnScope ["self", "other"] ["self", "other"] (defScope sRadd) := ⟨rfl, rfl, rfl, by decide +kernel, rfl, by decide +kernel, by decide +kernel⟩
theorem ok_radd {f g h : Addr} {fd fdA : FuncData} (F : Fun K "__radd__" "Ratio.__radd__" sRadd f fd) (GA : FnOk P w K mg base CX0 4 g fdA ["self", "other"] (SpTwo C add any_)) (bA : Binds K fdA ["self", "other"] []) (c : BinC K C g h "add") :
    FnOk P w K mg base CX0 5 f fd ["self", "other"] (SpTwo C add any_) := by
  refine F.ok scRadd (fun vs H Q E h => ?_) (fun cdv A outer s H vs Q E hr h => ?_)
  · obtain ⟨a, v, p, q, rfl, _⟩ := h
    rfl
  · obtain ⟨a, v, p, q, rfl, ha, hv, hp, hq, z, k⟩ := h
    refine ⟨_, pss_one (ps_ret (pe_op (op_insL (nm := "add") rfl c int_slots.1 int_slots.2.1 (raw0 GA bA) hr (E := E0) pass0) (pv 0) (pv 1))), ?_⟩
    obtain ⟨dx, e⟩ := id ha
    refine ⟨_, rfl, _, rfl, ⟨a, dx, _, rfl, e⟩, ?_, ⟨a, v, p, q, rfl, ha, hv, hp, hq, z, k⟩⟩
    exact hv.imp (fun ⟨b, e, dy, r⟩ => ⟨b, dy, _, e, r⟩) fun ⟨i, e, _⟩ => ⟨i, e⟩
theorem scRmul : FnScope ["self", "other"] ["self", "other"] (defScope sRmul) := ⟨rfl, rfl, rfl, by decide +kernel, rfl, by decide +kernel, by decide +kernel⟩
theorem ok_rmul {f g h : Addr} {fd fdA : FuncData} (F : Fun K "__rmul__" "Ratio.__rmul__" sRmul f fd) (GA : FnOk P w K mg base CX0 4 g fdA ["self", "other"] (SpTwo C mul any_)) (bA : Binds K fdA ["self", "other"] []) (c : BinC K C g h "mul") :
    FnOk P w K mg base CX0 5 f fd ["self", "other"] (SpTwo C mul any_) := by
  refine F.ok scRmul (fun vs H Q E h => ?_) (fun cdv A outer s H vs Q E hr h => ?_)
  · obtain ⟨a, v, p, q, rfl, _⟩ := h
    rfl
  · obtain ⟨a, v, p, q, rfl, ha, hv, hp, hq, z, k⟩ := h
    refine ⟨_, pss_one (ps_ret (pe_op (op_insL (nm := "mul") rfl c int_slots.2.2.1 int_slots.2.2.2.1 (raw0 GA bA) hr (E := E0) pass0) (pv 0) (pv 1))), ?_⟩
    obtain ⟨dx, e⟩ := id ha
    refine ⟨_, rfl, _, rfl, ⟨a, dx, _, rfl, e⟩, ?_, ⟨a, v, p, q, rfl, ha, hv, hp, hq, z, k⟩⟩
    exact hv.imp (fun ⟨b, e, dy, r⟩ => ⟨b, dy, _, e, r⟩) fun ⟨i, e, _⟩ => ⟨i, e⟩
theorem scRsub : FnScope ["self", "other"] ["self", "other"] (defScope sRsub) := ⟨rfl, rfl, rfl, by decide +kernel, rfl, by decide +kernel, by decide +kernel⟩
theorem ok_rsub {f g h gN : Addr} {fd fdA fdN : FuncData} (F : Fun K "__rsub__" "Ratio.__rsub__" sRsub f fd) (GA : FnOk P w K mg base CX0 4 g fdA ["self", "other"] (SpTwo C add any_)) (bA : Binds K fdA ["self", "other"] []) (c : BinC K C g h "add")
    (GN : FnOk P w K mg base CX0 4 gN fdN ["self"] (SpOne C neg)) (bN : Binds K fdN ["self"] []) (cN : OneC K C gN "__neg__") :
    FnOk P w K mg base CX0 5 f fd ["self", "other"] (SpTwo C (fun p q => add (neg p) q) any_) := by
  refine F.ok scRsub (fun vs H Q E h => ?_) (fun cdv A outer s H vs Q E hr h => ?_)
  · obtain ⟨a, v, p, q, rfl, _⟩ := h
    rfl
  · obtain ⟨a, v, p, q, rfl, ha, hv, hp, hq, z, k⟩ := h
    refine ⟨_, pss_one (ps_ret (pe_op (op_insL (nm := "add") rfl c int_slots.1 int_slots.2.1 (raw0 GA bA) hr (E := E0) pass0) (pe_un (un_insN cN (raw0 GN bN) hr (E := E0) pass0) (pv 0)) (pv 1))), ?_⟩
    obtain ⟨dx, e⟩ := id ha
    refine ⟨_, rfl, a, dx, _, rfl, e, ⟨a, p, rfl, ha, hp, fun H1 x s1 nx r1 => ?_⟩⟩
    have hv1 := hv.same s1
    obtain ⟨dy, e1⟩ := id r1
    refine ⟨_, rfl, ⟨x, dy, _, rfl, e1⟩, ?_, ⟨x, v, neg p, q, rfl, r1, hv1, hp.neg, hq, z, k.same s1⟩⟩
    exact hv1.imp (fun ⟨b, e, dy, r⟩ => ⟨b, dy, _, e, r⟩) fun ⟨i, e, _⟩ => ⟨i, e⟩

/-! ### == -/
structure SpEq (C : Addr) (vs : List V) (H : Hp) (Q : VK) (E : XK) : Prop where
  ex : ∃ (a : Addr) (v : V) (p : Fr), vs = [.ref a, v] ∧ RAt C H a p ∧ ((∃ b q, v = .ref b ∧ RAt C H b q ∧ Q (.bl (decide (p = q))) H) ∨ ∃ i, v = .int i ∧ Q (.bl false) H)
theorem scEq : FnScope ["self", "other"] ["self", "other"] (defScope sEq) := ⟨rfl, rfl, rfl, by decide +kernel, rfl, by decide +kernel, by decide +kernel⟩
theorem ok_eq {f : Addr} {fd : FuncData} (F : Fun K "__eq__" "Ratio.__eq__" sEq f fd) (B : Blt mg) (R : RCls K mg C) : FnOk P w K mg base CX0 1 f fd ["self", "other"] (SpEq C) := by
  refine F.ok scEq (fun vs H Q E h => ?_) (fun cdv A outer s H vs Q E hr h => ?_)
  · obtain ⟨a, v, p, rfl, _⟩ := h
    rfl
  · obtain ⟨a, v, p, rfl, ⟨dx, ha⟩, hv⟩ := h
    refine ⟨_, pss_one (ps_ret (pe_and (pe_callB call_isi (by rfl) B.isi PyProof.Rows.boot_isinstance (pa_cons (pv 1) (pa_cons (pe_glob (by rfl) R.mg_ (v := .ref C) rfl) pa_nil)))
      (pe_and (pe_cmpR op_eq (pe_fld (pv 0) rfl) (pe_fld (pv 1) rfl) (nomark _)) (pe_one (pe_cmpR op_eq (pe_fld (pv 0) rfl) (pe_fld (pv 1) rfl) (nomark _)))))), ?_⟩
    rcases hv with ⟨b, q, rfl, ⟨dy, hb⟩, k⟩ | ⟨i, rfl, k⟩
    · refine ⟨_, rfl, _, .ref C, _, _, true, rfl, .own C, RAt.is R ⟨dy, hb⟩, R.kC, true, rfl, iteT ?_⟩
      refine ⟨_, rfl, a, C, dx, _, _, rfl, ha, R.cl, R.nT, rf_top p, _, rfl, b, C, dy, _, _, rfl, hb, R.cl, R.nT, rf_top q, rfl, _, rfl, ?_⟩
      rw [dec_int]
      by_cases e1 : p.1 = q.1
      · rw [decide_eq_true e1]
        refine iteT ⟨_, rfl, a, C, dx, _, _, rfl, ha, R.cl, R.nB, rf_bot p, _, rfl, b, C, dy, _, _, rfl, hb, R.cl, R.nB, rf_bot q, rfl, ?_⟩
        rw [dec_int]
        have e : decide (p.2 = q.2) = decide (p = q) := by
          by_cases e2 : p.2 = q.2
          · rw [decide_eq_true e2, decide_eq_true (Prod.ext e1 e2)]
          · rw [decide_eq_false e2, decide_eq_false fun z => e2 (by rw [z])]
        rw [e]
        exact k
      · rw [decide_eq_false e1]
        rw [decide_eq_false (fun z => e1 (by rw [z]) : ¬ p = q)] at k
        exact iteF k
    · exact ⟨_, rfl, _, .ref C, _, _, false, rfl, .own C, .base (.int i), R.iC, false, rfl, iteF k⟩

/-! ### texts -/
abbrev num (i : Int) : Str := Str.ofString (toString i)
def shown (p : Fr) : Str := if p.2 = 1 then num p.1 else num p.1 ++ "/" ++ num p.2
def told (p : Fr) : Str := ("Ratio(" : Str) ++ num p.1 ++ ", " ++ num p.2 ++ ")"
structure SpText (C : Addr) (g : Fr → Str) (vs : List V) (H : Hp) (Q : VK) (E : XK) : Prop where
  ex : ∃ (a : Addr) (p : Fr), vs = [.ref a] ∧ RAt C H a p ∧ OkF 1000 p ∧ Q (.str (g p)) H
theorem num_len {i : Int} (h : Sz 1000 i) : (num i).length ≤ 1921 := PyProof.Rows.int_text_len_1921 (Nat.lt_of_lt_of_le (log_lt h (by decide)) (by decide))
theorem len_app (x y : Str) : (x ++ y).length = x.length + y.length := by
  show (x.cps ++ y.cps).size = _
  rw [Array.size_append]
  rfl
theorem line_ok {n : Nat} (h : n ≤ 10000) : n ≤ sizeLine := Nat.le_trans h (by decide)
theorem scStr : FnScope ["self"] ["self"] (defScope sStr) := ⟨rfl, rfl, rfl, by decide +kernel, rfl, by decide +kernel, by decide +kernel⟩
theorem scRepr : FnScope ["self"] ["self"] (defScope sRepr) := ⟨rfl, rfl, rfl, by decide +kernel, rfl, by decide +kernel, by decide +kernel⟩
theorem lg {i : Int} (h : Sz 1000 i) : i.natAbs.log2 < 1920 := Nat.lt_of_lt_of_le (log_lt h (by decide)) (by decide)
theorem ok_str {f : Addr} {fd : FuncData} (F : Fun K "__str__" "Ratio.__str__" sStr f fd) (B : Blt mg) (R : RCls K mg C) : FnOk P w K mg base CX0 1 f fd ["self"] (SpText C shown) := by
  refine F.ok scStr (fun vs H Q E h => ?_) (fun cdv A outer s H vs Q E hr h => ?_)
  · obtain ⟨a, p, rfl, _⟩ := h
    rfl
  · obtain ⟨a, p, rfl, ⟨dx, ha⟩, hp, k⟩ := h
    refine ⟨_, pss_cons (ps_if (pt_cmpR op_eq (pe_fld (pv 0) rfl) pe_int (nomark _)) (pss_one (ps_ret (pe_callTy call_str_int (by rfl) B.str PyProof.Rows.boot_str (pa_cons (pe_fld (pv 0) rfl) pa_nil)))) pss_nil)
      (pss_one (ps_ret (pe_joined (.cons (pe_fmt (pe_fld (pv 0) rfl)) (.cons pe_str (.cons (pe_fmt (pe_fld (pv 0) rfl)) .nil)))))), ?_⟩
    refine ⟨_, rfl, a, C, dx, _, _, rfl, ha, R.cl, R.nB, rf_bot p, rfl, _, rfl, ?_⟩
    rw [dec_int]
    unfold shown at k
    refine ite2 (fun e => ?_) (fun e => ?_)
    · rw [if_pos (of_decide_eq_true e)] at k
      exact ⟨_, rfl, a, C, dx, _, _, rfl, ha, R.cl, R.nT, rf_top p, _, rfl, lg hp.st, k⟩
    · rw [if_neg fun z => e (decide_eq_true z)] at k
      have l1 := num_len hp.st
      have l2 := num_len hp.sb
      refine ⟨_, rfl, a, C, dx, _, _, rfl, ha, R.cl, R.nT, rf_top p, .inr ⟨_, rfl, lg hp.st, num p.1, rfl, ?_, ?_⟩⟩
      · rw [Str.empty_append]
        exact line_ok (by omega)
      refine ⟨_, rfl, ?_, ?_⟩
      · rw [Str.empty_append, len_app]
        exact line_ok (by show _ + 1 ≤ _; omega)
      refine ⟨_, rfl, a, C, dx, _, _, rfl, ha, R.cl, R.nB, rf_bot p, .inr ⟨_, rfl, lg hp.sb, num p.2, rfl, ?_, ?_⟩⟩
      · rw [Str.empty_append, len_app, len_app]
        exact line_ok (by show _ + 1 + _ ≤ _; omega)
      · show Q (.str (Str.empty ++ num p.1 ++ "/" ++ num p.2)) H
        rw [Str.empty_append]
        exact k
theorem ok_repr {f : Addr} {fd : FuncData} (F : Fun K "__repr__" "Ratio.__repr__" sRepr f fd) (R : RCls K mg C) : FnOk P w K mg base CX0 1 f fd ["self"] (SpText C told) := by
  refine F.ok scRepr (fun vs H Q E h => ?_) (fun cdv A outer s H vs Q E hr h => ?_)
  · obtain ⟨a, p, rfl, _⟩ := h
    rfl
  · obtain ⟨a, p, rfl, ⟨dx, ha⟩, hp, k⟩ := h
    have l1 := num_len hp.st
    have l2 := num_len hp.sb
    refine ⟨_, pss_one (ps_ret (pe_joined (.cons pe_str (.cons (pe_fmt (pe_fld (pv 0) rfl)) (.cons pe_str (.cons (pe_fmt (pe_fld (pv 0) rfl)) (.cons pe_str .nil))))))), ?_⟩
    refine ⟨_, rfl, ?_, ?_⟩
    · rw [Str.empty_append]
      exact line_ok (by decide)
    refine ⟨_, rfl, a, C, dx, _, _, rfl, ha, R.cl, R.nT, rf_top p, .inr ⟨_, rfl, lg hp.st, num p.1, rfl, ?_, ?_⟩⟩
    · rw [Str.empty_append, len_app]
      exact line_ok (by show 6 + _ ≤ _; omega)
    refine ⟨_, rfl, ?_, ?_⟩
    · rw [Str.empty_append, len_app, len_app]
      exact line_ok (by show 6 + _ + 2 ≤ _; omega)
    refine ⟨_, rfl, a, C, dx, _, _, rfl, ha, R.cl, R.nB, rf_bot p, .inr ⟨_, rfl, lg hp.sb, num p.2, rfl, ?_, ?_⟩⟩
    · rw [Str.empty_append, len_app, len_app, len_app]
      exact line_ok (by show 6 + _ + 2 + _ ≤ _; omega)
    refine ⟨_, rfl, ?_, ?_⟩
    · rw [Str.empty_append, len_app, len_app, len_app, len_app]
      exact line_ok (by show 6 + _ + 2 + _ + 1 ≤ _; omega)
    · show Q (.str (Str.empty ++ "Ratio(" ++ num p.1 ++ ", " ++ num p.2 ++ ")")) H
      rw [Str.empty_append]
      exact k

/-! ### which values are numbers, counts -/
structure SpIsNumber (K : PySem.W.Frag) (C : Addr) (vs : List V) (H : Hp) (Q : VK) (E : XK) : Prop where
  ex : ∃ (v : V) (t : Value) (bc bi bb : Bool), vs = [v] ∧ TyX K H v t ∧ PySem.W.kitOne K t (.ref C) = some bc ∧ PySem.W.kitOne K t (.type "int") = some bi ∧ PySem.W.kitOne K t (.type "bool") = some bb ∧ Q (.bl (bc || (bi && !bb))) H
theorem scIsNumber : FnScope ["value"] ["value"] (defScope sIsNumber) := ⟨rfl, rfl, rfl, by decide +kernel, rfl, by decide +kernel, by decide +kernel⟩
theorem ok_isNumber {f : Addr} {fd : FuncData} (F : Fun K "is_number" "is_number" sIsNumber f fd) (D : Defs P w K mg base C) : FnOk P w K mg base CX0 2 f fd ["value"] (SpIsNumber K C) := by
  refine F.ok scIsNumber (fun vs H Q E h => ?_) (fun cdv A outer s H vs Q E hr h => ?_)
  · obtain ⟨v, t, bc, bi, bb, rfl, _⟩ := h
    rfl
  · obtain ⟨v, t, bc, bi, bb, rfl, ty, h0, h1, h2, k⟩ := h
    refine ⟨_, pss_one (ps_ret (pe_or (pe_callB call_isi (by rfl) D.B.isi PyProof.Rows.boot_isinstance (pa_cons (pv 0) (pa_cons (pe_glob (by rfl) D.R.mg_ (v := .ref C) rfl) pa_nil)))
      (pe_one (pe_call D.GI hr (by rfl) D.mI D.kI D.bI .nil pass0 (pa_cons (pv 0) pa_nil))))), ?_⟩
    refine ⟨v, rfl, v, .ref C, t, _, bc, rfl, .own C, ty, h0, bc, rfl, ite2 (fun e => ?_) (fun e => ?_)⟩
    · rw [e] at k
      exact k
    · rw [Bool.eq_false_iff.mpr e] at k
      exact ⟨v, rfl, ⟨v, t, bi, bb, rfl, ty, h1, h2, k⟩⟩
/-- an int of at least 0 -/
structure SpIsCount (K : PySem.W.Frag) (vs : List V) (H : Hp) (Q : VK) (E : XK) : Prop where
  ex : ∃ (v : V) (t : Value) (bi bb : Bool), vs = [v] ∧ TyX K H v t ∧ PySem.W.kitOne K t (.type "int") = some bi ∧ PySem.W.kitOne K t (.type "bool") = some bb ∧
    if (bi && !bb) = true then ∃ i, v = .int i ∧ Q (.bl (decide (0 ≤ i))) H else Q (.bl false) H
theorem scIsCount : FnScope ["value"] ["value"] (defScope sIsCount) := ⟨rfl, rfl, rfl, by decide +kernel, rfl, by decide +kernel, by decide +kernel⟩
theorem ok_isCount {f : Addr} {fd : FuncData} (F : Fun K "is_count" "is_count" sIsCount f fd) (D : Defs P w K mg base C) : FnOk P w K mg base CX0 2 f fd ["value"] (SpIsCount K) := by
  refine F.ok scIsCount (fun vs H Q E h => ?_) (fun cdv A outer s H vs Q E hr h => ?_)
  · obtain ⟨v, t, bi, bb, rfl, _⟩ := h
    rfl
  · obtain ⟨v, t, bi, bb, rfl, ty, h1, h2, k⟩ := h
    refine ⟨_, pss_one (ps_ret (pe_and (pe_call D.GI hr (by rfl) D.mI D.kI D.bI .nil pass0 (pa_cons (pv 0) pa_nil)) (pe_one (pe_cmpR op_ge (pv 0) pe_int (nomark _))))), ?_⟩
    refine ⟨v, rfl, ⟨v, t, bi, bb, rfl, ty, h1, h2, _, rfl, ite2 (fun e => ?_) (fun e => ?_)⟩⟩
    · rw [if_pos e] at k
      obtain ⟨i, rfl, k⟩ := k
      exact ⟨_, rfl, _, _, rfl, rfl, k⟩
    · rw [if_neg e] at k
      exact k
end
end RQ

set_option Elab.async false
set_option linter.all false
set_option maxRecDepth 100000
set_option maxHeartbeats 4000000
/-! Calls with keywords alone, a class held by a name; the total. -/
namespace RQ
open PySem L2 ClX
/-! ### o.m(k = v, ..) -/
def tMethK (C : Addr) (m : Str) (n : Nat) (sp : Sp) (gV : List V → List V → List V) (E : XK) (ta : TE) (tk : TA) : TE := fun σ H Q => ta σ H fun x H1 => ∃ a dx fs, x = .ref a ∧ H1 a = some (.ins C dx fs) ∧ fs.lookup m = none ∧ tk σ H1 fun zs H2 => zs.length = n ∧ sp (gV [.ref a] zs) H2 Q E
/-- C.m(k = v, ..), m a classmethod -/
def tCMethK (C : Addr) (n : Nat) (sp : Sp) (gV : List V → List V → List V) (E : XK) (ta : TE) (tk : TA) : TE := fun σ H Q => ta σ H fun x H1 => x = .ref C ∧ tk σ H1 fun zs H2 => zs.length = n ∧ sp (gV [.ref C] zs) H2 Q E
/-- c(e, ..), c the name in slot i, which holds the class -/
def tMakeV (i : Nat) (C : Addr) (sp : Sp) (E : XK) (t : TA) : TE := fun σ H Q => σ[i]? = some (some (.ref C)) ∧ tMake C sp [] E t σ H Q
section
variable {X : Cx} {CX : CXT} {k n : Nat} {f C p g : Addr} {mc : Value} {fd : FuncData} {ps ks : List Str} {sp : Sp} {E : XK} {x m : Str} {np pos apos : Pos} {e o : Expr} {es : List Expr} {kws : List Keyword} {ta : TE} {t tk : TA} {h : List Value → List Value → List Value} {gV : List V → List V → List V}
theorem pe_methK0 {pl : Sem Bool} (he : PE X o ta) (c : Cls X.K C) (hm : Meth X.K C m f) (F : FnOk X.prog X.w X.K X.mg X.base CX k f fd ps sp) (hr : Room k X.A) (hb : KBn X.K fd ps 1 ks h gV) (hx : Passes CX X E) (hkw : PK X kws tk)
    (hall : (backToKw pos (keywordEach kws X.env)).all (·.1.isSome) = true := by rfl) (hks : (backToKw pos (keywordEach kws X.env)).filterMap (·.1) = ks := by rfl)
    (hpl : ((backTo pos (starEach [] X.env)).any (·.1) || (backToKw pos (keywordEach kws X.env)).any (·.1.isNone)) = false := by rfl)
    (ht : eval (.Call (.Attribute o m apos) [] kws pos) X.env = (do
      let ov ← eval o X.env
      standAt apos.atName
      let (f, first) ← holding [ov] (getMethod ov m pl)
      callWith pos f first (backTo pos (starEach [] X.env)) (backToKw pos (keywordEach kws X.env))) := by rfl) :
    PE X (.Call (.Attribute o m apos) [] kws pos) (tMethK C m ks.length sp gV E ta tk) := by
  constructor
  intro pins s σ H Q I hq
  refine PySem.W.methodCall_KW (pl := pl) (thn (he.run pins s σ H _ I hq) fun u s1 hu => ?_) ht
  obtain ⟨y, H1, I1, ry, a, dx, fs, rfl, ea, l, q⟩ := hu
  obtain rfl : u = Value.ref a := ry
  refine getmeth_ok I1 ea c hm l (PySem.W.callWith_KW0 (first := [.ref a]) (h₀ := X.base) I.ok.mod.kin hm.kp hall ?_ hpl)
  refine thn (hkw.run pos pins s1 σ H1 _ I1 q) fun ws s2 hw => ?_
  obtain ⟨zs, H2, I2, rz, l2, q2⟩ := hw
  refine ⟨I2.kIn, ?_⟩
  rw [hks]
  exact run_fnN (us := [.ref a]) (vs := [.ref a]) F hr hb hx I2 (.cons rfl .nil) rz rfl l2 q2
theorem pe_cmethK0 {pl : Sem Bool} (he : PE X o ta) (r : CRead X.K C mc) (c : CMet X.K C mc m p g) (F : FnOk X.prog X.w X.K X.mg X.base CX k g fd ps sp) (hr : Room k X.A) (hb : KBn X.K fd ps 1 ks h gV) (hx : Passes CX X E) (hkw : PK X kws tk)
    (hall : (backToKw pos (keywordEach kws X.env)).all (·.1.isSome) = true := by rfl) (hks : (backToKw pos (keywordEach kws X.env)).filterMap (·.1) = ks := by rfl)
    (hpl : ((backTo pos (starEach [] X.env)).any (·.1) || (backToKw pos (keywordEach kws X.env)).any (·.1.isNone)) = false := by rfl)
    (ht : eval (.Call (.Attribute o m apos) [] kws pos) X.env = (do
      let ov ← eval o X.env
      standAt apos.atName
      let (f, first) ← holding [ov] (getMethod ov m pl)
      callWith pos f first (backTo pos (starEach [] X.env)) (backToKw pos (keywordEach kws X.env))) := by rfl) :
    PE X (.Call (.Attribute o m apos) [] kws pos) (tCMethK C ks.length sp gV E ta tk) := by
  constructor
  intro pins s σ H Q I hq
  refine PySem.W.methodCall_KW (pl := pl) (thn (he.run pins s σ H _ I hq) fun u s1 hu => ?_) ht
  obtain ⟨y, H1, I1, ry, rfl, q⟩ := hu
  obtain rfl : u = Value.ref C := ry
  refine getmethcm_ok I1 r c fun s2 I2 => ?_
  refine PySem.W.callWith_of (first := []) hpl (PySem.W.keeps_M (K := X.K) (q := s1.heap.objs.size) (self := .ref C) c.fi) (PyProof.Rows.evalArgs_kw2_nil hall ?_)
  refine thn (hkw.run pos _ s2 σ H1 _ I2 q) fun ws s3 hw => ?_
  obtain ⟨zs, H2, I3, rz, l2, q2⟩ := hw
  refine ⟨⟨pin_at I3, I3.kIn⟩, ?_⟩
  rw [hks]
  have r2 : Vals (gV [.ref C] zs) (h [.ref C] ws) := hb.rel (.cons rfl .nil) rz
  have run : wpAny (model X.prog X.w) X.A (call (.ref s1.heap.objs.size) [] (ks.zip ws)) (EP X ((s1.heap.objs.size, PySem.W.methodObj (.ref g) (.ref C)) :: pins) σ Q) X.xe s3 := by
    refine wpAny_call (PySem.W.method_call (pin_at I3) (codeAny_mono (F.run X.A X.stack s3 H2 ⟨[.ref C], ks.zip ws⟩ (h [.ref C] ws) (gV [.ref C] zs) Q E hr I3.env0 (hb.to s3 [.ref C] ws I3.kIn rfl (rz.length.symm.trans l2)) r2 q2) fun r s' z => ?_))
    cases r with
    | error e => exact hx _ σ H2 s3 e s' I3 z
    | ok fl =>
      cases fl with
      | ret u => exact I3.after z
      | next => exact False.elim z
      | brk => exact False.elim z
      | cont => exact False.elim z
  exact wpAny_mono run (fun _ _ y => unpinE y) fun _ _ y => y
theorem pe_makeV {i : Nat} (hi : X.N[i]? = some x) (hv : Vis X.env.scope x) (M : Mk X.K C f) (F : FnOk X.prog X.w X.K X.mg X.base CX k f fd ps sp) (hr : Room (k + 1) X.A) (hb : Binds X.K fd ps []) (hx : Passes CX X E) (ha : PA X (e :: es) t)
    (hdb : (x == ("__debug__" : Str)) = false := by decide) (hcd : (x == ("__classdict__" : Str)) = false := by decide) (he : starEach (e :: es) X.env = (false, eval e X.env) :: starEach es X.env := by rfl) (hpl : (backTo pos (starEach es X.env)).any (·.1) = false := by rfl) :
    PE X (.Call (.Name x np) (e :: es) [] pos) (tMakeV i C sp E t) := by
  constructor
  intro pins s σ H Q I hq
  obtain ⟨hs, q⟩ := hq
  refine wpAny_Call_Name_kw (thn ((pe_var (pos := np) hi hv hdb hcd).run pins s σ H (fun v H' => v = .ref C ∧ H' = H) I ⟨_, hs, rfl, rfl⟩) fun u s1 hu => ?_)
  obtain ⟨y, H1, I1, ry, rfl, rfl⟩ := hu
  obtain rfl : u = Value.ref C := ry
  refine PySem.W.callWith_K (h₀ := X.base) I.ok.mod.kin M.kp (thn (ha.run pos pins s1 σ H1 _ I1 q) fun us s2 hu => ?_) he hpl
  obtain ⟨vs, H2, I2, r, q2⟩ := hu
  exact ⟨I2.kIn, run_make M F hr hb .nil hx I2 r q2⟩
end
end RQ

set_option Elab.async false
set_option linter.all false
set_option maxRecDepth 100000
set_option maxHeartbeats 4000000
/-! The total of many numbers. -/
namespace RQ
open PySem L2 ClX
def sumF (fs : List Fr) : Fr := fs.foldl add (0, 1)
theorem sumF_take {fs : List Fr} {i : Nat} {q : Fr} (h : fs[i]? = some q) : sumF (fs.take (i + 1)) = add (sumF (fs.take i)) q := by
  unfold sumF
  rw [List.take_succ, h]
  simp
theorem sumF_red : ∀ {fs : List Fr}, (∀ q ∈ fs, Red q) → Red (sumF fs) := by
  intro fs h
  have go : ∀ (fs : List Fr) (p : Fr), Red p → (∀ q ∈ fs, Red q) → Red (fs.foldl add p) := by
    intro fs
    induction fs with
    | nil => exact fun p hp _ => hp
    | cons q fs ih => exact fun p hp hq => ih _ (add_red hp (hq q (List.mem_cons_self ..))) fun r hr => hq r (List.mem_cons_of_mem _ hr)
  exact go fs _ (red_one 0) h
/-- the two totals behind i numbers -/
structure Tot (fs : List Fr) (i : Nat) (tt tb : Int) : Prop where
  pos : 0 < tb
  st : Sz (270 * i + 1) tt
  sb : Sz (270 * i + 1) tb
  eq : tt * (sumF (fs.take i)).2 = (sumF (fs.take i)).1 * tb
theorem Tot.step {fs : List Fr} {i : Nat} {tt tb : Int} {q : Fr} (h : Tot fs i tt tb) (hq : ∀ q ∈ fs, OkF 260 q) (hi : fs[i]? = some q) (c : Int) (hc : c = ((Nat.lcm tb.natAbs q.2.natAbs : Nat) : Int)) :
    Tot fs (i + 1) (tt * (c / tb) + q.1 * (c / q.2)) c ∧ Sz (270 * i + 1 + 260) (c / tb) ∧ Sz (270 * i + 1) (c / q.2) := by
  have oq := hq q (List.mem_of_getElem? hi)
  have hb := oq.red.1
  have htb := h.pos
  have n1 : 0 < tb.natAbs := by omega
  have n2 : 0 < q.2.natAbs := by omega
  have d1 : tb ∣ c := by rw [hc]; exact Int.natAbs_dvd_natAbs.mp (by rw [Int.natAbs_natCast]; exact Nat.dvd_lcm_left _ _)
  have d2 : q.2 ∣ c := by rw [hc]; exact Int.natAbs_dvd_natAbs.mp (by rw [Int.natAbs_natCast]; exact Nat.dvd_lcm_right _ _)
  have lp : 0 < Nat.lcm tb.natAbs q.2.natAbs := Nat.lcm_pos n1 n2
  have hc0 : 0 < c := by omega
  have le : Nat.lcm tb.natAbs q.2.natAbs ≤ tb.natAbs * q.2.natAbs := Nat.div_le_self _ _
  have cabs : c.natAbs = Nat.lcm tb.natAbs q.2.natAbs := by rw [hc, Int.natAbs_natCast]
  have sc : Sz (270 * i + 1 + 260) c := by
    unfold Sz
    rw [cabs, Nat.pow_add]
    exact Nat.lt_of_le_of_lt le (Nat.mul_lt_mul'' h.sb oq.sb)
  obtain ⟨x, hx⟩ := d1
  obtain ⟨y, hy⟩ := d2
  have ex : c / tb = x := by rw [hx]; exact Int.mul_ediv_cancel_left _ (by omega)
  have ey : c / q.2 = y := by rw [hy]; exact Int.mul_ediv_cancel_left _ (by omega)
  have ax : c.natAbs = tb.natAbs * x.natAbs := by rw [hx, Int.natAbs_mul]
  have ay : c.natAbs = q.2.natAbs * y.natAbs := by rw [hy, Int.natAbs_mul]
  have bx : x.natAbs ≤ q.2.natAbs := by
    have : tb.natAbs * x.natAbs ≤ tb.natAbs * q.2.natAbs := by rw [← ax, cabs]; exact le
    exact Nat.le_of_mul_le_mul_left this n1
  have by_ : y.natAbs ≤ tb.natAbs := by
    have : q.2.natAbs * y.natAbs ≤ q.2.natAbs * tb.natAbs := by rw [← ay, cabs, Nat.mul_comm q.2.natAbs]; exact le
    exact Nat.le_of_mul_le_mul_left this n2
  have sx : Sz 260 (c / tb) := by rw [ex]; exact oq.sb.le bx
  have sy : Sz (270 * i + 1) (c / q.2) := by rw [ey]; exact h.sb.le by_
  have rF : Red (sumF (fs.take i)) := sumF_red fun r hr => (hq r (List.mem_of_mem_take hr)).red
  refine ⟨⟨hc0, ?_, sc.mono (by omega), ?_⟩, sx.mono (by omega), sy⟩
  · have s1 : Sz (270 * i + 1 + 260) (tt * (c / tb)) := h.st.mul sx
    have s2 : Sz (260 + (270 * i + 1)) (q.1 * (c / q.2)) := oq.st.mul sy
    exact (s1.add (s2.mono (by omega))).mono (by omega)
  · rw [sumF_take hi]
    exact total_step rF htb hb hc0 ⟨x, hx⟩ ⟨y, hy⟩ h.eq

section
variable {P : Program} {w : World} {K : PySem.W.Frag} {mg : Str → Option Value} {base : Heap} {C : Addr}
structure SpTotal (K : PySem.W.Frag) (C : Addr) (vs : List V) (H : Hp) (Q : VK) (E : XK) : Prop where
  ex : ∃ (l : Addr) (xs : List V) (fs : List Fr), vs = [.ref C, .ref l] ∧ (H l = some (.lst xs) ∨ H l = some (.tup xs)) ∧ Paired (Num C H) xs fs ∧ (∀ q ∈ fs, OkF 260 q) ∧ fs.length ≤ 12 ∧ New C H (sumF fs) Q
abbrev nTotal : List Str := ["cls", "numbers", "total_top", "total_bottom", "number", "top", "bottom", "common"]
theorem scTotal : FnScope nTotal ["cls", "numbers"] (defScope sTotal) := ⟨rfl, rfl, rfl, by decide +kernel, rfl, by decide +kernel, by decide +kernel⟩
theorem paired_get {α β : Type} {R : α → β → Prop} : ∀ {xs : List α} {ys : List β} {i : Nat} {x : α}, Paired R xs ys → xs[i]? = some x → ∃ y, ys[i]? = some y ∧ R x y
  | _, _, _, _, .nil, e => by simp at e
  | _, _, 0, _, .cons r _, e => by simp at e; subst e; exact ⟨_, rfl, r⟩
  | _, _, i + 1, x, .cons _ t, e => by
    obtain ⟨y, h1, h2⟩ := paired_get (i := i) (x := x) t (by simpa using e)
    exact ⟨y, by simpa using h1, h2⟩
/-- the loop's word -/
def PvT (C l : Addr) (H0 : Hp) (fs : List Fr) (i : Nat) (σ : L2.St) (H : Hp) : Prop :=
  ∃ (tt tb : Int) (a b c d : Option V), σ = [some (.ref C), some (.ref l), some (.int tt), some (.int tb), a, b, c, d] ∧ Same H0 H ∧ Tot fs i tt tb
theorem ok_total {f : Addr} {fd : FuncData} (F : Fun K "total" "Ratio.total" sTotal f fd) (D : DefsP P w K mg base C) : FnOk P w K mg base CX0 4 f fd ["cls", "numbers"] (SpTotal K C) := by
  refine F.ok scTotal (fun vs H Q E h => ?_) (fun cdv A outer s H vs Q E hr h => ?_)
  · obtain ⟨l, xs, fs, rfl, _⟩ := h
    rfl
  · obtain ⟨l, xs, fs, rfl, hl, hp, hq, h12, k⟩ := h
    have hlen : xs.length = fs.length := Paired.length hp
    have t0 : Tot fs 0 0 1 := ⟨by decide, by unfold Sz; decide, by unfold Sz; decide, by show (0 : Int) * _ = 0 * 1; omega⟩
    rcases hl with hl | hl
    · have isq : SqL K H l xs := SqL.of hl
      refine ⟨_, PSs.nox (pss_cons (ps_if (pt_not (pt_val (pe_callB call_isiT (by rfl) D.B.isi PyProof.Rows.boot_isinstance (pa_cons (pv 1) (pa_cons (pe_tup (pa_cons (pe_bltn (by rfl) D.B.list PyProof.Rows.boot_list (v := .ty "list") rfl) (pa_cons (pe_bltn (by rfl) D.B.tuple PyProof.Rows.boot_tuple (v := .ty "tuple") rfl) pa_nil))) pa_nil))))) (pss_one ps_never) pss_nil)
        (pss_cons (ps_asg (pe_tup (pa_cons pe_int (pa_cons pe_int pa_nil))) (pg_tup rfl (pgs_cons (pg_name (i := 2) scTotal.nd rfl (Or.inl rfl)) (pgs_cons (pg_name (i := 3) scTotal.nd rfl (Or.inl rfl)) pgs_nil))))
        (pss_cons (ps_for PassesOwn.never rfl (pi_list (pv 1)) (pg_name (i := 4) scTotal.nd rfl (Or.inl rfl))
          (pss_cons (ps_asg (pe_call D.GP hr (by rfl) D.mP D.kP D.bP .nil pass0 (pa_cons (pv 4) pa_nil)) (pg_tup rfl (pgs_cons (pg_name (i := 5) scTotal.nd rfl (Or.inl rfl)) (pgs_cons (pg_name (i := 6) scTotal.nd rfl (Or.inl rfl)) pgs_nil))))
          (pss_cons (ps_set (i := 7) scTotal.nd rfl (Or.inl rfl) (pe_callBfun cr_lcm (by rfl) D.B.lcm (pa_cons (pv 3) (pa_cons (pv 6) pa_nil))))
          (pss_cons (ps_set (i := 2) scTotal.nd rfl (Or.inl rfl) (pe_op op_add (pe_op op_mulW (pv 2) (pe_op op_fdivW (pv 7) (pv 3))) (pe_op op_mulW (pv 5) (pe_op op_fdivW (pv 7) (pv 6)))))
          (pss_one (ps_set (i := 3) scTotal.nd rfl (Or.inl rfl) (pv 7)))))))
        (pss_one (ps_ret (pe_makeV (i := 0) rfl (Or.inl rfl) D.M D.G0 hr D.b0 pass0 (pa_cons (pv 2) (pa_cons (pv 3) pa_nil)))))))), ?_⟩
      refine ⟨_, rfl, by decide, fun tp ntp => ?_⟩
      have s1 := same_new (o := .tup [.ty "list", .ty "tuple"]) ntp
      refine ⟨_, tp, _, _, _, true, rfl, upd_same, .cons (.ty "list") (.cons (.ty "tuple") .nil), .base (.lst (s1 _ _ hl)), kitAny_cons (b := true) (kit_ty (by decide +kernel)) (fun z => nomatch z) (fun _ => rfl), true, rfl, iteF ?_⟩
      refine ⟨two_line, fun t2 nt2 => ⟨t2, _, rfl, SqT.of upd_same, rfl, _, _, rfl, _, _, rfl, rfl, ?_⟩⟩
      have s3 := s1.trans (same_new (o := .tup [.int 0, .int 1]) nt2)
      refine ⟨_, rfl, l, rfl, ⟨xs, s3.seq isq⟩, for_list (K := K) (a := l) (xs := xs) (PvT C l H fs) ⟨0, 1, none, none, none, none, rfl, s3, t0⟩ (fun i σ H' _ ⟨_, _, _, _, _, _, _, s2, _⟩ => s2.seq isq) ?_ ?_⟩
      · intro i x σ H' hx pv
        obtain ⟨q, e2, nq⟩ := paired_get hp hx
        obtain ⟨tt, tb, a, b, c, d, rfl, s2, tot⟩ := pv
        obtain ⟨tot', zx, zy⟩ := tot.step hq e2 _ rfl
        have oq := hq q (List.mem_of_getElem? e2)
        have hi : i < fs.length := (List.getElem?_eq_some_iff.mp e2).1
        have tot6 : Sz 4000 tb := tot.sb.mono (by omega)
        refine ⟨_, rfl, ⟨x, q, rfl, nq.same s2, fun t ht => ?_⟩⟩
        refine ⟨t, _, rfl, SqT.of upd_same, rfl, _, _, rfl, _, _, rfl, rfl, ?_⟩
        refine ⟨_, rfl, _, rfl, tb, q.2, rfl, tot6.mono (by decide), oq.sb.mono (by decide), ?_⟩
        refine ⟨_, rfl, _, rfl, _, rfl, _, _, rfl, rfl, wide_div tot.pos tot6 (by decide) (by decide), ?_⟩
        refine ⟨_, _, rfl, rfl, mulW_ok (tot.st.mono (show 270 * i + 1 ≤ 4000 by omega)) (zx.mono (show 270 * i + 1 + 260 ≤ 5000 by omega)) (by decide) (by decide) (by decide), ?_⟩
        refine ⟨_, rfl, _, rfl, _, rfl, _, _, rfl, rfl, wide_div oq.red.1 oq.sb (by decide) (by decide), ?_⟩
        refine ⟨_, _, rfl, rfl, mulW_ok oq.st (zy.mono (show 270 * i + 1 ≤ 4000 by omega)) (by decide) (by decide) (by decide), ?_⟩
        refine ⟨_, _, rfl, rfl, _, rfl, ?_⟩
        exact ⟨_, _, _, _, _, _, rfl, s2.trans (same_new ht), tot'⟩
      · intro σ H' pv
        obtain ⟨tt, tb, a, b, c, d, rfl, s2, tot⟩ := pv
        rw [hlen] at tot
        have e1 := tot.eq
        rw [List.take_length] at e1
        have rF : Red (sumF fs) := sumF_red fun q h => (hq q h).red
        refine ⟨rfl, _, rfl, _, rfl, fun y dx nx nd ne => made_ (by have := tot.pos; omega) (tot.sb.mono (by omega)) ?_ y dx nx nd ne⟩
        rw [low_of_worth (by have := tot.pos; omega) rF e1]
        exact k.same s2
    · have isq : SqT K H l xs := SqT.of hl
      refine ⟨_, PSs.nox (pss_cons (ps_if (pt_not (pt_val (pe_callB call_isiT (by rfl) D.B.isi PyProof.Rows.boot_isinstance (pa_cons (pv 1) (pa_cons (pe_tup (pa_cons (pe_bltn (by rfl) D.B.list PyProof.Rows.boot_list (v := .ty "list") rfl) (pa_cons (pe_bltn (by rfl) D.B.tuple PyProof.Rows.boot_tuple (v := .ty "tuple") rfl) pa_nil))) pa_nil))))) (pss_one ps_never) pss_nil)
        (pss_cons (ps_asg (pe_tup (pa_cons pe_int (pa_cons pe_int pa_nil))) (pg_tup rfl (pgs_cons (pg_name (i := 2) scTotal.nd rfl (Or.inl rfl)) (pgs_cons (pg_name (i := 3) scTotal.nd rfl (Or.inl rfl)) pgs_nil))))
        (pss_cons (ps_for PassesOwn.never rfl (pi_tup (pv 1)) (pg_name (i := 4) scTotal.nd rfl (Or.inl rfl))
          (pss_cons (ps_asg (pe_call D.GP hr (by rfl) D.mP D.kP D.bP .nil pass0 (pa_cons (pv 4) pa_nil)) (pg_tup rfl (pgs_cons (pg_name (i := 5) scTotal.nd rfl (Or.inl rfl)) (pgs_cons (pg_name (i := 6) scTotal.nd rfl (Or.inl rfl)) pgs_nil))))
          (pss_cons (ps_set (i := 7) scTotal.nd rfl (Or.inl rfl) (pe_callBfun cr_lcm (by rfl) D.B.lcm (pa_cons (pv 3) (pa_cons (pv 6) pa_nil))))
          (pss_cons (ps_set (i := 2) scTotal.nd rfl (Or.inl rfl) (pe_op op_add (pe_op op_mulW (pv 2) (pe_op op_fdivW (pv 7) (pv 3))) (pe_op op_mulW (pv 5) (pe_op op_fdivW (pv 7) (pv 6)))))
          (pss_one (ps_set (i := 3) scTotal.nd rfl (Or.inl rfl) (pv 7)))))))
        (pss_one (ps_ret (pe_makeV (i := 0) rfl (Or.inl rfl) D.M D.G0 hr D.b0 pass0 (pa_cons (pv 2) (pa_cons (pv 3) pa_nil)))))))), ?_⟩
      refine ⟨_, rfl, by decide, fun tp ntp => ?_⟩
      have s1 := same_new (o := .tup [.ty "list", .ty "tuple"]) ntp
      refine ⟨_, tp, _, _, _, true, rfl, upd_same, .cons (.ty "list") (.cons (.ty "tuple") .nil), .base (.tup (s1 _ _ hl)), kitAny_cons (b := false) (kit_ty (by decide +kernel)) (fun _ => kitAny_cons (b := true) (kit_ty (by decide +kernel)) (fun z => nomatch z) (fun _ => rfl)) (fun z => nomatch z), true, rfl, iteF ?_⟩
      refine ⟨two_line, fun t2 nt2 => ⟨t2, _, rfl, SqT.of upd_same, rfl, _, _, rfl, _, _, rfl, rfl, ?_⟩⟩
      have s3 := s1.trans (same_new (o := .tup [.int 0, .int 1]) nt2)
      refine ⟨_, rfl, l, rfl, ⟨xs, isq.ext s3⟩, for_tup (K := K) (a := l) (xs := xs) (PvT C l H fs) ⟨0, 1, none, none, none, none, rfl, s3, t0⟩ (fun i σ H' _ ⟨_, _, _, _, _, _, _, s2, _⟩ => isq.ext s2) ?_ ?_⟩
      · intro i x σ H' hx pv
        obtain ⟨q, e2, nq⟩ := paired_get hp hx
        obtain ⟨tt, tb, a, b, c, d, rfl, s2, tot⟩ := pv
        obtain ⟨tot', zx, zy⟩ := tot.step hq e2 _ rfl
        have oq := hq q (List.mem_of_getElem? e2)
        have hi : i < fs.length := (List.getElem?_eq_some_iff.mp e2).1
        have tot6 : Sz 4000 tb := tot.sb.mono (by omega)
        refine ⟨_, rfl, ⟨x, q, rfl, nq.same s2, fun t ht => ?_⟩⟩
        refine ⟨t, _, rfl, SqT.of upd_same, rfl, _, _, rfl, _, _, rfl, rfl, ?_⟩
        refine ⟨_, rfl, _, rfl, tb, q.2, rfl, tot6.mono (by decide), oq.sb.mono (by decide), ?_⟩
        refine ⟨_, rfl, _, rfl, _, rfl, _, _, rfl, rfl, wide_div tot.pos tot6 (by decide) (by decide), ?_⟩
        refine ⟨_, _, rfl, rfl, mulW_ok (tot.st.mono (show 270 * i + 1 ≤ 4000 by omega)) (zx.mono (show 270 * i + 1 + 260 ≤ 5000 by omega)) (by decide) (by decide) (by decide), ?_⟩
        refine ⟨_, rfl, _, rfl, _, rfl, _, _, rfl, rfl, wide_div oq.red.1 oq.sb (by decide) (by decide), ?_⟩
        refine ⟨_, _, rfl, rfl, mulW_ok oq.st (zy.mono (show 270 * i + 1 ≤ 4000 by omega)) (by decide) (by decide) (by decide), ?_⟩
        refine ⟨_, _, rfl, rfl, _, rfl, ?_⟩
        exact ⟨_, _, _, _, _, _, rfl, s2.trans (same_new ht), tot'⟩
      · intro σ H' pv
        obtain ⟨tt, tb, a, b, c, d, rfl, s2, tot⟩ := pv
        rw [hlen] at tot
        have e1 := tot.eq
        rw [List.take_length] at e1
        have rF : Red (sumF fs) := sumF_red fun q h => (hq q h).red
        refine ⟨rfl, _, rfl, _, rfl, fun y dx nx nd ne => made_ (by have := tot.pos; omega) (tot.sb.mono (by omega)) ?_ y dx nx nd ne⟩
        rw [low_of_worth (by have := tot.pos; omega) rF e1]
        exact k.same s2
end
end RQ

set_option Elab.async false
set_option linter.all false
set_option maxRecDepth 100000
set_option maxHeartbeats 4000000
/-! The law's own helpers. -/
namespace RQ
open PySem L2 ClX
abbrev lPot : Stmt := top 13
abbrev lDraw : Stmt := top 14
abbrev lPick : Stmt := top 15
abbrev lLow : Stmt := top 16
abbrev lSum : Stmt := top 17
abbrev lBy : Stmt := top 18
abbrev lLess : Stmt := top 19
abbrev lOver : Stmt := top 20
abbrev lTotal : Stmt := top 21
abbrev lPair : Stmt := top 22
abbrev lPairs : Stmt := top 23
abbrev lShown : Stmt := top 24
abbrev lRaw : Stmt := top 25
abbrev lOne : Stmt := top 26
abbrev lTwo : Stmt := top 27
abbrev lRight : Stmt := top 28
abbrev lLaw : Stmt := top 29

/-! ### the pot that is drawn from -/
def PotAt (H : Hp) (pot : Addr) : Prop := ∃ a b : Int, H pot = some (.lst [.int a, .int b]) ∧ 0 ≤ a ∧ 0 ≤ b ∧ b < 4294967296
/-- all but the pot is kept -/
def Keep (pot : Addr) (H H' : Hp) : Prop := ∀ b o, b ≠ pot → H b = some o → H' b = some o
theorem Keep.refl (pot : Addr) (H : Hp) : Keep pot H H := fun _ _ _ h => h
theorem Keep.trans {pot : Addr} {H H1 H2 : Hp} (a : Keep pot H H1) (b : Keep pot H1 H2) : Keep pot H H2 := fun c o n h => b c o n (a c o n h)
theorem Keep.of {pot : Addr} {H H' : Hp} (s : Same H H') : Keep pot H H' := fun b o _ h => s b o h
theorem Keep.set {pot : Addr} {H : Hp} {o : HO} : Keep pot H (upd H pot o) := fun b u n h => by rw [upd_ne n]; exact h
theorem PotAt.same {H H' : Hp} {pot : Addr} (h : PotAt H pot) (s : Same H H') : PotAt H' pot := let ⟨a, b, e, r⟩ := h; ⟨a, b, s _ _ e, r⟩
/-- a tuple of two ints -/
def TAt (H : Hp) (t : Addr) (p : Fr) : Prop := H t = some (.tup [.int p.1, .int p.2])
def NewT (H : Hp) (p : Fr) (Q : VK) : Prop := ∀ (H' : Hp) (t : Addr), Same H H' → H t = none → TAt H' t p → Q (.ref t) H'
theorem NewT.same {H H' : Hp} {p : Fr} {Q : VK} (h : NewT H p Q) (s : Same H H') : NewT H' p Q := fun H2 x s2 n r => h H2 x (s.trans s2) (s.free n) r
/-- a top and a bottom that is not 0, of a told size -/
structure OkT (n : Nat) (p : Fr) : Prop where
  ne : p.2 ≠ 0
  st : Sz n p.1
  sb : Sz n p.2
theorem OkF.t {n : Nat} {p : Fr} (h : OkF n p) : OkT n p := ⟨h.red.ne, h.st, h.sb⟩
theorem OkT.mono {n m : Nat} {p : Fr} (h : OkT n p) (k : n ≤ m) : OkT m p := ⟨h.ne, h.st.mono k, h.sb.mono k⟩
theorem OkT.low {n : Nat} {p : Fr} (h : OkT n p) : OkF n (low p.1 p.2) := ⟨low_red h.ne, h.st.lowT h.ne, h.sb.lowB h.ne⟩
theorem mul3k {x y : Int} (h : Sz 3500 x) (k : Sz 3500 y) : CMulW x y := wide_mul h k (by decide) (by decide) (by decide)

section
variable {P : Program} {w : World} {K : PySem.W.Frag} {mg : Str → Option Value} {base : Heap} {C : Addr}
/-! ### the pot -/
structure SpPot (K : PySem.W.Frag) (vs : List V) (H : Hp) (Q : VK) (E : XK) : Prop where
  ex : ∃ (a : Addr) (ns : List Int), vs = [.ref a, .int 0] ∧ SqL K H a (ns.map V.int) ∧ ∀ (H' : Hp) (pot : Addr), PotAt H' pot → Q (.ref pot) H'
theorem scPot : FnScope ["_law_script", "_law_k", "_law_cell"] ["_law_script", "_law_k"] (defScope lPot) := ⟨rfl, rfl, rfl, by decide +kernel, rfl, by decide +kernel, by decide +kernel⟩
theorem ok_pot {f : Addr} {fd : FuncData} (F : Fun K "_law_pot" "_law_pot" lPot f fd) (B : Blt mg) : FnOk P w K mg base CX0 1 f fd ["_law_script", "_law_k"] (SpPot K) := by
  refine F.ok scPot (fun vs H Q E h => ?_) (fun cdv A outer s H vs Q E hr h => ?_)
  · obtain ⟨a, ns, rfl, _⟩ := h
    rfl
  · obtain ⟨a, ns, rfl, ha, k⟩ := h
    refine ⟨_, pss_cons (ps_set (i := 2) scPot.nd rfl (Or.inl rfl) (pe_op op_add (pe_op op_mul pe_int (pv 1)) pe_int))
      (pss_cons (ps_if (pt_cmpR op_lt (pv 1) (pe_callB call_len_seq (by rfl) B.len PySem.boot_len (pa_cons (pv 0) pa_nil)) (nomark _))
        (pss_one (ps_set (i := 2) scPot.nd rfl (Or.inl rfl) (pe_callB call_abs (by rfl) B.abs (by decide +kernel) (pa_cons (pe_ix ix_list (pv 0) (pv 1) (fun _ _ => rfl)) pa_nil)))) pss_nil)
      (pss_one (ps_ret (pe_lst (pa_cons (pe_callB (call_max2 rfl) (by rfl) B.max PyProof.Rows.boot_max (pa_cons pe_int (pa_cons (pe_op op_sub (pv 2) (pe_op op_pow pe_int pe_int)) pa_nil)))
        (pa_cons (pe_op op_add (pe_op op_mod (pe_op op_mul (pe_callTy call_int1 (by rfl) B.int PyProof.Rows.boot_int (pa_cons (pe_op op_add (pe_op op_mod (pe_callTy call_int1 (by rfl) B.int PyProof.Rows.boot_int (pa_cons (pv 2) pa_nil)) pe_int) pe_int) pa_nil)) (pe_op op_pow (pe_op op_add (pe_op op_mul pe_int (pv 1)) pe_int) pe_int)) pe_int) pe_int) pa_nil)))))), ?_⟩
    have c0 : CPow 10 18 := ⟨by decide, by decide, by decide⟩
    have c1 : CPow (2 * 0 + 3) 3 := ⟨by decide, by decide, by decide⟩
    have fin : ∀ (x : Int), (∀ p, H p = none → Q (.ref p) (upd H p (.lst [.int (if x - 10 ^ 18 > 0 then x - 10 ^ 18 else 0), .int ((x % 2147483549 + 47) * (2 * 0 + 3) ^ 3 % 2147483477 + 1)]))) := fun x p hp => by
      refine k _ p ⟨_, _, upd_same, ?_, ?_, ?_⟩
      · split <;> omega
      · have := Int.emod_nonneg ((x % 2147483549 + 47) * (2 * 0 + 3) ^ 3) (show (2147483477 : Int) ≠ 0 by decide)
        omega
      · have := Int.emod_lt_of_pos ((x % 2147483549 + 47) * (2 * 0 + 3) ^ 3) (show (0 : Int) < 2147483477 by decide)
        omega
    -- what is told of the cell x
    have c2 : CMul (2 : Int) 0 := .inl ⟨by decide, by decide⟩
    have c3 : CMul (127 : Int) 0 := .inl ⟨by decide, by decide⟩
    have c4 : ∀ y : Int, CMul y ((2 * 0 + 3) ^ (3 : Int).toNat) := fun y => .inr ⟨by decide, by decide⟩
    refine ⟨_, rfl, _, _, rfl, rfl, c3, _, _, rfl, rfl, ?_⟩
    refine ⟨_, rfl, _, rfl, a, _, rfl, .inl ha, _, _, rfl, rfl, _, rfl, ite2 (fun e => ?_) (fun e => ?_)⟩
    · have hl : 0 < ns.length := by
        have e' := of_decide_eq_true e
        rw [List.length_map] at e'
        omega
      obtain ⟨n, ns', rfl⟩ : ∃ n ns', ns = n :: ns' := by
        cases ns with
        | nil => cases hl
        | cons n ns' => exact ⟨n, ns', rfl⟩
      refine ⟨_, rfl, _, rfl, a, _, _, _, rfl, rfl, ha, atI_nat (j := 0) rfl, _, rfl, ?_⟩
      refine ⟨_, rfl, _, _, rfl, rfl, c0, _, _, rfl, rfl, _, _, rfl, ?_⟩
      refine ⟨_, rfl, .inl ⟨_, rfl, _, _, rfl, rfl, (by show (0 : Int) < 2147483549; decide), _, _, rfl, rfl, .inl ⟨_, rfl, ?_⟩⟩⟩
      refine ⟨_, rfl, _, _, rfl, rfl, c2, _, _, rfl, rfl, _, _, rfl, rfl, c1, _, _, rfl, rfl, c4 _, ?_⟩
      exact ⟨_, _, rfl, rfl, (by show (0 : Int) < 2147483477; decide), _, _, rfl, rfl, two_line, fin _⟩
    · skip
      refine ⟨_, rfl, _, _, rfl, rfl, c0, _, _, rfl, rfl, _, _, rfl, ?_⟩
      refine ⟨_, rfl, .inl ⟨_, rfl, _, _, rfl, rfl, (by show (0 : Int) < 2147483549; decide), _, _, rfl, rfl, .inl ⟨_, rfl, ?_⟩⟩⟩
      refine ⟨_, rfl, _, _, rfl, rfl, c2, _, _, rfl, rfl, _, _, rfl, rfl, c1, _, _, rfl, rfl, c4 _, ?_⟩
      exact ⟨_, _, rfl, rfl, (by show (0 : Int) < 2147483477; decide), _, _, rfl, rfl, two_line, fin _⟩
end
end RQ

set_option Elab.async false
set_option linter.all false
set_option maxRecDepth 100000
set_option maxHeartbeats 4000000
/-! The law's draws and its own fractions. -/
namespace RQ
open PySem L2 ClX
section
variable {P : Program} {w : World} {K : PySem.W.Frag} {mg : Str → Option Value} {base : Heap} {C : Addr}
/-! ### draws -/
structure SpDraw (vs : List V) (H : Hp) (Q : VK) (E : XK) : Prop where
  ex : ∃ (pot : Addr) (n : Int), vs = [.ref pot, .int n] ∧ 1 ≤ n ∧ n ≤ 1000 ∧ PotAt H pot ∧ ∀ (H' : Hp) (d : Int), Keep pot H H' → PotAt H' pot → 0 ≤ d → d < n → Q (.int d) H'
abbrev nDraw : List Str := ["_law_pot_here", "_law_size", "_law_digit"]
theorem scDraw : FnScope nDraw ["_law_pot_here", "_law_size"] (defScope lDraw) := ⟨rfl, rfl, rfl, by decide +kernel, rfl, by decide +kernel, by decide +kernel⟩
theorem ok_draw {f : Addr} {fd : FuncData} (F : Fun K "_law_draw" "_law_draw" lDraw f fd) (B : Blt mg) : FnOk P w K mg base CX0 1 f fd ["_law_pot_here", "_law_size"] SpDraw := by
  refine F.ok scDraw (fun vs H Q E h => ?_) (fun cdv A outer s H vs Q E hr h => ?_)
  · obtain ⟨pot, n, rfl, _⟩ := h
    rfl
  · obtain ⟨pot, n, rfl, n1, n2, ⟨a, b, hp, a0, b0, b1⟩, k⟩ := h
    refine ⟨_, pss_cons (ps_if (pt_cmpR op_gt (pe_ix ix_list (pv 0) pe_int (fun _ _ => rfl)) pe_int (nomark _))
        (pss_cons (ps_asg (pe_callB call_divmod (by rfl) B.divmod PyProof.Rows.boot_divmod (pa_cons (pe_ix ix_list (pv 0) pe_int (fun _ _ => rfl)) (pa_cons (pv 1) pa_nil)))
          (pg_tup rfl (pgs_cons (pg_sub (pv 0) pe_int set_list) (pgs_cons (pg_name (i := 2) scDraw.nd rfl (Or.inl rfl)) pgs_nil))))
        (pss_one (ps_ret (pv 2)))) pss_nil)
      (pss_cons (ps_asg (pe_op op_mod (pe_callTy call_int1 (by rfl) B.int PyProof.Rows.boot_int (pa_cons (pe_op op_add (pe_op op_mul (pe_ix ix_list (pv 0) pe_int (fun _ _ => rfl)) pe_int) pe_int) pa_nil)) pe_int) (pg_sub (pv 0) pe_int set_list))
      (pss_one (ps_ret (pe_op op_mod (pe_callTy call_int1 (by rfl) B.int PyProof.Rows.boot_int (pa_cons (pe_op op_fdiv (pe_op op_mod (pe_callTy call_int1 (by rfl) B.int PyProof.Rows.boot_int (pa_cons (pe_op op_mul (pe_ix ix_list (pv 0) pe_int (fun _ _ => rfl)) (pe_ix ix_list (pv 0) pe_int (fun _ _ => rfl))) pa_nil)) pe_int) pe_int) pa_nil)) (pv 1))))), ?_⟩
    have at0 : ∀ x y : Int, atI [V.int x, V.int y] ((0 : Nat) : Int) = some (.int x) := fun x y => atI_nat rfl
    have at1 : ∀ x y : Int, atI [V.int x, V.int y] ((1 : Nat) : Int) = some (.int y) := fun x y => atI_nat rfl
    refine ⟨_, rfl, pot, _, _, _, rfl, rfl, SqL.of hp, at0 _ _, _, _, rfl, rfl, _, rfl, ite2 (fun e => ?_) (fun e => ?_)⟩
    · have hd : CDiv a n := ⟨by omega, by omega⟩
      refine ⟨_, rfl, pot, _, _, _, rfl, rfl, SqL.of hp, at0 _ _, _, rfl, a, n, rfl, hd, fun t ht => ?_⟩
      have npt : pot ≠ t := ne_of_none hp ht
      have hp2 : upd H t (.tup [.int (a / n), .int (a % n)]) pot = some (.lst [.int a, .int b]) := by rw [upd_ne npt]; exact hp
      refine ⟨t, _, rfl, SqT.of upd_same, rfl, _, _, rfl, ?_⟩
      refine ⟨_, rfl, pot, _, 0, 0, rfl, rfl, hp2, rfl, ?_⟩
      refine ⟨_, _, rfl, rfl, _, rfl, ?_⟩
      refine k _ (a % n) ?_ ⟨a / n, b, upd_same, Int.ediv_nonneg a0 (by omega), b0, b1⟩ (Int.emod_nonneg _ (by omega)) (Int.emod_lt_of_pos _ (by omega))
      exact (Keep.of (same_new ht)).trans Keep.set
    · have m1 : CMul b 48271 := .inl ⟨by omega, by omega⟩
      refine ⟨_, rfl, pot, _, _, _, rfl, rfl, SqL.of hp, at1 _ _, _, _, rfl, rfl, m1, _, _, rfl, rfl, .inl ⟨_, rfl, _, _, rfl, rfl, (by show (0 : Int) < 2147483587; decide), ?_⟩⟩
      refine ⟨_, rfl, pot, _, 1, 1, rfl, rfl, hp, rfl, ?_⟩
      have c0 : 0 ≤ (b * 48271 + 18140) % 2147483587 := Int.emod_nonneg _ (by decide)
      have c1 : (b * 48271 + 18140) % 2147483587 < 2147483587 := Int.emod_lt_of_pos _ (by decide)
      have m2 : CMul ((b * 48271 + 18140) % 2147483587) ((b * 48271 + 18140) % 2147483587) := .inl ⟨by omega, by omega⟩
      have hp2 : upd H pot (.lst [.int a, .int ((b * 48271 + 18140) % 2147483587)]) pot = some (.lst [.int a, .int ((b * 48271 + 18140) % 2147483587)]) := upd_same
      refine ⟨_, rfl, pot, _, _, _, rfl, rfl, SqL.of hp2, at1 _ _, _, rfl, pot, _, _, _, rfl, rfl, SqL.of hp2, at1 _ _, _, _, rfl, rfl, m2, .inl ⟨_, rfl, ?_⟩⟩
      refine ⟨_, _, rfl, rfl, (by show (0 : Int) < 2147483549; decide), _, _, rfl, rfl, ⟨by decide, by decide⟩, .inl ⟨_, rfl, ?_⟩⟩
      refine ⟨_, rfl, _, _, rfl, rfl, (by show (0 : Int) < n; omega), ?_⟩
      exact k _ _ Keep.set ⟨a, _, hp2, a0, c0, by omega⟩ (Int.emod_nonneg _ (by omega)) (Int.emod_lt_of_pos _ (by omega))

/-- what the law's defs lean on -/
structure DefsL (P : Program) (w : World) (K : PySem.W.Frag) (mg : Str → Option Value) (base : Heap) where
  fD : Addr
  fdD : FuncData
  GD : FnOk P w K mg base CX0 1 fD fdD ["_law_pot_here", "_law_size"] SpDraw
  mD : mg "_law_draw" = some (.ref fD)
  kD : PySem.W.keepIn K (.ref fD) = true
  bD : Binds K fdD ["_law_pot_here", "_law_size"] []
structure SpPick (vs : List V) (H : Hp) (Q : VK) (E : XK) : Prop where
  ex : ∃ (pot l : Addr) (xs : List V), vs = [.ref pot, .ref l] ∧ l ≠ pot ∧ H l = some (.lst xs) ∧ 1 ≤ xs.length ∧ xs.length ≤ 1000 ∧ PotAt H pot ∧ ∀ (H' : Hp) (d : Nat) (x : V), Keep pot H H' → PotAt H' pot → xs[d]? = some x → Q x H'
theorem scPick : FnScope ["_law_pot_here", "_law_some"] ["_law_pot_here", "_law_some"] (defScope lPick) := ⟨rfl, rfl, rfl, by decide +kernel, rfl, by decide +kernel, by decide +kernel⟩
theorem ok_pick {f : Addr} {fd : FuncData} (F : Fun K "_law_pick" "_law_pick" lPick f fd) (B : Blt mg) (L : DefsL P w K mg base) : FnOk P w K mg base CX0 2 f fd ["_law_pot_here", "_law_some"] SpPick := by
  refine F.ok scPick (fun vs H Q E h => ?_) (fun cdv A outer s H vs Q E hr h => ?_)
  · obtain ⟨pot, l, xs, rfl, _⟩ := h
    rfl
  · obtain ⟨pot, l, xs, rfl, nl, hl, l1, l2, hp, k⟩ := h
    refine ⟨_, pss_one (ps_ret (pe_ix ix_list (pv 1) (pe_call L.GD hr (by rfl) L.mD L.kD L.bD .nil pass0 (pa_cons (pv 0) (pa_cons (pe_callB call_len_seq (by rfl) B.len PySem.boot_len (pa_cons (pv 1) pa_nil)) pa_nil))) (fun _ _ => rfl))), ?_⟩
    refine ⟨_, rfl, _, rfl, _, rfl, l, _, rfl, .inl (SqL.of hl), ⟨pot, _, rfl, by omega, by omega, hp, fun H' d kp hp' d0 d1 => ?_⟩⟩
    obtain ⟨j, rfl⟩ := Int.eq_ofNat_of_zero_le d0
    have hj : j < xs.length := by omega
    exact ⟨l, xs, _, xs[j], rfl, rfl, SqL.of (kp _ _ nl hl), atI_nat (List.getElem?_eq_getElem hj), k H' j _ kp hp' (List.getElem?_eq_getElem hj)⟩

/-! ### Euclid's steps -/
structure SpLow (vs : List V) (H : Hp) (Q : VK) (E : XK) : Prop where
  ex : ∃ t b : Int, vs = [.int t, .int b] ∧ b ≠ 0 ∧ Sz 8000 b ∧ NewT H (low t b) Q
abbrev nLow : List Str := ["_law_top", "_law_bottom", "_law_one", "_law_other"]
theorem scLow : FnScope nLow ["_law_top", "_law_bottom"] (defScope lLow) := ⟨rfl, rfl, rfl, by decide +kernel, rfl, by decide +kernel, by decide +kernel⟩
def PvL (t b : Int) (H0 : Hp) (σ : L2.St) (H : Hp) : Prop := ∃ x y : Int, σ = [some (.int t), some (.int b), some (.int x), some (.int y)] ∧ H = H0 ∧ 0 ≤ x ∧ 0 ≤ y ∧ Nat.gcd x.natAbs y.natAbs = Nat.gcd t.natAbs b.natAbs
def muL (σ : L2.St) (_ : Hp) : Nat := match σ[3]? with
  | some (some (V.int y)) => y.toNat
  | _ => 0
theorem ok_low {f : Addr} {fd : FuncData} (F : Fun K "_law_low" "_law_low" lLow f fd) (B : Blt mg) : FnOk P w K mg base CX0 1 f fd ["_law_top", "_law_bottom"] SpLow := by
  refine F.ok scLow (fun vs H Q E h => ?_) (fun cdv A outer s H vs Q E hr h => ?_)
  · obtain ⟨t, b, rfl, _⟩ := h
    rfl
  · obtain ⟨t, b, rfl, hb, hz, k⟩ := h
    refine ⟨_, pss_cons (ps_par (i := 2) (j := 3) rfl scLow.nd rfl rfl (by decide) rfl rfl (pa_cons (pe_callB call_abs (by rfl) B.abs (by decide +kernel) (pa_cons (pv 0) pa_nil)) (pa_cons (pe_callB call_abs (by rfl) B.abs (by decide +kernel) (pa_cons (pv 1) pa_nil)) pa_nil)) (by rfl))
      (pss_cons (ps_while PassesOwn.never (pt_cmpR op_gt (pv 3) pe_int (nomark _)) (pss_one (ps_par (i := 2) (j := 3) rfl scLow.nd rfl rfl (by decide) rfl rfl (pa_cons (pv 3) (pa_cons (pe_op op_mod (pe_callTy call_int1 (by rfl) B.int PyProof.Rows.boot_int (pa_cons (pv 2) pa_nil)) (pv 3)) pa_nil)) (by rfl))))
      (pss_cons (ps_set (i := 2) scLow.nd rfl (Or.inl rfl) (pe_ifExp (pt_cmpR op_gt (pv 1) pe_int (nomark _)) (pv 2) (pe_op op_sub pe_int (pv 2))))
      (pss_one (ps_ret (pe_tup (pa_cons (pe_op op_fdivA (pv 0) (pv 2)) (pa_cons (pe_op op_fdivA (pv 1) (pv 2)) pa_nil))))))), ?_⟩
    have ab : ∀ z : Int, (if z < 0 then -z else z) = ((z.natAbs : Nat) : Int) := fun z => by split <;> omega
    refine ⟨_, rfl, _, rfl, _, rfl, _, rfl, _, _, rfl, ?_⟩
    refine while_by (PvL t b H) muL ⟨_, _, rfl, rfl, by rw [ab]; omega, by rw [ab]; omega, by rw [ab, ab, Int.natAbs_natCast, Int.natAbs_natCast]⟩ ?_ ?_
    · rintro σ H' ⟨x, y, rfl, rfl, x0, y0, hg⟩
      refine ⟨_, rfl, _, _, rfl, rfl, _, rfl, ite2 (fun e => ?_) (fun e => ?_)⟩
      · have hy : 0 < y := of_decide_eq_true e
        refine ⟨_, rfl, _, rfl, .inl ⟨_, rfl, _, rfl, _, _, rfl, rfl, hy, ?_⟩⟩
        have m0 := Int.emod_nonneg x (show y ≠ 0 by omega)
        have m1 := Int.emod_lt_of_pos x hy
        refine ⟨_, _, rfl, ⟨y, x % y, rfl, rfl, y0, m0, by rw [euclid_step hy x0]; exact hg⟩, ?_⟩
        show (x % y).toNat < y.toNat
        omega
      · have hy : y = 0 := by
          have hn : ¬ (0 : Int) < y := fun z => e (decide_eq_true z)
          omega
        subst hy
        rw [Int.natAbs_zero, Nat.gcd_zero_right] at hg
        have gp := gcd_pos (t := t) hb
        have fin : ∀ g : Int, g = G t b → CDivA t g ∧ CDivA b g ∧ t.fdiv g = (low t b).1 ∧ b.fdiv g = (low t b).2 := by
          rintro g rfl
          exact ⟨fdiv_ok (G_ne hb) (Sz.G hb hz) (by decide) (by decide), fdiv_ok (G_ne hb) (Sz.G hb hz) (by decide) (by decide), rfl, rfl⟩
        refine ⟨_, rfl, _, _, rfl, rfl, _, rfl, ite2 (fun e => ?_) (fun e => ?_)⟩
        · have hb0 : 0 < b := of_decide_eq_true e
          obtain ⟨d1, d2, e1, e2⟩ := fin x (by unfold G; rw [if_neg (by omega)]; omega)
          refine ⟨_, rfl, _, rfl, _, rfl, _, _, rfl, rfl, d1, ?_⟩
          refine ⟨_, rfl, _, rfl, _, _, rfl, rfl, d2, two_line, fun p hp => k _ p (same_new hp) hp ?_⟩
          unfold TAt
          rw [upd_same, ← e1, ← e2]
        · have hb0 : ¬ 0 < b := fun z => e (decide_eq_true z)
          obtain ⟨d1, d2, e1, e2⟩ := fin (0 - x) (by unfold G; rw [if_pos (by omega)]; omega)
          refine ⟨_, rfl, _, _, rfl, rfl, ?_⟩
          refine ⟨_, rfl, _, rfl, _, _, rfl, rfl, d1, ?_⟩
          refine ⟨_, rfl, _, rfl, _, _, rfl, rfl, d2, two_line, fun p hp => k _ p (same_new hp) hp ?_⟩
          unfold TAt
          rw [upd_same, ← e1, ← e2]
    · rintro σ H' R R' hR ⟨v, e, i, j, e1, e2, c, e3, q⟩
      exact ⟨v, e, i, j, e1, e2, c, e3, hR _ _ q⟩
end
end RQ

set_option Elab.async false
set_option linter.all false
set_option maxRecDepth 100000
set_option maxHeartbeats 4000000
/-! The law's own sums, products, quotients, totals; what is told of a fraction. -/
namespace RQ
open PySem L2 ClX
theorem zero_at {p q : V} : atI [p, q] ((0 : Nat) : Int) = some p := atI_nat rfl
theorem one_at {p q : V} : atI [p, q] ((1 : Nat) : Int) = some q := atI_nat rfl
/-- .. and its own fractions -/
structure DefsM (P : Program) (w : World) (K : PySem.W.Frag) (mg : Str → Option Value) (base : Heap) where
  fL : Addr
  fdL : FuncData
  GL : FnOk P w K mg base CX0 1 fL fdL ["_law_top", "_law_bottom"] SpLow
  mL : mg "_law_low" = some (.ref fL)
  kL : PySem.W.keepIn K (.ref fL) = true
  bL : Binds K fdL ["_law_top", "_law_bottom"] []
structure SpPT (g : Fr → Fr → Fr) (ok : Fr → Prop) (vs : List V) (H : Hp) (Q : VK) (E : XK) : Prop where
  ex : ∃ (t u : Addr) (p q : Fr), vs = [.ref t, .ref u] ∧ TAt H t p ∧ TAt H u q ∧ OkT 3500 p ∧ OkT 3500 q ∧ ok q ∧ NewT H (g p q) Q
section
variable {P : Program} {w : World} {K : PySem.W.Frag} {mg : Str → Option Value} {base : Heap} {C : Addr}
abbrev nTwo : List Str := ["_law_one", "_law_other"]
theorem scSum : FnScope nTwo nTwo (defScope lSum) := ⟨rfl, rfl, rfl, by decide +kernel, rfl, by decide +kernel, by decide +kernel⟩
theorem ok_sum {f : Addr} {fd : FuncData} (F : Fun K "_law_sum" "_law_sum" lSum f fd) (L : DefsM P w K mg base) : FnOk P w K mg base CX0 2 f fd nTwo (SpPT add any_) := by
  refine F.ok scSum (fun vs H Q E h => ?_) (fun cdv A outer s H vs Q E hr h => ?_)
  · obtain ⟨t, u, p, q, rfl, _⟩ := h
    rfl
  · obtain ⟨t, u, p, q, rfl, ht, hu, hp, hq, _, k⟩ := h
    refine ⟨_, pss_one (ps_ret (pe_call L.GL hr (by rfl) L.mL L.kL L.bL .nil pass0 (pa_cons (pe_op op_add (pe_op op_mulW (pe_ix ix_tup (pv 0) pe_int (fun _ _ => rfl)) (pe_ix ix_tup (pv 1) pe_int (fun _ _ => rfl))) (pe_op op_mulW (pe_ix ix_tup (pv 1) pe_int (fun _ _ => rfl)) (pe_ix ix_tup (pv 0) pe_int (fun _ _ => rfl))))
      (pa_cons (pe_op op_mulW (pe_ix ix_tup (pv 0) pe_int (fun _ _ => rfl)) (pe_ix ix_tup (pv 1) pe_int (fun _ _ => rfl))) pa_nil)))), ?_⟩
    refine ⟨_, rfl, t, _, _, _, rfl, rfl, SqT.of ht, zero_at, _, rfl, u, _, _, _, rfl, rfl, SqT.of hu, one_at, _, _, rfl, rfl, mul3k hp.st hq.sb, ?_⟩
    refine ⟨_, rfl, u, _, _, _, rfl, rfl, SqT.of hu, zero_at, _, rfl, t, _, _, _, rfl, rfl, SqT.of ht, one_at, _, _, rfl, rfl, mul3k hq.st hp.sb, _, _, rfl, rfl, ?_⟩
    refine ⟨_, rfl, t, _, _, _, rfl, rfl, SqT.of ht, one_at, _, rfl, u, _, _, _, rfl, rfl, SqT.of hu, one_at, _, _, rfl, rfl, mul3k hp.sb hq.sb, ?_⟩
    exact ⟨_, _, rfl, Int.mul_ne_zero hp.ne hq.ne, (hp.sb.mul hq.sb).mono (by decide), k⟩
theorem scBy : FnScope nTwo nTwo (defScope lBy) := ⟨rfl, rfl, rfl, by decide +kernel, rfl, by decide +kernel, by decide +kernel⟩
theorem ok_by {f : Addr} {fd : FuncData} (F : Fun K "_law_by" "_law_by" lBy f fd) (L : DefsM P w K mg base) : FnOk P w K mg base CX0 2 f fd nTwo (SpPT mul any_) := by
  refine F.ok scBy (fun vs H Q E h => ?_) (fun cdv A outer s H vs Q E hr h => ?_)
  · obtain ⟨t, u, p, q, rfl, _⟩ := h
    rfl
  · obtain ⟨t, u, p, q, rfl, ht, hu, hp, hq, _, k⟩ := h
    refine ⟨_, pss_one (ps_ret (pe_call L.GL hr (by rfl) L.mL L.kL L.bL .nil pass0 (pa_cons (pe_op op_mulW (pe_ix ix_tup (pv 0) pe_int (fun _ _ => rfl)) (pe_ix ix_tup (pv 1) pe_int (fun _ _ => rfl)))
      (pa_cons (pe_op op_mulW (pe_ix ix_tup (pv 0) pe_int (fun _ _ => rfl)) (pe_ix ix_tup (pv 1) pe_int (fun _ _ => rfl))) pa_nil)))), ?_⟩
    refine ⟨_, rfl, t, _, _, _, rfl, rfl, SqT.of ht, zero_at, _, rfl, u, _, _, _, rfl, rfl, SqT.of hu, zero_at, _, _, rfl, rfl, mul3k hp.st hq.st, ?_⟩
    refine ⟨_, rfl, t, _, _, _, rfl, rfl, SqT.of ht, one_at, _, rfl, u, _, _, _, rfl, rfl, SqT.of hu, one_at, _, _, rfl, rfl, mul3k hp.sb hq.sb, ?_⟩
    exact ⟨_, _, rfl, Int.mul_ne_zero hp.ne hq.ne, (hp.sb.mul hq.sb).mono (by decide), k⟩
theorem scLOver : FnScope nTwo nTwo (defScope lOver) := ⟨rfl, rfl, rfl, by decide +kernel, rfl, by decide +kernel, by decide +kernel⟩
theorem ok_lover {f : Addr} {fd : FuncData} (F : Fun K "_law_over" "_law_over" lOver f fd) (L : DefsM P w K mg base) : FnOk P w K mg base CX0 2 f fd nTwo (SpPT over fun q => q.1 ≠ 0) := by
  refine F.ok scLOver (fun vs H Q E h => ?_) (fun cdv A outer s H vs Q E hr h => ?_)
  · obtain ⟨t, u, p, q, rfl, _⟩ := h
    rfl
  · obtain ⟨t, u, p, q, rfl, ht, hu, hp, hq, h0, k⟩ := h
    refine ⟨_, pss_one (ps_ret (pe_call L.GL hr (by rfl) L.mL L.kL L.bL .nil pass0 (pa_cons (pe_op op_mulW (pe_ix ix_tup (pv 0) pe_int (fun _ _ => rfl)) (pe_ix ix_tup (pv 1) pe_int (fun _ _ => rfl)))
      (pa_cons (pe_op op_mulW (pe_ix ix_tup (pv 0) pe_int (fun _ _ => rfl)) (pe_ix ix_tup (pv 1) pe_int (fun _ _ => rfl))) pa_nil)))), ?_⟩
    refine ⟨_, rfl, t, _, _, _, rfl, rfl, SqT.of ht, zero_at, _, rfl, u, _, _, _, rfl, rfl, SqT.of hu, one_at, _, _, rfl, rfl, mul3k hp.st hq.sb, ?_⟩
    refine ⟨_, rfl, t, _, _, _, rfl, rfl, SqT.of ht, one_at, _, rfl, u, _, _, _, rfl, rfl, SqT.of hu, zero_at, _, _, rfl, rfl, mul3k hp.sb hq.st, ?_⟩
    exact ⟨_, _, rfl, Int.mul_ne_zero hp.ne h0, (hp.sb.mul hq.st).mono (by decide), k⟩
theorem scLess : FnScope nTwo nTwo (defScope lLess) := ⟨rfl, rfl, rfl, by decide +kernel, rfl, by decide +kernel, by decide +kernel⟩
theorem ok_less {f fS : Addr} {fd fdS : FuncData} (F : Fun K "_law_less" "_law_less" lLess f fd) (GS : FnOk P w K mg base CX0 2 fS fdS nTwo (SpPT add any_)) (mS : mg "_law_sum" = some (.ref fS)) (kS : PySem.W.keepIn K (.ref fS) = true) (bS : Binds K fdS nTwo []) :
    FnOk P w K mg base CX0 3 f fd nTwo (SpPT (fun p q => add p (0 - q.1, q.2)) any_) := by
  refine F.ok scLess (fun vs H Q E h => ?_) (fun cdv A outer s H vs Q E hr h => ?_)
  · obtain ⟨t, u, p, q, rfl, _⟩ := h
    rfl
  · obtain ⟨t, u, p, q, rfl, ht, hu, hp, hq, z, k⟩ := h
    refine ⟨_, pss_one (ps_ret (pe_call GS hr (by rfl) mS kS bS .nil pass0 (pa_cons (pv 0) (pa_cons (pe_tup (pa_cons (pe_op op_sub pe_int (pe_ix ix_tup (pv 1) pe_int (fun _ _ => rfl))) (pa_cons (pe_ix ix_tup (pv 1) pe_int (fun _ _ => rfl)) pa_nil))) pa_nil)))), ?_⟩
    refine ⟨_, rfl, _, rfl, u, _, _, _, rfl, rfl, SqT.of hu, zero_at, _, _, rfl, rfl, _, rfl, u, _, _, _, rfl, rfl, SqT.of hu, one_at, two_line, fun y hy => ?_⟩
    have s1 := same_new (o := .tup [.int (0 - q.1), .int q.2]) hy
    refine ⟨t, y, p, (0 - q.1, q.2), rfl, s1 _ _ ht, upd_same, hp, ⟨hq.ne, ?_, hq.sb⟩, z, k.same s1⟩
    show Sz 3500 (0 - q.1)
    rw [Int.zero_sub]
    exact hq.st.neg

/-! ### totals -/
structure SpLTotal (K : PySem.W.Frag) (vs : List V) (H : Hp) (Q : VK) (E : XK) : Prop where
  ex : ∃ (l : Addr) (ts : List Addr) (fs : List Fr), vs = [.ref l] ∧ SqL K H l (ts.map V.ref) ∧ Paired (TAt H) ts fs ∧ (∀ q ∈ fs, OkF 260 q) ∧ fs.length ≤ 12 ∧ NewT H (sumF fs) Q
abbrev nLT : List Str := ["_law_pairs_here", "_law_found", "_law_pair_here"]
theorem scLTotal : FnScope nLT ["_law_pairs_here"] (defScope lTotal) := ⟨rfl, rfl, rfl, by decide +kernel, rfl, by decide +kernel, by decide +kernel⟩
/-- the running total keeps its size -/
theorem sum_sz {fs : List Fr} (hq : ∀ q ∈ fs, OkF 260 q) : ∀ i, i ≤ fs.length → ∃ tt tb, Tot fs i tt tb := by
  intro i
  induction i with
  | zero => exact fun _ => ⟨0, 1, by decide, by unfold Sz; decide, by unfold Sz; decide, by show (0 : Int) * _ = 0 * 1; omega⟩
  | succ i ih =>
    intro hi
    obtain ⟨tt, tb, t⟩ := ih (by omega)
    exact ⟨_, _, (t.step hq (List.getElem?_eq_getElem (by omega)) _ rfl).1⟩
theorem sum_ok {fs : List Fr} (hq : ∀ q ∈ fs, OkF 260 q) {i : Nat} (hi : i ≤ fs.length) (h12 : fs.length ≤ 12) : OkF 3500 (sumF (fs.take i)) := by
  obtain ⟨tt, tb, t⟩ := sum_sz hq i hi
  have r : Red (sumF (fs.take i)) := sumF_red fun q h => (hq q (List.mem_of_mem_take h)).red
  have e := low_of_worth (by have := t.pos; omega) r t.eq
  have hne : tb ≠ 0 := by have := t.pos; omega
  refine ⟨r, ?_, ?_⟩
  · rw [← e]
    exact (t.st.lowT hne).mono (by omega)
  · rw [← e]
    exact (t.sb.lowB hne).mono (by omega)
theorem ok_ltotal {f fS : Addr} {fd fdS : FuncData} (F : Fun K "_law_total" "_law_total" lTotal f fd) (GS : FnOk P w K mg base CX0 2 fS fdS nTwo (SpPT add any_)) (mS : mg "_law_sum" = some (.ref fS)) (kS : PySem.W.keepIn K (.ref fS) = true) (bS : Binds K fdS nTwo []) :
    FnOk P w K mg base CX0 3 f fd ["_law_pairs_here"] (SpLTotal K) := by
  refine F.ok scLTotal (fun vs H Q E h => ?_) (fun cdv A outer s H vs Q E hr h => ?_)
  · obtain ⟨l, ts, fs, rfl, _⟩ := h
    rfl
  · obtain ⟨l, ts, fs, rfl, hl, hp, hq, h12, k⟩ := h
    have hlen : ts.length = fs.length := Paired.length hp
    refine ⟨_, pss_cons (ps_set (i := 1) scLTotal.nd rfl (Or.inl rfl) (pe_tup (pa_cons pe_int (pa_cons pe_int pa_nil))))
      (pss_cons (ps_for PassesOwn.never rfl (pi_list (pv 0)) (pg_name (i := 2) scLTotal.nd rfl (Or.inl rfl)) (pss_one (ps_set (i := 1) scLTotal.nd rfl (Or.inl rfl) (pe_call GS hr (by rfl) mS kS bS .nil pass0 (pa_cons (pv 1) (pa_cons (pv 2) pa_nil))))))
      (pss_one (ps_ret (pv 1)))), ?_⟩
    refine ⟨two_line, fun p hp0 => ?_⟩
    have s1 := same_new (o := .tup [.int 0, .int 1]) hp0
    refine ⟨_, rfl, l, rfl, ⟨_, s1.seq hl⟩, for_list (K := K) (a := l) (xs := ts.map V.ref) (fun i σ H' => ∃ (t : Addr) (v : Option V), σ = [some (.ref l), some (.ref t), v] ∧ Same H H' ∧ H t = none ∧ TAt H' t (sumF (fs.take i)))
      ⟨p, none, rfl, s1, hp0, upd_same⟩ (fun i σ H' _ ⟨_, _, _, s2, _⟩ => s2.seq hl) ?_ ?_⟩
    · rintro i x σ H' hx ⟨t, v, rfl, s2, nt, ht⟩
      rw [List.getElem?_map] at hx
      obtain ⟨u, e1, e2⟩ := Option.map_eq_some_iff.mp hx
      subst e2
      obtain ⟨q, e3, hu⟩ := paired_get hp e1
      have oq := hq q (List.mem_of_getElem? e3)
      have hi : i < fs.length := (List.getElem?_eq_some_iff.mp e3).1
      refine ⟨_, rfl, _, rfl, ⟨t, u, _, q, rfl, ht, s2 _ _ hu, (sum_ok hq (by omega) h12).t, oq.t.mono (by decide), trivial, fun H2 t2 s3 n2 h2 => ?_⟩⟩
      refine ⟨t2, _, rfl, s2.trans s3, s2.free n2, ?_⟩
      rw [sumF_take e3]
      exact h2
    · rintro σ H' ⟨t, v, rfl, s2, nt, ht⟩
      rw [List.length_map, hlen, List.take_length] at ht
      exact ⟨_, rfl, k _ _ s2 nt ht⟩

/-! ### what is told of a value -/
structure SpPair (C : Addr) (vs : List V) (H : Hp) (Q : VK) (E : XK) : Prop where
  ex : ∃ (a : Addr) (p : Fr), vs = [.ref a] ∧ RAt C H a p ∧ NewT H p Q
theorem scPair : FnScope ["_law_value"] ["_law_value"] (defScope lPair) := ⟨rfl, rfl, rfl, by decide +kernel, rfl, by decide +kernel, by decide +kernel⟩
theorem ok_pair {f : Addr} {fd : FuncData} (F : Fun K "_law_pair" "_law_pair" lPair f fd) (B : Blt mg) (R : RCls K mg C) {pT gT pB gB : Addr} {fdT fdB : FuncData} (hT : PropOf K C "top" pT gT) (hB : PropOf K C "bottom" pB gB)
    (GT : FnOk P w K mg base CX0 1 gT fdT ["self"] (SpTop C)) (GB : FnOk P w K mg base CX0 1 gB fdB ["self"] (SpBottom C)) (bT : Binds K fdT ["self"] []) (bB : Binds K fdB ["self"] []) : FnOk P w K mg base CX0 3 f fd ["_law_value"] (SpPair C) := by
  refine F.ok scPair (fun vs H Q E h => ?_) (fun cdv A outer s H vs Q E hr h => ?_)
  · obtain ⟨a, p, rfl, _⟩ := h
    rfl
  · obtain ⟨a, p, rfl, ha, k⟩ := h
    refine ⟨_, pss_one (ps_ret (pe_ifExp (pt_val (pe_callB call_isi (by rfl) B.isi PyProof.Rows.boot_isinstance (pa_cons (pv 0) (pa_cons (pe_glob (by rfl) R.mg_ (v := .ref C) rfl) pa_nil))))
      (pe_tup (pa_cons (pe_prop (pv 0) R.cl hT GT hr bT .nil pass0 rfl) (pa_cons (pe_prop (pv 0) R.cl hB GB hr bB .nil pass0 rfl) pa_nil))) pe_non)), ?_⟩
    obtain ⟨dx, e⟩ := id ha
    refine ⟨_, rfl, _, .ref C, _, _, true, rfl, .own C, ha.is R, R.kC, true, rfl, iteT ?_⟩
    refine ⟨_, rfl, a, dx, _, rfl, e, ⟨a, p, rfl, ha, ?_⟩⟩
    refine ⟨_, rfl, a, dx, _, rfl, e, ⟨a, p, rfl, ha, ?_⟩⟩
    exact ⟨two_line, fun t ht => k _ t (same_new ht) ht upd_same⟩
structure SpShown (vs : List V) (H : Hp) (Q : VK) (E : XK) : Prop where
  ex : ∃ (t : Addr) (p : Fr), vs = [.ref t] ∧ TAt H t p ∧ OkF 1000 p ∧ Q (.str (shown p)) H
theorem scShown : FnScope ["_law_pair_here"] ["_law_pair_here"] (defScope lShown) := ⟨rfl, rfl, rfl, by decide +kernel, rfl, by decide +kernel, by decide +kernel⟩
theorem ok_shown {f : Addr} {fd : FuncData} (F : Fun K "_law_shown" "_law_shown" lShown f fd) (B : Blt mg) : FnOk P w K mg base CX0 1 f fd ["_law_pair_here"] SpShown := by
  refine F.ok scShown (fun vs H Q E h => ?_) (fun cdv A outer s H vs Q E hr h => ?_)
  · obtain ⟨t, p, rfl, _⟩ := h
    rfl
  · obtain ⟨t, p, rfl, ht, hp, k⟩ := h
    refine ⟨_, pss_one (ps_ret (pe_ifExp (pt_cmpR op_eq (pe_ix ix_tup (pv 0) pe_int (fun _ _ => rfl)) pe_int (nomark _)) (pe_callTy call_str_int (by rfl) B.str PyProof.Rows.boot_str (pa_cons (pe_ix ix_tup (pv 0) pe_int (fun _ _ => rfl)) pa_nil))
      (pe_op op_add_str (pe_op op_add_str (pe_callTy call_str_int (by rfl) B.str PyProof.Rows.boot_str (pa_cons (pe_ix ix_tup (pv 0) pe_int (fun _ _ => rfl)) pa_nil)) pe_str) (pe_callTy call_str_int (by rfl) B.str PyProof.Rows.boot_str (pa_cons (pe_ix ix_tup (pv 0) pe_int (fun _ _ => rfl)) pa_nil))))), ?_⟩
    have l1 := num_len hp.st
    have l2 := num_len hp.sb
    refine ⟨_, rfl, t, _, _, _, rfl, rfl, SqT.of ht, one_at, rfl, _, rfl, ?_⟩
    rw [dec_int]
    unfold shown at k
    refine ite2 (fun e => ?_) (fun e => ?_)
    · rw [if_pos (of_decide_eq_true e)] at k
      exact ⟨_, rfl, t, _, _, _, rfl, rfl, SqT.of ht, zero_at, _, rfl, lg hp.st, k⟩
    · rw [if_neg fun z => e (decide_eq_true z)] at k
      refine ⟨_, rfl, t, _, _, _, rfl, rfl, SqT.of ht, zero_at, _, rfl, lg hp.st, _, _, rfl, rfl, line_ok (by show (num p.1).length + 1 ≤ _; omega), ?_⟩
      refine ⟨_, rfl, t, _, _, _, rfl, rfl, SqT.of ht, one_at, _, rfl, lg hp.sb, _, _, rfl, rfl, line_ok ?_, k⟩
      rw [len_app]
      show (num p.1).length + 1 + (num p.2).length ≤ _
      omega
end
end RQ

set_option Elab.async false
set_option linter.all false
set_option maxRecDepth 100000
set_option maxHeartbeats 4000000
/-! Pairs of many fractions; a top and a bottom that are drawn. -/
namespace RQ
open PySem L2 ClX
theorem TAt.same {H H' : Hp} {t : Addr} {p : Fr} (h : TAt H t p) (s : Same H H') : TAt H' t p := s _ _ h
theorem paired_imp {α β : Type} {R S : α → β → Prop} : ∀ {xs : List α} {ys : List β}, Paired R xs ys → (∀ x y, R x y → S x y) → Paired S xs ys
  | _, _, .nil, _ => .nil
  | _, _, .cons r t, f => .cons (f _ _ r) (paired_imp t f)
theorem paired_snoc {α β : Type} {R : α → β → Prop} : ∀ {xs : List α} {ys : List β} {x : α} {y : β}, Paired R xs ys → R x y → Paired R (xs ++ [x]) (ys ++ [y])
  | _, _, _, _, .nil, r => .cons r .nil
  | _, _, _, _, .cons r t, q => .cons r (paired_snoc t q)
theorem paired_app {α β : Type} {R : α → β → Prop} : ∀ {xs zs : List α} {ys ws : List β}, Paired R xs ys → Paired R zs ws → Paired R (xs ++ zs) (ys ++ ws)
  | _, _, _, _, .nil, r => r
  | _, _, _, _, .cons r t, q => .cons r (paired_app t q)
theorem take_snoc {α : Type} {l : List α} {i : Nat} {x : α} (h : l[i]? = some x) : l.take (i + 1) = l.take i ++ [x] := by
  rw [List.take_succ, h]
  rfl
section
variable {P : Program} {w : World} {K : PySem.W.Frag} {mg : Str → Option Value} {base : Heap} {C : Addr}
structure SpPairs (C : Addr) (vs : List V) (H : Hp) (Q : VK) (E : XK) : Prop where
  ex : ∃ (l : Addr) (as : List Addr) (ps : List Fr), vs = [.ref l] ∧ H l = some (.lst (as.map V.ref)) ∧ Paired (RAt C H) as ps ∧ as.length ≤ 100 ∧
    ∀ (H' : Hp) (D : Addr) (ts : List Addr), Same H H' → H D = none → H' D = some (.lst (ts.map V.ref)) → Paired (TAt H') ts ps → Q (.ref D) H'
abbrev nPairs : List Str := ["_law_value", "_law_one"]
theorem scPairs : FnScope nPairs ["_law_value"] (defScope lPairs) := ⟨rfl, rfl, rfl, by decide +kernel, rfl, by decide +kernel, by decide +kernel⟩
theorem ok_pairs {f fP : Addr} {fd fdP : FuncData} (F : Fun K "_law_pairs" "_law_pairs" lPairs f fd) (B : Blt mg) (GP : FnOk P w K mg base CX0 3 fP fdP ["_law_value"] (SpPair C)) (mP : mg "_law_pair" = some (.ref fP)) (kP : PySem.W.keepIn K (.ref fP) = true) (bP : Binds K fdP ["_law_value"] []) :
    FnOk P w K mg base CX0 4 f fd ["_law_value"] (SpPairs C) := by
  refine F.ok scPairs (fun vs H Q E h => ?_) (fun cdv A outer s H vs Q E hr h => ?_)
  · obtain ⟨l, as, ps, rfl, _⟩ := h
    rfl
  · obtain ⟨l, as, ps, rfl, hl, hp, h100, k⟩ := h
    have hlen : as.length = ps.length := Paired.length hp
    refine ⟨_, pss_one (ps_ret (pe_ifExp (pt_val (pe_callB call_isi (by rfl) B.isi PyProof.Rows.boot_isinstance (pa_cons (pv 0) (pa_cons (pe_bltn (by rfl) B.list PyProof.Rows.boot_list (v := .ty "list") rfl) pa_nil))))
      (pe_lc (own := [("_law_one", 1)]) (g := gName 1) (tt := tYes) rfl scPairs.nd (pi_list (pv 0)) (blkOk_by (own := [("_law_one", 1)]) (N := nPairs) (sc := defScope lPairs) (by decide +kernel)) (fun _ _ _ _ _ => pg_name (i := 1) scPairs.nd rfl (Or.inl rfl)) (fun _ _ _ _ _ => pts_nil)
        (fun _ _ _ _ _ => pe_call GP hr (by rfl) mP kP bP .nil pass0 (pa_cons (pv 1) pa_nil))) pe_non)), ?_⟩
    have isq : SqL K H l (as.map V.ref) := SqL.of hl
    refine ⟨_, rfl, _, .ty "list", _, _, true, rfl, .ty "list", .base (.lst hl), kit_ty (by decide +kernel), true, rfl, iteT ?_⟩
    refine ⟨_, rfl, l, rfl, ⟨_, isq⟩, fun D hD => ?_⟩
    refine lc_list (K := K) (a := l) (xs := as.map V.ref) (fun i H' => Same H H' ∧ ∃ ts : List Addr, H' D = some (.lst (ts.map V.ref)) ∧ Paired (TAt H') ts (ps.take i) ∧ ts.length = i) ⟨same_new hD, [], upd_same, .nil, rfl⟩ (fun i H' _ ⟨s, _⟩ => s.seq isq) ?_ ?_
    · rintro i x H' hx ⟨s, ts, hD', pts, lts⟩
      rw [List.getElem?_map] at hx
      obtain ⟨a, e1, e2⟩ := Option.map_eq_some_iff.mp hx
      subst e2
      obtain ⟨p, e3, ha⟩ := paired_get hp e1
      have hi : i < as.length := (List.getElem?_eq_some_iff.mp e1).1
      refine ⟨rfl, ?_⟩
      show tCall (SpPair C) [] E0 (tCons (tVar 1) tNil) _ H' _
      refine ⟨_, rfl, ⟨a, p, rfl, ha.same s, fun H2 t s2 nt ht => ?_⟩⟩
      have h2D : H2 D = some (.lst (ts.map V.ref)) := s2 _ _ hD'
      have keepT : ∀ u q, TAt H2 u q → TAt (upd H2 D (.lst (ts.map V.ref ++ [.ref t]))) u q := fun u q hu => by
        unfold TAt
        rw [upd_ne (ne_of hu h2D (by intro z; cases z))]
        exact hu
      refine ⟨_, h2D, ?_, ?_, ts ++ [t], ?_, ?_, ?_⟩
      · rw [List.length_map, lts]
        exact small1000 (by omega)
      · intro b o e
        have nbD : b ≠ D := ne_of_none e hD
        rw [upd_ne nbD]
        exact s2 _ _ (s _ _ e)
      · rw [upd_same, List.map_append]
        rfl
      · rw [take_snoc e3]
        exact paired_snoc (paired_imp pts fun u q hu => keepT u q (hu.same s2)) (keepT t p ht)
      · rw [List.length_append, lts]
        rfl
    · rintro H' ⟨s, ts, hD', pts, lts⟩
      rw [List.length_map, hlen, List.take_length] at pts
      exact k H' D ts s hD hD' pts

/-! ### a top and a bottom -/
structure SpRaw (vs : List V) (H : Hp) (Q : VK) (E : XK) : Prop where
  ex : ∃ pot : Addr, vs = [.ref pot] ∧ PotAt H pot ∧ ∀ (H' : Hp) (t : Addr) (r : Fr), Keep pot H H' → PotAt H' pot → H t = none → TAt H' t r → OkT 200 r → Q (.ref t) H'
abbrev nRaw : List Str := ["_law_pot_here", "_law_top", "_law_bottom", "_law_common", "_law_sign"]
theorem scRaw : FnScope nRaw ["_law_pot_here"] (defScope lRaw) := ⟨rfl, rfl, rfl, by decide +kernel, rfl, by decide +kernel, by decide +kernel⟩
theorem PotAt.ne_new {H : Hp} {pot a : Addr} (h : PotAt H pot) (n : H a = none) : a ≠ pot := fun z => by
  obtain ⟨_, _, e, _⟩ := h
  rw [z, e] at n
  cases n
theorem keep_free {pot : Addr} {H H' : Hp} (k : Keep pot H H') (p : PotAt H pot) {a : Addr} (n : H' a = none) (q : PotAt H' pot) : H a = none := by
  cases e : H a with
  | none => rfl
  | some o =>
    have na : a ≠ pot := fun z => by
      obtain ⟨_, _, e', _⟩ := q
      rw [z, e'] at n
      cases n
    rw [k a o na e] at n
    cases n
theorem common_of {d : Nat} {x : V} (h : [V.int 1, V.int 6, V.int 35, V.int (10 ^ (9 : Int).toNat)][d]? = some x) : ∃ c : Int, x = .int c ∧ 0 < c ∧ c ≤ 1000000000 := by
  match d, h with
  | 0, h => exact ⟨1, (Option.some.inj h).symm, by decide, by decide⟩
  | 1, h => exact ⟨6, (Option.some.inj h).symm, by decide, by decide⟩
  | 2, h => exact ⟨35, (Option.some.inj h).symm, by decide, by decide⟩
  | 3, h => exact ⟨_, (Option.some.inj h).symm, by decide, by decide⟩
  | n + 4, h => cases h
theorem sign_of {d : Nat} {x : V} (h : [V.int 1, V.int (-1)][d]? = some x) : ∃ g : Int, x = .int g ∧ (g = 1 ∨ g = -1) := by
  match d, h with
  | 0, h => exact ⟨1, (Option.some.inj h).symm, .inl rfl⟩
  | 1, h => exact ⟨-1, (Option.some.inj h).symm, .inr rfl⟩
  | n + 2, h => cases h
theorem raw_ok {t b c g : Int} (ht : Sz 90 t) (hb : Sz 80 b) (b0 : 0 < b) (c0 : 0 < c) (c1 : c ≤ 1000000000) (hg : g = 1 ∨ g = -1) : OkT 200 (t * c * g, b * c * g) := by
  have sc : Sz 30 c := by unfold Sz; omega
  have sg : Sz 1 g := by unfold Sz; omega
  exact ⟨Int.mul_ne_zero (Int.mul_ne_zero (by omega) (by omega)) (by omega), ((ht.mul sc).mul sg).mono (by decide), ((hb.mul sc).mul sg).mono (by decide)⟩
theorem ok_raw {f fP : Addr} {fd fdP : FuncData} (F : Fun K "_law_raw" "_law_raw" lRaw f fd) (B : Blt mg) (L : DefsL P w K mg base) (GP : FnOk P w K mg base CX0 2 fP fdP ["_law_pot_here", "_law_some"] SpPick) (mP : mg "_law_pick" = some (.ref fP)) (kP : PySem.W.keepIn K (.ref fP) = true) (bP : Binds K fdP ["_law_pot_here", "_law_some"] []) :
    FnOk P w K mg base CX0 3 f fd ["_law_pot_here"] SpRaw := by
  refine F.ok scRaw (fun vs H Q E h => ?_) (fun cdv A outer s H vs Q E hr h => ?_)
  · obtain ⟨pot, rfl, _⟩ := h
    rfl
  · obtain ⟨pot, rfl, hp, k⟩ := h
    have hr1 : Room 1 _ := hr.mono (by decide)
    refine ⟨_, pss_cons (ps_set (i := 1) scRaw.nd rfl (Or.inl rfl) (pe_op op_sub (pe_call L.GD hr1 (by rfl) L.mD L.kD L.bD .nil pass0 (pa_cons (pv 0) (pa_cons pe_int pa_nil))) pe_int))
      (pss_cons (ps_set (i := 2) scRaw.nd rfl (Or.inl rfl) (pe_op op_add pe_int (pe_call L.GD hr1 (by rfl) L.mD L.kD L.bD .nil pass0 (pa_cons (pv 0) (pa_cons pe_int pa_nil)))))
      (pss_cons (ps_if (pt_cmpR op_eq (pe_call L.GD hr1 (by rfl) L.mD L.kD L.bD .nil pass0 (pa_cons (pv 0) (pa_cons pe_int pa_nil))) pe_int (nomark _))
        (pss_cons (ps_set (i := 1) scRaw.nd rfl (Or.inl rfl) (pe_op op_add (pe_op op_mul (pv 1) (pe_op op_pow pe_int pe_int)) (pe_call L.GD hr1 (by rfl) L.mD L.kD L.bD .nil pass0 (pa_cons (pv 0) (pa_cons pe_int pa_nil)))))
        (pss_one (ps_set (i := 2) scRaw.nd rfl (Or.inl rfl) (pe_op op_add (pe_op op_add (pe_op op_mul (pv 2) (pe_op op_pow pe_int pe_int)) (pe_call L.GD hr1 (by rfl) L.mD L.kD L.bD .nil pass0 (pa_cons (pv 0) (pa_cons pe_int pa_nil)))) pe_int)))) pss_nil)
      (pss_cons (ps_set (i := 3) scRaw.nd rfl (Or.inl rfl) (pe_call GP hr (by rfl) mP kP bP .nil pass0 (pa_cons (pv 0) (pa_cons (pe_lst (pa_cons pe_int (pa_cons pe_int (pa_cons pe_int (pa_cons (pe_op op_pow pe_int pe_int) pa_nil))))) pa_nil))))
      (pss_cons (ps_set (i := 4) scRaw.nd rfl (Or.inl rfl) (pe_call GP hr (by rfl) mP kP bP .nil pass0 (pa_cons (pv 0) (pa_cons (pe_lst (pa_cons pe_int (pa_cons (pe_un un_neg pe_int) pa_nil))) pa_nil))))
      (pss_one (ps_ret (pe_tup (pa_cons (pe_op op_mul (pe_op op_mul (pv 1) (pv 3)) (pv 4)) (pa_cons (pe_op op_mul (pe_op op_mul (pv 2) (pv 3)) (pv 4)) pa_nil))))))))), ?_⟩
    have cp6 : CPow 10007 6 := ⟨by decide, by decide, by decide⟩
    have cp20 : CPow 10 20 := ⟨by decide, by decide, by decide⟩
    have cp9 : CPow 10 9 := ⟨by decide, by decide, by decide⟩
    refine ⟨_, rfl, ⟨pot, 25, rfl, by decide, by decide, hp, fun H1 d1 k1 p1 a1 b1 => ?_⟩⟩
    refine ⟨_, _, rfl, rfl, ?_⟩
    refine ⟨_, rfl, ⟨pot, 12, rfl, by decide, by decide, p1, fun H2 d2 k2 p2 a2 b2 => ?_⟩⟩
    refine ⟨_, _, rfl, rfl, ?_⟩
    refine ⟨_, rfl, ⟨pot, 3, rfl, by decide, by decide, p2, fun H3 d3 k3 p3 a3 b3 => ?_⟩⟩
    refine ⟨rfl, _, rfl, ite2 (fun e => ?_) (fun e => ?_)⟩
    · refine ⟨_, rfl, _, _, rfl, rfl, cp6, _, _, rfl, rfl, .inl ⟨by omega, by omega⟩, ?_⟩
      refine ⟨_, rfl, ⟨pot, 9, rfl, by decide, by decide, p3, fun H4 d4 k4 p4 a4 b4 => ?_⟩⟩
      refine ⟨_, _, rfl, rfl, ?_⟩
      refine ⟨_, rfl, _, _, rfl, rfl, cp20, _, _, rfl, rfl, .inl ⟨by omega, by omega⟩, ?_⟩
      refine ⟨_, rfl, ⟨pot, 9, rfl, by decide, by decide, p4, fun HX d5 k5 pX a5 b5 => ?_⟩⟩
      refine ⟨_, _, rfl, rfl, _, _, rfl, rfl, ?_⟩
      have kX : Keep pot H HX := (((k1.trans k2).trans k3).trans k4).trans k5
      have sT : Sz 90 ((d1 - 12) * 10007 ^ (6 : Int).toNat + d4) := by
        unfold Sz
        rw [show ((10007 : Int) ^ (6 : Int).toNat) = 1004207356863602508537649 from by decide]
        omega
      have bP : 0 < (1 + d2) * 10 ^ (20 : Int).toNat + d5 + 1 := by
        rw [show ((10 : Int) ^ (20 : Int).toNat) = 100000000000000000000 from by decide]
        omega
      have sB : Sz 80 ((1 + d2) * 10 ^ (20 : Int).toNat + d5 + 1) := by
        unfold Sz
        rw [show ((10 : Int) ^ (20 : Int).toNat) = 100000000000000000000 from by decide]
        omega
      refine ⟨_, rfl, _, _, rfl, rfl, cp9, line_ok (by decide), fun l hl => ⟨pot, l, _, rfl, pX.ne_new hl, upd_same, by decide, by decide, pX.same (same_new hl), fun H5 d x k5 p5 hx => ?_⟩⟩
      obtain ⟨c, rfl, c0, c1⟩ := common_of hx
      refine ⟨_, rfl, 1, rfl, line_ok (by decide), fun l2 hl2 => ⟨pot, l2, _, rfl, p5.ne_new hl2, upd_same, by decide, by decide, p5.same (same_new hl2), fun H6 d' x' k6 p6 hx' => ?_⟩⟩
      obtain ⟨g, rfl, hg⟩ := sign_of hx'
      have m1 : ∀ y : Int, CMul y c := fun y => .inr ⟨by omega, by omega⟩
      have m2 : ∀ y : Int, CMul y g := fun y => .inr ⟨by omega, by omega⟩
      refine ⟨_, rfl, _, rfl, _, _, rfl, rfl, m1 _, _, rfl, _, _, rfl, rfl, m2 _, ?_⟩
      refine ⟨_, rfl, _, rfl, _, _, rfl, rfl, m1 _, _, rfl, _, _, rfl, rfl, m2 _, two_line, fun t ht => ?_⟩
      have kk := ((kX.trans (Keep.of (same_new hl))).trans k5).trans ((Keep.of (same_new hl2)).trans k6)
      exact k _ t (_, _) (kk.trans (Keep.of (same_new ht))) (p6.same (same_new ht)) (keep_free kk hp ht p6) upd_same (raw_ok sT sB bP c0 c1 hg)
    · have kX : Keep pot H H3 := (k1.trans k2).trans k3
      have pX := p3
      have sT : Sz 90 (d1 - 12) := by unfold Sz; omega
      have bP : 0 < 1 + d2 := by omega
      have sB : Sz 80 (1 + d2) := by unfold Sz; omega
      refine ⟨_, rfl, _, _, rfl, rfl, cp9, line_ok (by decide), fun l hl => ⟨pot, l, _, rfl, pX.ne_new hl, upd_same, by decide, by decide, pX.same (same_new hl), fun H5 d x k5 p5 hx => ?_⟩⟩
      obtain ⟨c, rfl, c0, c1⟩ := common_of hx
      refine ⟨_, rfl, 1, rfl, line_ok (by decide), fun l2 hl2 => ⟨pot, l2, _, rfl, p5.ne_new hl2, upd_same, by decide, by decide, p5.same (same_new hl2), fun H6 d' x' k6 p6 hx' => ?_⟩⟩
      obtain ⟨g, rfl, hg⟩ := sign_of hx'
      have m1 : ∀ y : Int, CMul y c := fun y => .inr ⟨by omega, by omega⟩
      have m2 : ∀ y : Int, CMul y g := fun y => .inr ⟨by omega, by omega⟩
      refine ⟨_, rfl, _, rfl, _, _, rfl, rfl, m1 _, _, rfl, _, _, rfl, rfl, m2 _, ?_⟩
      refine ⟨_, rfl, _, rfl, _, _, rfl, rfl, m1 _, _, rfl, _, _, rfl, rfl, m2 _, two_line, fun t ht => ?_⟩
      have kk := ((kX.trans (Keep.of (same_new hl))).trans k5).trans ((Keep.of (same_new hl2)).trans k6)
      exact k _ t (_, _) (kk.trans (Keep.of (same_new ht))) (p6.same (same_new ht)) (keep_free kk hp ht p6) upd_same (raw_ok sT sB bP c0 c1 hg)
end
end RQ

set_option Elab.async false
set_option linter.all false
set_option maxRecDepth 100000
set_option maxHeartbeats 4000000
/-! All that stands behind the top; one number held against the law's own steps. -/
namespace RQ
open PySem L2 ClX
structure FnD (P : Program) (w : World) (K : PySem.W.Frag) (mg : Str → Option Value) (base : Heap) (x : Str) (ps : List Str) (k : Nat) (sp : Sp) where
  f : Addr
  fd : FuncData
  G : FnOk P w K mg base CX0 k f fd ps sp
  m : mg x = some (.ref f)
  kp : PySem.W.keepIn K (.ref f) = true
  b : Binds K fd ps []
/-- a method, or a special one -/
structure MtD (P : Program) (w : World) (K : PySem.W.Frag) (mg : Str → Option Value) (base : Heap) (C : Addr) (x : Str) (ps : List Str) (k : Nat) (sp : Sp) where
  f : Addr
  fd : FuncData
  G : FnOk P w K mg base CX0 k f fd ps sp
  m : Meth K C x f
  b : Binds K fd ps []
structure PrD (P : Program) (w : World) (K : PySem.W.Frag) (mg : Str → Option Value) (base : Heap) (C : Addr) (x : Str) (sp : Sp) where
  p : Addr
  f : Addr
  fd : FuncData
  G : FnOk P w K mg base CX0 1 f fd ["self"] sp
  h : PropOf K C x p f
  b : Binds K fd ["self"] []
structure Lib (P : Program) (w : World) (K : PySem.W.Frag) (mg : Str → Option Value) (base : Heap) (C : Addr) where
  D : DefsP P w K mg base C
  nN : FnD P w K mg base "is_number" ["value"] 2 (SpIsNumber K C)
  nC : FnD P w K mg base "is_count" ["value"] 2 (SpIsCount K)
  pS : PrD P w K mg base C "sign" (SpSign C)
  pW : PrD P w K mg base C "is_whole" (SpWhole C)
  mAdd : MtD P w K mg base C "__add__" ["self", "other"] 4 (SpTwo C add any_)
  mSub : MtD P w K mg base C "__sub__" ["self", "other"] 4 (SpTwo C sub any_)
  mMul : MtD P w K mg base C "__mul__" ["self", "other"] 4 (SpTwo C mul any_)
  mRadd : MtD P w K mg base C "__radd__" ["self", "other"] 5 (SpTwo C add any_)
  mRsub : MtD P w K mg base C "__rsub__" ["self", "other"] 5 (SpTwo C (fun p q => add (neg p) q) any_)
  mRmul : MtD P w K mg base C "__rmul__" ["self", "other"] 5 (SpTwo C mul any_)
  cAdd : BinC K C mAdd.f mRadd.f "add"
  cSub : BinC K C mSub.f mRsub.f "sub"
  cMul : BinC K C mMul.f mRmul.f "mul"
  mNeg : MtD P w K mg base C "__neg__" ["self"] 4 (SpOne C neg)
  cNeg : OneC K C mNeg.f "__neg__"
  mEq : MtD P w K mg base C "__eq__" ["self", "other"] 1 (SpEq C)
  cEq : EqC K C mEq.f
  mStr : MtD P w K mg base C "__str__" ["self"] 1 (SpText C shown)
  cStr : OneC K C mStr.f "__str__"
  mRepr : MtD P w K mg base C "__repr__" ["self"] 1 (SpText C told)
  cRepr : OneC K C mRepr.f "__repr__"
  mOver : MtD P w K mg base C "over" ["self", "other"] 4 (SpTwo C over fun q => q.1 ≠ 0)
  kOver : KBn K mOver.fd ["self", "other"] 1 ["other"] (fun us ws => us ++ ws) (fun vs zs => vs ++ zs)
  mUns : MtD P w K mg base C "unsigned" ["self"] 4 (SpOne C fun p => low (if p.1 < 0 then -p.1 else p.1) p.2)
  mBelow : MtD P w K mg base C "is_below" ["self", "other"] 4 (SpTest C fun p q => decide (p.1 * q.2 < q.1 * p.2))
  mMost : MtD P w K mg base C "is_at_most" ["self", "other"] 4 (SpTest C fun p q => decide (p.1 * q.2 ≤ q.1 * p.2))
  k0 : KBn K D.fd0 ["self", "top", "bottom"] 1 ["top", "bottom"] (fun us ws => us ++ ws) (fun vs zs => vs ++ zs)
  mc : Value
  rd : CRead K C mc
  tp : Addr
  fT : Addr
  fdT : FuncData
  GT : FnOk P w K mg base CX0 4 fT fdT ["cls", "numbers"] (SpTotal K C)
  cT : CMet K C mc "total" tp fT
  bT : Binds K fdT ["cls", "numbers"] []
  kT : KBn K fdT ["cls", "numbers"] 1 ["numbers"] (fun us ws => us ++ ws) (fun vs zs => vs ++ zs)
  lDraw : FnD P w K mg base "_law_draw" ["_law_pot_here", "_law_size"] 1 SpDraw
  lPick : FnD P w K mg base "_law_pick" ["_law_pot_here", "_law_some"] 2 SpPick
  lLow : FnD P w K mg base "_law_low" ["_law_top", "_law_bottom"] 1 SpLow
  lSum : FnD P w K mg base "_law_sum" nTwo 2 (SpPT add any_)
  lBy : FnD P w K mg base "_law_by" nTwo 2 (SpPT mul any_)
  lLess : FnD P w K mg base "_law_less" nTwo 3 (SpPT (fun p q => add p (0 - q.1, q.2)) any_)
  lOver : FnD P w K mg base "_law_over" nTwo 2 (SpPT over fun q => q.1 ≠ 0)
  lTotal : FnD P w K mg base "_law_total" ["_law_pairs_here"] 3 (SpLTotal K)
  lPair : FnD P w K mg base "_law_pair" ["_law_value"] 3 (SpPair C)
  lPairs : FnD P w K mg base "_law_pairs" ["_law_value"] 4 (SpPairs C)
  lShown : FnD P w K mg base "_law_shown" ["_law_pair_here"] 1 SpShown
  lRaw : FnD P w K mg base "_law_raw" ["_law_pot_here"] 3 SpRaw

/-- a fraction is made, whatever is wanted behind it -/
theorem madeR {C : Addr} {H : Hp} {R : VK} {E : XK} {t b : Int} (hb : b ≠ 0) (hz : Sz 8000 b) (x dx : Addr) (nx : H x = none) (nd : H dx = none) (k : ∀ H', Same H H' → RAt C H' x (low t b) → R .non H') :
    SpInit C [.ref x, .int t, .int b] (upd (upd H dx (.own x)) x (.ins C dx [])) R E := by
  refine ⟨x, dx, t, b, rfl, hb, hz, upd_same, k _ ?_ ⟨dx, upd_same⟩⟩
  intro c o e
  rw [upd_ne (ne_of_none e nx), upd_ne (ne_of_none e nx), upd_ne (ne_of_none e nd)]
  exact e

/-! ### data told apart, alike -/
abbrev dp (p : Fr) : PyData := .tuple [.int p.1, .int p.2]
section
variable {K : PySem.W.Frag} {H : Hp}
theorem TAt.dp {t : Addr} {p : Fr} (h : TAt H t p) : Dp K H (.ref t) (dp p) := .tup (SqT.of h) (.cons (.int _) (.cons (.int _) .nil))
theorem ne_same {x y : V} {d : PyData} {Q : VK} (hx : Dp K H x d) (hy : Dp K H y d) (hs : SeqAt.shaped d = true) (q : Q (.bl false) H) : rNeD K x y H Q := by
  refine ⟨d, d, hx, hy, hs, hs, ?_⟩
  rw [SeqAt.eqv_refl d (SeqAt.canLay_of_shaped hs)]
  exact q
theorem eq_same {x y : V} {d : PyData} {Q : VK} (hx : Dp K H x d) (hy : Dp K H y d) (hs : SeqAt.shaped d = true) (q : Q (.bl true) H) : rEqD K x y H Q := by
  refine ⟨d, d, hx, hy, hs, hs, ?_⟩
  rw [SeqAt.eqv_refl d (SeqAt.canLay_of_shaped hs)]
  exact q
theorem shaped_p (p : Fr) : SeqAt.shaped (dp p) = true := rfl
theorem ne_str {x : Str} {Q : VK} (q : Q (.bl false) H) : rNe (.str x) (.str x) H Q := by
  refine ⟨rfl, ?_⟩
  rw [decide_eq_true rfl]
  exact q
end
end RQ

set_option Elab.async false
set_option linter.all false
set_option maxRecDepth 100000
set_option maxHeartbeats 4000000
/-! One number held against the law's own steps. -/
namespace RQ
open PySem L2 ClX
/-- the sign that is told -/
def sg (i : Int) : Int := if i = 0 then 0 else if 0 < i then 1 else -1
theorem sg_or (i : Int) : sg i = 0 ∨ sg i = 1 ∨ sg i = -1 := by
  unfold sg
  by_cases h : i = 0
  · exact .inl (if_pos h)
  · rw [if_neg h]
    by_cases h' : 0 < i
    · exact .inr (.inl (if_pos h'))
    · exact .inr (.inr (if_neg h'))
theorem sg_data {i : Int} (h : i = 0 ∨ i = 1 ∨ i = -1) (b : Bool) : (PyData.list [.int i, .bool b]).showable = true ∧ (PyData.list [.int i, .bool b]).hasDict = false ∧ (PyData.list [.int i, .bool b]).depth ≤ 60 ∧ (PyData.list [.int i, .bool b]).shown.length ≤ sizeLine := by
  rcases h with rfl | rfl | rfl <;> cases b <;> exact ⟨rfl, rfl, by decide, by decide +kernel⟩
section
variable {P : Program} {w : World} {K : PySem.W.Frag} {mg : Str → Option Value} {base : Heap} {C : Addr}
theorem sign_te {K : PySem.W.Frag} {σ : L2.St} {H : Hp} {Q : VK} {u : Addr} {p : Fr} (hs : σ[2]? = some (some (.ref u))) (hu : TAt H u p) (k : Q (.int (sg p.1)) H) :
    tIf (tTest (tOp rEq (tOp (rIxT K) (tVar 2) (tC (.int 0))) (tC (.int 0)))) (tC (.int 0))
      (tIf (tTest (tOp (rI0 fun i j => .bl (decide (j < i))) (tOp (rIxT K) (tVar 2) (tC (.int 0))) (tC (.int 0)))) (tC (.int 1)) (tUn (rU fun i => .int (-i)) (tC (.int 1)))) σ H Q := by
  refine ⟨_, hs, u, _, _, _, rfl, rfl, SqT.of hu, zero_at, rfl, _, rfl, ?_⟩
  rw [dec_int]
  unfold sg at k
  refine ite2 (fun e => ?_) (fun e => ?_)
  · rw [if_pos (of_decide_eq_true e)] at k
    exact k
  · rw [if_neg fun z => e (decide_eq_true z)] at k
    refine ⟨_, hs, u, _, _, _, rfl, rfl, SqT.of hu, zero_at, _, _, rfl, rfl, _, rfl, ite2 (fun e => ?_) (fun e => ?_)⟩
    · rw [if_pos (of_decide_eq_true e)] at k
      exact k
    · rw [if_neg fun z => e (decide_eq_true z)] at k
      exact ⟨1, rfl, k⟩
theorem rf_none {p : Fr} {m : Str} (h1 : (m == ("_top" : Str)) = false) (h2 : (m == ("_bottom" : Str)) = false) : (rf p).lookup m = none := by
  show List.lookup m (("_top", V.int p.1) :: [("_bottom", V.int p.2)]) = none
  rw [List.lookup_cons, h1]
  show List.lookup m (("_bottom", V.int p.2) :: []) = none
  rw [List.lookup_cons, h2]
  rfl
theorem ok_one (i : Int) (h : Sz 1000 i) : OkF 1000 (i, 1) := ⟨red_one i, h, by unfold Sz; exact Nat.one_lt_two_pow (by decide)⟩
structure SpOneR (vs : List V) (H : Hp) (Q : VK) (E : XK) : Prop where
  ex : ∃ (t : Addr) (r : Fr), vs = [.ref t] ∧ TAt H t r ∧ OkT 250 r ∧ ∀ H', Same H H' → Q (.bl true) H'
abbrev nOneR : List Str := ["_law_raw_here", "_law_made", "_law_pair_here", "_law_sign"]
theorem scOneR : FnScope nOneR ["_law_raw_here"] (defScope lOne) := ⟨rfl, rfl, rfl, by decide +kernel, rfl, by decide +kernel, by decide +kernel⟩
theorem ok_oneR {f : Addr} {fd : FuncData} (F : Fun K "_law_one_right" "_law_one_right" lOne f fd) (L : Lib P w K mg base C) : FnG P w K mg base 6 f fd ["_law_raw_here"] SpOneR := by
  refine okG F scOneR (fun vs H Q E h => ?_) (fun cdv A outer s H vs Q E hgd hr h => ?_)
  · obtain ⟨t, r, rfl, _⟩ := h
    rfl
  · obtain ⟨t, r, rfl, ht, hr0, k⟩ := h
    have D := L.D
    have R := L.D.R
    have B := L.D.B
    have r1 : Room 1 _ := hr.mono (by decide)
    have r2 : Room 2 _ := hr.mono (by decide)
    have r3 : Room 3 _ := hr.mono (by decide)
    have r4 : Room 4 _ := hr.mono (by decide)
    have hu := hr.units
    refine ⟨_, PSs.nox (pss_cons (ps_par (i := 1) (j := 2) rfl scOneR.nd rfl rfl (by decide) rfl rfl (pa_cons (pe_make L.D.M L.D.G0 r3 rfl R.mg_ L.D.b0 .nil pass0 (pa_cons (pe_ix ix_tup (pv 0) pe_int (fun _ _ => rfl)) (pa_cons (pe_ix ix_tup (pv 0) pe_int (fun _ _ => rfl)) pa_nil)))
        (pa_cons (pe_call L.lLow.G r1 (by rfl) L.lLow.m L.lLow.kp L.lLow.b .nil pass0 (pa_cons (pe_ix ix_tup (pv 0) pe_int (fun _ _ => rfl)) (pa_cons (pe_ix ix_tup (pv 0) pe_int (fun _ _ => rfl)) pa_nil))) pa_nil)) (by rfl))
      (pss_cons (ps_if (pw_or (pt_cmpR (op_neD hu) (pe_call L.lPair.G r3 (by rfl) L.lPair.m L.lPair.kp L.lPair.b .nil pass0 (pa_cons (pv 1) pa_nil)) (pv 2) (nomark _))
          (pw_or1 (pt_cmpR op_ne (pe_callTy (call_strI L.cStr (raw0 L.mStr.G L.mStr.b) r3 (E := E0) pass0) (by rfl) B.str PyProof.Rows.boot_str (pa_cons (pv 1) pa_nil)) (pe_call L.lShown.G r1 (by rfl) L.lShown.m L.lShown.kp L.lShown.b .nil pass0 (pa_cons (pv 2) pa_nil)) (nomark _)))).pt (pss_one ps_never) pss_nil)
      (pss_cons (ps_if (pt_cmpR op_ne (pe_callB (call_reprI L.cRepr (raw0 L.mRepr.G L.mRepr.b) r2 (E := E0) pass0) (by rfl) B.repr PyProof.Rows.boot_repr (pa_cons (pv 1) pa_nil))
          (pe_op op_add_str (pe_op op_add_str (pe_op op_add_str (pe_op op_add_str pe_str (pe_callTy call_str_int (by rfl) B.str PyProof.Rows.boot_str (pa_cons (pe_ix ix_tup (pv 2) pe_int (fun _ _ => rfl)) pa_nil))) pe_str) (pe_callTy call_str_int (by rfl) B.str PyProof.Rows.boot_str (pa_cons (pe_ix ix_tup (pv 2) pe_int (fun _ _ => rfl)) pa_nil))) pe_str) (nomark _)) (pss_one ps_never) pss_nil)
      (pss_cons (ps_set (i := 3) scOneR.nd rfl (Or.inl rfl) (pe_ifExp (pt_cmpR op_eq (pe_ix ix_tup (pv 2) pe_int (fun _ _ => rfl)) pe_int (nomark _)) pe_int (pe_ifExp (pt_cmpR op_gt (pe_ix ix_tup (pv 2) pe_int (fun _ _ => rfl)) pe_int (nomark _)) pe_int (pe_un un_neg pe_int))))
      (pss_cons (ps_if (pt_cmpR op_ne (pe_callB (call_reprD hgd hu) (by rfl) B.repr PyProof.Rows.boot_repr (pa_cons (pe_lst (pa_cons (pe_prop (pv 1) R.cl L.pS.h L.pS.G r2 L.pS.b .nil pass0 rfl) (pa_cons (pe_prop (pv 1) R.cl L.pW.h L.pW.G r2 L.pW.b .nil pass0 rfl) pa_nil))) pa_nil))
          (pe_callB (call_reprD hgd hu) (by rfl) B.repr PyProof.Rows.boot_repr (pa_cons (pe_lst (pa_cons (pv 3) (pa_cons (pe_cmpR op_eq (pe_ix ix_tup (pv 2) pe_int (fun _ _ => rfl)) pe_int (nomark _)) pa_nil))) pa_nil)) (nomark _)) (pss_one ps_never) pss_nil)
      (pss_cons (ps_if (pt_cmpR (op_neD hu) (pe_call L.lPair.G r3 (by rfl) L.lPair.m L.lPair.kp L.lPair.b .nil pass0 (pa_cons (pe_meth0 (pv 1) R.cl L.mUns.m L.mUns.G r4 L.mUns.b .nil pass0) pa_nil)) (pe_tup (pa_cons (pe_callB call_abs (by rfl) B.abs (by decide +kernel) (pa_cons (pe_ix ix_tup (pv 2) pe_int (fun _ _ => rfl)) pa_nil)) (pa_cons (pe_ix ix_tup (pv 2) pe_int (fun _ _ => rfl)) pa_nil))) (nomark _)) (pss_one ps_never) pss_nil)
      (pss_cons (ps_if (pw_or (pt_cmpR (op_neD hu) (pe_call L.lPair.G r3 (by rfl) L.lPair.m L.lPair.kp L.lPair.b .nil pass0 (pa_cons (pe_op (op_insR (nm := "sub") rfl L.cSub PySem.F.fills_int_sub PySem.F.slot_int_sub PySem.F.entry_int_sub PySem.F.args_int_sub_2 dec_sub (raw0 L.mRsub.G L.mRsub.b) hr (E := E0) pass0) pe_int (pv 1)) pa_nil)) (pe_tup (pa_cons (pe_op op_sub pe_int (pe_ix ix_tup (pv 2) pe_int (fun _ _ => rfl))) (pa_cons (pe_ix ix_tup (pv 2) pe_int (fun _ _ => rfl)) pa_nil))) (nomark _))
          (pw_or1 (pt_cmpR (op_neD hu) (pe_call L.lPair.G r3 (by rfl) L.lPair.m L.lPair.kp L.lPair.b .nil pass0 (pa_cons (pe_un (un_insN L.cNeg (raw0 L.mNeg.G L.mNeg.b) r4 (E := E0) pass0) (pv 1)) pa_nil)) (pe_tup (pa_cons (pe_op op_sub pe_int (pe_ix ix_tup (pv 2) pe_int (fun _ _ => rfl))) (pa_cons (pe_ix ix_tup (pv 2) pe_int (fun _ _ => rfl)) pa_nil))) (nomark _)))).pt (pss_one ps_never) pss_nil)
      (pss_cons (ps_if (pt_cmpR (op_neD hu) (pe_lst (pa_cons (pe_call L.nN.G r2 (by rfl) L.nN.m L.nN.kp L.nN.b .nil pass0 (pa_cons (pv 1) pa_nil)) (pa_cons (pe_call L.D.GI r1 (by rfl) L.D.mI L.D.kI L.D.bI .nil pass0 (pa_cons (pv 1) pa_nil)) (pa_cons (pe_call L.nC.G r2 (by rfl) L.nC.m L.nC.kp L.nC.b .nil pass0 (pa_cons (pv 1) pa_nil)) pa_nil)))) (pe_lst (pa_cons pe_bl (pa_cons pe_bl (pa_cons pe_bl pa_nil)))) (nomark _)) (pss_one ps_never) pss_nil)
      (pss_one (ps_ret (pe_cmpR (op_eqD hu) (pe_call L.lPair.G r3 (by rfl) L.lPair.m L.lPair.kp L.lPair.b .nil pass0 (pa_cons (pe_makeK0 L.D.M L.D.G0 r3 (by rfl) R.mg_ L.k0 pass0 (pk_cons (pe_ix ix_tup (pv 0) pe_int (fun _ _ => rfl)) (pk_cons (pe_ix ix_tup (pv 0) pe_int (fun _ _ => rfl)) pk_nil))) pa_nil)) (pv 2) (nomark _)))))))))))), ?_⟩
    have hp : OkF 250 (low r.1 r.2) := hr0.low
    generalize ep : low r.1 r.2 = p at hp
    have hp1 : OkF 1000 p := hp.mono (by decide)
    -- made, pair
    refine ⟨_, rfl, t, _, _, _, rfl, rfl, SqT.of ht, zero_at, _, rfl, t, _, _, _, rfl, rfl, SqT.of ht, one_at, fun m dx nm nd ne => madeR hr0.ne (hr0.sb.mono (by decide)) m dx nm nd fun H1 s1 hm => ⟨rfl, ?_⟩⟩
    refine ⟨_, rfl, t, _, _, _, rfl, rfl, SqT.of (s1 _ _ ht), zero_at, _, rfl, t, _, _, _, rfl, rfl, SqT.of (s1 _ _ ht), one_at, ⟨r.1, r.2, rfl, hr0.ne, hr0.sb.mono (by decide), fun H2 u s2 nu hu2 => ?_⟩⟩
    rw [ep] at hm hu2
    refine ⟨_, _, rfl, ?_⟩
    have hm2 := hm.same s2
    -- pair(made) != pair
    refine ⟨_, rfl, ⟨m, p, rfl, hm2, fun H3 y s3 ny hy => ?_⟩⟩
    have hu3 := hu2.same s3
    have hm3 := hm2.same s3
    refine ⟨_, rfl, ne_same hy.dp hu3.dp (shaped_p p) ⟨false, rfl, iteF ?_⟩⟩
    -- str(made) != shown(pair)
    obtain ⟨dm, em⟩ := id hm3
    refine ⟨_, rfl, m, dm, _, rfl, em, ⟨m, p, rfl, hm3, hp1, _, rfl, ?_⟩⟩
    refine ⟨_, rfl, ⟨u, p, rfl, hu3, hp1, ne_str ⟨false, rfl, iteF ?_⟩⟩⟩
    have l1 := num_len hp1.st
    have l2 := num_len hp1.sb
    -- repr(made) != "Ratio(" + ..
    refine ⟨_, rfl, m, dm, _, rfl, em, ⟨m, p, rfl, hm3, hp1, _, rfl, ?_⟩⟩
    refine ⟨_, rfl, u, _, _, _, rfl, rfl, SqT.of hu3, zero_at, _, rfl, lg hp1.st, _, _, rfl, rfl, line_ok (by show 6 + (num p.1).length ≤ _; omega), _, _, rfl, rfl, line_ok (by rw [len_app]; show 6 + (num p.1).length + 2 ≤ _; omega), ?_⟩
    refine ⟨_, rfl, u, _, _, _, rfl, rfl, SqT.of hu3, one_at, _, rfl, lg hp1.sb, _, _, rfl, rfl, line_ok (by rw [len_app, len_app]; show 6 + (num p.1).length + 2 + (num p.2).length ≤ _; omega), _, _, rfl, rfl, line_ok (by rw [len_app, len_app, len_app]; show 6 + (num p.1).length + 2 + (num p.2).length + 1 ≤ _; omega), ?_⟩
    refine ne_str (x := told p) ⟨false, rfl, iteF ?_⟩
    -- the sign
    refine sign_te rfl hu3 ?_
    obtain ⟨g1, g2, g3, g4⟩ := sg_data (sg_or p.1) (decide (p.2 = 1))
    refine ⟨_, rfl, m, dm, _, rfl, em, ⟨m, p, rfl, hm3, ?_⟩⟩
    refine ⟨_, rfl, m, dm, _, rfl, em, ⟨m, p, rfl, hm3, two_line, fun a1 n1 => ?_⟩⟩
    have s4 := same_new (o := .lst [.int (sg p.1), .bl (decide (p.2 = 1))]) n1
    refine ⟨a1, .list [.int (sg p.1), .bool (decide (p.2 = 1))], rfl, .lst (SqL.of upd_same) (.cons (.int _) (.cons (.bl _) .nil)), g1, g2, g3, g4, ?_⟩
    refine ⟨_, rfl, _, rfl, u, _, _, _, rfl, rfl, SqT.of (s4 _ _ hu3), one_at, rfl, ?_⟩
    rw [dec_int]
    refine ⟨two_line, fun a2 n2 => ?_⟩
    have s5 := s4.trans (same_new (o := .lst [.int (sg p.1), .bl (decide (p.2 = 1))]) n2)
    refine ⟨a2, .list [.int (sg p.1), .bool (decide (p.2 = 1))], rfl, .lst (SqL.of upd_same) (.cons (.int _) (.cons (.bl _) .nil)), g1, g2, g3, g4, ne_str ⟨false, rfl, iteF ?_⟩⟩
    -- unsigned
    have s6 := ((s1.trans s2).trans s3).trans s5
    have hm6 := hm3.same s5
    have hu6 := hu3.same s5
    obtain ⟨d6, e6⟩ := id hm6
    refine ⟨_, rfl, m, d6, _, rfl, e6, rf_none (by decide +kernel) (by decide +kernel), ⟨m, p, rfl, hm6, hp1, fun H7 y7 s7 ny7 hy7 => ?_⟩⟩
    refine ⟨y7, _, rfl, hy7, fun H8 z8 s8 nz8 hz8 => ?_⟩
    have s68 := s7.trans s8
    refine ⟨_, rfl, u, _, _, _, rfl, rfl, SqT.of (s68 _ _ hu6), zero_at, _, rfl, _, rfl, u, _, _, _, rfl, rfl, SqT.of (s68 _ _ hu6), one_at, two_line, fun t8 nt8 => ?_⟩
    rw [abs_eq hp.red] at hz8
    refine ne_same (hz8.same (same_new nt8)).dp (TAt.dp (p := (if p.1 < 0 then -p.1 else p.1, p.2)) upd_same) (shaped_p _) ⟨false, rfl, iteF ?_⟩
    -- 0 - made
    have s9 := s68.trans (same_new (o := .tup [.int (if p.1 < 0 then -p.1 else p.1), .int p.2]) nt8)
    have hm9 := hm6.same s9
    have hu9 := hu6.same s9
    obtain ⟨d9, e9⟩ := id hm9
    refine ⟨_, rfl, 0, m, d9, _, rfl, rfl, e9, ⟨m, .int 0, p, (0, 1), rfl, hm9, .inr ⟨0, rfl, rfl⟩, hp1, ok_one 0 (by unfold Sz; exact Nat.two_pow_pos _), trivial, fun H10 y10 s10 ny10 hy10 => ?_⟩⟩
    refine ⟨y10, _, rfl, hy10, fun H11 z11 s11 nz11 hz11 => ?_⟩
    have s911 := s10.trans s11
    refine ⟨_, rfl, u, _, _, _, rfl, rfl, SqT.of (s911 _ _ hu9), zero_at, _, _, rfl, rfl, _, rfl, u, _, _, _, rfl, rfl, SqT.of (s911 _ _ hu9), one_at, two_line, fun t11 nt11 => ?_⟩
    rw [rsub0 hp.red, ← Int.zero_sub] at hz11
    refine ne_same (hz11.same (same_new nt11)).dp (TAt.dp (p := (0 - p.1, p.2)) upd_same) (shaped_p _) ⟨false, rfl, iteF ?_⟩
    -- -made
    have sA := s9.trans (s911.trans (same_new (o := .tup [.int (0 - p.1), .int p.2]) nt11))
    have hmA := hm6.same sA
    have huA := hu6.same sA
    obtain ⟨dA, eA⟩ := id hmA
    refine ⟨_, rfl, m, dA, _, rfl, eA, ⟨m, p, rfl, hmA, hp1, fun HB yB sB nyB hyB => ?_⟩⟩
    refine ⟨yB, _, rfl, hyB, fun HC zC sC nzC hzC => ?_⟩
    have sBC := sB.trans sC
    refine ⟨_, rfl, u, _, _, _, rfl, rfl, SqT.of (sBC _ _ huA), zero_at, _, _, rfl, rfl, _, rfl, u, _, _, _, rfl, rfl, SqT.of (sBC _ _ huA), one_at, two_line, fun tC ntC => ?_⟩
    rw [neg_eq hp.red, ← Int.zero_sub] at hzC
    refine ne_same (hzC.same (same_new ntC)).dp (TAt.dp (p := (0 - p.1, p.2)) upd_same) (shaped_p _) ⟨false, rfl, iteF ?_⟩
    have sD := sA.trans (sBC.trans (same_new (o := .tup [.int (0 - p.1), .int p.2]) ntC))
    have hmD := hm6.same sD
    have huD := hu6.same sD
    refine ⟨_, rfl, ⟨.ref m, .ref C, true, false, false, rfl, hmD.is R, R.kC, R.kI, R.kB, ?_⟩⟩
    refine ⟨_, rfl, ⟨.ref m, .ref C, false, false, rfl, hmD.is R, R.kI, R.kB, ?_⟩⟩
    refine ⟨_, rfl, ⟨.ref m, .ref C, false, false, rfl, hmD.is R, R.kI, R.kB, ?_⟩⟩
    rw [if_neg (by decide)]
    refine ⟨by decide, fun lE nlE => ?_⟩
    refine ⟨by decide, fun lF nlF => ?_⟩
    have sE := same_new (o := .lst [.bl true, .bl false, .bl false]) nlE
    have sF := same_new (o := .lst [.bl true, .bl false, .bl false]) nlF
    refine ne_same (d := .list [.bool true, .bool false, .bool false]) (.lst (SqL.of (sF _ _ upd_same)) (.cons (.bl _) (.cons (.bl _) (.cons (.bl _) .nil)))) (.lst (SqL.of upd_same) (.cons (.bl _) (.cons (.bl _) (.cons (.bl _) .nil)))) rfl ⟨false, rfl, iteF ?_⟩
    -- by keywords
    have sG := sE.trans sF
    have sDG := sD.trans sG
    refine ⟨_, rfl, t, _, _, _, rfl, rfl, SqT.of (sDG _ _ ((((s1.trans s2).trans s3).trans s5) _ _ ht)), zero_at, _, rfl, t, _, _, _, rfl, rfl, SqT.of (sDG _ _ ((((s1.trans s2).trans s3).trans s5) _ _ ht)), one_at, rfl, rfl, fun m2 dx2 nm2 nd2 ne2 => madeR hr0.ne (hr0.sb.mono (by decide)) m2 dx2 nm2 nd2 fun HH sH hH => ⟨rfl, ?_⟩⟩
    rw [ep] at hH
    refine ⟨m2, p, rfl, hH, fun HI z sI nz hz => ⟨_, rfl, ?_⟩⟩
    have hs := sDG.trans (sH.trans sI)
    exact eq_same hz.dp (hu6.same hs).dp (shaped_p _) (k _ ((((s1.trans s2).trans s3).trans s5).trans hs))
end
end RQ

set_option Elab.async false
set_option linter.all false
set_option maxRecDepth 100000
set_option maxHeartbeats 4000000
/-! Two numbers held against the law's own steps. -/
namespace RQ
open PySem L2 ClX
/-! ### what is kept beside one object -/
theorem RAt.keep {C D a : Addr} {H H' : Hp} {p : Fr} {xs : List V} (h : RAt C H a p) (hD : H D = some (.lst xs)) (k : Keep D H H') : RAt C H' a p := by
  obtain ⟨dx, e⟩ := h
  exact ⟨dx, k _ _ (ne_of e hD (by intro z; cases z)) e⟩
theorem TAt.keep {D a : Addr} {H H' : Hp} {p : Fr} {xs : List V} (h : TAt H a p) (hD : H D = some (.lst xs)) (k : Keep D H H') : TAt H' a p :=
  k _ _ (ne_of h hD (by intro z; cases z)) h
/-- all but D is kept since H, in which D was not: all of H is -/
theorem Keep.fresh {D : Addr} {H H' : Hp} (k : Keep D H H') (n : H D = none) : Same H H' := fun b o e => k b o (ne_of_none e n) e
section
variable {P : Program} {w : World} {K : PySem.W.Frag} {mg : Str → Option Value} {base : Heap} {C : Addr}
theorem insLL {C : Addr} {H : Hp} {g : Fr → Fr → Fr} {m n : Addr} {p q : Fr} {Q : VK} (hm : RAt C H m p) (hn : RAt C H n q) (hp : OkF 1000 p) (hq : OkF 1000 q) (k : New C H (g p q) Q) : rInsL C (SpTwo C g any_) E0 (.ref m) (.ref n) H Q := by
  obtain ⟨dx, e⟩ := id hm
  obtain ⟨dy, f⟩ := id hn
  exact ⟨⟨m, dx, _, rfl, e⟩, .inl ⟨n, dy, _, rfl, f⟩, ⟨m, .ref n, p, q, rfl, hm, .inl ⟨n, rfl, hn⟩, hp, hq, trivial, k⟩⟩
theorem insLi {C : Addr} {H : Hp} {g : Fr → Fr → Fr} {m : Addr} {p : Fr} {i : Int} {Q : VK} (hm : RAt C H m p) (hp : OkF 1000 p) (hq : OkF 1000 (i, 1)) (k : New C H (g p (i, 1)) Q) : rInsL C (SpTwo C g any_) E0 (.ref m) (.int i) H Q := by
  obtain ⟨dx, e⟩ := id hm
  exact ⟨⟨m, dx, _, rfl, e⟩, .inr ⟨i, rfl⟩, ⟨m, .int i, p, (i, 1), rfl, hm, .inr ⟨i, rfl, rfl⟩, hp, hq, trivial, k⟩⟩
theorem insRi {C : Addr} {H : Hp} {g : Fr → Fr → Fr} {m : Addr} {p : Fr} {i : Int} {Q : VK} (hm : RAt C H m p) (hp : OkF 1000 p) (hq : OkF 1000 (i, 1)) (k : New C H (g p (i, 1)) Q) : rInsR C (SpTwo C g any_) E0 (.int i) (.ref m) H Q := by
  obtain ⟨dx, e⟩ := id hm
  exact ⟨i, m, dx, _, rfl, rfl, e, ⟨m, .int i, p, (i, 1), rfl, hm, .inr ⟨i, rfl, rfl⟩, hp, hq, trivial, k⟩⟩
theorem dps {H : Hp} : ∀ {ts : List Addr} {ps : List Fr}, Paired (TAt H) ts ps → DpAll K H (ts.map V.ref) (ps.map dp)
  | _, _, .nil => .nil
  | _, _, .cons h t => .cons h.dp (dps t)
theorem shaped_ps (ps : List Fr) : SeqAt.shaped (.list (ps.map dp)) = true := by
  have h1 : ∀ ps : List Fr, PyData.canLayAll0 (ps.map dp) = true := fun ps => by
    induction ps with
    | nil => rfl
    | cons p r ih => exact ih
  have h2 : ∀ ps : List Fr, PyData.depthAll (ps.map dp) ≤ 1 := fun ps => by
    induction ps with
    | nil => exact Nat.zero_le _
    | cons p r ih => exact Nat.max_le.mpr ⟨Nat.le_refl _, ih⟩
  have h3 : PyData.depth (.list (ps.map dp)) ≤ 64 := by
    show PyData.depthAll (ps.map dp) + 1 ≤ 64
    have := h2 ps
    omega
  show (PyData.canLayAll0 (ps.map dp) && decide (PyData.depth (.list (ps.map dp)) ≤ 64)) = true
  rw [h1 ps, decide_eq_true h3]
  rfl
theorem eqv_dp (p q : Fr) : PyData.eqv (dp p) (dp q) = decide (p = q) := by
  obtain ⟨a, b⟩ := p
  obtain ⟨c, d⟩ := q
  show (a == c && (b == d && true)) = _
  by_cases h : a = c
  · by_cases h' : b = d
    · subst h
      subst h'
      simp
    · simp [h, h']
  · simp [h]
theorem and_never {t : TT} {r : TS} {a b : TS} {D : Ends} {rt : VK} {bk ct : L2.St → Hp → Prop} {σ : L2.St} {H : Hp} (k : ∀ G, Same H G → r D σ G) (h : (∀ G, Same H G → r D σ G) → tSeq (tIfS t a b) r D σ H) : tNext { nx := tSeq (tIfS t a b) r D, rt := rt, bk := bk, ct := ct } σ H := h k
theorem and_never1 {t : TT} {r : TS} {a b : TS} {D : Ends} {σ : L2.St} {H : Hp} (k : ∀ G, Same H G → r D σ G) (h : (∀ G, Same H G → r D σ G) → tSeq (tIfS t a b) r D σ H) : tSeq (tIfS t a b) r D σ H := h k
theorem next_ {D : Ends} {σ : L2.St} {H : Hp} (h : D.nx σ H) : tNext D σ H := h
theorem dbl {H : Hp} {a b : Bool} (h : a = b) : Dp K H (.bl a) (.bool b) := h ▸ .bl a
theorem le_nlt (a b : Int) : decide (a ≤ b) = !decide (b < a) := by
  by_cases h : a ≤ b
  · rw [decide_eq_true h, decide_eq_false (by omega)]
    rfl
  · rw [decide_eq_false h, decide_eq_true (by omega)]
    rfl
abbrev nTwoR : List Str := ["_law_raw_here", "_law_other_raw", "_law_number", "_law_made", "_law_mate", "_law_one", "_law_two", "_law_whole", "_law_told", "_law_due", "_law_below", "_law_above"]
theorem scTwoR : FnScope nTwoR ["_law_raw_here", "_law_other_raw", "_law_number"] (defScope lTwo) := ⟨rfl, rfl, rfl, by decide +kernel, rfl, by decide +kernel, by decide +kernel⟩
structure SpTwoR (vs : List V) (H : Hp) (Q : VK) (E : XK) : Prop where
  ex : ∃ (t u : Addr) (r s : Fr) (n : Int), vs = [.ref t, .ref u, .int n] ∧ TAt H t r ∧ TAt H u s ∧ OkT 250 r ∧ OkT 250 s ∧ OkF 250 (n, 1) ∧ ∀ H', Same H H' → Q (.bl true) H'
theorem ok_twoR {f : Addr} {fd : FuncData} (F : Fun K "_law_two_right" "_law_two_right" lTwo f fd) (L : Lib P w K mg base C) : FnOk P w K mg base CX0 6 f fd ["_law_raw_here", "_law_other_raw", "_law_number"] SpTwoR := by
  refine F.ok scTwoR (fun vs H Q E h => ?_) (fun cdv A outer s0 H vs Q E hr h => ?_)
  · obtain ⟨t, u, r, s, n, rfl, _⟩ := h
    rfl
  · obtain ⟨t, u, r, s, n, rfl, ht, hu0, hr0, hs0, hn0, k⟩ := h
    have D := L.D
    have R := L.D.R
    have B := L.D.B
    have r1 : Room 1 _ := hr.mono (by decide)
    have r2 : Room 2 _ := hr.mono (by decide)
    have r3 : Room 3 _ := hr.mono (by decide)
    have r4 : Room 4 _ := hr.mono (by decide)
    have r5 : Room 5 _ := hr.mono (by decide)
    have hu := hr.units
    refine ⟨_, PSs.nox (pss_cons (ps_par (i := 3) (j := 4) rfl scTwoR.nd rfl rfl (by decide) rfl rfl (pa_cons (pe_make L.D.M L.D.G0 r3 rfl R.mg_ L.D.b0 .nil pass0 (pa_cons (pe_ix ix_tup (pv 0) pe_int (fun _ _ => rfl)) (pa_cons (pe_ix ix_tup (pv 0) pe_int (fun _ _ => rfl)) pa_nil))) (pa_cons (pe_make L.D.M L.D.G0 r3 rfl R.mg_ L.D.b0 .nil pass0 (pa_cons (pe_ix ix_tup (pv 1) pe_int (fun _ _ => rfl)) (pa_cons (pe_ix ix_tup (pv 1) pe_int (fun _ _ => rfl)) pa_nil))) pa_nil)) (by rfl))
      (pss_cons (ps_par3 (i := 5) (j := 6) (l := 7) rfl scTwoR.nd rfl rfl rfl (by decide) (by decide) (by decide) rfl rfl rfl (pa_cons (pe_call L.lLow.G r1 (by rfl) L.lLow.m L.lLow.kp L.lLow.b .nil pass0 (pa_cons (pe_ix ix_tup (pv 0) pe_int (fun _ _ => rfl)) (pa_cons (pe_ix ix_tup (pv 0) pe_int (fun _ _ => rfl)) pa_nil))) (pa_cons (pe_call L.lLow.G r1 (by rfl) L.lLow.m L.lLow.kp L.lLow.b .nil pass0 (pa_cons (pe_ix ix_tup (pv 1) pe_int (fun _ _ => rfl)) (pa_cons (pe_ix ix_tup (pv 1) pe_int (fun _ _ => rfl)) pa_nil))) (pa_cons (pe_tup (pa_cons (pv 2) (pa_cons pe_int pa_nil))) pa_nil))) (by rfl))
      (pss_cons (ps_set (i := 8) scTwoR.nd rfl (Or.inl rfl) (pe_lst (pa_cons (pe_op (op_insL (nm := "add") rfl L.cAdd int_slots.1 int_slots.2.1 (raw0 L.mAdd.G L.mAdd.b) r4 (E := E0) pass0) (pv 3) (pv 4)) (pa_cons (pe_op (op_insL (nm := "sub") rfl L.cSub int_slots.2.2.2.2.1 int_slots.2.2.2.2.2 (raw0 L.mSub.G L.mSub.b) r4 (E := E0) pass0) (pv 3) (pv 4)) (pa_cons (pe_op (op_insL (nm := "mul") rfl L.cMul int_slots.2.2.1 int_slots.2.2.2.1 (raw0 L.mMul.G L.mMul.b) r4 (E := E0) pass0) (pv 3) (pv 4)) (pa_cons (pe_op (op_insL (nm := "add") rfl L.cAdd int_slots.1 int_slots.2.1 (raw0 L.mAdd.G L.mAdd.b) r4 (E := E0) pass0) (pv 3) (pv 2)) (pa_cons (pe_op (op_insR (nm := "add") rfl L.cAdd PySem.F.fills_int_add PySem.F.slot_int_add PySem.F.entry_int_add PySem.F.args_int_add_2 dec_add (raw0 L.mRadd.G L.mRadd.b) r5 (E := E0) pass0) (pv 2) (pv 3)) (pa_cons (pe_op (op_insL (nm := "mul") rfl L.cMul int_slots.2.2.1 int_slots.2.2.2.1 (raw0 L.mMul.G L.mMul.b) r4 (E := E0) pass0) (pv 3) (pv 2)) (pa_cons (pe_op (op_insR (nm := "mul") rfl L.cMul PySem.F.fills_int_mul PySem.F.slot_int_mul PySem.F.entry_int_mul PySem.F.args_int_mul_2 dec_mul (raw0 L.mRmul.G L.mRmul.b) r5 (E := E0) pass0) (pv 2) (pv 3)) pa_nil)))))))))
      (pss_cons (ps_expr (pe_bm PySem.F.plainAttrs_list PySem.F.slot_list_extend PySem.F.type_list_extend mt_extend (pv 8) (pa_cons (pe_lst (pa_cons (pe_op (op_insR (nm := "sub") rfl L.cSub PySem.F.fills_int_sub PySem.F.slot_int_sub PySem.F.entry_int_sub PySem.F.args_int_sub_2 dec_sub (raw0 L.mRsub.G L.mRsub.b) r5 (E := E0) pass0) (pv 2) (pv 3)) (pa_cons (pe_op (op_insL (nm := "sub") rfl L.cSub int_slots.2.2.2.2.1 int_slots.2.2.2.2.2 (raw0 L.mSub.G L.mSub.b) r4 (E := E0) pass0) (pv 3) (pv 2)) pa_nil))) pa_nil)))
      (pss_cons (ps_set (i := 9) scTwoR.nd rfl (Or.inl rfl) (pe_lst (pa_cons (pe_call L.lSum.G r2 (by rfl) L.lSum.m L.lSum.kp L.lSum.b .nil pass0 (pa_cons (pv 5) (pa_cons (pv 6) pa_nil))) (pa_cons (pe_call L.lLess.G r3 (by rfl) L.lLess.m L.lLess.kp L.lLess.b .nil pass0 (pa_cons (pv 5) (pa_cons (pv 6) pa_nil))) (pa_cons (pe_call L.lBy.G r2 (by rfl) L.lBy.m L.lBy.kp L.lBy.b .nil pass0 (pa_cons (pv 5) (pa_cons (pv 6) pa_nil))) (pa_cons (pe_call L.lSum.G r2 (by rfl) L.lSum.m L.lSum.kp L.lSum.b .nil pass0 (pa_cons (pv 5) (pa_cons (pv 7) pa_nil))) (pa_cons (pe_call L.lSum.G r2 (by rfl) L.lSum.m L.lSum.kp L.lSum.b .nil pass0 (pa_cons (pv 5) (pa_cons (pv 7) pa_nil))) pa_nil)))))))
      (pss_cons (ps_expr (pe_bm PySem.F.plainAttrs_list PySem.F.slot_list_extend PySem.F.type_list_extend mt_extend (pv 9) (pa_cons (pe_lst (pa_cons (pe_call L.lBy.G r2 (by rfl) L.lBy.m L.lBy.kp L.lBy.b .nil pass0 (pa_cons (pv 5) (pa_cons (pv 7) pa_nil))) (pa_cons (pe_call L.lBy.G r2 (by rfl) L.lBy.m L.lBy.kp L.lBy.b .nil pass0 (pa_cons (pv 5) (pa_cons (pv 7) pa_nil))) (pa_cons (pe_call L.lLess.G r3 (by rfl) L.lLess.m L.lLess.kp L.lLess.b .nil pass0 (pa_cons (pv 7) (pa_cons (pv 5) pa_nil))) (pa_cons (pe_call L.lLess.G r3 (by rfl) L.lLess.m L.lLess.kp L.lLess.b .nil pass0 (pa_cons (pv 5) (pa_cons (pv 7) pa_nil))) pa_nil))))) pa_nil)))
      (pss_cons (ps_if (pt_cmpR (op_neD hu) (pe_call L.lPairs.G r4 (by rfl) L.lPairs.m L.lPairs.kp L.lPairs.b .nil pass0 (pa_cons (pv 8) pa_nil)) (pv 9) (nomark _)) (pss_one ps_never) pss_nil)
      (pss_cons (ps_if (pw_and (pt_cmpR op_ne (pe_ix ix_tup (pv 6) pe_int (fun _ _ => rfl)) pe_int (nomark _)) (pw_and1 (pt_cmpR (op_neD hu) (pe_lst (pa_cons (pe_call L.lPair.G r3 (by rfl) L.lPair.m L.lPair.kp L.lPair.b .nil pass0 (pa_cons (pe_meth (pv 3) R.cl L.mOver.m L.mOver.G r4 L.mOver.b .nil pass0 (pa_cons (pv 4) pa_nil)) pa_nil)) (pa_cons (pe_call L.lPair.G r3 (by rfl) L.lPair.m L.lPair.kp L.lPair.b .nil pass0 (pa_cons (pe_methK0 (pv 3) R.cl L.mOver.m L.mOver.G r4 L.kOver pass0 (pk_cons (pv 4) pk_nil)) pa_nil)) pa_nil))) (pe_op op_rep (pe_lst (pa_cons (pe_call L.lOver.G r2 (by rfl) L.lOver.m L.lOver.kp L.lOver.b .nil pass0 (pa_cons (pv 5) (pa_cons (pv 6) pa_nil))) pa_nil)) pe_int) (nomark _)))).pt (pss_one ps_never) pss_nil)
      (pss_cons (ps_if (pw_and (pt_cmpR op_ne (pv 2) pe_int (nomark _)) (pw_and1 (pt_cmpR (op_neD hu) (pe_call L.lPair.G r3 (by rfl) L.lPair.m L.lPair.kp L.lPair.b .nil pass0 (pa_cons (pe_meth (pv 3) R.cl L.mOver.m L.mOver.G r4 L.mOver.b .nil pass0 (pa_cons (pv 2) pa_nil)) pa_nil)) (pe_call L.lOver.G r2 (by rfl) L.lOver.m L.lOver.kp L.lOver.b .nil pass0 (pa_cons (pv 5) (pa_cons (pv 7) pa_nil))) (nomark _)))).pt (pss_one ps_never) pss_nil)
      (pss_cons (ps_set (i := 10) scTwoR.nd rfl (Or.inl rfl) (pe_cmpR op_lt (pe_op op_mulW (pe_ix ix_tup (pv 5) pe_int (fun _ _ => rfl)) (pe_ix ix_tup (pv 6) pe_int (fun _ _ => rfl))) (pe_op op_mulW (pe_ix ix_tup (pv 6) pe_int (fun _ _ => rfl)) (pe_ix ix_tup (pv 5) pe_int (fun _ _ => rfl))) (nomark _)))
      (pss_cons (ps_set (i := 8) scTwoR.nd rfl (Or.inl rfl) (pe_lst (pa_cons (pe_meth (pv 3) R.cl L.mBelow.m L.mBelow.G r4 L.mBelow.b .nil pass0 (pa_cons (pv 4) pa_nil)) (pa_cons (pe_meth (pv 4) R.cl L.mBelow.m L.mBelow.G r4 L.mBelow.b .nil pass0 (pa_cons (pv 3) pa_nil)) (pa_cons (pe_meth (pv 3) R.cl L.mMost.m L.mMost.G r4 L.mMost.b .nil pass0 (pa_cons (pv 4) pa_nil)) (pa_cons (pe_cmpR (op_eqL L.cEq (raw0 L.mEq.G L.mEq.b) r1 (E := E0) pass0) (pv 3) (pv 4) (nomark _)) (pa_cons (pe_cmpR (op_neL L.cEq (raw0 L.mEq.G L.mEq.b) r2 (E := E0) pass0) (pv 3) (pv 4) (nomark _)) pa_nil)))))))
      (pss_cons (ps_set (i := 11) scTwoR.nd rfl (Or.inl rfl) (pe_cmpR op_gt (pe_op op_mulW (pe_ix ix_tup (pv 5) pe_int (fun _ _ => rfl)) (pe_ix ix_tup (pv 6) pe_int (fun _ _ => rfl))) (pe_op op_mulW (pe_ix ix_tup (pv 6) pe_int (fun _ _ => rfl)) (pe_ix ix_tup (pv 5) pe_int (fun _ _ => rfl))) (nomark _)))
      (pss_cons (ps_if (pt_cmpR (op_neD hu) (pv 8) (pe_lst (pa_cons (pv 10) (pa_cons (pv 11) (pa_cons (pe_not (pv 11)) (pa_cons (pe_cmpR (op_eqD hu) (pv 5) (pv 6) (nomark _)) (pa_cons (pe_cmpR (op_neD hu) (pv 5) (pv 6) (nomark _)) pa_nil)))))) (nomark _)) (pss_one ps_never) pss_nil)
      (pss_cons (ps_set (i := 8) scTwoR.nd rfl (Or.inl rfl) (pe_lst (pa_cons (pe_meth (pv 3) R.cl L.mBelow.m L.mBelow.G r4 L.mBelow.b .nil pass0 (pa_cons (pv 2) pa_nil)) (pa_cons (pe_meth (pv 3) R.cl L.mMost.m L.mMost.G r4 L.mMost.b .nil pass0 (pa_cons (pv 2) pa_nil)) (pa_cons (pe_cmpR (op_eqL L.cEq (raw0 L.mEq.G L.mEq.b) r1 (E := E0) pass0) (pv 3) (pv 2) (nomark _)) (pa_cons (pe_cmpR (op_eqR L.cEq (raw0 L.mEq.G L.mEq.b) r1 (E := E0) pass0) (pv 2) (pv 3) (nomark _)) pa_nil))))))
      (pss_one (ps_ret (pe_cmpR (op_eqD hu) (pv 8) (pe_lst (pa_cons (pe_cmpR op_lt (pe_ix ix_tup (pv 5) pe_int (fun _ _ => rfl)) (pe_op op_mulW (pv 2) (pe_ix ix_tup (pv 5) pe_int (fun _ _ => rfl))) (nomark _)) (pa_cons (pe_cmpR op_le (pe_ix ix_tup (pv 5) pe_int (fun _ _ => rfl)) (pe_op op_mulW (pv 2) (pe_ix ix_tup (pv 5) pe_int (fun _ _ => rfl))) (nomark _)) (pa_cons pe_bl (pa_cons pe_bl pa_nil))))) (nomark _)))))))))))))))))), ?_⟩
    have hp : OkF 250 (low r.1 r.2) := hr0.low
    have hq : OkF 250 (low s.1 s.2) := hs0.low
    generalize ep : low r.1 r.2 = p at hp
    generalize eq : low s.1 s.2 = q at hq
    have hp1 : OkF 1000 p := hp.mono (by decide)
    have hq1 : OkF 1000 q := hq.mono (by decide)
    have hw1 : OkF 1000 (n, 1) := hn0.mono (by decide)
    have hp3 : OkT 3500 p := hp.t.mono (by decide)
    have hq3 : OkT 3500 q := hq.t.mono (by decide)
    have hw3 : OkT 3500 ((n, 1) : Fr) := hn0.t.mono (by decide)
    -- made, mate
    refine ⟨_, rfl, t, _, _, _, rfl, rfl, SqT.of ht, zero_at, _, rfl, t, _, _, _, rfl, rfl, SqT.of ht, one_at, fun m dx nm nd ne => madeR hr0.ne (hr0.sb.mono (by decide)) m dx nm nd fun H1 s1 hm1 => ⟨rfl, ?_⟩⟩
    refine ⟨_, rfl, u, _, _, _, rfl, rfl, SqT.of (s1 _ _ hu0), zero_at, _, rfl, u, _, _, _, rfl, rfl, SqT.of (s1 _ _ hu0), one_at, fun m2 dx2 nm2 nd2 ne2 => madeR hs0.ne (hs0.sb.mono (by decide)) m2 dx2 nm2 nd2 fun H2 s2 hmm2 => ⟨rfl, ?_⟩⟩
    rw [ep] at hm1
    rw [eq] at hmm2
    refine ⟨_, _, rfl, ?_⟩
    have s12 := s1.trans s2
    -- one, two, whole
    refine ⟨_, rfl, t, _, _, _, rfl, rfl, SqT.of (s12 _ _ ht), zero_at, _, rfl, t, _, _, _, rfl, rfl, SqT.of (s12 _ _ ht), one_at, ⟨r.1, r.2, rfl, hr0.ne, hr0.sb.mono (by decide), fun H3 a1 s3 na1 ha1 => ?_⟩⟩
    have s13 := s12.trans s3
    refine ⟨_, rfl, u, _, _, _, rfl, rfl, SqT.of (s13 _ _ hu0), zero_at, _, rfl, u, _, _, _, rfl, rfl, SqT.of (s13 _ _ hu0), one_at, ⟨s.1, s.2, rfl, hs0.ne, hs0.sb.mono (by decide), fun H4 a2 s4 na2 ha2 => ?_⟩⟩
    rw [ep] at ha1
    rw [eq] at ha2
    refine ⟨_, rfl, two_line, fun a3 na3 => ⟨_, _, _, rfl, ?_⟩⟩
    have s5 := same_new (o := .tup [.int n, .int 1]) na3
    have h3 : TAt (upd H4 a3 (.tup [.int n, .int 1])) a3 (n, 1) := upd_same
    have h1 := ha1.same (s4.trans s5)
    have h2 := ha2.same s5
    have hm := hm1.same (s2.trans (s3.trans (s4.trans s5)))
    have hm2 := hmm2.same (s3.trans (s4.trans s5))
    have sK := s13.trans (s4.trans s5)
    generalize upd H4 a3 (.tup [.int n, .int 1]) = G0 at h1 h2 h3 hm hm2 sK ⊢
    clear s1 s2 s3 s4 s5 s12 s13 hm1 hmm2 ha1 ha2
    -- told
    refine ⟨_, rfl, _, rfl, insLL hm hm2 hp1 hq1 fun G1 y1 b1 n1 g1 => ?_⟩
    refine ⟨_, rfl, _, rfl, insLL (hm.same b1) (hm2.same b1) hp1 hq1 fun G2 y2 b2 n2 g2 => ?_⟩
    have c2 := b1.trans b2
    refine ⟨_, rfl, _, rfl, insLL (hm.same c2) (hm2.same c2) hp1 hq1 fun G3 y3 b3 n3 g3 => ?_⟩
    have c3 := c2.trans b3
    refine ⟨_, rfl, _, rfl, insLi (hm.same c3) hp1 hw1 fun G4 y4 b4 n4 g4 => ?_⟩
    have c4 := c3.trans b4
    refine ⟨_, rfl, _, rfl, insRi (hm.same c4) hp1 hw1 fun G5 y5 b5 n5 g5 => ?_⟩
    have c5 := c4.trans b5
    refine ⟨_, rfl, _, rfl, insLi (hm.same c5) hp1 hw1 fun G6 y6 b6 n6 g6 => ?_⟩
    have c6 := c5.trans b6
    refine ⟨_, rfl, _, rfl, insRi (hm.same c6) hp1 hw1 fun G7 y7 b7 n7 g7 => ?_⟩
    have c7 := c6.trans b7
    refine ⟨by show 7 ≤ sizeLine; decide, fun D0 nD => ?_⟩
    have bD := same_new (o := .lst [.ref y1, .ref y2, .ref y3, .ref y4, .ref y5, .ref y6, .ref y7]) nD
    have hD : upd G7 D0 (.lst [.ref y1, .ref y2, .ref y3, .ref y4, .ref y5, .ref y6, .ref y7]) D0 = some (.lst [.ref y1, .ref y2, .ref y3, .ref y4, .ref y5, .ref y6, .ref y7]) := upd_same
    have cD := c7.trans bD
    have P7 : Paired (RAt C (upd G7 D0 (.lst [.ref y1, .ref y2, .ref y3, .ref y4, .ref y5, .ref y6, .ref y7]))) [y1, y2, y3, y4, y5, y6, y7] [add p q, sub p q, mul p q, add p (n, 1), add p (n, 1), mul p (n, 1), mul p (n, 1)] :=
      .cons (g1.same (b2.trans (b3.trans (b4.trans (b5.trans (b6.trans (b7.trans bD))))))) (.cons (g2.same (b3.trans (b4.trans (b5.trans (b6.trans (b7.trans bD)))))) (.cons (g3.same (b4.trans (b5.trans (b6.trans (b7.trans bD))))) (.cons (g4.same (b5.trans (b6.trans (b7.trans bD)))) (.cons (g5.same (b6.trans (b7.trans bD))) (.cons (g6.same (b7.trans bD)) (.cons (g7.same bD) .nil))))))
    generalize upd G7 D0 (.lst [.ref y1, .ref y2, .ref y3, .ref y4, .ref y5, .ref y6, .ref y7]) = G8 at hD cD P7 ⊢
    have nD0 : G0 D0 = none := c7.free nD
    clear b1 b2 b3 b4 b5 b6 b7 c2 c3 c4 c5 c6 c7 bD g1 g2 g3 g4 g5 g6 g7
    -- told.extend
    refine ⟨_, rfl, .inl ⟨rfl, _, SqL.of hD⟩, ?_⟩
    refine ⟨_, rfl, _, rfl, insRi (hm.same cD) hp1 hw1 fun G9 y8 b8 n8 g8 => ?_⟩
    refine ⟨_, rfl, _, rfl, insLi (hm.same (cD.trans b8)) hp1 hw1 fun GA y9 b9 n9 g9 => ?_⟩
    refine ⟨two_line, fun lx nlx => ?_⟩
    have bx := same_new (o := .lst [.ref y8, .ref y9]) nlx
    have cx := b8.trans (b9.trans bx)
    refine ⟨D0, lx, _, _, rfl, rfl, cx _ _ hD, upd_same, by show 9 ≤ sizeLine; decide, ?_⟩
    have kk : Keep D0 G8 (upd (upd GA lx (.lst [.ref y8, .ref y9])) D0 (.lst ([.ref y1, .ref y2, .ref y3, .ref y4, .ref y5, .ref y6, .ref y7] ++ [.ref y8, .ref y9]))) := (Keep.of cx).trans Keep.set
    have hDD : (upd (upd GA lx (.lst [.ref y8, .ref y9])) D0 (.lst ([.ref y1, .ref y2, .ref y3, .ref y4, .ref y5, .ref y6, .ref y7] ++ [.ref y8, .ref y9]))) D0 = some (.lst ([y1, y2, y3, y4, y5, y6, y7, y8, y9].map V.ref)) := upd_same
    have P2 : Paired (RAt C (upd (upd GA lx (.lst [.ref y8, .ref y9])) D0 (.lst ([.ref y1, .ref y2, .ref y3, .ref y4, .ref y5, .ref y6, .ref y7] ++ [.ref y8, .ref y9])))) [y8, y9] [add (neg p) (n, 1), sub p (n, 1)] :=
      .cons ((g8.same (b9.trans bx)).keep (cx _ _ hD) Keep.set) (.cons ((g9.same bx).keep (cx _ _ hD) Keep.set) .nil)
    have P9 := paired_app (paired_imp P7 fun _ _ z => z.keep hD kk) P2
    have cE := ((Keep.of cD).trans kk).fresh nD0
    generalize upd (upd GA lx (.lst [.ref y8, .ref y9])) D0 (.lst ([.ref y1, .ref y2, .ref y3, .ref y4, .ref y5, .ref y6, .ref y7] ++ [.ref y8, .ref y9])) = GB at kk hDD P9 cE ⊢
    rw [rsub hp.red n, sub_less, sub_less] at P9
    clear P2 P7 cx bx b8 b9 g8 g9 kk cD hD
    -- due
    have e1 := h1.same cE
    have e2 := h2.same cE
    have e3 := h3.same cE
    refine ⟨_, rfl, _, rfl, ⟨a1, a2, p, q, rfl, e1, e2, hp3, hq3, trivial, fun J1 z1 i1 nz1 f1 => ?_⟩⟩
    refine ⟨_, rfl, _, rfl, ⟨a1, a2, p, q, rfl, e1.same i1, e2.same i1, hp3, hq3, trivial, fun J2 z2 i2 nz2 f2 => ?_⟩⟩
    have j2 := i1.trans i2
    refine ⟨_, rfl, _, rfl, ⟨a1, a2, p, q, rfl, e1.same j2, e2.same j2, hp3, hq3, trivial, fun J3 z3 i3 nz3 f3 => ?_⟩⟩
    have j3 := j2.trans i3
    refine ⟨_, rfl, _, rfl, ⟨a1, a3, p, (n, 1), rfl, e1.same j3, e3.same j3, hp3, hw3, trivial, fun J4 z4 i4 nz4 f4 => ?_⟩⟩
    have j4 := j3.trans i4
    refine ⟨_, rfl, _, rfl, ⟨a1, a3, p, (n, 1), rfl, e1.same j4, e3.same j4, hp3, hw3, trivial, fun J5 z5 i5 nz5 f5 => ?_⟩⟩
    have j5 := j4.trans i5
    refine ⟨by show 5 ≤ sizeLine; decide, fun D1 nD1 => ?_⟩
    have iD := same_new (o := .lst [.ref z1, .ref z2, .ref z3, .ref z4, .ref z5]) nD1
    have hD1 : upd J5 D1 (.lst [.ref z1, .ref z2, .ref z3, .ref z4, .ref z5]) D1 = some (.lst [.ref z1, .ref z2, .ref z3, .ref z4, .ref z5]) := upd_same
    have jD := j5.trans iD
    have T5 : Paired (TAt (upd J5 D1 (.lst [.ref z1, .ref z2, .ref z3, .ref z4, .ref z5]))) [z1, z2, z3, z4, z5] [add p q, add p (0 - q.1, q.2), mul p q, add p (n, 1), add p (n, 1)] :=
      .cons (f1.same (i2.trans (i3.trans (i4.trans (i5.trans iD))))) (.cons (f2.same (i3.trans (i4.trans (i5.trans iD)))) (.cons (f3.same (i4.trans (i5.trans iD))) (.cons (f4.same (i5.trans iD)) (.cons (f5.same iD) .nil))))
    generalize upd J5 D1 (.lst [.ref z1, .ref z2, .ref z3, .ref z4, .ref z5]) = J6 at hD1 jD T5 ⊢
    have nD10 : GB D1 = none := j5.free nD1
    clear i1 i2 i3 i4 i5 j2 j3 j4 j5 iD f1 f2 f3 f4 f5
    -- due.extend
    have d1 := e1.same jD
    have d3 := e3.same jD
    refine ⟨_, rfl, .inl ⟨rfl, _, SqL.of hD1⟩, ?_⟩
    refine ⟨_, rfl, _, rfl, ⟨a1, a3, p, (n, 1), rfl, d1, d3, hp3, hw3, trivial, fun J7 z6 i6 nz6 f6 => ?_⟩⟩
    refine ⟨_, rfl, _, rfl, ⟨a1, a3, p, (n, 1), rfl, d1.same i6, d3.same i6, hp3, hw3, trivial, fun J8 z7 i7 nz7 f7 => ?_⟩⟩
    have j7 := i6.trans i7
    refine ⟨_, rfl, _, rfl, ⟨a3, a1, (n, 1), p, rfl, d3.same j7, d1.same j7, hw3, hp3, trivial, fun J9 z8 i8 nz8 f8 => ?_⟩⟩
    have j8 := j7.trans i8
    refine ⟨_, rfl, _, rfl, ⟨a1, a3, p, (n, 1), rfl, d1.same j8, d3.same j8, hp3, hw3, trivial, fun JA z9 i9 nz9 f9 => ?_⟩⟩
    have j9 := j8.trans i9
    refine ⟨by show 4 ≤ sizeLine; decide, fun ly nly => ?_⟩
    have iy := same_new (o := .lst [.ref z6, .ref z7, .ref z8, .ref z9]) nly
    have jy := j9.trans iy
    refine ⟨D1, ly, _, _, rfl, rfl, jy _ _ hD1, upd_same, by show 9 ≤ sizeLine; decide, ?_⟩
    have kk : Keep D1 J6 (upd (upd JA ly (.lst [.ref z6, .ref z7, .ref z8, .ref z9])) D1 (.lst ([.ref z1, .ref z2, .ref z3, .ref z4, .ref z5] ++ [.ref z6, .ref z7, .ref z8, .ref z9]))) := (Keep.of jy).trans Keep.set
    have hDD1 : (upd (upd JA ly (.lst [.ref z6, .ref z7, .ref z8, .ref z9])) D1 (.lst ([.ref z1, .ref z2, .ref z3, .ref z4, .ref z5] ++ [.ref z6, .ref z7, .ref z8, .ref z9]))) D1 = some (.lst ([z1, z2, z3, z4, z5, z6, z7, z8, z9].map V.ref)) := upd_same
    have T4 : Paired (TAt (upd (upd JA ly (.lst [.ref z6, .ref z7, .ref z8, .ref z9])) D1 (.lst ([.ref z1, .ref z2, .ref z3, .ref z4, .ref z5] ++ [.ref z6, .ref z7, .ref z8, .ref z9])))) [z6, z7, z8, z9] [mul p (n, 1), mul p (n, 1), add (n, 1) (0 - p.1, p.2), add p (0 - n, 1)] :=
      .cons ((f6.same (i7.trans (i8.trans (i9.trans iy)))).keep (jy _ _ hD1) Keep.set) (.cons ((f7.same (i8.trans (i9.trans iy))).keep (jy _ _ hD1) Keep.set) (.cons ((f8.same (i9.trans iy)).keep (jy _ _ hD1) Keep.set) (.cons ((f9.same iy).keep (jy _ _ hD1) Keep.set) .nil)))
    have T9 := paired_app (paired_imp T5 fun _ _ z => z.keep hD1 kk) T4
    have cF := ((Keep.of jD).trans kk).fresh nD10
    generalize upd (upd JA ly (.lst [.ref z6, .ref z7, .ref z8, .ref z9])) D1 (.lst ([.ref z1, .ref z2, .ref z3, .ref z4, .ref z5] ++ [.ref z6, .ref z7, .ref z8, .ref z9])) = G at kk hDD1 T9 cF ⊢
    clear T5 T4 kk jy iy j9 j8 j7 i6 i7 i8 i9 f6 f7 f8 f9 hD1 jD d1 d3 e1 e2 e3
    -- pairs(told) != due
    refine ⟨_, rfl, ⟨D0, _, _, rfl, cF _ _ hDD, paired_imp P9 fun _ _ z => z.same cF, by show 9 ≤ 100; decide, fun K1 lD ts v1 nlD hlD hts => ?_⟩⟩
    refine ⟨_, rfl, ne_same (.lst (SqL.of hlD) (dps hts)) (.lst (SqL.of (v1 _ _ hDD1)) (dps (paired_imp T9 fun _ _ z => z.same v1))) (shaped_ps _) ⟨false, rfl, iteF ?_⟩⟩
    have cG := cE.trans (cF.trans v1)
    clear hlD hts P9 T9 hDD hDD1
    -- over
    have i1 := h1.same cG
    have i2 := h2.same cG
    have i3 := h3.same cG
    have im := hm.same cG
    have im2 := hm2.same cG
    refine and_never ?_ ?_
    rotate_left
    · intro kk
      refine ⟨_, rfl, a2, _, _, _, rfl, rfl, SqT.of i2, zero_at, rfl, _, rfl, ite2 (fun e => ?_) (fun _ => kk _ (Same.refl _))⟩
      have hne : q.1 ≠ 0 := fun z => by
        rw [dec_int, decide_eq_true z] at e
        exact Bool.false_ne_true e
      obtain ⟨dm, em⟩ := id im
      refine ⟨_, rfl, m, dm, _, rfl, em, rf_none (by decide +kernel) (by decide +kernel), _, rfl, ⟨m, .ref m2, p, q, rfl, im, .inl ⟨m2, rfl, im2⟩, hp1, hq1, hne, fun L1 y1 l1 ny1 f1 => ?_⟩⟩
      refine ⟨y1, _, rfl, f1, fun L2 z1 l2 nz1 g1 => ?_⟩
      have l12 := l1.trans l2
      have jm := im.same l12
      obtain ⟨dm2, em2⟩ := id jm
      refine ⟨_, rfl, m, dm2, _, rfl, em2, rf_none (by decide +kernel) (by decide +kernel), _, rfl, rfl, ⟨m, .ref m2, p, q, rfl, jm, .inl ⟨m2, rfl, im2.same l12⟩, hp1, hq1, hne, fun L3 y2 l3 ny2 f2 => ?_⟩⟩
      refine ⟨y2, _, rfl, f2, fun L4 z2 l4 nz2 g2 => ?_⟩
      refine ⟨two_line, fun lA nlA => ?_⟩
      have l5 := same_new (o := .lst [.ref z1, .ref z2]) nlA
      have l15 := l12.trans (l3.trans (l4.trans l5))
      refine ⟨_, rfl, _, rfl, ⟨a1, a2, p, q, rfl, i1.same l15, i2.same l15, hp3, hq3, hne, fun L6 z3 l6 nz3 g3 => ?_⟩⟩
      refine ⟨by show 1 ≤ sizeLine; decide, fun lB nlB => ?_⟩
      have l7 := same_new (o := .lst [.ref z3]) nlB
      refine ⟨lB, 2, _, rfl, rfl, upd_same, by decide, by decide, by show 2 ≤ sizeLine; decide, fun lC nlC => ?_⟩
      have l8 := same_new (o := .lst [.ref z3, .ref z3]) nlC
      refine ne_same (d := .list ([over p q, over p q].map dp)) (.lst (SqL.of ((l6.trans (l7.trans l8)) _ _ upd_same)) (dps (ts := [z1, z2]) (.cons (g1.same (l3.trans (l4.trans (l5.trans (l6.trans (l7.trans l8)))))) (.cons (g2.same (l5.trans (l6.trans (l7.trans l8)))) .nil))))
        (.lst (SqL.of upd_same) (dps (ts := [z3, z3]) (.cons (g3.same (l7.trans l8)) (.cons (g3.same (l7.trans l8)) .nil)))) (shaped_ps _) ⟨false, rfl, kk _ (l15.trans (l6.trans (l7.trans l8)))⟩
    intro K2 v2
    have j1 := i1.same v2
    have j3 := i3.same v2
    have jm := im.same v2
    refine and_never1 ?_ ?_
    rotate_left
    · intro kk
      refine ⟨_, rfl, rfl, _, rfl, ite2 (fun e => ?_) (fun _ => kk _ (Same.refl _))⟩
      have hne : ((n, 1) : Fr).1 ≠ 0 := fun z => by
        have z' : n = 0 := z
        rw [dec_int, decide_eq_true z'] at e
        exact Bool.false_ne_true e
      obtain ⟨dm, em⟩ := id jm
      refine ⟨_, rfl, m, dm, _, rfl, em, rf_none (by decide +kernel) (by decide +kernel), _, rfl, ⟨m, .int n, p, (n, 1), rfl, jm, .inr ⟨n, rfl, rfl⟩, hp1, hw1, hne, fun L1 y1 l1 ny1 f1 => ?_⟩⟩
      refine ⟨y1, _, rfl, f1, fun L2 z1 l2 nz1 g1 => ?_⟩
      have l12 := l1.trans l2
      refine ⟨_, rfl, _, rfl, ⟨a1, a3, p, (n, 1), rfl, j1.same l12, j3.same l12, hp3, hw3, hne, fun L3 z3 l3 nz3 g3 => ?_⟩⟩
      exact ne_same (g1.same l3).dp g3.dp (shaped_p _) ⟨false, rfl, kk _ (l12.trans l3)⟩
    intro K3 v3
    -- below
    have sv := v2.trans v3
    have q1 := i1.same sv
    have q2 := i2.same sv
    have qm := im.same sv
    have qm2 := im2.same sv
    have cH := cG.trans sv
    clear i1 i2 i3 im im2 j1 j3 jm cG cE cF v1 v2 v3 sv
    refine ⟨_, rfl, a1, _, _, _, rfl, rfl, SqT.of q1, zero_at, _, rfl, a2, _, _, _, rfl, rfl, SqT.of q2, one_at, _, _, rfl, rfl, mul3k hp3.st hq3.sb, ?_⟩
    refine ⟨_, rfl, a2, _, _, _, rfl, rfl, SqT.of q2, zero_at, _, rfl, a1, _, _, _, rfl, rfl, SqT.of q1, one_at, _, _, rfl, rfl, mul3k hq3.st hp3.sb, _, _, rfl, rfl, ?_⟩
    obtain ⟨dm, em⟩ := id qm
    refine ⟨_, rfl, m, dm, _, rfl, em, rf_none (by decide +kernel) (by decide +kernel), _, rfl, ⟨m, .ref m2, p, q, rfl, qm, .inl ⟨m2, rfl, qm2⟩, hp1, hq1, fun L1 l1 => ?_⟩⟩
    obtain ⟨dm2, em2⟩ := id (qm2.same l1)
    refine ⟨_, rfl, m2, dm2, _, rfl, em2, rf_none (by decide +kernel) (by decide +kernel), _, rfl, ⟨m2, .ref m, q, p, rfl, qm2.same l1, .inl ⟨m, rfl, qm.same l1⟩, hq1, hp1, fun L2 l2 => ?_⟩⟩
    have l12 := l1.trans l2
    obtain ⟨dm3, em3⟩ := id (qm.same l12)
    refine ⟨_, rfl, m, dm3, _, rfl, em3, rf_none (by decide +kernel) (by decide +kernel), _, rfl, ⟨m, .ref m2, p, q, rfl, qm.same l12, .inl ⟨m2, rfl, qm2.same l12⟩, hp1, hq1, fun L3 l3 => ?_⟩⟩
    have l13 := l12.trans l3
    obtain ⟨da, ea⟩ := id (qm.same l13)
    obtain ⟨db, eb⟩ := id (qm2.same l13)
    refine ⟨_, rfl, _, rfl, ⟨m, da, _, rfl, ea⟩, .inl ⟨m2, db, _, rfl, eb⟩, ⟨m, .ref m2, p, rfl, ⟨da, ea⟩, .inl ⟨m2, q, rfl, ⟨db, eb⟩, ?_⟩⟩⟩
    refine ⟨_, rfl, _, rfl, ⟨m, da, _, rfl, ea⟩, ⟨m2, db, _, rfl, eb⟩, ⟨m, .ref m2, p, rfl, ⟨da, ea⟩, .inl ⟨m2, q, rfl, ⟨db, eb⟩, _, rfl, ?_⟩⟩⟩
    refine ⟨by show 5 ≤ sizeLine; decide, fun lT nlT => ?_⟩
    have l4 := same_new (o := .lst [.bl (decide (p.1 * q.2 < q.1 * p.2)), .bl (decide (q.1 * p.2 < p.1 * q.2)), .bl (decide (p.1 * q.2 ≤ q.1 * p.2)), .bl (decide (p = q)), .bl (!decide (p = q))]) nlT
    -- above
    have w1 := q1.same (l13.trans l4)
    have w2 := q2.same (l13.trans l4)
    refine ⟨_, rfl, a1, _, _, _, rfl, rfl, SqT.of w1, zero_at, _, rfl, a2, _, _, _, rfl, rfl, SqT.of w2, one_at, _, _, rfl, rfl, mul3k hp3.st hq3.sb, ?_⟩
    refine ⟨_, rfl, a2, _, _, _, rfl, rfl, SqT.of w2, zero_at, _, rfl, a1, _, _, _, rfl, rfl, SqT.of w1, one_at, _, _, rfl, rfl, mul3k hq3.st hp3.sb, _, _, rfl, rfl, ?_⟩
    refine ⟨_, rfl, _, rfl, _, rfl, _, rfl, _, rfl, ?_⟩
    refine ⟨_, rfl, _, rfl, dp p, dp q, w1.dp, w2.dp, rfl, rfl, ?_⟩
    refine ⟨_, rfl, _, rfl, dp p, dp q, w1.dp, w2.dp, rfl, rfl, ?_⟩
    refine ⟨by show 5 ≤ sizeLine; decide, fun lU nlU => ?_⟩
    have l5 := same_new (o := .lst [.bl (decide (p.1 * q.2 < q.1 * p.2)), .bl (decide (q.1 * p.2 < p.1 * q.2)), .bl (!decide (q.1 * p.2 < p.1 * q.2)), .bl (PyData.eqv (dp p) (dp q)), .bl (!PyData.eqv (dp p) (dp q))]) nlU
    refine ne_same (d := .list [.bool (decide (p.1 * q.2 < q.1 * p.2)), .bool (decide (q.1 * p.2 < p.1 * q.2)), .bool (decide (p.1 * q.2 ≤ q.1 * p.2)), .bool (decide (p = q)), .bool (!decide (p = q))])
      (.lst (SqL.of (l5 _ _ upd_same)) (.cons (.bl _) (.cons (.bl _) (.cons (.bl _) (.cons (.bl _) (.cons (.bl _) .nil))))))
      (.lst (SqL.of upd_same) (.cons (.bl _) (.cons (.bl _) (.cons (dbl (le_nlt _ _).symm) (.cons (dbl (eqv_dp p q)) (.cons (dbl (congrArg not (eqv_dp p q))) .nil)))))) rfl ⟨false, rfl, iteF ?_⟩
    have cU := l13.trans (l4.trans l5)
    have um := qm.same cU
    have u1 := q1.same cU
    have cV := cH.trans cU
    clear w1 w2 l1 l2 l3 l4 l5 l12 l13 q1 q2 qm qm2 cH cU
    obtain ⟨dn, en⟩ := id um
    refine ⟨_, rfl, m, dn, _, rfl, en, rf_none (by decide +kernel) (by decide +kernel), _, rfl, ⟨m, .int n, p, (n, 1), rfl, um, .inr ⟨n, rfl, rfl⟩, hp1, hw1, fun M1 l1 => ?_⟩⟩
    obtain ⟨dn2, en2⟩ := id (um.same l1)
    refine ⟨_, rfl, m, dn2, _, rfl, en2, rf_none (by decide +kernel) (by decide +kernel), _, rfl, ⟨m, .int n, p, (n, 1), rfl, um.same l1, .inr ⟨n, rfl, rfl⟩, hp1, hw1, fun M2 l2 => ?_⟩⟩
    have l12 := l1.trans l2
    obtain ⟨de, ee⟩ := id (um.same l12)
    refine ⟨_, rfl, _, rfl, ⟨m, de, _, rfl, ee⟩, .inr ⟨n, rfl⟩, ⟨m, .int n, p, rfl, ⟨de, ee⟩, .inr ⟨n, rfl, ?_⟩⟩⟩
    refine ⟨_, rfl, _, rfl, n, m, de, _, rfl, rfl, ee, ⟨m, .int n, p, rfl, ⟨de, ee⟩, .inr ⟨n, rfl, ?_⟩⟩⟩
    refine ⟨by show 4 ≤ sizeLine; decide, fun lV nlV => ?_⟩
    have l3 := same_new (o := .lst [.bl (decide (p.1 * 1 < n * p.2)), .bl (decide (p.1 * 1 ≤ n * p.2)), .bl false, .bl false]) nlV
    have v1 := u1.same (l12.trans l3)
    refine ⟨_, rfl, _, rfl, a1, _, _, _, rfl, rfl, SqT.of v1, zero_at, _, rfl, _, rfl, a1, _, _, _, rfl, rfl, SqT.of v1, one_at, _, _, rfl, rfl, mul3k hw3.st hp3.sb, _, _, rfl, rfl, ?_⟩
    refine ⟨_, rfl, a1, _, _, _, rfl, rfl, SqT.of v1, zero_at, _, rfl, _, rfl, a1, _, _, _, rfl, rfl, SqT.of v1, one_at, _, _, rfl, rfl, mul3k hw3.st hp3.sb, _, _, rfl, rfl, ?_⟩
    refine ⟨by show 4 ≤ sizeLine; decide, fun lW nlW => ?_⟩
    have l4 := same_new (o := .lst [.bl (decide (p.1 < n * p.2)), .bl (decide (p.1 ≤ n * p.2)), .bl false, .bl false]) nlW
    refine eq_same (d := .list [.bool (decide (p.1 * 1 < n * p.2)), .bool (decide (p.1 * 1 ≤ n * p.2)), .bool false, .bool false])
      (.lst (SqL.of (l4 _ _ upd_same)) (.cons (.bl _) (.cons (.bl _) (.cons (.bl _) (.cons (.bl _) .nil)))))
      (.lst (SqL.of upd_same) (.cons (dbl (by rw [Int.mul_one])) (.cons (dbl (by rw [Int.mul_one])) (.cons (.bl _) (.cons (.bl _) .nil))))) rfl (k _ ?_)
    exact sK.trans (cV.trans (l12.trans (l3.trans l4)))
end
end RQ

set_option Elab.async false
set_option linter.all false
set_option maxRecDepth 100000
set_option maxHeartbeats 4000000
/-! All that the law asks, over what is drawn from one pot. -/
namespace RQ
open PySem L2 ClX
section
variable {P : Program} {w : World} {K : PySem.W.Frag} {mg : Str → Option Value} {base : Heap} {C : Addr}
abbrev nRight : List Str := ["_law_pot_here", "_law_turn", "_law_raws", "_law_raw_here", "_law_pairs_here", "_law_given", "_law_told", "_law_values", "_law_due", "_law_one"]
theorem scRight : FnScope nRight ["_law_pot_here"] (defScope lRight) := ⟨rfl, rfl, rfl, by decide +kernel, rfl, by decide +kernel, by decide +kernel⟩
structure SpRight (vs : List V) (H : Hp) (Q : VK) (E : XK) : Prop where
  ex : ∃ pot : Addr, vs = [.ref pot] ∧ PotAt H pot ∧ ∀ H', Q (.bl true) H'
theorem at0 {x : V} {l : List V} : atI (x :: l) ((0 : Nat) : Int) = some x := atI_nat rfl
theorem at1 {x y : V} {l : List V} : atI (x :: y :: l) ((1 : Nat) : Int) = some y := atI_nat rfl
theorem TAt.keepP {H H' : Hp} {pot t : Addr} {p : Fr} (h : TAt H t p) (hp : PotAt H pot) (k : Keep pot H H') : TAt H' t p := by
  obtain ⟨_, _, e, _⟩ := hp
  exact h.keep e k
theorem PotAt.other {H : Hp} {pot D : Addr} {o : HO} (h : PotAt H pot) (n : D ≠ pot) : PotAt (upd H D o) pot := by
  obtain ⟨a, b, e, r⟩ := h
  exact ⟨a, b, by rw [upd_ne (Ne.symm n)]; exact e, r⟩
/-- the pot, and a list of tops and bottoms beside it -/
structure Raws (H : Hp) (pot D : Addr) (n : Nat) (ts : List Addr) (rs : List Fr) : Prop where
  p : PotAt H pot
  ne : D ≠ pot
  d : H D = some (.lst (ts.map V.ref))
  t : Paired (TAt H) ts rs
  ok : ∀ r ∈ rs, OkT n r
theorem Raws.keep {H H' : Hp} {pot D : Addr} {n : Nat} {ts : List Addr} {rs : List Fr} (h : Raws H pot D n ts rs) (k : Keep pot H H') (p : PotAt H' pot) : Raws H' pot D n ts rs :=
  ⟨p, h.ne, k _ _ h.ne h.d, paired_imp h.t fun _ _ z => z.keepP h.p k, h.ok⟩
theorem Raws.same {H H' : Hp} {pot D : Addr} {n : Nat} {ts : List Addr} {rs : List Fr} (h : Raws H pot D n ts rs) (s : Same H H') : Raws H' pot D n ts rs := h.keep (Keep.of s) (h.p.same s)
/-- one more at the end -/
theorem Raws.more {H : Hp} {pot D t : Addr} {n : Nat} {ts : List Addr} {rs : List Fr} {r : Fr} (h : Raws H pot D n ts rs) (ht : TAt H t r) (o : OkT n r) : Raws (upd H D (.lst (ts.map V.ref ++ [.ref t]))) pot D n (ts ++ [t]) (rs ++ [r]) :=
  ⟨h.p.other h.ne, h.ne, by rw [upd_same, List.map_append]; rfl, paired_snoc (paired_imp h.t fun _ _ z => z.keep h.d Keep.set) (ht.keep h.d Keep.set), fun q hq => by
    rcases List.mem_append.mp hq with z | z
    · exact h.ok q z
    · rw [List.mem_singleton.mp z]
      exact o⟩
theorem Raws.mono {H : Hp} {pot D : Addr} {n m : Nat} {ts : List Addr} {rs : List Fr} (h : Raws H pot D n ts rs) (k : n ≤ m) : Raws H pot D m ts rs := ⟨h.p, h.ne, h.d, h.t, fun r hr => (h.ok r hr).mono k⟩
theorem two_of {α β : Type} {R : α → β → Prop} {xs : List α} {ys : List β} (h : Paired R xs ys) (l : 2 ≤ xs.length) : ∃ x y xr u v ur, xs = x :: y :: xr ∧ ys = u :: v :: ur ∧ R x u ∧ R y v := by
  cases h with
  | nil => exact absurd l (by show ¬ 2 ≤ 0; decide)
  | cons r t =>
    cases t with
    | nil => exact absurd l (by show ¬ 2 ≤ 1; decide)
    | cons r' t' => exact ⟨_, _, _, _, _, _, rfl, rfl, r, r'⟩
theorem wipe1 {σ : L2.St} {j : Nat} {x : V} : wipe ((wipe σ [j]).set j (some x)) [j] = wipe σ [j] := by
  show (((σ.set j none).set j (some x)).set j none) = σ.set j none
  rw [List.set_set, List.set_set]
/-- [e for x in a list], each e something new that is told by R -/
theorem lc_map {α : Type} {a D : Addr} {j : Nat} {xs : List V} {ys : List α} {R : Hp → Addr → α → Prop} {te : TE} {σ : L2.St} {H1 : Hp} {Qd : Hp → Prop} (hD : H1 D = none) (isq : SqL K H1 a xs) (hlen : xs.length = ys.length) (h100 : ys.length ≤ 1000)
    (same : ∀ H H' u y, R H u y → Same H H' → R H' u y) (hset : ∀ H l l' u y, H D = some (.lst l) → R H u y → R (upd H D (.lst l')) u y)
    (step : ∀ (i : Nat) (x : V) (y : α) (H' : Hp) (Q' : VK), xs[i]? = some x → ys[i]? = some y → Same H1 H' → H' D ≠ none → (∀ u H4, Same H' H4 → R H4 u y → Q' (.ref u) H4) → te ((wipe σ [j]).set j (some x)) H' Q')
    (hd : ∀ H' us, Same H1 H' → H' D = some (.lst (us.map V.ref)) → Paired (R H') us ys → Qd H') :
    ∃ W : Nat → Nat → Hp → Prop, (∃ m, W 0 m (upd H1 D (.lst []))) ∧ ∀ i m H, W i m H →
      ((Itl K a).stop i H ∧ Qd H) ∨ ((Itl K a).go i H ∧ ∃ Nx : Hp → Prop, (∀ H', Nx H' → ∃ m', m' < m ∧ W (i + 1) m' H') ∧ ∀ x H', (Itl K a).yld i H x H' → gName j x (wipe σ [j]) H' fun σ2 H2 => wipe σ2 [j] = wipe σ [j] ∧ tYes σ2 H2 fun b H3 =>
        if b = true then te σ2 H3 fun y H4 => ∃ acc, H4 D = some (.lst acc) ∧ acc.length < sizeLine ∧ Nx (upd H4 D (.lst (acc ++ [y]))) else Nx H3) := by
  refine lc_list (K := K) (a := a) (xs := xs) (fun i H' => Same H1 H' ∧ ∃ us : List Addr, H' D = some (.lst (us.map V.ref)) ∧ Paired (R H') us (ys.take i) ∧ us.length = i) ⟨same_new hD, [], upd_same, .nil, rfl⟩ (fun i H' _ ⟨s, _⟩ => s.seq isq) ?_ ?_
  · rintro i x H' hx ⟨s, us, hD', pu, lu⟩
    have hi : i < xs.length := (List.getElem?_eq_some_iff.mp hx).1
    have hy : ys[i]? = some (ys[i]'(by omega)) := List.getElem?_eq_getElem (by omega)
    refine ⟨wipe1, ?_⟩
    show te ((wipe σ [j]).set j (some x)) H' _
    refine step i x _ H' _ hx hy s (by rw [hD']; intro z; cases z) fun u H4 s4 hu => ?_
    have h4D := s4 _ _ hD'
    refine ⟨_, h4D, ?_, ?_, us ++ [u], ?_, ?_, ?_⟩
    · rw [List.length_map, lu]
      exact small1000 (by omega)
    · intro b o e
      rw [upd_ne (ne_of_none e hD)]
      exact s4 _ _ (s _ _ e)
    · rw [upd_same, List.map_append]
      rfl
    · rw [take_snoc hy]
      exact paired_snoc (paired_imp pu fun v q hv => hset _ _ _ _ _ h4D (same _ _ _ _ hv s4)) (hset _ _ _ _ _ h4D hu)
    · rw [List.length_append, lu]
      rfl
  · rintro H' ⟨s, us, hD', pu, lu⟩
    rw [hlen, List.take_length] at pu
    exact hd H' us s hD' pu
/-- .. for x in range(n) -/
theorem lcr_map {α : Type} {D : Addr} {j n : Nat} {lo : Int} {ys : List α} {R : Hp → Addr → α → Prop} {te : TE} {σ : L2.St} {H1 : Hp} {Qd : Hp → Prop} (hD : H1 D = none) (hlen : ys.length = n) (h100 : ys.length ≤ 1000)
    (same : ∀ H H' u y, R H u y → Same H H' → R H' u y) (hset : ∀ H l l' u y, H D = some (.lst l) → R H u y → R (upd H D (.lst l')) u y)
    (step : ∀ (i : Nat) (y : α) (H' : Hp) (Q' : VK), ys[i]? = some y → Same H1 H' → H' D ≠ none → (∀ u H4, Same H' H4 → R H4 u y → Q' (.ref u) H4) → te ((wipe σ [j]).set j (some (.int (lo + (i : Nat))))) H' Q')
    (hd : ∀ H' us, Same H1 H' → H' D = some (.lst (us.map V.ref)) → Paired (R H') us ys → Qd H') :
    ∃ W : Nat → Nat → Hp → Prop, (∃ m, W 0 m (upd H1 D (.lst []))) ∧ ∀ i m H, W i m H →
      ((Itr lo n).stop i H ∧ Qd H) ∨ ((Itr lo n).go i H ∧ ∃ Nx : Hp → Prop, (∀ H', Nx H' → ∃ m', m' < m ∧ W (i + 1) m' H') ∧ ∀ x H', (Itr lo n).yld i H x H' → gName j x (wipe σ [j]) H' fun σ2 H2 => wipe σ2 [j] = wipe σ [j] ∧ tYes σ2 H2 fun b H3 =>
        if b = true then te σ2 H3 fun y H4 => ∃ acc, H4 D = some (.lst acc) ∧ acc.length < sizeLine ∧ Nx (upd H4 D (.lst (acc ++ [y]))) else Nx H3) := by
  refine lc_range (fun i H' => Same H1 H' ∧ ∃ us : List Addr, H' D = some (.lst (us.map V.ref)) ∧ Paired (R H') us (ys.take i) ∧ us.length = i) ⟨same_new hD, [], upd_same, .nil, rfl⟩ ?_ ?_
  · rintro i H' hi ⟨s, us, hD', pu, lu⟩
    have hy : ys[i]? = some (ys[i]'(by omega)) := List.getElem?_eq_getElem (by omega)
    refine ⟨wipe1, ?_⟩
    show te ((wipe σ [j]).set j (some (.int (lo + (i : Nat))))) H' _
    refine step i _ H' _ hy s (by rw [hD']; intro z; cases z) fun u H4 s4 hu => ?_
    have h4D := s4 _ _ hD'
    refine ⟨_, h4D, ?_, ?_, us ++ [u], ?_, ?_, ?_⟩
    · rw [List.length_map, lu]
      exact small1000 (by omega)
    · intro b o e
      rw [upd_ne (ne_of_none e hD)]
      exact s4 _ _ (s _ _ e)
    · rw [upd_same, List.map_append]
      rfl
    · rw [take_snoc hy]
      exact paired_snoc (paired_imp pu fun v q hv => hset _ _ _ _ _ h4D (same _ _ _ _ hv s4)) (hset _ _ _ _ _ h4D hu)
    · rw [List.length_append, lu]
      rfl
  · rintro H' ⟨s, us, hD', pu, lu⟩
    rw [← hlen, List.take_length] at pu
    exact hd H' us s hD' pu
abbrev lo (r : Fr) : Fr := low r.1 r.2
/-- a row of three bools -/
def RowAt (H : Hp) (u : Addr) (b : Bool × Bool × Bool) : Prop := H u = some (.lst [.bl b.1, .bl b.2.1, .bl b.2.2])
abbrev rd (b : Bool × Bool × Bool) : PyData := .list [.bool b.1, .bool b.2.1, .bool b.2.2]
theorem RowAt.dp {H : Hp} {u : Addr} {b : Bool × Bool × Bool} (h : RowAt H u b) : Dp K H (.ref u) (rd b) := .lst (SqL.of h) (.cons (.bl _) (.cons (.bl _) (.cons (.bl _) .nil)))
theorem drows {H : Hp} : ∀ {us : List Addr} {bs : List (Bool × Bool × Bool)}, Paired (RowAt H) us bs → DpAll K H (us.map V.ref) (bs.map rd)
  | _, _, .nil => .nil
  | _, _, .cons h t => .cons h.dp (drows t)
theorem nums {H : Hp} : ∀ {as : List Addr} {ps : List Fr}, Paired (RAt C H) as ps → Paired (Num C H) (as.map V.ref) ps
  | _, _, .nil => .nil
  | _, _, .cons h t => .cons (.inl ⟨_, rfl, h⟩) (nums t)
theorem pmap {α β γ : Type} {R : α → β → Prop} {S : α → γ → Prop} {f : β → γ} : ∀ {xs : List α} {ys : List β}, Paired R xs ys → (∀ x y, R x y → S x (f y)) → Paired S xs (ys.map f)
  | _, _, .nil, _ => .nil
  | _, _, .cons r t, h => .cons (h _ _ r) (pmap t h)
theorem num7 (H : Hp) : Paired (Num C H) [V.int 7] [((7, 1) : Fr)] := .cons (.inr ⟨7, rfl, rfl⟩) .nil
/-- what the eleven values are told as -/
def rows : List (Bool × Bool × Bool) := [(true, true, true), (true, true, true), (true, true, false), (true, true, true), (false, false, false), (false, false, false), (false, false, false), (false, false, false), (false, false, false), (false, false, false), (true, true, true)]
/-- is_number, is_integer, is_count of such a value -/
def Told (K : PySem.W.Frag) (C : Addr) (H : Hp) (x : V) (b : Bool × Bool × Bool) : Prop := ∃ (t : Value) (bi bb : Bool), TyX K H x t ∧ PySem.W.kitOne K t (.ref C) = some false ∧ PySem.W.kitOne K t (.type "int") = some bi ∧ PySem.W.kitOne K t (.type "bool") = some bb ∧
  (if (bi && !bb) = true then ∃ i : Int, x = .int i ∧ b = (true, true, decide (0 ≤ i)) else b = (false, false, false))
theorem told_int {H : Hp} (R : RCls K mg C) (i : Int) : Told K C H (.int i) (true, true, decide (0 ≤ i)) := ⟨_, true, false, .base (.int i), R.iC, kit_ty (by decide +kernel), kit_ty (by decide +kernel), i, rfl, rfl⟩
theorem told_no {H : Hp} {x : V} {t : String} (ty : TyX K H x (.type t)) (c : PySem.W.kitOne K (.type t) (.ref C) = some false) {bi bb : Bool} (h1 : kitB t "int" = some bi) (h2 : kitB t "bool" = some bb) (h : (bi && !bb) = false) : Told K C H x (false, false, false) :=
  ⟨_, bi, bb, ty, c, kit_ty h1, kit_ty h2, by rw [h]; exact iteF rfl⟩
theorem told_all {H : Hp} (R : RCls K mg C) {l t : Addr} (hl : H l = some (.lst [.int 1])) (ht : H t = some (.tup [.int 1, .int 2])) :
    Paired (Told K C H) [.int 0, .int 1, .int (-1), .int 5, .bl true, .bl false, .non, .str "1", .ref l, .ref t, .int (10 ^ (5 : Int).toNat)] rows :=
  .cons (told_int R 0) (.cons (told_int R 1) (.cons (told_int R (-1)) (.cons (told_int R 5) (.cons (told_no (.base (.bl true)) R.bC (by decide +kernel : _ = some true) (by decide +kernel : _ = some true) rfl) (.cons (told_no (.base (.bl false)) R.bC (by decide +kernel : _ = some true) (by decide +kernel : _ = some true) rfl)
    (.cons (told_no (.base .non) R.nC (by decide +kernel : _ = some false) (by decide +kernel : _ = some false) rfl) (.cons (told_no (.base (.str "1")) R.sC (by decide +kernel : _ = some false) (by decide +kernel : _ = some false) rfl)
    (.cons (told_no (.base (.lst hl)) R.lC (by decide +kernel : _ = some false) (by decide +kernel : _ = some false) rfl) (.cons (told_no (.base (.tup ht)) R.tC (by decide +kernel : _ = some false) (by decide +kernel : _ = some false) rfl) (.cons (told_int R _) .nil))))))))))
theorem ok_right {f f1 f2 : Addr} {fd fd1 fd2 : FuncData} (F : Fun K "_law_right" "_law_right" lRight f fd) (L : Lib P w K mg base C)
    (G1 : FnG P w K mg base 6 f1 fd1 ["_law_raw_here"] SpOneR) (m1 : mg "_law_one_right" = some (.ref f1)) (k1 : PySem.W.keepIn K (.ref f1) = true) (b1 : Binds K fd1 ["_law_raw_here"] [])
    (G2 : FnOk P w K mg base CX0 6 f2 fd2 ["_law_raw_here", "_law_other_raw", "_law_number"] SpTwoR) (m2 : mg "_law_two_right" = some (.ref f2)) (k2 : PySem.W.keepIn K (.ref f2) = true) (b2 : Binds K fd2 ["_law_raw_here", "_law_other_raw", "_law_number"] []) :
    FnG P w K mg base 7 f fd ["_law_pot_here"] SpRight := by
  refine okG F scRight (fun vs H Q E h => ?_) (fun cdv A outer s H vs Q E hgd hr h => ?_)
  · obtain ⟨pot, rfl, _⟩ := h
    rfl
  · obtain ⟨pot, rfl, hp, k⟩ := h
    have R := L.D.R
    have B := L.D.B
    have r1 : Room 1 _ := hr.mono (by decide)
    have r2 : Room 2 _ := hr.mono (by decide)
    have r3 : Room 3 _ := hr.mono (by decide)
    have r4 : Room 4 _ := hr.mono (by decide)
    have hu := hr.units
    refine ⟨_, PSs.nox (pss_cons (ps_setLc (own := [("_law_turn", 1)]) (g := gName 1) (tt := tYes) rfl scRight.nd (i := 2) rfl rfl (by rfl) (pi_range1 (by rfl) B.range (pa_cons pe_int pa_nil)) (blkOk_by (own := [("_law_turn", 1)]) (N := nRight) (sc := defScope lRight) (by decide +kernel)) (fun _ _ _ _ _ => pg_name (i := 1) scRight.nd rfl (Or.inl rfl)) (fun _ _ _ _ _ => pts_nil) (fun _ _ _ _ _ => (pe_call L.lRaw.G r3 (by rfl) L.lRaw.m L.lRaw.kp L.lRaw.b .nil pass0 (pa_cons (pv 0) pa_nil))))
      (pss_cons (ps_expr (pe_bm PySem.F.plainAttrs_list PySem.F.slot_list_append PySem.F.type_list_append mt_append (pv 2) (pa_cons (pe_tup (pa_cons (pe_op op_mul (pe_ix (r := rIxT K) ix_tup (pe_ix (r := rIxL K) ix_list (pv 2) pe_int (fun _ _ => rfl)) pe_int (fun _ _ => rfl)) pe_int) (pa_cons (pe_op op_mul (pe_ix (r := rIxT K) ix_tup (pe_ix (r := rIxL K) ix_list (pv 2) pe_int (fun _ _ => rfl)) pe_int (fun _ _ => rfl)) pe_int) pa_nil))) pa_nil)))
      (pss_cons (ps_expr (pe_bm PySem.F.plainAttrs_list PySem.F.slot_list_append PySem.F.type_list_append mt_append (pv 2) (pa_cons (pe_tup (pa_cons pe_int (pa_cons (pe_ix (r := rIxT K) ix_tup (pe_ix (r := rIxL K) ix_list (pv 2) pe_int (fun _ _ => rfl)) pe_int (fun _ _ => rfl)) pa_nil))) pa_nil)))
      (pss_cons (ps_for PassesOwn.never rfl (pi_list (pv 2)) (pg_name (i := 3) scRight.nd rfl (Or.inl rfl)) (pss_one (ps_if (pt_not (pt_val (pe_callG (E := E0) G1 hgd hr (by rfl) m1 k1 b1 (pa_cons (pv 3) pa_nil)))) (pss_one ps_never) pss_nil)))
      (pss_cons (ps_for PassesOwn.never rfl (pi_range1 (by rfl) B.range (pa_cons pe_int pa_nil)) (pg_name (i := 1) scRight.nd rfl (Or.inl rfl)) (pss_one (ps_if (pt_not (pt_val (pe_call G2 hr (by rfl) m2 k2 b2 .nil pass0 (pa_cons (pe_call L.lPick.G r2 (by rfl) L.lPick.m L.lPick.kp L.lPick.b .nil pass0 (pa_cons (pv 0) (pa_cons (pv 2) pa_nil))) (pa_cons (pe_call L.lPick.G r2 (by rfl) L.lPick.m L.lPick.kp L.lPick.b .nil pass0 (pa_cons (pv 0) (pa_cons (pv 2) pa_nil))) (pa_cons (pe_op op_sub (pe_call L.lDraw.G r1 (by rfl) L.lDraw.m L.lDraw.kp L.lDraw.b .nil pass0 (pa_cons (pv 0) (pa_cons pe_int pa_nil))) pe_int) pa_nil)))))) (pss_one ps_never) pss_nil)))
      (pss_cons (ps_setLc (own := [("_law_raw_here", 3)]) (g := gName 3) (tt := tYes) rfl scRight.nd (i := 4) rfl rfl (by rfl) (pi_list (pv 2)) (blkOk_by (own := [("_law_raw_here", 3)]) (N := nRight) (sc := defScope lRight) (by decide +kernel)) (fun _ _ _ _ _ => pg_name (i := 3) scRight.nd rfl (Or.inl rfl)) (fun _ _ _ _ _ => pts_nil) (fun _ _ _ _ _ => (pe_call L.lLow.G r1 (by rfl) L.lLow.m L.lLow.kp L.lLow.b .nil pass0 (pa_cons (pe_ix (r := rIxT K) ix_tup (pv 3) pe_int (fun _ _ => rfl)) (pa_cons (pe_ix (r := rIxT K) ix_tup (pv 3) pe_int (fun _ _ => rfl)) pa_nil)))))
      (pss_cons (ps_set (i := 5) scRight.nd rfl (Or.inl rfl) (pe_op op_cat (pe_lc (own := [("_law_raw_here", 3)]) (g := gName 3) (tt := tYes) rfl scRight.nd (pi_list (pv 2)) (blkOk_by (own := [("_law_raw_here", 3)]) (N := nRight) (sc := defScope lRight) (by decide +kernel)) (fun _ _ _ _ _ => pg_name (i := 3) scRight.nd rfl (Or.inl rfl)) (fun _ _ _ _ _ => pts_nil) (fun _ _ _ _ _ => (pe_make L.D.M L.D.G0 r3 rfl R.mg_ L.D.b0 .nil pass0 (pa_cons (pe_ix (r := rIxT K) ix_tup (pv 3) pe_int (fun _ _ => rfl)) (pa_cons (pe_ix (r := rIxT K) ix_tup (pv 3) pe_int (fun _ _ => rfl)) pa_nil))))) (pe_lst (pa_cons pe_int pa_nil))))
      (pss_cons (ps_set (i := 6) scRight.nd rfl (Or.inl rfl) (pe_lst (pa_cons (pe_cmeth (E := E0) (pe_glob (by rfl) R.mg_ (v := .ref C) rfl) L.rd L.cT (raw0 L.GT L.bT) r4 pass0 (pa_cons (pv 5) pa_nil)) (pa_cons (pe_cmeth (E := E0) (pe_glob (by rfl) R.mg_ (v := .ref C) rfl) L.rd L.cT (raw0 L.GT L.bT) r4 pass0 (pa_cons (pe_callTy call_tuple_of (by rfl) B.tuple PyProof.Rows.boot_tuple (pa_cons (pv 5) pa_nil)) pa_nil)) (pa_cons (pe_cmethK0 (E := E0) (pe_glob (by rfl) R.mg_ (v := .ref C) rfl) L.rd L.cT L.GT r4 L.kT pass0 (pk_cons (pv 5) pk_nil)) (pa_cons (pe_cmeth (E := E0) (pe_glob (by rfl) R.mg_ (v := .ref C) rfl) L.rd L.cT (raw0 L.GT L.bT) r4 pass0 (pa_cons (pe_lst pa_nil) pa_nil)) pa_nil))))))
      (pss_cons (ps_if (pt_cmpR (op_neD hu) (pe_call L.lPairs.G r4 (by rfl) L.lPairs.m L.lPairs.kp L.lPairs.b .nil pass0 (pa_cons (pv 6) pa_nil)) (pe_op op_cat (pe_op op_rep (pe_lst (pa_cons (pe_call L.lTotal.G r3 (by rfl) L.lTotal.m L.lTotal.kp L.lTotal.b .nil pass0 (pa_cons (pe_op op_cat (pv 4) (pe_lst (pa_cons (pe_tup (pa_cons pe_int (pa_cons pe_int pa_nil))) pa_nil))) pa_nil)) pa_nil)) pe_int) (pe_lst (pa_cons (pe_tup (pa_cons pe_int (pa_cons pe_int pa_nil))) pa_nil))) (nomark _)) (pss_one ps_never) pss_nil)
      (pss_cons (ps_set (i := 7) scRight.nd rfl (Or.inl rfl) (pe_lst (pa_cons pe_int (pa_cons pe_int (pa_cons (pe_un un_neg pe_int) (pa_cons pe_int (pa_cons pe_bl (pa_cons pe_bl (pa_cons pe_non (pa_cons pe_str (pa_cons (pe_lst (pa_cons pe_int pa_nil)) (pa_cons (pe_tup (pa_cons pe_int (pa_cons pe_int pa_nil))) (pa_cons (pe_op op_pow pe_int pe_int) pa_nil)))))))))))))
      (pss_cons (ps_setLc (own := [("_law_one", 9)]) (g := gName 9) (tt := tYes) rfl scRight.nd (i := 6) rfl rfl (by rfl) (pi_list (pv 7)) (blkOk_by (own := [("_law_one", 9)]) (N := nRight) (sc := defScope lRight) (by decide +kernel)) (fun _ _ _ _ _ => pg_name (i := 9) scRight.nd rfl (Or.inl rfl)) (fun _ _ _ _ _ => pts_nil) (fun _ _ _ _ _ => (pe_lst (pa_cons (pe_call L.nN.G r2 (by rfl) L.nN.m L.nN.kp L.nN.b .nil pass0 (pa_cons (pv 9) pa_nil)) (pa_cons (pe_call L.D.GI r1 (by rfl) L.D.mI L.D.kI L.D.bI .nil pass0 (pa_cons (pv 9) pa_nil)) (pa_cons (pe_call L.nC.G r2 (by rfl) L.nC.m L.nC.kp L.nC.b .nil pass0 (pa_cons (pv 9) pa_nil)) pa_nil))))))
      (pss_cons (ps_set (i := 8) scRight.nd rfl (Or.inl rfl) (pe_lst (pa_cons (pe_lst (pa_cons pe_bl (pa_cons pe_bl (pa_cons pe_bl pa_nil)))) (pa_cons (pe_lst (pa_cons pe_bl (pa_cons pe_bl (pa_cons pe_bl pa_nil)))) (pa_cons (pe_lst (pa_cons pe_bl (pa_cons pe_bl (pa_cons pe_bl pa_nil)))) (pa_cons (pe_lst (pa_cons pe_bl (pa_cons pe_bl (pa_cons pe_bl pa_nil)))) pa_nil))))))
      (pss_one (ps_ret (pe_cmpR (op_eqD hu) (pv 6) (pe_op op_cat (pe_op op_cat (pv 8) (pe_lc (own := [("_law_turn", 1)]) (g := gName 1) (tt := tYes) rfl scRight.nd (pi_range1 (by rfl) B.range (pa_cons pe_int pa_nil)) (blkOk_by (own := [("_law_turn", 1)]) (N := nRight) (sc := defScope lRight) (by decide +kernel)) (fun _ _ _ _ _ => pg_name (i := 1) scRight.nd rfl (Or.inl rfl)) (fun _ _ _ _ _ => pts_nil) (fun _ _ _ _ _ => (pe_op op_rep (pe_lst (pa_cons pe_bl pa_nil)) pe_int)))) (pe_lst (pa_cons (pe_lst (pa_cons pe_bl (pa_cons pe_bl (pa_cons pe_bl pa_nil)))) pa_nil))) (nomark _)))))))))))))))), ?_⟩
    -- six tops and bottoms
    refine ⟨6, rfl, by decide, by decide, fun D hD => ?_⟩
    refine lc_range (fun i H' => ∃ ts rs, Raws H' pot D 200 ts rs ∧ ts.length = i) ⟨[], [], ⟨hp.same (same_new hD), hp.ne_new hD, upd_same, .nil, fun r z => by cases z⟩, rfl⟩ ?_ ?_
    · rintro i H' hi ⟨ts, rs, RR, lt⟩
      have hi' : i < 6 := hi
      refine ⟨rfl, ?_⟩
      show tCall SpRaw [] E0 (tCons (tVar 0) tNil) _ H' _
      refine ⟨_, rfl, ⟨pot, rfl, RR.p, fun H2 t r k2' p2 nt ht ok => ?_⟩⟩
      have R2 := RR.keep k2' p2
      refine ⟨_, R2.d, ?_, _, _, R2.more ht ok, ?_⟩
      · rw [List.length_map, lt]
        exact small1000 (by omega)
      · rw [List.length_append, lt]
        rfl
    rintro H1 ⟨ts, rs, RR, lt⟩
    have lt6 : ts.length = 6 := lt
    -- two more
    obtain ⟨t0, t1, tl, q0, q1, rl, rfl, rfl, h0, h1⟩ := two_of RR.t (by omega)
    have R1 := RR.mono (show 200 ≤ 220 by decide)
    have o0 := RR.ok q0 (.head _)
    have o1 := RR.ok q1 (.tail _ (.head _))
    refine ⟨_, rfl, .inl ⟨rfl, _, SqL.of R1.d⟩, ?_⟩
    refine ⟨_, rfl, D, _, _, _, rfl, rfl, SqL.of R1.d, at0, t0, _, _, _, rfl, rfl, SqT.of h0, zero_at, _, _, rfl, rfl, .inr ⟨by decide, by decide⟩, ?_⟩
    refine ⟨_, rfl, D, _, _, _, rfl, rfl, SqL.of R1.d, at0, t0, _, _, _, rfl, rfl, SqT.of h0, one_at, _, _, rfl, rfl, .inr ⟨by decide, by decide⟩, two_line, fun ta nta => ?_⟩
    have ltl : tl.length = 4 := by
      rw [List.length_cons, List.length_cons] at lt6
      omega
    have sa := same_new (o := .tup [.int (q0.1 * 3), .int (q0.2 * 3)]) nta
    have z3 : Sz 2 3 := by unfold Sz; decide
    have R2 := (R1.same sa).more (r := (q0.1 * 3, q0.2 * 3)) upd_same ⟨by have := o0.ne; show q0.2 * 3 ≠ 0; omega, (o0.st.mul z3).mono (by decide), (o0.sb.mul z3).mono (by decide)⟩
    refine ⟨D, _, .ref ta, rfl, rfl, sa _ _ R1.d, by show (tl.map V.ref).length + 1 + 1 < sizeLine; rw [List.length_map, ltl]; decide, ?_⟩
    have d2 := R2.d
    have t2 := R2.t
    generalize upd (upd H1 ta (.tup [.int (q0.1 * 3), .int (q0.2 * 3)])) D (.lst ((t0 :: t1 :: tl).map V.ref ++ [.ref ta])) = H2 at R2 d2 t2 ⊢
    obtain ⟨_, _, _, _, _, _, e1, e2, g0, g1⟩ := two_of t2 (by rw [List.length_append]; show 2 ≤ tl.length + 1 + 1 + 1; omega)
    obtain ⟨rfl, e1'⟩ := List.cons.inj e1
    obtain ⟨rfl, _⟩ := List.cons.inj e1'
    obtain ⟨rfl, e2'⟩ := List.cons.inj e2
    obtain ⟨rfl, _⟩ := List.cons.inj e2'
    clear e1 e1' e2 e2' t2 h0 h1
    refine ⟨_, rfl, .inl ⟨rfl, _, SqL.of d2⟩, ?_⟩
    refine ⟨_, rfl, D, _, _, _, rfl, rfl, SqL.of d2, at1, t1, _, _, _, rfl, rfl, SqT.of g1, one_at, two_line, fun tb ntb => ?_⟩
    have sb := same_new (o := .tup [.int 0, .int q1.2]) ntb
    have R3 := (R2.same sb).more (r := (0, q1.2)) upd_same ⟨o1.ne, by unfold Sz; exact Nat.two_pow_pos _, o1.sb.mono (by decide)⟩
    refine ⟨D, _, .ref tb, rfl, rfl, sb _ _ d2, by rw [List.length_map, List.length_append]; show tl.length + 1 + 1 + 1 < sizeLine; rw [ltl]; decide, ?_⟩
    have l8 : ((t0 :: t1 :: tl ++ [ta]) ++ [tb]).length = 8 := by
      rw [List.length_append, List.length_append]
      show tl.length + 1 + 1 + 1 + 1 = 8
      omega
    generalize (t0 :: t1 :: tl ++ [ta]) ++ [tb] = ts at R3 l8
    generalize (q0 :: q1 :: rl ++ [(q0.1 * 3, q0.2 * 3)]) ++ [(0, q1.2)] = rs at R3
    generalize upd (upd H2 tb (.tup [.int 0, .int q1.2])) D (.lst ((t0 :: t1 :: tl ++ [ta]).map V.ref ++ [.ref tb])) = H3 at R3 ⊢
    clear R1 R2 RR o0 o1 sa sb g0 g1 d2
    -- each of them
    refine ⟨_, rfl, D, rfl, ⟨_, SqL.of R3.d⟩, for_list (K := K) (a := D) (xs := ts.map V.ref) (fun i σ H' => ∃ v3, σ = [some (.ref pot), none, some (.ref D), v3, none, none, none, none, none, none] ∧ Raws H' pot D 220 ts rs)
      ⟨none, rfl, R3⟩ (fun i σ H' _ ⟨_, _, RR⟩ => SqL.of RR.d) ?_ ?_⟩
    · rintro i x σ H' hx ⟨v3, rfl, RR⟩
      rw [List.getElem?_map] at hx
      obtain ⟨u, x1, x2⟩ := Option.map_eq_some_iff.mp hx
      subst x2
      obtain ⟨r, x3, hr'⟩ := paired_get RR.t x1
      refine ⟨_, rfl, ⟨u, r, rfl, hr', (RR.ok r (List.mem_of_getElem? x3)).mono (by decide), fun H2 s2 => ⟨true, rfl, iteF ⟨_, rfl, RR.same s2⟩⟩⟩⟩
    rintro σ H4 ⟨v3, rfl, R4⟩
    -- twelve times two of them
    refine ⟨12, rfl, by decide, by decide, for_range (fun i σ H' => ∃ v1, σ = [some (.ref pot), v1, some (.ref D), v3, none, none, none, none, none, none] ∧ Raws H' pot D 220 ts rs) ⟨none, rfl, R4⟩ ?_ ?_⟩
    · rintro i σ H' hi ⟨v1, rfl, RR⟩
      have lm : (ts.map V.ref).length = 8 := by rw [List.length_map]; exact l8
      refine ⟨_, rfl, _, rfl, ⟨pot, D, _, rfl, RR.ne, RR.d, by omega, by omega, RR.p, fun Ha d x ka pa hx => ?_⟩⟩
      have Ra := RR.keep ka pa
      rw [List.getElem?_map] at hx
      obtain ⟨u, x1, x2⟩ := Option.map_eq_some_iff.mp hx
      subst x2
      obtain ⟨r, x3, hr1⟩ := paired_get Ra.t x1
      refine ⟨_, rfl, _, rfl, ⟨pot, D, _, rfl, Ra.ne, Ra.d, by omega, by omega, Ra.p, fun Hb d2 x2 kb pb hx2 => ?_⟩⟩
      have Rb := Ra.keep kb pb
      rw [List.getElem?_map] at hx2
      obtain ⟨u2, y1, y2⟩ := Option.map_eq_some_iff.mp hx2
      subst y2
      obtain ⟨r2, y3, hr2⟩ := paired_get Rb.t y1
      refine ⟨_, rfl, ⟨pot, 41, rfl, by decide, by decide, Rb.p, fun Hc n kc pc n0 n1 => ?_⟩⟩
      have Rc := Rb.keep kc pc
      refine ⟨_, _, rfl, rfl, ?_⟩
      refine ⟨u, u2, r, r2, n - 20, rfl, (hr1.keepP Ra.p kb).keepP Rb.p kc, hr2.keepP Rb.p kc, (RR.ok r (List.mem_of_getElem? x3)).mono (by decide), (RR.ok r2 (List.mem_of_getElem? y3)).mono (by decide), ⟨red_one _, ?_, ?_⟩, fun H2 s2 => ⟨true, rfl, iteF ⟨_, rfl, Rc.same s2⟩⟩⟩
      · have : Sz 6 (n - 20) := by unfold Sz; omega
        exact this.mono (by decide)
      · unfold Sz
        exact Nat.one_lt_two_pow (by decide)
    rintro σ H5 ⟨v1, rfl, R5⟩
    have lr : ts.length = rs.length := Paired.length R5.t
    have lm : (ts.map V.ref).length = (rs.map lo).length := by rw [List.length_map, List.length_map]; exact lr
    have lr8 : (rs.map lo).length = 8 := by rw [List.length_map]; omega
    have okl : ∀ p ∈ rs.map lo, OkF 220 p := fun p hp => by
      obtain ⟨r, hr, rfl⟩ := List.mem_map.mp hp
      exact (R5.ok r hr).low
    -- lowest terms
    refine ⟨_, rfl, D, rfl, ⟨_, SqL.of R5.d⟩, fun D6 nD6 => ?_⟩
    refine lc_map (R := fun H u p => TAt H u p) (ys := rs.map lo) nD6 (SqL.of R5.d) lm (by omega) (fun _ _ _ _ z s => z.same s) (fun _ _ _ _ _ e z => z.keep e Keep.set) ?_ ?_
    · intro i x y H' Q' hx hy s _ kq
      rw [List.getElem?_map] at hx hy
      obtain ⟨u, x1, x2⟩ := Option.map_eq_some_iff.mp hx
      obtain ⟨r, y1, y2⟩ := Option.map_eq_some_iff.mp hy
      subst x2
      subst y2
      obtain ⟨r', x3, hu⟩ := paired_get R5.t x1
      rw [y1] at x3
      obtain rfl := Option.some.inj x3
      have ok := R5.ok r (List.mem_of_getElem? y1)
      show tCall SpLow [] E0 (tCons (tOp (rIxT K) (tVar 3) (tC (.int 0))) (tCons (tOp (rIxT K) (tVar 3) (tC (.int 1))) tNil)) _ H' Q'
      refine ⟨_, rfl, u, _, _, _, rfl, rfl, SqT.of (s _ _ hu), zero_at, _, rfl, u, _, _, _, rfl, rfl, SqT.of (s _ _ hu), one_at, ⟨r.1, r.2, rfl, ok.ne, ok.sb.mono (by decide), fun H2 t s2 _ ht => kq t H2 s2 ht⟩⟩
    intro H6 us s6 hD6 pu
    -- fractions of them, and 7
    have R6 := R5.same s6
    refine ⟨_, rfl, D, rfl, ⟨_, SqL.of R6.d⟩, fun D7 nD7 => ?_⟩
    refine lc_map (R := fun H u p => RAt C H u p) (ys := rs.map lo) nD7 (SqL.of R6.d) lm (by omega) (fun _ _ _ _ z s => z.same s) (fun _ _ _ _ _ e z => z.keep e Keep.set) ?_ ?_
    · intro i x y H' Q' hx hy s _ kq
      rw [List.getElem?_map] at hx hy
      obtain ⟨u, x1, x2⟩ := Option.map_eq_some_iff.mp hx
      obtain ⟨r, y1, y2⟩ := Option.map_eq_some_iff.mp hy
      subst x2
      subst y2
      obtain ⟨r', x3, hu⟩ := paired_get R6.t x1
      rw [y1] at x3
      obtain rfl := Option.some.inj x3
      have ok := R6.ok r (List.mem_of_getElem? y1)
      show tMake C (SpInit C) [] E0 (tCons (tOp (rIxT K) (tVar 3) (tC (.int 0))) (tCons (tOp (rIxT K) (tVar 3) (tC (.int 1))) tNil)) _ H' Q'
      refine ⟨_, rfl, u, _, _, _, rfl, rfl, SqT.of (s _ _ hu), zero_at, _, rfl, u, _, _, _, rfl, rfl, SqT.of (s _ _ hu), one_at, fun m dx nm nd ne => madeR ok.ne (ok.sb.mono (by decide)) m dx nm nd fun H2 s2 hm => ⟨rfl, kq m H2 s2 hm⟩⟩
    intro H7 as s7 hD7 pas
    refine ⟨by show 1 ≤ sizeLine; decide, fun l7 nl7 => ?_⟩
    have s8 := same_new (o := .lst [.int 7]) nl7
    have la : as.length = 8 := by rw [Paired.length pas]; exact lr8
    refine ⟨D7, l7, _, _, rfl, rfl, s8 _ _ hD7, upd_same, by rw [List.length_map, la]; show 9 ≤ sizeLine; decide, fun G nG => ?_⟩
    have s9 := same_new (o := .lst (as.map V.ref ++ [.int 7])) nG
    have hG : upd (upd H7 l7 (.lst [.int 7])) G (.lst (as.map V.ref ++ [.int 7])) G = some (.lst (as.map V.ref ++ [.int 7])) := upd_same
    have PN := paired_app (nums (paired_imp pas fun _ _ z => z.same (s8.trans s9))) (num7 (upd (upd H7 l7 (.lst [.int 7])) G (.lst (as.map V.ref ++ [.int 7]))))
    have h6 := (s7.trans (s8.trans s9)) _ _ hD6
    have T6 := paired_imp pu fun _ _ z => TAt.same z (s7.trans (s8.trans s9))
    generalize upd (upd H7 l7 (.lst [.int 7])) G (.lst (as.map V.ref ++ [.int 7])) = H8 at hG PN h6 T6 ⊢
    have ok7 : ∀ p ∈ rs.map lo ++ [((7, 1) : Fr)], OkF 260 p := fun p hp => by
      rcases List.mem_append.mp hp with z | z
      · exact (okl p z).mono (by decide)
      · rw [List.mem_singleton.mp z]
        exact ⟨red_one _, by show Sz 260 7; exact Sz.mono (n := 3) (by unfold Sz; decide) (by decide), by unfold Sz; exact Nat.one_lt_two_pow (by decide)⟩
    have l12 : (rs.map lo ++ [((7, 1) : Fr)]).length ≤ 12 := by rw [List.length_append, lr8]; decide
    generalize hfs : rs.map lo ++ [((7, 1) : Fr)] = fs at PN ok7 l12
    -- totals
    refine ⟨rfl, _, rfl, ⟨G, _, fs, rfl, .inl hG, PN, ok7, l12, fun I1 x1 i1 n1 f1 => ?_⟩⟩
    have p1 := fun (s : Same H8 I1) => paired_imp PN fun _ _ z => Num.same z s
    refine ⟨rfl, _, rfl, G, _, rfl, .inl ⟨SqL.of (i1 _ _ hG), fun lt nlt => ?_⟩⟩
    have it := same_new (o := .tup (as.map V.ref ++ [.int 7])) nlt
    refine ⟨lt, _, fs, rfl, .inr upd_same, paired_imp PN fun _ _ z => Num.same z (i1.trans it), ok7, l12, fun I2 x2 i2 n2 f2 => ?_⟩
    have j2 := i1.trans (it.trans i2)
    refine ⟨rfl, _, rfl, rfl, ⟨G, _, fs, rfl, .inl (j2 _ _ hG), paired_imp PN fun _ _ z => Num.same z j2, ok7, l12, fun I3 x3 i3 n3 f3 => ?_⟩⟩
    refine ⟨rfl, by show 0 ≤ sizeLine; decide, fun le nle => ?_⟩
    have ie := same_new (o := .lst []) nle
    refine ⟨le, [], [], rfl, .inl upd_same, .nil, fun q z => (by cases z), by show 0 ≤ 12; decide, fun I4 x4 i4 n4 f4 => ?_⟩
    refine ⟨by show 4 ≤ sizeLine; decide, fun T nT => ?_⟩
    have i5 := same_new (o := .lst [.ref x1, .ref x2, .ref x3, .ref x4]) nT
    have j35 := i3.trans (ie.trans (i4.trans i5))
    have j5 := j2.trans j35
    -- told
    refine ⟨_, rfl, ⟨T, [x1, x2, x3, x4], [sumF fs, sumF fs, sumF fs, (0, 1)], rfl, upd_same, .cons (f1.same (it.trans (i2.trans j35))) (.cons (f2.same j35) (.cons (f3.same (ie.trans (i4.trans i5))) (.cons (f4.same i5) .nil))), by show 4 ≤ 100; decide, fun I6 lD vs6 i6 n6 hlD hvs => ?_⟩⟩
    have j6 := j5.trans i6
    refine ⟨_, rfl, two_line, fun t7 nt7 => ⟨by show 1 ≤ sizeLine; decide, fun l8 nl8 => ?_⟩⟩
    have i7 := (same_new (o := .tup [.int 7, .int 1]) nt7).trans (same_new (o := .lst [.ref t7]) nl8)
    refine ⟨D6, l8, _, _, rfl, rfl, (j6.trans i7) _ _ h6, upd_same, by rw [List.length_map, Paired.length T6, lr8]; show 9 ≤ sizeLine; decide, fun G2 nG2 => ?_⟩
    have i8 := same_new (o := .lst (us.map V.ref ++ [.ref t7])) nG2
    have ht7 : TAt (upd (upd (upd I6 t7 (.tup [.int 7, .int 1])) l8 (.lst [.ref t7])) G2 (.lst (us.map V.ref ++ [.ref t7]))) t7 (7, 1) := ((same_new (o := .lst [.ref t7]) nl8).trans i8) _ _ upd_same
    have T7 := paired_app (paired_imp T6 fun _ _ z => TAt.same z (j6.trans (i7.trans i8))) (.cons ht7 .nil)
    rw [hfs] at T7
    refine ⟨G2, us ++ [t7], fs, rfl, by rw [List.map_append]; exact SqL.of upd_same, T7, ok7, l12, fun I9 t9 i9 n9 ht9 => ?_⟩
    refine ⟨by show 1 ≤ sizeLine; decide, fun l1 nl1 => ⟨l1, 3, _, rfl, rfl, upd_same, by decide, by decide, by show 3 ≤ sizeLine; decide, fun l3 nl3 => ?_⟩⟩
    have k1' := same_new (o := .lst [.ref t9]) nl1
    have k3 := same_new (o := .lst [.ref t9, .ref t9, .ref t9]) nl3
    have h3 : upd (upd I9 l1 (.lst [.ref t9])) l3 (.lst [.ref t9, .ref t9, .ref t9]) l3 = some (.lst [.ref t9, .ref t9, .ref t9]) := upd_same
    refine ⟨two_line, fun t0' nt0 => ⟨by show 1 ≤ sizeLine; decide, fun l0 nl0 => ?_⟩⟩
    have k4 := same_new (o := .tup [.int 0, .int 1]) nt0
    have k5 := same_new (o := .lst [.ref t0']) nl0
    refine ⟨l3, l0, [.ref t9, .ref t9, .ref t9], _, rfl, rfl, (k4.trans k5) _ _ h3, upd_same, by show 4 ≤ sizeLine; decide, fun G3 nG3 => ?_⟩
    have k6 := same_new (o := .lst ([.ref t9, .ref t9, .ref t9] ++ [.ref t0'])) nG3
    have k13 := k1'.trans (k3.trans (k4.trans (k5.trans k6)))
    have hz : TAt _ t0' ((0, 1) : Fr) := (k5.trans k6) _ _ upd_same
    have hlD' := (i7.trans (i8.trans (i9.trans k13))) _ _ hlD
    have hv' := paired_imp hvs fun _ _ z => TAt.same z (i7.trans (i8.trans (i9.trans k13)))
    refine ne_same (d := .list ([sumF fs, sumF fs, sumF fs, (0, 1)].map dp)) (.lst (SqL.of hlD') (dps hv')) (.lst (SqL.of upd_same) (dps (ts := [t9, t9, t9, t0']) (.cons (ht9.same k13) (.cons (ht9.same k13) (.cons (ht9.same k13) (.cons hz .nil)))))) (shaped_ps _) ⟨false, rfl, iteF ?_⟩
    generalize upd (upd (upd (upd (upd I9 l1 (.lst [.ref t9])) l3 (.lst (List.replicate (Int.toNat 3) [V.ref t9]).flatten)) t0' (.tup [.int 0, .int 1])) l0 (.lst [.ref t0'])) G3 (.lst ([.ref t9, .ref t9, .ref t9] ++ [.ref t0'])) = J0
    clear hz hlD' hv' k13 k6 k5 k4 k3 k1' h3 ht9 i9 i8 i7 j6 i6 hlD hvs j5 j35 i5 f4 i4 ie f3 i3 f2 i2 it f1 i1 j2 p1 T7 ht7 PN hG h6 T6 s9 s8 pas hD7 s7 pu hD6 s6 R6 R5 R4 R3
    -- which values are numbers
    refine ⟨1, rfl, ?_⟩
    refine ⟨by show 1 ≤ sizeLine; decide, fun l nl => ?_⟩
    refine ⟨two_line, fun t nt => ?_⟩
    refine ⟨_, _, rfl, rfl, ⟨by decide, by decide, by decide⟩, by show 11 ≤ sizeLine; decide, fun VL nVL => ?_⟩
    have a1 := same_new (o := .tup [.int 1, .int 2]) nt
    have a2 := same_new (o := .lst [.int 0, .int 1, .int (-1), .int 5, .bl true, .bl false, .non, .str "1", .ref l, .ref t, .int (10 ^ (5 : Int).toNat)]) nVL
    have hl : upd (upd (upd J0 l (.lst [.int 1])) t (.tup [.int 1, .int 2])) VL (.lst [.int 0, .int 1, .int (-1), .int 5, .bl true, .bl false, .non, .str "1", .ref l, .ref t, .int (10 ^ (5 : Int).toNat)]) l = some (.lst [.int 1]) := (a1.trans a2) _ _ upd_same
    have ht : upd (upd (upd J0 l (.lst [.int 1])) t (.tup [.int 1, .int 2])) VL (.lst [.int 0, .int 1, .int (-1), .int 5, .bl true, .bl false, .non, .str "1", .ref l, .ref t, .int (10 ^ (5 : Int).toNat)]) t = some (.tup [.int 1, .int 2]) := a2 _ _ upd_same
    have hV : upd (upd (upd J0 l (.lst [.int 1])) t (.tup [.int 1, .int 2])) VL (.lst [.int 0, .int 1, .int (-1), .int 5, .bl true, .bl false, .non, .str "1", .ref l, .ref t, .int (10 ^ (5 : Int).toNat)]) VL = some (.lst [.int 0, .int 1, .int (-1), .int 5, .bl true, .bl false, .non, .str "1", .ref l, .ref t, .int (10 ^ (5 : Int).toNat)]) := upd_same
    generalize upd (upd (upd J0 l (.lst [.int 1])) t (.tup [.int 1, .int 2])) VL (.lst [.int 0, .int 1, .int (-1), .int 5, .bl true, .bl false, .non, .str "1", .ref l, .ref t, .int (10 ^ (5 : Int).toNat)]) = J1 at hl ht hV ⊢
    refine ⟨_, rfl, VL, rfl, ⟨_, SqL.of hV⟩, fun D8 nD8 => ?_⟩
    refine lc_map (R := fun H u b => RowAt H u b ∧ u ≠ D8) (ys := rows) nD8 (SqL.of hV) rfl (by decide) (fun _ _ _ _ z s => ⟨s _ _ z.1, z.2⟩) (fun _ _ _ _ _ e z => ⟨by unfold RowAt; rw [upd_ne z.2]; exact z.1, z.2⟩) ?_ ?_
    · intro i x y H' Q' hx hy s nz kq
      obtain ⟨y', hy', tx⟩ := paired_get (told_all R (s _ _ hl) (s _ _ ht)) hx
      rw [hy] at hy'
      obtain rfl := Option.some.inj hy'
      obtain ⟨ty, bi, bb, hty, c0, c1, c2, hb⟩ := tx
      show tLst (tCons (tCall (SpIsNumber K C) [] E0 (tCons (tVar 9) tNil)) (tCons (tCall (SpIsInt K) [] E0 (tCons (tVar 9) tNil)) (tCons (tCall (SpIsCount K) [] E0 (tCons (tVar 9) tNil)) tNil))) _ H' Q'
      refine ⟨_, rfl, ⟨x, ty, false, bi, bb, rfl, hty, c0, c1, c2, ?_⟩⟩
      refine ⟨_, rfl, ⟨x, ty, bi, bb, rfl, hty, c1, c2, ?_⟩⟩
      refine ⟨_, rfl, ⟨x, ty, bi, bb, rfl, hty, c1, c2, ?_⟩⟩
      by_cases hbb : (bi && !bb) = true
      · rw [if_pos hbb] at hb ⊢
        obtain ⟨j, rfl, rfl⟩ := hb
        refine ⟨j, rfl, by show 3 ≤ sizeLine; decide, fun u nu => ?_⟩
        rw [hbb]
        exact kq u _ (same_new nu) ⟨upd_same, fun z => nz (z ▸ nu)⟩
      · rw [if_neg hbb] at hb ⊢
        subst hb
        refine ⟨by show 3 ≤ sizeLine; decide, fun u nu => ?_⟩
        rw [Bool.eq_false_iff.mpr hbb]
        exact kq u _ (same_new nu) ⟨upd_same, fun z => nz (z ▸ nu)⟩
    intro J2 rs8 s8 hD8 p8
    -- due
    refine ⟨by show 3 ≤ sizeLine; decide, fun d1 nd1 => ⟨by show 3 ≤ sizeLine; decide, fun d2 nd2 => ⟨by show 3 ≤ sizeLine; decide, fun d3 nd3 => ⟨by show 3 ≤ sizeLine; decide, fun d4 nd4 => ⟨by show 4 ≤ sizeLine; decide, fun DU nDU => ?_⟩⟩⟩⟩⟩
    have u1 := same_new (o := .lst [.bl true, .bl true, .bl true]) nd1
    have u2 := same_new (o := .lst [.bl true, .bl true, .bl true]) nd2
    have u3 := same_new (o := .lst [.bl true, .bl true, .bl false]) nd3
    have u4 := same_new (o := .lst [.bl true, .bl true, .bl true]) nd4
    have u5 := same_new (o := .lst [.ref d1, .ref d2, .ref d3, .ref d4]) nDU
    have P4 : Paired (RowAt _) [d1, d2, d3, d4] [(true, true, true), (true, true, true), (true, true, false), (true, true, true)] := .cons ((u2.trans (u3.trans (u4.trans u5))) _ _ upd_same) (.cons ((u3.trans (u4.trans u5)) _ _ upd_same) (.cons ((u4.trans u5) _ _ upd_same) (.cons (u5 _ _ upd_same) .nil)))
    have hDU : (upd (upd (upd (upd (upd J2 d1 (.lst [.bl true, .bl true, .bl true])) d2 (.lst [.bl true, .bl true, .bl true])) d3 (.lst [.bl true, .bl true, .bl false])) d4 (.lst [.bl true, .bl true, .bl true])) DU (.lst [.ref d1, .ref d2, .ref d3, .ref d4])) DU = some (.lst ([d1, d2, d3, d4].map V.ref)) := upd_same
    have u15 := u1.trans (u2.trans (u3.trans (u4.trans u5)))
    have hD8' := u15 _ _ hD8
    have P8 := paired_imp p8 fun _ _ z => u15 _ _ z.1
    generalize upd (upd (upd (upd (upd J2 d1 (.lst [.bl true, .bl true, .bl true])) d2 (.lst [.bl true, .bl true, .bl true])) d3 (.lst [.bl true, .bl true, .bl false])) d4 (.lst [.bl true, .bl true, .bl true])) DU (.lst [.ref d1, .ref d2, .ref d3, .ref d4]) = J3 at hDU P4 hD8' P8 ⊢
    clear u1 u2 u3 u4 u5 u15 hD8 p8
    refine ⟨_, rfl, _, rfl, 6, rfl, by decide, by decide, fun D9 nD9 => ?_⟩
    refine lcr_map (R := fun H u b => RowAt H u b ∧ u ≠ D9) (ys := List.replicate 6 (false, false, false)) nD9 rfl (by decide) (fun _ _ _ _ z s => ⟨s _ _ z.1, z.2⟩) (fun _ _ _ _ _ e z => ⟨by unfold RowAt; rw [upd_ne z.2]; exact z.1, z.2⟩) ?_ ?_
    · intro i y H' Q' hy s nz kq
      have hy' := List.eq_of_mem_replicate (List.mem_of_getElem? hy)
      subst hy'
      show tOp rRep (tLst (tCons (tC (.bl false)) tNil)) (tC (.int 3)) _ H' Q'
      exact ⟨by show 1 ≤ sizeLine; decide, fun a na => ⟨a, 3, _, rfl, rfl, upd_same, by decide, by decide, by show 3 ≤ sizeLine; decide, fun u nu => kq u _ ((same_new na).trans (same_new nu)) ⟨upd_same, fun z => nz (z ▸ (same_new na).free nu)⟩⟩⟩
    intro J4 us9 s9 hD9 p9
    have l9 : us9.length = 6 := Paired.length p9
    refine ⟨DU, D9, [d1, d2, d3, d4].map V.ref, us9.map V.ref, rfl, rfl, s9 _ _ hDU, hD9, by rw [List.length_map, List.length_map, l9]; show 10 ≤ sizeLine; decide, fun G4 nG4 => ⟨by show 3 ≤ sizeLine; decide, fun d5 nd5 => ⟨by show 1 ≤ sizeLine; decide, fun l5 nl5 => ?_⟩⟩⟩
    have v1 := same_new (o := .lst ([d1, d2, d3, d4].map V.ref ++ us9.map V.ref)) nG4
    have v2 := same_new (o := .lst [.bl true, .bl true, .bl true]) nd5
    have v3 := same_new (o := .lst [.ref d5]) nl5
    refine ⟨G4, l5, [d1, d2, d3, d4].map V.ref ++ us9.map V.ref, [.ref d5], rfl, rfl, (v2.trans v3) _ _ upd_same, upd_same, by rw [List.length_append, List.length_map, List.length_map, l9]; show 11 ≤ sizeLine; decide, fun G5 nG5 => ?_⟩
    have v4 := same_new (o := .lst ([d1, d2, d3, d4].map V.ref ++ us9.map V.ref ++ [.ref d5])) nG5
    have v14 := v1.trans (v2.trans (v3.trans v4))
    have q5 : RowAt _ d5 (true, true, true) := (v3.trans v4) _ _ upd_same
    have P11 : Paired (RowAt _) ([d1, d2, d3, d4] ++ us9 ++ [d5]) rows := paired_app (paired_app (paired_imp P4 fun _ _ z => (s9.trans v14) _ _ z) (paired_imp p9 fun _ _ z => v14 _ _ z.1)) (.cons q5 .nil)
    refine eq_same (d := .list (rows.map rd)) (.lst (SqL.of ((s9.trans v14) _ _ hD8')) (drows (paired_imp P8 fun _ _ z => (s9.trans v14) _ _ z))) (.lst (xs := ([d1, d2, d3, d4] ++ us9 ++ [d5]).map V.ref) (SqL.of ?_) (drows P11)) rfl (k _)
    rw [List.map_append, List.map_append]
    exact upd_same
end
end RQ

set_option Elab.async false
set_option linter.all false
set_option maxRecDepth 100000
set_option maxHeartbeats 4000000
/-! The law, and what the top has written. -/
namespace RQ
open PySem L2 ClX PyProof.Rows
section
variable {P : Program} {w : World} {K : PySem.W.Frag} {mg : Str → Option Value} {base : Heap} {C : Addr}
structure SpLaw (K : PySem.W.Frag) (vs : List V) (H : Hp) (Q : VK) (E : XK) : Prop where
  ex : ∃ (a : Addr) (ns : List Int), vs = [.ref a] ∧ SqL K H a (ns.map V.int) ∧ ∀ H', Q (.bl true) H'
theorem scLaw : FnScope ["_law_script"] ["_law_script"] (defScope lLaw) := ⟨rfl, rfl, rfl, by decide +kernel, rfl, by decide +kernel, by decide +kernel⟩
theorem ok_law {f fR fP : Addr} {fd fdR fdP : FuncData} (F : Fun K "law" "law" lLaw f fd) (GR : FnG P w K mg base 7 fR fdR ["_law_pot_here"] SpRight) (mR : mg "_law_right" = some (.ref fR)) (kR : PySem.W.keepIn K (.ref fR) = true) (bR : Binds K fdR ["_law_pot_here"] [])
    (GP : FnOk P w K mg base CX0 1 fP fdP ["_law_script", "_law_k"] (SpPot K)) (mP : mg "_law_pot" = some (.ref fP)) (kP : PySem.W.keepIn K (.ref fP) = true) (bP : Binds K fdP ["_law_script", "_law_k"] []) : FnG P w K mg base 8 f fd ["_law_script"] (SpLaw K) := by
  refine okG F scLaw (fun vs H Q E h => ?_) (fun cdv A outer s H vs Q E hgd hr h => ?_)
  · obtain ⟨a, ns, rfl, _⟩ := h
    rfl
  · obtain ⟨a, ns, rfl, hS, k⟩ := h
    have r1 : Room 1 _ := hr.mono (by decide)
    refine ⟨_, PSs.nox (pss_one (ps_ret (pe_callG (E := E0) GR hgd hr (by rfl) mR kR bR (pa_cons (pe_call GP r1 (by rfl) mP kP bP .nil pass0 (pa_cons (pv 0) (pa_cons pe_int pa_nil))) pa_nil)))), ?_⟩
    exact ⟨_, rfl, ⟨a, ns, rfl, hS, fun H' pot hp => ⟨pot, rfl, hp, fun H2 => k H2⟩⟩⟩
theorem kit_self (C : Addr) : PySem.W.kitOne K (.ref C) (.ref C) = some true := by
  unfold PySem.W.kitOne
  rw [if_pos (beq_self_eq_true _)]
theorem kit_sub {C : Addr} {T : String} {r : Bool} (m : PySem.W.kitMeta T = true) (h : PySem.W.subIn K (.ref C) (.type T) = some r) : PySem.W.kitOne K (.ref C) (.type T) = some r := by
  unfold PySem.W.kitOne
  rw [if_neg (by intro z; cases (beq_iff_eq.mp z))]
  unfold PySem.W.kitCls
  simp only
  rw [if_pos m]
  exact h
theorem kit_own {C : Addr} {T : String} {cd : ClassData} {r : Bool} (c : PySem.W.clsIn K C = some cd) (t : PySem.W.typeIn K (.ref C) = some (.type "type")) (h : PySem.W.subIn K (.type T) (.ref C) = some r) : PySem.W.kitOne K (.type T) (.ref C) = some r := by
  unfold PySem.W.kitOne
  rw [if_neg (by intro z; cases (beq_iff_eq.mp z))]
  unfold PySem.W.kitCls
  simp only
  rw [if_pos (by rw [c, t]; simp)]
  exact h
theorem kbn_of {x qual : Str} {st : Stmt} {f : Addr} {fd : FuncData} {ps ks : List Str} {n : Nat} (F : Fun K x qual st f fd)
    (h : ∀ (kV doc pm : Value) (an : Option Addr) (cdv ct : Value) (us ws : List Value), us.length = n → ws.length = ks.length → bindArgs (PySem.W.fnOf x qual (defArgs st) (defBody st) (defScope st) .none kV doc pm an cdv ct) ⟨us, ks.zip ws⟩ = pure (ps.zip (us ++ ws))) :
    KBn K fd ps n ks (fun us ws => us ++ ws) (fun vs zs => vs ++ zs) := by
  obtain ⟨oc, od, kV, doc, pm, an, cdv, ct, osl, rfl, lk, hcd⟩ := F.ex
  exact ⟨fun s us ws _ l1 l2 => .of_eq (h kV doc pm an cdv ct us ws l1 l2), fun r1 r2 => Vals.append r1 r2⟩
end
/-! ### what the top has written -/
theorem all_mk {l : PySem.W.OpenLaw} {w : World} {K : PySem.W.Frag} {h : Heap} {mg : Str → Option Value} {fa C T0 fInit fAdd fRadd fSub fRsub fMul fRmul fNeg fOver fUns fBelow fMost fEq fStr fRepr ptop ftop pbottom fbottom psign fsign pwhole fwhole pTot fTot fI fC_ fN fP flPot flDraw flPick flLow flSum flBy flLess flOver flTotal flPair flPairs flShown flRaw flOne flTwo flRight fLaw : Addr} (X : K.In h) (G : h.Ns mainGlobals mg) (hfa : mg "law" = some (.ref fa))
    {odT odInit anInit odAdd anAdd odRadd anRadd odSub anSub odRsub anRsub odMul anMul odRmul anRmul odNeg anNeg odOver anOver odUns anUns odBelow anBelow odMost anMost odEq anEq odStr anStr odRepr anRepr odtop antop odbottom anbottom odsign ansign odwhole anwhole odTot anTot odI anI odC_ anC_ odN anN odP anP odlPot anlPot odlDraw anlDraw odlPick anlPick odlLow anlLow odlSum anlSum odlBy anlBy odlLess anlLess odlOver anlOver odlTotal anlTotal odlPair anlPair odlPairs anlPairs odlShown anlShown odlRaw anlRaw odlOne anlOne odlTwo anlTwo odlRight anlRight odLaw anLaw : Option Addr} {slT slInit slAdd slRadd slSub slRsub slMul slRmul slNeg slOver slUns slBelow slMost slEq slStr slRepr sltop slbottom slsign slwhole slTot slI slC_ slN slP sllPot sllDraw sllPick sllLow sllSum sllBy sllLess sllOver sllTotal sllPair sllPairs sllShown sllRaw sllOne sllTwo sllRight slLaw : Array (Option Value)} {ocT ocInit kVInit dcInit pmInit cdInit ctInit ocAdd kVAdd dcAdd pmAdd cdAdd ctAdd ocRadd kVRadd dcRadd pmRadd cdRadd ctRadd ocSub kVSub dcSub pmSub cdSub ctSub ocRsub kVRsub dcRsub pmRsub cdRsub ctRsub ocMul kVMul dcMul pmMul cdMul ctMul ocRmul kVRmul dcRmul pmRmul cdRmul ctRmul ocNeg kVNeg dcNeg pmNeg cdNeg ctNeg ocOver kVOver dcOver pmOver cdOver ctOver ocUns kVUns dcUns pmUns cdUns ctUns ocBelow kVBelow dcBelow pmBelow cdBelow ctBelow ocMost kVMost dcMost pmMost cdMost ctMost ocEq kVEq dcEq pmEq cdEq ctEq ocStr kVStr dcStr pmStr cdStr ctStr ocRepr kVRepr dcRepr pmRepr cdRepr ctRepr octop kVtop dctop pmtop cdtop cttop ocbottom kVbottom dcbottom pmbottom cdbottom ctbottom ocsign kVsign dcsign pmsign cdsign ctsign ocwhole kVwhole dcwhole pmwhole cdwhole ctwhole ocTot kVTot dcTot pmTot cdTot ctTot ocI kVI dcI pmI cdI ctI ocC_ kVC_ dcC_ pmC_ cdC_ ctC_ ocN kVN dcN pmN cdN ctN ocP kVP dcP pmP cdP ctP oclPot kVlPot dclPot pmlPot cdlPot ctlPot oclDraw kVlDraw dclDraw pmlDraw cdlDraw ctlDraw oclPick kVlPick dclPick pmlPick cdlPick ctlPick oclLow kVlLow dclLow pmlLow cdlLow ctlLow oclSum kVlSum dclSum pmlSum cdlSum ctlSum oclBy kVlBy dclBy pmlBy cdlBy ctlBy oclLess kVlLess dclLess pmlLess cdlLess ctlLess oclOver kVlOver dclOver pmlOver cdlOver ctlOver oclTotal kVlTotal dclTotal pmlTotal cdlTotal ctlTotal oclPair kVlPair dclPair pmlPair cdlPair ctlPair oclPairs kVlPairs dclPairs pmlPairs cdlPairs ctlPairs oclShown kVlShown dclShown pmlShown cdlShown ctlShown oclRaw kVlRaw dclRaw pmlRaw cdlRaw ctlRaw oclOne kVlOne dclOne pmlOne cdlOne ctlOne oclTwo kVlTwo dclTwo pmlTwo cdlTwo ctlTwo oclRight kVlRight dclRight pmlRight cdlRight ctlRight ocLaw kVLaw dcLaw pmLaw cdLaw ctLaw : Value} {tkT : Tok} {nT : Nat} {cdC : ClassData} {rstop rsbottom rssign rswhole rsTot : List Value}
    (aC : PySem.W.nsIn K mainGlobals "Ratio" = some (some (.ref C)))
    (aInit : PySem.W.findIn K (.ref C) "__init__" = some (some (.ref fInit)))
    (iInit : PySem.W.isFn K (.ref fInit) = true)
    (yInit : K.lookup fInit = some ⟨ocInit, odInit, .func (PySem.W.fnOf "__init__" "Ratio.__init__" (defArgs sInit) (defBody sInit) (defScope sInit) (.ref T0) kVInit dcInit pmInit anInit cdInit ctInit), slInit⟩)
    (cInit : PySem.W.codeIn K cdInit "Ratio.__init__" = true)
    (kInit : PySem.W.keepIn K (.ref fInit) = true)
    (lT0 : K.lookup T0 = some ⟨ocT, odT, .seq #[.int 1 tkT] nT, slT⟩)
    (aAdd : PySem.W.findIn K (.ref C) "__add__" = some (some (.ref fAdd)))
    (iAdd : PySem.W.isFn K (.ref fAdd) = true)
    (yAdd : K.lookup fAdd = some ⟨ocAdd, odAdd, .func (PySem.W.fnOf "__add__" "Ratio.__add__" (defArgs sAdd) (defBody sAdd) (defScope sAdd) .none kVAdd dcAdd pmAdd anAdd cdAdd ctAdd), slAdd⟩)
    (cAdd : PySem.W.codeIn K cdAdd "Ratio.__add__" = true)
    (kAdd : PySem.W.keepIn K (.ref fAdd) = true)
    (aRadd : PySem.W.findIn K (.ref C) "__radd__" = some (some (.ref fRadd)))
    (iRadd : PySem.W.isFn K (.ref fRadd) = true)
    (yRadd : K.lookup fRadd = some ⟨ocRadd, odRadd, .func (PySem.W.fnOf "__radd__" "Ratio.__radd__" (defArgs sRadd) (defBody sRadd) (defScope sRadd) .none kVRadd dcRadd pmRadd anRadd cdRadd ctRadd), slRadd⟩)
    (cRadd : PySem.W.codeIn K cdRadd "Ratio.__radd__" = true)
    (kRadd : PySem.W.keepIn K (.ref fRadd) = true)
    (aSub : PySem.W.findIn K (.ref C) "__sub__" = some (some (.ref fSub)))
    (iSub : PySem.W.isFn K (.ref fSub) = true)
    (ySub : K.lookup fSub = some ⟨ocSub, odSub, .func (PySem.W.fnOf "__sub__" "Ratio.__sub__" (defArgs sSub) (defBody sSub) (defScope sSub) .none kVSub dcSub pmSub anSub cdSub ctSub), slSub⟩)
    (cSub : PySem.W.codeIn K cdSub "Ratio.__sub__" = true)
    (kSub : PySem.W.keepIn K (.ref fSub) = true)
    (aRsub : PySem.W.findIn K (.ref C) "__rsub__" = some (some (.ref fRsub)))
    (iRsub : PySem.W.isFn K (.ref fRsub) = true)
    (yRsub : K.lookup fRsub = some ⟨ocRsub, odRsub, .func (PySem.W.fnOf "__rsub__" "Ratio.__rsub__" (defArgs sRsub) (defBody sRsub) (defScope sRsub) .none kVRsub dcRsub pmRsub anRsub cdRsub ctRsub), slRsub⟩)
    (cRsub : PySem.W.codeIn K cdRsub "Ratio.__rsub__" = true)
    (kRsub : PySem.W.keepIn K (.ref fRsub) = true)
    (aMul : PySem.W.findIn K (.ref C) "__mul__" = some (some (.ref fMul)))
    (iMul : PySem.W.isFn K (.ref fMul) = true)
    (yMul : K.lookup fMul = some ⟨ocMul, odMul, .func (PySem.W.fnOf "__mul__" "Ratio.__mul__" (defArgs sMul) (defBody sMul) (defScope sMul) .none kVMul dcMul pmMul anMul cdMul ctMul), slMul⟩)
    (cMul : PySem.W.codeIn K cdMul "Ratio.__mul__" = true)
    (kMul : PySem.W.keepIn K (.ref fMul) = true)
    (aRmul : PySem.W.findIn K (.ref C) "__rmul__" = some (some (.ref fRmul)))
    (iRmul : PySem.W.isFn K (.ref fRmul) = true)
    (yRmul : K.lookup fRmul = some ⟨ocRmul, odRmul, .func (PySem.W.fnOf "__rmul__" "Ratio.__rmul__" (defArgs sRmul) (defBody sRmul) (defScope sRmul) .none kVRmul dcRmul pmRmul anRmul cdRmul ctRmul), slRmul⟩)
    (cRmul : PySem.W.codeIn K cdRmul "Ratio.__rmul__" = true)
    (kRmul : PySem.W.keepIn K (.ref fRmul) = true)
    (aNeg : PySem.W.findIn K (.ref C) "__neg__" = some (some (.ref fNeg)))
    (iNeg : PySem.W.isFn K (.ref fNeg) = true)
    (yNeg : K.lookup fNeg = some ⟨ocNeg, odNeg, .func (PySem.W.fnOf "__neg__" "Ratio.__neg__" (defArgs sNeg) (defBody sNeg) (defScope sNeg) .none kVNeg dcNeg pmNeg anNeg cdNeg ctNeg), slNeg⟩)
    (cNeg : PySem.W.codeIn K cdNeg "Ratio.__neg__" = true)
    (kNeg : PySem.W.keepIn K (.ref fNeg) = true)
    (aOver : PySem.W.findIn K (.ref C) "over" = some (some (.ref fOver)))
    (iOver : PySem.W.isFn K (.ref fOver) = true)
    (yOver : K.lookup fOver = some ⟨ocOver, odOver, .func (PySem.W.fnOf "over" "Ratio.over" (defArgs sOver) (defBody sOver) (defScope sOver) .none kVOver dcOver pmOver anOver cdOver ctOver), slOver⟩)
    (cOver : PySem.W.codeIn K cdOver "Ratio.over" = true)
    (kOver : PySem.W.keepIn K (.ref fOver) = true)
    (aUns : PySem.W.findIn K (.ref C) "unsigned" = some (some (.ref fUns)))
    (iUns : PySem.W.isFn K (.ref fUns) = true)
    (yUns : K.lookup fUns = some ⟨ocUns, odUns, .func (PySem.W.fnOf "unsigned" "Ratio.unsigned" (defArgs sUnsigned) (defBody sUnsigned) (defScope sUnsigned) .none kVUns dcUns pmUns anUns cdUns ctUns), slUns⟩)
    (cUns : PySem.W.codeIn K cdUns "Ratio.unsigned" = true)
    (kUns : PySem.W.keepIn K (.ref fUns) = true)
    (aBelow : PySem.W.findIn K (.ref C) "is_below" = some (some (.ref fBelow)))
    (iBelow : PySem.W.isFn K (.ref fBelow) = true)
    (yBelow : K.lookup fBelow = some ⟨ocBelow, odBelow, .func (PySem.W.fnOf "is_below" "Ratio.is_below" (defArgs sBelow) (defBody sBelow) (defScope sBelow) .none kVBelow dcBelow pmBelow anBelow cdBelow ctBelow), slBelow⟩)
    (cBelow : PySem.W.codeIn K cdBelow "Ratio.is_below" = true)
    (kBelow : PySem.W.keepIn K (.ref fBelow) = true)
    (aMost : PySem.W.findIn K (.ref C) "is_at_most" = some (some (.ref fMost)))
    (iMost : PySem.W.isFn K (.ref fMost) = true)
    (yMost : K.lookup fMost = some ⟨ocMost, odMost, .func (PySem.W.fnOf "is_at_most" "Ratio.is_at_most" (defArgs sAtMost) (defBody sAtMost) (defScope sAtMost) .none kVMost dcMost pmMost anMost cdMost ctMost), slMost⟩)
    (cMost : PySem.W.codeIn K cdMost "Ratio.is_at_most" = true)
    (kMost : PySem.W.keepIn K (.ref fMost) = true)
    (aEq : PySem.W.findIn K (.ref C) "__eq__" = some (some (.ref fEq)))
    (iEq : PySem.W.isFn K (.ref fEq) = true)
    (yEq : K.lookup fEq = some ⟨ocEq, odEq, .func (PySem.W.fnOf "__eq__" "Ratio.__eq__" (defArgs sEq) (defBody sEq) (defScope sEq) .none kVEq dcEq pmEq anEq cdEq ctEq), slEq⟩)
    (cEq : PySem.W.codeIn K cdEq "Ratio.__eq__" = true)
    (kEq : PySem.W.keepIn K (.ref fEq) = true)
    (aStr : PySem.W.findIn K (.ref C) "__str__" = some (some (.ref fStr)))
    (iStr : PySem.W.isFn K (.ref fStr) = true)
    (yStr : K.lookup fStr = some ⟨ocStr, odStr, .func (PySem.W.fnOf "__str__" "Ratio.__str__" (defArgs sStr) (defBody sStr) (defScope sStr) .none kVStr dcStr pmStr anStr cdStr ctStr), slStr⟩)
    (cStr : PySem.W.codeIn K cdStr "Ratio.__str__" = true)
    (kStr : PySem.W.keepIn K (.ref fStr) = true)
    (aRepr : PySem.W.findIn K (.ref C) "__repr__" = some (some (.ref fRepr)))
    (iRepr : PySem.W.isFn K (.ref fRepr) = true)
    (yRepr : K.lookup fRepr = some ⟨ocRepr, odRepr, .func (PySem.W.fnOf "__repr__" "Ratio.__repr__" (defArgs sRepr) (defBody sRepr) (defScope sRepr) .none kVRepr dcRepr pmRepr anRepr cdRepr ctRepr), slRepr⟩)
    (cRepr : PySem.W.codeIn K cdRepr "Ratio.__repr__" = true)
    (kRepr : PySem.W.keepIn K (.ref fRepr) = true)
    (atop : PySem.W.findIn K (.ref C) "top" = some (some (.ref ptop)))
    (gtop : PySem.W.specialIn K (.ref ptop) "__get__" = some (some (.builtin "property.__get__")))
    (ttop : PySem.W.takesIn K (.ref ptop) = some true)
    (rtop : PySem.W.recIn K ptop "property" = some (.ref ftop :: rstop))
    (ytop : K.lookup ftop = some ⟨octop, odtop, .func (PySem.W.fnOf "top" "Ratio.top" (defArgs sTop) (defBody sTop) (defScope sTop) .none kVtop dctop pmtop antop cdtop cttop), sltop⟩)
    (ctop : PySem.W.codeIn K cdtop "Ratio.top" = true)
    (ktop : PySem.W.keepIn K (.ref ftop) = true)
    (abottom : PySem.W.findIn K (.ref C) "bottom" = some (some (.ref pbottom)))
    (gbottom : PySem.W.specialIn K (.ref pbottom) "__get__" = some (some (.builtin "property.__get__")))
    (tbottom : PySem.W.takesIn K (.ref pbottom) = some true)
    (rbottom : PySem.W.recIn K pbottom "property" = some (.ref fbottom :: rsbottom))
    (ybottom : K.lookup fbottom = some ⟨ocbottom, odbottom, .func (PySem.W.fnOf "bottom" "Ratio.bottom" (defArgs sBottom) (defBody sBottom) (defScope sBottom) .none kVbottom dcbottom pmbottom anbottom cdbottom ctbottom), slbottom⟩)
    (cbottom : PySem.W.codeIn K cdbottom "Ratio.bottom" = true)
    (kbottom : PySem.W.keepIn K (.ref fbottom) = true)
    (asign : PySem.W.findIn K (.ref C) "sign" = some (some (.ref psign)))
    (gsign : PySem.W.specialIn K (.ref psign) "__get__" = some (some (.builtin "property.__get__")))
    (tsign : PySem.W.takesIn K (.ref psign) = some true)
    (rsign : PySem.W.recIn K psign "property" = some (.ref fsign :: rssign))
    (ysign : K.lookup fsign = some ⟨ocsign, odsign, .func (PySem.W.fnOf "sign" "Ratio.sign" (defArgs sSign) (defBody sSign) (defScope sSign) .none kVsign dcsign pmsign ansign cdsign ctsign), slsign⟩)
    (csign : PySem.W.codeIn K cdsign "Ratio.sign" = true)
    (ksign : PySem.W.keepIn K (.ref fsign) = true)
    (awhole : PySem.W.findIn K (.ref C) "is_whole" = some (some (.ref pwhole)))
    (gwhole : PySem.W.specialIn K (.ref pwhole) "__get__" = some (some (.builtin "property.__get__")))
    (twhole : PySem.W.takesIn K (.ref pwhole) = some true)
    (rwhole : PySem.W.recIn K pwhole "property" = some (.ref fwhole :: rswhole))
    (ywhole : K.lookup fwhole = some ⟨ocwhole, odwhole, .func (PySem.W.fnOf "is_whole" "Ratio.is_whole" (defArgs sWhole) (defBody sWhole) (defScope sWhole) .none kVwhole dcwhole pmwhole anwhole cdwhole ctwhole), slwhole⟩)
    (cwhole : PySem.W.codeIn K cdwhole "Ratio.is_whole" = true)
    (kwhole : PySem.W.keepIn K (.ref fwhole) = true)
    (aTot : PySem.W.findCls K (.ref C) (.type "type") "total" = some (.get (.builtin "classmethod.__get__") (.ref pTot) .none (.ref C)))
    (rTot : PySem.W.recIn K pTot "classmethod" = some (.ref fTot :: rsTot))
    (iTot : PySem.W.fnIn K fTot = true)
    (yTot : K.lookup fTot = some ⟨ocTot, odTot, .func (PySem.W.fnOf "total" "Ratio.total" (defArgs sTotal) (defBody sTotal) (defScope sTotal) .none kVTot dcTot pmTot anTot cdTot ctTot), slTot⟩)
    (cTot : PySem.W.codeIn K cdTot "Ratio.total" = true)
    (kTot : PySem.W.keepIn K (.ref fTot) = true)
    (aI : PySem.W.nsIn K mainGlobals "is_integer" = some (some (.ref fI)))
    (yI : K.lookup fI = some ⟨ocI, odI, .func (PySem.W.fnOf "is_integer" "is_integer" (defArgs sIsInt) (defBody sIsInt) (defScope sIsInt) .none kVI dcI pmI anI cdI ctI), slI⟩)
    (cI : PySem.W.codeIn K cdI "is_integer" = true)
    (kI : PySem.W.keepIn K (.ref fI) = true)
    (aC_ : PySem.W.nsIn K mainGlobals "is_count" = some (some (.ref fC_)))
    (yC_ : K.lookup fC_ = some ⟨ocC_, odC_, .func (PySem.W.fnOf "is_count" "is_count" (defArgs sIsCount) (defBody sIsCount) (defScope sIsCount) .none kVC_ dcC_ pmC_ anC_ cdC_ ctC_), slC_⟩)
    (cC_ : PySem.W.codeIn K cdC_ "is_count" = true)
    (kC_ : PySem.W.keepIn K (.ref fC_) = true)
    (aN : PySem.W.nsIn K mainGlobals "is_number" = some (some (.ref fN)))
    (yN : K.lookup fN = some ⟨ocN, odN, .func (PySem.W.fnOf "is_number" "is_number" (defArgs sIsNumber) (defBody sIsNumber) (defScope sIsNumber) .none kVN dcN pmN anN cdN ctN), slN⟩)
    (cN : PySem.W.codeIn K cdN "is_number" = true)
    (kN : PySem.W.keepIn K (.ref fN) = true)
    (aP : PySem.W.nsIn K mainGlobals "_parts" = some (some (.ref fP)))
    (yP : K.lookup fP = some ⟨ocP, odP, .func (PySem.W.fnOf "_parts" "_parts" (defArgs sParts) (defBody sParts) (defScope sParts) .none kVP dcP pmP anP cdP ctP), slP⟩)
    (cP : PySem.W.codeIn K cdP "_parts" = true)
    (kP : PySem.W.keepIn K (.ref fP) = true)
    (alPot : PySem.W.nsIn K mainGlobals "_law_pot" = some (some (.ref flPot)))
    (ylPot : K.lookup flPot = some ⟨oclPot, odlPot, .func (PySem.W.fnOf "_law_pot" "_law_pot" (defArgs lPot) (defBody lPot) (defScope lPot) .none kVlPot dclPot pmlPot anlPot cdlPot ctlPot), sllPot⟩)
    (clPot : PySem.W.codeIn K cdlPot "_law_pot" = true)
    (klPot : PySem.W.keepIn K (.ref flPot) = true)
    (alDraw : PySem.W.nsIn K mainGlobals "_law_draw" = some (some (.ref flDraw)))
    (ylDraw : K.lookup flDraw = some ⟨oclDraw, odlDraw, .func (PySem.W.fnOf "_law_draw" "_law_draw" (defArgs lDraw) (defBody lDraw) (defScope lDraw) .none kVlDraw dclDraw pmlDraw anlDraw cdlDraw ctlDraw), sllDraw⟩)
    (clDraw : PySem.W.codeIn K cdlDraw "_law_draw" = true)
    (klDraw : PySem.W.keepIn K (.ref flDraw) = true)
    (alPick : PySem.W.nsIn K mainGlobals "_law_pick" = some (some (.ref flPick)))
    (ylPick : K.lookup flPick = some ⟨oclPick, odlPick, .func (PySem.W.fnOf "_law_pick" "_law_pick" (defArgs lPick) (defBody lPick) (defScope lPick) .none kVlPick dclPick pmlPick anlPick cdlPick ctlPick), sllPick⟩)
    (clPick : PySem.W.codeIn K cdlPick "_law_pick" = true)
    (klPick : PySem.W.keepIn K (.ref flPick) = true)
    (alLow : PySem.W.nsIn K mainGlobals "_law_low" = some (some (.ref flLow)))
    (ylLow : K.lookup flLow = some ⟨oclLow, odlLow, .func (PySem.W.fnOf "_law_low" "_law_low" (defArgs lLow) (defBody lLow) (defScope lLow) .none kVlLow dclLow pmlLow anlLow cdlLow ctlLow), sllLow⟩)
    (clLow : PySem.W.codeIn K cdlLow "_law_low" = true)
    (klLow : PySem.W.keepIn K (.ref flLow) = true)
    (alSum : PySem.W.nsIn K mainGlobals "_law_sum" = some (some (.ref flSum)))
    (ylSum : K.lookup flSum = some ⟨oclSum, odlSum, .func (PySem.W.fnOf "_law_sum" "_law_sum" (defArgs lSum) (defBody lSum) (defScope lSum) .none kVlSum dclSum pmlSum anlSum cdlSum ctlSum), sllSum⟩)
    (clSum : PySem.W.codeIn K cdlSum "_law_sum" = true)
    (klSum : PySem.W.keepIn K (.ref flSum) = true)
    (alBy : PySem.W.nsIn K mainGlobals "_law_by" = some (some (.ref flBy)))
    (ylBy : K.lookup flBy = some ⟨oclBy, odlBy, .func (PySem.W.fnOf "_law_by" "_law_by" (defArgs lBy) (defBody lBy) (defScope lBy) .none kVlBy dclBy pmlBy anlBy cdlBy ctlBy), sllBy⟩)
    (clBy : PySem.W.codeIn K cdlBy "_law_by" = true)
    (klBy : PySem.W.keepIn K (.ref flBy) = true)
    (alLess : PySem.W.nsIn K mainGlobals "_law_less" = some (some (.ref flLess)))
    (ylLess : K.lookup flLess = some ⟨oclLess, odlLess, .func (PySem.W.fnOf "_law_less" "_law_less" (defArgs lLess) (defBody lLess) (defScope lLess) .none kVlLess dclLess pmlLess anlLess cdlLess ctlLess), sllLess⟩)
    (clLess : PySem.W.codeIn K cdlLess "_law_less" = true)
    (klLess : PySem.W.keepIn K (.ref flLess) = true)
    (alOver : PySem.W.nsIn K mainGlobals "_law_over" = some (some (.ref flOver)))
    (ylOver : K.lookup flOver = some ⟨oclOver, odlOver, .func (PySem.W.fnOf "_law_over" "_law_over" (defArgs lOver) (defBody lOver) (defScope lOver) .none kVlOver dclOver pmlOver anlOver cdlOver ctlOver), sllOver⟩)
    (clOver : PySem.W.codeIn K cdlOver "_law_over" = true)
    (klOver : PySem.W.keepIn K (.ref flOver) = true)
    (alTotal : PySem.W.nsIn K mainGlobals "_law_total" = some (some (.ref flTotal)))
    (ylTotal : K.lookup flTotal = some ⟨oclTotal, odlTotal, .func (PySem.W.fnOf "_law_total" "_law_total" (defArgs lTotal) (defBody lTotal) (defScope lTotal) .none kVlTotal dclTotal pmlTotal anlTotal cdlTotal ctlTotal), sllTotal⟩)
    (clTotal : PySem.W.codeIn K cdlTotal "_law_total" = true)
    (klTotal : PySem.W.keepIn K (.ref flTotal) = true)
    (alPair : PySem.W.nsIn K mainGlobals "_law_pair" = some (some (.ref flPair)))
    (ylPair : K.lookup flPair = some ⟨oclPair, odlPair, .func (PySem.W.fnOf "_law_pair" "_law_pair" (defArgs lPair) (defBody lPair) (defScope lPair) .none kVlPair dclPair pmlPair anlPair cdlPair ctlPair), sllPair⟩)
    (clPair : PySem.W.codeIn K cdlPair "_law_pair" = true)
    (klPair : PySem.W.keepIn K (.ref flPair) = true)
    (alPairs : PySem.W.nsIn K mainGlobals "_law_pairs" = some (some (.ref flPairs)))
    (ylPairs : K.lookup flPairs = some ⟨oclPairs, odlPairs, .func (PySem.W.fnOf "_law_pairs" "_law_pairs" (defArgs lPairs) (defBody lPairs) (defScope lPairs) .none kVlPairs dclPairs pmlPairs anlPairs cdlPairs ctlPairs), sllPairs⟩)
    (clPairs : PySem.W.codeIn K cdlPairs "_law_pairs" = true)
    (klPairs : PySem.W.keepIn K (.ref flPairs) = true)
    (alShown : PySem.W.nsIn K mainGlobals "_law_shown" = some (some (.ref flShown)))
    (ylShown : K.lookup flShown = some ⟨oclShown, odlShown, .func (PySem.W.fnOf "_law_shown" "_law_shown" (defArgs lShown) (defBody lShown) (defScope lShown) .none kVlShown dclShown pmlShown anlShown cdlShown ctlShown), sllShown⟩)
    (clShown : PySem.W.codeIn K cdlShown "_law_shown" = true)
    (klShown : PySem.W.keepIn K (.ref flShown) = true)
    (alRaw : PySem.W.nsIn K mainGlobals "_law_raw" = some (some (.ref flRaw)))
    (ylRaw : K.lookup flRaw = some ⟨oclRaw, odlRaw, .func (PySem.W.fnOf "_law_raw" "_law_raw" (defArgs lRaw) (defBody lRaw) (defScope lRaw) .none kVlRaw dclRaw pmlRaw anlRaw cdlRaw ctlRaw), sllRaw⟩)
    (clRaw : PySem.W.codeIn K cdlRaw "_law_raw" = true)
    (klRaw : PySem.W.keepIn K (.ref flRaw) = true)
    (alOne : PySem.W.nsIn K mainGlobals "_law_one_right" = some (some (.ref flOne)))
    (ylOne : K.lookup flOne = some ⟨oclOne, odlOne, .func (PySem.W.fnOf "_law_one_right" "_law_one_right" (defArgs lOne) (defBody lOne) (defScope lOne) .none kVlOne dclOne pmlOne anlOne cdlOne ctlOne), sllOne⟩)
    (clOne : PySem.W.codeIn K cdlOne "_law_one_right" = true)
    (klOne : PySem.W.keepIn K (.ref flOne) = true)
    (alTwo : PySem.W.nsIn K mainGlobals "_law_two_right" = some (some (.ref flTwo)))
    (ylTwo : K.lookup flTwo = some ⟨oclTwo, odlTwo, .func (PySem.W.fnOf "_law_two_right" "_law_two_right" (defArgs lTwo) (defBody lTwo) (defScope lTwo) .none kVlTwo dclTwo pmlTwo anlTwo cdlTwo ctlTwo), sllTwo⟩)
    (clTwo : PySem.W.codeIn K cdlTwo "_law_two_right" = true)
    (klTwo : PySem.W.keepIn K (.ref flTwo) = true)
    (alRight : PySem.W.nsIn K mainGlobals "_law_right" = some (some (.ref flRight)))
    (ylRight : K.lookup flRight = some ⟨oclRight, odlRight, .func (PySem.W.fnOf "_law_right" "_law_right" (defArgs lRight) (defBody lRight) (defScope lRight) .none kVlRight dclRight pmlRight anlRight cdlRight ctlRight), sllRight⟩)
    (clRight : PySem.W.codeIn K cdlRight "_law_right" = true)
    (klRight : PySem.W.keepIn K (.ref flRight) = true)
    (aLaw : PySem.W.nsIn K mainGlobals "law" = some (some (.ref fLaw)))
    (yLaw : K.lookup fLaw = some ⟨ocLaw, odLaw, .func (PySem.W.fnOf "law" "law" (defArgs lLaw) (defBody lLaw) (defScope lLaw) .none kVLaw dcLaw pmLaw anLaw cdLaw ctLaw), slLaw⟩)
    (cLaw : PySem.W.codeIn K cdLaw "law" = true)
    (kLaw : PySem.W.keepIn K (.ref fLaw) = true)
    (z_isinstance : PySem.W.nsIn K mainGlobals "isinstance" = some none)
    (z_int : PySem.W.nsIn K mainGlobals "int" = some none)
    (z_bool : PySem.W.nsIn K mainGlobals "bool" = some none)
    (z_abs : PySem.W.nsIn K mainGlobals "abs" = some none)
    (z_str : PySem.W.nsIn K mainGlobals "str" = some none)
    (z_list : PySem.W.nsIn K mainGlobals "list" = some none)
    (z_tuple : PySem.W.nsIn K mainGlobals "tuple" = some none)
    (z_len : PySem.W.nsIn K mainGlobals "len" = some none)
    (z_max : PySem.W.nsIn K mainGlobals "max" = some none)
    (z_divmod : PySem.W.nsIn K mainGlobals "divmod" = some none)
    (z_range : PySem.W.nsIn K mainGlobals "range" = some none)
    (z_repr : PySem.W.nsIn K mainGlobals "repr" = some none)
    (z_gcd : PySem.W.nsIn K mainGlobals "gcd" = some (some (.builtin "math.gcd")))
    (z_lcm : PySem.W.nsIn K mainGlobals "lcm" = some (some (.builtin "math.lcm")))
    (pg : PySem.W.plainGet K C Str.empty = true)
    (hd : PySem.W.hasDictIn K C = true)
    (po : PySem.W.plainOver K C = true)
    (sa : PySem.W.findIn K (.ref C) "__setattr__" = some (some (.builtin "object.__setattr__")))
    (mk : PySem.W.makesIn K C = true)
    (kc : PySem.W.keepIn K (.ref C) = true)
    (nTop : PySem.W.findIn K (.ref C) "_top" = some none)
    (nBot : PySem.W.findIn K (.ref C) "_bottom" = some none)
    (ha : PySem.W.findIn K (.ref C) "__class__" = some (some (.builtin "object.__class__")))
    (hn : PySem.W.specialIn K (.builtin "object.__class__") "__get__" = some (some (.builtin "getset_descriptor.__get__")))
    (htk : PySem.W.takesIn K (.builtin "object.__class__") = some true)
    (hm : PySem.W.mroIn K C (.type "object") = some true)
    (cC : PySem.W.clsIn K C = some cdC)
    (tyC : PySem.W.typeIn K (.ref C) = some (.type "type"))
    (sf : PySem.W.selfFirst K C = true)
    (ne : PySem.W.findIn K (.ref C) "__ne__" = some (some (.builtin "object.__ne__")))
    (rdC : PySem.W.readsIn K C (.type "type") = true)
    (gaC : PySem.W.specialIn K (.ref C) "__getattribute__" = some (some (.builtin "type.__getattribute__")))
    (b_int : PySem.W.subIn K (.ref C) (.type "int") = some false)
    (b_bool : PySem.W.subIn K (.ref C) (.type "bool") = some false)
    (b_list : PySem.W.subIn K (.ref C) (.type "list") = some false)
    (b_tuple : PySem.W.subIn K (.ref C) (.type "tuple") = some false)
    (o_int : PySem.W.subIn K (.type "int") (.ref C) = some false)
    (o_bool : PySem.W.subIn K (.type "bool") (.ref C) = some false)
    (o_NoneType : PySem.W.subIn K (.type "NoneType") (.ref C) = some false)
    (o_str : PySem.W.subIn K (.type "str") (.ref C) = some false)
    (o_list : PySem.W.subIn K (.type "list") (.ref C) = some false)
    (o_tuple : PySem.W.subIn K (.type "tuple") (.ref C) = some false) :
    ∃ fd : FuncData, (∀ (s : Shared) (v : Value), BindsTo s fd ⟨[v], []⟩ [("_law_script", v)]) ∧ ∀ base : Heap, K.In base → base.Ns mainGlobals mg → FnG l.prog w K mg base 8 fa fd ["_law_script"] (SpLaw K) := by
  have e := hfa.symm.trans (PySem.W.mg_of X G aLaw)
  cases e
  have B : Blt mg := ⟨PySem.W.mg_none_of X G z_isinstance, PySem.W.mg_none_of X G z_int, PySem.W.mg_none_of X G z_bool, PySem.W.mg_none_of X G z_abs, PySem.W.mg_none_of X G z_str, PySem.W.mg_none_of X G z_list, PySem.W.mg_none_of X G z_tuple, PySem.W.mg_none_of X G z_len, PySem.W.mg_none_of X G z_max, PySem.W.mg_none_of X G z_divmod, PySem.W.mg_none_of X G z_range, PySem.W.mg_none_of X G z_repr, PySem.W.mg_of X G z_gcd, PySem.W.mg_of X G z_lcm⟩
  have R : RCls K mg C := ⟨⟨pg, hd, po, sa⟩, nTop, nBot, PySem.W.mg_of X G aC, kc, ha, hn, htk, hm, kit_self C, kit_sub rfl b_int, kit_sub rfl b_bool, kit_sub rfl b_list, kit_sub rfl b_tuple, kit_own cC tyC o_int, kit_own cC tyC o_bool, kit_own cC tyC o_NoneType, kit_own cC tyC o_str, kit_own cC tyC o_list, kit_own cC tyC o_tuple⟩
  have FAdd := fun_mk (st := sAdd) yAdd cAdd kAdd
  have bAdd := FAdd.binds (ps := ["self", "other"]) fun _ _ _ _ _ _ us hl => match us, hl with | [_, _], _ => rfl
  have FRadd := fun_mk (st := sRadd) yRadd cRadd kRadd
  have bRadd := FRadd.binds (ps := ["self", "other"]) fun _ _ _ _ _ _ us hl => match us, hl with | [_, _], _ => rfl
  have FSub := fun_mk (st := sSub) ySub cSub kSub
  have bSub := FSub.binds (ps := ["self", "other"]) fun _ _ _ _ _ _ us hl => match us, hl with | [_, _], _ => rfl
  have FRsub := fun_mk (st := sRsub) yRsub cRsub kRsub
  have bRsub := FRsub.binds (ps := ["self", "other"]) fun _ _ _ _ _ _ us hl => match us, hl with | [_, _], _ => rfl
  have FMul := fun_mk (st := sMul) yMul cMul kMul
  have bMul := FMul.binds (ps := ["self", "other"]) fun _ _ _ _ _ _ us hl => match us, hl with | [_, _], _ => rfl
  have FRmul := fun_mk (st := sRmul) yRmul cRmul kRmul
  have bRmul := FRmul.binds (ps := ["self", "other"]) fun _ _ _ _ _ _ us hl => match us, hl with | [_, _], _ => rfl
  have FNeg := fun_mk (st := sNeg) yNeg cNeg kNeg
  have bNeg := FNeg.binds (ps := ["self"]) fun _ _ _ _ _ _ us hl => match us, hl with | [_], _ => rfl
  have FOver := fun_mk (st := sOver) yOver cOver kOver
  have bOver := FOver.binds (ps := ["self", "other"]) fun _ _ _ _ _ _ us hl => match us, hl with | [_, _], _ => rfl
  have FUns := fun_mk (st := sUnsigned) yUns cUns kUns
  have bUns := FUns.binds (ps := ["self"]) fun _ _ _ _ _ _ us hl => match us, hl with | [_], _ => rfl
  have FBelow := fun_mk (st := sBelow) yBelow cBelow kBelow
  have bBelow := FBelow.binds (ps := ["self", "other"]) fun _ _ _ _ _ _ us hl => match us, hl with | [_, _], _ => rfl
  have FMost := fun_mk (st := sAtMost) yMost cMost kMost
  have bMost := FMost.binds (ps := ["self", "other"]) fun _ _ _ _ _ _ us hl => match us, hl with | [_, _], _ => rfl
  have FEq := fun_mk (st := sEq) yEq cEq kEq
  have bEq := FEq.binds (ps := ["self", "other"]) fun _ _ _ _ _ _ us hl => match us, hl with | [_, _], _ => rfl
  have FStr := fun_mk (st := sStr) yStr cStr kStr
  have bStr := FStr.binds (ps := ["self"]) fun _ _ _ _ _ _ us hl => match us, hl with | [_], _ => rfl
  have FRepr := fun_mk (st := sRepr) yRepr cRepr kRepr
  have bRepr := FRepr.binds (ps := ["self"]) fun _ _ _ _ _ _ us hl => match us, hl with | [_], _ => rfl
  have FI := fun_mk (st := sIsInt) yI cI kI
  have bI := FI.binds (ps := ["value"]) fun _ _ _ _ _ _ us hl => match us, hl with | [_], _ => rfl
  have FC_ := fun_mk (st := sIsCount) yC_ cC_ kC_
  have bC_ := FC_.binds (ps := ["value"]) fun _ _ _ _ _ _ us hl => match us, hl with | [_], _ => rfl
  have FN := fun_mk (st := sIsNumber) yN cN kN
  have bN := FN.binds (ps := ["value"]) fun _ _ _ _ _ _ us hl => match us, hl with | [_], _ => rfl
  have FP := fun_mk (st := sParts) yP cP kP
  have bP := FP.binds (ps := ["value"]) fun _ _ _ _ _ _ us hl => match us, hl with | [_], _ => rfl
  have FlPot := fun_mk (st := lPot) ylPot clPot klPot
  have blPot := FlPot.binds (ps := ["_law_script", "_law_k"]) fun _ _ _ _ _ _ us hl => match us, hl with | [_, _], _ => rfl
  have FlDraw := fun_mk (st := lDraw) ylDraw clDraw klDraw
  have blDraw := FlDraw.binds (ps := ["_law_pot_here", "_law_size"]) fun _ _ _ _ _ _ us hl => match us, hl with | [_, _], _ => rfl
  have FlPick := fun_mk (st := lPick) ylPick clPick klPick
  have blPick := FlPick.binds (ps := ["_law_pot_here", "_law_some"]) fun _ _ _ _ _ _ us hl => match us, hl with | [_, _], _ => rfl
  have FlLow := fun_mk (st := lLow) ylLow clLow klLow
  have blLow := FlLow.binds (ps := ["_law_top", "_law_bottom"]) fun _ _ _ _ _ _ us hl => match us, hl with | [_, _], _ => rfl
  have FlSum := fun_mk (st := lSum) ylSum clSum klSum
  have blSum := FlSum.binds (ps := ["_law_one", "_law_other"]) fun _ _ _ _ _ _ us hl => match us, hl with | [_, _], _ => rfl
  have FlBy := fun_mk (st := lBy) ylBy clBy klBy
  have blBy := FlBy.binds (ps := ["_law_one", "_law_other"]) fun _ _ _ _ _ _ us hl => match us, hl with | [_, _], _ => rfl
  have FlLess := fun_mk (st := lLess) ylLess clLess klLess
  have blLess := FlLess.binds (ps := ["_law_one", "_law_other"]) fun _ _ _ _ _ _ us hl => match us, hl with | [_, _], _ => rfl
  have FlOver := fun_mk (st := lOver) ylOver clOver klOver
  have blOver := FlOver.binds (ps := ["_law_one", "_law_other"]) fun _ _ _ _ _ _ us hl => match us, hl with | [_, _], _ => rfl
  have FlTotal := fun_mk (st := lTotal) ylTotal clTotal klTotal
  have blTotal := FlTotal.binds (ps := ["_law_pairs_here"]) fun _ _ _ _ _ _ us hl => match us, hl with | [_], _ => rfl
  have FlPair := fun_mk (st := lPair) ylPair clPair klPair
  have blPair := FlPair.binds (ps := ["_law_value"]) fun _ _ _ _ _ _ us hl => match us, hl with | [_], _ => rfl
  have FlPairs := fun_mk (st := lPairs) ylPairs clPairs klPairs
  have blPairs := FlPairs.binds (ps := ["_law_value"]) fun _ _ _ _ _ _ us hl => match us, hl with | [_], _ => rfl
  have FlShown := fun_mk (st := lShown) ylShown clShown klShown
  have blShown := FlShown.binds (ps := ["_law_pair_here"]) fun _ _ _ _ _ _ us hl => match us, hl with | [_], _ => rfl
  have FlRaw := fun_mk (st := lRaw) ylRaw clRaw klRaw
  have blRaw := FlRaw.binds (ps := ["_law_pot_here"]) fun _ _ _ _ _ _ us hl => match us, hl with | [_], _ => rfl
  have FlOne := fun_mk (st := lOne) ylOne clOne klOne
  have blOne := FlOne.binds (ps := ["_law_raw_here"]) fun _ _ _ _ _ _ us hl => match us, hl with | [_], _ => rfl
  have FlTwo := fun_mk (st := lTwo) ylTwo clTwo klTwo
  have blTwo := FlTwo.binds (ps := ["_law_raw_here", "_law_other_raw", "_law_number"]) fun _ _ _ _ _ _ us hl => match us, hl with | [_, _, _], _ => rfl
  have FlRight := fun_mk (st := lRight) ylRight clRight klRight
  have blRight := FlRight.binds (ps := ["_law_pot_here"]) fun _ _ _ _ _ _ us hl => match us, hl with | [_], _ => rfl
  have FLaw := fun_mk (st := lLaw) yLaw cLaw kLaw
  have Ftop := fun_mk (st := sTop) ytop ctop ktop
  have btop := Ftop.binds (ps := ["self"]) fun _ _ _ _ _ _ us hl => match us, hl with | [_], _ => rfl
  have htop : PropOf K C "top" ptop ftop := ⟨atop, gtop, ttop, _, rtop⟩
  have Fbottom := fun_mk (st := sBottom) ybottom cbottom kbottom
  have bbottom := Fbottom.binds (ps := ["self"]) fun _ _ _ _ _ _ us hl => match us, hl with | [_], _ => rfl
  have hbottom : PropOf K C "bottom" pbottom fbottom := ⟨abottom, gbottom, tbottom, _, rbottom⟩
  have Fsign := fun_mk (st := sSign) ysign csign ksign
  have bsign := Fsign.binds (ps := ["self"]) fun _ _ _ _ _ _ us hl => match us, hl with | [_], _ => rfl
  have hsign : PropOf K C "sign" psign fsign := ⟨asign, gsign, tsign, _, rsign⟩
  have Fwhole := fun_mk (st := sWhole) ywhole cwhole kwhole
  have bwhole := Fwhole.binds (ps := ["self"]) fun _ _ _ _ _ _ us hl => match us, hl with | [_], _ => rfl
  have hwhole : PropOf K C "is_whole" pwhole fwhole := ⟨awhole, gwhole, twhole, _, rwhole⟩
  have FTot := fun_mk (st := sTotal) yTot cTot kTot
  have bTot := FTot.binds (ps := ["cls", "numbers"]) fun _ _ _ _ _ _ us hl => match us, hl with | [_, _], _ => rfl
  have FInit : FunD K "__init__" "Ratio.__init__" (defArgs sInit) (defBody sInit) (defScope sInit) [.int 1] [] fInit _ := ⟨⟨_, _, _, _, _, _, _, _, _, _, rfl, yInit, cInit, .inr ⟨(fun z => nomatch z), T0, _, [.int 1 tkT], nT, rfl, lT0, rfl, .cons ⟨tkT, rfl⟩ .nil⟩, .inl rfl⟩, kInit⟩
  obtain ⟨ds0, v0, b0⟩ := FInit.binds1 (ps := ["self", "top", "bottom"]) 3 1 (fun z => nomatch z) rfl fun _ _ _ _ _ _ _ us its hl hi => match us, hl, its, hi with | [_, _, _], _, [_], _ => ⟨_, rfl, rfl⟩
  cases v0
  obtain ⟨its0, kb0⟩ := FInit.kbindsD (ps := ["self", "top", "bottom"]) 1 ["top", "bottom"] (fun us _ ws => us ++ ws) (fun z => nomatch z) (fun r1 _ r2 => Vals.append r1 r2) fun _ _ _ _ _ _ _ us its ws hl hi hw => match us, hl, its, hi, ws, hw with | [_], _, [_], _, [_, _], _ => ⟨_, rfl, rfl⟩
  have kbOver : KBn K _ ["self", "other"] 1 ["other"] (fun us ws => us ++ ws) (fun vs zs => vs ++ zs) := kbn_of FOver fun _ _ _ _ _ _ us ws hl hw => match us, hl, ws, hw with | [_], _, [_], _ => rfl
  have kbTot : KBn K _ ["cls", "numbers"] 1 ["numbers"] (fun us ws => us ++ ws) (fun vs zs => vs ++ zs) := kbn_of FTot fun _ _ _ _ _ _ us ws hl hw => match us, hl, ws, hw with | [_], _, [_], _ => rfl
  refine ⟨PySem.W.fnOf "law" "law" (defArgs lLaw) (defBody lLaw) (defScope lLaw) .none kVLaw dcLaw pmLaw anLaw cdLaw ctLaw, fun s v => .of_eq rfl, fun base _ _ => ?_⟩
  have GI := ok_isInt (P := l.prog) (w := w) (base := base) FI B
  have mI := PySem.W.mg_of X G aI
  have G0 := ok_init (P := l.prog) (w := w) (base := base) FInit B R GI mI kI bI
  have Gt := ok_top (P := l.prog) (w := w) (base := base) Ftop R
  have Gb := ok_bottom (P := l.prog) (w := w) (base := base) Fbottom R
  let D0 : Defs l.prog w K mg base C := ⟨B, R, fI, _, GI, mI, kI, bI, fInit, _, ⟨mk, aInit, iInit, kc⟩, G0, b0⟩
  let D : DefsP l.prog w K mg base C := { toDefs := D0, fP := fP, fdP := _, GP := ok_parts FP D0 htop hbottom Gt Gb btop bbottom, mP := PySem.W.mg_of X G aP, kP := kP, bP := bP }
  have cAdd : BinC K C fAdd fRadd "add" := ⟨sf, aAdd, iAdd, aRadd, iRadd, o_int, b_int⟩
  have cSub : BinC K C fSub fRsub "sub" := ⟨sf, aSub, iSub, aRsub, iRsub, o_int, b_int⟩
  have cMul : BinC K C fMul fRmul "mul" := ⟨sf, aMul, iMul, aRmul, iRmul, o_int, b_int⟩
  have GAdd := ok_add FAdd D
  have GMul := ok_mul FMul D
  have GNeg := ok_neg FNeg D0
  have cNeg : OneC K C fNeg "__neg__" := ⟨aNeg, iNeg⟩
  let LL : DefsL l.prog w K mg base := ⟨flDraw, _, ok_draw FlDraw B, PySem.W.mg_of X G alDraw, klDraw, blDraw⟩
  have GLow := ok_low (P := l.prog) (w := w) (base := base) FlLow B
  let LM : DefsM l.prog w K mg base := ⟨flLow, _, GLow, PySem.W.mg_of X G alLow, klLow, blLow⟩
  have GPick := ok_pick FlPick B LL
  have GSum := ok_sum FlSum LM
  have mSum := PySem.W.mg_of X G alSum
  have GPair := ok_pair (P := l.prog) (w := w) (base := base) FlPair B R htop hbottom Gt Gb btop bbottom
  have mPair := PySem.W.mg_of X G alPair
  let L : Lib l.prog w K mg base C := { D := D, nN := ⟨fN, _, ok_isNumber FN D0, PySem.W.mg_of X G aN, kN, bN⟩, nC := ⟨fC_, _, ok_isCount FC_ D0, PySem.W.mg_of X G aC_, kC_, bC_⟩, pS := ⟨psign, fsign, _, ok_sign Fsign R, hsign, bsign⟩, pW := ⟨pwhole, fwhole, _, ok_whole Fwhole R, hwhole, bwhole⟩, mAdd := ⟨fAdd, _, GAdd, ⟨aAdd, iAdd, kAdd⟩, bAdd⟩, mSub := ⟨fSub, _, ok_sub FSub D, ⟨aSub, iSub, kSub⟩, bSub⟩, mMul := ⟨fMul, _, GMul, ⟨aMul, iMul, kMul⟩, bMul⟩, mRadd := ⟨fRadd, _, ok_radd FRadd GAdd bAdd cAdd, ⟨aRadd, iRadd, kRadd⟩, bRadd⟩, mRsub := ⟨fRsub, _, ok_rsub FRsub GAdd bAdd cAdd GNeg bNeg cNeg, ⟨aRsub, iRsub, kRsub⟩, bRsub⟩, mRmul := ⟨fRmul, _, ok_rmul FRmul GMul bMul cMul, ⟨aRmul, iRmul, kRmul⟩, bRmul⟩, cAdd := cAdd, cSub := cSub, cMul := cMul, mNeg := ⟨fNeg, _, GNeg, ⟨aNeg, iNeg, kNeg⟩, bNeg⟩, cNeg := cNeg, mEq := ⟨fEq, _, ok_eq FEq B R, ⟨aEq, iEq, kEq⟩, bEq⟩, cEq := ⟨aEq, iEq, ne, hm, o_int, b_int⟩, mStr := ⟨fStr, _, ok_str FStr B R, ⟨aStr, iStr, kStr⟩, bStr⟩, cStr := ⟨aStr, iStr⟩, mRepr := ⟨fRepr, _, ok_repr FRepr R, ⟨aRepr, iRepr, kRepr⟩, bRepr⟩, cRepr := ⟨aRepr, iRepr⟩, mOver := ⟨fOver, _, ok_over FOver D, ⟨aOver, iOver, kOver⟩, bOver⟩, kOver := kbOver, mUns := ⟨fUns, _, ok_unsigned FUns D0, ⟨aUns, iUns, kUns⟩, bUns⟩, mBelow := ⟨fBelow, _, ok_below FBelow D, ⟨aBelow, iBelow, kBelow⟩, bBelow⟩, mMost := ⟨fMost, _, ok_atMost FMost D, ⟨aMost, iMost, kMost⟩, bMost⟩, k0 := kb0, mc := .type "type", rd := ⟨rdC, gaC⟩, tp := pTot, fT := fTot, fdT := _, GT := ok_total FTot D, cT := ⟨aTot, ⟨_, rTot⟩, iTot⟩, bT := bTot, kT := kbTot, lDraw := ⟨flDraw, _, ok_draw FlDraw B, PySem.W.mg_of X G alDraw, klDraw, blDraw⟩, lPick := ⟨flPick, _, GPick, PySem.W.mg_of X G alPick, klPick, blPick⟩, lLow := ⟨flLow, _, GLow, PySem.W.mg_of X G alLow, klLow, blLow⟩, lSum := ⟨flSum, _, GSum, PySem.W.mg_of X G alSum, klSum, blSum⟩, lBy := ⟨flBy, _, ok_by FlBy LM, PySem.W.mg_of X G alBy, klBy, blBy⟩, lLess := ⟨flLess, _, ok_less FlLess GSum mSum klSum blSum, PySem.W.mg_of X G alLess, klLess, blLess⟩, lOver := ⟨flOver, _, ok_lover FlOver LM, PySem.W.mg_of X G alOver, klOver, blOver⟩, lTotal := ⟨flTotal, _, ok_ltotal FlTotal GSum mSum klSum blSum, PySem.W.mg_of X G alTotal, klTotal, blTotal⟩, lPair := ⟨flPair, _, GPair, PySem.W.mg_of X G alPair, klPair, blPair⟩, lPairs := ⟨flPairs, _, ok_pairs FlPairs B GPair mPair klPair blPair, PySem.W.mg_of X G alPairs, klPairs, blPairs⟩, lShown := ⟨flShown, _, ok_shown FlShown B, PySem.W.mg_of X G alShown, klShown, blShown⟩, lRaw := ⟨flRaw, _, ok_raw FlRaw B LL GPick (PySem.W.mg_of X G alPick) klPick blPick, PySem.W.mg_of X G alRaw, klRaw, blRaw⟩ }
  have G1 := ok_oneR FlOne L
  have G2 := ok_twoR FlTwo L
  have GR := ok_right FlRight L G1 (PySem.W.mg_of X G alOne) klOne blOne G2 (PySem.W.mg_of X G alTwo) klTwo blTwo
  exact ok_law FLaw GR (PySem.W.mg_of X G alRight) klRight blRight (ok_pot FlPot B) (PySem.W.mg_of X G alPot) klPot blPot
theorem walk {l : PySem.W.OpenLaw} {n : Nat} {q : Program} {loose : List Str} {XP : (Str → Option Value) → Heap → Prop} {YP : World → Heap → Prop} {d : DefRec} {K : Params → PySem.W.Frag} (hn : l.most = some n) (hn2 : n ≤ sizeLine) (hdf : d.params.defaults = [])
    (hY : ∀ (w : World) (h : Heap), YP w h → (K w.params).In h)
    (F : ∀ (w : World) (mg : Str → Option Value) (fa : Addr) (h : Heap), (K w.params).In h → h.Ns mainGlobals mg → mg d.name = some (.ref fa) →
      ∃ fd : FuncData, (∀ (s : Shared) (u : Value), BindsTo s fd ⟨[u], []⟩ [("_law_script", u)]) ∧ ∀ base : Heap, (K w.params).In base → base.Ns mainGlobals mg → FnG l.prog w (K w.params) mg base 8 fa fd ["_law_script"] (SpLaw (K w.params))) :
    PySem.W.WalkO q loose XP YP l.row.toRowW d [] (fun f vs => PySem.call f vs) :=
  walkG (k := 8) (x := "_law_script") (sp := fun K => SpLaw K) hn hn2 hdf ⟨rfl, by decide, by decide⟩ hY F fun K H a ns _ hS => ⟨a, ns, rfl, hS, fun _ => rfl⟩
end RQ

set_option Elab.async false
set_option maxRecDepth 100000
open PySem PySem.W PyProof.Rows in
set_option maxRecDepth 100000 in
set_option maxHeartbeats 0 in
theorem PySem.Challenge.cw_shrunkrooms_k11_ratios_reckoned_holds : PySem.Challenge.rw_shrunkrooms_k11_ratios_reckoned.Holds := by
  w_on; o_law; k_head; (case hw => w_witness2)
  k_fill
  refine RQ.walk (l := PySem.Challenge.rw_shrunkrooms_k11_ratios_reckoned) rfl (by decide) rfl (fun w h Y => PySem.W.kIn_of Y) ?F
  case F =>
    intro w mg fa h KX G hmg
    refine' RQ.all_mk KX G hmg ?aC ?aInit ?iInit ?yInit ?cInit ?kInit ?lT0 ?aAdd ?iAdd ?yAdd ?cAdd ?kAdd ?aRadd ?iRadd ?yRadd ?cRadd ?kRadd ?aSub ?iSub ?ySub ?cSub ?kSub ?aRsub ?iRsub ?yRsub ?cRsub ?kRsub ?aMul ?iMul ?yMul ?cMul ?kMul ?aRmul ?iRmul ?yRmul ?cRmul ?kRmul ?aNeg ?iNeg ?yNeg ?cNeg ?kNeg ?aOver ?iOver ?yOver ?cOver ?kOver ?aUns ?iUns ?yUns ?cUns ?kUns ?aBelow ?iBelow ?yBelow ?cBelow ?kBelow ?aMost ?iMost ?yMost ?cMost ?kMost ?aEq ?iEq ?yEq ?cEq ?kEq ?aStr ?iStr ?yStr ?cStr ?kStr ?aRepr ?iRepr ?yRepr ?cRepr ?kRepr ?atop ?gtop ?ttop ?rtop ?ytop ?ctop ?ktop ?abottom ?gbottom ?tbottom ?rbottom ?ybottom ?cbottom ?kbottom ?asign ?gsign ?tsign ?rsign ?ysign ?csign ?ksign ?awhole ?gwhole ?twhole ?rwhole ?ywhole ?cwhole ?kwhole ?aTot ?rTot ?iTot ?yTot ?cTot ?kTot ?aI ?yI ?cI ?kI ?aC_ ?yC_ ?cC_ ?kC_ ?aN ?yN ?cN ?kN ?aP ?yP ?cP ?kP ?alPot ?ylPot ?clPot ?klPot ?alDraw ?ylDraw ?clDraw ?klDraw ?alPick ?ylPick ?clPick ?klPick ?alLow ?ylLow ?clLow ?klLow ?alSum ?ylSum ?clSum ?klSum ?alBy ?ylBy ?clBy ?klBy ?alLess ?ylLess ?clLess ?klLess ?alOver ?ylOver ?clOver ?klOver ?alTotal ?ylTotal ?clTotal ?klTotal ?alPair ?ylPair ?clPair ?klPair ?alPairs ?ylPairs ?clPairs ?klPairs ?alShown ?ylShown ?clShown ?klShown ?alRaw ?ylRaw ?clRaw ?klRaw ?alOne ?ylOne ?clOne ?klOne ?alTwo ?ylTwo ?clTwo ?klTwo ?alRight ?ylRight ?clRight ?klRight ?aLaw ?yLaw ?cLaw ?kLaw ?z_isinstance ?z_int ?z_bool ?z_abs ?z_str ?z_list ?z_tuple ?z_len ?z_max ?z_divmod ?z_range ?z_repr ?z_gcd ?z_lcm ?pg ?hd ?po ?sa ?mk ?kc ?nTop ?nBot ?ha ?hn ?htk ?hm ?cC ?tyC ?sf ?ne ?rdC ?gaC ?b_int ?b_bool ?b_list ?b_tuple ?o_int ?o_bool ?o_NoneType ?o_str ?o_list ?o_tuple
    (case aC => k_is)
    (case aInit => k_is)
    (case iInit => k_is)
    (case yInit => k_is)
    (case cInit => k_is)
    (case kInit => k_is)
    (case lT0 => k_is)
    (case aAdd => k_is)
    (case iAdd => k_is)
    (case yAdd => k_is)
    (case cAdd => k_is)
    (case kAdd => k_is)
    (case aRadd => k_is)
    (case iRadd => k_is)
    (case yRadd => k_is)
    (case cRadd => k_is)
    (case kRadd => k_is)
    (case aSub => k_is)
    (case iSub => k_is)
    (case ySub => k_is)
    (case cSub => k_is)
    (case kSub => k_is)
    (case aRsub => k_is)
    (case iRsub => k_is)
    (case yRsub => k_is)
    (case cRsub => k_is)
    (case kRsub => k_is)
    (case aMul => k_is)
    (case iMul => k_is)
    (case yMul => k_is)
    (case cMul => k_is)
    (case kMul => k_is)
    (case aRmul => k_is)
    (case iRmul => k_is)
    (case yRmul => k_is)
    (case cRmul => k_is)
    (case kRmul => k_is)
    (case aNeg => k_is)
    (case iNeg => k_is)
    (case yNeg => k_is)
    (case cNeg => k_is)
    (case kNeg => k_is)
    (case aOver => k_is)
    (case iOver => k_is)
    (case yOver => k_is)
    (case cOver => k_is)
    (case kOver => k_is)
    (case aUns => k_is)
    (case iUns => k_is)
    (case yUns => k_is)
    (case cUns => k_is)
    (case kUns => k_is)
    (case aBelow => k_is)
    (case iBelow => k_is)
    (case yBelow => k_is)
    (case cBelow => k_is)
    (case kBelow => k_is)
    (case aMost => k_is)
    (case iMost => k_is)
    (case yMost => k_is)
    (case cMost => k_is)
    (case kMost => k_is)
    (case aEq => k_is)
    (case iEq => k_is)
    (case yEq => k_is)
    (case cEq => k_is)
    (case kEq => k_is)
    (case aStr => k_is)
    (case iStr => k_is)
    (case yStr => k_is)
    (case cStr => k_is)
    (case kStr => k_is)
    (case aRepr => k_is)
    (case iRepr => k_is)
    (case yRepr => k_is)
    (case cRepr => k_is)
    (case kRepr => k_is)
    (case atop => k_is)
    (case gtop => k_is)
    (case ttop => k_is)
    (case rtop => k_is)
    (case ytop => k_is)
    (case ctop => k_is)
    (case ktop => k_is)
    (case abottom => k_is)
    (case gbottom => k_is)
    (case tbottom => k_is)
    (case rbottom => k_is)
    (case ybottom => k_is)
    (case cbottom => k_is)
    (case kbottom => k_is)
    (case asign => k_is)
    (case gsign => k_is)
    (case tsign => k_is)
    (case rsign => k_is)
    (case ysign => k_is)
    (case csign => k_is)
    (case ksign => k_is)
    (case awhole => k_is)
    (case gwhole => k_is)
    (case twhole => k_is)
    (case rwhole => k_is)
    (case ywhole => k_is)
    (case cwhole => k_is)
    (case kwhole => k_is)
    (case aTot => k_is)
    (case rTot => k_is)
    (case iTot => k_is)
    (case yTot => k_is)
    (case cTot => k_is)
    (case kTot => k_is)
    (case aI => k_is)
    (case yI => k_is)
    (case cI => k_is)
    (case kI => k_is)
    (case aC_ => k_is)
    (case yC_ => k_is)
    (case cC_ => k_is)
    (case kC_ => k_is)
    (case aN => k_is)
    (case yN => k_is)
    (case cN => k_is)
    (case kN => k_is)
    (case aP => k_is)
    (case yP => k_is)
    (case cP => k_is)
    (case kP => k_is)
    (case alPot => k_is)
    (case ylPot => k_is)
    (case clPot => k_is)
    (case klPot => k_is)
    (case alDraw => k_is)
    (case ylDraw => k_is)
    (case clDraw => k_is)
    (case klDraw => k_is)
    (case alPick => k_is)
    (case ylPick => k_is)
    (case clPick => k_is)
    (case klPick => k_is)
    (case alLow => k_is)
    (case ylLow => k_is)
    (case clLow => k_is)
    (case klLow => k_is)
    (case alSum => k_is)
    (case ylSum => k_is)
    (case clSum => k_is)
    (case klSum => k_is)
    (case alBy => k_is)
    (case ylBy => k_is)
    (case clBy => k_is)
    (case klBy => k_is)
    (case alLess => k_is)
    (case ylLess => k_is)
    (case clLess => k_is)
    (case klLess => k_is)
    (case alOver => k_is)
    (case ylOver => k_is)
    (case clOver => k_is)
    (case klOver => k_is)
    (case alTotal => k_is)
    (case ylTotal => k_is)
    (case clTotal => k_is)
    (case klTotal => k_is)
    (case alPair => k_is)
    (case ylPair => k_is)
    (case clPair => k_is)
    (case klPair => k_is)
    (case alPairs => k_is)
    (case ylPairs => k_is)
    (case clPairs => k_is)
    (case klPairs => k_is)
    (case alShown => k_is)
    (case ylShown => k_is)
    (case clShown => k_is)
    (case klShown => k_is)
    (case alRaw => k_is)
    (case ylRaw => k_is)
    (case clRaw => k_is)
    (case klRaw => k_is)
    (case alOne => k_is)
    (case ylOne => k_is)
    (case clOne => k_is)
    (case klOne => k_is)
    (case alTwo => k_is)
    (case ylTwo => k_is)
    (case clTwo => k_is)
    (case klTwo => k_is)
    (case alRight => k_is)
    (case ylRight => k_is)
    (case clRight => k_is)
    (case klRight => k_is)
    (case aLaw => k_is)
    (case yLaw => k_is)
    (case cLaw => k_is)
    (case kLaw => k_is)
    (case z_isinstance => k_is)
    (case z_int => k_is)
    (case z_bool => k_is)
    (case z_abs => k_is)
    (case z_str => k_is)
    (case z_list => k_is)
    (case z_tuple => k_is)
    (case z_len => k_is)
    (case z_max => k_is)
    (case z_divmod => k_is)
    (case z_range => k_is)
    (case z_repr => k_is)
    (case z_gcd => k_is)
    (case z_lcm => k_is)
    (case pg => k_is)
    (case hd => k_is)
    (case po => k_is)
    (case sa => k_is)
    (case mk => k_is)
    (case kc => k_is)
    (case nTop => k_is)
    (case nBot => k_is)
    (case ha => k_is)
    (case hn => k_is)
    (case htk => k_is)
    (case hm => k_is)
    (case cC => k_is)
    (case tyC => k_is)
    (case sf => k_is)
    (case ne => k_is)
    (case rdC => k_is)
    (case gaC => k_is)
    (case b_int => k_is)
    (case b_bool => k_is)
    (case b_list => k_is)
    (case b_tuple => k_is)
    (case o_int => k_is)
    (case o_bool => k_is)
    (case o_NoneType => k_is)
    (case o_str => k_is)
    (case o_list => k_is)
    (case o_tuple => k_is)
