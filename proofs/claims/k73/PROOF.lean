import PyProof.Rows.All
import Wide.All
import OpenK.AllK
import Wide.FinOn
import HandS.ForMost
import HandS.SlotsOwn
import HandS.Wide
import HandS.Gcd
import KE.KOpsOwn
import KE.KMathG
import KE.KCallOwn
import PyProof.ReprRoads
import HandS.ClsMeth
import HandS.Deep
import HandS.IsInst
import HandS.Words
import HandS.Star
import HandS.Zip
import HandS.TupAny
import HandS.SetFor
import HandS.Strs
import KE.DataMinKey
import KE.KMinKey
import HandS.SortKw
import HandS.SortRule
import HandS.TupLe
import HandS.Defaults
import HandS.WordsDict
import PyProof.ReprBulk
import PyProof.ReprLen
import HandS.Style
import PyProof.Rows.SetFrom
import KE.KDictPairs
import HandS.Dict
import HandS.Conv
import HandS.FStr
import HandS.MakeKw
import PySem.Challenge.RW_shrunkrooms_k73_any_values_as_rooks_and
set_option Elab.async false
set_option maxRecDepth 100000
set_option linter.all false
/-! The mathematics of fractions in lowest terms: no Python here. -/
namespace RQ
/-- the part that is taken out of a top and a bottom, with the bottom's sign -/
def G (t b : Int) : Int := if b < 0 then -((Nat.gcd t.natAbs b.natAbs : Nat) : Int) else ((Nat.gcd t.natAbs b.natAbs : Nat) : Int)
def low (t b : Int) : Int × Int := (t.fdiv (G t b), b.fdiv (G t b))
/-- in lowest terms -/
def Red (p : Int × Int) : Prop := 0 < p.2 ∧ Nat.gcd p.1.natAbs p.2.natAbs = 1

theorem gcd_pos {t b : Int} (h : b ≠ 0) : 0 < Nat.gcd t.natAbs b.natAbs := Nat.gcd_pos_of_pos_right _ (Int.natAbs_pos.mpr h)
theorem G_ne {t b : Int} (h : b ≠ 0) : G t b ≠ 0 := by
  have := gcd_pos (t := t) h
  unfold G
  split <;> omega
theorem G_abs (t b : Int) : (G t b).natAbs = Nat.gcd t.natAbs b.natAbs := by
  unfold G
  split
  · rw [Int.natAbs_neg, Int.natAbs_natCast]
  · rw [Int.natAbs_natCast]
theorem G_dvd_top (t b : Int) : G t b ∣ t := Int.natAbs_dvd_natAbs.mp (by rw [G_abs]; exact Nat.gcd_dvd_left _ _)
theorem G_dvd_bot (t b : Int) : G t b ∣ b := Int.natAbs_dvd_natAbs.mp (by rw [G_abs]; exact Nat.gcd_dvd_right _ _)
theorem fdiv_mul {a g : Int} (h : g ∣ a) : a.fdiv g * g = a := by
  have h1 : g * a.fdiv g + a.fmod g = a := Int.mul_fdiv_add_fmod a g
  have h2 : a.fmod g = 0 := Int.fmod_eq_zero_of_dvd h
  rw [h2, Int.add_zero, Int.mul_comm] at h1
  exact h1
theorem low_top (t b : Int) : (low t b).1 * G t b = t := fdiv_mul (G_dvd_top t b)
theorem low_bot (t b : Int) : (low t b).2 * G t b = b := fdiv_mul (G_dvd_bot t b)
theorem low_pos {t b : Int} (h : b ≠ 0) : 0 < (low t b).2 := by
  have e := low_bot t b
  have g := gcd_pos (t := t) h
  by_cases hb : b < 0
  · have hG : G t b < 0 := by unfold G; rw [if_pos hb]; omega
    rcases Int.lt_trichotomy (low t b).2 0 with q | q | q
    · have := Int.mul_pos_of_neg_of_neg q hG
      omega
    · rw [q] at e; omega
    · exact q
  · have hG : 0 < G t b := by unfold G; rw [if_neg hb]; omega
    rcases Int.lt_trichotomy (low t b).2 0 with q | q | q
    · have := Int.mul_neg_of_neg_of_pos q hG
      omega
    · rw [q] at e; omega
    · exact q
theorem low_cop {t b : Int} (h : b ≠ 0) : Nat.gcd (low t b).1.natAbs (low t b).2.natAbs = 1 := by
  have g := gcd_pos (t := t) h
  have e1 : (low t b).1.natAbs * Nat.gcd t.natAbs b.natAbs = t.natAbs := by
    rw [← G_abs, ← Int.natAbs_mul, low_top]
  have e2 : (low t b).2.natAbs * Nat.gcd t.natAbs b.natAbs = b.natAbs := by
    rw [← G_abs, ← Int.natAbs_mul, low_bot]
  have e3 : Nat.gcd (low t b).1.natAbs (low t b).2.natAbs * Nat.gcd t.natAbs b.natAbs = Nat.gcd t.natAbs b.natAbs := by
    rw [← Nat.gcd_mul_right, e1, e2]
  exact Nat.eq_of_mul_eq_mul_right g (by rw [e3, Nat.one_mul])
theorem low_red {t b : Int} (h : b ≠ 0) : Red (low t b) := ⟨low_pos h, low_cop h⟩
theorem low_of_red {p : Int × Int} (h : Red p) : low p.1 p.2 = p := by
  have hG : G p.1 p.2 = 1 := by
    unfold G
    rw [if_neg (by have := h.1; omega), h.2]
    rfl
  unfold low
  rw [hG, Int.fdiv_one, Int.fdiv_one]
theorem red_one (t : Int) : Red (t, 1) := ⟨(by decide : (0 : Int) < 1), by show Nat.gcd t.natAbs 1 = 1; exact Nat.gcd_one_right _⟩
theorem low_one (t : Int) : low t 1 = (t, 1) := low_of_red (red_one t)
/-- two reduced fractions of one worth are one -/
theorem red_eq {p q : Int × Int} (hp : Red p) (hq : Red q) (h : p.1 * q.2 = q.1 * p.2) : p = q := by
  have h' : p.1.natAbs * q.2.natAbs = q.1.natAbs * p.2.natAbs := by rw [← Int.natAbs_mul, ← Int.natAbs_mul, h]
  have d1 : p.2.natAbs ∣ q.2.natAbs := by
    have : p.2.natAbs ∣ p.1.natAbs * q.2.natAbs := ⟨q.1.natAbs, by rw [h', Nat.mul_comm]⟩
    exact Nat.Coprime.dvd_of_dvd_mul_left (show Nat.Coprime p.2.natAbs p.1.natAbs from by rw [Nat.coprime_iff_gcd_eq_one, Nat.gcd_comm]; exact hp.2) this
  have d2 : q.2.natAbs ∣ p.2.natAbs := by
    have : q.2.natAbs ∣ q.1.natAbs * p.2.natAbs := ⟨p.1.natAbs, by rw [← h', Nat.mul_comm]⟩
    exact Nat.Coprime.dvd_of_dvd_mul_left (show Nat.Coprime q.2.natAbs q.1.natAbs from by rw [Nat.coprime_iff_gcd_eq_one, Nat.gcd_comm]; exact hq.2) this
  have e := Nat.dvd_antisymm d1 d2
  have e2 : p.2 = q.2 := by
    have a := hp.1
    have b := hq.1
    omega
  have e1 : p.1 = q.1 := by
    rw [e2] at h
    exact Int.eq_of_mul_eq_mul_right (by have := hq.1; omega) h
  exact Prod.ext e1 e2
/-- what low brings has the worth of what it was given -/
theorem low_worth (t b : Int) : (low t b).1 * b = t * (low t b).2 := by
  have e1 := low_top t b
  have e2 := low_bot t b
  calc (low t b).1 * b = (low t b).1 * ((low t b).2 * G t b) := by rw [e2]
    _ = ((low t b).1 * G t b) * (low t b).2 := by rw [Int.mul_comm (low t b).2, Int.mul_assoc]
    _ = t * (low t b).2 := by rw [e1]
theorem low_cross {t b s d : Int} (hb : b ≠ 0) (hd : d ≠ 0) (h : t * d = s * b) : low t b = low s d := by
  refine red_eq (low_red hb) (low_red hd) ?_
  have w1 := low_worth t b
  have w2 := low_worth s d
  have hbd : b * d ≠ 0 := Int.mul_ne_zero hb hd
  refine Int.eq_of_mul_eq_mul_right hbd ?_
  calc (low t b).1 * (low s d).2 * (b * d) = ((low t b).1 * b) * ((low s d).2 * d) := by
        simp only [Int.mul_assoc, Int.mul_left_comm, Int.mul_comm]
    _ = (t * (low t b).2) * ((low s d).2 * d) := by rw [w1]
    _ = (t * d) * ((low t b).2 * (low s d).2) := by simp only [Int.mul_assoc, Int.mul_left_comm, Int.mul_comm]
    _ = (s * b) * ((low t b).2 * (low s d).2) := by rw [h]
    _ = (s * (low s d).2) * ((low t b).2 * b) := by simp only [Int.mul_assoc, Int.mul_left_comm, Int.mul_comm]
    _ = ((low s d).1 * d) * ((low t b).2 * b) := by rw [w2]
    _ = (low s d).1 * (low t b).2 * (b * d) := by simp only [Int.mul_assoc, Int.mul_left_comm, Int.mul_comm]
theorem low_of_worth {t b : Int} {p : Int × Int} (hb : b ≠ 0) (hp : Red p) (h : t * p.2 = p.1 * b) : low t b = p := by
  have := low_cross (s := p.1) hb (show p.2 ≠ 0 from by have := hp.1; omega) h
  rw [this, low_of_red hp]
theorem low_le_top (t : Int) {b : Int} (hb : b ≠ 0) : (low t b).1.natAbs ≤ t.natAbs := by
  have e : (low t b).1.natAbs * (G t b).natAbs = t.natAbs := by rw [← Int.natAbs_mul, low_top]
  have g : 0 < (G t b).natAbs := by have := G_ne (t := t) hb; omega
  rw [← e]
  exact Nat.le_mul_of_pos_right _ g
theorem low_le_bot (t : Int) {b : Int} (hb : b ≠ 0) : (low t b).2.natAbs ≤ b.natAbs := by
  have e : (low t b).2.natAbs * (G t b).natAbs = b.natAbs := by rw [← Int.natAbs_mul, low_bot]
  have g : 0 < (G t b).natAbs := by have := G_ne (t := t) hb; omega
  rw [← e]
  exact Nat.le_mul_of_pos_right _ g

/-! ### sums, products, quotients of pairs -/
abbrev Fr := Int × Int
def add (p q : Fr) : Fr := low (p.1 * q.2 + q.1 * p.2) (p.2 * q.2)
def sub (p q : Fr) : Fr := low (p.1 * q.2 - q.1 * p.2) (p.2 * q.2)
def mul (p q : Fr) : Fr := low (p.1 * q.1) (p.2 * q.2)
def neg (p : Fr) : Fr := low (-p.1) p.2
def over (p q : Fr) : Fr := low (p.1 * q.2) (p.2 * q.1)
theorem Red.ne {p : Fr} (h : Red p) : p.2 ≠ 0 := by have := h.1; omega
theorem neg_eq {p : Fr} (h : Red p) : neg p = (-p.1, p.2) :=
  low_of_red (p := (-p.1, p.2)) ⟨h.1, by show Nat.gcd (-p.1).natAbs p.2.natAbs = 1; rw [Int.natAbs_neg]; exact h.2⟩
theorem abs_eq {p : Fr} (h : Red p) : low (if p.1 < 0 then -p.1 else p.1) p.2 = (if p.1 < 0 then -p.1 else p.1, p.2) :=
  low_of_red (p := (if p.1 < 0 then -p.1 else p.1, p.2)) ⟨h.1, by
    show Nat.gcd (if p.1 < 0 then -p.1 else p.1).natAbs p.2.natAbs = 1
    split
    · rw [Int.natAbs_neg]; exact h.2
    · exact h.2⟩
/-- 0 - p -/
theorem rsub0 {p : Fr} (h : Red p) : add (neg p) (0, 1) = (-p.1, p.2) := by
  have e := neg_eq h
  unfold add
  rw [e]
  show low (-p.1 * 1 + 0 * p.2) (p.2 * 1) = _
  rw [Int.mul_one, Int.zero_mul, Int.add_zero, Int.mul_one]
  exact e
/-- n - p, told by the law's own sum -/
theorem rsub {p : Fr} (h : Red p) (n : Int) : add (neg p) (n, 1) = add (n, 1) (0 - p.1, p.2) := by
  rw [neg_eq h]
  unfold add
  show low (-p.1 * 1 + n * p.2) (p.2 * 1) = low (n * p.2 + (0 - p.1) * 1) (1 * p.2)
  rw [Int.mul_one, Int.mul_one, Int.mul_one, Int.one_mul, Int.zero_sub, Int.add_comm]
theorem sub_less (p q : Fr) : sub p q = add p (0 - q.1, q.2) := by
  unfold sub add
  show low (p.1 * q.2 - q.1 * p.2) (p.2 * q.2) = low (p.1 * q.2 + (0 - q.1) * p.2) (p.2 * q.2)
  rw [Int.zero_sub, Int.neg_mul, Int.sub_eq_add_neg]
theorem add_red {p q : Fr} (hp : Red p) (hq : Red q) : Red (add p q) := low_red (Int.mul_ne_zero hp.ne hq.ne)

/-! ### Euclid's own steps -/
theorem euclid_step {x y : Int} (hy : 0 < y) (hx : 0 ≤ x) : Nat.gcd y.natAbs (x % y).natAbs = Nat.gcd x.natAbs y.natAbs := by
  have e : (x % y).natAbs = x.natAbs % y.natAbs := by
    obtain ⟨a, rfl⟩ := Int.eq_ofNat_of_zero_le hx
    obtain ⟨b, rfl⟩ := Int.eq_ofNat_of_zero_le (Int.le_of_lt hy)
    rfl
  rw [e, Nat.gcd_comm x.natAbs, Nat.gcd_rec y.natAbs x.natAbs]
  exact Nat.gcd_comm _ _

/-! ### sizes -/
def Sz (n : Nat) (x : Int) : Prop := x.natAbs < 2 ^ n
theorem Sz.mono {n m : Nat} {x : Int} (h : Sz n x) (hm : n ≤ m) : Sz m x := Nat.lt_of_lt_of_le h (Nat.pow_le_pow_right (by decide) hm)
theorem Sz.mul {n m : Nat} {x y : Int} (h : Sz n x) (k : Sz m y) : Sz (n + m) (x * y) := by
  unfold Sz
  rw [Int.natAbs_mul, Nat.pow_add]
  exact Nat.mul_lt_mul'' h k
theorem Sz.add {n : Nat} {x y : Int} (h : Sz n x) (k : Sz n y) : Sz (n + 1) (x + y) := by
  unfold Sz at *
  rw [Nat.pow_succ]
  have := Int.natAbs_add_le x y
  omega
theorem Sz.sub {n : Nat} {x y : Int} (h : Sz n x) (k : Sz n y) : Sz (n + 1) (x - y) := by
  unfold Sz at *
  rw [Nat.pow_succ]
  have := Int.natAbs_sub_le x y
  omega
theorem Sz.neg {n : Nat} {x : Int} (h : Sz n x) : Sz n (-x) := by unfold Sz; rw [Int.natAbs_neg]; exact h
theorem Sz.le {n : Nat} {x y : Int} (h : Sz n y) (k : x.natAbs ≤ y.natAbs) : Sz n x := Nat.lt_of_le_of_lt k h
theorem Sz.G {n : Nat} {t b : Int} (hb : b ≠ 0) (h : Sz n b) : Sz n (RQ.G t b) := by
  unfold Sz
  rw [G_abs]
  exact Nat.lt_of_le_of_lt (Nat.le_of_dvd (by omega) (Nat.gcd_dvd_right _ _)) h
theorem Sz.lowT {n : Nat} {t b : Int} (hb : b ≠ 0) (h : Sz n t) : Sz n (low t b).1 := h.le (low_le_top t hb)
theorem Sz.lowB {n : Nat} {t b : Int} (hb : b ≠ 0) (h : Sz n b) : Sz n (low t b).2 := h.le (low_le_bot t hb)

/-! ### totals: by least common multiples, and pair by pair -/
/-- one step of the program's: both sums keep their worth -/
theorem total_step {tt tb t b c : Int} {F : Fr} (hF : Red F) (htb : 0 < tb) (hb : 0 < b) (hc : 0 < c) (d1 : tb ∣ c) (d2 : b ∣ c) (h : tt * F.2 = F.1 * tb) :
    (tt * (c / tb) + t * (c / b)) * (add F (t, b)).2 = (add F (t, b)).1 * c := by
  obtain ⟨x, rfl⟩ := d1
  obtain ⟨y, hy⟩ := d2
  have e1 : tb * x / tb = x := Int.mul_ediv_cancel_left _ (by omega)
  have e2 : tb * x / b = y := by rw [hy]; exact Int.mul_ediv_cancel_left _ (by omega)
  rw [e1, e2]
  have w := low_worth (F.1 * b + t * F.2) (F.2 * b)
  have hne : F.2 * b ≠ 0 := Int.mul_ne_zero hF.ne (by omega)
  refine Int.eq_of_mul_eq_mul_right hne ?_
  show (tt * x + t * y) * (low (F.1 * b + t * F.2) (F.2 * b)).2 * (F.2 * b) = (low (F.1 * b + t * F.2) (F.2 * b)).1 * (tb * x) * (F.2 * b)
  generalize low (F.1 * b + t * F.2) (F.2 * b) = L at w
  have k : (tt * x + t * y) * (F.2 * b) = (F.1 * b + t * F.2) * (tb * x) := by
    calc (tt * x + t * y) * (F.2 * b) = (tt * F.2) * (x * b) + (t * F.2) * (b * y) := by
          rw [Int.add_mul]
          simp only [Int.mul_assoc, Int.mul_left_comm, Int.mul_comm]
      _ = (F.1 * tb) * (x * b) + (t * F.2) * (tb * x) := by rw [h, ← hy]
      _ = (F.1 * b + t * F.2) * (tb * x) := by
          rw [Int.add_mul]
          simp only [Int.mul_assoc, Int.mul_left_comm, Int.mul_comm]
  calc (tt * x + t * y) * L.2 * (F.2 * b) = ((tt * x + t * y) * (F.2 * b)) * L.2 := by simp only [Int.mul_assoc, Int.mul_left_comm, Int.mul_comm]
    _ = (F.1 * b + t * F.2) * (tb * x) * L.2 := by rw [k]
    _ = ((F.1 * b + t * F.2) * L.2) * (tb * x) := by simp only [Int.mul_assoc, Int.mul_left_comm, Int.mul_comm]
    _ = (L.1 * (F.2 * b)) * (tb * x) := by rw [w]
    _ = L.1 * (tb * x) * (F.2 * b) := by simp only [Int.mul_assoc, Int.mul_left_comm, Int.mul_comm]
end RQ

set_option Elab.async false
set_option linter.all false
set_option maxRecDepth 100000
set_option maxHeartbeats 4000000
/-! Rules of this proof's own, over the hand layer: operators, comparisons, text and repr of an instance by its own defs; least common multiples; floor division by any divisor. -/
namespace RQ
open PySem PySem.Spec PyProof.Rows L2

/-! ### facts of the written part about an own class and the type int -/
/-- the class has the def g for the operator's name and h for the name turned about -/
structure BinC (K : PySem.W.Frag) (C g h : Addr) (nm : String) : Prop where
  sf : PySem.W.selfFirst K C = true
  l : PySem.W.findIn K (.ref C) (PySem.dunder nm) = some (some (.ref g))
  lf : PySem.W.isFn K (.ref g) = true
  r : PySem.W.findIn K (.ref C) (dunderR nm) = some (some (.ref h))
  rf : PySem.W.isFn K (.ref h) = true
  below : PySem.W.subIn K (.type "int") (.ref C) = some false
  above : PySem.W.subIn K (.ref C) (.type "int") = some false

section
variable {X : Cx} {CX : CXT} {C g h : Addr} {sp : Sp} {E : XK} {n : Nat} {nm : String}

/-- x op y, x an instance of the class at C, y another one or an int -/
def rInsL (C : Addr) (sp : Sp) (E : XK) : R2 := fun x y H Q =>
  (∃ a dx fs, x = .ref a ∧ H a = some (.ins C dx fs)) ∧ ((∃ b dy gs, y = .ref b ∧ H b = some (.ins C dy gs)) ∨ ∃ i, y = .int i) ∧ sp [x, y] H Q E
theorem op_insL {op : Operator} (hn : op.info.2 = nm) (c : BinC X.K C g h nm) (i1 : ∃ fo, PySem.W.findIn X.K (.type "int") (PySem.dunder nm) = some fo)
    (i2 : ∃ ro, PySem.W.findIn X.K (.type "int") (dunderR nm) = some ro) (F : FnR X.prog X.w X.K X.mg X.base CX n g sp) (hr : Room n X.A) (hx : Passes CX X E) :
    OpR X (binaryOp op) (rInsL C sp E) := by
  subst hn
  intro pins s σ H x y v u Q I rx ry hq
  obtain ⟨⟨a, dx, fs, rfl, ha⟩, hy, q⟩ := hq
  cases (show v = Value.ref a from rx)
  obtain ⟨mA, O, _⟩ := ins_get I.hok ha
  obtain ⟨od, J, _⟩ := O.look
  obtain ⟨m, hF⟩ := I.fr
  have run : ∀ w : Value, RelV y w → wpAny (model X.prog X.w) X.A (call (.ref g) [.ref a, w]) (PySem.W.CmpBack (EP X pins σ Q)) X.xe s := fun w rw_ =>
    wpAny_mono (wpAny_call (run_fnR (us := [.ref a, w]) (vs := [.ref a, y]) F hr hx I (.cons rfl (.cons rw_ .nil)) q)) (fun z s' hz => by
      obtain ⟨z', H', I', rz, qz⟩ := hz
      exact SlX.cmpback rz ⟨z', H', I', rz, qz⟩) fun _ _ e => e
  rcases hy with ⟨b, dy, gs, rfl, hb⟩ | ⟨i, rfl⟩
  · cases (show u = Value.ref b from ry)
    obtain ⟨mB, O', _⟩ := ins_get I.hok hb
    obtain ⟨od', J', _⟩ := O'.look
    exact PySem.W.binop_K hF I.ok.mod.kin J J'.type c.sf c.l c.lf (run _ rfl)
  · obtain ⟨t, rfl⟩ := (show ∃ t, u = Value.int i t from ry)
    obtain ⟨fo, e1⟩ := i1
    obtain ⟨ro, e2⟩ := i2
    exact PySem.W.ksp_binT hF I.ok.mod.kin J rfl c.sf c.l c.lf c.r (.inr ⟨_, rfl⟩) e1 e2 c.below (run _ ⟨t, rfl⟩)

/-- i op y, i an int, y an instance: the int's own slot declines, the name turned about is called -/
def rInsR (C : Addr) (sp : Sp) (E : XK) : R2 := fun x y H Q => ∃ i b dy gs, x = .int i ∧ y = .ref b ∧ H b = some (.ins C dy gs) ∧ sp [y, x] H Q E
end

/-! ### the int's own slots decline an instance -/
abbrev Dec (t : Sem Fin) (b C dx : Addr) : Prop := Meets t (fun _ R s => s.heap.get? b = some (PySem.W.instObj C dx) ∧ R (.ok (.ret Value.notImplemented)) s)
theorem dec_add (i : Int) (t : Tok) (b C dx : Addr) : Dec (Builtin.«int.__add__» ⟨[.int i t, .ref b], []⟩) b C dx :=
  .of_wp fun prog w A R s h => by obtain ⟨hp, g, d, tk, os⟩ := s; obtain ⟨hl, h⟩ := h; wp_walk; exact ⟨_, rfl, h⟩
theorem dec_sub (i : Int) (t : Tok) (b C dx : Addr) : Dec (Builtin.«int.__sub__» ⟨[.int i t, .ref b], []⟩) b C dx :=
  .of_wp fun prog w A R s h => by obtain ⟨hp, g, d, tk, os⟩ := s; obtain ⟨hl, h⟩ := h; wp_walk; exact ⟨_, rfl, h⟩
theorem dec_mul (i : Int) (t : Tok) (b C dx : Addr) : Dec (Builtin.«int.__mul__» ⟨[.int i t, .ref b], []⟩) b C dx :=
  .of_wp fun prog w A R s h => by obtain ⟨hp, g, d, tk, os⟩ := s; obtain ⟨hl, h⟩ := h; wp_walk; exact ⟨_, rfl, h⟩
theorem dec_eq (i : Int) (t : Tok) (b C dx : Addr) : Dec (Builtin.«int.__eq__» ⟨[.int i t, .ref b], []⟩) b C dx :=
  .of_wp fun prog w A R s h => by obtain ⟨hp, g, d, tk, os⟩ := s; obtain ⟨hl, h⟩ := h; wp_walk; exact ⟨_, rfl, h⟩

section
variable {M : Model} {A : Around} {E : Value → Shared → Prop} {s : Shared} {K : PySem.W.Frag} {x C f g : Addr} {ox : Obj} {od : Option Obj} {nm : String}
/-- an int ahead of an instance: how the operator goes about it -/
theorem bin1_refl {id : String} {i : Int} {t : Tok} {Q : Option Value → Shared → Prop} (XK : K.In s.heap) (J : PySem.W.InstAt s.heap x ox C od) (c : BinC K C f g nm)
    (hfi : fillsNumberSlot (.type "int") nm = pure true) (hl : Slot "int" (PySem.dunder nm) id)
    (hd : wpAny M A (call (.builtin id) [.int i t, .ref x]) (fun v s' => v = .notImplemented ∧ s' = s) E s)
    (h : wpAny M A (call (.ref g) [.ref x, .int i t]) (PySem.W.CmpBack fun v s' => Q (some v) s') E s) : wpAny M A (binaryOp1 nm (.int i t) (.ref x)) Q E s := by
  obtain ⟨cd, rest, hcd, hm⟩ := PySem.W.ksp_first c.sf
  have L3 := PySem.W.fills_K (M := M) XK hcd hm c.l
  have L5 := PySem.W.looks_subIn (M := M) XK c.above
  have hne : (Value.type "int" == Value.ref C) = false := Bool.eq_false_iff.mpr fun q => by cases beq_iff_eq.mp q
  have back := PySem.W.ksp_try (Q := fun v s' => Q (some v) s') XK J c.r c.rf h
  unfold binaryOp1
  refine wpAny_bind (wpAny_typeOf (typeIs_int s i t) (wpAny_bind (J.type.here (wpAny_bind (wpAny_of_eq hfi ?_)))))
  simp only [hne, Bool.false_eq_true, if_false]
  refine wpAny_bind (L3.here ?_)
  simp only [Bool.and_self, if_true]
  refine wpAny_bind (L5.here ?_)
  have hpy : numberSlotInPython (.type "int") nm = pure false := rfl
  simp only [Bool.false_eq_true, if_false, pure_bind, Bool.not_false, Bool.and_self, if_true, hpy]
  refine wpAny_bind (wpAny_tryMethod_declines (typeIs_int s i t) hl (wpAny_mono hd (fun v s' z => ?_) fun _ _ e => e))
  obtain ⟨rfl, rfl⟩ := z
  refine ⟨rfl, ?_⟩
  refine wpAny_bind (wpAny_mono back (fun r s' z => ?_) fun _ _ e => e)
  obtain ⟨v, rfl, q⟩ := z
  exact wpAny_bind (wpAny_rule (wpAny_pure q))
end
section
variable {X : Cx} {CX : CXT} {C g h : Addr} {sp : Sp} {E : XK} {n : Nat} {nm : String}
theorem op_insR {op : Operator} {id : String} {B : Builtin} (hn : op.info.2 = nm) (c : BinC X.K C g h nm) (hfi : fillsNumberSlot (.type "int") nm = pure true) (hl : Slot "int" (PySem.dunder nm) id)
    (entry : entryFor table id = some B) (args : ∀ a b : Value, argsOk id ⟨[a, b], []⟩) (dec : ∀ (i : Int) (t : Tok) (b C dx : Addr), Dec (B ⟨[.int i t, .ref b], []⟩) b C dx)
    (F : FnR X.prog X.w X.K X.mg X.base CX n h sp) (hr : Room n X.A) (hx : Passes CX X E) : OpR X (binaryOp op) (rInsR C sp E) := by
  subst hn
  intro pins s σ H x y v u Q I rx ry hq
  obtain ⟨i, b, dy, gs, rfl, rfl, hb, q⟩ := hq
  obtain ⟨t, rfl⟩ := (show ∃ t, v = Value.int i t from rx)
  cases (show u = Value.ref b from ry)
  obtain ⟨mA, O, _⟩ := ins_get I.hok hb
  obtain ⟨od, J, _⟩ := O.look
  rcases hi : op.info with ⟨sym, nm'⟩
  rw [hi] at c hfi hl
  simp only [binaryOp, hi]
  refine wpAny_holding (wpAny_bind ?_)
  refine bin1_refl I.kIn J c hfi hl (call_meets hl (typeIs_int s i t) entry (args _ _) (dec i t b C dy) ⟨O.obj, rfl, rfl⟩) ?_
  refine wpAny_mono (wpAny_call (run_fnR (us := [.ref b, .int i t]) (vs := [.ref b, .int i]) F hr hx I (.cons rfl (.cons ⟨t, rfl⟩ .nil)) q)) (fun z s' hz => ?_) fun _ _ e => e
  obtain ⟨z', H', I', rz, qz⟩ := hz
  exact SlX.cmpback rz (wpAny_pure ⟨z', H', I', rz, qz⟩)
end

/-! ### == and != by the class's own == -/
structure EqC (K : PySem.W.Frag) (C g : Addr) : Prop where
  at_ : PySem.W.findIn K (.ref C) "__eq__" = some (some (.ref g))
  fn : PySem.W.isFn K (.ref g) = true
  ne : PySem.W.findIn K (.ref C) "__ne__" = some (some (.builtin "object.__ne__"))
  ob : PySem.W.mroIn K C (.type "object") = some true
  below : PySem.W.subIn K (.type "int") (.ref C) = some false
  above : PySem.W.subIn K (.ref C) (.type "int") = some false
section
variable {X : Cx} {CX : CXT} {C g : Addr} {sp : Sp} {E : XK} {n : Nat}
/-- x == y, x an instance, y another one or an int -/
def rEqL (C : Addr) (sp : Sp) (E : XK) : R2 := fun x y H Q =>
  (∃ a dx fs, x = .ref a ∧ H a = some (.ins C dx fs)) ∧ ((∃ b dy gs, y = .ref b ∧ H b = some (.ins C dy gs)) ∨ ∃ i, y = .int i) ∧ sp [x, y] H Q E
theorem op_eqL (c : EqC X.K C g) (F : FnR X.prog X.w X.K X.mg X.base CX n g sp) (hr : Room n X.A) (hx : Passes CX X E) : OpR X (compareOp .Eq) (rEqL C sp E) := by
  intro pins s σ H x y v u Q I rx ry hq
  obtain ⟨⟨a, dx, fs, rfl, ha⟩, hy, q⟩ := hq
  cases (show v = Value.ref a from rx)
  obtain ⟨mA, O, _⟩ := ins_get I.hok ha
  obtain ⟨od, J, _⟩ := O.look
  obtain ⟨m, hF⟩ := I.fr
  have run : ∀ w : Value, RelV y w → wpAny (model X.prog X.w) X.A (call (.ref g) [.ref a, w]) (PySem.W.CmpBack (EP X pins σ Q)) X.xe s := fun w rw_ =>
    wpAny_mono (wpAny_call (run_fnR (us := [.ref a, w]) (vs := [.ref a, y]) F hr hx I (.cons rfl (.cons rw_ .nil)) q)) (fun z s' hz => by
      obtain ⟨z', H', I', rz, qz⟩ := hz
      exact SlX.cmpback rz ⟨z', H', I', rz, qz⟩) fun _ _ e => e
  show wpAny (model X.prog X.w) X.A (richCompare .Eq (.ref a) u) (EP X pins σ Q) X.xe s
  rcases hy with ⟨b, dy, gs, rfl, hb⟩ | ⟨i, rfl⟩
  · cases (show u = Value.ref b from ry)
    obtain ⟨mB, O', _⟩ := ins_get I.hok hb
    obtain ⟨od', J', _⟩ := O'.look
    exact PySem.W.cmp_K (op := .Eq) (tb := .ref C) hr.units0 hF I.ok.mod.kin J J'.type (by simp [PySem.W.notFirst]) c.at_ c.fn (run _ rfl)
  · obtain ⟨t, rfl⟩ := (show ∃ t, u = Value.int i t from ry)
    exact PySem.W.cmp_K (op := .Eq) (tb := .type "int") hr.units0 hF I.ok.mod.kin J (PySem.W.Looks.of_pure rfl) (by unfold PySem.W.notFirst; rw [c.below]; simp) c.at_ c.fn (run _ ⟨t, rfl⟩)

/-- i == y, i an int, y an instance: the int's own == declines -/
def rEqR (C : Addr) (sp : Sp) (E : XK) : R2 := fun x y H Q => ∃ i b dy gs, x = .int i ∧ y = .ref b ∧ H b = some (.ins C dy gs) ∧ sp [y, x] H Q E
theorem op_eqR (c : EqC X.K C g) (F : FnR X.prog X.w X.K X.mg X.base CX n g sp) (hr : Room n X.A) (hx : Passes CX X E) : OpR X (compareOp .Eq) (rEqR C sp E) := by
  intro pins s σ H x y v u Q I rx ry hq
  obtain ⟨i, b, dy, gs, rfl, rfl, hb, q⟩ := hq
  obtain ⟨t, rfl⟩ := (show ∃ t, v = Value.int i t from rx)
  cases (show u = Value.ref b from ry)
  obtain ⟨mA, O, _⟩ := ins_get I.hok hb
  obtain ⟨od, J, _⟩ := O.look
  have L5 := PySem.W.looks_subIn (M := model X.prog X.w) I.kIn c.above
  have hne : (Value.type "int" != Value.ref C) = true := by
    have z : (Value.type "int" == Value.ref C) = false := Bool.eq_false_iff.mpr fun q => by cases beq_iff_eq.mp q
    rw [bne, z]; rfl
  show wpAny (model X.prog X.w) X.A (richCompare .Eq (.int i t) (.ref b)) (EP X pins σ Q) X.xe s
  unfold richCompare
  refine wpAny_holding (wpAny_bind (wpAny_cRoomFor hr.units0 ?_))
  have one : oneThing? .Eq (.int i t) (.ref b) = none := by first | rfl | simp [oneThing?]
  simp only [one]
  refine wpAny_bind (wpAny_typeOf (typeIs_int s i t) (wpAny_bind (J.type.here ?_)))
  simp only [hne, if_true]
  refine wpAny_bind (L5.here ?_)
  simp only [Bool.false_eq_true, if_false, Bool.not_false, if_true]
  have first_ : wpAny (model X.prog X.w) X.A (tryCompare (.int i t) (cmpInfo .Eq).2.1 (.ref b)) (fun r s' => r = none ∧ s' = s) X.xe s := by
    unfold tryCompare
    refine wpAny_bind (wpAny_callSpecialIfBound?_slot (typeIs_int s i t) PySem.F.slot_int_eq (call_meets PySem.F.slot_int_eq (typeIs_int s i t) PySem.F.entry_int_eq (PySem.F.args_int_eq_2 _ _) (dec_eq i t b C dy) ⟨O.obj, ?_⟩))
    exact wpAny_pure ⟨rfl, rfl⟩
  refine wpAny_bind (wpAny_mono first_ (fun r s' z => ?_) fun _ _ e => e)
  obtain ⟨rfl, rfl⟩ := z
  have two : wpAny (model X.prog X.w) X.A (tryCompare (.ref b) (cmpInfo .Eq).2.2 (.int i t)) (fun r s' => ∃ v, r = some v ∧ EP X pins σ Q v s') X.xe s' := by
    unfold tryCompare
    refine wpAny_bind (PySem.W.ifBound_K I.kIn J c.at_ c.fn (wpAny_mono (wpAny_call (run_fnR (us := [.ref b, .int i t]) (vs := [.ref b, .int i]) F hr hx I (.cons rfl (.cons ⟨t, rfl⟩ .nil)) q)) (fun z s' hz => ?_) fun _ _ e => e))
    obtain ⟨z', H', I', rz, qz⟩ := hz
    have k := SlX.cmpback (P := fun v s' => EP X pins σ Q v s') rz ⟨z', H', I', rz, qz⟩
    cases z <;> first | exact k.elim | exact wpAny_pure ⟨_, rfl, k⟩
  refine wpAny_bind (wpAny_mono two (fun r s' z => ?_) fun _ _ e => e)
  obtain ⟨v, rfl, hq⟩ := z
  exact wpAny_pure hq
end

section
variable {prog : Program} {w : World} {A : Around} {E : Value → Shared → Prop} {s : Shared} {K : PySem.W.Frag} {x C g : Addr} {ox : Obj} {od : Option Obj}
/-- a special name that the class has as a built-in -/
theorem bound_blt {M : Model} {id : String} {name : Str} {args : List Value} {Q : Option Value → Shared → Prop} (XK : K.In s.heap) (J : PySem.W.InstAt s.heap x ox C od) (hs : PySem.W.findIn K (.ref C) name = some (some (.builtin id)))
    (hb : ∀ self, bindSpecial (.builtin id) self = pure (.builtin id, [self])) (h : wpAny M A (call (.builtin id) (.ref x :: args)) (fun v => Q (some v)) E s) : wpAny M A (callSpecialIfBound? (.ref x) name args) Q E s := by
  simp only [callSpecialIfBound?, bindSpecialIfBound?]
  refine wpAny_holding (wpAny_bind (wpAny_bind (wpAny_bind (J.type.here ((PySem.W.looks_findIn XK hs).here ?_)))))
  refine wpAny_bind (wpAny_askSetting (wpAny_ite ?_))
  have go : wpAny M A (call (.builtin id) ([.ref x] ++ args) >>= fun v => pure (some v)) Q E s := wpAny_bind (wpAny_mono h (fun v s' z => wpAny_pure z) fun _ _ z => z)
  split
  · exact wpAny_bind ((PySem.W.Looks.of_pure (hb _)).here (wpAny_pure (by exact go)))
  · exact wpAny_tryCatch (wpAny_bind ((PySem.W.Looks.of_pure (hb _)).here (wpAny_pure (by exact go))))
/-- object's own != by the class's == -/
theorem obj_ne {y : Value} {Q : Value → Shared → Prop} (hu : A.in1.units < cLine) (XK : K.In s.heap) (J : PySem.W.InstAt s.heap x ox C od) (c : EqC K C g)
    (h : wpAny (model prog w) A.in1 (call (.ref g) [.ref x, y]) (fun v s' => ∃ b, v = .bool b ∧ Q (.bool (!b)) s') E s) : wpAny (model prog w) A (call (.builtin "object.__ne__") [.ref x, y]) Q E s := by
  refine wpAny_call (codeAny_call_builtin PySem.F.slot_object_ne.plain PySem.F.entry_object_ne (PySem.W.check_slot (i := "object.__ne__") (owner := "object") (n := "__ne__") (by decide +kernel) (by decide +kernel) (J.type.andThen (PySem.W.looks_mroIn XK c.ob)) (PySem.F.args_object_ne_2 _ _) ?_))
  unfold Builtin.«object.__ne__»
  refine wpAny_bind (m := slotArgs "__ne__" 1 _) (wpAny_pure ?_)
  refine wpAny_bind (m := cRoomFor _ _) (wpAny_cRoomFor hu ?_)
  refine wpAny_bind (m := callSpecialIfBound? (.ref x) (Str.ofString "__eq__") _) (PySem.W.ifBound_K XK J c.at_ c.fn (wpAny_mono h (fun r s' hq => ?_) fun _ _ z => z))
  obtain ⟨b, rfl, q⟩ := hq
  exact wpAny_bind (wpAny_truthy_bool (wpAny_pure q))
end
section
variable {X : Cx} {CX : CXT} {C g : Addr} {sp : Sp} {E : XK} {n : Nat}
/-- x != y, two instances of one class -/
def rNeL (C : Addr) (sp : Sp) (E : XK) : R2 := fun x y H Q =>
  (∃ a dx fs, x = .ref a ∧ H a = some (.ins C dx fs)) ∧ (∃ b dy gs, y = .ref b ∧ H b = some (.ins C dy gs)) ∧ sp [x, y] H (fun z H' => ∃ k, z = .bl k ∧ Q (.bl (!k)) H') E
theorem op_neL (c : EqC X.K C g) (F : FnR X.prog X.w X.K X.mg X.base CX n g sp) (hr : Room (n + 1) X.A) (hx : Passes CX X E) : OpR X (compareOp .NotEq) (rNeL C sp E) := by
  intro pins s σ H x y v u Q I rx ry hq
  obtain ⟨⟨a, dx, fs, rfl, ha⟩, ⟨b, dy, gs, rfl, hb⟩, q⟩ := hq
  cases (show v = Value.ref a from rx)
  cases (show u = Value.ref b from ry)
  obtain ⟨mA, O, _⟩ := ins_get I.hok ha
  obtain ⟨od, J, _⟩ := O.look
  obtain ⟨mB, O', _⟩ := ins_get I.hok hb
  obtain ⟨od', J', _⟩ := O'.look
  have run : wpAny (model X.prog X.w) X.A.in1 (call (.ref g) [.ref a, .ref b]) (fun v s' => ∃ k, v = .bool k ∧ EP X pins σ Q (.bool (!k)) s') X.xe s :=
    wpAny_mono (wpAny_call (SlX.run_at (us := [.ref a, .ref b]) (ws := [.ref a, .ref b]) F hr.in1 I.env0.in1 hx I (.cons rfl (.cons rfl .nil)) q)) (fun z s' hz => by
      obtain ⟨z', H', I', rz, k, e, qz⟩ := hz
      subst e
      exact ⟨k, rz, .bl (!k), H', I', rfl, qz⟩) fun _ _ e => e
  have one : wpAny (model X.prog X.w) X.A (tryCompare (.ref a) (cmpInfo .NotEq).2.1 (.ref b)) (fun r s' => ∃ v, r = some v ∧ EP X pins σ Q v s') X.xe s := by
    unfold tryCompare
    refine wpAny_bind (bound_blt I.kIn J c.ne PySem.F.slot_object_ne.bind (obj_ne (show X.A.in1.units < cLine from hr.in1.units0) I.kIn J c (wpAny_mono run (fun v s' z => ?_) fun _ _ e => e)))
    obtain ⟨k, e, z⟩ := z
    exact ⟨k, e, wpAny_pure ⟨_, rfl, z⟩⟩
  show wpAny (model X.prog X.w) X.A (richCompare .NotEq (.ref a) (.ref b)) (EP X pins σ Q) X.xe s
  unfold richCompare
  simp only [oneThing_ref]
  refine wpAny_holding (wpAny_bind (wpAny_cRoomFor hr.units0 ?_))
  refine wpAny_bind (J.type.here (wpAny_bind (J'.type.here ?_)))
  have hne : (Value.ref C != Value.ref C) = false := by simp
  simp only [hne, Bool.false_eq_true, if_false]
  refine wpAny_bind (wpAny_pure ?_)
  simp only [Bool.false_eq_true, if_false]
  refine wpAny_bind (wpAny_mono one (fun r s' z => ?_) fun _ _ e => e)
  obtain ⟨v, rfl, hq⟩ := z
  exact wpAny_pure hq

/-! ### - in front, str and repr -/
structure OneC (K : PySem.W.Frag) (C g : Addr) (nm : Str) : Prop where
  at_ : PySem.W.findIn K (.ref C) nm = some (some (.ref g))
  fn : PySem.W.isFn K (.ref g) = true
def rInsU (C : Addr) (sp : Sp) (E : XK) : V → Hp → VK → Prop := fun x H Q => ∃ a dx fs, x = .ref a ∧ H a = some (.ins C dx fs) ∧ sp [x] H Q E
theorem un_insN (c : OneC X.K C g "__neg__") (F : FnR X.prog X.w X.K X.mg X.base CX n g sp) (hr : Room n X.A) (hx : Passes CX X E) : UnR X (unaryOp .USub) (rInsU C sp E) := by
  intro pins s σ H x v Q I rx hq
  obtain ⟨a, dx, fs, rfl, ha, q⟩ := hq
  cases (show v = Value.ref a from rx)
  obtain ⟨mA, O, _⟩ := ins_get I.hok ha
  obtain ⟨od, J, _⟩ := O.look
  obtain ⟨m, hF⟩ := I.fr
  exact PySem.W.ksp_neg hF I.ok.mod.kin J c.at_ c.fn (wpAny_call (run_fnR (us := [.ref a]) (vs := [.ref a]) F hr hx I (.cons rfl .nil) q))
/-- str(x), repr(x): the class's own def tells a text -/
def rInsT (C : Addr) (sp : Sp) (E : XK) : List V → Hp → VK → Prop := fun xs H Q => ∃ a dx fs, xs = [.ref a] ∧ H a = some (.ins C dx fs) ∧ sp [.ref a] H (fun z H' => ∃ y, z = .str y ∧ Q z H') E
theorem strback {X : Cx} {pins : List (Addr × Obj)} {σ : L2.St} {Q : VK} {v : Value} {s' : Shared} (h : EP X pins σ (fun z H' => ∃ y, z = .str y ∧ Q z H') v s') : PySem.W.StrBack (EP X pins σ Q) v s' := by
  obtain ⟨z, H', I', rz, y, e, q⟩ := h
  subst e
  obtain ⟨t, rfl⟩ := (show ∃ t, v = Value.str y t from rz)
  exact ⟨.str y, H', I', ⟨t, rfl⟩, q⟩
theorem call_strI (c : OneC X.K C g "__str__") (F : FnR X.prog X.w X.K X.mg X.base CX n g sp) (hr : Room (n + 2) X.A) (hx : Passes CX X E) : CallR X (.type "str") (rInsT C sp E) := by
  intro pins s σ H xs us Q I r h
  obtain ⟨a, dx, fs, rfl, ha, q⟩ := h
  obtain ⟨u, rfl, ru⟩ := r.one
  cases (show u = Value.ref a from ru)
  obtain ⟨mA, O, _⟩ := ins_get I.hok ha
  obtain ⟨od, J, _⟩ := O.look
  have h2 : Room n X.A.in1.in1 := (show Room (n + 1) X.A.in1 from Room.in1 hr).in1
  refine PySem.W.kso_call h2.units0 I.kIn J c.at_ c.fn (wpAny_mono (wpAny_call (SlX.run_at (us := [.ref a]) (ws := [.ref a]) F h2 I.env0.in1.in1 hx I (.cons rfl .nil) q)) (fun z s' hz => strback hz) fun _ _ e => e)
theorem call_reprI (c : OneC X.K C g "__repr__") (F : FnR X.prog X.w X.K X.mg X.base CX n g sp) (hr : Room (n + 1) X.A) (hx : Passes CX X E) : CallR X (.builtin "repr") (rInsT C sp E) := by
  intro pins s σ H xs us Q I r h
  obtain ⟨a, dx, fs, rfl, ha, q⟩ := h
  obtain ⟨u, rfl, ru⟩ := r.one
  cases (show u = Value.ref a from ru)
  obtain ⟨mA, O, _⟩ := ins_get I.hok ha
  obtain ⟨od, J, _⟩ := O.look
  obtain ⟨m, hF⟩ := I.fr
  exact PySem.W.repr_K (show X.A.in1.units < cLine from hr.in1.units0) hF I.ok.mod.kin J c.at_ c.fn (wpAny_mono (wpAny_call (SlX.run_at (us := [.ref a]) (ws := [.ref a]) F hr.in1 I.env0.in1 hx I (.cons rfl .nil) q)) (fun z s' hz => strback hz) fun _ _ e => e)
end

/-! ### numbers -/
def CDivA (_ j : Int) : Prop := j ≠ 0 ∧ j.natAbs.log2 < 9000
/-- // by any divisor but 0 -/
theorem op_fdivA {X : Cx} : OpR X (binaryOp .FloorDiv) (rI CDivA fun i j => .int (i.fdiv j)) := opI fun _ _ _ _ _ _ _ hc q => floordiv_int hc.1 q (.inl (PyProof.noPylong_of_log2 hc.2))
theorem fdiv_ok {i j : Int} {b : Nat} (h : j ≠ 0) (hb : j.natAbs < 2 ^ b) (h0 : 0 < b) (h9 : b ≤ 9000) : CDivA i j := ⟨h, Nat.lt_of_lt_of_le (PySem.Flt.log2_lt_of h0 hb) h9⟩
def rLcm : List V → Hp → VK → Prop := fun vs H Q => ∃ a b : Int, vs = [.int a, .int b] ∧ a.natAbs < 2 ^ 6000 ∧ b.natAbs < 2 ^ 6000 ∧ Q (.int ((Nat.lcm a.natAbs b.natAbs : Nat) : Int)) H
theorem cr_lcm {X : Cx} : CallR X (.builtin "math.lcm") rLcm := by
  intro pins s σ H vs us Q I r h
  obtain ⟨a, b, rfl, ha, hb, q⟩ := h
  obtain ⟨t, u, rfl⟩ := Vals.int2 r
  have l0 : ∀ {n k : Nat}, n < 2 ^ (k + 1) → n.log2 ≤ k := fun h => PySem.W.mg_log h
  have h1 : (max 1 a.natAbs).log2 ≤ 5999 := l0 (Nat.max_lt.mpr ⟨Nat.one_lt_two_pow (by decide), ha⟩)
  have h2 : (max a.natAbs b.natAbs).log2 ≤ 5999 := l0 (Nat.max_lt.mpr ⟨ha, hb⟩)
  have e1 : Nat.lcm 1 a.natAbs = a.natAbs := Nat.lcm_one_left _
  have lt : Nat.lcm a.natAbs b.natAbs < 2 ^ 12000 := by
    have : Nat.lcm a.natAbs b.natAbs ≤ a.natAbs * b.natAbs := Nat.div_le_self _ _
    refine Nat.lt_of_le_of_lt this ?_
    have e : (2 : Nat) ^ 12000 = 2 ^ 6000 * 2 ^ 6000 := by rw [← Nat.pow_add]
    rw [e]
    exact Nat.mul_lt_mul'' ha hb
  have h3 : (Nat.lcm a.natAbs b.natAbs).log2 < bitsLine := Nat.lt_of_le_of_lt (l0 (k := 11999) lt) (by decide)
  have g := PySem.W.mg_run_lcm a t b u (by omega) (by omega) (by rw [e1]; exact h3)
  rw [e1] at g
  exact PySem.call_function_meets PySem.W.MGF.kind_lcm PySem.W.MGF.plain_lcm PySem.W.MGF.entry_lcm (PySem.W.MGF.args_lcm _ _) g.meets ⟨.int _, H, I.tok _, ⟨_, rfl⟩, q⟩
end RQ

set_option Elab.async false
set_option linter.all false
set_option maxRecDepth 100000
set_option maxHeartbeats 4000000
/-! Defs whose promise leans on nothing being written out around the call (no repr under way): the text of a list is told by its items alone. -/
namespace RQ
open PySem PySem.Spec PyProof.Rows L2

/-- a def's promise where no repr is under way -/
structure FnG (P : Program) (w : World) (K : PySem.W.Frag) (mg : Str → Option Value) (base : Heap) (k : Nat) (f : Addr) (fd : FuncData) (ps : List Str) (sp : Sp) : Prop where
  len : ∀ vs H Q E, sp vs H Q E → vs.length = ps.length
  go : ∀ (A : Around) (outer : List Env) (s : Shared) (H : Hp) (args : Args) (us : List Value) (vs : List V) (Q : VK) (E : XK), A.guards = some [] → Room k A → Env0 P w K mg base A outer s H → BindsTo s fd args (ps.zip us) → Vals vs us → sp vs H Q E →
    codeAny (model P w) A (.call (.ref f) args) (CR CX0 outer P w H s Q E) s

section
variable {P : Program} {w : World} {K : PySem.W.Frag} {mg : Str → Option Value} {base : Heap}
theorem okG {x qual : Str} {st : Stmt} {f : Addr} {fd : FuncData} {N ps : List Str} {k : Nat} {sp : Sp} (F : Fun K x qual st f fd) (S : FnScope N ps (defScope st)) (len : ∀ vs H Q E, sp vs H Q E → vs.length = ps.length)
    (body : ∀ (cdv : Value) (A : Around) (outer : List Env) (s : Shared) (H : Hp) (vs : List V) (Q : VK) (E : XK), (A.deeper (envOfC qual (defScope st) s.heap.objs.size f cdv)).guards = some [] → Room k (A.deeper (envOfC qual (defScope st) s.heap.objs.size f cdv)) → sp vs H Q E →
      ∃ t, PSs (cxOf CX0 P w K mg base N qual (defScope st) f cdv A outer s H E).nox (defBody st) t ∧ t { nx := fun _ H' => Q .non H', rt := Q } (start N vs) H) : FnG P w K mg base (k + 1) f fd ps sp := by
  obtain ⟨oc, od, kV, doc, pm, an, cdv, ct, osl, rfl, lk, hcd⟩ := F.ex
  refine ⟨len, fun A outer s H args us vs Q E hg hr e0 hb r hsp => ?_⟩
  have keep : ∀ b o, base.get? b = some o → s.heap.get? b = some o := fun b o e => (e0.bs b o e).1
  have KX : K.In s.heap := e0.mod.kin.keeps keep
  have lim : s.heap.NoLimit := e0.mod.nolimit.keeps keep
  have kinds : ∀ y ∈ ps.zip us, (defScope st).names.lookup y.1 = some .local ∨ ((defScope st).names.lookup y.1 = some .cell ∧ ((cellsFrom (s.heap.objs.size + 1) (defScope st).names []).lookup y.1).isSome = true) := by
    rintro ⟨n, v⟩ hy
    exact (S.par n (List.of_mem_zip hy).1).imp id fun q => ⟨q, PySem.W.cellsFrom_some _ _ _ (.inl q)⟩
  refine codeAny_call_function hr.depth (KX _ _ lk) rfl S.co S.gen rfl (PySem.W.codeRec_of KX hcd) (hb _ _ _ _ (wpAny_newFunctionEnv_cells S.kind kinds ?_))
  rintro env rfl s1 x
  refine ⟨lim.keeps x.toInCall.keep, codeAny_func ?_⟩
  obtain ⟨t, ht, hq⟩ := body cdv A outer s H vs Q E hg (hr.deeper _) hsp
  have I := inv_start (CX := CX0) (cd := cdv) (E := E) S hr.hd e0 (len _ _ _ _ hsp) r x
  refine wpAny_mono (ht.nox.run [] s1 (start N vs) H _ I hq) (fun fl s' hs => ?_) fun e s' hs => hs
  cases fl with
  | ret u => exact let ⟨v, _, H', J, rv, q⟩ := hs; ⟨v, H', J.os, J.bare, J.base, J.hok, rv, q⟩
  | next => exact let ⟨_, H', J, q⟩ := hs; ⟨V.non, H', J.os, J.bare, J.base, J.hok, rfl, q⟩
  | brk => exact let ⟨_, _, _, q⟩ := hs; q.elim
  | cont => exact let ⟨_, _, _, q⟩ := hs; q.elim
end

section
variable {X : Cx} {k : Nat} {f : Addr} {fd : FuncData} {ps : List Str} {sp : Sp} {E : XK} {x : Str} {p pos : Pos} {e : Expr} {es : List Expr} {t : TA}
/-- the call of such a def -/
theorem pe_callG (F : FnG X.prog X.w X.K X.mg X.base k f fd ps sp) (hgd : X.A.guards = some []) (hr : Room k X.A) (hg : Gl X x) (hm : X.mg x = some (.ref f)) (hk : PySem.W.keepIn X.K (.ref f) = true) (hb : Binds X.K fd ps [])
    (ha : PA X (e :: es) t) (hdb : (x == ("__debug__" : Str)) = false := by decide) (he : starEach (e :: es) X.env = (false, eval e X.env) :: starEach es X.env := by rfl) (hpl : (backTo pos (starEach es X.env)).any (·.1) = false := by rfl) :
    PE X (.Call (.Name x p) (e :: es) [] pos) (tCall sp [] E t) := by
  constructor
  intro pins s σ H Q I h
  refine wpAny_Call_Name_kw (ld_glob I hg hm ?_ hdb)
  refine PySem.W.callWith_K (h₀ := X.base) I.ok.mod.kin hk (thn (ha.run pos pins s σ H _ I h) fun us s1 ⟨vs, H1, I1, r, q⟩ => ⟨I1.kIn, ?_⟩) he hpl
  have q' : sp vs H1 Q E := by simpa using q
  have hl : us.length = ps.length := r.length.symm.trans (F.len _ _ _ _ q')
  have hb' := hb s1 us I1.kIn (by simpa using hl)
  refine wpAny_call (codeAny_mono (F.go X.A X.stack s1 H1 ⟨us, []⟩ us vs Q E hgd hr I1.env0 (by simpa using hb') r q') fun r s' hq => ?_)
  cases r with
  | error e => exact False.elim hq
  | ok fl =>
    cases fl with
    | ret u => exact I1.after hq
    | next => exact False.elim hq
    | brk => exact False.elim hq
    | cont => exact False.elim hq

/-- repr of a list or tuple of plain data -/
def rReprD (K : PySem.W.Frag) : List V → Hp → VK → Prop := fun xs H Q => ∃ (a : Addr) (d : PyData), xs = [.ref a] ∧ Dp K H (.ref a) d ∧ d.showable = true ∧ d.hasDict = false ∧ d.depth ≤ 60 ∧ d.shown.length ≤ sizeLine ∧ Q (.str d.shown) H
theorem call_reprD (hgd : X.A.guards = some []) (hu : X.A.units + 64 < cLine) : CallR X (.builtin "repr") (rReprD X.K) := by
  intro pins s σ H xs us Q I r h
  obtain ⟨a, d, rfl, hd, h1, h2, h3, h4, q⟩ := h
  obtain ⟨u, rfl, ru⟩ := r.one
  cases (show u = Value.ref a from ru)
  obtain ⟨as, rd⟩ := Dp.reads I d _ _ hd rfl
  exact repr_of_reads' rd h1 (fun z => by rw [h2] at z; cases z) hgd (by omega) (fun _ _ z => z) (fun h' u tk hk => ⟨.str d.shown, H, I.kept hk, ⟨u, rfl⟩, q⟩) h4
end

/-! ### the law's call -/
theorem law_callG {P : Program} {w : World} {K : PySem.W.Frag} {mg mb : Str → Option Value} {k : Nat} {fa a : Addr} {fd : FuncData} {x : Str} {sp : Sp} {s₁ : Shared} {vs : List Value} {ns : List Int}
    (KX : K.In s₁.heap) (hns : s₁.heap.Ns mainGlobals mg) (hb : s₁.heap.Ns builtinsNs mb) (hbb : ∀ x : Str, x ≠ "__name__" → mb x = bootBuiltins x) (hlim : s₁.heap.NoLimit) (hg : s₁.gens = #[])
    (ha : s₁.heap.get? a = some { cls := .type "list", data := .seq vs.toArray }) (hi : IntsAre vs ns) (hl : ns.length ≤ sizeLine) (hr : Room k callerA)
    (F : ∀ base : Heap, K.In base → base.Ns mainGlobals mg → FnG P w K mg base k fa fd [x] sp) (hbind : ∀ (s : Shared) (u : Value), BindsTo s fd ⟨[u], []⟩ [(x, u)])
    (hsp : ∀ H : Hp, Only H → SqL K H a (ns.map V.int) → sp [.ref a] H (fun v _ => v = .bl true) fun _ _ _ => False) :
    codeAny (model P w) callerA (.call (.ref fa) ⟨[.ref a], []⟩) (fun r s' => r = .ok (.ret (.bool true)) ∧ OldK s₁.heap s'.heap ∧ s'.os = s₁.os ∧ AllBare s'.gens) s₁ := by
  have rv := vals_ints hi
  have lenV := hi.length
  have main : ∀ H : Hp, Only H → SqL K H a (ns.map V.int) → HOk P w H s₁.heap → (∀ b, H b ≠ none → b = a) → (H a ≠ none → K.lookup a = none) →
      codeAny (model P w) callerA (.call (.ref fa) ⟨[.ref a], []⟩) (fun r s' => r = .ok (.ret (.bool true)) ∧ OldK s₁.heap s'.heap ∧ s'.os = s₁.os ∧ AllBare s'.gens) s₁ := by
    intro H hO hS hok hA hK
    have dicts : ∀ {b : Addr} {o : Obj} {es : Array DictEntry} {ep : Nat}, s₁.heap.get? b = some o → o.data = .dict es ep → H b = none := by
      intro b o es ep e d
      rcases Option.eq_none_or_eq_some (H b) with q | ⟨u, q⟩
      · exact q
      · have e' := hA b (by rw [q]; simp)
        rw [e', ha] at e
        cases e
        cases (show Data.seq vs.toArray _ = Data.dict es ep from d)
    have spaces : ∀ {b : Addr} {m : Str → Option Value}, s₁.heap.Ns b m → (hidT s₁.heap H).Ns b m := by
      rintro b m ⟨o, es, ep, e, d, r⟩
      exact ⟨o, es, ep, hidT_get e (dicts e d), d, r⟩
    have hKb : K.In (hidT s₁.heap H) := by
      intro b o e
      refine hidT_get (KX b o e) ?_
      rcases Option.eq_none_or_eq_some (H b) with q | ⟨u, q⟩
      · exact q
      · have e' := hA b (by rw [q]; simp)
        subst e'
        rw [hK (by rw [q]; simp)] at e
        cases e
    have hM : Mod K mg (hidT s₁.heap H) := ⟨hKb, spaces hns, ⟨mb, spaces hb, hbb⟩, let ⟨mc, h1, h2⟩ := hlim; ⟨mc, spaces h1, h2⟩⟩
    have e0 : Env0 P w K mg (hidT s₁.heap H) callerA [] s₁ H :=
      { frames := rfl, mod := hM, bs := fun b o e => of_hidT e, bsz := Nat.le_of_eq (hidT_size _ _), funs := trivial, frf := (fun b z => absurd (show b ∈ ([] : List Addr) from z) (by simp)), hok := hok, bare := .of_eq hg }
    refine codeAny_mono ((F _ hKb (spaces hns)).go callerA [] s₁ H ⟨[.ref a], []⟩ [.ref a] [.ref a] _ _ rfl hr e0 (hbind s₁ (.ref a)) (.cons rfl .nil) (hsp H hO hS)) fun r s' h => ?_
    match r, h with
    | .ok (.ret u), h =>
      obtain ⟨v, H', os, bare, un, hok', rvu, q⟩ := h
      have q' : v = .bl true := q
      subst q'
      obtain rfl : u = Value.bool true := rvu
      refine ⟨rfl, OldK.of_keep fun b o e => ?_, os, bare⟩
      rcases hO b with z | ⟨ob, xs, z⟩
      · exact un.keep b o e z (fun q => absurd (show b ∈ ([] : List Addr) from q) (by simp)) (by simp)
      · obtain ⟨e1, _⟩ := hok b _ z
        obtain ⟨e2, _⟩ := hok' b _ (un.frzs b ob _ z)
        rw [e] at e1
        cases e1
        exact e2
    | .ok .next, h => exact h.elim
    | .ok .brk, h => exact h.elim
    | .ok .cont, h => exact h.elim
    | .error e, h => exact h.elim
  rcases Option.eq_none_or_eq_some (K.lookup a) with hk | ⟨o, hk⟩
  · refine main (fun b => if b = a then some (.frz { cls := .type "list", data := .seq vs.toArray } (.lst (ns.map V.int))) else none) (fun b => ?_) (.inl (.inr ⟨_, if_pos rfl⟩)) (fun b u z => ?_) (fun b z => ?_) fun _ => hk
    · by_cases hb : b = a
      · exact .inr ⟨_, _, if_pos hb⟩
      · exact .inl (if_neg hb)
    · by_cases hb : b = a
      · subst hb
        cases (if_pos rfl).symm.trans z
        exact ⟨ha, by rw [List.length_map]; exact hl, vs, _, rv, ha⟩
      · cases (if_neg hb).symm.trans z
    · exact Decidable.byContradiction fun hb => z (if_neg hb)
  · have e := KX a o hk
    rw [ha] at e
    cases e
    refine main (fun _ => none) (fun _ => .inl rfl) (.inr ⟨_, vs.toArray, _, hk, rfl, rfl, rfl, by rw [List.size_toArray, lenV]; exact hl, by simpa using rv⟩) (fun b u z => ?_) (fun b z => absurd rfl z) fun z => absurd rfl z
    cases (show (none : Option HO) = some u from z)
theorem walkG {l : PySem.W.OpenLaw} {n k : Nat} {q : Program} {loose : List Str} {XP : (Str → Option Value) → Heap → Prop} {YP : World → Heap → Prop} {d : DefRec} {K : Params → PySem.W.Frag} {sp : PySem.W.Frag → Sp} {x : Str}
    (hn : l.most = some n) (hn2 : n ≤ sizeLine) (hdf : d.params.defaults = []) (hr : Room k callerA) (hY : ∀ (w : World) (h : Heap), YP w h → (K w.params).In h)
    (F : ∀ (w : World) (mg : Str → Option Value) (fa : Addr) (h : Heap), (K w.params).In h → h.Ns mainGlobals mg → mg d.name = some (.ref fa) →
      ∃ fd : FuncData, (∀ (s : Shared) (u : Value), BindsTo s fd ⟨[u], []⟩ [(x, u)]) ∧ ∀ base : Heap, (K w.params).In base → base.Ns mainGlobals mg → FnG l.prog w (K w.params) mg base k fa fd [x] (sp (K w.params)))
    (hsp : ∀ (K : PySem.W.Frag) (H : Hp) (a : Addr) (ns : List Int), ns.length ≤ n → SqL K H a (ns.map V.int) → sp K [.ref a] H (fun v _ => v = .bl true) fun _ _ _ => False) :
    PySem.W.WalkO q loose XP YP l.row.toRowW d [] (fun f vs => PySem.call f vs) := by
  refine Att.attach_call hn hdf fun w s₀ s₁ mg mb fa o pm cd doc a vs ns G Y ho hd hcd hmg hobj hints hlen hg => ?_
  obtain ⟨fd, hb, hF⟩ := F w mg fa _ (hY w _ Y) G.T.g hmg
  exact law_callG (hY w _ Y) G.T.g G.T.b G.T.builtins G.T.nolimit hg hobj hints (Nat.le_trans hlen hn2) hr hF hb fun H _ hS => hsp _ H a ns hlen hS
end RQ

set_option Elab.async false
set_option linter.all false
set_option maxRecDepth 100000
set_option maxHeartbeats 4000000
/-! The text of a list or tuple, however nested, that holds instances which tell their own text. -/
namespace RN
open PySem PySem.Spec PyProof.Rows L2
/-! ### below a running repr -/
abbrev lpC (args : Args) : Code := .builtin "list.__repr__.loop" args
theorem lp_depth {A : Around} {args : Args} : (A.under (lpC args)).depth ≤ A.depth + 1 := by
  first
    | exact Nat.le_of_eq rfl
    | simp [Around.under, Code.weight, Code.isCreation, Code.isGuard, Code.isCaller, Code.frames, Code.isFrame, guardIds]
theorem lp_frames {A : Around} {args : Args} {o : List Env} (h : A.frames = some o) : (A.under (lpC args)).frames = some o := by
  first
    | exact h
    | (simpa [Around.under, Code.envs, Code.isFrame, pushEnvs] using h)
theorem lp_handled {A : Around} {args : Args} : (A.under (lpC args)).handled = A.handled := rfl
theorem room_lp {k : Nat} {A : Around} {args : Args} (r : Room (k + 1) A) : Room k (A.under (lpC args)) :=
  ⟨r.hd, by have := r.dp; have := @lp_depth A args; omega, by have := r.un; rw [units_under_list_loop]; omega⟩
theorem tp_depth {A : Around} {id : String} {args : Args} (h : id = "tuple.__repr__" ∨ id = "tuple.__repr__.under") : (A.under (.builtin id args)).depth ≤ A.depth + 1 := by
  rcases h with rfl | rfl <;> first
    | exact Nat.le_of_eq rfl
    | simp [Around.under, Code.weight, Code.isCreation, Code.isGuard, Code.isCaller, Code.frames, Code.isFrame, guardIds]
/-- what tells t of x, wherever below this body, with these objects not under way -/
def RI (X : Cx) (H : Hp) (as : Addr → Prop) (d : Nat) (x : V) (t : Str) : Prop :=
  ∀ (base : Nat), base + t.length ≤ sizeLine → ∀ (A : Around) (g : List Code) (pins : List (Addr × Obj)) (σ : L2.St) (s : Shared) (v : Value) (Q : Str → Shared → Prop), Inv X pins σ H s → RelV x v → A.guards = some g → (∀ b, as b → Clear g b) → Room d A → A.frames = some X.stack →
    (∀ s', Inv X pins σ H s' → Q t s') → wpAny (model X.prog X.w) A (pyReprUnder base v) Q X.xe s
section
variable {X : Cx} {H : Hp} {as : Addr → Prop} {d : Nat} {x : V} {t : Str}
theorem RI.more {as' : Addr → Prop} (h : RI X H as d x t) (hs : ∀ b, as b → as' b) : RI X H as' d x t := fun b hb A g pins σ s v Q I r hg hc hr hf q => h b hb A g pins σ s v Q I r hg (fun a ha => hc a (hs a ha)) hr hf q
theorem RI.up {d' : Nat} (h : RI X H as d x t) (hd : d ≤ d') : RI X H as d' x t := fun b hb A g pins σ s v Q I r hg hc hr hf q => h b hb A g pins σ s v Q I r hg hc (hr.mono hd) hf q
theorem RI.of_is (h : ∀ v, RelV x v → ReprIs X.prog X.w v t) : RI X H as d x t := fun b hb A g pins σ s v Q I r hg hc hr hf q => h v r b hb A X.xe s Q fun tk => q _ (I.tok tk)
theorem RI.int {i : Int} (h : i.natAbs.log2 < 1920) : RI X H as d (.int i) (toString i) := .of_is fun v r => by
  obtain ⟨t, rfl⟩ := r
  exact ReprIs.int t h
theorem RI.bl {b : Bool} : RI X H as d (.bl b) (if b then "True" else "False") := .of_is fun v r => by
  cases (show v = Value.bool b from r)
  exact ReprIs.bool b
theorem RI.non : RI X H as d .non "None" := .of_is fun v r => by
  cases (show v = Value.none from r)
  exact ReprIs.none
theorem RI.str {z : Str} (h : (reprText z).length ≤ sizeLine) : RI X H as d (.str z) (reprText z) := .of_is fun v r => by
  obtain ⟨t, rfl⟩ := r
  exact ReprIs.str z t h
/-- an instance, by its own def -/
theorem ifBoundBy_K {M : Model} {A : Around} {E : Value → Shared → Prop} {s : Shared} {K : PySem.W.Frag} {a C f : Addr} {ox : Obj} {od : Option Obj} {name : Str} {last : Value → List Value → Sem Value} {Q : Option Value → Shared → Prop} (XK : K.In s.heap) (I : PySem.W.InstAt s.heap a ox C od)
    (hs : PySem.W.findIn K (.ref C) name = some (some (.ref f))) (hf : PySem.W.isFn K (.ref f) = true)
    (h : wpAny M A (last (.ref f) [.ref a]) (fun v => Q (some v)) E s) : wpAny M A (callSpecialIfBoundBy? last (.ref a) name) Q E s := by
  simp only [callSpecialIfBoundBy?, bindSpecialIfBound?]
  refine wpAny_holding (wpAny_bind (wpAny_bind (wpAny_bind (I.type.here ((PySem.W.looks_findIn XK hs).here ?_)))))
  refine wpAny_bind (wpAny_askSetting (wpAny_ite ?_))
  have fin : wpAny M A (last (.ref f) [.ref a] >>= fun v => pure (some v)) Q E s := wpAny_bind (wpAny_mono h (fun v s' h' => wpAny_pure h') fun _ _ h' => h')
  split
  · exact wpAny_bind ((PySem.W.bind_fn XK _ (beq_iff_eq.mp hf)).here (wpAny_pure (by exact fin)))
  · exact wpAny_tryCatch (wpAny_bind ((PySem.W.bind_fn XK _ (beq_iff_eq.mp hf)).here (wpAny_pure (by exact fin))))
theorem RI.own {CX : CXT} {C g a dx : Addr} {fs : List (Str × V)} {n : Nat} {sp : Sp} {E : XK} (c : RQ.OneC X.K C g "__repr__") (F : FnR X.prog X.w X.K X.mg X.base CX n g sp) (hx : Passes CX X E) (ha : H a = some (.ins C dx fs))
    (hsp : sp [.ref a] H (fun z H' => z = .str t ∧ H' = H) E) : RI X H as n (.ref a) t := by
  intro base hb A gs pins σ s v Q I r hg hc hr hf q
  cases (show v = Value.ref a from r)
  obtain ⟨mA, O, _⟩ := ins_get I.hok ha
  obtain ⟨od, J, _⟩ := O.look
  refine wpAny_pyReprUnder_ref (by omega) ?_
  unfold pyReprObjUnder pyReprObjBy
  refine wpAny_bind (wpAny_cRoomFor hr.units0 ?_)
  refine wpAny_bind (wpAny_bind (J.type.here ((PySem.W.looks_findIn I.kIn c.at_).here ?_)))
  show wpAny _ _ (if (some (Value.ref g)).isNone = true then _ else _) _ _ _
  rw [if_neg (by simp)]
  refine wpAny_bind (ifBoundBy_K I.kIn J c.at_ c.fn ?_)
  have e0 : Env0 X.prog X.w X.K X.mg X.base A X.stack s H := ⟨hf, I.env0.mod, I.env0.bs, I.env0.bsz, I.env0.funs, I.env0.frf, I.env0.hok, I.env0.bare⟩
  refine wpAny_mono (wpAny_call (SlX.run_at (us := [.ref a]) (ws := [.ref a]) F hr e0 hx I (.cons rfl .nil) hsp)) (fun z s' hz => ?_) fun _ _ e => e
  obtain ⟨z', H', I', rz, rfl, rfl⟩ := hz
  obtain ⟨tk, rfl⟩ := rz
  exact wpAny_bind (wpAny_isInstance (T := "str") (b := true) rfl isSubtype_str_str (wpAny_pure ⟨_, _, rfl, q _ I'⟩))
/-- an object of ours is held still -/
theorem repin {pins : List (Addr × Obj)} {σ : L2.St} {s : Shared} {P : Addr} {o : Obj} (I : Inv X pins σ H s) (f : FpOk X pins H P) (e : s.heap.get? P = some o) (nc : ∀ v, o.data ≠ .cell v) : Inv X ((P, o) :: pins) σ H s :=
  I.pins_of fun p hp => by
    rcases List.mem_cons.mp hp with rfl | z
    · exact ⟨e, f.1, f.2.1, f.2.2.1, nc⟩
    · exact I.pin p (List.mem_append_right _ z)
abbrev partsO (acc : Array Value) (c : Nat) : Obj := { cls := .type "list", dict := none, data := .seq acc c, slots := #[] }
theorem parts_nc {acc : Array Value} {c : Nat} : ∀ v, (partsO acc c).data ≠ .cell v := fun v z => by cases z
/-- the turns of a list's repr -/
theorem loop {a P : Addr} {xs : List V} {ts : List Str} {base : Nat} {g : List Code} {A : Around} {pins : List (Addr × Obj)} {σ : L2.St} {R : Result → Shared → Prop} (hH : H a = some (.lst xs)) (hlen : ts.length = xs.length)
    (hT : ∀ (i : Nat) (x : V), xs[i]? = some x → ∃ t, ts[i]? = some t ∧ RI X H as d x t) (hg : A.guards = some g) (hcl : ∀ b, as b → Clear g b) (hr : Room (d + 1) A) (hf : A.frames = some X.stack) (hna : ¬ as a) (f : FpOk X pins H P)
    (hsz : base + (listText ts).length ≤ sizeLine) (hE : ∀ e s', X.xe e s' → R (.error e) s') (hR : ∀ s' u, Inv X pins σ H s' → R (.ok (.ret (.str (listText ts) u))) s') :
    ∀ (k i : Nat) (s : Shared) (acc : Array Value) (c : Nat) (done : List (Str × Tok)), xs.length - i = k → i ≤ xs.length → Inv X ((P, partsO acc c) :: pins) σ H s → acc.toList = strValues done → done.map (·.1) = ts.take i →
      codeAny (model X.prog X.w) A (lpC ⟨[.ref a, rawInt i, .ref P, rawInt ((base + piled (ts.take i) : Nat) : Int)], []⟩) R s := by
  have hp3 := piled_le_listText ts
  have hX : (listText ts).length = (textFrom 0 "[" ts).length + 1 := by
    show (textFrom 0 "[" ts ++ "]").length = _
    rw [strLen_append]; rfl
  have hL := textFrom_len ts 0 "["
  have sz2 : ∀ t ∈ ts, t.length ≤ sizeLine := fun t ht => by
    have := hL.2.1 t ht
    omega
  have sz1 : xs.length ≤ sizeLine := by
    have h1 := hL.1
    rw [if_neg (Nat.lt_irrefl 0)] at h1
    omega
  intro k
  induction k with
  | zero =>
    intro i s acc c done hk hi I hacc hdone
    have ei : i = xs.length := by omega
    obtain ⟨z, its, n, r, hl, e⟩ := I.lstM hH
    refine codeAny_builtin F.entry_list_repr_loop ?_
    show wpAny _ _ (Builtin.«list.__repr__.loop» ⟨[.ref a, .int i 0, .ref P, .int ((base + piled (ts.take i) : Nat) : Int) 0], []⟩) _ _ s
    rw [repr_loop_tree]
    refine wpAny_bind (wpAny_listItems e rfl ?_)
    have hnone : its.toArray[(i : Int).toNat]? = none := by
      rw [Int.toNat_natCast, List.getElem?_toArray]
      exact List.getElem?_eq_none (by omega)
    simp only [hnone]
    unfold reprEnd
    refine wpAny_bind (wpAny_listItems (ClX.pin_at I) rfl ?_)
    rw [hacc, repr_fold]
    refine wpAny_bind (wpAny_pure ?_)
    have hall : done.map (·.1) = ts := by rw [hdone, ei, ← hlen, List.take_length]
    rw [hall]
    refine wpAny_bind (wpAny_mkStr (wpAny_pure ?_) (by show (listText ts).length ≤ sizeLine; omega))
    exact hR _ _ ((ClX.unpin I).tok _)
  | succ k ih =>
    intro i s acc c done hk hi I hacc hdone
    have hlt : i < xs.length := by omega
    obtain ⟨z, its, n, r, hl, e⟩ := I.lstM hH
    have hx : xs[i]? = some xs[i] := List.getElem?_eq_getElem hlt
    obtain ⟨t, ht, hrep⟩ := hT i xs[i] hx
    have hp1 := piled_take_succ ht
    have hp2 := piled_take_le ts (i + 1)
    have hli : i < its.length := by omega
    have rv : RelV xs[i] its[i] := by
      obtain ⟨u, hu, q⟩ := Vals.get r hx
      rw [List.getElem?_eq_getElem hli] at hu
      cases hu
      exact q
    refine codeAny_builtin F.entry_list_repr_loop ?_
    show wpAny _ _ (Builtin.«list.__repr__.loop» ⟨[.ref a, .int i 0, .ref P, .int ((base + piled (ts.take i) : Nat) : Int) 0], []⟩) _ _ s
    rw [repr_loop_tree]
    refine wpAny_bind (wpAny_listItems e rfl ?_)
    have hsome : its.toArray[(i : Int).toNat]? = some its[i] := by
      rw [Int.toNat_natCast, List.getElem?_toArray]
      exact List.getElem?_eq_getElem hli
    simp only [hsome]
    rw [Int.toNat_natCast]
    refine wpAny_bind (wpAny_holding (wpAny_mono (hrep (base + piled (ts.take i) + 1) (by omega) _ _ _ _ _ _ _ I rv (guards_under_guard (isGuard_list_loop _) hg) (fun b hb => (hcl b hb).cons (a := a) fun e => hna (e ▸ hb)) (room_lp hr) (lp_frames hf) fun s' I' => ?_) (fun _ _ q => q) hE))
    refine wpAny_bind (wpAny_mkStr ?_ (sz2 t (List.mem_of_getElem? ht)))
    refine wpAny_bind ?_
    show wpAny _ _ (updateSeq P _) _ _ _
    have hasz : acc.size ≤ sizeLine := by
      have e1 : acc.toList.length = acc.size := by simp
      have e2 : (strValues done).length = done.length := by simp [strValues]
      have e3 : done.length = (ts.take i).length := by rw [← hdone, List.length_map]
      have e4 : (ts.take i).length ≤ i := by rw [List.length_take]; omega
      rw [hacc] at e1
      omega
    have hP := ClX.pin_at I'
    refine wpAny_updateSeq hP rfl (wpAny_pure ⟨F.quiet_list_repr_loop _, ?_⟩) hasz
    have e1 : ((i : Int) + 1) = ((i + 1 : Nat) : Int) := by omega
    have e2 : base + piled (ts.take i) + (t.length + 2) = base + piled (ts.take (i + 1)) := by omega
    rw [e1, e2]
    have I2 := (ClX.unpin I').turned (it := P) (h' := s'.heap.update P (Obj.mapSeq (·.push (.str t s'.toks)))) (t' := s'.toks + 1) (fun b o hb q => (Heap.get?_update_other _ _ (Ne.symm hb)).trans q) f.1 f.2.1 f.2.2.2.1 f.2.2.2.2.1 f.2.2.2.2.2
    exact ih (i + 1) _ (acc.push (.str t s'.toks)) _ (done ++ [(t, s'.toks)]) (by omega) hlt (repin I2 f (Heap.get?_update_self _ hP rfl) (fun v z => by cases z)) (by simp [hacc, strValues]) (by simp [List.take_add_one, ht, hdone])
theorem head {a : Addr} {xs : List V} {ts : List Str} {base : Nat} {g : List Code} {A : Around} {pins : List (Addr × Obj)} {σ : L2.St} {s : Shared} {R : Result → Shared → Prop} (I : Inv X pins σ H s) (hH : H a = some (.lst xs)) (hlen : ts.length = xs.length) (h0 : xs ≠ [])
    (hT : ∀ (i : Nat) (x : V), xs[i]? = some x → ∃ t, ts[i]? = some t ∧ RI X H as d x t) (hg : A.guards = some g) (hcl : ∀ b, (b = a ∨ as b) → Clear g b) (hr : Room (d + 1) A) (hf : A.frames = some X.stack) (hna : ¬ as a)
    (hsz : base + (listText ts).length ≤ sizeLine) (hE : ∀ e s', X.xe e s' → R (.error e) s') (hR : ∀ s' u, Inv X pins σ H s' → R (.ok (.ret (.str (listText ts) u))) s') :
    wpAny (model X.prog X.w) A.in1 (Builtin.listReprAt base ⟨[.ref a], []⟩) (fun fin s' => match fin with | .done f => R (.ok f) s' | .again c' => c'.quiet = true ∧ codeAny (model X.prog X.w) A c' R s') (fun e s' => R (.error e) s') s := by
  obtain ⟨z, its, n, r, hl, e⟩ := I.lstM hH
  have hca : Clear g a := hcl a (.inl rfl)
  cases its with
  | nil =>
    cases xs with
    | nil => exact absurd rfl h0
    | cons x l => cases hl
  | cons y l =>
    refine wpAny_list_repr_head (A := A.in1) hg (fun v rest kw hm => listSameRef_of_ne (hca _ _ _ _ hm)) e rfl ?_
    refine wpAny_bind (m := newList []) (wpAny_newObj_type ?_)
    refine wpAny_pure ⟨F.quiet_list_repr_loop _, ?_⟩
    have f : FpOk X pins H s.heap.objs.size := I.fpOk (Nat.le_refl _) I.fresh
    have I1 : Inv X pins σ H { s with heap := s.heap.push { cls := .type "list", data := .seq #[] } } := I.kept (t' := s.toks) fun b o e => Heap.get?_push_of_some _ e
    exact loop (P := s.heap.objs.size) hH hlen hT hg (fun b hb => hcl b (.inr hb)) hr hf hna f hsz hE hR _ 0 _ #[] _ [] rfl (Nat.zero_le _) (repin I1 f (Heap.get?_push_size _ rfl) (fun v z => by cases z)) rfl (by simp)
theorem RI.list {a : Addr} {xs : List V} {ts : List Str} (hH : H a = some (.lst xs)) (hlen : ts.length = xs.length) (hT : ∀ (i : Nat) (x : V), xs[i]? = some x → ∃ t, ts[i]? = some t ∧ RI X H as d x t) (hna : ¬ as a) : RI X H (fun b => b = a ∨ as b) (d + 1) (.ref a) (listText ts) := by
  intro base hb A g pins σ s v Q I r hg hc hr hf q
  cases (show v = Value.ref a from r)
  obtain ⟨z, its, n, rv, hl, e⟩ := I.lstM hH
  cases xs with
  | nil =>
    cases its with
    | cons y l => cases hl
    | nil =>
      cases ts with
      | cons y l => cases hlen
      | nil => exact wpAny_pyReprUnder_ref (by omega) (wpAny_pyReprObjUnder_list_empty ⟨_, e, rfl⟩ hr.units0 e rfl ⟨_, _, rfl, q _ (I.tok _)⟩)
  | cons x l =>
    refine wpAny_pyReprUnder_ref (by omega) (wpAny_pyReprObjUnder_twin (twin := "list.__repr__.under") ⟨_, e, rfl⟩ F.slot_list_repr.toG rfl hr.units0 ?_)
    exact call_twin_plain F.plain_list_repr_under F.entry_list_repr_under F.check_list_repr_under ⟨_, e, rfl⟩ F.slot_list_repr.toG (F.args_list_repr_1 _)
      (head (R := callEnd _ X.xe) I hH hlen (fun z => nomatch z) hT hg hc hr hf hna hb (fun _ _ h => h) fun s' u I' => ⟨⟨_, _, rfl⟩, _, _, rfl, q _ I'⟩)
/-! ### the empty dict -/
theorem RI.dict {a : Addr} (hH : H a = some (.dK [])) : RI X H (fun b => b = a ∨ as b) (d + 1) (.ref a) "{}" := by
  intro base hb A g pins σ s v Q I r hg hc hr hf q
  cases (show v = Value.ref a from r)
  obtain ⟨_, hs, vs, kv, o, es, ep, e, hx, hd, _, hp, _⟩ := I.hok a _ hH
  cases kv
  have e0 : es.toList = [] := by
    cases h : es.toList with
    | nil => rfl
    | cons y l => rw [h] at hp; cases hp
  have t : dictText [] = ("{}" : Str) := by decide +kernel
  have k : ReprK X.prog X.w [a] s.heap 1 (.ref a) (dictText []) := ReprK.dict (d := 0) e hx.1 hd hs (by simp) (by rw [e0]; exact .nil)
  rw [t] at k
  have := hr.un
  exact k base hb A g X.xe s Q hg (fun b hb => hc b (.inl (List.mem_singleton.mp hb))) (by omega) (fun _ _ e => e) fun h' tk kk => q _ (I.kept kk)
/-! ### tuples -/
abbrev tpC (id : String) (args : Args) : Code := .builtin id args
theorem tp_frames {A : Around} {id : String} {args : Args} {o : List Env} (hid : id = "tuple.__repr__" ∨ id = "tuple.__repr__.under") (h : A.frames = some o) : (A.under (tpC id args)).frames = some o := by
  rcases hid with rfl | rfl <;> first
    | exact h
    | (simpa [Around.under, Code.envs, Code.isFrame, pushEnvs] using h)
theorem tp_units {A : Around} {id : String} {args : Args} (hid : id = "tuple.__repr__" ∨ id = "tuple.__repr__.under") : (A.under (tpC id args)).units = A.units + 1 := by
  rcases hid with rfl | rfl
  · exact units_under_tuple_repr _ _
  · exact units_under_tuple_repr_under _ _
theorem tp_guard {id : String} {args : Args} (hid : id = "tuple.__repr__" ∨ id = "tuple.__repr__.under") : (tpC id args).isGuard = true := by
  rcases hid with rfl | rfl
  · exact isGuard_tuple_repr _
  · exact isGuard_tuple_repr_under _
theorem room_tp {k : Nat} {A : Around} {id : String} {args : Args} (hid : id = "tuple.__repr__" ∨ id = "tuple.__repr__.under") (r : Room (k + 1) A) : Room k (A.under (tpC id args)) :=
  ⟨r.hd, by have := r.dp; have : (A.under (tpC id args)).depth ≤ A.depth + 1 := tp_depth hid; omega, by have := r.un; rw [tp_units hid]; omega⟩
theorem tfold {g : List Code} {A : Around} (hg : A.guards = some g) (hcl : ∀ b, as b → Clear g b) (hr : Room d A) (hf : A.frames = some X.stack) {pins : List (Addr × Obj)} {σ : L2.St} :
    ∀ (xs : List V) (us : List Value) (ts : List Str) (acc : Array Str) (n : Nat) (s : Shared) (Q : (Array Str × Nat) → Shared → Prop), Vals xs us → Paired (RI X H as d) xs ts → n + piled ts ≤ sizeLine → Inv X pins σ H s →
      (∀ s', Inv X pins σ H s' → Q ⟨acc ++ ts.toArray, n + piled ts⟩ s') → wpAny (model X.prog X.w) A (forIn us (⟨acc, n⟩ : (Array Str × Nat)) tupBody) Q X.xe s
  | _, _, _, acc, n, s, Q, .nil, .nil, _, I, h => by
    have h0 := h s I
    simp only [List.forIn_nil]
    exact wpAny_pure (by simpa [piled] using h0)
  | _, _, _, acc, n, s, Q, .cons (a := x) (b := u) rx rv, .cons (b := t) hx ht, hn, I, h => by
    rw [piled_cons] at hn
    rw [List.forIn_cons]
    refine wpAny_bind (wpAny_bind (hx (n + 1) (by omega) _ _ _ _ _ _ _ I rx hg hcl hr hf fun s' I' => wpAny_pure ?_))
    refine tfold hg hcl hr hf _ _ _ (acc.push t) (n + (t.length + 2)) _ Q rv ht (by omega) I' fun s'' I'' => ?_
    have h1 := h s'' I''
    rename_i ts'
    have e : n + piled (t :: ts') = n + (t.length + 2) + piled ts' := by rw [piled_cons]; omega
    rw [e] at h1
    simpa using h1
theorem thead {a : Addr} {xs : List V} {ts : List Str} {base : Nat} {g : List Code} {A : Around} {id : String} {rest : List Value} (hid : id = "tuple.__repr__" ∨ id = "tuple.__repr__.under") {pins : List (Addr × Obj)} {σ : L2.St} {s : Shared} {R : Result → Shared → Prop} (I : Inv X pins σ H s) (hH : H a = some (.tup xs))
    (hT : Paired (RI X H as d) xs ts) (hg : A.guards = some g) (hcl : ∀ b, (b = a ∨ as b) → Clear g b) (hr : Room (d + 1) A) (hf : A.frames = some X.stack) (hna : ¬ as a)
    (hsz : base + (tupleText ts).length ≤ sizeLine) (hE : ∀ e s', X.xe e s' → R (.error e) s') (hR : ∀ s' u, Inv X pins σ H s' → R (.ok (.ret (.str (tupleText ts) u))) s') :
    wpOwn (model X.prog X.w) A (.builtin id ⟨.ref a :: rest, []⟩) (Builtin.tupleReprAt base ⟨[.ref a], []⟩) (fun fin s' => match fin with | .done f => R (.ok f) s' | .again c' => c'.quiet = true ∧ codeAny (model X.prog X.w) A c' R s') (fun e s' => R (.error e) s') s := by
  obtain ⟨z, its, rv, o, e, hc, n, hd⟩ := I.hok a _ hH
  have hca : Clear g a := hcl a (.inl rfl)
  have hlen : ts.length = its.length := by rw [← Paired.length hT, Paired.length rv]
  have hp := piled_le_tupleText ts
  have hsz0 : (tupleText ts).length ≤ sizeLine := by omega
  rw [tuple_repr_tree, tupleReprUnderWay_eq]
  refine wpOwn_bind (wpOwn_stackTailAny hg (tupGuardF_off _) (tupGuardF_pos _) ?_)
  have hn : (g.any fun c => tupGuardF (.ref a) (c, default)) = false := by
    rw [List.any_eq_false]
    intro c hcm
    rw [tupGuardF_of_clear hca c hcm]
    exact Bool.false_ne_true
  rw [hn]
  refine wpOwn_of_wpAny ?_
  show wpAny _ _ (tupleReprRest base (.ref a)) _ _ s
  unfold tupleReprRest Builtin.Tuple.tupleItemsOf
  refine wpAny_bind (wpAny_bind (wpAny_seqItems e hd (wpAny_pure ?_)))
  rw [← Array.forIn_toList]
  refine wpAny_bind (wpAny_mono (tfold (guards_under_guard (tp_guard hid) hg) (fun b hb => (hcl b (.inr hb)).cons (a := a) fun e => hna (e ▸ hb)) (room_tp hid hr) (tp_frames hid hf) xs its ts #[] base _ _ rv hT (by omega) I fun s' I' => ?_) (fun _ _ q => q) hE)
  refine wpAny_bind (wpAny_mkStr (wpAny_pure ?_) (by simpa [tupleText, hlen] using hsz0))
  have h1 := hR _ s'.toks (I'.tok (s'.toks + 1))
  simpa [tupleText, hlen] using h1
theorem RI.tuple {a : Addr} {xs : List V} {ts : List Str} (hH : H a = some (.tup xs)) (hT : Paired (RI X H as d) xs ts) (hna : ¬ as a) : RI X H (fun b => b = a ∨ as b) (d + 1) (.ref a) (tupleText ts) := by
  intro base hb A g pins σ s v Q I r hg hc hr hf q
  cases (show v = Value.ref a from r)
  obtain ⟨z, its, rv, o, e, hcl, n, hd⟩ := I.hok a _ hH
  refine wpAny_pyReprUnder_ref (by omega) (wpAny_pyReprObjUnder_twin (twin := "tuple.__repr__.under") ⟨o, e, hcl⟩ F.slot_tuple_repr rfl hr.units0 ?_)
  exact call_twin_own (F.quiet_tuple_repr_under _) F.entry_tuple_repr_under F.check_tuple_repr_under ⟨o, e, hcl⟩ F.slot_tuple_repr (F.args_tuple_repr_1 _)
    (thead (R := callEnd _ X.xe) (.inr rfl) I hH hT hg hc hr hf hna hb (fun _ _ h => h) fun s' u I' => ⟨⟨_, _, rfl⟩, _, _, rfl, q _ I'⟩)
/-! ### repr itself -/
/-- repr of a list or a tuple that is told by RI -/
def rReprN (X : Cx) : List V → Hp → VK → Prop := fun vs H Q => ∃ (a : Addr) (as : Addr → Prop) (d : Nat) (t : Str), vs = [.ref a] ∧ t.length ≤ sizeLine ∧ Room (d + 2) X.A ∧ ¬ as a ∧ Q (.str t) H ∧
  ((∃ xs ts, H a = some (.lst xs) ∧ t = listText ts ∧ Paired (RI X H as d) xs ts) ∨ ∃ xs ts, H a = some (.tup xs) ∧ t = tupleText ts ∧ Paired (RI X H as d) xs ts)
end
theorem at_of {α β : Type} {R : α → β → Prop} : ∀ {xs : List α} {ys : List β}, Paired R xs ys → ∀ (i : Nat) (x : α), xs[i]? = some x → ∃ y, ys[i]? = some y ∧ R x y
  | _, _, .nil, i, x, e => by simp at e
  | _, _, .cons r _, 0, x, e => by simp at e; subst e; exact ⟨_, rfl, r⟩
  | _, _, .cons _ t, i + 1, x, e => by
    obtain ⟨y, h1, h2⟩ := at_of t i x (by simpa using e)
    exact ⟨y, by simpa using h1, h2⟩
theorem call_reprN {X : Cx} (hgd : X.A.guards = some []) : CallR X (.builtin "repr") (rReprN X) := by
  intro pins s σ H xs us Q I r h
  obtain ⟨a, as, d, t, rfl, hz, hr, hna, q, hh⟩ := h
  obtain ⟨u, rfl, ru⟩ := r.one
  cases (show u = Value.ref a from ru)
  have hf : X.A.frames = some X.stack := I.env0.frames
  have hr1 : Room (d + 1) X.A.in1 := hr.in1
  have hu1 := hr1.un
  have hu2 : X.A.in1.units = X.A.units + 1 := rfl
  rcases hh with ⟨zs, ts, hH, rfl, hT⟩ | ⟨zs, ts, hH, rfl, hT⟩
  · obtain ⟨z, its, n, rv, hl, e⟩ := I.lstM hH
    refine call_repr_slot (by omega) ⟨_, e, rfl⟩ F.slot_list_repr.toG ?_
    cases zs with
    | nil =>
      cases its with
      | cons y l => cases hl
      | nil =>
        cases hT
        exact call_list_repr_empty ⟨_, e, rfl⟩ e rfl ⟨_, _, rfl, .str _, H, I.tok _, ⟨_, rfl⟩, q⟩
    | cons x l =>
      exact wpAny_call (codeAny_call_builtin F.slot_list_repr.plain F.entry_list_repr (F.slot_list_repr.check _ _ _ _ _ _ _ _ ⟨_, e, rfl⟩ (F.args_list_repr_1 _)
        (head (base := 0) (R := callEnd _ X.xe) I hH (Paired.length hT).symm (fun z => nomatch z) (at_of hT) hgd (fun b _ => Clear.nil b) hr1 hf hna (by omega) (fun _ _ h => h) fun s' u I' => ⟨_, _, rfl, .str _, H, I', ⟨_, rfl⟩, q⟩)))
  · obtain ⟨z, its, rv, o, e, hc, n, hd⟩ := I.hok a _ hH
    refine call_repr_slot (by omega) ⟨o, e, hc⟩ F.slot_tuple_repr ?_
    exact wpAny_call (codeAny_call_builtin_own (Code.quiet_builtin _ (by decide +kernel)) F.entry_tuple_repr (F.slot_tuple_repr.check _ _ _ _ _ _ _ _ ⟨o, e, hc⟩ (F.args_tuple_repr_1 _)
      (thead (base := 0) (R := callEnd _ X.xe) (.inl rfl) I hH hT hgd (fun b _ => Clear.nil b) hr1 hf hna (by omega) (fun _ _ h => h) fun s' u I' => ⟨_, _, rfl, .str _, H, I', ⟨_, rfl⟩, q⟩)))
end RN

set_option Elab.async false
set_option linter.all false
set_option maxRecDepth 100000
set_option maxHeartbeats 4000000
/-! What readings come to, told by plain data alone: no heap in sight. -/
namespace GD
open PySem L2
/-- the parts of a fraction -/
abbrev rf (p : Int × Int) : List (Str × V) := [("_top", .int p.1), ("_bottom", .int p.2)]
/-- how a fraction of the class C is told -/
abbrev ratD (C : Addr) (p : Int × Int) : PyData := .dict [(.none, .int (C : Nat)), (.none, .int p.1), (.none, .int p.2)]
/-- a dict whose keys are tuples of whole numbers -/
abbrev tkD (ks : List (List Int)) : PyData := .dict (ks.map fun k => (.tuple (k.map .int), .bool true))
abbrev entT (k : List Int) : List Key × V := (k.map Sum.inl, V.bl true)
mutual
/-- v stands for d, and nothing of it lies in S -/
inductive Av (S : Addr → Prop) (H : Hp) : V → PyData → Prop
  | non : Av S H .non .none
  | bl (b : Bool) : Av S H (.bl b) (.bool b)
  | int (i : Int) : Av S H (.int i) (.int i)
  | str (x : Str) : Av S H (.str x) (.str x)
  | lst {a : Addr} {xs : List V} {ds : List PyData} : ¬ S a → H a = some (.lst xs) → Avs S H xs ds → Av S H (.ref a) (.list ds)
  | tup {a : Addr} {xs : List V} {ds : List PyData} : ¬ S a → H a = some (.tup xs) → Avs S H xs ds → Av S H (.ref a) (.tuple ds)
  | dct {a : Addr} {ks : List Int} : ¬ S a → H a = some (.dK (ks.map fun k => (Sum.inl k, V.bl true))) → Av S H (.ref a) (.dict (ks.map fun k => (.int k, .bool true)))
  | dcT {a : Addr} {k : List Int} {ks : List (List Int)} : ¬ S a → H a = some (.dT ((k :: ks).map entT)) → Av S H (.ref a) (tkD (k :: ks))
  | rat {a C dx : Addr} {p : Int × Int} : ¬ S a → H a = some (.ins C dx (rf p)) → Av S H (.ref a) (ratD C p)
inductive Avs (S : Addr → Prop) (H : Hp) : List V → List PyData → Prop
  | nil : Avs S H [] []
  | cons {v : V} {d : PyData} {vs : List V} {ds : List PyData} : Av S H v d → Avs S H vs ds → Avs S H (v :: vs) (d :: ds)
end
/-- all but S stays -/
def Kp (S : Addr → Prop) (H H' : Hp) : Prop := ∀ b o, ¬ S b → H b = some o → H' b = some o
theorem Kp.of {S : Addr → Prop} {H H' : Hp} (s : Same H H') : Kp S H H' := fun b o _ h => s b o h
theorem Kp.trans {S : Addr → Prop} {H H1 H2 : Hp} (a : Kp S H H1) (b : Kp S H1 H2) : Kp S H H2 := fun x o n h => b x o n (a x o n h)
/-- what is told of S is there -/
def Live (S : Addr → Prop) (H : Hp) : Prop := ∀ X, S X → H X ≠ none
theorem Live.same {S : Addr → Prop} {H H' : Hp} (l : Live S H) (s : Same H H') : Live S H' := fun X hX z => l X hX (s.free z)
theorem Live.new {S : Addr → Prop} {H : Hp} {a : Addr} (l : Live S H) (n : H a = none) : ¬ S a := fun h => l a h n
theorem same_new {H : Hp} {a : Addr} {o : HO} (h : H a = none) : Same H (upd H a o) := fun b u e => by rw [upd_ne (ne_of_none e h)]; exact e
section
variable {S : Addr → Prop} {K : PySem.W.Frag}
mutual
theorem Av.keep {H H' : Hp} (s : Kp S H H') : ∀ {v : V} {d : PyData}, Av S H v d → Av S H' v d
  | _, _, .non => .non
  | _, _, .bl b => .bl b
  | _, _, .int i => .int i
  | _, _, .str x => .str x
  | _, _, .lst n e h => .lst n (s _ _ n e) (Avs.keep s h)
  | _, _, .tup n e h => .tup n (s _ _ n e) (Avs.keep s h)
  | _, _, .dct n e => .dct n (s _ _ n e)
  | _, _, .dcT n e => .dcT n (s _ _ n e)
  | _, _, .rat n e => .rat n (s _ _ n e)
theorem Avs.keep {H H' : Hp} (s : Kp S H H') : ∀ {vs : List V} {ds : List PyData}, Avs S H vs ds → Avs S H' vs ds
  | _, _, .nil => .nil
  | _, _, .cons h r => .cons (Av.keep s h) (Avs.keep s r)
end
theorem Av.same {H H' : Hp} {v : V} {d : PyData} (h : Av S H v d) (s : Same H H') : Av S H' v d := h.keep (Kp.of s)
theorem Avs.same {H H' : Hp} {v : List V} {d : List PyData} (h : Avs S H v d) (s : Same H H') : Avs S H' v d := h.keep (Kp.of s)
mutual
/-- no dict in it -/
def nd : PyData → Bool
  | .list ds => nds ds
  | .tuple ds => nds ds
  | .dict _ => false
  | _ => true
def nds : List PyData → Bool
  | [] => true
  | d :: ds => nd d && nds ds
end
mutual
theorem Av.dp {H : Hp} : ∀ {v : V} {d : PyData}, Av S H v d → nd d = true → Dp K H v d
  | _, _, .non, _ => .non
  | _, _, .bl b, _ => .bl b
  | _, _, .int i, _ => .int i
  | _, _, .str x, _ => .str x
  | _, _, .lst n e h, q => .lst (SqL.of e) (Avs.dp h q)
  | _, _, .tup n e h, q => .tup (SqT.of e) (Avs.dp h q)
  | _, _, .dct n e, q => by cases q
  | _, _, .dcT n e, q => by cases q
  | _, _, .rat n e, q => by cases q
theorem Avs.dp {H : Hp} : ∀ {vs : List V} {ds : List PyData}, Avs S H vs ds → nds ds = true → DpAll K H vs ds
  | _, _, .nil, _ => .nil
  | _, _, .cons h r, q => .cons (Av.dp h (Bool.and_eq_true_iff.mp q).1) (Avs.dp r (Bool.and_eq_true_iff.mp q).2)
end
theorem Avs.len {H : Hp} : ∀ {vs : List V} {ds : List PyData}, Avs S H vs ds → vs.length = ds.length
  | _, _, .nil => rfl
  | _, _, .cons _ r => by rw [List.length_cons, List.length_cons, Avs.len r]
theorem Avs.app {H : Hp} : ∀ {vs ws : List V} {ts us : List PyData}, Avs S H vs ts → Avs S H ws us → Avs S H (vs ++ ws) (ts ++ us)
  | _, _, _, _, .nil, h => h
  | _, _, _, _, .cons a r, h => .cons a (Avs.app r h)
theorem Avs.take {H : Hp} : ∀ (n : Nat) {vs : List V} {ts : List PyData}, Avs S H vs ts → Avs S H (vs.take n) (ts.take n)
  | 0, _, _, _ => .nil
  | _ + 1, _, _, .nil => .nil
  | n + 1, _, _, .cons a r => .cons a (Avs.take n r)
theorem Avs.drop {H : Hp} : ∀ (n : Nat) {vs : List V} {ts : List PyData}, Avs S H vs ts → Avs S H (vs.drop n) (ts.drop n)
  | 0, _, _, h => h
  | _ + 1, _, _, .nil => .nil
  | n + 1, _, _, .cons a r => Avs.drop n r
theorem Avs.get {H : Hp} : ∀ {vs : List V} {ts : List PyData} {i : Nat} {v : V}, Avs S H vs ts → vs[i]? = some v → ∃ t, ts[i]? = some t ∧ Av S H v t
  | _, _, _, _, .nil, e => by simp at e
  | _, _, 0, _, .cons a _, e => by simp at e; subst e; exact ⟨_, rfl, a⟩
  | _, _, i + 1, v, .cons _ r, e => by
    obtain ⟨t, h1, h2⟩ := Avs.get (i := i) (v := v) r (by simpa using e)
    exact ⟨t, by simpa using h1, h2⟩
theorem Avs.put {H : Hp} : ∀ {vs : List V} {ts : List PyData} {i : Nat} {t : PyData}, Avs S H vs ts → ts[i]? = some t → ∃ v, vs[i]? = some v ∧ Av S H v t
  | _, _, _, _, .nil, e => by simp at e
  | _, _, 0, _, .cons a _, e => by simp at e; subst e; exact ⟨_, rfl, a⟩
  | _, _, i + 1, t, .cons _ r, e => by
    obtain ⟨v, h1, h2⟩ := Avs.put (i := i) (t := t) r (by simpa using e)
    exact ⟨v, by simpa using h1, h2⟩
/-! ### slots -/
structure Gm (S : Addr → Prop) (H : Hp) (σ : L2.St) (γ : List (Option PyData)) : Prop where
  len : σ.length = γ.length
  at_ : ∀ (i : Nat) (d : PyData), γ[i]? = some (some d) → ∃ v, σ[i]? = some (some v) ∧ Av S H v d
theorem Gm.keep {H H' : Hp} {σ : L2.St} {γ : List (Option PyData)} (e : Gm S H σ γ) (s : Kp S H H') : Gm S H' σ γ := ⟨e.len, fun i d h => let ⟨v, a, b⟩ := e.at_ i d h; ⟨v, a, b.keep s⟩⟩
theorem Gm.same {H H' : Hp} {σ : L2.St} {γ : List (Option PyData)} (e : Gm S H σ γ) (s : Same H H') : Gm S H' σ γ := e.keep (Kp.of s)
theorem Gm.set {H : Hp} {σ : L2.St} {γ : List (Option PyData)} {v : V} {d : PyData} (e : Gm S H σ γ) (i : Nat) (h : Av S H v d) : Gm S H (σ.set i (some v)) (γ.set i (some d)) := by
  refine ⟨by rw [List.length_set, List.length_set, e.len], fun j c hj => ?_⟩
  by_cases hij : i = j
  · subst hij
    rw [List.getElem?_set] at hj ⊢
    simp only [if_true] at hj ⊢
    by_cases hl : i < γ.length
    · rw [if_pos hl] at hj
      cases hj
      rw [if_pos (by rw [e.len]; exact hl)]
      exact ⟨v, rfl, h⟩
    · rw [if_neg hl] at hj
      cases hj
  · rw [List.getElem?_set_ne hij] at hj ⊢
    exact e.at_ j c hj
def wipeG (γ : List (Option PyData)) : List Nat → List (Option PyData)
  | [] => γ
  | v :: vs => (wipeG γ vs).set v none
theorem Gm.wipe {H : Hp} {σ : L2.St} {γ : List (Option PyData)} (e : Gm S H σ γ) : ∀ vs, Gm S H (L2.wipe σ vs) (wipeG γ vs)
  | [] => e
  | v :: vs => by
    have ih := Gm.wipe e vs
    refine ⟨?_, fun j c hj => ?_⟩
    · show ((L2.wipe σ vs).set v none).length = ((wipeG γ vs).set v none).length
      rw [List.length_set, List.length_set, ih.len]
    · have hj' : ((wipeG γ vs).set v none)[j]? = some (some c) := hj
      show ∃ x, ((L2.wipe σ vs).set v none)[j]? = some (some x) ∧ _
      by_cases hij : v = j
      · subst hij
        rw [List.getElem?_set] at hj'
        simp only [if_true] at hj'
        split at hj' <;> cases hj'
      · rw [List.getElem?_set_ne hij] at hj' ⊢
        exact ih.at_ j c hj'
theorem Gm.start {H : Hp} {N : List Str} : ∀ {vs : List V} {ds : List PyData}, Avs S H vs ds → Gm S H (start N vs) (ds.map some ++ List.replicate (N.length - ds.length) none) := fun {vs ds} h => by
  have hl := h.len
  refine ⟨?_, fun i d hi => ?_⟩
  · unfold L2.start
    simp [hl]
  · unfold L2.start
    by_cases hi' : i < ds.length
    · rw [List.getElem?_append_left (by rw [List.length_map]; exact hi'), List.getElem?_map] at hi
      have hd : ds[i]? = some ds[i] := List.getElem?_eq_getElem hi'
      rw [hd] at hi
      cases hi
      obtain ⟨v, hv, av⟩ := h.put hd
      refine ⟨v, ?_, av⟩
      rw [List.getElem?_append_left (by rw [List.length_map, hl]; exact hi'), List.getElem?_map, hv]
      rfl
    · rw [List.getElem?_append_right (by rw [List.length_map]; omega), List.getElem?_replicate] at hi
      split at hi <;> cases hi
end
/-! ### what expressions come to -/
def EvG (te : TE) (γ : List (Option PyData)) (d : PyData) : Prop := ∀ S H σ, Live S H → Gm S H σ γ → ∀ Q : VK, (∀ H' v, Same H H' → Av S H' v d → Q v H') → te σ H Q
def EvB (tt : TT) (γ : List (Option PyData)) (b : Bool) : Prop := ∀ S H σ, Live S H → Gm S H σ γ → ∀ Q : Bool → Hp → Prop, (∀ H', Same H H' → Q b H') → tt σ H Q
def EvA (ta : TA) (γ : List (Option PyData)) (ds : List PyData) : Prop := ∀ S H σ, Live S H → Gm S H σ γ → ∀ Q : List V → Hp → Prop, (∀ H' vs, Same H H' → Avs S H' vs ds → Q vs H') → ta σ H Q
def EvO (to : TO) (γ : List (Option PyData)) (o : Option Int) : Prop := ∀ S H σ, Live S H → Gm S H σ γ → ∀ Q : Option Int → Hp → Prop, (∀ H', Same H H' → Q o H') → to σ H Q
/-- a two-place operation, by data -/
def OpG (r : R2) (x y z : PyData) : Prop := ∀ S H v w, Live S H → Av S H v x → Av S H w y → ∀ Q : VK, (∀ H' u, Same H H' → Av S H' u z → Q u H') → r v w H Q
/-- a built-in's call, by data -/
def CbG (r : List V → Hp → VK → Prop) (xs : List PyData) (z : PyData) : Prop := ∀ S H vs, Live S H → Avs S H vs xs → ∀ Q : VK, (∀ H' u, Same H H' → Av S H' u z → Q u H') → r vs H Q
section
variable {γ : List (Option PyData)} {K : PySem.W.Frag} {te ta tb : TE} {tt tu : TT} {d x y z : PyData}
theorem EvG.var {i : Nat} (h : γ[i]? = some (some d)) : EvG (tVar i) γ d := fun S H σ l e Q q => by
  obtain ⟨v, hv, av⟩ := e.at_ i d h
  exact ⟨v, hv, q H v (Same.refl _) av⟩
theorem EvG.con {v : V} (h : ∀ S H, Av S H v d) : EvG (tC v) γ d := fun S H σ l e Q q => q H v (Same.refl _) (h S H)
theorem EvG.int (i : Int) : EvG (tC (.int i)) γ (.int i) := .con fun _ _ => .int i
theorem EvG.bl (b : Bool) : EvG (tC (.bl b)) γ (.bool b) := .con fun _ _ => .bl b
theorem EvG.non : EvG (tC .non) γ .none := .con fun _ _ => .non
theorem EvG.eq (h : EvG te γ x) (e : x = y) : EvG te γ y := e ▸ h
theorem EvB.eq {a b : Bool} (h : EvB tt γ a) (e : a = b) : EvB tt γ b := e ▸ h
theorem EvG.op {r : R2} (h1 : EvG ta γ x) (h2 : EvG tb γ y) (hr : OpG r x y z) : EvG (tOp r ta tb) γ z := fun S H σ l e Q q =>
  h1 S H σ l e _ fun H1 v s1 av => h2 S H1 σ (l.same s1) (e.same s1) _ fun H2 w s2 aw => hr S H2 v w (l.same (s1.trans s2)) (av.same s2) aw _ fun H3 u s3 au => q H3 u (s1.trans (s2.trans s3)) au
theorem EvA.nil : EvA tNil γ [] := fun S H σ l e Q q => q H [] (Same.refl _) .nil
theorem EvA.cons {tr : TA} {ds : List PyData} (h1 : EvG te γ d) (h2 : EvA tr γ ds) : EvA (tCons te tr) γ (d :: ds) := fun S H σ l e Q q =>
  h1 S H σ l e _ fun H1 v s1 av => h2 S H1 σ (l.same s1) (e.same s1) _ fun H2 vs s2 avs => q H2 _ (s1.trans s2) (.cons (av.same s2) avs)
theorem EvG.cb {r : List V → Hp → VK → Prop} {tr : TA} {ds : List PyData} (h : EvA tr γ ds) (hr : CbG r ds z) : EvG (tCB r tr) γ z := fun S H σ l e Q q =>
  h S H σ l e _ fun H1 vs s1 avs => hr S H1 vs (l.same s1) avs _ fun H2 u s2 au => q H2 u (s1.trans s2) au
theorem EvG.lst {tr : TA} {ds : List PyData} (h : EvA tr γ ds) (hz : ds.length ≤ sizeLine) : EvG (tLst tr) γ (.list ds) := fun S H σ l e Q q =>
  h S H σ l e _ fun H1 vs s1 avs => ⟨by rw [avs.len]; exact hz, fun p np => q _ _ (s1.trans (same_new np)) (.lst ((l.same s1).new np) upd_same (avs.same (same_new np)))⟩
theorem EvG.tup {tr : TA} {ds : List PyData} (h : EvA tr γ ds) (hz : ds.length ≤ sizeLine) : EvG (tTup tr) γ (.tuple ds) := fun S H σ l e Q q =>
  h S H σ l e _ fun H1 vs s1 avs => ⟨by rw [avs.len]; exact hz, fun p np => q _ _ (s1.trans (same_new np)) (.tup ((l.same s1).new np) upd_same (avs.same (same_new np)))⟩
/-- [*e, ..] -/
theorem EvA.star {tr : TA} {xs ds : List PyData} (h1 : EvG te γ (.list xs)) (h2 : EvA tr γ ds) : EvA (StX.tStar K te tr) γ (xs ++ ds) := fun S H σ l e Q q =>
  h1 S H σ l e _ fun H1 v s1 av => by
    cases av with
    | lst n hH hs =>
      exact ⟨_, _, rfl, .inr (SqL.of hH), h2 S H1 σ (l.same s1) (e.same s1) _ fun H2 vs s2 avs => q H2 _ (s1.trans s2) ((hs.same s2).app avs)⟩
theorem EvG.ite_t (hc : EvB tt γ true) (h : EvG ta γ d) : EvG (tIf tt ta tb) γ d := fun S H σ l e Q q =>
  hc S H σ l e _ fun H1 s1 => by
    rw [if_pos rfl]
    exact h S H1 σ (l.same s1) (e.same s1) _ fun H2 v s2 av => q H2 v (s1.trans s2) av
theorem EvG.ite_f (hc : EvB tt γ false) (h : EvG tb γ d) : EvG (tIf tt ta tb) γ d := fun S H σ l e Q q =>
  hc S H σ l e _ fun H1 s1 => by
    rw [if_neg Bool.false_ne_true]
    exact h S H1 σ (l.same s1) (e.same s1) _ fun H2 v s2 av => q H2 v (s1.trans s2) av
theorem EvG.ite {b : Bool} (hc : EvB tt γ b) (h1 : b = true → EvG ta γ x) (h2 : b = false → EvG tb γ y) : EvG (tIf tt ta tb) γ (if b = true then x else y) := by
  cases b with
  | true => exact .ite_t hc (h1 rfl)
  | false => exact .ite_f hc (h2 rfl)
/-! tests -/
theorem EvB.val {b : Bool} (h : EvG te γ (.bool b)) : EvB (tB te) γ b := fun S H σ l e Q q =>
  h S H σ l e _ fun H1 v s1 av => by
    cases av
    exact ⟨b, rfl, q H1 s1⟩
theorem EvB.and {a b : Bool} (h1 : EvB tt γ a) (h2 : a = true → EvB tu γ b) : EvB (tAnd tt tu) γ (a && b) := fun S H σ l e Q q =>
  h1 S H σ l e _ fun H1 s1 => by
    cases a with
    | true =>
      rw [if_pos rfl]
      exact h2 rfl S H1 σ (l.same s1) (e.same s1) _ fun H2 s2 => q H2 (s1.trans s2)
    | false =>
      rw [if_neg Bool.false_ne_true]
      exact q H1 s1
theorem EvB.or {a b : Bool} (h1 : EvB tt γ a) (h2 : a = false → EvB tu γ b) : EvB (tOr tt tu) γ (a || b) := fun S H σ l e Q q =>
  h1 S H σ l e _ fun H1 s1 => by
    cases a with
    | true =>
      rw [if_pos rfl]
      exact q H1 s1
    | false =>
      rw [if_neg Bool.false_ne_true]
      exact h2 rfl S H1 σ (l.same s1) (e.same s1) _ fun H2 s2 => q H2 (s1.trans s2)
theorem EvB.not {a : Bool} (h1 : EvB tt γ a) : EvB (tNot tt) γ (!a) := fun S H σ l e Q q => h1 S H σ l e _ fun H1 s1 => q H1 s1
theorem EvG.andV {a b : Bool} (h1 : EvG ta γ (.bool a)) (h2 : a = true → EvG tb γ (.bool b)) : EvG (tAndV ta tb) γ (.bool (a && b)) := fun S H σ l e Q q =>
  h1 S H σ l e _ fun H1 v s1 av => by
    cases av
    refine ⟨a, rfl, ?_⟩
    cases a with
    | true =>
      rw [if_pos rfl]
      exact h2 rfl S H1 σ (l.same s1) (e.same s1) _ fun H2 v s2 av => q H2 v (s1.trans s2) av
    | false =>
      rw [if_neg Bool.false_ne_true]
      exact q H1 _ s1 (.bl false)
theorem EvG.orV {a b : Bool} (h1 : EvG ta γ (.bool a)) (h2 : a = false → EvG tb γ (.bool b)) : EvG (tOrV ta tb) γ (.bool (a || b)) := fun S H σ l e Q q =>
  h1 S H σ l e _ fun H1 v s1 av => by
    cases av
    refine ⟨a, rfl, ?_⟩
    cases a with
    | true =>
      rw [if_pos rfl]
      exact q H1 _ s1 (.bl true)
    | false =>
      rw [if_neg Bool.false_ne_true]
      exact h2 rfl S H1 σ (l.same s1) (e.same s1) _ fun H2 v s2 av => q H2 v (s1.trans s2) av
theorem EvG.notV {a : Bool} (h1 : EvG ta γ (.bool a)) : EvG (tNotV ta) γ (.bool (!a)) := fun S H σ l e Q q =>
  h1 S H σ l e _ fun H1 v s1 av => by
    cases av
    exact ⟨a, rfl, q H1 _ s1 (.bl _)⟩
/-! operations -/
theorem OpG.mkI0 {g : Int → Int → V} {i j : Int} (hg : ∀ S H, Av S H (g i j) z) : OpG (rI0 g) (.int i) (.int j) z := fun S H v w l av aw Q q => by
  cases av
  cases aw
  exact ⟨i, j, rfl, rfl, q H _ (Same.refl _) (hg S H)⟩
theorem OpG.mkI {C : Int → Int → Prop} {g : Int → Int → V} {i j : Int} (hc : C i j) (hg : ∀ S H, Av S H (g i j) z) : OpG (rI C g) (.int i) (.int j) z := fun S H v w l av aw Q q => by
  cases av
  cases aw
  exact ⟨i, j, rfl, rfl, hc, q H _ (Same.refl _) (hg S H)⟩
theorem OpG.eqI {i j : Int} : OpG rEq (.int i) (.int j) (.bool (decide (i = j))) := fun S H v w l av aw Q q => by
  cases av
  cases aw
  refine ⟨rfl, ?_⟩
  have e : decide (V.int i = V.int j) = decide (i = j) := by
    by_cases h : i = j
    · rw [decide_eq_true h, decide_eq_true (by rw [h])]
    · rw [decide_eq_false h, decide_eq_false (fun z => h (by cases z; rfl))]
  rw [e]
  exact q H _ (Same.refl _) (.bl _)
theorem OpG.neI {i j : Int} : OpG rNe (.int i) (.int j) (.bool (!decide (i = j))) := fun S H v w l av aw Q q => by
  cases av
  cases aw
  refine ⟨rfl, ?_⟩
  have e : decide (V.int i = V.int j) = decide (i = j) := by
    by_cases h : i = j
    · rw [decide_eq_true h, decide_eq_true (by rw [h])]
    · rw [decide_eq_false h, decide_eq_false (fun z => h (by cases z; rfl))]
  rw [e]
  exact q H _ (Same.refl _) (.bl _)
theorem OpG.eqD (n1 : nd x = true) (n2 : nd y = true) (s1 : SeqAt.shaped x = true) (s2 : SeqAt.shaped y = true) : OpG (rEqD K) x y (.bool (PyData.eqv x y)) := fun S H v w l av aw Q q =>
  ⟨x, y, av.dp n1, aw.dp n2, s1, s2, q H _ (Same.refl _) (.bl _)⟩
theorem OpG.neD (n1 : nd x = true) (n2 : nd y = true) (s1 : SeqAt.shaped x = true) (s2 : SeqAt.shaped y = true) : OpG (rNeD K) x y (.bool (!PyData.eqv x y)) := fun S H v w l av aw Q q =>
  ⟨x, y, av.dp n1, aw.dp n2, s1, s2, q H _ (Same.refl _) (.bl _)⟩
theorem OpG.inD {ds : List PyData} (n1 : nd x = true) (n2 : nds ds = true) (s1 : SeqAt.shaped x = true) (s2 : SeqAt.shaped (.list ds) = true) : OpG (rInD K) x (.list ds) (.bool (ds.any fun z => PyData.eqv z x)) := fun S H v w l av aw Q q =>
  ⟨x, ds, av.dp n1, aw.dp n2, s1, s2, q H _ (Same.refl _) (.bl _)⟩
theorem OpG.notInD {ds : List PyData} (n1 : nd x = true) (n2 : nds ds = true) (s1 : SeqAt.shaped x = true) (s2 : SeqAt.shaped (.list ds) = true) : OpG (rNotInD K) x (.list ds) (.bool (!ds.any fun z => PyData.eqv z x)) := fun S H v w l av aw Q q =>
  ⟨x, ds, av.dp n1, aw.dp n2, s1, s2, q H _ (Same.refl _) (.bl _)⟩
theorem OpG.ixL {ds : List PyData} {j : Nat} (h : ds[j]? = some d) : OpG (rIxL K) (.list ds) (.int (j : Nat)) d := fun S H v w l av aw Q q => by
  cases aw
  cases av with
  | lst n e hs =>
    obtain ⟨u, hu, au⟩ := hs.put h
    exact ⟨_, _, _, u, rfl, rfl, SqL.of e, atI_nat hu, q H u (Same.refl _) au⟩
theorem OpG.ixT {ds : List PyData} {j : Nat} (h : ds[j]? = some d) : OpG (rIxT K) (.tuple ds) (.int (j : Nat)) d := fun S H v w l av aw Q q => by
  cases aw
  cases av with
  | tup n e hs =>
    obtain ⟨u, hu, au⟩ := hs.put h
    exact ⟨_, _, _, u, rfl, rfl, SqT.of e, atI_nat hu, q H u (Same.refl _) au⟩
theorem OpG.cat {xs ys : List PyData} (hz : xs.length + ys.length ≤ sizeLine) : OpG rCat (.list xs) (.list ys) (.list (xs ++ ys)) := fun S H v w l av aw Q q => by
  cases av with
  | lst n e hs =>
    cases aw with
    | lst m f ks =>
      exact ⟨_, _, _, _, rfl, rfl, e, f, by rw [hs.len, ks.len]; exact hz, fun p np => q _ _ (same_new np) (.lst (l.new np) upd_same ((hs.same (same_new np)).app (ks.same (same_new np))))⟩
/-! slices -/
theorem EvO.none : EvO tNoPart γ none := fun S H σ l e Q q => q H (Same.refl _)
theorem EvO.some {i : Int} (h : EvG te γ (.int i)) : EvO (tPart te) γ (some i) := fun S H σ l e Q q =>
  h S H σ l e _ fun H1 v s1 av => by
    cases av
    exact ⟨i, rfl, q H1 s1⟩
def cutD (ds : List PyData) (lo hi : Option Int) : List PyData := (ds.drop (HT.sIx ds.length 0 lo)).take (HT.sIx ds.length ds.length hi - HT.sIx ds.length 0 lo)
theorem EvG.slice {tl th : TO} {ds : List PyData} {lo hi : Option Int} (h : EvG te γ (.list ds)) (hl : EvO tl γ lo) (hh : EvO th γ hi) : EvG (tSl (rSlL K) te tl th) γ (.list (cutD ds lo hi)) := fun S H σ l e Q q =>
  h S H σ l e _ fun H1 v s1 av => hl S H1 σ (l.same s1) (e.same s1) _ fun H2 s2 => hh S H2 σ (l.same (s1.trans s2)) (e.same (s1.trans s2)) _ fun H3 s3 => by
    have av' := av.same (s2.trans s3)
    cases av' with
    | lst n f hs =>
      refine ⟨_, _, rfl, SqL.of f, fun p np => q _ _ ((s1.trans (s2.trans s3)).trans (same_new np)) (.lst ((l.same (s1.trans (s2.trans s3))).new np) upd_same ?_)⟩
      unfold cutV cutD
      rw [hs.len]
      exact ((hs.drop _).take _).same (same_new np)
end
end GD

set_option Elab.async false
set_option linter.all false
set_option maxRecDepth 100000
set_option maxHeartbeats 4000000
/-! Walks, comprehensions, statements, defs, told by plain data alone. -/
namespace GD
open PySem L2
def SD (S : Addr → Prop) (D : Addr) : Addr → Prop := fun X => S X ∨ X = D
section
variable {S : Addr → Prop} {K : PySem.W.Frag}
mutual
theorem Av.fresh {D : Addr} {H : Hp} (n : H D = none) : ∀ {v : V} {d : PyData}, Av S H v d → Av (SD S D) H v d
  | _, _, .non => .non
  | _, _, .bl b => .bl b
  | _, _, .int i => .int i
  | _, _, .str x => .str x
  | _, _, .lst m e h => .lst (fun z => z.elim m fun z => by rw [z, n] at e; cases e) e (Avs.fresh n h)
  | _, _, .tup m e h => .tup (fun z => z.elim m fun z => by rw [z, n] at e; cases e) e (Avs.fresh n h)
  | _, _, .dct m e => .dct (fun z => z.elim m fun z => by rw [z, n] at e; cases e) e
  | _, _, .dcT m e => .dcT (fun z => z.elim m fun z => by rw [z, n] at e; cases e) e
  | _, _, .rat m e => .rat (fun z => z.elim m fun z => by rw [z, n] at e; cases e) e
theorem Avs.fresh {D : Addr} {H : Hp} (n : H D = none) : ∀ {vs : List V} {ds : List PyData}, Avs S H vs ds → Avs (SD S D) H vs ds
  | _, _, .nil => .nil
  | _, _, .cons h r => .cons (Av.fresh n h) (Avs.fresh n r)
end
mutual
theorem Av.less {S' : Addr → Prop} {H : Hp} (hs : ∀ X, S X → S' X) : ∀ {v : V} {d : PyData}, Av S' H v d → Av S H v d
  | _, _, .non => .non
  | _, _, .bl b => .bl b
  | _, _, .int i => .int i
  | _, _, .str x => .str x
  | _, _, .lst m e h => .lst (fun z => m (hs _ z)) e (Avs.less hs h)
  | _, _, .tup m e h => .tup (fun z => m (hs _ z)) e (Avs.less hs h)
  | _, _, .dct m e => .dct (fun z => m (hs _ z)) e
  | _, _, .dcT m e => .dcT (fun z => m (hs _ z)) e
  | _, _, .rat m e => .rat (fun z => m (hs _ z)) e
theorem Avs.less {S' : Addr → Prop} {H : Hp} (hs : ∀ X, S X → S' X) : ∀ {vs : List V} {ds : List PyData}, Avs S' H vs ds → Avs S H vs ds
  | _, _, .nil => .nil
  | _, _, .cons h r => .cons (Av.less hs h) (Avs.less hs r)
end
theorem Gm.fresh {D : Addr} {H : Hp} {σ : L2.St} {γ : List (Option PyData)} (n : H D = none) (e : Gm S H σ γ) : Gm (SD S D) H σ γ := ⟨e.len, fun i d h => let ⟨v, a, b⟩ := e.at_ i d h; ⟨v, a, b.fresh n⟩⟩
/-- knows less -/
def Le (γ γ' : List (Option PyData)) : Prop := γ.length = γ'.length ∧ ∀ (i : Nat) (d : PyData), γ[i]? = some (some d) → γ'[i]? = some (some d)
theorem Le.refl (γ : List (Option PyData)) : Le γ γ := ⟨rfl, fun _ _ h => h⟩
theorem Gm.less {H : Hp} {σ : L2.St} {γ γ' : List (Option PyData)} (e : Gm S H σ γ') (h : Le γ γ') : Gm S H σ γ := ⟨e.len.trans h.1.symm, fun i d hi => e.at_ i d (h.2 i d hi)⟩
theorem Le.cons {a b : Option PyData} {γ γ' : List (Option PyData)} (h : ∀ d, a = some d → b = some d) (r : Le γ γ') : Le (a :: γ) (b :: γ') := by
  refine ⟨by rw [List.length_cons, List.length_cons, r.1], fun i d hi => ?_⟩
  cases i with
  | zero =>
    have : a = some d := by simpa using hi
    simp [h d this]
  | succ n =>
    have := r.2 n d (by simpa using hi)
    simpa using this
theorem Le.nil : Le [] [] := ⟨rfl, fun _ _ h => h⟩
/-- keeps what is known of this slot -/
theorem Le.k {a : Option PyData} {γ γ' : List (Option PyData)} (r : Le γ γ') : Le (a :: γ) (a :: γ') := .cons (fun _ h => h) r
/-- forgets it -/
theorem Le.f {b : Option PyData} {γ γ' : List (Option PyData)} (r : Le γ γ') : Le (none :: γ) (b :: γ') := .cons (fun _ h => by cases h) r
theorem set_get {σ : L2.St} {i j : Nat} {x : Option V} : (σ.set i x)[j]? = if i = j then (if i < σ.length then some x else none) else σ[j]? := by
  rw [List.getElem?_set]
theorem wipe_get {σ : L2.St} {i : Nat} : ∀ vs : List Nat, (wipe σ vs)[i]? = if i ∈ vs then (if i < σ.length then some none else none) else σ[i]?
  | [] => by simp [wipe]
  | v :: vs => by
    show ((wipe σ vs).set v none)[i]? = _
    rw [set_get, wipe_length, wipe_get vs]
    by_cases h : v = i
    · subst h
      simp
    · have h' : ¬ i = v := fun z => h z.symm
      simp [h, h']
theorem wipe_set {σ : L2.St} {j : Nat} {x : Option V} {vs : List Nat} (h : j ∈ vs) : wipe (σ.set j x) vs = wipe σ vs := by
  refine List.ext_getElem? fun i => ?_
  rw [wipe_get, wipe_get, List.length_set, set_get]
  by_cases hi : i ∈ vs
  · rw [if_pos hi, if_pos hi]
  · rw [if_neg hi, if_neg hi, if_neg (fun z : j = i => hi (z ▸ h))]
theorem wipe_wipe {σ : L2.St} {vs : List Nat} : wipe (wipe σ vs) vs = wipe σ vs := by
  refine List.ext_getElem? fun i => ?_
  rw [wipe_get, wipe_length]
  by_cases hi : i ∈ vs
  · rw [if_pos hi, wipe_get, if_pos hi]
  · rw [if_neg hi]
/-! ### what is walked -/
structure WalkG (S : Addr → Prop) (J : It) (H : Hp) (ds : List PyData) : Prop where
  go : ∀ (i : Nat) (H' : Hp), i < ds.length → Same H H' → J.go i H'
  yld : ∀ (i : Nat) (H' : Hp) (x : V) (H'' : Hp), Live S H' → Same H H' → J.yld i H' x H'' → ∃ d, (i < ds.length → ds[i]? = some d) ∧ Same H' H'' ∧ (i < ds.length → Av S H'' x d)
  stop : ∀ H', Same H H' → J.stop ds.length H'
structure WalksG (S : Addr → Prop) (J : It) (H : Hp) (ds : List PyData) : Prop where
  w : WalkG S J H ds
  d : ∀ D, H D = none → WalkG (SD S D) J H ds
theorem WalkG.list {H : Hp} {a : Addr} {xs : List V} {ds : List PyData} (e : H a = some (.lst xs)) (h : Avs S H xs ds) : WalkG S (Itl K a) H ds := by
  have hl := h.len
  refine ⟨fun i H' hi s => ⟨xs, xs[i]'(by omega), SqL.of (s _ _ e), List.getElem?_eq_getElem (by omega)⟩, fun i H' x H'' l s y => ?_, fun H' s => ⟨xs, SqL.of (s _ _ e), by omega⟩⟩
  obtain ⟨rfl, y⟩ := y
  have hx := y xs (SqL.of (s _ _ e))
  obtain ⟨d, hd, av⟩ := h.get hx
  exact ⟨d, fun _ => hd, Same.refl _, fun _ => av.same s⟩
theorem WalkG.tuple {H : Hp} {a : Addr} {xs : List V} {ds : List PyData} (e : H a = some (.tup xs)) (h : Avs S H xs ds) : WalkG S (Itt K a) H ds := by
  have hl := h.len
  refine ⟨fun i H' hi s => ⟨xs, xs[i]'(by omega), SqT.of (s _ _ e), List.getElem?_eq_getElem (by omega)⟩, fun i H' x H'' l s y => ?_, fun H' s => ⟨xs, SqT.of (s _ _ e), by omega⟩⟩
  obtain ⟨rfl, y⟩ := y
  have hx := y xs (SqT.of (s _ _ e))
  obtain ⟨d, hd, av⟩ := h.get hx
  exact ⟨d, fun _ => hd, Same.refl _, fun _ => av.same s⟩
abbrev rngD (lo : Int) (n : Nat) : List PyData := (List.range n).map fun (i : Nat) => .int (lo + (i : Int))
theorem WalkG.range {H : Hp} {lo : Int} {n : Nat} : WalkG S (Itr lo n) H (rngD lo n) := by
  refine ⟨fun i H' hi s => ?_, fun i H' x H'' l s y => ?_, fun H' s => ?_⟩
  · show i < n
    simpa [rngD] using hi
  · obtain ⟨rfl, rfl⟩ := y
    refine ⟨.int (lo + i), fun hi => ?_, Same.refl _, fun _ => .int _⟩
    have hi' : i < n := by simpa [rngD] using hi
    simp [rngD, hi']
  · show n ≤ (rngD lo n).length
    simp [rngD]
/-- a for, a comprehension walks these -/
def IterG (wi : TI) (γ : List (Option PyData)) (ds : List PyData) : Prop := ∀ S H σ, Live S H → Gm S H σ γ → ∀ R : It → Hp → Prop, (∀ H' J, Same H H' → WalksG S J H' ds → R J H') → wi σ H R
variable {γ : List (Option PyData)} {te : TE} {d x y : PyData}
theorem IterG.list {ds : List PyData} (h : EvG te γ (.list ds)) : IterG (iList K te) γ ds := fun S H σ l e R r =>
  h S H σ l e _ fun H1 v s1 av => by
    cases av with
    | lst n f hs => exact ⟨_, rfl, ⟨_, SqL.of f⟩, r H1 _ s1 ⟨.list f hs, fun D hD => .list f (hs.fresh hD)⟩⟩
theorem IterG.tuple {ds : List PyData} (h : EvG te γ (.tuple ds)) : IterG (iTup K te) γ ds := fun S H σ l e R r =>
  h S H σ l e _ fun H1 v s1 av => by
    cases av with
    | tup n f hs => exact ⟨_, rfl, ⟨_, SqT.of f⟩, r H1 _ s1 ⟨.tuple f hs, fun D hD => .tuple f (hs.fresh hD)⟩⟩
theorem IterG.orL {a b : TI} {ds : List PyData} (h : IterG a γ ds) : IterG (fun σ H R => a σ H R ∨ b σ H R) γ ds := fun S H σ l e R r => .inl (h S H σ l e R r)
theorem IterG.orR {a b : TI} {ds : List PyData} (h : IterG b γ ds) : IterG (fun σ H R => a σ H R ∨ b σ H R) γ ds := fun S H σ l e R r => .inr (h S H σ l e R r)
theorem IterG.range {ta : TA} {n : Nat} (h : EvA ta γ [.int (n : Nat)]) (hn : n < 1000000) : IterG (iRng1 ta) γ (rngD 0 n) := fun S H σ l e R r =>
  h S H σ l e _ fun H1 vs s1 av => by
    cases av with
    | cons a r' =>
      cases a
      cases r'
      refine ⟨_, rfl, by omega, by omega, ?_⟩
      rw [Int.toNat_natCast]
      exact r H1 _ s1 ⟨.range, fun _ _ => .range⟩
/-! ### targets -/
def TgG (g : TG) (js : List Nat) (d : PyData) (γ γ' : List (Option PyData)) : Prop := ∀ S H σ v, Gm S H σ γ → Av S H v d → ∀ Q : L2.St → Hp → Prop, (∀ σ', Gm S H σ' γ' → (∀ vs, (∀ j ∈ js, j ∈ vs) → wipe σ' vs = wipe σ vs) → Q σ' H) → g v σ H Q
theorem TgG.name {i : Nat} : TgG (gName i) [i] d γ (γ.set i (some d)) := fun S H σ v e av Q q => q _ (e.set i av) fun vs h => wipe_set (h i (.head _))
theorem TgG.two {i j : Nat} : TgG (gTup K 2 (gCons (gName i) (gCons (gName j) gNil))) [i, j] (.tuple [x, y]) γ ((γ.set i (some x)).set j (some y)) := fun S H σ v e av Q q => by
  cases av with
  | tup n f hs =>
    cases hs with
    | cons a r =>
      cases r with
      | cons b r' =>
        cases r'
        exact ⟨_, _, rfl, SqT.of f, rfl, _, _, rfl, _, _, rfl, rfl, q _ ((e.set i a).set j b) fun vs h => by rw [wipe_set (h j (.tail _ (.head _))), wipe_set (h i (.head _))]⟩
/-! ### comprehensions -/
theorem EvG.lc {wi : TI} {g : TG} {tt : TT} {vs : List Nat} {ds : List PyData} (f : PyData → Bool) (m : PyData → PyData) (hi : IterG wi γ ds) (hz : ds.length < 1000000)
    (step : ∀ (i : Nat) (d : PyData), ds[i]? = some d → ∃ js γ2, TgG g js d (wipeG γ vs) γ2 ∧ (∀ j ∈ js, j ∈ vs) ∧ EvB tt γ2 (f d) ∧ (f d = true → EvG te γ2 (m d))) : EvG (tLc wi g tt te vs) γ (.list ((ds.filter f).map m)) := fun S H σ l e Q q =>
  hi S H σ l e _ fun H1 J s1 wk D hD => by
    have W := wk.d D hD
    have sD : Same H1 (upd H1 D (.lst [])) := same_new hD
    have nD : ¬ S D := (l.same s1).new hD
    refine ⟨fun i k H' => k = ds.length - i ∧ i ≤ ds.length ∧ Same H1 H' ∧ ∃ acc, H' D = some (.lst acc) ∧ Avs (SD S D) H' acc (((ds.take i).filter f).map m), ⟨_, rfl, Nat.zero_le _, sD, [], upd_same, .nil⟩, ?_⟩
    rintro i k H' ⟨rfl, hi', ss, acc, hacc, av⟩
    by_cases hlt : i < ds.length
    · refine .inr ⟨W.go i H' hlt ss, fun H3 => i + 1 ≤ ds.length ∧ Same H1 H3 ∧ ∃ acc, H3 D = some (.lst acc) ∧ Avs (SD S D) H3 acc (((ds.take (i + 1)).filter f).map m), fun H3 p => ⟨_, by omega, rfl, p⟩, fun x H'' y => ?_⟩
      have lv : Live (SD S D) H' := fun X hX => hX.elim (fun h => (l.same (s1.trans ss)) X h) fun h => by
        rw [h, hacc]
        intro z
        cases z
      obtain ⟨d, hd, s2, ax⟩ := W.yld i H' x H'' lv ss y
      have hd := hd hlt
      have ax := ax hlt
      obtain ⟨js, γ2, tg, hjs, hb, ht⟩ := step i d hd
      have e2 : Gm (SD S D) H'' σ γ := (((e.same s1).fresh hD).same ss).same s2
      refine tg (SD S D) H'' (wipe σ vs) x (e2.wipe vs) ax _ fun σ2 e3 hw => ⟨by rw [hw vs hjs, wipe_wipe], ?_⟩
      refine hb (SD S D) H'' σ2 (lv.same s2) e3 _ fun H3 s3 => ?_
      have tk : ds.take (i + 1) = ds.take i ++ [d] := by
        rw [List.take_succ, hd]
        rfl
      by_cases hf : f d = true
      · rw [if_pos hf]
        refine ht hf (SD S D) H3 σ2 (lv.same (s2.trans s3)) (e3.same s3) _ fun H4 v s4 ay => ?_
        have hacc4 := s4 _ _ (s3 _ _ (s2 _ _ hacc))
        have av4 := av.same (s2.trans (s3.trans s4))
        have hla := av.len
        have hlt' : acc.length < 1000000 := by
          rw [hla, List.length_map]
          have h1 := List.length_filter_le f (ds.take i)
          have h2 := List.length_take_le i ds
          omega
        refine ⟨acc, hacc4, Nat.lt_of_lt_of_le hlt' (by decide), hlt, ?_, acc ++ [v], upd_same, ?_⟩
        · intro b o hb'
          have n : b ≠ D := ne_of_none hb' hD
          rw [upd_ne n]
          exact s4 _ _ (s3 _ _ (s2 _ _ (ss _ _ hb')))
        · rw [tk, List.filter_append, List.map_append, List.filter_cons_of_pos hf, List.filter_nil]
          have kp : Kp (SD S D) H4 (upd H4 D (.lst (acc ++ [v]))) := fun b o n hb' => by
            rw [upd_ne (fun z => n (.inr z))]
            exact hb'
          exact (av4.app (.cons ay .nil)).keep kp
      · rw [if_neg hf]
        refine ⟨hlt, ss.trans (s2.trans s3), acc, s3 _ _ (s2 _ _ hacc), ?_⟩
        rw [tk, List.filter_append, List.filter_cons_of_neg hf, List.filter_nil, List.append_nil]
        exact av.same (s2.trans s3)
    · have e' : i = ds.length := by omega
      subst e'
      refine .inl ⟨W.stop H' ss, q H' (.ref D) (s1.trans ss) ?_⟩
      rw [List.take_length] at av
      exact .lst nD hacc (av.less fun X h => .inl h)
/-! ### statements -/
inductive Out where
  | nx (γ : List (Option PyData))
  | rt (d : PyData)
  | ct (γ : List (Option PyData))
def Out.post (S : Addr → Prop) (H : Hp) (D : Ends) : Out → Prop
  | .nx γ => ∀ σ' H', Same H H' → Gm S H' σ' γ → D.nx σ' H'
  | .rt d => ∀ v H', Same H H' → Av S H' v d → D.rt v H'
  | .ct γ => ∀ σ' H', Same H H' → Gm S H' σ' γ → D.ct σ' H'
theorem Out.post.same {H H' : Hp} {D : Ends} {o : Out} (h : o.post S H D) (s : Same H H') : o.post S H' D := by
  cases o with
  | nx γ => exact fun σ' H2 s2 e => h σ' H2 (s.trans s2) e
  | rt d => exact fun v H2 s2 e => h v H2 (s.trans s2) e
  | ct γ => exact fun σ' H2 s2 e => h σ' H2 (s.trans s2) e
def StG (ts : TS) (γ : List (Option PyData)) (o : Out) : Prop := ∀ S H σ D, Live S H → Gm S H σ γ → o.post S H D → ts D σ H
variable {t u : TS} {o : Out} {γ1 γ2 : List (Option PyData)}
theorem StG.seq (h1 : StG t γ (.nx γ1)) (h2 : StG u γ1 o) : StG (tSeq t u) γ o := fun S H σ D l e p =>
  h1 S H σ _ l e fun σ' H' s e' => h2 S H' σ' D (l.same s) e' (p.same s)
theorem StG.seq_rt (h1 : StG t γ (.rt d)) : StG (tSeq t u) γ (.rt d) := fun S H σ D l e p => h1 S H σ _ l e p
theorem StG.seq_ct (h1 : StG t γ (.ct γ1)) : StG (tSeq t u) γ (.ct γ1) := fun S H σ D l e p => h1 S H σ _ l e p
theorem StG.asg {g : TG} {js : List Nat} (h : EvG te γ d) (tg : TgG g js d γ γ1) : StG (tAsg te g) γ (.nx γ1) := fun S H σ D l e p =>
  h S H σ l e _ fun H1 v s1 av => tg S H1 σ v (e.same s1) av _ fun σ' e' _ => p σ' H1 s1 e'
theorem StG.set {i : Nat} (h : EvG te γ d) : StG (tAsg te (gName i)) γ (.nx (γ.set i (some d))) := .asg h .name
theorem StG.ret (h : EvG te γ d) : StG (tRet te) γ (.rt d) := fun S H σ D l e p => h S H σ l e _ fun H1 v s1 av => p v H1 s1 av
theorem StG.next : StG tNext γ (.nx γ) := fun S H σ D l e p => p σ H (Same.refl _) e
theorem StG.drop (h : EvG te γ d) : StG (tDrop te) γ (.nx γ) := fun S H σ D l e p => h S H σ l e _ fun H1 v s1 av => p σ H1 s1 (e.same s1)
theorem StG.cont : StG tCont γ (.ct γ) := fun S H σ D l e p => p σ H (Same.refl _) e
theorem StG.ifT {tt : TT} (hc : EvB tt γ true) (h : StG t γ o) : StG (tIfS tt t u) γ o := fun S H σ D l e p =>
  hc S H σ l e _ fun H1 s1 => by
    rw [if_pos rfl]
    exact h S H1 σ D (l.same s1) (e.same s1) (p.same s1)
theorem StG.ifF {tt : TT} (hc : EvB tt γ false) (h : StG u γ o) : StG (tIfS tt t u) γ o := fun S H σ D l e p =>
  hc S H σ l e _ fun H1 s1 => by
    rw [if_neg Bool.false_ne_true]
    exact h S H1 σ D (l.same s1) (e.same s1) (p.same s1)
theorem StG.iff {tt : TT} {b : Bool} (hc : EvB tt γ b) (h1 : b = true → StG t γ o) (h2 : b = false → StG u γ o) : StG (tIfS tt t u) γ o := by
  cases b with
  | true => exact .ifT hc (h1 rfl)
  | false => exact .ifF hc (h2 rfl)
theorem StG.par {i j : Nat} {ta : TA} (h : EvA ta γ [x, y]) : StG (tPar i j ta) γ (.nx ((γ.set i (some x)).set j (some y))) := fun S H σ D l e p =>
  h S H σ l e _ fun H1 vs s1 av => by
    cases av with
    | cons a r =>
      cases r with
      | cons b r' =>
        cases r'
        exact ⟨_, _, rfl, p _ H1 s1 (((e.same s1).set i a).set j b)⟩
theorem StG.less (h : StG t γ (.nx γ1)) (hl : Le γ2 γ1) : StG t γ (.nx γ2) := fun S H σ D l e p => h S H σ D l e fun σ' H' s e' => p σ' H' s (e'.less hl)
theorem StG.lessCt (h : StG t γ (.ct γ1)) (hl : Le γ2 γ1) : StG t γ (.ct γ2) := fun S H σ D l e p => h S H σ D l e fun σ' H' s e' => p σ' H' s (e'.less hl)
theorem StG.from_ (h : StG t γ2 o) (hl : Le γ2 γ) : StG t γ o := fun S H σ D l e p => h S H σ D l (e.less hl) p
theorem StG.for_ {wi : TI} {g : TG} {tb : TS} {ds : List PyData} (hi : IterG wi γ ds) (Γ : Nat → List (Option PyData)) (h0 : Le (Γ 0) γ)
    (step : ∀ (i : Nat) (d : PyData), ds[i]? = some d → ∃ js γ1, TgG g js d (Γ i) γ1 ∧ (StG tb γ1 (.nx (Γ (i + 1))) ∨ StG tb γ1 (.ct (Γ (i + 1))))) : StG (tFor wi g tb) γ (.nx (Γ ds.length)) := fun S H σ D l e p =>
  hi S H σ l e _ fun H1 J s1 wk => by
    refine ⟨fun i k σ' H' => k = ds.length - i ∧ i ≤ ds.length ∧ Same H1 H' ∧ Gm S H' σ' (Γ i), ⟨_, rfl, Nat.zero_le _, Same.refl _, (e.same s1).less h0⟩, ?_⟩
    rintro i k σ' H' ⟨rfl, hi', ss, e'⟩
    have lv := l.same (s1.trans ss)
    by_cases hlt : i < ds.length
    · refine .inr ⟨wk.w.go i H' hlt ss, fun σ3 H3 => i + 1 ≤ ds.length ∧ Same H1 H3 ∧ Gm S H3 σ3 (Γ (i + 1)), fun σ3 H3 q => ⟨_, by omega, rfl, q⟩, fun x H'' y => ?_⟩
      obtain ⟨d, hd, s2, ax⟩ := wk.w.yld i H' x H'' lv ss y
      obtain ⟨js, γ1, tg, hst⟩ := step i d (hd hlt)
      refine tg S H'' σ' x (e'.same s2) (ax hlt) _ fun σ2 e2 _ => ?_
      rcases hst with hst | hst
      · exact hst S H'' σ2 _ (lv.same s2) e2 fun σ3 H3 s3 e3 => ⟨hlt, ss.trans (s2.trans s3), e3⟩
      · exact hst S H'' σ2 _ (lv.same s2) e2 fun σ3 H3 s3 e3 => ⟨hlt, ss.trans (s2.trans s3), e3⟩
    · have e2 : i = ds.length := by omega
      subst e2
      exact .inl ⟨wk.w.stop H' ss, p σ' H' (s1.trans ss) e'⟩
theorem StG.for_rt {wi : TI} {g : TG} {tb : TS} {ds : List PyData} {r : PyData} (hi : IterG wi γ ds) (Γ : Nat → List (Option PyData)) (h0 : Le (Γ 0) γ) (k : Nat) (hk : k < ds.length)
    (step : ∀ (i : Nat) (d : PyData), i < k → ds[i]? = some d → ∃ js γ1, TgG g js d (Γ i) γ1 ∧ (StG tb γ1 (.nx (Γ (i + 1))) ∨ StG tb γ1 (.ct (Γ (i + 1)))))
    (hit : ∀ d, ds[k]? = some d → ∃ js γ1, TgG g js d (Γ k) γ1 ∧ StG tb γ1 (.rt r)) : StG (tFor wi g tb) γ (.rt r) := fun S H σ D l e p =>
  hi S H σ l e _ fun H1 J s1 wk => by
    refine ⟨fun i n σ' H' => n = ds.length - i ∧ i ≤ k ∧ Same H1 H' ∧ Gm S H' σ' (Γ i), ⟨_, rfl, Nat.zero_le _, Same.refl _, (e.same s1).less h0⟩, ?_⟩
    rintro i n σ' H' ⟨rfl, hi', ss, e'⟩
    have lv := l.same (s1.trans ss)
    have hlt : i < ds.length := by omega
    refine .inr ⟨wk.w.go i H' hlt ss, fun σ3 H3 => i < k ∧ Same H1 H3 ∧ Gm S H3 σ3 (Γ (i + 1)), fun σ3 H3 q => ⟨ds.length - (i + 1), by omega, rfl, q⟩, fun x H'' y => ?_⟩
    obtain ⟨d, hd, s2, ax⟩ := wk.w.yld i H' x H'' lv ss y
    by_cases hik : i < k
    · obtain ⟨js, γ1, tg, hst⟩ := step i d hik (hd hlt)
      refine tg S H'' σ' x (e'.same s2) (ax hlt) _ fun σ2 e2 _ => ?_
      rcases hst with hst | hst
      · exact hst S H'' σ2 _ (lv.same s2) e2 fun σ3 H3 s3 e3 => ⟨hik, ss.trans (s2.trans s3), e3⟩
      · exact hst S H'' σ2 _ (lv.same s2) e2 fun σ3 H3 s3 e3 => ⟨hik, ss.trans (s2.trans s3), e3⟩
    · have e2 : i = k := by omega
      subst e2
      obtain ⟨js, γ1, tg, hst⟩ := hit d (hd hlt)
      refine tg S H'' σ' x (e'.same s2) (ax hlt) _ fun σ2 e2 _ => ?_
      exact hst S H'' σ2 _ (lv.same s2) e2 fun v H3 s3 av => p v H3 (s1.trans (ss.trans (s2.trans s3))) av
/-! ### defs -/
structure SpG (F : List PyData → PyData → Prop) (vs : List V) (H : Hp) (Q : VK) (E : XK) : Prop where
  ex : ∃ S ds r, Live S H ∧ Avs S H vs ds ∧ F ds r ∧ ∀ H' v, Same H H' → Av S H' v r → Q v H'
theorem SpG.len {F : List PyData → PyData → Prop} {vs : List V} {H : Hp} {Q : VK} {E : XK} {n : Nat} (h : SpG F vs H Q E) (hn : ∀ ds r, F ds r → ds.length = n) : vs.length = n := by
  obtain ⟨S, ds, r, _, av, f, _⟩ := h
  rw [av.len, hn ds r f]
theorem SpG.body {F : List PyData → PyData → Prop} {vs : List V} {H : Hp} {Q : VK} {E : XK} {N : List Str} {nx : L2.St → Hp → Prop} (h : SpG F vs H Q E) (hb : ∀ ds r, F ds r → StG t (ds.map some ++ List.replicate (N.length - ds.length) none) (.rt r)) : t { nx := nx, rt := Q } (start N vs) H := by
  obtain ⟨S, ds, r, l, av, f, k⟩ := h
  exact hb ds r f S H _ _ l (Gm.start av) fun v H' s a => k H' v s a
/-- a def whose body ends without a return -/
theorem SpG.body0 {F : List PyData → PyData → Prop} {vs : List V} {H : Hp} {Q : VK} {E : XK} {N : List Str} (h : SpG F vs H Q E) (hb : ∀ ds r, F ds r → r = .none ∧ ∃ γ1, StG t (ds.map some ++ List.replicate (N.length - ds.length) none) (.nx γ1)) : t { nx := fun _ H' => Q .non H', rt := Q } (start N vs) H := by
  obtain ⟨S, ds, r, l, av, f, k⟩ := h
  obtain ⟨rfl, γ1, hb⟩ := hb ds r f
  exact hb S H _ _ l (Gm.start av) fun σ' H' s a => k H' .non s .non
theorem EvG.call {F : List PyData → PyData → Prop} {ta : TA} {ds : List PyData} {r : PyData} {E : XK} (h : EvA ta γ ds) (hF : F ds r) : EvG (tCall (SpG F) [] E ta) γ r := fun S H σ l e Q q =>
  h S H σ l e _ fun H1 vs s1 av => by
    rw [List.append_nil]
    exact ⟨S, ds, r, l.same s1, av, hF, fun H' v s a => q H' v (s1.trans s) a⟩
/-- one promise out of several, by a number -/
theorem fn_any {P : Program} {w : World} {mg : Str → Option Value} {base : Heap} {k m : Nat} {f : Addr} {fd : FuncData} {ps : List Str} {F : Nat → List PyData → PyData → Prop} (h : ∀ n, n ≤ m → FnOk P w K mg base CX0 k f fd ps (SpG (F n))) : FnOk P w K mg base CX0 k f fd ps (SpG fun ds r => ∃ n, n ≤ m ∧ F n ds r) := by
  refine ⟨fun vs H Q E q => ?_, fun A outer s H args us vs Q E hr he hb hv q => ?_⟩
  · obtain ⟨S, ds, r, l, av, ⟨n, hn, hf⟩, kk⟩ := q
    exact (h n hn).len vs H Q E ⟨S, ds, r, l, av, hf, kk⟩
  · obtain ⟨S, ds, r, l, av, ⟨n, hn, hf⟩, kk⟩ := q
    exact (h n hn).run A outer s H args us vs Q E hr he hb hv ⟨S, ds, r, l, av, hf, kk⟩
theorem u65 {k : Nat} {A : Around} (r : Room k A) : A.units + 65 < cLine := by
  have := r.un
  omega
end
end GD

set_option Elab.async false
set_option linter.all false
set_option maxRecDepth 100000
set_option maxHeartbeats 4000000
/-! Built-ins, told by plain data alone. -/
namespace GD
open PySem L2
section
variable {γ : List (Option PyData)} {K : PySem.W.Frag} {te ta tb tc : TE} {tt tu : TT} {d x y z : PyData}
/-! ### isinstance -/
def tyD : PyData → String
  | .none => "NoneType"
  | .bool _ => "bool"
  | .int _ => "int"
  | .str _ => "str"
  | .list _ => "list"
  | .tuple _ => "tuple"
  | .dict _ => "dict"
def ownD : PyData → Bool
  | .dict ((.none, _) :: _) => true
  | _ => false
theorem Av.ty {S : Addr → Prop} {H : Hp} {v : V} (h : Av S H v d) (ho : ownD d = false) : TyX K H v (.type (tyD d)) := by
  cases h with
  | non => exact .base .non
  | bl b => exact .base (.bl b)
  | int i => exact .base (.int i)
  | str s => exact .base (.str s)
  | lst n e _ => exact .base (.lst e)
  | tup n e _ => exact .base (.tup e)
  | dct n e => exact .base (.dK e)
  | dcT n e => exact .base (.dT e)
  | rat n e => cases ho
theorem EvG.isi {T : String} {b : Bool} (h : EvG te γ d) (hk : kitB (tyD d) T = some b) (ho : ownD d = false := by rfl) : EvG (tCB (rIsi K) (tCons te (tCons (tC (.ty T)) tNil))) γ (.bool b) := fun S H σ l e Q q =>
  h S H σ l e _ fun H1 v s1 av => ⟨v, .ty T, _, _, b, rfl, .ty T, av.ty ho, kit_ty hk, q H1 _ s1 (.bl b)⟩
theorem EvG.isiT {T U : String} {b : Bool} (h : EvG te γ d) (hk : ∀ K : PySem.W.Frag, PySem.W.kitAny K (.type (tyD d)) [.type T, .type U] = some b) (ho : ownD d = false := by rfl) : EvG (tCB (rIsiT K) (tCons te (tCons (tTup (tCons (tC (.ty T)) (tCons (tC (.ty U)) tNil))) tNil))) γ (.bool b) := fun S H σ l e Q q =>
  h S H σ l e _ fun H1 v s1 av => ⟨by show 2 ≤ sizeLine; decide, fun p np => ⟨v, p, _, _, _, b, rfl, upd_same, .cons (.ty T) (.cons (.ty U) .nil), (av.same (same_new np)).ty ho, hk K, q _ _ (s1.trans (same_new np)) (.bl b)⟩⟩
theorem kb_ii : kitB "int" "int" = some true := by decide +kernel
theorem kb_ib : kitB "int" "bool" = some false := by decide +kernel
theorem kb_ll : kitB "list" "list" = some true := by decide +kernel
theorem kb_lt : kitB "list" "tuple" = some false := by decide +kernel
theorem kb_tl : kitB "tuple" "list" = some false := by decide +kernel
theorem kb_tt : kitB "tuple" "tuple" = some true := by decide +kernel
/-! ### len, all, max, min -/
/-- len, as its rule asks -/
def rLn (K : PySem.W.Frag) : List V → Hp → VK → Prop := fun xs H Q => ∃ p ys, xs = [.ref p] ∧ (SqL K H p ys ∨ SqT K H p ys) ∧ Q (.int ys.length) H
theorem CbG.len {ds : List PyData} : CbG (rLn K) [.list ds] (.int (ds.length : Nat)) := fun S H vs l av Q q => by
  cases av with
  | cons a r =>
    cases r
    cases a with
    | lst n e hs =>
      refine ⟨_, _, rfl, .inl (SqL.of e), ?_⟩
      rw [hs.len]
      exact q H _ (Same.refl _) (.int _)
theorem CbG.lenT {ds : List PyData} : CbG (rLn K) [.tuple ds] (.int (ds.length : Nat)) := fun S H vs l av Q q => by
  cases av with
  | cons a r =>
    cases r
    cases a with
    | tup n e hs =>
      refine ⟨_, _, rfl, .inr (SqT.of e), ?_⟩
      rw [hs.len]
      exact q H _ (Same.refl _) (.int _)
theorem EvG.len {ds : List PyData} (h : EvG te γ (.list ds)) : EvG (tCB (rLn K) (tCons te tNil)) γ (.int (ds.length : Nat)) := .cb (.cons h .nil) .len
theorem EvG.lenT {ds : List PyData} (h : EvG te γ (.tuple ds)) : EvG (tCB (rLn K) (tCons te tNil)) γ (.int (ds.length : Nat)) := .cb (.cons h .nil) .lenT
theorem OpG.le {i j : Int} : OpG (rI0 fun i j => .bl (decide (i ≤ j))) (.int i) (.int j) (.bool (decide (i ≤ j))) := .mkI0 fun _ _ => .bl _
theorem OpG.lt {i j : Int} : OpG (rI0 fun i j => .bl (decide (i < j))) (.int i) (.int j) (.bool (decide (i < j))) := .mkI0 fun _ _ => .bl _
theorem OpG.gt {i j : Int} : OpG (rI0 fun i j => .bl (decide (j < i))) (.int i) (.int j) (.bool (decide (j < i))) := .mkI0 fun _ _ => .bl _
theorem OpG.ge {i j : Int} : OpG (rI0 fun i j => .bl (decide (j ≤ i))) (.int i) (.int j) (.bool (decide (j ≤ i))) := .mkI0 fun _ _ => .bl _
theorem OpG.add {i j : Int} : OpG (rI0 fun i j => .int (i + j)) (.int i) (.int j) (.int (i + j)) := .mkI0 fun _ _ => .int _
theorem OpG.sub {i j : Int} : OpG (rI0 fun i j => .int (i - j)) (.int i) (.int j) (.int (i - j)) := .mkI0 fun _ _ => .int _
theorem EvB.tst {b : Bool} (h : EvG te γ (.bool b)) : EvB (tTest te) γ b := fun S H σ l e Q q =>
  h S H σ l e _ fun H1 v s1 av => by
    cases av
    exact ⟨b, rfl, q H1 s1⟩
theorem EvG.chain {r r' : R2} {a b : Bool} (h1 : EvG ta γ x) (h2 : EvG tb γ y) (h3 : EvG tc γ z) (o1 : OpG r x y (.bool a)) (o2 : OpG r' y z (.bool b)) : EvG (tChain r r' ta tb tc) γ (.bool (a && b)) := fun S H σ l e Q q =>
  h1 S H σ l e _ fun H1 v s1 av => h2 S H1 σ (l.same s1) (e.same s1) _ fun H2 w s2 aw => o1 S H2 v w (l.same (s1.trans s2)) (av.same s2) aw _ fun H3 u s3 au => by
    cases au
    refine ⟨a, rfl, ?_⟩
    have s13 := s1.trans (s2.trans s3)
    cases a with
    | true =>
      rw [if_pos rfl]
      exact h3 S H3 σ (l.same s13) (e.same s13) _ fun H4 v4 s4 a4 => o2 S H4 w v4 (l.same (s13.trans s4)) (aw.same (s3.trans s4)) a4 _ fun H5 u5 s5 a5 => q H5 u5 (s13.trans (s4.trans s5)) a5
    | false =>
      rw [if_neg Bool.false_ne_true]
      exact q H3 _ s13 (.bl false)
theorem bools_of {S : Addr → Prop} {H : Hp} : ∀ {vs : List V} {bs : List Bool}, Avs S H vs (bs.map PyData.bool) → vs = bs.map V.bl
  | _, [], .nil => rfl
  | _, b :: bs, .cons a r => by
    cases a
    rw [bools_of r]
    rfl
theorem CbG.all {bs : List Bool} : CbG (rAll K) [.list (bs.map PyData.bool)] (.bool (bs.all id)) := fun S H vs l av Q q => by
  cases av with
  | cons a r =>
    cases r
    cases a with
    | lst n e hs =>
      have := bools_of hs
      subst this
      exact ⟨_, bs, rfl, SqL.of e, q H _ (Same.refl _) (.bl _)⟩
theorem EvG.all {bs : List Bool} (h : EvG te γ (.list (bs.map PyData.bool))) : EvG (tCB (rAll K) (tCons te tNil)) γ (.bool (bs.all id)) := .cb (.cons h .nil) .all
/-! ### either of two readings -/
theorem EvG.orL {t u : TE} (h : EvG t γ d) : EvG (fun σ H Q => t σ H Q ∨ u σ H Q) γ d := fun S H σ l e Q q => .inl (h S H σ l e Q q)
theorem EvG.orR {t u : TE} (h : EvG u γ d) : EvG (fun σ H Q => t σ H Q ∨ u σ H Q) γ d := fun S H σ l e Q q => .inr (h S H σ l e Q q)
end
end GD

set_option Elab.async false
set_option linter.all false
set_option maxRecDepth 100000
set_option maxHeartbeats 4000000
/-! Further built-ins by plain data: all over a comprehension, zip, slices of tuples, order of tuples, whole numbers in lists. -/
namespace GD
open PySem L2
section
variable {γ : List (Option PyData)} {K : PySem.W.Frag} {te ta tb tc : TE} {tt tu : TT} {d x y z : PyData} {S : Addr → Prop}
theorem EvB.yes : EvB tYes γ true := fun S H σ l e Q q => q H (Same.refl _)
/-- [e for x in it] -/
theorem EvG.map {wi : TI} {g : TG} {vs : List Nat} {ds : List PyData} (m : PyData → PyData) (hi : IterG wi γ ds) (hz : ds.length < 1000000)
    (step : ∀ (i : Nat) (d : PyData), ds[i]? = some d → ∃ js γ2, TgG g js d (wipeG γ vs) γ2 ∧ (∀ j ∈ js, j ∈ vs) ∧ EvG te γ2 (m d)) : EvG (tLc wi g tYes te vs) γ (.list (ds.map m)) := by
  have h := EvG.lc (te := te) (tt := tYes) (g := g) (vs := vs) (fun _ => true) m hi hz fun i d hd => by
    obtain ⟨js, γ2, h1, h2, h3⟩ := step i d hd
    exact ⟨js, γ2, h1, h2, .yes, fun _ => h3⟩
  rw [List.filter_eq_self.mpr fun _ _ => rfl] at h
  exact h
/-- [e for x in it], by what the items were made of -/
theorem EvG.mapX {α : Type} (enc out : α → PyData) {wi : TI} {g : TG} {vs : List Nat} {zs : List α} (hi : IterG wi γ (zs.map enc)) (hz : zs.length < 1000000)
    (step : ∀ z ∈ zs, ∃ js γ2, TgG g js (enc z) (wipeG γ vs) γ2 ∧ (∀ j ∈ js, j ∈ vs) ∧ EvG te γ2 (out z)) : EvG (tLc wi g tYes te vs) γ (.list (zs.map out)) := fun S H σ l e Q q =>
  hi S H σ l e _ fun H1 J s1 wk D hD => by
    have W := wk.d D hD
    have hlen : (zs.map enc).length = zs.length := List.length_map ..
    have nD : ¬ S D := (l.same s1).new hD
    refine ⟨fun i k H' => k = zs.length - i ∧ i ≤ zs.length ∧ Same H1 H' ∧ ∃ acc, H' D = some (.lst acc) ∧ Avs (SD S D) H' acc ((zs.take i).map out), ⟨_, rfl, Nat.zero_le _, same_new hD, [], upd_same, .nil⟩, ?_⟩
    rintro i k H' ⟨rfl, hi', ss, acc, hacc, av⟩
    by_cases hlt : i < zs.length
    · refine .inr ⟨W.go i H' (by omega) ss, fun H3 => i + 1 ≤ zs.length ∧ Same H1 H3 ∧ ∃ acc, H3 D = some (.lst acc) ∧ Avs (SD S D) H3 acc ((zs.take (i + 1)).map out), fun H3 p => ⟨_, by omega, rfl, p⟩, fun x H'' y => ?_⟩
      have lv : Live (SD S D) H' := fun X hX => hX.elim (fun h => (l.same (s1.trans ss)) X h) fun h => by
        rw [h, hacc]
        intro z
        cases z
      obtain ⟨d, hd, s2, ax⟩ := W.yld i H' x H'' lv ss y
      have hd := hd (by omega)
      have ax := ax (by omega)
      have hzi : zs[i]? = some (zs[i]'hlt) := List.getElem?_eq_getElem hlt
      rw [List.getElem?_map, hzi] at hd
      cases hd
      obtain ⟨js, γ2, tg, hjs, ht⟩ := step (zs[i]'hlt) (List.getElem_mem hlt)
      have e2 : Gm (SD S D) H'' σ γ := (((e.same s1).fresh hD).same ss).same s2
      refine tg (SD S D) H'' (wipe σ vs) x (e2.wipe vs) ax _ fun σ2 e3 hw => ⟨by rw [hw vs hjs, wipe_wipe], ?_⟩
      refine EvB.yes (γ := γ2) (SD S D) H'' σ2 (lv.same s2) e3 _ fun H3 s3 => ?_
      rw [if_pos rfl]
      refine ht (SD S D) H3 σ2 ((lv.same s2).same s3) (e3.same s3) _ fun H4 v s4 ay => ?_
      have hacc4 := s4 _ _ (s3 _ _ (s2 _ _ hacc))
      have av4 := av.same (s2.trans (s3.trans s4))
      have hlt' : acc.length < 1000000 := by
        rw [av4.len, List.length_map, List.length_take]
        omega
      refine ⟨acc, hacc4, Nat.lt_of_lt_of_le hlt' (by decide), hlt, fun b o hb' => ?_, acc ++ [v], upd_same, ?_⟩
      · rw [upd_ne (ne_of_none hb' hD)]
        exact s4 _ _ (s3 _ _ (s2 _ _ (ss _ _ hb')))
      · have tk : zs.take (i + 1) = zs.take i ++ [zs[i]'hlt] := by
          rw [List.take_succ, hzi]
          rfl
        rw [tk, List.map_append]
        have kp : Kp (SD S D) H4 (upd H4 D (.lst (acc ++ [v]))) := fun b o n hb' => by
          rw [upd_ne (fun z => n (.inr z))]
          exact hb'
        exact (av4.app (.cons ay .nil)).keep kp
    · have e' : i = zs.length := by omega
      subst e'
      refine .inl ⟨by have := W.stop H' ss; rw [hlen] at this; exact this, q H' (.ref D) (s1.trans ss) ?_⟩
      rw [List.take_length] at av
      exact .lst nD hacc (av.less fun X h => .inl h)
/-- all([e for x in it]) -/
theorem EvG.allLc {wi : TI} {g : TG} {vs : List Nat} {ds : List PyData} (p : PyData → Bool) (hi : IterG wi γ ds) (hz : ds.length < 1000000)
    (step : ∀ (i : Nat) (d : PyData), ds[i]? = some d → ∃ js γ2, TgG g js d (wipeG γ vs) γ2 ∧ (∀ j ∈ js, j ∈ vs) ∧ EvG te γ2 (.bool (p d))) : EvG (tCB (rAll K) (tCons (tLc wi g tYes te vs) tNil)) γ (.bool (ds.all p)) := by
  have h := EvG.map (te := te) (g := g) (vs := vs) (fun d => .bool (p d)) hi hz step
  have e : ds.map (fun d => PyData.bool (p d)) = (ds.map p).map PyData.bool := by rw [List.map_map]; rfl
  rw [e] at h
  have h2 := EvG.all (K := K) h
  rw [List.all_map] at h2
  exact h2
/-! ### zip -/
theorem getZip {ds es : List PyData} {i : Nat} : (List.zipWith (fun d e => PyData.tuple [d, e]) ds es)[i]? = match ds[i]?, es[i]? with | some a, some b => some (.tuple [a, b]) | _, _ => none := by
  rw [List.getElem?_zipWith]
  cases ds[i]? <;> cases es[i]? <;> rfl
theorem WalkG.zip {H : Hp} {a b : Addr} {xs ys : List V} {ds es : List PyData} (e : H a = some (.lst xs)) (f : H b = some (.lst ys)) (h : Avs S H xs ds) (k : Avs S H ys es) : WalkG S (Itz K a b) H (List.zipWith (fun d e => PyData.tuple [d, e]) ds es) := by
  have hl := h.len
  have kl := k.len
  have zl : (List.zipWith (fun d e => PyData.tuple [d, e]) ds es).length = min ds.length es.length := List.length_zipWith ..
  refine ⟨fun i H' hi s => ⟨xs, ys, xs[i]'(by omega), ys[i]'(by omega), SqL.of (s _ _ e), SqL.of (s _ _ f), List.getElem?_eq_getElem (by omega), List.getElem?_eq_getElem (by omega)⟩, fun i H' v H'' l s y => ?_, fun H' s => ⟨xs, ys, SqL.of (s _ _ e), SqL.of (s _ _ f), by omega⟩⟩
  obtain ⟨T, x, y', rfl, nT, rfl, y1, y2⟩ := y
  obtain ⟨c, hc, ac⟩ := h.get (y1 xs (SqL.of (s _ _ e)))
  obtain ⟨d, hd, ad⟩ := k.get (y2 ys (SqL.of (s _ _ f)))
  refine ⟨.tuple [c, d], fun _ => by rw [getZip, hc, hd], same_new nT, fun _ => .tup (l.new nT) upd_same (.cons ((ac.same s).same (same_new nT)) (.cons ((ad.same s).same (same_new nT)) .nil))⟩
theorem WalkG.zipT {H : Hp} {a b : Addr} {xs ys : List V} {ds es : List PyData} (e : H a = some (.tup xs)) (f : H b = some (.tup ys)) (h : Avs S H xs ds) (k : Avs S H ys es) : WalkG S (RZ.ItzT K a b) H (List.zipWith (fun d e => PyData.tuple [d, e]) ds es) := by
  have hl := h.len
  have kl := k.len
  have zl : (List.zipWith (fun d e => PyData.tuple [d, e]) ds es).length = min ds.length es.length := List.length_zipWith ..
  refine ⟨fun i H' hi s => ⟨xs, ys, xs[i]'(by omega), ys[i]'(by omega), SqT.of (s _ _ e), SqT.of (s _ _ f), List.getElem?_eq_getElem (by omega), List.getElem?_eq_getElem (by omega)⟩, fun i H' v H'' l s y => ?_, fun H' s => ⟨xs, ys, SqT.of (s _ _ e), SqT.of (s _ _ f), by omega⟩⟩
  obtain ⟨T, x, y', rfl, nT, rfl, y1, y2⟩ := y
  obtain ⟨c, hc, ac⟩ := h.get (y1 xs (SqT.of (s _ _ e)))
  obtain ⟨d, hd, ad⟩ := k.get (y2 ys (SqT.of (s _ _ f)))
  refine ⟨.tuple [c, d], fun _ => by rw [getZip, hc, hd], same_new nT, fun _ => .tup (l.new nT) upd_same (.cons ((ac.same s).same (same_new nT)) (.cons ((ad.same s).same (same_new nT)) .nil))⟩
theorem IterG.zip {ta : TA} {ds es : List PyData} (h : EvA ta γ [.list ds, .list es]) : IterG (RZ.iZipA K ta) γ (List.zipWith (fun d e => PyData.tuple [d, e]) ds es) := fun S H σ l e R r =>
  h S H σ l e _ fun H1 vs s1 av => by
    cases av with
    | cons a r1 =>
      cases r1 with
      | cons b r2 =>
        cases r2
        cases a with
        | lst n f hs =>
          cases b with
          | lst m g ks =>
            exact ⟨_, _, _, _, rfl, .inl ⟨SqL.of f, SqL.of g, r H1 _ s1 ⟨.zip f g hs ks, fun D hD => .zip f g (hs.fresh hD) (ks.fresh hD)⟩⟩⟩
theorem IterG.zipT {ta : TA} {ds es : List PyData} (h : EvA ta γ [.tuple ds, .tuple es]) : IterG (RZ.iZipA K ta) γ (List.zipWith (fun d e => PyData.tuple [d, e]) ds es) := fun S H σ l e R r =>
  h S H σ l e _ fun H1 vs s1 av => by
    cases av with
    | cons a r1 =>
      cases r1 with
      | cons b r2 =>
        cases r2
        cases a with
        | tup n f hs =>
          cases b with
          | tup m g ks =>
            exact ⟨_, _, _, _, rfl, .inr ⟨SqT.of f, SqT.of g, r H1 _ s1 ⟨.zipT f g hs ks, fun D hD => .zipT f g (hs.fresh hD) (ks.fresh hD)⟩⟩⟩
/-! ### slices of tuples -/
theorem EvG.sliceT {tl th : TO} {ds : List PyData} {lo hi : Option Int} (h : EvG te γ (.tuple ds)) (hl : EvO tl γ lo) (hh : EvO th γ hi) : EvG (tSl (rSlA K) te tl th) γ (.tuple (cutD ds lo hi)) := fun S H σ l e Q q =>
  h S H σ l e _ fun H1 v s1 av => hl S H1 σ (l.same s1) (e.same s1) _ fun H2 s2 => hh S H2 σ (l.same (s1.trans s2)) (e.same (s1.trans s2)) _ fun H3 s3 => by
    have av' := av.same (s2.trans s3)
    have s13 := s1.trans (s2.trans s3)
    cases av' with
    | tup n f hs =>
      have hlen := hs.len
      refine ⟨_, _, rfl, SqT.of f, fun hw => q _ _ s13 ?_, fun _ p np => q _ _ (s13.trans (same_new np)) (.tup ((l.same s13).new np) upd_same ?_)⟩
      · rw [hlen] at hw
        have e0 : cutD ds lo hi = ds := by
          unfold cutD
          rw [hw.1, hw.2]
          simp
        rw [e0]
        exact .tup n f hs
      · unfold cutV cutD
        rw [hlen]
        exact ((hs.drop _).take _).same (same_new np)
/-! ### tuples of whole numbers -/
theorem OpG.ltT {a b c e : Int} : OpG (rLtT K) (.tuple [.int a, .int b]) (.tuple [.int c, .int e]) (.bool (HT.lexLt [a, b] [c, e])) := fun S H v w l av aw Q q => by
  cases av with
  | tup n f hs =>
    cases aw with
    | tup m g ks =>
      cases hs with
      | cons x1 r1 =>
        cases r1 with
        | cons x2 r2 =>
          cases r2
          cases x1
          cases x2
          cases ks with
          | cons y1 t1 =>
            cases t1 with
            | cons y2 t2 =>
              cases t2
              cases y1
              cases y2
              exact ⟨_, _, [a, b], [c, e], rfl, rfl, SqT.of f, SqT.of g, q H _ (Same.refl _) (.bl _)⟩
/-! ### max, min of two -/
theorem EvG.max2 {i j : Int} (h1 : EvG ta γ (.int i)) (h2 : EvG tb γ (.int j)) : EvG (tCB (fun xs H Q => ∃ i j, xs = [.int i, .int j] ∧ Q (.int (if j > i then j else i)) H) (tCons ta (tCons tb tNil))) γ (.int (if j > i then j else i)) := .cb (.cons h1 (.cons h2 .nil)) fun S H vs l av Q q => by
  cases av with
  | cons a r =>
    cases r with
    | cons b r =>
      cases r
      cases a
      cases b
      exact ⟨i, j, rfl, q H _ (Same.refl _) (.int _)⟩
theorem EvG.min2 {i j : Int} (h1 : EvG ta γ (.int i)) (h2 : EvG tb γ (.int j)) : EvG (tCB (fun xs H Q => ∃ i j, xs = [.int i, .int j] ∧ Q (.int (if j < i then j else i)) H) (tCons ta (tCons tb tNil))) γ (.int (if j < i then j else i)) := .cb (.cons h1 (.cons h2 .nil)) fun S H vs l av Q q => by
  cases av with
  | cons a r =>
    cases r with
    | cons b r =>
      cases r
      cases a
      cases b
      exact ⟨i, j, rfl, q H _ (Same.refl _) (.int _)⟩
end
end GD
namespace L2
open PySem
/-- two readings of one text: which of them serves is said while reading -/
theorem PE.or {X : Cx} {e : Expr} {t u : TE} (h : PE X e t) (h' : PE X e u) : PE X e (fun σ H Q => t σ H Q ∨ u σ H Q) := ⟨fun pins s σ H Q I q => q.elim (h.run pins s σ H Q I) (h'.run pins s σ H Q I)⟩
theorem PI.or {X : Cx} {tg l : Expr} {t u : TI} (h : PI X tg l t) (h' : PI X tg l u) : PI X tg l (fun σ H R => t σ H R ∨ u σ H R) := ⟨fun pins s σ H R I q => q.elim (h.run pins s σ H R I) (h'.run pins s σ H R I)⟩
end L2

set_option Elab.async false
set_option linter.all false
set_option maxRecDepth 100000
set_option maxHeartbeats 4000000
/-! sorted(set(e)) of a list of whole numbers. -/
namespace GS
open PySem PySem.Spec PyProof.Rows L2
/-- a set that has just been made -/
abbrev setO (w : World) : Obj := { cls := .type "set", dict := none, data := .set #[] 0 (.fresh 0 0 (!w.params.followText "set-order")) }
section
variable {P : Program} {w : World} {A : Around} {E : Value → Shared → Prop} {s : Shared}
/-- what set.__init__ does with a list of whole numbers, a new set at hand -/
theorem init_list {l : Addr} {items : Array Value} (ns : List Int) (hh : A.handled = none) (hl : s.heap.IsList l items) (hit : IntsAre items.toList ns) (hb : ns.length + 1 < scanBound) :
    codeAny (model P w) A (.call (.builtin "set.__init__") ⟨[.ref s.heap.objs.size, .ref l], []⟩)
      (wants (fun r s₂ => r = .none ∧ ∃ h' tk c, s₂ = { s with heap := h', toks := tk } ∧ SetR w h' s.heap.objs.size (fun j => decide (j ∈ ns)) c ∧ c ≤ ns.length ∧ ∀ b o, s.heap.get? b = some o → h'.get? b = some o) E) { s with heap := s.heap.push (setO w) } := by
  have many : items.size = ns.length := by have q := IntsAre.length hit; rw [Array.length_toList] at q; exact q
  have atS : (s.heap.push (setO w)).get? s.heap.objs.size = some (setO w) := Heap.get?_push_size _ rfl
  have ty : Shared.TypeIs { s with heap := s.heap.push (setO w) } (.ref s.heap.objs.size) "set" := ⟨_, atS, rfl⟩
  refine codeAny_call_builtin F.called_set.init.plain F.entry_set_init (check_set_init_1 ty ?_)
  obtain ⟨⟨_, od, _, os⟩, hol, hcl, nl, hdl⟩ := hl
  simp only at hcl hdl; subst hcl; subst hdl
  have hol' : (s.heap.push (setO w)).get? l = some { cls := .type "list", dict := od, data := .seq items nl, slots := os } := Heap.get?_push_of_some _ hol
  have n1 := F.sub_list_set; have n2 := F.sub_list_frozenset
  have n3 : (Value.type "list" == Value.type "dict") = false := by decide
  have isl : (s.heap.push (setO w)).IsList l items := ⟨_, hol', rfl, nl, rfl⟩
  unfold Builtin.«set.__init__» noKeywords Builtin.Frozenset.updateFrom; generalize hPI : pyIter = PI; wp_walk; subst hPI
  refine wpAny_pyIter_list isl (wpAny_bind (wpAny_runValue ?_))
  have lt : l < s.heap.objs.size := Heap.lt_size hol
  have sz : (s.heap.push (setO w)).objs.size = s.heap.objs.size + 1 := Heap.size_push ..
  have nI : l ≠ (s.heap.push (setO w)).objs.size := fun z => absurd lt (by rw [z, sz]; exact Nat.not_lt_of_le (Nat.le_succ _))
  have out : s.heap.objs.size ∉ [(s.heap.push (setO w)).objs.size, l] := fun z => by
    rcases List.mem_cons.mp z with z | z
    · rw [sz] at z
      exact Nat.succ_ne_self _ z.symm
    · have z := List.mem_singleton.mp z
      rw [← z] at lt
      exact Nat.lt_irrefl _ lt
  have vals : ∀ (i : Nat) (v : Value), items[i]? = some v → ∃ k t, ns[i]? = some k ∧ v = .int k t := fun i v hv => by
    have hi : i < ns.length := by have := (Array.getElem?_eq_some_iff.mp hv).1; omega
    obtain ⟨t, e⟩ := PyProof.Rows.IntsAre.int_at hit i v (by rw [Array.getElem?_toList]; exact hv)
    exact ⟨ns[i], t, List.getElem?_eq_getElem hi, by rw [e, List.getD_eq_getElem?_getD, List.getElem?_eq_getElem hi]; rfl⟩
  have hh3 : A.in1.in1.handled = none := by simp [hh]
  refine set_update_ints ((Walks.list (by simp [hh]) _ l nI items).toS) s.heap.objs.size out ns many hb vals (items.size - 0) 0 _ (by omega) (Nat.zero_le _) ⟨⟨_, Heap.get?_push_size _ rfl, rfl, rfl⟩, isl.push _⟩ ⟨0, Nat.le_refl 0, setR_new_at (Heap.get?_push_of_some _ atS)⟩ ?_
  rintro ⟨h', g2, d', tk', os'⟩ c' hm hc' hS'
  have eg : g2 = s.gens := hm.gens; have ed : d' = s.drawn := hm.drawn; have eo : os' = s.os := hm.os
  subst eg; subst ed; subst eo
  show wpAny _ _ _ _ _ _; refine wpAny_pure ?_
  show wpAny _ _ (ret Value.none) _ _ _
  refine wpAny_pure ⟨rfl, h', tk', c', rfl, hS', by omega, fun b o e => ?_⟩
  have hb0 : b < s.heap.objs.size := Heap.lt_size e
  refine hm.heap b o (fun z => ?_) (Heap.get?_push_of_some _ (Heap.get?_push_of_some _ e))
  rcases List.mem_cons.mp z with z | z
  · rw [z] at hb0
    exact Nat.lt_irrefl _ hb0
  · have z := List.mem_singleton.mp z
    rw [z, sz] at hb0
    exact Nat.not_lt_of_le (Nat.le_succ _) hb0
set_option maxHeartbeats 3200000 in
theorem set_of_list {l : Addr} {items : Array Value} (ns : List Int) {Q : Value → Shared → Prop} (hh : A.handled = none) (hl : s.heap.IsList l items) (hit : IntsAre items.toList ns) (hb : ns.length + 1 < scanBound)
    (h : ∀ (h' : Heap) (tk c : Nat), SetR w h' s.heap.objs.size (fun j => decide (j ∈ ns)) c → c ≤ ns.length → (∀ b o, s.heap.get? b = some o → h'.get? b = some o) → Q (.ref s.heap.objs.size) { s with heap := h', toks := tk }) : wpAny (model P w) A (call (.type "set") [.ref l]) Q E s := by
  obtain ⟨c, tl, hmro⟩ := F.called_set.mro; have g1 := F.called_set.made; have g2 := F.called_set.sub
  refine wpAny_call (codeAny_of_tree ?_); show wpAny _ _ (callAny (.type "set") _) _ _ _
  refine wpAny_pure ⟨Code.quiet_builtin _ (by decide +kernel), codeAny_builtin F.entry_type_call ?_⟩; rw [Around.under_plain (weight_type_call_type "set" [.ref l] []) rfl]
  have g3 := F.called_set.notType; have g4 := F.called_set.canCreate; have g5 := F.typeCall_set_1 (.ref l)
  repeat any_goals first | assumption | wp_step
  refine codeAny_mono (code_set_led1 (.ref l) (E := E) (Q₁ := fun obj s₁ => obj = .ref s.heap.objs.size ∧ s₁ = { s with heap := s.heap.push (setO w) }) ⟨rfl, rfl⟩) fun r s₁ hr => ?_
  match r, hr with
  | .error e, hr => exact hr
  | .ok (.ret obj), hr =>
    obtain ⟨rfl, rfl⟩ := hr
    have ty : Shared.TypeIs { s with heap := s.heap.push (setO w) } (.ref s.heap.objs.size) "set" := ⟨_, Heap.get?_push_size _ rfl, rfl⟩
    have g6 := F.called_set.init.lookup; have g7 := F.called_set.init.bind (.ref s.heap.objs.size)
    repeat any_goals first | assumption | wp_step
    refine codeAny_mono (init_list (E := E) ns (by simp [hh]) hl hit hb) fun r₂ s₂ hr₂ => ?_
    match r₂, hr₂ with
    | .error e, hr₂ => exact hr₂
    | .ok (.ret r), hr₂ =>
      obtain ⟨rfl, h', tk, c', rfl, hS', hc', hk'⟩ := hr₂
      repeat any_goals first | assumption | wp_step
      exact h _ _ _ hS' hc' hk'
end
def tSortedSet (K : PySem.W.Frag) (ta : TE) : TE := fun σ H Q => ta σ H fun x H1 => ∃ (l : Addr) (ns : List Int), x = .ref l ∧ SqL K H1 l (ns.map V.int) ∧ ns.length < 60 ∧ ∀ (ms : List Int) (p : Addr), ms.Pairwise (· < ·) → (∀ k : Int, k ∈ ms ↔ k ∈ ns) → H1 p = none → Q (.ref p) (upd H1 p (.lst (ms.map V.int)))
/-- sorted(set(e)) -/
theorem pe_sortedSet {X : Cx} {a : Expr} {ta : TE} {p p2 q pos : Pos} (hg : Gl X "sorted") (hm : X.mg "sorted" = none) (hg2 : Gl X "set") (hm2 : X.mg "set" = none) (ha : PE X a ta) (hc : X.calm = true := by rfl)
    (na : starEach [a] X.env = (false, eval a X.env) :: starEach [] X.env := by rfl) : PE X (.Call (.Name "sorted" p) [.Call (.Name "set" p2) [a] [] q] [] pos) (tSortedSet X.K ta) := by
  refine ⟨fun pins s σ H Q I h => Call_ (ld_blt I hg hm PyProof.Rows.boot_sorted (PyProof.Rows.callWith_builtin1 (PyProof.Rows.args_cons (Call_ (ld_blt I hg2 hm2 boot_set ?_)) rfl) rfl rfl))⟩
  refine PyProof.Rows.callWith_type1 (PyProof.Rows.args_cons (thn (ha.run pins s σ H _ I h) fun v s1 ⟨x, H1, I1, r1, q1⟩ => PyProof.Rows.args_nil ?_) na) na rfl
  obtain ⟨l, ns, rfl, hq, hl, q1⟩ := q1
  cases r1
  obtain ⟨its, r, pl, hz⟩ := I1.list hq
  refine set_of_list ns (I1.ok.hd hc) pl.isList (by simpa using RZ.intsAre_vals r) (by unfold scanBound; omega) fun h' tk c hS hc' hk => PyProof.Rows.args_nil ?_
  have I2 : Inv X pins σ H1 { s1 with heap := h', toks := tk } := I1.kept fun b o e => hk b o e
  have hS2 : SetR X.w ({ s1 with heap := h', toks := tk } : Shared).heap s1.heap.objs.size (fun j => decide (j ∈ ns)) c := hS
  generalize ({ s1 with heap := h', toks := tk } : Shared) = s2 at I2 hS2 ⊢
  refine sorted_set hS2 (I2.ok.hd hc) (by omega) fun s' p out c2 ms k g o hp hg' hi hs hmm hl' => ?_
  have hn : H1 p = none := I2.hok.fresh hp
  have hlen : (ms.map V.int).length ≤ sizeLine := by rw [List.length_map, hl', sizeLine_eq]; omega
  have J : Inv X pins σ (upd H1 p (.lst (ms.map V.int))) { s2 with heap := s'.heap, gens := s'.gens, drawn := s'.drawn, toks := s'.toks } := I2.call (ch := []) (Un.laid k hp hn) (I2.hok.laid k hp ⟨hlen, out.toList, c2, vals_of_ints hi, hg'⟩) (by rw [g]; exact I2.bare) fun _ z => nomatch z
  have e : s' = { s2 with heap := s'.heap, gens := s'.gens, drawn := s'.drawn, toks := s'.toks } := by
    obtain ⟨_, _, _, _, _⟩ := s'; obtain ⟨_, _, _, _, _⟩ := s2; cases o; rfl
  rw [e]
  exact ⟨.ref p, _, J, rfl, q1 ms p hs (fun k => (hmm k).trans decide_eq_true_iff) hn⟩
end GS
namespace GD
open PySem L2
theorem EvG.sortedSet {γ : List (Option PyData)} {K : PySem.W.Frag} {te : TE} {ns ms : List Int} (h : EvG te γ (.list (ns.map PyData.int))) (hl : ns.length < 60) (hu : ∀ l : List Int, l.Pairwise (· < ·) → (∀ k, k ∈ l ↔ k ∈ ns) → l = ms) : EvG (GS.tSortedSet K te) γ (.list (ms.map PyData.int)) := fun S H σ l e Q q =>
  h S H σ l e _ fun H1 v s1 av => by
    cases av with
    | lst n f hs =>
      have e1 : ∀ {vs : List V} {zs : List Int} {H : Hp}, Avs S H vs (zs.map PyData.int) → vs = zs.map V.int := fun {vs zs H} a => by
        induction zs generalizing vs with
        | nil => cases a; rfl
        | cons z zs ih =>
          cases a with
          | cons b r => cases b; rw [ih r]; rfl
      have e2 : ∀ (zs : List Int) (H : Hp), Avs S H (zs.map V.int) (zs.map PyData.int) := fun zs H => by
        induction zs with
        | nil => exact .nil
        | cons z zs ih => exact .cons (.int z) ih
      have := e1 hs
      subst this
      exact ⟨_, ns, rfl, SqL.of f, hl, fun l' p hp hm np => by
        rw [hu l' hp hm]
        exact q _ _ (s1.trans (same_new np)) (.lst ((l.same s1).new np) upd_same (e2 ms _))⟩
theorem EvG.lenSet {γ : List (Option PyData)} {K : PySem.W.Frag} {te : TE} {ns : List Int} (h : EvG te γ (.list (ns.map PyData.int))) (hl : ns.length ≤ 4000) (nd : ns.Nodup) : EvG (RZ.tLenSetI K te) γ (.int (ns.length : Nat)) := fun S H σ l e Q q =>
  h S H σ l e _ fun H1 v s1 av => by
    cases av with
    | lst n f hs =>
      have e1 : ∀ {vs : List V} {zs : List Int} {H : Hp}, Avs S H vs (zs.map PyData.int) → vs = zs.map V.int := fun {vs zs H} a => by
        induction zs generalizing vs with
        | nil => cases a; rfl
        | cons z zs ih =>
          cases a with
          | cons b r => cases b; rw [ih r]; rfl
      have := e1 hs
      subst this
      exact ⟨_, ns, rfl, SqL.of f, nd, hl, q _ _ s1 (.int _)⟩
end GD

set_option Elab.async false
set_option linter.all false
set_option maxRecDepth 100000
set_option maxHeartbeats 4000000
/-! min(xs, key=f) of a list, f a def that gives whole numbers. -/
namespace GS
open PySem PySem.Spec PyProof.Rows L2
section
variable {P : Program} {w : World} {A : Around}
/-- a list by what its items stand for, its iterator -/
theorem walk_list {l It : Addr} {xs : List V} (hh : A.handled = none) (ne : l ≠ It) : WalksS P w A It [It, l] [It] (fun a b => b = a) xs.length (fun i v => ∃ x, xs[i]? = some x ∧ RelV x v) (fun i s => s.heap.IsListIter It l i ∧ ∃ its : List Value, s.heap.IsList l its.toArray ∧ Vals xs its) where
  sub := fun b hb => by rw [List.mem_singleton.mp hb]; exact .head _
  grefl := fun _ => rfl
  gtrans := fun _ _ _ a b => b.trans a
  frame := fun i s h' tk st _ hk => ⟨st.1.at fun o e => hk It (.head _) o e, let ⟨its, a, b⟩ := st.2; ⟨its, a.at fun o e => hk l (.tail _ (.head _)) o e, b⟩⟩
  item := fun i s Q E hi st hQ => by
    obtain ⟨it, its, isl, vs⟩ := st
    have hl := vs.length
    refine (Walks.list (prog := P) (w := w) hh It l ne its.toArray).toS.item i s Q E (by simpa using by omega) ⟨it, isl⟩ fun v s' hv st' hm => ?_
    have hx : xs[i]? = some (xs[i]'hi) := List.getElem?_eq_getElem hi
    obtain ⟨u, hu, r⟩ := Vals.get vs hx
    have hv' : its[i]? = some v := by simpa using hv
    rw [hu] at hv'
    cases hv'
    exact hQ v s' ⟨_, hx, r⟩ ⟨st'.1, its, st'.2, vs⟩ ⟨hm.heap, hm.gens, hm.drawn, hm.os, hm.toks⟩
  done := fun s Q E st hQ => by
    obtain ⟨it, its, isl, vs⟩ := st
    have hl := vs.length
    refine (Walks.list (prog := P) (w := w) hh It l ne its.toArray).toS.done s Q E ⟨by simpa [← hl] using it, isl⟩ fun s' hm => hQ s' ⟨hm.heap, hm.gens, hm.drawn, hm.os, hm.toks⟩
  self := fun _ _ _ _ st hQ => wpAny_pyIter_listiter st.1 hQ
end
/-- the first of the least, by the key -/
def rMinK (K : PySem.W.Frag) (f : Addr) (sp : Sp) (E : XK) : List V → List V → Hp → VK → Prop := fun vs zs H Q => ∃ (l : Addr) (xs : List V) (kf : Nat → Int), vs = [.ref l] ∧ zs = [.ref f] ∧ SqL K H l xs ∧ 0 < xs.length ∧
  (∀ i v H2, xs[i]? = some v → Same H H2 → sp [v] H2 (fun z H3 => z = .int (kf i) ∧ Same H2 H3) E) ∧ ∀ v H2, xs[argBest (fun i j => decide (kf i < kf j)) (xs.length - 1)]? = some v → Same H H2 → Q v H2
theorem sq_same {K : PySem.W.Frag} {H H' : Hp} {a : Addr} {xs : List V} (s : Same H H') (h : SqL K H a xs) : SqL K H' a xs := s.seq h
theorem cr_minK {X : Cx} {k : Nat} {f : Addr} {sp : Sp} {E : XK} (F : FnR X.prog X.w X.K X.mg X.base CX0 k f sp) (hr : Room (k + 1) X.A) (hc : X.calm = true) : CallRK X (.builtin "min") [Str.ofString "key"] (rMinK X.K f sp E) := by
  intro pins s σ H ys zs us ws Q I ry rz h
  obtain ⟨l, xs, kf, rfl, rfl, hs, h0, hk, q⟩ := h
  obtain ⟨u, rfl, ru⟩ := ry.one
  cases (show u = Value.ref l from ru)
  obtain ⟨v, rfl, rv⟩ := rz.one
  cases (show v = Value.ref f from rv)
  obtain ⟨its, rits, pl, hz⟩ := I.list hs
  have ltl : l < s.heap.objs.size := Heap.lt_size pl.isList.choose_spec.1
  have neI : l ≠ s.heap.objs.size := Nat.ne_of_lt ltl
  show wpAny _ _ (call (.builtin "min") [.ref l] [(Str.ofString "key", .ref f)]) _ _ _
  refine PySem.call_min_walkK (wpAny_pyIter_list pl.isList ?_)
  have I1 : Inv X pins σ H { s with heap := s.heap.push { cls := .type "list_iterator", data := .fields #[.ref l, .int 0 0] } } := I.kept (t' := s.toks) fun b o e => Heap.get?_push_of_some _ e
  have sz : (s.heap.push { cls := .type "list_iterator", data := .fields #[.ref l, .int 0 0] }).objs.size = s.heap.objs.size + 1 := Heap.size_push ..
  have gI : (s.heap.push { cls := .type "list_iterator", data := .fields #[.ref l, .int 0 0] }).get? s.heap.objs.size = some { cls := .type "list_iterator", data := .fields #[.ref l, .int 0 0] } := Heap.get?_push_size _ rfl
  have fI : FpOk X pins H s.heap.objs.size := I.fpOk (Nat.le_refl _) (I.hok.fresh (Nat.le_refl _))
  have fS : FpOk X pins H (s.heap.push { cls := .type "list_iterator", data := .fields #[.ref l, .int 0 0] }).objs.size := I1.fpOk (Nat.le_refl _) (I1.hok.fresh (Nat.le_refl _))
  generalize hIt : s.heap.objs.size = It at *
  generalize hS0 : (s.heap.push { cls := .type "list_iterator", data := .fields #[.ref l, .int 0 0] }).objs.size = S0 at *
  generalize hs1 : ({ s with heap := s.heap.push { cls := .type "list_iterator", data := .fields #[.ref l, .int 0 0] } } : Shared) = s1 at I1 ⊢
  refine ⟨It, [It, l], [It], _, xs.length, _, _, (fun s' => ∃ H2, Same H H2 ∧ Inv X pins σ H2 s' ∧ FpOk X pins H2 S0 ∧ FpOk X pins H2 It), (fun i k _ => ∃ t, k = .int (kf i) t), (fun i j => decide (kf i < kf j)), rfl, walk_list (xs := xs) (by simp [I.ok.hd hc]) neI, ?_, ?_, h0, ?_, ⟨H, Same.refl _, I1, fS, fI⟩, ?_⟩
  · subst hs1
    exact ⟨⟨_, gI, rfl, rfl⟩, its, pl.isList.push _, rits⟩
  · subst hs1
    intro b hb
    show b < S0
    rw [sz]
    rcases List.mem_cons.mp hb with rfl | hb
    · exact Nat.lt_succ_self _
    · rw [List.mem_singleton.mp hb]
      exact Nat.lt_succ_of_lt ltl
  · refine ⟨?_, fun i k s s' h _ => h, ?_, ?_⟩
    · rintro s2 ⟨h', g2, d', tk', os'⟩ ⟨H2, ss, I2, f1, f2⟩ hm
      have eg : g2 = s2.gens := hm.gens; have ed : d' = s2.drawn := hm.drawn; have eo : os' = s2.os := hm.os
      subst eg; subst ed; subst eo
      exact ⟨H2, ss, I2.turnedL (ch := [S0, It]) (fun b o hb e => hm.heap b o hb e) (fun b hb => by
        rcases List.mem_cons.mp hb with rfl | hb
        · exact f1
        · rw [List.mem_singleton.mp hb]
          exact f2), f1, f2⟩
    · rintro i v s2 o Q' E' hi ⟨x, hx', rx⟩ ⟨H2, ss, I2, f1, f2⟩ hst hS hq
      obtain ⟨oI, hoI, hcI, hdI⟩ := id hst.1
      refine wpAny_call (codeAny_mono (F X.A.in1 X.stack s2 H2 [v] [x] _ E hr.in1 I2.env0.in1 (.cons rx .nil) (hk i x H2 hx' ss)) fun r s3 hr3 => ?_)
      match r, hr3 with
      | .error e, z => exact z.elim
      | .ok (.ret z), hce =>
        obtain ⟨z', H3, os, bare, un, hok, rz, e3, s23⟩ := hce
        have kS := un.keep S0 o hS f1.1 (fun z => (List.mem_cons.mp (I2.stkSub S0 z)).elim f1.2.1 f1.2.2.1) (by simp)
        have kI := un.keep It oI hoI f2.1 (fun z => (List.mem_cons.mp (I2.stkSub It z)).elim f2.2.1 f2.2.2.1) (by simp)
        obtain ⟨_, H4, I4, rz', ⟨rfl, s24⟩, m1, m2⟩ := I2.after (Q := fun z H' => (z = .int (kf i) ∧ Same H2 H') ∧ H' S0 = none ∧ H' It = none) ⟨z', H3, os, bare, un, hok, rz, ⟨e3, s23⟩, un.free S0 o hS f1.1 (by simp), un.free It oI hoI f2.1 (by simp)⟩
        obtain ⟨t, rfl⟩ := rz'
        obtain ⟨its', rits', pl', _⟩ := I4.list (sq_same (ss.trans s24) hs)
        exact hq (.int (kf i) t) s3 ⟨H4, ss.trans s24, I4, ⟨m1, f1.2⟩, ⟨m2, f2.2⟩⟩ ⟨⟨oI, kI, hcI, hdI⟩, its', pl'.isList, rits'⟩ kS ⟨t, rfl⟩ fun _ _ h => h
    · rintro i j ki kj s2 Q' E' _ ⟨t, rfl⟩ ⟨u, rfl⟩ hq
      exact lt_int hq
  · rintro v s' ⟨x, hx, r⟩ ⟨H2, ss, I2, _⟩
    exact ⟨x, H2, I2, r, q x H2 hx ss⟩
end GS
namespace GD
open PySem L2
theorem argBest_le (bt : Nat → Nat → Bool) : ∀ m, argBest bt m ≤ m
  | 0 => Nat.le_refl _
  | m + 1 => by
    have := argBest_le bt m
    unfold argBest
    split <;> omega
theorem argBest_congr {bt bu : Nat → Nat → Bool} : ∀ m, (∀ i j, i ≤ m → j ≤ m → bt i j = bu i j) → argBest bt m = argBest bu m
  | 0, _ => rfl
  | m + 1, h => by
    have ih := argBest_congr m fun i j hi hj => h i j (by omega) (by omega)
    have := argBest_le bu m
    unfold argBest
    rw [ih, h (m + 1) (argBest bu m) (by omega) (by omega)]
theorem EvG.minK {γ : List (Option PyData)} {K : PySem.W.Frag} {te : TE} {f : Addr} {F : List PyData → PyData → Prop} {E : XK} {ds : List PyData} {d : PyData} (kf : PyData → Int) (h : EvG te γ (.list ds)) (h0 : 0 < ds.length) (hk : ∀ d ∈ ds, F [d] (.int (kf d)))
    (hd : ds[argBest (fun i j => decide (kf (ds.getD i .none) < kf (ds.getD j .none))) (ds.length - 1)]? = some d) : EvG (tCKw (GS.rMinK K f (SpG F) E) (tCons te tNil) (tCons (tC (.ref f)) tNil)) γ d := fun S H σ l e Q q =>
  h S H σ l e _ fun H1 v s1 av => by
    cases av with
    | lst n g hs =>
      have hl := hs.len
      refine ⟨_, _, (fun i => kf (ds.getD i .none)), rfl, rfl, SqL.of g, by omega, fun i v H2 hv s2 => ?_, fun v H2 hv s2 => ?_⟩
      · obtain ⟨c, hc, ac⟩ := hs.get hv
        refine ⟨S, [c], _, l.same (s1.trans s2), .cons (ac.same s2) .nil, hk c (List.mem_of_getElem? hc), fun H3 w s3 aw => ?_⟩
        cases aw
        refine ⟨?_, s3⟩
        show V.int (kf c) = V.int (kf (ds.getD i .none))
        rw [List.getD_eq_getElem?_getD, hc]
        rfl
      · rw [hl] at hv
        obtain ⟨c, hc, ac⟩ := hs.get hv
        rw [hd] at hc
        cases hc
        exact q H2 v (s1.trans s2) (ac.same s2)
end GD

set_option Elab.async false
set_option linter.all false
set_option maxRecDepth 100000
set_option maxHeartbeats 4000000
/-! Further words by plain data: repr, is, tuple(..), list(..), dict(..), texts compared, calls with keywords alone; draws beside a pot. -/
namespace GD
open PySem L2
section
variable {γ : List (Option PyData)} {K : PySem.W.Frag} {te ta tb tc : TE} {tt tu : TT} {d x y z : PyData} {S : Addr → Prop}
/-! ### repr -/
structure Rp (d : PyData) : Prop where
  ref : (∃ xs, d = .list xs) ∨ ∃ xs, d = .tuple xs
  nd : nd d = true
  sh : d.showable = true
  hd : d.hasDict = false
  dp : d.depth ≤ 60
  ln : d.shown.length ≤ sizeLine
theorem EvG.repr (r : Rp d) (h : EvG te γ d) : EvG (tCB (RQ.rReprD K) (tCons te tNil)) γ (.str d.shown) := fun S H σ l e Q q =>
  h S H σ l e _ fun H1 v s1 av => by
    have a2 := av.dp (K := K) r.nd
    rcases r.ref with ⟨xs, rfl⟩ | ⟨xs, rfl⟩
    · cases av with
      | lst n f hs => exact ⟨_, _, rfl, a2, r.sh, r.hd, r.dp, r.ln, q _ _ s1 (.str _)⟩
    · cases av with
      | tup n f hs => exact ⟨_, _, rfl, a2, r.sh, r.hd, r.dp, r.ln, q _ _ s1 (.str _)⟩
theorem OpG.neS (a : Str) : OpG rNe (.str a) (.str a) (.bool false) := fun S H v w l av aw Q q => by
  cases av
  cases aw
  refine ⟨rfl, ?_⟩
  rw [decide_eq_true rfl]
  exact q H _ (Same.refl _) (.bl _)
/-! ### is, is not -/
theorem OpG.isB {a b : Bool} : OpG (fun x y H Q => ∃ a b, x = .bl a ∧ y = .bl b ∧ Q (.bl (decide (a = b))) H) (.bool a) (.bool b) (.bool (decide (a = b))) := fun S H v w l av aw Q q => by
  cases av
  cases aw
  exact ⟨a, b, rfl, rfl, q H _ (Same.refl _) (.bl _)⟩
theorem OpG.isnotB {a b : Bool} : OpG (fun x y H Q => ∃ a b, x = .bl a ∧ y = .bl b ∧ Q (.bl (!decide (a = b))) H) (.bool a) (.bool b) (.bool (!decide (a = b))) := fun S H v w l av aw Q q => by
  cases av
  cases aw
  exact ⟨a, b, rfl, rfl, q H _ (Same.refl _) (.bl _)⟩
/-! ### tuple(x), list(x), int(x) -/
theorem EvG.tupleOf {ds : List PyData} (h : EvG te γ (.list ds)) : EvG (tCB (fun xs H Q => ∃ p ys, xs = [.ref p] ∧ ((SqL K H p ys ∧ ∀ l, H l = none → Q (.ref l) (upd H l (.tup ys))) ∨ (SqT K H p ys ∧ Q (.ref p) H))) (tCons te tNil)) γ (.tuple ds) := .cb (.cons h .nil) fun S H vs l av Q q => by
  cases av with
  | cons a r =>
    cases r
    cases a with
    | lst n e hs => exact ⟨_, _, rfl, .inl ⟨SqL.of e, fun p np => q _ _ (same_new np) (.tup (l.new np) upd_same (hs.same (same_new np)))⟩⟩
theorem EvG.listOf {ds : List PyData} (h : EvG te γ (.list ds)) : EvG (tCB (fun xs H Q => ∃ p ys, xs = [.ref p] ∧ (SqL K H p ys ∨ SqT K H p ys) ∧ ∀ l, H l = none → Q (.ref l) (upd H l (.lst ys))) (tCons te tNil)) γ (.list ds) := .cb (.cons h .nil) fun S H vs l av Q q => by
  cases av with
  | cons a r =>
    cases r
    cases a with
    | lst n e hs => exact ⟨_, _, rfl, .inl (SqL.of e), fun p np => q _ _ (same_new np) (.lst (l.new np) upd_same (hs.same (same_new np)))⟩
theorem EvG.intOf {i : Int} (h : EvG te γ (.int i)) : EvG (tCB (fun xs H Q => (∃ i, xs = [.int i] ∧ Q (.int i) H) ∨ ∃ k, xs = [.bl k] ∧ Q (.int (if k then 1 else 0)) H) (tCons te tNil)) γ (.int i) := .cb (.cons h .nil) fun S H vs l av Q q => by
  cases av with
  | cons a r =>
    cases r
    cases a
    exact .inl ⟨i, rfl, q _ _ (Same.refl _) (.int i)⟩
/-! ### slices -/
theorem cut_to {ds : List PyData} {i : Nat} (h : i ≤ ds.length) : cutD ds none (some (i : Int)) = ds.take i := by
  unfold cutD
  have h1 : HT.sIx ds.length 0 none = 0 := rfl
  have h2 : HT.sIx ds.length ds.length (some (i : Int)) = i := by
    rw [HT.sIx_nat]
    omega
  rw [h1, h2]
  simp
theorem cut_from {ds : List PyData} {i : Nat} (h : i ≤ ds.length) : cutD ds (some (i : Int)) none = ds.drop i := by
  unfold cutD
  have h1 : HT.sIx ds.length 0 (some (i : Int)) = i := by
    rw [HT.sIx_nat]
    omega
  have h2 : HT.sIx ds.length ds.length none = ds.length := rfl
  rw [h1, h2]
  exact List.take_of_length_le (by rw [List.length_drop]; omega)
/-! ### dict([(k, True), ..]) -/
def dk (acc : List Int) : List Int → List Int
  | [] => acc
  | k :: ks => dk (if k ∈ acc then acc else acc ++ [k]) ks
abbrev ent (k : Int) : Key × V := (Sum.inl k, V.bl true)
theorem put_ent (acc : List Int) (k : Int) : putK (acc.map ent) (Sum.inl k) (V.bl true) = (if k ∈ acc then acc else acc ++ [k]).map ent := by
  unfold putK
  have e : ((acc.map ent).any fun kv => decide (kv.1 = Sum.inl k)) = decide (k ∈ acc) := by
    rw [List.any_map, Bool.eq_iff_iff, List.any_eq_true, decide_eq_true_eq]
    constructor
    · rintro ⟨a, ha, h⟩
      have h' : (ent a).1 = Sum.inl k := of_decide_eq_true h
      have : a = k := Sum.inl.inj h'
      exact this ▸ ha
    · exact fun h => ⟨k, h, decide_eq_true rfl⟩
  rw [e]
  by_cases h : k ∈ acc
  · rw [if_pos (decide_eq_true h), if_pos h, List.map_map]
    refine List.map_congr_left fun a _ => ?_
    show (if (ent a).1 = Sum.inl k then ((ent a).1, V.bl true) else ent a) = ent a
    split <;> rfl
  · rw [if_neg (by rw [decide_eq_true_eq]; exact h), if_neg h, List.map_append]
    rfl
theorem merge_ent : ∀ (ks acc : List Int), mergeK (acc.map ent) (ks.map ent) = (dk acc ks).map ent
  | [], acc => rfl
  | k :: ks, acc => by
    show mergeK (putK (acc.map ent) (Sum.inl k) (V.bl true)) (ks.map ent) = _
    rw [put_ent, merge_ent ks, dk]
theorem dk_mem : ∀ (ks acc : List Int) (x : Int), x ∈ dk acc ks ↔ x ∈ acc ∨ x ∈ ks
  | [], acc, x => by simp [dk]
  | k :: ks, acc, x => by
    rw [dk, dk_mem ks]
    by_cases h : k ∈ acc
    · rw [if_pos h, List.mem_cons]
      exact ⟨fun z => z.imp id .inr, fun z => z.elim .inl fun z => z.elim (fun e => .inl (e ▸ h)) .inr⟩
    · rw [if_neg h]
      simp only [List.mem_append, List.mem_cons, List.not_mem_nil, or_false, or_assoc]
theorem dk_nodup : ∀ (ks acc : List Int), acc.Nodup → (dk acc ks).Nodup
  | [], acc, h => h
  | k :: ks, acc, h => by
    rw [dk]
    refine dk_nodup ks _ ?_
    split
    · exact h
    · rename_i g
      rw [List.nodup_append]
      exact ⟨h, by simp, fun a ha b hb e => g (by rw [List.mem_singleton.mp hb] at e; exact e ▸ ha)⟩
theorem len_same {α : Type} [DecidableEq α] : ∀ {xs ys : List α}, xs.Nodup → ys.Nodup → (∀ x, x ∈ xs ↔ x ∈ ys) → xs.length = ys.length := fun {xs ys} hx hy h =>
  Nat.le_antisymm (List.Nodup.length_le_of_subset hx fun a ha => (h a).mp ha) (List.Nodup.length_le_of_subset hy fun a ha => (h a).mpr ha)
abbrev dctD (ks : List Int) : PyData := .dict (ks.map fun k => (.int k, .bool true))
abbrev rDct (K : PySem.W.Frag) : List V → Hp → VK → Prop := fun xs H Q => ∃ (a : Addr) (ps : List Addr) (kvs : List (Key × V)), xs = [.ref a] ∧ SqL K H a (ps.map V.ref) ∧ Paired (fun p kv => SqT K H p [kV kv.1, kv.2]) ps kvs ∧ ∀ p, H p = none → Q (.ref p) (upd H p (.dK (mergeK [] kvs)))
theorem EvG.dictOf {ks : List Int} (h : EvG te γ (.list (ks.map fun k => .tuple [.int k, .bool true]))) : EvG (tCB (rDct K) (tCons te tNil)) γ (dctD (dk [] ks)) := .cb (.cons h .nil) fun S H vs l av Q q => by
  cases av with
  | cons a r =>
    cases r
    cases a with
    | lst n e hs =>
      have go : ∀ {xs : List V} {ks : List Int}, Avs S H xs (ks.map fun k => .tuple [.int k, .bool true]) → ∃ ps : List Addr, xs = ps.map V.ref ∧ Paired (fun p (kv : Key × V) => SqT K H p [kV kv.1, kv.2]) ps (ks.map ent) := fun {xs ks} a => by
        induction ks generalizing xs with
        | nil => cases a; exact ⟨[], rfl, .nil⟩
        | cons k ks ih =>
          cases a with
          | cons b r =>
            obtain ⟨ps, rfl, pp⟩ := ih r
            cases b with
            | tup m f us =>
              cases us with
              | cons u1 r1 =>
                cases r1 with
                | cons u2 r2 =>
                  cases r2
                  cases u1
                  cases u2
                  exact ⟨_ :: ps, rfl, .cons (SqT.of f) pp⟩
      obtain ⟨ps, rfl, pp⟩ := go hs
      refine ⟨_, ps, ks.map ent, rfl, SqL.of e, pp, fun p np => ?_⟩
      have em := merge_ent ks []
      rw [show mergeK [] (ks.map ent) = (dk [] ks).map ent from em]
      exact q _ _ (same_new np) (.dct (l.new np) upd_same)
theorem EvG.lenD {ks : List Int} (h : EvG te γ (dctD ks)) : EvG (tCB (fun xs H Q => ∃ a kvs, xs = [V.ref a] ∧ H a = some (.dK kvs) ∧ Q (.int kvs.length) H) (tCons te tNil)) γ (.int (ks.length : Nat)) := fun S H σ l e Q q =>
  h S H σ l e _ fun H1 v s1 av => by
    generalize hd : dctD ks = d at av
    cases av with
    | dct n f =>
      rename_i a js
      have hj : ks.map (fun k => ((.int k, .bool true) : PyData × PyData)) = js.map (fun k => (.int k, .bool true)) := by
        injection hd
      have hl : ks.length = js.length := by
        have := congrArg List.length hj
        simpa using this
      refine ⟨_, _, rfl, f, ?_⟩
      rw [List.length_map, ← hl]
      exact q _ _ s1 (.int _)
    | dcT n f =>
      have := PyData.dict.inj hd
      cases ks with
      | nil => cases this
      | cons k ks => cases (List.cons.inj this).1
    | rat n f =>
      have := PyData.dict.inj hd
      cases ks with
      | nil => cases this
      | cons k ks => cases (List.cons.inj this).1
    | _ => cases hd
/-! ### f(k = v, ..) -/
def tCallKk (n : Nat) (sp : Sp) (gV : List V → List V → List V) (E : XK) (t tk : TA) : TE := fun σ H Q => t σ H fun vs H1 => tk σ H1 fun zs H2 => zs.length = n ∧ sp (gV vs zs) H2 Q E
theorem Avs.rev {H : Hp} : ∀ {vs : List V} {ds : List PyData}, Avs S H vs ds → Avs S H vs.reverse ds.reverse
  | _, _, .nil => .nil
  | _, _, .cons a r => by
    rw [List.reverse_cons, List.reverse_cons]
    exact (Avs.rev r).app (.cons a .nil)
theorem EvG.callKR {F : List PyData → PyData → Prop} {tk : TA} {ds : List PyData} {r : PyData} {E : XK} {n : Nat} (h : EvA tk γ ds) (hn : ds.length = n) (hF : F ds.reverse r) : EvG (tCallKk n (SpG F) (fun vs zs => vs ++ zs.reverse) E tNil tk) γ r := fun S H σ l e Q q =>
  h S H σ l e _ fun H1 zs s1 av => ⟨av.len.trans hn, ⟨S, ds.reverse, r, l.same s1, av.rev, hF, fun H' v s a => q H' v (s1.trans s) a⟩⟩
end
end GD
namespace L2
open PySem
section
variable {X : Cx} {CX : CXT} {k n : Nat} {f : Addr} {fd : FuncData} {ps ks : List Str} {sp : Sp} {E : XK} {x : Str} {p pos : Pos} {e : Expr} {es : List Expr} {kws : List Keyword} {t tk : TA} {g : List Value → List Value → List Value} {gV : List V → List V → List V}
/-- f(k = v, ..) -/
theorem pe_callK0 (F : FnOk X.prog X.w X.K X.mg X.base CX k f fd ps sp) (hr : Room k X.A) (hg : Gl X x) (hm : X.mg x = some (.ref f)) (hk : PySem.W.keepIn X.K (.ref f) = true) (hb : KBn X.K fd ps 0 ks g gV) (hx : Passes CX X E) (hkw : PK X kws tk)
    (hall : (backToKw pos (keywordEach kws X.env)).all (·.1.isSome) = true := by rfl) (hks : (backToKw pos (keywordEach kws X.env)).filterMap (·.1) = ks := by rfl) (hdb : (x == ("__debug__" : Str)) = false := by decide)
    (hpl : ((backTo pos (starEach [] X.env)).any (·.1) || (backToKw pos (keywordEach kws X.env)).any (·.1.isNone)) = false := by rfl) :
    PE X (.Call (.Name x p) [] kws pos) (GD.tCallKk ks.length sp gV E tNil tk) := by
  refine ⟨fun pins s σ H Q I h => ?_⟩
  refine wpAny_Call_Name_kw (ld_glob I hg hm ?_ hdb)
  refine PySem.W.callWith_KW0 (h₀ := X.base) I.ok.mod.kin hk hall ?_ hpl
  refine thn (hkw.run pos pins s σ H _ I h) fun ws s2 ⟨zs, H2, I2, rz, l2, q2⟩ => ⟨I2.kIn, ?_⟩
  rw [hks]
  exact run_fnN (us := []) (vs := []) F hr hb hx I2 .nil rz rfl l2 q2
theorem vals_rev : ∀ {vs : List V} {us : List Value}, Vals vs us → Vals vs.reverse us.reverse
  | _, _, .nil => .nil
  | _, _, .cons h r => by
    rw [List.reverse_cons, List.reverse_cons]
    exact Vals.append (vals_rev r) (.cons h .nil)
theorem kbn_turn {K : PySem.W.Frag} {x qual : Str} {st : Stmt} {f : Addr} {fd : FuncData} {ps ks : List Str} {n : Nat} (F : Fun K x qual st f fd)
    (h : ∀ (kV doc pm : Value) (an : Option Addr) (cdv ct : Value) (us ws : List Value), us.length = n → ws.length = ks.length → bindArgs (PySem.W.fnOf x qual (defArgs st) (defBody st) (defScope st) .none kV doc pm an cdv ct) ⟨us, ks.zip ws⟩ = pure (ps.zip (us ++ ws.reverse))) :
    KBn K fd ps n ks (fun us ws => us ++ ws.reverse) (fun vs zs => vs ++ zs.reverse) := by
  obtain ⟨oc, od, kV, doc, pm, an, cdv, ct, osl, rfl, lk, hcd⟩ := F.ex
  exact ⟨fun s us ws _ l1 l2 => .of_eq (h kV doc pm an cdv ct us ws l1 l2), fun r1 r2 => Vals.append r1 (vals_rev r2)⟩
end
end L2

set_option Elab.async false
set_option linter.all false
set_option maxRecDepth 100000
set_option maxHeartbeats 4000000
/-! The text of values of all kinds. -/
namespace GD
open PySem L2 RQ
/-! ### texts -/
abbrev num (i : Int) : Str := Str.ofString (toString i)
def told (p : Int × Int) : Str := ("Ratio(" : Str) ++ num p.1 ++ ", " ++ num p.2 ++ ")"
def numOf : PyData → Str
  | .int i => num i
  | _ => ""
def entText : PyData × PyData → Str
  | (.int k, _) => num k ++ ": " ++ "True"
  | (.tuple ks, _) => tupleText (ks.map numOf) ++ ": " ++ "True"
  | _ => ""
def kvText : List (PyData × PyData) → Str
  | (.none, _) :: (.none, .int t) :: (.none, .int b) :: _ => told (t, b)
  | kvs => dictText (kvs.map entText)
mutual
def txt : PyData → Str
  | .none => "None"
  | .bool b => if b then "True" else "False"
  | .int i => num i
  | .str s => reprText s
  | .list xs => listText (txts xs)
  | .tuple xs => tupleText (txts xs)
  | .dict kvs => kvText kvs
def txts : List PyData → List Str
  | [] => []
  | x :: xs => txt x :: txts xs
end
mutual
def dp : PyData → Nat
  | .list xs => dps xs + 1
  | .tuple xs => dps xs + 1
  | .dict _ => 2
  | _ => 0
def dps : List PyData → Nat
  | [] => 0
  | x :: xs => max (dp x) (dps xs)
end
/-- p in lowest terms, of a told size -/
structure OkF (n : Nat) (p : Int × Int) : Prop where
  red : Red p
  st : Sz n p.1
  sb : Sz n p.2
def OkKv (C : Addr) (kvs : List (PyData × PyData)) : Prop :=
  (∃ p, PyData.dict kvs = ratD C p ∧ OkF 1000 p) ∨ (∃ ks : List Int, PyData.dict kvs = dctD ks ∧ (∀ k ∈ ks, k.natAbs < 1000) ∧ ks.length ≤ 100) ∨ (∃ (k : List Int) (ks : List (List Int)), PyData.dict kvs = tkD (k :: ks) ∧ (∀ q ∈ k :: ks, q.length = 2 ∧ ∀ i ∈ q, i.natAbs < 1000) ∧ (k :: ks).length ≤ 100)
mutual
/-- its numbers are small, its fractions of the class C -/
def ok (C : Addr) : PyData → Prop
  | .int i => Sz 1000 i
  | .list xs => oks C xs
  | .tuple xs => oks C xs
  | .dict kvs => OkKv C kvs
  | _ => True
def oks (C : Addr) : List PyData → Prop
  | [] => True
  | x :: xs => ok C x ∧ oks C xs
end
mutual
/-- its text is at most so long -/
def wt : PyData → Nat
  | .none => 4
  | .bool _ => 5
  | .int _ => 2000
  | .str s => (reprText s).length
  | .dict _ => 500000
  | .list xs => wts xs + 3
  | .tuple xs => wts xs + 3
def wts : List PyData → Nat
  | [] => 0
  | x :: xs => wt x + 2 + wts xs
end
/-! ### one heap, one value -/
theorem ent_inj {a b : Int} (h : ((PyData.int a, PyData.bool true) : PyData × PyData) = (.int b, .bool true)) : a = b := by
  cases h
  rfl
theorem dK_inj {ks js : List Int} (h : ks.map ent = js.map ent) : ks = js := by
  induction ks generalizing js with
  | nil => cases js with
    | nil => rfl
    | cons j js => cases h
  | cons k ks ih => cases js with
    | nil => cases h
    | cons j js =>
      have h' := List.cons.inj h
      rw [ih h'.2]
      have : (ent k).1 = (ent j).1 := congrArg Prod.fst h'.1
      cases this
      rfl
theorem inl_inj {k j : List Int} (h : k.map (Sum.inl : Int → Key) = j.map Sum.inl) : k = j := by
  induction k generalizing j with
  | nil => cases j with
    | nil => rfl
    | cons y j => cases h
  | cons x k ih => cases j with
    | nil => cases h
    | cons y j =>
      have h' := List.cons.inj h
      rw [ih h'.2, Sum.inl.inj h'.1]
theorem dT_inj {ks js : List (List Int)} (h : ks.map entT = js.map entT) : ks = js := by
  induction ks generalizing js with
  | nil => cases js with
    | nil => rfl
    | cons j js => cases h
  | cons k ks ih => cases js with
    | nil => cases h
    | cons j js =>
      have h' := List.cons.inj h
      rw [ih h'.2, inl_inj (congrArg Prod.fst h'.1 : (entT k).1 = (entT j).1)]
section
variable {S S' : Addr → Prop} {H : Hp}
mutual
theorem Av.inj : ∀ {v : V} {d e : PyData}, Av S H v d → Av S' H v e → d = e
  | _, _, _, .non, h => by cases h; rfl
  | _, _, _, .bl b, h => by cases h; rfl
  | _, _, _, .int i, h => by cases h; rfl
  | _, _, _, .str x, h => by cases h; rfl
  | _, _, _, .dct _ e, h => by
    cases h with
    | dct _ e' =>
      rw [e] at e'
      have := dK_inj (HO.dK.inj (Option.some.inj e'))
      rw [this]
    | dcT _ e' => rw [e] at e'; cases e'
    | rat _ e' => rw [e] at e'; cases e'
    | lst _ e' _ => rw [e] at e'; cases e'
    | tup _ e' _ => rw [e] at e'; cases e'
  | _, _, _, .dcT _ e, h => by
    cases h with
    | dct _ e' => rw [e] at e'; cases e'
    | dcT _ e' =>
      rw [e] at e'
      have := dT_inj (HO.dT.inj (Option.some.inj e'))
      rw [this]
    | rat _ e' => rw [e] at e'; cases e'
    | lst _ e' _ => rw [e] at e'; cases e'
    | tup _ e' _ => rw [e] at e'; cases e'
  | _, _, _, .rat (p := p) _ e, h => by
    cases h with
    | dct _ e' => rw [e] at e'; cases e'
    | dcT _ e' => rw [e] at e'; cases e'
    | rat _ e' =>
      rename_i q _
      rw [e] at e'
      have z := HO.ins.inj (Option.some.inj e')
      obtain ⟨z1, _, z3⟩ := z
      obtain ⟨p1, p2⟩ := p
      obtain ⟨q1, q2⟩ := q
      cases z1
      cases z3
      rfl
    | lst _ e' _ => rw [e] at e'; cases e'
    | tup _ e' _ => rw [e] at e'; cases e'
  | _, _, _, .lst _ e g, h => by
    cases h with
    | dct _ e' => rw [e] at e'; cases e'
    | dcT _ e' => rw [e] at e'; cases e'
    | rat _ e' => rw [e] at e'; cases e'
    | lst _ e' g' => rw [e] at e'; cases e'; rw [Avs.inj g g']
    | tup _ e' _ => rw [e] at e'; cases e'
  | _, _, _, .tup _ e g, h => by
    cases h with
    | dct _ e' => rw [e] at e'; cases e'
    | dcT _ e' => rw [e] at e'; cases e'
    | rat _ e' => rw [e] at e'; cases e'
    | lst _ e' _ => rw [e] at e'; cases e'
    | tup _ e' g' => rw [e] at e'; cases e'; rw [Avs.inj g g']
theorem Avs.inj : ∀ {vs : List V} {ds es : List PyData}, Avs S H vs ds → Avs S' H vs es → ds = es
  | _, _, _, .nil, h => by cases h; rfl
  | _, _, _, .cons g r, h => by
    cases h with
    | cons g' r' => rw [Av.inj g g', Avs.inj r r']
end
end
/-! ### sizes -/
theorem log_lt {x : Int} {n : Nat} (h : Sz n x) (h0 : 0 < n) : x.natAbs.log2 < n := PySem.Flt.log2_lt_of h0 h
theorem num_len {i : Int} (h : Sz 1000 i) : (num i).length ≤ 1921 := PyProof.Rows.int_text_len_1921 (Nat.lt_of_lt_of_le (log_lt h (by decide)) (by decide))
theorem lg {i : Int} (h : Sz 1000 i) : i.natAbs.log2 < 1920 := Nat.lt_of_lt_of_le (log_lt h (by decide)) (by decide)
theorem len_app (x y : Str) : (x ++ y).length = x.length + y.length := by
  show (x.cps ++ y.cps).size = _
  rw [Array.size_append]
  rfl
theorem sz3 {i : Int} (h : i.natAbs < 1000) : Sz 1000 i := by
  unfold Sz
  exact Nat.lt_of_lt_of_le h (Nat.le_trans (by decide : 1000 ≤ 2 ^ 10) (Nat.pow_le_pow_right (by decide) (by decide)))
end GD

set_option Elab.async false
set_option linter.all false
set_option maxRecDepth 100000
set_option maxHeartbeats 4000000
/-! repr of values of all kinds. -/
namespace GD
open PySem L2 RQ
/-- repr of a fraction -/
structure SpText (C : Addr) (vs : List V) (H : Hp) (Q : VK) (E : XK) : Prop where
  ex : ∃ (a dx : Addr) (p : Int × Int), vs = [.ref a] ∧ H a = some (.ins C dx (rf p)) ∧ OkF 1000 p ∧ Q (.str (told p)) H
theorem piled_sum (ts : List Str) : piled ts = (ts.map (·.length)).sum + 2 * ts.length := by
  induction ts with
  | nil => rfl
  | cons t r ih =>
    rw [piled_cons, ih, List.map_cons, List.sum_cons, List.length_cons]
    omega
theorem listText_le (ts : List Str) : (listText ts).length ≤ piled ts + 3 := by
  have h := textFrom_len_le ts 0 "["
  have e : (listText ts).length = (textFrom 0 "[" ts).length + 1 := by
    show (textFrom 0 "[" ts ++ "]").length = _
    rw [PySem.strLen_append]
    rfl
  have e3 : (("[" : Str)).length = 1 := rfl
  rw [e, piled_sum]
  omega
theorem join_le (ts : List Str) : (Str.join ", " ts).length ≤ piled ts := by
  cases ts with
  | nil => exact Nat.le_refl _
  | cons t r =>
    have := join_length_add (t :: r) (by simp)
    omega
theorem tupleText_le (ts : List Str) : (tupleText ts).length ≤ piled ts + 3 := by
  unfold tupleText
  rw [PySem.strLen_append, PySem.strLen_append]
  have h1 : (("(" : Str)).length = 1 := rfl
  have h2 : (((if ts.length == 1 then ",)" else ")" : String)) : Str).length ≤ 2 := by
    split
    · exact Nat.le_refl 2
    · exact Nat.le_succ 1
  have h3 := join_le ts
  omega
theorem dictText_le (ts : List Str) : (dictText ts).length ≤ piled ts + 2 := by
  unfold dictText
  rw [PySem.strLen_append, PySem.strLen_append]
  have h1 : (("{" : Str)).length = 1 := rfl
  have h2 : (("}" : Str)).length = 1 := rfl
  have h3 := join_le ts
  omega
theorem piled_all {n : Nat} : ∀ {ts : List Str}, (∀ t ∈ ts, t.length ≤ n) → piled ts ≤ (n + 2) * ts.length
  | [], _ => Nat.zero_le _
  | t :: ts, h => by
    have h1 := h t (.head _)
    have h2 := piled_all fun t ht => h t (.tail _ ht)
    rw [piled_cons, List.length_cons, Nat.mul_succ]
    omega
theorem kv_rat (C : Addr) (p : Int × Int) : kvText [(.none, .int (C : Nat)), (.none, .int p.1), (.none, .int p.2)] = told p := by
  rw [kvText]
theorem ent_int (k : Int) : entText (.int k, .bool true) = num k ++ ": " ++ "True" := by
  rw [entText]
theorem ent_tup (k : List PyData) : entText (.tuple k, .bool true) = tupleText (k.map numOf) ++ ": " ++ "True" := by
  rw [entText]
theorem kv_not {kvs : List (PyData × PyData)} (h : ∀ v r, kvs ≠ (.none, v) :: r) : kvText kvs = dictText (kvs.map entText) := by
  unfold kvText
  split
  · exact absurd rfl (h _ _)
  · rfl
theorem kv_int (ks : List Int) : kvText (ks.map fun k => (.int k, .bool true)) = dictText (ks.map fun k => num k ++ ": " ++ "True") := by
  rw [kv_not]
  · rw [List.map_map]
    refine congrArg dictText (List.map_congr_left fun q _ => ?_)
    exact ent_int q
  · intro v r h
    cases ks with
    | nil => cases h
    | cons k ks =>
      have := congrArg Prod.fst (List.cons.inj h).1
      cases this
theorem num_of (q : List Int) : (q.map PyData.int).map numOf = q.map num := by
  rw [List.map_map]
  refine List.map_congr_left fun i _ => ?_
  rw [Function.comp, numOf]
abbrev tupE (k : List Int) : Str := tupleText (k.map num) ++ ": " ++ "True"
theorem ent_tupE (k : List Int) : entText (.tuple (k.map PyData.int), .bool true) = tupE k := by
  rw [ent_tup, num_of]
theorem kv_tup (k : List Int) (ks : List (List Int)) : kvText ((k :: ks).map fun k => (.tuple (k.map .int), .bool true)) = dictText ((k :: ks).map tupE) := by
  have h : kvText ((k :: ks).map fun k => (.tuple (k.map .int), .bool true)) = dictText (((k :: ks).map fun k => ((.tuple (k.map .int), .bool true) : PyData × PyData)).map entText) := kv_not fun v r h => by
    have := congrArg Prod.fst (List.cons.inj h).1
    cases this
  have h2 : ((k :: ks).map fun k => ((.tuple (k.map .int), .bool true) : PyData × PyData)).map entText = (k :: ks).map tupE := by
    generalize k :: ks = qs
    induction qs with
    | nil => rfl
    | cons q qs ih => rw [List.map_cons, List.map_cons, List.map_cons, ih, ent_tupE]
  rw [h, h2]
theorem kv_le {C : Addr} {kvs : List (PyData × PyData)} (h : OkKv C kvs) : (kvText kvs).length ≤ 500000 := by
  have n3 : ∀ {i : Int}, i.natAbs < 1000 → (num i).length ≤ 1921 := fun h => num_len (sz3 h)
  rcases h with ⟨p, e, hp⟩ | ⟨ks, e, hk, hl⟩ | ⟨k, ks, e, hk, hl⟩
  · cases e
    have l1 := num_len hp.st
    have l2 := num_len hp.sb
    show (("Ratio(" : Str) ++ num p.1 ++ ", " ++ num p.2 ++ ")").length ≤ 500000
    rw [len_app, len_app, len_app, len_app]
    show 6 + (num p.1).length + 2 + (num p.2).length + 1 ≤ 500000
    omega
  · have e' := PyData.dict.inj e
    subst e'
    rw [kv_int]
    have h1 := dictText_le (ks.map fun k => num k ++ ": " ++ "True")
    have h2 := piled_all (n := 1927) (ts := ks.map fun k => num k ++ ": " ++ "True") fun t ht => by
      obtain ⟨k, hk', rfl⟩ := List.mem_map.mp ht
      have := n3 (hk k hk')
      rw [len_app, len_app]
      show _ + 2 + 4 ≤ _
      omega
    rw [List.length_map] at h2
    have : 1929 * ks.length ≤ 1929 * 100 := Nat.mul_le_mul_left _ hl
    omega
  · have e' := PyData.dict.inj e
    subst e'
    rw [kv_tup]
    have h1 := dictText_le ((k :: ks).map tupE)
    have h2 := piled_all (n := 3855) (ts := (k :: ks).map tupE) fun t ht => by
      obtain ⟨q, hq, rfl⟩ := List.mem_map.mp ht
      obtain ⟨g1, g2⟩ := hk q hq
      have h3 := tupleText_le (q.map num)
      have h4 := piled_all (n := 1921) (ts := q.map num) fun t ht => by
        obtain ⟨i, hi, rfl⟩ := List.mem_map.mp ht
        exact n3 (g2 i hi)
      rw [List.length_map, g1] at h4
      rw [len_app, len_app]
      show _ + 2 + 4 ≤ _
      omega
    rw [List.length_map] at h2
    have : 3857 * (k :: ks).length ≤ 3857 * 100 := Nat.mul_le_mul_left _ hl
    omega
mutual
theorem txt_le {C : Addr} : ∀ d : PyData, ok C d → (txt d).length ≤ wt d
  | .none, _ => Nat.le_refl _
  | .bool b, _ => by
    cases b
    · exact Nat.le_refl 5
    · exact Nat.le_succ 4
  | .int i, h => by
    have := num_len h
    show (num i).length ≤ 2000
    omega
  | .str s, _ => Nat.le_refl _
  | .dict kvs, h => kv_le (C := C) h
  | .list xs, h => by
    have h1 := txts_le xs h
    have h2 := listText_le (txts xs)
    show (listText (txts xs)).length ≤ wts xs + 3
    omega
  | .tuple xs, h => by
    have h1 := txts_le xs h
    have h2 := tupleText_le (txts xs)
    show (tupleText (txts xs)).length ≤ wts xs + 3
    omega
theorem txts_le {C : Addr} : ∀ xs : List PyData, oks C xs → piled (txts xs) ≤ wts xs
  | [], _ => Nat.le_refl _
  | x :: xs, h => by
    have h1 := txt_le x h.1
    have h2 := txts_le xs h.2
    show piled (txt x :: txts xs) ≤ wt x + 2 + wts xs
    rw [piled_cons]
    omega
end
theorem paired_mono {α β : Type} {R S : α → β → Prop} : ∀ {xs : List α} {ys : List β}, Paired R xs ys → (∀ x y, R x y → S x y) → Paired S xs ys
  | _, _, .nil, _ => .nil
  | _, _, .cons r t, f => .cons (f _ _ r) (paired_mono t f)
/-- the objects that are less deep -/
def Lo (H : Hp) (n : Nat) (b : Addr) : Prop := ∃ (S : Addr → Prop) (d : PyData), Av S H (.ref b) d ∧ dp d < n
theorem Lo.not {S : Addr → Prop} {H : Hp} {a : Addr} {d : PyData} (h : Av S H (.ref a) d) : ¬ Lo H (dp d) a := fun ⟨_, e, he, hd⟩ => by
  rw [Av.inj h he] at hd
  exact Nat.lt_irrefl _ hd
theorem Lo.up {H : Hp} {d e : Nat} {b : Addr} (h : Lo H d b) (k : d ≤ e) : Lo H e b := let ⟨S, t, ht, hd⟩ := h; ⟨S, t, ht, Nat.lt_of_lt_of_le hd k⟩
section
variable {X : Cx} {C g : Addr} {H : Hp}
/-- the text of a dict with whole numbers as keys -/
theorem reprK_dI {pins : List (Addr × Obj)} {σ : L2.St} {s : Shared} (I : Inv X pins σ H s) {a : Addr} {ks : List Int} (hH : H a = some (.dK (ks.map ent))) (hk : ∀ k ∈ ks, k.natAbs < 1000) : ∃ o es n, s.heap.get? a = some o ∧ o.cls = .type "dict" ∧ o.data = .dict es n ∧ (a == sysModules) = false ∧ ReprEntriesK X.prog X.w [] s.heap 0 es.toList (ks.map fun k => num k ++ ": " ++ "True") := by
  obtain ⟨hz, hs, vs, kv, o, es, ep, e, hx, hd, hko, hp, hnd⟩ := I.hok a _ hH
  refine ⟨o, es, ep, e, hx.1, hd, hs, ?_⟩
  clear hd hs hH e hko hnd hz hx
  generalize es.toList = el at hp
  induction ks generalizing vs el with
  | nil =>
    cases kv
    cases hp
    exact .nil
  | cons k ks ih =>
    cases kv with
    | cons h1 h2 =>
      cases hp with
      | cons p1 p2 p3 =>
        rename_i kv' _ de des
        have ih' := ih (fun k hk' => hk k (.tail _ hk')) _ h2 _ p3
        have e1 : (ent k).1 = kv'.1 := h1.1
        have e2 : RelV (V.bl true) kv'.2 := h1.2
        rw [← e1] at p1
        rcases keyIs_shape (show keyIs (ent k).1 de.key = true from p1) with ⟨i, t, g1, g2⟩ | ⟨x, t, g1, _⟩
        · cases Sum.inl.inj g1
          have v2 : de.val = Value.bool true := p2.trans e2
          refine ReprEntriesK.cons (k := num k) (v := "True") ?_ ?_ ih'
          · rw [g2]
            exact ReprK.of_is (ReprIs.int t (lg (sz3 (hk k (.head _))))) _ _ _
          · rw [v2]
            exact ReprK.of_is (ReprIs.bool true) _ _ _
        · cases g1
/-- .. with pairs of whole numbers as keys -/
theorem reprK_dT {pins : List (Addr × Obj)} {σ : L2.St} {s : Shared} (I : Inv X pins σ H s) {a : Addr} {ks : List (List Int)} (hH : H a = some (.dT (ks.map entT))) (hk : ∀ q ∈ ks, ∀ i ∈ q, i.natAbs < 1000) : ∃ o es n as, s.heap.get? a = some o ∧ o.cls = .type "dict" ∧ o.data = .dict es n ∧ (a == sysModules) = false ∧ a ∉ as ∧ (∀ b ∈ as, ∃ q : List Int, H b = some (.tup (q.map V.int))) ∧ ReprEntriesK X.prog X.w as s.heap 1 es.toList (ks.map tupE) := by
  obtain ⟨hz, hs, xs, hp, o, es, ep, e, hx, hd, he, hnd⟩ := I.hok a _ hH
  have hkv : ∀ q : List Int, (q.map (Sum.inl : Int → Key)).map kV = q.map V.int := fun q => by
    rw [List.map_map]
    rfl
  refine ⟨o, es, ep, xs.map (·.2.1), e, hx.1, hd, hs, ?_, ?_, ?_⟩
  · intro h
    obtain ⟨x, hx', ex⟩ := List.mem_map.mp h
    have : ∃ q, H x.2.1 = some (.tup q) := by
      clear he hnd h
      generalize ks.map entT = kvs at hp
      induction hp with
      | nil => cases hx'
      | cons h1 h2 ih =>
        rcases List.mem_cons.mp hx' with rfl | hx'
        · exact ⟨_, h1.2.1⟩
        · exact ih hx'
    obtain ⟨q, hq⟩ := this
    rw [ex, hH] at hq
    cases hq
  · intro b hb
    obtain ⟨x, hx', rfl⟩ := List.mem_map.mp hb
    clear he hnd hb hH hk hz
    induction ks generalizing xs with
    | nil => cases hp; cases hx'
    | cons k ks ih =>
      cases hp with
      | cons h1 h2 =>
        rcases List.mem_cons.mp hx' with rfl | hx'
        · refine ⟨k, ?_⟩
          have := h1.2.1
          rw [show (entT k).1.map kV = k.map V.int from hkv k] at this
          exact this
        · exact ih _ h2 hx'
  · rw [he]
    clear he hnd hd e hH hz
    induction ks generalizing xs with
    | nil => cases hp; exact .nil
    | cons k ks ih =>
      cases hp with
      | cons h1 h2 =>
        rename_i x xs
        have ih' := ih (fun q hq => hk q (.tail _ hq)) _ h2
        have more : ∀ {el : List DictEntry} {ts : List Str}, ReprEntriesK X.prog X.w (xs.map (·.2.1)) s.heap 1 el ts → ReprEntriesK X.prog X.w ((x :: xs).map (·.2.1)) s.heap 1 el ts := fun {el ts} h => by
          induction h with
          | nil => exact .nil
          | cons a b c ih => exact .cons (a.more fun b hb => .tail _ hb) (b.more fun b hb => .tail _ hb) ih
        have ht : H x.2.1 = some (.tup (k.map V.int)) := by
          have := h1.2.1
          rw [show (entT k).1.map kV = k.map V.int from hkv k] at this
          exact this
        obtain ⟨_, its, rv, ot, et, hct, nt, hdt⟩ := I.hok x.2.1 _ ht
        have items : ∀ {q : List Int} {its : List Value}, (∀ i ∈ q, i.natAbs < 1000) → Vals (q.map V.int) its → ReprAllK X.prog X.w [] s.heap 0 its (q.map num) := fun {q its} hq rv => by
          induction q generalizing its with
          | nil => cases rv; exact .nil
          | cons i q ih =>
            cases rv with
            | cons r1 r2 =>
              obtain ⟨t, rfl⟩ := r1
              exact .cons (ReprK.of_is (ReprIs.int t (lg (sz3 (hq i (.head _))))) _ _ _) (ih (fun j hj => hq j (.tail _ hj)) r2)
        have kk : ReprK X.prog X.w [x.2.1] s.heap 1 (.ref x.2.1) (tupleText (k.map num)) := ReprK.tuple et hct hdt (by simp) (by simpa using items (hk k (.head _)) rv)
        have v2 : x.2.2 = Value.bool true := h1.2.2
        refine ReprEntriesK.cons (k := tupleText (k.map num)) (v := "True") (kk.more fun b hb => ?_) ?_ (more ih')
        · rw [List.mem_singleton.mp hb]
          exact .head _
        · show ReprK _ _ _ _ _ x.2.2 _
          rw [v2]
          exact ReprK.of_is (ReprIs.bool true) _ _ _
end
end GD

set_option Elab.async false
set_option linter.all false
set_option maxRecDepth 100000
set_option maxHeartbeats 4000000
/-! repr of values of all kinds, over the layer. -/
namespace GD
open PySem L2 RQ
theorem ok_rat {C D : Addr} {p : Int × Int} (h : OkKv C [(.none, .int (D : Nat)), (.none, .int p.1), (.none, .int p.2)]) : D = C ∧ OkF 1000 p := by
  rcases h with ⟨q, e, hq⟩ | ⟨ks, e, _⟩ | ⟨k, ks, e, _⟩
  · obtain ⟨p1, p2⟩ := p
    obtain ⟨q1, q2⟩ := q
    have e' := PyData.dict.inj e
    have e0 := congrArg (fun l : List (PyData × PyData) => l.map (·.2)) e'
    simp only [List.map_cons, List.map_nil, List.cons.injEq, PyData.int.injEq, and_true] at e0
    obtain ⟨a, b, c⟩ := e0
    cases b
    cases c
    exact ⟨by first | exact a | exact Int.ofNat_inj.mp a | exact Int.ofNat.inj a, hq⟩
  · have e' := PyData.dict.inj e
    cases ks with
    | nil => cases e'
    | cons k ks =>
      have := congrArg Prod.fst (List.cons.inj e').1
      cases this
  · have e' := PyData.dict.inj e
    have := congrArg Prod.fst (List.cons.inj e').1
    cases this
theorem ok_int {C : Addr} {ks : List Int} (h : OkKv C (ks.map fun k => (.int k, .bool true))) : ∀ k ∈ ks, k.natAbs < 1000 := by
  rcases h with ⟨q, e, hq⟩ | ⟨js, e, hj, hl⟩ | ⟨j, js, e, _⟩
  · have e' := PyData.dict.inj e
    cases ks with
    | nil => cases e'
    | cons k ks =>
      have := congrArg Prod.fst (List.cons.inj e').1
      cases this
  · have e' := PyData.dict.inj e
    have : ks = js := by
      clear hj e hl
      induction ks generalizing js with
      | nil => cases js with
        | nil => rfl
        | cons j js => cases e'
      | cons k ks ih => cases js with
        | nil => cases e'
        | cons j js =>
          have h' := List.cons.inj e'
          have h1 := congrArg Prod.fst h'.1
          have h2 := ih _ h'.2
          cases h1
          rw [h2]
    exact this ▸ hj
  · have e' := PyData.dict.inj e
    cases ks with
    | nil => cases e'
    | cons k ks =>
      have := congrArg Prod.fst (List.cons.inj e').1
      cases this
theorem int_list_inj {a b : List Int} (h : a.map PyData.int = b.map PyData.int) : a = b := by
  induction a generalizing b with
  | nil => cases b with
    | nil => rfl
    | cons y b => cases h
  | cons x a ih => cases b with
    | nil => cases h
    | cons y b =>
      have h' := List.cons.inj h
      have h1 := h'.1
      cases h1
      rw [ih h'.2]
theorem ok_tup {C : Addr} {k : List Int} {ks : List (List Int)} (h : OkKv C ((k :: ks).map fun k => (.tuple (k.map .int), .bool true))) : ∀ q ∈ k :: ks, ∀ i ∈ q, i.natAbs < 1000 := by
  rcases h with ⟨q, e, hq⟩ | ⟨js, e, _⟩ | ⟨j, js, e, hj, _⟩
  · have e' := PyData.dict.inj e
    have := congrArg Prod.fst (List.cons.inj e').1
    cases this
  · have e' := PyData.dict.inj e
    cases js with
    | nil => cases e'
    | cons k ks =>
      have := congrArg Prod.fst (List.cons.inj e').1
      cases this
  · have e' := PyData.dict.inj e
    have : k :: ks = j :: js := by
      clear hj e
      generalize k :: ks = qs at e' ⊢
      generalize j :: js = rs at e' ⊢
      induction qs generalizing rs with
      | nil => cases rs with
        | nil => rfl
        | cons r rs => cases e'
      | cons q qs ih => cases rs with
        | nil => cases e'
        | cons r rs =>
          have h' := List.cons.inj e'
          have h1 := congrArg Prod.fst h'.1
          have h2 : q = r := int_list_inj (PyData.tuple.inj h1)
          rw [ih _ h'.2, h2]
    rw [this]
    exact fun q hq => (hj q hq).2
section
variable {X : Cx} {S : Addr → Prop} {C g : Addr} {H : Hp}
theorem key_lo {b : Addr} {q : List Int} (h : H b = some (.tup (q.map V.int))) {n : Nat} (hn : 2 ≤ n) : Lo H n b := by
  refine ⟨fun _ => False, .tuple (q.map .int), .tup (fun z => z) h ?_, ?_⟩
  · induction q with
    | nil => exact .nil
    | cons i q ih =>
      exact .cons (.int i) (by
        clear ih h
        induction q with
        | nil => exact .nil
        | cons i q ih => exact .cons (.int i) ih)
  · have : ∀ q : List Int, dps (q.map .int) = 0 := fun q => by
      induction q with
      | nil => rfl
      | cons i q ih =>
        show max 0 (dps (q.map .int)) = 0
        rw [ih]
        rfl
    show dps (q.map .int) + 1 < n
    rw [this]
    omega
mutual
theorem ri_at (c : OneC X.K C g "__repr__") (F : FnR X.prog X.w X.K X.mg X.base CX0 1 g (SpText C)) : ∀ {v : V} {d : PyData}, Av S H v d → ok C d → wt d ≤ sizeLine → RN.RI X H (Lo H (dp d + 1)) (dp d + 1) v (txt d)
  | _, _, .non, _, _ => .non
  | _, _, .bl b, _, _ => .bl
  | _, _, .int i, h, _ => .int (lg h)
  | _, _, .str s, _, h => .str h
  | _, _, .dct (a := a) (ks := ks) n e, h, hw => by
    have hk := ok_int (ks := ks) h
    intro base hb A gs pins σ s v Q I r hg hc hr hf q
    cases (show v = Value.ref a from r)
    obtain ⟨o, es, ep, e1, e2, e3, e4, e5⟩ := reprK_dI I e hk
    have kk : ReprK X.prog X.w [a] s.heap 1 (.ref a) (dictText (ks.map fun k => num k ++ ": " ++ "True")) := ReprK.dict (d := 0) e1 e2 e3 e4 (by simp) e5
    have et : txt (.dict (ks.map fun k => (.int k, .bool true))) = dictText (ks.map fun k => num k ++ ": " ++ "True") := (by rw [txt] : txt (.dict (ks.map fun k => (.int k, .bool true))) = kvText (ks.map fun k => (.int k, .bool true))).trans (kv_int ks)
    rw [et] at hb q
    have := hr.un
    exact kk base hb A gs X.xe s Q hg (fun b hb => hc b (by rw [List.mem_singleton.mp hb]; exact ⟨S, _, .dct n e, Nat.lt_succ_self _⟩)) (by show A.units + 1 < cLine; omega) (fun _ _ e => e) fun h' tk kk => q _ (I.kept kk)
  | _, _, .dcT (a := a) (k := k) (ks := ks) n e, h, hw => by
    have hk := ok_tup h
    intro base hb A gs pins σ s v Q I r hg hc hr hf q
    cases (show v = Value.ref a from r)
    obtain ⟨o, es, ep, as, e1, e2, e3, e4, e5, e6, e7⟩ := reprK_dT I e hk
    have kk : ReprK X.prog X.w (a :: as) s.heap 2 (.ref a) (dictText ((k :: ks).map tupE)) := ReprK.dict (d := 1) e1 e2 e3 e4 e5 e7
    have et : txt (tkD (k :: ks)) = dictText ((k :: ks).map tupE) := (by rw [txt] : txt (tkD (k :: ks)) = kvText _).trans (kv_tup k ks)
    rw [et] at hb q
    have := hr.un
    refine kk base hb A gs X.xe s Q hg (fun b hb => hc b ?_) (by have : dp (tkD (k :: ks)) = 2 := rfl; omega) (fun _ _ e => e) fun h' tk kk => q _ (I.kept kk)
    rcases List.mem_cons.mp hb with rfl | hb
    · exact ⟨S, _, .dcT n e, Nat.lt_succ_self _⟩
    · obtain ⟨q, hq⟩ := e6 b hb
      exact key_lo hq (by have : dp (tkD (k :: ks)) = 2 := rfl; omega)
  | _, _, .rat (a := a) (C := D) (dx := dx) (p := p) n e, h, _ => by
    obtain ⟨rfl, hp⟩ := ok_rat h
    have et : txt (ratD D p) = told p := (by rw [txt] : txt (ratD D p) = kvText _).trans (kv_rat D p)
    rw [et]
    have := RN.RI.own (as := Lo H (dp (ratD D p) + 1)) (E := E0) (t := told p) c F pass0 e ⟨_, dx, p, rfl, e, hp, rfl, rfl⟩
    exact this.up (by show 1 ≤ 3; decide)
  | _, _, .lst (a := a) (ds := ds) n e r, h, hw => by
    have hw' : wts ds + 3 ≤ sizeLine := hw
    have ih := ri_ats c F r h (by omega)
    have hl : (txts ds).length = _ := (Paired.length ih).symm
    refine (RN.RI.list (d := dps ds + 1) e hl (RN.at_of ih) (Lo.not (.lst n e r))).more fun b hb => ?_
    rcases hb with rfl | hb
    · exact ⟨S, _, .lst n e r, Nat.lt_succ_self _⟩
    · exact hb.up (Nat.le_succ _)
  | _, _, .tup (a := a) (ds := ds) n e r, h, hw => by
    have hw' : wts ds + 3 ≤ sizeLine := hw
    have ih := ri_ats c F r h (by omega)
    refine (RN.RI.tuple (d := dps ds + 1) e ih (Lo.not (.tup n e r))).more fun b hb => ?_
    rcases hb with rfl | hb
    · exact ⟨S, _, .tup n e r, Nat.lt_succ_self _⟩
    · exact hb.up (Nat.le_succ _)
theorem ri_ats (c : OneC X.K C g "__repr__") (F : FnR X.prog X.w X.K X.mg X.base CX0 1 g (SpText C)) : ∀ {vs : List V} {ds : List PyData}, Avs S H vs ds → oks C ds → wts ds ≤ sizeLine → Paired (RN.RI X H (Lo H (dps ds + 1)) (dps ds + 1)) vs (txts ds)
  | _, _, .nil, _, _ => .nil
  | _, _, .cons (d := t) (ds := ts) a r, h, hw => by
    have hw' : wt t + 2 + wts ts ≤ sizeLine := hw
    have m1 : dp t + 1 ≤ max (dp t) (dps ts) + 1 := Nat.succ_le_succ (Nat.le_max_left _ _)
    have m2 : dps ts + 1 ≤ max (dp t) (dps ts) + 1 := Nat.succ_le_succ (Nat.le_max_right _ _)
    exact .cons (((ri_at c F a h.1 (by omega)).more fun b hb => hb.up m1).up m1) (paired_mono (ri_ats c F r h.2 (by omega)) fun x y z => (z.more fun b hb => hb.up m2).up m2)
end
/-- repr of a value of any kind -/
def rReprT (X : Cx) (C : Addr) : List V → Hp → VK → Prop := fun vs H Q => ∃ (S : Addr → Prop) (v : V) (d : PyData), vs = [v] ∧ Av S H v d ∧ ok C d ∧ wt d ≤ sizeLine ∧ Room (dp d + 3) X.A ∧ Q (.str (txt d)) H
theorem call_reprT (hgd : X.A.guards = some []) (c : OneC X.K C g "__repr__") (F : FnR X.prog X.w X.K X.mg X.base CX0 1 g (SpText C)) : CallR X (.builtin "repr") (rReprT X C) := by
  intro pins s σ H xs us Q I r h
  obtain ⟨S, v, d, rfl, hat, ok, hw, hr, q⟩ := h
  have tl := txt_le d ok
  cases hat with
  | non =>
    obtain ⟨u, rfl, ru⟩ := r.one
    cases (show u = Value.none from ru)
    exact PySem.P.repr_of_none ⟨.str _, H, I.tok _, ⟨_, rfl⟩, q⟩
  | bl b =>
    obtain ⟨u, rfl, ru⟩ := r.one
    cases (show u = Value.bool b from ru)
    exact PySem.P.repr_of_bool ⟨.str _, H, I.tok _, ⟨_, rfl⟩, q⟩
  | int i =>
    obtain ⟨u, rfl, tk, rfl⟩ := r.one
    exact PySem.P.repr_of_int (lg ok) ⟨.str _, H, I.tok _, ⟨_, rfl⟩, q⟩
  | str z =>
    obtain ⟨u, rfl, tk, rfl⟩ := r.one
    exact PySem.P.repr_of_str ⟨.str _, H, I.tok _, ⟨_, rfl⟩, q⟩ hw
  | dct n hH =>
    rename_i a ks
    obtain ⟨u, rfl, ru⟩ := r.one
    cases (show u = Value.ref a from ru)
    have hk := ok_int (ks := ks) ok
    obtain ⟨o, es, ep, e1, e2, e3, e4, e5⟩ := reprK_dI I hH hk
    have et : txt (.dict (ks.map fun k => (.int k, .bool true))) = dictText (ks.map fun k => num k ++ ": " ++ "True") := (by rw [txt] : txt (.dict (ks.map fun k => (.int k, .bool true))) = kvText (ks.map fun k => (.int k, .bool true))).trans (kv_int ks)
    have hr1 : Room 1 X.A.in1 := (hr.mono (by decide : 2 ≤ 5)).in1
    have hu := hr1.un
    have hu2 : X.A.in1.units = X.A.units + 1 := rfl
    refine call_repr_slot (by omega) ⟨o, e1, e2⟩ PySem.F.slot_dict_repr ?_
    rw [et] at tl q
    refine call_dict_reprK (as := []) (d := 0) e1 e2 e3 e4 (by simp) e5 (g := []) hgd (fun b _ => Clear.nil b) (by omega) (fun _ _ e => e) (fun h' u' tk hk => ⟨_, _, rfl, .str _, H, I.kept hk, ⟨_, rfl⟩, q⟩) (Nat.le_trans tl hw)
  | dcT n hH =>
    rename_i a k ks
    obtain ⟨u, rfl, ru⟩ := r.one
    cases (show u = Value.ref a from ru)
    have hk := ok_tup ok
    obtain ⟨o, es, ep, as, e1, e2, e3, e4, e5, e6, e7⟩ := reprK_dT I hH hk
    have et : txt (tkD (k :: ks)) = dictText ((k :: ks).map tupE) := (by rw [txt] : txt (tkD (k :: ks)) = kvText _).trans (kv_tup k ks)
    have hr1 : Room 2 X.A.in1 := (hr.mono (by decide : 3 ≤ 5)).in1
    have hu := hr1.un
    have hu2 : X.A.in1.units = X.A.units + 1 := rfl
    refine call_repr_slot (by omega) ⟨o, e1, e2⟩ PySem.F.slot_dict_repr ?_
    rw [et] at tl q
    refine call_dict_reprK (as := as) (d := 1) e1 e2 e3 e4 e5 e7 (g := []) hgd (fun b _ => Clear.nil b) (by omega) (fun _ _ e => e) (fun h' u' tk hk => ⟨_, _, rfl, .str _, H, I.kept hk, ⟨_, rfl⟩, q⟩) (Nat.le_trans tl hw)
  | rat n hR =>
    rename_i a D dx p
    obtain ⟨rfl, hp⟩ := ok_rat ok
    have et : txt (ratD D p) = told p := (by rw [txt] : txt (ratD D p) = kvText _).trans (kv_rat D p)
    rw [et] at q
    exact call_reprI (E := E0) c F (hr.mono (by show 2 ≤ 5; decide)) pass0 pins s σ H _ us Q I r ⟨_, dx, _, rfl, hR, ⟨_, _, _, rfl, hR, hp, ⟨_, rfl, q⟩⟩⟩
  | lst n hH hs =>
    have hw' : wts _ + 3 ≤ sizeLine := hw
    have ih := ri_ats c F hs ok (by omega)
    exact RN.call_reprN hgd pins s σ H _ us Q I r ⟨_, _, _, _, rfl, Nat.le_trans tl hw, hr.mono (by show dps _ + 1 + 2 ≤ dps _ + 1 + 3; omega), Lo.not (.lst n hH hs), q, .inl ⟨_, _, hH, rfl, ih⟩⟩
  | tup n hH hs =>
    have hw' : wts _ + 3 ≤ sizeLine := hw
    have ih := ri_ats c F hs ok (by omega)
    exact RN.call_reprN hgd pins s σ H _ us Q I r ⟨_, _, _, _, rfl, Nat.le_trans tl hw, hr.mono (by show dps _ + 1 + 2 ≤ dps _ + 1 + 3; omega), Lo.not (.tup n hH hs), q, .inr ⟨_, _, hH, rfl, ih⟩⟩
end
end GD

set_option Elab.async false
set_option linter.all false
set_option maxRecDepth 100000
set_option maxHeartbeats 4000000
/-! How many unlike whole numbers a list, a tuple holds. -/
namespace GS
open PySem PySem.Spec PyProof.Rows L2
section
variable {P : Program} {w : World} {A : Around} {E : Value → Shared → Prop} {s : Shared}
abbrev metL (ns : List Int) : List Int := firstMet (fun i => ns.getD i 0) ns.length
/-- what set.__init__ does with a tuple of whole numbers, a new set at hand -/
theorem init_tup {l : Addr} {items : Array Value} (ns : List Int) (hh : A.handled = none) (hl : s.heap.IsTuple l items) (hit : IntsAre items.toList ns) (hb : ns.length + 1 < scanBound) :
    codeAny (model P w) A (.call (.builtin "set.__init__") ⟨[.ref s.heap.objs.size, .ref l], []⟩)
      (wants (fun r s₂ => r = .none ∧ ∃ h' tk, s₂ = { s with heap := h', toks := tk } ∧ h'.SetOf (intKind P w) s.heap.objs.size (fun j => (metL ns).any (· == j)) (metL ns).length ∧ ∀ b o, s.heap.get? b = some o → h'.get? b = some o) E) { s with heap := s.heap.push (setO w) } := by
  have many : items.size = ns.length := by have q := IntsAre.length hit; rw [Array.length_toList] at q; exact q
  have atS : (s.heap.push (setO w)).get? s.heap.objs.size = some (setO w) := Heap.get?_push_size _ rfl
  have ty : Shared.TypeIs { s with heap := s.heap.push (setO w) } (.ref s.heap.objs.size) "set" := ⟨_, atS, rfl⟩
  refine codeAny_call_builtin F.called_set.init.plain F.entry_set_init (check_set_init_1 ty ?_)
  obtain ⟨⟨_, od, _, os⟩, hol, hcl, nl, hdl⟩ := hl
  simp only at hcl hdl; subst hcl; subst hdl
  have hol' : (s.heap.push (setO w)).get? l = some { cls := .type "tuple", dict := od, data := .seq items nl, slots := os } := Heap.get?_push_of_some _ hol
  have n1 := F.sub_tuple_set; have n2 := F.sub_tuple_frozenset
  have n3 : (Value.type "tuple" == Value.type "dict") = false := by decide
  have isl : (s.heap.push (setO w)).IsTuple l items := ⟨_, hol', rfl, nl, rfl⟩
  unfold Builtin.«set.__init__» noKeywords Builtin.Frozenset.updateFrom; generalize hPI : pyIter = PI; wp_walk; subst hPI
  refine wpAny_pyIter_tuple isl (wpAny_bind (wpAny_runValue ?_))
  have lt : l < s.heap.objs.size := Heap.lt_size hol
  have sz : (s.heap.push (setO w)).objs.size = s.heap.objs.size + 1 := Heap.size_push ..
  have nI : l ≠ (s.heap.push (setO w)).objs.size := fun z => absurd lt (by rw [z, sz]; exact Nat.not_lt_of_le (Nat.le_succ _))
  have out : s.heap.objs.size ∉ [(s.heap.push (setO w)).objs.size, l] := fun z => by
    rcases List.mem_cons.mp z with z | z
    · rw [sz] at z
      exact Nat.succ_ne_self _ z.symm
    · have z := List.mem_singleton.mp z
      rw [← z] at lt
      exact Nat.lt_irrefl _ lt
  have vals : ∀ (i : Nat) (v : Value), items[i]? = some v → ∃ t, v = .int ((fun i => ns.getD i 0) i) t := fun i v hv => IntsAre.int_at hit i v (by rw [Array.getElem?_toList]; exact hv)
  have hh3 : A.in1.in1.handled = none := by simp [hh]
  refine codeAny_set_update_loopS ((Walks.tuple hh3 _ l nI items).toS) s.heap.objs.size out (fun i => ns.getD i 0) vals (by rw [many]; exact hb) (items.size - 0) 0 _ (by omega) (Nat.zero_le _) ?qst ?qzero ?qrest
  case qst => exact ⟨⟨_, Heap.get?_push_size _ rfl, rfl, rfl⟩, isl.push _⟩
  case qzero => exact SetOf_congr ((setObjOf_fresh (knd := intKind P w) _).setOf (Heap.get?_push_of_some _ atS) (by unfold scanBound; omega)) (fun _ => rfl) rfl
  case qrest =>
    rintro ⟨h', g2, d', tk', os'⟩ hm hS'
    have eg : g2 = s.gens := hm.gens; have ed : d' = s.drawn := hm.drawn; have eo : os' = s.os := hm.os
    subst eg; subst ed; subst eo
    show wpAny _ _ _ _ _ _; refine wpAny_pure ?_
    show wpAny _ _ (ret Value.none) _ _ _
    rw [many] at hS'
    refine wpAny_pure ⟨rfl, h', tk', rfl, hS', fun b o e => ?_⟩
    have hb0 : b < s.heap.objs.size := Heap.lt_size e
    refine hm.heap b o (fun z => ?_) (Heap.get?_push_of_some _ (Heap.get?_push_of_some _ e))
    rcases List.mem_cons.mp z with z | z
    · rw [z] at hb0
      exact Nat.lt_irrefl _ hb0
    · have z := List.mem_singleton.mp z
      rw [z, sz] at hb0
      exact Nat.not_lt_of_le (Nat.le_succ _) hb0
set_option maxHeartbeats 3200000 in
theorem set_of_tup {l : Addr} {items : Array Value} (ns : List Int) {Q : Value → Shared → Prop} (hh : A.handled = none) (hl : s.heap.IsTuple l items) (hit : IntsAre items.toList ns) (hb : ns.length + 1 < scanBound)
    (h : ∀ (h' : Heap) (tk : Nat), h'.SetOf (intKind P w) s.heap.objs.size (fun j => (metL ns).any (· == j)) (metL ns).length → (∀ b o, s.heap.get? b = some o → h'.get? b = some o) → Q (.ref s.heap.objs.size) { s with heap := h', toks := tk }) : wpAny (model P w) A (call (.type "set") [.ref l]) Q E s := by
  obtain ⟨c, tl, hmro⟩ := F.called_set.mro; have g1 := F.called_set.made; have g2 := F.called_set.sub
  refine wpAny_call (codeAny_of_tree ?_); show wpAny _ _ (callAny (.type "set") _) _ _ _
  refine wpAny_pure ⟨Code.quiet_builtin _ (by decide +kernel), codeAny_builtin F.entry_type_call ?_⟩; rw [Around.under_plain (weight_type_call_type "set" [.ref l] []) rfl]
  have g3 := F.called_set.notType; have g4 := F.called_set.canCreate; have g5 := F.typeCall_set_1 (.ref l)
  repeat any_goals first | assumption | wp_step
  refine codeAny_mono (code_set_led1 (.ref l) (E := E) (Q₁ := fun obj s₁ => obj = .ref s.heap.objs.size ∧ s₁ = { s with heap := s.heap.push (setO w) }) ⟨rfl, rfl⟩) fun r s₁ hr => ?_
  match r, hr with
  | .error e, hr => exact hr
  | .ok (.ret obj), hr =>
    obtain ⟨rfl, rfl⟩ := hr
    have ty : Shared.TypeIs { s with heap := s.heap.push (setO w) } (.ref s.heap.objs.size) "set" := ⟨_, Heap.get?_push_size _ rfl, rfl⟩
    have g6 := F.called_set.init.lookup; have g7 := F.called_set.init.bind (.ref s.heap.objs.size)
    repeat any_goals first | assumption | wp_step
    refine codeAny_mono (init_tup (E := E) ns (by simp [hh]) hl hit hb) fun r₂ s₂ hr₂ => ?_
    match r₂, hr₂ with
    | .error e, hr₂ => exact hr₂
    | .ok (.ret r), hr₂ =>
      obtain ⟨rfl, h', tk, rfl, hS', hk'⟩ := hr₂
      repeat any_goals first | assumption | wp_step
      exact h _ _ hS' hk'
end
theorem met_dk (ns : List Int) : metL ns = GD.dk [] ns := by
  have e : (List.range ns.length).map (fun i => ns.getD i 0) = ns := by
    refine List.ext_getElem? fun i => ?_
    rw [List.getElem?_map]
    by_cases h : i < ns.length
    · rw [List.getElem?_range h, List.getElem?_eq_getElem h]
      show some (ns.getD i 0) = _
      rw [List.getD_eq_getElem?_getD, List.getElem?_eq_getElem h]
      rfl
    · rw [List.getElem?_eq_none (by rw [List.length_range]; omega), List.getElem?_eq_none (by omega)]
      rfl
  have go : ∀ (xs acc : List Int), xs.foldl step_dedup acc = GD.dk acc xs := fun xs => by
    induction xs with
    | nil => intro acc; rfl
    | cons x xs ih =>
      intro acc
      rw [List.foldl_cons, ih, GD.dk]
      congr 1
      unfold step_dedup
      have : (acc.any (· == x)) = decide (x ∈ acc) := by
        rw [Bool.eq_iff_iff, List.any_eq_true, decide_eq_true_eq]
        exact ⟨fun ⟨y, hy, z⟩ => (beq_iff_eq.mp z) ▸ hy, fun h => ⟨x, h, beq_self_eq_true x⟩⟩
      rw [this]
      by_cases h : x ∈ acc <;> simp [h]
  unfold metL firstMet
  rw [e, go]
def tLenSetX (K : PySem.W.Frag) (ta : TE) : TE := fun σ H Q => ta σ H fun x H1 => ∃ (l : Addr) (ns : List Int), x = .ref l ∧ (SqL K H1 l (ns.map V.int) ∨ SqT K H1 l (ns.map V.int)) ∧ ns.length ≤ 4000 ∧ Q (.int ((GD.dk [] ns).length : Nat)) H1
/-- len(set(e)), e a list or a tuple -/
theorem pe_lenSetX {X : Cx} {a : Expr} {ta : TE} {p p2 q pos : Pos} (hg : Gl X "len") (hm : X.mg "len" = none) (hg2 : Gl X "set") (hm2 : X.mg "set" = none) (ha : PE X a ta) (hc : X.calm = true := by rfl)
    (na : starEach [a] X.env = (false, eval a X.env) :: starEach [] X.env := by rfl) : PE X (.Call (.Name "len" p) [.Call (.Name "set" p2) [a] [] q] [] pos) (tLenSetX X.K ta) := by
  refine ⟨fun pins s σ H Q I h => Call_ (ld_blt I hg hm boot_len (PyProof.Rows.callWith_builtin1 (PyProof.Rows.args_cons (Call_ (ld_blt I hg2 hm2 boot_set ?_)) rfl) rfl rfl))⟩
  refine PyProof.Rows.callWith_type1 (PyProof.Rows.args_cons (thn (ha.run pins s σ H _ I h) fun v s1 ⟨x, H1, I1, r1, q1⟩ => PyProof.Rows.args_nil ?_) na) na rfl
  obtain ⟨l, ns, rfl, hq, hl, q1⟩ := q1
  cases r1
  have dl : (GD.dk [] ns).length ≤ ns.length := by
    have := firstMet_length_le (fun i => ns.getD i 0) ns.length
    rw [← met_dk]
    exact this
  have fin : ∀ (h' : Heap) (tk : Nat), h'.SetOf (intKind X.prog X.w) s1.heap.objs.size (fun j => (metL ns).any (· == j)) (metL ns).length → (∀ b o, s1.heap.get? b = some o → h'.get? b = some o) → wpAny (model X.prog X.w) X.A (call (.builtin "len") [.ref s1.heap.objs.size]) (EP X pins σ Q) X.xe { s1 with heap := h', toks := tk } := fun h' tk hS hk => by
    rw [met_dk] at hS
    obtain ⟨o, es, ep, t, ho, hex, hd, _, _, _, hf, hn⟩ := hS
    have I2 : Inv X pins σ H1 { s1 with heap := h', toks := tk } := I1.kept fun b o e => hk b o e
    exact call_len_set ho hex hd hf (by rw [hn] <;> omega) ⟨.int (GD.dk [] ns).length, H1, I2.tok _, ⟨_, by rw [hn]⟩, q1⟩
  rcases hq with hq | hq
  · obtain ⟨its, r, pl, hz⟩ := I1.list hq
    have hlen : its.toArray.size = ns.length := by rw [List.size_toArray, ← r.length, List.length_map]
    refine call_set_list (ns := ns) (I1.ok.hd hc) pl.isList (by simpa using RZ.intsAre_vals r) (by rw [hlen]; unfold scanBound; omega) fun h' tk hS hk => PyProof.Rows.args_nil (fin h' tk ?_ fun b o e => hk b o (Heap.lt_size e) e)
    rw [hlen] at hS
    exact hS
  · obtain ⟨its, r, pl, hz⟩ := I1.tuple hq
    refine set_of_tup ns (I1.ok.hd hc) pl (by simpa using RZ.intsAre_vals r) (by unfold scanBound; omega) fun h' tk hS hk => PyProof.Rows.args_nil (fin h' tk hS hk)
end GS
namespace GD
open PySem L2
theorem int_vals {S : Addr → Prop} {H : Hp} : ∀ {vs : List V} {zs : List Int}, Avs S H vs (zs.map PyData.int) → vs = zs.map V.int
  | _, [], .nil => rfl
  | _, z :: zs, .cons b r => by
    cases b
    rw [int_vals r]
    rfl
theorem EvG.lenSetX {γ : List (Option PyData)} {K : PySem.W.Frag} {te : TE} {ns : List Int} {d : PyData} (hd : d = .list (ns.map PyData.int) ∨ d = .tuple (ns.map PyData.int)) (h : EvG te γ d) (hl : ns.length ≤ 4000) : EvG (GS.tLenSetX K te) γ (.int ((dk [] ns).length : Nat)) := fun S H σ l e Q q =>
  h S H σ l e _ fun H1 v s1 av => by
    rcases hd with rfl | rfl
    · cases av with
      | lst n f hs =>
        have := int_vals hs
        subst this
        exact ⟨_, ns, rfl, .inl (SqL.of f), hl, q _ _ s1 (.int _)⟩
    · cases av with
      | tup n f hs =>
        have := int_vals hs
        subst this
        exact ⟨_, ns, rfl, .inr (SqT.of f), hl, q _ _ s1 (.int _)⟩
end GD

set_option Elab.async false
set_option linter.all false
set_option maxRecDepth 100000
set_option maxHeartbeats 4000000
/-! dict(pairs), the keys tuples of whole numbers. -/
namespace GS
open PySem L2 GD
abbrev keyL (k : List Int) : List Key := k.map Sum.inl
abbrev entH (kb : List Int × Addr) : List Key × Addr × Value := (keyL kb.1, kb.2, .bool true)
theorem kt_all {H : Hp} : ∀ {kbs : List (List Int × Addr)} {kvs : List (List Key × V)} {xs : List (List Key × Addr × Value)}, KT H kvs xs → (∀ kb ∈ kbs, H kb.2 = some (.tup (kb.1.map V.int))) → KT H (kbs.foldl (fun acc kb => putK acc (keyL kb.1) (V.bl true)) kvs) (storedAllH xs (kbs.map entH))
  | [], _, _, r, _ => r
  | kb :: kbs, kvs, xs, r, h => by
    have hb : H kb.2 = some (.tup ((keyL kb.1).map kV)) := by
      rw [h kb (.head _), List.map_map]
      rfl
    have := kt_all (kbs := kbs) (r.put (keyL kb.1) hb (show RelV (V.bl true) (Value.bool true) from rfl)) fun q hq => h q (.tail _ hq)
    exact this
theorem put_new {acc : List (List Key × V)} {k : List Key} (h : ∀ kv ∈ acc, kv.1 ≠ k) : putK acc k (V.bl true) = acc ++ [(k, V.bl true)] := by
  unfold putK
  rw [if_neg]
  intro z
  obtain ⟨kv, hkv, e⟩ := List.any_eq_true.mp z
  exact h kv hkv (of_decide_eq_true e)
theorem put_all : ∀ {kbs : List (List Int × Addr)} {acc : List (List Int)}, (kbs.map (·.1)).Nodup → (∀ kb ∈ kbs, kb.1 ∉ acc) → kbs.foldl (fun acc kb => putK acc (keyL kb.1) (V.bl true)) (acc.map entT) = (acc ++ kbs.map (·.1)).map entT
  | [], acc, _, _ => by rw [List.map_nil, List.append_nil]; rfl
  | kb :: kbs, acc, hn, hd => by
    rw [List.map_cons] at hn
    have hn' := List.nodup_cons.mp hn
    rw [List.foldl_cons, put_new fun kv hkv e => by
      obtain ⟨j, hj, rfl⟩ := List.mem_map.mp hkv
      have : j = kb.1 := inl_inj e
      exact hd kb (.head _) (this ▸ hj)]
    have : acc.map entT ++ [(keyL kb.1, V.bl true)] = (acc ++ [kb.1]).map entT := by
      rw [List.map_append]
      rfl
    rw [this, put_all hn'.2 fun q hq z => ?_, List.map_cons, List.append_assoc]
    · rfl
    · rcases List.mem_append.mp z with z | z
      · exact hd q (.tail _ hq) z
      · rw [List.mem_singleton] at z
        exact hn'.1 (List.mem_map.mpr ⟨q, hq, z⟩)
abbrev rDctT (K : PySem.W.Frag) : List V → Hp → VK → Prop := fun xs H Q => ∃ (a : Addr) (ps : List Addr) (kbs : List (List Int × Addr)), xs = [.ref a] ∧ SqL K H a (ps.map V.ref) ∧ Paired (fun p (kb : List Int × Addr) => SqT K H p [.ref kb.2, .bl true] ∧ H kb.2 = some (.tup (kb.1.map V.int))) ps kbs ∧ (kbs.map (·.1)).Nodup ∧
  ∀ p, H p = none → Q (.ref p) (upd H p (.dT ((kbs.map (·.1)).map entT)))
section
variable {X : Cx}
theorem pairs_T {pins : List (Addr × Obj)} {σ : L2.St} {H : Hp} {s : Shared} (I : Inv X pins σ H s) : ∀ {ps : List Addr} {kbs : List (List Int × Addr)}, Paired (fun p (kb : List Int × Addr) => SqT X.K H p [.ref kb.2, .bl true] ∧ H kb.2 = some (.tup (kb.1.map V.int))) ps kbs →
    ps.length = kbs.length ∧ ∀ (j : Nat) (k v : Value), (kbs.map fun kb => ((Value.ref kb.2, Value.bool true) : Value × Value))[j]? = some (k, v) → ∃ b, ps[j]? = some b ∧ s.heap.IsTuple b #[k, v]
  | _, _, .nil => ⟨rfl, fun j k v e => by simp at e⟩
  | _, _, .cons (a := p) (b := kb) h t => by
    obtain ⟨hl, hp⟩ := pairs_T I t
    obtain ⟨its, rv, ht, _⟩ := I.tuple h.1
    obtain ⟨u, y, ei, ru, ry⟩ := vals2 rv
    subst ei
    refine ⟨by rw [List.length_cons, List.length_cons, hl], fun j k v e => ?_⟩
    cases j with
    | zero =>
      have e' := Option.some.inj e
      have e1 : (Value.ref kb.2, Value.bool true) = (k, v) := e'
      cases e1
      have r1 : u = Value.ref kb.2 := ru
      have r2 : y = Value.bool true := ry
      rw [r1, r2] at ht
      exact ⟨p, rfl, ht⟩
    | succ j => exact hp j k v (by simpa using e)
theorem call_dictT (hcalm : X.calm = true) (hu : X.A.units + 64 < cLine) : CallR X (.type "dict") (rDctT X.K) := by
  intro pins s σ H xs us Q I r q
  obtain ⟨a, ps, kbs, ex, hq, hp, hn, q⟩ := q
  subst ex
  obtain ⟨u, eu, rx⟩ := vals1 r
  subst eu
  cases rx
  obtain ⟨its, rv, pl, hz⟩ := I.list hq
  have ei := refs_at rv
  subst ei
  rw [List.length_map] at hz
  obtain ⟨hl, hpr⟩ := pairs_T I hp
  have hin : ∀ kb ∈ kbs, H kb.2 = some (.tup (kb.1.map V.int)) := by
    clear hn q hl hpr hz pl rv hq
    induction hp with
    | nil => intro kb h; cases h
    | cons h1 h2 ih =>
      intro kb h
      rcases List.mem_cons.mp h with rfl | h
      · exact h1.2
      · exact ih kb h
  obtain ⟨o, n, ho, hc, hd, hdat⟩ := pl
  have ks : KeysStay (tupleKind (mixKind X.prog X.w)) s.heap s.heap.objs.size [] (kbs.map entH) := fun h' hk x hx => by
    obtain ⟨kb, hkb, rfl⟩ := List.mem_map.mp hx
    obtain ⟨_, it2, rv2, o2, ho2, hc2, n2, hd2⟩ := I.hok kb.2 _ (hin kb hkb)
    have rv3 : Vals ((keyL kb.1).map kV) it2 := by
      rw [List.map_map]
      exact rv2
    exact ⟨o2, _, n2, hk _ _ (Nat.ne_of_lt (Heap.lt_size ho2)) (fun z => nomatch z) ho2, hc2, hd2, by simpa using items_are (P := X.prog) (w := X.w) rv3⟩
  refine call_dict_pairsH (knd := tupleKind (mixKind X.prog X.w)) (ps := kbs.map entH) (PairArg.list a _ (fun j => ps.getD j 0) (kbs.map fun kb => (Value.ref kb.2, Value.bool true))) (I.ok.hd hcalm) (show X.A.in1.in1.units < cLine from by show X.A.units + 1 + 1 < cLine; omega) ⟨⟨o, n, ho, hc, hd, hdat⟩, by rw [List.size_toArray, List.length_map, List.length_map, hl], fun j k v e => ?_⟩ ⟨by rw [List.length_map, List.length_map], fun i key v e => ?_⟩ ks (by rw [List.length_map, ← hl]; exact hz) fun h' tk hd' hk => ?_
  · obtain ⟨b, hb, ht⟩ := hpr j k v e
    have eb : ps.getD j 0 = b := by rw [List.getD_eq_getElem?_getD, hb]; rfl
    show (ps.map Value.ref).toArray[j]? = some (.ref (ps.getD j 0)) ∧ PairAt s.heap (ps.getD j 0) k v
    rw [eb]
    exact ⟨by simp [hb], .inl ht⟩
  · have e' : (kbs.map fun kb => ((Value.ref kb.2, Value.bool true) : Value × Value))[i]? = some (key, v) := e
    rw [List.getElem?_map] at e'
    cases hkb : kbs[i]? with
    | none => rw [hkb] at e'; cases e'
    | some kb =>
      rw [hkb] at e'
      have e2 : (Value.ref kb.2, Value.bool true) = (key, v) := Option.some.inj e'
      cases e2
      exact ⟨keyL kb.1, kb.2, by rw [List.getElem?_map, hkb]; rfl, rfl⟩
  · have hm : (s.heap.objs.size == sysModules) = false := beq_eq_false_iff_ne.mpr (Nat.ne_of_gt I.big)
    have hfree := I.hok.fresh (Nat.le_refl s.heap.objs.size)
    have kt := kt_all (H := H) (kbs := kbs) (kvs := []) (xs := []) .nil hin
    have ea := put_all (acc := []) hn fun kb _ z => by cases z
    rw [List.nil_append] at ea
    rw [show kbs.foldl (fun acc kb => putK acc (keyL kb.1) (V.bl true)) [] = (kbs.map (·.1)).map entT from ea] at kt
    have hlen : ((kbs.map (·.1)).map entT).length ≤ sizeLine := by rw [List.length_map, List.length_map, ← hl]; exact hz
    obtain ⟨od, es, ep, d1, d2, d3, d4, d5, d6⟩ := hd'
    refine ⟨.ref s.heap.objs.size, upd H s.heap.objs.size (.dT ((kbs.map (·.1)).map entT)), I.laid (t' := tk) (fun b o e => hk b o (fun z => nomatch z) e) (Nat.le_refl _) (show ObjOk X.prog X.w _ _ _ (.dT ((kbs.map (·.1)).map entT)) from ⟨hlen, hm, _, kt.keeps fun b ys e => ?_, od, es, ep, d1, d2, d3, d4, d6⟩), rfl, q _ hfree⟩
    rw [upd_ne (ne_of_none e hfree)]
    exact e
end
end GS
namespace GD
open PySem L2
theorem EvG.dictT {γ : List (Option PyData)} {K : PySem.W.Frag} {te : TE} {k : List Int} {ks : List (List Int)} (h : EvG te γ (.list ((k :: ks).map fun k => .tuple [.tuple (k.map .int), .bool true]))) (hn : (k :: ks).Nodup) : EvG (tCB (GS.rDctT K) (tCons te tNil)) γ (tkD (k :: ks)) := .cb (.cons h .nil) fun S H vs l av Q q => by
  cases av with
  | cons a r =>
    cases r
    generalize hqs : k :: ks = qs at a hn
    cases a with
    | lst n e hs =>
      have go : ∀ {xs : List V} {qs : List (List Int)}, Avs S H xs (qs.map fun k => .tuple [.tuple (k.map .int), .bool true]) → ∃ (ps : List Addr) (kbs : List (List Int × Addr)), xs = ps.map V.ref ∧ kbs.map (·.1) = qs ∧ Paired (fun p (kb : List Int × Addr) => SqT K H p [.ref kb.2, .bl true] ∧ H kb.2 = some (.tup (kb.1.map V.int))) ps kbs := fun {xs qs} a => by
        induction qs generalizing xs with
        | nil => cases a; exact ⟨[], [], rfl, rfl, .nil⟩
        | cons q qs ih =>
          cases a with
          | cons b r =>
            obtain ⟨ps, kbs, rfl, e2, pp⟩ := ih r
            cases b with
            | tup m f us =>
              cases us with
              | cons u1 r1 =>
                cases r1 with
                | cons u2 r2 =>
                  cases r2
                  cases u2
                  cases u1 with
                  | tup m2 f2 us2 =>
                    have := int_vals us2
                    subst this
                    exact ⟨_ :: ps, (q, _) :: kbs, rfl, by rw [List.map_cons, e2], .cons ⟨SqT.of f, f2⟩ pp⟩
      obtain ⟨ps, kbs, rfl, e2, pp⟩ := go hs
      refine ⟨_, ps, kbs, rfl, SqL.of e, pp, by rw [e2]; exact hn, fun p np => ?_⟩
      rw [e2, ← hqs]
      exact q _ _ (same_new np) (.dcT (l.new np) upd_same)
end GD

set_option Elab.async false
set_option linter.all false
set_option maxRecDepth 100000
set_option maxHeartbeats 4000000
/-! Further words by data; how great a value is; a list that grows. -/
namespace GD
open PySem L2 RQ
section
variable {γ : List (Option PyData)} {K : PySem.W.Frag} {te ta tb : TE} {d x y : PyData}
theorem EvG.str (s : Str) : EvG (tC (.str s)) γ (.str s) := .con fun _ _ => .str s
theorem EvG.revL {ds : List PyData} (h : EvG te γ (.list ds)) : EvG (tRevL K te) γ (.list ds.reverse) := fun S H σ l e Q q =>
  h S H σ l e _ fun H1 v s1 av => by
    cases av with
    | lst n f hs => exact ⟨_, _, rfl, SqL.of f, fun p np => q _ _ (s1.trans (same_new np)) (.lst ((l.same s1).new np) upd_same ((hs.same (same_new np)).rev))⟩
theorem OpG.catT {xs ys : List PyData} (h1 : xs ≠ []) (h2 : ys ≠ []) (hz : xs.length + ys.length ≤ sizeLine) : OpG (rCatT K) (.tuple xs) (.tuple ys) (.tuple (xs ++ ys)) := fun S H v w l av aw Q q => by
  cases av with
  | tup n f hs =>
    cases aw with
    | tup m g ks =>
      refine ⟨_, _, _, _, rfl, rfl, SqT.of f, SqT.of g, fun z => ?_, by rw [hs.len, ks.len]; exact hz, fun z => ?_, fun _ p np => q _ _ (same_new np) (.tup (l.new np) upd_same ((hs.same (same_new np)).app (ks.same (same_new np))))⟩
      · subst z
        cases hs
        exact h1 rfl
      · subst z
        cases ks
        exact absurd rfl h2
theorem EvG.listOfT {ds : List PyData} (h : EvG te γ (.tuple ds)) : EvG (tCB (fun xs H Q => ∃ p ys, xs = [.ref p] ∧ (SqL K H p ys ∨ SqT K H p ys) ∧ ∀ l, H l = none → Q (.ref l) (upd H l (.lst ys))) (tCons te tNil)) γ (.list ds) := .cb (.cons h .nil) fun S H vs l av Q q => by
  cases av with
  | cons a r =>
    cases r
    cases a with
    | tup n e hs => exact ⟨_, _, rfl, .inr (SqT.of e), fun p np => q _ _ (same_new np) (.lst (l.new np) upd_same (hs.same (same_new np)))⟩
theorem EvG.newD : EvG tDNewK γ (dctD []) := fun S H σ l e Q q p np => q _ _ (same_new np) (.dct (ks := []) (l.new np) upd_same)
theorem EvG.rangeMin {ta tb : TE} {i j : Int} (h1 : EvG ta γ (.int i)) (h2 : EvG tb γ (.int j)) : EvG (tCB (fun xs H Q => ∃ i j, xs = [.int i, .int j] ∧ Q (.int (if j < i then j else i)) H) (tCons ta (tCons tb tNil))) γ (.int (if j < i then j else i)) := .min2 h1 h2
end
/-! ### how great -/
mutual
def nc : PyData → Nat
  | .list xs => ncs xs + 1
  | .tuple xs => ncs xs + 1
  | .dict _ => 101
  | _ => 1
def ncs : List PyData → Nat
  | [] => 0
  | x :: xs => nc x + ncs xs
end
/-- its strings are short -/
def str0 : PyData → Prop
  | .str s => (reprText s).length ≤ 2000
  | _ => True
/-- of our kinds, so great, so deep -/
structure Fn (C : Addr) (a k : Nat) (d : PyData) : Prop where
  ok : ok C d
  wt : wt d + 2 ≤ 5000 * nc d
  nc : nc d ≤ a
  dp : dp d ≤ k
section
variable {C : Addr} {a k b j : Nat} {d : PyData}
theorem Fn.mono (h : Fn C a k d) (h1 : a ≤ b) (h2 : k ≤ j) : Fn C b j d := ⟨h.ok, h.wt, Nat.le_trans h.nc h1, Nat.le_trans h.dp h2⟩
theorem Fn.int {i : Int} (h : i.natAbs < 1000) : Fn C 1 0 (.int i) := ⟨sz3 h, by show 2000 + 2 ≤ 5000 * 1; decide, Nat.le_refl _, Nat.le_refl _⟩
theorem Fn.bool (b : Bool) : Fn C 1 0 (.bool b) := ⟨trivial, by show 5 + 2 ≤ 5000 * 1; decide, Nat.le_refl _, Nat.le_refl _⟩
theorem Fn.none : Fn C 1 0 .none := ⟨trivial, by show 4 + 2 ≤ 5000 * 1; decide, Nat.le_refl _, Nat.le_refl _⟩
theorem Fn.str {s : Str} (h : (reprText s).length ≤ 2000) : Fn C 1 0 (.str s) := ⟨trivial, by show (reprText s).length + 2 ≤ 5000 * 1; omega, Nat.le_refl _, Nat.le_refl _⟩
theorem Fn.rat {p : Int × Int} (h : OkF 1000 p) : Fn C 101 2 (ratD C p) := ⟨.inl ⟨p, rfl, h⟩, by show 500000 + 2 ≤ 5000 * 101; decide, Nat.le_refl _, Nat.le_refl _⟩
theorem Fn.dI {ks : List Int} (h : ∀ k ∈ ks, k.natAbs < 1000) (hl : ks.length ≤ 100) : Fn C 101 2 (dctD ks) := ⟨.inr (.inl ⟨ks, rfl, h, hl⟩), by show 500000 + 2 ≤ 5000 * 101; decide, Nat.le_refl _, Nat.le_refl _⟩
theorem Fn.dT {q : List Int} {ks : List (List Int)} (h : ∀ p ∈ q :: ks, p.length = 2 ∧ ∀ i ∈ p, i.natAbs < 1000) (hl : (q :: ks).length ≤ 100) : Fn C 101 2 (tkD (q :: ks)) := ⟨.inr (.inr ⟨q, ks, rfl, h, hl⟩), by show 500000 + 2 ≤ 5000 * 101; decide, Nat.le_refl _, Nat.le_refl _⟩
theorem fn_all {xs : List PyData} (h : ∀ x ∈ xs, Fn C a k x) : oks C xs ∧ wts xs ≤ 5000 * ncs xs ∧ ncs xs ≤ a * xs.length ∧ dps xs ≤ k := by
  induction xs with
  | nil => exact ⟨trivial, Nat.le_refl _, Nat.zero_le _, Nat.zero_le _⟩
  | cons x xs ih =>
    have hx := h x (.head _)
    obtain ⟨i1, i2, i3, i4⟩ := ih fun y hy => h y (.tail _ hy)
    have h1 := hx.wt
    have h2 := hx.nc
    have h3 := hx.dp
    refine ⟨⟨hx.ok, i1⟩, ?_, ?_, Nat.max_le.mpr ⟨h3, i4⟩⟩
    · show GD.wt x + 2 + wts xs ≤ 5000 * (GD.nc x + ncs xs)
      rw [Nat.mul_add]
      omega
    · show GD.nc x + ncs xs ≤ a * (xs.length + 1)
      rw [Nat.mul_succ]
      omega
theorem Fn.lst {xs : List PyData} {m : Nat} (h : ∀ x ∈ xs, Fn C a k x) (hl : xs.length ≤ m) : Fn C (a * m + 1) (k + 1) (.list xs) := by
  obtain ⟨i1, i2, i3, i4⟩ := fn_all h
  have : a * xs.length ≤ a * m := Nat.mul_le_mul_left _ hl
  refine ⟨i1, ?_, ?_, Nat.succ_le_succ i4⟩
  · show wts xs + 3 + 2 ≤ 5000 * (ncs xs + 1)
    omega
  · show ncs xs + 1 ≤ _
    omega
theorem Fn.tup {xs : List PyData} {m : Nat} (h : ∀ x ∈ xs, Fn C a k x) (hl : xs.length ≤ m) : Fn C (a * m + 1) (k + 1) (.tuple xs) := by
  obtain ⟨i1, i2, i3, i4⟩ := fn_all h
  have : a * xs.length ≤ a * m := Nat.mul_le_mul_left _ hl
  refine ⟨i1, ?_, ?_, Nat.succ_le_succ i4⟩
  · show wts xs + 3 + 2 ≤ 5000 * (ncs xs + 1)
    omega
  · show ncs xs + 1 ≤ _
    omega
theorem ncs_len : ∀ xs : List PyData, xs.length ≤ ncs xs
  | [] => Nat.le_refl _
  | x :: xs => by
    have := ncs_len xs
    have h1 : 1 ≤ nc x := by
      cases x <;> first | exact Nat.le_refl _ | exact Nat.succ_le_succ (Nat.zero_le _) | exact (by decide : 1 ≤ 101)
    show xs.length + 1 ≤ nc x + ncs xs
    omega
theorem ncs_mem : ∀ {xs : List PyData} {x : PyData}, x ∈ xs → nc x ≤ ncs xs
  | y :: ys, x, h => by
    show nc x ≤ nc y + ncs ys
    rcases List.mem_cons.mp h with rfl | h
    · omega
    · have := ncs_mem h
      omega
end
/-! ### a list that grows -/
/-- statements, the list at slot i (its address L) holding cur by then -/
def StM (L : Addr) (i : Nat) (ts : TS) (γ : List (Option PyData)) (cur : List PyData) (r : PyData → Prop) : Prop := ∀ S H σ D xs, Live S H → ¬ S L → H L = some (.lst xs) → Avs (SD S L) H xs cur → Gm (SD S L) H σ γ → σ[i]? = some (some (.ref L)) →
  (∀ v H' d, r d → (∀ b o, b ≠ L → H b = some o → H' b = some o) → Av S H' v d → D.rt v H') → ts D σ H
section
variable {L : Addr} {i : Nat} {γ : List (Option PyData)} {K : PySem.W.Frag} {te : TE} {rest : TS} {cur ys : List PyData} {y : PyData} {r : PyData → Prop}
theorem live_SD {S : Addr → Prop} {H : Hp} {xs : List V} (l : Live S H) (h : H L = some (.lst xs)) : Live (SD S L) H := fun X hX => hX.elim (fun z => l X z) fun z => by
  rw [z, h]
  intro w
  cases w
theorem kp_L {S : Addr → Prop} {H : Hp} {xs : List V} : Kp (SD S L) H (upd H L (.lst xs)) := fun b o n e => by
  rw [upd_ne (fun z => n (.inr z))]
  exact e
theorem live_upd {S : Addr → Prop} {H : Hp} {o : HO} (l : Live S H) : Live S (upd H L o) := fun X hX z => by
  by_cases e : X = L
  · rw [e, upd_same] at z
    cases z
  · rw [upd_ne e] at z
    exact l X hX z
theorem StM.extend (h : EvG te γ (.list ys)) (hz : cur.length + ys.length ≤ sizeLine) (hn : StM L i rest γ (cur ++ ys) r) : StM L i (tSeq (tDrop (tBM K "list" rExtend (tVar i) (tCons te tNil))) rest) γ cur r := fun S H σ D xs l nL hL ha e hi k => by
  refine ⟨_, hi, .inl ⟨rfl, _, SqL.of hL⟩, ?_⟩
  refine h (SD S L) H σ (live_SD l hL) e _ fun H1 v s1 av => ?_
  cases av with
  | lst n f hs =>
    rename_i zs
    have ha1 := ha.same s1
    have hL1 := s1 _ _ hL
    refine ⟨L, _, xs, zs, rfl, rfl, hL1, f, by rw [ha1.len, hs.len]; exact hz, ?_⟩
    exact hn S _ σ D (xs ++ zs) (live_upd (l.same s1)) nL upd_same ((ha1.app hs).keep kp_L) ((e.same s1).keep kp_L) hi fun v H' d hd kk a => k v H' d hd (fun b o nb e' => kk b o nb (by rw [upd_ne nb]; exact s1 _ _ e')) a
theorem StM.append (h : EvG te γ y) (hz : cur.length < sizeLine) (hn : StM L i rest γ (cur ++ [y]) r) : StM L i (tSeq (tDrop (tBM K "list" rAppend (tVar i) (tCons te tNil))) rest) γ cur r := fun S H σ D xs l nL hL ha e hi k => by
  refine ⟨_, hi, .inl ⟨rfl, _, SqL.of hL⟩, ?_⟩
  refine h (SD S L) H σ (live_SD l hL) e _ fun H1 v s1 av => ?_
  have ha1 := ha.same s1
  have hL1 := s1 _ _ hL
  refine ⟨L, xs, v, rfl, rfl, hL1, by rw [ha1.len]; exact hz, ?_⟩
  exact hn S _ σ D (xs ++ [v]) (live_upd (l.same s1)) nL upd_same ((ha1.app (.cons av .nil)).keep kp_L) ((e.same s1).keep kp_L) hi fun v H' d hd kk a => k v H' d hd (fun b o nb e' => kk b o nb (by rw [upd_ne nb]; exact s1 _ _ e')) a
end
end GD

/-! Boards: the going through, the lots, the covers; no Python here. -/
namespace K73
abbrev Pl := Nat × Nat
/-- this law's count: the most places that spare one another, rows from row on (n of them), columns other than used -/
def mostN (ps : List Pl) : Nat → Nat → List Nat → Nat
  | 0, _, _ => 0
  | n + 1, row, used => ps.foldl (fun found p => if p.1 = row ∧ p.2 ∉ used then max found (1 + mostN ps n (row + 1) (used ++ [p.2])) else found) (mostN ps n (row + 1) used)
/-- the program's rooks -/
def mostR (ps : List Pl) : Nat → Nat → List Pl → List Pl
  | 0, _, taken => taken
  | n + 1, row, taken => ps.foldl (fun found p => if p.1 = row ∧ p.2 ∉ taken.map (·.2) then (if (mostR ps n (row + 1) (taken ++ [p])).length > found.length then mostR ps n (row + 1) (taken ++ [p]) else found) else found) (mostR ps n (row + 1) taken)
def lots : Nat → List (List Nat)
  | 0 => [[]]
  | n + 1 => lots n ++ (lots n).map (· ++ [n])
/-- the columns of places in no told row, rising -/
def colsOf (ps : List Pl) (rows : List Nat) : List Nat := (List.range 4).filter fun c => ps.any fun p => !rows.contains p.1 && p.2 == c
def sizeOf' (ps : List Pl) (rows : List Nat) : Nat := rows.length + (colsOf ps rows).length
/-- the first of the least -/
def bestOf (f : List Nat → Nat) : List (List Nat) → List Nat → List Nat
  | [], b => b
  | x :: xs, b => bestOf f xs (if f x < f b then x else b)
def coverRows (ps : List Pl) (t : Nat) : List Nat := bestOf (sizeOf' ps) ((lots t).tail) []
def fewestN (ps : List Pl) (t : Nat) : Nat := (lots t).foldl (fun found rows => min found (sizeOf' ps rows)) 99
def ltP (p q : Pl) : Prop := p.1 < q.1 ∨ (p.1 = q.1 ∧ p.2 < q.2)
instance : DecidableRel ltP := fun p q => by unfold ltP; exact inferInstance
structure Board (t w : Nat) (ps : List Pl) : Prop where
  t1 : 1 ≤ t
  t4 : t ≤ 4
  w1 : 1 ≤ w
  w4 : w ≤ 4
  n1 : 1 ≤ ps.length
  n16 : ps.length ≤ 16
  inn : ∀ p ∈ ps, p.1 < t ∧ p.2 < w
  srt : ps.Pairwise ltP
/-- some of the places, that spare one another -/
structure Spare (ps m : List Pl) : Prop where
  sub : ∀ p ∈ m, p ∈ ps
  rows : (m.map (·.1)).Nodup
  cols : (m.map (·.2)).Nodup
end K73

set_option Elab.async false
set_option linter.all false
set_option maxRecDepth 100000
set_option maxHeartbeats 4000000
/-! Rooks and covers are as many; no Python here. -/
namespace K73
/-- how many below k -/
def cnt : Nat → (Nat → Bool) → Nat
  | 0, _ => 0
  | k + 1, f => cnt k f + (f k).toNat
theorem cnt_or_and (f g : Nat → Bool) : ∀ k, cnt k (fun x => f x || g x) + cnt k (fun x => f x && g x) = cnt k f + cnt k g
  | 0 => rfl
  | k + 1 => by
    have ih := cnt_or_and f g k
    show cnt k _ + (f k || g k).toNat + (cnt k _ + (f k && g k).toNat) = cnt k f + (f k).toNat + (cnt k g + (g k).toNat)
    cases f k <;> cases g k <;> simp <;> omega
theorem cnt_mono {f g : Nat → Bool} (h : ∀ x, f x = true → g x = true) : ∀ k, cnt k f ≤ cnt k g
  | 0 => Nat.le_refl _
  | k + 1 => by
    have ih := cnt_mono h k
    have hk := h k
    show cnt k f + (f k).toNat ≤ cnt k g + (g k).toNat
    cases hf : f k
    · simp; omega
    · rw [hk hf]; omega
theorem cnt_congr {f g : Nat → Bool} : ∀ k, (∀ x, x < k → f x = g x) → cnt k f = cnt k g
  | 0, _ => rfl
  | k + 1, h => by
    show cnt k f + (f k).toNat = cnt k g + (g k).toNat
    rw [cnt_congr k fun x hx => h x (by omega), h k (by omega)]
theorem cnt_le : ∀ (k : Nat) (f : Nat → Bool), cnt k f ≤ k
  | 0, _ => Nat.le_refl _
  | k + 1, f => by
    have ih := cnt_le k f
    have : (f k).toNat ≤ 1 := by cases f k <;> decide
    show cnt k f + (f k).toNat ≤ k + 1
    omega
/-- one more -/
theorem cnt_put {f : Nat → Bool} {a : Nat} (hf : f a = false) : ∀ k, a < k → cnt k (fun x => f x || x == a) = cnt k f + 1
  | 0, h => by omega
  | k + 1, h => by
    show cnt k _ + (f k || k == a).toNat = cnt k f + (f k).toNat + 1
    by_cases e : k = a
    · subst e
      rw [hf, cnt_congr (g := f) k fun x hx => by
        have : (x == k) = false := by simpa using (by omega : x ≠ k)
        rw [this, Bool.or_false]]
      simp
    · have e' : (k == a) = false := by simpa using e
      rw [cnt_put hf k (by omega), e', Bool.or_false]
      omega
theorem cnt_out {f : Nat → Bool} {a : Nat} (hf : f a = true) (k : Nat) (h : a < k) : cnt k (fun x => f x && !(x == a)) + 1 = cnt k f := by
  have := cnt_put (f := fun x => f x && !(x == a)) (a := a) (by simp) k h
  rw [← this]
  refine cnt_congr k fun x _ => ?_
  by_cases e : x = a
  · subst e; simp [hf]
  · have : (x == a) = false := by simpa using e
    rw [this]; simp
theorem cnt_zero {f : Nat → Bool} : ∀ k, (∀ x, x < k → f x = false) → cnt k f = 0
  | 0, _ => rfl
  | k + 1, h => by
    show cnt k f + (f k).toNat = 0
    rw [cnt_zero k fun x hx => h x (by omega), h k (by omega)]
    rfl
/-- columns, not used, that have a place in these rows -/
def nb (ps : List Pl) (T : Nat → Bool) (U : List Nat) (c : Nat) : Bool := (ps.any fun p => T p.1 && p.2 == c) && !U.contains c
theorem nb_iff {ps : List Pl} {T : Nat → Bool} {U : List Nat} {c : Nat} : nb ps T U c = true ↔ (∃ r, (r, c) ∈ ps ∧ T r = true) ∧ c ∉ U := by
  unfold nb
  rw [Bool.and_eq_true, List.any_eq_true]
  constructor
  · rintro ⟨⟨p, hp, h⟩, h2⟩
    rw [Bool.and_eq_true] at h
    have e : p.2 = c := by simpa using h.2
    exact ⟨⟨p.1, e ▸ hp, h.1⟩, by simpa using h2⟩
  · rintro ⟨⟨r, hp, h⟩, h2⟩
    exact ⟨⟨(r, c), hp, by simp [h]⟩, by simpa using h2⟩
def stepN (ps : List Pl) (n row : Nat) (used : List Nat) (found : Nat) (p : Pl) : Nat := if p.1 = row ∧ p.2 ∉ used then max found (1 + mostN ps n (row + 1) (used ++ [p.2])) else found
theorem mostN_succ (ps : List Pl) (n row : Nat) (used : List Nat) : mostN ps (n + 1) row used = ps.foldl (stepN ps n row used) (mostN ps n (row + 1) used) := by
  rw [mostN]
  rfl
theorem step_ge (ps qs : List Pl) (n row : Nat) (used : List Nat) : ∀ b, b ≤ qs.foldl (stepN ps n row used) b := by
  induction qs with
  | nil => intro b; exact Nat.le_refl _
  | cons p qs ih =>
    intro b
    refine Nat.le_trans ?_ (ih _)
    unfold stepN
    split
    · exact Nat.le_max_left ..
    · exact Nat.le_refl _
theorem step_hit (ps qs : List Pl) (n row : Nat) (used : List Nat) {c : Nat} (hc : (row, c) ∈ qs) (hu : c ∉ used) : ∀ b, 1 + mostN ps n (row + 1) (used ++ [c]) ≤ qs.foldl (stepN ps n row used) b := by
  induction qs with
  | nil => cases hc
  | cons p qs ih =>
    intro b
    rcases List.mem_cons.mp hc with e | h
    · subst e
      refine Nat.le_trans ?_ (step_ge ps qs n row used _)
      unfold stepN
      rw [if_pos ⟨rfl, hu⟩]
      exact Nat.le_max_right ..
    · exact ih h _
theorem step_is (ps qs : List Pl) (n row : Nat) (used : List Nat) : ∀ b, qs.foldl (stepN ps n row used) b = b ∨ ∃ c, (row, c) ∈ qs ∧ c ∉ used ∧ qs.foldl (stepN ps n row used) b = 1 + mostN ps n (row + 1) (used ++ [c]) := by
  induction qs with
  | nil => intro b; exact .inl rfl
  | cons p qs ih =>
    intro b
    have hs : stepN ps n row used b p = b ∨ ∃ c, (row, c) = p ∧ c ∉ used ∧ stepN ps n row used b p = 1 + mostN ps n (row + 1) (used ++ [c]) := by
      unfold stepN
      split
      · rename_i h
        rcases Nat.le_total b (1 + mostN ps n (row + 1) (used ++ [p.2])) with g | g
        · exact .inr ⟨p.2, by rw [← h.1], h.2, Nat.max_eq_right g⟩
        · exact .inl (Nat.max_eq_left g)
      · exact .inl rfl
    rcases ih (stepN ps n row used b p) with h | ⟨c, h1, h2, h3⟩
    · rcases hs with e | ⟨c, e1, e2, e3⟩
      · exact .inl (h.trans e)
      · exact .inr ⟨c, e1 ▸ .head _, e2, h.trans e3⟩
    · exact .inr ⟨c, .tail _ h1, h2, h3⟩
/-- these rows stand from row on -/
def In (T : Nat → Bool) (row n : Nat) : Prop := ∀ r, T r = true → row ≤ r ∧ r < row + n
theorem weak (ps : List Pl) (h4 : ∀ p ∈ ps, p.2 < 4) : ∀ (n row : Nat) (U : List Nat) (T : Nat → Bool), row + n ≤ 4 → In T row n → mostN ps n row U + cnt 4 T ≤ n + cnt 4 (nb ps T U)
  | 0, row, U, T, _, hT => by
    have : cnt 4 T = 0 := cnt_zero 4 fun x _ => by
      cases e : T x
      · rfl
      · have := hT x e; omega
    rw [this]
    exact Nat.zero_le _
  | n + 1, row, U, T, hr, hT => by
    have hT' : In (fun x => T x && !(x == row)) (row + 1) n := fun r h => by
      rw [Bool.and_eq_true] at h
      have h1 := hT r h.1
      have h2 : r ≠ row := by simpa using h.2
      omega
    have hle : cnt 4 T ≤ cnt 4 (fun x => T x && !(x == row)) + 1 := by
      cases e : T row
      · exact Nat.le_trans (cnt_mono (fun x hx => by
          have : x ≠ row := fun z => by subst z; rw [e] at hx; cases hx
          simp [hx, this]) 4) (Nat.le_succ _)
      · exact Nat.le_of_eq (cnt_out e 4 (by omega)).symm
    have sub : ∀ x, nb ps (fun x => T x && !(x == row)) U x = true → nb ps T U x = true := fun x hx => by
      obtain ⟨⟨r, h1, h2⟩, h3⟩ := nb_iff.mp hx
      rw [Bool.and_eq_true] at h2
      exact nb_iff.mpr ⟨⟨r, h1, h2.1⟩, h3⟩
    rw [mostN_succ]
    rcases step_is ps ps n row U (mostN ps n (row + 1) U) with e | ⟨c, hc, hu, e⟩
    · rw [e]
      have ih := weak ps h4 n (row + 1) U _ (by omega) hT'
      have := cnt_mono sub 4
      omega
    · rw [e]
      have ih := weak ps h4 n (row + 1) (U ++ [c]) _ (by omega) hT'
      have c4 : c < 4 := h4 _ hc
      have sub2 : ∀ x, nb ps (fun x => T x && !(x == row)) (U ++ [c]) x = true → nb ps T U x = true := fun x hx => by
        obtain ⟨⟨r, h1, h2⟩, h3⟩ := nb_iff.mp hx
        rw [Bool.and_eq_true] at h2
        exact nb_iff.mpr ⟨⟨r, h1, h2.1⟩, fun z => h3 (List.mem_append.mpr (.inl z))⟩
      cases eT : T row
      · have h2 := cnt_mono sub2 4
        have h1 : cnt 4 T ≤ cnt 4 (fun x => T x && !(x == row)) := cnt_mono (fun x hx => by
          have : x ≠ row := fun z => by subst z; rw [eT] at hx; cases hx
          simp [hx, this]) 4
        omega
      · have hcn : nb ps T U c = true := nb_iff.mpr ⟨⟨row, hc, eT⟩, hu⟩
        have h2 := cnt_out hcn 4 c4
        have h3 : cnt 4 (nb ps (fun x => T x && !(x == row)) (U ++ [c])) ≤ cnt 4 (fun x => nb ps T U x && !(x == c)) := cnt_mono (fun x hx => by
          have hx' := sub2 x hx
          have : x ≠ c := fun z => by
            subst z
            exact (nb_iff.mp hx).2 (List.mem_append.mpr (.inr (.head _)))
          simp [hx', this]) 4
        omega
theorem koenig (ps : List Pl) (h4 : ∀ p ∈ ps, p.2 < 4) : ∀ (n row : Nat) (U : List Nat), row + n ≤ 4 → ∃ T, In T row n ∧ n + cnt 4 (nb ps T U) ≤ mostN ps n row U + cnt 4 T
  | 0, row, U, _ => by
    refine ⟨fun _ => false, fun r h => (Bool.false_ne_true h).elim, ?_⟩
    have : cnt 4 (nb ps (fun _ => false) U) = 0 := cnt_zero 4 fun x _ => by
      cases e : nb ps (fun _ => false) U x
      · rfl
      · obtain ⟨⟨r, _, h⟩, _⟩ := nb_iff.mp e
        cases h
    rw [this]
    exact Nat.zero_le _
  | n + 1, row, U, hr => by
    have up : ∀ {T : Nat → Bool}, In T (row + 1) n → In T row (n + 1) := fun h r hT => by
      have := h r hT
      omega
    obtain ⟨T0, i0, l0⟩ := koenig ps h4 n (row + 1) U (by omega)
    rw [mostN_succ]
    have hge := step_ge ps ps n row U (mostN ps n (row + 1) U)
    by_cases hb : mostN ps n (row + 1) U + 1 ≤ ps.foldl (stepN ps n row U) (mostN ps n (row + 1) U)
    · exact ⟨T0, up i0, by omega⟩
    · -- each column of the row is met
      have each : ∀ cs : List Nat, (∀ c ∈ cs, (row, c) ∈ ps ∧ c ∉ U) → ∃ T, In T (row + 1) n ∧ n + cnt 4 (nb ps T U) ≤ mostN ps n (row + 1) U + cnt 4 T ∧ ∀ c ∈ cs, nb ps T U c = true := by
        intro cs
        induction cs with
        | nil => exact fun _ => ⟨T0, i0, l0, fun _ h => by cases h⟩
        | cons c cs ih =>
          intro h
          obtain ⟨T1, i1, l1, m1⟩ := ih fun d hd => h d (.tail _ hd)
          obtain ⟨hc, hu⟩ := h c (.head _)
          have c4 : c < 4 := h4 _ hc
          have hhit := step_hit ps ps n row U hc hu (mostN ps n (row + 1) U)
          obtain ⟨T2, i2, l2⟩ := koenig ps h4 n (row + 1) (U ++ [c]) (by omega)
          -- as cheap for U, and meets c
          have sub : ∀ x, nb ps T2 U x = true → (nb ps T2 (U ++ [c]) x || x == c) = true := fun x hx => by
            obtain ⟨a, b⟩ := nb_iff.mp hx
            by_cases e : x = c
            · simp [e]
            · rw [nb_iff.mpr ⟨a, fun z => (List.mem_append.mp z).elim b fun z => e (by simpa using z)⟩]
              rfl
          have no : nb ps T2 (U ++ [c]) c = false := by
            cases e : nb ps T2 (U ++ [c]) c
            · rfl
            · exact absurd (List.mem_append.mpr (.inr (.head _))) (nb_iff.mp e).2
          have s1 := cnt_mono sub 4
          rw [cnt_put no 4 c4] at s1
          have w2 := weak ps h4 n (row + 1) U T2 (by omega) i2
          have met : nb ps T2 U c = true := by
            cases e : nb ps T2 U c
            · have s2 : cnt 4 (nb ps T2 U) ≤ cnt 4 (nb ps T2 (U ++ [c])) := cnt_mono (fun x hx => by
                have hx' := sub x hx
                have : x ≠ c := fun z => by subst z; rw [e] at hx; cases hx
                have e2 : (x == c) = false := by simpa using this
                rw [e2, Bool.or_false] at hx'
                exact hx') 4
              omega
            · rfl
          refine ⟨fun x => T1 x || T2 x, fun r h => ?_, ?_, ?_⟩
          · rw [Bool.or_eq_true] at h
            exact h.elim (i1 r) (i2 r)
          · have iw : In (fun x => T1 x && T2 x) (row + 1) n := fun r h => by
              rw [Bool.and_eq_true] at h
              exact i1 r h.1
            have ww := weak ps h4 n (row + 1) U _ (by omega) iw
            have a1 := cnt_or_and T1 T2 4
            have a2 := cnt_or_and (nb ps T1 U) (nb ps T2 U) 4
            have b1 : cnt 4 (nb ps (fun x => T1 x || T2 x) U) ≤ cnt 4 (fun x => nb ps T1 U x || nb ps T2 U x) := cnt_mono (fun x hx => by
              obtain ⟨⟨r, h1, h2⟩, h3⟩ := nb_iff.mp hx
              rw [Bool.or_eq_true] at h2 ⊢
              exact h2.imp (fun z => nb_iff.mpr ⟨⟨r, h1, z⟩, h3⟩) fun z => nb_iff.mpr ⟨⟨r, h1, z⟩, h3⟩) 4
            have b2 : cnt 4 (nb ps (fun x => T1 x && T2 x) U) ≤ cnt 4 (fun x => nb ps T1 U x && nb ps T2 U x) := cnt_mono (fun x hx => by
              obtain ⟨⟨r, h1, h2⟩, h3⟩ := nb_iff.mp hx
              rw [Bool.and_eq_true] at h2 ⊢
              exact ⟨nb_iff.mpr ⟨⟨r, h1, h2.1⟩, h3⟩, nb_iff.mpr ⟨⟨r, h1, h2.2⟩, h3⟩⟩) 4
            omega
          · intro d hd
            have : ∀ (T : Nat → Bool), (∀ x, T x = true → (T1 x || T2 x) = true) → nb ps T U d = true → nb ps (fun x => T1 x || T2 x) U d = true := fun T hT h => by
              obtain ⟨⟨r, h1, h2⟩, h3⟩ := nb_iff.mp h
              exact nb_iff.mpr ⟨⟨r, h1, hT r h2⟩, h3⟩
            rcases List.mem_cons.mp hd with e | hd
            · subst e
              exact this T2 (fun x hx => by rw [hx, Bool.or_true]) met
            · exact this T1 (fun x hx => by rw [hx]; rfl) (m1 d hd)
      obtain ⟨T, iT, lT, mT⟩ := each ((ps.filter fun p => decide (p.1 = row ∧ p.2 ∉ U)).map (·.2)) fun c hc => by
        obtain ⟨p, hp, rfl⟩ := List.mem_map.mp hc
        obtain ⟨h1, h2⟩ := List.mem_filter.mp hp
        have h2 := of_decide_eq_true h2
        exact ⟨by rw [← h2.1]; exact h1, h2.2⟩
      have no : T row = false := by
        cases e : T row
        · rfl
        · have := iT row e
          omega
      refine ⟨fun x => T x || x == row, fun r h => ?_, ?_⟩
      · rw [Bool.or_eq_true] at h
        rcases h with h | h
        · exact up iT r h
        · have : r = row := by simpa using h
          omega
      · rw [cnt_put no 4 (by omega)]
        have b1 : cnt 4 (nb ps (fun x => T x || x == row) U) ≤ cnt 4 (nb ps T U) := cnt_mono (fun x hx => by
          obtain ⟨⟨r, h1, h2⟩, h3⟩ := nb_iff.mp hx
          rw [Bool.or_eq_true] at h2
          rcases h2 with h2 | h2
          · exact nb_iff.mpr ⟨⟨r, h1, h2⟩, h3⟩
          · have e : r = row := by simpa using h2
            subst e
            exact mT x (List.mem_map.mpr ⟨(r, x), List.mem_filter.mpr ⟨h1, decide_eq_true ⟨rfl, h3⟩⟩, rfl⟩)) 4
        omega
end K73

set_option Elab.async false
set_option linter.all false
set_option maxRecDepth 100000
set_option maxHeartbeats 4000000
/-! The program's rooks and covers are best ones; no Python here. -/
namespace K73
/-! ### the program's rooks -/
def stR (ps : List Pl) (n row : Nat) (taken found : List Pl) (p : Pl) : List Pl := if p.1 = row ∧ p.2 ∉ taken.map (·.2) then (if (mostR ps n (row + 1) (taken ++ [p])).length > found.length then mostR ps n (row + 1) (taken ++ [p]) else found) else found
theorem mostR_suc (ps : List Pl) (n row : Nat) (taken : List Pl) : mostR ps (n + 1) row taken = ps.foldl (stR ps n row taken) (mostR ps n (row + 1) taken) := by
  rw [mostR]
  rfl
theorem cols_put (taken : List Pl) (p : Pl) : (taken ++ [p]).map (·.2) = taken.map (·.2) ++ [p.2] := by
  rw [List.map_append]
  rfl
theorem mostR_len (ps : List Pl) : ∀ (n row : Nat) (taken : List Pl), (mostR ps n row taken).length = taken.length + mostN ps n row (taken.map (·.2))
  | 0, _, _ => rfl
  | n + 1, row, taken => by
    rw [mostR_suc, mostN_succ]
    have go : ∀ (qs : List Pl) (b : List Pl) (k : Nat), b.length = taken.length + k → (qs.foldl (stR ps n row taken) b).length = taken.length + qs.foldl (stepN ps n row (taken.map (·.2))) k := fun qs => by
      induction qs with
      | nil => exact fun b k h => h
      | cons p qs ih =>
        intro b k h
        refine ih _ _ ?_
        unfold stR stepN
        by_cases hc : p.1 = row ∧ p.2 ∉ taken.map (·.2)
        · rw [if_pos hc, if_pos hc]
          have e := mostR_len ps n (row + 1) (taken ++ [p])
          rw [cols_put, List.length_append, List.length_singleton] at e
          split
          · rename_i g
            rw [e]
            omega
          · rename_i g
            rw [h]
            omega
        · rw [if_neg hc, if_neg hc, h]
    exact go ps _ _ (mostR_len ps n (row + 1) taken)
/-- taken, and behind it places in rising rows, from row on -/
def Grow (ps : List Pl) (row : Nat) (taken res : List Pl) : Prop := ∃ rest, res = taken ++ rest ∧ (∀ p ∈ rest, p ∈ ps ∧ row ≤ p.1) ∧ rest.Pairwise (fun p q => p.1 < q.1) ∧ (res.map (·.2)).Nodup
theorem mostR_grow (ps : List Pl) : ∀ (n row : Nat) (taken : List Pl), (taken.map (·.2)).Nodup → Grow ps row taken (mostR ps n row taken)
  | 0, row, taken, h => ⟨[], (List.append_nil _).symm, fun p z => absurd z List.not_mem_nil, .nil, h⟩
  | n + 1, row, taken, h => by
    rw [mostR_suc]
    have go : ∀ (qs : List Pl) (b : List Pl), (∀ p ∈ qs, p ∈ ps) → Grow ps row taken b → Grow ps row taken (qs.foldl (stR ps n row taken) b) := fun qs => by
      induction qs with
      | nil => exact fun b _ g => g
      | cons p qs ih =>
        intro b hs g
        refine ih _ (fun q hq => hs q (.tail _ hq)) ?_
        unfold stR
        split
        · rename_i hc
          split
          · have hn : ((taken ++ [p]).map (·.2)).Nodup := by
              rw [cols_put, List.nodup_append]
              exact ⟨h, by simp, fun a ha b hb e => hc.2 (by rw [List.mem_singleton.mp hb] at e; exact e ▸ ha)⟩
            obtain ⟨rest, e, a, b', c⟩ := mostR_grow ps n (row + 1) (taken ++ [p]) hn
            refine ⟨p :: rest, by rw [e, List.append_assoc]; rfl, fun q hq => ?_, List.pairwise_cons.mpr ⟨fun q hq => ?_, b'⟩, c⟩
            · rcases List.mem_cons.mp hq with rfl | hq
              · exact ⟨hs _ (.head _), by omega⟩
              · exact ⟨(a q hq).1, by have := (a q hq).2; omega⟩
            · have := (a q hq).2
              omega
          · exact g
        · exact g
    refine go ps _ (fun p hp => hp) ?_
    obtain ⟨rest, e, a, b, c⟩ := mostR_grow ps n (row + 1) taken h
    exact ⟨rest, e, fun p hp => ⟨(a p hp).1, by have := (a p hp).2; omega⟩, b, c⟩
/-- the program's rooks of a board -/
abbrev rk (ps : List Pl) (t : Nat) : List Pl := mostR ps t 0 []
abbrev due (ps : List Pl) (t : Nat) : Nat := mostN ps t 0 []
theorem rk_len (ps : List Pl) (t : Nat) : (rk ps t).length = due ps t := by
  have := mostR_len ps t 0 []
  simpa using this
theorem rk_srt (ps : List Pl) (t : Nat) : (rk ps t).Pairwise (fun p q => p.1 < q.1) := by
  obtain ⟨rest, e, _, b, _⟩ := mostR_grow ps t 0 [] .nil
  show (mostR ps t 0 []).Pairwise _
  rw [e]
  exact b
theorem rk_spare (ps : List Pl) (t : Nat) : Spare ps (rk ps t) := by
  obtain ⟨rest, e, a, b, c⟩ := mostR_grow ps t 0 [] .nil
  have e' : mostR ps t 0 [] = rest := e
  refine ⟨fun p hp => (a p (e' ▸ hp)).1, ?_, c⟩
  show ((mostR ps t 0 []).map (·.1)).Nodup
  rw [e']
  exact List.Pairwise.map _ (fun p q h z => by omega) b
/-! ### no lot of sparing places is greater -/
theorem nodup_cnt {k : Nat} : ∀ {l : List Nat} {f : Nat → Bool}, l.Nodup → (∀ x ∈ l, x < k ∧ f x = true) → l.length ≤ cnt k f
  | [], f, _, _ => Nat.zero_le _
  | a :: l, f, hn, h => by
    have hn' := List.nodup_cons.mp hn
    have ha := h a (.head _)
    have ih := nodup_cnt (l := l) (f := fun x => f x && !(x == a)) hn'.2 fun x hx => by
      have hx' := h x (.tail _ hx)
      have : x ≠ a := fun z => hn'.1 (z ▸ hx)
      exact ⟨hx'.1, by simp [hx'.2, this]⟩
    have := cnt_out ha.2 k ha.1
    rw [List.length_cons]
    omega
theorem cnt_lt : ∀ (k t : Nat), t ≤ k → cnt k (fun x => decide (x < t)) = t
  | 0, t, h => by show 0 = t; omega
  | k + 1, t, h => by
    show cnt k _ + (decide (k < t)).toNat = t
    by_cases e : t = k + 1
    · rw [decide_eq_true (by omega), cnt_congr (g := fun x => decide (x < k)) k fun x hx => by rw [decide_eq_true (by omega), decide_eq_true (by omega)], cnt_lt k k (Nat.le_refl _)]
      show k + 1 = t
      omega
    · rw [decide_eq_false (by omega), cnt_lt k t (by omega)]
      rfl
theorem cnt_not {T : Nat → Bool} {t : Nat} (h4 : t ≤ 4) (hT : In T 0 t) : cnt 4 (fun x => decide (x < t) && !T x) + cnt 4 T = t := by
  have a := cnt_or_and (fun x => decide (x < t) && !T x) T 4
  have b : cnt 4 (fun x => (decide (x < t) && !T x) || T x) = t := by
    refine Eq.trans (cnt_congr 4 fun x _ => ?_) (cnt_lt 4 t h4)
    cases e : T x
    · simp
    · have := (hT x e).2
      simp; omega
  have c : cnt 4 (fun x => (decide (x < t) && !T x) && T x) = 0 := cnt_zero 4 fun x _ => by
    cases T x <;> simp
  omega
/-- a board's places, loosely -/
structure Loose (t : Nat) (ps : List Pl) : Prop where
  t4 : t ≤ 4
  inn : ∀ p ∈ ps, p.1 < t ∧ p.2 < 4
theorem Board.loose {t w : Nat} {ps : List Pl} (b : Board t w ps) : Loose t ps := ⟨b.t4, fun p hp => ⟨(b.inn p hp).1, by have := (b.inn p hp).2; have := b.w4; omega⟩⟩
theorem spare_le {t : Nat} {ps m : List Pl} (b : Loose t ps) (s : Spare ps m) : m.length ≤ due ps t := by
  obtain ⟨T, iT, lT⟩ := koenig ps (fun p hp => (b.inn p hp).2) t 0 [] (by have := b.t4; omega)
  have e : m.length = (m.filter fun p => T p.1).length + (m.filter fun p => !T p.1).length := by
    clear s
    induction m with
    | nil => rfl
    | cons p m ih =>
      rw [List.filter_cons, List.filter_cons]
      cases T p.1 <;> simp [ih] <;> omega
  have a1 : (m.filter fun p => !T p.1).length ≤ cnt 4 (fun x => decide (x < t) && !T x) := by
    have := nodup_cnt (k := 4) (l := (m.filter fun p => !T p.1).map (·.1)) (f := fun x => decide (x < t) && !T x) (List.Nodup.sublist ((List.filter_sublist).map _) s.rows) fun x hx => by
      obtain ⟨p, hp, rfl⟩ := List.mem_map.mp hx
      obtain ⟨h1, h2⟩ := List.mem_filter.mp hp
      have h3 := b.inn p (s.sub p h1)
      have := b.t4
      exact ⟨by omega, by rw [decide_eq_true h3.1]; exact h2⟩
    rwa [List.length_map] at this
  have a2 : (m.filter fun p => T p.1).length ≤ cnt 4 (nb ps T []) := by
    have := nodup_cnt (k := 4) (l := (m.filter fun p => T p.1).map (·.2)) (f := nb ps T []) (List.Nodup.sublist ((List.filter_sublist).map _) s.cols) fun x hx => by
      obtain ⟨p, hp, rfl⟩ := List.mem_map.mp hx
      obtain ⟨h1, h2⟩ := List.mem_filter.mp hp
      exact ⟨(b.inn p (s.sub p h1)).2, nb_iff.mpr ⟨⟨p.1, s.sub p h1, h2⟩, by simp⟩⟩
    rwa [List.length_map] at this
  have := cnt_not b.t4 iT
  show m.length ≤ mostN ps t 0 []
  omega
/-! ### lots of rows -/
theorem lots_lt : ∀ (n : Nat) (l : List Nat), l ∈ lots n → ∀ x ∈ l, x < n
  | 0, l, h, x, hx => by
    rw [List.mem_singleton.mp h] at hx
    cases hx
  | n + 1, l, h, x, hx => by
    rw [lots, List.mem_append, List.mem_map] at h
    rcases h with h | ⟨m, h, rfl⟩
    · have := lots_lt n l h x hx
      omega
    · rcases List.mem_append.mp hx with hx | hx
      · have := lots_lt n m h x hx
        omega
      · rw [List.mem_singleton.mp hx]
        omega
theorem lots_is : ∀ (n : Nat) (l : List Nat), l ∈ lots n → (List.range n).filter (fun x => decide (x ∈ l)) = l
  | 0, l, h => by
    rw [List.mem_singleton.mp h]
    rfl
  | n + 1, l, h => by
    rw [lots, List.mem_append, List.mem_map] at h
    rw [List.range_succ, List.filter_append]
    rcases h with h | ⟨m, h, rfl⟩
    · have : n ∉ l := fun z => by have := lots_lt n l h n z; omega
      rw [lots_is n l h]
      simp [this]
    · have : (List.range n).filter (fun x => decide (x ∈ m ++ [n])) = (List.range n).filter (fun x => decide (x ∈ m)) := List.filter_congr fun x hx => by
        have := List.mem_range.mp hx
        refine decide_eq_decide.mpr ⟨fun z => (List.mem_append.mp z).elim id fun z => ?_, fun z => List.mem_append.mpr (.inl z)⟩
        have := List.mem_singleton.mp z
        omega
      rw [this, lots_is n m h]
      simp
theorem lots_all (f : Nat → Bool) : ∀ n, (List.range n).filter f ∈ lots n
  | 0 => .head _
  | n + 1 => by
    rw [List.range_succ, List.filter_append, lots, List.mem_append, List.mem_map]
    cases e : f n
    · exact .inl (by simp [e, lots_all f n])
    · exact .inr ⟨_, lots_all f n, by simp [e]⟩
theorem len_filter_range (f : Nat → Bool) : ∀ k, ((List.range k).filter f).length = cnt k f
  | 0 => rfl
  | k + 1 => by
    rw [List.range_succ, List.filter_append, List.length_append, len_filter_range f k]
    show _ = cnt k f + (f k).toNat
    cases e : f k <;> simp [e]
theorem cnt_more (f : Nat → Bool) {t : Nat} : ∀ k, t ≤ k → (∀ x, t ≤ x → f x = false) → cnt k f = cnt t f
  | 0, h, _ => by rw [Nat.le_zero.mp h]
  | k + 1, h, hf => by
    by_cases e : t = k + 1
    · rw [e]
    · show cnt k f + (f k).toNat = _
      rw [cnt_more f k (by omega) hf, hf k (by omega)]
      rfl
theorem size_T {t : Nat} {ps : List Pl} (b : Loose t ps) {T : Nat → Bool} (hT : In T 0 t) : sizeOf' ps ((List.range t).filter fun x => !T x) + cnt 4 T = t + cnt 4 (nb ps T []) := by
  unfold sizeOf'
  have e1 : ((List.range t).filter fun x => !T x).length = cnt 4 (fun x => decide (x < t) && !T x) := by
    rw [len_filter_range, cnt_more _ 4 b.t4 fun x hx => by rw [decide_eq_false (by omega)]; rfl]
    exact cnt_congr t fun x hx => by rw [decide_eq_true hx]; rfl
  have e2 : (colsOf ps ((List.range t).filter fun x => !T x)).length = cnt 4 (nb ps T []) := by
    unfold colsOf
    rw [len_filter_range]
    refine cnt_congr 4 fun c _ => ?_
    rw [Bool.eq_iff_iff, List.any_eq_true, nb_iff]
    constructor
    · rintro ⟨p, hp, h⟩
      rw [Bool.and_eq_true] at h
      have h2 : p.2 = c := by simpa using h.2
      have h1 := h.1
      have hp1 := (b.inn p hp).1
      refine ⟨⟨p.1, h2 ▸ hp, ?_⟩, by simp⟩
      cases e : T p.1
      · simp [e, hp1] at h1
      · rfl
    · rintro ⟨⟨r, hp, h⟩, _⟩
      exact ⟨(r, c), hp, by simp [h]⟩
  have := cnt_not b.t4 hT
  omega
theorem lot_T {t : Nat} {l : List Nat} (h : l ∈ lots t) : l = (List.range t).filter fun x => !(decide (x < t) && !decide (x ∈ l)) := by
  have e := lots_is t l h
  refine e.symm.trans (List.filter_congr fun x hx => ?_)
  rw [decide_eq_true (List.mem_range.mp hx)]
  simp
theorem lot_In {t : Nat} {l : List Nat} : In (fun x => decide (x < t) && !decide (x ∈ l)) 0 t := fun r h => by
  rw [Bool.and_eq_true] at h
  have := of_decide_eq_true h.1
  omega
theorem size_ge {t : Nat} {ps : List Pl} (b : Loose t ps) {l : List Nat} (h : l ∈ lots t) : due ps t ≤ sizeOf' ps l := by
  have e := size_T b (lot_In (t := t) (l := l))
  rw [← lot_T h] at e
  have w := weak ps (fun p hp => (b.inn p hp).2) t 0 [] _ (by have := b.t4; omega) (lot_In (t := t) (l := l))
  show mostN ps t 0 [] ≤ _
  omega
theorem size_hit {t : Nat} {ps : List Pl} (b : Loose t ps) : ∃ l, l ∈ lots t ∧ sizeOf' ps l ≤ due ps t := by
  obtain ⟨T, iT, lT⟩ := koenig ps (fun p hp => (b.inn p hp).2) t 0 [] (by have := b.t4; omega)
  have e := size_T b iT
  refine ⟨_, lots_all (fun x => !T x) t, ?_⟩
  show _ ≤ mostN ps t 0 []
  omega
theorem fold_min {α : Type} (f : α → Nat) : ∀ (xs : List α) (b : Nat), xs.foldl (fun m x => min m (f x)) b ≤ b ∧ (∀ x ∈ xs, xs.foldl (fun m x => min m (f x)) b ≤ f x) ∧ (xs.foldl (fun m x => min m (f x)) b = b ∨ ∃ x ∈ xs, xs.foldl (fun m x => min m (f x)) b = f x)
  | [], b => ⟨Nat.le_refl _, fun _ h => (by cases h), .inl rfl⟩
  | y :: xs, b => by
    obtain ⟨h1, h2, h3⟩ := fold_min f xs (min b (f y))
    rw [List.foldl_cons]
    refine ⟨Nat.le_trans h1 (Nat.min_le_left ..), fun x hx => ?_, ?_⟩
    · rcases List.mem_cons.mp hx with rfl | hx
      · exact Nat.le_trans h1 (Nat.min_le_right ..)
      · exact h2 x hx
    · rcases h3 with h3 | ⟨x, hx, h3⟩
      · rcases Nat.le_total b (f y) with g | g
        · exact .inl (h3.trans (Nat.min_eq_left g))
        · exact .inr ⟨y, .head _, h3.trans (Nat.min_eq_right g)⟩
      · exact .inr ⟨x, .tail _ hx, h3⟩
theorem cols_le4 (ps : List Pl) (rows : List Nat) : (colsOf ps rows).length ≤ 4 := by
  unfold colsOf
  have := List.length_filter_le (fun c => ps.any fun p => !rows.contains p.1 && p.2 == c) (List.range 4)
  rwa [List.length_range] at this
theorem nil_lots : ∀ t, [] ∈ lots t
  | 0 => .head _
  | t + 1 => by
    rw [lots, List.mem_append]
    exact .inl (nil_lots t)
theorem due_le4 {t : Nat} {ps : List Pl} (b : Loose t ps) : due ps t ≤ 4 := by
  have h := size_ge b (nil_lots t)
  have := cols_le4 ps []
  unfold sizeOf' at h
  simp at h
  omega
theorem fewest_eq {t : Nat} {ps : List Pl} (b : Loose t ps) : fewestN ps t = due ps t := by
  obtain ⟨h1, h2, h3⟩ := fold_min (sizeOf' ps) (lots t) 99
  obtain ⟨l, hl, g⟩ := size_hit b
  have := h2 l hl
  have d4 := due_le4 b
  show (lots t).foldl (fun found rows => min found (sizeOf' ps rows)) 99 = _
  rcases h3 with h3 | ⟨x, hx, h3⟩
  · omega
  · have := size_ge b hx
    omega
theorem best_of (f : List Nat → Nat) : ∀ (xs : List (List Nat)) (b : List Nat), bestOf f xs b ∈ b :: xs ∧ ∀ x ∈ b :: xs, f (bestOf f xs b) ≤ f x
  | [], b => ⟨.head _, fun x hx => by rw [List.mem_singleton.mp hx]; exact Nat.le_refl _⟩
  | y :: xs, b => by
    rw [bestOf]
    obtain ⟨h1, h2⟩ := best_of f xs (if f y < f b then y else b)
    refine ⟨?_, fun x hx => ?_⟩
    · rcases List.mem_cons.mp h1 with e | h
      · rw [e]
        split
        · exact .tail _ (.head _)
        · exact .head _
      · exact .tail _ (.tail _ h)
    · have h0 := h2 _ (.head _)
      rcases List.mem_cons.mp hx with rfl | hx
      · refine Nat.le_trans h0 ?_
        split <;> omega
      · rcases List.mem_cons.mp hx with rfl | hx
        · refine Nat.le_trans h0 ?_
          split <;> omega
        · exact h2 x (.tail _ hx)
theorem lots_cons : ∀ n, lots n = [] :: (lots n).tail
  | 0 => rfl
  | n + 1 => by
    rw [lots, lots_cons n]
    rfl
theorem cover_lot (ps : List Pl) (t : Nat) : coverRows ps t ∈ lots t := by
  have := (best_of (sizeOf' ps) (lots t).tail []).1
  rwa [← lots_cons] at this
theorem cover_size {t : Nat} {ps : List Pl} (b : Loose t ps) : sizeOf' ps (coverRows ps t) = due ps t := by
  have h1 := (best_of (sizeOf' ps) (lots t).tail []).2
  rw [← lots_cons] at h1
  obtain ⟨l, hl, g⟩ := size_hit b
  have h2 := h1 l hl
  have h3 := size_ge b (cover_lot ps t)
  unfold coverRows at h3 ⊢
  omega
end K73

set_option Elab.async false
set_option linter.all false
set_option maxRecDepth 100000
set_option maxHeartbeats 4000000
/-! A board turned about, a board less a place; no Python here. -/
namespace K73
theorem ltP_asym {p q : Pl} (h : ltP p q) (h' : ltP q p) : False := by
  unfold ltP at h h'
  omega
theorem ltP_irr {p : Pl} (h : ltP p p) : False := ltP_asym h h
/-- a rising list is told by what is in it -/
theorem ltP_uniq : ∀ {xs ys : List Pl}, xs.Pairwise ltP → ys.Pairwise ltP → (∀ k, k ∈ xs ↔ k ∈ ys) → xs = ys
  | [], [], _, _, _ => rfl
  | [], y :: ys, _, _, h => by
    have := (h y).mpr (.head _)
    cases this
  | x :: xs, [], _, _, h => by
    have := (h x).mp (.head _)
    cases this
  | x :: xs, y :: ys, hx, hy, h => by
    have hx' := List.pairwise_cons.mp hx
    have hy' := List.pairwise_cons.mp hy
    have e : x = y := by
      have a := (h x).mp (.head _)
      have b := (h y).mpr (.head _)
      rcases List.mem_cons.mp a with a | a
      · exact a
      · rcases List.mem_cons.mp b with b | b
        · exact b.symm
        · exact (ltP_asym (hx'.1 y b) (hy'.1 x a)).elim
    subst e
    rw [ltP_uniq hx'.2 hy'.2 fun k => ?_]
    constructor
    · intro hk
      have h1 := hx'.1 k hk
      rcases List.mem_cons.mp ((h k).mp (.tail _ hk)) with e | m
      · exact (ltP_irr (e ▸ h1)).elim
      · exact m
    · intro hk
      have h1 := hy'.1 k hk
      rcases List.mem_cons.mp ((h k).mpr (.tail _ hk)) with e | m
      · exact (ltP_irr (e ▸ h1)).elim
      · exact m
def grid16 : List Pl := [(0,0),(0,1),(0,2),(0,3),(1,0),(1,1),(1,2),(1,3),(2,0),(2,1),(2,2),(2,3),(3,0),(3,1),(3,2),(3,3)]
theorem grid_srt : grid16.Pairwise ltP := by decide +kernel
theorem grid_mem {p : Pl} (h1 : p.1 < 4) (h2 : p.2 < 4) : p ∈ grid16 := by
  obtain ⟨a, b⟩ := p
  have h1 : a < 4 := h1
  have h2 : b < 4 := h2
  rcases a with _ | _ | _ | _ | a <;> rcases b with _ | _ | _ | _ | b <;> first | decide | omega
abbrev sw (p : Pl) : Pl := (p.2, p.1)
/-- the board turned about -/
def turnP (ps : List Pl) : List Pl := grid16.filter fun q => decide (sw q ∈ ps)
theorem turn_mem {t : Nat} {ps : List Pl} (b : Loose t ps) (q : Pl) : q ∈ turnP ps ↔ sw q ∈ ps := by
  unfold turnP
  rw [List.mem_filter, decide_eq_true_eq]
  refine ⟨fun h => h.2, fun h => ⟨grid_mem ?_ ?_, h⟩⟩
  · exact (b.inn _ h).2
  · have := (b.inn _ h).1
    have := b.t4
    show (sw q).1 < 4
    omega
theorem turn_srt (ps : List Pl) : (turnP ps).Pairwise ltP := List.Pairwise.filter _ grid_srt
theorem turn_board {t w : Nat} {ps : List Pl} (b : Board t w ps) : Board w t (turnP ps) := by
  refine ⟨b.w1, b.w4, b.t1, b.t4, ?_, ?_, fun q hq => ?_, turn_srt ps⟩
  · have h1 := b.n1
    cases ps with
    | nil => exact absurd h1 (by decide)
    | cons p ps =>
      refine List.length_pos_of_mem (a := sw p) ((turn_mem b.loose _).mpr (.head _))
  · exact List.length_filter_le _ _
  · have := b.inn _ ((turn_mem b.loose q).mp hq)
    exact ⟨this.2, this.1⟩
theorem map_sw1 (m : List Pl) : (m.map sw).map (·.1) = m.map (·.2) := by rw [List.map_map]; rfl
theorem map_sw2 (m : List Pl) : (m.map sw).map (·.2) = m.map (·.1) := by rw [List.map_map]; rfl
theorem spare_turn {t : Nat} {ps m : List Pl} (b : Loose t ps) (s : Spare ps m) : Spare (turnP ps) (m.map sw) := by
  refine ⟨fun q hq => ?_, by rw [map_sw1]; exact s.cols, by rw [map_sw2]; exact s.rows⟩
  obtain ⟨p, hp, rfl⟩ := List.mem_map.mp hq
  exact (turn_mem b _).mpr (s.sub p hp)
theorem spare_back {t : Nat} {ps m : List Pl} (b : Loose t ps) (s : Spare (turnP ps) m) : Spare ps (m.map sw) := by
  refine ⟨fun q hq => ?_, by rw [map_sw1]; exact s.cols, by rw [map_sw2]; exact s.rows⟩
  obtain ⟨p, hp, rfl⟩ := List.mem_map.mp hq
  exact (turn_mem b _).mp (s.sub p hp)
theorem due_turn {t w : Nat} {ps : List Pl} (b : Board t w ps) : due (turnP ps) w = due ps t := by
  have h1 := spare_le (turn_board b).loose (spare_turn b.loose (rk_spare ps t))
  have h2 := spare_le b.loose (spare_back b.loose (rk_spare (turnP ps) w))
  rw [List.length_map, rk_len] at h1 h2
  omega
theorem spare_drop {ps m : List Pl} (s : Spare ps m) (n : Nat) : Spare ps (m.drop n) :=
  ⟨fun p hp => s.sub p (List.mem_of_mem_drop hp), List.Nodup.sublist ((List.drop_sublist ..).map _) s.rows, List.Nodup.sublist ((List.drop_sublist ..).map _) s.cols⟩
theorem due_pos {t w : Nat} {ps : List Pl} (b : Board t w ps) : 1 ≤ due ps t := by
  have h1 := b.n1
  cases ps with
  | nil => exact absurd h1 (by decide)
  | cons p ps => exact spare_le (m := [p]) b.loose ⟨fun q hq => by rw [List.mem_singleton.mp hq]; exact .head _, by simp, by simp⟩
/-! ### less a place -/
def leftP (ps : List Pl) (i : Nat) : List Pl := ps.take i ++ ps.drop (i + 1)
theorem left_sub (ps : List Pl) (i : Nat) : (leftP ps i).Sublist ps := by
  have h := List.Sublist.append (List.Sublist.refl (ps.take i)) (List.drop_sublist 1 (ps.drop i))
  rw [List.drop_drop, List.take_append_drop] at h
  exact h
theorem left_board {t w : Nat} {ps : List Pl} (b : Board t w ps) {i : Nat} (h : leftP ps i ≠ []) : Board t w (leftP ps i) :=
  ⟨b.t1, b.t4, b.w1, b.w4, List.length_pos_iff.mpr h, Nat.le_trans (left_sub ps i).length_le b.n16, fun p hp => b.inn p ((left_sub ps i).mem hp), List.Pairwise.sublist (left_sub ps i) b.srt⟩
theorem left_mem {ps : List Pl} {i : Nat} {o p : Pl} (ho : ps[i]? = some o) (hp : p ∈ ps) (hne : p ≠ o) : p ∈ leftP ps i := by
  have hs : ps.take i ++ o :: ps.drop (i + 1) = ps := by
    obtain ⟨hi, e⟩ := List.getElem?_eq_some_iff.mp ho
    rw [← e, ← List.drop_eq_getElem_cons hi, List.take_append_drop]
  rw [← hs] at hp
  rcases List.mem_append.mp hp with h | h
  · exact List.mem_append.mpr (.inl h)
  · rcases List.mem_cons.mp h with e | h
    · exact absurd e hne
    · exact List.mem_append.mpr (.inr h)
theorem len_out {o : Pl} : ∀ {m : List Pl}, (m.map (·.1)).Nodup → m.length ≤ (m.filter fun p => decide (p ≠ o)).length + 1
  | [], _ => Nat.zero_le _
  | p :: m, h => by
    rw [List.map_cons] at h
    have hn := List.nodup_cons.mp h
    rw [List.filter_cons]
    by_cases e : p = o
    · have : m.filter (fun p => decide (p ≠ o)) = m := List.filter_eq_self.mpr fun q hq => decide_eq_true fun z => hn.1 (by rw [e, ← z]; exact List.mem_map.mpr ⟨q, hq, rfl⟩)
      rw [if_neg (by rw [decide_eq_true_eq]; exact fun z => z e), this]
      exact Nat.le_refl _
    · have := len_out (o := o) hn.2
      rw [if_pos (by rw [decide_eq_true_eq]; exact e), List.length_cons, List.length_cons]
      omega
theorem due_left {t w : Nat} {ps : List Pl} (b : Board t w ps) {i : Nat} (hi : i < ps.length) (h : leftP ps i ≠ []) : due (leftP ps i) t ≤ due ps t ∧ due ps t ≤ due (leftP ps i) t + 1 := by
  have s1 := rk_spare (leftP ps i) t
  have h1 := spare_le b.loose (m := rk (leftP ps i) t) ⟨fun p hp => (left_sub ps i).mem (s1.sub p hp), s1.rows, s1.cols⟩
  rw [rk_len] at h1
  refine ⟨h1, ?_⟩
  have s2 := rk_spare ps t
  have ho : ps[i]? = some ps[i] := List.getElem?_eq_getElem hi
  have s3 : Spare (leftP ps i) ((rk ps t).filter fun p => decide (p ≠ ps[i])) := ⟨fun p hp => by
    obtain ⟨a, c⟩ := List.mem_filter.mp hp
    exact left_mem ho (s2.sub p a) (of_decide_eq_true c), List.Nodup.sublist ((List.filter_sublist).map _) s2.rows, List.Nodup.sublist ((List.filter_sublist).map _) s2.cols⟩
  have h2 := spare_le (left_board b h).loose s3
  have h3 := len_out (o := ps[i]) s2.rows
  rw [rk_len] at h3
  omega
/-! ### covers -/
theorem lot_mem {t : Nat} {l : List Nat} (h : l ∈ lots t) : ∀ x ∈ l, x < t := lots_lt t l h
theorem lot_nodup {t : Nat} {l : List Nat} (h : l ∈ lots t) : l.Nodup := by
  rw [← lots_is t l h]
  exact List.Pairwise.filter _ List.nodup_range
theorem cols_nodup (ps : List Pl) (rows : List Nat) : (colsOf ps rows).Nodup := List.Pairwise.filter _ List.nodup_range
theorem cols_w {t w : Nat} {ps : List Pl} (b : Board t w ps) (rows : List Nat) : ∀ x ∈ colsOf ps rows, x < w := fun x hx => by
  obtain ⟨_, h⟩ := List.mem_filter.mp hx
  obtain ⟨p, hp, h⟩ := List.any_eq_true.mp h
  rw [Bool.and_eq_true] at h
  have : p.2 = x := by simpa using h.2
  exact this ▸ (b.inn p hp).2
theorem cols_is {t w : Nat} {ps : List Pl} (b : Board t w ps) (rows : List Nat) : (List.range w).filter (fun x => decide (x ∈ colsOf ps rows)) = colsOf ps rows := by
  have h4 := b.w4
  have hw := cols_w b rows
  have e : (List.range w).filter (fun x => decide (x ∈ colsOf ps rows)) = (List.range 4).filter (fun x => decide (x ∈ colsOf ps rows)) := by
    have : ∀ n, w ≤ n → (List.range n).filter (fun x => decide (x ∈ colsOf ps rows)) = (List.range w).filter (fun x => decide (x ∈ colsOf ps rows)) := fun n => by
      induction n with
      | zero => intro h; rw [Nat.le_zero.mp h]
      | succ n ih =>
        intro h
        by_cases e : w = n + 1
        · rw [e]
        · rw [List.range_succ, List.filter_append, ih (by omega)]
          have : n ∉ colsOf ps rows := fun z => by have := hw n z; omega
          simp [this]
    exact (this 4 h4).symm
  rw [e]
  unfold colsOf
  refine List.filter_congr fun x hx => ?_
  rw [Bool.eq_iff_iff, decide_eq_true_eq, List.mem_filter]
  exact ⟨fun h => h.2, fun h => ⟨hx, h⟩⟩
theorem covers_all {t w : Nat} {ps : List Pl} (b : Board t w ps) (rows : List Nat) : (ps.all fun p => decide (p.1 ∈ rows) || decide (p.2 ∈ colsOf ps rows)) = true := by
  rw [List.all_eq_true]
  intro p hp
  rw [Bool.or_eq_true, decide_eq_true_eq, decide_eq_true_eq]
  by_cases h : p.1 ∈ rows
  · exact .inl h
  · refine .inr (List.mem_filter.mpr ⟨List.mem_range.mpr ?_, List.any_eq_true.mpr ⟨p, hp, ?_⟩⟩)
    · have := (b.inn p hp).2
      have := b.w4
      omega
    · simp [h]
theorem covers_turn {t : Nat} {ps : List Pl} (b : Loose t ps) {rows cols : List Nat} (h : (ps.all fun p => decide (p.1 ∈ rows) || decide (p.2 ∈ cols)) = true) : ((turnP ps).all fun p => decide (p.1 ∈ cols) || decide (p.2 ∈ rows)) = true := by
  rw [List.all_eq_true] at h ⊢
  intro q hq
  have := h _ ((turn_mem b q).mp hq)
  rw [Bool.or_eq_true] at this ⊢
  exact this.symm
end K73

set_option Elab.async false
set_option linter.all false
set_option maxRecDepth 100000
set_option maxHeartbeats 4000000
/-! The text by places; the plain checks. -/
namespace K73
open PySem L2 GD
def top (i : Nat) : Stmt := PySem.Challenge.pw_shrunkrooms_k73_any_values_as_rooks_and.main.body.getD i (.Pass ⟨0, 0, 0, 0⟩)
abbrev sIsInt : Stmt := top 3
abbrev sIsCount : Stmt := top 4
abbrev sIsList : Stmt := top 14
abbrev sBet : Stmt := top 15
abbrev sWm : Stmt := top 19
abbrev sPat : Stmt := top 17
abbrev sPl : Stmt := top 16
abbrev sRk : Stmt := top 23
abbrev sIr : Stmt := top 24
abbrev sCv : Stmt := top 25
abbrev sIc : Stmt := top 26
abbrev sMr : Stmt := top 27
abbrev sLo : Stmt := top 28
abbrev sCs : Stmt := top 29
abbrev sUn : Stmt := top 18
abbrev sWb : Stmt := top 30
abbrev sPo : Stmt := top 32
abbrev sDr : Stmt := top 33
abbrev sPk : Stmt := top 34
abbrev sBo : Stmt := top 35
abbrev sMo : Stmt := top 36
abbrev sLc : Stmt := top 37
abbrev sLp : Stmt := top 38
abbrev sRs : Stmt := top 39
abbrev sLs : Stmt := top 40
abbrev sCvs : Stmt := top 41
abbrev sBr : Stmt := top 42
abbrev sBc : Stmt := top 43
abbrev sRi : Stmt := top 44
abbrev sLaw : Stmt := top 45
abbrev sInit : Stmt := inClass (top 11) 0
abbrev sRepr : Stmt := inClass (top 11) 18
structure Blt (mg : Str → Option Value) : Prop where
  isi : mg "isinstance" = none
  int : mg "int" = none
  bool : mg "bool" = none
  abs : mg "abs" = none
  list : mg "list" = none
  tuple : mg "tuple" = none
  len : mg "len" = none
  max : mg "max" = none
  min : mg "min" = none
  divmod : mg "divmod" = none
  range : mg "range" = none
  repr : mg "repr" = none
  all : mg "all" = none
  set : mg "set" = none
  sorted : mg "sorted" = none
  dict : mg "dict" = none
  zip : mg "zip" = none
  gcd : mg "gcd" = some (.builtin "math.gcd")
/-- a def of the text, with its promise -/
structure Dn (P : Program) (w : World) (K : PySem.W.Frag) (mg : Str → Option Value) (base : Heap) (lv : Nat) (x : Str) (ps : List Str) (sp : Sp) where
  f : Addr
  fd : FuncData
  G : FnOk P w K mg base CX0 lv f fd ps sp
  m : mg x = some (.ref f)
  k : PySem.W.keepIn K (.ref f) = true
  b : Binds K fd ps []
abbrev N (n : Nat) : PyData := .int (n : Int)
abbrev pD (p : Pl) : PyData := .tuple [N p.1, N p.2]
abbrev psD (ps : List Pl) : List PyData := ps.map pD
abbrev nsD (ns : List Nat) : List PyData := ns.map N
def IsPs (d : PyData) (ps : List Pl) : Prop := d = .list (psD ps) ∨ d = .tuple (psD ps)
/-! ### promises -/
def FisInt (ds : List PyData) (r : PyData) : Prop := ∃ i : Int, ds = [.int i] ∧ r = .bool true
def FisCount (ds : List PyData) (r : PyData) : Prop := ∃ i : Int, ds = [.int i] ∧ r = .bool (decide (0 ≤ i))
def FisList (ds : List PyData) (r : PyData) : Prop := ∃ xs, (ds = [.list xs] ∨ ds = [.tuple xs]) ∧ r = .bool true
def Fbet (ds : List PyData) (r : PyData) : Prop := ∃ v lo hi : Int, ds = [.int v, .int lo, .int hi] ∧ r = .bool (decide (0 ≤ v) && (decide (lo ≤ v) && decide (v ≤ hi)))
def Fwm (ds : List PyData) (r : PyData) : Prop := ∃ v lo hi : Int, ds = [.int v, .int lo, .int hi] ∧ 0 ≤ v ∧ lo ≤ v ∧ v ≤ hi ∧ r = .none
def Fpl (ds : List PyData) (r : PyData) : Prop := ∃ (t w : Nat) (p : Pl), ds = [pD p, N t, N w] ∧ p.1 < t ∧ p.2 < w ∧ r = .bool true
section
variable {P : Program} {w : World} {K : PySem.W.Frag} {mg : Str → Option Value} {base : Heap}
abbrev nIsInt : List Str := ["value"]
theorem scIsInt : FnScope nIsInt ["value"] (defScope sIsInt) := ⟨rfl, rfl, rfl, by decide +kernel, rfl, by decide +kernel, by decide +kernel⟩
theorem ok_isInt {f : Addr} {fd : FuncData} (F : Fun K "is_integer" "is_integer" sIsInt f fd) (B : Blt mg) : FnOk P w K mg base CX0 1 f fd ["value"] (SpG FisInt) := by
  refine F.ok scIsInt (fun vs H Q E h => h.len (n := 1) (by rintro ds r ⟨i, rfl, _⟩; rfl)) (fun cdv A outer s H vs Q E hr h => ?_)
  refine ⟨_, pss_one (ps_ret (pe_and (pe_callB call_isi (by rfl) B.isi PyProof.Rows.boot_isinstance (pa_cons (pv 0) (pa_cons (pe_bltn (by rfl) B.int PyProof.Rows.boot_int (v := .ty "int") rfl) pa_nil))) (pe_one (pe_not (pe_callB call_isi (by rfl) B.isi PyProof.Rows.boot_isinstance (pa_cons (pv 0) (pa_cons (pe_bltn (by rfl) B.bool PyProof.Rows.boot_bool (v := .ty "bool") rfl) pa_nil))))))), h.body fun ds r hF => ?_⟩
  obtain ⟨i, rfl, rfl⟩ := hF
  exact .ret (.eq (.andV (a := true) (.isi (.var rfl) kb_ii) fun _ => .notV (a := false) (.isi (.var rfl) kb_ib)) rfl)
abbrev nIsCount : List Str := ["value"]
theorem scIsCount : FnScope nIsCount ["value"] (defScope sIsCount) := ⟨rfl, rfl, rfl, by decide +kernel, rfl, by decide +kernel, by decide +kernel⟩
theorem ok_isCount {f : Addr} {fd : FuncData} (F : Fun K "is_count" "is_count" sIsCount f fd) (B : Blt mg) (dInt : Dn P w K mg base 1 "is_integer" ["value"] (SpG FisInt)) : FnOk P w K mg base CX0 2 f fd ["value"] (SpG FisCount) := by
  refine F.ok scIsCount (fun vs H Q E h => h.len (n := 1) (by rintro ds r ⟨i, rfl, _⟩; rfl)) (fun cdv A outer s H vs Q E hr h => ?_)
  refine ⟨_, pss_one (ps_ret (pe_and (pe_call dInt.G (hr.mono (by decide)) (by rfl) dInt.m dInt.k dInt.b .nil pass0 (pa_cons (pv 0) pa_nil)) (pe_one (pe_cmpR op_ge (pv 0) pe_int (nomark _))))), h.body fun ds r hF => ?_⟩
  obtain ⟨i, rfl, rfl⟩ := hF
  exact .ret (.eq (.andV (a := true) (.call (.cons (.var rfl) .nil) ⟨i, rfl, rfl⟩) fun _ => .op (.var rfl) (.int 0) .ge) rfl)
abbrev nIsList : List Str := ["value"]
theorem scIsList : FnScope nIsList ["value"] (defScope sIsList) := ⟨rfl, rfl, rfl, by decide +kernel, rfl, by decide +kernel, by decide +kernel⟩
theorem ok_isList {f : Addr} {fd : FuncData} (F : Fun K "is_list" "is_list" sIsList f fd) (B : Blt mg) : FnOk P w K mg base CX0 1 f fd ["value"] (SpG FisList) := by
  refine F.ok scIsList (fun vs H Q E h => h.len (n := 1) (by rintro ds r ⟨i, rfl | rfl, _⟩ <;> rfl)) (fun cdv A outer s H vs Q E hr h => ?_)
  refine ⟨_, pss_one (ps_ret (pe_callB call_isiT (by rfl) B.isi PyProof.Rows.boot_isinstance (pa_cons (pv 0) (pa_cons (pe_tup (pa_cons (pe_bltn (by rfl) B.list PyProof.Rows.boot_list (v := .ty "list") rfl) (pa_cons (pe_bltn (by rfl) B.tuple PyProof.Rows.boot_tuple (v := .ty "tuple") rfl) pa_nil))) pa_nil)))), h.body fun ds r hF => ?_⟩
  obtain ⟨i, rfl | rfl, rfl⟩ := hF
  · exact .ret (.isiT (.var rfl) fun K => kitAny_cons (b := true) (kit_ty kb_ll) (fun z => by cases z) fun _ => rfl)
  · exact .ret (.isiT (.var rfl) fun K => kitAny_cons (b := false) (kit_ty kb_tl) (fun _ => kitAny_cons (b := true) (kit_ty kb_tt) (fun z => by cases z) fun _ => rfl) fun z => by cases z)
abbrev nBet : List Str := ["value", "low", "high"]
theorem scBet : FnScope nBet ["value", "low", "high"] (defScope sBet) := ⟨rfl, rfl, rfl, by decide +kernel, rfl, by decide +kernel, by decide +kernel⟩
theorem ok_bet {f : Addr} {fd : FuncData} (F : Fun K "is_between" "is_between" sBet f fd) (B : Blt mg) (dCount : Dn P w K mg base 2 "is_count" ["value"] (SpG FisCount)) : FnOk P w K mg base CX0 3 f fd ["value", "low", "high"] (SpG Fbet) := by
  refine F.ok scBet (fun vs H Q E h => h.len (n := 3) (by rintro ds r ⟨v, lo, hi, rfl, _⟩; rfl)) (fun cdv A outer s H vs Q E hr h => ?_)
  refine ⟨_, pss_one (ps_ret (pe_and (pe_call dCount.G (hr.mono (by decide)) (by rfl) dCount.m dCount.k dCount.b .nil pass0 (pa_cons (pv 0) pa_nil)) (pe_one (pe_chain op_le op_le (pv 1) (pv 0) (pv 2))))), h.body fun ds r hF => ?_⟩
  obtain ⟨v, lo, hi, rfl, rfl⟩ := hF
  exact .ret (.andV (.call (.cons (.var rfl) .nil) ⟨v, rfl, rfl⟩) fun _ => .chain (.var rfl) (.var rfl) (.var rfl) .le .le)
abbrev nWm : List Str := ["value", "low", "high"]
theorem scWm : FnScope nWm ["value", "low", "high"] (defScope sWm) := ⟨rfl, rfl, rfl, by decide +kernel, rfl, by decide +kernel, by decide +kernel⟩
theorem ok_wm {f : Addr} {fd : FuncData} (F : Fun K "want_many" "want_many" sWm f fd) (B : Blt mg) (dBet : Dn P w K mg base 3 "is_between" ["value", "low", "high"] (SpG Fbet)) : FnOk P w K mg base CX0 4 f fd ["value", "low", "high"] (SpG Fwm) := by
  refine F.ok scWm (fun vs H Q E h => h.len (n := 3) (by rintro ds r ⟨v, lo, hi, rfl, _⟩; rfl)) (fun cdv A outer s H vs Q E hr h => ?_)
  refine ⟨_, PSs.nox (pss_one (ps_if (pt_not (pt_val (pe_call dBet.G (hr.mono (by decide)) (by rfl) dBet.m dBet.k dBet.b .nil pass0 (pa_cons (pv 0) (pa_cons (pv 1) (pa_cons (pv 2) pa_nil)))))) (pss_one ps_never) pss_nil)), h.body0 fun ds r hF => ?_⟩
  obtain ⟨v, lo, hi, rfl, h0, h1, h2, rfl⟩ := hF
  exact ⟨rfl, _, .ifF (.eq (.not (.val (.call (.cons (.var rfl) (.cons (.var rfl) (.cons (.var rfl) .nil))) ⟨v, lo, hi, rfl, rfl⟩))) (by rw [decide_eq_true h0, decide_eq_true h1, decide_eq_true h2]; rfl)) .next⟩
abbrev nPl : List Str := ["value", "tall", "wide"]
theorem scPl : FnScope nPl ["value", "tall", "wide"] (defScope sPl) := ⟨rfl, rfl, rfl, by decide +kernel, rfl, by decide +kernel, by decide +kernel⟩
theorem ok_pl {f : Addr} {fd : FuncData} (F : Fun K "is_place" "is_place" sPl f fd) (B : Blt mg) (dBet : Dn P w K mg base 3 "is_between" ["value", "low", "high"] (SpG Fbet)) : FnOk P w K mg base CX0 4 f fd ["value", "tall", "wide"] (SpG Fpl) := by
  refine F.ok scPl (fun vs H Q E h => h.len (n := 3) (by rintro ds r ⟨t, w, p, rfl, _⟩; rfl)) (fun cdv A outer s H vs Q E hr h => ?_)
  refine ⟨_, pss_cons (ps_if (pw_or (pt_not (pt_val (pe_callB call_isi (by rfl) B.isi PyProof.Rows.boot_isinstance (pa_cons (pv 0) (pa_cons (pe_bltn (by rfl) B.tuple PyProof.Rows.boot_tuple (v := .ty "tuple") rfl) pa_nil))))) (pw_or1 (pt_cmpR op_ne (pe_callB call_len_seq (by rfl) B.len PySem.boot_len (pa_cons (pv 0) pa_nil)) pe_int (nomark _)))).pt (pss_one (ps_ret pe_bl)) pss_nil)
      (pss_one (ps_ret (pe_and (pe_call dBet.G (hr.mono (by decide)) (by rfl) dBet.m dBet.k dBet.b .nil pass0 (pa_cons (pe_ix ix_tup (pv 0) pe_int (fun _ _ => rfl)) (pa_cons pe_int (pa_cons (pe_op op_sub (pv 1) pe_int) pa_nil)))) (pe_one (pe_call dBet.G (hr.mono (by decide)) (by rfl) dBet.m dBet.k dBet.b .nil pass0 (pa_cons (pe_ix ix_tup (pv 0) pe_int (fun _ _ => rfl)) (pa_cons pe_int (pa_cons (pe_op op_sub (pv 2) pe_int) pa_nil)))))))), h.body fun ds r hF => ?_⟩
  obtain ⟨t, w, p, rfl, h1, h2, rfl⟩ := hF
  have i0 : ∀ {g : List (Option PyData)}, g[0]? = some (some (pD p)) → EvG (tOp (rIxT K) (tVar 0) (tC (.int 0))) g (N p.1) := fun h => .op (.var h) (.int 0) (.ixT (j := 0) rfl)
  have i1 : ∀ {g : List (Option PyData)}, g[0]? = some (some (pD p)) → EvG (tOp (rIxT K) (tVar 0) (tC (.int 1))) g (N p.2) := fun h => .op (.var h) (.int 1) (.ixT (j := 1) rfl)
  refine .seq (.ifF (.eq (.or (a := false) (.eq (.not (.val (.isi (b := true) (.var rfl) kb_tt))) rfl) fun _ => .tst (.op (.lenT (.var rfl)) (.int 2) .neI)) rfl) .next) ?_
  refine .ret (.eq (.andV (.call (.cons (i0 rfl) (.cons (.int 0) (.cons (.op (.var rfl) (.int 1) .sub) .nil))) ⟨_, _, _, rfl, rfl⟩) fun _ => .call (.cons (i1 rfl) (.cons (.int 0) (.cons (.op (.var rfl) (.int 1) .sub) .nil))) ⟨_, _, _, rfl, rfl⟩) ?_)
  rw [decide_eq_true (show (0 : Int) ≤ (p.1 : Int) by omega), decide_eq_true (show (0 : Int) ≤ (p.2 : Int) by omega), decide_eq_true (show (p.1 : Int) ≤ (t : Int) - 1 by omega), decide_eq_true (show (p.2 : Int) ≤ (w : Int) - 1 by omega)]
  rfl
end
end K73

set_option Elab.async false
set_option linter.all false
set_option maxRecDepth 100000
set_option maxHeartbeats 4000000
/-! Boards, and the program's rooks. -/
namespace K73
open PySem L2 GD
/-! ### shapes -/
theorem lay_ns : ∀ ns : List Nat, PyData.canLayAll0 (nsD ns) = true
  | [] => rfl
  | n :: ns => by
    show (PyData.canLay0 (N n) && PyData.canLayAll0 (nsD ns)) = true
    rw [lay_ns ns]
    rfl
theorem dep_ns : ∀ ns : List Nat, PyData.depthAll (nsD ns) = 0
  | [] => rfl
  | n :: ns => by
    show max (PyData.depth (N n)) (PyData.depthAll (nsD ns)) = 0
    rw [dep_ns ns]
    rfl
theorem lay_ps : ∀ ps : List Pl, PyData.canLayAll0 (psD ps) = true
  | [] => rfl
  | p :: ps => by
    show (PyData.canLay0 (pD p) && PyData.canLayAll0 (psD ps)) = true
    rw [lay_ps ps]
    rfl
theorem dep_ps : ∀ ps : List Pl, PyData.depthAll (psD ps) ≤ 1
  | [] => Nat.zero_le _
  | p :: ps => by
    show max (PyData.depth (pD p)) (PyData.depthAll (psD ps)) ≤ 1
    exact Nat.max_le.mpr ⟨Nat.le_refl _, dep_ps ps⟩
theorem nds_ns : ∀ ns : List Nat, nds (nsD ns) = true
  | [] => rfl
  | n :: ns => by
    show (nd (N n) && nds (nsD ns)) = true
    rw [nds_ns ns]
    rfl
theorem nds_ps : ∀ ps : List Pl, nds (psD ps) = true
  | [] => rfl
  | p :: ps => by
    show (nd (pD p) && nds (psD ps)) = true
    rw [nds_ps ps]
    rfl
theorem sh_N (n : Nat) : SeqAt.shaped (N n) = true := by
  unfold SeqAt.shaped
  rfl
theorem sh_pD (p : Pl) : SeqAt.shaped (pD p) = true := by
  unfold SeqAt.shaped
  rfl
theorem sh_ns (ns : List Nat) : SeqAt.shaped (.list (nsD ns)) = true := by
  unfold SeqAt.shaped
  rw [Bool.and_eq_true, decide_eq_true_eq]
  refine ⟨lay_ns ns, ?_⟩
  show PyData.depthAll (nsD ns) + 1 ≤ 64
  rw [dep_ns]
  decide
theorem sh_ps (ps : List Pl) : SeqAt.shaped (.list (psD ps)) = true := by
  unfold SeqAt.shaped
  rw [Bool.and_eq_true, decide_eq_true_eq]
  refine ⟨lay_ps ps, ?_⟩
  show PyData.depthAll (psD ps) + 1 ≤ 64
  have := dep_ps ps
  omega
theorem eqv_N (a b : Nat) : PyData.eqv (N a) (N b) = decide (a = b) := by
  show ((a : Int) == (b : Int)) = _
  by_cases h : a = b
  · subst h
    simp
  · rw [decide_eq_false h]
    simp
    omega
theorem eqv_pD (p q : Pl) : PyData.eqv (pD p) (pD q) = decide (p = q) := by
  show (PyData.eqv (N p.1) (N q.1) && (PyData.eqv (N p.2) (N q.2) && true)) = _
  rw [eqv_N, eqv_N, Bool.and_true, ← Bool.decide_and]
  congr 1
  exact propext ⟨fun h => Prod.ext h.1 h.2, fun h => ⟨congrArg _ h, congrArg _ h⟩⟩
theorem in_ns (ns : List Nat) (c : Nat) : ((nsD ns).any fun z => PyData.eqv z (N c)) = decide (c ∈ ns) := by
  rw [List.any_map]
  have : (fun x => PyData.eqv (N x) (N c)) = fun x => decide (x = c) := funext fun x => eqv_N x c
  show ns.any (fun x => PyData.eqv (N x) (N c)) = _
  rw [this]
  rw [Bool.eq_iff_iff, List.any_eq_true, decide_eq_true_eq]
  simp
theorem in_ps (ps : List Pl) (p : Pl) : ((psD ps).any fun z => PyData.eqv z (pD p)) = decide (p ∈ ps) := by
  show (ps.map pD).any _ = _
  rw [List.any_map]
  have : (fun x => PyData.eqv (pD x) (pD p)) = fun x => decide (x = p) := funext fun x => eqv_pD x p
  show ps.any (fun x => PyData.eqv (pD x) (pD p)) = _
  rw [this]
  rw [Bool.eq_iff_iff, List.any_eq_true, decide_eq_true_eq]
  simp
theorem len_psD (ps : List Pl) : (psD ps).length = ps.length := List.length_map ..
theorem len_nsD (ps : List Nat) : (nsD ps).length = ps.length := List.length_map ..
/-! ### promises -/
def Fpat (ds : List PyData) (r : PyData) : Prop := ∃ (t w : Nat) (ps : List Pl) (pd : PyData), Board t w ps ∧ IsPs pd ps ∧ ds = [pd, N t, N w, .int 1, .int 16] ∧ r = .bool true
def Fwb (ds : List PyData) (r : PyData) : Prop := ∃ (t w : Nat) (ps : List Pl) (pd : PyData), Board t w ps ∧ IsPs pd ps ∧ ds = [N t, N w, pd] ∧ r = .none
def Fmr (n : Nat) (ds : List PyData) (r : PyData) : Prop := ∃ (t row : Nat) (ps taken : List Pl) (pd : PyData), IsPs pd ps ∧ ps.length ≤ 16 ∧ row + n = t ∧ t ≤ 4 ∧ taken.length ≤ row ∧ ds = [pd, N t, .list (psD taken), N row] ∧ r = .list (psD (mostR ps n row taken))
def Frk (ds : List PyData) (r : PyData) : Prop := ∃ (t w : Nat) (ps : List Pl) (pd : PyData), Board t w ps ∧ IsPs pd ps ∧ ds = [N t, N w, pd] ∧ r = .list (psD (mostR ps t 0 []))
section
variable {γ : List (Option PyData)} {K : PySem.W.Frag} {te : TE}
theorem len_ps {ps : List Pl} {pd : PyData} (hp : IsPs pd ps) (h : EvG te γ pd) : EvG (tCB (rLn K) (tCons te tNil)) γ (N ps.length) := by
  rcases hp with rfl | rfl
  · exact .eq (.len h) (by rw [len_psD])
  · exact .eq (.lenT h) (by rw [len_psD])
theorem iter_ps {ps : List Pl} {pd : PyData} (hp : IsPs pd ps) (h : EvG te γ pd) : IterG (fun σ H R => iList K te σ H R ∨ iTup K te σ H R) γ (psD ps) := by
  rcases hp with rfl | rfl
  · exact .orL (.list h)
  · exact .orR (.tuple h)
theorem get_ps {ps : List Pl} {i : Nat} {d : PyData} (h : (psD ps)[i]? = some d) : ∃ p, ps[i]? = some p ∧ d = pD p := by
  have h' : (ps.map pD)[i]? = some d := h
  rw [List.getElem?_map] at h'
  cases hp : ps[i]? with
  | none => rw [hp] at h'; cases h'
  | some p => rw [hp] at h'; cases h'; exact ⟨p, rfl, rfl⟩
theorem get_ns {ns : List Nat} {i : Nat} {d : PyData} (h : (nsD ns)[i]? = some d) : ∃ p, ns[i]? = some p ∧ d = N p := by
  have h' : (ns.map N)[i]? = some d := h
  rw [List.getElem?_map] at h'
  cases hp : ns[i]? with
  | none => rw [hp] at h'; cases h'
  | some p => rw [hp] at h'; cases h'; exact ⟨p, rfl, rfl⟩
end
/-- the order of two places that stand in a tuple -/
def ltD : PyData → Bool
  | .tuple [.tuple [.int a, .int b], .tuple [.int c, .int e]] => HT.lexLt [a, b] [c, e]
  | _ => false
theorem lex_ltP {p q : Pl} (h : ltP p q) : HT.lexLt [(p.1 : Int), (p.2 : Int)] [(q.1 : Int), (q.2 : Int)] = true := by
  rw [HT.lexLt_cons, HT.lexLt_cons, HT.lexLt_nil_nil]
  rcases h with h | ⟨h1, h2⟩
  · rw [if_neg (by omega)]
    exact decide_eq_true (by omega)
  · rw [if_pos (by omega), if_neg (by omega)]
    exact decide_eq_true (by omega)
theorem cut1 (ds : List PyData) : cutD ds (some 1) none = ds.drop 1 := by
  unfold cutD
  have h1 : HT.sIx ds.length 0 (some 1) = min 1 ds.length := by
    unfold HT.sIx
    simp
  have h2 : HT.sIx ds.length ds.length none = ds.length := rfl
  rw [h1, h2]
  cases ds with
  | nil => rfl
  | cons d ds =>
    have : min 1 (d :: ds).length = 1 := by simp
    rw [this]
    simp
theorem rising {ps : List Pl} (h : ps.Pairwise ltP) : (List.zipWith (fun d e => PyData.tuple [d, e]) (psD ps) ((psD ps).drop 1)).all ltD = true := by
  induction ps with
  | nil => rfl
  | cons p ps ih =>
    cases ps with
    | nil => rfl
    | cons q ps =>
      have hp := List.pairwise_cons.mp h
      have ih := ih hp.2
      show (ltD (.tuple [pD p, pD q]) && _) = true
      rw [Bool.and_eq_true]
      exact ⟨lex_ltP (hp.1 q (.head _)), ih⟩
section
variable {P : Program} {w : World} {K : PySem.W.Frag} {mg : Str → Option Value} {base : Heap}
abbrev nPat : List Str := ["value", "tall", "wide", "low", "high", "place", "later"]
theorem scPat : FnScope nPat ["value", "tall", "wide", "low", "high"] (defScope sPat) := ⟨rfl, rfl, rfl, by decide +kernel, rfl, by decide +kernel, by decide +kernel⟩
theorem ok_pat {f : Addr} {fd : FuncData} (F : Fun K "are_places" "are_places" sPat f fd) (B : Blt mg) (dList : Dn P w K mg base 1 "is_list" ["value"] (SpG FisList)) (dPl : Dn P w K mg base 4 "is_place" ["value", "tall", "wide"] (SpG Fpl)) : FnOk P w K mg base CX0 5 f fd ["value", "tall", "wide", "low", "high"] (SpG Fpat) := by
  refine F.ok scPat (fun vs H Q E h => h.len (n := 5) (by rintro ds r ⟨t, w, ps, pd, _, _, rfl, _⟩; rfl)) (fun cdv A outer s H vs Q E hr h => ?_)
  have hu0 := hr.units0
  refine ⟨_, pss_cons (ps_if (pw_or (pt_not (pt_val (pe_call dList.G (hr.mono (by decide)) (by rfl) dList.m dList.k dList.b .nil pass0 (pa_cons (pv 0) pa_nil)))) (pw_or1 (pt_not (pt_chain op_le op_le (pv 3) (pe_callB call_len_seq (by rfl) B.len PySem.boot_len (pa_cons (pv 0) pa_nil)) (pv 4))))).pt (pss_one (ps_ret pe_bl)) pss_nil)
      (pss_cons (ps_if (pt_not (pt_val (pe_callB (cr_all rfl) (by rfl) B.all PyProof.Rows.boot_all (pa_cons (pe_lc (own := [("place", 5)]) (g := gName 5) (tt := tYes) (te := (tCall (SpG Fpl) [] E0 (tCons (tVar 5) (tCons (tVar 1) (tCons (tVar 2) tNil))))) rfl scPat.nd (PI.or (pi_list (pv 0)) (pi_tup (pv 0))) (blkOk_by (own := [("place", 5)]) (N := nPat) (sc := defScope sPat) (by decide +kernel)) (fun _ _ _ _ _ => (pg_name (i := 5) scPat.nd rfl (Or.inl rfl))) (fun _ _ _ _ _ => pts_nil) (fun _ _ _ _ _ => (pe_call dPl.G (hr.mono (by decide)) (by rfl) dPl.m dPl.k dPl.b .nil pass0 (pa_cons (pv 5) (pa_cons (pv 1) (pa_cons (pv 2) pa_nil)))))) pa_nil)))) (pss_one (ps_ret pe_bl)) pss_nil)
      (pss_one (ps_ret (pe_callB (cr_all rfl) (by rfl) B.all PyProof.Rows.boot_all (pa_cons (pe_lc (own := [("place", 5), ("later", 6)]) (g := gTup K 2 (gCons (gName 5) (gCons (gName 6) gNil))) (tt := tYes) (te := (tOp (rLtT K) (tVar 5) (tVar 6))) rfl scPat.nd (RZ.pi_zipA (by rfl) B.zip (pa_cons (pv 0) (pa_cons (PE.or (pe_slice sl_list (pv 0) (po_some pe_int) po_none) (pe_slice sl_tupA (pv 0) (po_some pe_int) po_none)) pa_nil))) (blkOk_by (own := [("place", 5), ("later", 6)]) (N := nPat) (sc := defScope sPat) (by decide +kernel)) (fun _ _ _ _ _ => (pg_tup rfl (pgs_cons (pg_name (i := 5) scPat.nd rfl (Or.inl rfl)) (pgs_cons (pg_name (i := 6) scPat.nd rfl (Or.inl rfl)) pgs_nil)))) (fun _ _ _ _ _ => pts_nil) (fun _ _ _ _ _ => (pe_cmpR (op_ltT hu0) (pv 5) (pv 6) (nomark _)))) pa_nil))))), h.body fun ds r hF => ?_⟩
  obtain ⟨t, w, ps, pd, hb, hp, rfl, rfl⟩ := hF
  have hn := hb.n1
  have hn2 := hb.n16
  refine .seq (.ifF (.eq (.or (a := false) (.eq (.not (.val (b := true) (.call (.cons (.var rfl) .nil) (by rcases hp with rfl | rfl; exact ⟨_, .inl rfl, rfl⟩; exact ⟨_, .inr rfl, rfl⟩)))) rfl) fun _ => .not (.tst (.chain (.var rfl) (len_ps hp (.var rfl)) (.var rfl) .le .le))) ?_) .next) (.seq (.ifF (.eq (.not (.val (.allLc (fun _ => true) (iter_ps hp (.var rfl)) (by rw [len_psD]; omega) fun i d hd => ?_))) (by rw [List.all_eq_true.mpr fun _ _ => rfl]; rfl)) .next) (.ret (.eq (.allLc ltD (?_ : IterG _ _ (List.zipWith (fun d e => PyData.tuple [d, e]) (psD ps) ((psD ps).drop 1))) ?_ fun i d hd => ?_) (by rw [rising hb.srt]))))
  · rw [decide_eq_true (show (1 : Int) ≤ ((ps.length : Nat) : Int) by omega), decide_eq_true (show ((ps.length : Nat) : Int) ≤ 16 by omega)]
    rfl
  · obtain ⟨p, hp', rfl⟩ := get_ps hd
    have hi := hb.inn p (List.mem_of_getElem? hp')
    exact ⟨_, _, .name, fun j h => h, .call (.cons (.var rfl) (.cons (.var rfl) (.cons (.var rfl) .nil))) ⟨t, w, p, rfl, hi.1, hi.2, rfl⟩⟩
  · rcases hp with rfl | rfl
    · exact .zip (.cons (.var rfl) (.cons (.orL (.eq (.slice (.var rfl) (.some (.int 1)) .none) (by rw [cut1]))) .nil))
    · exact .zipT (.cons (.var rfl) (.cons (.orR (.eq (.sliceT (.var rfl) (.some (.int 1)) .none) (by rw [cut1]))) .nil))
  · rw [List.length_zipWith, len_psD]
    omega
  · rw [getZip] at hd
    cases h1 : (psD ps)[i]? with
    | none => rw [h1] at hd; cases hd
    | some a =>
      cases h2 : ((psD ps).drop 1)[i]? with
      | none => rw [h1, h2] at hd; cases hd
      | some b =>
        rw [h1, h2] at hd
        cases hd
        obtain ⟨p, _, rfl⟩ := get_ps h1
        rw [List.getElem?_drop] at h2
        obtain ⟨q, _, rfl⟩ := get_ps h2
        exact ⟨_, _, .two, fun j h => h, .op (.var rfl) (.var rfl) .ltT⟩
abbrev nWb : List Str := ["tall", "wide", "places"]
theorem scWb : FnScope nWb ["tall", "wide", "places"] (defScope sWb) := ⟨rfl, rfl, rfl, by decide +kernel, rfl, by decide +kernel, by decide +kernel⟩
theorem ok_wb {f : Addr} {fd : FuncData} {k4 k16 : Tok} (F : Fun K "_want_board" "_want_board" sWb f fd) (B : Blt mg) (m4 : mg "MOST" = some (.int 4 k4)) (m16 : mg "MOST_PLACES" = some (.int 16 k16)) (dWm : Dn P w K mg base 4 "want_many" ["value", "low", "high"] (SpG Fwm)) (dPat : Dn P w K mg base 5 "are_places" ["value", "tall", "wide", "low", "high"] (SpG Fpat)) : FnOk P w K mg base CX0 6 f fd ["tall", "wide", "places"] (SpG Fwb) := by
  refine F.ok scWb (fun vs H Q E h => h.len (n := 3) (by rintro ds r ⟨t, w, ps, pd, _, _, rfl, _⟩; rfl)) (fun cdv A outer s H vs Q E hr h => ?_)
  refine ⟨_, PSs.nox (pss_cons (ps_expr (pe_call dWm.G (hr.mono (by decide)) (by rfl) dWm.m dWm.k dWm.b .nil pass0 (pa_cons (pv 0) (pa_cons pe_int (pa_cons (pe_glob (by rfl) m4 (v := .int 4) ⟨_, rfl⟩) pa_nil)))))
      (pss_cons (ps_expr (pe_call dWm.G (hr.mono (by decide)) (by rfl) dWm.m dWm.k dWm.b .nil pass0 (pa_cons (pv 1) (pa_cons pe_int (pa_cons (pe_glob (by rfl) m4 (v := .int 4) ⟨_, rfl⟩) pa_nil)))))
      (pss_one (ps_if (pt_not (pt_val (pe_call dPat.G (hr.mono (by decide)) (by rfl) dPat.m dPat.k dPat.b .nil pass0 (pa_cons (pv 2) (pa_cons (pv 0) (pa_cons (pv 1) (pa_cons pe_int (pa_cons (pe_glob (by rfl) m16 (v := .int 16) ⟨_, rfl⟩) pa_nil)))))))) (pss_one ps_never) pss_nil)))), h.body0 fun ds r hF => ?_⟩
  obtain ⟨t, w, ps, pd, hb, hp, rfl, rfl⟩ := hF
  have := hb.t1
  have := hb.t4
  have := hb.w1
  have := hb.w4
  exact ⟨rfl, _, .seq (.drop (.call (.cons (.var rfl) (.cons (.int 1) (.cons (.int 4) .nil))) ⟨_, _, _, rfl, by omega, by omega, by omega, rfl⟩)) (.seq (.drop (.call (.cons (.var rfl) (.cons (.int 1) (.cons (.int 4) .nil))) ⟨_, _, _, rfl, by omega, by omega, by omega, rfl⟩))
    (.ifF (.eq (.not (.val (b := true) (.call (.cons (.var rfl) (.cons (.var rfl) (.cons (.var rfl) (.cons (.int 1) (.cons (.int 16) .nil))))) ⟨t, w, ps, pd, hb, hp, rfl, rfl⟩))) rfl) .next))⟩
end
end K73

set_option Elab.async false
set_option linter.all false
set_option maxRecDepth 100000
set_option maxHeartbeats 4000000
/-! The program's rooks, its lots. -/
namespace K73
open PySem L2 GD
/-- one place more is looked at -/
def stepR (ps : List Pl) (n row : Nat) (taken : List Pl) (found : List Pl) (p : Pl) : List Pl := if p.1 = row ∧ p.2 ∉ taken.map (·.2) then (if (mostR ps n (row + 1) (taken ++ [p])).length > found.length then mostR ps n (row + 1) (taken ++ [p]) else found) else found
theorem mostR_succ (ps : List Pl) (n row : Nat) (taken : List Pl) : mostR ps (n + 1) row taken = ps.foldl (stepR ps n row taken) (mostR ps n (row + 1) taken) := by
  rw [mostR]
  rfl
theorem fold_take {α β : Type} (g : β → α → β) (b : β) {xs : List α} {i : Nat} {x : α} (h : xs[i]? = some x) : (xs.take (i + 1)).foldl g b = g ((xs.take i).foldl g b) x := by
  rw [List.take_succ, h, List.foldl_append]
  rfl
section
variable {P : Program} {w : World} {K : PySem.W.Frag} {mg : Str → Option Value} {base : Heap}
abbrev nMr : List Str := ["places", "tall", "taken", "row", "found", "columns", "place", "other", "_", "column"]
theorem scMr : FnScope nMr ["places", "tall", "taken", "row"] (defScope sMr) := ⟨rfl, rfl, rfl, by decide +kernel, rfl, by decide +kernel, by decide +kernel⟩
theorem ok_mr {f : Addr} {fd : FuncData} (F : Fun K "_most_rooks" "_most_rooks" sMr f fd) (B : Blt mg) (m : mg "_most_rooks" = some (.ref f)) (k : PySem.W.keepIn K (.ref f) = true) (b : Binds K fd ["places", "tall", "taken", "row"] []) : ∀ n, FnOk P w K mg base CX0 (n + 1) f fd ["places", "tall", "taken", "row"] (SpG (Fmr n))
  | 0 => by
    refine F.ok scMr (fun vs H Q E h => h.len (n := 4) (by rintro ds r ⟨t, row, ps, taken, pd, _, _, _, _, _, rfl, _⟩; rfl)) (fun cdv A outer s H vs Q E hr h => ?_)
    refine ⟨_, PSs.nox (pss_cons (ps_if (pt_cmpR op_eq (pv 3) (pv 1) (nomark _)) (pss_one (ps_ret (pv 2))) pss_nil) pss_never), h.body fun ds r hF => ?_⟩
    obtain ⟨t, row, ps, taken, pd, hp, hl, ht, t4, hk, rfl, rfl⟩ := hF
    exact .seq_rt (.ifT (.eq (.tst (.op (.var rfl) (.var rfl) .eqI)) (decide_eq_true (by omega))) (.ret (.var rfl)))
  | n + 1 => by
    refine F.ok scMr (fun vs H Q E h => h.len (n := 4) (by rintro ds r ⟨t, row, ps, taken, pd, _, _, _, _, _, rfl, _⟩; rfl)) (fun cdv A outer s H vs Q E hr h => ?_)
    have hu65 := u65 hr
    let dMr : Dn P w K mg base (n + 1) "_most_rooks" ["places", "tall", "taken", "row"] (SpG (Fmr n)) := ⟨f, fd, ok_mr F B m k b n, m, k, b⟩
    refine ⟨_, pss_cons (ps_if (pt_cmpR op_eq (pv 3) (pv 1) (nomark _)) (pss_one (ps_ret (pv 2))) pss_nil)
      (pss_cons (ps_set (i := 4) scMr.nd rfl (Or.inl rfl) (pe_call dMr.G hr (by rfl) dMr.m dMr.k dMr.b .nil pass0 (pa_cons (pv 0) (pa_cons (pv 1) (pa_cons (pv 2) (pa_cons (pe_op op_add (pv 3) pe_int) pa_nil))))))
      (pss_cons (ps_setLc (own := [("_", 8), ("column", 9)]) (g := gTup K 2 (gCons (gName 8) (gCons (gName 9) gNil))) (tt := tYes) (te := (tVar 9)) rfl scMr.nd (i := 5) rfl rfl (by rfl) (pi_list (pv 2)) (blkOk_by (own := [("_", 8), ("column", 9)]) (N := nMr) (sc := defScope sMr) (by decide +kernel)) (fun _ _ _ _ _ => (pg_tup rfl (pgs_cons (pg_name (i := 8) scMr.nd rfl (Or.inl rfl)) (pgs_cons (pg_name (i := 9) scMr.nd rfl (Or.inl rfl)) pgs_nil)))) (fun _ _ _ _ _ => pts_nil) (fun _ _ _ _ _ => (pv 9)))
      (pss_cons (ps_for PassesOwn.never rfl (PI.or (pi_list (pv 0)) (pi_tup (pv 0))) (pg_name (i := 6) scMr.nd rfl (Or.inl rfl)) (pss_one (ps_if (pw_and (pt_cmpR op_eq (pe_ix ix_tup (pv 6) pe_int (fun _ _ => rfl)) (pv 3) (nomark _)) (pw_and1 (pt_cmpR (op_notInD hu65) (pe_ix ix_tup (pv 6) pe_int (fun _ _ => rfl)) (pv 5) (by rfl)))).pt (pss_cons (ps_set (i := 7) scMr.nd rfl (Or.inl rfl) (pe_call dMr.G hr (by rfl) dMr.m dMr.k dMr.b .nil pass0 (pa_cons (pv 0) (pa_cons (pv 1) (pa_cons (pe_lst (StX.pa_star (pv 2) (pa_cons (pv 6) pa_nil))) (pa_cons (pe_op op_add (pv 3) pe_int) pa_nil))))))
      (pss_one (ps_set (i := 4) scMr.nd rfl (Or.inl rfl) (pe_ifExp (pt_cmpR op_gt (pe_callB call_len_seq (by rfl) B.len PySem.boot_len (pa_cons (pv 7) pa_nil)) (pe_callB call_len_seq (by rfl) B.len PySem.boot_len (pa_cons (pv 4) pa_nil)) (nomark _)) (pv 7) (pv 4))))) pss_nil)))
      (pss_one (ps_ret (pv 4)))))), h.body fun ds r hF => ?_⟩
    obtain ⟨t, row, ps, taken, pd, hp, hl, ht, t4, hk, rfl, rfl⟩ := hF
    have e1 : ((row : Int) + 1) = ((row + 1 : Nat) : Int) := by omega
    refine .seq (.ifF (.eq (.tst (.op (.var rfl) (.var rfl) .eqI)) (decide_eq_false (by omega))) .next) ?_
    refine .seq (.set (.call (.cons (.var rfl) (.cons (.var rfl) (.cons (.var rfl) (.cons (.eq (.op (.var rfl) (.int 1) .add) (by rw [e1])) .nil)))) ⟨t, row + 1, ps, taken, pd, hp, hl, by omega, t4, by omega, rfl, rfl⟩)) ?_
    refine .seq (.set (.eq (.map (fun d => match d with | .tuple [_, c] => c | _ => .none) (.list (.var rfl)) (by rw [len_psD]; omega) fun i d hd => ?_) (?_ : _ = .list (nsD (taken.map (·.2)))))) ?_
    · obtain ⟨p, _, rfl⟩ := get_ps hd
      exact ⟨_, _, .two, fun j h => h, .var rfl⟩
    · show PyData.list ((taken.map pD).map _) = .list ((taken.map (·.2)).map N)
      rw [List.map_map, List.map_map]
      rfl
    refine .seq (.for_ (iter_ps hp (.var rfl)) (fun i => [some pd, some (N t), some (.list (psD taken)), some (N row), some (.list (psD ((ps.take i).foldl (stepR ps n row taken) (mostR ps n (row + 1) taken)))), some (.list (nsD (taken.map (·.2)))), none, none, none, none]) (.k (.k (.k (.k (.k (.k (.f (.f (.f (.f .nil)))))))))) fun i d hd => ?_) (.ret (.eq (.var rfl) ?_))
    · obtain ⟨p, hp', rfl⟩ := get_ps hd
      rw [fold_take _ _ hp']
      generalize (ps.take i).foldl (stepR ps n row taken) (mostR ps n (row + 1) taken) = found
      have i0 : ∀ {g : List (Option PyData)}, g[6]? = some (some (pD p)) → EvG (tOp (rIxT K) (tVar 6) (tC (.int 0))) g (N p.1) := fun h => .op (.var h) (.int 0) (.ixT (j := 0) rfl)
      have i1 : ∀ {g : List (Option PyData)}, g[6]? = some (some (pD p)) → EvG (tOp (rIxT K) (tVar 6) (tC (.int 1))) g (N p.2) := fun h => .op (.var h) (.int 1) (.ixT (j := 1) rfl)
      refine ⟨_, _, .name, .inl ?_⟩
      have test : ∀ {g : List (Option PyData)}, g[6]? = some (some (pD p)) → g[3]? = some (some (N row)) → g[5]? = some (some (.list (nsD (taken.map (·.2))))) → EvB (tAnd (tTest (tOp rEq (tOp (rIxT K) (tVar 6) (tC (.int 0))) (tVar 3))) (tTest (tOp (rNotInD K) (tOp (rIxT K) (tVar 6) (tC (.int 1))) (tVar 5)))) g (decide (p.1 = row ∧ p.2 ∉ taken.map (·.2))) := fun h6 h3 h5 =>
        .eq (.and (.tst (.op (i0 h6) (.var h3) .eqI)) fun _ => .tst (.op (i1 h6) (.var h5) (.notInD rfl (nds_ns _) (sh_N _) (sh_ns _)))) (by
          rw [in_ns, Bool.decide_and]
          congr 1
          · exact decide_eq_decide.mpr ⟨fun h => by omega, fun h => by omega⟩
          · rw [decide_not])
      by_cases hc : p.1 = row ∧ p.2 ∉ taken.map (·.2)
      · refine .ifT (.eq (test rfl rfl rfl) (decide_eq_true hc)) ?_
        have hlen : (taken ++ [p]).length ≤ row + 1 := by rw [List.length_append]; show _ + 1 ≤ _; omega
        have ht' : EvA (StX.tStar K (tVar 2) (tCons (tVar 6) tNil)) [some pd, some (N t), some (.list (psD taken)), some (N row), some (.list (psD found)), some (.list (nsD (taken.map (·.2)))), some (pD p), none, none, none] (psD (taken ++ [p])) := by
          have := EvA.star (K := K) (γ := [some pd, some (N t), some (.list (psD taken)), some (N row), some (.list (psD found)), some (.list (nsD (taken.map (·.2)))), some (pD p), none, none, none]) (te := tVar 2) (xs := psD taken) (.var rfl) (.cons (.var rfl) .nil : EvA (tCons (tVar 6) tNil) _ [pD p])
          rw [show psD (taken ++ [p]) = psD taken ++ [pD p] from List.map_append ..]
          exact this
        refine .seq (.set (.call (.cons (.var rfl) (.cons (.var rfl) (.cons (.lst ht' (by rw [len_psD]; exact Nat.le_trans hlen (Nat.le_trans (by omega : row + 1 ≤ 5) (by decide)))) (.cons (.eq (.op (.var rfl) (.int 1) .add) (by rw [e1])) .nil)))) ⟨t, row + 1, ps, taken ++ [p], pd, hp, hl, by omega, t4, hlen, rfl, rfl⟩)) ?_
        refine .less (.set (.ite (.tst (.op (.len (.var rfl)) (.len (.var rfl)) .gt)) (fun _ => .var rfl) fun _ => .var rfl)) ?_
        unfold stepR
        rw [if_pos hc, len_psD, len_psD]
        by_cases hg : (mostR ps n (row + 1) (taken ++ [p])).length > found.length
        · rw [if_pos hg, if_pos (decide_eq_true (by omega))]
          exact .k (.k (.k (.k (.k (.k (.f (.f (.f (.f .nil)))))))))
        · rw [if_neg hg, if_neg (by rw [decide_eq_true_eq]; omega)]
          exact .k (.k (.k (.k (.k (.k (.f (.f (.f (.f .nil)))))))))
      · refine .less (.ifF (.eq (test rfl rfl rfl) (decide_eq_false hc)) .next) ?_
        unfold stepR
        rw [if_neg hc]
        exact .k (.k (.k (.k (.k (.k (.f (.f (.f (.f .nil)))))))))
    · show PyData.list (psD ((ps.take (psD ps).length).foldl _ _)) = _
      rw [len_psD, List.take_length, mostR_succ]
abbrev Fmr4 (ds : List PyData) (r : PyData) : Prop := ∃ n, n ≤ 4 ∧ Fmr n ds r
abbrev nRk : List Str := ["tall", "wide", "places"]
theorem scRk : FnScope nRk ["tall", "wide", "places"] (defScope sRk) := ⟨rfl, rfl, rfl, by decide +kernel, rfl, by decide +kernel, by decide +kernel⟩
theorem ok_rk {f : Addr} {fd : FuncData} (F : Fun K "rooks" "rooks" sRk f fd) (B : Blt mg) (dWb : Dn P w K mg base 6 "_want_board" ["tall", "wide", "places"] (SpG Fwb)) (dMr : Dn P w K mg base 5 "_most_rooks" ["places", "tall", "taken", "row"] (SpG Fmr4)) : FnOk P w K mg base CX0 7 f fd ["tall", "wide", "places"] (SpG Frk) := by
  refine F.ok scRk (fun vs H Q E h => h.len (n := 3) (by rintro ds r ⟨t, w, ps, pd, _, _, rfl, _⟩; rfl)) (fun cdv A outer s H vs Q E hr h => ?_)
  refine ⟨_, pss_cons (ps_expr (pe_call dWb.G (hr.mono (by decide)) (by rfl) dWb.m dWb.k dWb.b .nil pass0 (pa_cons (pv 0) (pa_cons (pv 1) (pa_cons (pv 2) pa_nil)))))
      (pss_one (ps_ret (pe_call dMr.G (hr.mono (by decide)) (by rfl) dMr.m dMr.k dMr.b .nil pass0 (pa_cons (pv 2) (pa_cons (pv 0) (pa_cons (pe_lst pa_nil) (pa_cons pe_int pa_nil))))))), h.body fun ds r hF => ?_⟩
  obtain ⟨t, w, ps, pd, hb, hp, rfl, rfl⟩ := hF
  have t4 := hb.t4
  exact .seq (.drop (.call (.cons (.var rfl) (.cons (.var rfl) (.cons (.var rfl) .nil))) ⟨t, w, ps, pd, hb, hp, rfl, rfl⟩)) (.ret (.call (.cons (.var rfl) (.cons (.var rfl) (.cons (.lst .nil (by decide)) (.cons (.int 0) .nil)))) ⟨t, t4, t, 0, ps, [], pd, hp, hb.n16, by omega, t4, Nat.le_refl _, rfl, rfl⟩))
/-! ### lots -/
theorem lots_len : ∀ n, (lots n).length = 2 ^ n
  | 0 => rfl
  | n + 1 => by
    rw [lots, List.length_append, List.length_map, lots_len n, Nat.pow_succ]
    omega
theorem lots_le : ∀ n, ∀ l ∈ lots n, l.length ≤ n
  | 0, l, h => by
    rw [List.mem_singleton.mp h]
    exact Nat.le_refl _
  | n + 1, l, h => by
    rw [lots, List.mem_append, List.mem_map] at h
    rcases h with h | ⟨m, h, rfl⟩
    · exact Nat.le_succ_of_le (lots_le n l h)
    · rw [List.length_append]
      exact Nat.succ_le_succ (lots_le n m h)
abbrev lsD (ls : List (List Nat)) : List PyData := ls.map fun l => .list (nsD l)
def Flo (ds : List PyData) (r : PyData) : Prop := ∃ n : Nat, n ≤ 4 ∧ ds = [N n] ∧ r = .list (lsD (lots n))
abbrev nLo : List Str := ["many", "found", "count", "lot"]
theorem scLo : FnScope nLo ["many"] (defScope sLo) := ⟨rfl, rfl, rfl, by decide +kernel, rfl, by decide +kernel, by decide +kernel⟩
theorem ok_lo {f : Addr} {fd : FuncData} (F : Fun K "_lots" "_lots" sLo f fd) (B : Blt mg) : FnOk P w K mg base CX0 1 f fd ["many"] (SpG Flo) := by
  refine F.ok scLo (fun vs H Q E h => h.len (n := 1) (by rintro ds r ⟨n, _, rfl, _⟩; rfl)) (fun cdv A outer s H vs Q E hr h => ?_)
  refine ⟨_, pss_cons (ps_set (i := 1) scLo.nd rfl (Or.inl rfl) (pe_lst (pa_cons (pe_lst pa_nil) pa_nil)))
      (pss_cons (ps_for PassesOwn.never rfl (pi_range1 (by rfl) B.range (pa_cons (pv 0) pa_nil)) (pg_name (i := 2) scLo.nd rfl (Or.inr rfl)) (pss_one (ps_set (i := 1) scLo.nd rfl (Or.inl rfl) (pe_op op_cat (pv 1) (pe_lc (own := [("lot", 3)]) (g := gName 3) (tt := tYes) (te := (tLst (StX.tStar K (tVar 3) (tCons (tVar 2) tNil)))) rfl scLo.nd (pi_list (pv 1)) (blkOk_by (own := [("lot", 3)]) (N := nLo) (sc := defScope sLo) (by decide +kernel)) (fun _ _ _ _ _ => (pg_name (i := 3) scLo.nd rfl (Or.inl rfl))) (fun _ _ _ _ _ => pts_nil) (fun _ _ _ _ _ => (pe_lst (StX.pa_star (pv 3) (pa_cons (pv 2) pa_nil)))))))))
      (pss_one (ps_ret (pv 1)))), h.body fun ds r hF => ?_⟩
  obtain ⟨n, n4, rfl, rfl⟩ := hF
  refine .seq (.set (.lst (.cons (.lst .nil (by decide)) .nil) (by show 1 ≤ sizeLine; decide))) (.seq (.for_ (.range (.cons (.var rfl) .nil) (by omega)) (fun i => [some (N n), some (.list (lsD (lots i))), none, none]) (.k (.k (.f (.f .nil)))) fun i d hd => ?_) (.ret (.eq (.var rfl) (by rw [show (rngD 0 n).length = n by simp [rngD]]))))
  have hi : i < n := by
    have := (List.getElem?_eq_some_iff.mp hd).1
    simpa [rngD] using this
  have hd' : d = N i := by
    have : (rngD 0 n)[i]? = some (N i) := by simp [rngD, hi]
    rw [this] at hd
    exact (Option.some.inj hd).symm
  subst hd'
  have hl : (lots i).length ≤ 16 := by
    rw [lots_len]
    exact Nat.pow_le_pow_right (by decide) (by omega : i ≤ 4)
  refine ⟨_, _, .name, .inl (.less (.set (.op (.var rfl) (.map (fun d => match d with | .list xs => .list (xs ++ [N i]) | _ => .none) (.list (.var rfl)) (by rw [List.length_map]; omega) fun j d hd => ?_) (.cat (by rw [List.length_map, List.length_map, List.length_map]; exact Nat.le_trans (by omega : _ ≤ 32) (by decide))))) ?_)⟩
  · have h' : ((lots i).map fun l => PyData.list (nsD l))[j]? = some d := hd
    rw [List.getElem?_map] at h'
    cases hp : (lots i)[j]? with
    | none => rw [hp] at h'; cases h'
    | some l =>
      rw [hp] at h'
      cases h'
      have hll := lots_le i l (List.mem_of_getElem? hp)
      refine ⟨_, _, .name, fun j h => h, .lst (.star (.var rfl) (.cons (.var rfl) .nil)) ?_⟩
      rw [List.length_append, len_nsD]
      exact Nat.le_trans (by show l.length + 1 ≤ 5; omega) (by decide)
  · have e : lsD (lots (i + 1)) = lsD (lots i) ++ (lsD (lots i)).map (fun d => match d with | .list xs => .list (xs ++ [N i]) | _ => .none) := by
      show (lots (i + 1)).map _ = (lots i).map _ ++ ((lots i).map _).map _
      rw [lots, List.map_append, List.map_map, List.map_map]
      congr 1
      refine List.map_congr_left fun l _ => ?_
      show PyData.list ((l ++ [i]).map N) = .list (l.map N ++ [N i])
      rw [List.map_append]
      rfl
    rw [e]
    exact .k (.k (.f (.f .nil)))
def Fcs (ds : List PyData) (r : PyData) : Prop := ∃ xs ys : List PyData, ds = [.tuple [.list xs, .list ys]] ∧ r = .int ((xs.length : Nat) + (ys.length : Nat))
abbrev nCs : List Str := ["value"]
theorem scCs : FnScope nCs ["value"] (defScope sCs) := ⟨rfl, rfl, rfl, by decide +kernel, rfl, by decide +kernel, by decide +kernel⟩
theorem ok_cs {f : Addr} {fd : FuncData} (F : Fun K "_cover_size" "_cover_size" sCs f fd) (B : Blt mg) : FnOk P w K mg base CX0 1 f fd ["value"] (SpG Fcs) := by
  refine F.ok scCs (fun vs H Q E h => h.len (n := 1) (by rintro ds r ⟨xs, ys, rfl, _⟩; rfl)) (fun cdv A outer s H vs Q E hr h => ?_)
  refine ⟨_, pss_one (ps_ret (pe_op op_add (pe_callB call_len_seq (by rfl) B.len PySem.boot_len (pa_cons (pe_ix ix_tup (pv 0) pe_int (fun _ _ => rfl)) pa_nil)) (pe_callB call_len_seq (by rfl) B.len PySem.boot_len (pa_cons (pe_ix ix_tup (pv 0) pe_int (fun _ _ => rfl)) pa_nil)))), h.body fun ds r hF => ?_⟩
  obtain ⟨xs, ys, rfl, rfl⟩ := hF
  exact .ret (.op (.len (.op (.var rfl) (.int 0) (.ixT (j := 0) rfl))) (.len (.op (.var rfl) (.int 1) (.ixT (j := 1) rfl))) .add)
end
end K73

set_option Elab.async false
set_option linter.all false
set_option maxRecDepth 100000
set_option maxHeartbeats 4000000
/-! The program's judge of rooks, its covers, its judge of covers. -/
namespace K73
open PySem L2 GD
/-! ### whole numbers in lists -/
abbrev toI (ns : List Nat) : List Int := ns.map fun (n : Nat) => (n : Int)
theorem ns_ints (ns : List Nat) : nsD ns = (toI ns).map PyData.int := by
  rw [List.map_map]
  rfl
theorem nodup_int {ns : List Nat} (h : ns.Nodup) : (toI ns).Nodup := List.Pairwise.map _ (fun a b hab z => hab (by omega)) h
theorem srt_int {ns : List Nat} (h : ns.Pairwise (· < ·)) : (toI ns).Pairwise (· < ·) := List.Pairwise.map _ (fun a b hab => by omega) h
theorem srt_uniq : ∀ {xs ys : List Int}, xs.Pairwise (· < ·) → ys.Pairwise (· < ·) → (∀ k, k ∈ xs ↔ k ∈ ys) → xs = ys
  | [], [], _, _, _ => rfl
  | [], y :: ys, _, _, h => by
    have := (h y).mpr (.head _)
    cases this
  | x :: xs, [], _, _, h => by
    have := (h x).mp (.head _)
    cases this
  | x :: xs, y :: ys, hx, hy, h => by
    have hx' := List.pairwise_cons.mp hx
    have hy' := List.pairwise_cons.mp hy
    have e : x = y := by
      have a := (h x).mp (.head _)
      have b := (h y).mpr (.head _)
      rcases List.mem_cons.mp a with a | a
      · exact a
      · rcases List.mem_cons.mp b with b | b
        · exact b.symm
        · have := hx'.1 y b
          have := hy'.1 x a
          omega
    subst e
    rw [srt_uniq hx'.2 hy'.2 fun k => ?_]
    constructor
    · intro hk
      have h1 := hx'.1 k hk
      rcases List.mem_cons.mp ((h k).mp (.tail _ hk)) with e | m
      · omega
      · exact m
    · intro hk
      have h1 := hy'.1 k hk
      rcases List.mem_cons.mp ((h k).mpr (.tail _ hk)) with e | m
      · omega
      · exact m
section
variable {γ : List (Option PyData)} {K : PySem.W.Frag} {te : TE}
theorem len_set {ns : List Nat} (h : EvG te γ (.list (nsD ns))) (hl : ns.length ≤ 4000) (nd : ns.Nodup) : EvG (RZ.tLenSetI K te) γ (N ns.length) := by
  rw [ns_ints] at h
  exact .eq (.lenSet h (by rw [List.length_map]; exact hl) (nodup_int nd)) (by rw [List.length_map])
theorem sorted_set {ns ms : List Nat} (h : EvG te γ (.list (nsD ns))) (hl : ns.length < 60) (hs : ms.Pairwise (· < ·)) (hm : ∀ k, k ∈ ms ↔ k ∈ ns) : EvG (GS.tSortedSet K te) γ (.list (nsD ms)) := by
  rw [ns_ints] at h
  rw [ns_ints ms]
  refine .sortedSet h (by rw [List.length_map]; exact hl) fun l hp hk => srt_uniq hp (srt_int hs) fun k => (hk k).trans ?_
  rw [List.mem_map, List.mem_map]
  exact ⟨fun ⟨a, b, c⟩ => ⟨a, (hm a).mpr b, c⟩, fun ⟨a, b, c⟩ => ⟨a, (hm a).mp b, c⟩⟩
end
def fstD : PyData → PyData
  | .tuple [a, _] => a
  | _ => .none
def sndD : PyData → PyData
  | .tuple [_, a] => a
  | _ => .none
theorem map_fst (ps : List Pl) : (psD ps).map fstD = nsD (ps.map (·.1)) := by
  show (ps.map pD).map fstD = (ps.map (·.1)).map N
  rw [List.map_map, List.map_map]
  rfl
theorem map_snd (ps : List Pl) : (psD ps).map sndD = nsD (ps.map (·.2)) := by
  show (ps.map pD).map sndD = (ps.map (·.2)).map N
  rw [List.map_map, List.map_map]
  rfl
/-! ### promises -/
def Fir (ds : List PyData) (r : PyData) : Prop := ∃ (t w : Nat) (ps vs : List Pl), Board t w ps ∧ Spare ps vs ∧ vs.length ≤ 16 ∧ ds = [N t, N w, .list (psD ps), .list (psD vs)] ∧ r = .bool (decide (vs.length = (mostR ps t 0 []).length))
def Fun' (ds : List PyData) (r : PyData) : Prop := ∃ (ns : List Nat) (m : Nat), ns.Nodup ∧ (∀ x ∈ ns, x < m) ∧ ns.length ≤ 16 ∧ ds = [.list (nsD ns), N m] ∧ r = .bool true
def cvD (ps : List Pl) (rows : List Nat) : PyData := .tuple [.list (nsD rows), .list (nsD (colsOf ps rows))]
def Fcv (ds : List PyData) (r : PyData) : Prop := ∃ (t w : Nat) (ps : List Pl) (pd : PyData), Board t w ps ∧ IsPs pd ps ∧ ds = [N t, N w, pd] ∧ r = cvD ps (coverRows ps t)
section
variable {P : Program} {w : World} {K : PySem.W.Frag} {mg : Str → Option Value} {base : Heap}
abbrev nIr : List Str := ["tall", "wide", "places", "value", "many", "place", "row", "_", "column"]
theorem scIr : FnScope nIr ["tall", "wide", "places", "value"] (defScope sIr) := ⟨rfl, rfl, rfl, by decide +kernel, rfl, by decide +kernel, by decide +kernel⟩
theorem ok_ir {f : Addr} {fd : FuncData} (F : Fun K "is_rooks" "is_rooks" sIr f fd) (B : Blt mg) (dWb : Dn P w K mg base 6 "_want_board" ["tall", "wide", "places"] (SpG Fwb)) (dList : Dn P w K mg base 1 "is_list" ["value"] (SpG FisList)) (dPl : Dn P w K mg base 4 "is_place" ["value", "tall", "wide"] (SpG Fpl)) (dRk : Dn P w K mg base 7 "rooks" ["tall", "wide", "places"] (SpG Frk)) : FnOk P w K mg base CX0 8 f fd ["tall", "wide", "places", "value"] (SpG Fir) := by
  refine F.ok scIr (fun vs H Q E h => h.len (n := 4) (by rintro ds r ⟨t, w, ps, vs, _, _, _, rfl, _⟩; rfl)) (fun cdv A outer s H vs Q E hr h => ?_)
  have hu65 := u65 hr
  refine ⟨_, pss_cons (ps_expr (pe_call dWb.G (hr.mono (by decide)) (by rfl) dWb.m dWb.k dWb.b .nil pass0 (pa_cons (pv 0) (pa_cons (pv 1) (pa_cons (pv 2) pa_nil)))))
      (pss_cons (ps_if (pw_or (pt_not (pt_val (pe_call dList.G (hr.mono (by decide)) (by rfl) dList.m dList.k dList.b .nil pass0 (pa_cons (pv 3) pa_nil)))) (pw_or1 (pt_not (pt_val (pe_callB (cr_all rfl) (by rfl) B.all PyProof.Rows.boot_all (pa_cons (pe_lc (own := [("place", 5)]) (g := gName 5) (tt := tYes) (te := (tAndV (tCall (SpG Fpl) [] E0 (tCons (tVar 5) (tCons (tVar 0) (tCons (tVar 1) tNil)))) (tOp (rInD K) (tVar 5) (tVar 2)))) rfl scIr.nd (pi_list (pv 3)) (blkOk_by (own := [("place", 5)]) (N := nIr) (sc := defScope sIr) (by decide +kernel)) (fun _ _ _ _ _ => (pg_name (i := 5) scIr.nd rfl (Or.inl rfl))) (fun _ _ _ _ _ => pts_nil) (fun _ _ _ _ _ => (pe_and (pe_call dPl.G (hr.mono (by decide)) (by rfl) dPl.m dPl.k dPl.b .nil pass0 (pa_cons (pv 5) (pa_cons (pv 0) (pa_cons (pv 1) pa_nil)))) (pe_one (pe_cmpR (op_inD hu65) (pv 5) (pv 2) (by rfl)))))) pa_nil)))))).pt (pss_one (ps_ret pe_bl)) pss_nil)
      (pss_cons (ps_set (i := 4) scIr.nd rfl (Or.inl rfl) (pe_callB call_len_seq (by rfl) B.len PySem.boot_len (pa_cons (pv 3) pa_nil)))
      (pss_cons (ps_if (pw_or (pt_cmpR op_lt (RZ.pe_lenSetI (by rfl) B.len (by rfl) B.set (pe_lc (own := [("row", 6), ("_", 7)]) (g := gTup K 2 (gCons (gName 6) (gCons (gName 7) gNil))) (tt := tYes) (te := (tVar 6)) rfl scIr.nd (pi_list (pv 3)) (blkOk_by (own := [("row", 6), ("_", 7)]) (N := nIr) (sc := defScope sIr) (by decide +kernel)) (fun _ _ _ _ _ => (pg_tup rfl (pgs_cons (pg_name (i := 6) scIr.nd rfl (Or.inl rfl)) (pgs_cons (pg_name (i := 7) scIr.nd rfl (Or.inl rfl)) pgs_nil)))) (fun _ _ _ _ _ => pts_nil) (fun _ _ _ _ _ => (pv 6)))) (pv 4) (nomark _)) (pw_or1 (pt_cmpR op_lt (RZ.pe_lenSetI (by rfl) B.len (by rfl) B.set (pe_lc (own := [("_", 7), ("column", 8)]) (g := gTup K 2 (gCons (gName 7) (gCons (gName 8) gNil))) (tt := tYes) (te := (tVar 8)) rfl scIr.nd (pi_list (pv 3)) (blkOk_by (own := [("_", 7), ("column", 8)]) (N := nIr) (sc := defScope sIr) (by decide +kernel)) (fun _ _ _ _ _ => (pg_tup rfl (pgs_cons (pg_name (i := 7) scIr.nd rfl (Or.inl rfl)) (pgs_cons (pg_name (i := 8) scIr.nd rfl (Or.inl rfl)) pgs_nil)))) (fun _ _ _ _ _ => pts_nil) (fun _ _ _ _ _ => (pv 8)))) (pv 4) (nomark _)))).pt (pss_one (ps_ret pe_bl)) pss_nil)
      (pss_one (ps_ret (pe_cmpR op_eq (pv 4) (pe_callB call_len_seq (by rfl) B.len PySem.boot_len (pa_cons (pe_call dRk.G (hr.mono (by decide)) (by rfl) dRk.m dRk.k dRk.b .nil pass0 (pa_cons (pv 0) (pa_cons (pv 1) (pa_cons (pv 2) pa_nil)))) pa_nil)) (nomark _))))))), h.body fun ds r hF => ?_⟩
  obtain ⟨t, w, ps, vs, hb, sp, hl, rfl, rfl⟩ := hF
  refine .seq (.drop (.call (.cons (.var rfl) (.cons (.var rfl) (.cons (.var rfl) .nil))) ⟨t, w, ps, _, hb, .inl rfl, rfl, rfl⟩)) ?_
  refine .seq (.ifF (.eq (.or (a := false) (.eq (.not (.val (b := true) (.call (.cons (.var rfl) .nil) ⟨_, .inl rfl, rfl⟩))) rfl) fun _ => .not (.val (.allLc (fun _ => true) (.list (.var rfl)) (by rw [len_psD]; omega) fun i d hd => ?_))) (by rw [List.all_eq_true.mpr fun _ _ => rfl]; rfl)) .next) ?_
  · obtain ⟨p, hp, rfl⟩ := get_ps hd
    have hm := sp.sub p (List.mem_of_getElem? hp)
    have hi := hb.inn p hm
    exact ⟨_, _, .name, fun j h => h, .eq (.andV (a := true) (.call (.cons (.var rfl) (.cons (.var rfl) (.cons (.var rfl) .nil))) ⟨t, w, p, rfl, hi.1, hi.2, rfl⟩) fun _ => .op (.var rfl) (.var rfl) (.inD rfl (nds_ps _) (sh_pD _) (sh_ps _))) (by rw [in_ps, decide_eq_true hm]; rfl)⟩
  refine .seq (.set (.len (.var rfl))) ?_
  refine .seq (.ifF (.eq (.or (a := false) (.eq (.tst (.op (len_set (.eq (.map fstD (.list (.var rfl)) (by rw [len_psD]; omega) fun i d hd => ?_) (by rw [map_fst])) (by rw [List.length_map]; omega) sp.rows) (.var rfl) .lt)) ?_) fun _ => .tst (.op (len_set (.eq (.map sndD (.list (.var rfl)) (by rw [len_psD]; omega) fun i d hd => ?_) (by rw [map_snd])) (by rw [List.length_map]; omega) sp.cols) (.var rfl) .lt)) ?_) .next) ?_
  · obtain ⟨p, hp, rfl⟩ := get_ps hd
    exact ⟨_, _, .two, fun j h => h, .var rfl⟩
  · rw [List.length_map, len_psD]
    exact decide_eq_false (by omega)
  · obtain ⟨p, hp, rfl⟩ := get_ps hd
    exact ⟨_, _, .two, fun j h => h, .var rfl⟩
  · rw [List.length_map, len_psD]
    exact decide_eq_false (by omega)
  refine .ret (.eq (.op (.var rfl) (.len (.call (.cons (.var rfl) (.cons (.var rfl) (.cons (.var rfl) .nil))) ⟨t, w, ps, _, hb, .inl rfl, rfl, rfl⟩)) .eqI) ?_)
  rw [len_psD, len_psD]
  exact congrArg _ (decide_eq_decide.mpr ⟨fun h => by omega, fun h => by omega⟩)
abbrev nUn : List Str := ["value", "many", "count"]
theorem scUn : FnScope nUn ["value", "many"] (defScope sUn) := ⟨rfl, rfl, rfl, by decide +kernel, rfl, by decide +kernel, by decide +kernel⟩
theorem ok_un {f : Addr} {fd : FuncData} (F : Fun K "is_lot" "is_lot" sUn f fd) (B : Blt mg) (dList : Dn P w K mg base 1 "is_list" ["value"] (SpG FisList)) (dBet : Dn P w K mg base 3 "is_between" ["value", "low", "high"] (SpG Fbet)) : FnOk P w K mg base CX0 4 f fd ["value", "many"] (SpG Fun') := by
  refine F.ok scUn (fun vs H Q E h => h.len (n := 2) (by rintro ds r ⟨ns, m, _, _, _, rfl, _⟩; rfl)) (fun cdv A outer s H vs Q E hr h => ?_)
  refine ⟨_, pss_cons (ps_if (pw_or (pt_not (pt_val (pe_call dList.G (hr.mono (by decide)) (by rfl) dList.m dList.k dList.b .nil pass0 (pa_cons (pv 0) pa_nil)))) (pw_or1 (pt_not (pt_val (pe_callB (cr_all rfl) (by rfl) B.all PyProof.Rows.boot_all (pa_cons (pe_lc (own := [("count", 2)]) (g := gName 2) (tt := tYes) (te := (tCall (SpG Fbet) [] E0 (tCons (tVar 2) (tCons (tC (.int 0)) (tCons (tOp (rI0 fun i j => .int (i - j)) (tVar 1) (tC (.int 1))) tNil))))) rfl scUn.nd (pi_list (pv 0)) (blkOk_by (own := [("count", 2)]) (N := nUn) (sc := defScope sUn) (by decide +kernel)) (fun _ _ _ _ _ => (pg_name (i := 2) scUn.nd rfl (Or.inl rfl))) (fun _ _ _ _ _ => pts_nil) (fun _ _ _ _ _ => (pe_call dBet.G (hr.mono (by decide)) (by rfl) dBet.m dBet.k dBet.b .nil pass0 (pa_cons (pv 2) (pa_cons pe_int (pa_cons (pe_op op_sub (pv 1) pe_int) pa_nil)))))) pa_nil)))))).pt (pss_one (ps_ret pe_bl)) pss_nil)
      (pss_one (ps_ret (pe_cmpR op_eq (RZ.pe_lenSetI (by rfl) B.len (by rfl) B.set (pv 0)) (pe_callB call_len_seq (by rfl) B.len PySem.boot_len (pa_cons (pv 0) pa_nil)) (nomark _)))), h.body fun ds r hF => ?_⟩
  obtain ⟨ns, m, nd, hlt, hl, rfl, rfl⟩ := hF
  refine .seq (.ifF (.eq (.or (a := false) (.eq (.not (.val (b := true) (.call (.cons (.var rfl) .nil) ⟨_, .inl rfl, rfl⟩))) rfl) fun _ => .not (.val (.allLc (fun _ => true) (.list (.var rfl)) (by rw [len_nsD]; omega) fun i d hd => ?_))) (by rw [List.all_eq_true.mpr fun _ _ => rfl]; rfl)) .next) (.ret (.eq (.op (len_set (.var rfl) (by omega) nd) (.len (.var rfl)) .eqI) (by rw [len_nsD, decide_eq_true rfl])))
  obtain ⟨c, hc, rfl⟩ := get_ns hd
  have hm := hlt c (List.mem_of_getElem? hc)
  exact ⟨_, _, .name, fun j h => h, .eq (.call (.cons (.var rfl) (.cons (.int 0) (.cons (.op (.var rfl) (.int 1) .sub) .nil))) ⟨_, _, _, rfl, rfl⟩) (by rw [decide_eq_true (show (0 : Int) ≤ (c : Int) by omega), decide_eq_true (show (c : Int) ≤ (m : Int) - 1 by omega)]; rfl)⟩
end
end K73

set_option Elab.async false
set_option linter.all false
set_option maxRecDepth 100000
set_option maxHeartbeats 4000000
/-! The program's covers, its judge of covers. -/
namespace K73
open PySem L2 GD
theorem cols_mem {ps : List Pl} {rows : List Nat} (h4 : ∀ p ∈ ps, p.2 < 4) (k : Nat) : k ∈ colsOf ps rows ↔ k ∈ (ps.filter fun p => decide (p.1 ∉ rows)).map (·.2) := by
  unfold colsOf
  rw [List.mem_filter, List.mem_range, List.any_eq_true, List.mem_map]
  constructor
  · rintro ⟨_, p, hp, h⟩
    rw [Bool.and_eq_true] at h
    refine ⟨p, List.mem_filter.mpr ⟨hp, ?_⟩, by simpa using h.2⟩
    have := h.1
    simpa using this
  · rintro ⟨p, hp, rfl⟩
    obtain ⟨h1, h2⟩ := List.mem_filter.mp hp
    refine ⟨h4 p h1, p, h1, ?_⟩
    rw [Bool.and_eq_true]
    refine ⟨by simpa using h2, by simp⟩
theorem cols_srt (ps : List Pl) (rows : List Nat) : (colsOf ps rows).Pairwise (· < ·) := List.Pairwise.filter _ List.pairwise_lt_range
theorem cols_len (ps : List Pl) (rows : List Nat) : (colsOf ps rows).length ≤ 4 := by
  have := List.length_filter_le (fun c => ps.any fun p => !rows.contains p.1 && p.2 == c) (List.range 4)
  rw [List.length_range] at this
  exact this
theorem cols_lt {ps : List Pl} {rows : List Nat} {c : Nat} (h : c ∈ colsOf ps rows) : c < 4 := List.mem_range.mp (List.mem_filter.mp h).1
/-- a place in no told row -/
def outD (rows : List Nat) : PyData → Bool
  | .tuple [a, _] => !((nsD rows).any fun z => PyData.eqv z a)
  | _ => false
theorem out_ps (ps : List Pl) (rows : List Nat) : ((psD ps).filter (outD rows)).map sndD = nsD ((ps.filter fun p => decide (p.1 ∉ rows)).map (·.2)) := by
  show ((ps.map pD).filter _).map _ = _
  rw [List.filter_map, List.map_map]
  have e : (outD rows ∘ pD) = fun p => decide (p.1 ∉ rows) := funext fun p => by
    show (!((nsD rows).any fun z => PyData.eqv z (N p.1))) = _
    rw [in_ns, decide_not]
  rw [e, ← map_snd]
  show _ = ((ps.filter _).map pD).map sndD
  rw [List.map_map]
def sizeD : PyData → Int
  | .tuple [.list xs, .list ys] => (xs.length : Nat) + (ys.length : Nat)
  | _ => 0
theorem size_cv (ps : List Pl) (rows : List Nat) : sizeD (cvD ps rows) = (sizeOf' ps rows : Nat) := by
  show (((nsD rows).length : Nat) : Int) + (((nsD (colsOf ps rows)).length : Nat) : Int) = _
  rw [len_nsD, len_nsD]
  unfold sizeOf'
  omega
theorem best_app (f : List Nat → Nat) : ∀ (xs : List (List Nat)) (b y : List Nat), bestOf f (xs ++ [y]) b = if f y < f (bestOf f xs b) then y else bestOf f xs b
  | [], b, y => rfl
  | x :: xs, b, y => best_app f xs _ y
theorem best_at (f : List Nat → Nat) (x0 : List Nat) (xs : List (List Nat)) : ∀ m, m ≤ xs.length → (x0 :: xs)[argBest (fun i j => decide (f ((x0 :: xs).getD i []) < f ((x0 :: xs).getD j []))) m]? = some (bestOf f (xs.take m) x0)
  | 0, _ => rfl
  | m + 1, h => by
    have ih := best_at f x0 xs m (by omega)
    have hx : xs[m]? = some (xs[m]'(by omega)) := List.getElem?_eq_getElem (by omega)
    have tk : xs.take (m + 1) = xs.take m ++ [xs[m]'(by omega)] := by
      rw [List.take_succ, hx]
      rfl
    rw [tk, best_app]
    have g1 : (x0 :: xs).getD (m + 1) [] = xs[m]'(by omega) := by
      rw [List.getD_eq_getElem?_getD, List.getElem?_cons_succ, hx]
      rfl
    have g2 : (x0 :: xs).getD (argBest (fun i j => decide (f ((x0 :: xs).getD i []) < f ((x0 :: xs).getD j []))) m) [] = bestOf f (xs.take m) x0 := by
      rw [List.getD_eq_getElem?_getD, ih]
      rfl
    have e : argBest (fun i j => decide (f ((x0 :: xs).getD i []) < f ((x0 :: xs).getD j []))) (m + 1) = if f (xs[m]'(by omega)) < f (bestOf f (xs.take m) x0) then m + 1 else argBest (fun i j => decide (f ((x0 :: xs).getD i []) < f ((x0 :: xs).getD j []))) m := by
      rw [argBest]
      simp only [g1, g2, decide_eq_true_eq]
    rw [e]
    by_cases c : f (xs[m]'(by omega)) < f (bestOf f (xs.take m) x0)
    · rw [if_pos c, if_pos c, List.getElem?_cons_succ, hx]
    · rw [if_neg c, if_neg c, ih]
theorem lots_head : ∀ n, ∃ r, lots n = [] :: r
  | 0 => ⟨[], rfl⟩
  | n + 1 => by
    obtain ⟨r, e⟩ := lots_head n
    exact ⟨r ++ (lots n).map (· ++ [n]), by rw [lots, e]; rfl⟩
/-- the told cover is the first of the least -/
theorem cover_at (ps : List Pl) (t : Nat) : ((lots t).map (cvD ps))[argBest (fun i j => decide (sizeD (((lots t).map (cvD ps)).getD i .none) < sizeD (((lots t).map (cvD ps)).getD j .none))) (((lots t).map (cvD ps)).length - 1)]? = some (cvD ps (coverRows ps t)) := by
  obtain ⟨r, e⟩ := lots_head t
  unfold coverRows
  rw [e]
  have c : argBest (fun i j => decide (sizeD ((([] :: r).map (cvD ps)).getD i .none) < sizeD ((([] :: r).map (cvD ps)).getD j .none))) ((([] :: r).map (cvD ps)).length - 1) = argBest (fun i j => decide (sizeOf' ps (([] :: r).getD i []) < sizeOf' ps (([] :: r).getD j []))) r.length := by
    have el : (([] :: r).map (cvD ps)).length - 1 = r.length := by rw [List.length_map]; rfl
    rw [el]
    refine argBest_congr _ fun i j hi hj => ?_
    have at_ : ∀ k, k ≤ r.length → sizeD ((([] :: r).map (cvD ps)).getD k .none) = (sizeOf' ps (([] :: r).getD k []) : Nat) := fun k hk => by
      have hk' : k < ([] :: r).length := by simp; omega
      rw [List.getD_eq_getElem?_getD, List.getElem?_map, List.getElem?_eq_getElem hk', List.getD_eq_getElem?_getD, List.getElem?_eq_getElem hk']
      exact size_cv _ _
    rw [at_ i hi, at_ j hj]
    exact decide_eq_decide.mpr ⟨fun h => by omega, fun h => by omega⟩
  rw [c, List.getElem?_map]
  have b := best_at (sizeOf' ps) [] r r.length (Nat.le_refl _)
  rw [List.take_length] at b
  rw [b]
  rfl
/-- each place in one of the rows, or in one of the columns -/
def covD (rows cols : List Nat) : PyData → Bool
  | .tuple [a, b] => ((nsD rows).any fun z => PyData.eqv z a) || ((nsD cols).any fun z => PyData.eqv z b)
  | _ => false
def covers (ps : List Pl) (rows cols : List Nat) : Bool := ps.all fun p => decide (p.1 ∈ rows) || decide (p.2 ∈ cols)
theorem cov_ps (ps : List Pl) (rows cols : List Nat) : (psD ps).all (covD rows cols) = covers ps rows cols := by
  show (ps.map pD).all _ = _
  rw [List.all_map]
  unfold covers
  congr 1
  funext p
  show (((nsD rows).any fun z => PyData.eqv z (N p.1)) || ((nsD cols).any fun z => PyData.eqv z (N p.2))) = _
  rw [in_ns, in_ns]
def Fic (ds : List PyData) (r : PyData) : Prop := ∃ (t w : Nat) (ps : List Pl) (pd : PyData) (rows cols : List Nat), Board t w ps ∧ IsPs pd ps ∧ rows.Nodup ∧ (∀ x ∈ rows, x < t) ∧ cols.Nodup ∧ (∀ x ∈ cols, x < w) ∧ rows.length ≤ 16 ∧ cols.length ≤ 16 ∧ ds = [N t, N w, pd, .tuple [.list (nsD rows), .list (nsD cols)]] ∧ r = .bool (covers ps rows cols && decide (rows.length + cols.length = sizeOf' ps (coverRows ps t)))
section
variable {P : Program} {w : World} {K : PySem.W.Frag} {mg : Str → Option Value} {base : Heap}
abbrev nCv : List Str := ["tall", "wide", "places", "covers", "rows", "row", "column"]
theorem scCv : FnScope nCv ["tall", "wide", "places"] (defScope sCv) := ⟨rfl, rfl, rfl, by decide +kernel, rfl, by decide +kernel, by decide +kernel⟩
theorem ok_cv {f : Addr} {fd : FuncData} (F : Fun K "cover" "cover" sCv f fd) (B : Blt mg) (dWb : Dn P w K mg base 6 "_want_board" ["tall", "wide", "places"] (SpG Fwb)) (dLo : Dn P w K mg base 1 "_lots" ["many"] (SpG Flo)) (dCs : Dn P w K mg base 1 "_cover_size" ["value"] (SpG Fcs)) : FnOk P w K mg base CX0 7 f fd ["tall", "wide", "places"] (SpG Fcv) := by
  refine F.ok scCv (fun vs H Q E h => h.len (n := 3) (by rintro ds r ⟨t, w, ps, pd, _, _, rfl, _⟩; rfl)) (fun cdv A outer s H vs Q E hr h => ?_)
  have hu65 := u65 hr
  refine ⟨_, pss_cons (ps_expr (pe_call dWb.G (hr.mono (by decide)) (by rfl) dWb.m dWb.k dWb.b .nil pass0 (pa_cons (pv 0) (pa_cons (pv 1) (pa_cons (pv 2) pa_nil)))))
      (pss_cons (ps_setLc (own := [("rows", 4)]) (g := gName 4) (tt := tYes) (te := (tTup (tCons (tVar 4) (tCons (GS.tSortedSet K (tLc (fun σ H R => iList K (tVar 2) σ H R ∨ iTup K (tVar 2) σ H R) (gTup K 2 (gCons (gName 5) (gCons (gName 6) gNil))) (tTest (tOp (rNotInD K) (tVar 5) (tVar 4))) (tVar 6) [5, 6])) tNil)))) rfl scCv.nd (i := 3) rfl rfl (by rfl) (pi_list (pe_call dLo.G (hr.mono (by decide)) (by rfl) dLo.m dLo.k dLo.b .nil pass0 (pa_cons (pv 0) pa_nil))) (blkOk_by (own := [("rows", 4)]) (N := nCv) (sc := defScope sCv) (by decide +kernel)) (fun _ _ _ _ _ => (pg_name (i := 4) scCv.nd rfl (Or.inr rfl))) (fun _ _ _ _ _ => pts_nil) (fun _ _ _ _ _ => (pe_tup (pa_cons (pv 4) (pa_cons (GS.pe_sortedSet (by rfl) B.sorted (by rfl) B.set (pe_lc (own := [("row", 5), ("column", 6)]) (g := gTup K 2 (gCons (gName 5) (gCons (gName 6) gNil))) (tt := (tTest (tOp (rNotInD K) (tVar 5) (tVar 4)))) (te := (tVar 6)) rfl scCv.nd (PI.or (pi_list (pv 2)) (pi_tup (pv 2))) (blkOk_by (own := [("row", 5), ("column", 6)]) (N := nCv) (sc := { kind := .function, names := [(".0", .local), ("rows", .cell), ("sorted", .globalImplicit), ("set", .globalImplicit), ("places", .cell)], isGenerator := false, isCoroutine := false }) (by decide +kernel)) (fun _ _ _ _ _ => (pg_tup rfl (pgs_cons (pg_name (i := 5) scCv.nd rfl (Or.inl rfl)) (pgs_cons (pg_name (i := 6) scCv.nd rfl (Or.inl rfl)) pgs_nil)))) (fun _ _ _ _ _ => (pts_one (pt_cmpR (op_notInD hu65) (pv 5) (pv 4) (by rfl)))) (fun _ _ _ _ _ => (pv 6)))) pa_nil)))))
      (pss_one (ps_ret (pe_callBK (GS.cr_minK (E := E0) (dCs.G.raw dCs.b .nil) (hr.mono (by decide)) rfl) (by rfl) B.min PyProof.Rows.boot_min (pa_cons (pv 3) pa_nil) (pk_cons (pe_glob (by rfl) dCs.m (v := .ref dCs.f) rfl) pk_nil))))), h.body fun ds r hF => ?_⟩
  obtain ⟨t, w, ps, pd, hb, hp, rfl, rfl⟩ := hF
  have t4 := hb.t4
  have w4 := hb.w4
  have n16 := hb.n16
  have c4 : ∀ p ∈ ps, p.2 < 4 := fun p hp => by have := (hb.inn p hp).2; omega
  have l16 : (lots t).length ≤ 16 := by
    rw [lots_len]
    exact Nat.pow_le_pow_right (by decide) t4
  have l0 : 0 < (lots t).length := by
    rw [lots_len]
    exact Nat.two_pow_pos t
  refine .seq (.drop (.call (.cons (.var rfl) (.cons (.var rfl) (.cons (.var rfl) .nil))) ⟨t, w, ps, pd, hb, hp, rfl, rfl⟩)) ?_
  refine .seq (.set (.mapX (fun l => .list (nsD l)) (cvD ps) (.list (.call (.cons (.var rfl) .nil) ⟨t, t4, rfl, rfl⟩)) (by omega) fun rows hr => ⟨_, _, .name, fun j h => h, .tup (.cons (.var rfl) (.cons (sorted_set (.eq (.lc (outD rows) sndD (iter_ps hp (.var rfl)) (by rw [len_psD]; omega) fun i d hd => ?_) (by rw [out_ps])) ?_ (cols_srt ps rows) (cols_mem c4)) .nil)) (by show 2 ≤ sizeLine; decide)⟩)) ?_
  · obtain ⟨p, hp', rfl⟩ := get_ps hd
    exact ⟨_, _, .two, fun j h => h, .tst (.op (.var rfl) (.var rfl) (.notInD rfl (nds_ns _) (sh_N _) (sh_ns _))), fun _ => .var rfl⟩
  · rw [List.length_map]
    have := List.length_filter_le (fun p : Pl => decide (p.1 ∉ rows)) ps
    omega
  refine .ret (.minK sizeD (.var rfl) (by rw [List.length_map]; exact l0) (fun d hd => ?_) (cover_at ps t))
  obtain ⟨rows, _, rfl⟩ := List.mem_map.mp hd
  exact ⟨_, _, rfl, rfl⟩
abbrev nIc : List Str := ["tall", "wide", "places", "value", "rows", "columns", "row", "column"]
theorem scIc : FnScope nIc ["tall", "wide", "places", "value"] (defScope sIc) := ⟨rfl, rfl, rfl, by decide +kernel, rfl, by decide +kernel, by decide +kernel⟩
theorem ok_ic {f : Addr} {fd : FuncData} (F : Fun K "is_cover" "is_cover" sIc f fd) (B : Blt mg) (dWb : Dn P w K mg base 6 "_want_board" ["tall", "wide", "places"] (SpG Fwb)) (dUn : Dn P w K mg base 4 "is_lot" ["value", "many"] (SpG Fun')) (dCs : Dn P w K mg base 1 "_cover_size" ["value"] (SpG Fcs)) (dCv : Dn P w K mg base 7 "cover" ["tall", "wide", "places"] (SpG Fcv)) : FnOk P w K mg base CX0 8 f fd ["tall", "wide", "places", "value"] (SpG Fic) := by
  refine F.ok scIc (fun vs H Q E h => h.len (n := 4) (by rintro ds r ⟨t, w, ps, pd, rows, cols, _, _, _, _, _, _, _, _, rfl, _⟩; rfl)) (fun cdv A outer s H vs Q E hr h => ?_)
  have hu65 := u65 hr
  refine ⟨_, pss_cons (ps_expr (pe_call dWb.G (hr.mono (by decide)) (by rfl) dWb.m dWb.k dWb.b .nil pass0 (pa_cons (pv 0) (pa_cons (pv 1) (pa_cons (pv 2) pa_nil)))))
      (pss_cons (ps_if (pw_or (pt_not (pt_val (pe_callB call_isi (by rfl) B.isi PyProof.Rows.boot_isinstance (pa_cons (pv 3) (pa_cons (pe_bltn (by rfl) B.tuple PyProof.Rows.boot_tuple (v := .ty "tuple") rfl) pa_nil))))) (pw_or1 (pt_cmpR op_ne (pe_callB call_len_seq (by rfl) B.len PySem.boot_len (pa_cons (pv 3) pa_nil)) pe_int (nomark _)))).pt (pss_one (ps_ret pe_bl)) pss_nil)
      (pss_cons (ps_asg (pv 3) (pg_tup rfl (pgs_cons (pg_name (i := 4) scIc.nd rfl (Or.inr rfl)) (pgs_cons (pg_name (i := 5) scIc.nd rfl (Or.inr rfl)) pgs_nil))))
      (pss_cons (ps_if (pw_or (pt_not (pt_val (pe_call dUn.G (hr.mono (by decide)) (by rfl) dUn.m dUn.k dUn.b .nil pass0 (pa_cons (pv 4) (pa_cons (pv 0) pa_nil))))) (pw_or1 (pt_not (pt_val (pe_call dUn.G (hr.mono (by decide)) (by rfl) dUn.m dUn.k dUn.b .nil pass0 (pa_cons (pv 5) (pa_cons (pv 1) pa_nil))))))).pt (pss_one (ps_ret pe_bl)) pss_nil)
      (pss_cons (ps_if (pt_not (pt_val (pe_callB (cr_all rfl) (by rfl) B.all PyProof.Rows.boot_all (pa_cons (pe_lc (own := [("row", 6), ("column", 7)]) (g := gTup K 2 (gCons (gName 6) (gCons (gName 7) gNil))) (tt := tYes) (te := (tOrV (tOp (rInD K) (tVar 6) (tVar 4)) (tOp (rInD K) (tVar 7) (tVar 5)))) rfl scIc.nd (PI.or (pi_list (pv 2)) (pi_tup (pv 2))) (blkOk_by (own := [("row", 6), ("column", 7)]) (N := nIc) (sc := defScope sIc) (by decide +kernel)) (fun _ _ _ _ _ => (pg_tup rfl (pgs_cons (pg_name (i := 6) scIc.nd rfl (Or.inl rfl)) (pgs_cons (pg_name (i := 7) scIc.nd rfl (Or.inl rfl)) pgs_nil)))) (fun _ _ _ _ _ => pts_nil) (fun _ _ _ _ _ => (pe_or (pe_cmpR (op_inD hu65) (pv 6) (pv 4) (by rfl)) (pe_one (pe_cmpR (op_inD hu65) (pv 7) (pv 5) (by rfl)))))) pa_nil)))) (pss_one (ps_ret pe_bl)) pss_nil)
      (pss_one (ps_ret (pe_cmpR op_eq (pe_call dCs.G (hr.mono (by decide)) (by rfl) dCs.m dCs.k dCs.b .nil pass0 (pa_cons (pv 3) pa_nil)) (pe_call dCs.G (hr.mono (by decide)) (by rfl) dCs.m dCs.k dCs.b .nil pass0 (pa_cons (pe_call dCv.G (hr.mono (by decide)) (by rfl) dCv.m dCv.k dCv.b .nil pass0 (pa_cons (pv 0) (pa_cons (pv 1) (pa_cons (pv 2) pa_nil)))) pa_nil)) (nomark _)))))))), h.body fun ds r hF => ?_⟩
  obtain ⟨t, w, ps, pd, rows, cols, hb, hp, n1, b1, n2, b2, l1, l2, rfl, rfl⟩ := hF
  have n16 := hb.n16
  refine .seq (.drop (.call (.cons (.var rfl) (.cons (.var rfl) (.cons (.var rfl) .nil))) ⟨t, w, ps, pd, hb, hp, rfl, rfl⟩)) ?_
  refine .seq (.ifF (.eq (.or (a := false) (.eq (.not (.val (.isi (b := true) (.var rfl) kb_tt))) rfl) fun _ => .tst (.op (.lenT (.var rfl)) (.int 2) .neI)) rfl) .next) ?_
  refine .seq (.asg (.var rfl) .two) ?_
  refine .seq (.ifF (.eq (.or (a := false) (.eq (.not (.val (b := true) (.call (.cons (.var rfl) (.cons (.var rfl) .nil)) ⟨rows, t, n1, b1, l1, rfl, rfl⟩))) rfl) fun _ => .not (.val (b := true) (.call (.cons (.var rfl) (.cons (.var rfl) .nil)) ⟨cols, w, n2, b2, l2, rfl, rfl⟩))) rfl) .next) ?_
  have tail : ∀ {g : List (Option PyData)}, g[0]? = some (some (N t)) → g[1]? = some (some (N w)) → g[2]? = some (some pd) → g[3]? = some (some (.tuple [.list (nsD rows), .list (nsD cols)])) →
      EvG (tOp rEq (tCall (SpG Fcs) [] E0 (tCons (tVar 3) tNil)) (tCall (SpG Fcs) [] E0 (tCons (tCall (SpG Fcv) [] E0 (tCons (tVar 0) (tCons (tVar 1) (tCons (tVar 2) tNil)))) tNil))) g (.bool (decide (rows.length + cols.length = sizeOf' ps (coverRows ps t)))) := fun h0 h1 h2 h3 => by
    refine .eq (.op (.call (.cons (.var h3) .nil) ⟨_, _, rfl, rfl⟩) (.call (.cons (.call (.cons (.var h0) (.cons (.var h1) (.cons (.var h2) .nil))) ⟨t, w, ps, pd, hb, hp, rfl, rfl⟩) .nil) ⟨_, _, rfl, rfl⟩) .eqI) ?_
    rw [len_nsD, len_nsD, len_nsD, len_nsD]
    unfold sizeOf'
    exact congrArg _ (decide_eq_decide.mpr ⟨fun h => by omega, fun h => by omega⟩)
  by_cases hc : covers ps rows cols = true
  · refine .seq (.ifF (.eq (.not (.val (.allLc (covD rows cols) (iter_ps hp (.var rfl)) (by rw [len_psD]; omega) fun i d hd => ?_))) (by rw [cov_ps, hc]; rfl)) .next) (.ret (.eq (tail rfl rfl rfl rfl) (by rw [hc]; rfl)))
    obtain ⟨p, hp', rfl⟩ := get_ps hd
    exact ⟨_, _, .two, fun j h => h, .orV (.op (.var rfl) (.var rfl) (.inD rfl (nds_ns _) (sh_N _) (sh_ns _))) fun _ => .op (.var rfl) (.var rfl) (.inD rfl (nds_ns _) (sh_N _) (sh_ns _))⟩
  · have hc' : covers ps rows cols = false := Bool.eq_false_iff.mpr hc
    refine .seq_rt (.ifT (.eq (.not (.val (.allLc (covD rows cols) (iter_ps hp (.var rfl)) (by rw [len_psD]; omega) fun i d hd => ?_))) (by rw [cov_ps, hc']; rfl)) (.ret (.eq (.bl false) (by rw [hc']; rfl))))
    obtain ⟨p, hp', rfl⟩ := get_ps hd
    exact ⟨_, _, .two, fun j h => h, .orV (.op (.var rfl) (.var rfl) (.inD rfl (nds_ns _) (sh_N _) (sh_ns _))) fun _ => .op (.var rfl) (.var rfl) (.inD rfl (nds_ns _) (sh_N _) (sh_ns _))⟩
end
end K73

set_option Elab.async false
set_option linter.all false
set_option maxRecDepth 100000
set_option maxHeartbeats 4000000
/-! The law's pot, what is drawn from it. -/
namespace K73
open PySem L2 GD
theorem two_line : 2 ≤ sizeLine := by decide
def PotAt (H : Hp) (pot : Addr) : Prop := ∃ a b : Int, H pot = some (.lst [.int a, .int b]) ∧ 0 ≤ a ∧ 0 ≤ b ∧ b < 4294967296
abbrev Sp1 (pot : Addr) : Addr → Prop := fun X => X = pot
theorem PotAt.same {H H' : Hp} {pot : Addr} (h : PotAt H pot) (s : Same H H') : PotAt H' pot := let ⟨a, b, e, r⟩ := h; ⟨a, b, s _ _ e, r⟩
theorem PotAt.live {H : Hp} {pot : Addr} (h : PotAt H pot) : Live (Sp1 pot) H := fun X hX z => by
  obtain ⟨a, b, e, _⟩ := h
  rw [hX, e] at z
  cases z
theorem kp_set {pot : Addr} {H : Hp} {o : HO} : Kp (Sp1 pot) H (upd H pot o) := fun b u n h => by rw [upd_ne n]; exact h
structure SpPot (K : PySem.W.Frag) (vs : List V) (H : Hp) (Q : VK) (E : XK) : Prop where
  ex : ∃ (a : Addr) (ns : List Int) (k : Nat), vs = [.ref a, .int k] ∧ k < 100 ∧ SqL K H a (ns.map V.int) ∧ ∀ (H' : Hp) (pot : Addr), H pot = none → Same H H' → PotAt H' pot → Q (.ref pot) H'
structure SpDraw (vs : List V) (H : Hp) (Q : VK) (E : XK) : Prop where
  ex : ∃ (pot : Addr) (n : Nat), vs = [.ref pot, .int n] ∧ 1 ≤ n ∧ n ≤ 1000 ∧ PotAt H pot ∧ ∀ (H' : Hp) (d : Nat), Kp (Sp1 pot) H H' → PotAt H' pot → d < n → Q (.int d) H'
section
variable {P : Program} {w : World} {K : PySem.W.Frag} {mg : Str → Option Value} {base : Heap}
abbrev nPo : List Str := ["_law_script", "_law_k", "_law_cell"]
theorem scPo : FnScope nPo ["_law_script", "_law_k"] (defScope sPo) := ⟨rfl, rfl, rfl, by decide +kernel, rfl, by decide +kernel, by decide +kernel⟩
theorem ok_po {f : Addr} {fd : FuncData} (F : Fun K "_law_pot" "_law_pot" sPo f fd) (B : Blt mg) : FnOk P w K mg base CX0 1 f fd ["_law_script", "_law_k"] (SpPot K) := by
  refine F.ok scPo (fun vs H Q E h => ?_) (fun cdv A outer s H vs Q E hr h => ?_)
  · obtain ⟨a, ns, k, rfl, _⟩ := h
    rfl
  · obtain ⟨a, ns, k, rfl, k1, ha, kk⟩ := h
    refine ⟨_, pss_cons (ps_set (i := 2) scPo.nd rfl (Or.inl rfl) (pe_ifExp (pt_cmpR op_lt (pv 1) (pe_callB call_len_seq (by rfl) B.len PySem.boot_len (pa_cons (pv 0) pa_nil)) (nomark _)) (pe_callB call_abs (by rfl) B.abs (by decide +kernel) (pa_cons (pe_ix ix_list (pv 0) (pv 1) (fun _ _ => rfl)) pa_nil)) (pe_op op_add (pe_op op_mul pe_int (pv 1)) pe_int)))
      (pss_one (ps_ret (pe_lst (pa_cons (pe_callB (call_max2 rfl) (by rfl) B.max PyProof.Rows.boot_max (pa_cons pe_int (pa_cons (pe_op op_sub (pv 2) (pe_op op_pow pe_int pe_int)) pa_nil))) (pa_cons (pe_op op_add (pe_op op_mod (pe_callTy call_int1 (by rfl) B.int PyProof.Rows.boot_int (pa_cons (pe_op op_add (pe_op op_add (pe_op op_mul (pe_op op_mod (pe_callTy call_int1 (by rfl) B.int PyProof.Rows.boot_int (pa_cons (pv 2) pa_nil)) pe_int) pe_int) (pe_op op_mul pe_int (pv 1))) pe_int) pa_nil)) pe_int) pe_int) pa_nil))))), ?_⟩
    have c0 : CPow 10 18 := ⟨by decide, by decide, by decide⟩
    have fin : ∀ (x : Int), (∀ p, H p = none → Q (.ref p) (upd H p (.lst [.int (if x - 10 ^ (18 : Int).toNat > 0 then x - 10 ^ (18 : Int).toNat else 0), .int ((x % 2147483549 * 40039 + 4021 * (k : Int) + 79) % 2147483563 + 1)]))) := fun x p hp => by
      refine kk _ p hp (same_new hp) ⟨_, _, upd_same, ?_, ?_, ?_⟩
      · split <;> omega
      · have := Int.emod_nonneg (x % 2147483549 * 40039 + 4021 * (k : Int) + 79) (show (2147483563 : Int) ≠ 0 by decide)
        omega
      · have := Int.emod_lt_of_pos (x % 2147483549 * 40039 + 4021 * (k : Int) + 79) (show (0 : Int) < 2147483563 by decide)
        omega
    have c1 : ∀ x : Int, CMul (x % 2147483549) 40039 := fun x => by
      have h1 := Int.emod_nonneg x (show (2147483549 : Int) ≠ 0 by decide)
      have h2 := Int.emod_lt_of_pos x (show (0 : Int) < 2147483549 by decide)
      exact .inl ⟨by omega, by omega⟩
    have c2 : CMul 4021 (k : Int) := .inl ⟨by omega, by omega⟩
    have c3 : CMul 101 (k : Int) := .inl ⟨by omega, by omega⟩
    refine ⟨_, rfl, _, rfl, a, _, rfl, .inl ha, _, _, rfl, rfl, _, rfl, ite2 (fun e => ?_) (fun e => ?_)⟩
    · have hl : k < ns.length := by
        have e' := of_decide_eq_true e
        rw [List.length_map] at e'
        omega
      have hk : (ns.map V.int)[k]? = some (.int ns[k]) := by
        rw [List.getElem?_map, List.getElem?_eq_getElem hl]
        rfl
      refine ⟨_, rfl, _, rfl, a, _, _, _, rfl, rfl, ha, atI_nat hk, _, rfl, ?_⟩
      refine ⟨_, rfl, _, _, rfl, rfl, c0, _, _, rfl, rfl, _, _, rfl, ?_⟩
      refine ⟨_, rfl, .inl ⟨_, rfl, _, _, rfl, rfl, (by show (0 : Int) < 2147483549; decide), _, _, rfl, rfl, c1 _, _, rfl, _, _, rfl, rfl, c2, _, _, rfl, rfl, _, _, rfl, rfl, .inl ⟨_, rfl, ?_⟩⟩⟩
      exact ⟨_, _, rfl, rfl, (by show (0 : Int) < 2147483563; decide), _, _, rfl, rfl, two_line, fin _⟩
    · refine ⟨_, rfl, _, _, rfl, rfl, c3, _, _, rfl, rfl, ?_⟩
      refine ⟨_, rfl, _, _, rfl, rfl, c0, _, _, rfl, rfl, _, _, rfl, ?_⟩
      refine ⟨_, rfl, .inl ⟨_, rfl, _, _, rfl, rfl, (by show (0 : Int) < 2147483549; decide), _, _, rfl, rfl, c1 _, _, rfl, _, _, rfl, rfl, c2, _, _, rfl, rfl, _, _, rfl, rfl, .inl ⟨_, rfl, ?_⟩⟩⟩
      exact ⟨_, _, rfl, rfl, (by show (0 : Int) < 2147483563; decide), _, _, rfl, rfl, two_line, fin _⟩
abbrev nDr : List Str := ["_law_pot_here", "_law_many", "_law_digit"]
theorem scDr : FnScope nDr ["_law_pot_here", "_law_many"] (defScope sDr) := ⟨rfl, rfl, rfl, by decide +kernel, rfl, by decide +kernel, by decide +kernel⟩
theorem ok_dr {f : Addr} {fd : FuncData} (F : Fun K "_law_draw" "_law_draw" sDr f fd) (B : Blt mg) : FnOk P w K mg base CX0 1 f fd ["_law_pot_here", "_law_many"] SpDraw := by
  refine F.ok scDr (fun vs H Q E h => ?_) (fun cdv A outer s H vs Q E hr h => ?_)
  · obtain ⟨pot, n, rfl, _⟩ := h
    rfl
  · obtain ⟨pot, n, rfl, n1, n2, ⟨a, b, hp, a0, b0, b1⟩, k⟩ := h
    refine ⟨_, pss_cons (ps_if (pt_cmpR op_gt (pe_ix ix_list (pv 0) pe_int (fun _ _ => rfl)) pe_int (nomark _)) (pss_cons (ps_asg (pe_callB call_divmod (by rfl) B.divmod PyProof.Rows.boot_divmod (pa_cons (pe_ix ix_list (pv 0) pe_int (fun _ _ => rfl)) (pa_cons (pv 1) pa_nil))) (pg_tup rfl (pgs_cons (pg_sub (pv 0) pe_int set_list) (pgs_cons (pg_name (i := 2) scDr.nd rfl (Or.inl rfl)) pgs_nil))))
      (pss_one (ps_ret (pv 2)))) pss_nil)
      (pss_cons (ps_asg (pe_op op_mod (pe_callTy call_int1 (by rfl) B.int PyProof.Rows.boot_int (pa_cons (pe_op op_add (pe_op op_mul (pe_ix ix_list (pv 0) pe_int (fun _ _ => rfl)) pe_int) pe_int) pa_nil)) pe_int) (pg_sub (pv 0) pe_int set_list))
      (pss_one (ps_ret (pe_op op_mod (pe_callTy call_int1 (by rfl) B.int PyProof.Rows.boot_int (pa_cons (pe_op op_fdiv (pe_op op_mod (pe_callTy call_int1 (by rfl) B.int PyProof.Rows.boot_int (pa_cons (pe_op op_mul (pe_ix ix_list (pv 0) pe_int (fun _ _ => rfl)) (pe_ix ix_list (pv 0) pe_int (fun _ _ => rfl))) pa_nil)) pe_int) pe_int) pa_nil)) (pv 1))))), ?_⟩
    have at0 : ∀ x y : Int, atI [V.int x, V.int y] ((0 : Nat) : Int) = some (.int x) := fun x y => atI_nat rfl
    have at1 : ∀ x y : Int, atI [V.int x, V.int y] ((1 : Nat) : Int) = some (.int y) := fun x y => atI_nat rfl
    refine ⟨_, rfl, pot, _, _, _, rfl, rfl, SqL.of hp, at0 _ _, _, _, rfl, rfl, _, rfl, ite2 (fun e => ?_) (fun e => ?_)⟩
    · have hd : CDiv a n := ⟨by omega, by omega⟩
      refine ⟨_, rfl, pot, _, _, _, rfl, rfl, SqL.of hp, at0 _ _, _, rfl, a, n, rfl, hd, fun t ht => ?_⟩
      have npt : pot ≠ t := ne_of_none hp ht
      have hp2 : upd H t (.tup [.int (a / n), .int (a % n)]) pot = some (.lst [.int a, .int b]) := by rw [upd_ne npt]; exact hp
      refine ⟨t, _, rfl, SqT.of upd_same, rfl, _, _, rfl, ?_⟩
      refine ⟨_, rfl, pot, _, 0, 0, rfl, rfl, hp2, rfl, ?_⟩
      refine ⟨_, _, rfl, rfl, _, rfl, ?_⟩
      obtain ⟨d, hd⟩ := Int.eq_ofNat_of_zero_le (Int.emod_nonneg a (show (n : Int) ≠ 0 by omega))
      have hlt := Int.emod_lt_of_pos a (show (0 : Int) < (n : Int) by omega)
      have kq := k (upd (upd H t (.tup [.int (a / n), .int (a % n)])) pot (.lst [.int (a / n), .int b])) d ((Kp.of (same_new ht)).trans kp_set) ⟨a / n, b, upd_same, Int.ediv_nonneg a0 (by omega), b0, b1⟩ (by omega)
      rw [← hd] at kq
      exact kq
    · have m1 : CMul b 40014 := .inl ⟨by omega, by omega⟩
      refine ⟨_, rfl, pot, _, _, _, rfl, rfl, SqL.of hp, at1 _ _, _, _, rfl, rfl, m1, _, _, rfl, rfl, .inl ⟨_, rfl, _, _, rfl, rfl, (by show (0 : Int) < 2147483563; decide), ?_⟩⟩
      refine ⟨_, rfl, pot, _, 1, 1, rfl, rfl, hp, rfl, ?_⟩
      have c0 : 0 ≤ (b * 40014 + 1109) % 2147483563 := Int.emod_nonneg _ (by decide)
      have c1 : (b * 40014 + 1109) % 2147483563 < 2147483563 := Int.emod_lt_of_pos _ (by decide)
      have m2 : CMul ((b * 40014 + 1109) % 2147483563) ((b * 40014 + 1109) % 2147483563) := .inl ⟨by omega, by omega⟩
      have hp2 : upd H pot (.lst [.int a, .int ((b * 40014 + 1109) % 2147483563)]) pot = some (.lst [.int a, .int ((b * 40014 + 1109) % 2147483563)]) := upd_same
      refine ⟨_, rfl, pot, _, _, _, rfl, rfl, SqL.of hp2, at1 _ _, _, rfl, pot, _, _, _, rfl, rfl, SqL.of hp2, at1 _ _, _, _, rfl, rfl, m2, .inl ⟨_, rfl, ?_⟩⟩
      refine ⟨_, _, rfl, rfl, (by show (0 : Int) < 2147483587; decide), _, _, rfl, rfl, ⟨by decide, by decide⟩, .inl ⟨_, rfl, ?_⟩⟩
      refine ⟨_, rfl, _, _, rfl, rfl, (by show (0 : Int) < (n : Int); omega), ?_⟩
      generalize ((b * 40014 + 1109) % 2147483563 * ((b * 40014 + 1109) % 2147483563) % 2147483587 / 21) = z
      obtain ⟨d, hd⟩ := Int.eq_ofNat_of_zero_le (Int.emod_nonneg z (show (n : Int) ≠ 0 by omega))
      have hlt := Int.emod_lt_of_pos z (show (0 : Int) < (n : Int) by omega)
      have kq := k (upd H pot (.lst [.int a, .int ((b * 40014 + 1109) % 2147483563)])) d kp_set ⟨a, _, hp2, a0, c0, by omega⟩ (by omega)
      rw [← hd] at kq
      exact kq
end
end K73

set_option Elab.async false
set_option linter.all false
set_option maxRecDepth 100000
set_option maxHeartbeats 4000000
/-! The law's own counts. -/
namespace K73
open PySem L2 GD RQ
/-- the law's count of sparing places, n rows from row on -/
def Fmo (n : Nat) (ds : List PyData) (r : PyData) : Prop := ∃ (t row : Nat) (ps : List Pl) (used : List Nat), ps.length ≤ 16 ∧ row + n = t ∧ t ≤ 4 ∧ used.length ≤ row ∧ ds = [N t, .list (psD ps), N row, .list (nsD used)] ∧ r = N (mostN ps n row used)
abbrev Fmo4 (ds : List PyData) (r : PyData) : Prop := ∃ n, n ≤ 4 ∧ Fmo n ds r
theorem map_ent {α : Type} (f : α → Nat) (xs : List α) : xs.map (fun x => PyData.tuple [N (f x), .bool true]) = (toI (xs.map f)).map fun k => .tuple [.int k, .bool true] := by
  rw [List.map_map, List.map_map]
  rfl
/-- as many keys as unlike ones -/
theorem dk_len {ns ms : List Nat} (h : ms.Nodup) (hm : ∀ c, c ∈ ms ↔ c ∈ ns) : (dk [] (toI ns)).length = ms.length := by
  have := len_same (dk_nodup (toI ns) [] .nil) (nodup_int h) fun k => by
    rw [dk_mem]
    simp only [List.not_mem_nil, false_or, List.mem_map]
    exact ⟨fun ⟨a, b, c⟩ => ⟨a, (hm a).mpr b, c⟩, fun ⟨a, b, c⟩ => ⟨a, (hm a).mp b, c⟩⟩
  rw [this, List.length_map]
section
variable {P : Program} {w : World} {K : PySem.W.Frag} {mg : Str → Option Value} {base : Heap}
abbrev nMo : List Str := ["_law_tall", "_law_places", "_law_row", "_law_used", "_law_found", "_law_near", "_law_column"]
theorem scMo : FnScope nMo ["_law_tall", "_law_places", "_law_row", "_law_used"] (defScope sMo) := ⟨rfl, rfl, rfl, by decide +kernel, rfl, by decide +kernel, by decide +kernel⟩
theorem ok_mo {f : Addr} {fd : FuncData} (F : Fun K "_law_most" "_law_most" sMo f fd) (B : Blt mg) (m : mg "_law_most" = some (.ref f)) (k : PySem.W.keepIn K (.ref f) = true) (b : Binds K fd ["_law_tall", "_law_places", "_law_row", "_law_used"] []) : ∀ n, FnOk P w K mg base CX0 (n + 1) f fd ["_law_tall", "_law_places", "_law_row", "_law_used"] (SpG (Fmo n))
  | 0 => by
    refine F.ok scMo (fun vs H Q E h => h.len (n := 4) (by rintro ds r ⟨t, row, ps, used, _, _, _, _, rfl, _⟩; rfl)) (fun cdv A outer s H vs Q E hr h => ?_)
    refine ⟨_, PSs.nox (pss_cons (ps_if (pt_cmpR op_eq (pv 2) (pv 0) (nomark _)) (pss_one (ps_ret pe_int)) pss_nil) pss_never), h.body fun ds r hF => ?_⟩
    obtain ⟨t, row, ps, used, hl, ht, t4, hk, rfl, rfl⟩ := hF
    exact .seq_rt (.ifT (.eq (.tst (.op (.var rfl) (.var rfl) .eqI)) (decide_eq_true (by omega))) (.ret (.int 0)))
  | n + 1 => by
    refine F.ok scMo (fun vs H Q E h => h.len (n := 4) (by rintro ds r ⟨t, row, ps, used, _, _, _, _, rfl, _⟩; rfl)) (fun cdv A outer s H vs Q E hr h => ?_)
    have hu65 := u65 hr
    let dMo : Dn P w K mg base (n + 1) "_law_most" ["_law_tall", "_law_places", "_law_row", "_law_used"] (SpG (Fmo n)) := ⟨f, fd, ok_mo F B m k b n, m, k, b⟩
    refine ⟨_, pss_cons (ps_if (pt_cmpR op_eq (pv 2) (pv 0) (nomark _)) (pss_one (ps_ret pe_int)) pss_nil)
      (pss_cons (ps_set (i := 4) scMo.nd rfl (Or.inl rfl) (pe_call dMo.G hr (by rfl) dMo.m dMo.k dMo.b .nil pass0 (pa_cons (pv 0) (pa_cons (pv 1) (pa_cons (pe_op op_add (pv 2) pe_int) (pa_cons (pv 3) pa_nil))))))
      (pss_cons (ps_for PassesOwn.never rfl (pi_list (pv 1)) (pg_tup rfl (pgs_cons (pg_name (i := 5) scMo.nd rfl (Or.inl rfl)) (pgs_cons (pg_name (i := 6) scMo.nd rfl (Or.inl rfl)) pgs_nil))) (pss_one (ps_if (pw_and (pt_cmpR op_eq (pv 5) (pv 2) (nomark _)) (pw_and1 (pt_cmpR (op_notInD hu65) (pv 6) (pv 3) (by rfl)))).pt (pss_one (ps_set (i := 4) scMo.nd rfl (Or.inl rfl) (pe_callB (call_max2 rfl) (by rfl) B.max PyProof.Rows.boot_max (pa_cons (pv 4) (pa_cons (pe_op op_add pe_int (pe_call dMo.G hr (by rfl) dMo.m dMo.k dMo.b .nil pass0 (pa_cons (pv 0) (pa_cons (pv 1) (pa_cons (pe_op op_add (pv 2) pe_int) (pa_cons (pe_op op_cat (pv 3) (pe_lst (pa_cons (pv 6) pa_nil))) pa_nil)))))) pa_nil))))) pss_nil)))
      (pss_one (ps_ret (pv 4))))), h.body fun ds r hF => ?_⟩
    obtain ⟨t, row, ps, used, hl, ht, t4, hk, rfl, rfl⟩ := hF
    have e1 : ((row : Int) + 1) = ((row + 1 : Nat) : Int) := by omega
    refine .seq (.ifF (.eq (.tst (.op (.var rfl) (.var rfl) .eqI)) (decide_eq_false (by omega))) .next) ?_
    refine .seq (.set (.call (.cons (.var rfl) (.cons (.var rfl) (.cons (.eq (.op (.var rfl) (.int 1) .add) (by rw [e1])) (.cons (.var rfl) .nil)))) ⟨t, row + 1, ps, used, hl, by omega, t4, by omega, rfl, rfl⟩)) ?_
    refine .seq (.for_ (.list (.var rfl)) (fun i => [some (N t), some (.list (psD ps)), some (N row), some (.list (nsD used)), some (N ((ps.take i).foldl (stepN ps n row used) (mostN ps n (row + 1) used))), none, none]) (.k (.k (.k (.k (.k (.f (.f .nil))))))) fun i d hd => ?_) (.ret (.eq (.var rfl) ?_))
    · obtain ⟨p, hp', rfl⟩ := get_ps hd
      rw [fold_take _ _ hp']
      generalize (ps.take i).foldl (stepN ps n row used) (mostN ps n (row + 1) used) = found
      refine ⟨_, _, .two, .inl ?_⟩
      have test : ∀ {g : List (Option PyData)}, g[5]? = some (some (N p.1)) → g[6]? = some (some (N p.2)) → g[2]? = some (some (N row)) → g[3]? = some (some (.list (nsD used))) → EvB (tAnd (tTest (tOp rEq (tVar 5) (tVar 2))) (tTest (tOp (rNotInD K) (tVar 6) (tVar 3)))) g (decide (p.1 = row ∧ p.2 ∉ used)) := fun h5 h6 h2 h3 =>
        .eq (.and (.tst (.op (.var h5) (.var h2) .eqI)) fun _ => .tst (.op (.var h6) (.var h3) (.notInD rfl (nds_ns _) (sh_N _) (sh_ns _)))) (by
          rw [in_ns, Bool.decide_and]
          congr 1
          · exact decide_eq_decide.mpr ⟨fun h => by omega, fun h => by omega⟩
          · rw [decide_not])
      by_cases hc : p.1 = row ∧ p.2 ∉ used
      · refine .ifT (.eq (test rfl rfl rfl rfl) (decide_eq_true hc)) ?_
        have hlen : (used ++ [p.2]).length ≤ row + 1 := by rw [List.length_append]; show _ + 1 ≤ _; omega
        have e2 : nsD (used ++ [p.2]) = nsD used ++ [N p.2] := List.map_append ..
        refine .less (.set (.max2 (.var rfl) (.op (.int 1) (.call (.cons (.var rfl) (.cons (.var rfl) (.cons (.eq (.op (.var rfl) (.int 1) .add) (by rw [e1])) (.cons (.eq (.op (.var rfl) (.lst (.cons (.var rfl) .nil) (by show 1 ≤ sizeLine; decide)) (.cat (by rw [len_nsD]; exact Nat.le_trans (by show used.length + 1 ≤ 5; omega) (by decide)))) (by rw [e2])) .nil)))) ⟨t, row + 1, ps, used ++ [p.2], hl, by omega, t4, hlen, rfl, rfl⟩) .add))) ?_
        have e3 : stepN ps n row used found p = max found (1 + mostN ps n (row + 1) (used ++ [p.2])) := by
          unfold stepN
          rw [if_pos hc]
        have e4 : PyData.int (if (1 : Int) + (mostN ps n (row + 1) (used ++ [p.2]) : Nat) > (found : Nat) then (1 : Int) + (mostN ps n (row + 1) (used ++ [p.2]) : Nat) else (found : Nat)) = N (stepN ps n row used found p) := by
          rw [e3]
          congr 1
          split <;> omega
        show Le _ [some (N t), some (.list (psD ps)), some (N row), some (.list (nsD used)), some (PyData.int _), some (N p.1), some (N p.2)]
        rw [e4]
        exact .k (.k (.k (.k (.k (.f (.f .nil))))))
      · refine .less (.ifF (.eq (test rfl rfl rfl rfl) (decide_eq_false hc)) .next) ?_
        unfold stepN
        rw [if_neg hc]
        exact .k (.k (.k (.k (.k (.f (.f .nil))))))
    · show N ((ps.take (psD ps).length).foldl _ _) = _
      rw [len_psD, List.take_length, mostN_succ]
end
end K73

set_option Elab.async false
set_option linter.all false
set_option maxRecDepth 100000
set_option maxHeartbeats 4000000
/-! What is drawn, told by data; the law's boards. -/
namespace K73
open PySem L2 GD RQ
/-! ### beside the pot -/
theorem Kp.mono {S S' : Addr → Prop} {H H' : Hp} (hs : ∀ X, S X → S' X) (k : Kp S H H') : Kp S' H H' := fun b o n e => k b o (fun z => n (hs b z)) e
theorem Kp.refl (S : Addr → Prop) (H : Hp) : Kp S H H := fun _ _ _ e => e
theorem live_kp {pot : Addr} {S : Addr → Prop} {H H' : Hp} (l : Live S H) (k : Kp (Sp1 pot) H H') (p : PotAt H' pot) : Live S H' := fun X hX z => by
  by_cases e : X = pot
  · obtain ⟨a, b, f, _⟩ := p
    rw [e, f] at z
    cases z
  · cases h : H X with
    | none => exact l X hX h
    | some o =>
      rw [k X o e h] at z
      cases z
theorem Gm.learn {S : Addr → Prop} {H : Hp} {σ : L2.St} {γ : List (Option PyData)} {i : Nat} {v : V} {d : PyData} (e : Gm S H σ γ) (h : σ[i]? = some (some v)) (a : Av S H v d) : Gm S H σ (γ.set i (some d)) := by
  refine ⟨by rw [List.length_set, e.len], fun j c hj => ?_⟩
  by_cases hij : i = j
  · subst hij
    rw [List.getElem?_set] at hj
    simp only [if_true] at hj
    split at hj
    · cases hj
      exact ⟨v, h, a⟩
    · cases hj
  · rw [List.getElem?_set_ne hij] at hj
    exact e.at_ j c hj
theorem Gm.sub {S S' : Addr → Prop} {H : Hp} {σ : L2.St} {γ : List (Option PyData)} (hs : ∀ X, S X → S' X) (e : Gm S' H σ γ) : Gm S H σ γ := ⟨e.len, fun i d h => let ⟨v, a, b⟩ := e.at_ i d h; ⟨v, a, b.less hs⟩⟩
/-- an expression draws, and comes to one of these -/
def EvD (pot : Addr) (te : TE) (γ : List (Option PyData)) (C : PyData → Prop) : Prop := ∀ S H σ, S pot → Live S H → PotAt H pot → Gm S H σ γ → σ[0]? = some (some (.ref pot)) → ∀ Q : VK, (∀ H' v d, Kp (Sp1 pot) H H' → PotAt H' pot → C d → Av S H' v d → Q v H') → te σ H Q
def EvAD (pot : Addr) (ta : TA) (γ : List (Option PyData)) (C : List PyData → Prop) : Prop := ∀ S H σ, S pot → Live S H → PotAt H pot → Gm S H σ γ → σ[0]? = some (some (.ref pot)) → ∀ Q : List V → Hp → Prop, (∀ H' vs ds, Kp (Sp1 pot) H H' → PotAt H' pot → C ds → Avs S H' vs ds → Q vs H') → ta σ H Q
def EvBD (pot : Addr) (tt : TT) (γ : List (Option PyData)) (C : Bool → Prop) : Prop := ∀ S H σ, S pot → Live S H → PotAt H pot → Gm S H σ γ → σ[0]? = some (some (.ref pot)) → ∀ Q : Bool → Hp → Prop, (∀ H' b, Kp (Sp1 pot) H H' → PotAt H' pot → C b → Q b H') → tt σ H Q
def StR (pot : Addr) (ts : TS) (γ : List (Option PyData)) (r : PyData → Prop) : Prop := ∀ H σ D, PotAt H pot → Gm (Sp1 pot) H σ γ → σ[0]? = some (some (.ref pot)) → (∀ v H' d, r d → Kp (Sp1 pot) H H' → PotAt H' pot → Av (Sp1 pot) H' v d → D.rt v H') → ts D σ H
section
variable {pot : Addr} {γ : List (Option PyData)} {K : PySem.W.Frag} {te ta tb : TE} {tt tu : TT} {x y : PyData} {r C C' : PyData → Prop} {rest t : TS}
theorem kp1 {S : Addr → Prop} {H H' : Hp} (hS : S pot) (k : Kp (Sp1 pot) H H') : Kp S H H' := Kp.mono (fun X hX => by rw [hX]; exact hS) k
theorem EvD.pure (h : EvG te γ x) : EvD pot te γ (· = x) := fun S H σ hS l p e z Q q => h S H σ l e Q fun H' v s a => q H' v x (Kp.of s) (p.same s) rfl a
theorem EvD.imp (h : EvD pot te γ C) (hc : ∀ d, C d → C' d) : EvD pot te γ C' := fun S H σ hS l p e z Q q => h S H σ hS l p e z Q fun H' v d k p' c a => q H' v d k p' (hc d c) a
/-- the pot is drawn from -/
theorem EvD.draw {n : Nat} {E : XK} (h : EvG tb γ (N n)) (n1 : 1 ≤ n) (n2 : n ≤ 1000) : EvD pot (tCall SpDraw [] E (tCons (tVar 0) (tCons tb tNil))) γ (fun d => ∃ k, k < n ∧ d = N k) := fun S H σ hS l p e z Q q => by
  refine ⟨_, z, h S H σ l e _ fun H1 v s1 av => ?_⟩
  cases av
  exact ⟨pot, n, rfl, n1, n2, p.same s1, fun H' d k p' hd => q H' _ _ ((Kp.of s1).trans k) p' ⟨d, hd, rfl⟩ (.int _)⟩
theorem EvD.opR {o : R2} {f : PyData → PyData} (h1 : EvG ta γ x) (h2 : EvD pot tb γ C) (ho : ∀ y, C y → OpG o x y (f y)) : EvD pot (tOp o ta tb) γ (fun d => ∃ y, C y ∧ d = f y) := fun S H σ hS l p e z Q q =>
  h1 S H σ l e _ fun H1 v s1 av => h2 S H1 σ hS (l.same s1) (p.same s1) (e.same s1) z _ fun H2 w y k2 p2 c aw =>
    have l2 := live_kp (l.same s1) k2 p2
    ho y c S H2 v w l2 (av.keep (kp1 hS k2)) aw _ fun H3 u s3 au => q H3 u (f y) ((Kp.of s1).trans (k2.trans (Kp.of s3))) (p2.same s3) ⟨y, c, rfl⟩ au
theorem EvD.opL {o : R2} {f : PyData → PyData} (h1 : EvD pot ta γ C) (h2 : EvG tb γ y) (ho : ∀ x, C x → OpG o x y (f x)) : EvD pot (tOp o ta tb) γ (fun d => ∃ x, C x ∧ d = f x) := fun S H σ hS l p e z Q q =>
  h1 S H σ hS l p e z _ fun H1 v x k1 p1 c av =>
    have l1 := live_kp l k1 p1
    h2 S H1 σ l1 (e.keep (kp1 hS k1)) _ fun H2 w s2 aw => ho x c S H2 v w (l1.same s2) (av.same s2) aw _ fun H3 u s3 au => q H3 u (f x) (k1.trans (Kp.of (s2.trans s3))) (p1.same (s2.trans s3)) ⟨x, c, rfl⟩ au
theorem EvAD.nil : EvAD pot tNil γ (· = []) := fun S H σ hS l p e z Q q => q H [] [] (Kp.refl _ _) p rfl .nil
theorem EvAD.cons {tr : TA} {R : List PyData → Prop} (h1 : EvD pot te γ C) (h2 : EvAD pot tr γ R) : EvAD pot (tCons te tr) γ (fun ds => ∃ d rs, ds = d :: rs ∧ C d ∧ R rs) := fun S H σ hS l p e z Q q =>
  h1 S H σ hS l p e z _ fun H1 v d k1 p1 c av => h2 S H1 σ hS (live_kp l k1 p1) p1 (e.keep (kp1 hS k1)) z _ fun H2 vs rs k2 p2 cr avs => q H2 _ _ (k1.trans k2) p2 ⟨d, rs, rfl, c, cr⟩ (.cons (av.keep (kp1 hS k2)) avs)
theorem EvD.tup {tr : TA} {R : List PyData → Prop} (h : EvAD pot tr γ R) (hz : ∀ ds, R ds → ds.length ≤ sizeLine) : EvD pot (tTup tr) γ (fun d => ∃ ds, d = .tuple ds ∧ R ds) := fun S H σ hS l p e z Q q =>
  h S H σ hS l p e z _ fun H1 vs ds k1 p1 c avs => ⟨by rw [avs.len]; exact hz ds c, fun a na => q _ _ _ (k1.trans (Kp.of (same_new na))) (p1.same (same_new na)) ⟨ds, rfl, c⟩ (.tup ((live_kp l k1 p1).new na) upd_same (avs.same (same_new na)))⟩
theorem EvBD.tst {c : Bool → Prop} (h : EvD pot te γ (fun d => ∃ b, d = .bool b ∧ c b)) : EvBD pot (tTest te) γ c := fun S H σ hS l p e z Q q =>
  h S H σ hS l p e z _ fun H1 v d k1 p1 cc av => by
    obtain ⟨b, rfl, cc⟩ := cc
    cases av
    exact ⟨b, rfl, q H1 b k1 p1 cc⟩
theorem EvBD.imp {c c' : Bool → Prop} (h : EvBD pot tt γ c) (hc : ∀ b, c b → c' b) : EvBD pot tt γ c' := fun S H σ hS l p e z Q q => h S H σ hS l p e z Q fun H' b k p' cc => q H' b k p' (hc b cc)
theorem EvBD.or {a : Bool} {c : Bool → Prop} (h1 : EvB tt γ a) (h2 : EvBD pot tu γ c) : EvBD pot (tOr tt tu) γ (fun b => a = true → b = true) := fun S H σ hS l p e z Q q =>
  h1 S H σ l e _ fun H1 s1 => by
    cases a with
    | true =>
      rw [if_pos rfl]
      exact q H1 true (Kp.of s1) (p.same s1) fun _ => rfl
    | false =>
      rw [if_neg Bool.false_ne_true]
      exact h2 S H1 σ hS (l.same s1) (p.same s1) (e.same s1) z _ fun H2 b k2 p2 _ => q H2 b ((Kp.of s1).trans k2) p2 fun w => by cases w
theorem EvD.ite {c : Bool → Prop} (hc : EvBD pot tt γ c) (h1 : EvG ta γ x) (h2 : EvG tb γ y) : EvD pot (tIf tt ta tb) γ (fun d => d = x ∨ d = y) := fun S H σ hS l p e z Q q =>
  hc S H σ hS l p e z _ fun H1 b k1 p1 _ => by
    have l1 := live_kp l k1 p1
    have e1 := e.keep (kp1 hS k1)
    cases b with
    | true =>
      rw [if_pos rfl]
      exact h1 S H1 σ l1 e1 _ fun H2 v s2 av => q H2 v x (k1.trans (Kp.of s2)) (p1.same s2) (.inl rfl) av
    | false =>
      rw [if_neg Bool.false_ne_true]
      exact h2 S H1 σ l1 e1 _ fun H2 v s2 av => q H2 v y (k1.trans (Kp.of s2)) (p1.same s2) (.inr rfl) av
/-! ### statements -/
theorem StR.pure (h : StG t γ (.rt x)) (hx : r x) : StR pot t γ r := fun H σ D p e z k => h (Sp1 pot) H σ D p.live e fun v H' s a => k v H' x hx (Kp.of s) (p.same s) a
theorem set0 {σ : L2.St} {i : Nat} {v w : V} (hi : i ≠ 0) (z : σ[0]? = some (some w)) : (σ.set i (some v))[0]? = some (some w) := by
  rw [List.getElem?_set_ne hi]
  exact z
theorem StR.setD {i : Nat} (hi : i ≠ 0) (h : EvD pot te γ C) (hn : ∀ d, C d → StR pot rest (γ.set i (some d)) r) : StR pot (tSeq (tAsg te (gName i)) rest) γ r := fun H σ D p e z k =>
  h (Sp1 pot) H σ rfl p.live p e z _ fun H1 v d k1 p1 c av => hn d c H1 _ D p1 ((e.keep k1).set i av) (set0 hi z) fun v H' d' hd k2 p2 a => k v H' d' hd (k1.trans k2) p2 a
theorem StR.set {i : Nat} (hi : i ≠ 0) (h : EvG te γ x) (hn : StR pot rest (γ.set i (some x)) r) : StR pot (tSeq (tAsg te (gName i)) rest) γ r := .setD hi (.pure h) fun d c => by rw [c]; exact hn
theorem StR.asg3 {i j m : Nat} {R : PyData → PyData → PyData → Prop} (hi : i ≠ 0) (hj : j ≠ 0) (hm : m ≠ 0) (h : EvD pot te γ (fun d => ∃ x y z, d = .tuple [x, y, z] ∧ R x y z)) (hn : ∀ x y z, R x y z → StR pot rest (((γ.set i (some x)).set j (some y)).set m (some z)) r) : StR pot (tSeq (tAsg te (gTup K 3 (gCons (gName i) (gCons (gName j) (gCons (gName m) gNil))))) rest) γ r := fun H σ D p e z k =>
  h (Sp1 pot) H σ rfl p.live p e z _ fun H1 v d k1 p1 c av => by
    obtain ⟨a, b, c, rfl, hR⟩ := c
    cases av with
    | tup n f hs =>
      cases hs with
      | cons a1 r1 =>
        cases r1 with
        | cons a2 r2 =>
          cases r2 with
          | cons a3 r3 =>
            cases r3
            exact ⟨_, _, rfl, SqT.of f, rfl, _, _, rfl, _, _, rfl, _, _, rfl, rfl, hn a b c hR H1 _ D p1 ((((e.keep k1).set i a1).set j a2).set m a3) (set0 hm (set0 hj (set0 hi z))) fun v H' d' hd k2 p2 a => k v H' d' hd (k1.trans k2) p2 a⟩
theorem StR.par {i j : Nat} {ta : TA} (hi : i ≠ 0) (hj : j ≠ 0) (h : EvA ta γ [x, y]) (hn : StR pot rest ((γ.set i (some x)).set j (some y)) r) : StR pot (tSeq (tPar i j ta) rest) γ r := fun H σ D p e z k =>
  h (Sp1 pot) H σ p.live e _ fun H1 vs s1 av => by
    cases av with
    | cons a r1 =>
      cases r1 with
      | cons b r2 =>
        cases r2
        exact ⟨_, _, rfl, hn H1 _ D (p.same s1) (((e.same s1).set i a).set j b) (set0 hj (set0 hi z)) fun v H' d' hd k2 p2 a => k v H' d' hd ((Kp.of s1).trans k2) p2 a⟩
theorem StR.ifF (hc : EvB tt γ false) (hn : StR pot rest γ r) : StR pot (tSeq (tIfS tt t tNext) rest) γ r := fun H σ D p e z k =>
  hc (Sp1 pot) H σ p.live e _ fun H1 s1 => by
    rw [if_neg Bool.false_ne_true]
    exact hn H1 σ D (p.same s1) (e.same s1) z fun v H' d' hd k2 p2 a => k v H' d' hd ((Kp.of s1).trans k2) p2 a
/-- [e for x in range(n) if test], the test drawn -/
theorem lc_pot {S : Addr → Prop} {j n : Nat} {tn : TE} {σ : L2.St} {H : Hp} {Q : VK} {must : Nat → Prop} {m : Nat → PyData} (hS : S pot) (l : Live S H) (hp : PotAt H pot) (e : Gm S H σ γ) (h0 : σ[0]? = some (some (.ref pot))) (hj : j ≠ 0) (hn : n ≤ 1000) (hr : EvG tn γ (N n))
    (step : ∀ i, i < n → EvBD pot tt ((wipeG γ [j]).set j (some (N i))) (fun b => must i → b = true) ∧ EvG te ((wipeG γ [j]).set j (some (N i))) (m i))
    (hd : ∀ (H' : Hp) (D : Addr) (ks : List Nat), Kp (Sp1 pot) H H' → PotAt H' pot → Av S H' (.ref D) (.list (ks.map m)) → ks.Pairwise (· < ·) → (∀ k ∈ ks, k < n) → (∀ k, k < n → must k → k ∈ ks) → Q (.ref D) H') : tLc (iRng1 (tCons tn tNil)) (gName j) tt te [j] σ H Q := by
  refine hr S H σ l e _ fun H1 v s1 av => ?_
  cases av
  refine ⟨_, rfl, by omega, by omega, fun D hD => ?_⟩
  have l1 := l.same s1
  have p1 := hp.same s1
  have nD : ¬ S D := l1.new hD
  have nDp : D ≠ pot := fun z => nD (z ▸ hS)
  have e1 : Gm (SD S D) H1 σ γ := (e.same s1).fresh hD
  have sD := same_new (o := .lst []) hD
  refine lc_range (fun i H' => Kp (Sp1 pot) H1 H' ∧ PotAt H' pot ∧ ∃ xs ks, H' D = some (.lst xs) ∧ Avs (SD S D) H' xs (ks.map m) ∧ ks.Pairwise (· < ·) ∧ (∀ k ∈ ks, k < i) ∧ ∀ k, k < i → must k → k ∈ ks) ⟨Kp.of sD, p1.same sD, [], [], upd_same, .nil, .nil, fun k z => (by cases z), fun k z => absurd z (Nat.not_lt_zero k)⟩ ?_ ?_
  · rintro i H' hi ⟨kk, pp, xs, ks, hD', ha, hs, hk, hm⟩
    rw [Int.toNat_natCast] at hi
    refine ⟨by rw [wipe_set (.head _), wipe_wipe], ?_⟩
    obtain ⟨st, se⟩ := step i hi
    have l2 : Live (SD S D) H' := fun X hX => hX.elim (fun z => live_kp l1 kk pp X z) fun z => by
      rw [z, hD']
      intro w
      cases w
    have z2 : ((wipe σ [j]).set j (some (.int (0 + (i : Nat)))))[0]? = some (some (.ref pot)) := by
      rw [List.getElem?_set_ne hj]
      show ((wipe σ []).set j none)[0]? = _
      rw [List.getElem?_set_ne hj]
      exact h0
    have e2 : Gm (SD S D) H' ((wipe σ [j]).set j (some (.int (0 + (i : Nat))))) ((wipeG γ [j]).set j (some (N i))) := by
      rw [Int.zero_add]
      exact ((e1.keep (kp1 (.inl hS) kk)).wipe [j]).set j (.int _)
    refine st (SD S D) H' _ (.inl hS) l2 pp e2 z2 _ fun H3 b k3 p3 hb => ?_
    have k13 := kk.trans k3
    have hD3 : H3 D = some (.lst xs) := k3 D _ nDp hD'
    have ha3 := ha.keep (kp1 (S := SD S D) (.inl hS) k3)
    cases b with
    | false =>
      rw [if_neg Bool.false_ne_true]
      refine ⟨k13, p3, xs, ks, hD3, ha3, hs, fun k hk' => Nat.lt_succ_of_lt (hk k hk'), fun k hk' hmu => ?_⟩
      rcases Nat.lt_succ_iff_lt_or_eq.mp hk' with g | g
      · exact hm k g hmu
      · subst g
        cases hb hmu
    | true =>
      rw [if_pos rfl]
      refine se (SD S D) H3 _ (live_kp l2 k3 p3) (e2.keep (kp1 (.inl hS) k3)) _ fun H4 v s4 av => ?_
      have hD4 := s4 _ _ hD3
      have ha4 := ha3.same s4
      have hlen : xs.length < 1000000 := by
        have hl := ha4.len
        rw [List.length_map] at hl
        have hnd : ks.Nodup := hs.imp fun {a b} h z => by omega
        have : ks.length ≤ (List.range i).length := List.Nodup.length_le_of_subset hnd fun k hk' => List.mem_range.mpr (hk k hk')
        rw [List.length_range] at this
        omega
      have kp : Kp (SD S D) H4 (upd H4 D (.lst (xs ++ [v]))) := fun b o n hb' => by
        rw [upd_ne (fun z => n (.inr z))]
        exact hb'
      refine ⟨xs, hD4, Nat.lt_of_lt_of_le hlen (by decide), fun b o nb hb' => ?_, ?_, xs ++ [v], ks ++ [i], upd_same, ?_, ?_, ?_, ?_⟩
      · rw [upd_ne (ne_of_none hb' hD)]
        exact s4 _ _ (k13 _ _ nb hb')
      · obtain ⟨a, b, f, g⟩ := p3.same s4
        exact ⟨a, b, by rw [upd_ne (Ne.symm nDp)]; exact f, g⟩
      · rw [List.map_append]
        exact (ha4.app (.cons av .nil)).keep kp
      · rw [List.pairwise_append]
        exact ⟨hs, List.pairwise_singleton _ _, fun a ha' b hb' => by rw [List.mem_singleton.mp hb']; exact hk a ha'⟩
      · intro k hk'
        rcases List.mem_append.mp hk' with g | g
        · exact Nat.lt_succ_of_lt (hk k g)
        · rw [List.mem_singleton.mp g]
          exact Nat.lt_succ_self i
      · intro k hk' hmu
        rcases Nat.lt_succ_iff_lt_or_eq.mp hk' with g | g
        · exact List.mem_append.mpr (.inl (hm k g hmu))
        · exact List.mem_append.mpr (.inr (by rw [g]; exact .head _))
  · rintro H' ⟨kk, pp, xs, ks, hD', ha, hs, hk, hm⟩
    rw [Int.toNat_natCast] at hk hm
    exact hd H' D ks ((Kp.of s1).trans kk) pp (.lst nD hD' (ha.less fun X h => .inl h)) hs hk hm
end
/-! ### boards -/
structure SpBoard (vs : List V) (H : Hp) (Q : VK) (E : XK) : Prop where
  ex : ∃ pot : Addr, vs = [.ref pot, .int 4] ∧ PotAt H pot ∧ ∀ H' v t w ps, Board t w ps → Kp (Sp1 pot) H H' → PotAt H' pot → Av (Sp1 pot) H' v (.tuple [N t, N w, .list (psD ps)]) → Q v H'
theorem ltP_nodup {ps : List Pl} (h : ps.Pairwise ltP) : ps.Nodup := by
  show ps.Pairwise (· ≠ ·)
  refine h.imp fun {a b} z => ?_
  intro e
  subst e
  exact ltP_irr z
theorem two_line' : 2 ≤ sizeLine := by decide
theorem grid_le {ps : List Pl} (h : ps.Pairwise ltP) (h4 : ∀ p ∈ ps, p.1 < 4 ∧ p.2 < 4) : ps.length ≤ 16 :=
  List.Nodup.length_le_of_subset (l₂ := grid16) (ltP_nodup h) fun p hp => grid_mem (h4 p hp).1 (h4 p hp).2
section
variable {P : Program} {w : World} {K : PySem.W.Frag} {mg : Str → Option Value} {base : Heap}
abbrev nBo : List Str := ["_law_pot_here", "_law_most_here", "_law_tall", "_law_wide", "_law_often", "_law_sure", "_law_places", "_law_row", "_law_column"]
theorem scBo : FnScope nBo ["_law_pot_here", "_law_most_here"] (defScope sBo) := ⟨rfl, rfl, rfl, by decide +kernel, rfl, by decide +kernel, by decide +kernel⟩
theorem ok_bo {f : Addr} {fd : FuncData} (F : Fun K "_law_board" "_law_board" sBo f fd) (B : Blt mg) (dDr : Dn P w K mg base 1 "_law_draw" ["_law_pot_here", "_law_many"] SpDraw) : FnOk P w K mg base CX0 2 f fd ["_law_pot_here", "_law_most_here"] SpBoard := by
  refine F.ok scBo (fun vs H Q E h => ?_) (fun cdv A outer s H vs Q E hr h => ?_)
  · obtain ⟨pot, rfl, _⟩ := h
    rfl
  have hu65 := u65 hr
  have hu := Nat.lt_of_succ_lt hu65
  refine ⟨_, pss_cons (ps_asg (pe_tup (pa_cons (pe_op op_add pe_int (pe_call dDr.G (hr.mono (by decide)) (by rfl) dDr.m dDr.k dDr.b .nil pass0 (pa_cons (pv 0) (pa_cons (pv 1) pa_nil)))) (pa_cons (pe_op op_add pe_int (pe_call dDr.G (hr.mono (by decide)) (by rfl) dDr.m dDr.k dDr.b .nil pass0 (pa_cons (pv 0) (pa_cons (pv 1) pa_nil)))) (pa_cons (pe_op op_add pe_int (pe_call dDr.G (hr.mono (by decide)) (by rfl) dDr.m dDr.k dDr.b .nil pass0 (pa_cons (pv 0) (pa_cons pe_int pa_nil)))) pa_nil)))) (pg_tup rfl (pgs_cons (pg_name (i := 2) scBo.nd rfl (Or.inl rfl)) (pgs_cons (pg_name (i := 3) scBo.nd rfl (Or.inl rfl)) (pgs_cons (pg_name (i := 4) scBo.nd rfl (Or.inr rfl)) pgs_nil)))))
      (pss_cons (ps_set (i := 5) scBo.nd rfl (Or.inr rfl) (pe_tup (pa_cons (pe_call dDr.G (hr.mono (by decide)) (by rfl) dDr.m dDr.k dDr.b .nil pass0 (pa_cons (pv 0) (pa_cons (pv 2) pa_nil))) (pa_cons (pe_call dDr.G (hr.mono (by decide)) (by rfl) dDr.m dDr.k dDr.b .nil pass0 (pa_cons (pv 0) (pa_cons (pv 3) pa_nil))) pa_nil))))
      (pss_cons (ps_set (i := 6) scBo.nd rfl (Or.inl rfl) (pe_lst pa_nil))
      (pss_cons (ps_for PassesOwn.never rfl (pi_range1 (by rfl) B.range (pa_cons (pv 2) pa_nil)) (pg_name (i := 7) scBo.nd rfl (Or.inr rfl)) (pss_one (ps_expr (pe_bm PySem.F.plainAttrs_list PySem.F.slot_list_extend PySem.F.type_list_extend mt_extend (pv 6) (pa_cons (pe_lc (own := [("_law_column", 8)]) (g := gName 8) (tt := (tOr (tTest (tOp (rEqD K) (tTup (tCons (tVar 7) (tCons (tVar 8) tNil))) (tVar 5))) (tTest (tOp (rI0 fun i j => .bl (decide (i < j))) (tCall SpDraw [] E0 (tCons (tVar 0) (tCons (tC (.int 4)) tNil))) (tVar 4))))) (te := (tTup (tCons (tVar 7) (tCons (tVar 8) tNil)))) rfl scBo.nd (pi_range1 (by rfl) B.range (pa_cons (pv 3) pa_nil)) (blkOk_by (own := [("_law_column", 8)]) (N := nBo) (sc := defScope sBo) (by decide +kernel)) (fun _ _ _ _ _ => (pg_name (i := 8) scBo.nd rfl (Or.inl rfl))) (fun _ _ _ _ _ => (pts_one (pw_or (pt_cmpR (op_eqD hu) (pe_tup (pa_cons (pv 7) (pa_cons (pv 8) pa_nil))) (pv 5) (nomark _)) (pw_or1 (pt_cmpR op_lt (pe_call dDr.G (hr.mono (by decide)) (by rfl) dDr.m dDr.k dDr.b .nil pass0 (pa_cons (pv 0) (pa_cons pe_int pa_nil))) (pv 4) (nomark _)))).pt)) (fun _ _ _ _ _ => (pe_tup (pa_cons (pv 7) (pa_cons (pv 8) pa_nil))))) pa_nil)))))
      (pss_one (ps_ret (pe_tup (pa_cons (pv 2) (pa_cons (pv 3) (pa_cons (pv 6) pa_nil))))))))), ?_⟩
  obtain ⟨pot, rfl, hp, kk⟩ := h
  have one : ∀ {n : Nat} {g : List (Option PyData)} {tb : TE}, EvG tb g (N n) → 1 ≤ n → n ≤ 1000 → EvD pot (tOp (rI0 fun i j => .int (i + j)) (tC (.int 1)) (tCall SpDraw [] E0 (tCons (tVar 0) (tCons tb tNil)))) g (fun d => ∃ k, k < n ∧ d = N (1 + k)) := fun {n g tb} h n1 n2 =>
    (EvD.opR (x := .int 1) (f := fun y => match y with | .int i => .int (1 + i) | _ => .none) (.int 1) (.draw h n1 n2) fun y c => by
      obtain ⟨k, hk, rfl⟩ := c
      exact .add).imp fun d ⟨y, ⟨k, hk, ey⟩, ed⟩ => ⟨k, hk, by
        rw [ed, ey]
        show PyData.int (1 + (k : Int)) = .int ((1 + k : Nat) : Int)
        congr 1⟩
  have start : Gm (Sp1 pot) H (L2.start nBo [.ref pot, .int 4]) [none, some (N 4), none, none, none, none, none, none, none] := ⟨rfl, fun i d hd => by
    match i, hd with
    | 0, hd => cases hd
    | 1, hd => exact ⟨_, rfl, by cases hd; exact .int 4⟩
    | 2, hd => cases hd
    | 3, hd => cases hd
    | 4, hd => cases hd
    | 5, hd => cases hd
    | 6, hd => cases hd
    | 7, hd => cases hd
    | 8, hd => cases hd
    | i + 9, hd => cases hd⟩
  have d3 := EvD.tup (pot := pot) (.cons (one (n := 4) (g := [none, some (N 4), none, none, none, none, none, none, none]) (tb := tVar 1) (.var rfl) (by decide) (by decide)) (.cons (one (n := 4) (tb := tVar 1) (.var rfl) (by decide) (by decide)) (.cons (one (n := 4) (tb := tC (.int 4)) (.int 4) (by decide) (by decide)) .nil))) (by
    rintro ds ⟨a, _, e, _, b, _, e2, _, c, _, e3, _, e4⟩
    rw [e, e2, e3, e4]
    show 3 ≤ sizeLine
    decide)
  have d3' := d3.imp (C' := fun d => ∃ x y z, d = .tuple [x, y, z] ∧ ∃ t w o : Nat, 1 ≤ t ∧ t ≤ 4 ∧ 1 ≤ w ∧ w ≤ 4 ∧ x = N t ∧ y = N w ∧ z = N o) (by
    rintro d ⟨_, rfl, _, _, rfl, ⟨t0, ht0, rfl⟩, _, _, rfl, ⟨w0, hw0, rfl⟩, _, _, rfl, ⟨o0, ho0, rfl⟩, rfl⟩
    exact ⟨_, _, _, rfl, 1 + t0, 1 + w0, 1 + o0, by omega, by omega, by omega, by omega, rfl, rfl, rfl⟩)
  refine (StR.asg3 (r := fun d => ∃ t w ps, Board t w ps ∧ d = .tuple [N t, N w, .list (psD ps)]) (by decide) (by decide) (by decide) d3' ?_) H _ _ hp start rfl ?_
  rotate_left
  · rintro v H' d ⟨t, w, ps, hb, rfl⟩ k p a
    exact kk H' v t w ps hb k p a
  · rintro x y z ⟨t, w, o, t1, t4, w1, w4, rfl, rfl, rfl⟩
    refine StR.setD (by decide) (EvD.tup (.cons (.draw (.var rfl) t1 (by omega)) (.cons (.draw (.var rfl) w1 (by omega)) .nil)) (by
      rintro ds ⟨a, _, e, _, b, _, e2, _, e3⟩
      rw [e, e2, e3]
      exact two_line)) ?_
    rintro d ⟨_, rfl, _, _, rfl, ⟨sa, hsa, rfl⟩, _, _, rfl, ⟨sb, hsb, rfl⟩, rfl⟩
    intro H σ D hp e z k
    refine ⟨by decide, fun L nL => ?_⟩
    have nLp : L ≠ pot := fun w => by
      obtain ⟨_, _, f, _⟩ := hp
      rw [← w, nL] at f
      cases f
    have sL := same_new (o := .lst []) nL
    have e6 : Gm (SD (Sp1 pot) L) (upd H L (.lst [])) (σ.set 6 (some (.ref L))) [none, some (N 4), some (N t), some (N w), some (N o), some (.tuple [N sa, N sb]), none, none, none] := by
      have e' := (e.fresh nL).same sL
      refine ⟨by rw [List.length_set]; exact e'.len, fun i d hd => ?_⟩
      by_cases hi : i = 6
      · subst hi
        cases hd
      · obtain ⟨v, h1, h2⟩ := e'.at_ i d hd
        exact ⟨v, by rw [List.getElem?_set_ne (Ne.symm hi)]; exact h1, h2⟩
    have z6 : (σ.set 6 (some (.ref L)))[0]? = some (some (.ref pot)) := set0 (by decide) z
    have y6 : (σ.set 6 (some (.ref L)))[6]? = some (some (.ref L)) := by
      rw [List.getElem?_set]
      simp only [if_true]
      rw [if_pos (by rw [e.len]; show (6 : Nat) < 9; decide)]
    have p6 := hp.same sL
    have l6 : Live (SD (Sp1 pot) L) (upd H L (.lst [])) := fun X hX => hX.elim (fun w => p6.live X w) fun w => by
      rw [w, upd_same]
      intro q
      cases q
    refine (EvG.var rfl : EvG (tVar 2) _ (N t)) _ _ _ l6 e6 _ fun H0 v s0 av => ?_
    cases av
    refine ⟨_, rfl, by omega, by omega, ?_⟩
    refine for_range (fun i σ' H' => Kp (Sp1 pot) H H' ∧ PotAt H' pot ∧ Gm (SD (Sp1 pot) L) H' σ' [none, some (N 4), some (N t), some (N w), some (N o), some (.tuple [N sa, N sb]), none, none, none] ∧ σ'[0]? = some (some (.ref pot)) ∧ σ'[6]? = some (some (.ref L)) ∧ ∃ xs ps, H' L = some (.lst xs) ∧ Avs (SD (Sp1 pot) L) H' xs (psD ps) ∧ ps.Pairwise ltP ∧ (∀ p ∈ ps, p.1 < i ∧ p.2 < w) ∧ (sa < i → (sa, sb) ∈ ps)) ?_ ?_ ?_
    · exact ⟨Kp.of (sL.trans s0), p6.same s0, e6.same s0, z6, y6, [], [], s0 _ _ upd_same, .nil, .nil, fun p z => (by cases z), fun z => absurd z (Nat.not_lt_zero sa)⟩
    · rintro i σ' H' hi ⟨k1, p1, e1, z1, y1, xs, ps, hL, ha, hs, hb, hm⟩
      rw [Int.toNat_natCast] at hi
      have z7 : (σ'.set 7 (some (.int (0 + (i : Nat)))))[0]? = some (some (.ref pot)) := set0 (by decide) z1
      have y7 : (σ'.set 7 (some (.int (0 + (i : Nat)))))[6]? = some (some (.ref L)) := by
        rw [List.getElem?_set_ne (by decide)]
        exact y1
      have e7 : Gm (SD (Sp1 pot) L) H' (σ'.set 7 (some (.int (0 + (i : Nat))))) [none, some (N 4), some (N t), some (N w), some (N o), some (.tuple [N sa, N sb]), none, some (N i), none] := by
        rw [Int.zero_add]
        exact e1.set 7 (.int _)
      have l7 : Live (SD (Sp1 pot) L) H' := fun X hX => hX.elim (fun w => p1.live X w) fun w => by
        rw [w, hL]
        intro q
        cases q
      refine ⟨_, y7, .inl ⟨rfl, _, SqL.of hL⟩, ?_⟩
      refine lc_pot (must := fun c => i = sa ∧ c = sb) (m := fun c => .tuple [N i, N c]) (.inl rfl) l7 p1 e7 z7 (by decide) (by omega) (.var rfl) (fun c hc => ⟨?_, ?_⟩) fun H3 Dd ks k3 p3 av3 hks hkn hmu => ?_
      · refine (EvBD.or (a := decide ((i, c) = (sa, sb))) (.eq (.tst (.op (.tup (.cons (.var rfl) (.cons (.var rfl) .nil)) two_line) (.var rfl) (.eqD rfl rfl (sh_pD (i, c)) (sh_pD (sa, sb))))) (eqv_pD (i, c) (sa, sb))) (.tst (c := fun _ => True) ((EvD.opL (y := N o) (f := fun x => match x with | .int a => .bool (decide (a < (o : Int))) | _ => .none) (.draw (.int 4) (by decide) (by decide)) (.var rfl) fun x c => ?_).imp fun d hd => ?_))).imp fun b hb hmu => hb (decide_eq_true (by rw [hmu.1, hmu.2]))
        · obtain ⟨k, _, rfl⟩ := c
          exact .lt
        · obtain ⟨_, ⟨k, _, rfl⟩, rfl⟩ := hd
          exact ⟨_, rfl, trivial⟩
      · exact .tup (.cons (.var rfl) (.cons (.var rfl) .nil)) two_line
      · have hL3 : H3 L = some (.lst xs) := k3 L _ nLp hL
        have ha3 := ha.keep (kp1 (S := SD (Sp1 pot) L) (.inl rfl) k3)
        have hbn : ∀ p ∈ ps ++ ks.map (fun c => ((i, c) : Pl)), p.1 < i + 1 ∧ p.2 < w := fun p hp' => by
          rcases List.mem_append.mp hp' with g | g
          · have := hb p g
            omega
          · obtain ⟨c, hc, rfl⟩ := List.mem_map.mp g
            exact ⟨Nat.lt_succ_self i, hkn c hc⟩
        have hsn : (ps ++ ks.map (fun c => ((i, c) : Pl))).Pairwise ltP := by
          rw [List.pairwise_append]
          refine ⟨hs, List.pairwise_map.mpr (hks.imp fun {a b} h => .inr ⟨rfl, h⟩), fun p hp' q hq => .inl ?_⟩
          obtain ⟨c, hc, rfl⟩ := List.mem_map.mp hq
          exact (hb p hp').1
        have h16 := grid_le hsn fun p hp' => by
          have := hbn p hp'
          omega
        have ed : (ks.map fun c => PyData.tuple [N i, N c]) = psD (ks.map fun c => ((i, c) : Pl)) := by
          show _ = (ks.map _).map pD
          rw [List.map_map]
          rfl
        rw [ed] at av3
        cases av3 with
        | lst nD hD hz =>
          rename_i zs
          have hl1 := ha3.len
          have hl2 := hz.len
          rw [len_psD] at hl1 hl2
          rw [List.length_append] at h16
          have kp : Kp (SD (Sp1 pot) L) H3 (upd H3 L (.lst (xs ++ zs))) := fun b o n e => by
            rw [upd_ne (fun z => n (.inr z))]
            exact e
          refine ⟨L, Dd, xs, zs, rfl, rfl, hL3, hD, by rw [hl1, hl2]; exact Nat.le_trans h16 (by decide), fun b o nb e => ?_, ?_, (e7.keep (kp1 (.inl rfl) k3)).keep kp |>.less (.k (.k (.k (.k (.k (.k (.k (.f (.k .nil))))))))), z7, y7, xs ++ zs, ps ++ ks.map (fun c => ((i, c) : Pl)), upd_same, ?_, hsn, hbn, fun g => ?_⟩
          · rw [upd_ne (ne_of_none e nL)]
            exact k3 _ _ nb (k1 _ _ nb e)
          · obtain ⟨a, b, f, g⟩ := p3
            exact ⟨a, b, by rw [upd_ne (Ne.symm nLp)]; exact f, g⟩
          · rw [show psD (ps ++ ks.map (fun c => ((i, c) : Pl))) = psD ps ++ psD (ks.map fun c => ((i, c) : Pl)) from List.map_append ..]
            exact (ha3.app hz).keep kp
          · rcases Nat.lt_succ_iff_lt_or_eq.mp g with g | g
            · exact List.mem_append.mpr (.inl (hm g))
            · exact List.mem_append.mpr (.inr (List.mem_map.mpr ⟨sb, hmu sb hsb ⟨g.symm, rfl⟩, by rw [g]⟩))
    · rintro σ' H' ⟨k1, p1, e1, z1, y1, xs, ps, hL, ha, hs, hb, hm⟩
      rw [Int.toNat_natCast] at hb hm
      have hb' : Board t w ps := ⟨t1, t4, w1, w4, List.length_pos_of_mem (hm hsa), grid_le hs fun p hp' => by
        have := hb p hp'
        omega, hb, hs⟩
      have e7 := Gm.learn (Gm.sub (fun X h => .inl h) e1) y1 (Av.lst nLp hL (ha.less fun X h => .inl h))
      exact StG.ret (.tup (.cons (.var rfl) (.cons (.var rfl) (.cons (.var rfl) .nil))) (by show 3 ≤ sizeLine; decide)) (Sp1 pot) H' σ' D p1.live e7 fun v H2 s a => k v H2 _ ⟨t, w, ps, hb', rfl⟩ (k1.trans (Kp.of s)) (p1.same s) a
end
end K73

set_option Elab.async false
set_option linter.all false
set_option maxRecDepth 100000
set_option maxHeartbeats 4000000
/-! The checks, asked of values of all kinds. -/
namespace K73
open PySem L2 GD RQ
/-! ### the class of fractions -/
structure RCls (K : PySem.W.Frag) (mg : Str → Option Value) (C : Addr) : Prop where
  cl : Cls K C
  nT : NoAttr K C "_top"
  nB : NoAttr K C "_bottom"
  mg_ : mg "Ratio" = some (.ref C)
  kp : PySem.W.keepIn K (.ref C) = true
  ha : PySem.W.findIn K (.ref C) "__class__" = some (some (.builtin "object.__class__"))
  hn : PySem.W.specialIn K (.builtin "object.__class__") "__get__" = some (some (.builtin "getset_descriptor.__get__"))
  htk : PySem.W.takesIn K (.builtin "object.__class__") = some true
  hm : PySem.W.mroIn K C (.type "object") = some true
  kI : PySem.W.kitOne K (.ref C) (.type "int") = some false
  kB : PySem.W.kitOne K (.ref C) (.type "bool") = some false
  kL : PySem.W.kitOne K (.ref C) (.type "list") = some false
  kT : PySem.W.kitOne K (.ref C) (.type "tuple") = some false
/-! ### isinstance -/
def isiB (T : String) : PyData → Bool
  | .none => false
  | .bool _ => T == "int" || T == "bool"
  | .int _ => T == "int"
  | .str _ => false
  | .list _ => T == "list"
  | .tuple _ => T == "tuple"
  | .dict _ => false
section
variable {K : PySem.W.Frag} {mg : Str → Option Value} {C : Addr} {S : Addr → Prop} {H : Hp} {γ : List (Option PyData)} {te : TE} {d : PyData}
/-- what isinstance says of a class, of the four built-in ones -/
structure Kits (K : PySem.W.Frag) (c : Value) (d : PyData) : Prop where
  i : PySem.W.kitOne K c (.type "int") = some (isiB "int" d)
  b : PySem.W.kitOne K c (.type "bool") = some (isiB "bool" d)
  l : PySem.W.kitOne K c (.type "list") = some (isiB "list" d)
  t : PySem.W.kitOne K c (.type "tuple") = some (isiB "tuple" d)
theorem av_isiB {v : V} (R : RCls K mg C) (h : Av S H v d) (o : ok C d) : ∃ c, TyX K H v c ∧ Kits K c d := by
  cases h with
  | non => exact ⟨.type "NoneType", .base .non, ⟨kit_ty (r := false) (by decide +kernel), kit_ty (r := false) (by decide +kernel), kit_ty (r := false) (by decide +kernel), kit_ty (r := false) (by decide +kernel)⟩⟩
  | bl b => exact ⟨.type "bool", .base (.bl b), ⟨kit_ty (r := true) (by decide +kernel), kit_ty (r := true) (by decide +kernel), kit_ty (r := false) (by decide +kernel), kit_ty (r := false) (by decide +kernel)⟩⟩
  | int i => exact ⟨.type "int", .base (.int i), ⟨kit_ty (r := true) (by decide +kernel), kit_ty (r := false) (by decide +kernel), kit_ty (r := false) (by decide +kernel), kit_ty (r := false) (by decide +kernel)⟩⟩
  | str s => exact ⟨.type "str", .base (.str s), ⟨kit_ty (r := false) (by decide +kernel), kit_ty (r := false) (by decide +kernel), kit_ty (r := false) (by decide +kernel), kit_ty (r := false) (by decide +kernel)⟩⟩
  | dct n e => exact ⟨.type "dict", .base (.dK e), ⟨kit_ty (r := false) (by decide +kernel), kit_ty (r := false) (by decide +kernel), kit_ty (r := false) (by decide +kernel), kit_ty (r := false) (by decide +kernel)⟩⟩
  | dcT n e => exact ⟨.type "dict", .base (.dT e), ⟨kit_ty (r := false) (by decide +kernel), kit_ty (r := false) (by decide +kernel), kit_ty (r := false) (by decide +kernel), kit_ty (r := false) (by decide +kernel)⟩⟩
  | rat n e =>
    obtain ⟨rfl, _⟩ := ok_rat o
    exact ⟨_, .base (.ins e R.cl R.ha R.hn R.htk R.hm), ⟨R.kI, R.kB, R.kL, R.kT⟩⟩
  | lst n e _ => exact ⟨.type "list", .base (.lst e), ⟨kit_ty (r := false) (by decide +kernel), kit_ty (r := false) (by decide +kernel), kit_ty (r := true) (by decide +kernel), kit_ty (r := false) (by decide +kernel)⟩⟩
  | tup n e _ => exact ⟨.type "tuple", .base (.tup e), ⟨kit_ty (r := false) (by decide +kernel), kit_ty (r := false) (by decide +kernel), kit_ty (r := false) (by decide +kernel), kit_ty (r := true) (by decide +kernel)⟩⟩
theorem isiX (R : RCls K mg C) (o : ok C d) {T : String} (hT : ∀ c, Kits K c d → PySem.W.kitOne K c (.type T) = some (isiB T d)) (h : EvG te γ d) : EvG (tCB (rIsi K) (tCons te (tCons (tC (.ty T)) tNil))) γ (.bool (isiB T d)) := fun S H σ l e Q q =>
  h S H σ l e _ fun H1 v s1 av => by
    obtain ⟨c, ty, kt⟩ := av_isiB R av o
    exact ⟨v, .ty T, c, _, _, rfl, .ty T, ty, hT c kt, q H1 _ s1 (.bl _)⟩
def isSeqD : PyData → Bool
  | .list _ => true
  | .tuple _ => true
  | _ => false
theorem isiTX (R : RCls K mg C) (o : ok C d) (h : EvG te γ d) : EvG (tCB (rIsiT K) (tCons te (tCons (tTup (tCons (tC (.ty "list")) (tCons (tC (.ty "tuple")) tNil))) tNil))) γ (.bool (isSeqD d)) := fun S H σ l e Q q =>
  h S H σ l e _ fun H1 v s1 av => ⟨by show 2 ≤ sizeLine; decide, fun p np => by
    obtain ⟨c, ty, kt⟩ := av_isiB R (av.same (same_new (o := .tup [.ty "list", .ty "tuple"]) np)) o
    have two : PySem.W.kitAny K c [.type "list", .type "tuple"] = some (isSeqD d) := by
      cases h1 : isiB "list" d with
      | true =>
        have e1 : isSeqD d = true := by
          cases d <;> first | rfl | exact absurd h1 (by decide +kernel) | (exfalso; revert h1; simp [isiB])
        rw [e1]
        exact kitAny_cons (b := true) (h1 ▸ kt.l) (fun z => by cases z) fun _ => rfl
      | false =>
        have e1 : isSeqD d = isiB "tuple" d := by
          cases d <;> first | rfl | (exfalso; revert h1; simp [isiB])
        rw [e1]
        exact kitAny_cons (b := false) (h1 ▸ kt.l) (fun _ => kitAny_cons (b := isiB "tuple" d) kt.t (fun z => by rw [z]; rfl) fun z => by rw [z]) fun z => by cases z
    exact ⟨v, p, _, _, _, isSeqD d, rfl, upd_same, .cons (.ty "list") (.cons (.ty "tuple") .nil), ty, two, q _ _ (s1.trans (same_new np)) (.bl _)⟩⟩
/-! ### lists and tuples -/
def itemsD : PyData → List PyData
  | .list xs => xs
  | .tuple xs => xs
  | _ => []
theorem seq_of (h : isSeqD d = true) : d = .list (itemsD d) ∨ d = .tuple (itemsD d) := by
  cases d <;> first | exact .inl rfl | exact .inr rfl | cases h
theorem iter_seq (h : isSeqD d = true) (he : EvG te γ d) : IterG (fun σ H R => iList K te σ H R ∨ iTup K te σ H R) γ (itemsD d) := by
  rcases seq_of h with e | e
  · rw [e] at he
    exact .orL (.list he)
  · rw [e] at he
    exact .orR (.tuple he)
theorem len_seq (h : isSeqD d = true) (he : EvG te γ d) : EvG (tCB (rLn K) (tCons te tNil)) γ (.int ((itemsD d).length : Nat)) := by
  rcases seq_of h with e | e
  · rw [e] at he
    exact .len he
  · rw [e] at he
    exact .lenT he
theorem oks_mem {xs : List PyData} (h : oks C xs) : ∀ x ∈ xs, ok C x := by
  induction xs with
  | nil => intro x hx; cases hx
  | cons y ys ih =>
    intro x hx
    rcases List.mem_cons.mp hx with rfl | hx
    · exact h.1
    · exact ih h.2 x hx
theorem ok_items (o : ok C d) : ∀ x ∈ itemsD d, ok C x := by
  cases d <;> first | exact oks_mem o | (intro x hx; cases hx)
def intsD (d : PyData) : List Int := (itemsD d).filterMap fun x => match x with | .int i => some i | _ => none
end
end K73

set_option Elab.async false
set_option linter.all false
set_option maxRecDepth 100000
set_option maxHeartbeats 4000000
/-! The program's judges, asked of values of all kinds. -/
namespace K73
open PySem L2 GD RQ
def isIntD : PyData → Bool
  | .int _ => true
  | _ => false
def isCntD : PyData → Bool
  | .int i => decide (0 ≤ i)
  | _ => false
def btwD (lo hi : Int) : PyData → Bool
  | .int i => decide (0 ≤ i) && (decide (lo ≤ i) && decide (i ≤ hi))
  | _ => false
def plOf : PyData → Option Pl
  | .tuple [.int a, .int b] => if 0 ≤ a ∧ 0 ≤ b then some (a.toNat, b.toNat) else none
  | _ => none
def plIn (t w : Nat) (d : PyData) : Bool := match plOf d with
  | some p => decide (p.1 < t) && decide (p.2 < w)
  | none => false
def inP (ps : List Pl) (d : PyData) : Bool := match plOf d with
  | some p => decide (p ∈ ps)
  | none => false
theorem pl_btw (t w : Nat) (x y : PyData) : (btwD 0 ((t : Int) - 1) x && btwD 0 ((w : Int) - 1) y) = plIn t w (.tuple [x, y]) := by
  unfold plIn
  cases x with
  | int a =>
    cases y with
    | int b =>
      show ((decide (0 ≤ a) && (decide ((0 : Int) ≤ a) && decide (a ≤ (t : Int) - 1))) && (decide (0 ≤ b) && (decide ((0 : Int) ≤ b) && decide (b ≤ (w : Int) - 1)))) = _
      by_cases h : 0 ≤ a ∧ 0 ≤ b
      · rw [show plOf (.tuple [.int a, .int b]) = some (a.toNat, b.toNat) from if_pos h]
        have e1 : decide (a ≤ (t : Int) - 1) = decide (a.toNat < t) := decide_eq_decide.mpr ⟨fun z => by omega, fun z => by omega⟩
        have e2 : decide (b ≤ (w : Int) - 1) = decide (b.toNat < w) := decide_eq_decide.mpr ⟨fun z => by omega, fun z => by omega⟩
        rw [decide_eq_true h.1, decide_eq_true h.2, e1, e2]
        rfl
      · rw [show plOf (.tuple [.int a, .int b]) = none from if_neg h]
        by_cases ha : 0 ≤ a
        · rw [decide_eq_false (fun z => h ⟨ha, z⟩)]
          exact Bool.and_false _
        · rw [decide_eq_false ha]
          rfl
    | _ => exact Bool.and_false _
  | _ => rfl
theorem pl_some {d : PyData} {p : Pl} (h : plOf d = some p) : d = pD p := by
  unfold plOf at h
  split at h
  · split at h
    · rename_i hab
      have := Option.some.inj h
      subst this
      show PyData.tuple [.int _, .int _] = .tuple [.int _, .int _]
      rw [Int.toNat_of_nonneg hab.1, Int.toNat_of_nonneg hab.2]
    · cases h
  · cases h
theorem pl_pD (p : Pl) : plOf (pD p) = some p := by
  show (if (0 : Int) ≤ (p.1 : Int) ∧ (0 : Int) ≤ (p.2 : Int) then some ((p.1 : Int).toNat, (p.2 : Int).toNat) else none) = some p
  rw [if_pos ⟨by omega, by omega⟩]
  rfl
/-- all of them are places of ours: they are these -/
theorem all_in {ps : List Pl} : ∀ {xs : List PyData}, xs.all (inP ps) = true → xs = psD (xs.filterMap plOf) ∧ ∀ p ∈ xs.filterMap plOf, p ∈ ps
  | [], _ => ⟨rfl, fun p h => by cases h⟩
  | x :: xs, h => by
    rw [List.all_cons, Bool.and_eq_true] at h
    obtain ⟨h1, h2⟩ := h
    obtain ⟨e, m⟩ := all_in h2
    unfold inP at h1
    cases hp : plOf x with
    | none => rw [hp] at h1; cases h1
    | some p =>
      rw [hp] at h1
      rw [List.filterMap_cons_some hp]
      refine ⟨?_, fun q hq => ?_⟩
      · show x :: xs = pD p :: psD (xs.filterMap plOf)
        rw [← e, pl_some hp]
      · rcases List.mem_cons.mp hq with rfl | hq
        · exact of_decide_eq_true h1
        · exact m q hq
def placesD (d : PyData) : List Pl := (itemsD d).filterMap plOf
/-- rooks of the board, as a value -/
def rooksSeen (ps : List Pl) (n : Nat) (d : PyData) : Bool := isSeqD d && ((itemsD d).all (inP ps) && (decide ((placesD d).map (·.1)).Nodup && (decide ((placesD d).map (·.2)).Nodup && decide ((placesD d).length = n))))
/-! ### unlike ones, by how many -/
theorem dk_len_le : ∀ (ks acc : List Int), (dk acc ks).length ≤ acc.length + ks.length
  | [], acc => Nat.le_refl _
  | k :: ks, acc => by
    rw [dk]
    have h := dk_len_le ks (if k ∈ acc then acc else acc ++ [k])
    have : (if k ∈ acc then acc else acc ++ [k]).length ≤ acc.length + 1 := by
      split
      · omega
      · simp
    rw [List.length_cons]
    omega
theorem dk_full : ∀ (ks acc : List Int), (dk acc ks).length = acc.length + ks.length → ks.Nodup ∧ ∀ k ∈ ks, k ∉ acc
  | [], acc, _ => ⟨.nil, fun k h => by cases h⟩
  | k :: ks, acc, h => by
    rw [dk] at h
    have hl := dk_len_le ks (if k ∈ acc then acc else acc ++ [k])
    rw [List.length_cons] at h
    by_cases hk : k ∈ acc
    · rw [if_pos hk] at h hl
      omega
    · rw [if_neg hk] at h hl
      rw [List.length_append, List.length_singleton] at hl
      obtain ⟨a, b⟩ := dk_full ks (acc ++ [k]) (by rw [List.length_append, List.length_singleton]; omega)
      refine ⟨List.nodup_cons.mpr ⟨fun z => (b k z) (List.mem_append.mpr (.inr (.head _))), a⟩, fun j hj => ?_⟩
      rcases List.mem_cons.mp hj with rfl | hj
      · exact hk
      · exact fun z => b j hj (List.mem_append.mpr (.inl z))
theorem dk_of : ∀ (ks acc : List Int), ks.Nodup → (∀ k ∈ ks, k ∉ acc) → (dk acc ks).length = acc.length + ks.length
  | [], acc, _, _ => rfl
  | k :: ks, acc, h, hd => by
    have h' := List.nodup_cons.mp h
    rw [dk, if_neg (hd k (.head _)), dk_of ks (acc ++ [k]) h'.2 fun j hj z => ?_, List.length_append, List.length_singleton, List.length_cons]
    · omega
    · rcases List.mem_append.mp z with z | z
      · exact hd j (.tail _ hj) z
      · rw [List.mem_singleton.mp z] at hj
        exact h'.1 hj
theorem dk_iff (ks : List Int) : (dk [] ks).length = ks.length ↔ ks.Nodup := by
  constructor
  · intro h
    exact (dk_full ks [] (by rw [h]; simp)).1
  · intro h
    have := dk_of ks [] h fun k _ z => by cases z
    simpa using this
theorem toI_nodup {ns : List Nat} : (toI ns).Nodup ↔ ns.Nodup := by
  constructor
  · intro h
    show ns.Pairwise (· ≠ ·)
    have h' : (toI ns).Pairwise (· ≠ ·) := h
    rw [List.pairwise_map] at h'
    exact h'.imp fun {a b} z e => z (by rw [e])
  · exact nodup_int
theorem dk_nat (ns : List Nat) : (dk [] (toI ns)).length = ns.length ↔ ns.Nodup := by
  have := dk_iff (toI ns)
  rw [List.length_map] at this
  exact this.trans toI_nodup
theorem dk_nat_le (ns : List Nat) : (dk [] (toI ns)).length ≤ ns.length := by
  have := dk_len_le (toI ns) []
  rw [List.length_map] at this
  simpa using this
/-! ### promises -/
def GintG (C : Addr) (ds : List PyData) (r : PyData) : Prop := ∃ d, ok C d ∧ ds = [d] ∧ r = .bool (isIntD d)
def GcountG (C : Addr) (ds : List PyData) (r : PyData) : Prop := ∃ d, ok C d ∧ ds = [d] ∧ r = .bool (isCntD d)
def GlistG (C : Addr) (ds : List PyData) (r : PyData) : Prop := ∃ d, ok C d ∧ ds = [d] ∧ r = .bool (isSeqD d)
def GbetG (C : Addr) (ds : List PyData) (r : PyData) : Prop := ∃ (d : PyData) (lo hi : Int), ok C d ∧ ds = [d, .int lo, .int hi] ∧ r = .bool (btwD lo hi d)
def GplG (C : Addr) (ds : List PyData) (r : PyData) : Prop := ∃ (t w : Nat) (d : PyData), ok C d ∧ ds = [d, N t, N w] ∧ r = .bool (plIn t w d)
def GirG (C : Addr) (ds : List PyData) (r : PyData) : Prop := ∃ (t w : Nat) (ps : List Pl) (d : PyData), Board t w ps ∧ ok C d ∧ (itemsD d).length ≤ 1000 ∧ ds = [N t, N w, .list (psD ps), d] ∧ r = .bool (rooksSeen ps (due ps t) d)
section
variable {P : Program} {w : World} {K : PySem.W.Frag} {mg : Str → Option Value} {base : Heap} {C : Addr}
theorem gok_isInt {f : Addr} {fd : FuncData} (F : Fun K "is_integer" "is_integer" sIsInt f fd) (B : Blt mg) (R : RCls K mg C) : FnOk P w K mg base CX0 1 f fd ["value"] (SpG (GintG C)) := by
  refine F.ok scIsInt (fun vs H Q E h => h.len (n := 1) (by rintro ds r ⟨i, _, rfl, _⟩; rfl)) (fun cdv A outer s H vs Q E hr h => ?_)
  refine ⟨_, pss_one (ps_ret (pe_and (pe_callB call_isi (by rfl) B.isi PyProof.Rows.boot_isinstance (pa_cons (pv 0) (pa_cons (pe_bltn (by rfl) B.int PyProof.Rows.boot_int (v := .ty "int") rfl) pa_nil))) (pe_one (pe_not (pe_callB call_isi (by rfl) B.isi PyProof.Rows.boot_isinstance (pa_cons (pv 0) (pa_cons (pe_bltn (by rfl) B.bool PyProof.Rows.boot_bool (v := .ty "bool") rfl) pa_nil))))))), h.body fun ds r hF => ?_⟩
  obtain ⟨d, o, rfl, rfl⟩ := hF
  refine .ret (.eq (.andV (isiX R o (fun c k => k.i) (.var rfl)) fun _ => .notV (isiX R o (fun c k => k.b) (.var rfl))) ?_)
  cases d <;> rfl
theorem gok_isCount {f : Addr} {fd : FuncData} (F : Fun K "is_count" "is_count" sIsCount f fd) (B : Blt mg) (gInt : Dn P w K mg base 1 "is_integer" ["value"] (SpG (GintG C))) : FnOk P w K mg base CX0 2 f fd ["value"] (SpG (GcountG C)) := by
  refine F.ok scIsCount (fun vs H Q E h => h.len (n := 1) (by rintro ds r ⟨i, _, rfl, _⟩; rfl)) (fun cdv A outer s H vs Q E hr h => ?_)
  refine ⟨_, pss_one (ps_ret (pe_and (pe_call gInt.G (hr.mono (by decide)) (by rfl) gInt.m gInt.k gInt.b .nil pass0 (pa_cons (pv 0) pa_nil)) (pe_one (pe_cmpR op_ge (pv 0) pe_int (nomark _))))), h.body fun ds r hF => ?_⟩
  obtain ⟨d, o, rfl, rfl⟩ := hF
  by_cases hi : isIntD d = true
  · obtain ⟨i, rfl⟩ : ∃ i, d = .int i := by
      cases d <;> first | exact ⟨_, rfl⟩ | cases hi
    exact .ret (.eq (.andV (a := true) (.call (.cons (.var rfl) .nil) ⟨_, o, rfl, rfl⟩) fun _ => .op (.var rfl) (.int 0) .ge) rfl)
  · have hi' : isIntD d = false := Bool.eq_false_iff.mpr hi
    refine .ret (.eq (.andV (a := false) (b := false) (.call (.cons (.var rfl) .nil) ⟨_, o, rfl, by rw [hi']⟩) fun z => by cases z) ?_)
    cases d <;> first | rfl | cases hi'
theorem gok_isList {f : Addr} {fd : FuncData} (F : Fun K "is_list" "is_list" sIsList f fd) (B : Blt mg) (R : RCls K mg C) : FnOk P w K mg base CX0 1 f fd ["value"] (SpG (GlistG C)) := by
  refine F.ok scIsList (fun vs H Q E h => h.len (n := 1) (by rintro ds r ⟨i, _, rfl, _⟩; rfl)) (fun cdv A outer s H vs Q E hr h => ?_)
  refine ⟨_, pss_one (ps_ret (pe_callB call_isiT (by rfl) B.isi PyProof.Rows.boot_isinstance (pa_cons (pv 0) (pa_cons (pe_tup (pa_cons (pe_bltn (by rfl) B.list PyProof.Rows.boot_list (v := .ty "list") rfl) (pa_cons (pe_bltn (by rfl) B.tuple PyProof.Rows.boot_tuple (v := .ty "tuple") rfl) pa_nil))) pa_nil)))), h.body fun ds r hF => ?_⟩
  obtain ⟨d, o, rfl, rfl⟩ := hF
  exact .ret (isiTX R o (.var rfl))
theorem gok_bet {f : Addr} {fd : FuncData} (F : Fun K "is_between" "is_between" sBet f fd) (B : Blt mg) (gCount : Dn P w K mg base 2 "is_count" ["value"] (SpG (GcountG C))) : FnOk P w K mg base CX0 3 f fd ["value", "low", "high"] (SpG (GbetG C)) := by
  refine F.ok scBet (fun vs H Q E h => h.len (n := 3) (by rintro ds r ⟨v, lo, hi, _, rfl, _⟩; rfl)) (fun cdv A outer s H vs Q E hr h => ?_)
  refine ⟨_, pss_one (ps_ret (pe_and (pe_call gCount.G (hr.mono (by decide)) (by rfl) gCount.m gCount.k gCount.b .nil pass0 (pa_cons (pv 0) pa_nil)) (pe_one (pe_chain op_le op_le (pv 1) (pv 0) (pv 2))))), h.body fun ds r hF => ?_⟩
  obtain ⟨d, lo, hi, o, rfl, rfl⟩ := hF
  by_cases hc : isCntD d = true
  · obtain ⟨i, rfl⟩ : ∃ i, d = .int i := by
      cases d <;> first | exact ⟨_, rfl⟩ | cases hc
    exact .ret (.eq (.andV (.call (.cons (.var rfl) .nil) ⟨_, o, rfl, rfl⟩) fun _ => .chain (.var rfl) (.var rfl) (.var rfl) .le .le) rfl)
  · have hc' : isCntD d = false := Bool.eq_false_iff.mpr hc
    refine .ret (.eq (.andV (a := false) (b := false) (.call (.cons (.var rfl) .nil) ⟨_, o, rfl, by rw [hc']⟩) fun z => by cases z) ?_)
    cases d with
    | int i =>
      have : decide (0 ≤ i) = false := hc'
      show PyData.bool false = .bool (decide (0 ≤ i) && _)
      rw [this]
      rfl
    | _ => rfl
theorem gok_pl {f : Addr} {fd : FuncData} (F : Fun K "is_place" "is_place" sPl f fd) (B : Blt mg) (R : RCls K mg C) (gBet : Dn P w K mg base 3 "is_between" ["value", "low", "high"] (SpG (GbetG C))) : FnOk P w K mg base CX0 4 f fd ["value", "tall", "wide"] (SpG (GplG C)) := by
  refine F.ok scPl (fun vs H Q E h => h.len (n := 3) (by rintro ds r ⟨t, w, p, _, rfl, _⟩; rfl)) (fun cdv A outer s H vs Q E hr h => ?_)
  refine ⟨_, pss_cons (ps_if (pw_or (pt_not (pt_val (pe_callB call_isi (by rfl) B.isi PyProof.Rows.boot_isinstance (pa_cons (pv 0) (pa_cons (pe_bltn (by rfl) B.tuple PyProof.Rows.boot_tuple (v := .ty "tuple") rfl) pa_nil))))) (pw_or1 (pt_cmpR op_ne (pe_callB call_len_seq (by rfl) B.len PySem.boot_len (pa_cons (pv 0) pa_nil)) pe_int (nomark _)))).pt (pss_one (ps_ret pe_bl)) pss_nil)
      (pss_one (ps_ret (pe_and (pe_call gBet.G (hr.mono (by decide)) (by rfl) gBet.m gBet.k gBet.b .nil pass0 (pa_cons (pe_ix ix_tup (pv 0) pe_int (fun _ _ => rfl)) (pa_cons pe_int (pa_cons (pe_op op_sub (pv 1) pe_int) pa_nil)))) (pe_one (pe_call gBet.G (hr.mono (by decide)) (by rfl) gBet.m gBet.k gBet.b .nil pass0 (pa_cons (pe_ix ix_tup (pv 0) pe_int (fun _ _ => rfl)) (pa_cons pe_int (pa_cons (pe_op op_sub (pv 2) pe_int) pa_nil)))))))), h.body fun ds r hF => ?_⟩
  obtain ⟨t, w, d, o, rfl, rfl⟩ := hF
  by_cases ht : ∃ xs, d = .tuple xs
  · obtain ⟨xs, rfl⟩ := ht
    by_cases h2 : xs.length = 2
    · obtain ⟨x, y, rfl⟩ : ∃ x y, xs = [x, y] := by
        match xs, h2 with
        | [x, y], _ => exact ⟨x, y, rfl⟩
      have ox : ok C x := o.1
      have oy : ok C y := o.2.1
      have i0 : ∀ {g : List (Option PyData)}, g[0]? = some (some (.tuple [x, y])) → EvG (tOp (rIxT K) (tVar 0) (tC (.int 0))) g x := fun h => .op (.var h) (.int 0) (.ixT (j := 0) rfl)
      have i1 : ∀ {g : List (Option PyData)}, g[0]? = some (some (.tuple [x, y])) → EvG (tOp (rIxT K) (tVar 0) (tC (.int 1))) g y := fun h => .op (.var h) (.int 1) (.ixT (j := 1) rfl)
      refine .seq (.ifF (.eq (.or (a := false) (.eq (.not (.val (isiX R o (fun c k => k.t) (.var rfl)))) rfl) fun _ => .tst (.op (.lenT (.var rfl)) (.int 2) .neI)) rfl) .next) ?_
      refine .ret (.eq (.andV (.call (.cons (i0 rfl) (.cons (.int 0) (.cons (.op (.var rfl) (.int 1) .sub) .nil))) ⟨x, 0, _, ox, rfl, rfl⟩) fun _ => .call (.cons (i1 rfl) (.cons (.int 0) (.cons (.op (.var rfl) (.int 1) .sub) .nil))) ⟨y, 0, _, oy, rfl, rfl⟩) ?_)
      refine congrArg PyData.bool ?_
      exact pl_btw t w x y
    · have e : plOf (.tuple xs) = none := by
        unfold plOf
        split
        · rename_i hh
          cases hh
          exact absurd rfl h2
        · rfl
      refine .seq_rt (.ifT (.eq (.or (a := false) (.eq (.not (.val (isiX R o (fun c k => k.t) (.var rfl)))) rfl) fun _ => .tst (.op (.lenT (.var rfl)) (.int 2) .neI)) ?_) (.ret (.eq (.bl false) (by unfold plIn; rw [e]))))
      rw [decide_eq_false (by omega : ¬ ((xs.length : Nat) : Int) = 2)]
      rfl
  · have hf : isiB "tuple" d = false := by
      cases d <;> first | rfl | exact absurd ⟨_, rfl⟩ ht
    have e : plOf d = none := by
      cases d <;> first | rfl | exact absurd ⟨_, rfl⟩ ht
    exact .seq_rt (.ifT (.or (a := true) (b := true) (.eq (.not (.val (isiX R o (fun c k => k.t) (.var rfl)))) (by rw [hf]; rfl)) fun z => by cases z) (.ret (.eq (.bl false) (by unfold plIn; rw [e]))))
end
end K73

set_option Elab.async false
set_option linter.all false
set_option maxRecDepth 100000
set_option maxHeartbeats 4000000
/-! Judges of rooks and of covers, the program's and the law's, over values of all kinds. -/
namespace K73
open PySem L2 GD RQ
def cntB (m : Int) : PyData → Bool
  | .int i => decide (0 ≤ i) && decide (i < m)
  | _ => false
/-- unlike lines below m -/
def linesOk (m : Nat) (d : PyData) : Bool := isSeqD d && ((itemsD d).all (cntB m) && decide (intsD d).Nodup)
def covOk (ps : List Pl) (x y : PyData) : Bool := ps.all fun p => decide ((p.1 : Int) ∈ intsD x) || decide ((p.2 : Int) ∈ intsD y)
/-- a cover of the board, as a value -/
def coverSeen (t w : Nat) (ps : List Pl) (n : Nat) : PyData → Bool
  | .tuple [x, y] => linesOk t x && (linesOk w y && (covOk ps x y && decide ((itemsD x).length + (itemsD y).length = n)))
  | _ => false
theorem cnt_int {m : Int} {x : PyData} (h : cntB m x = true) : ∃ i, x = .int i ∧ 0 ≤ i ∧ i < m := by
  cases x with
  | int i =>
    have h' : (decide (0 ≤ i) && decide (i < m)) = true := h
    rw [Bool.and_eq_true, decide_eq_true_eq, decide_eq_true_eq] at h'
    exact ⟨i, rfl, h'⟩
  | _ => cases h
theorem ints_go {m : Int} : ∀ {xs : List PyData}, xs.all (cntB m) = true → xs = (xs.filterMap fun x => match x with | .int i => some i | _ => none).map .int ∧ ∀ i ∈ (xs.filterMap fun x => match x with | .int i => some i | _ => none), 0 ≤ i ∧ i < m
  | [], _ => ⟨rfl, fun i h => by cases h⟩
  | x :: xs, h => by
    rw [List.all_cons, Bool.and_eq_true] at h
    obtain ⟨i, rfl, hi⟩ := cnt_int h.1
    obtain ⟨e, mm⟩ := ints_go h.2
    refine ⟨?_, fun j hj => ?_⟩
    · show PyData.int i :: xs = .int i :: List.map _ _
      rw [← e]
    · rcases List.mem_cons.mp hj with rfl | hj
      · exact hi
      · exact mm j hj
theorem all_ints {m : Int} {d : PyData} (h : (itemsD d).all (cntB m) = true) : itemsD d = (intsD d).map .int ∧ ∀ i ∈ intsD d, 0 ≤ i ∧ i < m := ints_go h
theorem seq_ints {m : Int} {d : PyData} (hs : isSeqD d = true) (h : (itemsD d).all (cntB m) = true) : d = .list ((intsD d).map .int) ∨ d = .tuple ((intsD d).map .int) := by
  have e := (all_ints h).1
  rcases seq_of hs with z | z
  · exact .inl (by rw [← e]; exact z)
  · exact .inr (by rw [← e]; exact z)
section
variable {γ : List (Option PyData)} {K : PySem.W.Frag} {te ta tb : TE} {S : Addr → Prop} {H : Hp}
theorem flat_ints (is : List Int) : (is.map V.int).all flatV = true := by
  rw [List.all_map, List.all_eq_true]
  exact fun i _ => rfl
theorem in_vals (i : Int) (is : List Int) : inV (.int i) (is.map V.int) = decide (i ∈ is) := by
  unfold inV
  rw [List.any_map, Bool.eq_iff_iff, List.any_eq_true, decide_eq_true_eq]
  have e : ∀ j, (eqV (V.int j) (V.int i) = true) ↔ j = i := fun j => by
    show ((j == i) = true) ↔ _
    exact beq_iff_eq
  exact ⟨fun ⟨j, hj, z⟩ => (e j).mp z ▸ hj, fun h => ⟨i, h, (e i).mpr rfl⟩⟩
theorem OpG.inSeq {d : PyData} {i : Int} {is : List Int} (h : d = .list (is.map .int) ∨ d = .tuple (is.map .int)) : OpG (rIn K false) (.int i) d (.bool (decide (i ∈ is))) := fun S H v w l av aw Q q => by
  cases av
  have qq := q H (.bl (decide (i ∈ is))) (Same.refl _) (.bl _)
  rw [← in_vals] at qq
  rcases h with rfl | rfl
  · cases aw with
    | lst n f hs =>
      have := int_vals hs
      subst this
      exact ⟨_, _, rfl, .inl (SqL.of f), rfl, flat_ints is, qq⟩
  · cases aw with
    | tup n f hs =>
      have := int_vals hs
      subst this
      exact ⟨_, _, rfl, .inr (SqT.of f), rfl, flat_ints is, qq⟩
theorem setN {ns : List Nat} (h : EvG te γ (.list (nsD ns))) (hl : ns.length ≤ 4000) : EvG (GS.tLenSetX K te) γ (.int ((dk [] (toI ns)).length : Nat)) := by
  rw [ns_ints] at h
  exact .lenSetX (.inl rfl) h (by rw [List.length_map]; exact hl)
end
/-! ### promises -/
def GunG (C : Addr) (ds : List PyData) (r : PyData) : Prop := ∃ (d : PyData) (m : Nat), ok C d ∧ (itemsD d).length ≤ 1000 ∧ ds = [d, N m] ∧ r = .bool (linesOk m d)
def GicG (C : Addr) (ds : List PyData) (r : PyData) : Prop := ∃ (t w : Nat) (ps : List Pl) (d : PyData), Board t w ps ∧ ok C d ∧ (∀ x ∈ itemsD d, (itemsD x).length ≤ 1000) ∧ ds = [N t, N w, .list (psD ps), d] ∧ r = .bool (coverSeen t w ps (due ps t) d)
def GlcG (C : Addr) (ds : List PyData) (r : PyData) : Prop := ∃ (d : PyData) (m : Int), ok C d ∧ ds = [d, .int m] ∧ r = .bool (cntB m d)
def GlpG (C : Addr) (ds : List PyData) (r : PyData) : Prop := ∃ (d : PyData) (ps : List Pl), ok C d ∧ (∀ p ∈ ps, p.1 < 99 ∧ p.2 < 99) ∧ ds = [d, .list (psD ps)] ∧ r = .bool (inP ps d)
def GrsG (C : Addr) (ds : List PyData) (r : PyData) : Prop := ∃ (t w : Nat) (ps : List Pl) (n : Nat) (d : PyData), Board t w ps ∧ ok C d ∧ (itemsD d).length ≤ 1000 ∧ ds = [.list (psD ps), N n, d] ∧ r = .bool (rooksSeen ps n d)
def GcsG (C : Addr) (ds : List PyData) (r : PyData) : Prop := ∃ (t w : Nat) (ps : List Pl) (n : Nat) (d : PyData), Board t w ps ∧ ok C d ∧ (∀ x ∈ itemsD d, (itemsD x).length ≤ 1000) ∧ ds = [N t, N w, .list (psD ps), N n, d] ∧ r = .bool (coverSeen t w ps n d)
theorem in_pl {t w : Nat} {ps : List Pl} (hb : Board t w ps) {x : PyData} (h : inP ps x = true) : plIn t w x = true := by
  unfold inP at h
  unfold plIn
  cases hp : plOf x with
  | none => rw [hp] at h; cases h
  | some p =>
    rw [hp] at h
    have := hb.inn p (of_decide_eq_true h)
    show (decide (p.1 < t) && decide (p.2 < w)) = true
    rw [decide_eq_true this.1, decide_eq_true this.2]
    rfl
section
variable {P : Program} {w : World} {K : PySem.W.Frag} {mg : Str → Option Value} {base : Heap} {C : Addr}
theorem gok_ir {f : Addr} {fd : FuncData} (F : Fun K "is_rooks" "is_rooks" sIr f fd) (B : Blt mg) (dWb : Dn P w K mg base 6 "_want_board" ["tall", "wide", "places"] (SpG Fwb)) (gList : Dn P w K mg base 1 "is_list" ["value"] (SpG (GlistG C))) (gPl : Dn P w K mg base 4 "is_place" ["value", "tall", "wide"] (SpG (GplG C))) (dRk : Dn P w K mg base 7 "rooks" ["tall", "wide", "places"] (SpG Frk)) : FnOk P w K mg base CX0 8 f fd ["tall", "wide", "places", "value"] (SpG (GirG C)) := by
  refine F.ok scIr (fun vs H Q E h => h.len (n := 4) (by rintro ds r ⟨t, w, ps, d, _, _, _, rfl, _⟩; rfl)) (fun cdv A outer s H vs Q E hr h => ?_)
  have hu65 := u65 hr
  refine ⟨_, pss_cons (ps_expr (pe_call dWb.G (hr.mono (by decide)) (by rfl) dWb.m dWb.k dWb.b .nil pass0 (pa_cons (pv 0) (pa_cons (pv 1) (pa_cons (pv 2) pa_nil)))))
      (pss_cons (ps_if (pw_or (pt_not (pt_val (pe_call gList.G (hr.mono (by decide)) (by rfl) gList.m gList.k gList.b .nil pass0 (pa_cons (pv 3) pa_nil)))) (pw_or1 (pt_not (pt_val (pe_callB (cr_all rfl) (by rfl) B.all PyProof.Rows.boot_all (pa_cons (pe_lc (own := [("place", 5)]) (g := gName 5) (tt := tYes) (te := (tAndV (tCall (SpG (GplG C)) [] E0 (tCons (tVar 5) (tCons (tVar 0) (tCons (tVar 1) tNil)))) (tOp (rInD K) (tVar 5) (tVar 2)))) rfl scIr.nd (PI.or (pi_list (pv 3)) (pi_tup (pv 3))) (blkOk_by (own := [("place", 5)]) (N := nIr) (sc := defScope sIr) (by decide +kernel)) (fun _ _ _ _ _ => (pg_name (i := 5) scIr.nd rfl (Or.inl rfl))) (fun _ _ _ _ _ => pts_nil) (fun _ _ _ _ _ => (pe_and (pe_call gPl.G (hr.mono (by decide)) (by rfl) gPl.m gPl.k gPl.b .nil pass0 (pa_cons (pv 5) (pa_cons (pv 0) (pa_cons (pv 1) pa_nil)))) (pe_one (pe_cmpR (op_inD hu65) (pv 5) (pv 2) (by rfl)))))) pa_nil)))))).pt (pss_one (ps_ret pe_bl)) pss_nil)
      (pss_cons (ps_set (i := 4) scIr.nd rfl (Or.inl rfl) (pe_callB call_len_seq (by rfl) B.len PySem.boot_len (pa_cons (pv 3) pa_nil)))
      (pss_cons (ps_if (pw_or (pt_cmpR op_lt (GS.pe_lenSetX (by rfl) B.len (by rfl) B.set (pe_lc (own := [("row", 6), ("_", 7)]) (g := gTup K 2 (gCons (gName 6) (gCons (gName 7) gNil))) (tt := tYes) (te := (tVar 6)) rfl scIr.nd (PI.or (pi_list (pv 3)) (pi_tup (pv 3))) (blkOk_by (own := [("row", 6), ("_", 7)]) (N := nIr) (sc := defScope sIr) (by decide +kernel)) (fun _ _ _ _ _ => (pg_tup rfl (pgs_cons (pg_name (i := 6) scIr.nd rfl (Or.inl rfl)) (pgs_cons (pg_name (i := 7) scIr.nd rfl (Or.inl rfl)) pgs_nil)))) (fun _ _ _ _ _ => pts_nil) (fun _ _ _ _ _ => (pv 6)))) (pv 4) (nomark _)) (pw_or1 (pt_cmpR op_lt (GS.pe_lenSetX (by rfl) B.len (by rfl) B.set (pe_lc (own := [("_", 7), ("column", 8)]) (g := gTup K 2 (gCons (gName 7) (gCons (gName 8) gNil))) (tt := tYes) (te := (tVar 8)) rfl scIr.nd (PI.or (pi_list (pv 3)) (pi_tup (pv 3))) (blkOk_by (own := [("_", 7), ("column", 8)]) (N := nIr) (sc := defScope sIr) (by decide +kernel)) (fun _ _ _ _ _ => (pg_tup rfl (pgs_cons (pg_name (i := 7) scIr.nd rfl (Or.inl rfl)) (pgs_cons (pg_name (i := 8) scIr.nd rfl (Or.inl rfl)) pgs_nil)))) (fun _ _ _ _ _ => pts_nil) (fun _ _ _ _ _ => (pv 8)))) (pv 4) (nomark _)))).pt (pss_one (ps_ret pe_bl)) pss_nil)
      (pss_one (ps_ret (pe_cmpR op_eq (pv 4) (pe_callB call_len_seq (by rfl) B.len PySem.boot_len (pa_cons (pe_call dRk.G (hr.mono (by decide)) (by rfl) dRk.m dRk.k dRk.b .nil pass0 (pa_cons (pv 0) (pa_cons (pv 1) (pa_cons (pv 2) pa_nil)))) pa_nil)) (nomark _))))))), h.body fun ds r hF => ?_⟩
  obtain ⟨t, w, ps, d, hb, o, hl, rfl, rfl⟩ := hF
  refine .seq (.drop (.call (.cons (.var rfl) (.cons (.var rfl) (.cons (.var rfl) .nil))) ⟨t, w, ps, _, hb, .inl rfl, rfl, rfl⟩)) ?_
  by_cases hs : isSeqD d = true
  · have all : ∀ {g : List (Option PyData)}, g[0]? = some (some (N t)) → g[1]? = some (some (N w)) → g[2]? = some (some (.list (psD ps))) → g[3]? = some (some d) → g.length = 9 → EvG (tCB (rAll K) (tCons (tLc (fun σ H R => iList K (tVar 3) σ H R ∨ iTup K (tVar 3) σ H R) (gName 5) tYes (tAndV (tCall (SpG (GplG C)) [] E0 (tCons (tVar 5) (tCons (tVar 0) (tCons (tVar 1) tNil)))) (tOp (rInD K) (tVar 5) (tVar 2))) [5]) tNil)) g (.bool ((itemsD d).all (inP ps))) := fun {g} h0 h1 h2 h3 hlen => by
      refine .allLc (inP ps) (iter_seq hs (.var h3)) (by omega) fun i x hx => ⟨_, _, .name, fun j h => h, ?_⟩
      have ox := ok_items o x (List.mem_of_getElem? hx)
      have g0 : ((wipeG g [5]).set 5 (some x))[0]? = some (some (N t)) := by
        rw [List.getElem?_set_ne (by decide)]
        show (g.set 5 none)[0]? = _
        rw [List.getElem?_set_ne (by decide), h0]
      have g1 : ((wipeG g [5]).set 5 (some x))[1]? = some (some (N w)) := by
        rw [List.getElem?_set_ne (by decide)]
        show (g.set 5 none)[1]? = _
        rw [List.getElem?_set_ne (by decide), h1]
      have g2 : ((wipeG g [5]).set 5 (some x))[2]? = some (some (.list (psD ps))) := by
        rw [List.getElem?_set_ne (by decide)]
        show (g.set 5 none)[2]? = _
        rw [List.getElem?_set_ne (by decide), h2]
      have g5 : ((wipeG g [5]).set 5 (some x))[5]? = some (some x) := by
        rw [List.getElem?_set]
        simp only [if_true]
        rw [if_pos (by show 5 < (g.set 5 none).length; rw [List.length_set, hlen]; decide)]
      cases hp : plIn t w x with
      | false =>
        refine .eq (.andV (a := false) (b := false) (.call (.cons (.var g5) (.cons (.var g0) (.cons (.var g1) .nil))) ⟨t, w, x, ox, rfl, by rw [hp]⟩) fun z => by cases z) ?_
        cases hi : inP ps x with
        | false => rfl
        | true => rw [in_pl hb hi] at hp; cases hp
      | true =>
        obtain ⟨p, hpp⟩ : ∃ p, plOf x = some p := by
          unfold plIn at hp
          cases h : plOf x with
          | none => rw [h] at hp; cases hp
          | some p => exact ⟨p, rfl⟩
        have ex := pl_some hpp
        subst ex
        refine .eq (.andV (a := true) (.call (.cons (.var g5) (.cons (.var g0) (.cons (.var g1) .nil))) ⟨t, w, _, ox, rfl, by rw [hp]⟩) fun _ => .op (.var g5) (.var g2) (.inD rfl (nds_ps _) (sh_pD _) (sh_ps _))) ?_
        rw [in_ps]
        unfold inP
        rw [hpp]
        rfl
    by_cases ha : (itemsD d).all (inP ps) = true
    · obtain ⟨ei, hin⟩ := all_in ha
      have ips : IsPs d (placesD d) := by
        rcases seq_of hs with z | z
        · exact .inl (by show d = .list (psD ((itemsD d).filterMap plOf)); rw [← ei]; exact z)
        · exact .inr (by show d = .tuple (psD ((itemsD d).filterMap plOf)); rw [← ei]; exact z)
      have hlen : (placesD d).length ≤ 1000 := Nat.le_trans (List.length_filterMap_le _ _) hl
      refine .seq (.ifF (.eq (.or (a := false) (.eq (.not (.val (.call (.cons (.var rfl) .nil) ⟨d, o, rfl, rfl⟩))) (by rw [hs]; rfl)) fun _ => .not (.val (all rfl rfl rfl rfl rfl))) (by rw [ha]; rfl)) .next) ?_
      have eSeen : rooksSeen ps (due ps t) d = (decide ((placesD d).map (·.1)).Nodup && (decide ((placesD d).map (·.2)).Nodup && decide ((placesD d).length = due ps t))) := by
        unfold rooksSeen
        rw [hs, ha]
        rfl
      rw [eSeen]
      generalize placesD d = vs at *
      refine .seq (.set (len_ps ips (.var rfl))) ?_
      have eR : ∀ {g : List (Option PyData)}, g[3]? = some (some d) → g.length = 9 → EvG (GS.tLenSetX K (tLc (fun σ H R => iList K (tVar 3) σ H R ∨ iTup K (tVar 3) σ H R) (gTup K 2 (gCons (gName 6) (gCons (gName 7) gNil))) tYes (tVar 6) [6, 7])) g (.int ((dk [] (toI (vs.map (·.1)))).length : Nat)) := fun {g} h3 hg => by
        refine setN (.eq (.map fstD (iter_ps ips (.var h3)) (by rw [len_psD]; omega) fun i x hx => ?_) (by rw [map_fst])) (by rw [List.length_map]; omega)
        obtain ⟨p, hp, rfl⟩ := get_ps hx
        refine ⟨_, _, .two, fun j h => h, .var ?_⟩
        rw [List.getElem?_set_ne (by decide), List.getElem?_set]
        simp only [if_true]
        rw [if_pos (by show 6 < ((g.set 7 none).set 6 none).length; rw [List.length_set, List.length_set, hg]; decide)]
        rfl
      have eC : ∀ {g : List (Option PyData)}, g[3]? = some (some d) → g.length = 9 → EvG (GS.tLenSetX K (tLc (fun σ H R => iList K (tVar 3) σ H R ∨ iTup K (tVar 3) σ H R) (gTup K 2 (gCons (gName 7) (gCons (gName 8) gNil))) tYes (tVar 8) [7, 8])) g (.int ((dk [] (toI (vs.map (·.2)))).length : Nat)) := fun {g} h3 hg => by
        refine setN (.eq (.map sndD (iter_ps ips (.var h3)) (by rw [len_psD]; omega) fun i x hx => ?_) (by rw [map_snd])) (by rw [List.length_map]; omega)
        obtain ⟨p, hp, rfl⟩ := get_ps hx
        refine ⟨_, _, .two, fun j h => h, .var ?_⟩
        rw [List.getElem?_set]
        simp only [if_true]
        rw [if_pos (by rw [List.length_set]; show 8 < ((g.set 8 none).set 7 none).length; rw [List.length_set, List.length_set, hg]; decide)]
        rfl
      have nR := dk_nat (vs.map (·.1))
      have nC := dk_nat (vs.map (·.2))
      have lR := dk_nat_le (vs.map (·.1))
      have lC := dk_nat_le (vs.map (·.2))
      rw [List.length_map] at nR nC lR lC
      by_cases n1 : (vs.map (·.1)).Nodup
      · by_cases n2 : (vs.map (·.2)).Nodup
        · refine .seq (.ifF (.eq (.or (a := false) (.eq (.tst (.op (eR rfl rfl) (.var rfl) .lt)) (decide_eq_false (by have := nR.mpr n1; omega))) fun _ => .tst (.op (eC rfl rfl) (.var rfl) .lt)) (decide_eq_false (by have := nC.mpr n2; omega))) .next) ?_
          refine .ret (.eq (.op (.var rfl) (.len (.call (.cons (.var rfl) (.cons (.var rfl) (.cons (.var rfl) .nil))) ⟨t, w, ps, _, hb, .inl rfl, rfl, rfl⟩)) .eqI) ?_)
          rw [len_psD, show (mostR ps t 0 []).length = due ps t from rk_len ps t, decide_eq_true n1, decide_eq_true n2]
          exact congrArg _ (decide_eq_decide.mpr ⟨fun h => by omega, fun h => by omega⟩)
        · have hlt : (dk [] (toI (vs.map (·.2)))).length < vs.length := Nat.lt_of_le_of_ne lC fun z => n2 (nC.mp z)
          refine .seq_rt (.ifT (.eq (.or (a := false) (.eq (.tst (.op (eR rfl rfl) (.var rfl) .lt)) (decide_eq_false (by have := nR.mpr n1; omega))) fun _ => .tst (.op (eC rfl rfl) (.var rfl) .lt)) (decide_eq_true (by omega))) (.ret (.eq (.bl false) ?_)))
          rw [decide_eq_true n1, decide_eq_false n2]
          rfl
      · have hlt : (dk [] (toI (vs.map (·.1)))).length < vs.length := Nat.lt_of_le_of_ne lR fun z => n1 (nR.mp z)
        refine .seq_rt (.ifT (.or (a := true) (b := true) (.eq (.tst (.op (eR rfl rfl) (.var rfl) .lt)) (decide_eq_true (by omega))) fun z => by cases z) (.ret (.eq (.bl false) ?_)))
        rw [decide_eq_false n1]
        rfl
    · have ha' : (itemsD d).all (inP ps) = false := Bool.eq_false_iff.mpr ha
      refine .seq_rt (.ifT (.eq (.or (a := false) (.eq (.not (.val (.call (.cons (.var rfl) .nil) ⟨d, o, rfl, rfl⟩))) (by rw [hs]; rfl)) fun _ => .not (.val (all rfl rfl rfl rfl rfl))) (by rw [ha']; rfl)) (.ret (.eq (.bl false) ?_)))
      unfold rooksSeen
      rw [hs, ha']
      rfl
  · have hs' : isSeqD d = false := Bool.eq_false_iff.mpr hs
    refine .seq_rt (.ifT (.or (a := true) (b := true) (.eq (.not (.val (.call (.cons (.var rfl) .nil) ⟨d, o, rfl, rfl⟩))) (by rw [hs']; rfl)) fun z => by cases z) (.ret (.eq (.bl false) ?_)))
    unfold rooksSeen
    rw [hs']
    rfl
end
end K73

set_option Elab.async false
set_option linter.all false
set_option maxRecDepth 100000
set_option maxHeartbeats 4000000
/-! Judges of covers; the law's own judges. -/
namespace K73
open PySem L2 GD RQ
theorem btw_cnt (m : Nat) (x : PyData) : btwD 0 ((m : Int) - 1) x = cntB m x := by
  cases x with
  | int i =>
    show (decide (0 ≤ i) && (decide ((0 : Int) ≤ i) && decide (i ≤ (m : Int) - 1))) = (decide (0 ≤ i) && decide (i < (m : Int)))
    have e : decide (i ≤ (m : Int) - 1) = decide (i < (m : Int)) := decide_eq_decide.mpr ⟨fun h => by omega, fun h => by omega⟩
    rw [e]
    cases decide (0 ≤ i) <;> rfl
  | _ => rfl
theorem slot_at {g : List (Option PyData)} {i : Nat} {x : PyData} (h : i < g.length) : (g.set i (some x))[i]? = some (some x) := by
  rw [List.getElem?_set]
  simp only [if_true]
  rw [if_pos h]
section
variable {P : Program} {w : World} {K : PySem.W.Frag} {mg : Str → Option Value} {base : Heap} {C : Addr}
theorem gok_un {f : Addr} {fd : FuncData} (F : Fun K "is_lot" "is_lot" sUn f fd) (B : Blt mg) (gList : Dn P w K mg base 1 "is_list" ["value"] (SpG (GlistG C))) (gBet : Dn P w K mg base 3 "is_between" ["value", "low", "high"] (SpG (GbetG C))) : FnOk P w K mg base CX0 4 f fd ["value", "many"] (SpG (GunG C)) := by
  refine F.ok scUn (fun vs H Q E h => h.len (n := 2) (by rintro ds r ⟨d, m, _, _, rfl, _⟩; rfl)) (fun cdv A outer s H vs Q E hr h => ?_)
  refine ⟨_, pss_cons (ps_if (pw_or (pt_not (pt_val (pe_call gList.G (hr.mono (by decide)) (by rfl) gList.m gList.k gList.b .nil pass0 (pa_cons (pv 0) pa_nil)))) (pw_or1 (pt_not (pt_val (pe_callB (cr_all rfl) (by rfl) B.all PyProof.Rows.boot_all (pa_cons (pe_lc (own := [("count", 2)]) (g := gName 2) (tt := tYes) (te := (tCall (SpG (GbetG C)) [] E0 (tCons (tVar 2) (tCons (tC (.int 0)) (tCons (tOp (rI0 fun i j => .int (i - j)) (tVar 1) (tC (.int 1))) tNil))))) rfl scUn.nd (PI.or (pi_list (pv 0)) (pi_tup (pv 0))) (blkOk_by (own := [("count", 2)]) (N := nUn) (sc := defScope sUn) (by decide +kernel)) (fun _ _ _ _ _ => (pg_name (i := 2) scUn.nd rfl (Or.inl rfl))) (fun _ _ _ _ _ => pts_nil) (fun _ _ _ _ _ => (pe_call gBet.G (hr.mono (by decide)) (by rfl) gBet.m gBet.k gBet.b .nil pass0 (pa_cons (pv 2) (pa_cons pe_int (pa_cons (pe_op op_sub (pv 1) pe_int) pa_nil)))))) pa_nil)))))).pt (pss_one (ps_ret pe_bl)) pss_nil)
      (pss_one (ps_ret (pe_cmpR op_eq (GS.pe_lenSetX (by rfl) B.len (by rfl) B.set (pv 0)) (pe_callB call_len_seq (by rfl) B.len PySem.boot_len (pa_cons (pv 0) pa_nil)) (nomark _)))), h.body fun ds r hF => ?_⟩
  obtain ⟨d, m, o, hl, rfl, rfl⟩ := hF
  by_cases hs : isSeqD d = true
  · have all : EvG (tCB (rAll K) (tCons (tLc (fun σ H R => iList K (tVar 0) σ H R ∨ iTup K (tVar 0) σ H R) (gName 2) tYes (tCall (SpG (GbetG C)) [] E0 (tCons (tVar 2) (tCons (tC (.int 0)) (tCons (tOp (rI0 fun i j => .int (i - j)) (tVar 1) (tC (.int 1))) tNil)))) [2]) tNil)) [some d, some (N m), none] (.bool ((itemsD d).all (cntB m))) := by
      refine .allLc (cntB m) (iter_seq hs (.var rfl)) (by omega) fun i x hx => ⟨_, _, .name, fun j h => h, ?_⟩
      have ox := ok_items o x (List.mem_of_getElem? hx)
      exact .call (.cons (.var rfl) (.cons (.int 0) (.cons (.op (.var rfl) (.int 1) .sub) .nil))) ⟨x, 0, _, ox, rfl, by rw [btw_cnt]⟩
    by_cases ha : (itemsD d).all (cntB m) = true
    · have hsq := seq_ints hs ha
      refine .seq (.ifF (.eq (.or (a := false) (.eq (.not (.val (.call (.cons (.var rfl) .nil) ⟨d, o, rfl, rfl⟩))) (by rw [hs]; rfl)) fun _ => .not (.val all)) (by rw [ha]; rfl)) .next) ?_
      have hlen : (itemsD d).length = (intsD d).length := by
        have := congrArg List.length (all_ints ha).1
        rwa [List.length_map] at this
      refine .ret (.eq (.op (.lenSetX hsq (.var rfl) (by omega)) (len_seq hs (.var rfl)) .eqI) ?_)
      unfold linesOk
      rw [hs, ha, hlen]
      refine congrArg PyData.bool ?_
      show _ = decide (intsD d).Nodup
      exact decide_eq_decide.mpr ⟨fun h => (dk_iff _).mp (by omega), fun h => by have := (dk_iff _).mpr h; omega⟩
    · have ha' : (itemsD d).all (cntB m) = false := Bool.eq_false_iff.mpr ha
      refine .seq_rt (.ifT (.eq (.or (a := false) (.eq (.not (.val (.call (.cons (.var rfl) .nil) ⟨d, o, rfl, rfl⟩))) (by rw [hs]; rfl)) fun _ => .not (.val all)) (by rw [ha']; rfl)) (.ret (.eq (.bl false) ?_)))
      unfold linesOk
      rw [hs, ha']
      rfl
  · have hs' : isSeqD d = false := Bool.eq_false_iff.mpr hs
    refine .seq_rt (.ifT (.or (a := true) (b := true) (.eq (.not (.val (.call (.cons (.var rfl) .nil) ⟨d, o, rfl, rfl⟩))) (by rw [hs']; rfl)) fun z => by cases z) (.ret (.eq (.bl false) ?_)))
    unfold linesOk
    rw [hs']
    rfl
theorem lines_of {m : Nat} {x : PyData} (h : linesOk m x = true) : isSeqD x = true ∧ (itemsD x).all (cntB m) = true := by
  unfold linesOk at h
  rw [Bool.and_eq_true, Bool.and_eq_true] at h
  exact ⟨h.1, h.2.1⟩
theorem gok_ic {f : Addr} {fd : FuncData} (F : Fun K "is_cover" "is_cover" sIc f fd) (B : Blt mg) (R : RCls K mg C) (dWb : Dn P w K mg base 6 "_want_board" ["tall", "wide", "places"] (SpG Fwb)) (gUn : Dn P w K mg base 4 "is_lot" ["value", "many"] (SpG (GunG C))) (dCs : Dn P w K mg base 1 "_cover_size" ["value"] (SpG (fun ds r => (∃ x y, isSeqD x = true ∧ isSeqD y = true ∧ ds = [.tuple [x, y]] ∧ r = .int (((itemsD x).length : Nat) + ((itemsD y).length : Nat)))))) (dCv : Dn P w K mg base 7 "cover" ["tall", "wide", "places"] (SpG Fcv)) : FnOk P w K mg base CX0 8 f fd ["tall", "wide", "places", "value"] (SpG (GicG C)) := by
  refine F.ok scIc (fun vs H Q E h => h.len (n := 4) (by rintro ds r ⟨t, w, ps, d, _, _, _, rfl, _⟩; rfl)) (fun cdv A outer s H vs Q E hr h => ?_)
  have hu65 := u65 hr
  refine ⟨_, pss_cons (ps_expr (pe_call dWb.G (hr.mono (by decide)) (by rfl) dWb.m dWb.k dWb.b .nil pass0 (pa_cons (pv 0) (pa_cons (pv 1) (pa_cons (pv 2) pa_nil)))))
      (pss_cons (ps_if (pw_or (pt_not (pt_val (pe_callB call_isi (by rfl) B.isi PyProof.Rows.boot_isinstance (pa_cons (pv 3) (pa_cons (pe_bltn (by rfl) B.tuple PyProof.Rows.boot_tuple (v := .ty "tuple") rfl) pa_nil))))) (pw_or1 (pt_cmpR op_ne (pe_callB call_len_seq (by rfl) B.len PySem.boot_len (pa_cons (pv 3) pa_nil)) pe_int (nomark _)))).pt (pss_one (ps_ret pe_bl)) pss_nil)
      (pss_cons (ps_asg (pv 3) (pg_tup rfl (pgs_cons (pg_name (i := 4) scIc.nd rfl (Or.inr rfl)) (pgs_cons (pg_name (i := 5) scIc.nd rfl (Or.inr rfl)) pgs_nil))))
      (pss_cons (ps_if (pw_or (pt_not (pt_val (pe_call gUn.G (hr.mono (by decide)) (by rfl) gUn.m gUn.k gUn.b .nil pass0 (pa_cons (pv 4) (pa_cons (pv 0) pa_nil))))) (pw_or1 (pt_not (pt_val (pe_call gUn.G (hr.mono (by decide)) (by rfl) gUn.m gUn.k gUn.b .nil pass0 (pa_cons (pv 5) (pa_cons (pv 1) pa_nil))))))).pt (pss_one (ps_ret pe_bl)) pss_nil)
      (pss_cons (ps_if (pt_not (pt_val (pe_callB (cr_all rfl) (by rfl) B.all PyProof.Rows.boot_all (pa_cons (pe_lc (own := [("row", 6), ("column", 7)]) (g := gTup K 2 (gCons (gName 6) (gCons (gName 7) gNil))) (tt := tYes) (te := (tOrV (tOp (rIn K false) (tVar 6) (tVar 4)) (tOp (rIn K false) (tVar 7) (tVar 5)))) rfl scIc.nd (pi_list (pv 2)) (blkOk_by (own := [("row", 6), ("column", 7)]) (N := nIc) (sc := defScope sIc) (by decide +kernel)) (fun _ _ _ _ _ => (pg_tup rfl (pgs_cons (pg_name (i := 6) scIc.nd rfl (Or.inl rfl)) (pgs_cons (pg_name (i := 7) scIc.nd rfl (Or.inl rfl)) pgs_nil)))) (fun _ _ _ _ _ => pts_nil) (fun _ _ _ _ _ => (pe_or (pe_cmpR op_in_seq (pv 6) (pv 4) (by rfl)) (pe_one (pe_cmpR op_in_seq (pv 7) (pv 5) (by rfl)))))) pa_nil)))) (pss_one (ps_ret pe_bl)) pss_nil)
      (pss_one (ps_ret (pe_cmpR op_eq (pe_call dCs.G (hr.mono (by decide)) (by rfl) dCs.m dCs.k dCs.b .nil pass0 (pa_cons (pv 3) pa_nil)) (pe_call dCs.G (hr.mono (by decide)) (by rfl) dCs.m dCs.k dCs.b .nil pass0 (pa_cons (pe_call dCv.G (hr.mono (by decide)) (by rfl) dCv.m dCv.k dCv.b .nil pass0 (pa_cons (pv 0) (pa_cons (pv 1) (pa_cons (pv 2) pa_nil)))) pa_nil)) (nomark _)))))))), h.body fun ds r hF => ?_⟩
  obtain ⟨t, w, ps, d, hb, o, hl, rfl, rfl⟩ := hF
  have n16 := hb.n16
  refine .seq (.drop (.call (.cons (.var rfl) (.cons (.var rfl) (.cons (.var rfl) .nil))) ⟨t, w, ps, _, hb, .inl rfl, rfl, rfl⟩)) ?_
  by_cases ht : ∃ xs, d = .tuple xs
  · obtain ⟨xs, rfl⟩ := ht
    by_cases h2 : xs.length = 2
    · obtain ⟨x, y, rfl⟩ : ∃ x y, xs = [x, y] := by
        match xs, h2 with
        | [x, y], _ => exact ⟨x, y, rfl⟩
      have ox : ok C x := o.1
      have oy : ok C y := o.2.1
      have lx := hl x (.head _)
      have ly := hl y (.tail _ (.head _))
      refine .seq (.ifF (.eq (.or (a := false) (.eq (.not (.val (isiX R o (fun c k => k.t) (.var rfl)))) rfl) fun _ => .tst (.op (.lenT (.var rfl)) (.int 2) .neI)) rfl) .next) ?_
      refine .seq (.asg (.var rfl) .two) ?_
      show StG _ _ (.rt (.bool (linesOk t x && (linesOk w y && (covOk ps x y && decide ((itemsD x).length + (itemsD y).length = due ps t))))))
      cases h1 : linesOk t x with
      | false => exact .seq_rt (.ifT (.or (a := true) (b := true) (.eq (.not (.val (.call (.cons (.var rfl) (.cons (.var rfl) .nil)) ⟨x, t, ox, lx, rfl, rfl⟩))) (by rw [h1]; rfl)) fun z => by cases z) (.ret (.bl false)))
      | true =>
        cases h3 : linesOk w y with
        | false => exact .seq_rt (.ifT (.eq (.or (a := false) (.eq (.not (.val (.call (.cons (.var rfl) (.cons (.var rfl) .nil)) ⟨x, t, ox, lx, rfl, rfl⟩))) (by rw [h1]; rfl)) fun _ => .not (.val (.call (.cons (.var rfl) (.cons (.var rfl) .nil)) ⟨y, w, oy, ly, rfl, rfl⟩))) (by rw [h3]; rfl)) (.ret (.bl false)))
        | true =>
          obtain ⟨sx, ax⟩ := lines_of h1
          obtain ⟨sy, ay⟩ := lines_of h3
          have qx := seq_ints sx ax
          have qy := seq_ints sy ay
          refine .seq (.ifF (.eq (.or (a := false) (.eq (.not (.val (.call (.cons (.var rfl) (.cons (.var rfl) .nil)) ⟨x, t, ox, lx, rfl, rfl⟩))) (by rw [h1]; rfl)) fun _ => .not (.val (.call (.cons (.var rfl) (.cons (.var rfl) .nil)) ⟨y, w, oy, ly, rfl, rfl⟩))) (by rw [h3]; rfl)) .next) ?_
          have all : EvG (tCB (rAll K) (tCons (tLc (iList K (tVar 2)) (gTup K 2 (gCons (gName 6) (gCons (gName 7) gNil))) tYes (tOrV (tOp (rIn K false) (tVar 6) (tVar 4)) (tOp (rIn K false) (tVar 7) (tVar 5))) [6, 7]) tNil)) [some (N t), some (N w), some (.list (psD ps)), some (.tuple [x, y]), some x, some y, none, none] (.bool (covOk ps x y)) := by
            refine .eq (.allLc (fun d => match d with | .tuple [.int a, .int b] => decide (a ∈ intsD x) || decide (b ∈ intsD y) | _ => false) (.list (.var rfl)) (by rw [len_psD]; omega) fun i d hd => ?_) ?_
            · obtain ⟨p, hp', rfl⟩ := get_ps hd
              exact ⟨_, _, .two, fun j h => h, .orV (.op (.var rfl) (.var rfl) (OpG.inSeq qx)) fun _ => .op (.var rfl) (.var rfl) (OpG.inSeq qy)⟩
            · refine congrArg PyData.bool ?_
              show (ps.map pD).all _ = _
              rw [List.all_map]
              rfl
          cases hc : covOk ps x y with
          | false => exact .seq_rt (.ifT (.eq (.not (.val all)) (by rw [hc]; rfl)) (.ret (.bl false)))
          | true =>
            refine .seq (.ifF (.eq (.not (.val all)) (by rw [hc]; rfl)) .next) ?_
            have hz := cover_size hb.loose
            refine .ret (.eq (.op (.call (.cons (.var rfl) .nil) ⟨x, y, sx, sy, rfl, rfl⟩) (.call (.cons (.call (.cons (.var rfl) (.cons (.var rfl) (.cons (.var rfl) .nil))) ⟨t, w, ps, _, hb, .inl rfl, rfl, rfl⟩) .nil) ⟨.list (nsD (coverRows ps t)), .list (nsD (colsOf ps (coverRows ps t))), rfl, rfl, rfl, rfl⟩) .eqI) ?_)
            unfold sizeOf' at hz
            show PyData.bool (decide ((((itemsD x).length : Nat) : Int) + ((itemsD y).length : Nat) = (((nsD (coverRows ps t)).length : Nat) : Int) + ((nsD (colsOf ps (coverRows ps t))).length : Nat))) = _
            rw [len_nsD, len_nsD]
            exact congrArg _ (decide_eq_decide.mpr ⟨fun h => by omega, fun h => by omega⟩)
    · have e : coverSeen t w ps (due ps t) (.tuple xs) = false := by
        unfold coverSeen
        split
        · rename_i hh
          cases hh
          exact absurd rfl h2
        · rfl
      refine .seq_rt (.ifT (.eq (.or (a := false) (.eq (.not (.val (isiX R o (fun c k => k.t) (.var rfl)))) rfl) fun _ => .tst (.op (.lenT (.var rfl)) (.int 2) .neI)) ?_) (.ret (.eq (.bl false) (by rw [e]))))
      rw [decide_eq_false (by omega : ¬ ((xs.length : Nat) : Int) = 2)]
      rfl
  · have hf : isiB "tuple" d = false := by
      cases d <;> first | rfl | exact absurd ⟨_, rfl⟩ ht
    have e : coverSeen t w ps (due ps t) d = false := by
      cases d <;> first | rfl | exact absurd ⟨_, rfl⟩ ht
    exact .seq_rt (.ifT (.or (a := true) (b := true) (.eq (.not (.val (isiX R o (fun c k => k.t) (.var rfl)))) (by rw [hf]; rfl)) fun z => by cases z) (.ret (.eq (.bl false) (by rw [e]))))
theorem gok_cs {f : Addr} {fd : FuncData} (F : Fun K "_cover_size" "_cover_size" sCs f fd) (B : Blt mg) : FnOk P w K mg base CX0 1 f fd ["value"] (SpG (fun ds r => (∃ x y, isSeqD x = true ∧ isSeqD y = true ∧ ds = [.tuple [x, y]] ∧ r = .int (((itemsD x).length : Nat) + ((itemsD y).length : Nat))))) := by
  refine F.ok scCs (fun vs H Q E h => h.len (n := 1) (by rintro ds r ⟨xs, ys, _, _, rfl, _⟩; rfl)) (fun cdv A outer s H vs Q E hr h => ?_)
  refine ⟨_, pss_one (ps_ret (pe_op op_add (pe_callB call_len_seq (by rfl) B.len PySem.boot_len (pa_cons (pe_ix ix_tup (pv 0) pe_int (fun _ _ => rfl)) pa_nil)) (pe_callB call_len_seq (by rfl) B.len PySem.boot_len (pa_cons (pe_ix ix_tup (pv 0) pe_int (fun _ _ => rfl)) pa_nil)))), h.body fun ds r hF => ?_⟩
  obtain ⟨x, y, sx, sy, rfl, rfl⟩ := hF
  exact .ret (.op (len_seq sx (.op (.var rfl) (.int 0) (.ixT (j := 0) rfl))) (len_seq sy (.op (.var rfl) (.int 1) (.ixT (j := 1) rfl))) .add)
/-! ### the law's judges -/
abbrev nLc : List Str := ["_law_value", "_law_most_here"]
theorem scLc : FnScope nLc ["_law_value", "_law_most_here"] (defScope sLc) := ⟨rfl, rfl, rfl, by decide +kernel, rfl, by decide +kernel, by decide +kernel⟩
theorem ok_lc {f : Addr} {fd : FuncData} (F : Fun K "_law_is_count" "_law_is_count" sLc f fd) (B : Blt mg) (R : RCls K mg C) : FnOk P w K mg base CX0 1 f fd ["_law_value", "_law_most_here"] (SpG (GlcG C)) := by
  refine F.ok scLc (fun vs H Q E h => h.len (n := 2) (by rintro ds r ⟨d, m, _, rfl, _⟩; rfl)) (fun cdv A outer s H vs Q E hr h => ?_)
  refine ⟨_, pss_one (ps_ret (pe_and (pe_callB call_isi (by rfl) B.isi PyProof.Rows.boot_isinstance (pa_cons (pv 0) (pa_cons (pe_bltn (by rfl) B.int PyProof.Rows.boot_int (v := .ty "int") rfl) pa_nil))) (pe_and (pe_not (pe_callB call_isi (by rfl) B.isi PyProof.Rows.boot_isinstance (pa_cons (pv 0) (pa_cons (pe_bltn (by rfl) B.bool PyProof.Rows.boot_bool (v := .ty "bool") rfl) pa_nil)))) (pe_one (pe_chain op_le op_lt pe_int (pv 0) (pv 1)))))), h.body fun ds r hF => ?_⟩
  obtain ⟨d, m, o, rfl, rfl⟩ := hF
  by_cases hi : ∃ i, d = .int i
  · obtain ⟨i, rfl⟩ := hi
    exact .ret (.eq (.andV (isiX R o (fun c k => k.i) (.var rfl)) fun _ => .andV (.notV (isiX R o (fun c k => k.b) (.var rfl))) fun _ => .chain (.int 0) (.var rfl) (.var rfl) .le .lt) rfl)
  · by_cases hb : ∃ b, d = .bool b
    · obtain ⟨b, rfl⟩ := hb
      exact .ret (.eq (.andV (isiX R o (fun c k => k.i) (.var rfl)) fun _ => .andV (a := false) (b := false) (.eq (.notV (isiX R o (fun c k => k.b) (.var rfl))) rfl) fun z => by cases z) rfl)
    · have hf : isiB "int" d = false := by
        cases d <;> first | rfl | exact absurd ⟨_, rfl⟩ hi | exact absurd ⟨_, rfl⟩ hb
      have hc : cntB m d = false := by
        cases d <;> first | rfl | exact absurd ⟨_, rfl⟩ hi
      exact .ret (.eq (.andV (a := false) (b := false) (.eq (isiX R o (fun c k => k.i) (.var rfl)) (by rw [hf])) fun z => by cases z) (by rw [hc]; rfl))
abbrev nLp : List Str := ["_law_value", "_law_places", "_law_number"]
theorem scLp : FnScope nLp ["_law_value", "_law_places"] (defScope sLp) := ⟨rfl, rfl, rfl, by decide +kernel, rfl, by decide +kernel, by decide +kernel⟩
theorem ok_lp {f : Addr} {fd : FuncData} (F : Fun K "_law_is_place" "_law_is_place" sLp f fd) (B : Blt mg) (R : RCls K mg C) (gLc : Dn P w K mg base 1 "_law_is_count" ["_law_value", "_law_most_here"] (SpG (GlcG C))) : FnOk P w K mg base CX0 2 f fd ["_law_value", "_law_places"] (SpG (GlpG C)) := by
  refine F.ok scLp (fun vs H Q E h => h.len (n := 2) (by rintro ds r ⟨d, ps, _, _, rfl, _⟩; rfl)) (fun cdv A outer s H vs Q E hr h => ?_)
  have hu65 := u65 hr
  refine ⟨_, pss_cons (ps_if (pw_or (pt_not (pt_val (pe_callB call_isi (by rfl) B.isi PyProof.Rows.boot_isinstance (pa_cons (pv 0) (pa_cons (pe_bltn (by rfl) B.tuple PyProof.Rows.boot_tuple (v := .ty "tuple") rfl) pa_nil))))) (pw_or1 (pt_cmpR op_ne (pe_callB call_len_seq (by rfl) B.len PySem.boot_len (pa_cons (pv 0) pa_nil)) pe_int (nomark _)))).pt (pss_one (ps_ret pe_bl)) pss_nil)
      (pss_one (ps_ret (pe_and (pe_callB (cr_all rfl) (by rfl) B.all PyProof.Rows.boot_all (pa_cons (pe_lc (own := [("_law_number", 2)]) (g := gName 2) (tt := tYes) (te := (tCall (SpG (GlcG C)) [] E0 (tCons (tVar 2) (tCons (tC (.int 99)) tNil)))) rfl scLp.nd (pi_tup (pv 0)) (blkOk_by (own := [("_law_number", 2)]) (N := nLp) (sc := defScope sLp) (by decide +kernel)) (fun _ _ _ _ _ => (pg_name (i := 2) scLp.nd rfl (Or.inl rfl))) (fun _ _ _ _ _ => pts_nil) (fun _ _ _ _ _ => (pe_call gLc.G (hr.mono (by decide)) (by rfl) gLc.m gLc.k gLc.b .nil pass0 (pa_cons (pv 2) (pa_cons pe_int pa_nil))))) pa_nil)) (pe_one (pe_cmpR (op_inD hu65) (pv 0) (pv 1) (by rfl)))))), h.body fun ds r hF => ?_⟩
  obtain ⟨d, ps, o, h99, rfl, rfl⟩ := hF
  by_cases ht : ∃ xs, d = .tuple xs
  · obtain ⟨xs, rfl⟩ := ht
    by_cases h2 : xs.length = 2
    · obtain ⟨x, y, rfl⟩ : ∃ x y, xs = [x, y] := by
        match xs, h2 with
        | [x, y], _ => exact ⟨x, y, rfl⟩
      refine .seq (.ifF (.eq (.or (a := false) (.eq (.not (.val (isiX R o (fun c k => k.t) (.var rfl)))) rfl) fun _ => .tst (.op (.lenT (.var rfl)) (.int 2) .neI)) rfl) .next) ?_
      have all : EvG (tCB (rAll K) (tCons (tLc (iTup K (tVar 0)) (gName 2) tYes (tCall (SpG (GlcG C)) [] E0 (tCons (tVar 2) (tCons (tC (.int 99)) tNil))) [2]) tNil)) [some (.tuple [x, y]), some (.list (psD ps)), none] (.bool ([x, y].all (cntB 99))) := by
        refine .allLc (cntB 99) (.tuple (.var rfl)) (by show 2 < 1000000; decide) fun i z hz => ⟨_, _, .name, fun j h => h, ?_⟩
        have oz := oks_mem o z (List.mem_of_getElem? hz)
        exact .call (.cons (.var rfl) (.cons (.int 99) .nil)) ⟨z, 99, oz, rfl, rfl⟩
      cases ha : [x, y].all (cntB 99) with
      | false =>
        refine .ret (.eq (.andV (a := false) (b := false) (.eq all (by rw [ha])) fun z => by cases z) ?_)
        have : inP ps (.tuple [x, y]) = false := by
          cases hp : plOf (.tuple [x, y]) with
          | none => unfold inP; rw [hp]
          | some p =>
            have e := pl_some hp
            unfold inP
            rw [hp]
            refine decide_eq_false fun hm => ?_
            have h9 := h99 p hm
            cases e
            have : ([N p.1, N p.2].all (cntB 99)) = true := by
              show ((decide ((0 : Int) ≤ (p.1 : Int)) && decide ((p.1 : Int) < 99)) && ((decide ((0 : Int) ≤ (p.2 : Int)) && decide ((p.2 : Int) < 99)) && true)) = true
              rw [decide_eq_true (by omega), decide_eq_true (by omega), decide_eq_true (by omega), decide_eq_true (by omega)]
              rfl
            rw [this] at ha
            cases ha
        rw [this]
        rfl
      | true =>
        have ha2 := ha
        rw [List.all_cons, List.all_cons, Bool.and_eq_true, Bool.and_eq_true] at ha2
        obtain ⟨a, rfl, a0, _⟩ := cnt_int ha2.1
        obtain ⟨b, rfl, b0, _⟩ := cnt_int ha2.2.1
        obtain ⟨p, hp⟩ : ∃ p, plOf (.tuple [.int a, .int b]) = some p := ⟨_, if_pos ⟨a0, b0⟩⟩
        have ep := pl_some hp
        have hin : inP ps (.tuple [.int a, .int b]) = decide (p ∈ ps) := by
          unfold inP
          rw [hp]
        rw [hin]
        refine .ret (.eq (.andV (a := true) (.eq all (by rw [ha])) fun _ => .op (.var rfl) (.var rfl) (.inD rfl (nds_ps _) (by rw [ep]; exact sh_pD p) (sh_ps _))) ?_)
        rw [ep, in_ps]
        rfl
    · have e : inP ps (.tuple xs) = false := by
        have : plOf (.tuple xs) = none := by
          unfold plOf
          split
          · rename_i hh
            cases hh
            exact absurd rfl h2
          · rfl
        unfold inP
        rw [this]
      refine .seq_rt (.ifT (.eq (.or (a := false) (.eq (.not (.val (isiX R o (fun c k => k.t) (.var rfl)))) rfl) fun _ => .tst (.op (.lenT (.var rfl)) (.int 2) .neI)) ?_) (.ret (.eq (.bl false) (by rw [e]))))
      rw [decide_eq_false (by omega : ¬ ((xs.length : Nat) : Int) = 2)]
      rfl
  · have hf : isiB "tuple" d = false := by
      cases d <;> first | rfl | exact absurd ⟨_, rfl⟩ ht
    have e : inP ps d = false := by
      cases d <;> first | rfl | exact absurd ⟨_, rfl⟩ ht
    exact .seq_rt (.ifT (.or (a := true) (b := true) (.eq (.not (.val (isiX R o (fun c k => k.t) (.var rfl)))) (by rw [hf]; rfl)) fun z => by cases z) (.ret (.eq (.bl false) (by rw [e]))))
end
end K73

set_option Elab.async false
set_option linter.all false
set_option maxRecDepth 100000
set_option maxHeartbeats 4000000
/-! The law's judges of rooks and covers. -/
namespace K73
open PySem L2 GD RQ
section
variable {P : Program} {w : World} {K : PySem.W.Frag} {mg : Str → Option Value} {base : Heap} {C : Addr}
abbrev nRs : List Str := ["_law_places", "_law_due", "_law_value", "_law_rows", "_law_columns", "_law_one"]
theorem scRs : FnScope nRs ["_law_places", "_law_due", "_law_value"] (defScope sRs) := ⟨rfl, rfl, rfl, by decide +kernel, rfl, by decide +kernel, by decide +kernel⟩
theorem ok_rs {f : Addr} {fd : FuncData} (F : Fun K "_law_rooks_seen" "_law_rooks_seen" sRs f fd) (B : Blt mg) (R : RCls K mg C) (gLp : Dn P w K mg base 2 "_law_is_place" ["_law_value", "_law_places"] (SpG (GlpG C))) : FnOk P w K mg base CX0 3 f fd ["_law_places", "_law_due", "_law_value"] (SpG (GrsG C)) := by
  refine F.ok scRs (fun vs H Q E h => h.len (n := 3) (by rintro ds r ⟨t, w, ps, n, d, _, _, _, rfl, _⟩; rfl)) (fun cdv A outer s H vs Q E hr h => ?_)
  refine ⟨_, pss_cons (ps_if (pw_or (pt_not (pt_val (pe_callB call_isiT (by rfl) B.isi PyProof.Rows.boot_isinstance (pa_cons (pv 2) (pa_cons (pe_tup (pa_cons (pe_bltn (by rfl) B.list PyProof.Rows.boot_list (v := .ty "list") rfl) (pa_cons (pe_bltn (by rfl) B.tuple PyProof.Rows.boot_tuple (v := .ty "tuple") rfl) pa_nil))) pa_nil))))) (pw_or (pt_cmpR op_ne (pe_callB call_len_seq (by rfl) B.len PySem.boot_len (pa_cons (pv 2) pa_nil)) (pv 1) (nomark _)) (pw_or1 (pt_not (pt_val (pe_callB (cr_all rfl) (by rfl) B.all PyProof.Rows.boot_all (pa_cons (pe_lc (own := [("_law_one", 5)]) (g := gName 5) (tt := tYes) (te := (tCall (SpG (GlpG C)) [] E0 (tCons (tVar 5) (tCons (tVar 0) tNil)))) rfl scRs.nd (PI.or (pi_list (pv 2)) (pi_tup (pv 2))) (blkOk_by (own := [("_law_one", 5)]) (N := nRs) (sc := defScope sRs) (by decide +kernel)) (fun _ _ _ _ _ => (pg_name (i := 5) scRs.nd rfl (Or.inl rfl))) (fun _ _ _ _ _ => pts_nil) (fun _ _ _ _ _ => (pe_call gLp.G (hr.mono (by decide)) (by rfl) gLp.m gLp.k gLp.b .nil pass0 (pa_cons (pv 5) (pa_cons (pv 0) pa_nil))))) pa_nil))))))).pt (pss_one (ps_ret pe_bl)) pss_nil)
      (pss_cons (ps_par (i := 3) (j := 4) rfl scRs.nd rfl rfl (by decide) rfl rfl (pa_cons (pe_callTy (call_dictP rfl) (by rfl) B.dict PyProof.Rows.boot_dict (pa_cons (pe_lc (own := [("_law_one", 5)]) (g := gName 5) (tt := tYes) (te := (tTup (tCons (tOp (rIxT K) (tVar 5) (tC (.int 0))) (tCons (tC (.bl true)) tNil)))) rfl scRs.nd (PI.or (pi_list (pv 2)) (pi_tup (pv 2))) (blkOk_by (own := [("_law_one", 5)]) (N := nRs) (sc := defScope sRs) (by decide +kernel)) (fun _ _ _ _ _ => (pg_name (i := 5) scRs.nd rfl (Or.inl rfl))) (fun _ _ _ _ _ => pts_nil) (fun _ _ _ _ _ => (pe_tup (pa_cons (pe_ix ix_tup (pv 5) pe_int (fun _ _ => rfl)) (pa_cons pe_bl pa_nil))))) pa_nil)) (pa_cons (pe_callTy (call_dictP rfl) (by rfl) B.dict PyProof.Rows.boot_dict (pa_cons (pe_lc (own := [("_law_one", 5)]) (g := gName 5) (tt := tYes) (te := (tTup (tCons (tOp (rIxT K) (tVar 5) (tC (.int 1))) (tCons (tC (.bl true)) tNil)))) rfl scRs.nd (PI.or (pi_list (pv 2)) (pi_tup (pv 2))) (blkOk_by (own := [("_law_one", 5)]) (N := nRs) (sc := defScope sRs) (by decide +kernel)) (fun _ _ _ _ _ => (pg_name (i := 5) scRs.nd rfl (Or.inl rfl))) (fun _ _ _ _ _ => pts_nil) (fun _ _ _ _ _ => (pe_tup (pa_cons (pe_ix ix_tup (pv 5) pe_int (fun _ _ => rfl)) (pa_cons pe_bl pa_nil))))) pa_nil)) pa_nil)) (by rfl))
      (pss_one (ps_ret (pe_and (pe_cmpR op_eq (pe_callB call_lenD (by rfl) B.len PySem.boot_len (pa_cons (pv 3) pa_nil)) (pv 1) (nomark _)) (pe_one (pe_cmpR op_eq (pe_callB call_lenD (by rfl) B.len PySem.boot_len (pa_cons (pv 4) pa_nil)) (pv 1) (nomark _))))))), h.body fun ds r hF => ?_⟩
  obtain ⟨t, w, ps, n, d, hb, o, hl, rfl, rfl⟩ := hF
  have h99 : ∀ p ∈ ps, p.1 < 99 ∧ p.2 < 99 := fun p hp => by
    have := hb.inn p hp
    have := hb.t4
    have := hb.w4
    omega
  by_cases hs : isSeqD d = true
  · have all : EvG (tCB (rAll K) (tCons (tLc (fun σ H R => iList K (tVar 2) σ H R ∨ iTup K (tVar 2) σ H R) (gName 5) tYes (tCall (SpG (GlpG C)) [] E0 (tCons (tVar 5) (tCons (tVar 0) tNil))) [5]) tNil)) [some (.list (psD ps)), some (N n), some d, none, none, none] (.bool ((itemsD d).all (inP ps))) := by
      refine .allLc (inP ps) (iter_seq hs (.var rfl)) (by omega) fun i x hx => ⟨_, _, .name, fun j h => h, ?_⟩
      exact .call (.cons (.var rfl) (.cons (.var rfl) .nil)) ⟨x, ps, ok_items o x (List.mem_of_getElem? hx), h99, rfl, rfl⟩
    by_cases hn : (itemsD d).length = n
    · by_cases ha : (itemsD d).all (inP ps) = true
      · obtain ⟨ei, hin⟩ := all_in ha
        have ips : IsPs d (placesD d) := by
          rcases seq_of hs with z | z
          · exact .inl (by show d = .list (psD ((itemsD d).filterMap plOf)); rw [← ei]; exact z)
          · exact .inr (by show d = .tuple (psD ((itemsD d).filterMap plOf)); rw [← ei]; exact z)
        have hpl : (placesD d).length = n := by
          have := congrArg List.length ei
          rw [len_psD] at this
          show ((itemsD d).filterMap plOf).length = n
          omega
        have eSeen : rooksSeen ps n d = (decide ((placesD d).map (·.1)).Nodup && decide ((placesD d).map (·.2)).Nodup) := by
          unfold rooksSeen
          rw [hs, ha, decide_eq_true hpl, Bool.and_true]
          rfl
        refine .seq (.ifF (.eq (.or (a := false) (.eq (.not (.val (isiTX R o (.var rfl)))) (by rw [hs]; rfl)) fun _ => .or (a := false) (.eq (.tst (.op (len_seq hs (.var rfl)) (.var rfl) .neI)) (by rw [decide_eq_true (by omega)]; rfl)) fun _ => .not (.val all)) (by rw [ha]; rfl)) .next) ?_
        rw [eSeen]
        clear eSeen all ei hin ha hn
        have hl2 : (placesD d).length ≤ 1000 := Nat.le_trans (List.length_filterMap_le _ _) hl
        generalize placesD d = vs at *
        have e1 : (psD vs).map (fun d => PyData.tuple [fstD d, .bool true]) = (toI (vs.map (·.1))).map fun k => .tuple [.int k, .bool true] := by
          refine Eq.trans ?_ (map_ent (fun p : Pl => p.1) _)
          show (vs.map pD).map _ = _
          rw [List.map_map]
          rfl
        have e2 : (psD vs).map (fun d => PyData.tuple [sndD d, .bool true]) = (toI (vs.map (·.2))).map fun k => .tuple [.int k, .bool true] := by
          refine Eq.trans ?_ (map_ent (fun p : Pl => p.2) _)
          show (vs.map pD).map _ = _
          rw [List.map_map]
          rfl
        refine .seq (.par (.cons (.dictOf (.eq (.map (fun d => .tuple [fstD d, .bool true]) (iter_ps ips (.var rfl)) (by rw [len_psD]; omega) fun i x hx => ?_) (by rw [e1]))) (.cons (.dictOf (.eq (.map (fun d => .tuple [sndD d, .bool true]) (iter_ps ips (.var rfl)) (by rw [len_psD]; omega) fun i x hx => ?_) (by rw [e2]))) .nil))) ?_
        · obtain ⟨p, hp, rfl⟩ := get_ps hx
          exact ⟨_, _, .name, fun j h => h, .tup (.cons (.op (.var rfl) (.int 0) (.ixT (j := 0) rfl)) (.cons (.bl true) .nil)) (by show 2 ≤ sizeLine; decide)⟩
        · obtain ⟨p, hp, rfl⟩ := get_ps hx
          exact ⟨_, _, .name, fun j h => h, .tup (.cons (.op (.var rfl) (.int 1) (.ixT (j := 1) rfl)) (.cons (.bl true) .nil)) (by show 2 ≤ sizeLine; decide)⟩
        refine .ret (.eq (.andV (.op (.lenD (.var rfl)) (.var rfl) .eqI) fun _ => .op (.lenD (.var rfl)) (.var rfl) .eqI) ?_)
        have nR := dk_nat (vs.map (·.1))
        have nC := dk_nat (vs.map (·.2))
        rw [List.length_map] at nR nC
        congr 2
        · exact decide_eq_decide.mpr ⟨fun h => nR.mp (by omega), fun h => by have := nR.mpr h; omega⟩
        · exact decide_eq_decide.mpr ⟨fun h => nC.mp (by omega), fun h => by have := nC.mpr h; omega⟩
      · have ha' : (itemsD d).all (inP ps) = false := Bool.eq_false_iff.mpr ha
        refine .seq_rt (.ifT (.eq (.or (a := false) (.eq (.not (.val (isiTX R o (.var rfl)))) (by rw [hs]; rfl)) fun _ => .or (a := false) (.eq (.tst (.op (len_seq hs (.var rfl)) (.var rfl) .neI)) (by rw [decide_eq_true (by omega)]; rfl)) fun _ => .not (.val all)) (by rw [ha']; rfl)) (.ret (.eq (.bl false) ?_)))
        unfold rooksSeen
        rw [hs, ha']
        rfl
    · refine .seq_rt (.ifT (.eq (.or (a := false) (.eq (.not (.val (isiTX R o (.var rfl)))) (by rw [hs]; rfl)) fun _ => .or (a := true) (b := true) (.eq (.tst (.op (len_seq hs (.var rfl)) (.var rfl) .neI)) (by rw [decide_eq_false (by omega)]; rfl)) fun z => by cases z) rfl) (.ret (.eq (.bl false) ?_)))
      unfold rooksSeen
      cases ha : (itemsD d).all (inP ps) with
      | false => rw [Bool.false_and, Bool.and_false]
      | true =>
        have ei := (all_in ha).1
        have hpl : ¬ (placesD d).length = n := fun z => hn (by
          have := congrArg List.length ei
          rw [len_psD] at this
          have z' : ((itemsD d).filterMap plOf).length = n := z
          omega)
        rw [decide_eq_false hpl, Bool.and_false, Bool.and_false, Bool.and_false, Bool.and_false]
  · have hs' : isSeqD d = false := Bool.eq_false_iff.mpr hs
    refine .seq_rt (.ifT (.or (a := true) (b := true) (.eq (.not (.val (isiTX R o (.var rfl)))) (by rw [hs']; rfl)) fun z => by cases z) (.ret (.eq (.bl false) ?_)))
    unfold rooksSeen
    rw [hs']
    rfl
abbrev nLs : List Str := ["_law_value", "_law_most_here", "_law_number"]
theorem scLs : FnScope nLs ["_law_value", "_law_most_here"] (defScope sLs) := ⟨rfl, rfl, rfl, by decide +kernel, rfl, by decide +kernel, by decide +kernel⟩
theorem ok_ls {f : Addr} {fd : FuncData} (F : Fun K "_law_lines_seen" "_law_lines_seen" sLs f fd) (B : Blt mg) (R : RCls K mg C) (gLc : Dn P w K mg base 1 "_law_is_count" ["_law_value", "_law_most_here"] (SpG (GlcG C))) : FnOk P w K mg base CX0 2 f fd ["_law_value", "_law_most_here"] (SpG (GunG C)) := by
  refine F.ok scLs (fun vs H Q E h => h.len (n := 2) (by rintro ds r ⟨d, m, _, _, rfl, _⟩; rfl)) (fun cdv A outer s H vs Q E hr h => ?_)
  refine ⟨_, pss_cons (ps_if (pw_or (pt_not (pt_val (pe_callB call_isiT (by rfl) B.isi PyProof.Rows.boot_isinstance (pa_cons (pv 0) (pa_cons (pe_tup (pa_cons (pe_bltn (by rfl) B.list PyProof.Rows.boot_list (v := .ty "list") rfl) (pa_cons (pe_bltn (by rfl) B.tuple PyProof.Rows.boot_tuple (v := .ty "tuple") rfl) pa_nil))) pa_nil))))) (pw_or1 (pt_not (pt_val (pe_callB (cr_all rfl) (by rfl) B.all PyProof.Rows.boot_all (pa_cons (pe_lc (own := [("_law_number", 2)]) (g := gName 2) (tt := tYes) (te := (tCall (SpG (GlcG C)) [] E0 (tCons (tVar 2) (tCons (tVar 1) tNil)))) rfl scLs.nd (PI.or (pi_list (pv 0)) (pi_tup (pv 0))) (blkOk_by (own := [("_law_number", 2)]) (N := nLs) (sc := defScope sLs) (by decide +kernel)) (fun _ _ _ _ _ => (pg_name (i := 2) scLs.nd rfl (Or.inl rfl))) (fun _ _ _ _ _ => pts_nil) (fun _ _ _ _ _ => (pe_call gLc.G (hr.mono (by decide)) (by rfl) gLc.m gLc.k gLc.b .nil pass0 (pa_cons (pv 2) (pa_cons (pv 1) pa_nil))))) pa_nil)))))).pt (pss_one (ps_ret pe_bl)) pss_nil)
      (pss_one (ps_ret (pe_cmpR op_eq (pe_callB call_lenD (by rfl) B.len PySem.boot_len (pa_cons (pe_callTy (call_dictP rfl) (by rfl) B.dict PyProof.Rows.boot_dict (pa_cons (pe_lc (own := [("_law_number", 2)]) (g := gName 2) (tt := tYes) (te := (tTup (tCons (tVar 2) (tCons (tC (.bl true)) tNil)))) rfl scLs.nd (PI.or (pi_list (pv 0)) (pi_tup (pv 0))) (blkOk_by (own := [("_law_number", 2)]) (N := nLs) (sc := defScope sLs) (by decide +kernel)) (fun _ _ _ _ _ => (pg_name (i := 2) scLs.nd rfl (Or.inl rfl))) (fun _ _ _ _ _ => pts_nil) (fun _ _ _ _ _ => (pe_tup (pa_cons (pv 2) (pa_cons pe_bl pa_nil))))) pa_nil)) pa_nil)) (pe_callB call_len_seq (by rfl) B.len PySem.boot_len (pa_cons (pv 0) pa_nil)) (nomark _)))), h.body fun ds r hF => ?_⟩
  obtain ⟨d, m, o, hl, rfl, rfl⟩ := hF
  by_cases hs : isSeqD d = true
  · have all : EvG (tCB (rAll K) (tCons (tLc (fun σ H R => iList K (tVar 0) σ H R ∨ iTup K (tVar 0) σ H R) (gName 2) tYes (tCall (SpG (GlcG C)) [] E0 (tCons (tVar 2) (tCons (tVar 1) tNil))) [2]) tNil)) [some d, some (N m), none] (.bool ((itemsD d).all (cntB m))) := by
      refine .allLc (cntB m) (iter_seq hs (.var rfl)) (by omega) fun i x hx => ⟨_, _, .name, fun j h => h, ?_⟩
      exact .call (.cons (.var rfl) (.cons (.var rfl) .nil)) ⟨x, m, ok_items o x (List.mem_of_getElem? hx), rfl, rfl⟩
    by_cases ha : (itemsD d).all (cntB m) = true
    · have hlen : (itemsD d).length = (intsD d).length := by
        have := congrArg List.length (all_ints ha).1
        rwa [List.length_map] at this
      have ei := (all_ints ha).1
      refine .seq (.ifF (.eq (.or (a := false) (.eq (.not (.val (isiTX R o (.var rfl)))) (by rw [hs]; rfl)) fun _ => .not (.val all)) (by rw [ha]; rfl)) .next) ?_
      refine .ret (.eq (.op (.lenD (.dictOf (.eq (.mapX (α := Int) PyData.int (fun k => .tuple [.int k, .bool true]) (zs := intsD d) (by rw [← ei]; exact iter_seq hs (.var rfl)) (by omega) fun k hk => ⟨_, _, .name, fun j h => h, .tup (.cons (.var rfl) (.cons (.bl true) .nil)) (by show 2 ≤ sizeLine; decide)⟩) rfl))) (len_seq hs (.var rfl)) .eqI) ?_)
      unfold linesOk
      rw [hs, ha, hlen]
      refine congrArg PyData.bool ?_
      show _ = decide (intsD d).Nodup
      exact decide_eq_decide.mpr ⟨fun h => (dk_iff _).mp (by omega), fun h => by have := (dk_iff _).mpr h; omega⟩
    · have ha' : (itemsD d).all (cntB m) = false := Bool.eq_false_iff.mpr ha
      refine .seq_rt (.ifT (.eq (.or (a := false) (.eq (.not (.val (isiTX R o (.var rfl)))) (by rw [hs]; rfl)) fun _ => .not (.val all)) (by rw [ha']; rfl)) (.ret (.eq (.bl false) ?_)))
      unfold linesOk
      rw [hs, ha']
      rfl
  · have hs' : isSeqD d = false := Bool.eq_false_iff.mpr hs
    refine .seq_rt (.ifT (.or (a := true) (b := true) (.eq (.not (.val (isiTX R o (.var rfl)))) (by rw [hs']; rfl)) fun z => by cases z) (.ret (.eq (.bl false) ?_)))
    unfold linesOk
    rw [hs']
    rfl
abbrev nCvs : List Str := ["_law_tall", "_law_wide", "_law_places", "_law_due", "_law_value", "_law_row", "_law_column"]
theorem scCvs : FnScope nCvs ["_law_tall", "_law_wide", "_law_places", "_law_due", "_law_value"] (defScope sCvs) := ⟨rfl, rfl, rfl, by decide +kernel, rfl, by decide +kernel, by decide +kernel⟩
theorem ok_cvs {f : Addr} {fd : FuncData} (F : Fun K "_law_cover_seen" "_law_cover_seen" sCvs f fd) (B : Blt mg) (R : RCls K mg C) (gLs : Dn P w K mg base 2 "_law_lines_seen" ["_law_value", "_law_most_here"] (SpG (GunG C))) : FnOk P w K mg base CX0 3 f fd ["_law_tall", "_law_wide", "_law_places", "_law_due", "_law_value"] (SpG (GcsG C)) := by
  refine F.ok scCvs (fun vs H Q E h => h.len (n := 5) (by rintro ds r ⟨t, w, ps, n, d, _, _, _, rfl, _⟩; rfl)) (fun cdv A outer s H vs Q E hr h => ?_)
  refine ⟨_, pss_cons (ps_if (pw_or (pt_not (pt_val (pe_callB call_isi (by rfl) B.isi PyProof.Rows.boot_isinstance (pa_cons (pv 4) (pa_cons (pe_bltn (by rfl) B.tuple PyProof.Rows.boot_tuple (v := .ty "tuple") rfl) pa_nil))))) (pw_or (pt_cmpR op_ne (pe_callB call_len_seq (by rfl) B.len PySem.boot_len (pa_cons (pv 4) pa_nil)) pe_int (nomark _)) (pw_or (pt_not (pt_val (pe_call gLs.G (hr.mono (by decide)) (by rfl) gLs.m gLs.k gLs.b .nil pass0 (pa_cons (pe_ix ix_tup (pv 4) pe_int (fun _ _ => rfl)) (pa_cons (pv 0) pa_nil))))) (pw_or1 (pt_not (pt_val (pe_call gLs.G (hr.mono (by decide)) (by rfl) gLs.m gLs.k gLs.b .nil pass0 (pa_cons (pe_ix ix_tup (pv 4) pe_int (fun _ _ => rfl)) (pa_cons (pv 1) pa_nil))))))))).pt (pss_one (ps_ret pe_bl)) pss_nil)
      (pss_one (ps_ret (pe_and (pe_cmpR op_eq (pe_op op_add (pe_callB call_len_seq (by rfl) B.len PySem.boot_len (pa_cons (pe_ix ix_tup (pv 4) pe_int (fun _ _ => rfl)) pa_nil)) (pe_callB call_len_seq (by rfl) B.len PySem.boot_len (pa_cons (pe_ix ix_tup (pv 4) pe_int (fun _ _ => rfl)) pa_nil))) (pv 3) (nomark _)) (pe_one (pe_callB (cr_all rfl) (by rfl) B.all PyProof.Rows.boot_all (pa_cons (pe_lc (own := [("_law_row", 5), ("_law_column", 6)]) (g := gTup K 2 (gCons (gName 5) (gCons (gName 6) gNil))) (tt := tYes) (te := (tOrV (tOp (rIn K false) (tVar 5) (tOp (rIxT K) (tVar 4) (tC (.int 0)))) (tOp (rIn K false) (tVar 6) (tOp (rIxT K) (tVar 4) (tC (.int 1)))))) rfl scCvs.nd (pi_list (pv 2)) (blkOk_by (own := [("_law_row", 5), ("_law_column", 6)]) (N := nCvs) (sc := defScope sCvs) (by decide +kernel)) (fun _ _ _ _ _ => (pg_tup rfl (pgs_cons (pg_name (i := 5) scCvs.nd rfl (Or.inl rfl)) (pgs_cons (pg_name (i := 6) scCvs.nd rfl (Or.inl rfl)) pgs_nil)))) (fun _ _ _ _ _ => pts_nil) (fun _ _ _ _ _ => (pe_or (pe_cmpR op_in_seq (pv 5) (pe_ix ix_tup (pv 4) pe_int (fun _ _ => rfl)) (by rfl)) (pe_one (pe_cmpR op_in_seq (pv 6) (pe_ix ix_tup (pv 4) pe_int (fun _ _ => rfl)) (by rfl)))))) pa_nil)))))), h.body fun ds r hF => ?_⟩
  obtain ⟨t, w, ps, n, d, hb, o, hl, rfl, rfl⟩ := hF
  have n16 := hb.n16
  by_cases ht : ∃ xs, d = .tuple xs
  · obtain ⟨xs, rfl⟩ := ht
    by_cases h2 : xs.length = 2
    · obtain ⟨x, y, rfl⟩ : ∃ x y, xs = [x, y] := by
        match xs, h2 with
        | [x, y], _ => exact ⟨x, y, rfl⟩
      have ox : ok C x := o.1
      have oy : ok C y := o.2.1
      have lx := hl x (.head _)
      have ly := hl y (.tail _ (.head _))
      have i0 : ∀ {g : List (Option PyData)}, g[4]? = some (some (.tuple [x, y])) → EvG (tOp (rIxT K) (tVar 4) (tC (.int 0))) g x := fun h => .op (.var h) (.int 0) (.ixT (j := 0) rfl)
      have i1 : ∀ {g : List (Option PyData)}, g[4]? = some (some (.tuple [x, y])) → EvG (tOp (rIxT K) (tVar 4) (tC (.int 1))) g y := fun h => .op (.var h) (.int 1) (.ixT (j := 1) rfl)
      show StG _ _ (.rt (.bool (linesOk t x && (linesOk w y && (covOk ps x y && decide ((itemsD x).length + (itemsD y).length = n))))))
      cases h1 : linesOk t x with
      | false => exact .seq_rt (.ifT (.or (a := false) (b := true) (.eq (.not (.val (isiX R o (fun c k => k.t) (.var rfl)))) rfl) fun _ => .or (a := false) (b := true) (.eq (.tst (.op (.lenT (.var rfl)) (.int 2) .neI)) rfl) fun _ => .or (a := true) (b := true) (.eq (.not (.val (.call (.cons (i0 rfl) (.cons (.var rfl) .nil)) ⟨x, t, ox, lx, rfl, rfl⟩))) (by rw [h1]; rfl)) fun z => by cases z) (.ret (.bl false)))
      | true =>
        cases h3 : linesOk w y with
        | false => exact .seq_rt (.ifT (.or (a := false) (b := true) (.eq (.not (.val (isiX R o (fun c k => k.t) (.var rfl)))) rfl) fun _ => .or (a := false) (b := true) (.eq (.tst (.op (.lenT (.var rfl)) (.int 2) .neI)) rfl) fun _ => .or (a := false) (b := true) (.eq (.not (.val (.call (.cons (i0 rfl) (.cons (.var rfl) .nil)) ⟨x, t, ox, lx, rfl, rfl⟩))) (by rw [h1]; rfl)) fun _ => .eq (.not (.val (.call (.cons (i1 rfl) (.cons (.var rfl) .nil)) ⟨y, w, oy, ly, rfl, rfl⟩))) (by rw [h3]; rfl)) (.ret (.bl false)))
        | true =>
          obtain ⟨sx, ax⟩ := lines_of h1
          obtain ⟨sy, ay⟩ := lines_of h3
          have qx := seq_ints sx ax
          have qy := seq_ints sy ay
          refine .seq (.ifF (.or (a := false) (b := false) (.eq (.not (.val (isiX R o (fun c k => k.t) (.var rfl)))) rfl) fun _ => .or (a := false) (b := false) (.eq (.tst (.op (.lenT (.var rfl)) (.int 2) .neI)) rfl) fun _ => .or (a := false) (b := false) (.eq (.not (.val (.call (.cons (i0 rfl) (.cons (.var rfl) .nil)) ⟨x, t, ox, lx, rfl, rfl⟩))) (by rw [h1]; rfl)) fun _ => .eq (.not (.val (.call (.cons (i1 rfl) (.cons (.var rfl) .nil)) ⟨y, w, oy, ly, rfl, rfl⟩))) (by rw [h3]; rfl)) .next) ?_
          have all : EvG (tCB (rAll K) (tCons (tLc (iList K (tVar 2)) (gTup K 2 (gCons (gName 5) (gCons (gName 6) gNil))) tYes (tOrV (tOp (rIn K false) (tVar 5) (tOp (rIxT K) (tVar 4) (tC (.int 0)))) (tOp (rIn K false) (tVar 6) (tOp (rIxT K) (tVar 4) (tC (.int 1))))) [5, 6]) tNil)) [some (N t), some (N w), some (.list (psD ps)), some (N n), some (.tuple [x, y]), none, none] (.bool (covOk ps x y)) := by
            refine .eq (.allLc (fun d => match d with | .tuple [.int a, .int b] => decide (a ∈ intsD x) || decide (b ∈ intsD y) | _ => false) (.list (.var rfl)) (by rw [len_psD]; omega) fun i d hd => ?_) ?_
            · obtain ⟨p, hp', rfl⟩ := get_ps hd
              exact ⟨_, _, .two, fun j h => h, .orV (.op (.var rfl) (i0 rfl) (OpG.inSeq qx)) fun _ => .op (.var rfl) (i1 rfl) (OpG.inSeq qy)⟩
            · refine congrArg PyData.bool ?_
              show (ps.map pD).all _ = _
              rw [List.all_map]
              rfl
          refine .ret (.eq (.andV (.op (.op (len_seq sx (i0 rfl)) (len_seq sy (i1 rfl)) .add) (.var rfl) .eqI) fun _ => all) ?_)
          rw [Bool.true_and, Bool.true_and, Bool.and_comm]
          congr 2
          exact decide_eq_decide.mpr ⟨fun h => by omega, fun h => by omega⟩
    · have e : coverSeen t w ps n (.tuple xs) = false := by
        unfold coverSeen
        split
        · rename_i hh
          cases hh
          exact absurd rfl h2
        · rfl
      exact .seq_rt (.ifT (.or (a := false) (b := true) (.eq (.not (.val (isiX R o (fun c k => k.t) (.var rfl)))) rfl) fun _ => .or (a := true) (b := true) (.eq (.tst (.op (.lenT (.var rfl)) (.int 2) .neI)) (by rw [decide_eq_false (by omega : ¬ ((xs.length : Nat) : Int) = 2)]; rfl)) fun z => by cases z) (.ret (.eq (.bl false) (by rw [e]))))
  · have hf : isiB "tuple" d = false := by
      cases d <;> first | rfl | exact absurd ⟨_, rfl⟩ ht
    have e : coverSeen t w ps n d = false := by
      cases d <;> first | rfl | exact absurd ⟨_, rfl⟩ ht
    exact .seq_rt (.ifT (.or (a := true) (b := true) (.eq (.not (.val (isiX R o (fun c k => k.t) (.var rfl)))) (by rw [hf]; rfl)) fun z => by cases z) (.ret (.eq (.bl false) (by rw [e]))))
end
end K73

set_option Elab.async false
set_option linter.all false
set_option maxRecDepth 100000
set_option maxHeartbeats 4000000
/-! The class of fractions: made, told. -/
namespace K73
open PySem L2 GD RQ
theorem rf_top (p : Int × Int) : (rf p).lookup ("_top" : Str) = some (.int p.1) := by rfl
theorem rf_bot (p : Int × Int) : (rf p).lookup ("_bottom" : Str) = some (.int p.2) := by
  have e : (("_bottom" : Str) == ("_top" : Str)) = false := by decide +kernel
  show List.lookup ("_bottom" : Str) (("_top", V.int p.1) :: [("_bottom", V.int p.2)]) = _
  rw [List.lookup_cons, e]
  rfl
theorem putf1 (v : V) : putF "_top" v [] = ([("_top", v)] : List (Str × V)) := rfl
theorem putf2 (v u : V) : putF "_bottom" u ([("_top", v)] : List (Str × V)) = ([("_top", v), ("_bottom", u)] : List (Str × V)) := by
  have e : ¬ (("_top" : Str) = "_bottom") := by decide +kernel
  show (if ("_top" : Str) = "_bottom" then ([(("_top" : Str), u)] : List (Str × V)) else (("_top" : Str), v) :: putF "_bottom" u []) = _
  rw [if_neg e]
  rfl
structure SpInit (C : Addr) (vs : List V) (H : Hp) (Q : VK) (E : XK) : Prop where
  ex : ∃ (x dx : Addr) (t b : Int), vs = [.ref x, .int t, .int b] ∧ b ≠ 0 ∧ Sz 8000 b ∧ H x = some (.ins C dx []) ∧ Q .non (upd H x (.ins C dx (rf (low t b))))
structure SpOne (vs : List V) (H : Hp) (Q : VK) (E : XK) : Prop where
  ex : ∃ i : Int, vs = [.int i] ∧ Q (.bl true) H
section
variable {P : Program} {w : World} {K : PySem.W.Frag} {mg : Str → Option Value} {base : Heap} {C : Addr}
theorem one_isInt {f : Addr} {fd : FuncData} (F : Fun K "is_integer" "is_integer" sIsInt f fd) (B : Blt mg) : FnOk P w K mg base CX0 1 f fd ["value"] SpOne := by
  refine F.ok scIsInt (fun vs H Q E h => ?_) (fun cdv A outer s H vs Q E hr h => ?_)
  · obtain ⟨i, rfl, _⟩ := h
    rfl
  · obtain ⟨i, rfl, k⟩ := h
    refine ⟨_, pss_one (ps_ret (pe_and (pe_callB call_isi (by rfl) B.isi PyProof.Rows.boot_isinstance (pa_cons (pv 0) (pa_cons (pe_bltn (by rfl) B.int PyProof.Rows.boot_int (v := .ty "int") rfl) pa_nil))) (pe_one (pe_not (pe_callB call_isi (by rfl) B.isi PyProof.Rows.boot_isinstance (pa_cons (pv 0) (pa_cons (pe_bltn (by rfl) B.bool PyProof.Rows.boot_bool (v := .ty "bool") rfl) pa_nil))))))), ?_⟩
    refine ⟨_, rfl, _, .ty "int", .type "int", _, true, rfl, .ty "int", .base (.int i), kit_ty (by decide +kernel), true, rfl, ite2 (fun e => ?_) (fun e => absurd rfl e)⟩
    exact ⟨_, rfl, _, .ty "bool", .type "int", _, false, rfl, .ty "bool", .base (.int i), kit_ty (by decide +kernel), false, rfl, k⟩
theorem scInit : FnScope ["self", "top", "bottom", "common"] ["self", "top", "bottom"] (defScope sInit) := ⟨rfl, rfl, rfl, by decide +kernel, rfl, by decide +kernel, by decide +kernel⟩
theorem ok_init {f fI : Addr} {fdI : FuncData} {dvs : List V} {fd : FuncData} (F : FunD K "__init__" "Ratio.__init__" (defArgs sInit) (defBody sInit) (defScope sInit) dvs [] f fd) (B : Blt mg) (R : RCls K mg C)
    (GI : FnOk P w K mg base CX0 1 fI fdI ["value"] SpOne) (mI : mg "is_integer" = some (.ref fI)) (kI : PySem.W.keepIn K (.ref fI) = true) (bI : Binds K fdI ["value"] []) :
    FnOk P w K mg base CX0 2 f fd ["self", "top", "bottom"] (SpInit C) := by
  refine F.ok scInit (fun vs H Q E h => ?_) (fun cdv A outer s H vs Q E hr h => ?_)
  · obtain ⟨x, dx, t, b, rfl, _⟩ := h
    rfl
  · obtain ⟨x, dx, t, b, rfl, hb, hz, hx, k⟩ := h
    refine ⟨_, PSs.nox (pss_cons (ps_if (pt_not (pt_val (pe_call GI hr (by rfl) mI kI bI .nil pass0 (pa_cons (pv 1) pa_nil)))) (pss_one ps_never) pss_nil)
      (pss_cons (ps_if (pw_or (pt_not (pt_val (pe_call GI hr (by rfl) mI kI bI .nil pass0 (pa_cons (pv 2) pa_nil)))) (pw_or1 (pt_cmpR op_eq (pv 2) pe_int (nomark _)))).pt (pss_one ps_never) pss_nil)
      (pss_cons (ps_set (i := 3) scInit.nd rfl (Or.inl rfl) (pe_callBfun cr_gcd (by rfl) B.gcd (pa_cons (pv 1) (pa_cons (pv 2) pa_nil))))
      (pss_cons (ps_if (pt_cmpR op_lt (pv 2) pe_int (nomark _)) (pss_one (ps_set (i := 3) scInit.nd rfl (Or.inl rfl) (pe_un un_neg (pv 3)))) pss_nil)
      (pss_cons (ps_fld (pv 0) (pe_op op_fdivA (pv 1) (pv 3)) rfl)
      (pss_one (ps_fld (pv 0) (pe_op op_fdivA (pv 2) (pv 3)) rfl))))))), ?_⟩
    refine ⟨_, rfl, ⟨t, rfl, true, rfl, iteF ?_⟩⟩
    refine ⟨_, rfl, ⟨b, rfl, true, rfl, iteF ⟨_, rfl, rfl, _, rfl, ?_⟩⟩⟩
    have hbd : decide (V.int b = V.int 0) = false := decide_eq_false (fun e => hb (by injection e))
    rw [hbd]
    refine iteF ⟨_, rfl, _, rfl, t, b, rfl, ?_⟩
    have c1 : CDivA t (G t b) := fdiv_ok (G_ne hb) (Sz.G hb hz) (by decide) (by decide)
    have c2 : CDivA b (G t b) := fdiv_ok (G_ne hb) (Sz.G hb hz) (by decide) (by decide)
    have k' : Q .non (upd (upd H x (.ins C dx [("_top", .int (t.fdiv (G t b)))])) x (.ins C dx [("_top", .int (t.fdiv (G t b))), ("_bottom", .int (b.fdiv (G t b)))])) := by
      rw [upd_upd]
      exact k
    refine ⟨_, rfl, _, _, rfl, rfl, _, rfl, ite2 (fun e => ?_) (fun e => ?_)⟩
    · have hl : b < 0 := of_decide_eq_true e
      have hg : -((Nat.gcd t.natAbs b.natAbs : Nat) : Int) = G t b := (if_pos hl).symm
      rw [← hg] at c1 c2 k'
      refine ⟨_, rfl, _, rfl, ?_⟩
      refine ⟨_, rfl, _, rfl, _, _, rfl, rfl, c1, _, rfl, x, C, dx, _, rfl, hx, R.cl, R.nT, (by show 0 < 1000; decide), ?_⟩
      refine ⟨_, rfl, _, rfl, _, _, rfl, rfl, c2, _, rfl, x, C, dx, _, rfl, upd_same, R.cl, R.nB, (by show 1 < 1000; decide), ?_⟩
      rw [putf1, putf2]
      exact k'
    · have hl : ¬ b < 0 := fun z => e (decide_eq_true z)
      have hg : ((Nat.gcd t.natAbs b.natAbs : Nat) : Int) = G t b := (if_neg hl).symm
      rw [← hg] at c1 c2 k'
      refine ⟨_, rfl, _, rfl, _, _, rfl, rfl, c1, _, rfl, x, C, dx, _, rfl, hx, R.cl, R.nT, (by show 0 < 1000; decide), ?_⟩
      refine ⟨_, rfl, _, rfl, _, _, rfl, rfl, c2, _, rfl, x, C, dx, _, rfl, upd_same, R.cl, R.nB, (by show 1 < 1000; decide), ?_⟩
      rw [putf1, putf2]
      exact k'
theorem scRepr : FnScope ["self"] ["self"] (defScope sRepr) := ⟨rfl, rfl, rfl, by decide +kernel, rfl, by decide +kernel, by decide +kernel⟩
theorem line_ok {n : Nat} (h : n ≤ 10000) : n ≤ sizeLine := Nat.le_trans h (by decide)
theorem ok_repr {f : Addr} {fd : FuncData} (F : Fun K "__repr__" "Ratio.__repr__" sRepr f fd) (R : RCls K mg C) : FnOk P w K mg base CX0 1 f fd ["self"] (SpText C) := by
  refine F.ok scRepr (fun vs H Q E h => ?_) (fun cdv A outer s H vs Q E hr h => ?_)
  · obtain ⟨a, dx, p, rfl, _⟩ := h
    rfl
  · obtain ⟨a, dx, p, rfl, ha, hp, k⟩ := h
    have l1 := num_len hp.st
    have l2 := num_len hp.sb
    refine ⟨_, pss_one (ps_ret (pe_joined (.cons pe_str (.cons (pe_fmt (pe_fld (pv 0) rfl)) (.cons pe_str (.cons (pe_fmt (pe_fld (pv 0) rfl)) (.cons pe_str .nil))))))), ?_⟩
    refine ⟨_, rfl, ?_, ?_⟩
    · rw [Str.empty_append]
      exact line_ok (by decide)
    refine ⟨_, rfl, a, C, dx, _, _, rfl, ha, R.cl, R.nT, rf_top p, .inr ⟨_, rfl, lg hp.st, num p.1, rfl, ?_, ?_⟩⟩
    · rw [Str.empty_append, len_app]
      exact line_ok (by show 6 + _ ≤ _; omega)
    refine ⟨_, rfl, ?_, ?_⟩
    · rw [Str.empty_append, len_app, len_app]
      exact line_ok (by show 6 + _ + 2 ≤ _; omega)
    refine ⟨_, rfl, a, C, dx, _, _, rfl, ha, R.cl, R.nB, rf_bot p, .inr ⟨_, rfl, lg hp.sb, num p.2, rfl, ?_, ?_⟩⟩
    · rw [Str.empty_append, len_app, len_app, len_app]
      exact line_ok (by show 6 + _ + 2 + _ ≤ _; omega)
    refine ⟨_, rfl, ?_, ?_⟩
    · rw [Str.empty_append, len_app, len_app, len_app, len_app]
      exact line_ok (by show 6 + _ + 2 + _ + 1 ≤ _; omega)
    · show Q (.str (Str.empty ++ "Ratio(" ++ num p.1 ++ ", " ++ num p.2 ++ ")")) H
      rw [Str.empty_append]
      exact k
/-- Ratio, made -/
structure Mkr (P : Program) (w : World) (K : PySem.W.Frag) (mg : Str → Option Value) (base : Heap) (C : Addr) where
  B : Blt mg
  R : RCls K mg C
  f0 : Addr
  fd0 : FuncData
  M : Mk K C f0
  G0 : FnOk P w K mg base CX0 2 f0 fd0 ["self", "top", "bottom"] (SpInit C)
  d1 : List Value
  v1 : Vals [.int 1] d1
  b1 : Binds K fd0 ["self", "top", "bottom"] d1
end
end K73

set_option Elab.async false
set_option linter.all false
set_option maxRecDepth 100000
set_option maxHeartbeats 4000000
/-! Values out of rooks, bent. -/
namespace K73
open PySem L2 GD RQ
section
variable {pot : Addr} {γ : List (Option PyData)} {K : PySem.W.Frag} {te : TE} {x y : PyData} {r : PyData → Prop} {rest : TS} {C : Addr}
structure SpPk (vs : List V) (H : Hp) (Q : VK) (E : XK) : Prop where
  ex : ∃ (S : Addr → Prop) (pot : Addr) (v : V) (ps : List Pl), vs = [.ref pot, v] ∧ S pot ∧ PotAt H pot ∧ Av S H v (.list (psD ps)) ∧ 1 ≤ ps.length ∧ ps.length ≤ 1000 ∧ ∀ H' u p, p ∈ ps → Kp (Sp1 pot) H H' → PotAt H' pot → Av S H' u (pD p) → Q u H'
theorem EvD.pick {ps : List Pl} {E : XK} (h : EvG te γ (.list (psD ps))) (n1 : 1 ≤ ps.length) (n2 : ps.length ≤ 1000) : EvD pot (tCall SpPk [] E (tCons (tVar 0) (tCons te tNil))) γ (fun d => ∃ p, p ∈ ps ∧ d = pD p) := fun S H σ hS l p e z Q q => by
  refine ⟨_, z, h S H σ l e _ fun H1 v s1 av => ?_⟩
  exact ⟨S, pot, v, ps, rfl, hS, p.same s1, av, n1, n2, fun H' u p hp k p' a => q H' u _ ((Kp.of s1).trans k) p' ⟨p, hp, rfl⟩ a⟩
theorem StR.parD {i j : Nat} {ta : TA} {R : PyData → PyData → Prop} (hi : i ≠ 0) (hj : j ≠ 0) (h : EvAD pot ta γ (fun ds => ∃ x y, ds = [x, y] ∧ R x y)) (hn : ∀ x y, R x y → StR pot rest ((γ.set i (some x)).set j (some y)) r) : StR pot (tSeq (tPar i j ta) rest) γ r := fun H σ D p e z k =>
  h (Sp1 pot) H σ rfl p.live p e z _ fun H1 vs ds k1 p1 c av => by
    obtain ⟨x, y, rfl, hR⟩ := c
    cases av with
    | cons a r1 =>
      cases r1 with
      | cons b r2 =>
        cases r2
        exact ⟨_, _, rfl, hn x y hR H1 _ D p1 (((e.keep k1).set i a).set j b) (set0 hj (set0 hi z)) fun v H' d hd k2 p2 a => k v H' d hd (k1.trans k2) p2 a⟩
theorem Gm.setNone {S : Addr → Prop} {H : Hp} {σ : L2.St} {i : Nat} {v : Option V} (e : Gm S H σ γ) (h : ∀ d, γ[i]? ≠ some (some d)) : Gm S H (σ.set i v) γ := by
  refine ⟨by rw [List.length_set]; exact e.len, fun j d hd => ?_⟩
  by_cases hij : i = j
  · subst hij
    exact absurd hd (h d)
  · obtain ⟨u, h1, h2⟩ := e.at_ j d hd
    exact ⟨u, by rw [List.getElem?_set_ne hij]; exact h1, h2⟩
/-- a list that grows is made -/
theorem StR.newM {i : Nat} {ta : TA} {ds : List PyData} (hi : i < γ.length) (h0 : ∀ d, γ[i]? ≠ some (some d)) (h : EvA ta γ ds) (hz : ds.length ≤ sizeLine) (hn : ∀ L, StM L i rest γ ds r) : StR pot (tSeq (tAsg (tLst ta) (gName i)) rest) γ r := fun H σ D p e z k =>
  h (Sp1 pot) H σ p.live e _ fun H1 vs s1 avs => ⟨by rw [avs.len]; exact hz, fun L nL => by
    have sL := same_new (o := .lst vs) nL
    have nLp : ¬ Sp1 pot L := (p.live.same s1).new nL
    have p1 := (p.same s1).same sL
    have e1 : Gm (SD (Sp1 pot) L) (upd H1 L (.lst vs)) (σ.set i (some (.ref L))) γ := Gm.setNone (((e.same s1).fresh nL).same sL) h0
    refine hn L (Sp1 pot) _ _ D vs p1.live nLp upd_same ((avs.fresh nL).same sL) e1 (by rw [List.getElem?_set]; simp only [if_true]; rw [if_pos (by rw [e.len]; exact hi)]) fun v H' d hd kk a => ?_
    have kall : Kp (Sp1 pot) H H' := fun b o nb e' => by
      have e2 := s1 _ _ e'
      have nb2 : b ≠ L := ne_of_none e2 nL
      exact kk b o nb2 (by rw [upd_ne nb2]; exact e2)
    refine k v H' d hd kall ?_ a
    obtain ⟨x, y, f, g⟩ := p1
    exact ⟨x, y, kk pot _ (fun w => nLp w.symm) f, g⟩⟩
theorem StM.ret {L : Addr} {i : Nat} {cur : List PyData} (h : EvG te (γ.set i (some (.list cur))) x) (hx : r x) : StM L i (tRet te) γ cur r := fun S H σ D xs l nL hL ha e hi k => by
  have e1 : Gm S H σ (γ.set i (some (.list cur))) := Gm.learn (Gm.sub (fun X h => .inl h) e) hi (.lst nL hL (ha.less fun X h => .inl h))
  exact h S H σ l e1 _ fun H' v s a => k v H' x hx (fun b o _ e' => s b o e') a
/-! ### how great -/
theorem fn_N {n : Nat} (h : n < 1000) : Fn C 1 0 (N n) := .int (by show ((n : Int)).natAbs < 1000; omega)
theorem fn_pD {p : Pl} (h : p.1 < 4 ∧ p.2 < 4) : Fn C 3 1 (pD p) := Fn.tup (a := 1) (k := 0) (m := 2) (fun x hx => by
  rcases List.mem_cons.mp hx with rfl | hx
  · exact fn_N (by omega)
  · rw [List.mem_singleton.mp hx]
    exact fn_N (by omega)) (Nat.le_refl _)
theorem two_of {a k : Nat} {P : PyData → Prop} {x y : PyData} (hx : P x) (hy : P y) : ∀ z ∈ [x, y], P z := fun z hz => by
  rcases List.mem_cons.mp hz with rfl | hz
  · exact hx
  · rw [List.mem_singleton.mp hz]
    exact hy
theorem fn_psD {ps : List Pl} (h : ∀ p ∈ ps, p.1 < 4 ∧ p.2 < 4) : ∀ x ∈ psD ps, Fn C 3 1 x := fun x hx => by
  obtain ⟨p, hp, rfl⟩ := List.mem_map.mp hx
  exact fn_pD (h p hp)
theorem cut_mem {ds : List PyData} {lo hi : Option Int} {x : PyData} (h : x ∈ cutD ds lo hi) : x ∈ ds := List.mem_of_mem_drop (List.mem_of_mem_take h)
theorem cut_len (ds : List PyData) (lo hi : Option Int) : (cutD ds lo hi).length ≤ ds.length := by
  unfold cutD
  rw [List.length_take, List.length_drop]
  omega
/-- a list of at most forty small things -/
theorem fn_list {xs : List PyData} (h : ∀ x ∈ xs, Fn C 203 3 x) (hl : xs.length ≤ 4) : Fn C 1000 5 (.list xs) := (Fn.lst h hl).mono (by decide) (by decide)
theorem fn_places {xs : List PyData} (h : ∀ x ∈ xs, Fn C 3 1 x) (hl : xs.length ≤ 40) : Fn C 1000 5 (.list xs) := (Fn.lst h hl).mono (by decide) (by decide)
theorem fn_placesT {xs : List PyData} (h : ∀ x ∈ xs, Fn C 3 1 x) (hl : xs.length ≤ 40) : Fn C 1000 5 (.tuple xs) := (Fn.tup h hl).mono (by decide) (by decide)
theorem ratOk {n : Nat} (h : n < 1000) : OkF 1000 (low (n : Int) 1) := ⟨low_red (by decide), (sz3 (by omega)).lowT (by decide), (sz3 (by decide)).lowB (by decide)⟩
end
structure SpBr (C : Addr) (vs : List V) (H : Hp) (Q : VK) (E : XK) : Prop where
  ex : ∃ (pot : Addr) (v1 v2 : V) (t w : Nat) (ps tl : List Pl), vs = [.ref pot, v1, v2, .int t, .int w] ∧ Av (Sp1 pot) H v1 (.list (psD ps)) ∧ Av (Sp1 pot) H v2 (.list (psD tl)) ∧ Board t w ps ∧ tl ≠ [] ∧ tl.length ≤ 4 ∧ (∀ p ∈ tl, p ∈ ps) ∧ tl.Nodup ∧ PotAt H pot ∧
    ∀ H' v ds, Kp (Sp1 pot) H H' → PotAt H' pot → Av (Sp1 pot) H' v (.list ds) → (∀ d ∈ ds, Fn C 1000 5 d) → ds.length ≤ 100 → Q v H'
section
variable {P : Program} {w : World} {K : PySem.W.Frag} {mg : Str → Option Value} {base : Heap} {C : Addr}
abbrev nPk : List Str := ["_law_pot_here", "_law_some"]
theorem scPk : FnScope nPk ["_law_pot_here", "_law_some"] (defScope sPk) := ⟨rfl, rfl, rfl, by decide +kernel, rfl, by decide +kernel, by decide +kernel⟩
theorem ok_pk {f : Addr} {fd : FuncData} (F : Fun K "_law_pick" "_law_pick" sPk f fd) (B : Blt mg) (dDr : Dn P w K mg base 1 "_law_draw" ["_law_pot_here", "_law_many"] SpDraw) : FnOk P w K mg base CX0 2 f fd ["_law_pot_here", "_law_some"] SpPk := by
  refine F.ok scPk (fun vs H Q E h => ?_) (fun cdv A outer s H vs Q E hr h => ?_)
  · obtain ⟨S, pot, v, ps, rfl, _⟩ := h
    rfl
  · obtain ⟨S, pot, v, ps, rfl, hS, hp, av, n1, n2, k⟩ := h
    refine ⟨_, pss_one (ps_ret (pe_ix ix_list (pv 1) (pe_call dDr.G (hr.mono (by decide)) (by rfl) dDr.m dDr.k dDr.b .nil pass0 (pa_cons (pv 0) (pa_cons (pe_callB call_len_seq (by rfl) B.len PySem.boot_len (pa_cons (pv 1) pa_nil)) pa_nil))) (fun _ _ => rfl))), ?_⟩
    cases av with
    | lst n f hs =>
      rename_i a xs
      have hl := hs.len
      rw [len_psD] at hl
      refine ⟨_, rfl, _, rfl, _, rfl, a, _, rfl, .inl (SqL.of f), ⟨pot, xs.length, rfl, by omega, by omega, hp, fun H' d kp hp' hd => ?_⟩⟩
      have hx : xs[d]? = some (xs[d]'hd) := List.getElem?_eq_getElem hd
      obtain ⟨c, hc, ac⟩ := hs.get hx
      obtain ⟨p, hpp, rfl⟩ := get_ps hc
      have na : ¬ Sp1 pot a := fun z => n (by rw [show a = pot from z]; exact hS)
      exact ⟨a, xs, _, _, rfl, rfl, SqL.of (kp _ _ na f), atI_nat hx, k H' _ p (List.mem_of_getElem? hpp) kp hp' (ac.keep (kp1 hS kp))⟩
end
end K73

set_option Elab.async false
set_option linter.all false
set_option maxRecDepth 100000
set_option maxHeartbeats 4000000
/-! Values out of rooks, bent: the list of them. -/
namespace K73
open PySem L2 GD RQ
section
variable {γ : List (Option PyData)} {K : PySem.W.Frag} {te : TE} {C : Addr}
theorem EvG.neg {i : Int} (h : EvG te γ (.int i)) : EvG (tUn (rU fun i => .int (-i)) te) γ (.int (-i)) := fun S H σ l e Q q =>
  h S H σ l e _ fun H1 v s1 av => by
    cases av
    exact ⟨i, rfl, q _ _ s1 (.int _)⟩
theorem EvG.make1 {i : Int} {E : XK} (h : EvG te γ (.int i)) : EvG (tMake C (SpInit C) [.int 1] E (tCons te tNil)) γ (ratD C (low i 1)) := fun S H σ l e Q q =>
  h S H σ l e _ fun H1 v s1 av => by
    cases av
    intro x dx nx nd ne
    refine ⟨x, dx, i, 1, rfl, by decide, Sz.mono (n := 1) (by unfold Sz; decide) (by decide), upd_same, rfl, q _ _ (s1.trans fun b o e' => ?_) (.rat ((l.same s1).new nx) upd_same)⟩
    rw [upd_ne (ne_of_none e' nx), upd_ne (ne_of_none e' nx), upd_ne (ne_of_none e' nd)]
    exact e'
end
theorem al_app {P : PyData → Prop} {xs ys : List PyData} (h : ∀ x ∈ xs, P x) (k : ∀ x ∈ ys, P x) : ∀ x ∈ xs ++ ys, P x := fun x hx => (List.mem_append.mp hx).elim (h x) (k x)
theorem al_cons {P : PyData → Prop} {x : PyData} {xs : List PyData} (h : P x) (k : ∀ y ∈ xs, P y) : ∀ y ∈ x :: xs, P y := fun y hy => (List.mem_cons.mp hy).elim (fun z => z ▸ h) (k y)
theorem al_nil {P : PyData → Prop} : ∀ x ∈ ([] : List PyData), P x := fun x hx => by cases hx
theorem al_map {α : Type} {P : PyData → Prop} {f : α → PyData} {xs : List α} (h : ∀ x ∈ xs, P (f x)) : ∀ y ∈ xs.map f, P y := fun y hy => by
  obtain ⟨x, hx, rfl⟩ := List.mem_map.mp hy
  exact h x hx
theorem one_k : 1 ≤ 1000 := by decide
theorem three_k : 3 ≤ 1000 := by decide
/-- a number, or its truth -/
def smD (n : Nat) : PyData := if decide ((n : Int) < 2) = true then .bool (decide ((n : Int) = 1)) else N n
section
variable {P : Program} {w : World} {K : PySem.W.Frag} {mg : Str → Option Value} {base : Heap} {C : Addr}
abbrev nBr : List Str := ["_law_pot_here", "_law_places", "_law_told", "_law_tall", "_law_wide", "_law_one", "_law_at", "_law_found", "_law_place", "_law_row", "_law_number"]
theorem scBr : FnScope nBr ["_law_pot_here", "_law_places", "_law_told", "_law_tall", "_law_wide"] (defScope sBr) := ⟨rfl, rfl, rfl, by decide +kernel, rfl, by decide +kernel, by decide +kernel⟩
theorem ok_br {f : Addr} {fd : FuncData} (F : Fun K "_law_bent_rooks" "_law_bent_rooks" sBr f fd) (D : Mkr P w K mg base C) (dPk : Dn P w K mg base 2 "_law_pick" ["_law_pot_here", "_law_some"] SpPk) (dDr : Dn P w K mg base 1 "_law_draw" ["_law_pot_here", "_law_many"] SpDraw) : FnOk P w K mg base CX0 4 f fd ["_law_pot_here", "_law_places", "_law_told", "_law_tall", "_law_wide"] (SpBr C) := by
  refine F.ok scBr (fun vs H Q E h => ?_) (fun cdv A outer s H vs Q E hr h => ?_)
  · obtain ⟨pot, v1, v2, t, w, ps, tl, rfl, _⟩ := h
    rfl
  have B := D.B
  have hu65 := u65 hr
  have hu := Nat.lt_of_succ_lt hu65
  refine ⟨_, pss_cons (ps_par (i := 5) (j := 6) rfl scBr.nd rfl rfl (by decide) rfl rfl (pa_cons (pe_call dPk.G (hr.mono (by decide)) (by rfl) dPk.m dPk.k dPk.b .nil pass0 (pa_cons (pv 0) (pa_cons (pv 1) pa_nil))) (pa_cons (pe_call dDr.G (hr.mono (by decide)) (by rfl) dDr.m dDr.k dDr.b .nil pass0 (pa_cons (pv 0) (pa_cons (pe_callB call_len_seq (by rfl) B.len PySem.boot_len (pa_cons (pv 2) pa_nil)) pa_nil))) pa_nil)) (by rfl))
      (pss_cons (ps_set (i := 7) scBr.nd rfl (Or.inl rfl) (pe_lst (pa_cons (pv 2) (pa_cons (pe_revL (pv 2)) (pa_cons (pe_callTy call_tuple_of (by rfl) B.tuple PyProof.Rows.boot_tuple (pa_cons (pv 2) pa_nil)) (pa_cons (pe_slice sl_list (pv 2) (po_some pe_int) po_none) (pa_cons (pe_slice sl_list (pv 2) po_none (po_some (pe_un un_neg pe_int))) (pa_cons (pe_op op_cat (pv 2) (pe_slice sl_list (pv 2) po_none (po_some pe_int))) (pa_cons (pe_op op_cat (pv 2) (pe_lst (pa_cons (pv 5) pa_nil))) (pa_cons (pe_op op_cat (pe_op op_cat (pe_slice sl_list (pv 2) po_none (po_some (pv 6))) (pe_lst (pa_cons (pv 5) pa_nil))) (pe_slice sl_list (pv 2) (po_some (pe_op op_add (pv 6) pe_int)) po_none)) pa_nil))))))))))
      (pss_cons (ps_expr (pe_bm PySem.F.plainAttrs_list PySem.F.slot_list_extend PySem.F.type_list_extend mt_extend (pv 7) (pa_cons (pe_lst (pa_cons (pe_lc (own := [("_law_place", 8)]) (g := gName 8) (tt := tYes) (te := (tCB (fun xs H Q => ∃ p ys, xs = [V.ref p] ∧ (SqL K H p ys ∨ SqT K H p ys) ∧ ∀ l, H l = none → Q (.ref l) (upd H l (.lst ys))) (tCons (tVar 8) tNil))) rfl scBr.nd (pi_list (pv 2)) (blkOk_by (own := [("_law_place", 8)]) (N := nBr) (sc := defScope sBr) (by decide +kernel)) (fun _ _ _ _ _ => (pg_name (i := 8) scBr.nd rfl (Or.inl rfl))) (fun _ _ _ _ _ => pts_nil) (fun _ _ _ _ _ => (pe_callTy call_list_of (by rfl) B.list PyProof.Rows.boot_list (pa_cons (pv 8) pa_nil)))) (pa_cons (pe_lc (own := [("_law_place", 8)]) (g := gName 8) (tt := tYes) (te := (tTup (tCons (tOp (rIxT K) (tVar 8) (tC (.int 1))) (tCons (tOp (rIxT K) (tVar 8) (tC (.int 0))) tNil)))) rfl scBr.nd (pi_list (pv 2)) (blkOk_by (own := [("_law_place", 8)]) (N := nBr) (sc := defScope sBr) (by decide +kernel)) (fun _ _ _ _ _ => (pg_name (i := 8) scBr.nd rfl (Or.inl rfl))) (fun _ _ _ _ _ => pts_nil) (fun _ _ _ _ _ => (pe_tup (pa_cons (pe_ix ix_tup (pv 8) pe_int (fun _ _ => rfl)) (pa_cons (pe_ix ix_tup (pv 8) pe_int (fun _ _ => rfl)) pa_nil))))) (pa_cons (pe_lc (own := [("_law_place", 8)]) (g := gName 8) (tt := tYes) (te := (tOp (rCatT K) (tVar 8) (tTup (tCons (tC (.int 0)) tNil)))) rfl scBr.nd (pi_list (pv 2)) (blkOk_by (own := [("_law_place", 8)]) (N := nBr) (sc := defScope sBr) (by decide +kernel)) (fun _ _ _ _ _ => (pg_name (i := 8) scBr.nd rfl (Or.inl rfl))) (fun _ _ _ _ _ => pts_nil) (fun _ _ _ _ _ => (pe_op op_catT (pv 8) (pe_tup (pa_cons pe_int pa_nil))))) (pa_cons (pe_lc (own := [("_law_place", 8)]) (g := gName 8) (tt := tYes) (te := (tSl (rSlA K) (tVar 8) tNoPart (tPart (tC (.int 1))))) rfl scBr.nd (pi_list (pv 2)) (blkOk_by (own := [("_law_place", 8)]) (N := nBr) (sc := defScope sBr) (by decide +kernel)) (fun _ _ _ _ _ => (pg_name (i := 8) scBr.nd rfl (Or.inl rfl))) (fun _ _ _ _ _ => pts_nil) (fun _ _ _ _ _ => (pe_slice sl_tupA (pv 8) po_none (po_some pe_int)))) pa_nil))))) pa_nil)))
      (pss_cons (ps_expr (pe_bm PySem.F.plainAttrs_list PySem.F.slot_list_extend PySem.F.type_list_extend mt_extend (pv 7) (pa_cons (pe_lst (pa_cons (pe_lc (own := [("_law_place", 8)]) (g := gName 8) (tt := tYes) (te := (tTup (tCons (tMake C (SpInit C) [.int 1] E0 (tCons (tOp (rIxT K) (tVar 8) (tC (.int 0))) tNil)) (tCons (tOp (rIxT K) (tVar 8) (tC (.int 1))) tNil)))) rfl scBr.nd (pi_list (pv 2)) (blkOk_by (own := [("_law_place", 8)]) (N := nBr) (sc := defScope sBr) (by decide +kernel)) (fun _ _ _ _ _ => (pg_name (i := 8) scBr.nd rfl (Or.inl rfl))) (fun _ _ _ _ _ => pts_nil) (fun _ _ _ _ _ => (pe_tup (pa_cons (pe_make (E := E0) D.M D.G0 (hr.mono (by decide)) rfl D.R.mg_ D.b1 D.v1 pass0 (pa_cons (pe_ix ix_tup (pv 8) pe_int (fun _ _ => rfl)) pa_nil)) (pa_cons (pe_ix ix_tup (pv 8) pe_int (fun _ _ => rfl)) pa_nil))))) (pa_cons (pe_lc (own := [("_law_place", 8)]) (g := gName 8) (tt := tYes) (te := (tTup (tCons (tOp (rI0 fun i j => .int (i + j)) (tOp (rIxT K) (tVar 8) (tC (.int 0))) (tVar 3)) (tCons (tOp (rIxT K) (tVar 8) (tC (.int 1))) tNil)))) rfl scBr.nd (pi_list (pv 2)) (blkOk_by (own := [("_law_place", 8)]) (N := nBr) (sc := defScope sBr) (by decide +kernel)) (fun _ _ _ _ _ => (pg_name (i := 8) scBr.nd rfl (Or.inl rfl))) (fun _ _ _ _ _ => pts_nil) (fun _ _ _ _ _ => (pe_tup (pa_cons (pe_op op_add (pe_ix ix_tup (pv 8) pe_int (fun _ _ => rfl)) (pv 3)) (pa_cons (pe_ix ix_tup (pv 8) pe_int (fun _ _ => rfl)) pa_nil))))) (pa_cons (pe_lc (own := [("_law_place", 8)]) (g := gName 8) (tt := tYes) (te := (tTup (tCons (tOp (rIxT K) (tVar 8) (tC (.int 0))) (tCons (tOp (rI0 fun i j => .int (i - j)) (tC (.int 0)) (tOp (rIxT K) (tVar 8) (tC (.int 1)))) tNil)))) rfl scBr.nd (pi_list (pv 2)) (blkOk_by (own := [("_law_place", 8)]) (N := nBr) (sc := defScope sBr) (by decide +kernel)) (fun _ _ _ _ _ => (pg_name (i := 8) scBr.nd rfl (Or.inl rfl))) (fun _ _ _ _ _ => pts_nil) (fun _ _ _ _ _ => (pe_tup (pa_cons (pe_ix ix_tup (pv 8) pe_int (fun _ _ => rfl)) (pa_cons (pe_op op_sub pe_int (pe_ix ix_tup (pv 8) pe_int (fun _ _ => rfl))) pa_nil))))) pa_nil)))) pa_nil)))
      (pss_cons (ps_expr (pe_bm PySem.F.plainAttrs_list PySem.F.slot_list_append PySem.F.type_list_append mt_append (pv 7) (pa_cons (pe_lc (own := [("_law_place", 8)]) (g := gName 8) (tt := tYes) (te := (tCB (fun xs H Q => ∃ p ys, xs = [V.ref p] ∧ ((SqL K H p ys ∧ ∀ l, H l = none → Q (.ref l) (upd H l (.tup ys))) ∨ (SqT K H p ys ∧ Q (.ref p) H))) (tCons (tLc (iTup K (tVar 8)) (gName 10) tYes (tIf (tTest (tOp (rI0 fun i j => .bl (decide (i < j))) (tVar 10) (tC (.int 2)))) (tOp rEq (tVar 10) (tC (.int 1))) (tVar 10)) [10]) tNil))) rfl scBr.nd (pi_list (pv 2)) (blkOk_by (own := [("_law_place", 8)]) (N := nBr) (sc := defScope sBr) (by decide +kernel)) (fun _ _ _ _ _ => (pg_name (i := 8) scBr.nd rfl (Or.inl rfl))) (fun _ _ _ _ _ => pts_nil) (fun _ _ _ _ _ => (pe_callTy call_tuple_of (by rfl) B.tuple PyProof.Rows.boot_tuple (pa_cons (pe_lc (own := [("_law_number", 10)]) (g := gName 10) (tt := tYes) (te := (tIf (tTest (tOp (rI0 fun i j => .bl (decide (i < j))) (tVar 10) (tC (.int 2)))) (tOp rEq (tVar 10) (tC (.int 1))) (tVar 10))) rfl scBr.nd (pi_tup (pv 8)) (blkOk_by (own := [("_law_number", 10)]) (N := nBr) (sc := { kind := .function, names := [(".0", .local), ("_law_place", .local), ("tuple", .globalImplicit)], isGenerator := false, isCoroutine := false }) (by decide +kernel)) (fun _ _ _ _ _ => (pg_name (i := 10) scBr.nd rfl (Or.inl rfl))) (fun _ _ _ _ _ => pts_nil) (fun _ _ _ _ _ => (pe_ifExp (pt_cmpR op_lt (pv 10) pe_int (nomark _)) (pe_cmpR op_eq (pv 10) pe_int (nomark _)) (pv 10)))) pa_nil)))) pa_nil)))
      (pss_cons (ps_expr (pe_bm PySem.F.plainAttrs_list PySem.F.slot_list_extend PySem.F.type_list_extend mt_extend (pv 7) (pa_cons (pe_lst (pa_cons (pe_lc (own := [("_law_row", 9)]) (g := gName 9) (tt := tYes) (te := (tTup (tCons (tVar 9) (tCons (tVar 9) tNil)))) rfl scBr.nd (pi_range1 (by rfl) B.range (pa_cons (pe_callB (call_min2 rfl) (by rfl) B.min PyProof.Rows.boot_min (pa_cons (pv 3) (pa_cons (pv 4) pa_nil))) pa_nil)) (blkOk_by (own := [("_law_row", 9)]) (N := nBr) (sc := defScope sBr) (by decide +kernel)) (fun _ _ _ _ _ => (pg_name (i := 9) scBr.nd rfl (Or.inl rfl))) (fun _ _ _ _ _ => pts_nil) (fun _ _ _ _ _ => (pe_tup (pa_cons (pv 9) (pa_cons (pv 9) pa_nil))))) (pa_cons (pe_callTy (GS.call_dictT rfl hu) (by rfl) B.dict PyProof.Rows.boot_dict (pa_cons (pe_lc (own := [("_law_place", 8)]) (g := gName 8) (tt := tYes) (te := (tTup (tCons (tVar 8) (tCons (tC (.bl true)) tNil)))) rfl scBr.nd (pi_list (pv 2)) (blkOk_by (own := [("_law_place", 8)]) (N := nBr) (sc := defScope sBr) (by decide +kernel)) (fun _ _ _ _ _ => (pg_name (i := 8) scBr.nd rfl (Or.inl rfl))) (fun _ _ _ _ _ => pts_nil) (fun _ _ _ _ _ => (pe_tup (pa_cons (pv 8) (pa_cons pe_bl pa_nil))))) pa_nil)) (pa_cons (pe_op op_cat (pv 2) (pe_lst (pa_cons pe_non pa_nil))) (pa_cons (pe_lst (pa_cons (pv 2) pa_nil)) (pa_cons (pe_tup (pa_cons (pv 2) (pa_cons (pv 2) pa_nil))) pa_nil)))))) pa_nil)))
      (pss_one (ps_ret (pe_op op_cat (pv 7) (pe_lc (own := [("_law_at", 6)]) (g := gName 6) (tt := tYes) (te := (tSl (rSlL K) (tVar 1) (tPart (tVar 6)) (tPart (tOp (rI0 fun i j => .int (i + j)) (tVar 6) (tCB (rLn K) (tCons (tVar 2) tNil)))))) rfl scBr.nd (pi_range1 (by rfl) B.range (pa_cons (pe_callB call_len_seq (by rfl) B.len PySem.boot_len (pa_cons (pv 1) pa_nil)) pa_nil)) (blkOk_by (own := [("_law_at", 6)]) (N := nBr) (sc := defScope sBr) (by decide +kernel)) (fun _ _ _ _ _ => (pg_name (i := 6) scBr.nd rfl (Or.inl rfl))) (fun _ _ _ _ _ => pts_nil) (fun _ _ _ _ _ => (pe_slice sl_list (pv 1) (po_some (pv 6)) (po_some (pe_op op_add (pv 6) (pe_callB call_len_seq (by rfl) B.len PySem.boot_len (pa_cons (pv 2) pa_nil))))))))))))))), ?_⟩
  obtain ⟨pot, v1, v2, t, w, ps, tl, rfl, a1, a2, hb, hne, hl4, hin, hnd, hp, kk⟩ := h
  have start : Gm (Sp1 pot) H (L2.start nBr [.ref pot, v1, v2, .int t, .int w]) [none, some (.list (psD ps)), some (.list (psD tl)), some (N t), some (N w), none, none, none, none, none, none] := ⟨rfl, fun i d hd => by
    match i, hd with
    | 0, hd => cases hd
    | 1, hd => cases hd; exact ⟨_, rfl, a1⟩
    | 2, hd => cases hd; exact ⟨_, rfl, a2⟩
    | 3, hd => cases hd; exact ⟨_, rfl, .int _⟩
    | 4, hd => cases hd; exact ⟨_, rfl, .int _⟩
    | 5, hd => cases hd
    | 6, hd => cases hd
    | 7, hd => cases hd
    | 8, hd => cases hd
    | 9, hd => cases hd
    | 10, hd => cases hd
    | i + 11, hd => cases hd⟩
  refine (?_ : StR pot _ _ (fun d => ∃ ds, d = .list ds ∧ (∀ x ∈ ds, Fn C 1000 5 x) ∧ ds.length ≤ 100)) H _ _ hp start rfl ?_
  rotate_left
  · rintro v H' d ⟨ds, rfl, h1, h2⟩ k p a
    exact kk H' v ds k p a h1 h2
  have t4 := hb.t4
  have w4 := hb.w4
  have n1 := hb.n1
  have n16 := hb.n16
  have s4 : ∀ p ∈ ps, p.1 < 4 ∧ p.2 < 4 := fun p hp => by
    have := hb.inn p hp
    omega
  have l4 : ∀ p ∈ tl, p.1 < 4 ∧ p.2 < 4 := fun p hp => s4 p (hin p hp)
  have hl1 : 1 ≤ tl.length := List.length_pos_iff.mpr hne
  have hlT : (psD tl).length = tl.length := len_psD tl
  have hlP : (psD ps).length = ps.length := len_psD ps
  have sl : ∀ {n : Nat}, n ≤ 1000 → n ≤ sizeLine := fun h => Nat.le_trans h (by decide)
  have c0 := cut_len (psD tl)
  have c1 := cut_len (psD ps)
  refine StR.parD (R := fun x y => (∃ p, p ∈ ps ∧ x = pD p) ∧ ∃ k, k < tl.length ∧ y = N k) (by decide) (by decide) (fun S H σ hS l p e z Q q => EvAD.cons (.pick (.var rfl) n1 (by omega)) (.cons (.draw (n := tl.length) (.eq (.len (.var rfl)) (by rw [hlT])) hl1 (by omega)) .nil) S H σ hS l p e z Q fun H' vs ds k p' c a => q H' vs ds k p' ?_ a) ?_
  · obtain ⟨x, _, rfl, hx, y, _, rfl, hy, rfl⟩ := c
    exact ⟨x, y, rfl, hx, hy⟩
  rintro _ _ ⟨⟨o, ho, rfl⟩, at_, hat, rfl⟩
  have e1 : ((at_ : Int) + 1) = ((at_ + 1 : Nat) : Int) := by omega
  refine StR.newM (show (7 : Nat) < 11 by decide) (fun d z => by cases z) (.cons (.var rfl) (.cons (.revL (.var rfl)) (.cons (.tupleOf (.var rfl)) (.cons (.slice (.var rfl) (.some (.int 1)) .none) (.cons (.slice (.var rfl) .none (.some (EvG.neg (.int 1)))) (.cons (.op (.var rfl) (.slice (.var rfl) .none (.some (.int 1))) (.cat (sl (by have := c0 none (some 1); omega)))) (.cons (.op (.var rfl) (.lst (.cons (.var rfl) .nil) (sl one_k)) (.cat (sl (by rw [hlT]; show _ + 1 ≤ _; omega)))) (.cons (.op (.op (.slice (.var rfl) .none (.some (.var rfl))) (.lst (.cons (.var rfl) .nil) (sl one_k)) (.cat (sl (by have := c0 none (some (at_ : Int)); show _ + 1 ≤ _; omega)))) (.slice (.var rfl) (.some (.op (.var rfl) (.int 1) .add)) .none) (.cat (sl (by have h1 := c0 none (some (at_ : Int)); have h2 := c0 (some ((at_ : Int) + 1)) none; rw [List.length_append]; show _ + 1 + _ ≤ _; omega)))) .nil)))))))) (sl (by show 8 ≤ 1000; decide)) fun L => ?_
  -- lists, turned, longer, shorter places
  have pl8 : ∀ (p : Pl), [none, some (PyData.list (psD ps)), some (.list (psD tl)), some (N t), some (N w), some (pD o), some (N at_), none, some (pD p), none, none][8]? = some (some (pD p)) := fun p => rfl
  have i0 : ∀ {g : List (Option PyData)} {p : Pl}, g[8]? = some (some (pD p)) → EvG (tOp (rIxT K) (tVar 8) (tC (.int 0))) g (N p.1) := fun h => .op (.var h) (.int 0) (.ixT (j := 0) rfl)
  have i1 : ∀ {g : List (Option PyData)} {p : Pl}, g[8]? = some (some (pD p)) → EvG (tOp (rIxT K) (tVar 8) (tC (.int 1))) g (N p.2) := fun h => .op (.var h) (.int 1) (.ixT (j := 1) rfl)
  refine StM.extend (.lst (.cons (.mapX (zs := tl) pD (fun p => .list [N p.1, N p.2]) (.list (.var rfl)) (by omega) fun p _ => ⟨_, _, .name, fun j h => h, .listOfT (.var rfl)⟩) (.cons (.mapX (zs := tl) pD (fun p => .tuple [N p.2, N p.1]) (.list (.var rfl)) (by omega) fun p _ => ⟨_, _, .name, fun j h => h, .tup (.cons (i1 rfl) (.cons (i0 rfl) .nil)) two_line'⟩) (.cons (.mapX (zs := tl) pD (fun p => .tuple ([N p.1, N p.2] ++ [.int 0])) (.list (.var rfl)) (by omega) fun p _ => ⟨_, _, .name, fun j h => h, .op (.var rfl) (.tup (.cons (.int 0) .nil) (sl one_k)) (.catT (xs := [N p.1, N p.2]) (ys := [.int 0]) (by simp) (by simp) (sl three_k))⟩) (.cons (.mapX (zs := tl) pD (fun p => .tuple (cutD [N p.1, N p.2] none (some 1))) (.list (.var rfl)) (by omega) fun p _ => ⟨_, _, .name, fun j h => h, .sliceT (.var rfl) .none (.some (.int 1))⟩) .nil)))) (sl (by show 4 ≤ 1000; decide))) (sl (by show 8 + 4 ≤ 1000; decide)) ?_
  refine StM.extend (.lst (.cons (.mapX (zs := tl) pD (fun p => .tuple [ratD C (low (p.1 : Int) 1), N p.2]) (.list (.var rfl)) (by omega) fun p _ => ⟨_, _, .name, fun j h => h, .tup (.cons (EvG.make1 (i0 rfl)) (.cons (i1 rfl) .nil)) two_line'⟩) (.cons (.mapX (zs := tl) pD (fun p => .tuple [.int ((p.1 : Int) + (t : Int)), N p.2]) (.list (.var rfl)) (by omega) fun p _ => ⟨_, _, .name, fun j h => h, .tup (.cons (.op (i0 rfl) (.var rfl) .add) (.cons (i1 rfl) .nil)) two_line'⟩) (.cons (.mapX (zs := tl) pD (fun p => .tuple [N p.1, .int (0 - (p.2 : Int))]) (.list (.var rfl)) (by omega) fun p _ => ⟨_, _, .name, fun j h => h, .tup (.cons (i0 rfl) (.cons (.op (.int 0) (i1 rfl) .sub) .nil)) two_line'⟩) .nil))) (sl (by show 3 ≤ 1000; decide))) (sl (by show 8 + 4 + 3 ≤ 1000; decide)) ?_
  refine StM.append (.mapX (zs := tl) pD (fun p => .tuple ([p.1, p.2].map smD)) (.list (.var rfl)) (by omega) fun p _ => ⟨_, _, .name, fun j h => h, .tupleOf (.mapX (zs := [p.1, p.2]) N smD (.tuple (.var rfl)) (by show 2 < 1000000; decide) fun n _ => ⟨_, _, .name, fun j h => h, .ite (.tst (.op (.var rfl) (.int 2) .lt)) (fun _ => .op (.var rfl) (.int 1) .eqI) fun _ => .var rfl⟩)⟩) (Nat.lt_of_lt_of_le (by show 8 + 4 + 3 < 1000; decide) (by decide)) ?_
  obtain ⟨p0, tl', etl⟩ : ∃ p0 tl', tl = p0 :: tl' := by
    cases tl with
    | nil => exact absurd rfl hne
    | cons p q => exact ⟨p, q, rfl⟩
  have ekeys : tl.map (fun p => PyData.tuple [pD p, .bool true]) = ([(p0.1 : Int), (p0.2 : Int)] :: tl'.map fun p => [(p.1 : Int), (p.2 : Int)]).map fun k => .tuple [.tuple (k.map .int), .bool true] := by
    rw [etl, List.map_cons, List.map_cons, List.map_map]
    rfl
  have hkn : ([(p0.1 : Int), (p0.2 : Int)] :: tl'.map fun p : Pl => [(p.1 : Int), (p.2 : Int)]).Nodup := by
    have : (tl.map fun p : Pl => [(p.1 : Int), (p.2 : Int)]).Nodup := by
      show (tl.map _).Pairwise (· ≠ ·)
      rw [List.pairwise_map]
      refine List.Pairwise.imp (fun {a b} hne z => hne ?_) hnd
      simp only [List.cons.injEq, and_true] at z
      exact Prod.ext (by omega) (by omega)
    rw [etl] at this
    exact this
  have emin : PyData.int (if (w : Int) < (t : Int) then (w : Int) else (t : Int)) = N (if w < t then w else t) := by
    by_cases h : w < t
    · rw [if_pos h, if_pos (by omega)]
    · rw [if_neg h, if_neg (by omega)]
  have hmin : (if w < t then w else t) ≤ 4 := by split <;> omega
  refine StM.extend (.lst (.cons (.map (fun d => .tuple [d, d]) (.range (.cons (.eq (.min2 (.var rfl) (.var rfl)) emin) .nil) (by omega)) (by show ((List.range _).map _).length < _; rw [List.length_map, List.length_range]; omega) fun i d hd => ⟨_, _, .name, fun j h => h, .tup (.cons (.var rfl) (.cons (.var rfl) .nil)) two_line'⟩) (.cons (.dictT (.eq (.mapX (zs := tl) pD (fun p => .tuple [pD p, .bool true]) (.list (.var rfl)) (by omega) fun p _ => ⟨_, _, .name, fun j h => h, .tup (.cons (.var rfl) (.cons (.bl true) .nil)) two_line'⟩) (by rw [ekeys])) hkn) (.cons (.op (.var rfl) (.lst (.cons .non .nil) (sl one_k)) (.cat (sl (by rw [hlT]; show _ + 1 ≤ _; omega)))) (.cons (.lst (.cons (.var rfl) .nil) (sl one_k)) (.cons (.tup (.cons (.var rfl) (.cons (.var rfl) .nil)) two_line') .nil))))) (sl (by show 5 ≤ 1000; decide))) (sl (by show 8 + 4 + 3 + 1 + 5 ≤ 1000; decide)) ?_
  refine StM.ret (.op (.var rfl) (.map (fun d => match d with | .int i => .list (cutD (psD ps) (some i) (some (i + ((psD tl).length : Nat)))) | _ => .none) (.range (n := ps.length) (.cons (.eq (.len (.var rfl)) (by rw [hlP])) .nil) (by omega)) (by show ((List.range _).map _).length < _; rw [List.length_map, List.length_range]; omega) fun i d hd => ?_) (.cat (sl ?_))) ⟨_, rfl, ?_, ?_⟩
  · obtain ⟨n, rfl⟩ : ∃ n : Int, d = .int n := by
      have h' : ((List.range ps.length).map fun (i : Nat) => PyData.int (0 + (i : Int)))[i]? = some d := hd
      rw [List.getElem?_map] at h'
      cases hp : (List.range ps.length)[i]? with
      | none => rw [hp] at h'; cases h'
      | some x => rw [hp] at h'; exact ⟨_, (Option.some.inj h').symm⟩
    exact ⟨_, _, .name, fun j h => h, .slice (.var rfl) (.some (.var rfl)) (.some (.op (.var rfl) (.len (.var rfl)) .add))⟩
  · rw [List.length_map, show (rngD 0 ps.length).length = ps.length by simp [rngD]]
    show 8 + 4 + 3 + 1 + 5 + ps.length ≤ 1000
    omega
  · have fT := fn_psD (C := C) l4
    have fP := fn_psD (C := C) s4
    have fo : Fn C 3 1 (pD o) := fn_pD (s4 o ho)
    have cT : ∀ {lo hi : Option Int}, ∀ x ∈ cutD (psD tl) lo hi, Fn C 3 1 x := fun x hx => fT x (cut_mem hx)
    have l1 : ∀ {x : PyData}, Fn C 3 1 x → ∀ y ∈ [x], Fn C 3 1 y := fun h => al_cons h al_nil
    have pairN : ∀ {x y : PyData}, Fn C 1 0 x → Fn C 1 0 y → Fn C 203 3 (.tuple [x, y]) := fun hx hy => (Fn.tup (m := 2) (al_cons hx (al_cons hy al_nil)) (Nat.le_refl _)).mono (by decide) (by decide)
    have mapF : ∀ {f : Pl → PyData}, (∀ p ∈ tl, Fn C 203 3 (f p)) → Fn C 1000 5 (.list (tl.map f)) := fun h => fn_list (al_map h) (by rw [List.length_map]; omega)
    have nP : ∀ p ∈ tl, Fn C 1 0 (N p.1) ∧ Fn C 1 0 (N p.2) := fun p hp => by
      have := l4 p hp
      exact ⟨fn_N (by omega), fn_N (by omega)⟩
    refine al_app (al_app (al_app (al_app (al_app (al_cons (fn_places fT (by omega)) (al_cons (fn_places (fun x hx => fT x (List.mem_reverse.mp hx)) (by rw [List.length_reverse]; omega)) (al_cons (fn_placesT fT (by omega)) (al_cons (fn_places cT (by have := c0 (some 1) none; omega)) (al_cons (fn_places cT (by have := c0 none (some (-1)); omega)) (al_cons (fn_places (al_app fT cT) (by rw [List.length_append]; have := c0 none (some 1); omega)) (al_cons (fn_places (al_app fT (l1 fo)) (by rw [List.length_append]; show _ + 1 ≤ _; omega)) (al_cons (fn_places (al_app (al_app cT (l1 fo)) cT) (by rw [List.length_append, List.length_append]; have h1 := c0 none (some (at_ : Int)); have h2 := c0 (some ((at_ : Int) + 1)) none; show _ + 1 + _ ≤ _; omega)) al_nil)))))))) ?_) ?_) ?_) ?_) ?_
    · refine al_cons (mapF fun p hp => (Fn.lst (m := 2) (al_cons (nP p hp).1 (al_cons (nP p hp).2 al_nil)) (Nat.le_refl _)).mono (by decide) (by decide)) (al_cons (mapF fun p hp => pairN (nP p hp).2 (nP p hp).1) (al_cons (mapF fun p hp => (Fn.tup (m := 3) (al_app (al_cons (nP p hp).1 (al_cons (nP p hp).2 al_nil)) (al_cons (Fn.int (by decide)) al_nil)) (Nat.le_refl _)).mono (by decide) (by decide)) (al_cons (mapF fun p hp => (Fn.tup (a := 1) (k := 0) (m := 2) (fun x hx => al_cons (P := Fn C 1 0) (nP p hp).1 (al_cons (nP p hp).2 al_nil) x (cut_mem hx)) (by have := cut_len [N p.1, N p.2] none (some 1); exact this)).mono (by decide) (by decide)) al_nil)))
    · refine al_cons (mapF fun p hp => ?_) (al_cons (mapF fun p hp => pairN (Fn.int ?_) (nP p hp).2) (al_cons (mapF fun p hp => pairN (nP p hp).1 (Fn.int ?_)) al_nil))
      · have := l4 p hp
        exact (Fn.tup (m := 2) (al_cons (Fn.rat (ratOk (by omega))) (al_cons ((nP p hp).2.mono (by decide) (by decide)) al_nil)) (Nat.le_refl _)).mono (by decide) (by decide)
      · have := l4 p hp
        omega
      · have := l4 p hp
        omega
    · refine al_cons (mapF fun p hp => ?_) al_nil
      have sm : ∀ n : Nat, n < 4 → Fn C 1 0 (smD n) := fun n h => by
        unfold smD
        split
        · exact Fn.bool _
        · exact fn_N (by omega)
      have := l4 p hp
      exact pairN (sm _ this.1) (sm _ this.2)
    · refine al_cons (fn_list (al_map fun d hd => ?_) (by rw [List.length_map, show (rngD 0 (if w < t then w else t)).length = (if w < t then w else t) by simp [rngD]]; exact hmin)) (al_cons ?_ (al_cons (fn_places (al_app fT (al_cons (Fn.none.mono (by decide) (by decide)) al_nil)) (by rw [List.length_append, hlT]; show _ + 1 ≤ 40; omega)) (al_cons ?_ (al_cons ?_ al_nil))))
      · obtain ⟨n, hn, rfl⟩ := List.mem_map.mp hd
        have := List.mem_range.mp hn
        have fi : Fn C 1 0 (.int (0 + (n : Int))) := Fn.int (by omega)
        exact pairN fi fi
      · refine (Fn.dT (fun q hq => ?_) ?_).mono (by decide) (by decide)
        · have hq' : q ∈ tl.map fun p : Pl => [(p.1 : Int), (p.2 : Int)] := by
            rw [etl]
            exact hq
          obtain ⟨p, hp, rfl⟩ := List.mem_map.mp hq'
          have := l4 p hp
          refine ⟨rfl, fun i hi => ?_⟩
          rcases List.mem_cons.mp hi with rfl | hi
          · omega
          · rw [List.mem_singleton.mp hi]
            omega
        · rw [List.length_cons, List.length_map]
          rw [etl, List.length_cons] at hl4
          omega
      · exact (Fn.lst (m := 1) (al_cons (Fn.lst fT (m := 4) (by omega)) al_nil) (Nat.le_refl _)).mono (by decide) (by decide)
      · exact (Fn.tup (m := 2) (al_cons (Fn.lst fT (m := 4) (by omega)) (al_cons (Fn.lst fT (m := 4) (by omega)) al_nil)) (Nat.le_refl _)).mono (by decide) (by decide)
    · refine al_map fun d hd => ?_
      obtain ⟨n, _, rfl⟩ := List.mem_map.mp hd
      exact fn_places (fun x hx => fP x (cut_mem hx)) (by have := c1 (some (0 + (n : Int))) (some (0 + (n : Int) + ((psD tl).length : Nat))); omega)
  · rw [List.length_append, List.length_map, show (rngD 0 ps.length).length = ps.length by simp [rngD]]
    show 8 + 4 + 3 + 1 + 5 + ps.length ≤ 100
    omega
end
end K73

set_option Elab.async false
set_option linter.all false
set_option maxRecDepth 100000
set_option maxHeartbeats 4000000
/-! Values out of covers, bent: the list of them. -/
namespace K73
open PySem L2 GD RQ
/-- as StM, and the pot is drawn from on the way -/
def StP (pot L : Addr) (i : Nat) (ts : TS) (γ : List (Option PyData)) (cur : List PyData) (r : PyData → Prop) : Prop := ∀ H σ D xs, PotAt H pot → L ≠ pot → H L = some (.lst xs) → Avs (SD (Sp1 pot) L) H xs cur → Gm (SD (Sp1 pot) L) H σ γ → σ[i]? = some (some (.ref L)) → σ[0]? = some (some (.ref pot)) →
  (∀ v H' d, r d → (∀ b o, b ≠ L → ¬ Sp1 pot b → H b = some o → H' b = some o) → PotAt H' pot → Av (Sp1 pot) H' v d → D.rt v H') → ts D σ H
section
variable {pot L : Addr} {i : Nat} {γ : List (Option PyData)} {K : PySem.W.Frag} {te : TE} {rest : TS} {cur ys : List PyData} {x y : PyData} {r C' : PyData → Prop}
theorem PotAt.updL {H : Hp} {o : HO} (p : PotAt H pot) (n : L ≠ pot) : PotAt (upd H L o) pot := by
  obtain ⟨a, b, f, g⟩ := p
  exact ⟨a, b, by rw [upd_ne (Ne.symm n)]; exact f, g⟩
theorem StP.extend (h : EvG te γ (.list ys)) (hz : cur.length + ys.length ≤ sizeLine) (hn : StP pot L i rest γ (cur ++ ys) r) : StP pot L i (tSeq (tDrop (tBM K "list" rExtend (tVar i) (tCons te tNil))) rest) γ cur r := fun H σ D xs p nL hL ha e hi h0 k => by
  refine ⟨_, hi, .inl ⟨rfl, _, SqL.of hL⟩, ?_⟩
  refine h (SD (Sp1 pot) L) H σ (live_SD p.live hL) e _ fun H1 v s1 av => ?_
  cases av with
  | lst n f hs =>
    rename_i zs
    have ha1 := ha.same s1
    have hL1 := s1 _ _ hL
    refine ⟨L, _, xs, zs, rfl, rfl, hL1, f, by rw [ha1.len, hs.len]; exact hz, ?_⟩
    exact hn _ σ D (xs ++ zs) (PotAt.updL (p.same s1) nL) nL upd_same ((ha1.app hs).keep kp_L) ((e.same s1).keep kp_L) hi h0 fun v H' d hd kk p' a => k v H' d hd (fun b o nb np e' => kk b o nb np (by rw [upd_ne nb]; exact s1 _ _ e')) p' a
theorem StP.setD {j : Nat} (hj : j ≠ 0) (hji : j ≠ i) (h : EvD pot te γ C') (hn : ∀ d, C' d → StP pot L i rest (γ.set j (some d)) cur r) : StP pot L i (tSeq (tAsg te (gName j)) rest) γ cur r := fun H σ D xs p nL hL ha e hi h0 k =>
  h (SD (Sp1 pot) L) H σ (.inl rfl) (live_SD p.live hL) p e h0 _ fun H1 v d k1 p1 c av => by
    have kS : Kp (SD (Sp1 pot) L) H H1 := kp1 (.inl rfl) k1
    have hL1 : H1 L = some (.lst xs) := k1 L _ nL hL
    exact hn d c H1 _ D xs p1 nL hL1 (ha.keep kS) ((e.keep kS).set j av) (by rw [List.getElem?_set_ne hji]; exact hi) (set0 hj h0) fun v H' d' hd kk p' a => k v H' d' hd (fun b o nb np e' => kk b o nb np (k1 b o np e')) p' a
theorem StP.ret (h : EvG te (γ.set i (some (.list cur))) x) (hx : r x) : StP pot L i (tRet te) γ cur r := fun H σ D xs p nL hL ha e hi h0 k => by
  have e1 : Gm (Sp1 pot) H σ (γ.set i (some (.list cur))) := Gm.learn (Gm.sub (fun X h => .inl h) e) hi (.lst nL hL (ha.less fun X h => .inl h))
  exact h (Sp1 pot) H σ p.live e1 _ fun H' v s a => k v H' x hx (fun b o _ _ e' => s b o e') (p.same s) a
theorem StR.newP {ta : TA} {ds : List PyData} (hi : i < γ.length) (h0 : ∀ d, γ[i]? ≠ some (some d)) (hi0 : i ≠ 0) (h : EvA ta γ ds) (hz : ds.length ≤ sizeLine) (hn : ∀ L, StP pot L i rest γ ds r) : StR pot (tSeq (tAsg (tLst ta) (gName i)) rest) γ r := fun H σ D p e z k =>
  h (Sp1 pot) H σ p.live e _ fun H1 vs s1 avs => ⟨by rw [avs.len]; exact hz, fun L nL => by
    have sL := same_new (o := .lst vs) nL
    have nLp : ¬ Sp1 pot L := (p.live.same s1).new nL
    have p1 := (p.same s1).same sL
    have e1 : Gm (SD (Sp1 pot) L) (upd H1 L (.lst vs)) (σ.set i (some (.ref L))) γ := Gm.setNone (((e.same s1).fresh nL).same sL) h0
    refine hn L _ _ D vs p1 nLp upd_same ((avs.fresh nL).same sL) e1 (by rw [List.getElem?_set]; simp only [if_true]; rw [if_pos (by rw [e.len]; exact hi)]) (set0 hi0 z) fun v H' d hd kk p' a => ?_
    refine k v H' d hd (fun b o nb e' => ?_) p' a
    have e2 := s1 _ _ e'
    have nb2 : b ≠ L := ne_of_none e2 nL
    exact kk b o nb2 nb (by rw [upd_ne nb2]; exact e2)⟩
theorem StR.asg2 {i j : Nat} (hi : i ≠ 0) (hj : j ≠ 0) (h : EvG te γ (.tuple [x, y])) (hn : StR pot rest ((γ.set i (some x)).set j (some y)) r) : StR pot (tSeq (tAsg te (gTup K 2 (gCons (gName i) (gCons (gName j) gNil)))) rest) γ r := fun H σ D p e z k =>
  h (Sp1 pot) H σ p.live e _ fun H1 v s1 av => by
    cases av with
    | tup n f hs =>
      cases hs with
      | cons a1 r1 =>
        cases r1 with
        | cons a2 r2 =>
          cases r2
          exact ⟨_, _, rfl, SqT.of f, rfl, _, _, rfl, _, _, rfl, rfl, hn H1 _ D (p.same s1) (((e.same s1).set i a1).set j a2) (set0 hj (set0 hi z)) fun v H' d' hd k2 p2 a => k v H' d' hd ((Kp.of s1).trans k2) p2 a⟩
theorem EvD.lst {tr : TA} {R : List PyData → Prop} (h : EvAD pot tr γ R) (hz : ∀ ds, R ds → ds.length ≤ sizeLine) : EvD pot (tLst tr) γ (fun d => ∃ ds, d = .list ds ∧ R ds) := fun S H σ hS l p e z Q q =>
  h S H σ hS l p e z _ fun H1 vs ds k1 p1 c avs => ⟨by rw [avs.len]; exact hz ds c, fun a na => q _ _ _ (k1.trans (Kp.of (same_new na))) (p1.same (same_new na)) ⟨ds, rfl, c⟩ (.lst ((live_kp l k1 p1).new na) upd_same (avs.same (same_new na)))⟩
theorem EvG.listRg {n : Nat} (h : EvG te γ (N n)) (hn : n ≤ 1000) : EvG (tLstRg (tRg1 te)) γ (.list (rngD 0 n)) := fun S H σ l e Q q =>
  h S H σ l e _ fun H1 v s1 av => by
    cases av
    refine ⟨_, rfl, RgOk.of_le (by decide) (by omega) (by decide) (by omega), fun p np => q _ _ (s1.trans (same_new np)) (.lst ((l.same s1).new np) upd_same ?_)⟩
    have : ∀ (xs : List Nat) (H' : Hp), Avs S H' (xs.map fun i => V.int (0 + (i : Nat))) (xs.map fun (i : Nat) => PyData.int (0 + (i : Int))) := fun xs H' => by
      induction xs with
      | nil => exact .nil
      | cons x xs ih => exact .cons (.int _) ih
    have e2 : ((n : Int) - 0).toNat = n := by omega
    show Avs S _ (rgV 0 n) (rngD 0 n)
    unfold rgV
    rw [e2]
    exact this _ _
end
structure SpBc (C : Addr) (vs : List V) (H : Hp) (Q : VK) (E : XK) : Prop where
  ex : ∃ (pot : Addr) (v1 : V) (t w : Nat) (rows cols : List Nat), vs = [.ref pot, v1, .int t, .int w] ∧ Av (Sp1 pot) H v1 (.tuple [.list (nsD rows), .list (nsD cols)]) ∧ 1 ≤ t ∧ t ≤ 4 ∧ 1 ≤ w ∧ w ≤ 4 ∧ rows.length ≤ 4 ∧ (∀ x ∈ rows, x < 4) ∧ cols.length ≤ 4 ∧ (∀ x ∈ cols, x < 4) ∧ PotAt H pot ∧
    ∀ H' v ds, Kp (Sp1 pot) H H' → PotAt H' pot → Av (Sp1 pot) H' v (.list ds) → (∀ d ∈ ds, Fn C 1000 5 d) → ds.length ≤ 100 → Q v H'
section
variable {C : Addr}
theorem fn2 {x y : PyData} (hx : Fn C 405 3 x) (hy : Fn C 405 3 y) : Fn C 1000 5 (.tuple [x, y]) := (Fn.tup (m := 2) (al_cons hx (al_cons hy al_nil)) (Nat.le_refl _)).mono (by decide) (by decide)
theorem fnI {xs : List PyData} (h : ∀ x ∈ xs, Fn C 1 0 x) (hl : xs.length ≤ 40) : Fn C 405 3 (.list xs) := (Fn.lst h hl).mono (by decide) (by decide)
theorem fnIT {xs : List PyData} (h : ∀ x ∈ xs, Fn C 1 0 x) (hl : xs.length ≤ 40) : Fn C 405 3 (.tuple xs) := (Fn.tup h hl).mono (by decide) (by decide)
theorem fn_nsD {ns : List Nat} (h : ∀ x ∈ ns, x < 4) : ∀ x ∈ nsD ns, Fn C 1 0 x := al_map fun n hn => fn_N (by have := h n hn; omega)
theorem fn_rng {n : Nat} (h : n ≤ 4) : ∀ x ∈ rngD 0 n, Fn C 1 0 x := al_map fun i hi => Fn.int (by have := List.mem_range.mp hi; omega)
end
section
variable {P : Program} {w : World} {K : PySem.W.Frag} {mg : Str → Option Value} {base : Heap} {C : Addr}
abbrev nBc : List Str := ["_law_pot_here", "_law_told", "_law_tall", "_law_wide", "_law_rows", "_law_columns", "_law_found", "_law_out", "_law_row", "_law_number", "_law_column"]
theorem scBc : FnScope nBc ["_law_pot_here", "_law_told", "_law_tall", "_law_wide"] (defScope sBc) := ⟨rfl, rfl, rfl, by decide +kernel, rfl, by decide +kernel, by decide +kernel⟩
theorem ok_bc {f : Addr} {fd : FuncData} (F : Fun K "_law_bent_covers" "_law_bent_covers" sBc f fd) (D : Mkr P w K mg base C) (dDr : Dn P w K mg base 1 "_law_draw" ["_law_pot_here", "_law_many"] SpDraw) : FnOk P w K mg base CX0 4 f fd ["_law_pot_here", "_law_told", "_law_tall", "_law_wide"] (SpBc C) := by
  refine F.ok scBc (fun vs H Q E h => ?_) (fun cdv A outer s H vs Q E hr h => ?_)
  · obtain ⟨pot, v1, t, w, rows, cols, rfl, _⟩ := h
    rfl
  have B := D.B
  have hu65 := u65 hr
  have hu := Nat.lt_of_succ_lt hu65
  refine ⟨_, pss_cons (ps_asg (pv 1) (pg_tup rfl (pgs_cons (pg_name (i := 4) scBc.nd rfl (Or.inl rfl)) (pgs_cons (pg_name (i := 5) scBc.nd rfl (Or.inl rfl)) pgs_nil))))
      (pss_cons (ps_set (i := 6) scBc.nd rfl (Or.inl rfl) (pe_lst (pa_cons (pv 1) (pa_cons (pe_tup (pa_cons (pe_revL (pv 4)) (pa_cons (pe_revL (pv 5)) pa_nil))) (pa_cons (pe_tup (pa_cons (pe_callTy call_tuple_of (by rfl) B.tuple PyProof.Rows.boot_tuple (pa_cons (pv 4) pa_nil)) (pa_cons (pe_callTy call_tuple_of (by rfl) B.tuple PyProof.Rows.boot_tuple (pa_cons (pv 5) pa_nil)) pa_nil))) (pa_cons (pe_lst (pa_cons (pv 4) (pa_cons (pv 5) pa_nil))) (pa_cons (pe_tup (pa_cons (pv 4) (pa_cons (pv 5) (pa_cons (pe_lst pa_nil) pa_nil)))) (pa_cons (pe_tup (pa_cons (pv 4) pa_nil)) (pa_cons (pe_tup (pa_cons (pv 5) (pa_cons (pv 4) pa_nil))) pa_nil)))))))))
      (pss_cons (ps_expr (pe_bm PySem.F.plainAttrs_list PySem.F.slot_list_extend PySem.F.type_list_extend mt_extend (pv 6) (pa_cons (pe_lst (pa_cons (pe_tup (pa_cons (pe_op op_cat (pv 4) (pe_slice sl_list (pv 4) po_none (po_some pe_int))) (pa_cons (pv 5) pa_nil))) (pa_cons (pe_tup (pa_cons (pv 4) (pa_cons (pe_op op_cat (pv 5) (pe_slice sl_list (pv 5) po_none (po_some pe_int))) pa_nil))) (pa_cons (pe_tup (pa_cons (pe_slice sl_list (pv 4) (po_some pe_int) po_none) (pa_cons (pv 5) pa_nil))) (pa_cons (pe_tup (pa_cons (pv 4) (pa_cons (pe_slice sl_list (pv 5) (po_some pe_int) po_none) pa_nil))) (pa_cons (pe_tup (pa_cons (pe_op op_cat (pv 4) (pe_lst (pa_cons (pv 2) pa_nil))) (pa_cons (pe_slice sl_list (pv 5) (po_some pe_int) po_none) pa_nil))) pa_nil)))))) pa_nil)))
      (pss_cons (ps_expr (pe_bm PySem.F.plainAttrs_list PySem.F.slot_list_extend PySem.F.type_list_extend mt_extend (pv 6) (pa_cons (pe_lst (pa_cons (pe_tup (pa_cons (pe_listRg rfl (by rfl) B.list (prg_1 (by rfl) B.range (pv 2))) (pa_cons (pe_lst pa_nil) pa_nil))) (pa_cons (pe_tup (pa_cons (pe_lst pa_nil) (pa_cons (pe_listRg rfl (by rfl) B.list (prg_1 (by rfl) B.range (pv 3))) pa_nil))) (pa_cons (pe_tup (pa_cons (pe_lst pa_nil) (pa_cons (pe_lst pa_nil) pa_nil))) (pa_cons (pe_tup (pa_cons (pv 4) (pa_cons pe_non pa_nil))) (pa_cons (pe_tup (pa_cons pe_non (pa_cons (pv 5) pa_nil))) (pa_cons (pe_tup (pa_cons (pe_lc (own := [("_law_row", 8)]) (g := gName 8) (tt := tYes) (te := (tLst (tCons (tVar 8) tNil))) rfl scBc.nd (pi_list (pv 4)) (blkOk_by (own := [("_law_row", 8)]) (N := nBc) (sc := defScope sBc) (by decide +kernel)) (fun _ _ _ _ _ => (pg_name (i := 8) scBc.nd rfl (Or.inl rfl))) (fun _ _ _ _ _ => pts_nil) (fun _ _ _ _ _ => (pe_lst (pa_cons (pv 8) pa_nil)))) (pa_cons (pv 5) pa_nil))) pa_nil))))))) pa_nil)))
      (pss_cons (ps_expr (pe_bm PySem.F.plainAttrs_list PySem.F.slot_list_extend PySem.F.type_list_extend mt_extend (pv 6) (pa_cons (pe_lst (pa_cons (pe_tup (pa_cons (pe_lc (own := [("_law_number", 9)]) (g := gName 9) (tt := tYes) (te := (tIf (tTest (tOp (rI0 fun i j => .bl (decide (i < j))) (tVar 9) (tC (.int 2)))) (tOp rEq (tVar 9) (tC (.int 1))) (tVar 9))) rfl scBc.nd (pi_list (pv 4)) (blkOk_by (own := [("_law_number", 9)]) (N := nBc) (sc := defScope sBc) (by decide +kernel)) (fun _ _ _ _ _ => (pg_name (i := 9) scBc.nd rfl (Or.inl rfl))) (fun _ _ _ _ _ => pts_nil) (fun _ _ _ _ _ => (pe_ifExp (pt_cmpR op_lt (pv 9) pe_int (nomark _)) (pe_cmpR op_eq (pv 9) pe_int (nomark _)) (pv 9)))) (pa_cons (pv 5) pa_nil))) (pa_cons (pe_tup (pa_cons (pv 4) (pa_cons (pe_lc (own := [("_law_number", 9)]) (g := gName 9) (tt := tYes) (te := (tMake C (SpInit C) [.int 1] E0 (tCons (tVar 9) tNil))) rfl scBc.nd (pi_list (pv 5)) (blkOk_by (own := [("_law_number", 9)]) (N := nBc) (sc := defScope sBc) (by decide +kernel)) (fun _ _ _ _ _ => (pg_name (i := 9) scBc.nd rfl (Or.inl rfl))) (fun _ _ _ _ _ => pts_nil) (fun _ _ _ _ _ => (pe_make (E := E0) D.M D.G0 (hr.mono (by decide)) rfl D.R.mg_ D.b1 D.v1 pass0 (pa_cons (pv 9) pa_nil)))) pa_nil))) pa_nil))) pa_nil)))
      (pss_cons (ps_expr (pe_bm PySem.F.plainAttrs_list PySem.F.slot_list_extend PySem.F.type_list_extend mt_extend (pv 6) (pa_cons (pe_lst (pa_cons (pe_tup (pa_cons (pv 4) (pa_cons (pe_callTy (call_dictP rfl) (by rfl) B.dict PyProof.Rows.boot_dict (pa_cons (pe_lc (own := [("_law_number", 9)]) (g := gName 9) (tt := tYes) (te := (tTup (tCons (tVar 9) (tCons (tC (.bl true)) tNil)))) rfl scBc.nd (pi_list (pv 5)) (blkOk_by (own := [("_law_number", 9)]) (N := nBc) (sc := defScope sBc) (by decide +kernel)) (fun _ _ _ _ _ => (pg_name (i := 9) scBc.nd rfl (Or.inl rfl))) (fun _ _ _ _ _ => pts_nil) (fun _ _ _ _ _ => (pe_tup (pa_cons (pv 9) (pa_cons pe_bl pa_nil))))) pa_nil)) pa_nil))) (pa_cons (pe_tup (pa_cons (pe_lc (own := [("_law_number", 9)]) (g := gName 9) (tt := tYes) (te := (tOp (rI0 fun i j => .int (i - j)) (tC (.int 0)) (tVar 9))) rfl scBc.nd (pi_list (pv 4)) (blkOk_by (own := [("_law_number", 9)]) (N := nBc) (sc := defScope sBc) (by decide +kernel)) (fun _ _ _ _ _ => (pg_name (i := 9) scBc.nd rfl (Or.inl rfl))) (fun _ _ _ _ _ => pts_nil) (fun _ _ _ _ _ => (pe_op op_sub pe_int (pv 9)))) (pa_cons (pv 5) pa_nil))) (pa_cons (pe_tup (pa_cons (pv 4) (pa_cons (pe_lc (own := [("_law_number", 9)]) (g := gName 9) (tt := tYes) (te := (tOp (rI0 fun i j => .int (i - j)) (tOp (rI0 fun i j => .int (i - j)) (tVar 3) (tC (.int 1))) (tVar 9))) rfl scBc.nd (pi_list (pv 5)) (blkOk_by (own := [("_law_number", 9)]) (N := nBc) (sc := defScope sBc) (by decide +kernel)) (fun _ _ _ _ _ => (pg_name (i := 9) scBc.nd rfl (Or.inl rfl))) (fun _ _ _ _ _ => pts_nil) (fun _ _ _ _ _ => (pe_op op_sub (pe_op op_sub (pv 3) pe_int) (pv 9)))) pa_nil))) pa_nil)))) pa_nil)))
      (pss_cons (ps_set (i := 7) scBc.nd rfl (Or.inr rfl) (pe_lst (pa_cons (pe_call dDr.G (hr.mono (by decide)) (by rfl) dDr.m dDr.k dDr.b .nil pass0 (pa_cons (pv 0) (pa_cons (pv 2) pa_nil))) (pa_cons (pe_call dDr.G (hr.mono (by decide)) (by rfl) dDr.m dDr.k dDr.b .nil pass0 (pa_cons (pv 0) (pa_cons (pv 3) pa_nil))) pa_nil))))
      (pss_one (ps_ret (pe_op op_cat (pv 6) (pe_lst (pa_cons (pe_tup (pa_cons (pe_lc (own := [("_law_row", 8)]) (g := gName 8) (tt := (tTest (tOp rNe (tVar 8) (tOp (rIxL K) (tVar 7) (tC (.int 0)))))) (te := (tVar 8)) rfl scBc.nd (pi_range1 (by rfl) B.range (pa_cons (pv 2) pa_nil)) (blkOk_by (own := [("_law_row", 8)]) (N := nBc) (sc := defScope sBc) (by decide +kernel)) (fun _ _ _ _ _ => (pg_name (i := 8) scBc.nd rfl (Or.inl rfl))) (fun _ _ _ _ _ => (pts_one (pt_cmpR op_ne (pv 8) (pe_ix ix_list (pv 7) pe_int (fun _ _ => rfl)) (nomark _)))) (fun _ _ _ _ _ => (pv 8))) (pa_cons (pe_lst pa_nil) pa_nil))) (pa_cons (pe_tup (pa_cons (pe_lst pa_nil) (pa_cons (pe_lc (own := [("_law_column", 10)]) (g := gName 10) (tt := (tTest (tOp rNe (tVar 10) (tOp (rIxL K) (tVar 7) (tC (.int 1)))))) (te := (tVar 10)) rfl scBc.nd (pi_range1 (by rfl) B.range (pa_cons (pv 3) pa_nil)) (blkOk_by (own := [("_law_column", 10)]) (N := nBc) (sc := defScope sBc) (by decide +kernel)) (fun _ _ _ _ _ => (pg_name (i := 10) scBc.nd rfl (Or.inl rfl))) (fun _ _ _ _ _ => (pts_one (pt_cmpR op_ne (pv 10) (pe_ix ix_list (pv 7) pe_int (fun _ _ => rfl)) (nomark _)))) (fun _ _ _ _ _ => (pv 10))) pa_nil))) (pa_cons (pe_tup (pa_cons (pe_lst (pa_cons (pe_ix ix_list (pv 7) pe_int (fun _ _ => rfl)) pa_nil)) (pa_cons (pe_lst (pa_cons (pe_ix ix_list (pv 7) pe_int (fun _ _ => rfl)) pa_nil)) pa_nil))) pa_nil))))))))))))), ?_⟩
  obtain ⟨pot, v1, t, w, rows, cols, rfl, a1, t1, t4, w1, w4, lr, br, lc, bc, hp, kk⟩ := h
  have start : Gm (Sp1 pot) H (L2.start nBc [.ref pot, v1, .int t, .int w]) [none, some (.tuple [.list (nsD rows), .list (nsD cols)]), some (N t), some (N w), none, none, none, none, none, none, none] := ⟨rfl, fun i d hd => by
    match i, hd with
    | 0, hd => cases hd
    | 1, hd => cases hd; exact ⟨_, rfl, a1⟩
    | 2, hd => cases hd; exact ⟨_, rfl, .int _⟩
    | 3, hd => cases hd; exact ⟨_, rfl, .int _⟩
    | 4, hd => cases hd
    | 5, hd => cases hd
    | 6, hd => cases hd
    | 7, hd => cases hd
    | 8, hd => cases hd
    | 9, hd => cases hd
    | 10, hd => cases hd
    | i + 11, hd => cases hd⟩
  refine (?_ : StR pot _ _ (fun d => ∃ ds, d = .list ds ∧ (∀ x ∈ ds, Fn C 1000 5 x) ∧ ds.length ≤ 100)) H _ _ hp start rfl ?_
  rotate_left
  · rintro v H' d ⟨ds, rfl, h1, h2⟩ k p a
    exact kk H' v ds k p a h1 h2
  have sl : ∀ {n : Nat}, n ≤ 1000 → n ≤ sizeLine := fun h => Nat.le_trans h (by decide)
  have hR : (nsD rows).length = rows.length := len_nsD rows
  have hC : (nsD cols).length = cols.length := len_nsD cols
  have cR := cut_len (nsD rows)
  have cC := cut_len (nsD cols)
  refine StR.asg2 (by decide) (by decide) (.var rfl) ?_
  refine StR.newP (show (6 : Nat) < 11 by decide) (by intro d z; cases z) (by decide) (.cons (.var rfl) (.cons (.tup (.cons (.revL (.var rfl)) (.cons (.revL (.var rfl)) .nil)) two_line') (.cons (.tup (.cons (.tupleOf (.var rfl)) (.cons (.tupleOf (.var rfl)) .nil)) two_line') (.cons (.lst (.cons (.var rfl) (.cons (.var rfl) .nil)) two_line') (.cons (.tup (.cons (.var rfl) (.cons (.var rfl) (.cons (.lst .nil (by decide)) .nil))) (sl three_k)) (.cons (.tup (.cons (.var rfl) .nil) (sl one_k)) (.cons (.tup (.cons (.var rfl) (.cons (.var rfl) .nil)) two_line') .nil))))))) (sl (by show 7 ≤ 1000; decide)) fun L => ?_
  refine StP.extend (.lst (.cons (.tup (.cons (.op (.var rfl) (.slice (.var rfl) .none (.some (.int 1))) (.cat (sl (by have := cR none (some 1); omega)))) (.cons (.var rfl) .nil)) two_line') (.cons (.tup (.cons (.var rfl) (.cons (.op (.var rfl) (.slice (.var rfl) .none (.some (.int 1))) (.cat (sl (by have := cC none (some 1); omega)))) .nil)) two_line') (.cons (.tup (.cons (.slice (.var rfl) (.some (.int 1)) .none) (.cons (.var rfl) .nil)) two_line') (.cons (.tup (.cons (.var rfl) (.cons (.slice (.var rfl) (.some (.int 1)) .none) .nil)) two_line') (.cons (.tup (.cons (.op (.var rfl) (.lst (.cons (.var rfl) .nil) (sl one_k)) (.cat (sl (by rw [hR]; show _ + 1 ≤ _; omega)))) (.cons (.slice (.var rfl) (.some (.int 1)) .none) .nil)) two_line') .nil))))) (sl (by show 5 ≤ 1000; decide))) (sl (by show 7 + 5 ≤ 1000; decide)) ?_
  refine StP.extend (.lst (.cons (.tup (.cons (EvG.listRg (.var rfl) (by omega)) (.cons (.lst .nil (by decide)) .nil)) two_line') (.cons (.tup (.cons (.lst .nil (by decide)) (.cons (EvG.listRg (.var rfl) (by omega)) .nil)) two_line') (.cons (.tup (.cons (.lst .nil (by decide)) (.cons (.lst .nil (by decide)) .nil)) two_line') (.cons (.tup (.cons (.var rfl) (.cons .non .nil)) two_line') (.cons (.tup (.cons .non (.cons (.var rfl) .nil)) two_line') (.cons (.tup (.cons (.mapX (zs := rows) N (fun n => .list [N n]) (.list (.var rfl)) (by omega) fun n _ => ⟨_, _, .name, fun j h => h, .lst (.cons (.var rfl) .nil) (sl one_k)⟩) (.cons (.var rfl) .nil)) two_line') .nil)))))) (sl (by show 6 ≤ 1000; decide))) (sl (by show 7 + 5 + 6 ≤ 1000; decide)) ?_
  refine StP.extend (.lst (.cons (.tup (.cons (.mapX (zs := rows) N smD (.list (.var rfl)) (by omega) fun n _ => ⟨_, _, .name, fun j h => h, .ite (.tst (.op (.var rfl) (.int 2) .lt)) (fun _ => .op (.var rfl) (.int 1) .eqI) fun _ => .var rfl⟩) (.cons (.var rfl) .nil)) two_line') (.cons (.tup (.cons (.var rfl) (.cons (.mapX (zs := cols) N (fun n => ratD C (low (n : Int) 1)) (.list (.var rfl)) (by omega) fun n _ => ⟨_, _, .name, fun j h => h, EvG.make1 (.var rfl)⟩) .nil)) two_line') .nil)) two_line') (sl (by show 7 + 5 + 6 + 2 ≤ 1000; decide)) ?_
  have ekc : cols.map (fun n => PyData.tuple [N n, .bool true]) = (toI cols).map fun k => .tuple [.int k, .bool true] := by
    rw [List.map_map]
    rfl
  refine StP.extend (.lst (.cons (.tup (.cons (.var rfl) (.cons (.dictOf (.eq (.mapX (zs := cols) N (fun n => .tuple [N n, .bool true]) (.list (.var rfl)) (by omega) fun n _ => ⟨_, _, .name, fun j h => h, .tup (.cons (.var rfl) (.cons (.bl true) .nil)) two_line'⟩) (by rw [ekc]))) .nil)) two_line') (.cons (.tup (.cons (.mapX (zs := rows) N (fun n => .int (0 - (n : Int))) (.list (.var rfl)) (by omega) fun n _ => ⟨_, _, .name, fun j h => h, .op (.int 0) (.var rfl) .sub⟩) (.cons (.var rfl) .nil)) two_line') (.cons (.tup (.cons (.var rfl) (.cons (.mapX (zs := cols) N (fun n => .int ((w : Int) - 1 - (n : Int))) (.list (.var rfl)) (by omega) fun n _ => ⟨_, _, .name, fun j h => h, .op (.op (.var rfl) (.int 1) .sub) (.var rfl) .sub⟩) .nil)) two_line') .nil))) (sl three_k)) (sl (by show 7 + 5 + 6 + 2 + 3 ≤ 1000; decide)) ?_
  refine StP.setD (by decide) (by decide) (EvD.lst (.cons (.draw (.var rfl) t1 (by omega)) (.cons (.draw (.var rfl) w1 (by omega)) .nil)) (by
    rintro ds ⟨a, _, e, _, b, _, e2, _, e3⟩
    rw [e, e2, e3]
    exact two_line')) ?_
  rintro d ⟨_, rfl, _, _, rfl, ⟨o1, ho1, rfl⟩, _, _, rfl, ⟨o2, ho2, rfl⟩, rfl⟩
  have rngI : ∀ {m i : Nat} {d : PyData}, (rngD 0 m)[i]? = some d → ∃ n : Int, d = .int n := fun {m i d} hd => by
    have h' : ((List.range m).map fun (i : Nat) => PyData.int (0 + (i : Int)))[i]? = some d := hd
    rw [List.getElem?_map] at h'
    cases hp : (List.range m)[i]? with
    | none => rw [hp] at h'; cases h'
    | some x => rw [hp] at h'; exact ⟨_, (Option.some.inj h').symm⟩
  have lrng : ∀ m : Nat, (rngD 0 m).length = m := fun m => by simp [rngD]
  let fne : Nat → PyData → Bool := fun o d => match d with | .int n => !decide (n = (o : Int)) | _ => false
  have n1 := fun (h : t ≤ 1000) => lrng t
  refine StP.ret (.op (.var rfl) (.lst (.cons (.tup (.cons (.lc (fne o1) (fun d => d) (.range (.cons (.var rfl) .nil) (by omega)) (by rw [lrng]; omega) fun i d hd => ?_) (.cons (.lst .nil (by decide)) .nil)) two_line') (.cons (.tup (.cons (.lst .nil (by decide)) (.cons (.lc (fne o2) (fun d => d) (.range (.cons (.var rfl) .nil) (by omega)) (by rw [lrng]; omega) fun i d hd => ?_) .nil)) two_line') (.cons (.tup (.cons (.lst (.cons (.op (.var rfl) (.int 0) (.ixL (j := 0) rfl)) .nil) (sl one_k)) (.cons (.lst (.cons (.op (.var rfl) (.int 1) (.ixL (j := 1) rfl)) .nil) (sl one_k)) .nil)) two_line') .nil))) (sl three_k)) (.cat (sl (by show 7 + 5 + 6 + 2 + 3 + 3 ≤ 1000; decide)))) ⟨_, rfl, ?_, by show 7 + 5 + 6 + 2 + 3 + 3 ≤ 100; decide⟩
  · obtain ⟨n, rfl⟩ := rngI hd
    exact ⟨_, _, .name, fun j h => h, .tst (.op (.var rfl) (.op (.var rfl) (.int 0) (.ixL (j := 0) rfl)) .neI), fun _ => .var rfl⟩
  · obtain ⟨n, rfl⟩ := rngI hd
    exact ⟨_, _, .name, fun j h => h, .tst (.op (.var rfl) (.op (.var rfl) (.int 1) (.ixL (j := 1) rfl)) .neI), fun _ => .var rfl⟩
  · have fR := fn_nsD (C := C) br
    have fC := fn_nsD (C := C) bc
    have pR : Fn C 405 3 (.list (nsD rows)) := fnI fR (by omega)
    have pC : Fn C 405 3 (.list (nsD cols)) := fnI fC (by omega)
    have p0 : Fn C 405 3 (.list []) := fnI al_nil (by decide)
    have pN : Fn C 405 3 .none := Fn.none.mono (by decide) (by decide)
    have cutR : ∀ {lo hi : Option Int}, ∀ x ∈ cutD (nsD rows) lo hi, Fn C 1 0 x := fun x hx => fR x (cut_mem hx)
    have cutC : ∀ {lo hi : Option Int}, ∀ x ∈ cutD (nsD cols) lo hi, Fn C 1 0 x := fun x hx => fC x (cut_mem hx)
    have m0R : ∀ {g : Nat → PyData}, (∀ n, n < 4 → Fn C 1 0 (g n)) → Fn C 405 3 (.list (rows.map g)) := fun h => fnI (al_map fun n hn => h n (br n hn)) (by rw [List.length_map]; omega)
    have m0C : ∀ {g : Nat → PyData}, (∀ n, n < 4 → Fn C 1 0 (g n)) → Fn C 405 3 (.list (cols.map g)) := fun h => fnI (al_map fun n hn => h n (bc n hn)) (by rw [List.length_map]; omega)
    refine al_app (al_app (al_app (al_app (al_app ?_ ?_) ?_) ?_) ?_) ?_
    · refine al_cons (fn2 pR pC) (al_cons (fn2 (fnI (fun x hx => fR x (List.mem_reverse.mp hx)) (by rw [List.length_reverse]; omega)) (fnI (fun x hx => fC x (List.mem_reverse.mp hx)) (by rw [List.length_reverse]; omega))) (al_cons (fn2 (fnIT fR (by omega)) (fnIT fC (by omega))) (al_cons ((Fn.lst (m := 2) (al_cons pR (al_cons pC al_nil)) (Nat.le_refl _)).mono (by decide) (by decide)) (al_cons ((Fn.tup (a := 41) (k := 1) (m := 3) (al_cons ((Fn.lst (m := 40) fR (by omega)).mono (by decide) (by decide)) (al_cons ((Fn.lst (m := 40) fC (by omega)).mono (by decide) (by decide)) (al_cons ((Fn.lst (a := 1) (k := 0) (m := 40) al_nil (by decide)).mono (by decide) (by decide)) al_nil))) (Nat.le_refl _)).mono (by decide) (by decide)) (al_cons ((Fn.tup (m := 1) (al_cons pR al_nil) (Nat.le_refl _)).mono (by decide) (by decide)) (al_cons (fn2 pC pR) al_nil))))))
    · refine al_cons (fn2 (fnI (al_app fR cutR) (by rw [List.length_append]; have := cR none (some 1); omega)) pC) (al_cons (fn2 pR (fnI (al_app fC cutC) (by rw [List.length_append]; have := cC none (some 1); omega))) (al_cons (fn2 (fnI cutR (by have := cR (some 1) none; omega)) pC) (al_cons (fn2 pR (fnI cutC (by have := cC (some 1) none; omega))) (al_cons (fn2 (fnI (al_app fR (al_cons (fn_N (by omega)) al_nil)) (by rw [List.length_append, hR]; show _ + 1 ≤ 40; omega)) (fnI cutC (by have := cC (some 1) none; omega))) al_nil))))
    · refine al_cons (fn2 (fnI (fn_rng t4) (by rw [lrng]; omega)) p0) (al_cons (fn2 p0 (fnI (fn_rng w4) (by rw [lrng]; omega))) (al_cons (fn2 p0 p0) (al_cons (fn2 pR pN) (al_cons (fn2 pN pC) (al_cons (fn2 ?_ pC) al_nil)))))
      exact (Fn.lst (a := 2) (k := 1) (m := 4) (al_map fun n hn => (Fn.lst (m := 1) (al_cons (fn_N (by have := br n hn; omega)) al_nil) (Nat.le_refl _)).mono (by decide) (by decide)) (by rw [List.length_map]; omega)).mono (by decide) (by decide)
    · refine al_cons (fn2 (m0R fun n hn => ?_) pC) (al_cons (fn2 pR ?_) al_nil)
      · unfold smD
        split
        · exact Fn.bool _
        · exact fn_N (by omega)
      · exact (Fn.lst (a := 101) (k := 2) (m := 4) (al_map fun n hn => Fn.rat (ratOk (by have := bc n hn; omega))) (by rw [List.length_map]; omega)).mono (by decide) (by decide)
    · refine al_cons (fn2 pR ((Fn.dI (fun k hk => ?_) ?_).mono (by decide) (by decide))) (al_cons (fn2 (m0R fun n hn => Fn.int (by omega)) pC) (al_cons (fn2 pR (m0C fun n hn => Fn.int (by omega))) al_nil))
      · have hk' := (dk_mem (toI cols) [] k).mp hk
        rcases hk' with z | z
        · cases z
        · obtain ⟨n, hn, rfl⟩ := List.mem_map.mp z
          have := bc n hn
          omega
      · have := dk_nat_le cols
        omega
    · have fm : ∀ {o m : Nat}, m ≤ 4 → Fn C 405 3 (.list (((rngD 0 m).filter (fne o)).map fun d => d)) := fun {o m} hm => by
        rw [List.map_id']
        refine fnI (fun x hx => fn_rng hm x (List.mem_filter.mp hx).1) ?_
        have := List.length_filter_le (fne o) (rngD 0 m)
        rw [lrng] at this
        omega
      have l1 : ∀ {n : Nat}, n < 4 → Fn C 405 3 (.list [N n]) := fun h => fnI (al_cons (fn_N (by omega)) al_nil) (show (1 : Nat) ≤ 40 by decide)
      exact al_cons (fn2 (fm t4) p0) (al_cons (fn2 p0 (fm w4)) (al_cons (fn2 (l1 (by omega)) (l1 (by omega))) al_nil))
end
end K73

set_option Elab.async false
set_option linter.all false
set_option maxRecDepth 100000
set_option maxHeartbeats 4000000
/-! One board and all values. -/
namespace K73
open PySem L2 GD RQ
/-- an expression that draws, the pot alone being held -/
def EvP (pot : Addr) (te : TE) (γ : List (Option PyData)) (R : PyData → Prop) : Prop := ∀ H σ, PotAt H pot → Gm (Sp1 pot) H σ γ → σ[0]? = some (some (.ref pot)) → ∀ Q : VK, (∀ H' v d, Kp (Sp1 pot) H H' → PotAt H' pot → R d → Av (Sp1 pot) H' v d → Q v H') → te σ H Q
/-- statements that draw nothing and go on -/
def StN (pot : Addr) (ts : TS) (γ γ2 : List (Option PyData)) : Prop := ∀ H σ D, PotAt H pot → Gm (Sp1 pot) H σ γ → σ[0]? = some (some (.ref pot)) → (∀ σ' H', Same H H' → Gm (Sp1 pot) H' σ' γ2 → σ'[0]? = some (some (.ref pot)) → D.nx σ' H') → ts D σ H
section
variable {pot : Addr} {γ γ2 : List (Option PyData)} {K : PySem.W.Frag} {te ta tb : TE} {tt : TT} {x y d : PyData} {r : PyData → Prop} {rest t tbody : TS} {C : Addr} {R : List PyData → Prop}
theorem EvP.cat {xs : List PyData} (h : EvG ta γ (.list xs)) (h2 : EvP pot tb γ (fun d => ∃ ds, d = .list ds ∧ R ds)) (hz : ∀ ds, R ds → xs.length + ds.length ≤ sizeLine) : EvP pot (tOp rCat ta tb) γ (fun d => ∃ ds, d = .list (xs ++ ds) ∧ R ds) := fun H σ p e z Q q =>
  h (Sp1 pot) H σ p.live e _ fun H1 v s1 av => h2 H1 σ (p.same s1) (e.same s1) z _ fun H2 w d k2 p2 c aw => by
    obtain ⟨ds, rfl, hR⟩ := c
    exact OpG.cat (hz ds hR) (Sp1 pot) H2 v w p2.live (av.keep k2) aw _ fun H3 u s3 au => q H3 u _ ((Kp.of s1).trans (k2.trans (Kp.of s3))) (p2.same s3) ⟨ds, rfl, hR⟩ au
theorem StR.forP {j : Nat} (hj : j ≠ 0) (h : EvP pot te γ (fun d => ∃ ds, d = .list ds ∧ R ds)) (step : ∀ ds, R ds → ∀ d ∈ ds, StN pot tbody (γ.set j (some d)) γ) (hn : StR pot rest γ r) : StR pot (tSeq (tFor (iList K te) (gName j) tbody) rest) γ r := fun H σ D p e z k =>
  h H σ p e z _ fun H1 v d k1 p1 c av => by
    obtain ⟨ds, rfl, hR⟩ := c
    cases av with
    | lst n f hs =>
      refine ⟨_, rfl, ⟨_, SqL.of f⟩, ?_⟩
      have wk : WalkG (Sp1 pot) (Itl K _) H1 ds := .list f hs
      refine ⟨fun i m σ' H' => m = ds.length - i ∧ i ≤ ds.length ∧ Same H1 H' ∧ Gm (Sp1 pot) H' σ' γ ∧ σ'[0]? = some (some (.ref pot)), ⟨_, rfl, Nat.zero_le _, Same.refl _, e.keep k1, z⟩, ?_⟩
      rintro i m σ' H' ⟨rfl, hi', ss, e', z'⟩
      by_cases hlt : i < ds.length
      · refine .inr ⟨wk.go i H' hlt ss, fun σ3 H3 => i + 1 ≤ ds.length ∧ Same H1 H3 ∧ Gm (Sp1 pot) H3 σ3 γ ∧ σ3[0]? = some (some (.ref pot)), fun σ3 H3 q => ⟨_, by omega, rfl, q⟩, fun x H'' y => ?_⟩
        obtain ⟨d, hd, s2, ax⟩ := wk.yld i H' x H'' (p1.same ss).live ss y
        exact step ds hR d (List.mem_of_getElem? (hd hlt)) H'' _ _ (p1.same (ss.trans s2)) ((e'.same s2).set j (ax hlt)) (set0 hj z') fun σ3 H3 s3 e3 z3 => ⟨hlt, ss.trans (s2.trans s3), e3, z3⟩
      · have e2 : i = ds.length := by omega
        subst e2
        exact .inl ⟨wk.stop H' ss, hn H' σ' D (p1.same ss) e' z' fun v H2 d' hd k2 p2 a => k v H2 d' hd (k1.trans ((Kp.of ss).trans k2)) p2 a⟩
theorem StN.par {i j : Nat} {ta : TA} (hi : i ≠ 0) (hj : j ≠ 0) (h : EvA ta γ [x, y]) (hn : StN pot rest ((γ.set i (some x)).set j (some y)) γ2) : StN pot (tSeq (tPar i j ta) rest) γ γ2 := fun H σ D p e z k =>
  h (Sp1 pot) H σ p.live e _ fun H1 vs s1 av => by
    cases av with
    | cons a r1 =>
      cases r1 with
      | cons b r2 =>
        cases r2
        exact ⟨_, _, rfl, hn H1 _ D (p.same s1) (((e.same s1).set i a).set j b) (set0 hj (set0 hi z)) fun σ' H' s2 => k σ' H' (s1.trans s2)⟩
theorem StN.set {i : Nat} (hi : i ≠ 0) (h : EvG te γ x) (hn : StN pot rest (γ.set i (some x)) γ2) : StN pot (tSeq (tAsg te (gName i)) rest) γ γ2 := fun H σ D p e z k =>
  h (Sp1 pot) H σ p.live e _ fun H1 v s1 av => hn H1 _ D (p.same s1) ((e.same s1).set i av) (set0 hi z) fun σ' H' s2 => k σ' H' (s1.trans s2)
theorem StN.ifEnd (hc : EvB tt γ false) (hl : Le γ2 γ) : StN pot (tIfS tt t tNext) γ γ2 := fun H σ D p e z k =>
  hc (Sp1 pot) H σ p.live e _ fun H1 s1 => by
    rw [if_neg Bool.false_ne_true]
    exact k σ H1 s1 ((e.same s1).less hl) z
theorem EvG.reprT {X : Cx} (o : ok C d) (hw : wt d ≤ sizeLine) (hr : Room (dp d + 3) X.A) (h : EvG te γ d) : EvG (tCB (rReprT X C) (tCons te tNil)) γ (.str (txt d)) := fun S H σ l e Q q =>
  h S H σ l e _ fun H1 v s1 av => ⟨S, v, d, rfl, av, o, hw, hr, q _ _ s1 (.str _)⟩
theorem rp2 (b : Bool) : Rp (.list [.bool b, .bool b]) := by
  cases b <;> exact ⟨.inl ⟨_, rfl⟩, rfl, rfl, rfl, by decide, by decide +kernel⟩
theorem EvP.br {tc td : TE} {E : XK} {t w : Nat} {ps tl : List Pl} (h1 : EvG ta γ (.list (psD ps))) (h2 : EvG tb γ (.list (psD tl))) (h3 : EvG tc γ (N t)) (h4 : EvG td γ (N w)) (hb : Board t w ps) (n0 : tl ≠ []) (n4 : tl.length ≤ 4) (sub : ∀ p ∈ tl, p ∈ ps) (nd : tl.Nodup) :
    EvP pot (tCall (SpBr C) [] E (tCons (tVar 0) (tCons ta (tCons tb (tCons tc (tCons td tNil)))))) γ (fun d => ∃ ds, d = .list ds ∧ (∀ x ∈ ds, Fn C 1000 5 x) ∧ ds.length ≤ 100) := fun H σ p e z Q q =>
  ⟨_, z, h1 (Sp1 pot) H σ p.live e _ fun H1 v1 s1 a1 => h2 (Sp1 pot) H1 σ (p.live.same s1) (e.same s1) _ fun H2 v2 s2 a2 => h3 (Sp1 pot) H2 σ (p.live.same (s1.trans s2)) (e.same (s1.trans s2)) _ fun H3 v3 s3 a3 => h4 (Sp1 pot) H3 σ (p.live.same (s1.trans (s2.trans s3))) (e.same (s1.trans (s2.trans s3))) _ fun H4 v4 s4 a4 => by
    cases a3
    cases a4
    exact ⟨pot, v1, v2, t, w, ps, tl, rfl, a1.same (s2.trans (s3.trans s4)), a2.same (s3.trans s4), hb, n0, n4, sub, nd, p.same (s1.trans (s2.trans (s3.trans s4))), fun H' v ds k p' a f l => q H' v _ ((Kp.of (s1.trans (s2.trans (s3.trans s4)))).trans k) p' ⟨ds, rfl, f, l⟩ a⟩⟩
theorem EvP.bc {tc td : TE} {E : XK} {t w : Nat} {rows cols : List Nat} (h1 : EvG ta γ (.tuple [.list (nsD rows), .list (nsD cols)])) (h3 : EvG tc γ (N t)) (h4 : EvG td γ (N w)) (t1 : 1 ≤ t) (t4 : t ≤ 4) (w1 : 1 ≤ w) (w4 : w ≤ 4) (lr : rows.length ≤ 4) (br : ∀ x ∈ rows, x < 4) (lc : cols.length ≤ 4) (bc : ∀ x ∈ cols, x < 4) :
    EvP pot (tCall (SpBc C) [] E (tCons (tVar 0) (tCons ta (tCons tc (tCons td tNil))))) γ (fun d => ∃ ds, d = .list ds ∧ (∀ x ∈ ds, Fn C 1000 5 x) ∧ ds.length ≤ 100) := fun H σ p e z Q q =>
  ⟨_, z, h1 (Sp1 pot) H σ p.live e _ fun H1 v1 s1 a1 => h3 (Sp1 pot) H1 σ (p.live.same s1) (e.same s1) _ fun H3 v3 s3 a3 => h4 (Sp1 pot) H3 σ (p.live.same (s1.trans s3)) (e.same (s1.trans s3)) _ fun H4 v4 s4 a4 => by
    cases a3
    cases a4
    exact ⟨pot, v1, t, w, rows, cols, rfl, a1.same (s3.trans s4), t1, t4, w1, w4, lr, br, lc, bc, p.same (s1.trans (s3.trans s4)), fun H' v ds k p' a f l => q H' v _ ((Kp.of (s1.trans (s3.trans s4))).trans k) p' ⟨ds, rfl, f, l⟩ a⟩⟩
theorem StR.board {E : XK} (hn : ∀ t w ps, Board t w ps → StR pot rest (((γ.set 1 (some (N t))).set 2 (some (N w))).set 3 (some (.list (psD ps)))) r) : StR pot (tSeq (tAsg (tCall SpBoard [] E (tCons (tVar 0) (tCons (tC (.int 4)) tNil))) (gTup K 3 (gCons (gName 1) (gCons (gName 2) (gCons (gName 3) gNil))))) rest) γ r := fun H σ D p e z k =>
  ⟨_, z, ⟨pot, rfl, p, fun H1 v t w ps hb k1 p1 av => by
    cases av with
    | tup n f hs =>
      cases hs with
      | cons a1 r1 =>
        cases r1 with
        | cons a2 r2 =>
          cases r2 with
          | cons a3 r3 =>
            cases r3
            exact ⟨_, _, rfl, SqT.of f, rfl, _, _, rfl, _, _, rfl, _, _, rfl, rfl, hn t w ps hb H1 _ D p1 ((((e.keep k1).set 1 a1).set 2 a2).set 3 a3) (set0 (by decide) (set0 (by decide) (set0 (by decide) z))) fun v H' d' hd k2 p2 a => k v H' d' hd (k1.trans k2) p2 a⟩⟩⟩
end
/-- values of other kinds -/
def plainD (C : Addr) : List PyData := [.none, .int 0, .bool true, .str "", .str "ab", dctD [], .list [], .tuple [], ratD C (low 1 1), .list [.none], .tuple [.list [.none], .list []], .list [.list []], .tuple [.int 0, .int 0], .list [.int 0], .tuple [.str "", .str ""]]
section
variable {C : Addr}
theorem fn_plain : ∀ x ∈ plainD C, Fn C 1000 5 x := by
  have e0 : Fn C 1 0 (.str "") := .str (by decide +kernel)
  have e1 : Fn C 1 0 (.str "ab") := .str (by decide +kernel)
  have i0 : Fn C 1 0 (.int 0) := .int (by decide)
  have up : ∀ {a k : Nat} {d : PyData}, Fn C a k d → a ≤ 1000 → k ≤ 5 → Fn C 1000 5 d := fun h a b => h.mono a b
  have l0 : Fn C 1 1 (.list []) := (Fn.lst (a := 0) (k := 0) (m := 0) al_nil (Nat.le_refl _)).mono (by decide) (by decide)
  have ln : Fn C 2 1 (.list [.none]) := (Fn.lst (a := 1) (k := 0) (m := 1) (al_cons Fn.none al_nil) (Nat.le_refl _)).mono (by decide) (by decide)
  refine al_cons (up Fn.none (by decide) (by decide)) (al_cons (up i0 (by decide) (by decide)) (al_cons (up (Fn.bool _) (by decide) (by decide)) (al_cons (up e0 (by decide) (by decide)) (al_cons (up e1 (by decide) (by decide)) (al_cons (up (Fn.dI (fun k hk => by cases hk) (by decide)) (by decide) (by decide)) (al_cons (up l0 (by decide) (by decide)) (al_cons ?_ (al_cons (up (Fn.rat (ratOk (n := 1) (by decide))) (by decide) (by decide)) (al_cons (up ln (by decide) (by decide)) (al_cons ?_ (al_cons ?_ (al_cons ?_ (al_cons ?_ (al_cons ?_ al_nil))))))))))))))
  · exact up (Fn.tup (a := 0) (k := 0) (m := 0) al_nil (Nat.le_refl _)) (by decide) (by decide)
  · exact up (Fn.tup (a := 2) (k := 1) (m := 2) (al_cons ln (al_cons (l0.mono (by decide) (by decide)) al_nil)) (Nat.le_refl _)) (by decide) (by decide)
  · exact up (Fn.lst (a := 1) (k := 1) (m := 1) (al_cons l0 al_nil) (Nat.le_refl _)) (by decide) (by decide)
  · exact up (Fn.tup (a := 1) (k := 0) (m := 2) (al_cons i0 (al_cons i0 al_nil)) (Nat.le_refl _)) (by decide) (by decide)
  · exact up (Fn.lst (a := 1) (k := 0) (m := 1) (al_cons i0 al_nil) (Nat.le_refl _)) (by decide) (by decide)
  · exact up (Fn.tup (a := 1) (k := 0) (m := 2) (al_cons e0 (al_cons e0 al_nil)) (Nat.le_refl _)) (by decide) (by decide)
theorem nc_items {d : PyData} {a : Nat} (h : nc d ≤ a) : (itemsD d).length ≤ a ∧ ∀ x ∈ itemsD d, nc x ≤ a := by
  cases d with
  | list xs =>
    have h' : ncs xs + 1 ≤ a := h
    exact ⟨by have := ncs_len xs; show xs.length ≤ a; omega, fun x hx => by have := ncs_mem (xs := xs) hx; omega⟩
  | tuple xs =>
    have h' : ncs xs + 1 ≤ a := h
    exact ⟨by have := ncs_len xs; show xs.length ≤ a; omega, fun x hx => by have := ncs_mem (xs := xs) hx; omega⟩
  | _ => exact ⟨Nat.zero_le _, fun x hx => by cases hx⟩
end
theorem raw0 {P : Program} {w : World} {K : PySem.W.Frag} {mg : Str → Option Value} {base : Heap} {k : Nat} {f : Addr} {fd : FuncData} {ps : List Str} {sp : Sp} (F : FnOk P w K mg base CX0 k f fd ps sp) (b : Binds K fd ps []) : FnR P w K mg base CX0 k f sp :=
  (F.raw b .nil).imp fun vs H Q E h => by simpa using h
/-- a def that is called by keywords too -/
structure DnK (P : Program) (w : World) (K : PySem.W.Frag) (mg : Str → Option Value) (base : Heap) (lv : Nat) (x : Str) (ps : List Str) (sp : Sp) extends Dn P w K mg base lv x ps sp where
  bk : KBn K fd ps 0 ps.reverse (fun us ws => us ++ ws.reverse) (fun vs zs => vs ++ zs.reverse)
structure SpRi (vs : List V) (H : Hp) (Q : VK) (E : XK) : Prop where
  ex : ∃ pot : Addr, vs = [.ref pot] ∧ PotAt H pot ∧ ∀ H', Kp (Sp1 pot) H H' → PotAt H' pot → Q (.bl true) H'
section
variable {P : Program} {w : World} {K : PySem.W.Frag} {mg : Str → Option Value} {base : Heap} {C : Addr}
abbrev nRi : List Str := ["_law_pot_here", "_law_tall", "_law_wide", "_law_places", "_law_due", "_law_plain", "_law_value", "_law_shown", "_law_seen", "_law_told"]
theorem scRi : FnScope nRi ["_law_pot_here"] (defScope sRi) := ⟨rfl, rfl, rfl, by decide +kernel, rfl, by decide +kernel, by decide +kernel⟩
theorem ok_ri {f : Addr} {fd : FuncData} (F : Fun K "_law_right" "_law_right" sRi f fd) (D : Mkr P w K mg base C) (dBo : Dn P w K mg base 2 "_law_board" ["_law_pot_here", "_law_most_here"] SpBoard)
    (dMo : Dn P w K mg base 5 "_law_most" ["_law_tall", "_law_places", "_law_row", "_law_used"] (SpG Fmo4)) (dRk : Dn P w K mg base 7 "rooks" ["tall", "wide", "places"] (SpG Frk)) (dCv : Dn P w K mg base 7 "cover" ["tall", "wide", "places"] (SpG Fcv))
    (gIr : DnK P w K mg base 8 "is_rooks" ["tall", "wide", "places", "value"] (SpG (GirG C))) (gIc : DnK P w K mg base 8 "is_cover" ["tall", "wide", "places", "value"] (SpG (GicG C)))
    (gRs : Dn P w K mg base 3 "_law_rooks_seen" ["_law_places", "_law_due", "_law_value"] (SpG (GrsG C))) (gCvs : Dn P w K mg base 3 "_law_cover_seen" ["_law_tall", "_law_wide", "_law_places", "_law_due", "_law_value"] (SpG (GcsG C)))
    (dBr : Dn P w K mg base 4 "_law_bent_rooks" ["_law_pot_here", "_law_places", "_law_told", "_law_tall", "_law_wide"] (SpBr C)) (dBc : Dn P w K mg base 4 "_law_bent_covers" ["_law_pot_here", "_law_told", "_law_tall", "_law_wide"] (SpBc C))
    {gR : Addr} {fdR : FuncData} (GR : FnOk P w K mg base CX0 1 gR fdR ["self"] (SpText C)) (cR : OneC K C gR "__repr__") (bR : Binds K fdR ["self"] []) :
    FnG P w K mg base 10 f fd ["_law_pot_here"] SpRi := by
  refine okG F scRi (fun vs H Q E h => ?_) (fun cdv A outer s H vs Q E hgd hr h => ?_)
  · obtain ⟨pot, rfl, _⟩ := h
    rfl
  have B := D.B
  have hu65 := u65 hr
  have hu := Nat.lt_of_succ_lt hu65
  refine ⟨_, pss_cons (ps_asg (pe_call dBo.G (hr.mono (by decide)) (by rfl) dBo.m dBo.k dBo.b .nil pass0 (pa_cons (pv 0) (pa_cons pe_int pa_nil))) (pg_tup rfl (pgs_cons (pg_name (i := 1) scRi.nd rfl (Or.inl rfl)) (pgs_cons (pg_name (i := 2) scRi.nd rfl (Or.inl rfl)) (pgs_cons (pg_name (i := 3) scRi.nd rfl (Or.inl rfl)) pgs_nil)))))
      (pss_cons (ps_par (i := 4) (j := 5) rfl scRi.nd rfl rfl (by decide) rfl rfl (pa_cons (pe_call dMo.G (hr.mono (by decide)) (by rfl) dMo.m dMo.k dMo.b .nil pass0 (pa_cons (pv 1) (pa_cons (pv 3) (pa_cons pe_int (pa_cons (pe_lst pa_nil) pa_nil))))) (pa_cons (pe_lst (pa_cons pe_non (pa_cons pe_int (pa_cons pe_bl (pa_cons pe_str (pa_cons pe_str (pa_cons pe_dnewK (pa_cons (pe_lst pa_nil) (pa_cons (pe_tup pa_nil) (pa_cons (pe_make (E := E0) D.M D.G0 (hr.mono (by decide)) rfl D.R.mg_ D.b1 D.v1 pass0 (pa_cons pe_int pa_nil)) (pa_cons (pe_lst (pa_cons pe_non pa_nil)) (pa_cons (pe_tup (pa_cons (pe_lst (pa_cons pe_non pa_nil)) (pa_cons (pe_lst pa_nil) pa_nil))) (pa_cons (pe_lst (pa_cons (pe_lst pa_nil) pa_nil)) (pa_cons (pe_tup (pa_cons pe_int (pa_cons pe_int pa_nil))) (pa_cons (pe_lst (pa_cons pe_int pa_nil)) (pa_cons (pe_tup (pa_cons pe_str (pa_cons pe_str pa_nil))) pa_nil)))))))))))))))) pa_nil)) (by rfl))
      (pss_cons (ps_for PassesOwn.never rfl (pi_list (pe_op op_cat (pv 5) (pe_call dBr.G (hr.mono (by decide)) (by rfl) dBr.m dBr.k dBr.b .nil pass0 (pa_cons (pv 0) (pa_cons (pv 3) (pa_cons (pe_call dRk.G (hr.mono (by decide)) (by rfl) dRk.m dRk.k dRk.b .nil pass0 (pa_cons (pv 1) (pa_cons (pv 2) (pa_cons (pv 3) pa_nil)))) (pa_cons (pv 1) (pa_cons (pv 2) pa_nil)))))))) (pg_name (i := 6) scRi.nd rfl (Or.inl rfl)) (pss_cons (ps_par (i := 7) (j := 8) rfl scRi.nd rfl rfl (by decide) rfl rfl (pa_cons (pe_callB (call_reprT (C := C) hgd cR (raw0 GR bR)) (by rfl) B.repr PyProof.Rows.boot_repr (pa_cons (pv 6) pa_nil)) (pa_cons (pe_call gRs.G (hr.mono (by decide)) (by rfl) gRs.m gRs.k gRs.b .nil pass0 (pa_cons (pv 3) (pa_cons (pv 4) (pa_cons (pv 6) pa_nil)))) pa_nil)) (by rfl))
      (pss_cons (ps_set (i := 9) scRi.nd rfl (Or.inl rfl) (pe_lst (pa_cons (pe_call gIr.G (hr.mono (by decide)) (by rfl) gIr.m gIr.k gIr.b .nil pass0 (pa_cons (pv 1) (pa_cons (pv 2) (pa_cons (pv 3) (pa_cons (pv 6) pa_nil))))) (pa_cons (pe_callK0 (E := E0) gIr.G (hr.mono (by decide)) (by rfl) gIr.m gIr.k gIr.bk pass0 (pk_cons (pv 6) (pk_cons (pv 3) (pk_cons (pv 2) (pk_cons (pv 1) pk_nil))))) pa_nil))))
      (pss_one (ps_if (pw_or (pt_cmpR op_ne (pe_callB (call_reprD hgd hu) (by rfl) B.repr PyProof.Rows.boot_repr (pa_cons (pv 9) pa_nil)) (pe_callB (call_reprD hgd hu) (by rfl) B.repr PyProof.Rows.boot_repr (pa_cons (pe_lst (pa_cons (pv 8) (pa_cons (pv 8) pa_nil))) pa_nil)) (nomark _)) (pw_or1 (pt_cmpR op_ne (pe_callB (call_reprT (C := C) hgd cR (raw0 GR bR)) (by rfl) B.repr PyProof.Rows.boot_repr (pa_cons (pv 6) pa_nil)) (pv 7) (nomark _)))).pt (pss_one (ps_ret pe_bl)) pss_nil)))))
      (pss_cons (ps_for PassesOwn.never rfl (pi_list (pe_op op_cat (pv 5) (pe_call dBc.G (hr.mono (by decide)) (by rfl) dBc.m dBc.k dBc.b .nil pass0 (pa_cons (pv 0) (pa_cons (pe_call dCv.G (hr.mono (by decide)) (by rfl) dCv.m dCv.k dCv.b .nil pass0 (pa_cons (pv 1) (pa_cons (pv 2) (pa_cons (pv 3) pa_nil)))) (pa_cons (pv 1) (pa_cons (pv 2) pa_nil))))))) (pg_name (i := 6) scRi.nd rfl (Or.inl rfl)) (pss_cons (ps_par (i := 7) (j := 8) rfl scRi.nd rfl rfl (by decide) rfl rfl (pa_cons (pe_callB (call_reprT (C := C) hgd cR (raw0 GR bR)) (by rfl) B.repr PyProof.Rows.boot_repr (pa_cons (pv 6) pa_nil)) (pa_cons (pe_call gCvs.G (hr.mono (by decide)) (by rfl) gCvs.m gCvs.k gCvs.b .nil pass0 (pa_cons (pv 1) (pa_cons (pv 2) (pa_cons (pv 3) (pa_cons (pv 4) (pa_cons (pv 6) pa_nil)))))) pa_nil)) (by rfl))
      (pss_cons (ps_set (i := 9) scRi.nd rfl (Or.inl rfl) (pe_lst (pa_cons (pe_call gIc.G (hr.mono (by decide)) (by rfl) gIc.m gIc.k gIc.b .nil pass0 (pa_cons (pv 1) (pa_cons (pv 2) (pa_cons (pv 3) (pa_cons (pv 6) pa_nil))))) (pa_cons (pe_callK0 (E := E0) gIc.G (hr.mono (by decide)) (by rfl) gIc.m gIc.k gIc.bk pass0 (pk_cons (pv 6) (pk_cons (pv 3) (pk_cons (pv 2) (pk_cons (pv 1) pk_nil))))) pa_nil))))
      (pss_one (ps_if (pw_or (pt_cmpR op_ne (pe_callB (call_reprD hgd hu) (by rfl) B.repr PyProof.Rows.boot_repr (pa_cons (pv 9) pa_nil)) (pe_callB (call_reprD hgd hu) (by rfl) B.repr PyProof.Rows.boot_repr (pa_cons (pe_lst (pa_cons (pv 8) (pa_cons (pv 8) pa_nil))) pa_nil)) (nomark _)) (pw_or1 (pt_cmpR op_ne (pe_callB (call_reprT (C := C) hgd cR (raw0 GR bR)) (by rfl) B.repr PyProof.Rows.boot_repr (pa_cons (pv 6) pa_nil)) (pv 7) (nomark _)))).pt (pss_one (ps_ret pe_bl)) pss_nil)))))
      (pss_one (ps_ret pe_bl))))), ?_⟩
  obtain ⟨pot, rfl, hp, kk⟩ := h
  have start : Gm (Sp1 pot) H (L2.start nRi [.ref pot]) [none, none, none, none, none, none, none, none, none, none] := ⟨rfl, fun i d hd => by
    match i, hd with
    | 0, hd => cases hd
    | 1, hd => cases hd
    | 2, hd => cases hd
    | 3, hd => cases hd
    | 4, hd => cases hd
    | 5, hd => cases hd
    | 6, hd => cases hd
    | 7, hd => cases hd
    | 8, hd => cases hd
    | 9, hd => cases hd
    | i + 10, hd => cases hd⟩
  refine (?_ : StR pot _ _ (· = .bool true)) H _ _ hp start rfl ?_
  rotate_left
  · rintro v H' d rfl k p a
    cases a
    exact kk H' k p
  refine StR.board fun t w ps hb => ?_
  have t1 := hb.t1
  have t4 := hb.t4
  have w1 := hb.w1
  have w4 := hb.w4
  have n1 := hb.n1
  have n16 := hb.n16
  have sl : ∀ {n : Nat}, n ≤ 1000 → n ≤ sizeLine := fun h => Nat.le_trans h (by decide)
  -- due, plain
  refine StR.par (by decide) (by decide) (.cons (.call (.cons (.var rfl) (.cons (.var rfl) (.cons (.int 0) (.cons (.lst .nil (by decide)) .nil)))) ⟨t, t4, t, 0, ps, [], n16, by omega, t4, Nat.le_refl _, rfl, rfl⟩) (.cons (.lst (ds := plainD C) (.cons .non (.cons (.int 0) (.cons (.bl true) (.cons (.str _) (.cons (.str _) (.cons .newD (.cons (.lst .nil (by decide)) (.cons (.tup .nil (by decide)) (.cons (EvG.make1 (.int 1)) (.cons (.lst (.cons .non .nil) (sl one_k)) (.cons (.tup (.cons (.lst (.cons .non .nil) (sl one_k)) (.cons (.lst .nil (by decide)) .nil)) two_line') (.cons (.lst (.cons (.lst .nil (by decide)) .nil) (sl one_k)) (.cons (.tup (.cons (.int 0) (.cons (.int 0) .nil)) two_line') (.cons (.lst (.cons (.int 0) .nil) (sl one_k)) (.cons (.tup (.cons (.str _) (.cons (.str _) .nil)) two_line') .nil))))))))))))))) (sl (by show 15 ≤ 1000; decide))) .nil)) ?_
  have hdue := due_le4 hb.loose
  have hrl := rk_len ps t
  have hpos := due_pos hb
  have hsp := rk_spare ps t
  have big : ∀ {d : PyData}, Fn C 1000 5 d → wt d ≤ sizeLine := fun {d} h => by
    have h1 := h.wt
    have h2 := h.nc
    have : (5000000 : Nat) ≤ sizeLine := by decide
    omega
  have hcat : ∀ ds : List PyData, (∀ x ∈ ds, Fn C 1000 5 x) ∧ ds.length ≤ 100 → (plainD C).length + ds.length ≤ sizeLine := fun ds h => sl (by have := h.2; show 15 + _ ≤ 1000; omega)
  have hall : ∀ {ds : List PyData}, (∀ x ∈ ds, Fn C 1000 5 x) → ∀ x ∈ plainD C ++ ds, Fn C 1000 5 x := fun h x hx => (List.mem_append.mp hx).elim (fn_plain x) (h x)
  refine (?_ : StR pot _ [none, some (N t), some (N w), some (.list (psD ps)), some (N (due ps t)), some (.list (plainD C)), none, none, none, none] (· = .bool true))
  have impl : ∀ {tb : TE}, EvP pot tb [none, some (N t), some (N w), some (.list (psD ps)), some (N (due ps t)), some (.list (plainD C)), none, none, none, none] (fun d => ∃ ds, d = .list (plainD C ++ ds) ∧ ((∀ x ∈ ds, Fn C 1000 5 x) ∧ ds.length ≤ 100)) → EvP pot tb [none, some (N t), some (N w), some (.list (psD ps)), some (N (due ps t)), some (.list (plainD C)), none, none, none, none] (fun d => ∃ ds, d = .list ds ∧ ∀ x ∈ ds, Fn C 1000 5 x) := fun h H σ p e z Q q => h H σ p e z Q fun H' v d k p' c a => q H' v d k p' (by
    obtain ⟨ds, rfl, c1, _⟩ := c
    exact ⟨_, rfl, hall c1⟩) a
  have hnil : rk ps t ≠ [] := fun z => by
    have h0 : (rk ps t).length = 0 := congrArg List.length z
    omega
  have ndk : (rk ps t).Nodup := by
    refine (rk_srt ps t).imp fun {a b} h z => ?_
    rw [z] at h
    exact Nat.lt_irrefl _ h
  refine StR.forP (by decide) (impl (EvP.cat (.var rfl) (EvP.br (.var rfl) (.call (.cons (.var rfl) (.cons (.var rfl) (.cons (.var rfl) .nil))) ⟨t, w, ps, _, hb, .inl rfl, rfl, rfl⟩) (.var rfl) (.var rfl) hb hnil (Nat.le_trans (Nat.le_of_eq hrl) hdue) hsp.sub ndk) hcat)) (fun ds hds d hd => ?_) ?_
  · have fd := hds d hd
    have o := fd.ok
    have hl := (nc_items fd.nc).1
    have hrm : Room (dp d + 3) _ := hr.mono (by have := fd.dp; omega)
    refine StN.par (by decide) (by decide) (.cons (EvG.reprT o (big fd) hrm (.var rfl)) (.cons (.call (.cons (.var rfl) (.cons (.var rfl) (.cons (.var rfl) .nil))) ⟨t, w, ps, due ps t, d, hb, o, hl, rfl, rfl⟩) .nil)) ?_
    refine StN.set (by decide) (.lst (.cons (.call (.cons (.var rfl) (.cons (.var rfl) (.cons (.var rfl) (.cons (.var rfl) .nil)))) ⟨t, w, ps, d, hb, o, hl, rfl, rfl⟩) (.cons (.callKR (F := GirG C) (r := .bool (rooksSeen ps (due ps t) d)) (.cons (.var rfl) (.cons (.var rfl) (.cons (.var rfl) (.cons (.var rfl) .nil)))) rfl ⟨t, w, ps, d, hb, o, hl, rfl, rfl⟩) .nil)) two_line') ?_
    exact StN.ifEnd (.eq (.or (a := false) (.eq (.tst (.op (.repr (rp2 _) (.var rfl)) (.repr (rp2 _) (.lst (.cons (.var rfl) (.cons (.var rfl) .nil)) two_line')) (.neS _))) rfl) fun _ => .tst (.op (EvG.reprT o (big fd) hrm (.var rfl)) (.var rfl) (.neS _))) rfl) (.f (.k (.k (.k (.k (.k (.f (.f (.f (.f .nil))))))))))
  have hlot := cover_lot ps t
  have hsz : (coverRows ps t).length + (colsOf ps (coverRows ps t)).length = due ps t := cover_size hb.loose
  refine StR.forP (by decide) (impl (EvP.cat (.var rfl) (EvP.bc (rows := coverRows ps t) (cols := colsOf ps (coverRows ps t)) (.call (.cons (.var rfl) (.cons (.var rfl) (.cons (.var rfl) .nil))) ⟨t, w, ps, _, hb, .inl rfl, rfl, rfl⟩) (.var rfl) (.var rfl) t1 t4 w1 w4 (by omega) (fun x hx => by have := lot_mem hlot x hx; omega) (by omega) (fun x hx => by have := cols_w hb _ x hx; omega)) hcat)) (fun ds hds d hd => ?_) (StR.pure (.ret (.bl true)) rfl)
  have fd := hds d hd
  have o := fd.ok
  have hl : ∀ x ∈ itemsD d, (itemsD x).length ≤ 1000 := fun x hx => (nc_items ((nc_items fd.nc).2 x hx)).1
  have hrm : Room (dp d + 3) _ := hr.mono (by have := fd.dp; omega)
  refine StN.par (by decide) (by decide) (.cons (EvG.reprT o (big fd) hrm (.var rfl)) (.cons (.call (.cons (.var rfl) (.cons (.var rfl) (.cons (.var rfl) (.cons (.var rfl) (.cons (.var rfl) .nil))))) ⟨t, w, ps, due ps t, d, hb, o, hl, rfl, rfl⟩) .nil)) ?_
  refine StN.set (by decide) (.lst (.cons (.call (.cons (.var rfl) (.cons (.var rfl) (.cons (.var rfl) (.cons (.var rfl) .nil)))) ⟨t, w, ps, d, hb, o, hl, rfl, rfl⟩) (.cons (.callKR (F := GicG C) (r := .bool (coverSeen t w ps (due ps t) d)) (.cons (.var rfl) (.cons (.var rfl) (.cons (.var rfl) (.cons (.var rfl) .nil)))) rfl ⟨t, w, ps, d, hb, o, hl, rfl, rfl⟩) .nil)) two_line') ?_
  exact StN.ifEnd (.eq (.or (a := false) (.eq (.tst (.op (.repr (rp2 _) (.var rfl)) (.repr (rp2 _) (.lst (.cons (.var rfl) (.cons (.var rfl) .nil)) two_line')) (.neS _))) rfl) fun _ => .tst (.op (EvG.reprT o (big fd) hrm (.var rfl)) (.var rfl) (.neS _))) rfl) (.f (.k (.k (.k (.k (.k (.f (.f (.f (.f .nil))))))))))
end
end K73

set_option Elab.async false
set_option linter.all false
set_option maxRecDepth 100000
set_option maxHeartbeats 4000000
/-! The law, and what the top has written. -/
namespace K73
open PySem L2 GD RQ PyProof.Rows
section
variable {P : Program} {w : World} {K : PySem.W.Frag} {mg : Str → Option Value} {base : Heap}
/-- as Dn, for a def that asks what guards are on -/
structure DnG (P : Program) (w : World) (K : PySem.W.Frag) (mg : Str → Option Value) (base : Heap) (lv : Nat) (x : Str) (ps : List Str) (sp : Sp) where
  f : Addr
  fd : FuncData
  G : FnG P w K mg base lv f fd ps sp
  m : mg x = some (.ref f)
  k : PySem.W.keepIn K (.ref f) = true
  b : Binds K fd ps []
/-- the rule of the hand layer for an own class, asked of a built-in one -/
theorem kit_sub {C : Addr} {T : String} {r : Bool} (m : PySem.W.kitMeta T = true) (h : PySem.W.subIn K (.ref C) (.type T) = some r) : PySem.W.kitOne K (.ref C) (.type T) = some r := by
  unfold PySem.W.kitOne
  rw [if_neg (by intro z; cases (beq_iff_eq.mp z))]
  unfold PySem.W.kitCls
  simp only
  rw [if_pos m]
  exact h
structure SpLaw (K : PySem.W.Frag) (vs : List V) (H : Hp) (Q : VK) (E : XK) : Prop where
  ex : ∃ (a : Addr) (ns : List Int), vs = [.ref a] ∧ SqL K H a (ns.map V.int) ∧ ∀ H', Q (.bl true) H'
abbrev nLaw : List Str := ["_law_script"]
theorem scLaw : FnScope nLaw ["_law_script"] (defScope sLaw) := ⟨rfl, rfl, rfl, by decide +kernel, rfl, by decide +kernel, by decide +kernel⟩
theorem ok_law {f : Addr} {fd : FuncData} (F : Fun K "law" "law" sLaw f fd) (B : Blt mg) (dPo : Dn P w K mg base 1 "_law_pot" ["_law_script", "_law_k"] (SpPot K)) (dRi : DnG P w K mg base 10 "_law_right" ["_law_pot_here"] SpRi) : FnG P w K mg base 11 f fd ["_law_script"] (SpLaw K) := by
  refine okG F scLaw (fun vs H Q E h => ?_) (fun cdv A outer s H vs Q E hgd hr h => ?_)
  · obtain ⟨a, ns, rfl, _⟩ := h
    rfl
  obtain ⟨a, ns, rfl, hS, k⟩ := h
  refine ⟨_, PSs.nox (pss_one (ps_ret (pe_callG (E := E0) dRi.G hgd (hr.mono (by decide)) (by rfl) dRi.m dRi.k dRi.b (pa_cons (pe_call dPo.G (hr.mono (by decide)) (by rfl) dPo.m dPo.k dPo.b .nil pass0 (pa_cons (pv 0) (pa_cons pe_int pa_nil))) pa_nil)))), ?_⟩
  exact ⟨_, rfl, ⟨a, ns, 0, rfl, by decide, hS, fun H2 pot np s2 p2 => ⟨pot, rfl, p2, fun H3 k3 p3 => k H3⟩⟩⟩
end
/-! ### what the top has written -/
theorem all_mk {l : PySem.W.OpenLaw} {w : World} {K : PySem.W.Frag} {h : Heap} {mg : Str → Option Value} {fa C T0 fInit fRepr fIsInt fIsCount fIsList fBet fWm fPat fPl fRk fIr fCv fIc fMr fLo fCs fUn fWb fPo fDr fBo fMo fRi fLaw fPk fLc fLp fRs fLs fCvs fBr fBc : Addr} (X : K.In h) (G : h.Ns mainGlobals mg) (hfa : mg "law" = some (.ref fa))
    {odT odInit anInit odRepr anRepr odIsInt anIsInt odIsCount anIsCount odIsList anIsList odBet anBet odWm anWm odPat anPat odPl anPl odRk anRk odIr anIr odCv anCv odIc anIc odMr anMr odLo anLo odCs anCs odUn anUn odWb anWb odPo anPo odDr anDr odBo anBo odMo anMo odRi anRi odLaw anLaw odPk anPk odLc anLc odLp anLp odRs anRs odLs anLs odCvs anCvs odBr anBr odBc anBc : Option Addr} {slT slInit slRepr slIsInt slIsCount slIsList slBet slWm slPat slPl slRk slIr slCv slIc slMr slLo slCs slUn slWb slPo slDr slBo slMo slRi slLaw slPk slLc slLp slRs slLs slCvs slBr slBc : Array (Option Value)} {ocT ocInit kVInit dcInit pmInit cdInit ctInit ocRepr kVRepr dcRepr pmRepr cdRepr ctRepr ocIsInt kVIsInt dcIsInt pmIsInt cdIsInt ctIsInt ocIsCount kVIsCount dcIsCount pmIsCount cdIsCount ctIsCount ocIsList kVIsList dcIsList pmIsList cdIsList ctIsList ocBet kVBet dcBet pmBet cdBet ctBet ocWm kVWm dcWm pmWm cdWm ctWm ocPat kVPat dcPat pmPat cdPat ctPat ocPl kVPl dcPl pmPl cdPl ctPl ocRk kVRk dcRk pmRk cdRk ctRk ocIr kVIr dcIr pmIr cdIr ctIr ocCv kVCv dcCv pmCv cdCv ctCv ocIc kVIc dcIc pmIc cdIc ctIc ocMr kVMr dcMr pmMr cdMr ctMr ocLo kVLo dcLo pmLo cdLo ctLo ocCs kVCs dcCs pmCs cdCs ctCs ocUn kVUn dcUn pmUn cdUn ctUn ocWb kVWb dcWb pmWb cdWb ctWb ocPo kVPo dcPo pmPo cdPo ctPo ocDr kVDr dcDr pmDr cdDr ctDr ocBo kVBo dcBo pmBo cdBo ctBo ocMo kVMo dcMo pmMo cdMo ctMo ocRi kVRi dcRi pmRi cdRi ctRi ocLaw kVLaw dcLaw pmLaw cdLaw ctLaw ocPk kVPk dcPk pmPk cdPk ctPk ocLc kVLc dcLc pmLc cdLc ctLc ocLp kVLp dcLp pmLp cdLp ctLp ocRs kVRs dcRs pmRs cdRs ctRs ocLs kVLs dcLs pmLs cdLs ctLs ocCvs kVCvs dcCvs pmCvs cdCvs ctCvs ocBr kVBr dcBr pmBr cdBr ctBr ocBc kVBc dcBc pmBc cdBc ctBc : Value} {tkc16 tkc4 tkT : Tok} {nT0 : Nat}
    (aC : PySem.W.nsIn K mainGlobals "Ratio" = some (some (.ref C)))
    (aInit : PySem.W.findIn K (.ref C) "__init__" = some (some (.ref fInit)))
    (iInit : PySem.W.isFn K (.ref fInit) = true)
    (yInit : K.lookup fInit = some ⟨ocInit, odInit, .func (PySem.W.fnOf "__init__" "Ratio.__init__" (defArgs sInit) (defBody sInit) (defScope sInit) (.ref T0) kVInit dcInit pmInit anInit cdInit ctInit), slInit⟩)
    (cInit : PySem.W.codeIn K cdInit "Ratio.__init__" = true)
    (kInit : PySem.W.keepIn K (.ref fInit) = true)
    (lT0 : K.lookup T0 = some ⟨ocT, odT, .seq #[.int 1 tkT] nT0, slT⟩)
    (aRepr : PySem.W.findIn K (.ref C) "__repr__" = some (some (.ref fRepr)))
    (iRepr : PySem.W.isFn K (.ref fRepr) = true)
    (yRepr : K.lookup fRepr = some ⟨ocRepr, odRepr, .func (PySem.W.fnOf "__repr__" "Ratio.__repr__" (defArgs sRepr) (defBody sRepr) (defScope sRepr) .none kVRepr dcRepr pmRepr anRepr cdRepr ctRepr), slRepr⟩)
    (cRepr : PySem.W.codeIn K cdRepr "Ratio.__repr__" = true)
    (kRepr : PySem.W.keepIn K (.ref fRepr) = true)
    (aIsInt : PySem.W.nsIn K mainGlobals "is_integer" = some (some (.ref fIsInt)))
    (yIsInt : K.lookup fIsInt = some ⟨ocIsInt, odIsInt, .func (PySem.W.fnOf "is_integer" "is_integer" (defArgs sIsInt) (defBody sIsInt) (defScope sIsInt) .none kVIsInt dcIsInt pmIsInt anIsInt cdIsInt ctIsInt), slIsInt⟩)
    (cIsInt : PySem.W.codeIn K cdIsInt "is_integer" = true)
    (kIsInt : PySem.W.keepIn K (.ref fIsInt) = true)
    (aIsCount : PySem.W.nsIn K mainGlobals "is_count" = some (some (.ref fIsCount)))
    (yIsCount : K.lookup fIsCount = some ⟨ocIsCount, odIsCount, .func (PySem.W.fnOf "is_count" "is_count" (defArgs sIsCount) (defBody sIsCount) (defScope sIsCount) .none kVIsCount dcIsCount pmIsCount anIsCount cdIsCount ctIsCount), slIsCount⟩)
    (cIsCount : PySem.W.codeIn K cdIsCount "is_count" = true)
    (kIsCount : PySem.W.keepIn K (.ref fIsCount) = true)
    (aIsList : PySem.W.nsIn K mainGlobals "is_list" = some (some (.ref fIsList)))
    (yIsList : K.lookup fIsList = some ⟨ocIsList, odIsList, .func (PySem.W.fnOf "is_list" "is_list" (defArgs sIsList) (defBody sIsList) (defScope sIsList) .none kVIsList dcIsList pmIsList anIsList cdIsList ctIsList), slIsList⟩)
    (cIsList : PySem.W.codeIn K cdIsList "is_list" = true)
    (kIsList : PySem.W.keepIn K (.ref fIsList) = true)
    (aBet : PySem.W.nsIn K mainGlobals "is_between" = some (some (.ref fBet)))
    (yBet : K.lookup fBet = some ⟨ocBet, odBet, .func (PySem.W.fnOf "is_between" "is_between" (defArgs sBet) (defBody sBet) (defScope sBet) .none kVBet dcBet pmBet anBet cdBet ctBet), slBet⟩)
    (cBet : PySem.W.codeIn K cdBet "is_between" = true)
    (kBet : PySem.W.keepIn K (.ref fBet) = true)
    (aWm : PySem.W.nsIn K mainGlobals "want_many" = some (some (.ref fWm)))
    (yWm : K.lookup fWm = some ⟨ocWm, odWm, .func (PySem.W.fnOf "want_many" "want_many" (defArgs sWm) (defBody sWm) (defScope sWm) .none kVWm dcWm pmWm anWm cdWm ctWm), slWm⟩)
    (cWm : PySem.W.codeIn K cdWm "want_many" = true)
    (kWm : PySem.W.keepIn K (.ref fWm) = true)
    (aPat : PySem.W.nsIn K mainGlobals "are_places" = some (some (.ref fPat)))
    (yPat : K.lookup fPat = some ⟨ocPat, odPat, .func (PySem.W.fnOf "are_places" "are_places" (defArgs sPat) (defBody sPat) (defScope sPat) .none kVPat dcPat pmPat anPat cdPat ctPat), slPat⟩)
    (cPat : PySem.W.codeIn K cdPat "are_places" = true)
    (kPat : PySem.W.keepIn K (.ref fPat) = true)
    (aPl : PySem.W.nsIn K mainGlobals "is_place" = some (some (.ref fPl)))
    (yPl : K.lookup fPl = some ⟨ocPl, odPl, .func (PySem.W.fnOf "is_place" "is_place" (defArgs sPl) (defBody sPl) (defScope sPl) .none kVPl dcPl pmPl anPl cdPl ctPl), slPl⟩)
    (cPl : PySem.W.codeIn K cdPl "is_place" = true)
    (kPl : PySem.W.keepIn K (.ref fPl) = true)
    (aRk : PySem.W.nsIn K mainGlobals "rooks" = some (some (.ref fRk)))
    (yRk : K.lookup fRk = some ⟨ocRk, odRk, .func (PySem.W.fnOf "rooks" "rooks" (defArgs sRk) (defBody sRk) (defScope sRk) .none kVRk dcRk pmRk anRk cdRk ctRk), slRk⟩)
    (cRk : PySem.W.codeIn K cdRk "rooks" = true)
    (kRk : PySem.W.keepIn K (.ref fRk) = true)
    (aIr : PySem.W.nsIn K mainGlobals "is_rooks" = some (some (.ref fIr)))
    (yIr : K.lookup fIr = some ⟨ocIr, odIr, .func (PySem.W.fnOf "is_rooks" "is_rooks" (defArgs sIr) (defBody sIr) (defScope sIr) .none kVIr dcIr pmIr anIr cdIr ctIr), slIr⟩)
    (cIr : PySem.W.codeIn K cdIr "is_rooks" = true)
    (kIr : PySem.W.keepIn K (.ref fIr) = true)
    (aCv : PySem.W.nsIn K mainGlobals "cover" = some (some (.ref fCv)))
    (yCv : K.lookup fCv = some ⟨ocCv, odCv, .func (PySem.W.fnOf "cover" "cover" (defArgs sCv) (defBody sCv) (defScope sCv) .none kVCv dcCv pmCv anCv cdCv ctCv), slCv⟩)
    (cCv : PySem.W.codeIn K cdCv "cover" = true)
    (kCv : PySem.W.keepIn K (.ref fCv) = true)
    (aIc : PySem.W.nsIn K mainGlobals "is_cover" = some (some (.ref fIc)))
    (yIc : K.lookup fIc = some ⟨ocIc, odIc, .func (PySem.W.fnOf "is_cover" "is_cover" (defArgs sIc) (defBody sIc) (defScope sIc) .none kVIc dcIc pmIc anIc cdIc ctIc), slIc⟩)
    (cIc : PySem.W.codeIn K cdIc "is_cover" = true)
    (kIc : PySem.W.keepIn K (.ref fIc) = true)
    (aMr : PySem.W.nsIn K mainGlobals "_most_rooks" = some (some (.ref fMr)))
    (yMr : K.lookup fMr = some ⟨ocMr, odMr, .func (PySem.W.fnOf "_most_rooks" "_most_rooks" (defArgs sMr) (defBody sMr) (defScope sMr) .none kVMr dcMr pmMr anMr cdMr ctMr), slMr⟩)
    (cMr : PySem.W.codeIn K cdMr "_most_rooks" = true)
    (kMr : PySem.W.keepIn K (.ref fMr) = true)
    (aLo : PySem.W.nsIn K mainGlobals "_lots" = some (some (.ref fLo)))
    (yLo : K.lookup fLo = some ⟨ocLo, odLo, .func (PySem.W.fnOf "_lots" "_lots" (defArgs sLo) (defBody sLo) (defScope sLo) .none kVLo dcLo pmLo anLo cdLo ctLo), slLo⟩)
    (cLo : PySem.W.codeIn K cdLo "_lots" = true)
    (kLo : PySem.W.keepIn K (.ref fLo) = true)
    (aCs : PySem.W.nsIn K mainGlobals "_cover_size" = some (some (.ref fCs)))
    (yCs : K.lookup fCs = some ⟨ocCs, odCs, .func (PySem.W.fnOf "_cover_size" "_cover_size" (defArgs sCs) (defBody sCs) (defScope sCs) .none kVCs dcCs pmCs anCs cdCs ctCs), slCs⟩)
    (cCs : PySem.W.codeIn K cdCs "_cover_size" = true)
    (kCs : PySem.W.keepIn K (.ref fCs) = true)
    (aUn : PySem.W.nsIn K mainGlobals "is_lot" = some (some (.ref fUn)))
    (yUn : K.lookup fUn = some ⟨ocUn, odUn, .func (PySem.W.fnOf "is_lot" "is_lot" (defArgs sUn) (defBody sUn) (defScope sUn) .none kVUn dcUn pmUn anUn cdUn ctUn), slUn⟩)
    (cUn : PySem.W.codeIn K cdUn "is_lot" = true)
    (kUn : PySem.W.keepIn K (.ref fUn) = true)
    (aWb : PySem.W.nsIn K mainGlobals "_want_board" = some (some (.ref fWb)))
    (yWb : K.lookup fWb = some ⟨ocWb, odWb, .func (PySem.W.fnOf "_want_board" "_want_board" (defArgs sWb) (defBody sWb) (defScope sWb) .none kVWb dcWb pmWb anWb cdWb ctWb), slWb⟩)
    (cWb : PySem.W.codeIn K cdWb "_want_board" = true)
    (kWb : PySem.W.keepIn K (.ref fWb) = true)
    (aPo : PySem.W.nsIn K mainGlobals "_law_pot" = some (some (.ref fPo)))
    (yPo : K.lookup fPo = some ⟨ocPo, odPo, .func (PySem.W.fnOf "_law_pot" "_law_pot" (defArgs sPo) (defBody sPo) (defScope sPo) .none kVPo dcPo pmPo anPo cdPo ctPo), slPo⟩)
    (cPo : PySem.W.codeIn K cdPo "_law_pot" = true)
    (kPo : PySem.W.keepIn K (.ref fPo) = true)
    (aDr : PySem.W.nsIn K mainGlobals "_law_draw" = some (some (.ref fDr)))
    (yDr : K.lookup fDr = some ⟨ocDr, odDr, .func (PySem.W.fnOf "_law_draw" "_law_draw" (defArgs sDr) (defBody sDr) (defScope sDr) .none kVDr dcDr pmDr anDr cdDr ctDr), slDr⟩)
    (cDr : PySem.W.codeIn K cdDr "_law_draw" = true)
    (kDr : PySem.W.keepIn K (.ref fDr) = true)
    (aBo : PySem.W.nsIn K mainGlobals "_law_board" = some (some (.ref fBo)))
    (yBo : K.lookup fBo = some ⟨ocBo, odBo, .func (PySem.W.fnOf "_law_board" "_law_board" (defArgs sBo) (defBody sBo) (defScope sBo) .none kVBo dcBo pmBo anBo cdBo ctBo), slBo⟩)
    (cBo : PySem.W.codeIn K cdBo "_law_board" = true)
    (kBo : PySem.W.keepIn K (.ref fBo) = true)
    (aMo : PySem.W.nsIn K mainGlobals "_law_most" = some (some (.ref fMo)))
    (yMo : K.lookup fMo = some ⟨ocMo, odMo, .func (PySem.W.fnOf "_law_most" "_law_most" (defArgs sMo) (defBody sMo) (defScope sMo) .none kVMo dcMo pmMo anMo cdMo ctMo), slMo⟩)
    (cMo : PySem.W.codeIn K cdMo "_law_most" = true)
    (kMo : PySem.W.keepIn K (.ref fMo) = true)
    (aRi : PySem.W.nsIn K mainGlobals "_law_right" = some (some (.ref fRi)))
    (yRi : K.lookup fRi = some ⟨ocRi, odRi, .func (PySem.W.fnOf "_law_right" "_law_right" (defArgs sRi) (defBody sRi) (defScope sRi) .none kVRi dcRi pmRi anRi cdRi ctRi), slRi⟩)
    (cRi : PySem.W.codeIn K cdRi "_law_right" = true)
    (kRi : PySem.W.keepIn K (.ref fRi) = true)
    (aLaw : PySem.W.nsIn K mainGlobals "law" = some (some (.ref fLaw)))
    (yLaw : K.lookup fLaw = some ⟨ocLaw, odLaw, .func (PySem.W.fnOf "law" "law" (defArgs sLaw) (defBody sLaw) (defScope sLaw) .none kVLaw dcLaw pmLaw anLaw cdLaw ctLaw), slLaw⟩)
    (cLaw : PySem.W.codeIn K cdLaw "law" = true)
    (kLaw : PySem.W.keepIn K (.ref fLaw) = true)
    (aPk : PySem.W.nsIn K mainGlobals "_law_pick" = some (some (.ref fPk)))
    (yPk : K.lookup fPk = some ⟨ocPk, odPk, .func (PySem.W.fnOf "_law_pick" "_law_pick" (defArgs sPk) (defBody sPk) (defScope sPk) .none kVPk dcPk pmPk anPk cdPk ctPk), slPk⟩)
    (cPk : PySem.W.codeIn K cdPk "_law_pick" = true)
    (kPk : PySem.W.keepIn K (.ref fPk) = true)
    (aLc : PySem.W.nsIn K mainGlobals "_law_is_count" = some (some (.ref fLc)))
    (yLc : K.lookup fLc = some ⟨ocLc, odLc, .func (PySem.W.fnOf "_law_is_count" "_law_is_count" (defArgs sLc) (defBody sLc) (defScope sLc) .none kVLc dcLc pmLc anLc cdLc ctLc), slLc⟩)
    (cLc : PySem.W.codeIn K cdLc "_law_is_count" = true)
    (kLc : PySem.W.keepIn K (.ref fLc) = true)
    (aLp : PySem.W.nsIn K mainGlobals "_law_is_place" = some (some (.ref fLp)))
    (yLp : K.lookup fLp = some ⟨ocLp, odLp, .func (PySem.W.fnOf "_law_is_place" "_law_is_place" (defArgs sLp) (defBody sLp) (defScope sLp) .none kVLp dcLp pmLp anLp cdLp ctLp), slLp⟩)
    (cLp : PySem.W.codeIn K cdLp "_law_is_place" = true)
    (kLp : PySem.W.keepIn K (.ref fLp) = true)
    (aRs : PySem.W.nsIn K mainGlobals "_law_rooks_seen" = some (some (.ref fRs)))
    (yRs : K.lookup fRs = some ⟨ocRs, odRs, .func (PySem.W.fnOf "_law_rooks_seen" "_law_rooks_seen" (defArgs sRs) (defBody sRs) (defScope sRs) .none kVRs dcRs pmRs anRs cdRs ctRs), slRs⟩)
    (cRs : PySem.W.codeIn K cdRs "_law_rooks_seen" = true)
    (kRs : PySem.W.keepIn K (.ref fRs) = true)
    (aLs : PySem.W.nsIn K mainGlobals "_law_lines_seen" = some (some (.ref fLs)))
    (yLs : K.lookup fLs = some ⟨ocLs, odLs, .func (PySem.W.fnOf "_law_lines_seen" "_law_lines_seen" (defArgs sLs) (defBody sLs) (defScope sLs) .none kVLs dcLs pmLs anLs cdLs ctLs), slLs⟩)
    (cLs : PySem.W.codeIn K cdLs "_law_lines_seen" = true)
    (kLs : PySem.W.keepIn K (.ref fLs) = true)
    (aCvs : PySem.W.nsIn K mainGlobals "_law_cover_seen" = some (some (.ref fCvs)))
    (yCvs : K.lookup fCvs = some ⟨ocCvs, odCvs, .func (PySem.W.fnOf "_law_cover_seen" "_law_cover_seen" (defArgs sCvs) (defBody sCvs) (defScope sCvs) .none kVCvs dcCvs pmCvs anCvs cdCvs ctCvs), slCvs⟩)
    (cCvs : PySem.W.codeIn K cdCvs "_law_cover_seen" = true)
    (kCvs : PySem.W.keepIn K (.ref fCvs) = true)
    (aBr : PySem.W.nsIn K mainGlobals "_law_bent_rooks" = some (some (.ref fBr)))
    (yBr : K.lookup fBr = some ⟨ocBr, odBr, .func (PySem.W.fnOf "_law_bent_rooks" "_law_bent_rooks" (defArgs sBr) (defBody sBr) (defScope sBr) .none kVBr dcBr pmBr anBr cdBr ctBr), slBr⟩)
    (cBr : PySem.W.codeIn K cdBr "_law_bent_rooks" = true)
    (kBr : PySem.W.keepIn K (.ref fBr) = true)
    (aBc : PySem.W.nsIn K mainGlobals "_law_bent_covers" = some (some (.ref fBc)))
    (yBc : K.lookup fBc = some ⟨ocBc, odBc, .func (PySem.W.fnOf "_law_bent_covers" "_law_bent_covers" (defArgs sBc) (defBody sBc) (defScope sBc) .none kVBc dcBc pmBc anBc cdBc ctBc), slBc⟩)
    (cBc : PySem.W.codeIn K cdBc "_law_bent_covers" = true)
    (kBc : PySem.W.keepIn K (.ref fBc) = true)
    (z_isinstance : PySem.W.nsIn K mainGlobals "isinstance" = some none)
    (z_int : PySem.W.nsIn K mainGlobals "int" = some none)
    (z_bool : PySem.W.nsIn K mainGlobals "bool" = some none)
    (z_abs : PySem.W.nsIn K mainGlobals "abs" = some none)
    (z_list : PySem.W.nsIn K mainGlobals "list" = some none)
    (z_tuple : PySem.W.nsIn K mainGlobals "tuple" = some none)
    (z_len : PySem.W.nsIn K mainGlobals "len" = some none)
    (z_max : PySem.W.nsIn K mainGlobals "max" = some none)
    (z_min : PySem.W.nsIn K mainGlobals "min" = some none)
    (z_divmod : PySem.W.nsIn K mainGlobals "divmod" = some none)
    (z_range : PySem.W.nsIn K mainGlobals "range" = some none)
    (z_repr : PySem.W.nsIn K mainGlobals "repr" = some none)
    (z_all : PySem.W.nsIn K mainGlobals "all" = some none)
    (z_set : PySem.W.nsIn K mainGlobals "set" = some none)
    (z_sorted : PySem.W.nsIn K mainGlobals "sorted" = some none)
    (z_dict : PySem.W.nsIn K mainGlobals "dict" = some none)
    (z_zip : PySem.W.nsIn K mainGlobals "zip" = some none)
    (z_gcd : PySem.W.nsIn K mainGlobals "gcd" = some (some (.builtin "math.gcd")))
    (c16 : PySem.W.nsIn K mainGlobals "MOST_PLACES" = some (some (.int 16 tkc16)))
    (c4 : PySem.W.nsIn K mainGlobals "MOST" = some (some (.int 4 tkc4)))
    (pg : PySem.W.plainGet K C Str.empty = true)
    (hd : PySem.W.hasDictIn K C = true)
    (po : PySem.W.plainOver K C = true)
    (sa : PySem.W.findIn K (.ref C) "__setattr__" = some (some (.builtin "object.__setattr__")))
    (mk : PySem.W.makesIn K C = true)
    (kc : PySem.W.keepIn K (.ref C) = true)
    (nTop : PySem.W.findIn K (.ref C) "_top" = some none)
    (nBot : PySem.W.findIn K (.ref C) "_bottom" = some none)
    (ha : PySem.W.findIn K (.ref C) "__class__" = some (some (.builtin "object.__class__")))
    (hn : PySem.W.specialIn K (.builtin "object.__class__") "__get__" = some (some (.builtin "getset_descriptor.__get__")))
    (htk : PySem.W.takesIn K (.builtin "object.__class__") = some true)
    (hm : PySem.W.mroIn K C (.type "object") = some true)
    (b_int : PySem.W.subIn K (.ref C) (.type "int") = some false)
    (b_bool : PySem.W.subIn K (.ref C) (.type "bool") = some false)
    (b_list : PySem.W.subIn K (.ref C) (.type "list") = some false)
    (b_tuple : PySem.W.subIn K (.ref C) (.type "tuple") = some false) :
    ∃ fd : FuncData, (∀ (s : Shared) (v : Value), BindsTo s fd ⟨[v], []⟩ [("_law_script", v)]) ∧ ∀ base : Heap, K.In base → base.Ns mainGlobals mg → FnG l.prog w K mg base 11 fa fd ["_law_script"] (SpLaw K) := by
  have e := hfa.symm.trans (PySem.W.mg_of X G aLaw)
  cases e
  have B : Blt mg := ⟨PySem.W.mg_none_of X G z_isinstance, PySem.W.mg_none_of X G z_int, PySem.W.mg_none_of X G z_bool, PySem.W.mg_none_of X G z_abs, PySem.W.mg_none_of X G z_list, PySem.W.mg_none_of X G z_tuple, PySem.W.mg_none_of X G z_len, PySem.W.mg_none_of X G z_max, PySem.W.mg_none_of X G z_min, PySem.W.mg_none_of X G z_divmod, PySem.W.mg_none_of X G z_range, PySem.W.mg_none_of X G z_repr, PySem.W.mg_none_of X G z_all, PySem.W.mg_none_of X G z_set, PySem.W.mg_none_of X G z_sorted, PySem.W.mg_none_of X G z_dict, PySem.W.mg_none_of X G z_zip, PySem.W.mg_of X G z_gcd⟩
  have R : RCls K mg C := ⟨⟨pg, hd, po, sa⟩, nTop, nBot, PySem.W.mg_of X G aC, kc, ha, hn, htk, hm, kit_sub rfl b_int, kit_sub rfl b_bool, kit_sub rfl b_list, kit_sub rfl b_tuple⟩
  have FIsInt := fun_mk (st := sIsInt) yIsInt cIsInt kIsInt
  have bIsInt := FIsInt.binds (ps := ["value"]) fun _ _ _ _ _ _ us hl => match us, hl with | [_], _ => rfl
  have FIsCount := fun_mk (st := sIsCount) yIsCount cIsCount kIsCount
  have bIsCount := FIsCount.binds (ps := ["value"]) fun _ _ _ _ _ _ us hl => match us, hl with | [_], _ => rfl
  have FIsList := fun_mk (st := sIsList) yIsList cIsList kIsList
  have bIsList := FIsList.binds (ps := ["value"]) fun _ _ _ _ _ _ us hl => match us, hl with | [_], _ => rfl
  have FBet := fun_mk (st := sBet) yBet cBet kBet
  have bBet := FBet.binds (ps := ["value", "low", "high"]) fun _ _ _ _ _ _ us hl => match us, hl with | [_, _, _], _ => rfl
  have FWm := fun_mk (st := sWm) yWm cWm kWm
  have bWm := FWm.binds (ps := ["value", "low", "high"]) fun _ _ _ _ _ _ us hl => match us, hl with | [_, _, _], _ => rfl
  have FPat := fun_mk (st := sPat) yPat cPat kPat
  have bPat := FPat.binds (ps := ["value", "tall", "wide", "low", "high"]) fun _ _ _ _ _ _ us hl => match us, hl with | [_, _, _, _, _], _ => rfl
  have FPl := fun_mk (st := sPl) yPl cPl kPl
  have bPl := FPl.binds (ps := ["value", "tall", "wide"]) fun _ _ _ _ _ _ us hl => match us, hl with | [_, _, _], _ => rfl
  have FRk := fun_mk (st := sRk) yRk cRk kRk
  have bRk := FRk.binds (ps := ["tall", "wide", "places"]) fun _ _ _ _ _ _ us hl => match us, hl with | [_, _, _], _ => rfl
  have FIr := fun_mk (st := sIr) yIr cIr kIr
  have bIr := FIr.binds (ps := ["tall", "wide", "places", "value"]) fun _ _ _ _ _ _ us hl => match us, hl with | [_, _, _, _], _ => rfl
  have FCv := fun_mk (st := sCv) yCv cCv kCv
  have bCv := FCv.binds (ps := ["tall", "wide", "places"]) fun _ _ _ _ _ _ us hl => match us, hl with | [_, _, _], _ => rfl
  have FIc := fun_mk (st := sIc) yIc cIc kIc
  have bIc := FIc.binds (ps := ["tall", "wide", "places", "value"]) fun _ _ _ _ _ _ us hl => match us, hl with | [_, _, _, _], _ => rfl
  have FMr := fun_mk (st := sMr) yMr cMr kMr
  have bMr := FMr.binds (ps := ["places", "tall", "taken", "row"]) fun _ _ _ _ _ _ us hl => match us, hl with | [_, _, _, _], _ => rfl
  have FLo := fun_mk (st := sLo) yLo cLo kLo
  have bLo := FLo.binds (ps := ["many"]) fun _ _ _ _ _ _ us hl => match us, hl with | [_], _ => rfl
  have FCs := fun_mk (st := sCs) yCs cCs kCs
  have bCs := FCs.binds (ps := ["value"]) fun _ _ _ _ _ _ us hl => match us, hl with | [_], _ => rfl
  have FUn := fun_mk (st := sUn) yUn cUn kUn
  have bUn := FUn.binds (ps := ["value", "many"]) fun _ _ _ _ _ _ us hl => match us, hl with | [_, _], _ => rfl
  have FWb := fun_mk (st := sWb) yWb cWb kWb
  have bWb := FWb.binds (ps := ["tall", "wide", "places"]) fun _ _ _ _ _ _ us hl => match us, hl with | [_, _, _], _ => rfl
  have FPo := fun_mk (st := sPo) yPo cPo kPo
  have bPo := FPo.binds (ps := ["_law_script", "_law_k"]) fun _ _ _ _ _ _ us hl => match us, hl with | [_, _], _ => rfl
  have FDr := fun_mk (st := sDr) yDr cDr kDr
  have bDr := FDr.binds (ps := ["_law_pot_here", "_law_many"]) fun _ _ _ _ _ _ us hl => match us, hl with | [_, _], _ => rfl
  have FBo := fun_mk (st := sBo) yBo cBo kBo
  have bBo := FBo.binds (ps := ["_law_pot_here", "_law_most_here"]) fun _ _ _ _ _ _ us hl => match us, hl with | [_, _], _ => rfl
  have FMo := fun_mk (st := sMo) yMo cMo kMo
  have bMo := FMo.binds (ps := ["_law_tall", "_law_places", "_law_row", "_law_used"]) fun _ _ _ _ _ _ us hl => match us, hl with | [_, _, _, _], _ => rfl
  have FRi := fun_mk (st := sRi) yRi cRi kRi
  have bRi := FRi.binds (ps := ["_law_pot_here"]) fun _ _ _ _ _ _ us hl => match us, hl with | [_], _ => rfl
  have FLaw := fun_mk (st := sLaw) yLaw cLaw kLaw
  have FPk := fun_mk (st := sPk) yPk cPk kPk
  have bPk := FPk.binds (ps := ["_law_pot_here", "_law_some"]) fun _ _ _ _ _ _ us hl => match us, hl with | [_, _], _ => rfl
  have FLc := fun_mk (st := sLc) yLc cLc kLc
  have bLc := FLc.binds (ps := ["_law_value", "_law_most_here"]) fun _ _ _ _ _ _ us hl => match us, hl with | [_, _], _ => rfl
  have FLp := fun_mk (st := sLp) yLp cLp kLp
  have bLp := FLp.binds (ps := ["_law_value", "_law_places"]) fun _ _ _ _ _ _ us hl => match us, hl with | [_, _], _ => rfl
  have FRs := fun_mk (st := sRs) yRs cRs kRs
  have bRs := FRs.binds (ps := ["_law_places", "_law_due", "_law_value"]) fun _ _ _ _ _ _ us hl => match us, hl with | [_, _, _], _ => rfl
  have FLs := fun_mk (st := sLs) yLs cLs kLs
  have bLs := FLs.binds (ps := ["_law_value", "_law_most_here"]) fun _ _ _ _ _ _ us hl => match us, hl with | [_, _], _ => rfl
  have FCvs := fun_mk (st := sCvs) yCvs cCvs kCvs
  have bCvs := FCvs.binds (ps := ["_law_tall", "_law_wide", "_law_places", "_law_due", "_law_value"]) fun _ _ _ _ _ _ us hl => match us, hl with | [_, _, _, _, _], _ => rfl
  have FBr := fun_mk (st := sBr) yBr cBr kBr
  have bBr := FBr.binds (ps := ["_law_pot_here", "_law_places", "_law_told", "_law_tall", "_law_wide"]) fun _ _ _ _ _ _ us hl => match us, hl with | [_, _, _, _, _], _ => rfl
  have FBc := fun_mk (st := sBc) yBc cBc kBc
  have bBc := FBc.binds (ps := ["_law_pot_here", "_law_told", "_law_tall", "_law_wide"]) fun _ _ _ _ _ _ us hl => match us, hl with | [_, _, _, _], _ => rfl
  have FRepr := fun_mk (st := sRepr) yRepr cRepr kRepr
  have bRepr := FRepr.binds (ps := ["self"]) fun _ _ _ _ _ _ us hl => match us, hl with | [_], _ => rfl
  have FInit : FunD K "__init__" "Ratio.__init__" (defArgs sInit) (defBody sInit) (defScope sInit) [.int 1] [] fInit _ := ⟨⟨_, _, _, _, _, _, _, _, _, _, rfl, yInit, cInit, .inr ⟨(fun z => nomatch z), T0, _, [.int 1 tkT], nT0, rfl, lT0, rfl, .cons ⟨tkT, rfl⟩ .nil⟩, .inl rfl⟩, kInit⟩
  obtain ⟨ds1, v1, b1⟩ := FInit.binds1 (ps := ["self", "top", "bottom"]) 2 0 (fun z => nomatch z) rfl fun _ _ _ _ _ _ _ us its hl hi => match us, hl, its, hi with | [_, _], _, [_], _ => ⟨_, rfl, rfl⟩
  have kbIr : KBn K _ ["tall", "wide", "places", "value"] 0 ["value", "places", "wide", "tall"] (fun us ws => us ++ ws.reverse) (fun vs zs => vs ++ zs.reverse) := kbn_turn FIr fun _ _ _ _ _ _ us ws hl hw => match us, hl, ws, hw with | [], _, [_, _, _, _], _ => rfl
  have kbIc : KBn K _ ["tall", "wide", "places", "value"] 0 ["value", "places", "wide", "tall"] (fun us ws => us ++ ws.reverse) (fun vs zs => vs ++ zs.reverse) := kbn_turn FIc fun _ _ _ _ _ _ us ws hl hw => match us, hl, ws, hw with | [], _, [_, _, _, _], _ => rfl
  refine ⟨PySem.W.fnOf "law" "law" (defArgs sLaw) (defBody sLaw) (defScope sLaw) .none kVLaw dcLaw pmLaw anLaw cdLaw ctLaw, fun s v => .of_eq rfl, fun base _ _ => ?_⟩
  have G0 := ok_init (P := l.prog) (w := w) (base := base) FInit B R (one_isInt FIsInt B) (PySem.W.mg_of X G aIsInt) kIsInt bIsInt
  let D : Mkr l.prog w K mg base C := ⟨B, R, fInit, _, ⟨mk, aInit, iInit, kc⟩, G0, ds1, v1, b1⟩
  have GRepr := ok_repr (P := l.prog) (w := w) (base := base) FRepr R
  let dInt : Dn l.prog w K mg base 1 "is_integer" ["value"] (SpG FisInt) := ⟨fIsInt, _, ok_isInt FIsInt B, PySem.W.mg_of X G aIsInt, kIsInt, bIsInt⟩
  let gInt : Dn l.prog w K mg base 1 "is_integer" ["value"] (SpG (GintG C)) := ⟨fIsInt, _, gok_isInt FIsInt B R, PySem.W.mg_of X G aIsInt, kIsInt, bIsInt⟩
  let dCount : Dn l.prog w K mg base 2 "is_count" ["value"] (SpG FisCount) := ⟨fIsCount, _, ok_isCount FIsCount B dInt, PySem.W.mg_of X G aIsCount, kIsCount, bIsCount⟩
  let gCount : Dn l.prog w K mg base 2 "is_count" ["value"] (SpG (GcountG C)) := ⟨fIsCount, _, gok_isCount FIsCount B gInt, PySem.W.mg_of X G aIsCount, kIsCount, bIsCount⟩
  let dList : Dn l.prog w K mg base 1 "is_list" ["value"] (SpG FisList) := ⟨fIsList, _, ok_isList FIsList B, PySem.W.mg_of X G aIsList, kIsList, bIsList⟩
  let gList : Dn l.prog w K mg base 1 "is_list" ["value"] (SpG (GlistG C)) := ⟨fIsList, _, gok_isList FIsList B R, PySem.W.mg_of X G aIsList, kIsList, bIsList⟩
  let dBet : Dn l.prog w K mg base 3 "is_between" ["value", "low", "high"] (SpG Fbet) := ⟨fBet, _, ok_bet FBet B dCount, PySem.W.mg_of X G aBet, kBet, bBet⟩
  let gBet : Dn l.prog w K mg base 3 "is_between" ["value", "low", "high"] (SpG (GbetG C)) := ⟨fBet, _, gok_bet FBet B gCount, PySem.W.mg_of X G aBet, kBet, bBet⟩
  let dWm : Dn l.prog w K mg base 4 "want_many" ["value", "low", "high"] (SpG Fwm) := ⟨fWm, _, ok_wm FWm B dBet, PySem.W.mg_of X G aWm, kWm, bWm⟩
  let dPl : Dn l.prog w K mg base 4 "is_place" ["value", "tall", "wide"] (SpG Fpl) := ⟨fPl, _, ok_pl FPl B dBet, PySem.W.mg_of X G aPl, kPl, bPl⟩
  let gPl : Dn l.prog w K mg base 4 "is_place" ["value", "tall", "wide"] (SpG (GplG C)) := ⟨fPl, _, gok_pl FPl B R gBet, PySem.W.mg_of X G aPl, kPl, bPl⟩
  let dPat : Dn l.prog w K mg base 5 "are_places" ["value", "tall", "wide", "low", "high"] (SpG Fpat) := ⟨fPat, _, ok_pat FPat B dList dPl, PySem.W.mg_of X G aPat, kPat, bPat⟩
  let dWb : Dn l.prog w K mg base 6 "_want_board" ["tall", "wide", "places"] (SpG Fwb) := ⟨fWb, _, ok_wb FWb B (PySem.W.mg_of X G c4) (PySem.W.mg_of X G c16) dWm dPat, PySem.W.mg_of X G aWb, kWb, bWb⟩
  let dMr : Dn l.prog w K mg base 5 "_most_rooks" ["places", "tall", "taken", "row"] (SpG Fmr4) := ⟨fMr, _, fn_any fun n hn => (ok_mr FMr B (PySem.W.mg_of X G aMr) kMr bMr n).mono (Nat.succ_le_succ hn), PySem.W.mg_of X G aMr, kMr, bMr⟩
  let dRk : Dn l.prog w K mg base 7 "rooks" ["tall", "wide", "places"] (SpG Frk) := ⟨fRk, _, ok_rk FRk B dWb dMr, PySem.W.mg_of X G aRk, kRk, bRk⟩
  let dLo : Dn l.prog w K mg base 1 "_lots" ["many"] (SpG Flo) := ⟨fLo, _, ok_lo FLo B, PySem.W.mg_of X G aLo, kLo, bLo⟩
  let dCs : Dn l.prog w K mg base 1 "_cover_size" ["value"] (SpG Fcs) := ⟨fCs, _, ok_cs FCs B, PySem.W.mg_of X G aCs, kCs, bCs⟩
  let dCv : Dn l.prog w K mg base 7 "cover" ["tall", "wide", "places"] (SpG Fcv) := ⟨fCv, _, ok_cv FCv B dWb dLo dCs, PySem.W.mg_of X G aCv, kCv, bCv⟩
  let gIr : DnK l.prog w K mg base 8 "is_rooks" ["tall", "wide", "places", "value"] (SpG (GirG C)) := ⟨⟨fIr, _, gok_ir FIr B dWb gList gPl dRk, PySem.W.mg_of X G aIr, kIr, bIr⟩, kbIr⟩
  let gUn : Dn l.prog w K mg base 4 "is_lot" ["value", "many"] (SpG (GunG C)) := ⟨fUn, _, gok_un FUn B gList gBet, PySem.W.mg_of X G aUn, kUn, bUn⟩
  let gIc : DnK l.prog w K mg base 8 "is_cover" ["tall", "wide", "places", "value"] (SpG (GicG C)) := ⟨⟨fIc, _, gok_ic FIc B R dWb gUn ⟨fCs, _, gok_cs FCs B, PySem.W.mg_of X G aCs, kCs, bCs⟩ dCv, PySem.W.mg_of X G aIc, kIc, bIc⟩, kbIc⟩
  let dPo : Dn l.prog w K mg base 1 "_law_pot" ["_law_script", "_law_k"] (SpPot K) := ⟨fPo, _, ok_po FPo B, PySem.W.mg_of X G aPo, kPo, bPo⟩
  let dDr : Dn l.prog w K mg base 1 "_law_draw" ["_law_pot_here", "_law_many"] SpDraw := ⟨fDr, _, ok_dr FDr B, PySem.W.mg_of X G aDr, kDr, bDr⟩
  let dPk : Dn l.prog w K mg base 2 "_law_pick" ["_law_pot_here", "_law_some"] SpPk := ⟨fPk, _, ok_pk FPk B dDr, PySem.W.mg_of X G aPk, kPk, bPk⟩
  let dBo : Dn l.prog w K mg base 2 "_law_board" ["_law_pot_here", "_law_most_here"] SpBoard := ⟨fBo, _, ok_bo FBo B dDr, PySem.W.mg_of X G aBo, kBo, bBo⟩
  let dMo : Dn l.prog w K mg base 5 "_law_most" ["_law_tall", "_law_places", "_law_row", "_law_used"] (SpG Fmo4) := ⟨fMo, _, fn_any fun n hn => (ok_mo FMo B (PySem.W.mg_of X G aMo) kMo bMo n).mono (Nat.succ_le_succ hn), PySem.W.mg_of X G aMo, kMo, bMo⟩
  let gLc : Dn l.prog w K mg base 1 "_law_is_count" ["_law_value", "_law_most_here"] (SpG (GlcG C)) := ⟨fLc, _, ok_lc FLc B R, PySem.W.mg_of X G aLc, kLc, bLc⟩
  let gLp : Dn l.prog w K mg base 2 "_law_is_place" ["_law_value", "_law_places"] (SpG (GlpG C)) := ⟨fLp, _, ok_lp FLp B R gLc, PySem.W.mg_of X G aLp, kLp, bLp⟩
  let gRs : Dn l.prog w K mg base 3 "_law_rooks_seen" ["_law_places", "_law_due", "_law_value"] (SpG (GrsG C)) := ⟨fRs, _, ok_rs FRs B R gLp, PySem.W.mg_of X G aRs, kRs, bRs⟩
  let gLs : Dn l.prog w K mg base 2 "_law_lines_seen" ["_law_value", "_law_most_here"] (SpG (GunG C)) := ⟨fLs, _, ok_ls FLs B R gLc, PySem.W.mg_of X G aLs, kLs, bLs⟩
  let gCvs : Dn l.prog w K mg base 3 "_law_cover_seen" ["_law_tall", "_law_wide", "_law_places", "_law_due", "_law_value"] (SpG (GcsG C)) := ⟨fCvs, _, ok_cvs FCvs B R gLs, PySem.W.mg_of X G aCvs, kCvs, bCvs⟩
  let dBr : Dn l.prog w K mg base 4 "_law_bent_rooks" ["_law_pot_here", "_law_places", "_law_told", "_law_tall", "_law_wide"] (SpBr C) := ⟨fBr, _, ok_br FBr D dPk dDr, PySem.W.mg_of X G aBr, kBr, bBr⟩
  let dBc : Dn l.prog w K mg base 4 "_law_bent_covers" ["_law_pot_here", "_law_told", "_law_tall", "_law_wide"] (SpBc C) := ⟨fBc, _, ok_bc FBc D dDr, PySem.W.mg_of X G aBc, kBc, bBc⟩
  let dRi : DnG l.prog w K mg base 10 "_law_right" ["_law_pot_here"] SpRi := ⟨fRi, _, ok_ri FRi D dBo dMo dRk dCv gIr gIc gRs gCvs dBr dBc GRepr ⟨aRepr, iRepr⟩ bRepr, PySem.W.mg_of X G aRi, kRi, bRi⟩
  exact ok_law FLaw B dPo dRi
theorem walk {l : PySem.W.OpenLaw} {n : Nat} {q : Program} {loose : List Str} {XP : (Str → Option Value) → Heap → Prop} {YP : World → Heap → Prop} {d : DefRec} {K : Params → PySem.W.Frag} (hn : l.most = some n) (hn2 : n ≤ sizeLine) (hdf : d.params.defaults = [])
    (hY : ∀ (w : World) (h : Heap), YP w h → (K w.params).In h)
    (F : ∀ (w : World) (mg : Str → Option Value) (fa : Addr) (h : Heap), (K w.params).In h → h.Ns mainGlobals mg → mg d.name = some (.ref fa) →
      ∃ fd : FuncData, (∀ (s : Shared) (u : Value), BindsTo s fd ⟨[u], []⟩ [("_law_script", u)]) ∧ ∀ base : Heap, (K w.params).In base → base.Ns mainGlobals mg → FnG l.prog w (K w.params) mg base 11 fa fd ["_law_script"] (SpLaw (K w.params))) :
    PySem.W.WalkO q loose XP YP l.row.toRowW d [] (fun f vs => PySem.call f vs) :=
  walkG (k := 11) (x := "_law_script") (sp := fun K => SpLaw K) hn hn2 hdf ⟨rfl, by decide, by decide⟩ hY F fun K H a ns _ hS => ⟨a, ns, rfl, hS, fun _ => rfl⟩
end K73

set_option Elab.async false
set_option maxRecDepth 100000
open PySem PySem.W PyProof.Rows in
set_option maxRecDepth 100000 in
set_option maxHeartbeats 0 in
theorem PySem.Challenge.cw_shrunkrooms_k73_any_values_as_rooks_and_holds : PySem.Challenge.rw_shrunkrooms_k73_any_values_as_rooks_and.Holds := by
  w_on; o_law; k_head; (case hw => w_witness2)
  k_fill
  refine K73.walk (l := PySem.Challenge.rw_shrunkrooms_k73_any_values_as_rooks_and) rfl (by decide) rfl (fun w h Y => PySem.W.kIn_of Y) ?F
  case F =>
    intro w mg fa h KX G hmg
    refine' K73.all_mk KX G hmg ?aC ?aInit ?iInit ?yInit ?cInit ?kInit ?lT0 ?aRepr ?iRepr ?yRepr ?cRepr ?kRepr ?aIsInt ?yIsInt ?cIsInt ?kIsInt ?aIsCount ?yIsCount ?cIsCount ?kIsCount ?aIsList ?yIsList ?cIsList ?kIsList ?aBet ?yBet ?cBet ?kBet ?aWm ?yWm ?cWm ?kWm ?aPat ?yPat ?cPat ?kPat ?aPl ?yPl ?cPl ?kPl ?aRk ?yRk ?cRk ?kRk ?aIr ?yIr ?cIr ?kIr ?aCv ?yCv ?cCv ?kCv ?aIc ?yIc ?cIc ?kIc ?aMr ?yMr ?cMr ?kMr ?aLo ?yLo ?cLo ?kLo ?aCs ?yCs ?cCs ?kCs ?aUn ?yUn ?cUn ?kUn ?aWb ?yWb ?cWb ?kWb ?aPo ?yPo ?cPo ?kPo ?aDr ?yDr ?cDr ?kDr ?aBo ?yBo ?cBo ?kBo ?aMo ?yMo ?cMo ?kMo ?aRi ?yRi ?cRi ?kRi ?aLaw ?yLaw ?cLaw ?kLaw ?aPk ?yPk ?cPk ?kPk ?aLc ?yLc ?cLc ?kLc ?aLp ?yLp ?cLp ?kLp ?aRs ?yRs ?cRs ?kRs ?aLs ?yLs ?cLs ?kLs ?aCvs ?yCvs ?cCvs ?kCvs ?aBr ?yBr ?cBr ?kBr ?aBc ?yBc ?cBc ?kBc ?z_isinstance ?z_int ?z_bool ?z_abs ?z_list ?z_tuple ?z_len ?z_max ?z_min ?z_divmod ?z_range ?z_repr ?z_all ?z_set ?z_sorted ?z_dict ?z_zip ?z_gcd ?c16 ?c4 ?pg ?hd ?po ?sa ?mk ?kc ?nTop ?nBot ?ha ?hn ?htk ?hm ?b_int ?b_bool ?b_list ?b_tuple
    (case aC => k_is)
    (case aInit => k_is)
    (case iInit => k_is)
    (case yInit => k_is)
    (case cInit => k_is)
    (case kInit => k_is)
    (case lT0 => k_is)
    (case aRepr => k_is)
    (case iRepr => k_is)
    (case yRepr => k_is)
    (case cRepr => k_is)
    (case kRepr => k_is)
    (case aIsInt => k_is)
    (case yIsInt => k_is)
    (case cIsInt => k_is)
    (case kIsInt => k_is)
    (case aIsCount => k_is)
    (case yIsCount => k_is)
    (case cIsCount => k_is)
    (case kIsCount => k_is)
    (case aIsList => k_is)
    (case yIsList => k_is)
    (case cIsList => k_is)
    (case kIsList => k_is)
    (case aBet => k_is)
    (case yBet => k_is)
    (case cBet => k_is)
    (case kBet => k_is)
    (case aWm => k_is)
    (case yWm => k_is)
    (case cWm => k_is)
    (case kWm => k_is)
    (case aPat => k_is)
    (case yPat => k_is)
    (case cPat => k_is)
    (case kPat => k_is)
    (case aPl => k_is)
    (case yPl => k_is)
    (case cPl => k_is)
    (case kPl => k_is)
    (case aRk => k_is)
    (case yRk => k_is)
    (case cRk => k_is)
    (case kRk => k_is)
    (case aIr => k_is)
    (case yIr => k_is)
    (case cIr => k_is)
    (case kIr => k_is)
    (case aCv => k_is)
    (case yCv => k_is)
    (case cCv => k_is)
    (case kCv => k_is)
    (case aIc => k_is)
    (case yIc => k_is)
    (case cIc => k_is)
    (case kIc => k_is)
    (case aMr => k_is)
    (case yMr => k_is)
    (case cMr => k_is)
    (case kMr => k_is)
    (case aLo => k_is)
    (case yLo => k_is)
    (case cLo => k_is)
    (case kLo => k_is)
    (case aCs => k_is)
    (case yCs => k_is)
    (case cCs => k_is)
    (case kCs => k_is)
    (case aUn => k_is)
    (case yUn => k_is)
    (case cUn => k_is)
    (case kUn => k_is)
    (case aWb => k_is)
    (case yWb => k_is)
    (case cWb => k_is)
    (case kWb => k_is)
    (case aPo => k_is)
    (case yPo => k_is)
    (case cPo => k_is)
    (case kPo => k_is)
    (case aDr => k_is)
    (case yDr => k_is)
    (case cDr => k_is)
    (case kDr => k_is)
    (case aBo => k_is)
    (case yBo => k_is)
    (case cBo => k_is)
    (case kBo => k_is)
    (case aMo => k_is)
    (case yMo => k_is)
    (case cMo => k_is)
    (case kMo => k_is)
    (case aRi => k_is)
    (case yRi => k_is)
    (case cRi => k_is)
    (case kRi => k_is)
    (case aLaw => k_is)
    (case yLaw => k_is)
    (case cLaw => k_is)
    (case kLaw => k_is)
    (case aPk => k_is)
    (case yPk => k_is)
    (case cPk => k_is)
    (case kPk => k_is)
    (case aLc => k_is)
    (case yLc => k_is)
    (case cLc => k_is)
    (case kLc => k_is)
    (case aLp => k_is)
    (case yLp => k_is)
    (case cLp => k_is)
    (case kLp => k_is)
    (case aRs => k_is)
    (case yRs => k_is)
    (case cRs => k_is)
    (case kRs => k_is)
    (case aLs => k_is)
    (case yLs => k_is)
    (case cLs => k_is)
    (case kLs => k_is)
    (case aCvs => k_is)
    (case yCvs => k_is)
    (case cCvs => k_is)
    (case kCvs => k_is)
    (case aBr => k_is)
    (case yBr => k_is)
    (case cBr => k_is)
    (case kBr => k_is)
    (case aBc => k_is)
    (case yBc => k_is)
    (case cBc => k_is)
    (case kBc => k_is)
    (case z_isinstance => k_is)
    (case z_int => k_is)
    (case z_bool => k_is)
    (case z_abs => k_is)
    (case z_list => k_is)
    (case z_tuple => k_is)
    (case z_len => k_is)
    (case z_max => k_is)
    (case z_min => k_is)
    (case z_divmod => k_is)
    (case z_range => k_is)
    (case z_repr => k_is)
    (case z_all => k_is)
    (case z_set => k_is)
    (case z_sorted => k_is)
    (case z_dict => k_is)
    (case z_zip => k_is)
    (case z_gcd => k_is)
    (case c16 => k_is)
    (case c4 => k_is)
    (case pg => k_is)
    (case hd => k_is)
    (case po => k_is)
    (case sa => k_is)
    (case mk => k_is)
    (case kc => k_is)
    (case nTop => k_is)
    (case nBot => k_is)
    (case ha => k_is)
    (case hn => k_is)
    (case htk => k_is)
    (case hm => k_is)
    (case b_int => k_is)
    (case b_bool => k_is)
    (case b_list => k_is)
    (case b_tuple => k_is)
