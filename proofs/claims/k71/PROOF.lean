import PyProof.Rows.All
import Wide.All
import OpenK.AllK
import Wide.FinOn
import HandS.ForMost
import HandS.SlotsOwn
import HandS.Wide
import HandS.Gcd
import KE.KOpsOwn
import KE.KMathG
import KE.KCallOwn
import HandS.Deep
import HandS.IsInst
import HandS.Words
import HandS.Star
import HandS.Zip
import HandS.TupAny
import HandS.SetFor
import HandS.Strs
import KE.DataMinKey
import KE.KMinKey
import HandS.SortKw
import HandS.Defaults
import HandS.Style
import HandS.SortRule
import HandS.TupLe
import HandS.WordsDict
import PyProof.ReprBulk
import HandS.MakeKw
import PySem.Challenge.RW_shrunkrooms_k71_whole_rooks_and_covers
set_option Elab.async false
set_option linter.all false
set_option maxRecDepth 100000
set_option maxHeartbeats 4000000
/-! Rules of this proof's own, over the hand layer: operators, comparisons, text and repr of an instance by its own defs; least common multiples; floor division by any divisor. -/
namespace RQ
open PySem PySem.Spec PyProof.Rows L2

/-! ### facts of the written part about an own class and the type int -/
/-- the class has the def g for the operator's name and h for the name turned about -/
structure BinC (K : PySem.W.Frag) (C g h : Addr) (nm : String) : Prop where
  sf : PySem.W.selfFirst K C = true
  l : PySem.W.findIn K (.ref C) (PySem.dunder nm) = some (some (.ref g))
  lf : PySem.W.isFn K (.ref g) = true
  r : PySem.W.findIn K (.ref C) (dunderR nm) = some (some (.ref h))
  rf : PySem.W.isFn K (.ref h) = true
  below : PySem.W.subIn K (.type "int") (.ref C) = some false
  above : PySem.W.subIn K (.ref C) (.type "int") = some false

section
variable {X : Cx} {CX : CXT} {C g h : Addr} {sp : Sp} {E : XK} {n : Nat} {nm : String}

/-- x op y, x an instance of the class at C, y another one or an int -/
def rInsL (C : Addr) (sp : Sp) (E : XK) : R2 := fun x y H Q =>
  (∃ a dx fs, x = .ref a ∧ H a = some (.ins C dx fs)) ∧ ((∃ b dy gs, y = .ref b ∧ H b = some (.ins C dy gs)) ∨ ∃ i, y = .int i) ∧ sp [x, y] H Q E
theorem op_insL {op : Operator} (hn : op.info.2 = nm) (c : BinC X.K C g h nm) (i1 : ∃ fo, PySem.W.findIn X.K (.type "int") (PySem.dunder nm) = some fo)
    (i2 : ∃ ro, PySem.W.findIn X.K (.type "int") (dunderR nm) = some ro) (F : FnR X.prog X.w X.K X.mg X.base CX n g sp) (hr : Room n X.A) (hx : Passes CX X E) :
    OpR X (binaryOp op) (rInsL C sp E) := by
  subst hn
  intro pins s σ H x y v u Q I rx ry hq
  obtain ⟨⟨a, dx, fs, rfl, ha⟩, hy, q⟩ := hq
  cases (show v = Value.ref a from rx)
  obtain ⟨mA, O, _⟩ := ins_get I.hok ha
  obtain ⟨od, J, _⟩ := O.look
  obtain ⟨m, hF⟩ := I.fr
  have run : ∀ w : Value, RelV y w → wpAny (model X.prog X.w) X.A (call (.ref g) [.ref a, w]) (PySem.W.CmpBack (EP X pins σ Q)) X.xe s := fun w rw_ =>
    wpAny_mono (wpAny_call (run_fnR (us := [.ref a, w]) (vs := [.ref a, y]) F hr hx I (.cons rfl (.cons rw_ .nil)) q)) (fun z s' hz => by
      obtain ⟨z', H', I', rz, qz⟩ := hz
      exact SlX.cmpback rz ⟨z', H', I', rz, qz⟩) fun _ _ e => e
  rcases hy with ⟨b, dy, gs, rfl, hb⟩ | ⟨i, rfl⟩
  · cases (show u = Value.ref b from ry)
    obtain ⟨mB, O', _⟩ := ins_get I.hok hb
    obtain ⟨od', J', _⟩ := O'.look
    exact PySem.W.binop_K hF I.ok.mod.kin J J'.type c.sf c.l c.lf (run _ rfl)
  · obtain ⟨t, rfl⟩ := (show ∃ t, u = Value.int i t from ry)
    obtain ⟨fo, e1⟩ := i1
    obtain ⟨ro, e2⟩ := i2
    exact PySem.W.ksp_binT hF I.ok.mod.kin J rfl c.sf c.l c.lf c.r (.inr ⟨_, rfl⟩) e1 e2 c.below (run _ ⟨t, rfl⟩)

/-- i op y, i an int, y an instance: the int's own slot declines, the name turned about is called -/
def rInsR (C : Addr) (sp : Sp) (E : XK) : R2 := fun x y H Q => ∃ i b dy gs, x = .int i ∧ y = .ref b ∧ H b = some (.ins C dy gs) ∧ sp [y, x] H Q E
end

/-! ### the int's own slots decline an instance -/
abbrev Dec (t : Sem Fin) (b C dx : Addr) : Prop := Meets t (fun _ R s => s.heap.get? b = some (PySem.W.instObj C dx) ∧ R (.ok (.ret Value.notImplemented)) s)
theorem dec_add (i : Int) (t : Tok) (b C dx : Addr) : Dec (Builtin.«int.__add__» ⟨[.int i t, .ref b], []⟩) b C dx :=
  .of_wp fun prog w A R s h => by obtain ⟨hp, g, d, tk, os⟩ := s; obtain ⟨hl, h⟩ := h; wp_walk; exact ⟨_, rfl, h⟩
theorem dec_sub (i : Int) (t : Tok) (b C dx : Addr) : Dec (Builtin.«int.__sub__» ⟨[.int i t, .ref b], []⟩) b C dx :=
  .of_wp fun prog w A R s h => by obtain ⟨hp, g, d, tk, os⟩ := s; obtain ⟨hl, h⟩ := h; wp_walk; exact ⟨_, rfl, h⟩
theorem dec_mul (i : Int) (t : Tok) (b C dx : Addr) : Dec (Builtin.«int.__mul__» ⟨[.int i t, .ref b], []⟩) b C dx :=
  .of_wp fun prog w A R s h => by obtain ⟨hp, g, d, tk, os⟩ := s; obtain ⟨hl, h⟩ := h; wp_walk; exact ⟨_, rfl, h⟩
theorem dec_eq (i : Int) (t : Tok) (b C dx : Addr) : Dec (Builtin.«int.__eq__» ⟨[.int i t, .ref b], []⟩) b C dx :=
  .of_wp fun prog w A R s h => by obtain ⟨hp, g, d, tk, os⟩ := s; obtain ⟨hl, h⟩ := h; wp_walk; exact ⟨_, rfl, h⟩

section
variable {M : Model} {A : Around} {E : Value → Shared → Prop} {s : Shared} {K : PySem.W.Frag} {x C f g : Addr} {ox : Obj} {od : Option Obj} {nm : String}
/-- an int ahead of an instance: how the operator goes about it -/
theorem bin1_refl {id : String} {i : Int} {t : Tok} {Q : Option Value → Shared → Prop} (XK : K.In s.heap) (J : PySem.W.InstAt s.heap x ox C od) (c : BinC K C f g nm)
    (hfi : fillsNumberSlot (.type "int") nm = pure true) (hl : Slot "int" (PySem.dunder nm) id)
    (hd : wpAny M A (call (.builtin id) [.int i t, .ref x]) (fun v s' => v = .notImplemented ∧ s' = s) E s)
    (h : wpAny M A (call (.ref g) [.ref x, .int i t]) (PySem.W.CmpBack fun v s' => Q (some v) s') E s) : wpAny M A (binaryOp1 nm (.int i t) (.ref x)) Q E s := by
  obtain ⟨cd, rest, hcd, hm⟩ := PySem.W.ksp_first c.sf
  have L3 := PySem.W.fills_K (M := M) XK hcd hm c.l
  have L5 := PySem.W.looks_subIn (M := M) XK c.above
  have hne : (Value.type "int" == Value.ref C) = false := Bool.eq_false_iff.mpr fun q => by cases beq_iff_eq.mp q
  have back := PySem.W.ksp_try (Q := fun v s' => Q (some v) s') XK J c.r c.rf h
  unfold binaryOp1
  refine wpAny_bind (wpAny_typeOf (typeIs_int s i t) (wpAny_bind (J.type.here (wpAny_bind (wpAny_of_eq hfi ?_)))))
  simp only [hne, Bool.false_eq_true, if_false]
  refine wpAny_bind (L3.here ?_)
  simp only [Bool.and_self, if_true]
  refine wpAny_bind (L5.here ?_)
  have hpy : numberSlotInPython (.type "int") nm = pure false := rfl
  simp only [Bool.false_eq_true, if_false, pure_bind, Bool.not_false, Bool.and_self, if_true, hpy]
  refine wpAny_bind (wpAny_tryMethod_declines (typeIs_int s i t) hl (wpAny_mono hd (fun v s' z => ?_) fun _ _ e => e))
  obtain ⟨rfl, rfl⟩ := z
  refine ⟨rfl, ?_⟩
  refine wpAny_bind (wpAny_mono back (fun r s' z => ?_) fun _ _ e => e)
  obtain ⟨v, rfl, q⟩ := z
  exact wpAny_bind (wpAny_rule (wpAny_pure q))
end
section
variable {X : Cx} {CX : CXT} {C g h : Addr} {sp : Sp} {E : XK} {n : Nat} {nm : String}
theorem op_insR {op : Operator} {id : String} {B : Builtin} (hn : op.info.2 = nm) (c : BinC X.K C g h nm) (hfi : fillsNumberSlot (.type "int") nm = pure true) (hl : Slot "int" (PySem.dunder nm) id)
    (entry : entryFor table id = some B) (args : ∀ a b : Value, argsOk id ⟨[a, b], []⟩) (dec : ∀ (i : Int) (t : Tok) (b C dx : Addr), Dec (B ⟨[.int i t, .ref b], []⟩) b C dx)
    (F : FnR X.prog X.w X.K X.mg X.base CX n h sp) (hr : Room n X.A) (hx : Passes CX X E) : OpR X (binaryOp op) (rInsR C sp E) := by
  subst hn
  intro pins s σ H x y v u Q I rx ry hq
  obtain ⟨i, b, dy, gs, rfl, rfl, hb, q⟩ := hq
  obtain ⟨t, rfl⟩ := (show ∃ t, v = Value.int i t from rx)
  cases (show u = Value.ref b from ry)
  obtain ⟨mA, O, _⟩ := ins_get I.hok hb
  obtain ⟨od, J, _⟩ := O.look
  rcases hi : op.info with ⟨sym, nm'⟩
  rw [hi] at c hfi hl
  simp only [binaryOp, hi]
  refine wpAny_holding (wpAny_bind ?_)
  refine bin1_refl I.kIn J c hfi hl (call_meets hl (typeIs_int s i t) entry (args _ _) (dec i t b C dy) ⟨O.obj, rfl, rfl⟩) ?_
  refine wpAny_mono (wpAny_call (run_fnR (us := [.ref b, .int i t]) (vs := [.ref b, .int i]) F hr hx I (.cons rfl (.cons ⟨t, rfl⟩ .nil)) q)) (fun z s' hz => ?_) fun _ _ e => e
  obtain ⟨z', H', I', rz, qz⟩ := hz
  exact SlX.cmpback rz (wpAny_pure ⟨z', H', I', rz, qz⟩)
end

/-! ### == and != by the class's own == -/
structure EqC (K : PySem.W.Frag) (C g : Addr) : Prop where
  at_ : PySem.W.findIn K (.ref C) "__eq__" = some (some (.ref g))
  fn : PySem.W.isFn K (.ref g) = true
  ne : PySem.W.findIn K (.ref C) "__ne__" = some (some (.builtin "object.__ne__"))
  ob : PySem.W.mroIn K C (.type "object") = some true
  below : PySem.W.subIn K (.type "int") (.ref C) = some false
  above : PySem.W.subIn K (.ref C) (.type "int") = some false
section
variable {X : Cx} {CX : CXT} {C g : Addr} {sp : Sp} {E : XK} {n : Nat}
/-- x == y, x an instance, y another one or an int -/
def rEqL (C : Addr) (sp : Sp) (E : XK) : R2 := fun x y H Q =>
  (∃ a dx fs, x = .ref a ∧ H a = some (.ins C dx fs)) ∧ ((∃ b dy gs, y = .ref b ∧ H b = some (.ins C dy gs)) ∨ ∃ i, y = .int i) ∧ sp [x, y] H Q E
theorem op_eqL (c : EqC X.K C g) (F : FnR X.prog X.w X.K X.mg X.base CX n g sp) (hr : Room n X.A) (hx : Passes CX X E) : OpR X (compareOp .Eq) (rEqL C sp E) := by
  intro pins s σ H x y v u Q I rx ry hq
  obtain ⟨⟨a, dx, fs, rfl, ha⟩, hy, q⟩ := hq
  cases (show v = Value.ref a from rx)
  obtain ⟨mA, O, _⟩ := ins_get I.hok ha
  obtain ⟨od, J, _⟩ := O.look
  obtain ⟨m, hF⟩ := I.fr
  have run : ∀ w : Value, RelV y w → wpAny (model X.prog X.w) X.A (call (.ref g) [.ref a, w]) (PySem.W.CmpBack (EP X pins σ Q)) X.xe s := fun w rw_ =>
    wpAny_mono (wpAny_call (run_fnR (us := [.ref a, w]) (vs := [.ref a, y]) F hr hx I (.cons rfl (.cons rw_ .nil)) q)) (fun z s' hz => by
      obtain ⟨z', H', I', rz, qz⟩ := hz
      exact SlX.cmpback rz ⟨z', H', I', rz, qz⟩) fun _ _ e => e
  show wpAny (model X.prog X.w) X.A (richCompare .Eq (.ref a) u) (EP X pins σ Q) X.xe s
  rcases hy with ⟨b, dy, gs, rfl, hb⟩ | ⟨i, rfl⟩
  · cases (show u = Value.ref b from ry)
    obtain ⟨mB, O', _⟩ := ins_get I.hok hb
    obtain ⟨od', J', _⟩ := O'.look
    exact PySem.W.cmp_K (op := .Eq) (tb := .ref C) hr.units0 hF I.ok.mod.kin J J'.type (by simp [PySem.W.notFirst]) c.at_ c.fn (run _ rfl)
  · obtain ⟨t, rfl⟩ := (show ∃ t, u = Value.int i t from ry)
    exact PySem.W.cmp_K (op := .Eq) (tb := .type "int") hr.units0 hF I.ok.mod.kin J (PySem.W.Looks.of_pure rfl) (by unfold PySem.W.notFirst; rw [c.below]; simp) c.at_ c.fn (run _ ⟨t, rfl⟩)

/-- i == y, i an int, y an instance: the int's own == declines -/
def rEqR (C : Addr) (sp : Sp) (E : XK) : R2 := fun x y H Q => ∃ i b dy gs, x = .int i ∧ y = .ref b ∧ H b = some (.ins C dy gs) ∧ sp [y, x] H Q E
theorem op_eqR (c : EqC X.K C g) (F : FnR X.prog X.w X.K X.mg X.base CX n g sp) (hr : Room n X.A) (hx : Passes CX X E) : OpR X (compareOp .Eq) (rEqR C sp E) := by
  intro pins s σ H x y v u Q I rx ry hq
  obtain ⟨i, b, dy, gs, rfl, rfl, hb, q⟩ := hq
  obtain ⟨t, rfl⟩ := (show ∃ t, v = Value.int i t from rx)
  cases (show u = Value.ref b from ry)
  obtain ⟨mA, O, _⟩ := ins_get I.hok hb
  obtain ⟨od, J, _⟩ := O.look
  have L5 := PySem.W.looks_subIn (M := model X.prog X.w) I.kIn c.above
  have hne : (Value.type "int" != Value.ref C) = true := by
    have z : (Value.type "int" == Value.ref C) = false := Bool.eq_false_iff.mpr fun q => by cases beq_iff_eq.mp q
    rw [bne, z]; rfl
  show wpAny (model X.prog X.w) X.A (richCompare .Eq (.int i t) (.ref b)) (EP X pins σ Q) X.xe s
  unfold richCompare
  refine wpAny_holding (wpAny_bind (wpAny_cRoomFor hr.units0 ?_))
  have one : oneThing? .Eq (.int i t) (.ref b) = none := by first | rfl | simp [oneThing?]
  simp only [one]
  refine wpAny_bind (wpAny_typeOf (typeIs_int s i t) (wpAny_bind (J.type.here ?_)))
  simp only [hne, if_true]
  refine wpAny_bind (L5.here ?_)
  simp only [Bool.false_eq_true, if_false, Bool.not_false, if_true]
  have first_ : wpAny (model X.prog X.w) X.A (tryCompare (.int i t) (cmpInfo .Eq).2.1 (.ref b)) (fun r s' => r = none ∧ s' = s) X.xe s := by
    unfold tryCompare
    refine wpAny_bind (wpAny_callSpecialIfBound?_slot (typeIs_int s i t) PySem.F.slot_int_eq (call_meets PySem.F.slot_int_eq (typeIs_int s i t) PySem.F.entry_int_eq (PySem.F.args_int_eq_2 _ _) (dec_eq i t b C dy) ⟨O.obj, ?_⟩))
    exact wpAny_pure ⟨rfl, rfl⟩
  refine wpAny_bind (wpAny_mono first_ (fun r s' z => ?_) fun _ _ e => e)
  obtain ⟨rfl, rfl⟩ := z
  have two : wpAny (model X.prog X.w) X.A (tryCompare (.ref b) (cmpInfo .Eq).2.2 (.int i t)) (fun r s' => ∃ v, r = some v ∧ EP X pins σ Q v s') X.xe s' := by
    unfold tryCompare
    refine wpAny_bind (PySem.W.ifBound_K I.kIn J c.at_ c.fn (wpAny_mono (wpAny_call (run_fnR (us := [.ref b, .int i t]) (vs := [.ref b, .int i]) F hr hx I (.cons rfl (.cons ⟨t, rfl⟩ .nil)) q)) (fun z s' hz => ?_) fun _ _ e => e))
    obtain ⟨z', H', I', rz, qz⟩ := hz
    have k := SlX.cmpback (P := fun v s' => EP X pins σ Q v s') rz ⟨z', H', I', rz, qz⟩
    cases z <;> first | exact k.elim | exact wpAny_pure ⟨_, rfl, k⟩
  refine wpAny_bind (wpAny_mono two (fun r s' z => ?_) fun _ _ e => e)
  obtain ⟨v, rfl, hq⟩ := z
  exact wpAny_pure hq
end

section
variable {prog : Program} {w : World} {A : Around} {E : Value → Shared → Prop} {s : Shared} {K : PySem.W.Frag} {x C g : Addr} {ox : Obj} {od : Option Obj}
/-- a special name that the class has as a built-in -/
theorem bound_blt {M : Model} {id : String} {name : Str} {args : List Value} {Q : Option Value → Shared → Prop} (XK : K.In s.heap) (J : PySem.W.InstAt s.heap x ox C od) (hs : PySem.W.findIn K (.ref C) name = some (some (.builtin id)))
    (hb : ∀ self, bindSpecial (.builtin id) self = pure (.builtin id, [self])) (h : wpAny M A (call (.builtin id) (.ref x :: args)) (fun v => Q (some v)) E s) : wpAny M A (callSpecialIfBound? (.ref x) name args) Q E s := by
  simp only [callSpecialIfBound?, bindSpecialIfBound?]
  refine wpAny_holding (wpAny_bind (wpAny_bind (wpAny_bind (J.type.here ((PySem.W.looks_findIn XK hs).here ?_)))))
  refine wpAny_bind (wpAny_askSetting (wpAny_ite ?_))
  have go : wpAny M A (call (.builtin id) ([.ref x] ++ args) >>= fun v => pure (some v)) Q E s := wpAny_bind (wpAny_mono h (fun v s' z => wpAny_pure z) fun _ _ z => z)
  split
  · exact wpAny_bind ((PySem.W.Looks.of_pure (hb _)).here (wpAny_pure (by exact go)))
  · exact wpAny_tryCatch (wpAny_bind ((PySem.W.Looks.of_pure (hb _)).here (wpAny_pure (by exact go))))
/-- object's own != by the class's == -/
theorem obj_ne {y : Value} {Q : Value → Shared → Prop} (hu : A.in1.units < cLine) (XK : K.In s.heap) (J : PySem.W.InstAt s.heap x ox C od) (c : EqC K C g)
    (h : wpAny (model prog w) A.in1 (call (.ref g) [.ref x, y]) (fun v s' => ∃ b, v = .bool b ∧ Q (.bool (!b)) s') E s) : wpAny (model prog w) A (call (.builtin "object.__ne__") [.ref x, y]) Q E s := by
  refine wpAny_call (codeAny_call_builtin PySem.F.slot_object_ne.plain PySem.F.entry_object_ne (PySem.W.check_slot (i := "object.__ne__") (owner := "object") (n := "__ne__") (by decide +kernel) (by decide +kernel) (J.type.andThen (PySem.W.looks_mroIn XK c.ob)) (PySem.F.args_object_ne_2 _ _) ?_))
  unfold Builtin.«object.__ne__»
  refine wpAny_bind (m := slotArgs "__ne__" 1 _) (wpAny_pure ?_)
  refine wpAny_bind (m := cRoomFor _ _) (wpAny_cRoomFor hu ?_)
  refine wpAny_bind (m := callSpecialIfBound? (.ref x) (Str.ofString "__eq__") _) (PySem.W.ifBound_K XK J c.at_ c.fn (wpAny_mono h (fun r s' hq => ?_) fun _ _ z => z))
  obtain ⟨b, rfl, q⟩ := hq
  exact wpAny_bind (wpAny_truthy_bool (wpAny_pure q))
end
section
variable {X : Cx} {CX : CXT} {C g : Addr} {sp : Sp} {E : XK} {n : Nat}
/-- x != y, two instances of one class -/
def rNeL (C : Addr) (sp : Sp) (E : XK) : R2 := fun x y H Q =>
  (∃ a dx fs, x = .ref a ∧ H a = some (.ins C dx fs)) ∧ (∃ b dy gs, y = .ref b ∧ H b = some (.ins C dy gs)) ∧ sp [x, y] H (fun z H' => ∃ k, z = .bl k ∧ Q (.bl (!k)) H') E
theorem op_neL (c : EqC X.K C g) (F : FnR X.prog X.w X.K X.mg X.base CX n g sp) (hr : Room (n + 1) X.A) (hx : Passes CX X E) : OpR X (compareOp .NotEq) (rNeL C sp E) := by
  intro pins s σ H x y v u Q I rx ry hq
  obtain ⟨⟨a, dx, fs, rfl, ha⟩, ⟨b, dy, gs, rfl, hb⟩, q⟩ := hq
  cases (show v = Value.ref a from rx)
  cases (show u = Value.ref b from ry)
  obtain ⟨mA, O, _⟩ := ins_get I.hok ha
  obtain ⟨od, J, _⟩ := O.look
  obtain ⟨mB, O', _⟩ := ins_get I.hok hb
  obtain ⟨od', J', _⟩ := O'.look
  have run : wpAny (model X.prog X.w) X.A.in1 (call (.ref g) [.ref a, .ref b]) (fun v s' => ∃ k, v = .bool k ∧ EP X pins σ Q (.bool (!k)) s') X.xe s :=
    wpAny_mono (wpAny_call (SlX.run_at (us := [.ref a, .ref b]) (ws := [.ref a, .ref b]) F hr.in1 I.env0.in1 hx I (.cons rfl (.cons rfl .nil)) q)) (fun z s' hz => by
      obtain ⟨z', H', I', rz, k, e, qz⟩ := hz
      subst e
      exact ⟨k, rz, .bl (!k), H', I', rfl, qz⟩) fun _ _ e => e
  have one : wpAny (model X.prog X.w) X.A (tryCompare (.ref a) (cmpInfo .NotEq).2.1 (.ref b)) (fun r s' => ∃ v, r = some v ∧ EP X pins σ Q v s') X.xe s := by
    unfold tryCompare
    refine wpAny_bind (bound_blt I.kIn J c.ne PySem.F.slot_object_ne.bind (obj_ne (show X.A.in1.units < cLine from hr.in1.units0) I.kIn J c (wpAny_mono run (fun v s' z => ?_) fun _ _ e => e)))
    obtain ⟨k, e, z⟩ := z
    exact ⟨k, e, wpAny_pure ⟨_, rfl, z⟩⟩
  show wpAny (model X.prog X.w) X.A (richCompare .NotEq (.ref a) (.ref b)) (EP X pins σ Q) X.xe s
  unfold richCompare
  simp only [oneThing_ref]
  refine wpAny_holding (wpAny_bind (wpAny_cRoomFor hr.units0 ?_))
  refine wpAny_bind (J.type.here (wpAny_bind (J'.type.here ?_)))
  have hne : (Value.ref C != Value.ref C) = false := by simp
  simp only [hne, Bool.false_eq_true, if_false]
  refine wpAny_bind (wpAny_pure ?_)
  simp only [Bool.false_eq_true, if_false]
  refine wpAny_bind (wpAny_mono one (fun r s' z => ?_) fun _ _ e => e)
  obtain ⟨v, rfl, hq⟩ := z
  exact wpAny_pure hq

/-! ### - in front, str and repr -/
structure OneC (K : PySem.W.Frag) (C g : Addr) (nm : Str) : Prop where
  at_ : PySem.W.findIn K (.ref C) nm = some (some (.ref g))
  fn : PySem.W.isFn K (.ref g) = true
def rInsU (C : Addr) (sp : Sp) (E : XK) : V → Hp → VK → Prop := fun x H Q => ∃ a dx fs, x = .ref a ∧ H a = some (.ins C dx fs) ∧ sp [x] H Q E
theorem un_insN (c : OneC X.K C g "__neg__") (F : FnR X.prog X.w X.K X.mg X.base CX n g sp) (hr : Room n X.A) (hx : Passes CX X E) : UnR X (unaryOp .USub) (rInsU C sp E) := by
  intro pins s σ H x v Q I rx hq
  obtain ⟨a, dx, fs, rfl, ha, q⟩ := hq
  cases (show v = Value.ref a from rx)
  obtain ⟨mA, O, _⟩ := ins_get I.hok ha
  obtain ⟨od, J, _⟩ := O.look
  obtain ⟨m, hF⟩ := I.fr
  exact PySem.W.ksp_neg hF I.ok.mod.kin J c.at_ c.fn (wpAny_call (run_fnR (us := [.ref a]) (vs := [.ref a]) F hr hx I (.cons rfl .nil) q))
/-- str(x), repr(x): the class's own def tells a text -/
def rInsT (C : Addr) (sp : Sp) (E : XK) : List V → Hp → VK → Prop := fun xs H Q => ∃ a dx fs, xs = [.ref a] ∧ H a = some (.ins C dx fs) ∧ sp [.ref a] H (fun z H' => ∃ y, z = .str y ∧ Q z H') E
theorem strback {X : Cx} {pins : List (Addr × Obj)} {σ : L2.St} {Q : VK} {v : Value} {s' : Shared} (h : EP X pins σ (fun z H' => ∃ y, z = .str y ∧ Q z H') v s') : PySem.W.StrBack (EP X pins σ Q) v s' := by
  obtain ⟨z, H', I', rz, y, e, q⟩ := h
  subst e
  obtain ⟨t, rfl⟩ := (show ∃ t, v = Value.str y t from rz)
  exact ⟨.str y, H', I', ⟨t, rfl⟩, q⟩
theorem call_strI (c : OneC X.K C g "__str__") (F : FnR X.prog X.w X.K X.mg X.base CX n g sp) (hr : Room (n + 2) X.A) (hx : Passes CX X E) : CallR X (.type "str") (rInsT C sp E) := by
  intro pins s σ H xs us Q I r h
  obtain ⟨a, dx, fs, rfl, ha, q⟩ := h
  obtain ⟨u, rfl, ru⟩ := r.one
  cases (show u = Value.ref a from ru)
  obtain ⟨mA, O, _⟩ := ins_get I.hok ha
  obtain ⟨od, J, _⟩ := O.look
  have h2 : Room n X.A.in1.in1 := (show Room (n + 1) X.A.in1 from Room.in1 hr).in1
  refine PySem.W.kso_call h2.units0 I.kIn J c.at_ c.fn (wpAny_mono (wpAny_call (SlX.run_at (us := [.ref a]) (ws := [.ref a]) F h2 I.env0.in1.in1 hx I (.cons rfl .nil) q)) (fun z s' hz => strback hz) fun _ _ e => e)
theorem call_reprI (c : OneC X.K C g "__repr__") (F : FnR X.prog X.w X.K X.mg X.base CX n g sp) (hr : Room (n + 1) X.A) (hx : Passes CX X E) : CallR X (.builtin "repr") (rInsT C sp E) := by
  intro pins s σ H xs us Q I r h
  obtain ⟨a, dx, fs, rfl, ha, q⟩ := h
  obtain ⟨u, rfl, ru⟩ := r.one
  cases (show u = Value.ref a from ru)
  obtain ⟨mA, O, _⟩ := ins_get I.hok ha
  obtain ⟨od, J, _⟩ := O.look
  obtain ⟨m, hF⟩ := I.fr
  exact PySem.W.repr_K (show X.A.in1.units < cLine from hr.in1.units0) hF I.ok.mod.kin J c.at_ c.fn (wpAny_mono (wpAny_call (SlX.run_at (us := [.ref a]) (ws := [.ref a]) F hr.in1 I.env0.in1 hx I (.cons rfl .nil) q)) (fun z s' hz => strback hz) fun _ _ e => e)
end

/-! ### numbers -/
def CDivA (_ j : Int) : Prop := j ≠ 0 ∧ j.natAbs.log2 < 9000
/-- // by any divisor but 0 -/
theorem op_fdivA {X : Cx} : OpR X (binaryOp .FloorDiv) (rI CDivA fun i j => .int (i.fdiv j)) := opI fun _ _ _ _ _ _ _ hc q => floordiv_int hc.1 q (.inl (PyProof.noPylong_of_log2 hc.2))
theorem fdiv_ok {i j : Int} {b : Nat} (h : j ≠ 0) (hb : j.natAbs < 2 ^ b) (h0 : 0 < b) (h9 : b ≤ 9000) : CDivA i j := ⟨h, Nat.lt_of_lt_of_le (PySem.Flt.log2_lt_of h0 hb) h9⟩
def rLcm : List V → Hp → VK → Prop := fun vs H Q => ∃ a b : Int, vs = [.int a, .int b] ∧ a.natAbs < 2 ^ 6000 ∧ b.natAbs < 2 ^ 6000 ∧ Q (.int ((Nat.lcm a.natAbs b.natAbs : Nat) : Int)) H
theorem cr_lcm {X : Cx} : CallR X (.builtin "math.lcm") rLcm := by
  intro pins s σ H vs us Q I r h
  obtain ⟨a, b, rfl, ha, hb, q⟩ := h
  obtain ⟨t, u, rfl⟩ := Vals.int2 r
  have l0 : ∀ {n k : Nat}, n < 2 ^ (k + 1) → n.log2 ≤ k := fun h => PySem.W.mg_log h
  have h1 : (max 1 a.natAbs).log2 ≤ 5999 := l0 (Nat.max_lt.mpr ⟨Nat.one_lt_two_pow (by decide), ha⟩)
  have h2 : (max a.natAbs b.natAbs).log2 ≤ 5999 := l0 (Nat.max_lt.mpr ⟨ha, hb⟩)
  have e1 : Nat.lcm 1 a.natAbs = a.natAbs := Nat.lcm_one_left _
  have lt : Nat.lcm a.natAbs b.natAbs < 2 ^ 12000 := by
    have : Nat.lcm a.natAbs b.natAbs ≤ a.natAbs * b.natAbs := Nat.div_le_self _ _
    refine Nat.lt_of_le_of_lt this ?_
    have e : (2 : Nat) ^ 12000 = 2 ^ 6000 * 2 ^ 6000 := by rw [← Nat.pow_add]
    rw [e]
    exact Nat.mul_lt_mul'' ha hb
  have h3 : (Nat.lcm a.natAbs b.natAbs).log2 < bitsLine := Nat.lt_of_le_of_lt (l0 (k := 11999) lt) (by decide)
  have g := PySem.W.mg_run_lcm a t b u (by omega) (by omega) (by rw [e1]; exact h3)
  rw [e1] at g
  exact PySem.call_function_meets PySem.W.MGF.kind_lcm PySem.W.MGF.plain_lcm PySem.W.MGF.entry_lcm (PySem.W.MGF.args_lcm _ _) g.meets ⟨.int _, H, I.tok _, ⟨_, rfl⟩, q⟩
end RQ

set_option Elab.async false
set_option linter.all false
set_option maxRecDepth 100000
set_option maxHeartbeats 4000000
/-! Defs whose promise leans on nothing being written out around the call (no repr under way): the text of a list is told by its items alone. -/
namespace RQ
open PySem PySem.Spec PyProof.Rows L2

/-- a def's promise where no repr is under way -/
structure FnG (P : Program) (w : World) (K : PySem.W.Frag) (mg : Str → Option Value) (base : Heap) (k : Nat) (f : Addr) (fd : FuncData) (ps : List Str) (sp : Sp) : Prop where
  len : ∀ vs H Q E, sp vs H Q E → vs.length = ps.length
  go : ∀ (A : Around) (outer : List Env) (s : Shared) (H : Hp) (args : Args) (us : List Value) (vs : List V) (Q : VK) (E : XK), A.guards = some [] → Room k A → Env0 P w K mg base A outer s H → BindsTo s fd args (ps.zip us) → Vals vs us → sp vs H Q E →
    codeAny (model P w) A (.call (.ref f) args) (CR CX0 outer P w H s Q E) s

section
variable {P : Program} {w : World} {K : PySem.W.Frag} {mg : Str → Option Value} {base : Heap}
theorem okG {x qual : Str} {st : Stmt} {f : Addr} {fd : FuncData} {N ps : List Str} {k : Nat} {sp : Sp} (F : Fun K x qual st f fd) (S : FnScope N ps (defScope st)) (len : ∀ vs H Q E, sp vs H Q E → vs.length = ps.length)
    (body : ∀ (cdv : Value) (A : Around) (outer : List Env) (s : Shared) (H : Hp) (vs : List V) (Q : VK) (E : XK), (A.deeper (envOfC qual (defScope st) s.heap.objs.size f cdv)).guards = some [] → Room k (A.deeper (envOfC qual (defScope st) s.heap.objs.size f cdv)) → sp vs H Q E →
      ∃ t, PSs (cxOf CX0 P w K mg base N qual (defScope st) f cdv A outer s H E).nox (defBody st) t ∧ t { nx := fun _ H' => Q .non H', rt := Q } (start N vs) H) : FnG P w K mg base (k + 1) f fd ps sp := by
  obtain ⟨oc, od, kV, doc, pm, an, cdv, ct, osl, rfl, lk, hcd⟩ := F.ex
  refine ⟨len, fun A outer s H args us vs Q E hg hr e0 hb r hsp => ?_⟩
  have keep : ∀ b o, base.get? b = some o → s.heap.get? b = some o := fun b o e => (e0.bs b o e).1
  have KX : K.In s.heap := e0.mod.kin.keeps keep
  have lim : s.heap.NoLimit := e0.mod.nolimit.keeps keep
  have kinds : ∀ y ∈ ps.zip us, (defScope st).names.lookup y.1 = some .local ∨ ((defScope st).names.lookup y.1 = some .cell ∧ ((cellsFrom (s.heap.objs.size + 1) (defScope st).names []).lookup y.1).isSome = true) := by
    rintro ⟨n, v⟩ hy
    exact (S.par n (List.of_mem_zip hy).1).imp id fun q => ⟨q, PySem.W.cellsFrom_some _ _ _ (.inl q)⟩
  refine codeAny_call_function hr.depth (KX _ _ lk) rfl S.co S.gen rfl (PySem.W.codeRec_of KX hcd) (hb _ _ _ _ (wpAny_newFunctionEnv_cells S.kind kinds ?_))
  rintro env rfl s1 x
  refine ⟨lim.keeps x.toInCall.keep, codeAny_func ?_⟩
  obtain ⟨t, ht, hq⟩ := body cdv A outer s H vs Q E hg (hr.deeper _) hsp
  have I := inv_start (CX := CX0) (cd := cdv) (E := E) S hr.hd e0 (len _ _ _ _ hsp) r x
  refine wpAny_mono (ht.nox.run [] s1 (start N vs) H _ I hq) (fun fl s' hs => ?_) fun e s' hs => hs
  cases fl with
  | ret u => exact let ⟨v, _, H', J, rv, q⟩ := hs; ⟨v, H', J.os, J.bare, J.base, J.hok, rv, q⟩
  | next => exact let ⟨_, H', J, q⟩ := hs; ⟨V.non, H', J.os, J.bare, J.base, J.hok, rfl, q⟩
  | brk => exact let ⟨_, _, _, q⟩ := hs; q.elim
  | cont => exact let ⟨_, _, _, q⟩ := hs; q.elim
end

section
variable {X : Cx} {k : Nat} {f : Addr} {fd : FuncData} {ps : List Str} {sp : Sp} {E : XK} {x : Str} {p pos : Pos} {e : Expr} {es : List Expr} {t : TA}
/-- the call of such a def -/
theorem pe_callG (F : FnG X.prog X.w X.K X.mg X.base k f fd ps sp) (hgd : X.A.guards = some []) (hr : Room k X.A) (hg : Gl X x) (hm : X.mg x = some (.ref f)) (hk : PySem.W.keepIn X.K (.ref f) = true) (hb : Binds X.K fd ps [])
    (ha : PA X (e :: es) t) (hdb : (x == ("__debug__" : Str)) = false := by decide) (he : starEach (e :: es) X.env = (false, eval e X.env) :: starEach es X.env := by rfl) (hpl : (backTo pos (starEach es X.env)).any (·.1) = false := by rfl) :
    PE X (.Call (.Name x p) (e :: es) [] pos) (tCall sp [] E t) := by
  constructor
  intro pins s σ H Q I h
  refine wpAny_Call_Name_kw (ld_glob I hg hm ?_ hdb)
  refine PySem.W.callWith_K (h₀ := X.base) I.ok.mod.kin hk (thn (ha.run pos pins s σ H _ I h) fun us s1 ⟨vs, H1, I1, r, q⟩ => ⟨I1.kIn, ?_⟩) he hpl
  have q' : sp vs H1 Q E := by simpa using q
  have hl : us.length = ps.length := r.length.symm.trans (F.len _ _ _ _ q')
  have hb' := hb s1 us I1.kIn (by simpa using hl)
  refine wpAny_call (codeAny_mono (F.go X.A X.stack s1 H1 ⟨us, []⟩ us vs Q E hgd hr I1.env0 (by simpa using hb') r q') fun r s' hq => ?_)
  cases r with
  | error e => exact False.elim hq
  | ok fl =>
    cases fl with
    | ret u => exact I1.after hq
    | next => exact False.elim hq
    | brk => exact False.elim hq
    | cont => exact False.elim hq

/-- repr of a list or tuple of plain data -/
def rReprD (K : PySem.W.Frag) : List V → Hp → VK → Prop := fun xs H Q => ∃ (a : Addr) (d : PyData), xs = [.ref a] ∧ Dp K H (.ref a) d ∧ d.showable = true ∧ d.hasDict = false ∧ d.depth ≤ 60 ∧ d.shown.length ≤ sizeLine ∧ Q (.str d.shown) H
theorem call_reprD (hgd : X.A.guards = some []) (hu : X.A.units + 64 < cLine) : CallR X (.builtin "repr") (rReprD X.K) := by
  intro pins s σ H xs us Q I r h
  obtain ⟨a, d, rfl, hd, h1, h2, h3, h4, q⟩ := h
  obtain ⟨u, rfl, ru⟩ := r.one
  cases (show u = Value.ref a from ru)
  obtain ⟨as, rd⟩ := Dp.reads I d _ _ hd rfl
  exact repr_of_reads' rd h1 (fun z => by rw [h2] at z; cases z) hgd (by omega) (fun _ _ z => z) (fun h' u tk hk => ⟨.str d.shown, H, I.kept hk, ⟨u, rfl⟩, q⟩) h4
end

/-! ### the law's call -/
theorem law_callG {P : Program} {w : World} {K : PySem.W.Frag} {mg mb : Str → Option Value} {k : Nat} {fa a : Addr} {fd : FuncData} {x : Str} {sp : Sp} {s₁ : Shared} {vs : List Value} {ns : List Int}
    (KX : K.In s₁.heap) (hns : s₁.heap.Ns mainGlobals mg) (hb : s₁.heap.Ns builtinsNs mb) (hbb : ∀ x : Str, x ≠ "__name__" → mb x = bootBuiltins x) (hlim : s₁.heap.NoLimit) (hg : s₁.gens = #[])
    (ha : s₁.heap.get? a = some { cls := .type "list", data := .seq vs.toArray }) (hi : IntsAre vs ns) (hl : ns.length ≤ sizeLine) (hr : Room k callerA)
    (F : ∀ base : Heap, K.In base → base.Ns mainGlobals mg → FnG P w K mg base k fa fd [x] sp) (hbind : ∀ (s : Shared) (u : Value), BindsTo s fd ⟨[u], []⟩ [(x, u)])
    (hsp : ∀ H : Hp, Only H → SqL K H a (ns.map V.int) → sp [.ref a] H (fun v _ => v = .bl true) fun _ _ _ => False) :
    codeAny (model P w) callerA (.call (.ref fa) ⟨[.ref a], []⟩) (fun r s' => r = .ok (.ret (.bool true)) ∧ OldK s₁.heap s'.heap ∧ s'.os = s₁.os ∧ AllBare s'.gens) s₁ := by
  have rv := vals_ints hi
  have lenV := hi.length
  have main : ∀ H : Hp, Only H → SqL K H a (ns.map V.int) → HOk P w H s₁.heap → (∀ b, H b ≠ none → b = a) → (H a ≠ none → K.lookup a = none) →
      codeAny (model P w) callerA (.call (.ref fa) ⟨[.ref a], []⟩) (fun r s' => r = .ok (.ret (.bool true)) ∧ OldK s₁.heap s'.heap ∧ s'.os = s₁.os ∧ AllBare s'.gens) s₁ := by
    intro H hO hS hok hA hK
    have dicts : ∀ {b : Addr} {o : Obj} {es : Array DictEntry} {ep : Nat}, s₁.heap.get? b = some o → o.data = .dict es ep → H b = none := by
      intro b o es ep e d
      rcases Option.eq_none_or_eq_some (H b) with q | ⟨u, q⟩
      · exact q
      · have e' := hA b (by rw [q]; simp)
        rw [e', ha] at e
        cases e
        cases (show Data.seq vs.toArray _ = Data.dict es ep from d)
    have spaces : ∀ {b : Addr} {m : Str → Option Value}, s₁.heap.Ns b m → (hidT s₁.heap H).Ns b m := by
      rintro b m ⟨o, es, ep, e, d, r⟩
      exact ⟨o, es, ep, hidT_get e (dicts e d), d, r⟩
    have hKb : K.In (hidT s₁.heap H) := by
      intro b o e
      refine hidT_get (KX b o e) ?_
      rcases Option.eq_none_or_eq_some (H b) with q | ⟨u, q⟩
      · exact q
      · have e' := hA b (by rw [q]; simp)
        subst e'
        rw [hK (by rw [q]; simp)] at e
        cases e
    have hM : Mod K mg (hidT s₁.heap H) := ⟨hKb, spaces hns, ⟨mb, spaces hb, hbb⟩, let ⟨mc, h1, h2⟩ := hlim; ⟨mc, spaces h1, h2⟩⟩
    have e0 : Env0 P w K mg (hidT s₁.heap H) callerA [] s₁ H :=
      { frames := rfl, mod := hM, bs := fun b o e => of_hidT e, bsz := Nat.le_of_eq (hidT_size _ _), funs := trivial, frf := (fun b z => absurd (show b ∈ ([] : List Addr) from z) (by simp)), hok := hok, bare := .of_eq hg }
    refine codeAny_mono ((F _ hKb (spaces hns)).go callerA [] s₁ H ⟨[.ref a], []⟩ [.ref a] [.ref a] _ _ rfl hr e0 (hbind s₁ (.ref a)) (.cons rfl .nil) (hsp H hO hS)) fun r s' h => ?_
    match r, h with
    | .ok (.ret u), h =>
      obtain ⟨v, H', os, bare, un, hok', rvu, q⟩ := h
      have q' : v = .bl true := q
      subst q'
      obtain rfl : u = Value.bool true := rvu
      refine ⟨rfl, OldK.of_keep fun b o e => ?_, os, bare⟩
      rcases hO b with z | ⟨ob, xs, z⟩
      · exact un.keep b o e z (fun q => absurd (show b ∈ ([] : List Addr) from q) (by simp)) (by simp)
      · obtain ⟨e1, _⟩ := hok b _ z
        obtain ⟨e2, _⟩ := hok' b _ (un.frzs b ob _ z)
        rw [e] at e1
        cases e1
        exact e2
    | .ok .next, h => exact h.elim
    | .ok .brk, h => exact h.elim
    | .ok .cont, h => exact h.elim
    | .error e, h => exact h.elim
  rcases Option.eq_none_or_eq_some (K.lookup a) with hk | ⟨o, hk⟩
  · refine main (fun b => if b = a then some (.frz { cls := .type "list", data := .seq vs.toArray } (.lst (ns.map V.int))) else none) (fun b => ?_) (.inl (.inr ⟨_, if_pos rfl⟩)) (fun b u z => ?_) (fun b z => ?_) fun _ => hk
    · by_cases hb : b = a
      · exact .inr ⟨_, _, if_pos hb⟩
      · exact .inl (if_neg hb)
    · by_cases hb : b = a
      · subst hb
        cases (if_pos rfl).symm.trans z
        exact ⟨ha, by rw [List.length_map]; exact hl, vs, _, rv, ha⟩
      · cases (if_neg hb).symm.trans z
    · exact Decidable.byContradiction fun hb => z (if_neg hb)
  · have e := KX a o hk
    rw [ha] at e
    cases e
    refine main (fun _ => none) (fun _ => .inl rfl) (.inr ⟨_, vs.toArray, _, hk, rfl, rfl, rfl, by rw [List.size_toArray, lenV]; exact hl, by simpa using rv⟩) (fun b u z => ?_) (fun b z => absurd rfl z) fun z => absurd rfl z
    cases (show (none : Option HO) = some u from z)
theorem walkG {l : PySem.W.OpenLaw} {n k : Nat} {q : Program} {loose : List Str} {XP : (Str → Option Value) → Heap → Prop} {YP : World → Heap → Prop} {d : DefRec} {K : Params → PySem.W.Frag} {sp : PySem.W.Frag → Sp} {x : Str}
    (hn : l.most = some n) (hn2 : n ≤ sizeLine) (hdf : d.params.defaults = []) (hr : Room k callerA) (hY : ∀ (w : World) (h : Heap), YP w h → (K w.params).In h)
    (F : ∀ (w : World) (mg : Str → Option Value) (fa : Addr) (h : Heap), (K w.params).In h → h.Ns mainGlobals mg → mg d.name = some (.ref fa) →
      ∃ fd : FuncData, (∀ (s : Shared) (u : Value), BindsTo s fd ⟨[u], []⟩ [(x, u)]) ∧ ∀ base : Heap, (K w.params).In base → base.Ns mainGlobals mg → FnG l.prog w (K w.params) mg base k fa fd [x] (sp (K w.params)))
    (hsp : ∀ (K : PySem.W.Frag) (H : Hp) (a : Addr) (ns : List Int), ns.length ≤ n → SqL K H a (ns.map V.int) → sp K [.ref a] H (fun v _ => v = .bl true) fun _ _ _ => False) :
    PySem.W.WalkO q loose XP YP l.row.toRowW d [] (fun f vs => PySem.call f vs) := by
  refine Att.attach_call hn hdf fun w s₀ s₁ mg mb fa o pm cd doc a vs ns G Y ho hd hcd hmg hobj hints hlen hg => ?_
  obtain ⟨fd, hb, hF⟩ := F w mg fa _ (hY w _ Y) G.T.g hmg
  exact law_callG (hY w _ Y) G.T.g G.T.b G.T.builtins G.T.nolimit hg hobj hints (Nat.le_trans hlen hn2) hr hF hb fun H _ hS => hsp _ H a ns hlen hS
end RQ

set_option Elab.async false
set_option linter.all false
set_option maxRecDepth 100000
set_option maxHeartbeats 4000000
/-! What readings come to, told by plain data alone: no heap in sight. -/
namespace GD
open PySem L2
mutual
/-- v stands for d, and nothing of it lies in S -/
inductive Av (S : Addr → Prop) (H : Hp) : V → PyData → Prop
  | non : Av S H .non .none
  | bl (b : Bool) : Av S H (.bl b) (.bool b)
  | int (i : Int) : Av S H (.int i) (.int i)
  | str (x : Str) : Av S H (.str x) (.str x)
  | lst {a : Addr} {xs : List V} {ds : List PyData} : ¬ S a → H a = some (.lst xs) → Avs S H xs ds → Av S H (.ref a) (.list ds)
  | tup {a : Addr} {xs : List V} {ds : List PyData} : ¬ S a → H a = some (.tup xs) → Avs S H xs ds → Av S H (.ref a) (.tuple ds)
  | dct {a : Addr} {ks : List Int} : ¬ S a → H a = some (.dK (ks.map fun k => (Sum.inl k, V.bl true))) → Av S H (.ref a) (.dict (ks.map fun k => (.int k, .bool true)))
inductive Avs (S : Addr → Prop) (H : Hp) : List V → List PyData → Prop
  | nil : Avs S H [] []
  | cons {v : V} {d : PyData} {vs : List V} {ds : List PyData} : Av S H v d → Avs S H vs ds → Avs S H (v :: vs) (d :: ds)
end
/-- all but S stays -/
def Kp (S : Addr → Prop) (H H' : Hp) : Prop := ∀ b o, ¬ S b → H b = some o → H' b = some o
theorem Kp.of {S : Addr → Prop} {H H' : Hp} (s : Same H H') : Kp S H H' := fun b o _ h => s b o h
theorem Kp.trans {S : Addr → Prop} {H H1 H2 : Hp} (a : Kp S H H1) (b : Kp S H1 H2) : Kp S H H2 := fun x o n h => b x o n (a x o n h)
/-- what is told of S is there -/
def Live (S : Addr → Prop) (H : Hp) : Prop := ∀ X, S X → H X ≠ none
theorem Live.same {S : Addr → Prop} {H H' : Hp} (l : Live S H) (s : Same H H') : Live S H' := fun X hX z => l X hX (s.free z)
theorem Live.new {S : Addr → Prop} {H : Hp} {a : Addr} (l : Live S H) (n : H a = none) : ¬ S a := fun h => l a h n
theorem same_new {H : Hp} {a : Addr} {o : HO} (h : H a = none) : Same H (upd H a o) := fun b u e => by rw [upd_ne (ne_of_none e h)]; exact e
section
variable {S : Addr → Prop} {K : PySem.W.Frag}
mutual
theorem Av.keep {H H' : Hp} (s : Kp S H H') : ∀ {v : V} {d : PyData}, Av S H v d → Av S H' v d
  | _, _, .non => .non
  | _, _, .bl b => .bl b
  | _, _, .int i => .int i
  | _, _, .str x => .str x
  | _, _, .lst n e h => .lst n (s _ _ n e) (Avs.keep s h)
  | _, _, .tup n e h => .tup n (s _ _ n e) (Avs.keep s h)
  | _, _, .dct n e => .dct n (s _ _ n e)
theorem Avs.keep {H H' : Hp} (s : Kp S H H') : ∀ {vs : List V} {ds : List PyData}, Avs S H vs ds → Avs S H' vs ds
  | _, _, .nil => .nil
  | _, _, .cons h r => .cons (Av.keep s h) (Avs.keep s r)
end
theorem Av.same {H H' : Hp} {v : V} {d : PyData} (h : Av S H v d) (s : Same H H') : Av S H' v d := h.keep (Kp.of s)
theorem Avs.same {H H' : Hp} {v : List V} {d : List PyData} (h : Avs S H v d) (s : Same H H') : Avs S H' v d := h.keep (Kp.of s)
mutual
/-- no dict in it -/
def nd : PyData → Bool
  | .list ds => nds ds
  | .tuple ds => nds ds
  | .dict _ => false
  | _ => true
def nds : List PyData → Bool
  | [] => true
  | d :: ds => nd d && nds ds
end
mutual
theorem Av.dp {H : Hp} : ∀ {v : V} {d : PyData}, Av S H v d → nd d = true → Dp K H v d
  | _, _, .non, _ => .non
  | _, _, .bl b, _ => .bl b
  | _, _, .int i, _ => .int i
  | _, _, .str x, _ => .str x
  | _, _, .lst n e h, q => .lst (SqL.of e) (Avs.dp h q)
  | _, _, .tup n e h, q => .tup (SqT.of e) (Avs.dp h q)
  | _, _, .dct n e, q => by cases q
theorem Avs.dp {H : Hp} : ∀ {vs : List V} {ds : List PyData}, Avs S H vs ds → nds ds = true → DpAll K H vs ds
  | _, _, .nil, _ => .nil
  | _, _, .cons h r, q => .cons (Av.dp h (Bool.and_eq_true_iff.mp q).1) (Avs.dp r (Bool.and_eq_true_iff.mp q).2)
end
theorem Avs.len {H : Hp} : ∀ {vs : List V} {ds : List PyData}, Avs S H vs ds → vs.length = ds.length
  | _, _, .nil => rfl
  | _, _, .cons _ r => by rw [List.length_cons, List.length_cons, Avs.len r]
theorem Avs.app {H : Hp} : ∀ {vs ws : List V} {ts us : List PyData}, Avs S H vs ts → Avs S H ws us → Avs S H (vs ++ ws) (ts ++ us)
  | _, _, _, _, .nil, h => h
  | _, _, _, _, .cons a r, h => .cons a (Avs.app r h)
theorem Avs.take {H : Hp} : ∀ (n : Nat) {vs : List V} {ts : List PyData}, Avs S H vs ts → Avs S H (vs.take n) (ts.take n)
  | 0, _, _, _ => .nil
  | _ + 1, _, _, .nil => .nil
  | n + 1, _, _, .cons a r => .cons a (Avs.take n r)
theorem Avs.drop {H : Hp} : ∀ (n : Nat) {vs : List V} {ts : List PyData}, Avs S H vs ts → Avs S H (vs.drop n) (ts.drop n)
  | 0, _, _, h => h
  | _ + 1, _, _, .nil => .nil
  | n + 1, _, _, .cons a r => Avs.drop n r
theorem Avs.get {H : Hp} : ∀ {vs : List V} {ts : List PyData} {i : Nat} {v : V}, Avs S H vs ts → vs[i]? = some v → ∃ t, ts[i]? = some t ∧ Av S H v t
  | _, _, _, _, .nil, e => by simp at e
  | _, _, 0, _, .cons a _, e => by simp at e; subst e; exact ⟨_, rfl, a⟩
  | _, _, i + 1, v, .cons _ r, e => by
    obtain ⟨t, h1, h2⟩ := Avs.get (i := i) (v := v) r (by simpa using e)
    exact ⟨t, by simpa using h1, h2⟩
theorem Avs.put {H : Hp} : ∀ {vs : List V} {ts : List PyData} {i : Nat} {t : PyData}, Avs S H vs ts → ts[i]? = some t → ∃ v, vs[i]? = some v ∧ Av S H v t
  | _, _, _, _, .nil, e => by simp at e
  | _, _, 0, _, .cons a _, e => by simp at e; subst e; exact ⟨_, rfl, a⟩
  | _, _, i + 1, t, .cons _ r, e => by
    obtain ⟨v, h1, h2⟩ := Avs.put (i := i) (t := t) r (by simpa using e)
    exact ⟨v, by simpa using h1, h2⟩
/-! ### slots -/
structure Gm (S : Addr → Prop) (H : Hp) (σ : L2.St) (γ : List (Option PyData)) : Prop where
  len : σ.length = γ.length
  at_ : ∀ (i : Nat) (d : PyData), γ[i]? = some (some d) → ∃ v, σ[i]? = some (some v) ∧ Av S H v d
theorem Gm.keep {H H' : Hp} {σ : L2.St} {γ : List (Option PyData)} (e : Gm S H σ γ) (s : Kp S H H') : Gm S H' σ γ := ⟨e.len, fun i d h => let ⟨v, a, b⟩ := e.at_ i d h; ⟨v, a, b.keep s⟩⟩
theorem Gm.same {H H' : Hp} {σ : L2.St} {γ : List (Option PyData)} (e : Gm S H σ γ) (s : Same H H') : Gm S H' σ γ := e.keep (Kp.of s)
theorem Gm.set {H : Hp} {σ : L2.St} {γ : List (Option PyData)} {v : V} {d : PyData} (e : Gm S H σ γ) (i : Nat) (h : Av S H v d) : Gm S H (σ.set i (some v)) (γ.set i (some d)) := by
  refine ⟨by rw [List.length_set, List.length_set, e.len], fun j c hj => ?_⟩
  by_cases hij : i = j
  · subst hij
    rw [List.getElem?_set] at hj ⊢
    simp only [if_true] at hj ⊢
    by_cases hl : i < γ.length
    · rw [if_pos hl] at hj
      cases hj
      rw [if_pos (by rw [e.len]; exact hl)]
      exact ⟨v, rfl, h⟩
    · rw [if_neg hl] at hj
      cases hj
  · rw [List.getElem?_set_ne hij] at hj ⊢
    exact e.at_ j c hj
def wipeG (γ : List (Option PyData)) : List Nat → List (Option PyData)
  | [] => γ
  | v :: vs => (wipeG γ vs).set v none
theorem Gm.wipe {H : Hp} {σ : L2.St} {γ : List (Option PyData)} (e : Gm S H σ γ) : ∀ vs, Gm S H (L2.wipe σ vs) (wipeG γ vs)
  | [] => e
  | v :: vs => by
    have ih := Gm.wipe e vs
    refine ⟨?_, fun j c hj => ?_⟩
    · show ((L2.wipe σ vs).set v none).length = ((wipeG γ vs).set v none).length
      rw [List.length_set, List.length_set, ih.len]
    · have hj' : ((wipeG γ vs).set v none)[j]? = some (some c) := hj
      show ∃ x, ((L2.wipe σ vs).set v none)[j]? = some (some x) ∧ _
      by_cases hij : v = j
      · subst hij
        rw [List.getElem?_set] at hj'
        simp only [if_true] at hj'
        split at hj' <;> cases hj'
      · rw [List.getElem?_set_ne hij] at hj' ⊢
        exact ih.at_ j c hj'
theorem Gm.start {H : Hp} {N : List Str} : ∀ {vs : List V} {ds : List PyData}, Avs S H vs ds → Gm S H (start N vs) (ds.map some ++ List.replicate (N.length - ds.length) none) := fun {vs ds} h => by
  have hl := h.len
  refine ⟨?_, fun i d hi => ?_⟩
  · unfold L2.start
    simp [hl]
  · unfold L2.start
    by_cases hi' : i < ds.length
    · rw [List.getElem?_append_left (by rw [List.length_map]; exact hi'), List.getElem?_map] at hi
      have hd : ds[i]? = some ds[i] := List.getElem?_eq_getElem hi'
      rw [hd] at hi
      cases hi
      obtain ⟨v, hv, av⟩ := h.put hd
      refine ⟨v, ?_, av⟩
      rw [List.getElem?_append_left (by rw [List.length_map, hl]; exact hi'), List.getElem?_map, hv]
      rfl
    · rw [List.getElem?_append_right (by rw [List.length_map]; omega), List.getElem?_replicate] at hi
      split at hi <;> cases hi
end
/-! ### what expressions come to -/
def EvG (te : TE) (γ : List (Option PyData)) (d : PyData) : Prop := ∀ S H σ, Live S H → Gm S H σ γ → ∀ Q : VK, (∀ H' v, Same H H' → Av S H' v d → Q v H') → te σ H Q
def EvB (tt : TT) (γ : List (Option PyData)) (b : Bool) : Prop := ∀ S H σ, Live S H → Gm S H σ γ → ∀ Q : Bool → Hp → Prop, (∀ H', Same H H' → Q b H') → tt σ H Q
def EvA (ta : TA) (γ : List (Option PyData)) (ds : List PyData) : Prop := ∀ S H σ, Live S H → Gm S H σ γ → ∀ Q : List V → Hp → Prop, (∀ H' vs, Same H H' → Avs S H' vs ds → Q vs H') → ta σ H Q
def EvO (to : TO) (γ : List (Option PyData)) (o : Option Int) : Prop := ∀ S H σ, Live S H → Gm S H σ γ → ∀ Q : Option Int → Hp → Prop, (∀ H', Same H H' → Q o H') → to σ H Q
/-- a two-place operation, by data -/
def OpG (r : R2) (x y z : PyData) : Prop := ∀ S H v w, Live S H → Av S H v x → Av S H w y → ∀ Q : VK, (∀ H' u, Same H H' → Av S H' u z → Q u H') → r v w H Q
/-- a built-in's call, by data -/
def CbG (r : List V → Hp → VK → Prop) (xs : List PyData) (z : PyData) : Prop := ∀ S H vs, Live S H → Avs S H vs xs → ∀ Q : VK, (∀ H' u, Same H H' → Av S H' u z → Q u H') → r vs H Q
section
variable {γ : List (Option PyData)} {K : PySem.W.Frag} {te ta tb : TE} {tt tu : TT} {d x y z : PyData}
theorem EvG.var {i : Nat} (h : γ[i]? = some (some d)) : EvG (tVar i) γ d := fun S H σ l e Q q => by
  obtain ⟨v, hv, av⟩ := e.at_ i d h
  exact ⟨v, hv, q H v (Same.refl _) av⟩
theorem EvG.con {v : V} (h : ∀ S H, Av S H v d) : EvG (tC v) γ d := fun S H σ l e Q q => q H v (Same.refl _) (h S H)
theorem EvG.int (i : Int) : EvG (tC (.int i)) γ (.int i) := .con fun _ _ => .int i
theorem EvG.bl (b : Bool) : EvG (tC (.bl b)) γ (.bool b) := .con fun _ _ => .bl b
theorem EvG.non : EvG (tC .non) γ .none := .con fun _ _ => .non
theorem EvG.eq (h : EvG te γ x) (e : x = y) : EvG te γ y := e ▸ h
theorem EvB.eq {a b : Bool} (h : EvB tt γ a) (e : a = b) : EvB tt γ b := e ▸ h
theorem EvG.op {r : R2} (h1 : EvG ta γ x) (h2 : EvG tb γ y) (hr : OpG r x y z) : EvG (tOp r ta tb) γ z := fun S H σ l e Q q =>
  h1 S H σ l e _ fun H1 v s1 av => h2 S H1 σ (l.same s1) (e.same s1) _ fun H2 w s2 aw => hr S H2 v w (l.same (s1.trans s2)) (av.same s2) aw _ fun H3 u s3 au => q H3 u (s1.trans (s2.trans s3)) au
theorem EvA.nil : EvA tNil γ [] := fun S H σ l e Q q => q H [] (Same.refl _) .nil
theorem EvA.cons {tr : TA} {ds : List PyData} (h1 : EvG te γ d) (h2 : EvA tr γ ds) : EvA (tCons te tr) γ (d :: ds) := fun S H σ l e Q q =>
  h1 S H σ l e _ fun H1 v s1 av => h2 S H1 σ (l.same s1) (e.same s1) _ fun H2 vs s2 avs => q H2 _ (s1.trans s2) (.cons (av.same s2) avs)
theorem EvG.cb {r : List V → Hp → VK → Prop} {tr : TA} {ds : List PyData} (h : EvA tr γ ds) (hr : CbG r ds z) : EvG (tCB r tr) γ z := fun S H σ l e Q q =>
  h S H σ l e _ fun H1 vs s1 avs => hr S H1 vs (l.same s1) avs _ fun H2 u s2 au => q H2 u (s1.trans s2) au
theorem EvG.lst {tr : TA} {ds : List PyData} (h : EvA tr γ ds) (hz : ds.length ≤ sizeLine) : EvG (tLst tr) γ (.list ds) := fun S H σ l e Q q =>
  h S H σ l e _ fun H1 vs s1 avs => ⟨by rw [avs.len]; exact hz, fun p np => q _ _ (s1.trans (same_new np)) (.lst ((l.same s1).new np) upd_same (avs.same (same_new np)))⟩
theorem EvG.tup {tr : TA} {ds : List PyData} (h : EvA tr γ ds) (hz : ds.length ≤ sizeLine) : EvG (tTup tr) γ (.tuple ds) := fun S H σ l e Q q =>
  h S H σ l e _ fun H1 vs s1 avs => ⟨by rw [avs.len]; exact hz, fun p np => q _ _ (s1.trans (same_new np)) (.tup ((l.same s1).new np) upd_same (avs.same (same_new np)))⟩
/-- [*e, ..] -/
theorem EvA.star {tr : TA} {xs ds : List PyData} (h1 : EvG te γ (.list xs)) (h2 : EvA tr γ ds) : EvA (StX.tStar K te tr) γ (xs ++ ds) := fun S H σ l e Q q =>
  h1 S H σ l e _ fun H1 v s1 av => by
    cases av with
    | lst n hH hs =>
      exact ⟨_, _, rfl, .inr (SqL.of hH), h2 S H1 σ (l.same s1) (e.same s1) _ fun H2 vs s2 avs => q H2 _ (s1.trans s2) ((hs.same s2).app avs)⟩
theorem EvG.ite_t (hc : EvB tt γ true) (h : EvG ta γ d) : EvG (tIf tt ta tb) γ d := fun S H σ l e Q q =>
  hc S H σ l e _ fun H1 s1 => by
    rw [if_pos rfl]
    exact h S H1 σ (l.same s1) (e.same s1) _ fun H2 v s2 av => q H2 v (s1.trans s2) av
theorem EvG.ite_f (hc : EvB tt γ false) (h : EvG tb γ d) : EvG (tIf tt ta tb) γ d := fun S H σ l e Q q =>
  hc S H σ l e _ fun H1 s1 => by
    rw [if_neg Bool.false_ne_true]
    exact h S H1 σ (l.same s1) (e.same s1) _ fun H2 v s2 av => q H2 v (s1.trans s2) av
theorem EvG.ite {b : Bool} (hc : EvB tt γ b) (h1 : b = true → EvG ta γ x) (h2 : b = false → EvG tb γ y) : EvG (tIf tt ta tb) γ (if b = true then x else y) := by
  cases b with
  | true => exact .ite_t hc (h1 rfl)
  | false => exact .ite_f hc (h2 rfl)
/-! tests -/
theorem EvB.val {b : Bool} (h : EvG te γ (.bool b)) : EvB (tB te) γ b := fun S H σ l e Q q =>
  h S H σ l e _ fun H1 v s1 av => by
    cases av
    exact ⟨b, rfl, q H1 s1⟩
theorem EvB.and {a b : Bool} (h1 : EvB tt γ a) (h2 : a = true → EvB tu γ b) : EvB (tAnd tt tu) γ (a && b) := fun S H σ l e Q q =>
  h1 S H σ l e _ fun H1 s1 => by
    cases a with
    | true =>
      rw [if_pos rfl]
      exact h2 rfl S H1 σ (l.same s1) (e.same s1) _ fun H2 s2 => q H2 (s1.trans s2)
    | false =>
      rw [if_neg Bool.false_ne_true]
      exact q H1 s1
theorem EvB.or {a b : Bool} (h1 : EvB tt γ a) (h2 : a = false → EvB tu γ b) : EvB (tOr tt tu) γ (a || b) := fun S H σ l e Q q =>
  h1 S H σ l e _ fun H1 s1 => by
    cases a with
    | true =>
      rw [if_pos rfl]
      exact q H1 s1
    | false =>
      rw [if_neg Bool.false_ne_true]
      exact h2 rfl S H1 σ (l.same s1) (e.same s1) _ fun H2 s2 => q H2 (s1.trans s2)
theorem EvB.not {a : Bool} (h1 : EvB tt γ a) : EvB (tNot tt) γ (!a) := fun S H σ l e Q q => h1 S H σ l e _ fun H1 s1 => q H1 s1
theorem EvG.andV {a b : Bool} (h1 : EvG ta γ (.bool a)) (h2 : a = true → EvG tb γ (.bool b)) : EvG (tAndV ta tb) γ (.bool (a && b)) := fun S H σ l e Q q =>
  h1 S H σ l e _ fun H1 v s1 av => by
    cases av
    refine ⟨a, rfl, ?_⟩
    cases a with
    | true =>
      rw [if_pos rfl]
      exact h2 rfl S H1 σ (l.same s1) (e.same s1) _ fun H2 v s2 av => q H2 v (s1.trans s2) av
    | false =>
      rw [if_neg Bool.false_ne_true]
      exact q H1 _ s1 (.bl false)
theorem EvG.orV {a b : Bool} (h1 : EvG ta γ (.bool a)) (h2 : a = false → EvG tb γ (.bool b)) : EvG (tOrV ta tb) γ (.bool (a || b)) := fun S H σ l e Q q =>
  h1 S H σ l e _ fun H1 v s1 av => by
    cases av
    refine ⟨a, rfl, ?_⟩
    cases a with
    | true =>
      rw [if_pos rfl]
      exact q H1 _ s1 (.bl true)
    | false =>
      rw [if_neg Bool.false_ne_true]
      exact h2 rfl S H1 σ (l.same s1) (e.same s1) _ fun H2 v s2 av => q H2 v (s1.trans s2) av
theorem EvG.notV {a : Bool} (h1 : EvG ta γ (.bool a)) : EvG (tNotV ta) γ (.bool (!a)) := fun S H σ l e Q q =>
  h1 S H σ l e _ fun H1 v s1 av => by
    cases av
    exact ⟨a, rfl, q H1 _ s1 (.bl _)⟩
/-! operations -/
theorem OpG.mkI0 {g : Int → Int → V} {i j : Int} (hg : ∀ S H, Av S H (g i j) z) : OpG (rI0 g) (.int i) (.int j) z := fun S H v w l av aw Q q => by
  cases av
  cases aw
  exact ⟨i, j, rfl, rfl, q H _ (Same.refl _) (hg S H)⟩
theorem OpG.mkI {C : Int → Int → Prop} {g : Int → Int → V} {i j : Int} (hc : C i j) (hg : ∀ S H, Av S H (g i j) z) : OpG (rI C g) (.int i) (.int j) z := fun S H v w l av aw Q q => by
  cases av
  cases aw
  exact ⟨i, j, rfl, rfl, hc, q H _ (Same.refl _) (hg S H)⟩
theorem OpG.eqI {i j : Int} : OpG rEq (.int i) (.int j) (.bool (decide (i = j))) := fun S H v w l av aw Q q => by
  cases av
  cases aw
  refine ⟨rfl, ?_⟩
  have e : decide (V.int i = V.int j) = decide (i = j) := by
    by_cases h : i = j
    · rw [decide_eq_true h, decide_eq_true (by rw [h])]
    · rw [decide_eq_false h, decide_eq_false (fun z => h (by cases z; rfl))]
  rw [e]
  exact q H _ (Same.refl _) (.bl _)
theorem OpG.neI {i j : Int} : OpG rNe (.int i) (.int j) (.bool (!decide (i = j))) := fun S H v w l av aw Q q => by
  cases av
  cases aw
  refine ⟨rfl, ?_⟩
  have e : decide (V.int i = V.int j) = decide (i = j) := by
    by_cases h : i = j
    · rw [decide_eq_true h, decide_eq_true (by rw [h])]
    · rw [decide_eq_false h, decide_eq_false (fun z => h (by cases z; rfl))]
  rw [e]
  exact q H _ (Same.refl _) (.bl _)
theorem OpG.eqD (n1 : nd x = true) (n2 : nd y = true) (s1 : SeqAt.shaped x = true) (s2 : SeqAt.shaped y = true) : OpG (rEqD K) x y (.bool (PyData.eqv x y)) := fun S H v w l av aw Q q =>
  ⟨x, y, av.dp n1, aw.dp n2, s1, s2, q H _ (Same.refl _) (.bl _)⟩
theorem OpG.neD (n1 : nd x = true) (n2 : nd y = true) (s1 : SeqAt.shaped x = true) (s2 : SeqAt.shaped y = true) : OpG (rNeD K) x y (.bool (!PyData.eqv x y)) := fun S H v w l av aw Q q =>
  ⟨x, y, av.dp n1, aw.dp n2, s1, s2, q H _ (Same.refl _) (.bl _)⟩
theorem OpG.inD {ds : List PyData} (n1 : nd x = true) (n2 : nds ds = true) (s1 : SeqAt.shaped x = true) (s2 : SeqAt.shaped (.list ds) = true) : OpG (rInD K) x (.list ds) (.bool (ds.any fun z => PyData.eqv z x)) := fun S H v w l av aw Q q =>
  ⟨x, ds, av.dp n1, aw.dp n2, s1, s2, q H _ (Same.refl _) (.bl _)⟩
theorem OpG.notInD {ds : List PyData} (n1 : nd x = true) (n2 : nds ds = true) (s1 : SeqAt.shaped x = true) (s2 : SeqAt.shaped (.list ds) = true) : OpG (rNotInD K) x (.list ds) (.bool (!ds.any fun z => PyData.eqv z x)) := fun S H v w l av aw Q q =>
  ⟨x, ds, av.dp n1, aw.dp n2, s1, s2, q H _ (Same.refl _) (.bl _)⟩
theorem OpG.ixL {ds : List PyData} {j : Nat} (h : ds[j]? = some d) : OpG (rIxL K) (.list ds) (.int (j : Nat)) d := fun S H v w l av aw Q q => by
  cases aw
  cases av with
  | lst n e hs =>
    obtain ⟨u, hu, au⟩ := hs.put h
    exact ⟨_, _, _, u, rfl, rfl, SqL.of e, atI_nat hu, q H u (Same.refl _) au⟩
theorem OpG.ixT {ds : List PyData} {j : Nat} (h : ds[j]? = some d) : OpG (rIxT K) (.tuple ds) (.int (j : Nat)) d := fun S H v w l av aw Q q => by
  cases aw
  cases av with
  | tup n e hs =>
    obtain ⟨u, hu, au⟩ := hs.put h
    exact ⟨_, _, _, u, rfl, rfl, SqT.of e, atI_nat hu, q H u (Same.refl _) au⟩
theorem OpG.cat {xs ys : List PyData} (hz : xs.length + ys.length ≤ sizeLine) : OpG rCat (.list xs) (.list ys) (.list (xs ++ ys)) := fun S H v w l av aw Q q => by
  cases av with
  | lst n e hs =>
    cases aw with
    | lst m f ks =>
      exact ⟨_, _, _, _, rfl, rfl, e, f, by rw [hs.len, ks.len]; exact hz, fun p np => q _ _ (same_new np) (.lst (l.new np) upd_same ((hs.same (same_new np)).app (ks.same (same_new np))))⟩
/-! slices -/
theorem EvO.none : EvO tNoPart γ none := fun S H σ l e Q q => q H (Same.refl _)
theorem EvO.some {i : Int} (h : EvG te γ (.int i)) : EvO (tPart te) γ (some i) := fun S H σ l e Q q =>
  h S H σ l e _ fun H1 v s1 av => by
    cases av
    exact ⟨i, rfl, q H1 s1⟩
def cutD (ds : List PyData) (lo hi : Option Int) : List PyData := (ds.drop (HT.sIx ds.length 0 lo)).take (HT.sIx ds.length ds.length hi - HT.sIx ds.length 0 lo)
theorem EvG.slice {tl th : TO} {ds : List PyData} {lo hi : Option Int} (h : EvG te γ (.list ds)) (hl : EvO tl γ lo) (hh : EvO th γ hi) : EvG (tSl (rSlL K) te tl th) γ (.list (cutD ds lo hi)) := fun S H σ l e Q q =>
  h S H σ l e _ fun H1 v s1 av => hl S H1 σ (l.same s1) (e.same s1) _ fun H2 s2 => hh S H2 σ (l.same (s1.trans s2)) (e.same (s1.trans s2)) _ fun H3 s3 => by
    have av' := av.same (s2.trans s3)
    cases av' with
    | lst n f hs =>
      refine ⟨_, _, rfl, SqL.of f, fun p np => q _ _ ((s1.trans (s2.trans s3)).trans (same_new np)) (.lst ((l.same (s1.trans (s2.trans s3))).new np) upd_same ?_)⟩
      unfold cutV cutD
      rw [hs.len]
      exact ((hs.drop _).take _).same (same_new np)
end
end GD

set_option Elab.async false
set_option linter.all false
set_option maxRecDepth 100000
set_option maxHeartbeats 4000000
/-! Walks, comprehensions, statements, defs, told by plain data alone. -/
namespace GD
open PySem L2
def SD (S : Addr → Prop) (D : Addr) : Addr → Prop := fun X => S X ∨ X = D
section
variable {S : Addr → Prop} {K : PySem.W.Frag}
mutual
theorem Av.fresh {D : Addr} {H : Hp} (n : H D = none) : ∀ {v : V} {d : PyData}, Av S H v d → Av (SD S D) H v d
  | _, _, .non => .non
  | _, _, .bl b => .bl b
  | _, _, .int i => .int i
  | _, _, .str x => .str x
  | _, _, .lst m e h => .lst (fun z => z.elim m fun z => by rw [z, n] at e; cases e) e (Avs.fresh n h)
  | _, _, .tup m e h => .tup (fun z => z.elim m fun z => by rw [z, n] at e; cases e) e (Avs.fresh n h)
  | _, _, .dct m e => .dct (fun z => z.elim m fun z => by rw [z, n] at e; cases e) e
theorem Avs.fresh {D : Addr} {H : Hp} (n : H D = none) : ∀ {vs : List V} {ds : List PyData}, Avs S H vs ds → Avs (SD S D) H vs ds
  | _, _, .nil => .nil
  | _, _, .cons h r => .cons (Av.fresh n h) (Avs.fresh n r)
end
mutual
theorem Av.less {S' : Addr → Prop} {H : Hp} (hs : ∀ X, S X → S' X) : ∀ {v : V} {d : PyData}, Av S' H v d → Av S H v d
  | _, _, .non => .non
  | _, _, .bl b => .bl b
  | _, _, .int i => .int i
  | _, _, .str x => .str x
  | _, _, .lst m e h => .lst (fun z => m (hs _ z)) e (Avs.less hs h)
  | _, _, .tup m e h => .tup (fun z => m (hs _ z)) e (Avs.less hs h)
  | _, _, .dct m e => .dct (fun z => m (hs _ z)) e
theorem Avs.less {S' : Addr → Prop} {H : Hp} (hs : ∀ X, S X → S' X) : ∀ {vs : List V} {ds : List PyData}, Avs S' H vs ds → Avs S H vs ds
  | _, _, .nil => .nil
  | _, _, .cons h r => .cons (Av.less hs h) (Avs.less hs r)
end
theorem Gm.fresh {D : Addr} {H : Hp} {σ : L2.St} {γ : List (Option PyData)} (n : H D = none) (e : Gm S H σ γ) : Gm (SD S D) H σ γ := ⟨e.len, fun i d h => let ⟨v, a, b⟩ := e.at_ i d h; ⟨v, a, b.fresh n⟩⟩
/-- knows less -/
def Le (γ γ' : List (Option PyData)) : Prop := γ.length = γ'.length ∧ ∀ (i : Nat) (d : PyData), γ[i]? = some (some d) → γ'[i]? = some (some d)
theorem Le.refl (γ : List (Option PyData)) : Le γ γ := ⟨rfl, fun _ _ h => h⟩
theorem Gm.less {H : Hp} {σ : L2.St} {γ γ' : List (Option PyData)} (e : Gm S H σ γ') (h : Le γ γ') : Gm S H σ γ := ⟨e.len.trans h.1.symm, fun i d hi => e.at_ i d (h.2 i d hi)⟩
theorem Le.cons {a b : Option PyData} {γ γ' : List (Option PyData)} (h : ∀ d, a = some d → b = some d) (r : Le γ γ') : Le (a :: γ) (b :: γ') := by
  refine ⟨by rw [List.length_cons, List.length_cons, r.1], fun i d hi => ?_⟩
  cases i with
  | zero =>
    have : a = some d := by simpa using hi
    simp [h d this]
  | succ n =>
    have := r.2 n d (by simpa using hi)
    simpa using this
theorem Le.nil : Le [] [] := ⟨rfl, fun _ _ h => h⟩
/-- keeps what is known of this slot -/
theorem Le.k {a : Option PyData} {γ γ' : List (Option PyData)} (r : Le γ γ') : Le (a :: γ) (a :: γ') := .cons (fun _ h => h) r
/-- forgets it -/
theorem Le.f {b : Option PyData} {γ γ' : List (Option PyData)} (r : Le γ γ') : Le (none :: γ) (b :: γ') := .cons (fun _ h => by cases h) r
theorem set_get {σ : L2.St} {i j : Nat} {x : Option V} : (σ.set i x)[j]? = if i = j then (if i < σ.length then some x else none) else σ[j]? := by
  rw [List.getElem?_set]
theorem wipe_get {σ : L2.St} {i : Nat} : ∀ vs : List Nat, (wipe σ vs)[i]? = if i ∈ vs then (if i < σ.length then some none else none) else σ[i]?
  | [] => by simp [wipe]
  | v :: vs => by
    show ((wipe σ vs).set v none)[i]? = _
    rw [set_get, wipe_length, wipe_get vs]
    by_cases h : v = i
    · subst h
      simp
    · have h' : ¬ i = v := fun z => h z.symm
      simp [h, h']
theorem wipe_set {σ : L2.St} {j : Nat} {x : Option V} {vs : List Nat} (h : j ∈ vs) : wipe (σ.set j x) vs = wipe σ vs := by
  refine List.ext_getElem? fun i => ?_
  rw [wipe_get, wipe_get, List.length_set, set_get]
  by_cases hi : i ∈ vs
  · rw [if_pos hi, if_pos hi]
  · rw [if_neg hi, if_neg hi, if_neg (fun z : j = i => hi (z ▸ h))]
theorem wipe_wipe {σ : L2.St} {vs : List Nat} : wipe (wipe σ vs) vs = wipe σ vs := by
  refine List.ext_getElem? fun i => ?_
  rw [wipe_get, wipe_length]
  by_cases hi : i ∈ vs
  · rw [if_pos hi, wipe_get, if_pos hi]
  · rw [if_neg hi]
/-! ### what is walked -/
structure WalkG (S : Addr → Prop) (J : It) (H : Hp) (ds : List PyData) : Prop where
  go : ∀ (i : Nat) (H' : Hp), i < ds.length → Same H H' → J.go i H'
  yld : ∀ (i : Nat) (H' : Hp) (x : V) (H'' : Hp), Live S H' → Same H H' → J.yld i H' x H'' → ∃ d, (i < ds.length → ds[i]? = some d) ∧ Same H' H'' ∧ (i < ds.length → Av S H'' x d)
  stop : ∀ H', Same H H' → J.stop ds.length H'
structure WalksG (S : Addr → Prop) (J : It) (H : Hp) (ds : List PyData) : Prop where
  w : WalkG S J H ds
  d : ∀ D, H D = none → WalkG (SD S D) J H ds
theorem WalkG.list {H : Hp} {a : Addr} {xs : List V} {ds : List PyData} (e : H a = some (.lst xs)) (h : Avs S H xs ds) : WalkG S (Itl K a) H ds := by
  have hl := h.len
  refine ⟨fun i H' hi s => ⟨xs, xs[i]'(by omega), SqL.of (s _ _ e), List.getElem?_eq_getElem (by omega)⟩, fun i H' x H'' l s y => ?_, fun H' s => ⟨xs, SqL.of (s _ _ e), by omega⟩⟩
  obtain ⟨rfl, y⟩ := y
  have hx := y xs (SqL.of (s _ _ e))
  obtain ⟨d, hd, av⟩ := h.get hx
  exact ⟨d, fun _ => hd, Same.refl _, fun _ => av.same s⟩
theorem WalkG.tuple {H : Hp} {a : Addr} {xs : List V} {ds : List PyData} (e : H a = some (.tup xs)) (h : Avs S H xs ds) : WalkG S (Itt K a) H ds := by
  have hl := h.len
  refine ⟨fun i H' hi s => ⟨xs, xs[i]'(by omega), SqT.of (s _ _ e), List.getElem?_eq_getElem (by omega)⟩, fun i H' x H'' l s y => ?_, fun H' s => ⟨xs, SqT.of (s _ _ e), by omega⟩⟩
  obtain ⟨rfl, y⟩ := y
  have hx := y xs (SqT.of (s _ _ e))
  obtain ⟨d, hd, av⟩ := h.get hx
  exact ⟨d, fun _ => hd, Same.refl _, fun _ => av.same s⟩
abbrev rngD (lo : Int) (n : Nat) : List PyData := (List.range n).map fun (i : Nat) => .int (lo + (i : Int))
theorem WalkG.range {H : Hp} {lo : Int} {n : Nat} : WalkG S (Itr lo n) H (rngD lo n) := by
  refine ⟨fun i H' hi s => ?_, fun i H' x H'' l s y => ?_, fun H' s => ?_⟩
  · show i < n
    simpa [rngD] using hi
  · obtain ⟨rfl, rfl⟩ := y
    refine ⟨.int (lo + i), fun hi => ?_, Same.refl _, fun _ => .int _⟩
    have hi' : i < n := by simpa [rngD] using hi
    simp [rngD, hi']
  · show n ≤ (rngD lo n).length
    simp [rngD]
/-- a for, a comprehension walks these -/
def IterG (wi : TI) (γ : List (Option PyData)) (ds : List PyData) : Prop := ∀ S H σ, Live S H → Gm S H σ γ → ∀ R : It → Hp → Prop, (∀ H' J, Same H H' → WalksG S J H' ds → R J H') → wi σ H R
variable {γ : List (Option PyData)} {te : TE} {d x y : PyData}
theorem IterG.list {ds : List PyData} (h : EvG te γ (.list ds)) : IterG (iList K te) γ ds := fun S H σ l e R r =>
  h S H σ l e _ fun H1 v s1 av => by
    cases av with
    | lst n f hs => exact ⟨_, rfl, ⟨_, SqL.of f⟩, r H1 _ s1 ⟨.list f hs, fun D hD => .list f (hs.fresh hD)⟩⟩
theorem IterG.tuple {ds : List PyData} (h : EvG te γ (.tuple ds)) : IterG (iTup K te) γ ds := fun S H σ l e R r =>
  h S H σ l e _ fun H1 v s1 av => by
    cases av with
    | tup n f hs => exact ⟨_, rfl, ⟨_, SqT.of f⟩, r H1 _ s1 ⟨.tuple f hs, fun D hD => .tuple f (hs.fresh hD)⟩⟩
theorem IterG.orL {a b : TI} {ds : List PyData} (h : IterG a γ ds) : IterG (fun σ H R => a σ H R ∨ b σ H R) γ ds := fun S H σ l e R r => .inl (h S H σ l e R r)
theorem IterG.orR {a b : TI} {ds : List PyData} (h : IterG b γ ds) : IterG (fun σ H R => a σ H R ∨ b σ H R) γ ds := fun S H σ l e R r => .inr (h S H σ l e R r)
theorem IterG.range {ta : TA} {n : Nat} (h : EvA ta γ [.int (n : Nat)]) (hn : n < 1000000) : IterG (iRng1 ta) γ (rngD 0 n) := fun S H σ l e R r =>
  h S H σ l e _ fun H1 vs s1 av => by
    cases av with
    | cons a r' =>
      cases a
      cases r'
      refine ⟨_, rfl, by omega, by omega, ?_⟩
      rw [Int.toNat_natCast]
      exact r H1 _ s1 ⟨.range, fun _ _ => .range⟩
/-! ### targets -/
def TgG (g : TG) (js : List Nat) (d : PyData) (γ γ' : List (Option PyData)) : Prop := ∀ S H σ v, Gm S H σ γ → Av S H v d → ∀ Q : L2.St → Hp → Prop, (∀ σ', Gm S H σ' γ' → (∀ vs, (∀ j ∈ js, j ∈ vs) → wipe σ' vs = wipe σ vs) → Q σ' H) → g v σ H Q
theorem TgG.name {i : Nat} : TgG (gName i) [i] d γ (γ.set i (some d)) := fun S H σ v e av Q q => q _ (e.set i av) fun vs h => wipe_set (h i (.head _))
theorem TgG.two {i j : Nat} : TgG (gTup K 2 (gCons (gName i) (gCons (gName j) gNil))) [i, j] (.tuple [x, y]) γ ((γ.set i (some x)).set j (some y)) := fun S H σ v e av Q q => by
  cases av with
  | tup n f hs =>
    cases hs with
    | cons a r =>
      cases r with
      | cons b r' =>
        cases r'
        exact ⟨_, _, rfl, SqT.of f, rfl, _, _, rfl, _, _, rfl, rfl, q _ ((e.set i a).set j b) fun vs h => by rw [wipe_set (h j (.tail _ (.head _))), wipe_set (h i (.head _))]⟩
/-! ### comprehensions -/
theorem EvG.lc {wi : TI} {g : TG} {tt : TT} {vs : List Nat} {ds : List PyData} (f : PyData → Bool) (m : PyData → PyData) (hi : IterG wi γ ds) (hz : ds.length < 1000000)
    (step : ∀ (i : Nat) (d : PyData), ds[i]? = some d → ∃ js γ2, TgG g js d (wipeG γ vs) γ2 ∧ (∀ j ∈ js, j ∈ vs) ∧ EvB tt γ2 (f d) ∧ (f d = true → EvG te γ2 (m d))) : EvG (tLc wi g tt te vs) γ (.list ((ds.filter f).map m)) := fun S H σ l e Q q =>
  hi S H σ l e _ fun H1 J s1 wk D hD => by
    have W := wk.d D hD
    have sD : Same H1 (upd H1 D (.lst [])) := same_new hD
    have nD : ¬ S D := (l.same s1).new hD
    refine ⟨fun i k H' => k = ds.length - i ∧ i ≤ ds.length ∧ Same H1 H' ∧ ∃ acc, H' D = some (.lst acc) ∧ Avs (SD S D) H' acc (((ds.take i).filter f).map m), ⟨_, rfl, Nat.zero_le _, sD, [], upd_same, .nil⟩, ?_⟩
    rintro i k H' ⟨rfl, hi', ss, acc, hacc, av⟩
    by_cases hlt : i < ds.length
    · refine .inr ⟨W.go i H' hlt ss, fun H3 => i + 1 ≤ ds.length ∧ Same H1 H3 ∧ ∃ acc, H3 D = some (.lst acc) ∧ Avs (SD S D) H3 acc (((ds.take (i + 1)).filter f).map m), fun H3 p => ⟨_, by omega, rfl, p⟩, fun x H'' y => ?_⟩
      have lv : Live (SD S D) H' := fun X hX => hX.elim (fun h => (l.same (s1.trans ss)) X h) fun h => by
        rw [h, hacc]
        intro z
        cases z
      obtain ⟨d, hd, s2, ax⟩ := W.yld i H' x H'' lv ss y
      have hd := hd hlt
      have ax := ax hlt
      obtain ⟨js, γ2, tg, hjs, hb, ht⟩ := step i d hd
      have e2 : Gm (SD S D) H'' σ γ := (((e.same s1).fresh hD).same ss).same s2
      refine tg (SD S D) H'' (wipe σ vs) x (e2.wipe vs) ax _ fun σ2 e3 hw => ⟨by rw [hw vs hjs, wipe_wipe], ?_⟩
      refine hb (SD S D) H'' σ2 (lv.same s2) e3 _ fun H3 s3 => ?_
      have tk : ds.take (i + 1) = ds.take i ++ [d] := by
        rw [List.take_succ, hd]
        rfl
      by_cases hf : f d = true
      · rw [if_pos hf]
        refine ht hf (SD S D) H3 σ2 (lv.same (s2.trans s3)) (e3.same s3) _ fun H4 v s4 ay => ?_
        have hacc4 := s4 _ _ (s3 _ _ (s2 _ _ hacc))
        have av4 := av.same (s2.trans (s3.trans s4))
        have hla := av.len
        have hlt' : acc.length < 1000000 := by
          rw [hla, List.length_map]
          have h1 := List.length_filter_le f (ds.take i)
          have h2 := List.length_take_le i ds
          omega
        refine ⟨acc, hacc4, Nat.lt_of_lt_of_le hlt' (by decide), hlt, ?_, acc ++ [v], upd_same, ?_⟩
        · intro b o hb'
          have n : b ≠ D := ne_of_none hb' hD
          rw [upd_ne n]
          exact s4 _ _ (s3 _ _ (s2 _ _ (ss _ _ hb')))
        · rw [tk, List.filter_append, List.map_append, List.filter_cons_of_pos hf, List.filter_nil]
          have kp : Kp (SD S D) H4 (upd H4 D (.lst (acc ++ [v]))) := fun b o n hb' => by
            rw [upd_ne (fun z => n (.inr z))]
            exact hb'
          exact (av4.app (.cons ay .nil)).keep kp
      · rw [if_neg hf]
        refine ⟨hlt, ss.trans (s2.trans s3), acc, s3 _ _ (s2 _ _ hacc), ?_⟩
        rw [tk, List.filter_append, List.filter_cons_of_neg hf, List.filter_nil, List.append_nil]
        exact av.same (s2.trans s3)
    · have e' : i = ds.length := by omega
      subst e'
      refine .inl ⟨W.stop H' ss, q H' (.ref D) (s1.trans ss) ?_⟩
      rw [List.take_length] at av
      exact .lst nD hacc (av.less fun X h => .inl h)
/-! ### statements -/
inductive Out where
  | nx (γ : List (Option PyData))
  | rt (d : PyData)
  | ct (γ : List (Option PyData))
def Out.post (S : Addr → Prop) (H : Hp) (D : Ends) : Out → Prop
  | .nx γ => ∀ σ' H', Same H H' → Gm S H' σ' γ → D.nx σ' H'
  | .rt d => ∀ v H', Same H H' → Av S H' v d → D.rt v H'
  | .ct γ => ∀ σ' H', Same H H' → Gm S H' σ' γ → D.ct σ' H'
theorem Out.post.same {H H' : Hp} {D : Ends} {o : Out} (h : o.post S H D) (s : Same H H') : o.post S H' D := by
  cases o with
  | nx γ => exact fun σ' H2 s2 e => h σ' H2 (s.trans s2) e
  | rt d => exact fun v H2 s2 e => h v H2 (s.trans s2) e
  | ct γ => exact fun σ' H2 s2 e => h σ' H2 (s.trans s2) e
def StG (ts : TS) (γ : List (Option PyData)) (o : Out) : Prop := ∀ S H σ D, Live S H → Gm S H σ γ → o.post S H D → ts D σ H
variable {t u : TS} {o : Out} {γ1 γ2 : List (Option PyData)}
theorem StG.seq (h1 : StG t γ (.nx γ1)) (h2 : StG u γ1 o) : StG (tSeq t u) γ o := fun S H σ D l e p =>
  h1 S H σ _ l e fun σ' H' s e' => h2 S H' σ' D (l.same s) e' (p.same s)
theorem StG.seq_rt (h1 : StG t γ (.rt d)) : StG (tSeq t u) γ (.rt d) := fun S H σ D l e p => h1 S H σ _ l e p
theorem StG.seq_ct (h1 : StG t γ (.ct γ1)) : StG (tSeq t u) γ (.ct γ1) := fun S H σ D l e p => h1 S H σ _ l e p
theorem StG.asg {g : TG} {js : List Nat} (h : EvG te γ d) (tg : TgG g js d γ γ1) : StG (tAsg te g) γ (.nx γ1) := fun S H σ D l e p =>
  h S H σ l e _ fun H1 v s1 av => tg S H1 σ v (e.same s1) av _ fun σ' e' _ => p σ' H1 s1 e'
theorem StG.set {i : Nat} (h : EvG te γ d) : StG (tAsg te (gName i)) γ (.nx (γ.set i (some d))) := .asg h .name
theorem StG.ret (h : EvG te γ d) : StG (tRet te) γ (.rt d) := fun S H σ D l e p => h S H σ l e _ fun H1 v s1 av => p v H1 s1 av
theorem StG.next : StG tNext γ (.nx γ) := fun S H σ D l e p => p σ H (Same.refl _) e
theorem StG.drop (h : EvG te γ d) : StG (tDrop te) γ (.nx γ) := fun S H σ D l e p => h S H σ l e _ fun H1 v s1 av => p σ H1 s1 (e.same s1)
theorem StG.cont : StG tCont γ (.ct γ) := fun S H σ D l e p => p σ H (Same.refl _) e
theorem StG.ifT {tt : TT} (hc : EvB tt γ true) (h : StG t γ o) : StG (tIfS tt t u) γ o := fun S H σ D l e p =>
  hc S H σ l e _ fun H1 s1 => by
    rw [if_pos rfl]
    exact h S H1 σ D (l.same s1) (e.same s1) (p.same s1)
theorem StG.ifF {tt : TT} (hc : EvB tt γ false) (h : StG u γ o) : StG (tIfS tt t u) γ o := fun S H σ D l e p =>
  hc S H σ l e _ fun H1 s1 => by
    rw [if_neg Bool.false_ne_true]
    exact h S H1 σ D (l.same s1) (e.same s1) (p.same s1)
theorem StG.iff {tt : TT} {b : Bool} (hc : EvB tt γ b) (h1 : b = true → StG t γ o) (h2 : b = false → StG u γ o) : StG (tIfS tt t u) γ o := by
  cases b with
  | true => exact .ifT hc (h1 rfl)
  | false => exact .ifF hc (h2 rfl)
theorem StG.par {i j : Nat} {ta : TA} (h : EvA ta γ [x, y]) : StG (tPar i j ta) γ (.nx ((γ.set i (some x)).set j (some y))) := fun S H σ D l e p =>
  h S H σ l e _ fun H1 vs s1 av => by
    cases av with
    | cons a r =>
      cases r with
      | cons b r' =>
        cases r'
        exact ⟨_, _, rfl, p _ H1 s1 (((e.same s1).set i a).set j b)⟩
theorem StG.less (h : StG t γ (.nx γ1)) (hl : Le γ2 γ1) : StG t γ (.nx γ2) := fun S H σ D l e p => h S H σ D l e fun σ' H' s e' => p σ' H' s (e'.less hl)
theorem StG.lessCt (h : StG t γ (.ct γ1)) (hl : Le γ2 γ1) : StG t γ (.ct γ2) := fun S H σ D l e p => h S H σ D l e fun σ' H' s e' => p σ' H' s (e'.less hl)
theorem StG.from_ (h : StG t γ2 o) (hl : Le γ2 γ) : StG t γ o := fun S H σ D l e p => h S H σ D l (e.less hl) p
theorem StG.for_ {wi : TI} {g : TG} {tb : TS} {ds : List PyData} (hi : IterG wi γ ds) (Γ : Nat → List (Option PyData)) (h0 : Le (Γ 0) γ)
    (step : ∀ (i : Nat) (d : PyData), ds[i]? = some d → ∃ js γ1, TgG g js d (Γ i) γ1 ∧ (StG tb γ1 (.nx (Γ (i + 1))) ∨ StG tb γ1 (.ct (Γ (i + 1))))) : StG (tFor wi g tb) γ (.nx (Γ ds.length)) := fun S H σ D l e p =>
  hi S H σ l e _ fun H1 J s1 wk => by
    refine ⟨fun i k σ' H' => k = ds.length - i ∧ i ≤ ds.length ∧ Same H1 H' ∧ Gm S H' σ' (Γ i), ⟨_, rfl, Nat.zero_le _, Same.refl _, (e.same s1).less h0⟩, ?_⟩
    rintro i k σ' H' ⟨rfl, hi', ss, e'⟩
    have lv := l.same (s1.trans ss)
    by_cases hlt : i < ds.length
    · refine .inr ⟨wk.w.go i H' hlt ss, fun σ3 H3 => i + 1 ≤ ds.length ∧ Same H1 H3 ∧ Gm S H3 σ3 (Γ (i + 1)), fun σ3 H3 q => ⟨_, by omega, rfl, q⟩, fun x H'' y => ?_⟩
      obtain ⟨d, hd, s2, ax⟩ := wk.w.yld i H' x H'' lv ss y
      obtain ⟨js, γ1, tg, hst⟩ := step i d (hd hlt)
      refine tg S H'' σ' x (e'.same s2) (ax hlt) _ fun σ2 e2 _ => ?_
      rcases hst with hst | hst
      · exact hst S H'' σ2 _ (lv.same s2) e2 fun σ3 H3 s3 e3 => ⟨hlt, ss.trans (s2.trans s3), e3⟩
      · exact hst S H'' σ2 _ (lv.same s2) e2 fun σ3 H3 s3 e3 => ⟨hlt, ss.trans (s2.trans s3), e3⟩
    · have e2 : i = ds.length := by omega
      subst e2
      exact .inl ⟨wk.w.stop H' ss, p σ' H' (s1.trans ss) e'⟩
theorem StG.for_rt {wi : TI} {g : TG} {tb : TS} {ds : List PyData} {r : PyData} (hi : IterG wi γ ds) (Γ : Nat → List (Option PyData)) (h0 : Le (Γ 0) γ) (k : Nat) (hk : k < ds.length)
    (step : ∀ (i : Nat) (d : PyData), i < k → ds[i]? = some d → ∃ js γ1, TgG g js d (Γ i) γ1 ∧ (StG tb γ1 (.nx (Γ (i + 1))) ∨ StG tb γ1 (.ct (Γ (i + 1)))))
    (hit : ∀ d, ds[k]? = some d → ∃ js γ1, TgG g js d (Γ k) γ1 ∧ StG tb γ1 (.rt r)) : StG (tFor wi g tb) γ (.rt r) := fun S H σ D l e p =>
  hi S H σ l e _ fun H1 J s1 wk => by
    refine ⟨fun i n σ' H' => n = ds.length - i ∧ i ≤ k ∧ Same H1 H' ∧ Gm S H' σ' (Γ i), ⟨_, rfl, Nat.zero_le _, Same.refl _, (e.same s1).less h0⟩, ?_⟩
    rintro i n σ' H' ⟨rfl, hi', ss, e'⟩
    have lv := l.same (s1.trans ss)
    have hlt : i < ds.length := by omega
    refine .inr ⟨wk.w.go i H' hlt ss, fun σ3 H3 => i < k ∧ Same H1 H3 ∧ Gm S H3 σ3 (Γ (i + 1)), fun σ3 H3 q => ⟨ds.length - (i + 1), by omega, rfl, q⟩, fun x H'' y => ?_⟩
    obtain ⟨d, hd, s2, ax⟩ := wk.w.yld i H' x H'' lv ss y
    by_cases hik : i < k
    · obtain ⟨js, γ1, tg, hst⟩ := step i d hik (hd hlt)
      refine tg S H'' σ' x (e'.same s2) (ax hlt) _ fun σ2 e2 _ => ?_
      rcases hst with hst | hst
      · exact hst S H'' σ2 _ (lv.same s2) e2 fun σ3 H3 s3 e3 => ⟨hik, ss.trans (s2.trans s3), e3⟩
      · exact hst S H'' σ2 _ (lv.same s2) e2 fun σ3 H3 s3 e3 => ⟨hik, ss.trans (s2.trans s3), e3⟩
    · have e2 : i = k := by omega
      subst e2
      obtain ⟨js, γ1, tg, hst⟩ := hit d (hd hlt)
      refine tg S H'' σ' x (e'.same s2) (ax hlt) _ fun σ2 e2 _ => ?_
      exact hst S H'' σ2 _ (lv.same s2) e2 fun v H3 s3 av => p v H3 (s1.trans (ss.trans (s2.trans s3))) av
/-! ### defs -/
structure SpG (F : List PyData → PyData → Prop) (vs : List V) (H : Hp) (Q : VK) (E : XK) : Prop where
  ex : ∃ S ds r, Live S H ∧ Avs S H vs ds ∧ F ds r ∧ ∀ H' v, Same H H' → Av S H' v r → Q v H'
theorem SpG.len {F : List PyData → PyData → Prop} {vs : List V} {H : Hp} {Q : VK} {E : XK} {n : Nat} (h : SpG F vs H Q E) (hn : ∀ ds r, F ds r → ds.length = n) : vs.length = n := by
  obtain ⟨S, ds, r, _, av, f, _⟩ := h
  rw [av.len, hn ds r f]
theorem SpG.body {F : List PyData → PyData → Prop} {vs : List V} {H : Hp} {Q : VK} {E : XK} {N : List Str} {nx : L2.St → Hp → Prop} (h : SpG F vs H Q E) (hb : ∀ ds r, F ds r → StG t (ds.map some ++ List.replicate (N.length - ds.length) none) (.rt r)) : t { nx := nx, rt := Q } (start N vs) H := by
  obtain ⟨S, ds, r, l, av, f, k⟩ := h
  exact hb ds r f S H _ _ l (Gm.start av) fun v H' s a => k H' v s a
/-- a def whose body ends without a return -/
theorem SpG.body0 {F : List PyData → PyData → Prop} {vs : List V} {H : Hp} {Q : VK} {E : XK} {N : List Str} (h : SpG F vs H Q E) (hb : ∀ ds r, F ds r → r = .none ∧ ∃ γ1, StG t (ds.map some ++ List.replicate (N.length - ds.length) none) (.nx γ1)) : t { nx := fun _ H' => Q .non H', rt := Q } (start N vs) H := by
  obtain ⟨S, ds, r, l, av, f, k⟩ := h
  obtain ⟨rfl, γ1, hb⟩ := hb ds r f
  exact hb S H _ _ l (Gm.start av) fun σ' H' s a => k H' .non s .non
theorem EvG.call {F : List PyData → PyData → Prop} {ta : TA} {ds : List PyData} {r : PyData} {E : XK} (h : EvA ta γ ds) (hF : F ds r) : EvG (tCall (SpG F) [] E ta) γ r := fun S H σ l e Q q =>
  h S H σ l e _ fun H1 vs s1 av => by
    rw [List.append_nil]
    exact ⟨S, ds, r, l.same s1, av, hF, fun H' v s a => q H' v (s1.trans s) a⟩
/-- one promise out of several, by a number -/
theorem fn_any {P : Program} {w : World} {mg : Str → Option Value} {base : Heap} {k m : Nat} {f : Addr} {fd : FuncData} {ps : List Str} {F : Nat → List PyData → PyData → Prop} (h : ∀ n, n ≤ m → FnOk P w K mg base CX0 k f fd ps (SpG (F n))) : FnOk P w K mg base CX0 k f fd ps (SpG fun ds r => ∃ n, n ≤ m ∧ F n ds r) := by
  refine ⟨fun vs H Q E q => ?_, fun A outer s H args us vs Q E hr he hb hv q => ?_⟩
  · obtain ⟨S, ds, r, l, av, ⟨n, hn, hf⟩, kk⟩ := q
    exact (h n hn).len vs H Q E ⟨S, ds, r, l, av, hf, kk⟩
  · obtain ⟨S, ds, r, l, av, ⟨n, hn, hf⟩, kk⟩ := q
    exact (h n hn).run A outer s H args us vs Q E hr he hb hv ⟨S, ds, r, l, av, hf, kk⟩
theorem u65 {k : Nat} {A : Around} (r : Room k A) : A.units + 65 < cLine := by
  have := r.un
  omega
end
end GD

set_option Elab.async false
set_option linter.all false
set_option maxRecDepth 100000
set_option maxHeartbeats 4000000
/-! Built-ins, told by plain data alone. -/
namespace GD
open PySem L2
section
variable {γ : List (Option PyData)} {K : PySem.W.Frag} {te ta tb tc : TE} {tt tu : TT} {d x y z : PyData}
/-! ### isinstance -/
def tyD : PyData → String
  | .none => "NoneType"
  | .bool _ => "bool"
  | .int _ => "int"
  | .str _ => "str"
  | .list _ => "list"
  | .tuple _ => "tuple"
  | .dict _ => "dict"
theorem Av.ty {S : Addr → Prop} {H : Hp} {v : V} (h : Av S H v d) : TyX K H v (.type (tyD d)) := by
  cases h with
  | non => exact .base .non
  | bl b => exact .base (.bl b)
  | int i => exact .base (.int i)
  | str s => exact .base (.str s)
  | lst n e _ => exact .base (.lst e)
  | tup n e _ => exact .base (.tup e)
  | dct n e => exact .base (.dK e)
theorem EvG.isi {T : String} {b : Bool} (h : EvG te γ d) (hk : kitB (tyD d) T = some b) : EvG (tCB (rIsi K) (tCons te (tCons (tC (.ty T)) tNil))) γ (.bool b) := fun S H σ l e Q q =>
  h S H σ l e _ fun H1 v s1 av => ⟨v, .ty T, _, _, b, rfl, .ty T, av.ty, kit_ty hk, q H1 _ s1 (.bl b)⟩
theorem EvG.isiT {T U : String} {b : Bool} (h : EvG te γ d) (hk : ∀ K : PySem.W.Frag, PySem.W.kitAny K (.type (tyD d)) [.type T, .type U] = some b) : EvG (tCB (rIsiT K) (tCons te (tCons (tTup (tCons (tC (.ty T)) (tCons (tC (.ty U)) tNil))) tNil))) γ (.bool b) := fun S H σ l e Q q =>
  h S H σ l e _ fun H1 v s1 av => ⟨by show 2 ≤ sizeLine; decide, fun p np => ⟨v, p, _, _, _, b, rfl, upd_same, .cons (.ty T) (.cons (.ty U) .nil), (av.same (same_new np)).ty, hk K, q _ _ (s1.trans (same_new np)) (.bl b)⟩⟩
theorem kb_ii : kitB "int" "int" = some true := by decide +kernel
theorem kb_ib : kitB "int" "bool" = some false := by decide +kernel
theorem kb_ll : kitB "list" "list" = some true := by decide +kernel
theorem kb_lt : kitB "list" "tuple" = some false := by decide +kernel
theorem kb_tl : kitB "tuple" "list" = some false := by decide +kernel
theorem kb_tt : kitB "tuple" "tuple" = some true := by decide +kernel
/-! ### len, all, max, min -/
/-- len, as its rule asks -/
def rLn (K : PySem.W.Frag) : List V → Hp → VK → Prop := fun xs H Q => ∃ p ys, xs = [.ref p] ∧ (SqL K H p ys ∨ SqT K H p ys) ∧ Q (.int ys.length) H
theorem CbG.len {ds : List PyData} : CbG (rLn K) [.list ds] (.int (ds.length : Nat)) := fun S H vs l av Q q => by
  cases av with
  | cons a r =>
    cases r
    cases a with
    | lst n e hs =>
      refine ⟨_, _, rfl, .inl (SqL.of e), ?_⟩
      rw [hs.len]
      exact q H _ (Same.refl _) (.int _)
theorem CbG.lenT {ds : List PyData} : CbG (rLn K) [.tuple ds] (.int (ds.length : Nat)) := fun S H vs l av Q q => by
  cases av with
  | cons a r =>
    cases r
    cases a with
    | tup n e hs =>
      refine ⟨_, _, rfl, .inr (SqT.of e), ?_⟩
      rw [hs.len]
      exact q H _ (Same.refl _) (.int _)
theorem EvG.len {ds : List PyData} (h : EvG te γ (.list ds)) : EvG (tCB (rLn K) (tCons te tNil)) γ (.int (ds.length : Nat)) := .cb (.cons h .nil) .len
theorem EvG.lenT {ds : List PyData} (h : EvG te γ (.tuple ds)) : EvG (tCB (rLn K) (tCons te tNil)) γ (.int (ds.length : Nat)) := .cb (.cons h .nil) .lenT
theorem OpG.le {i j : Int} : OpG (rI0 fun i j => .bl (decide (i ≤ j))) (.int i) (.int j) (.bool (decide (i ≤ j))) := .mkI0 fun _ _ => .bl _
theorem OpG.lt {i j : Int} : OpG (rI0 fun i j => .bl (decide (i < j))) (.int i) (.int j) (.bool (decide (i < j))) := .mkI0 fun _ _ => .bl _
theorem OpG.gt {i j : Int} : OpG (rI0 fun i j => .bl (decide (j < i))) (.int i) (.int j) (.bool (decide (j < i))) := .mkI0 fun _ _ => .bl _
theorem OpG.ge {i j : Int} : OpG (rI0 fun i j => .bl (decide (j ≤ i))) (.int i) (.int j) (.bool (decide (j ≤ i))) := .mkI0 fun _ _ => .bl _
theorem OpG.add {i j : Int} : OpG (rI0 fun i j => .int (i + j)) (.int i) (.int j) (.int (i + j)) := .mkI0 fun _ _ => .int _
theorem OpG.sub {i j : Int} : OpG (rI0 fun i j => .int (i - j)) (.int i) (.int j) (.int (i - j)) := .mkI0 fun _ _ => .int _
theorem EvB.tst {b : Bool} (h : EvG te γ (.bool b)) : EvB (tTest te) γ b := fun S H σ l e Q q =>
  h S H σ l e _ fun H1 v s1 av => by
    cases av
    exact ⟨b, rfl, q H1 s1⟩
theorem EvG.chain {r r' : R2} {a b : Bool} (h1 : EvG ta γ x) (h2 : EvG tb γ y) (h3 : EvG tc γ z) (o1 : OpG r x y (.bool a)) (o2 : OpG r' y z (.bool b)) : EvG (tChain r r' ta tb tc) γ (.bool (a && b)) := fun S H σ l e Q q =>
  h1 S H σ l e _ fun H1 v s1 av => h2 S H1 σ (l.same s1) (e.same s1) _ fun H2 w s2 aw => o1 S H2 v w (l.same (s1.trans s2)) (av.same s2) aw _ fun H3 u s3 au => by
    cases au
    refine ⟨a, rfl, ?_⟩
    have s13 := s1.trans (s2.trans s3)
    cases a with
    | true =>
      rw [if_pos rfl]
      exact h3 S H3 σ (l.same s13) (e.same s13) _ fun H4 v4 s4 a4 => o2 S H4 w v4 (l.same (s13.trans s4)) (aw.same (s3.trans s4)) a4 _ fun H5 u5 s5 a5 => q H5 u5 (s13.trans (s4.trans s5)) a5
    | false =>
      rw [if_neg Bool.false_ne_true]
      exact q H3 _ s13 (.bl false)
theorem bools_of {S : Addr → Prop} {H : Hp} : ∀ {vs : List V} {bs : List Bool}, Avs S H vs (bs.map PyData.bool) → vs = bs.map V.bl
  | _, [], .nil => rfl
  | _, b :: bs, .cons a r => by
    cases a
    rw [bools_of r]
    rfl
theorem CbG.all {bs : List Bool} : CbG (rAll K) [.list (bs.map PyData.bool)] (.bool (bs.all id)) := fun S H vs l av Q q => by
  cases av with
  | cons a r =>
    cases r
    cases a with
    | lst n e hs =>
      have := bools_of hs
      subst this
      exact ⟨_, bs, rfl, SqL.of e, q H _ (Same.refl _) (.bl _)⟩
theorem EvG.all {bs : List Bool} (h : EvG te γ (.list (bs.map PyData.bool))) : EvG (tCB (rAll K) (tCons te tNil)) γ (.bool (bs.all id)) := .cb (.cons h .nil) .all
/-! ### either of two readings -/
theorem EvG.orL {t u : TE} (h : EvG t γ d) : EvG (fun σ H Q => t σ H Q ∨ u σ H Q) γ d := fun S H σ l e Q q => .inl (h S H σ l e Q q)
theorem EvG.orR {t u : TE} (h : EvG u γ d) : EvG (fun σ H Q => t σ H Q ∨ u σ H Q) γ d := fun S H σ l e Q q => .inr (h S H σ l e Q q)
end
end GD

set_option Elab.async false
set_option linter.all false
set_option maxRecDepth 100000
set_option maxHeartbeats 4000000
/-! Further built-ins by plain data: all over a comprehension, zip, slices of tuples, order of tuples, whole numbers in lists. -/
namespace GD
open PySem L2
section
variable {γ : List (Option PyData)} {K : PySem.W.Frag} {te ta tb tc : TE} {tt tu : TT} {d x y z : PyData} {S : Addr → Prop}
theorem EvB.yes : EvB tYes γ true := fun S H σ l e Q q => q H (Same.refl _)
/-- [e for x in it] -/
theorem EvG.map {wi : TI} {g : TG} {vs : List Nat} {ds : List PyData} (m : PyData → PyData) (hi : IterG wi γ ds) (hz : ds.length < 1000000)
    (step : ∀ (i : Nat) (d : PyData), ds[i]? = some d → ∃ js γ2, TgG g js d (wipeG γ vs) γ2 ∧ (∀ j ∈ js, j ∈ vs) ∧ EvG te γ2 (m d)) : EvG (tLc wi g tYes te vs) γ (.list (ds.map m)) := by
  have h := EvG.lc (te := te) (tt := tYes) (g := g) (vs := vs) (fun _ => true) m hi hz fun i d hd => by
    obtain ⟨js, γ2, h1, h2, h3⟩ := step i d hd
    exact ⟨js, γ2, h1, h2, .yes, fun _ => h3⟩
  rw [List.filter_eq_self.mpr fun _ _ => rfl] at h
  exact h
/-- [e for x in it], by what the items were made of -/
theorem EvG.mapX {α : Type} (enc out : α → PyData) {wi : TI} {g : TG} {vs : List Nat} {zs : List α} (hi : IterG wi γ (zs.map enc)) (hz : zs.length < 1000000)
    (step : ∀ z ∈ zs, ∃ js γ2, TgG g js (enc z) (wipeG γ vs) γ2 ∧ (∀ j ∈ js, j ∈ vs) ∧ EvG te γ2 (out z)) : EvG (tLc wi g tYes te vs) γ (.list (zs.map out)) := fun S H σ l e Q q =>
  hi S H σ l e _ fun H1 J s1 wk D hD => by
    have W := wk.d D hD
    have hlen : (zs.map enc).length = zs.length := List.length_map ..
    have nD : ¬ S D := (l.same s1).new hD
    refine ⟨fun i k H' => k = zs.length - i ∧ i ≤ zs.length ∧ Same H1 H' ∧ ∃ acc, H' D = some (.lst acc) ∧ Avs (SD S D) H' acc ((zs.take i).map out), ⟨_, rfl, Nat.zero_le _, same_new hD, [], upd_same, .nil⟩, ?_⟩
    rintro i k H' ⟨rfl, hi', ss, acc, hacc, av⟩
    by_cases hlt : i < zs.length
    · refine .inr ⟨W.go i H' (by omega) ss, fun H3 => i + 1 ≤ zs.length ∧ Same H1 H3 ∧ ∃ acc, H3 D = some (.lst acc) ∧ Avs (SD S D) H3 acc ((zs.take (i + 1)).map out), fun H3 p => ⟨_, by omega, rfl, p⟩, fun x H'' y => ?_⟩
      have lv : Live (SD S D) H' := fun X hX => hX.elim (fun h => (l.same (s1.trans ss)) X h) fun h => by
        rw [h, hacc]
        intro z
        cases z
      obtain ⟨d, hd, s2, ax⟩ := W.yld i H' x H'' lv ss y
      have hd := hd (by omega)
      have ax := ax (by omega)
      have hzi : zs[i]? = some (zs[i]'hlt) := List.getElem?_eq_getElem hlt
      rw [List.getElem?_map, hzi] at hd
      cases hd
      obtain ⟨js, γ2, tg, hjs, ht⟩ := step (zs[i]'hlt) (List.getElem_mem hlt)
      have e2 : Gm (SD S D) H'' σ γ := (((e.same s1).fresh hD).same ss).same s2
      refine tg (SD S D) H'' (wipe σ vs) x (e2.wipe vs) ax _ fun σ2 e3 hw => ⟨by rw [hw vs hjs, wipe_wipe], ?_⟩
      refine EvB.yes (γ := γ2) (SD S D) H'' σ2 (lv.same s2) e3 _ fun H3 s3 => ?_
      rw [if_pos rfl]
      refine ht (SD S D) H3 σ2 ((lv.same s2).same s3) (e3.same s3) _ fun H4 v s4 ay => ?_
      have hacc4 := s4 _ _ (s3 _ _ (s2 _ _ hacc))
      have av4 := av.same (s2.trans (s3.trans s4))
      have hlt' : acc.length < 1000000 := by
        rw [av4.len, List.length_map, List.length_take]
        omega
      refine ⟨acc, hacc4, Nat.lt_of_lt_of_le hlt' (by decide), hlt, fun b o hb' => ?_, acc ++ [v], upd_same, ?_⟩
      · rw [upd_ne (ne_of_none hb' hD)]
        exact s4 _ _ (s3 _ _ (s2 _ _ (ss _ _ hb')))
      · have tk : zs.take (i + 1) = zs.take i ++ [zs[i]'hlt] := by
          rw [List.take_succ, hzi]
          rfl
        rw [tk, List.map_append]
        have kp : Kp (SD S D) H4 (upd H4 D (.lst (acc ++ [v]))) := fun b o n hb' => by
          rw [upd_ne (fun z => n (.inr z))]
          exact hb'
        exact (av4.app (.cons ay .nil)).keep kp
    · have e' : i = zs.length := by omega
      subst e'
      refine .inl ⟨by have := W.stop H' ss; rw [hlen] at this; exact this, q H' (.ref D) (s1.trans ss) ?_⟩
      rw [List.take_length] at av
      exact .lst nD hacc (av.less fun X h => .inl h)
/-- all([e for x in it]) -/
theorem EvG.allLc {wi : TI} {g : TG} {vs : List Nat} {ds : List PyData} (p : PyData → Bool) (hi : IterG wi γ ds) (hz : ds.length < 1000000)
    (step : ∀ (i : Nat) (d : PyData), ds[i]? = some d → ∃ js γ2, TgG g js d (wipeG γ vs) γ2 ∧ (∀ j ∈ js, j ∈ vs) ∧ EvG te γ2 (.bool (p d))) : EvG (tCB (rAll K) (tCons (tLc wi g tYes te vs) tNil)) γ (.bool (ds.all p)) := by
  have h := EvG.map (te := te) (g := g) (vs := vs) (fun d => .bool (p d)) hi hz step
  have e : ds.map (fun d => PyData.bool (p d)) = (ds.map p).map PyData.bool := by rw [List.map_map]; rfl
  rw [e] at h
  have h2 := EvG.all (K := K) h
  rw [List.all_map] at h2
  exact h2
/-! ### zip -/
theorem getZip {ds es : List PyData} {i : Nat} : (List.zipWith (fun d e => PyData.tuple [d, e]) ds es)[i]? = match ds[i]?, es[i]? with | some a, some b => some (.tuple [a, b]) | _, _ => none := by
  rw [List.getElem?_zipWith]
  cases ds[i]? <;> cases es[i]? <;> rfl
theorem WalkG.zip {H : Hp} {a b : Addr} {xs ys : List V} {ds es : List PyData} (e : H a = some (.lst xs)) (f : H b = some (.lst ys)) (h : Avs S H xs ds) (k : Avs S H ys es) : WalkG S (Itz K a b) H (List.zipWith (fun d e => PyData.tuple [d, e]) ds es) := by
  have hl := h.len
  have kl := k.len
  have zl : (List.zipWith (fun d e => PyData.tuple [d, e]) ds es).length = min ds.length es.length := List.length_zipWith ..
  refine ⟨fun i H' hi s => ⟨xs, ys, xs[i]'(by omega), ys[i]'(by omega), SqL.of (s _ _ e), SqL.of (s _ _ f), List.getElem?_eq_getElem (by omega), List.getElem?_eq_getElem (by omega)⟩, fun i H' v H'' l s y => ?_, fun H' s => ⟨xs, ys, SqL.of (s _ _ e), SqL.of (s _ _ f), by omega⟩⟩
  obtain ⟨T, x, y', rfl, nT, rfl, y1, y2⟩ := y
  obtain ⟨c, hc, ac⟩ := h.get (y1 xs (SqL.of (s _ _ e)))
  obtain ⟨d, hd, ad⟩ := k.get (y2 ys (SqL.of (s _ _ f)))
  refine ⟨.tuple [c, d], fun _ => by rw [getZip, hc, hd], same_new nT, fun _ => .tup (l.new nT) upd_same (.cons ((ac.same s).same (same_new nT)) (.cons ((ad.same s).same (same_new nT)) .nil))⟩
theorem WalkG.zipT {H : Hp} {a b : Addr} {xs ys : List V} {ds es : List PyData} (e : H a = some (.tup xs)) (f : H b = some (.tup ys)) (h : Avs S H xs ds) (k : Avs S H ys es) : WalkG S (RZ.ItzT K a b) H (List.zipWith (fun d e => PyData.tuple [d, e]) ds es) := by
  have hl := h.len
  have kl := k.len
  have zl : (List.zipWith (fun d e => PyData.tuple [d, e]) ds es).length = min ds.length es.length := List.length_zipWith ..
  refine ⟨fun i H' hi s => ⟨xs, ys, xs[i]'(by omega), ys[i]'(by omega), SqT.of (s _ _ e), SqT.of (s _ _ f), List.getElem?_eq_getElem (by omega), List.getElem?_eq_getElem (by omega)⟩, fun i H' v H'' l s y => ?_, fun H' s => ⟨xs, ys, SqT.of (s _ _ e), SqT.of (s _ _ f), by omega⟩⟩
  obtain ⟨T, x, y', rfl, nT, rfl, y1, y2⟩ := y
  obtain ⟨c, hc, ac⟩ := h.get (y1 xs (SqT.of (s _ _ e)))
  obtain ⟨d, hd, ad⟩ := k.get (y2 ys (SqT.of (s _ _ f)))
  refine ⟨.tuple [c, d], fun _ => by rw [getZip, hc, hd], same_new nT, fun _ => .tup (l.new nT) upd_same (.cons ((ac.same s).same (same_new nT)) (.cons ((ad.same s).same (same_new nT)) .nil))⟩
theorem IterG.zip {ta : TA} {ds es : List PyData} (h : EvA ta γ [.list ds, .list es]) : IterG (RZ.iZipA K ta) γ (List.zipWith (fun d e => PyData.tuple [d, e]) ds es) := fun S H σ l e R r =>
  h S H σ l e _ fun H1 vs s1 av => by
    cases av with
    | cons a r1 =>
      cases r1 with
      | cons b r2 =>
        cases r2
        cases a with
        | lst n f hs =>
          cases b with
          | lst m g ks =>
            exact ⟨_, _, _, _, rfl, .inl ⟨SqL.of f, SqL.of g, r H1 _ s1 ⟨.zip f g hs ks, fun D hD => .zip f g (hs.fresh hD) (ks.fresh hD)⟩⟩⟩
theorem IterG.zipT {ta : TA} {ds es : List PyData} (h : EvA ta γ [.tuple ds, .tuple es]) : IterG (RZ.iZipA K ta) γ (List.zipWith (fun d e => PyData.tuple [d, e]) ds es) := fun S H σ l e R r =>
  h S H σ l e _ fun H1 vs s1 av => by
    cases av with
    | cons a r1 =>
      cases r1 with
      | cons b r2 =>
        cases r2
        cases a with
        | tup n f hs =>
          cases b with
          | tup m g ks =>
            exact ⟨_, _, _, _, rfl, .inr ⟨SqT.of f, SqT.of g, r H1 _ s1 ⟨.zipT f g hs ks, fun D hD => .zipT f g (hs.fresh hD) (ks.fresh hD)⟩⟩⟩
/-! ### slices of tuples -/
theorem EvG.sliceT {tl th : TO} {ds : List PyData} {lo hi : Option Int} (h : EvG te γ (.tuple ds)) (hl : EvO tl γ lo) (hh : EvO th γ hi) : EvG (tSl (rSlA K) te tl th) γ (.tuple (cutD ds lo hi)) := fun S H σ l e Q q =>
  h S H σ l e _ fun H1 v s1 av => hl S H1 σ (l.same s1) (e.same s1) _ fun H2 s2 => hh S H2 σ (l.same (s1.trans s2)) (e.same (s1.trans s2)) _ fun H3 s3 => by
    have av' := av.same (s2.trans s3)
    have s13 := s1.trans (s2.trans s3)
    cases av' with
    | tup n f hs =>
      have hlen := hs.len
      refine ⟨_, _, rfl, SqT.of f, fun hw => q _ _ s13 ?_, fun _ p np => q _ _ (s13.trans (same_new np)) (.tup ((l.same s13).new np) upd_same ?_)⟩
      · rw [hlen] at hw
        have e0 : cutD ds lo hi = ds := by
          unfold cutD
          rw [hw.1, hw.2]
          simp
        rw [e0]
        exact .tup n f hs
      · unfold cutV cutD
        rw [hlen]
        exact ((hs.drop _).take _).same (same_new np)
/-! ### tuples of whole numbers -/
theorem OpG.ltT {a b c e : Int} : OpG (rLtT K) (.tuple [.int a, .int b]) (.tuple [.int c, .int e]) (.bool (HT.lexLt [a, b] [c, e])) := fun S H v w l av aw Q q => by
  cases av with
  | tup n f hs =>
    cases aw with
    | tup m g ks =>
      cases hs with
      | cons x1 r1 =>
        cases r1 with
        | cons x2 r2 =>
          cases r2
          cases x1
          cases x2
          cases ks with
          | cons y1 t1 =>
            cases t1 with
            | cons y2 t2 =>
              cases t2
              cases y1
              cases y2
              exact ⟨_, _, [a, b], [c, e], rfl, rfl, SqT.of f, SqT.of g, q H _ (Same.refl _) (.bl _)⟩
/-! ### max, min of two -/
theorem EvG.max2 {i j : Int} (h1 : EvG ta γ (.int i)) (h2 : EvG tb γ (.int j)) : EvG (tCB (fun xs H Q => ∃ i j, xs = [.int i, .int j] ∧ Q (.int (if j > i then j else i)) H) (tCons ta (tCons tb tNil))) γ (.int (if j > i then j else i)) := .cb (.cons h1 (.cons h2 .nil)) fun S H vs l av Q q => by
  cases av with
  | cons a r =>
    cases r with
    | cons b r =>
      cases r
      cases a
      cases b
      exact ⟨i, j, rfl, q H _ (Same.refl _) (.int _)⟩
theorem EvG.min2 {i j : Int} (h1 : EvG ta γ (.int i)) (h2 : EvG tb γ (.int j)) : EvG (tCB (fun xs H Q => ∃ i j, xs = [.int i, .int j] ∧ Q (.int (if j < i then j else i)) H) (tCons ta (tCons tb tNil))) γ (.int (if j < i then j else i)) := .cb (.cons h1 (.cons h2 .nil)) fun S H vs l av Q q => by
  cases av with
  | cons a r =>
    cases r with
    | cons b r =>
      cases r
      cases a
      cases b
      exact ⟨i, j, rfl, q H _ (Same.refl _) (.int _)⟩
end
end GD
namespace L2
open PySem
/-- two readings of one text: which of them serves is said while reading -/
theorem PE.or {X : Cx} {e : Expr} {t u : TE} (h : PE X e t) (h' : PE X e u) : PE X e (fun σ H Q => t σ H Q ∨ u σ H Q) := ⟨fun pins s σ H Q I q => q.elim (h.run pins s σ H Q I) (h'.run pins s σ H Q I)⟩
theorem PI.or {X : Cx} {tg l : Expr} {t u : TI} (h : PI X tg l t) (h' : PI X tg l u) : PI X tg l (fun σ H R => t σ H R ∨ u σ H R) := ⟨fun pins s σ H R I q => q.elim (h.run pins s σ H R I) (h'.run pins s σ H R I)⟩
end L2

set_option Elab.async false
set_option linter.all false
set_option maxRecDepth 100000
set_option maxHeartbeats 4000000
/-! sorted(set(e)) of a list of whole numbers. -/
namespace GS
open PySem PySem.Spec PyProof.Rows L2
/-- a set that has just been made -/
abbrev setO (w : World) : Obj := { cls := .type "set", dict := none, data := .set #[] 0 (.fresh 0 0 (!w.params.followText "set-order")) }
section
variable {P : Program} {w : World} {A : Around} {E : Value → Shared → Prop} {s : Shared}
/-- what set.__init__ does with a list of whole numbers, a new set at hand -/
theorem init_list {l : Addr} {items : Array Value} (ns : List Int) (hh : A.handled = none) (hl : s.heap.IsList l items) (hit : IntsAre items.toList ns) (hb : ns.length + 1 < scanBound) :
    codeAny (model P w) A (.call (.builtin "set.__init__") ⟨[.ref s.heap.objs.size, .ref l], []⟩)
      (wants (fun r s₂ => r = .none ∧ ∃ h' tk c, s₂ = { s with heap := h', toks := tk } ∧ SetR w h' s.heap.objs.size (fun j => decide (j ∈ ns)) c ∧ c ≤ ns.length ∧ ∀ b o, s.heap.get? b = some o → h'.get? b = some o) E) { s with heap := s.heap.push (setO w) } := by
  have many : items.size = ns.length := by have q := IntsAre.length hit; rw [Array.length_toList] at q; exact q
  have atS : (s.heap.push (setO w)).get? s.heap.objs.size = some (setO w) := Heap.get?_push_size _ rfl
  have ty : Shared.TypeIs { s with heap := s.heap.push (setO w) } (.ref s.heap.objs.size) "set" := ⟨_, atS, rfl⟩
  refine codeAny_call_builtin F.called_set.init.plain F.entry_set_init (check_set_init_1 ty ?_)
  obtain ⟨⟨_, od, _, os⟩, hol, hcl, nl, hdl⟩ := hl
  simp only at hcl hdl; subst hcl; subst hdl
  have hol' : (s.heap.push (setO w)).get? l = some { cls := .type "list", dict := od, data := .seq items nl, slots := os } := Heap.get?_push_of_some _ hol
  have n1 := F.sub_list_set; have n2 := F.sub_list_frozenset
  have n3 : (Value.type "list" == Value.type "dict") = false := by decide
  have isl : (s.heap.push (setO w)).IsList l items := ⟨_, hol', rfl, nl, rfl⟩
  unfold Builtin.«set.__init__» noKeywords Builtin.Frozenset.updateFrom; generalize hPI : pyIter = PI; wp_walk; subst hPI
  refine wpAny_pyIter_list isl (wpAny_bind (wpAny_runValue ?_))
  have lt : l < s.heap.objs.size := Heap.lt_size hol
  have sz : (s.heap.push (setO w)).objs.size = s.heap.objs.size + 1 := Heap.size_push ..
  have nI : l ≠ (s.heap.push (setO w)).objs.size := fun z => absurd lt (by rw [z, sz]; exact Nat.not_lt_of_le (Nat.le_succ _))
  have out : s.heap.objs.size ∉ [(s.heap.push (setO w)).objs.size, l] := fun z => by
    rcases List.mem_cons.mp z with z | z
    · rw [sz] at z
      exact Nat.succ_ne_self _ z.symm
    · have z := List.mem_singleton.mp z
      rw [← z] at lt
      exact Nat.lt_irrefl _ lt
  have vals : ∀ (i : Nat) (v : Value), items[i]? = some v → ∃ k t, ns[i]? = some k ∧ v = .int k t := fun i v hv => by
    have hi : i < ns.length := by have := (Array.getElem?_eq_some_iff.mp hv).1; omega
    obtain ⟨t, e⟩ := PyProof.Rows.IntsAre.int_at hit i v (by rw [Array.getElem?_toList]; exact hv)
    exact ⟨ns[i], t, List.getElem?_eq_getElem hi, by rw [e, List.getD_eq_getElem?_getD, List.getElem?_eq_getElem hi]; rfl⟩
  have hh3 : A.in1.in1.handled = none := by simp [hh]
  refine set_update_ints ((Walks.list (by simp [hh]) _ l nI items).toS) s.heap.objs.size out ns many hb vals (items.size - 0) 0 _ (by omega) (Nat.zero_le _) ⟨⟨_, Heap.get?_push_size _ rfl, rfl, rfl⟩, isl.push _⟩ ⟨0, Nat.le_refl 0, setR_new_at (Heap.get?_push_of_some _ atS)⟩ ?_
  rintro ⟨h', g2, d', tk', os'⟩ c' hm hc' hS'
  have eg : g2 = s.gens := hm.gens; have ed : d' = s.drawn := hm.drawn; have eo : os' = s.os := hm.os
  subst eg; subst ed; subst eo
  show wpAny _ _ _ _ _ _; refine wpAny_pure ?_
  show wpAny _ _ (ret Value.none) _ _ _
  refine wpAny_pure ⟨rfl, h', tk', c', rfl, hS', by omega, fun b o e => ?_⟩
  have hb0 : b < s.heap.objs.size := Heap.lt_size e
  refine hm.heap b o (fun z => ?_) (Heap.get?_push_of_some _ (Heap.get?_push_of_some _ e))
  rcases List.mem_cons.mp z with z | z
  · rw [z] at hb0
    exact Nat.lt_irrefl _ hb0
  · have z := List.mem_singleton.mp z
    rw [z, sz] at hb0
    exact Nat.not_lt_of_le (Nat.le_succ _) hb0
set_option maxHeartbeats 3200000 in
theorem set_of_list {l : Addr} {items : Array Value} (ns : List Int) {Q : Value → Shared → Prop} (hh : A.handled = none) (hl : s.heap.IsList l items) (hit : IntsAre items.toList ns) (hb : ns.length + 1 < scanBound)
    (h : ∀ (h' : Heap) (tk c : Nat), SetR w h' s.heap.objs.size (fun j => decide (j ∈ ns)) c → c ≤ ns.length → (∀ b o, s.heap.get? b = some o → h'.get? b = some o) → Q (.ref s.heap.objs.size) { s with heap := h', toks := tk }) : wpAny (model P w) A (call (.type "set") [.ref l]) Q E s := by
  obtain ⟨c, tl, hmro⟩ := F.called_set.mro; have g1 := F.called_set.made; have g2 := F.called_set.sub
  refine wpAny_call (codeAny_of_tree ?_); show wpAny _ _ (callAny (.type "set") _) _ _ _
  refine wpAny_pure ⟨Code.quiet_builtin _ (by decide +kernel), codeAny_builtin F.entry_type_call ?_⟩; rw [Around.under_plain (weight_type_call_type "set" [.ref l] []) rfl]
  have g3 := F.called_set.notType; have g4 := F.called_set.canCreate; have g5 := F.typeCall_set_1 (.ref l)
  repeat any_goals first | assumption | wp_step
  refine codeAny_mono (code_set_led1 (.ref l) (E := E) (Q₁ := fun obj s₁ => obj = .ref s.heap.objs.size ∧ s₁ = { s with heap := s.heap.push (setO w) }) ⟨rfl, rfl⟩) fun r s₁ hr => ?_
  match r, hr with
  | .error e, hr => exact hr
  | .ok (.ret obj), hr =>
    obtain ⟨rfl, rfl⟩ := hr
    have ty : Shared.TypeIs { s with heap := s.heap.push (setO w) } (.ref s.heap.objs.size) "set" := ⟨_, Heap.get?_push_size _ rfl, rfl⟩
    have g6 := F.called_set.init.lookup; have g7 := F.called_set.init.bind (.ref s.heap.objs.size)
    repeat any_goals first | assumption | wp_step
    refine codeAny_mono (init_list (E := E) ns (by simp [hh]) hl hit hb) fun r₂ s₂ hr₂ => ?_
    match r₂, hr₂ with
    | .error e, hr₂ => exact hr₂
    | .ok (.ret r), hr₂ =>
      obtain ⟨rfl, h', tk, c', rfl, hS', hc', hk'⟩ := hr₂
      repeat any_goals first | assumption | wp_step
      exact h _ _ _ hS' hc' hk'
end
def tSortedSet (K : PySem.W.Frag) (ta : TE) : TE := fun σ H Q => ta σ H fun x H1 => ∃ (l : Addr) (ns : List Int), x = .ref l ∧ SqL K H1 l (ns.map V.int) ∧ ns.length < 60 ∧ ∀ (ms : List Int) (p : Addr), ms.Pairwise (· < ·) → (∀ k : Int, k ∈ ms ↔ k ∈ ns) → H1 p = none → Q (.ref p) (upd H1 p (.lst (ms.map V.int)))
/-- sorted(set(e)) -/
theorem pe_sortedSet {X : Cx} {a : Expr} {ta : TE} {p p2 q pos : Pos} (hg : Gl X "sorted") (hm : X.mg "sorted" = none) (hg2 : Gl X "set") (hm2 : X.mg "set" = none) (ha : PE X a ta) (hc : X.calm = true := by rfl)
    (na : starEach [a] X.env = (false, eval a X.env) :: starEach [] X.env := by rfl) : PE X (.Call (.Name "sorted" p) [.Call (.Name "set" p2) [a] [] q] [] pos) (tSortedSet X.K ta) := by
  refine ⟨fun pins s σ H Q I h => Call_ (ld_blt I hg hm PyProof.Rows.boot_sorted (PyProof.Rows.callWith_builtin1 (PyProof.Rows.args_cons (Call_ (ld_blt I hg2 hm2 boot_set ?_)) rfl) rfl rfl))⟩
  refine PyProof.Rows.callWith_type1 (PyProof.Rows.args_cons (thn (ha.run pins s σ H _ I h) fun v s1 ⟨x, H1, I1, r1, q1⟩ => PyProof.Rows.args_nil ?_) na) na rfl
  obtain ⟨l, ns, rfl, hq, hl, q1⟩ := q1
  cases r1
  obtain ⟨its, r, pl, hz⟩ := I1.list hq
  refine set_of_list ns (I1.ok.hd hc) pl.isList (by simpa using RZ.intsAre_vals r) (by unfold scanBound; omega) fun h' tk c hS hc' hk => PyProof.Rows.args_nil ?_
  have I2 : Inv X pins σ H1 { s1 with heap := h', toks := tk } := I1.kept fun b o e => hk b o e
  have hS2 : SetR X.w ({ s1 with heap := h', toks := tk } : Shared).heap s1.heap.objs.size (fun j => decide (j ∈ ns)) c := hS
  generalize ({ s1 with heap := h', toks := tk } : Shared) = s2 at I2 hS2 ⊢
  refine sorted_set hS2 (I2.ok.hd hc) (by omega) fun s' p out c2 ms k g o hp hg' hi hs hmm hl' => ?_
  have hn : H1 p = none := I2.hok.fresh hp
  have hlen : (ms.map V.int).length ≤ sizeLine := by rw [List.length_map, hl', sizeLine_eq]; omega
  have J : Inv X pins σ (upd H1 p (.lst (ms.map V.int))) { s2 with heap := s'.heap, gens := s'.gens, drawn := s'.drawn, toks := s'.toks } := I2.call (ch := []) (Un.laid k hp hn) (I2.hok.laid k hp ⟨hlen, out.toList, c2, vals_of_ints hi, hg'⟩) (by rw [g]; exact I2.bare) fun _ z => nomatch z
  have e : s' = { s2 with heap := s'.heap, gens := s'.gens, drawn := s'.drawn, toks := s'.toks } := by
    obtain ⟨_, _, _, _, _⟩ := s'; obtain ⟨_, _, _, _, _⟩ := s2; cases o; rfl
  rw [e]
  exact ⟨.ref p, _, J, rfl, q1 ms p hs (fun k => (hmm k).trans decide_eq_true_iff) hn⟩
end GS
namespace GD
open PySem L2
theorem EvG.sortedSet {γ : List (Option PyData)} {K : PySem.W.Frag} {te : TE} {ns ms : List Int} (h : EvG te γ (.list (ns.map PyData.int))) (hl : ns.length < 60) (hu : ∀ l : List Int, l.Pairwise (· < ·) → (∀ k, k ∈ l ↔ k ∈ ns) → l = ms) : EvG (GS.tSortedSet K te) γ (.list (ms.map PyData.int)) := fun S H σ l e Q q =>
  h S H σ l e _ fun H1 v s1 av => by
    cases av with
    | lst n f hs =>
      have e1 : ∀ {vs : List V} {zs : List Int} {H : Hp}, Avs S H vs (zs.map PyData.int) → vs = zs.map V.int := fun {vs zs H} a => by
        induction zs generalizing vs with
        | nil => cases a; rfl
        | cons z zs ih =>
          cases a with
          | cons b r => cases b; rw [ih r]; rfl
      have e2 : ∀ (zs : List Int) (H : Hp), Avs S H (zs.map V.int) (zs.map PyData.int) := fun zs H => by
        induction zs with
        | nil => exact .nil
        | cons z zs ih => exact .cons (.int z) ih
      have := e1 hs
      subst this
      exact ⟨_, ns, rfl, SqL.of f, hl, fun l' p hp hm np => by
        rw [hu l' hp hm]
        exact q _ _ (s1.trans (same_new np)) (.lst ((l.same s1).new np) upd_same (e2 ms _))⟩
theorem EvG.lenSet {γ : List (Option PyData)} {K : PySem.W.Frag} {te : TE} {ns : List Int} (h : EvG te γ (.list (ns.map PyData.int))) (hl : ns.length ≤ 4000) (nd : ns.Nodup) : EvG (RZ.tLenSetI K te) γ (.int (ns.length : Nat)) := fun S H σ l e Q q =>
  h S H σ l e _ fun H1 v s1 av => by
    cases av with
    | lst n f hs =>
      have e1 : ∀ {vs : List V} {zs : List Int} {H : Hp}, Avs S H vs (zs.map PyData.int) → vs = zs.map V.int := fun {vs zs H} a => by
        induction zs generalizing vs with
        | nil => cases a; rfl
        | cons z zs ih =>
          cases a with
          | cons b r => cases b; rw [ih r]; rfl
      have := e1 hs
      subst this
      exact ⟨_, ns, rfl, SqL.of f, nd, hl, q _ _ s1 (.int _)⟩
end GD

set_option Elab.async false
set_option linter.all false
set_option maxRecDepth 100000
set_option maxHeartbeats 4000000
/-! min(xs, key=f) of a list, f a def that gives whole numbers. -/
namespace GS
open PySem PySem.Spec PyProof.Rows L2
section
variable {P : Program} {w : World} {A : Around}
/-- a list by what its items stand for, its iterator -/
theorem walk_list {l It : Addr} {xs : List V} (hh : A.handled = none) (ne : l ≠ It) : WalksS P w A It [It, l] [It] (fun a b => b = a) xs.length (fun i v => ∃ x, xs[i]? = some x ∧ RelV x v) (fun i s => s.heap.IsListIter It l i ∧ ∃ its : List Value, s.heap.IsList l its.toArray ∧ Vals xs its) where
  sub := fun b hb => by rw [List.mem_singleton.mp hb]; exact .head _
  grefl := fun _ => rfl
  gtrans := fun _ _ _ a b => b.trans a
  frame := fun i s h' tk st _ hk => ⟨st.1.at fun o e => hk It (.head _) o e, let ⟨its, a, b⟩ := st.2; ⟨its, a.at fun o e => hk l (.tail _ (.head _)) o e, b⟩⟩
  item := fun i s Q E hi st hQ => by
    obtain ⟨it, its, isl, vs⟩ := st
    have hl := vs.length
    refine (Walks.list (prog := P) (w := w) hh It l ne its.toArray).toS.item i s Q E (by simpa using by omega) ⟨it, isl⟩ fun v s' hv st' hm => ?_
    have hx : xs[i]? = some (xs[i]'hi) := List.getElem?_eq_getElem hi
    obtain ⟨u, hu, r⟩ := Vals.get vs hx
    have hv' : its[i]? = some v := by simpa using hv
    rw [hu] at hv'
    cases hv'
    exact hQ v s' ⟨_, hx, r⟩ ⟨st'.1, its, st'.2, vs⟩ ⟨hm.heap, hm.gens, hm.drawn, hm.os, hm.toks⟩
  done := fun s Q E st hQ => by
    obtain ⟨it, its, isl, vs⟩ := st
    have hl := vs.length
    refine (Walks.list (prog := P) (w := w) hh It l ne its.toArray).toS.done s Q E ⟨by simpa [← hl] using it, isl⟩ fun s' hm => hQ s' ⟨hm.heap, hm.gens, hm.drawn, hm.os, hm.toks⟩
  self := fun _ _ _ _ st hQ => wpAny_pyIter_listiter st.1 hQ
end
/-- the first of the least, by the key -/
def rMinK (K : PySem.W.Frag) (f : Addr) (sp : Sp) (E : XK) : List V → List V → Hp → VK → Prop := fun vs zs H Q => ∃ (l : Addr) (xs : List V) (kf : Nat → Int), vs = [.ref l] ∧ zs = [.ref f] ∧ SqL K H l xs ∧ 0 < xs.length ∧
  (∀ i v H2, xs[i]? = some v → Same H H2 → sp [v] H2 (fun z H3 => z = .int (kf i) ∧ Same H2 H3) E) ∧ ∀ v H2, xs[argBest (fun i j => decide (kf i < kf j)) (xs.length - 1)]? = some v → Same H H2 → Q v H2
theorem sq_same {K : PySem.W.Frag} {H H' : Hp} {a : Addr} {xs : List V} (s : Same H H') (h : SqL K H a xs) : SqL K H' a xs := s.seq h
theorem cr_minK {X : Cx} {k : Nat} {f : Addr} {sp : Sp} {E : XK} (F : FnR X.prog X.w X.K X.mg X.base CX0 k f sp) (hr : Room (k + 1) X.A) (hc : X.calm = true) : CallRK X (.builtin "min") [Str.ofString "key"] (rMinK X.K f sp E) := by
  intro pins s σ H ys zs us ws Q I ry rz h
  obtain ⟨l, xs, kf, rfl, rfl, hs, h0, hk, q⟩ := h
  obtain ⟨u, rfl, ru⟩ := ry.one
  cases (show u = Value.ref l from ru)
  obtain ⟨v, rfl, rv⟩ := rz.one
  cases (show v = Value.ref f from rv)
  obtain ⟨its, rits, pl, hz⟩ := I.list hs
  have ltl : l < s.heap.objs.size := Heap.lt_size pl.isList.choose_spec.1
  have neI : l ≠ s.heap.objs.size := Nat.ne_of_lt ltl
  show wpAny _ _ (call (.builtin "min") [.ref l] [(Str.ofString "key", .ref f)]) _ _ _
  refine PySem.call_min_walkK (wpAny_pyIter_list pl.isList ?_)
  have I1 : Inv X pins σ H { s with heap := s.heap.push { cls := .type "list_iterator", data := .fields #[.ref l, .int 0 0] } } := I.kept (t' := s.toks) fun b o e => Heap.get?_push_of_some _ e
  have sz : (s.heap.push { cls := .type "list_iterator", data := .fields #[.ref l, .int 0 0] }).objs.size = s.heap.objs.size + 1 := Heap.size_push ..
  have gI : (s.heap.push { cls := .type "list_iterator", data := .fields #[.ref l, .int 0 0] }).get? s.heap.objs.size = some { cls := .type "list_iterator", data := .fields #[.ref l, .int 0 0] } := Heap.get?_push_size _ rfl
  have fI : FpOk X pins H s.heap.objs.size := I.fpOk (Nat.le_refl _) (I.hok.fresh (Nat.le_refl _))
  have fS : FpOk X pins H (s.heap.push { cls := .type "list_iterator", data := .fields #[.ref l, .int 0 0] }).objs.size := I1.fpOk (Nat.le_refl _) (I1.hok.fresh (Nat.le_refl _))
  generalize hIt : s.heap.objs.size = It at *
  generalize hS0 : (s.heap.push { cls := .type "list_iterator", data := .fields #[.ref l, .int 0 0] }).objs.size = S0 at *
  generalize hs1 : ({ s with heap := s.heap.push { cls := .type "list_iterator", data := .fields #[.ref l, .int 0 0] } } : Shared) = s1 at I1 ⊢
  refine ⟨It, [It, l], [It], _, xs.length, _, _, (fun s' => ∃ H2, Same H H2 ∧ Inv X pins σ H2 s' ∧ FpOk X pins H2 S0 ∧ FpOk X pins H2 It), (fun i k _ => ∃ t, k = .int (kf i) t), (fun i j => decide (kf i < kf j)), rfl, walk_list (xs := xs) (by simp [I.ok.hd hc]) neI, ?_, ?_, h0, ?_, ⟨H, Same.refl _, I1, fS, fI⟩, ?_⟩
  · subst hs1
    exact ⟨⟨_, gI, rfl, rfl⟩, its, pl.isList.push _, rits⟩
  · subst hs1
    intro b hb
    show b < S0
    rw [sz]
    rcases List.mem_cons.mp hb with rfl | hb
    · exact Nat.lt_succ_self _
    · rw [List.mem_singleton.mp hb]
      exact Nat.lt_succ_of_lt ltl
  · refine ⟨?_, fun i k s s' h _ => h, ?_, ?_⟩
    · rintro s2 ⟨h', g2, d', tk', os'⟩ ⟨H2, ss, I2, f1, f2⟩ hm
      have eg : g2 = s2.gens := hm.gens; have ed : d' = s2.drawn := hm.drawn; have eo : os' = s2.os := hm.os
      subst eg; subst ed; subst eo
      exact ⟨H2, ss, I2.turnedL (ch := [S0, It]) (fun b o hb e => hm.heap b o hb e) (fun b hb => by
        rcases List.mem_cons.mp hb with rfl | hb
        · exact f1
        · rw [List.mem_singleton.mp hb]
          exact f2), f1, f2⟩
    · rintro i v s2 o Q' E' hi ⟨x, hx', rx⟩ ⟨H2, ss, I2, f1, f2⟩ hst hS hq
      obtain ⟨oI, hoI, hcI, hdI⟩ := id hst.1
      refine wpAny_call (codeAny_mono (F X.A.in1 X.stack s2 H2 [v] [x] _ E hr.in1 I2.env0.in1 (.cons rx .nil) (hk i x H2 hx' ss)) fun r s3 hr3 => ?_)
      match r, hr3 with
      | .error e, z => exact z.elim
      | .ok (.ret z), hce =>
        obtain ⟨z', H3, os, bare, un, hok, rz, e3, s23⟩ := hce
        have kS := un.keep S0 o hS f1.1 (fun z => (List.mem_cons.mp (I2.stkSub S0 z)).elim f1.2.1 f1.2.2.1) (by simp)
        have kI := un.keep It oI hoI f2.1 (fun z => (List.mem_cons.mp (I2.stkSub It z)).elim f2.2.1 f2.2.2.1) (by simp)
        obtain ⟨_, H4, I4, rz', ⟨rfl, s24⟩, m1, m2⟩ := I2.after (Q := fun z H' => (z = .int (kf i) ∧ Same H2 H') ∧ H' S0 = none ∧ H' It = none) ⟨z', H3, os, bare, un, hok, rz, ⟨e3, s23⟩, un.free S0 o hS f1.1 (by simp), un.free It oI hoI f2.1 (by simp)⟩
        obtain ⟨t, rfl⟩ := rz'
        obtain ⟨its', rits', pl', _⟩ := I4.list (sq_same (ss.trans s24) hs)
        exact hq (.int (kf i) t) s3 ⟨H4, ss.trans s24, I4, ⟨m1, f1.2⟩, ⟨m2, f2.2⟩⟩ ⟨⟨oI, kI, hcI, hdI⟩, its', pl'.isList, rits'⟩ kS ⟨t, rfl⟩ fun _ _ h => h
    · rintro i j ki kj s2 Q' E' _ ⟨t, rfl⟩ ⟨u, rfl⟩ hq
      exact lt_int hq
  · rintro v s' ⟨x, hx, r⟩ ⟨H2, ss, I2, _⟩
    exact ⟨x, H2, I2, r, q x H2 hx ss⟩
end GS
namespace GD
open PySem L2
theorem argBest_le (bt : Nat → Nat → Bool) : ∀ m, argBest bt m ≤ m
  | 0 => Nat.le_refl _
  | m + 1 => by
    have := argBest_le bt m
    unfold argBest
    split <;> omega
theorem argBest_congr {bt bu : Nat → Nat → Bool} : ∀ m, (∀ i j, i ≤ m → j ≤ m → bt i j = bu i j) → argBest bt m = argBest bu m
  | 0, _ => rfl
  | m + 1, h => by
    have ih := argBest_congr m fun i j hi hj => h i j (by omega) (by omega)
    have := argBest_le bu m
    unfold argBest
    rw [ih, h (m + 1) (argBest bu m) (by omega) (by omega)]
theorem EvG.minK {γ : List (Option PyData)} {K : PySem.W.Frag} {te : TE} {f : Addr} {F : List PyData → PyData → Prop} {E : XK} {ds : List PyData} {d : PyData} (kf : PyData → Int) (h : EvG te γ (.list ds)) (h0 : 0 < ds.length) (hk : ∀ d ∈ ds, F [d] (.int (kf d)))
    (hd : ds[argBest (fun i j => decide (kf (ds.getD i .none) < kf (ds.getD j .none))) (ds.length - 1)]? = some d) : EvG (tCKw (GS.rMinK K f (SpG F) E) (tCons te tNil) (tCons (tC (.ref f)) tNil)) γ d := fun S H σ l e Q q =>
  h S H σ l e _ fun H1 v s1 av => by
    cases av with
    | lst n g hs =>
      have hl := hs.len
      refine ⟨_, _, (fun i => kf (ds.getD i .none)), rfl, rfl, SqL.of g, by omega, fun i v H2 hv s2 => ?_, fun v H2 hv s2 => ?_⟩
      · obtain ⟨c, hc, ac⟩ := hs.get hv
        refine ⟨S, [c], _, l.same (s1.trans s2), .cons (ac.same s2) .nil, hk c (List.mem_of_getElem? hc), fun H3 w s3 aw => ?_⟩
        cases aw
        refine ⟨?_, s3⟩
        show V.int (kf c) = V.int (kf (ds.getD i .none))
        rw [List.getD_eq_getElem?_getD, hc]
        rfl
      · rw [hl] at hv
        obtain ⟨c, hc, ac⟩ := hs.get hv
        rw [hd] at hc
        cases hc
        exact q H2 v (s1.trans s2) (ac.same s2)
end GD

/-! Boards: the going through, the lots, the covers; no Python here. -/
namespace K71
abbrev Pl := Nat × Nat
/-- this law's count: the most places that spare one another, rows from row on (n of them), columns other than used -/
def mostN (ps : List Pl) : Nat → Nat → List Nat → Nat
  | 0, _, _ => 0
  | n + 1, row, used => ps.foldl (fun found p => if p.1 = row ∧ p.2 ∉ used then max found (1 + mostN ps n (row + 1) (used ++ [p.2])) else found) (mostN ps n (row + 1) used)
/-- the program's rooks -/
def mostR (ps : List Pl) : Nat → Nat → List Pl → List Pl
  | 0, _, taken => taken
  | n + 1, row, taken => ps.foldl (fun found p => if p.1 = row ∧ p.2 ∉ taken.map (·.2) then (if (mostR ps n (row + 1) (taken ++ [p])).length > found.length then mostR ps n (row + 1) (taken ++ [p]) else found) else found) (mostR ps n (row + 1) taken)
def lots : Nat → List (List Nat)
  | 0 => [[]]
  | n + 1 => lots n ++ (lots n).map (· ++ [n])
/-- the columns of places in no told row, rising -/
def colsOf (ps : List Pl) (rows : List Nat) : List Nat := (List.range 4).filter fun c => ps.any fun p => !rows.contains p.1 && p.2 == c
def sizeOf' (ps : List Pl) (rows : List Nat) : Nat := rows.length + (colsOf ps rows).length
/-- the first of the least -/
def bestOf (f : List Nat → Nat) : List (List Nat) → List Nat → List Nat
  | [], b => b
  | x :: xs, b => bestOf f xs (if f x < f b then x else b)
def coverRows (ps : List Pl) (t : Nat) : List Nat := bestOf (sizeOf' ps) ((lots t).tail) []
def fewestN (ps : List Pl) (t : Nat) : Nat := (lots t).foldl (fun found rows => min found (sizeOf' ps rows)) 99
def ltP (p q : Pl) : Prop := p.1 < q.1 ∨ (p.1 = q.1 ∧ p.2 < q.2)
instance : DecidableRel ltP := fun p q => by unfold ltP; exact inferInstance
structure Board (t w : Nat) (ps : List Pl) : Prop where
  t1 : 1 ≤ t
  t4 : t ≤ 4
  w1 : 1 ≤ w
  w4 : w ≤ 4
  n1 : 1 ≤ ps.length
  n16 : ps.length ≤ 16
  inn : ∀ p ∈ ps, p.1 < t ∧ p.2 < w
  srt : ps.Pairwise ltP
/-- some of the places, that spare one another -/
structure Spare (ps m : List Pl) : Prop where
  sub : ∀ p ∈ m, p ∈ ps
  rows : (m.map (·.1)).Nodup
  cols : (m.map (·.2)).Nodup
end K71

set_option Elab.async false
set_option linter.all false
set_option maxRecDepth 100000
set_option maxHeartbeats 4000000
/-! The text by places; the plain checks. -/
namespace K71
open PySem L2 GD
def top (i : Nat) : Stmt := PySem.Challenge.pw_shrunkrooms_k71_whole_rooks_and_covers.main.body.getD i (.Pass ⟨0, 0, 0, 0⟩)
abbrev sIsInt : Stmt := top 1
abbrev sIsCount : Stmt := top 2
abbrev sIsList : Stmt := top 8
abbrev sBet : Stmt := top 9
abbrev sWm : Stmt := top 13
abbrev sPat : Stmt := top 11
abbrev sPl : Stmt := top 10
abbrev sRk : Stmt := top 17
abbrev sIr : Stmt := top 18
abbrev sCv : Stmt := top 19
abbrev sIc : Stmt := top 20
abbrev sMr : Stmt := top 21
abbrev sLo : Stmt := top 22
abbrev sCs : Stmt := top 23
abbrev sUn : Stmt := top 12
abbrev sWb : Stmt := top 24
abbrev sPo : Stmt := top 26
abbrev sDr : Stmt := top 27
abbrev sBo : Stmt := top 28
abbrev sMo : Stmt := top 29
abbrev sLl : Stmt := top 30
abbrev sFe : Stmt := top 31
abbrev sRr : Stmt := top 32
abbrev sCr : Stmt := top 33
abbrev sRi : Stmt := top 34
abbrev sLaw : Stmt := top 35
structure Blt (mg : Str → Option Value) : Prop where
  isi : mg "isinstance" = none
  int : mg "int" = none
  bool : mg "bool" = none
  abs : mg "abs" = none
  list : mg "list" = none
  tuple : mg "tuple" = none
  len : mg "len" = none
  max : mg "max" = none
  min : mg "min" = none
  divmod : mg "divmod" = none
  range : mg "range" = none
  repr : mg "repr" = none
  all : mg "all" = none
  set : mg "set" = none
  sorted : mg "sorted" = none
  dict : mg "dict" = none
  zip : mg "zip" = none
/-- a def of the text, with its promise -/
structure Dn (P : Program) (w : World) (K : PySem.W.Frag) (mg : Str → Option Value) (base : Heap) (lv : Nat) (x : Str) (ps : List Str) (sp : Sp) where
  f : Addr
  fd : FuncData
  G : FnOk P w K mg base CX0 lv f fd ps sp
  m : mg x = some (.ref f)
  k : PySem.W.keepIn K (.ref f) = true
  b : Binds K fd ps []
abbrev N (n : Nat) : PyData := .int (n : Int)
abbrev pD (p : Pl) : PyData := .tuple [N p.1, N p.2]
abbrev psD (ps : List Pl) : List PyData := ps.map pD
abbrev nsD (ns : List Nat) : List PyData := ns.map N
def IsPs (d : PyData) (ps : List Pl) : Prop := d = .list (psD ps) ∨ d = .tuple (psD ps)
/-! ### promises -/
def FisInt (ds : List PyData) (r : PyData) : Prop := ∃ i : Int, ds = [.int i] ∧ r = .bool true
def FisCount (ds : List PyData) (r : PyData) : Prop := ∃ i : Int, ds = [.int i] ∧ r = .bool (decide (0 ≤ i))
def FisList (ds : List PyData) (r : PyData) : Prop := ∃ xs, (ds = [.list xs] ∨ ds = [.tuple xs]) ∧ r = .bool true
def Fbet (ds : List PyData) (r : PyData) : Prop := ∃ v lo hi : Int, ds = [.int v, .int lo, .int hi] ∧ r = .bool (decide (0 ≤ v) && (decide (lo ≤ v) && decide (v ≤ hi)))
def Fwm (ds : List PyData) (r : PyData) : Prop := ∃ v lo hi : Int, ds = [.int v, .int lo, .int hi] ∧ 0 ≤ v ∧ lo ≤ v ∧ v ≤ hi ∧ r = .none
def Fpl (ds : List PyData) (r : PyData) : Prop := ∃ (t w : Nat) (p : Pl), ds = [pD p, N t, N w] ∧ p.1 < t ∧ p.2 < w ∧ r = .bool true
section
variable {P : Program} {w : World} {K : PySem.W.Frag} {mg : Str → Option Value} {base : Heap}
abbrev nIsInt : List Str := ["value"]
theorem scIsInt : FnScope nIsInt ["value"] (defScope sIsInt) := ⟨rfl, rfl, rfl, by decide +kernel, rfl, by decide +kernel, by decide +kernel⟩
theorem ok_isInt {f : Addr} {fd : FuncData} (F : Fun K "is_integer" "is_integer" sIsInt f fd) (B : Blt mg) : FnOk P w K mg base CX0 1 f fd ["value"] (SpG FisInt) := by
  refine F.ok scIsInt (fun vs H Q E h => h.len (n := 1) (by rintro ds r ⟨i, rfl, _⟩; rfl)) (fun cdv A outer s H vs Q E hr h => ?_)
  refine ⟨_, pss_one (ps_ret (pe_and (pe_callB call_isi (by rfl) B.isi PyProof.Rows.boot_isinstance (pa_cons (pv 0) (pa_cons (pe_bltn (by rfl) B.int PyProof.Rows.boot_int (v := .ty "int") rfl) pa_nil))) (pe_one (pe_not (pe_callB call_isi (by rfl) B.isi PyProof.Rows.boot_isinstance (pa_cons (pv 0) (pa_cons (pe_bltn (by rfl) B.bool PyProof.Rows.boot_bool (v := .ty "bool") rfl) pa_nil))))))), h.body fun ds r hF => ?_⟩
  obtain ⟨i, rfl, rfl⟩ := hF
  exact .ret (.eq (.andV (a := true) (.isi (.var rfl) kb_ii) fun _ => .notV (a := false) (.isi (.var rfl) kb_ib)) rfl)
abbrev nIsCount : List Str := ["value"]
theorem scIsCount : FnScope nIsCount ["value"] (defScope sIsCount) := ⟨rfl, rfl, rfl, by decide +kernel, rfl, by decide +kernel, by decide +kernel⟩
theorem ok_isCount {f : Addr} {fd : FuncData} (F : Fun K "is_count" "is_count" sIsCount f fd) (B : Blt mg) (dInt : Dn P w K mg base 1 "is_integer" ["value"] (SpG FisInt)) : FnOk P w K mg base CX0 2 f fd ["value"] (SpG FisCount) := by
  refine F.ok scIsCount (fun vs H Q E h => h.len (n := 1) (by rintro ds r ⟨i, rfl, _⟩; rfl)) (fun cdv A outer s H vs Q E hr h => ?_)
  refine ⟨_, pss_one (ps_ret (pe_and (pe_call dInt.G (hr.mono (by decide)) (by rfl) dInt.m dInt.k dInt.b .nil pass0 (pa_cons (pv 0) pa_nil)) (pe_one (pe_cmpR op_ge (pv 0) pe_int (nomark _))))), h.body fun ds r hF => ?_⟩
  obtain ⟨i, rfl, rfl⟩ := hF
  exact .ret (.eq (.andV (a := true) (.call (.cons (.var rfl) .nil) ⟨i, rfl, rfl⟩) fun _ => .op (.var rfl) (.int 0) .ge) rfl)
abbrev nIsList : List Str := ["value"]
theorem scIsList : FnScope nIsList ["value"] (defScope sIsList) := ⟨rfl, rfl, rfl, by decide +kernel, rfl, by decide +kernel, by decide +kernel⟩
theorem ok_isList {f : Addr} {fd : FuncData} (F : Fun K "is_list" "is_list" sIsList f fd) (B : Blt mg) : FnOk P w K mg base CX0 1 f fd ["value"] (SpG FisList) := by
  refine F.ok scIsList (fun vs H Q E h => h.len (n := 1) (by rintro ds r ⟨i, rfl | rfl, _⟩ <;> rfl)) (fun cdv A outer s H vs Q E hr h => ?_)
  refine ⟨_, pss_one (ps_ret (pe_callB call_isiT (by rfl) B.isi PyProof.Rows.boot_isinstance (pa_cons (pv 0) (pa_cons (pe_tup (pa_cons (pe_bltn (by rfl) B.list PyProof.Rows.boot_list (v := .ty "list") rfl) (pa_cons (pe_bltn (by rfl) B.tuple PyProof.Rows.boot_tuple (v := .ty "tuple") rfl) pa_nil))) pa_nil)))), h.body fun ds r hF => ?_⟩
  obtain ⟨i, rfl | rfl, rfl⟩ := hF
  · exact .ret (.isiT (.var rfl) fun K => kitAny_cons (b := true) (kit_ty kb_ll) (fun z => by cases z) fun _ => rfl)
  · exact .ret (.isiT (.var rfl) fun K => kitAny_cons (b := false) (kit_ty kb_tl) (fun _ => kitAny_cons (b := true) (kit_ty kb_tt) (fun z => by cases z) fun _ => rfl) fun z => by cases z)
abbrev nBet : List Str := ["value", "low", "high"]
theorem scBet : FnScope nBet ["value", "low", "high"] (defScope sBet) := ⟨rfl, rfl, rfl, by decide +kernel, rfl, by decide +kernel, by decide +kernel⟩
theorem ok_bet {f : Addr} {fd : FuncData} (F : Fun K "is_between" "is_between" sBet f fd) (B : Blt mg) (dCount : Dn P w K mg base 2 "is_count" ["value"] (SpG FisCount)) : FnOk P w K mg base CX0 3 f fd ["value", "low", "high"] (SpG Fbet) := by
  refine F.ok scBet (fun vs H Q E h => h.len (n := 3) (by rintro ds r ⟨v, lo, hi, rfl, _⟩; rfl)) (fun cdv A outer s H vs Q E hr h => ?_)
  refine ⟨_, pss_one (ps_ret (pe_and (pe_call dCount.G (hr.mono (by decide)) (by rfl) dCount.m dCount.k dCount.b .nil pass0 (pa_cons (pv 0) pa_nil)) (pe_one (pe_chain op_le op_le (pv 1) (pv 0) (pv 2))))), h.body fun ds r hF => ?_⟩
  obtain ⟨v, lo, hi, rfl, rfl⟩ := hF
  exact .ret (.andV (.call (.cons (.var rfl) .nil) ⟨v, rfl, rfl⟩) fun _ => .chain (.var rfl) (.var rfl) (.var rfl) .le .le)
abbrev nWm : List Str := ["value", "low", "high"]
theorem scWm : FnScope nWm ["value", "low", "high"] (defScope sWm) := ⟨rfl, rfl, rfl, by decide +kernel, rfl, by decide +kernel, by decide +kernel⟩
theorem ok_wm {f : Addr} {fd : FuncData} (F : Fun K "want_many" "want_many" sWm f fd) (B : Blt mg) (dBet : Dn P w K mg base 3 "is_between" ["value", "low", "high"] (SpG Fbet)) : FnOk P w K mg base CX0 4 f fd ["value", "low", "high"] (SpG Fwm) := by
  refine F.ok scWm (fun vs H Q E h => h.len (n := 3) (by rintro ds r ⟨v, lo, hi, rfl, _⟩; rfl)) (fun cdv A outer s H vs Q E hr h => ?_)
  refine ⟨_, PSs.nox (pss_one (ps_if (pt_not (pt_val (pe_call dBet.G (hr.mono (by decide)) (by rfl) dBet.m dBet.k dBet.b .nil pass0 (pa_cons (pv 0) (pa_cons (pv 1) (pa_cons (pv 2) pa_nil)))))) (pss_one ps_never) pss_nil)), h.body0 fun ds r hF => ?_⟩
  obtain ⟨v, lo, hi, rfl, h0, h1, h2, rfl⟩ := hF
  exact ⟨rfl, _, .ifF (.eq (.not (.val (.call (.cons (.var rfl) (.cons (.var rfl) (.cons (.var rfl) .nil))) ⟨v, lo, hi, rfl, rfl⟩))) (by rw [decide_eq_true h0, decide_eq_true h1, decide_eq_true h2]; rfl)) .next⟩
abbrev nPl : List Str := ["value", "tall", "wide"]
theorem scPl : FnScope nPl ["value", "tall", "wide"] (defScope sPl) := ⟨rfl, rfl, rfl, by decide +kernel, rfl, by decide +kernel, by decide +kernel⟩
theorem ok_pl {f : Addr} {fd : FuncData} (F : Fun K "is_place" "is_place" sPl f fd) (B : Blt mg) (dBet : Dn P w K mg base 3 "is_between" ["value", "low", "high"] (SpG Fbet)) : FnOk P w K mg base CX0 4 f fd ["value", "tall", "wide"] (SpG Fpl) := by
  refine F.ok scPl (fun vs H Q E h => h.len (n := 3) (by rintro ds r ⟨t, w, p, rfl, _⟩; rfl)) (fun cdv A outer s H vs Q E hr h => ?_)
  refine ⟨_, pss_cons (ps_if (pw_or (pt_not (pt_val (pe_callB call_isi (by rfl) B.isi PyProof.Rows.boot_isinstance (pa_cons (pv 0) (pa_cons (pe_bltn (by rfl) B.tuple PyProof.Rows.boot_tuple (v := .ty "tuple") rfl) pa_nil))))) (pw_or1 (pt_cmpR op_ne (pe_callB call_len_seq (by rfl) B.len PySem.boot_len (pa_cons (pv 0) pa_nil)) pe_int (nomark _)))).pt (pss_one (ps_ret pe_bl)) pss_nil)
      (pss_one (ps_ret (pe_and (pe_call dBet.G (hr.mono (by decide)) (by rfl) dBet.m dBet.k dBet.b .nil pass0 (pa_cons (pe_ix ix_tup (pv 0) pe_int (fun _ _ => rfl)) (pa_cons pe_int (pa_cons (pe_op op_sub (pv 1) pe_int) pa_nil)))) (pe_one (pe_call dBet.G (hr.mono (by decide)) (by rfl) dBet.m dBet.k dBet.b .nil pass0 (pa_cons (pe_ix ix_tup (pv 0) pe_int (fun _ _ => rfl)) (pa_cons pe_int (pa_cons (pe_op op_sub (pv 2) pe_int) pa_nil)))))))), h.body fun ds r hF => ?_⟩
  obtain ⟨t, w, p, rfl, h1, h2, rfl⟩ := hF
  have i0 : ∀ {g : List (Option PyData)}, g[0]? = some (some (pD p)) → EvG (tOp (rIxT K) (tVar 0) (tC (.int 0))) g (N p.1) := fun h => .op (.var h) (.int 0) (.ixT (j := 0) rfl)
  have i1 : ∀ {g : List (Option PyData)}, g[0]? = some (some (pD p)) → EvG (tOp (rIxT K) (tVar 0) (tC (.int 1))) g (N p.2) := fun h => .op (.var h) (.int 1) (.ixT (j := 1) rfl)
  refine .seq (.ifF (.eq (.or (a := false) (.eq (.not (.val (.isi (b := true) (.var rfl) kb_tt))) rfl) fun _ => .tst (.op (.lenT (.var rfl)) (.int 2) .neI)) rfl) .next) ?_
  refine .ret (.eq (.andV (.call (.cons (i0 rfl) (.cons (.int 0) (.cons (.op (.var rfl) (.int 1) .sub) .nil))) ⟨_, _, _, rfl, rfl⟩) fun _ => .call (.cons (i1 rfl) (.cons (.int 0) (.cons (.op (.var rfl) (.int 1) .sub) .nil))) ⟨_, _, _, rfl, rfl⟩) ?_)
  rw [decide_eq_true (show (0 : Int) ≤ (p.1 : Int) by omega), decide_eq_true (show (0 : Int) ≤ (p.2 : Int) by omega), decide_eq_true (show (p.1 : Int) ≤ (t : Int) - 1 by omega), decide_eq_true (show (p.2 : Int) ≤ (w : Int) - 1 by omega)]
  rfl
end
end K71

set_option Elab.async false
set_option linter.all false
set_option maxRecDepth 100000
set_option maxHeartbeats 4000000
/-! Boards, and the program's rooks. -/
namespace K71
open PySem L2 GD
/-! ### shapes -/
theorem lay_ns : ∀ ns : List Nat, PyData.canLayAll0 (nsD ns) = true
  | [] => rfl
  | n :: ns => by
    show (PyData.canLay0 (N n) && PyData.canLayAll0 (nsD ns)) = true
    rw [lay_ns ns]
    rfl
theorem dep_ns : ∀ ns : List Nat, PyData.depthAll (nsD ns) = 0
  | [] => rfl
  | n :: ns => by
    show max (PyData.depth (N n)) (PyData.depthAll (nsD ns)) = 0
    rw [dep_ns ns]
    rfl
theorem lay_ps : ∀ ps : List Pl, PyData.canLayAll0 (psD ps) = true
  | [] => rfl
  | p :: ps => by
    show (PyData.canLay0 (pD p) && PyData.canLayAll0 (psD ps)) = true
    rw [lay_ps ps]
    rfl
theorem dep_ps : ∀ ps : List Pl, PyData.depthAll (psD ps) ≤ 1
  | [] => Nat.zero_le _
  | p :: ps => by
    show max (PyData.depth (pD p)) (PyData.depthAll (psD ps)) ≤ 1
    exact Nat.max_le.mpr ⟨Nat.le_refl _, dep_ps ps⟩
theorem nds_ns : ∀ ns : List Nat, nds (nsD ns) = true
  | [] => rfl
  | n :: ns => by
    show (nd (N n) && nds (nsD ns)) = true
    rw [nds_ns ns]
    rfl
theorem nds_ps : ∀ ps : List Pl, nds (psD ps) = true
  | [] => rfl
  | p :: ps => by
    show (nd (pD p) && nds (psD ps)) = true
    rw [nds_ps ps]
    rfl
theorem sh_N (n : Nat) : SeqAt.shaped (N n) = true := by
  unfold SeqAt.shaped
  rfl
theorem sh_pD (p : Pl) : SeqAt.shaped (pD p) = true := by
  unfold SeqAt.shaped
  rfl
theorem sh_ns (ns : List Nat) : SeqAt.shaped (.list (nsD ns)) = true := by
  unfold SeqAt.shaped
  rw [Bool.and_eq_true, decide_eq_true_eq]
  refine ⟨lay_ns ns, ?_⟩
  show PyData.depthAll (nsD ns) + 1 ≤ 64
  rw [dep_ns]
  decide
theorem sh_ps (ps : List Pl) : SeqAt.shaped (.list (psD ps)) = true := by
  unfold SeqAt.shaped
  rw [Bool.and_eq_true, decide_eq_true_eq]
  refine ⟨lay_ps ps, ?_⟩
  show PyData.depthAll (psD ps) + 1 ≤ 64
  have := dep_ps ps
  omega
theorem eqv_N (a b : Nat) : PyData.eqv (N a) (N b) = decide (a = b) := by
  show ((a : Int) == (b : Int)) = _
  by_cases h : a = b
  · subst h
    simp
  · rw [decide_eq_false h]
    simp
    omega
theorem eqv_pD (p q : Pl) : PyData.eqv (pD p) (pD q) = decide (p = q) := by
  show (PyData.eqv (N p.1) (N q.1) && (PyData.eqv (N p.2) (N q.2) && true)) = _
  rw [eqv_N, eqv_N, Bool.and_true, ← Bool.decide_and]
  congr 1
  exact propext ⟨fun h => Prod.ext h.1 h.2, fun h => ⟨congrArg _ h, congrArg _ h⟩⟩
theorem in_ns (ns : List Nat) (c : Nat) : ((nsD ns).any fun z => PyData.eqv z (N c)) = decide (c ∈ ns) := by
  rw [List.any_map]
  have : (fun x => PyData.eqv (N x) (N c)) = fun x => decide (x = c) := funext fun x => eqv_N x c
  show ns.any (fun x => PyData.eqv (N x) (N c)) = _
  rw [this]
  rw [Bool.eq_iff_iff, List.any_eq_true, decide_eq_true_eq]
  simp
theorem in_ps (ps : List Pl) (p : Pl) : ((psD ps).any fun z => PyData.eqv z (pD p)) = decide (p ∈ ps) := by
  show (ps.map pD).any _ = _
  rw [List.any_map]
  have : (fun x => PyData.eqv (pD x) (pD p)) = fun x => decide (x = p) := funext fun x => eqv_pD x p
  show ps.any (fun x => PyData.eqv (pD x) (pD p)) = _
  rw [this]
  rw [Bool.eq_iff_iff, List.any_eq_true, decide_eq_true_eq]
  simp
theorem len_psD (ps : List Pl) : (psD ps).length = ps.length := List.length_map ..
theorem len_nsD (ps : List Nat) : (nsD ps).length = ps.length := List.length_map ..
/-! ### promises -/
def Fpat (ds : List PyData) (r : PyData) : Prop := ∃ (t w : Nat) (ps : List Pl) (pd : PyData), Board t w ps ∧ IsPs pd ps ∧ ds = [pd, N t, N w, .int 1, .int 16] ∧ r = .bool true
def Fwb (ds : List PyData) (r : PyData) : Prop := ∃ (t w : Nat) (ps : List Pl) (pd : PyData), Board t w ps ∧ IsPs pd ps ∧ ds = [N t, N w, pd] ∧ r = .none
def Fmr (n : Nat) (ds : List PyData) (r : PyData) : Prop := ∃ (t row : Nat) (ps taken : List Pl) (pd : PyData), IsPs pd ps ∧ ps.length ≤ 16 ∧ row + n = t ∧ t ≤ 4 ∧ taken.length ≤ row ∧ ds = [pd, N t, .list (psD taken), N row] ∧ r = .list (psD (mostR ps n row taken))
def Frk (ds : List PyData) (r : PyData) : Prop := ∃ (t w : Nat) (ps : List Pl) (pd : PyData), Board t w ps ∧ IsPs pd ps ∧ ds = [N t, N w, pd] ∧ r = .list (psD (mostR ps t 0 []))
section
variable {γ : List (Option PyData)} {K : PySem.W.Frag} {te : TE}
theorem len_ps {ps : List Pl} {pd : PyData} (hp : IsPs pd ps) (h : EvG te γ pd) : EvG (tCB (rLn K) (tCons te tNil)) γ (N ps.length) := by
  rcases hp with rfl | rfl
  · exact .eq (.len h) (by rw [len_psD])
  · exact .eq (.lenT h) (by rw [len_psD])
theorem iter_ps {ps : List Pl} {pd : PyData} (hp : IsPs pd ps) (h : EvG te γ pd) : IterG (fun σ H R => iList K te σ H R ∨ iTup K te σ H R) γ (psD ps) := by
  rcases hp with rfl | rfl
  · exact .orL (.list h)
  · exact .orR (.tuple h)
theorem get_ps {ps : List Pl} {i : Nat} {d : PyData} (h : (psD ps)[i]? = some d) : ∃ p, ps[i]? = some p ∧ d = pD p := by
  have h' : (ps.map pD)[i]? = some d := h
  rw [List.getElem?_map] at h'
  cases hp : ps[i]? with
  | none => rw [hp] at h'; cases h'
  | some p => rw [hp] at h'; cases h'; exact ⟨p, rfl, rfl⟩
theorem get_ns {ns : List Nat} {i : Nat} {d : PyData} (h : (nsD ns)[i]? = some d) : ∃ p, ns[i]? = some p ∧ d = N p := by
  have h' : (ns.map N)[i]? = some d := h
  rw [List.getElem?_map] at h'
  cases hp : ns[i]? with
  | none => rw [hp] at h'; cases h'
  | some p => rw [hp] at h'; cases h'; exact ⟨p, rfl, rfl⟩
end
/-- the order of two places that stand in a tuple -/
def ltD : PyData → Bool
  | .tuple [.tuple [.int a, .int b], .tuple [.int c, .int e]] => HT.lexLt [a, b] [c, e]
  | _ => false
theorem lex_ltP {p q : Pl} (h : ltP p q) : HT.lexLt [(p.1 : Int), (p.2 : Int)] [(q.1 : Int), (q.2 : Int)] = true := by
  rw [HT.lexLt_cons, HT.lexLt_cons, HT.lexLt_nil_nil]
  rcases h with h | ⟨h1, h2⟩
  · rw [if_neg (by omega)]
    exact decide_eq_true (by omega)
  · rw [if_pos (by omega), if_neg (by omega)]
    exact decide_eq_true (by omega)
theorem cut1 (ds : List PyData) : cutD ds (some 1) none = ds.drop 1 := by
  unfold cutD
  have h1 : HT.sIx ds.length 0 (some 1) = min 1 ds.length := by
    unfold HT.sIx
    simp
  have h2 : HT.sIx ds.length ds.length none = ds.length := rfl
  rw [h1, h2]
  cases ds with
  | nil => rfl
  | cons d ds =>
    have : min 1 (d :: ds).length = 1 := by simp
    rw [this]
    simp
theorem rising {ps : List Pl} (h : ps.Pairwise ltP) : (List.zipWith (fun d e => PyData.tuple [d, e]) (psD ps) ((psD ps).drop 1)).all ltD = true := by
  induction ps with
  | nil => rfl
  | cons p ps ih =>
    cases ps with
    | nil => rfl
    | cons q ps =>
      have hp := List.pairwise_cons.mp h
      have ih := ih hp.2
      show (ltD (.tuple [pD p, pD q]) && _) = true
      rw [Bool.and_eq_true]
      exact ⟨lex_ltP (hp.1 q (.head _)), ih⟩
section
variable {P : Program} {w : World} {K : PySem.W.Frag} {mg : Str → Option Value} {base : Heap}
abbrev nPat : List Str := ["value", "tall", "wide", "low", "high", "place", "later"]
theorem scPat : FnScope nPat ["value", "tall", "wide", "low", "high"] (defScope sPat) := ⟨rfl, rfl, rfl, by decide +kernel, rfl, by decide +kernel, by decide +kernel⟩
theorem ok_pat {f : Addr} {fd : FuncData} (F : Fun K "are_places" "are_places" sPat f fd) (B : Blt mg) (dList : Dn P w K mg base 1 "is_list" ["value"] (SpG FisList)) (dPl : Dn P w K mg base 4 "is_place" ["value", "tall", "wide"] (SpG Fpl)) : FnOk P w K mg base CX0 5 f fd ["value", "tall", "wide", "low", "high"] (SpG Fpat) := by
  refine F.ok scPat (fun vs H Q E h => h.len (n := 5) (by rintro ds r ⟨t, w, ps, pd, _, _, rfl, _⟩; rfl)) (fun cdv A outer s H vs Q E hr h => ?_)
  have hu0 := hr.units0
  refine ⟨_, pss_cons (ps_if (pw_or (pt_not (pt_val (pe_call dList.G (hr.mono (by decide)) (by rfl) dList.m dList.k dList.b .nil pass0 (pa_cons (pv 0) pa_nil)))) (pw_or1 (pt_not (pt_chain op_le op_le (pv 3) (pe_callB call_len_seq (by rfl) B.len PySem.boot_len (pa_cons (pv 0) pa_nil)) (pv 4))))).pt (pss_one (ps_ret pe_bl)) pss_nil)
      (pss_cons (ps_if (pt_not (pt_val (pe_callB (cr_all rfl) (by rfl) B.all PyProof.Rows.boot_all (pa_cons (pe_lc (own := [("place", 5)]) (g := gName 5) (tt := tYes) (te := (tCall (SpG Fpl) [] E0 (tCons (tVar 5) (tCons (tVar 1) (tCons (tVar 2) tNil))))) rfl scPat.nd (PI.or (pi_list (pv 0)) (pi_tup (pv 0))) (blkOk_by (own := [("place", 5)]) (N := nPat) (sc := defScope sPat) (by decide +kernel)) (fun _ _ _ _ _ => (pg_name (i := 5) scPat.nd rfl (Or.inl rfl))) (fun _ _ _ _ _ => pts_nil) (fun _ _ _ _ _ => (pe_call dPl.G (hr.mono (by decide)) (by rfl) dPl.m dPl.k dPl.b .nil pass0 (pa_cons (pv 5) (pa_cons (pv 1) (pa_cons (pv 2) pa_nil)))))) pa_nil)))) (pss_one (ps_ret pe_bl)) pss_nil)
      (pss_one (ps_ret (pe_callB (cr_all rfl) (by rfl) B.all PyProof.Rows.boot_all (pa_cons (pe_lc (own := [("place", 5), ("later", 6)]) (g := gTup K 2 (gCons (gName 5) (gCons (gName 6) gNil))) (tt := tYes) (te := (tOp (rLtT K) (tVar 5) (tVar 6))) rfl scPat.nd (RZ.pi_zipA (by rfl) B.zip (pa_cons (pv 0) (pa_cons (PE.or (pe_slice sl_list (pv 0) (po_some pe_int) po_none) (pe_slice sl_tupA (pv 0) (po_some pe_int) po_none)) pa_nil))) (blkOk_by (own := [("place", 5), ("later", 6)]) (N := nPat) (sc := defScope sPat) (by decide +kernel)) (fun _ _ _ _ _ => (pg_tup rfl (pgs_cons (pg_name (i := 5) scPat.nd rfl (Or.inl rfl)) (pgs_cons (pg_name (i := 6) scPat.nd rfl (Or.inl rfl)) pgs_nil)))) (fun _ _ _ _ _ => pts_nil) (fun _ _ _ _ _ => (pe_cmpR (op_ltT hu0) (pv 5) (pv 6) (nomark _)))) pa_nil))))), h.body fun ds r hF => ?_⟩
  obtain ⟨t, w, ps, pd, hb, hp, rfl, rfl⟩ := hF
  have hn := hb.n1
  have hn2 := hb.n16
  refine .seq (.ifF (.eq (.or (a := false) (.eq (.not (.val (b := true) (.call (.cons (.var rfl) .nil) (by rcases hp with rfl | rfl; exact ⟨_, .inl rfl, rfl⟩; exact ⟨_, .inr rfl, rfl⟩)))) rfl) fun _ => .not (.tst (.chain (.var rfl) (len_ps hp (.var rfl)) (.var rfl) .le .le))) ?_) .next) (.seq (.ifF (.eq (.not (.val (.allLc (fun _ => true) (iter_ps hp (.var rfl)) (by rw [len_psD]; omega) fun i d hd => ?_))) (by rw [List.all_eq_true.mpr fun _ _ => rfl]; rfl)) .next) (.ret (.eq (.allLc ltD (?_ : IterG _ _ (List.zipWith (fun d e => PyData.tuple [d, e]) (psD ps) ((psD ps).drop 1))) ?_ fun i d hd => ?_) (by rw [rising hb.srt]))))
  · rw [decide_eq_true (show (1 : Int) ≤ ((ps.length : Nat) : Int) by omega), decide_eq_true (show ((ps.length : Nat) : Int) ≤ 16 by omega)]
    rfl
  · obtain ⟨p, hp', rfl⟩ := get_ps hd
    have hi := hb.inn p (List.mem_of_getElem? hp')
    exact ⟨_, _, .name, fun j h => h, .call (.cons (.var rfl) (.cons (.var rfl) (.cons (.var rfl) .nil))) ⟨t, w, p, rfl, hi.1, hi.2, rfl⟩⟩
  · rcases hp with rfl | rfl
    · exact .zip (.cons (.var rfl) (.cons (.orL (.eq (.slice (.var rfl) (.some (.int 1)) .none) (by rw [cut1]))) .nil))
    · exact .zipT (.cons (.var rfl) (.cons (.orR (.eq (.sliceT (.var rfl) (.some (.int 1)) .none) (by rw [cut1]))) .nil))
  · rw [List.length_zipWith, len_psD]
    omega
  · rw [getZip] at hd
    cases h1 : (psD ps)[i]? with
    | none => rw [h1] at hd; cases hd
    | some a =>
      cases h2 : ((psD ps).drop 1)[i]? with
      | none => rw [h1, h2] at hd; cases hd
      | some b =>
        rw [h1, h2] at hd
        cases hd
        obtain ⟨p, _, rfl⟩ := get_ps h1
        rw [List.getElem?_drop] at h2
        obtain ⟨q, _, rfl⟩ := get_ps h2
        exact ⟨_, _, .two, fun j h => h, .op (.var rfl) (.var rfl) .ltT⟩
abbrev nWb : List Str := ["tall", "wide", "places"]
theorem scWb : FnScope nWb ["tall", "wide", "places"] (defScope sWb) := ⟨rfl, rfl, rfl, by decide +kernel, rfl, by decide +kernel, by decide +kernel⟩
theorem ok_wb {f : Addr} {fd : FuncData} {k4 k16 : Tok} (F : Fun K "_want_board" "_want_board" sWb f fd) (B : Blt mg) (m4 : mg "MOST" = some (.int 4 k4)) (m16 : mg "MOST_PLACES" = some (.int 16 k16)) (dWm : Dn P w K mg base 4 "want_many" ["value", "low", "high"] (SpG Fwm)) (dPat : Dn P w K mg base 5 "are_places" ["value", "tall", "wide", "low", "high"] (SpG Fpat)) : FnOk P w K mg base CX0 6 f fd ["tall", "wide", "places"] (SpG Fwb) := by
  refine F.ok scWb (fun vs H Q E h => h.len (n := 3) (by rintro ds r ⟨t, w, ps, pd, _, _, rfl, _⟩; rfl)) (fun cdv A outer s H vs Q E hr h => ?_)
  refine ⟨_, PSs.nox (pss_cons (ps_expr (pe_call dWm.G (hr.mono (by decide)) (by rfl) dWm.m dWm.k dWm.b .nil pass0 (pa_cons (pv 0) (pa_cons pe_int (pa_cons (pe_glob (by rfl) m4 (v := .int 4) ⟨_, rfl⟩) pa_nil)))))
      (pss_cons (ps_expr (pe_call dWm.G (hr.mono (by decide)) (by rfl) dWm.m dWm.k dWm.b .nil pass0 (pa_cons (pv 1) (pa_cons pe_int (pa_cons (pe_glob (by rfl) m4 (v := .int 4) ⟨_, rfl⟩) pa_nil)))))
      (pss_one (ps_if (pt_not (pt_val (pe_call dPat.G (hr.mono (by decide)) (by rfl) dPat.m dPat.k dPat.b .nil pass0 (pa_cons (pv 2) (pa_cons (pv 0) (pa_cons (pv 1) (pa_cons pe_int (pa_cons (pe_glob (by rfl) m16 (v := .int 16) ⟨_, rfl⟩) pa_nil)))))))) (pss_one ps_never) pss_nil)))), h.body0 fun ds r hF => ?_⟩
  obtain ⟨t, w, ps, pd, hb, hp, rfl, rfl⟩ := hF
  have := hb.t1
  have := hb.t4
  have := hb.w1
  have := hb.w4
  exact ⟨rfl, _, .seq (.drop (.call (.cons (.var rfl) (.cons (.int 1) (.cons (.int 4) .nil))) ⟨_, _, _, rfl, by omega, by omega, by omega, rfl⟩)) (.seq (.drop (.call (.cons (.var rfl) (.cons (.int 1) (.cons (.int 4) .nil))) ⟨_, _, _, rfl, by omega, by omega, by omega, rfl⟩))
    (.ifF (.eq (.not (.val (b := true) (.call (.cons (.var rfl) (.cons (.var rfl) (.cons (.var rfl) (.cons (.int 1) (.cons (.int 16) .nil))))) ⟨t, w, ps, pd, hb, hp, rfl, rfl⟩))) rfl) .next))⟩
end
end K71

set_option Elab.async false
set_option linter.all false
set_option maxRecDepth 100000
set_option maxHeartbeats 4000000
/-! The program's rooks, its lots. -/
namespace K71
open PySem L2 GD
/-- one place more is looked at -/
def stepR (ps : List Pl) (n row : Nat) (taken : List Pl) (found : List Pl) (p : Pl) : List Pl := if p.1 = row ∧ p.2 ∉ taken.map (·.2) then (if (mostR ps n (row + 1) (taken ++ [p])).length > found.length then mostR ps n (row + 1) (taken ++ [p]) else found) else found
theorem mostR_succ (ps : List Pl) (n row : Nat) (taken : List Pl) : mostR ps (n + 1) row taken = ps.foldl (stepR ps n row taken) (mostR ps n (row + 1) taken) := by
  rw [mostR]
  rfl
theorem fold_take {α β : Type} (g : β → α → β) (b : β) {xs : List α} {i : Nat} {x : α} (h : xs[i]? = some x) : (xs.take (i + 1)).foldl g b = g ((xs.take i).foldl g b) x := by
  rw [List.take_succ, h, List.foldl_append]
  rfl
section
variable {P : Program} {w : World} {K : PySem.W.Frag} {mg : Str → Option Value} {base : Heap}
abbrev nMr : List Str := ["places", "tall", "taken", "row", "found", "columns", "place", "other", "_", "column"]
theorem scMr : FnScope nMr ["places", "tall", "taken", "row"] (defScope sMr) := ⟨rfl, rfl, rfl, by decide +kernel, rfl, by decide +kernel, by decide +kernel⟩
theorem ok_mr {f : Addr} {fd : FuncData} (F : Fun K "_most_rooks" "_most_rooks" sMr f fd) (B : Blt mg) (m : mg "_most_rooks" = some (.ref f)) (k : PySem.W.keepIn K (.ref f) = true) (b : Binds K fd ["places", "tall", "taken", "row"] []) : ∀ n, FnOk P w K mg base CX0 (n + 1) f fd ["places", "tall", "taken", "row"] (SpG (Fmr n))
  | 0 => by
    refine F.ok scMr (fun vs H Q E h => h.len (n := 4) (by rintro ds r ⟨t, row, ps, taken, pd, _, _, _, _, _, rfl, _⟩; rfl)) (fun cdv A outer s H vs Q E hr h => ?_)
    refine ⟨_, PSs.nox (pss_cons (ps_if (pt_cmpR op_eq (pv 3) (pv 1) (nomark _)) (pss_one (ps_ret (pv 2))) pss_nil) pss_never), h.body fun ds r hF => ?_⟩
    obtain ⟨t, row, ps, taken, pd, hp, hl, ht, t4, hk, rfl, rfl⟩ := hF
    exact .seq_rt (.ifT (.eq (.tst (.op (.var rfl) (.var rfl) .eqI)) (decide_eq_true (by omega))) (.ret (.var rfl)))
  | n + 1 => by
    refine F.ok scMr (fun vs H Q E h => h.len (n := 4) (by rintro ds r ⟨t, row, ps, taken, pd, _, _, _, _, _, rfl, _⟩; rfl)) (fun cdv A outer s H vs Q E hr h => ?_)
    have hu65 := u65 hr
    let dMr : Dn P w K mg base (n + 1) "_most_rooks" ["places", "tall", "taken", "row"] (SpG (Fmr n)) := ⟨f, fd, ok_mr F B m k b n, m, k, b⟩
    refine ⟨_, pss_cons (ps_if (pt_cmpR op_eq (pv 3) (pv 1) (nomark _)) (pss_one (ps_ret (pv 2))) pss_nil)
      (pss_cons (ps_set (i := 4) scMr.nd rfl (Or.inl rfl) (pe_call dMr.G hr (by rfl) dMr.m dMr.k dMr.b .nil pass0 (pa_cons (pv 0) (pa_cons (pv 1) (pa_cons (pv 2) (pa_cons (pe_op op_add (pv 3) pe_int) pa_nil))))))
      (pss_cons (ps_setLc (own := [("_", 8), ("column", 9)]) (g := gTup K 2 (gCons (gName 8) (gCons (gName 9) gNil))) (tt := tYes) (te := (tVar 9)) rfl scMr.nd (i := 5) rfl rfl (by rfl) (pi_list (pv 2)) (blkOk_by (own := [("_", 8), ("column", 9)]) (N := nMr) (sc := defScope sMr) (by decide +kernel)) (fun _ _ _ _ _ => (pg_tup rfl (pgs_cons (pg_name (i := 8) scMr.nd rfl (Or.inl rfl)) (pgs_cons (pg_name (i := 9) scMr.nd rfl (Or.inl rfl)) pgs_nil)))) (fun _ _ _ _ _ => pts_nil) (fun _ _ _ _ _ => (pv 9)))
      (pss_cons (ps_for PassesOwn.never rfl (PI.or (pi_list (pv 0)) (pi_tup (pv 0))) (pg_name (i := 6) scMr.nd rfl (Or.inl rfl)) (pss_one (ps_if (pw_and (pt_cmpR op_eq (pe_ix ix_tup (pv 6) pe_int (fun _ _ => rfl)) (pv 3) (nomark _)) (pw_and1 (pt_cmpR (op_notInD hu65) (pe_ix ix_tup (pv 6) pe_int (fun _ _ => rfl)) (pv 5) (by rfl)))).pt (pss_cons (ps_set (i := 7) scMr.nd rfl (Or.inl rfl) (pe_call dMr.G hr (by rfl) dMr.m dMr.k dMr.b .nil pass0 (pa_cons (pv 0) (pa_cons (pv 1) (pa_cons (pe_lst (StX.pa_star (pv 2) (pa_cons (pv 6) pa_nil))) (pa_cons (pe_op op_add (pv 3) pe_int) pa_nil))))))
      (pss_one (ps_set (i := 4) scMr.nd rfl (Or.inl rfl) (pe_ifExp (pt_cmpR op_gt (pe_callB call_len_seq (by rfl) B.len PySem.boot_len (pa_cons (pv 7) pa_nil)) (pe_callB call_len_seq (by rfl) B.len PySem.boot_len (pa_cons (pv 4) pa_nil)) (nomark _)) (pv 7) (pv 4))))) pss_nil)))
      (pss_one (ps_ret (pv 4)))))), h.body fun ds r hF => ?_⟩
    obtain ⟨t, row, ps, taken, pd, hp, hl, ht, t4, hk, rfl, rfl⟩ := hF
    have e1 : ((row : Int) + 1) = ((row + 1 : Nat) : Int) := by omega
    refine .seq (.ifF (.eq (.tst (.op (.var rfl) (.var rfl) .eqI)) (decide_eq_false (by omega))) .next) ?_
    refine .seq (.set (.call (.cons (.var rfl) (.cons (.var rfl) (.cons (.var rfl) (.cons (.eq (.op (.var rfl) (.int 1) .add) (by rw [e1])) .nil)))) ⟨t, row + 1, ps, taken, pd, hp, hl, by omega, t4, by omega, rfl, rfl⟩)) ?_
    refine .seq (.set (.eq (.map (fun d => match d with | .tuple [_, c] => c | _ => .none) (.list (.var rfl)) (by rw [len_psD]; omega) fun i d hd => ?_) (?_ : _ = .list (nsD (taken.map (·.2)))))) ?_
    · obtain ⟨p, _, rfl⟩ := get_ps hd
      exact ⟨_, _, .two, fun j h => h, .var rfl⟩
    · show PyData.list ((taken.map pD).map _) = .list ((taken.map (·.2)).map N)
      rw [List.map_map, List.map_map]
      rfl
    refine .seq (.for_ (iter_ps hp (.var rfl)) (fun i => [some pd, some (N t), some (.list (psD taken)), some (N row), some (.list (psD ((ps.take i).foldl (stepR ps n row taken) (mostR ps n (row + 1) taken)))), some (.list (nsD (taken.map (·.2)))), none, none, none, none]) (.k (.k (.k (.k (.k (.k (.f (.f (.f (.f .nil)))))))))) fun i d hd => ?_) (.ret (.eq (.var rfl) ?_))
    · obtain ⟨p, hp', rfl⟩ := get_ps hd
      rw [fold_take _ _ hp']
      generalize (ps.take i).foldl (stepR ps n row taken) (mostR ps n (row + 1) taken) = found
      have i0 : ∀ {g : List (Option PyData)}, g[6]? = some (some (pD p)) → EvG (tOp (rIxT K) (tVar 6) (tC (.int 0))) g (N p.1) := fun h => .op (.var h) (.int 0) (.ixT (j := 0) rfl)
      have i1 : ∀ {g : List (Option PyData)}, g[6]? = some (some (pD p)) → EvG (tOp (rIxT K) (tVar 6) (tC (.int 1))) g (N p.2) := fun h => .op (.var h) (.int 1) (.ixT (j := 1) rfl)
      refine ⟨_, _, .name, .inl ?_⟩
      have test : ∀ {g : List (Option PyData)}, g[6]? = some (some (pD p)) → g[3]? = some (some (N row)) → g[5]? = some (some (.list (nsD (taken.map (·.2))))) → EvB (tAnd (tTest (tOp rEq (tOp (rIxT K) (tVar 6) (tC (.int 0))) (tVar 3))) (tTest (tOp (rNotInD K) (tOp (rIxT K) (tVar 6) (tC (.int 1))) (tVar 5)))) g (decide (p.1 = row ∧ p.2 ∉ taken.map (·.2))) := fun h6 h3 h5 =>
        .eq (.and (.tst (.op (i0 h6) (.var h3) .eqI)) fun _ => .tst (.op (i1 h6) (.var h5) (.notInD rfl (nds_ns _) (sh_N _) (sh_ns _)))) (by
          rw [in_ns, Bool.decide_and]
          congr 1
          · exact decide_eq_decide.mpr ⟨fun h => by omega, fun h => by omega⟩
          · rw [decide_not])
      by_cases hc : p.1 = row ∧ p.2 ∉ taken.map (·.2)
      · refine .ifT (.eq (test rfl rfl rfl) (decide_eq_true hc)) ?_
        have hlen : (taken ++ [p]).length ≤ row + 1 := by rw [List.length_append]; show _ + 1 ≤ _; omega
        have ht' : EvA (StX.tStar K (tVar 2) (tCons (tVar 6) tNil)) [some pd, some (N t), some (.list (psD taken)), some (N row), some (.list (psD found)), some (.list (nsD (taken.map (·.2)))), some (pD p), none, none, none] (psD (taken ++ [p])) := by
          have := EvA.star (K := K) (γ := [some pd, some (N t), some (.list (psD taken)), some (N row), some (.list (psD found)), some (.list (nsD (taken.map (·.2)))), some (pD p), none, none, none]) (te := tVar 2) (xs := psD taken) (.var rfl) (.cons (.var rfl) .nil : EvA (tCons (tVar 6) tNil) _ [pD p])
          rw [show psD (taken ++ [p]) = psD taken ++ [pD p] from List.map_append ..]
          exact this
        refine .seq (.set (.call (.cons (.var rfl) (.cons (.var rfl) (.cons (.lst ht' (by rw [len_psD]; exact Nat.le_trans hlen (Nat.le_trans (by omega : row + 1 ≤ 5) (by decide)))) (.cons (.eq (.op (.var rfl) (.int 1) .add) (by rw [e1])) .nil)))) ⟨t, row + 1, ps, taken ++ [p], pd, hp, hl, by omega, t4, hlen, rfl, rfl⟩)) ?_
        refine .less (.set (.ite (.tst (.op (.len (.var rfl)) (.len (.var rfl)) .gt)) (fun _ => .var rfl) fun _ => .var rfl)) ?_
        unfold stepR
        rw [if_pos hc, len_psD, len_psD]
        by_cases hg : (mostR ps n (row + 1) (taken ++ [p])).length > found.length
        · rw [if_pos hg, if_pos (decide_eq_true (by omega))]
          exact .k (.k (.k (.k (.k (.k (.f (.f (.f (.f .nil)))))))))
        · rw [if_neg hg, if_neg (by rw [decide_eq_true_eq]; omega)]
          exact .k (.k (.k (.k (.k (.k (.f (.f (.f (.f .nil)))))))))
      · refine .less (.ifF (.eq (test rfl rfl rfl) (decide_eq_false hc)) .next) ?_
        unfold stepR
        rw [if_neg hc]
        exact .k (.k (.k (.k (.k (.k (.f (.f (.f (.f .nil)))))))))
    · show PyData.list (psD ((ps.take (psD ps).length).foldl _ _)) = _
      rw [len_psD, List.take_length, mostR_succ]
abbrev Fmr4 (ds : List PyData) (r : PyData) : Prop := ∃ n, n ≤ 4 ∧ Fmr n ds r
abbrev nRk : List Str := ["tall", "wide", "places"]
theorem scRk : FnScope nRk ["tall", "wide", "places"] (defScope sRk) := ⟨rfl, rfl, rfl, by decide +kernel, rfl, by decide +kernel, by decide +kernel⟩
theorem ok_rk {f : Addr} {fd : FuncData} (F : Fun K "rooks" "rooks" sRk f fd) (B : Blt mg) (dWb : Dn P w K mg base 6 "_want_board" ["tall", "wide", "places"] (SpG Fwb)) (dMr : Dn P w K mg base 5 "_most_rooks" ["places", "tall", "taken", "row"] (SpG Fmr4)) : FnOk P w K mg base CX0 7 f fd ["tall", "wide", "places"] (SpG Frk) := by
  refine F.ok scRk (fun vs H Q E h => h.len (n := 3) (by rintro ds r ⟨t, w, ps, pd, _, _, rfl, _⟩; rfl)) (fun cdv A outer s H vs Q E hr h => ?_)
  refine ⟨_, pss_cons (ps_expr (pe_call dWb.G (hr.mono (by decide)) (by rfl) dWb.m dWb.k dWb.b .nil pass0 (pa_cons (pv 0) (pa_cons (pv 1) (pa_cons (pv 2) pa_nil)))))
      (pss_one (ps_ret (pe_call dMr.G (hr.mono (by decide)) (by rfl) dMr.m dMr.k dMr.b .nil pass0 (pa_cons (pv 2) (pa_cons (pv 0) (pa_cons (pe_lst pa_nil) (pa_cons pe_int pa_nil))))))), h.body fun ds r hF => ?_⟩
  obtain ⟨t, w, ps, pd, hb, hp, rfl, rfl⟩ := hF
  have t4 := hb.t4
  exact .seq (.drop (.call (.cons (.var rfl) (.cons (.var rfl) (.cons (.var rfl) .nil))) ⟨t, w, ps, pd, hb, hp, rfl, rfl⟩)) (.ret (.call (.cons (.var rfl) (.cons (.var rfl) (.cons (.lst .nil (by decide)) (.cons (.int 0) .nil)))) ⟨t, t4, t, 0, ps, [], pd, hp, hb.n16, by omega, t4, Nat.le_refl _, rfl, rfl⟩))
/-! ### lots -/
theorem lots_len : ∀ n, (lots n).length = 2 ^ n
  | 0 => rfl
  | n + 1 => by
    rw [lots, List.length_append, List.length_map, lots_len n, Nat.pow_succ]
    omega
theorem lots_le : ∀ n, ∀ l ∈ lots n, l.length ≤ n
  | 0, l, h => by
    rw [List.mem_singleton.mp h]
    exact Nat.le_refl _
  | n + 1, l, h => by
    rw [lots, List.mem_append, List.mem_map] at h
    rcases h with h | ⟨m, h, rfl⟩
    · exact Nat.le_succ_of_le (lots_le n l h)
    · rw [List.length_append]
      exact Nat.succ_le_succ (lots_le n m h)
abbrev lsD (ls : List (List Nat)) : List PyData := ls.map fun l => .list (nsD l)
def Flo (ds : List PyData) (r : PyData) : Prop := ∃ n : Nat, n ≤ 4 ∧ ds = [N n] ∧ r = .list (lsD (lots n))
abbrev nLo : List Str := ["many", "found", "count", "lot"]
theorem scLo : FnScope nLo ["many"] (defScope sLo) := ⟨rfl, rfl, rfl, by decide +kernel, rfl, by decide +kernel, by decide +kernel⟩
theorem ok_lo {f : Addr} {fd : FuncData} (F : Fun K "_lots" "_lots" sLo f fd) (B : Blt mg) : FnOk P w K mg base CX0 1 f fd ["many"] (SpG Flo) := by
  refine F.ok scLo (fun vs H Q E h => h.len (n := 1) (by rintro ds r ⟨n, _, rfl, _⟩; rfl)) (fun cdv A outer s H vs Q E hr h => ?_)
  refine ⟨_, pss_cons (ps_set (i := 1) scLo.nd rfl (Or.inl rfl) (pe_lst (pa_cons (pe_lst pa_nil) pa_nil)))
      (pss_cons (ps_for PassesOwn.never rfl (pi_range1 (by rfl) B.range (pa_cons (pv 0) pa_nil)) (pg_name (i := 2) scLo.nd rfl (Or.inr rfl)) (pss_one (ps_set (i := 1) scLo.nd rfl (Or.inl rfl) (pe_op op_cat (pv 1) (pe_lc (own := [("lot", 3)]) (g := gName 3) (tt := tYes) (te := (tLst (StX.tStar K (tVar 3) (tCons (tVar 2) tNil)))) rfl scLo.nd (pi_list (pv 1)) (blkOk_by (own := [("lot", 3)]) (N := nLo) (sc := defScope sLo) (by decide +kernel)) (fun _ _ _ _ _ => (pg_name (i := 3) scLo.nd rfl (Or.inl rfl))) (fun _ _ _ _ _ => pts_nil) (fun _ _ _ _ _ => (pe_lst (StX.pa_star (pv 3) (pa_cons (pv 2) pa_nil)))))))))
      (pss_one (ps_ret (pv 1)))), h.body fun ds r hF => ?_⟩
  obtain ⟨n, n4, rfl, rfl⟩ := hF
  refine .seq (.set (.lst (.cons (.lst .nil (by decide)) .nil) (by show 1 ≤ sizeLine; decide))) (.seq (.for_ (.range (.cons (.var rfl) .nil) (by omega)) (fun i => [some (N n), some (.list (lsD (lots i))), none, none]) (.k (.k (.f (.f .nil)))) fun i d hd => ?_) (.ret (.eq (.var rfl) (by rw [show (rngD 0 n).length = n by simp [rngD]]))))
  have hi : i < n := by
    have := (List.getElem?_eq_some_iff.mp hd).1
    simpa [rngD] using this
  have hd' : d = N i := by
    have : (rngD 0 n)[i]? = some (N i) := by simp [rngD, hi]
    rw [this] at hd
    exact (Option.some.inj hd).symm
  subst hd'
  have hl : (lots i).length ≤ 16 := by
    rw [lots_len]
    exact Nat.pow_le_pow_right (by decide) (by omega : i ≤ 4)
  refine ⟨_, _, .name, .inl (.less (.set (.op (.var rfl) (.map (fun d => match d with | .list xs => .list (xs ++ [N i]) | _ => .none) (.list (.var rfl)) (by rw [List.length_map]; omega) fun j d hd => ?_) (.cat (by rw [List.length_map, List.length_map, List.length_map]; exact Nat.le_trans (by omega : _ ≤ 32) (by decide))))) ?_)⟩
  · have h' : ((lots i).map fun l => PyData.list (nsD l))[j]? = some d := hd
    rw [List.getElem?_map] at h'
    cases hp : (lots i)[j]? with
    | none => rw [hp] at h'; cases h'
    | some l =>
      rw [hp] at h'
      cases h'
      have hll := lots_le i l (List.mem_of_getElem? hp)
      refine ⟨_, _, .name, fun j h => h, .lst (.star (.var rfl) (.cons (.var rfl) .nil)) ?_⟩
      rw [List.length_append, len_nsD]
      exact Nat.le_trans (by show l.length + 1 ≤ 5; omega) (by decide)
  · have e : lsD (lots (i + 1)) = lsD (lots i) ++ (lsD (lots i)).map (fun d => match d with | .list xs => .list (xs ++ [N i]) | _ => .none) := by
      show (lots (i + 1)).map _ = (lots i).map _ ++ ((lots i).map _).map _
      rw [lots, List.map_append, List.map_map, List.map_map]
      congr 1
      refine List.map_congr_left fun l _ => ?_
      show PyData.list ((l ++ [i]).map N) = .list (l.map N ++ [N i])
      rw [List.map_append]
      rfl
    rw [e]
    exact .k (.k (.f (.f .nil)))
def Fcs (ds : List PyData) (r : PyData) : Prop := ∃ xs ys : List PyData, ds = [.tuple [.list xs, .list ys]] ∧ r = .int ((xs.length : Nat) + (ys.length : Nat))
abbrev nCs : List Str := ["value"]
theorem scCs : FnScope nCs ["value"] (defScope sCs) := ⟨rfl, rfl, rfl, by decide +kernel, rfl, by decide +kernel, by decide +kernel⟩
theorem ok_cs {f : Addr} {fd : FuncData} (F : Fun K "_cover_size" "_cover_size" sCs f fd) (B : Blt mg) : FnOk P w K mg base CX0 1 f fd ["value"] (SpG Fcs) := by
  refine F.ok scCs (fun vs H Q E h => h.len (n := 1) (by rintro ds r ⟨xs, ys, rfl, _⟩; rfl)) (fun cdv A outer s H vs Q E hr h => ?_)
  refine ⟨_, pss_one (ps_ret (pe_op op_add (pe_callB call_len_seq (by rfl) B.len PySem.boot_len (pa_cons (pe_ix ix_tup (pv 0) pe_int (fun _ _ => rfl)) pa_nil)) (pe_callB call_len_seq (by rfl) B.len PySem.boot_len (pa_cons (pe_ix ix_tup (pv 0) pe_int (fun _ _ => rfl)) pa_nil)))), h.body fun ds r hF => ?_⟩
  obtain ⟨xs, ys, rfl, rfl⟩ := hF
  exact .ret (.op (.len (.op (.var rfl) (.int 0) (.ixT (j := 0) rfl))) (.len (.op (.var rfl) (.int 1) (.ixT (j := 1) rfl))) .add)
end
end K71

set_option Elab.async false
set_option linter.all false
set_option maxRecDepth 100000
set_option maxHeartbeats 4000000
/-! The program's judge of rooks, its covers, its judge of covers. -/
namespace K71
open PySem L2 GD
/-! ### whole numbers in lists -/
abbrev toI (ns : List Nat) : List Int := ns.map fun (n : Nat) => (n : Int)
theorem ns_ints (ns : List Nat) : nsD ns = (toI ns).map PyData.int := by
  rw [List.map_map]
  rfl
theorem nodup_int {ns : List Nat} (h : ns.Nodup) : (toI ns).Nodup := List.Pairwise.map _ (fun a b hab z => hab (by omega)) h
theorem srt_int {ns : List Nat} (h : ns.Pairwise (· < ·)) : (toI ns).Pairwise (· < ·) := List.Pairwise.map _ (fun a b hab => by omega) h
theorem srt_uniq : ∀ {xs ys : List Int}, xs.Pairwise (· < ·) → ys.Pairwise (· < ·) → (∀ k, k ∈ xs ↔ k ∈ ys) → xs = ys
  | [], [], _, _, _ => rfl
  | [], y :: ys, _, _, h => by
    have := (h y).mpr (.head _)
    cases this
  | x :: xs, [], _, _, h => by
    have := (h x).mp (.head _)
    cases this
  | x :: xs, y :: ys, hx, hy, h => by
    have hx' := List.pairwise_cons.mp hx
    have hy' := List.pairwise_cons.mp hy
    have e : x = y := by
      have a := (h x).mp (.head _)
      have b := (h y).mpr (.head _)
      rcases List.mem_cons.mp a with a | a
      · exact a
      · rcases List.mem_cons.mp b with b | b
        · exact b.symm
        · have := hx'.1 y b
          have := hy'.1 x a
          omega
    subst e
    rw [srt_uniq hx'.2 hy'.2 fun k => ?_]
    constructor
    · intro hk
      have h1 := hx'.1 k hk
      rcases List.mem_cons.mp ((h k).mp (.tail _ hk)) with e | m
      · omega
      · exact m
    · intro hk
      have h1 := hy'.1 k hk
      rcases List.mem_cons.mp ((h k).mpr (.tail _ hk)) with e | m
      · omega
      · exact m
section
variable {γ : List (Option PyData)} {K : PySem.W.Frag} {te : TE}
theorem len_set {ns : List Nat} (h : EvG te γ (.list (nsD ns))) (hl : ns.length ≤ 4000) (nd : ns.Nodup) : EvG (RZ.tLenSetI K te) γ (N ns.length) := by
  rw [ns_ints] at h
  exact .eq (.lenSet h (by rw [List.length_map]; exact hl) (nodup_int nd)) (by rw [List.length_map])
theorem sorted_set {ns ms : List Nat} (h : EvG te γ (.list (nsD ns))) (hl : ns.length < 60) (hs : ms.Pairwise (· < ·)) (hm : ∀ k, k ∈ ms ↔ k ∈ ns) : EvG (GS.tSortedSet K te) γ (.list (nsD ms)) := by
  rw [ns_ints] at h
  rw [ns_ints ms]
  refine .sortedSet h (by rw [List.length_map]; exact hl) fun l hp hk => srt_uniq hp (srt_int hs) fun k => (hk k).trans ?_
  rw [List.mem_map, List.mem_map]
  exact ⟨fun ⟨a, b, c⟩ => ⟨a, (hm a).mpr b, c⟩, fun ⟨a, b, c⟩ => ⟨a, (hm a).mp b, c⟩⟩
end
def fstD : PyData → PyData
  | .tuple [a, _] => a
  | _ => .none
def sndD : PyData → PyData
  | .tuple [_, a] => a
  | _ => .none
theorem map_fst (ps : List Pl) : (psD ps).map fstD = nsD (ps.map (·.1)) := by
  show (ps.map pD).map fstD = (ps.map (·.1)).map N
  rw [List.map_map, List.map_map]
  rfl
theorem map_snd (ps : List Pl) : (psD ps).map sndD = nsD (ps.map (·.2)) := by
  show (ps.map pD).map sndD = (ps.map (·.2)).map N
  rw [List.map_map, List.map_map]
  rfl
/-! ### promises -/
def Fir (ds : List PyData) (r : PyData) : Prop := ∃ (t w : Nat) (ps vs : List Pl), Board t w ps ∧ Spare ps vs ∧ vs.length ≤ 16 ∧ ds = [N t, N w, .list (psD ps), .list (psD vs)] ∧ r = .bool (decide (vs.length = (mostR ps t 0 []).length))
def Fun' (ds : List PyData) (r : PyData) : Prop := ∃ (ns : List Nat) (m : Nat), ns.Nodup ∧ (∀ x ∈ ns, x < m) ∧ ns.length ≤ 16 ∧ ds = [.list (nsD ns), N m] ∧ r = .bool true
def cvD (ps : List Pl) (rows : List Nat) : PyData := .tuple [.list (nsD rows), .list (nsD (colsOf ps rows))]
def Fcv (ds : List PyData) (r : PyData) : Prop := ∃ (t w : Nat) (ps : List Pl) (pd : PyData), Board t w ps ∧ IsPs pd ps ∧ ds = [N t, N w, pd] ∧ r = cvD ps (coverRows ps t)
section
variable {P : Program} {w : World} {K : PySem.W.Frag} {mg : Str → Option Value} {base : Heap}
abbrev nIr : List Str := ["tall", "wide", "places", "value", "many", "place", "row", "_", "column"]
theorem scIr : FnScope nIr ["tall", "wide", "places", "value"] (defScope sIr) := ⟨rfl, rfl, rfl, by decide +kernel, rfl, by decide +kernel, by decide +kernel⟩
theorem ok_ir {f : Addr} {fd : FuncData} (F : Fun K "is_rooks" "is_rooks" sIr f fd) (B : Blt mg) (dWb : Dn P w K mg base 6 "_want_board" ["tall", "wide", "places"] (SpG Fwb)) (dList : Dn P w K mg base 1 "is_list" ["value"] (SpG FisList)) (dPl : Dn P w K mg base 4 "is_place" ["value", "tall", "wide"] (SpG Fpl)) (dRk : Dn P w K mg base 7 "rooks" ["tall", "wide", "places"] (SpG Frk)) : FnOk P w K mg base CX0 8 f fd ["tall", "wide", "places", "value"] (SpG Fir) := by
  refine F.ok scIr (fun vs H Q E h => h.len (n := 4) (by rintro ds r ⟨t, w, ps, vs, _, _, _, rfl, _⟩; rfl)) (fun cdv A outer s H vs Q E hr h => ?_)
  have hu65 := u65 hr
  refine ⟨_, pss_cons (ps_expr (pe_call dWb.G (hr.mono (by decide)) (by rfl) dWb.m dWb.k dWb.b .nil pass0 (pa_cons (pv 0) (pa_cons (pv 1) (pa_cons (pv 2) pa_nil)))))
      (pss_cons (ps_if (pw_or (pt_not (pt_val (pe_call dList.G (hr.mono (by decide)) (by rfl) dList.m dList.k dList.b .nil pass0 (pa_cons (pv 3) pa_nil)))) (pw_or1 (pt_not (pt_val (pe_callB (cr_all rfl) (by rfl) B.all PyProof.Rows.boot_all (pa_cons (pe_lc (own := [("place", 5)]) (g := gName 5) (tt := tYes) (te := (tAndV (tCall (SpG Fpl) [] E0 (tCons (tVar 5) (tCons (tVar 0) (tCons (tVar 1) tNil)))) (tOp (rInD K) (tVar 5) (tVar 2)))) rfl scIr.nd (pi_list (pv 3)) (blkOk_by (own := [("place", 5)]) (N := nIr) (sc := defScope sIr) (by decide +kernel)) (fun _ _ _ _ _ => (pg_name (i := 5) scIr.nd rfl (Or.inl rfl))) (fun _ _ _ _ _ => pts_nil) (fun _ _ _ _ _ => (pe_and (pe_call dPl.G (hr.mono (by decide)) (by rfl) dPl.m dPl.k dPl.b .nil pass0 (pa_cons (pv 5) (pa_cons (pv 0) (pa_cons (pv 1) pa_nil)))) (pe_one (pe_cmpR (op_inD hu65) (pv 5) (pv 2) (by rfl)))))) pa_nil)))))).pt (pss_one (ps_ret pe_bl)) pss_nil)
      (pss_cons (ps_set (i := 4) scIr.nd rfl (Or.inl rfl) (pe_callB call_len_seq (by rfl) B.len PySem.boot_len (pa_cons (pv 3) pa_nil)))
      (pss_cons (ps_if (pw_or (pt_cmpR op_lt (RZ.pe_lenSetI (by rfl) B.len (by rfl) B.set (pe_lc (own := [("row", 6), ("_", 7)]) (g := gTup K 2 (gCons (gName 6) (gCons (gName 7) gNil))) (tt := tYes) (te := (tVar 6)) rfl scIr.nd (pi_list (pv 3)) (blkOk_by (own := [("row", 6), ("_", 7)]) (N := nIr) (sc := defScope sIr) (by decide +kernel)) (fun _ _ _ _ _ => (pg_tup rfl (pgs_cons (pg_name (i := 6) scIr.nd rfl (Or.inl rfl)) (pgs_cons (pg_name (i := 7) scIr.nd rfl (Or.inl rfl)) pgs_nil)))) (fun _ _ _ _ _ => pts_nil) (fun _ _ _ _ _ => (pv 6)))) (pv 4) (nomark _)) (pw_or1 (pt_cmpR op_lt (RZ.pe_lenSetI (by rfl) B.len (by rfl) B.set (pe_lc (own := [("_", 7), ("column", 8)]) (g := gTup K 2 (gCons (gName 7) (gCons (gName 8) gNil))) (tt := tYes) (te := (tVar 8)) rfl scIr.nd (pi_list (pv 3)) (blkOk_by (own := [("_", 7), ("column", 8)]) (N := nIr) (sc := defScope sIr) (by decide +kernel)) (fun _ _ _ _ _ => (pg_tup rfl (pgs_cons (pg_name (i := 7) scIr.nd rfl (Or.inl rfl)) (pgs_cons (pg_name (i := 8) scIr.nd rfl (Or.inl rfl)) pgs_nil)))) (fun _ _ _ _ _ => pts_nil) (fun _ _ _ _ _ => (pv 8)))) (pv 4) (nomark _)))).pt (pss_one (ps_ret pe_bl)) pss_nil)
      (pss_one (ps_ret (pe_cmpR op_eq (pv 4) (pe_callB call_len_seq (by rfl) B.len PySem.boot_len (pa_cons (pe_call dRk.G (hr.mono (by decide)) (by rfl) dRk.m dRk.k dRk.b .nil pass0 (pa_cons (pv 0) (pa_cons (pv 1) (pa_cons (pv 2) pa_nil)))) pa_nil)) (nomark _))))))), h.body fun ds r hF => ?_⟩
  obtain ⟨t, w, ps, vs, hb, sp, hl, rfl, rfl⟩ := hF
  refine .seq (.drop (.call (.cons (.var rfl) (.cons (.var rfl) (.cons (.var rfl) .nil))) ⟨t, w, ps, _, hb, .inl rfl, rfl, rfl⟩)) ?_
  refine .seq (.ifF (.eq (.or (a := false) (.eq (.not (.val (b := true) (.call (.cons (.var rfl) .nil) ⟨_, .inl rfl, rfl⟩))) rfl) fun _ => .not (.val (.allLc (fun _ => true) (.list (.var rfl)) (by rw [len_psD]; omega) fun i d hd => ?_))) (by rw [List.all_eq_true.mpr fun _ _ => rfl]; rfl)) .next) ?_
  · obtain ⟨p, hp, rfl⟩ := get_ps hd
    have hm := sp.sub p (List.mem_of_getElem? hp)
    have hi := hb.inn p hm
    exact ⟨_, _, .name, fun j h => h, .eq (.andV (a := true) (.call (.cons (.var rfl) (.cons (.var rfl) (.cons (.var rfl) .nil))) ⟨t, w, p, rfl, hi.1, hi.2, rfl⟩) fun _ => .op (.var rfl) (.var rfl) (.inD rfl (nds_ps _) (sh_pD _) (sh_ps _))) (by rw [in_ps, decide_eq_true hm]; rfl)⟩
  refine .seq (.set (.len (.var rfl))) ?_
  refine .seq (.ifF (.eq (.or (a := false) (.eq (.tst (.op (len_set (.eq (.map fstD (.list (.var rfl)) (by rw [len_psD]; omega) fun i d hd => ?_) (by rw [map_fst])) (by rw [List.length_map]; omega) sp.rows) (.var rfl) .lt)) ?_) fun _ => .tst (.op (len_set (.eq (.map sndD (.list (.var rfl)) (by rw [len_psD]; omega) fun i d hd => ?_) (by rw [map_snd])) (by rw [List.length_map]; omega) sp.cols) (.var rfl) .lt)) ?_) .next) ?_
  · obtain ⟨p, hp, rfl⟩ := get_ps hd
    exact ⟨_, _, .two, fun j h => h, .var rfl⟩
  · rw [List.length_map, len_psD]
    exact decide_eq_false (by omega)
  · obtain ⟨p, hp, rfl⟩ := get_ps hd
    exact ⟨_, _, .two, fun j h => h, .var rfl⟩
  · rw [List.length_map, len_psD]
    exact decide_eq_false (by omega)
  refine .ret (.eq (.op (.var rfl) (.len (.call (.cons (.var rfl) (.cons (.var rfl) (.cons (.var rfl) .nil))) ⟨t, w, ps, _, hb, .inl rfl, rfl, rfl⟩)) .eqI) ?_)
  rw [len_psD, len_psD]
  exact congrArg _ (decide_eq_decide.mpr ⟨fun h => by omega, fun h => by omega⟩)
abbrev nUn : List Str := ["value", "many", "count"]
theorem scUn : FnScope nUn ["value", "many"] (defScope sUn) := ⟨rfl, rfl, rfl, by decide +kernel, rfl, by decide +kernel, by decide +kernel⟩
theorem ok_un {f : Addr} {fd : FuncData} (F : Fun K "is_lot" "is_lot" sUn f fd) (B : Blt mg) (dList : Dn P w K mg base 1 "is_list" ["value"] (SpG FisList)) (dBet : Dn P w K mg base 3 "is_between" ["value", "low", "high"] (SpG Fbet)) : FnOk P w K mg base CX0 4 f fd ["value", "many"] (SpG Fun') := by
  refine F.ok scUn (fun vs H Q E h => h.len (n := 2) (by rintro ds r ⟨ns, m, _, _, _, rfl, _⟩; rfl)) (fun cdv A outer s H vs Q E hr h => ?_)
  refine ⟨_, pss_cons (ps_if (pw_or (pt_not (pt_val (pe_call dList.G (hr.mono (by decide)) (by rfl) dList.m dList.k dList.b .nil pass0 (pa_cons (pv 0) pa_nil)))) (pw_or1 (pt_not (pt_val (pe_callB (cr_all rfl) (by rfl) B.all PyProof.Rows.boot_all (pa_cons (pe_lc (own := [("count", 2)]) (g := gName 2) (tt := tYes) (te := (tCall (SpG Fbet) [] E0 (tCons (tVar 2) (tCons (tC (.int 0)) (tCons (tOp (rI0 fun i j => .int (i - j)) (tVar 1) (tC (.int 1))) tNil))))) rfl scUn.nd (pi_list (pv 0)) (blkOk_by (own := [("count", 2)]) (N := nUn) (sc := defScope sUn) (by decide +kernel)) (fun _ _ _ _ _ => (pg_name (i := 2) scUn.nd rfl (Or.inl rfl))) (fun _ _ _ _ _ => pts_nil) (fun _ _ _ _ _ => (pe_call dBet.G (hr.mono (by decide)) (by rfl) dBet.m dBet.k dBet.b .nil pass0 (pa_cons (pv 2) (pa_cons pe_int (pa_cons (pe_op op_sub (pv 1) pe_int) pa_nil)))))) pa_nil)))))).pt (pss_one (ps_ret pe_bl)) pss_nil)
      (pss_one (ps_ret (pe_cmpR op_eq (RZ.pe_lenSetI (by rfl) B.len (by rfl) B.set (pv 0)) (pe_callB call_len_seq (by rfl) B.len PySem.boot_len (pa_cons (pv 0) pa_nil)) (nomark _)))), h.body fun ds r hF => ?_⟩
  obtain ⟨ns, m, nd, hlt, hl, rfl, rfl⟩ := hF
  refine .seq (.ifF (.eq (.or (a := false) (.eq (.not (.val (b := true) (.call (.cons (.var rfl) .nil) ⟨_, .inl rfl, rfl⟩))) rfl) fun _ => .not (.val (.allLc (fun _ => true) (.list (.var rfl)) (by rw [len_nsD]; omega) fun i d hd => ?_))) (by rw [List.all_eq_true.mpr fun _ _ => rfl]; rfl)) .next) (.ret (.eq (.op (len_set (.var rfl) (by omega) nd) (.len (.var rfl)) .eqI) (by rw [len_nsD, decide_eq_true rfl])))
  obtain ⟨c, hc, rfl⟩ := get_ns hd
  have hm := hlt c (List.mem_of_getElem? hc)
  exact ⟨_, _, .name, fun j h => h, .eq (.call (.cons (.var rfl) (.cons (.int 0) (.cons (.op (.var rfl) (.int 1) .sub) .nil))) ⟨_, _, _, rfl, rfl⟩) (by rw [decide_eq_true (show (0 : Int) ≤ (c : Int) by omega), decide_eq_true (show (c : Int) ≤ (m : Int) - 1 by omega)]; rfl)⟩
end
end K71

set_option Elab.async false
set_option linter.all false
set_option maxRecDepth 100000
set_option maxHeartbeats 4000000
/-! The program's covers, its judge of covers. -/
namespace K71
open PySem L2 GD
theorem cols_mem {ps : List Pl} {rows : List Nat} (h4 : ∀ p ∈ ps, p.2 < 4) (k : Nat) : k ∈ colsOf ps rows ↔ k ∈ (ps.filter fun p => decide (p.1 ∉ rows)).map (·.2) := by
  unfold colsOf
  rw [List.mem_filter, List.mem_range, List.any_eq_true, List.mem_map]
  constructor
  · rintro ⟨_, p, hp, h⟩
    rw [Bool.and_eq_true] at h
    refine ⟨p, List.mem_filter.mpr ⟨hp, ?_⟩, by simpa using h.2⟩
    have := h.1
    simpa using this
  · rintro ⟨p, hp, rfl⟩
    obtain ⟨h1, h2⟩ := List.mem_filter.mp hp
    refine ⟨h4 p h1, p, h1, ?_⟩
    rw [Bool.and_eq_true]
    refine ⟨by simpa using h2, by simp⟩
theorem cols_srt (ps : List Pl) (rows : List Nat) : (colsOf ps rows).Pairwise (· < ·) := List.Pairwise.filter _ List.pairwise_lt_range
theorem cols_len (ps : List Pl) (rows : List Nat) : (colsOf ps rows).length ≤ 4 := by
  have := List.length_filter_le (fun c => ps.any fun p => !rows.contains p.1 && p.2 == c) (List.range 4)
  rw [List.length_range] at this
  exact this
theorem cols_lt {ps : List Pl} {rows : List Nat} {c : Nat} (h : c ∈ colsOf ps rows) : c < 4 := List.mem_range.mp (List.mem_filter.mp h).1
/-- a place in no told row -/
def outD (rows : List Nat) : PyData → Bool
  | .tuple [a, _] => !((nsD rows).any fun z => PyData.eqv z a)
  | _ => false
theorem out_ps (ps : List Pl) (rows : List Nat) : ((psD ps).filter (outD rows)).map sndD = nsD ((ps.filter fun p => decide (p.1 ∉ rows)).map (·.2)) := by
  show ((ps.map pD).filter _).map _ = _
  rw [List.filter_map, List.map_map]
  have e : (outD rows ∘ pD) = fun p => decide (p.1 ∉ rows) := funext fun p => by
    show (!((nsD rows).any fun z => PyData.eqv z (N p.1))) = _
    rw [in_ns, decide_not]
  rw [e, ← map_snd]
  show _ = ((ps.filter _).map pD).map sndD
  rw [List.map_map]
def sizeD : PyData → Int
  | .tuple [.list xs, .list ys] => (xs.length : Nat) + (ys.length : Nat)
  | _ => 0
theorem size_cv (ps : List Pl) (rows : List Nat) : sizeD (cvD ps rows) = (sizeOf' ps rows : Nat) := by
  show (((nsD rows).length : Nat) : Int) + (((nsD (colsOf ps rows)).length : Nat) : Int) = _
  rw [len_nsD, len_nsD]
  unfold sizeOf'
  omega
theorem best_app (f : List Nat → Nat) : ∀ (xs : List (List Nat)) (b y : List Nat), bestOf f (xs ++ [y]) b = if f y < f (bestOf f xs b) then y else bestOf f xs b
  | [], b, y => rfl
  | x :: xs, b, y => best_app f xs _ y
theorem best_at (f : List Nat → Nat) (x0 : List Nat) (xs : List (List Nat)) : ∀ m, m ≤ xs.length → (x0 :: xs)[argBest (fun i j => decide (f ((x0 :: xs).getD i []) < f ((x0 :: xs).getD j []))) m]? = some (bestOf f (xs.take m) x0)
  | 0, _ => rfl
  | m + 1, h => by
    have ih := best_at f x0 xs m (by omega)
    have hx : xs[m]? = some (xs[m]'(by omega)) := List.getElem?_eq_getElem (by omega)
    have tk : xs.take (m + 1) = xs.take m ++ [xs[m]'(by omega)] := by
      rw [List.take_succ, hx]
      rfl
    rw [tk, best_app]
    have g1 : (x0 :: xs).getD (m + 1) [] = xs[m]'(by omega) := by
      rw [List.getD_eq_getElem?_getD, List.getElem?_cons_succ, hx]
      rfl
    have g2 : (x0 :: xs).getD (argBest (fun i j => decide (f ((x0 :: xs).getD i []) < f ((x0 :: xs).getD j []))) m) [] = bestOf f (xs.take m) x0 := by
      rw [List.getD_eq_getElem?_getD, ih]
      rfl
    have e : argBest (fun i j => decide (f ((x0 :: xs).getD i []) < f ((x0 :: xs).getD j []))) (m + 1) = if f (xs[m]'(by omega)) < f (bestOf f (xs.take m) x0) then m + 1 else argBest (fun i j => decide (f ((x0 :: xs).getD i []) < f ((x0 :: xs).getD j []))) m := by
      rw [argBest]
      simp only [g1, g2, decide_eq_true_eq]
    rw [e]
    by_cases c : f (xs[m]'(by omega)) < f (bestOf f (xs.take m) x0)
    · rw [if_pos c, if_pos c, List.getElem?_cons_succ, hx]
    · rw [if_neg c, if_neg c, ih]
theorem lots_head : ∀ n, ∃ r, lots n = [] :: r
  | 0 => ⟨[], rfl⟩
  | n + 1 => by
    obtain ⟨r, e⟩ := lots_head n
    exact ⟨r ++ (lots n).map (· ++ [n]), by rw [lots, e]; rfl⟩
/-- the told cover is the first of the least -/
theorem cover_at (ps : List Pl) (t : Nat) : ((lots t).map (cvD ps))[argBest (fun i j => decide (sizeD (((lots t).map (cvD ps)).getD i .none) < sizeD (((lots t).map (cvD ps)).getD j .none))) (((lots t).map (cvD ps)).length - 1)]? = some (cvD ps (coverRows ps t)) := by
  obtain ⟨r, e⟩ := lots_head t
  unfold coverRows
  rw [e]
  have c : argBest (fun i j => decide (sizeD ((([] :: r).map (cvD ps)).getD i .none) < sizeD ((([] :: r).map (cvD ps)).getD j .none))) ((([] :: r).map (cvD ps)).length - 1) = argBest (fun i j => decide (sizeOf' ps (([] :: r).getD i []) < sizeOf' ps (([] :: r).getD j []))) r.length := by
    have el : (([] :: r).map (cvD ps)).length - 1 = r.length := by rw [List.length_map]; rfl
    rw [el]
    refine argBest_congr _ fun i j hi hj => ?_
    have at_ : ∀ k, k ≤ r.length → sizeD ((([] :: r).map (cvD ps)).getD k .none) = (sizeOf' ps (([] :: r).getD k []) : Nat) := fun k hk => by
      have hk' : k < ([] :: r).length := by simp; omega
      rw [List.getD_eq_getElem?_getD, List.getElem?_map, List.getElem?_eq_getElem hk', List.getD_eq_getElem?_getD, List.getElem?_eq_getElem hk']
      exact size_cv _ _
    rw [at_ i hi, at_ j hj]
    exact decide_eq_decide.mpr ⟨fun h => by omega, fun h => by omega⟩
  rw [c, List.getElem?_map]
  have b := best_at (sizeOf' ps) [] r r.length (Nat.le_refl _)
  rw [List.take_length] at b
  rw [b]
  rfl
/-- each place in one of the rows, or in one of the columns -/
def covD (rows cols : List Nat) : PyData → Bool
  | .tuple [a, b] => ((nsD rows).any fun z => PyData.eqv z a) || ((nsD cols).any fun z => PyData.eqv z b)
  | _ => false
def covers (ps : List Pl) (rows cols : List Nat) : Bool := ps.all fun p => decide (p.1 ∈ rows) || decide (p.2 ∈ cols)
theorem cov_ps (ps : List Pl) (rows cols : List Nat) : (psD ps).all (covD rows cols) = covers ps rows cols := by
  show (ps.map pD).all _ = _
  rw [List.all_map]
  unfold covers
  congr 1
  funext p
  show (((nsD rows).any fun z => PyData.eqv z (N p.1)) || ((nsD cols).any fun z => PyData.eqv z (N p.2))) = _
  rw [in_ns, in_ns]
def Fic (ds : List PyData) (r : PyData) : Prop := ∃ (t w : Nat) (ps : List Pl) (pd : PyData) (rows cols : List Nat), Board t w ps ∧ IsPs pd ps ∧ rows.Nodup ∧ (∀ x ∈ rows, x < t) ∧ cols.Nodup ∧ (∀ x ∈ cols, x < w) ∧ rows.length ≤ 16 ∧ cols.length ≤ 16 ∧ ds = [N t, N w, pd, .tuple [.list (nsD rows), .list (nsD cols)]] ∧ r = .bool (covers ps rows cols && decide (rows.length + cols.length = sizeOf' ps (coverRows ps t)))
section
variable {P : Program} {w : World} {K : PySem.W.Frag} {mg : Str → Option Value} {base : Heap}
abbrev nCv : List Str := ["tall", "wide", "places", "covers", "rows", "row", "column"]
theorem scCv : FnScope nCv ["tall", "wide", "places"] (defScope sCv) := ⟨rfl, rfl, rfl, by decide +kernel, rfl, by decide +kernel, by decide +kernel⟩
theorem ok_cv {f : Addr} {fd : FuncData} (F : Fun K "cover" "cover" sCv f fd) (B : Blt mg) (dWb : Dn P w K mg base 6 "_want_board" ["tall", "wide", "places"] (SpG Fwb)) (dLo : Dn P w K mg base 1 "_lots" ["many"] (SpG Flo)) (dCs : Dn P w K mg base 1 "_cover_size" ["value"] (SpG Fcs)) : FnOk P w K mg base CX0 7 f fd ["tall", "wide", "places"] (SpG Fcv) := by
  refine F.ok scCv (fun vs H Q E h => h.len (n := 3) (by rintro ds r ⟨t, w, ps, pd, _, _, rfl, _⟩; rfl)) (fun cdv A outer s H vs Q E hr h => ?_)
  have hu65 := u65 hr
  refine ⟨_, pss_cons (ps_expr (pe_call dWb.G (hr.mono (by decide)) (by rfl) dWb.m dWb.k dWb.b .nil pass0 (pa_cons (pv 0) (pa_cons (pv 1) (pa_cons (pv 2) pa_nil)))))
      (pss_cons (ps_setLc (own := [("rows", 4)]) (g := gName 4) (tt := tYes) (te := (tTup (tCons (tVar 4) (tCons (GS.tSortedSet K (tLc (fun σ H R => iList K (tVar 2) σ H R ∨ iTup K (tVar 2) σ H R) (gTup K 2 (gCons (gName 5) (gCons (gName 6) gNil))) (tTest (tOp (rNotInD K) (tVar 5) (tVar 4))) (tVar 6) [5, 6])) tNil)))) rfl scCv.nd (i := 3) rfl rfl (by rfl) (pi_list (pe_call dLo.G (hr.mono (by decide)) (by rfl) dLo.m dLo.k dLo.b .nil pass0 (pa_cons (pv 0) pa_nil))) (blkOk_by (own := [("rows", 4)]) (N := nCv) (sc := defScope sCv) (by decide +kernel)) (fun _ _ _ _ _ => (pg_name (i := 4) scCv.nd rfl (Or.inr rfl))) (fun _ _ _ _ _ => pts_nil) (fun _ _ _ _ _ => (pe_tup (pa_cons (pv 4) (pa_cons (GS.pe_sortedSet (by rfl) B.sorted (by rfl) B.set (pe_lc (own := [("row", 5), ("column", 6)]) (g := gTup K 2 (gCons (gName 5) (gCons (gName 6) gNil))) (tt := (tTest (tOp (rNotInD K) (tVar 5) (tVar 4)))) (te := (tVar 6)) rfl scCv.nd (PI.or (pi_list (pv 2)) (pi_tup (pv 2))) (blkOk_by (own := [("row", 5), ("column", 6)]) (N := nCv) (sc := { kind := .function, names := [(".0", .local), ("rows", .cell), ("sorted", .globalImplicit), ("set", .globalImplicit), ("places", .cell)], isGenerator := false, isCoroutine := false }) (by decide +kernel)) (fun _ _ _ _ _ => (pg_tup rfl (pgs_cons (pg_name (i := 5) scCv.nd rfl (Or.inl rfl)) (pgs_cons (pg_name (i := 6) scCv.nd rfl (Or.inl rfl)) pgs_nil)))) (fun _ _ _ _ _ => (pts_one (pt_cmpR (op_notInD hu65) (pv 5) (pv 4) (by rfl)))) (fun _ _ _ _ _ => (pv 6)))) pa_nil)))))
      (pss_one (ps_ret (pe_callBK (GS.cr_minK (E := E0) (dCs.G.raw dCs.b .nil) (hr.mono (by decide)) rfl) (by rfl) B.min PyProof.Rows.boot_min (pa_cons (pv 3) pa_nil) (pk_cons (pe_glob (by rfl) dCs.m (v := .ref dCs.f) rfl) pk_nil))))), h.body fun ds r hF => ?_⟩
  obtain ⟨t, w, ps, pd, hb, hp, rfl, rfl⟩ := hF
  have t4 := hb.t4
  have w4 := hb.w4
  have n16 := hb.n16
  have c4 : ∀ p ∈ ps, p.2 < 4 := fun p hp => by have := (hb.inn p hp).2; omega
  have l16 : (lots t).length ≤ 16 := by
    rw [lots_len]
    exact Nat.pow_le_pow_right (by decide) t4
  have l0 : 0 < (lots t).length := by
    rw [lots_len]
    exact Nat.two_pow_pos t
  refine .seq (.drop (.call (.cons (.var rfl) (.cons (.var rfl) (.cons (.var rfl) .nil))) ⟨t, w, ps, pd, hb, hp, rfl, rfl⟩)) ?_
  refine .seq (.set (.mapX (fun l => .list (nsD l)) (cvD ps) (.list (.call (.cons (.var rfl) .nil) ⟨t, t4, rfl, rfl⟩)) (by omega) fun rows hr => ⟨_, _, .name, fun j h => h, .tup (.cons (.var rfl) (.cons (sorted_set (.eq (.lc (outD rows) sndD (iter_ps hp (.var rfl)) (by rw [len_psD]; omega) fun i d hd => ?_) (by rw [out_ps])) ?_ (cols_srt ps rows) (cols_mem c4)) .nil)) (by show 2 ≤ sizeLine; decide)⟩)) ?_
  · obtain ⟨p, hp', rfl⟩ := get_ps hd
    exact ⟨_, _, .two, fun j h => h, .tst (.op (.var rfl) (.var rfl) (.notInD rfl (nds_ns _) (sh_N _) (sh_ns _))), fun _ => .var rfl⟩
  · rw [List.length_map]
    have := List.length_filter_le (fun p : Pl => decide (p.1 ∉ rows)) ps
    omega
  refine .ret (.minK sizeD (.var rfl) (by rw [List.length_map]; exact l0) (fun d hd => ?_) (cover_at ps t))
  obtain ⟨rows, _, rfl⟩ := List.mem_map.mp hd
  exact ⟨_, _, rfl, rfl⟩
abbrev nIc : List Str := ["tall", "wide", "places", "value", "rows", "columns", "row", "column"]
theorem scIc : FnScope nIc ["tall", "wide", "places", "value"] (defScope sIc) := ⟨rfl, rfl, rfl, by decide +kernel, rfl, by decide +kernel, by decide +kernel⟩
theorem ok_ic {f : Addr} {fd : FuncData} (F : Fun K "is_cover" "is_cover" sIc f fd) (B : Blt mg) (dWb : Dn P w K mg base 6 "_want_board" ["tall", "wide", "places"] (SpG Fwb)) (dUn : Dn P w K mg base 4 "is_lot" ["value", "many"] (SpG Fun')) (dCs : Dn P w K mg base 1 "_cover_size" ["value"] (SpG Fcs)) (dCv : Dn P w K mg base 7 "cover" ["tall", "wide", "places"] (SpG Fcv)) : FnOk P w K mg base CX0 8 f fd ["tall", "wide", "places", "value"] (SpG Fic) := by
  refine F.ok scIc (fun vs H Q E h => h.len (n := 4) (by rintro ds r ⟨t, w, ps, pd, rows, cols, _, _, _, _, _, _, _, _, rfl, _⟩; rfl)) (fun cdv A outer s H vs Q E hr h => ?_)
  have hu65 := u65 hr
  refine ⟨_, pss_cons (ps_expr (pe_call dWb.G (hr.mono (by decide)) (by rfl) dWb.m dWb.k dWb.b .nil pass0 (pa_cons (pv 0) (pa_cons (pv 1) (pa_cons (pv 2) pa_nil)))))
      (pss_cons (ps_if (pw_or (pt_not (pt_val (pe_callB call_isi (by rfl) B.isi PyProof.Rows.boot_isinstance (pa_cons (pv 3) (pa_cons (pe_bltn (by rfl) B.tuple PyProof.Rows.boot_tuple (v := .ty "tuple") rfl) pa_nil))))) (pw_or1 (pt_cmpR op_ne (pe_callB call_len_seq (by rfl) B.len PySem.boot_len (pa_cons (pv 3) pa_nil)) pe_int (nomark _)))).pt (pss_one (ps_ret pe_bl)) pss_nil)
      (pss_cons (ps_asg (pv 3) (pg_tup rfl (pgs_cons (pg_name (i := 4) scIc.nd rfl (Or.inr rfl)) (pgs_cons (pg_name (i := 5) scIc.nd rfl (Or.inr rfl)) pgs_nil))))
      (pss_cons (ps_if (pw_or (pt_not (pt_val (pe_call dUn.G (hr.mono (by decide)) (by rfl) dUn.m dUn.k dUn.b .nil pass0 (pa_cons (pv 4) (pa_cons (pv 0) pa_nil))))) (pw_or1 (pt_not (pt_val (pe_call dUn.G (hr.mono (by decide)) (by rfl) dUn.m dUn.k dUn.b .nil pass0 (pa_cons (pv 5) (pa_cons (pv 1) pa_nil))))))).pt (pss_one (ps_ret pe_bl)) pss_nil)
      (pss_cons (ps_if (pt_not (pt_val (pe_callB (cr_all rfl) (by rfl) B.all PyProof.Rows.boot_all (pa_cons (pe_lc (own := [("row", 6), ("column", 7)]) (g := gTup K 2 (gCons (gName 6) (gCons (gName 7) gNil))) (tt := tYes) (te := (tOrV (tOp (rInD K) (tVar 6) (tVar 4)) (tOp (rInD K) (tVar 7) (tVar 5)))) rfl scIc.nd (PI.or (pi_list (pv 2)) (pi_tup (pv 2))) (blkOk_by (own := [("row", 6), ("column", 7)]) (N := nIc) (sc := defScope sIc) (by decide +kernel)) (fun _ _ _ _ _ => (pg_tup rfl (pgs_cons (pg_name (i := 6) scIc.nd rfl (Or.inl rfl)) (pgs_cons (pg_name (i := 7) scIc.nd rfl (Or.inl rfl)) pgs_nil)))) (fun _ _ _ _ _ => pts_nil) (fun _ _ _ _ _ => (pe_or (pe_cmpR (op_inD hu65) (pv 6) (pv 4) (by rfl)) (pe_one (pe_cmpR (op_inD hu65) (pv 7) (pv 5) (by rfl)))))) pa_nil)))) (pss_one (ps_ret pe_bl)) pss_nil)
      (pss_one (ps_ret (pe_cmpR op_eq (pe_call dCs.G (hr.mono (by decide)) (by rfl) dCs.m dCs.k dCs.b .nil pass0 (pa_cons (pv 3) pa_nil)) (pe_call dCs.G (hr.mono (by decide)) (by rfl) dCs.m dCs.k dCs.b .nil pass0 (pa_cons (pe_call dCv.G (hr.mono (by decide)) (by rfl) dCv.m dCv.k dCv.b .nil pass0 (pa_cons (pv 0) (pa_cons (pv 1) (pa_cons (pv 2) pa_nil)))) pa_nil)) (nomark _)))))))), h.body fun ds r hF => ?_⟩
  obtain ⟨t, w, ps, pd, rows, cols, hb, hp, n1, b1, n2, b2, l1, l2, rfl, rfl⟩ := hF
  have n16 := hb.n16
  refine .seq (.drop (.call (.cons (.var rfl) (.cons (.var rfl) (.cons (.var rfl) .nil))) ⟨t, w, ps, pd, hb, hp, rfl, rfl⟩)) ?_
  refine .seq (.ifF (.eq (.or (a := false) (.eq (.not (.val (.isi (b := true) (.var rfl) kb_tt))) rfl) fun _ => .tst (.op (.lenT (.var rfl)) (.int 2) .neI)) rfl) .next) ?_
  refine .seq (.asg (.var rfl) .two) ?_
  refine .seq (.ifF (.eq (.or (a := false) (.eq (.not (.val (b := true) (.call (.cons (.var rfl) (.cons (.var rfl) .nil)) ⟨rows, t, n1, b1, l1, rfl, rfl⟩))) rfl) fun _ => .not (.val (b := true) (.call (.cons (.var rfl) (.cons (.var rfl) .nil)) ⟨cols, w, n2, b2, l2, rfl, rfl⟩))) rfl) .next) ?_
  have tail : ∀ {g : List (Option PyData)}, g[0]? = some (some (N t)) → g[1]? = some (some (N w)) → g[2]? = some (some pd) → g[3]? = some (some (.tuple [.list (nsD rows), .list (nsD cols)])) →
      EvG (tOp rEq (tCall (SpG Fcs) [] E0 (tCons (tVar 3) tNil)) (tCall (SpG Fcs) [] E0 (tCons (tCall (SpG Fcv) [] E0 (tCons (tVar 0) (tCons (tVar 1) (tCons (tVar 2) tNil)))) tNil))) g (.bool (decide (rows.length + cols.length = sizeOf' ps (coverRows ps t)))) := fun h0 h1 h2 h3 => by
    refine .eq (.op (.call (.cons (.var h3) .nil) ⟨_, _, rfl, rfl⟩) (.call (.cons (.call (.cons (.var h0) (.cons (.var h1) (.cons (.var h2) .nil))) ⟨t, w, ps, pd, hb, hp, rfl, rfl⟩) .nil) ⟨_, _, rfl, rfl⟩) .eqI) ?_
    rw [len_nsD, len_nsD, len_nsD, len_nsD]
    unfold sizeOf'
    exact congrArg _ (decide_eq_decide.mpr ⟨fun h => by omega, fun h => by omega⟩)
  by_cases hc : covers ps rows cols = true
  · refine .seq (.ifF (.eq (.not (.val (.allLc (covD rows cols) (iter_ps hp (.var rfl)) (by rw [len_psD]; omega) fun i d hd => ?_))) (by rw [cov_ps, hc]; rfl)) .next) (.ret (.eq (tail rfl rfl rfl rfl) (by rw [hc]; rfl)))
    obtain ⟨p, hp', rfl⟩ := get_ps hd
    exact ⟨_, _, .two, fun j h => h, .orV (.op (.var rfl) (.var rfl) (.inD rfl (nds_ns _) (sh_N _) (sh_ns _))) fun _ => .op (.var rfl) (.var rfl) (.inD rfl (nds_ns _) (sh_N _) (sh_ns _))⟩
  · have hc' : covers ps rows cols = false := Bool.eq_false_iff.mpr hc
    refine .seq_rt (.ifT (.eq (.not (.val (.allLc (covD rows cols) (iter_ps hp (.var rfl)) (by rw [len_psD]; omega) fun i d hd => ?_))) (by rw [cov_ps, hc']; rfl)) (.ret (.eq (.bl false) (by rw [hc']; rfl))))
    obtain ⟨p, hp', rfl⟩ := get_ps hd
    exact ⟨_, _, .two, fun j h => h, .orV (.op (.var rfl) (.var rfl) (.inD rfl (nds_ns _) (sh_N _) (sh_ns _))) fun _ => .op (.var rfl) (.var rfl) (.inD rfl (nds_ns _) (sh_N _) (sh_ns _))⟩
end
end K71

set_option Elab.async false
set_option linter.all false
set_option maxRecDepth 100000
set_option maxHeartbeats 4000000
/-! The law's pot, what is drawn from it. -/
namespace K71
open PySem L2 GD
theorem two_line : 2 ≤ sizeLine := by decide
def PotAt (H : Hp) (pot : Addr) : Prop := ∃ a b : Int, H pot = some (.lst [.int a, .int b]) ∧ 0 ≤ a ∧ 0 ≤ b ∧ b < 4294967296
abbrev Sp1 (pot : Addr) : Addr → Prop := fun X => X = pot
theorem PotAt.same {H H' : Hp} {pot : Addr} (h : PotAt H pot) (s : Same H H') : PotAt H' pot := let ⟨a, b, e, r⟩ := h; ⟨a, b, s _ _ e, r⟩
theorem PotAt.live {H : Hp} {pot : Addr} (h : PotAt H pot) : Live (Sp1 pot) H := fun X hX z => by
  obtain ⟨a, b, e, _⟩ := h
  rw [hX, e] at z
  cases z
theorem kp_set {pot : Addr} {H : Hp} {o : HO} : Kp (Sp1 pot) H (upd H pot o) := fun b u n h => by rw [upd_ne n]; exact h
structure SpPot (K : PySem.W.Frag) (vs : List V) (H : Hp) (Q : VK) (E : XK) : Prop where
  ex : ∃ (a : Addr) (ns : List Int) (k : Nat), vs = [.ref a, .int k] ∧ k < 100 ∧ SqL K H a (ns.map V.int) ∧ ∀ (H' : Hp) (pot : Addr), H pot = none → Same H H' → PotAt H' pot → Q (.ref pot) H'
structure SpDraw (vs : List V) (H : Hp) (Q : VK) (E : XK) : Prop where
  ex : ∃ (pot : Addr) (n : Nat), vs = [.ref pot, .int n] ∧ 1 ≤ n ∧ n ≤ 1000 ∧ PotAt H pot ∧ ∀ (H' : Hp) (d : Nat), Kp (Sp1 pot) H H' → PotAt H' pot → d < n → Q (.int d) H'
section
variable {P : Program} {w : World} {K : PySem.W.Frag} {mg : Str → Option Value} {base : Heap}
abbrev nPo : List Str := ["_law_script", "_law_k", "_law_cell"]
theorem scPo : FnScope nPo ["_law_script", "_law_k"] (defScope sPo) := ⟨rfl, rfl, rfl, by decide +kernel, rfl, by decide +kernel, by decide +kernel⟩
theorem ok_po {f : Addr} {fd : FuncData} (F : Fun K "_law_pot" "_law_pot" sPo f fd) (B : Blt mg) : FnOk P w K mg base CX0 1 f fd ["_law_script", "_law_k"] (SpPot K) := by
  refine F.ok scPo (fun vs H Q E h => ?_) (fun cdv A outer s H vs Q E hr h => ?_)
  · obtain ⟨a, ns, k, rfl, _⟩ := h
    rfl
  · obtain ⟨a, ns, k, rfl, k1, ha, kk⟩ := h
    refine ⟨_, pss_cons (ps_set (i := 2) scPo.nd rfl (Or.inl rfl) (pe_ifExp (pt_cmpR op_lt (pv 1) (pe_callB call_len_seq (by rfl) B.len PySem.boot_len (pa_cons (pv 0) pa_nil)) (nomark _)) (pe_callB call_abs (by rfl) B.abs (by decide +kernel) (pa_cons (pe_ix ix_list (pv 0) (pv 1) (fun _ _ => rfl)) pa_nil)) (pe_op op_add (pe_op op_mul pe_int (pv 1)) pe_int)))
      (pss_one (ps_ret (pe_lst (pa_cons (pe_callB (call_max2 rfl) (by rfl) B.max PyProof.Rows.boot_max (pa_cons pe_int (pa_cons (pe_op op_sub (pv 2) (pe_op op_pow pe_int pe_int)) pa_nil))) (pa_cons (pe_op op_add (pe_op op_mod (pe_callTy call_int1 (by rfl) B.int PyProof.Rows.boot_int (pa_cons (pe_op op_add (pe_op op_add (pe_op op_mul (pe_op op_mod (pe_callTy call_int1 (by rfl) B.int PyProof.Rows.boot_int (pa_cons (pv 2) pa_nil)) pe_int) pe_int) (pe_op op_mul pe_int (pv 1))) pe_int) pa_nil)) pe_int) pe_int) pa_nil))))), ?_⟩
    have c0 : CPow 10 18 := ⟨by decide, by decide, by decide⟩
    have fin : ∀ (x : Int), (∀ p, H p = none → Q (.ref p) (upd H p (.lst [.int (if x - 10 ^ (18 : Int).toNat > 0 then x - 10 ^ (18 : Int).toNat else 0), .int ((x % 2147483549 * 40031 + 4021 * (k : Int) + 71) % 2147483563 + 1)]))) := fun x p hp => by
      refine kk _ p hp (same_new hp) ⟨_, _, upd_same, ?_, ?_, ?_⟩
      · split <;> omega
      · have := Int.emod_nonneg (x % 2147483549 * 40031 + 4021 * (k : Int) + 71) (show (2147483563 : Int) ≠ 0 by decide)
        omega
      · have := Int.emod_lt_of_pos (x % 2147483549 * 40031 + 4021 * (k : Int) + 71) (show (0 : Int) < 2147483563 by decide)
        omega
    have c1 : ∀ x : Int, CMul (x % 2147483549) 40031 := fun x => by
      have h1 := Int.emod_nonneg x (show (2147483549 : Int) ≠ 0 by decide)
      have h2 := Int.emod_lt_of_pos x (show (0 : Int) < 2147483549 by decide)
      exact .inl ⟨by omega, by omega⟩
    have c2 : CMul 4021 (k : Int) := .inl ⟨by omega, by omega⟩
    have c3 : CMul 89 (k : Int) := .inl ⟨by omega, by omega⟩
    refine ⟨_, rfl, _, rfl, a, _, rfl, .inl ha, _, _, rfl, rfl, _, rfl, ite2 (fun e => ?_) (fun e => ?_)⟩
    · have hl : k < ns.length := by
        have e' := of_decide_eq_true e
        rw [List.length_map] at e'
        omega
      have hk : (ns.map V.int)[k]? = some (.int ns[k]) := by
        rw [List.getElem?_map, List.getElem?_eq_getElem hl]
        rfl
      refine ⟨_, rfl, _, rfl, a, _, _, _, rfl, rfl, ha, atI_nat hk, _, rfl, ?_⟩
      refine ⟨_, rfl, _, _, rfl, rfl, c0, _, _, rfl, rfl, _, _, rfl, ?_⟩
      refine ⟨_, rfl, .inl ⟨_, rfl, _, _, rfl, rfl, (by show (0 : Int) < 2147483549; decide), _, _, rfl, rfl, c1 _, _, rfl, _, _, rfl, rfl, c2, _, _, rfl, rfl, _, _, rfl, rfl, .inl ⟨_, rfl, ?_⟩⟩⟩
      exact ⟨_, _, rfl, rfl, (by show (0 : Int) < 2147483563; decide), _, _, rfl, rfl, two_line, fin _⟩
    · refine ⟨_, rfl, _, _, rfl, rfl, c3, _, _, rfl, rfl, ?_⟩
      refine ⟨_, rfl, _, _, rfl, rfl, c0, _, _, rfl, rfl, _, _, rfl, ?_⟩
      refine ⟨_, rfl, .inl ⟨_, rfl, _, _, rfl, rfl, (by show (0 : Int) < 2147483549; decide), _, _, rfl, rfl, c1 _, _, rfl, _, _, rfl, rfl, c2, _, _, rfl, rfl, _, _, rfl, rfl, .inl ⟨_, rfl, ?_⟩⟩⟩
      exact ⟨_, _, rfl, rfl, (by show (0 : Int) < 2147483563; decide), _, _, rfl, rfl, two_line, fin _⟩
abbrev nDr : List Str := ["_law_pot_here", "_law_many", "_law_digit"]
theorem scDr : FnScope nDr ["_law_pot_here", "_law_many"] (defScope sDr) := ⟨rfl, rfl, rfl, by decide +kernel, rfl, by decide +kernel, by decide +kernel⟩
theorem ok_dr {f : Addr} {fd : FuncData} (F : Fun K "_law_draw" "_law_draw" sDr f fd) (B : Blt mg) : FnOk P w K mg base CX0 1 f fd ["_law_pot_here", "_law_many"] SpDraw := by
  refine F.ok scDr (fun vs H Q E h => ?_) (fun cdv A outer s H vs Q E hr h => ?_)
  · obtain ⟨pot, n, rfl, _⟩ := h
    rfl
  · obtain ⟨pot, n, rfl, n1, n2, ⟨a, b, hp, a0, b0, b1⟩, k⟩ := h
    refine ⟨_, pss_cons (ps_if (pt_cmpR op_gt (pe_ix ix_list (pv 0) pe_int (fun _ _ => rfl)) pe_int (nomark _)) (pss_cons (ps_asg (pe_callB call_divmod (by rfl) B.divmod PyProof.Rows.boot_divmod (pa_cons (pe_ix ix_list (pv 0) pe_int (fun _ _ => rfl)) (pa_cons (pv 1) pa_nil))) (pg_tup rfl (pgs_cons (pg_sub (pv 0) pe_int set_list) (pgs_cons (pg_name (i := 2) scDr.nd rfl (Or.inl rfl)) pgs_nil))))
      (pss_one (ps_ret (pv 2)))) pss_nil)
      (pss_cons (ps_asg (pe_op op_mod (pe_callTy call_int1 (by rfl) B.int PyProof.Rows.boot_int (pa_cons (pe_op op_add (pe_op op_mul (pe_ix ix_list (pv 0) pe_int (fun _ _ => rfl)) pe_int) pe_int) pa_nil)) pe_int) (pg_sub (pv 0) pe_int set_list))
      (pss_one (ps_ret (pe_op op_mod (pe_callTy call_int1 (by rfl) B.int PyProof.Rows.boot_int (pa_cons (pe_op op_fdiv (pe_op op_mod (pe_callTy call_int1 (by rfl) B.int PyProof.Rows.boot_int (pa_cons (pe_op op_mul (pe_ix ix_list (pv 0) pe_int (fun _ _ => rfl)) (pe_ix ix_list (pv 0) pe_int (fun _ _ => rfl))) pa_nil)) pe_int) pe_int) pa_nil)) (pv 1))))), ?_⟩
    have at0 : ∀ x y : Int, atI [V.int x, V.int y] ((0 : Nat) : Int) = some (.int x) := fun x y => atI_nat rfl
    have at1 : ∀ x y : Int, atI [V.int x, V.int y] ((1 : Nat) : Int) = some (.int y) := fun x y => atI_nat rfl
    refine ⟨_, rfl, pot, _, _, _, rfl, rfl, SqL.of hp, at0 _ _, _, _, rfl, rfl, _, rfl, ite2 (fun e => ?_) (fun e => ?_)⟩
    · have hd : CDiv a n := ⟨by omega, by omega⟩
      refine ⟨_, rfl, pot, _, _, _, rfl, rfl, SqL.of hp, at0 _ _, _, rfl, a, n, rfl, hd, fun t ht => ?_⟩
      have npt : pot ≠ t := ne_of_none hp ht
      have hp2 : upd H t (.tup [.int (a / n), .int (a % n)]) pot = some (.lst [.int a, .int b]) := by rw [upd_ne npt]; exact hp
      refine ⟨t, _, rfl, SqT.of upd_same, rfl, _, _, rfl, ?_⟩
      refine ⟨_, rfl, pot, _, 0, 0, rfl, rfl, hp2, rfl, ?_⟩
      refine ⟨_, _, rfl, rfl, _, rfl, ?_⟩
      obtain ⟨d, hd⟩ := Int.eq_ofNat_of_zero_le (Int.emod_nonneg a (show (n : Int) ≠ 0 by omega))
      have hlt := Int.emod_lt_of_pos a (show (0 : Int) < (n : Int) by omega)
      have kq := k (upd (upd H t (.tup [.int (a / n), .int (a % n)])) pot (.lst [.int (a / n), .int b])) d ((Kp.of (same_new ht)).trans kp_set) ⟨a / n, b, upd_same, Int.ediv_nonneg a0 (by omega), b0, b1⟩ (by omega)
      rw [← hd] at kq
      exact kq
    · have m1 : CMul b 40014 := .inl ⟨by omega, by omega⟩
      refine ⟨_, rfl, pot, _, _, _, rfl, rfl, SqL.of hp, at1 _ _, _, _, rfl, rfl, m1, _, _, rfl, rfl, .inl ⟨_, rfl, _, _, rfl, rfl, (by show (0 : Int) < 2147483563; decide), ?_⟩⟩
      refine ⟨_, rfl, pot, _, 1, 1, rfl, rfl, hp, rfl, ?_⟩
      have c0 : 0 ≤ (b * 40014 + 1109) % 2147483563 := Int.emod_nonneg _ (by decide)
      have c1 : (b * 40014 + 1109) % 2147483563 < 2147483563 := Int.emod_lt_of_pos _ (by decide)
      have m2 : CMul ((b * 40014 + 1109) % 2147483563) ((b * 40014 + 1109) % 2147483563) := .inl ⟨by omega, by omega⟩
      have hp2 : upd H pot (.lst [.int a, .int ((b * 40014 + 1109) % 2147483563)]) pot = some (.lst [.int a, .int ((b * 40014 + 1109) % 2147483563)]) := upd_same
      refine ⟨_, rfl, pot, _, _, _, rfl, rfl, SqL.of hp2, at1 _ _, _, rfl, pot, _, _, _, rfl, rfl, SqL.of hp2, at1 _ _, _, _, rfl, rfl, m2, .inl ⟨_, rfl, ?_⟩⟩
      refine ⟨_, _, rfl, rfl, (by show (0 : Int) < 2147483587; decide), _, _, rfl, rfl, ⟨by decide, by decide⟩, .inl ⟨_, rfl, ?_⟩⟩
      refine ⟨_, rfl, _, _, rfl, rfl, (by show (0 : Int) < (n : Int); omega), ?_⟩
      generalize ((b * 40014 + 1109) % 2147483563 * ((b * 40014 + 1109) % 2147483563) % 2147483587 / 21) = z
      obtain ⟨d, hd⟩ := Int.eq_ofNat_of_zero_le (Int.emod_nonneg z (show (n : Int) ≠ 0 by omega))
      have hlt := Int.emod_lt_of_pos z (show (0 : Int) < (n : Int) by omega)
      have kq := k (upd H pot (.lst [.int a, .int ((b * 40014 + 1109) % 2147483563)])) d kp_set ⟨a, _, hp2, a0, c0, by omega⟩ (by omega)
      rw [← hd] at kq
      exact kq
end
end K71

set_option Elab.async false
set_option linter.all false
set_option maxRecDepth 100000
set_option maxHeartbeats 4000000
/-! Further words by plain data: repr, is, tuple(..), list(..), dict(..), texts compared, calls with keywords alone; draws beside a pot. -/
namespace GD
open PySem L2
section
variable {γ : List (Option PyData)} {K : PySem.W.Frag} {te ta tb tc : TE} {tt tu : TT} {d x y z : PyData} {S : Addr → Prop}
/-! ### repr -/
structure Rp (d : PyData) : Prop where
  ref : (∃ xs, d = .list xs) ∨ ∃ xs, d = .tuple xs
  nd : nd d = true
  sh : d.showable = true
  hd : d.hasDict = false
  dp : d.depth ≤ 60
  ln : d.shown.length ≤ sizeLine
theorem EvG.repr (r : Rp d) (h : EvG te γ d) : EvG (tCB (RQ.rReprD K) (tCons te tNil)) γ (.str d.shown) := fun S H σ l e Q q =>
  h S H σ l e _ fun H1 v s1 av => by
    have a2 := av.dp (K := K) r.nd
    rcases r.ref with ⟨xs, rfl⟩ | ⟨xs, rfl⟩
    · cases av with
      | lst n f hs => exact ⟨_, _, rfl, a2, r.sh, r.hd, r.dp, r.ln, q _ _ s1 (.str _)⟩
    · cases av with
      | tup n f hs => exact ⟨_, _, rfl, a2, r.sh, r.hd, r.dp, r.ln, q _ _ s1 (.str _)⟩
theorem OpG.neS (a : Str) : OpG rNe (.str a) (.str a) (.bool false) := fun S H v w l av aw Q q => by
  cases av
  cases aw
  refine ⟨rfl, ?_⟩
  rw [decide_eq_true rfl]
  exact q H _ (Same.refl _) (.bl _)
/-! ### is, is not -/
theorem OpG.isB {a b : Bool} : OpG (fun x y H Q => ∃ a b, x = .bl a ∧ y = .bl b ∧ Q (.bl (decide (a = b))) H) (.bool a) (.bool b) (.bool (decide (a = b))) := fun S H v w l av aw Q q => by
  cases av
  cases aw
  exact ⟨a, b, rfl, rfl, q H _ (Same.refl _) (.bl _)⟩
theorem OpG.isnotB {a b : Bool} : OpG (fun x y H Q => ∃ a b, x = .bl a ∧ y = .bl b ∧ Q (.bl (!decide (a = b))) H) (.bool a) (.bool b) (.bool (!decide (a = b))) := fun S H v w l av aw Q q => by
  cases av
  cases aw
  exact ⟨a, b, rfl, rfl, q H _ (Same.refl _) (.bl _)⟩
/-! ### tuple(x), list(x), int(x) -/
theorem EvG.tupleOf {ds : List PyData} (h : EvG te γ (.list ds)) : EvG (tCB (fun xs H Q => ∃ p ys, xs = [.ref p] ∧ ((SqL K H p ys ∧ ∀ l, H l = none → Q (.ref l) (upd H l (.tup ys))) ∨ (SqT K H p ys ∧ Q (.ref p) H))) (tCons te tNil)) γ (.tuple ds) := .cb (.cons h .nil) fun S H vs l av Q q => by
  cases av with
  | cons a r =>
    cases r
    cases a with
    | lst n e hs => exact ⟨_, _, rfl, .inl ⟨SqL.of e, fun p np => q _ _ (same_new np) (.tup (l.new np) upd_same (hs.same (same_new np)))⟩⟩
theorem EvG.listOf {ds : List PyData} (h : EvG te γ (.list ds)) : EvG (tCB (fun xs H Q => ∃ p ys, xs = [.ref p] ∧ (SqL K H p ys ∨ SqT K H p ys) ∧ ∀ l, H l = none → Q (.ref l) (upd H l (.lst ys))) (tCons te tNil)) γ (.list ds) := .cb (.cons h .nil) fun S H vs l av Q q => by
  cases av with
  | cons a r =>
    cases r
    cases a with
    | lst n e hs => exact ⟨_, _, rfl, .inl (SqL.of e), fun p np => q _ _ (same_new np) (.lst (l.new np) upd_same (hs.same (same_new np)))⟩
theorem EvG.intOf {i : Int} (h : EvG te γ (.int i)) : EvG (tCB (fun xs H Q => (∃ i, xs = [.int i] ∧ Q (.int i) H) ∨ ∃ k, xs = [.bl k] ∧ Q (.int (if k then 1 else 0)) H) (tCons te tNil)) γ (.int i) := .cb (.cons h .nil) fun S H vs l av Q q => by
  cases av with
  | cons a r =>
    cases r
    cases a
    exact .inl ⟨i, rfl, q _ _ (Same.refl _) (.int i)⟩
/-! ### slices -/
theorem cut_to {ds : List PyData} {i : Nat} (h : i ≤ ds.length) : cutD ds none (some (i : Int)) = ds.take i := by
  unfold cutD
  have h1 : HT.sIx ds.length 0 none = 0 := rfl
  have h2 : HT.sIx ds.length ds.length (some (i : Int)) = i := by
    rw [HT.sIx_nat]
    omega
  rw [h1, h2]
  simp
theorem cut_from {ds : List PyData} {i : Nat} (h : i ≤ ds.length) : cutD ds (some (i : Int)) none = ds.drop i := by
  unfold cutD
  have h1 : HT.sIx ds.length 0 (some (i : Int)) = i := by
    rw [HT.sIx_nat]
    omega
  have h2 : HT.sIx ds.length ds.length none = ds.length := rfl
  rw [h1, h2]
  exact List.take_of_length_le (by rw [List.length_drop]; omega)
/-! ### dict([(k, True), ..]) -/
def dk (acc : List Int) : List Int → List Int
  | [] => acc
  | k :: ks => dk (if k ∈ acc then acc else acc ++ [k]) ks
abbrev ent (k : Int) : Key × V := (Sum.inl k, V.bl true)
theorem put_ent (acc : List Int) (k : Int) : putK (acc.map ent) (Sum.inl k) (V.bl true) = (if k ∈ acc then acc else acc ++ [k]).map ent := by
  unfold putK
  have e : ((acc.map ent).any fun kv => decide (kv.1 = Sum.inl k)) = decide (k ∈ acc) := by
    rw [List.any_map, Bool.eq_iff_iff, List.any_eq_true, decide_eq_true_eq]
    constructor
    · rintro ⟨a, ha, h⟩
      have h' : (ent a).1 = Sum.inl k := of_decide_eq_true h
      have : a = k := Sum.inl.inj h'
      exact this ▸ ha
    · exact fun h => ⟨k, h, decide_eq_true rfl⟩
  rw [e]
  by_cases h : k ∈ acc
  · rw [if_pos (decide_eq_true h), if_pos h, List.map_map]
    refine List.map_congr_left fun a _ => ?_
    show (if (ent a).1 = Sum.inl k then ((ent a).1, V.bl true) else ent a) = ent a
    split <;> rfl
  · rw [if_neg (by rw [decide_eq_true_eq]; exact h), if_neg h, List.map_append]
    rfl
theorem merge_ent : ∀ (ks acc : List Int), mergeK (acc.map ent) (ks.map ent) = (dk acc ks).map ent
  | [], acc => rfl
  | k :: ks, acc => by
    show mergeK (putK (acc.map ent) (Sum.inl k) (V.bl true)) (ks.map ent) = _
    rw [put_ent, merge_ent ks, dk]
theorem dk_mem : ∀ (ks acc : List Int) (x : Int), x ∈ dk acc ks ↔ x ∈ acc ∨ x ∈ ks
  | [], acc, x => by simp [dk]
  | k :: ks, acc, x => by
    rw [dk, dk_mem ks]
    by_cases h : k ∈ acc
    · rw [if_pos h, List.mem_cons]
      exact ⟨fun z => z.imp id .inr, fun z => z.elim .inl fun z => z.elim (fun e => .inl (e ▸ h)) .inr⟩
    · rw [if_neg h]
      simp only [List.mem_append, List.mem_cons, List.not_mem_nil, or_false, or_assoc]
theorem dk_nodup : ∀ (ks acc : List Int), acc.Nodup → (dk acc ks).Nodup
  | [], acc, h => h
  | k :: ks, acc, h => by
    rw [dk]
    refine dk_nodup ks _ ?_
    split
    · exact h
    · rename_i g
      rw [List.nodup_append]
      exact ⟨h, by simp, fun a ha b hb e => g (by rw [List.mem_singleton.mp hb] at e; exact e ▸ ha)⟩
theorem len_same {α : Type} [DecidableEq α] : ∀ {xs ys : List α}, xs.Nodup → ys.Nodup → (∀ x, x ∈ xs ↔ x ∈ ys) → xs.length = ys.length := fun {xs ys} hx hy h =>
  Nat.le_antisymm (List.Nodup.length_le_of_subset hx fun a ha => (h a).mp ha) (List.Nodup.length_le_of_subset hy fun a ha => (h a).mpr ha)
abbrev dctD (ks : List Int) : PyData := .dict (ks.map fun k => (.int k, .bool true))
abbrev rDct (K : PySem.W.Frag) : List V → Hp → VK → Prop := fun xs H Q => ∃ (a : Addr) (ps : List Addr) (kvs : List (Key × V)), xs = [.ref a] ∧ SqL K H a (ps.map V.ref) ∧ Paired (fun p kv => SqT K H p [kV kv.1, kv.2]) ps kvs ∧ ∀ p, H p = none → Q (.ref p) (upd H p (.dK (mergeK [] kvs)))
theorem EvG.dictOf {ks : List Int} (h : EvG te γ (.list (ks.map fun k => .tuple [.int k, .bool true]))) : EvG (tCB (rDct K) (tCons te tNil)) γ (dctD (dk [] ks)) := .cb (.cons h .nil) fun S H vs l av Q q => by
  cases av with
  | cons a r =>
    cases r
    cases a with
    | lst n e hs =>
      have go : ∀ {xs : List V} {ks : List Int}, Avs S H xs (ks.map fun k => .tuple [.int k, .bool true]) → ∃ ps : List Addr, xs = ps.map V.ref ∧ Paired (fun p (kv : Key × V) => SqT K H p [kV kv.1, kv.2]) ps (ks.map ent) := fun {xs ks} a => by
        induction ks generalizing xs with
        | nil => cases a; exact ⟨[], rfl, .nil⟩
        | cons k ks ih =>
          cases a with
          | cons b r =>
            obtain ⟨ps, rfl, pp⟩ := ih r
            cases b with
            | tup m f us =>
              cases us with
              | cons u1 r1 =>
                cases r1 with
                | cons u2 r2 =>
                  cases r2
                  cases u1
                  cases u2
                  exact ⟨_ :: ps, rfl, .cons (SqT.of f) pp⟩
      obtain ⟨ps, rfl, pp⟩ := go hs
      refine ⟨_, ps, ks.map ent, rfl, SqL.of e, pp, fun p np => ?_⟩
      have em := merge_ent ks []
      rw [show mergeK [] (ks.map ent) = (dk [] ks).map ent from em]
      exact q _ _ (same_new np) (.dct (l.new np) upd_same)
theorem EvG.lenD {ks : List Int} (h : EvG te γ (dctD ks)) : EvG (tCB (fun xs H Q => ∃ a kvs, xs = [V.ref a] ∧ H a = some (.dK kvs) ∧ Q (.int kvs.length) H) (tCons te tNil)) γ (.int (ks.length : Nat)) := fun S H σ l e Q q =>
  h S H σ l e _ fun H1 v s1 av => by
    generalize hd : dctD ks = d at av
    cases av with
    | dct n f =>
      rename_i a js
      have hj : ks.map (fun k => ((.int k, .bool true) : PyData × PyData)) = js.map (fun k => (.int k, .bool true)) := by
        injection hd
      have hl : ks.length = js.length := by
        have := congrArg List.length hj
        simpa using this
      refine ⟨_, _, rfl, f, ?_⟩
      rw [List.length_map, ← hl]
      exact q _ _ s1 (.int _)
    | _ => cases hd
/-! ### f(k = v, ..) -/
def tCallKk (n : Nat) (sp : Sp) (gV : List V → List V → List V) (E : XK) (t tk : TA) : TE := fun σ H Q => t σ H fun vs H1 => tk σ H1 fun zs H2 => zs.length = n ∧ sp (gV vs zs) H2 Q E
theorem Avs.rev {H : Hp} : ∀ {vs : List V} {ds : List PyData}, Avs S H vs ds → Avs S H vs.reverse ds.reverse
  | _, _, .nil => .nil
  | _, _, .cons a r => by
    rw [List.reverse_cons, List.reverse_cons]
    exact (Avs.rev r).app (.cons a .nil)
theorem EvG.callKR {F : List PyData → PyData → Prop} {tk : TA} {ds : List PyData} {r : PyData} {E : XK} {n : Nat} (h : EvA tk γ ds) (hn : ds.length = n) (hF : F ds.reverse r) : EvG (tCallKk n (SpG F) (fun vs zs => vs ++ zs.reverse) E tNil tk) γ r := fun S H σ l e Q q =>
  h S H σ l e _ fun H1 zs s1 av => ⟨av.len.trans hn, ⟨S, ds.reverse, r, l.same s1, av.rev, hF, fun H' v s a => q H' v (s1.trans s) a⟩⟩
end
end GD
namespace L2
open PySem
section
variable {X : Cx} {CX : CXT} {k n : Nat} {f : Addr} {fd : FuncData} {ps ks : List Str} {sp : Sp} {E : XK} {x : Str} {p pos : Pos} {e : Expr} {es : List Expr} {kws : List Keyword} {t tk : TA} {g : List Value → List Value → List Value} {gV : List V → List V → List V}
/-- f(k = v, ..) -/
theorem pe_callK0 (F : FnOk X.prog X.w X.K X.mg X.base CX k f fd ps sp) (hr : Room k X.A) (hg : Gl X x) (hm : X.mg x = some (.ref f)) (hk : PySem.W.keepIn X.K (.ref f) = true) (hb : KBn X.K fd ps 0 ks g gV) (hx : Passes CX X E) (hkw : PK X kws tk)
    (hall : (backToKw pos (keywordEach kws X.env)).all (·.1.isSome) = true := by rfl) (hks : (backToKw pos (keywordEach kws X.env)).filterMap (·.1) = ks := by rfl) (hdb : (x == ("__debug__" : Str)) = false := by decide)
    (hpl : ((backTo pos (starEach [] X.env)).any (·.1) || (backToKw pos (keywordEach kws X.env)).any (·.1.isNone)) = false := by rfl) :
    PE X (.Call (.Name x p) [] kws pos) (GD.tCallKk ks.length sp gV E tNil tk) := by
  refine ⟨fun pins s σ H Q I h => ?_⟩
  refine wpAny_Call_Name_kw (ld_glob I hg hm ?_ hdb)
  refine PySem.W.callWith_KW0 (h₀ := X.base) I.ok.mod.kin hk hall ?_ hpl
  refine thn (hkw.run pos pins s σ H _ I h) fun ws s2 ⟨zs, H2, I2, rz, l2, q2⟩ => ⟨I2.kIn, ?_⟩
  rw [hks]
  exact run_fnN (us := []) (vs := []) F hr hb hx I2 .nil rz rfl l2 q2
theorem vals_rev : ∀ {vs : List V} {us : List Value}, Vals vs us → Vals vs.reverse us.reverse
  | _, _, .nil => .nil
  | _, _, .cons h r => by
    rw [List.reverse_cons, List.reverse_cons]
    exact Vals.append (vals_rev r) (.cons h .nil)
theorem kbn_turn {K : PySem.W.Frag} {x qual : Str} {st : Stmt} {f : Addr} {fd : FuncData} {ps ks : List Str} {n : Nat} (F : Fun K x qual st f fd)
    (h : ∀ (kV doc pm : Value) (an : Option Addr) (cdv ct : Value) (us ws : List Value), us.length = n → ws.length = ks.length → bindArgs (PySem.W.fnOf x qual (defArgs st) (defBody st) (defScope st) .none kV doc pm an cdv ct) ⟨us, ks.zip ws⟩ = pure (ps.zip (us ++ ws.reverse))) :
    KBn K fd ps n ks (fun us ws => us ++ ws.reverse) (fun vs zs => vs ++ zs.reverse) := by
  obtain ⟨oc, od, kV, doc, pm, an, cdv, ct, osl, rfl, lk, hcd⟩ := F.ex
  exact ⟨fun s us ws _ l1 l2 => .of_eq (h kV doc pm an cdv ct us ws l1 l2), fun r1 r2 => Vals.append r1 (vals_rev r2)⟩
end
end L2

set_option Elab.async false
set_option linter.all false
set_option maxRecDepth 100000
set_option maxHeartbeats 4000000
/-! Rooks and covers are as many; no Python here. -/
namespace K71
/-- how many below k -/
def cnt : Nat → (Nat → Bool) → Nat
  | 0, _ => 0
  | k + 1, f => cnt k f + (f k).toNat
theorem cnt_or_and (f g : Nat → Bool) : ∀ k, cnt k (fun x => f x || g x) + cnt k (fun x => f x && g x) = cnt k f + cnt k g
  | 0 => rfl
  | k + 1 => by
    have ih := cnt_or_and f g k
    show cnt k _ + (f k || g k).toNat + (cnt k _ + (f k && g k).toNat) = cnt k f + (f k).toNat + (cnt k g + (g k).toNat)
    cases f k <;> cases g k <;> simp <;> omega
theorem cnt_mono {f g : Nat → Bool} (h : ∀ x, f x = true → g x = true) : ∀ k, cnt k f ≤ cnt k g
  | 0 => Nat.le_refl _
  | k + 1 => by
    have ih := cnt_mono h k
    have hk := h k
    show cnt k f + (f k).toNat ≤ cnt k g + (g k).toNat
    cases hf : f k
    · simp; omega
    · rw [hk hf]; omega
theorem cnt_congr {f g : Nat → Bool} : ∀ k, (∀ x, x < k → f x = g x) → cnt k f = cnt k g
  | 0, _ => rfl
  | k + 1, h => by
    show cnt k f + (f k).toNat = cnt k g + (g k).toNat
    rw [cnt_congr k fun x hx => h x (by omega), h k (by omega)]
theorem cnt_le : ∀ (k : Nat) (f : Nat → Bool), cnt k f ≤ k
  | 0, _ => Nat.le_refl _
  | k + 1, f => by
    have ih := cnt_le k f
    have : (f k).toNat ≤ 1 := by cases f k <;> decide
    show cnt k f + (f k).toNat ≤ k + 1
    omega
/-- one more -/
theorem cnt_put {f : Nat → Bool} {a : Nat} (hf : f a = false) : ∀ k, a < k → cnt k (fun x => f x || x == a) = cnt k f + 1
  | 0, h => by omega
  | k + 1, h => by
    show cnt k _ + (f k || k == a).toNat = cnt k f + (f k).toNat + 1
    by_cases e : k = a
    · subst e
      rw [hf, cnt_congr (g := f) k fun x hx => by
        have : (x == k) = false := by simpa using (by omega : x ≠ k)
        rw [this, Bool.or_false]]
      simp
    · have e' : (k == a) = false := by simpa using e
      rw [cnt_put hf k (by omega), e', Bool.or_false]
      omega
theorem cnt_out {f : Nat → Bool} {a : Nat} (hf : f a = true) (k : Nat) (h : a < k) : cnt k (fun x => f x && !(x == a)) + 1 = cnt k f := by
  have := cnt_put (f := fun x => f x && !(x == a)) (a := a) (by simp) k h
  rw [← this]
  refine cnt_congr k fun x _ => ?_
  by_cases e : x = a
  · subst e; simp [hf]
  · have : (x == a) = false := by simpa using e
    rw [this]; simp
theorem cnt_zero {f : Nat → Bool} : ∀ k, (∀ x, x < k → f x = false) → cnt k f = 0
  | 0, _ => rfl
  | k + 1, h => by
    show cnt k f + (f k).toNat = 0
    rw [cnt_zero k fun x hx => h x (by omega), h k (by omega)]
    rfl
/-- columns, not used, that have a place in these rows -/
def nb (ps : List Pl) (T : Nat → Bool) (U : List Nat) (c : Nat) : Bool := (ps.any fun p => T p.1 && p.2 == c) && !U.contains c
theorem nb_iff {ps : List Pl} {T : Nat → Bool} {U : List Nat} {c : Nat} : nb ps T U c = true ↔ (∃ r, (r, c) ∈ ps ∧ T r = true) ∧ c ∉ U := by
  unfold nb
  rw [Bool.and_eq_true, List.any_eq_true]
  constructor
  · rintro ⟨⟨p, hp, h⟩, h2⟩
    rw [Bool.and_eq_true] at h
    have e : p.2 = c := by simpa using h.2
    exact ⟨⟨p.1, e ▸ hp, h.1⟩, by simpa using h2⟩
  · rintro ⟨⟨r, hp, h⟩, h2⟩
    exact ⟨⟨(r, c), hp, by simp [h]⟩, by simpa using h2⟩
def stepN (ps : List Pl) (n row : Nat) (used : List Nat) (found : Nat) (p : Pl) : Nat := if p.1 = row ∧ p.2 ∉ used then max found (1 + mostN ps n (row + 1) (used ++ [p.2])) else found
theorem mostN_succ (ps : List Pl) (n row : Nat) (used : List Nat) : mostN ps (n + 1) row used = ps.foldl (stepN ps n row used) (mostN ps n (row + 1) used) := by
  rw [mostN]
  rfl
theorem step_ge (ps qs : List Pl) (n row : Nat) (used : List Nat) : ∀ b, b ≤ qs.foldl (stepN ps n row used) b := by
  induction qs with
  | nil => intro b; exact Nat.le_refl _
  | cons p qs ih =>
    intro b
    refine Nat.le_trans ?_ (ih _)
    unfold stepN
    split
    · exact Nat.le_max_left ..
    · exact Nat.le_refl _
theorem step_hit (ps qs : List Pl) (n row : Nat) (used : List Nat) {c : Nat} (hc : (row, c) ∈ qs) (hu : c ∉ used) : ∀ b, 1 + mostN ps n (row + 1) (used ++ [c]) ≤ qs.foldl (stepN ps n row used) b := by
  induction qs with
  | nil => cases hc
  | cons p qs ih =>
    intro b
    rcases List.mem_cons.mp hc with e | h
    · subst e
      refine Nat.le_trans ?_ (step_ge ps qs n row used _)
      unfold stepN
      rw [if_pos ⟨rfl, hu⟩]
      exact Nat.le_max_right ..
    · exact ih h _
theorem step_is (ps qs : List Pl) (n row : Nat) (used : List Nat) : ∀ b, qs.foldl (stepN ps n row used) b = b ∨ ∃ c, (row, c) ∈ qs ∧ c ∉ used ∧ qs.foldl (stepN ps n row used) b = 1 + mostN ps n (row + 1) (used ++ [c]) := by
  induction qs with
  | nil => intro b; exact .inl rfl
  | cons p qs ih =>
    intro b
    have hs : stepN ps n row used b p = b ∨ ∃ c, (row, c) = p ∧ c ∉ used ∧ stepN ps n row used b p = 1 + mostN ps n (row + 1) (used ++ [c]) := by
      unfold stepN
      split
      · rename_i h
        rcases Nat.le_total b (1 + mostN ps n (row + 1) (used ++ [p.2])) with g | g
        · exact .inr ⟨p.2, by rw [← h.1], h.2, Nat.max_eq_right g⟩
        · exact .inl (Nat.max_eq_left g)
      · exact .inl rfl
    rcases ih (stepN ps n row used b p) with h | ⟨c, h1, h2, h3⟩
    · rcases hs with e | ⟨c, e1, e2, e3⟩
      · exact .inl (h.trans e)
      · exact .inr ⟨c, e1 ▸ .head _, e2, h.trans e3⟩
    · exact .inr ⟨c, .tail _ h1, h2, h3⟩
/-- these rows stand from row on -/
def In (T : Nat → Bool) (row n : Nat) : Prop := ∀ r, T r = true → row ≤ r ∧ r < row + n
theorem weak (ps : List Pl) (h4 : ∀ p ∈ ps, p.2 < 4) : ∀ (n row : Nat) (U : List Nat) (T : Nat → Bool), row + n ≤ 4 → In T row n → mostN ps n row U + cnt 4 T ≤ n + cnt 4 (nb ps T U)
  | 0, row, U, T, _, hT => by
    have : cnt 4 T = 0 := cnt_zero 4 fun x _ => by
      cases e : T x
      · rfl
      · have := hT x e; omega
    rw [this]
    exact Nat.zero_le _
  | n + 1, row, U, T, hr, hT => by
    have hT' : In (fun x => T x && !(x == row)) (row + 1) n := fun r h => by
      rw [Bool.and_eq_true] at h
      have h1 := hT r h.1
      have h2 : r ≠ row := by simpa using h.2
      omega
    have hle : cnt 4 T ≤ cnt 4 (fun x => T x && !(x == row)) + 1 := by
      cases e : T row
      · exact Nat.le_trans (cnt_mono (fun x hx => by
          have : x ≠ row := fun z => by subst z; rw [e] at hx; cases hx
          simp [hx, this]) 4) (Nat.le_succ _)
      · exact Nat.le_of_eq (cnt_out e 4 (by omega)).symm
    have sub : ∀ x, nb ps (fun x => T x && !(x == row)) U x = true → nb ps T U x = true := fun x hx => by
      obtain ⟨⟨r, h1, h2⟩, h3⟩ := nb_iff.mp hx
      rw [Bool.and_eq_true] at h2
      exact nb_iff.mpr ⟨⟨r, h1, h2.1⟩, h3⟩
    rw [mostN_succ]
    rcases step_is ps ps n row U (mostN ps n (row + 1) U) with e | ⟨c, hc, hu, e⟩
    · rw [e]
      have ih := weak ps h4 n (row + 1) U _ (by omega) hT'
      have := cnt_mono sub 4
      omega
    · rw [e]
      have ih := weak ps h4 n (row + 1) (U ++ [c]) _ (by omega) hT'
      have c4 : c < 4 := h4 _ hc
      have sub2 : ∀ x, nb ps (fun x => T x && !(x == row)) (U ++ [c]) x = true → nb ps T U x = true := fun x hx => by
        obtain ⟨⟨r, h1, h2⟩, h3⟩ := nb_iff.mp hx
        rw [Bool.and_eq_true] at h2
        exact nb_iff.mpr ⟨⟨r, h1, h2.1⟩, fun z => h3 (List.mem_append.mpr (.inl z))⟩
      cases eT : T row
      · have h2 := cnt_mono sub2 4
        have h1 : cnt 4 T ≤ cnt 4 (fun x => T x && !(x == row)) := cnt_mono (fun x hx => by
          have : x ≠ row := fun z => by subst z; rw [eT] at hx; cases hx
          simp [hx, this]) 4
        omega
      · have hcn : nb ps T U c = true := nb_iff.mpr ⟨⟨row, hc, eT⟩, hu⟩
        have h2 := cnt_out hcn 4 c4
        have h3 : cnt 4 (nb ps (fun x => T x && !(x == row)) (U ++ [c])) ≤ cnt 4 (fun x => nb ps T U x && !(x == c)) := cnt_mono (fun x hx => by
          have hx' := sub2 x hx
          have : x ≠ c := fun z => by
            subst z
            exact (nb_iff.mp hx).2 (List.mem_append.mpr (.inr (.head _)))
          simp [hx', this]) 4
        omega
theorem koenig (ps : List Pl) (h4 : ∀ p ∈ ps, p.2 < 4) : ∀ (n row : Nat) (U : List Nat), row + n ≤ 4 → ∃ T, In T row n ∧ n + cnt 4 (nb ps T U) ≤ mostN ps n row U + cnt 4 T
  | 0, row, U, _ => by
    refine ⟨fun _ => false, fun r h => (Bool.false_ne_true h).elim, ?_⟩
    have : cnt 4 (nb ps (fun _ => false) U) = 0 := cnt_zero 4 fun x _ => by
      cases e : nb ps (fun _ => false) U x
      · rfl
      · obtain ⟨⟨r, _, h⟩, _⟩ := nb_iff.mp e
        cases h
    rw [this]
    exact Nat.zero_le _
  | n + 1, row, U, hr => by
    have up : ∀ {T : Nat → Bool}, In T (row + 1) n → In T row (n + 1) := fun h r hT => by
      have := h r hT
      omega
    obtain ⟨T0, i0, l0⟩ := koenig ps h4 n (row + 1) U (by omega)
    rw [mostN_succ]
    have hge := step_ge ps ps n row U (mostN ps n (row + 1) U)
    by_cases hb : mostN ps n (row + 1) U + 1 ≤ ps.foldl (stepN ps n row U) (mostN ps n (row + 1) U)
    · exact ⟨T0, up i0, by omega⟩
    · -- each column of the row is met
      have each : ∀ cs : List Nat, (∀ c ∈ cs, (row, c) ∈ ps ∧ c ∉ U) → ∃ T, In T (row + 1) n ∧ n + cnt 4 (nb ps T U) ≤ mostN ps n (row + 1) U + cnt 4 T ∧ ∀ c ∈ cs, nb ps T U c = true := by
        intro cs
        induction cs with
        | nil => exact fun _ => ⟨T0, i0, l0, fun _ h => by cases h⟩
        | cons c cs ih =>
          intro h
          obtain ⟨T1, i1, l1, m1⟩ := ih fun d hd => h d (.tail _ hd)
          obtain ⟨hc, hu⟩ := h c (.head _)
          have c4 : c < 4 := h4 _ hc
          have hhit := step_hit ps ps n row U hc hu (mostN ps n (row + 1) U)
          obtain ⟨T2, i2, l2⟩ := koenig ps h4 n (row + 1) (U ++ [c]) (by omega)
          -- as cheap for U, and meets c
          have sub : ∀ x, nb ps T2 U x = true → (nb ps T2 (U ++ [c]) x || x == c) = true := fun x hx => by
            obtain ⟨a, b⟩ := nb_iff.mp hx
            by_cases e : x = c
            · simp [e]
            · rw [nb_iff.mpr ⟨a, fun z => (List.mem_append.mp z).elim b fun z => e (by simpa using z)⟩]
              rfl
          have no : nb ps T2 (U ++ [c]) c = false := by
            cases e : nb ps T2 (U ++ [c]) c
            · rfl
            · exact absurd (List.mem_append.mpr (.inr (.head _))) (nb_iff.mp e).2
          have s1 := cnt_mono sub 4
          rw [cnt_put no 4 c4] at s1
          have w2 := weak ps h4 n (row + 1) U T2 (by omega) i2
          have met : nb ps T2 U c = true := by
            cases e : nb ps T2 U c
            · have s2 : cnt 4 (nb ps T2 U) ≤ cnt 4 (nb ps T2 (U ++ [c])) := cnt_mono (fun x hx => by
                have hx' := sub x hx
                have : x ≠ c := fun z => by subst z; rw [e] at hx; cases hx
                have e2 : (x == c) = false := by simpa using this
                rw [e2, Bool.or_false] at hx'
                exact hx') 4
              omega
            · rfl
          refine ⟨fun x => T1 x || T2 x, fun r h => ?_, ?_, ?_⟩
          · rw [Bool.or_eq_true] at h
            exact h.elim (i1 r) (i2 r)
          · have iw : In (fun x => T1 x && T2 x) (row + 1) n := fun r h => by
              rw [Bool.and_eq_true] at h
              exact i1 r h.1
            have ww := weak ps h4 n (row + 1) U _ (by omega) iw
            have a1 := cnt_or_and T1 T2 4
            have a2 := cnt_or_and (nb ps T1 U) (nb ps T2 U) 4
            have b1 : cnt 4 (nb ps (fun x => T1 x || T2 x) U) ≤ cnt 4 (fun x => nb ps T1 U x || nb ps T2 U x) := cnt_mono (fun x hx => by
              obtain ⟨⟨r, h1, h2⟩, h3⟩ := nb_iff.mp hx
              rw [Bool.or_eq_true] at h2 ⊢
              exact h2.imp (fun z => nb_iff.mpr ⟨⟨r, h1, z⟩, h3⟩) fun z => nb_iff.mpr ⟨⟨r, h1, z⟩, h3⟩) 4
            have b2 : cnt 4 (nb ps (fun x => T1 x && T2 x) U) ≤ cnt 4 (fun x => nb ps T1 U x && nb ps T2 U x) := cnt_mono (fun x hx => by
              obtain ⟨⟨r, h1, h2⟩, h3⟩ := nb_iff.mp hx
              rw [Bool.and_eq_true] at h2 ⊢
              exact ⟨nb_iff.mpr ⟨⟨r, h1, h2.1⟩, h3⟩, nb_iff.mpr ⟨⟨r, h1, h2.2⟩, h3⟩⟩) 4
            omega
          · intro d hd
            have : ∀ (T : Nat → Bool), (∀ x, T x = true → (T1 x || T2 x) = true) → nb ps T U d = true → nb ps (fun x => T1 x || T2 x) U d = true := fun T hT h => by
              obtain ⟨⟨r, h1, h2⟩, h3⟩ := nb_iff.mp h
              exact nb_iff.mpr ⟨⟨r, h1, hT r h2⟩, h3⟩
            rcases List.mem_cons.mp hd with e | hd
            · subst e
              exact this T2 (fun x hx => by rw [hx, Bool.or_true]) met
            · exact this T1 (fun x hx => by rw [hx]; rfl) (m1 d hd)
      obtain ⟨T, iT, lT, mT⟩ := each ((ps.filter fun p => decide (p.1 = row ∧ p.2 ∉ U)).map (·.2)) fun c hc => by
        obtain ⟨p, hp, rfl⟩ := List.mem_map.mp hc
        obtain ⟨h1, h2⟩ := List.mem_filter.mp hp
        have h2 := of_decide_eq_true h2
        exact ⟨by rw [← h2.1]; exact h1, h2.2⟩
      have no : T row = false := by
        cases e : T row
        · rfl
        · have := iT row e
          omega
      refine ⟨fun x => T x || x == row, fun r h => ?_, ?_⟩
      · rw [Bool.or_eq_true] at h
        rcases h with h | h
        · exact up iT r h
        · have : r = row := by simpa using h
          omega
      · rw [cnt_put no 4 (by omega)]
        have b1 : cnt 4 (nb ps (fun x => T x || x == row) U) ≤ cnt 4 (nb ps T U) := cnt_mono (fun x hx => by
          obtain ⟨⟨r, h1, h2⟩, h3⟩ := nb_iff.mp hx
          rw [Bool.or_eq_true] at h2
          rcases h2 with h2 | h2
          · exact nb_iff.mpr ⟨⟨r, h1, h2⟩, h3⟩
          · have e : r = row := by simpa using h2
            subst e
            exact mT x (List.mem_map.mpr ⟨(r, x), List.mem_filter.mpr ⟨h1, decide_eq_true ⟨rfl, h3⟩⟩, rfl⟩)) 4
        omega
end K71

set_option Elab.async false
set_option linter.all false
set_option maxRecDepth 100000
set_option maxHeartbeats 4000000
/-! The program's rooks and covers are best ones; no Python here. -/
namespace K71
/-! ### the program's rooks -/
def stR (ps : List Pl) (n row : Nat) (taken found : List Pl) (p : Pl) : List Pl := if p.1 = row ∧ p.2 ∉ taken.map (·.2) then (if (mostR ps n (row + 1) (taken ++ [p])).length > found.length then mostR ps n (row + 1) (taken ++ [p]) else found) else found
theorem mostR_suc (ps : List Pl) (n row : Nat) (taken : List Pl) : mostR ps (n + 1) row taken = ps.foldl (stR ps n row taken) (mostR ps n (row + 1) taken) := by
  rw [mostR]
  rfl
theorem cols_put (taken : List Pl) (p : Pl) : (taken ++ [p]).map (·.2) = taken.map (·.2) ++ [p.2] := by
  rw [List.map_append]
  rfl
theorem mostR_len (ps : List Pl) : ∀ (n row : Nat) (taken : List Pl), (mostR ps n row taken).length = taken.length + mostN ps n row (taken.map (·.2))
  | 0, _, _ => rfl
  | n + 1, row, taken => by
    rw [mostR_suc, mostN_succ]
    have go : ∀ (qs : List Pl) (b : List Pl) (k : Nat), b.length = taken.length + k → (qs.foldl (stR ps n row taken) b).length = taken.length + qs.foldl (stepN ps n row (taken.map (·.2))) k := fun qs => by
      induction qs with
      | nil => exact fun b k h => h
      | cons p qs ih =>
        intro b k h
        refine ih _ _ ?_
        unfold stR stepN
        by_cases hc : p.1 = row ∧ p.2 ∉ taken.map (·.2)
        · rw [if_pos hc, if_pos hc]
          have e := mostR_len ps n (row + 1) (taken ++ [p])
          rw [cols_put, List.length_append, List.length_singleton] at e
          split
          · rename_i g
            rw [e]
            omega
          · rename_i g
            rw [h]
            omega
        · rw [if_neg hc, if_neg hc, h]
    exact go ps _ _ (mostR_len ps n (row + 1) taken)
/-- taken, and behind it places in rising rows, from row on -/
def Grow (ps : List Pl) (row : Nat) (taken res : List Pl) : Prop := ∃ rest, res = taken ++ rest ∧ (∀ p ∈ rest, p ∈ ps ∧ row ≤ p.1) ∧ rest.Pairwise (fun p q => p.1 < q.1) ∧ (res.map (·.2)).Nodup
theorem mostR_grow (ps : List Pl) : ∀ (n row : Nat) (taken : List Pl), (taken.map (·.2)).Nodup → Grow ps row taken (mostR ps n row taken)
  | 0, row, taken, h => ⟨[], (List.append_nil _).symm, fun p z => absurd z List.not_mem_nil, .nil, h⟩
  | n + 1, row, taken, h => by
    rw [mostR_suc]
    have go : ∀ (qs : List Pl) (b : List Pl), (∀ p ∈ qs, p ∈ ps) → Grow ps row taken b → Grow ps row taken (qs.foldl (stR ps n row taken) b) := fun qs => by
      induction qs with
      | nil => exact fun b _ g => g
      | cons p qs ih =>
        intro b hs g
        refine ih _ (fun q hq => hs q (.tail _ hq)) ?_
        unfold stR
        split
        · rename_i hc
          split
          · have hn : ((taken ++ [p]).map (·.2)).Nodup := by
              rw [cols_put, List.nodup_append]
              exact ⟨h, by simp, fun a ha b hb e => hc.2 (by rw [List.mem_singleton.mp hb] at e; exact e ▸ ha)⟩
            obtain ⟨rest, e, a, b', c⟩ := mostR_grow ps n (row + 1) (taken ++ [p]) hn
            refine ⟨p :: rest, by rw [e, List.append_assoc]; rfl, fun q hq => ?_, List.pairwise_cons.mpr ⟨fun q hq => ?_, b'⟩, c⟩
            · rcases List.mem_cons.mp hq with rfl | hq
              · exact ⟨hs _ (.head _), by omega⟩
              · exact ⟨(a q hq).1, by have := (a q hq).2; omega⟩
            · have := (a q hq).2
              omega
          · exact g
        · exact g
    refine go ps _ (fun p hp => hp) ?_
    obtain ⟨rest, e, a, b, c⟩ := mostR_grow ps n (row + 1) taken h
    exact ⟨rest, e, fun p hp => ⟨(a p hp).1, by have := (a p hp).2; omega⟩, b, c⟩
/-- the program's rooks of a board -/
abbrev rk (ps : List Pl) (t : Nat) : List Pl := mostR ps t 0 []
abbrev due (ps : List Pl) (t : Nat) : Nat := mostN ps t 0 []
theorem rk_len (ps : List Pl) (t : Nat) : (rk ps t).length = due ps t := by
  have := mostR_len ps t 0 []
  simpa using this
theorem rk_srt (ps : List Pl) (t : Nat) : (rk ps t).Pairwise (fun p q => p.1 < q.1) := by
  obtain ⟨rest, e, _, b, _⟩ := mostR_grow ps t 0 [] .nil
  show (mostR ps t 0 []).Pairwise _
  rw [e]
  exact b
theorem rk_spare (ps : List Pl) (t : Nat) : Spare ps (rk ps t) := by
  obtain ⟨rest, e, a, b, c⟩ := mostR_grow ps t 0 [] .nil
  have e' : mostR ps t 0 [] = rest := e
  refine ⟨fun p hp => (a p (e' ▸ hp)).1, ?_, c⟩
  show ((mostR ps t 0 []).map (·.1)).Nodup
  rw [e']
  exact List.Pairwise.map _ (fun p q h z => by omega) b
/-! ### no lot of sparing places is greater -/
theorem nodup_cnt {k : Nat} : ∀ {l : List Nat} {f : Nat → Bool}, l.Nodup → (∀ x ∈ l, x < k ∧ f x = true) → l.length ≤ cnt k f
  | [], f, _, _ => Nat.zero_le _
  | a :: l, f, hn, h => by
    have hn' := List.nodup_cons.mp hn
    have ha := h a (.head _)
    have ih := nodup_cnt (l := l) (f := fun x => f x && !(x == a)) hn'.2 fun x hx => by
      have hx' := h x (.tail _ hx)
      have : x ≠ a := fun z => hn'.1 (z ▸ hx)
      exact ⟨hx'.1, by simp [hx'.2, this]⟩
    have := cnt_out ha.2 k ha.1
    rw [List.length_cons]
    omega
theorem cnt_lt : ∀ (k t : Nat), t ≤ k → cnt k (fun x => decide (x < t)) = t
  | 0, t, h => by show 0 = t; omega
  | k + 1, t, h => by
    show cnt k _ + (decide (k < t)).toNat = t
    by_cases e : t = k + 1
    · rw [decide_eq_true (by omega), cnt_congr (g := fun x => decide (x < k)) k fun x hx => by rw [decide_eq_true (by omega), decide_eq_true (by omega)], cnt_lt k k (Nat.le_refl _)]
      show k + 1 = t
      omega
    · rw [decide_eq_false (by omega), cnt_lt k t (by omega)]
      rfl
theorem cnt_not {T : Nat → Bool} {t : Nat} (h4 : t ≤ 4) (hT : In T 0 t) : cnt 4 (fun x => decide (x < t) && !T x) + cnt 4 T = t := by
  have a := cnt_or_and (fun x => decide (x < t) && !T x) T 4
  have b : cnt 4 (fun x => (decide (x < t) && !T x) || T x) = t := by
    refine Eq.trans (cnt_congr 4 fun x _ => ?_) (cnt_lt 4 t h4)
    cases e : T x
    · simp
    · have := (hT x e).2
      simp; omega
  have c : cnt 4 (fun x => (decide (x < t) && !T x) && T x) = 0 := cnt_zero 4 fun x _ => by
    cases T x <;> simp
  omega
/-- a board's places, loosely -/
structure Loose (t : Nat) (ps : List Pl) : Prop where
  t4 : t ≤ 4
  inn : ∀ p ∈ ps, p.1 < t ∧ p.2 < 4
theorem Board.loose {t w : Nat} {ps : List Pl} (b : Board t w ps) : Loose t ps := ⟨b.t4, fun p hp => ⟨(b.inn p hp).1, by have := (b.inn p hp).2; have := b.w4; omega⟩⟩
theorem spare_le {t : Nat} {ps m : List Pl} (b : Loose t ps) (s : Spare ps m) : m.length ≤ due ps t := by
  obtain ⟨T, iT, lT⟩ := koenig ps (fun p hp => (b.inn p hp).2) t 0 [] (by have := b.t4; omega)
  have e : m.length = (m.filter fun p => T p.1).length + (m.filter fun p => !T p.1).length := by
    clear s
    induction m with
    | nil => rfl
    | cons p m ih =>
      rw [List.filter_cons, List.filter_cons]
      cases T p.1 <;> simp [ih] <;> omega
  have a1 : (m.filter fun p => !T p.1).length ≤ cnt 4 (fun x => decide (x < t) && !T x) := by
    have := nodup_cnt (k := 4) (l := (m.filter fun p => !T p.1).map (·.1)) (f := fun x => decide (x < t) && !T x) (List.Nodup.sublist ((List.filter_sublist).map _) s.rows) fun x hx => by
      obtain ⟨p, hp, rfl⟩ := List.mem_map.mp hx
      obtain ⟨h1, h2⟩ := List.mem_filter.mp hp
      have h3 := b.inn p (s.sub p h1)
      have := b.t4
      exact ⟨by omega, by rw [decide_eq_true h3.1]; exact h2⟩
    rwa [List.length_map] at this
  have a2 : (m.filter fun p => T p.1).length ≤ cnt 4 (nb ps T []) := by
    have := nodup_cnt (k := 4) (l := (m.filter fun p => T p.1).map (·.2)) (f := nb ps T []) (List.Nodup.sublist ((List.filter_sublist).map _) s.cols) fun x hx => by
      obtain ⟨p, hp, rfl⟩ := List.mem_map.mp hx
      obtain ⟨h1, h2⟩ := List.mem_filter.mp hp
      exact ⟨(b.inn p (s.sub p h1)).2, nb_iff.mpr ⟨⟨p.1, s.sub p h1, h2⟩, by simp⟩⟩
    rwa [List.length_map] at this
  have := cnt_not b.t4 iT
  show m.length ≤ mostN ps t 0 []
  omega
/-! ### lots of rows -/
theorem lots_lt : ∀ (n : Nat) (l : List Nat), l ∈ lots n → ∀ x ∈ l, x < n
  | 0, l, h, x, hx => by
    rw [List.mem_singleton.mp h] at hx
    cases hx
  | n + 1, l, h, x, hx => by
    rw [lots, List.mem_append, List.mem_map] at h
    rcases h with h | ⟨m, h, rfl⟩
    · have := lots_lt n l h x hx
      omega
    · rcases List.mem_append.mp hx with hx | hx
      · have := lots_lt n m h x hx
        omega
      · rw [List.mem_singleton.mp hx]
        omega
theorem lots_is : ∀ (n : Nat) (l : List Nat), l ∈ lots n → (List.range n).filter (fun x => decide (x ∈ l)) = l
  | 0, l, h => by
    rw [List.mem_singleton.mp h]
    rfl
  | n + 1, l, h => by
    rw [lots, List.mem_append, List.mem_map] at h
    rw [List.range_succ, List.filter_append]
    rcases h with h | ⟨m, h, rfl⟩
    · have : n ∉ l := fun z => by have := lots_lt n l h n z; omega
      rw [lots_is n l h]
      simp [this]
    · have : (List.range n).filter (fun x => decide (x ∈ m ++ [n])) = (List.range n).filter (fun x => decide (x ∈ m)) := List.filter_congr fun x hx => by
        have := List.mem_range.mp hx
        refine decide_eq_decide.mpr ⟨fun z => (List.mem_append.mp z).elim id fun z => ?_, fun z => List.mem_append.mpr (.inl z)⟩
        have := List.mem_singleton.mp z
        omega
      rw [this, lots_is n m h]
      simp
theorem lots_all (f : Nat → Bool) : ∀ n, (List.range n).filter f ∈ lots n
  | 0 => .head _
  | n + 1 => by
    rw [List.range_succ, List.filter_append, lots, List.mem_append, List.mem_map]
    cases e : f n
    · exact .inl (by simp [e, lots_all f n])
    · exact .inr ⟨_, lots_all f n, by simp [e]⟩
theorem len_filter_range (f : Nat → Bool) : ∀ k, ((List.range k).filter f).length = cnt k f
  | 0 => rfl
  | k + 1 => by
    rw [List.range_succ, List.filter_append, List.length_append, len_filter_range f k]
    show _ = cnt k f + (f k).toNat
    cases e : f k <;> simp [e]
theorem cnt_more (f : Nat → Bool) {t : Nat} : ∀ k, t ≤ k → (∀ x, t ≤ x → f x = false) → cnt k f = cnt t f
  | 0, h, _ => by rw [Nat.le_zero.mp h]
  | k + 1, h, hf => by
    by_cases e : t = k + 1
    · rw [e]
    · show cnt k f + (f k).toNat = _
      rw [cnt_more f k (by omega) hf, hf k (by omega)]
      rfl
theorem size_T {t : Nat} {ps : List Pl} (b : Loose t ps) {T : Nat → Bool} (hT : In T 0 t) : sizeOf' ps ((List.range t).filter fun x => !T x) + cnt 4 T = t + cnt 4 (nb ps T []) := by
  unfold sizeOf'
  have e1 : ((List.range t).filter fun x => !T x).length = cnt 4 (fun x => decide (x < t) && !T x) := by
    rw [len_filter_range, cnt_more _ 4 b.t4 fun x hx => by rw [decide_eq_false (by omega)]; rfl]
    exact cnt_congr t fun x hx => by rw [decide_eq_true hx]; rfl
  have e2 : (colsOf ps ((List.range t).filter fun x => !T x)).length = cnt 4 (nb ps T []) := by
    unfold colsOf
    rw [len_filter_range]
    refine cnt_congr 4 fun c _ => ?_
    rw [Bool.eq_iff_iff, List.any_eq_true, nb_iff]
    constructor
    · rintro ⟨p, hp, h⟩
      rw [Bool.and_eq_true] at h
      have h2 : p.2 = c := by simpa using h.2
      have h1 := h.1
      have hp1 := (b.inn p hp).1
      refine ⟨⟨p.1, h2 ▸ hp, ?_⟩, by simp⟩
      cases e : T p.1
      · simp [e, hp1] at h1
      · rfl
    · rintro ⟨⟨r, hp, h⟩, _⟩
      exact ⟨(r, c), hp, by simp [h]⟩
  have := cnt_not b.t4 hT
  omega
theorem lot_T {t : Nat} {l : List Nat} (h : l ∈ lots t) : l = (List.range t).filter fun x => !(decide (x < t) && !decide (x ∈ l)) := by
  have e := lots_is t l h
  refine e.symm.trans (List.filter_congr fun x hx => ?_)
  rw [decide_eq_true (List.mem_range.mp hx)]
  simp
theorem lot_In {t : Nat} {l : List Nat} : In (fun x => decide (x < t) && !decide (x ∈ l)) 0 t := fun r h => by
  rw [Bool.and_eq_true] at h
  have := of_decide_eq_true h.1
  omega
theorem size_ge {t : Nat} {ps : List Pl} (b : Loose t ps) {l : List Nat} (h : l ∈ lots t) : due ps t ≤ sizeOf' ps l := by
  have e := size_T b (lot_In (t := t) (l := l))
  rw [← lot_T h] at e
  have w := weak ps (fun p hp => (b.inn p hp).2) t 0 [] _ (by have := b.t4; omega) (lot_In (t := t) (l := l))
  show mostN ps t 0 [] ≤ _
  omega
theorem size_hit {t : Nat} {ps : List Pl} (b : Loose t ps) : ∃ l, l ∈ lots t ∧ sizeOf' ps l ≤ due ps t := by
  obtain ⟨T, iT, lT⟩ := koenig ps (fun p hp => (b.inn p hp).2) t 0 [] (by have := b.t4; omega)
  have e := size_T b iT
  refine ⟨_, lots_all (fun x => !T x) t, ?_⟩
  show _ ≤ mostN ps t 0 []
  omega
theorem fold_min {α : Type} (f : α → Nat) : ∀ (xs : List α) (b : Nat), xs.foldl (fun m x => min m (f x)) b ≤ b ∧ (∀ x ∈ xs, xs.foldl (fun m x => min m (f x)) b ≤ f x) ∧ (xs.foldl (fun m x => min m (f x)) b = b ∨ ∃ x ∈ xs, xs.foldl (fun m x => min m (f x)) b = f x)
  | [], b => ⟨Nat.le_refl _, fun _ h => (by cases h), .inl rfl⟩
  | y :: xs, b => by
    obtain ⟨h1, h2, h3⟩ := fold_min f xs (min b (f y))
    rw [List.foldl_cons]
    refine ⟨Nat.le_trans h1 (Nat.min_le_left ..), fun x hx => ?_, ?_⟩
    · rcases List.mem_cons.mp hx with rfl | hx
      · exact Nat.le_trans h1 (Nat.min_le_right ..)
      · exact h2 x hx
    · rcases h3 with h3 | ⟨x, hx, h3⟩
      · rcases Nat.le_total b (f y) with g | g
        · exact .inl (h3.trans (Nat.min_eq_left g))
        · exact .inr ⟨y, .head _, h3.trans (Nat.min_eq_right g)⟩
      · exact .inr ⟨x, .tail _ hx, h3⟩
theorem cols_le4 (ps : List Pl) (rows : List Nat) : (colsOf ps rows).length ≤ 4 := by
  unfold colsOf
  have := List.length_filter_le (fun c => ps.any fun p => !rows.contains p.1 && p.2 == c) (List.range 4)
  rwa [List.length_range] at this
theorem nil_lots : ∀ t, [] ∈ lots t
  | 0 => .head _
  | t + 1 => by
    rw [lots, List.mem_append]
    exact .inl (nil_lots t)
theorem due_le4 {t : Nat} {ps : List Pl} (b : Loose t ps) : due ps t ≤ 4 := by
  have h := size_ge b (nil_lots t)
  have := cols_le4 ps []
  unfold sizeOf' at h
  simp at h
  omega
theorem fewest_eq {t : Nat} {ps : List Pl} (b : Loose t ps) : fewestN ps t = due ps t := by
  obtain ⟨h1, h2, h3⟩ := fold_min (sizeOf' ps) (lots t) 99
  obtain ⟨l, hl, g⟩ := size_hit b
  have := h2 l hl
  have d4 := due_le4 b
  show (lots t).foldl (fun found rows => min found (sizeOf' ps rows)) 99 = _
  rcases h3 with h3 | ⟨x, hx, h3⟩
  · omega
  · have := size_ge b hx
    omega
theorem best_of (f : List Nat → Nat) : ∀ (xs : List (List Nat)) (b : List Nat), bestOf f xs b ∈ b :: xs ∧ ∀ x ∈ b :: xs, f (bestOf f xs b) ≤ f x
  | [], b => ⟨.head _, fun x hx => by rw [List.mem_singleton.mp hx]; exact Nat.le_refl _⟩
  | y :: xs, b => by
    rw [bestOf]
    obtain ⟨h1, h2⟩ := best_of f xs (if f y < f b then y else b)
    refine ⟨?_, fun x hx => ?_⟩
    · rcases List.mem_cons.mp h1 with e | h
      · rw [e]
        split
        · exact .tail _ (.head _)
        · exact .head _
      · exact .tail _ (.tail _ h)
    · have h0 := h2 _ (.head _)
      rcases List.mem_cons.mp hx with rfl | hx
      · refine Nat.le_trans h0 ?_
        split <;> omega
      · rcases List.mem_cons.mp hx with rfl | hx
        · refine Nat.le_trans h0 ?_
          split <;> omega
        · exact h2 x (.tail _ hx)
theorem lots_cons : ∀ n, lots n = [] :: (lots n).tail
  | 0 => rfl
  | n + 1 => by
    rw [lots, lots_cons n]
    rfl
theorem cover_lot (ps : List Pl) (t : Nat) : coverRows ps t ∈ lots t := by
  have := (best_of (sizeOf' ps) (lots t).tail []).1
  rwa [← lots_cons] at this
theorem cover_size {t : Nat} {ps : List Pl} (b : Loose t ps) : sizeOf' ps (coverRows ps t) = due ps t := by
  have h1 := (best_of (sizeOf' ps) (lots t).tail []).2
  rw [← lots_cons] at h1
  obtain ⟨l, hl, g⟩ := size_hit b
  have h2 := h1 l hl
  have h3 := size_ge b (cover_lot ps t)
  unfold coverRows at h3 ⊢
  omega
end K71

set_option Elab.async false
set_option linter.all false
set_option maxRecDepth 100000
set_option maxHeartbeats 4000000
/-! A board turned about, a board less a place; no Python here. -/
namespace K71
theorem ltP_asym {p q : Pl} (h : ltP p q) (h' : ltP q p) : False := by
  unfold ltP at h h'
  omega
theorem ltP_irr {p : Pl} (h : ltP p p) : False := ltP_asym h h
/-- a rising list is told by what is in it -/
theorem ltP_uniq : ∀ {xs ys : List Pl}, xs.Pairwise ltP → ys.Pairwise ltP → (∀ k, k ∈ xs ↔ k ∈ ys) → xs = ys
  | [], [], _, _, _ => rfl
  | [], y :: ys, _, _, h => by
    have := (h y).mpr (.head _)
    cases this
  | x :: xs, [], _, _, h => by
    have := (h x).mp (.head _)
    cases this
  | x :: xs, y :: ys, hx, hy, h => by
    have hx' := List.pairwise_cons.mp hx
    have hy' := List.pairwise_cons.mp hy
    have e : x = y := by
      have a := (h x).mp (.head _)
      have b := (h y).mpr (.head _)
      rcases List.mem_cons.mp a with a | a
      · exact a
      · rcases List.mem_cons.mp b with b | b
        · exact b.symm
        · exact (ltP_asym (hx'.1 y b) (hy'.1 x a)).elim
    subst e
    rw [ltP_uniq hx'.2 hy'.2 fun k => ?_]
    constructor
    · intro hk
      have h1 := hx'.1 k hk
      rcases List.mem_cons.mp ((h k).mp (.tail _ hk)) with e | m
      · exact (ltP_irr (e ▸ h1)).elim
      · exact m
    · intro hk
      have h1 := hy'.1 k hk
      rcases List.mem_cons.mp ((h k).mpr (.tail _ hk)) with e | m
      · exact (ltP_irr (e ▸ h1)).elim
      · exact m
def grid16 : List Pl := [(0,0),(0,1),(0,2),(0,3),(1,0),(1,1),(1,2),(1,3),(2,0),(2,1),(2,2),(2,3),(3,0),(3,1),(3,2),(3,3)]
theorem grid_srt : grid16.Pairwise ltP := by decide +kernel
theorem grid_mem {p : Pl} (h1 : p.1 < 4) (h2 : p.2 < 4) : p ∈ grid16 := by
  obtain ⟨a, b⟩ := p
  have h1 : a < 4 := h1
  have h2 : b < 4 := h2
  rcases a with _ | _ | _ | _ | a <;> rcases b with _ | _ | _ | _ | b <;> first | decide | omega
abbrev sw (p : Pl) : Pl := (p.2, p.1)
/-- the board turned about -/
def turnP (ps : List Pl) : List Pl := grid16.filter fun q => decide (sw q ∈ ps)
theorem turn_mem {t : Nat} {ps : List Pl} (b : Loose t ps) (q : Pl) : q ∈ turnP ps ↔ sw q ∈ ps := by
  unfold turnP
  rw [List.mem_filter, decide_eq_true_eq]
  refine ⟨fun h => h.2, fun h => ⟨grid_mem ?_ ?_, h⟩⟩
  · exact (b.inn _ h).2
  · have := (b.inn _ h).1
    have := b.t4
    show (sw q).1 < 4
    omega
theorem turn_srt (ps : List Pl) : (turnP ps).Pairwise ltP := List.Pairwise.filter _ grid_srt
theorem turn_board {t w : Nat} {ps : List Pl} (b : Board t w ps) : Board w t (turnP ps) := by
  refine ⟨b.w1, b.w4, b.t1, b.t4, ?_, ?_, fun q hq => ?_, turn_srt ps⟩
  · have h1 := b.n1
    cases ps with
    | nil => exact absurd h1 (by decide)
    | cons p ps =>
      refine List.length_pos_of_mem (a := sw p) ((turn_mem b.loose _).mpr (.head _))
  · exact List.length_filter_le _ _
  · have := b.inn _ ((turn_mem b.loose q).mp hq)
    exact ⟨this.2, this.1⟩
theorem map_sw1 (m : List Pl) : (m.map sw).map (·.1) = m.map (·.2) := by rw [List.map_map]; rfl
theorem map_sw2 (m : List Pl) : (m.map sw).map (·.2) = m.map (·.1) := by rw [List.map_map]; rfl
theorem spare_turn {t : Nat} {ps m : List Pl} (b : Loose t ps) (s : Spare ps m) : Spare (turnP ps) (m.map sw) := by
  refine ⟨fun q hq => ?_, by rw [map_sw1]; exact s.cols, by rw [map_sw2]; exact s.rows⟩
  obtain ⟨p, hp, rfl⟩ := List.mem_map.mp hq
  exact (turn_mem b _).mpr (s.sub p hp)
theorem spare_back {t : Nat} {ps m : List Pl} (b : Loose t ps) (s : Spare (turnP ps) m) : Spare ps (m.map sw) := by
  refine ⟨fun q hq => ?_, by rw [map_sw1]; exact s.cols, by rw [map_sw2]; exact s.rows⟩
  obtain ⟨p, hp, rfl⟩ := List.mem_map.mp hq
  exact (turn_mem b _).mp (s.sub p hp)
theorem due_turn {t w : Nat} {ps : List Pl} (b : Board t w ps) : due (turnP ps) w = due ps t := by
  have h1 := spare_le (turn_board b).loose (spare_turn b.loose (rk_spare ps t))
  have h2 := spare_le b.loose (spare_back b.loose (rk_spare (turnP ps) w))
  rw [List.length_map, rk_len] at h1 h2
  omega
theorem spare_drop {ps m : List Pl} (s : Spare ps m) (n : Nat) : Spare ps (m.drop n) :=
  ⟨fun p hp => s.sub p (List.mem_of_mem_drop hp), List.Nodup.sublist ((List.drop_sublist ..).map _) s.rows, List.Nodup.sublist ((List.drop_sublist ..).map _) s.cols⟩
theorem due_pos {t w : Nat} {ps : List Pl} (b : Board t w ps) : 1 ≤ due ps t := by
  have h1 := b.n1
  cases ps with
  | nil => exact absurd h1 (by decide)
  | cons p ps => exact spare_le (m := [p]) b.loose ⟨fun q hq => by rw [List.mem_singleton.mp hq]; exact .head _, by simp, by simp⟩
/-! ### less a place -/
def leftP (ps : List Pl) (i : Nat) : List Pl := ps.take i ++ ps.drop (i + 1)
theorem left_sub (ps : List Pl) (i : Nat) : (leftP ps i).Sublist ps := by
  have h := List.Sublist.append (List.Sublist.refl (ps.take i)) (List.drop_sublist 1 (ps.drop i))
  rw [List.drop_drop, List.take_append_drop] at h
  exact h
theorem left_board {t w : Nat} {ps : List Pl} (b : Board t w ps) {i : Nat} (h : leftP ps i ≠ []) : Board t w (leftP ps i) :=
  ⟨b.t1, b.t4, b.w1, b.w4, List.length_pos_iff.mpr h, Nat.le_trans (left_sub ps i).length_le b.n16, fun p hp => b.inn p ((left_sub ps i).mem hp), List.Pairwise.sublist (left_sub ps i) b.srt⟩
theorem left_mem {ps : List Pl} {i : Nat} {o p : Pl} (ho : ps[i]? = some o) (hp : p ∈ ps) (hne : p ≠ o) : p ∈ leftP ps i := by
  have hs : ps.take i ++ o :: ps.drop (i + 1) = ps := by
    obtain ⟨hi, e⟩ := List.getElem?_eq_some_iff.mp ho
    rw [← e, ← List.drop_eq_getElem_cons hi, List.take_append_drop]
  rw [← hs] at hp
  rcases List.mem_append.mp hp with h | h
  · exact List.mem_append.mpr (.inl h)
  · rcases List.mem_cons.mp h with e | h
    · exact absurd e hne
    · exact List.mem_append.mpr (.inr h)
theorem len_out {o : Pl} : ∀ {m : List Pl}, (m.map (·.1)).Nodup → m.length ≤ (m.filter fun p => decide (p ≠ o)).length + 1
  | [], _ => Nat.zero_le _
  | p :: m, h => by
    rw [List.map_cons] at h
    have hn := List.nodup_cons.mp h
    rw [List.filter_cons]
    by_cases e : p = o
    · have : m.filter (fun p => decide (p ≠ o)) = m := List.filter_eq_self.mpr fun q hq => decide_eq_true fun z => hn.1 (by rw [e, ← z]; exact List.mem_map.mpr ⟨q, hq, rfl⟩)
      rw [if_neg (by rw [decide_eq_true_eq]; exact fun z => z e), this]
      exact Nat.le_refl _
    · have := len_out (o := o) hn.2
      rw [if_pos (by rw [decide_eq_true_eq]; exact e), List.length_cons, List.length_cons]
      omega
theorem due_left {t w : Nat} {ps : List Pl} (b : Board t w ps) {i : Nat} (hi : i < ps.length) (h : leftP ps i ≠ []) : due (leftP ps i) t ≤ due ps t ∧ due ps t ≤ due (leftP ps i) t + 1 := by
  have s1 := rk_spare (leftP ps i) t
  have h1 := spare_le b.loose (m := rk (leftP ps i) t) ⟨fun p hp => (left_sub ps i).mem (s1.sub p hp), s1.rows, s1.cols⟩
  rw [rk_len] at h1
  refine ⟨h1, ?_⟩
  have s2 := rk_spare ps t
  have ho : ps[i]? = some ps[i] := List.getElem?_eq_getElem hi
  have s3 : Spare (leftP ps i) ((rk ps t).filter fun p => decide (p ≠ ps[i])) := ⟨fun p hp => by
    obtain ⟨a, c⟩ := List.mem_filter.mp hp
    exact left_mem ho (s2.sub p a) (of_decide_eq_true c), List.Nodup.sublist ((List.filter_sublist).map _) s2.rows, List.Nodup.sublist ((List.filter_sublist).map _) s2.cols⟩
  have h2 := spare_le (left_board b h).loose s3
  have h3 := len_out (o := ps[i]) s2.rows
  rw [rk_len] at h3
  omega
/-! ### covers -/
theorem lot_mem {t : Nat} {l : List Nat} (h : l ∈ lots t) : ∀ x ∈ l, x < t := lots_lt t l h
theorem lot_nodup {t : Nat} {l : List Nat} (h : l ∈ lots t) : l.Nodup := by
  rw [← lots_is t l h]
  exact List.Pairwise.filter _ List.nodup_range
theorem cols_nodup (ps : List Pl) (rows : List Nat) : (colsOf ps rows).Nodup := List.Pairwise.filter _ List.nodup_range
theorem cols_w {t w : Nat} {ps : List Pl} (b : Board t w ps) (rows : List Nat) : ∀ x ∈ colsOf ps rows, x < w := fun x hx => by
  obtain ⟨_, h⟩ := List.mem_filter.mp hx
  obtain ⟨p, hp, h⟩ := List.any_eq_true.mp h
  rw [Bool.and_eq_true] at h
  have : p.2 = x := by simpa using h.2
  exact this ▸ (b.inn p hp).2
theorem cols_is {t w : Nat} {ps : List Pl} (b : Board t w ps) (rows : List Nat) : (List.range w).filter (fun x => decide (x ∈ colsOf ps rows)) = colsOf ps rows := by
  have h4 := b.w4
  have hw := cols_w b rows
  have e : (List.range w).filter (fun x => decide (x ∈ colsOf ps rows)) = (List.range 4).filter (fun x => decide (x ∈ colsOf ps rows)) := by
    have : ∀ n, w ≤ n → (List.range n).filter (fun x => decide (x ∈ colsOf ps rows)) = (List.range w).filter (fun x => decide (x ∈ colsOf ps rows)) := fun n => by
      induction n with
      | zero => intro h; rw [Nat.le_zero.mp h]
      | succ n ih =>
        intro h
        by_cases e : w = n + 1
        · rw [e]
        · rw [List.range_succ, List.filter_append, ih (by omega)]
          have : n ∉ colsOf ps rows := fun z => by have := hw n z; omega
          simp [this]
    exact (this 4 h4).symm
  rw [e]
  unfold colsOf
  refine List.filter_congr fun x hx => ?_
  rw [Bool.eq_iff_iff, decide_eq_true_eq, List.mem_filter]
  exact ⟨fun h => h.2, fun h => ⟨hx, h⟩⟩
theorem covers_all {t w : Nat} {ps : List Pl} (b : Board t w ps) (rows : List Nat) : (ps.all fun p => decide (p.1 ∈ rows) || decide (p.2 ∈ colsOf ps rows)) = true := by
  rw [List.all_eq_true]
  intro p hp
  rw [Bool.or_eq_true, decide_eq_true_eq, decide_eq_true_eq]
  by_cases h : p.1 ∈ rows
  · exact .inl h
  · refine .inr (List.mem_filter.mpr ⟨List.mem_range.mpr ?_, List.any_eq_true.mpr ⟨p, hp, ?_⟩⟩)
    · have := (b.inn p hp).2
      have := b.w4
      omega
    · simp [h]
theorem covers_turn {t : Nat} {ps : List Pl} (b : Loose t ps) {rows cols : List Nat} (h : (ps.all fun p => decide (p.1 ∈ rows) || decide (p.2 ∈ cols)) = true) : ((turnP ps).all fun p => decide (p.1 ∈ cols) || decide (p.2 ∈ rows)) = true := by
  rw [List.all_eq_true] at h ⊢
  intro q hq
  have := h _ ((turn_mem b q).mp hq)
  rw [Bool.or_eq_true] at this ⊢
  exact this.symm
end K71

set_option Elab.async false
set_option linter.all false
set_option maxRecDepth 100000
set_option maxHeartbeats 4000000
/-! The law's own counts. -/
namespace K71
open PySem L2 GD RQ
/-- the law's count of sparing places, n rows from row on -/
def Fmo (n : Nat) (ds : List PyData) (r : PyData) : Prop := ∃ (t row : Nat) (ps : List Pl) (used : List Nat), ps.length ≤ 16 ∧ row + n = t ∧ t ≤ 4 ∧ used.length ≤ row ∧ ds = [N t, .list (psD ps), N row, .list (nsD used)] ∧ r = N (mostN ps n row used)
abbrev Fmo4 (ds : List PyData) (r : PyData) : Prop := ∃ n, n ≤ 4 ∧ Fmo n ds r
def Ffe (ds : List PyData) (r : PyData) : Prop := ∃ (t w : Nat) (ps : List Pl), Board t w ps ∧ ds = [N t, .list (psD ps)] ∧ r = N (fewestN ps t)
theorem map_ent {α : Type} (f : α → Nat) (xs : List α) : xs.map (fun x => PyData.tuple [N (f x), .bool true]) = (toI (xs.map f)).map fun k => .tuple [.int k, .bool true] := by
  rw [List.map_map, List.map_map]
  rfl
/-- as many keys as unlike ones -/
theorem dk_len {ns ms : List Nat} (h : ms.Nodup) (hm : ∀ c, c ∈ ms ↔ c ∈ ns) : (dk [] (toI ns)).length = ms.length := by
  have := len_same (dk_nodup (toI ns) [] .nil) (nodup_int h) fun k => by
    rw [dk_mem]
    simp only [List.not_mem_nil, false_or, List.mem_map]
    exact ⟨fun ⟨a, b, c⟩ => ⟨a, (hm a).mpr b, c⟩, fun ⟨a, b, c⟩ => ⟨a, (hm a).mp b, c⟩⟩
  rw [this, List.length_map]
section
variable {P : Program} {w : World} {K : PySem.W.Frag} {mg : Str → Option Value} {base : Heap}
abbrev nMo : List Str := ["_law_tall", "_law_places", "_law_row", "_law_used", "_law_found", "_law_near", "_law_column"]
theorem scMo : FnScope nMo ["_law_tall", "_law_places", "_law_row", "_law_used"] (defScope sMo) := ⟨rfl, rfl, rfl, by decide +kernel, rfl, by decide +kernel, by decide +kernel⟩
theorem ok_mo {f : Addr} {fd : FuncData} (F : Fun K "_law_most" "_law_most" sMo f fd) (B : Blt mg) (m : mg "_law_most" = some (.ref f)) (k : PySem.W.keepIn K (.ref f) = true) (b : Binds K fd ["_law_tall", "_law_places", "_law_row", "_law_used"] []) : ∀ n, FnOk P w K mg base CX0 (n + 1) f fd ["_law_tall", "_law_places", "_law_row", "_law_used"] (SpG (Fmo n))
  | 0 => by
    refine F.ok scMo (fun vs H Q E h => h.len (n := 4) (by rintro ds r ⟨t, row, ps, used, _, _, _, _, rfl, _⟩; rfl)) (fun cdv A outer s H vs Q E hr h => ?_)
    refine ⟨_, PSs.nox (pss_cons (ps_if (pt_cmpR op_eq (pv 2) (pv 0) (nomark _)) (pss_one (ps_ret pe_int)) pss_nil) pss_never), h.body fun ds r hF => ?_⟩
    obtain ⟨t, row, ps, used, hl, ht, t4, hk, rfl, rfl⟩ := hF
    exact .seq_rt (.ifT (.eq (.tst (.op (.var rfl) (.var rfl) .eqI)) (decide_eq_true (by omega))) (.ret (.int 0)))
  | n + 1 => by
    refine F.ok scMo (fun vs H Q E h => h.len (n := 4) (by rintro ds r ⟨t, row, ps, used, _, _, _, _, rfl, _⟩; rfl)) (fun cdv A outer s H vs Q E hr h => ?_)
    have hu65 := u65 hr
    let dMo : Dn P w K mg base (n + 1) "_law_most" ["_law_tall", "_law_places", "_law_row", "_law_used"] (SpG (Fmo n)) := ⟨f, fd, ok_mo F B m k b n, m, k, b⟩
    refine ⟨_, pss_cons (ps_if (pt_cmpR op_eq (pv 2) (pv 0) (nomark _)) (pss_one (ps_ret pe_int)) pss_nil)
      (pss_cons (ps_set (i := 4) scMo.nd rfl (Or.inl rfl) (pe_call dMo.G hr (by rfl) dMo.m dMo.k dMo.b .nil pass0 (pa_cons (pv 0) (pa_cons (pv 1) (pa_cons (pe_op op_add (pv 2) pe_int) (pa_cons (pv 3) pa_nil))))))
      (pss_cons (ps_for PassesOwn.never rfl (pi_list (pv 1)) (pg_tup rfl (pgs_cons (pg_name (i := 5) scMo.nd rfl (Or.inl rfl)) (pgs_cons (pg_name (i := 6) scMo.nd rfl (Or.inl rfl)) pgs_nil))) (pss_one (ps_if (pw_and (pt_cmpR op_eq (pv 5) (pv 2) (nomark _)) (pw_and1 (pt_cmpR (op_notInD hu65) (pv 6) (pv 3) (by rfl)))).pt (pss_one (ps_set (i := 4) scMo.nd rfl (Or.inl rfl) (pe_callB (call_max2 rfl) (by rfl) B.max PyProof.Rows.boot_max (pa_cons (pv 4) (pa_cons (pe_op op_add pe_int (pe_call dMo.G hr (by rfl) dMo.m dMo.k dMo.b .nil pass0 (pa_cons (pv 0) (pa_cons (pv 1) (pa_cons (pe_op op_add (pv 2) pe_int) (pa_cons (pe_op op_cat (pv 3) (pe_lst (pa_cons (pv 6) pa_nil))) pa_nil)))))) pa_nil))))) pss_nil)))
      (pss_one (ps_ret (pv 4))))), h.body fun ds r hF => ?_⟩
    obtain ⟨t, row, ps, used, hl, ht, t4, hk, rfl, rfl⟩ := hF
    have e1 : ((row : Int) + 1) = ((row + 1 : Nat) : Int) := by omega
    refine .seq (.ifF (.eq (.tst (.op (.var rfl) (.var rfl) .eqI)) (decide_eq_false (by omega))) .next) ?_
    refine .seq (.set (.call (.cons (.var rfl) (.cons (.var rfl) (.cons (.eq (.op (.var rfl) (.int 1) .add) (by rw [e1])) (.cons (.var rfl) .nil)))) ⟨t, row + 1, ps, used, hl, by omega, t4, by omega, rfl, rfl⟩)) ?_
    refine .seq (.for_ (.list (.var rfl)) (fun i => [some (N t), some (.list (psD ps)), some (N row), some (.list (nsD used)), some (N ((ps.take i).foldl (stepN ps n row used) (mostN ps n (row + 1) used))), none, none]) (.k (.k (.k (.k (.k (.f (.f .nil))))))) fun i d hd => ?_) (.ret (.eq (.var rfl) ?_))
    · obtain ⟨p, hp', rfl⟩ := get_ps hd
      rw [fold_take _ _ hp']
      generalize (ps.take i).foldl (stepN ps n row used) (mostN ps n (row + 1) used) = found
      refine ⟨_, _, .two, .inl ?_⟩
      have test : ∀ {g : List (Option PyData)}, g[5]? = some (some (N p.1)) → g[6]? = some (some (N p.2)) → g[2]? = some (some (N row)) → g[3]? = some (some (.list (nsD used))) → EvB (tAnd (tTest (tOp rEq (tVar 5) (tVar 2))) (tTest (tOp (rNotInD K) (tVar 6) (tVar 3)))) g (decide (p.1 = row ∧ p.2 ∉ used)) := fun h5 h6 h2 h3 =>
        .eq (.and (.tst (.op (.var h5) (.var h2) .eqI)) fun _ => .tst (.op (.var h6) (.var h3) (.notInD rfl (nds_ns _) (sh_N _) (sh_ns _)))) (by
          rw [in_ns, Bool.decide_and]
          congr 1
          · exact decide_eq_decide.mpr ⟨fun h => by omega, fun h => by omega⟩
          · rw [decide_not])
      by_cases hc : p.1 = row ∧ p.2 ∉ used
      · refine .ifT (.eq (test rfl rfl rfl rfl) (decide_eq_true hc)) ?_
        have hlen : (used ++ [p.2]).length ≤ row + 1 := by rw [List.length_append]; show _ + 1 ≤ _; omega
        have e2 : nsD (used ++ [p.2]) = nsD used ++ [N p.2] := List.map_append ..
        refine .less (.set (.max2 (.var rfl) (.op (.int 1) (.call (.cons (.var rfl) (.cons (.var rfl) (.cons (.eq (.op (.var rfl) (.int 1) .add) (by rw [e1])) (.cons (.eq (.op (.var rfl) (.lst (.cons (.var rfl) .nil) (by show 1 ≤ sizeLine; decide)) (.cat (by rw [len_nsD]; exact Nat.le_trans (by show used.length + 1 ≤ 5; omega) (by decide)))) (by rw [e2])) .nil)))) ⟨t, row + 1, ps, used ++ [p.2], hl, by omega, t4, hlen, rfl, rfl⟩) .add))) ?_
        have e3 : stepN ps n row used found p = max found (1 + mostN ps n (row + 1) (used ++ [p.2])) := by
          unfold stepN
          rw [if_pos hc]
        have e4 : PyData.int (if (1 : Int) + (mostN ps n (row + 1) (used ++ [p.2]) : Nat) > (found : Nat) then (1 : Int) + (mostN ps n (row + 1) (used ++ [p.2]) : Nat) else (found : Nat)) = N (stepN ps n row used found p) := by
          rw [e3]
          congr 1
          split <;> omega
        show Le _ [some (N t), some (.list (psD ps)), some (N row), some (.list (nsD used)), some (PyData.int _), some (N p.1), some (N p.2)]
        rw [e4]
        exact .k (.k (.k (.k (.k (.f (.f .nil))))))
      · refine .less (.ifF (.eq (test rfl rfl rfl rfl) (decide_eq_false hc)) .next) ?_
        unfold stepN
        rw [if_neg hc]
        exact .k (.k (.k (.k (.k (.f (.f .nil))))))
    · show N ((ps.take (psD ps).length).foldl _ _) = _
      rw [len_psD, List.take_length, mostN_succ]
abbrev nLl : List Str := ["_law_many", "_law_found", "_law_at", "_law_lot"]
theorem scLl : FnScope nLl ["_law_many"] (defScope sLl) := ⟨rfl, rfl, rfl, by decide +kernel, rfl, by decide +kernel, by decide +kernel⟩
theorem ok_ll {f : Addr} {fd : FuncData} (F : Fun K "_law_lots" "_law_lots" sLl f fd) (B : Blt mg) : FnOk P w K mg base CX0 1 f fd ["_law_many"] (SpG Flo) := by
  refine F.ok scLl (fun vs H Q E h => h.len (n := 1) (by rintro ds r ⟨n, _, rfl, _⟩; rfl)) (fun cdv A outer s H vs Q E hr h => ?_)
  refine ⟨_, pss_cons (ps_set (i := 1) scLl.nd rfl (Or.inl rfl) (pe_lst (pa_cons (pe_lst pa_nil) pa_nil)))
      (pss_cons (ps_for PassesOwn.never rfl (pi_range1 (by rfl) B.range (pa_cons (pv 0) pa_nil)) (pg_name (i := 2) scLl.nd rfl (Or.inr rfl)) (pss_one (ps_set (i := 1) scLl.nd rfl (Or.inl rfl) (pe_op op_cat (pv 1) (pe_lc (own := [("_law_lot", 3)]) (g := gName 3) (tt := tYes) (te := (tOp rCat (tVar 3) (tLst (tCons (tVar 2) tNil)))) rfl scLl.nd (pi_list (pv 1)) (blkOk_by (own := [("_law_lot", 3)]) (N := nLl) (sc := defScope sLl) (by decide +kernel)) (fun _ _ _ _ _ => (pg_name (i := 3) scLl.nd rfl (Or.inl rfl))) (fun _ _ _ _ _ => pts_nil) (fun _ _ _ _ _ => (pe_op op_cat (pv 3) (pe_lst (pa_cons (pv 2) pa_nil)))))))))
      (pss_one (ps_ret (pv 1)))), h.body fun ds r hF => ?_⟩
  obtain ⟨n, n4, rfl, rfl⟩ := hF
  refine .seq (.set (.lst (.cons (.lst .nil (by decide)) .nil) (by show 1 ≤ sizeLine; decide))) (.seq (.for_ (.range (.cons (.var rfl) .nil) (by omega)) (fun i => [some (N n), some (.list (lsD (lots i))), none, none]) (.k (.k (.f (.f .nil)))) fun i d hd => ?_) (.ret (.eq (.var rfl) (by rw [show (rngD 0 n).length = n by simp [rngD]]))))
  have hi : i < n := by
    have := (List.getElem?_eq_some_iff.mp hd).1
    simpa [rngD] using this
  have hd' : d = N i := by
    have : (rngD 0 n)[i]? = some (N i) := by simp [rngD, hi]
    rw [this] at hd
    exact (Option.some.inj hd).symm
  subst hd'
  have hl : (lots i).length ≤ 16 := by
    rw [lots_len]
    exact Nat.pow_le_pow_right (by decide) (by omega : i ≤ 4)
  refine ⟨_, _, .name, .inl (.less (.set (.op (.var rfl) (.mapX (fun l => .list (nsD l)) (fun l => .list (nsD (l ++ [i]))) (.list (.var rfl)) (by omega) fun l hm => ?_) (.cat (by rw [List.length_map, List.length_map]; exact Nat.le_trans (by omega : _ ≤ 32) (by decide))))) ?_)⟩
  · have hll := lots_le i l hm
    refine ⟨_, _, .name, fun j h => h, .eq (.op (.var rfl) (.lst (.cons (.var rfl) .nil) (by show 1 ≤ sizeLine; decide)) (.cat ?_)) ?_⟩
    · rw [len_nsD]
      exact Nat.le_trans (by show l.length + 1 ≤ 5; omega) (by decide)
    · rw [show nsD (l ++ [i]) = nsD l ++ [N i] from List.map_append ..]
  · have e : lsD (lots (i + 1)) = lsD (lots i) ++ (lots i).map (fun l => .list (nsD (l ++ [i]))) := by
      show (lots (i + 1)).map _ = (lots i).map _ ++ _
      rw [lots, List.map_append, List.map_map]
      rfl
    rw [e]
    exact .k (.k (.f (.f .nil)))
abbrev nFe : List Str := ["_law_tall", "_law_places", "_law_found", "_law_rows", "_law_columns", "_law_row", "_law_column"]
theorem scFe : FnScope nFe ["_law_tall", "_law_places"] (defScope sFe) := ⟨rfl, rfl, rfl, by decide +kernel, rfl, by decide +kernel, by decide +kernel⟩
theorem ok_fe {f : Addr} {fd : FuncData} (F : Fun K "_law_fewest" "_law_fewest" sFe f fd) (B : Blt mg) (dLl : Dn P w K mg base 1 "_law_lots" ["_law_many"] (SpG Flo)) : FnOk P w K mg base CX0 2 f fd ["_law_tall", "_law_places"] (SpG Ffe) := by
  refine F.ok scFe (fun vs H Q E h => h.len (n := 2) (by rintro ds r ⟨t, w, ps, _, rfl, _⟩; rfl)) (fun cdv A outer s H vs Q E hr h => ?_)
  have hu65 := u65 hr
  refine ⟨_, pss_cons (ps_set (i := 2) scFe.nd rfl (Or.inl rfl) pe_int)
      (pss_cons (ps_for PassesOwn.never rfl (pi_list (pe_call dLl.G (hr.mono (by decide)) (by rfl) dLl.m dLl.k dLl.b .nil pass0 (pa_cons (pv 0) pa_nil))) (pg_name (i := 3) scFe.nd rfl (Or.inr rfl)) (pss_cons (ps_set (i := 4) scFe.nd rfl (Or.inl rfl) (pe_callTy (call_dictP rfl) (by rfl) B.dict PyProof.Rows.boot_dict (pa_cons (pe_lc (own := [("_law_row", 5), ("_law_column", 6)]) (g := gTup K 2 (gCons (gName 5) (gCons (gName 6) gNil))) (tt := (tTest (tOp (rNotInD K) (tVar 5) (tVar 3)))) (te := (tTup (tCons (tVar 6) (tCons (tC (.bl true)) tNil)))) rfl scFe.nd (pi_list (pv 1)) (blkOk_by (own := [("_law_row", 5), ("_law_column", 6)]) (N := nFe) (sc := defScope sFe) (by decide +kernel)) (fun _ _ _ _ _ => (pg_tup rfl (pgs_cons (pg_name (i := 5) scFe.nd rfl (Or.inl rfl)) (pgs_cons (pg_name (i := 6) scFe.nd rfl (Or.inl rfl)) pgs_nil)))) (fun _ _ _ _ _ => (pts_one (pt_cmpR (op_notInD hu65) (pv 5) (pv 3) (by rfl)))) (fun _ _ _ _ _ => (pe_tup (pa_cons (pv 6) (pa_cons pe_bl pa_nil))))) pa_nil)))
      (pss_one (ps_set (i := 2) scFe.nd rfl (Or.inl rfl) (pe_callB (call_min2 rfl) (by rfl) B.min PyProof.Rows.boot_min (pa_cons (pv 2) (pa_cons (pe_op op_add (pe_callB call_len_seq (by rfl) B.len PySem.boot_len (pa_cons (pv 3) pa_nil)) (pe_callB call_lenD (by rfl) B.len PySem.boot_len (pa_cons (pv 4) pa_nil))) pa_nil)))))))
      (pss_one (ps_ret (pv 2)))), h.body fun ds r hF => ?_⟩
  obtain ⟨t, w, ps, hb, rfl, rfl⟩ := hF
  have t4 := hb.t4
  have w4 := hb.w4
  have n16 := hb.n16
  have c4 : ∀ p ∈ ps, p.2 < 4 := fun p hp => by have := (hb.inn p hp).2; omega
  refine .seq (.set (.int 99)) (.seq (.for_ (.list (.call (.cons (.var rfl) .nil) ⟨t, t4, rfl, rfl⟩)) (fun i => [some (N t), some (.list (psD ps)), some (N (((lots t).take i).foldl (fun found rows => min found (sizeOf' ps rows)) 99)), none, none, none, none]) (.k (.k (.k (.f (.f (.f (.f .nil))))))) fun i d hd => ?_) (.ret (.eq (.var rfl) ?_)))
  · have h' : ((lots t).map fun l => PyData.list (nsD l))[i]? = some d := hd
    rw [List.getElem?_map] at h'
    cases hp : (lots t)[i]? with
    | none => rw [hp] at h'; cases h'
    | some rows =>
      rw [hp] at h'
      cases h'
      rw [fold_take _ _ hp]
      generalize ((lots t).take i).foldl (fun found rows => min found (sizeOf' ps rows)) 99 = found
      have ek : ((psD ps).filter (outD rows)).map (fun d => PyData.tuple [sndD d, .bool true]) = (toI ((ps.filter fun p => decide (p.1 ∉ rows)).map (·.2))).map fun k => .tuple [.int k, .bool true] := by
        refine Eq.trans ?_ (map_ent (fun p : Pl => p.2) _)
        show ((ps.map pD).filter _).map _ = _
        rw [List.filter_map, List.map_map]
        have e : (outD rows ∘ pD) = fun p => decide (p.1 ∉ rows) := funext fun p => by
          show (!((nsD rows).any fun z => PyData.eqv z (N p.1))) = _
          rw [in_ns, decide_not]
        rw [e]
        rfl
      refine ⟨_, _, .name, .inl (.seq (.set (.dictOf (.eq (.lc (outD rows) (fun d => .tuple [sndD d, .bool true]) (.list (.var rfl)) (by rw [len_psD]; omega) fun j d hd => ?_) (by rw [ek])))) (.less (.set (.min2 (.var rfl) (.op (.len (.var rfl)) (.lenD (.var rfl)) .add))) ?_))⟩
      · obtain ⟨p, hp', rfl⟩ := get_ps hd
        exact ⟨_, _, .two, fun j h => h, .tst (.op (.var rfl) (.var rfl) (.notInD rfl (nds_ns _) (sh_N _) (sh_ns _))), fun _ => .tup (.cons (.var rfl) (.cons (.bl true) .nil)) (by show 2 ≤ sizeLine; decide)⟩
      · have e4 : PyData.int (if (((nsD rows).length : Nat) : Int) + ((dk [] (toI ((ps.filter fun p => decide (p.1 ∉ rows)).map (·.2)))).length : Nat) < (found : Nat) then (((nsD rows).length : Nat) : Int) + ((dk [] (toI ((ps.filter fun p => decide (p.1 ∉ rows)).map (·.2)))).length : Nat) else (found : Nat)) = N (min found (sizeOf' ps rows)) := by
          rw [dk_len (cols_nodup ps rows) (cols_mem c4), len_nsD]
          congr 1
          unfold sizeOf'
          split <;> omega
        show Le _ [some (N t), some (.list (psD ps)), some (PyData.int _), some (.list (nsD rows)), some _, none, none]
        rw [e4]
        exact .k (.k (.k (.f (.f (.f (.f .nil))))))
  · show N (((lots t).take (lsD (lots t)).length).foldl _ _) = _
    rw [show (lsD (lots t)).length = (lots t).length from List.length_map .., List.take_length]
    rfl
end
end K71

set_option Elab.async false
set_option linter.all false
set_option maxRecDepth 100000
set_option maxHeartbeats 4000000
/-! The law's judges. -/
namespace K71
open PySem L2 GD RQ
/-! ### texts of places and lines -/
theorem small_N {n : Nat} (h : n < 4) : PyData.showable (N n) = true ∧ PyData.leavesShort 8 (N n) = true := by
  rcases n with _ | _ | _ | _ | n
  · exact ⟨by decide +kernel, by decide +kernel⟩
  · exact ⟨by decide +kernel, by decide +kernel⟩
  · exact ⟨by decide +kernel, by decide +kernel⟩
  · exact ⟨by decide +kernel, by decide +kernel⟩
  · omega
theorem small_ns : ∀ {ns : List Nat}, (∀ x ∈ ns, x < 4) → PyData.showableAll (nsD ns) = true ∧ PyData.leavesShortAll 8 (nsD ns) = true
  | [], _ => ⟨rfl, rfl⟩
  | n :: ns, h => by
    have h1 := small_N (h n (.head _))
    have h2 := small_ns fun x hx => h x (.tail _ hx)
    refine ⟨?_, ?_⟩
    · show (PyData.showable (N n) && PyData.showableAll (nsD ns)) = true
      rw [h1.1, h2.1]
      rfl
    · show (PyData.leavesShort 8 (N n) && PyData.leavesShortAll 8 (nsD ns)) = true
      rw [h1.2, h2.2]
      rfl
theorem small_ps : ∀ {ps : List Pl}, (∀ p ∈ ps, p.1 < 4 ∧ p.2 < 4) → PyData.showableAll (psD ps) = true ∧ PyData.leavesShortAll 8 (psD ps) = true
  | [], _ => ⟨rfl, rfl⟩
  | p :: ps, h => by
    have h1 := h p (.head _)
    have a := small_N h1.1
    have b := small_N h1.2
    have h2 := small_ps fun x hx => h x (.tail _ hx)
    refine ⟨?_, ?_⟩
    · show ((PyData.showable (N p.1) && (PyData.showable (N p.2) && true)) && PyData.showableAll (psD ps)) = true
      rw [a.1, b.1, h2.1]
      rfl
    · show ((PyData.leavesShort 8 (N p.1) && (PyData.leavesShort 8 (N p.2) && true)) && PyData.leavesShortAll 8 (psD ps)) = true
      rw [a.2, b.2, h2.2]
      rfl
theorem bulk_ns : ∀ ns : List Nat, PyData.bulkAll (nsD ns) = ns.length
  | [] => rfl
  | n :: ns => by
    show 0 + 1 + PyData.bulkAll (nsD ns) = ns.length + 1
    rw [bulk_ns ns]
    omega
theorem bulk_ps : ∀ ps : List Pl, PyData.bulkAll (psD ps) = 3 * ps.length
  | [] => rfl
  | p :: ps => by
    show (0 + 1 + (0 + 1 + 0)) + 1 + PyData.bulkAll (psD ps) = 3 * (ps.length + 1)
    rw [bulk_ps ps]
    omega
theorem rp_ns {ns : List Nat} (h : ∀ x ∈ ns, x < 4) (hl : ns.length ≤ 16) : Rp (.list (nsD ns)) := by
  have hs := small_ns h
  refine ⟨.inl ⟨_, rfl⟩, nds_ns ns, hs.1, PyData.hasDict_of_canLay _ (lay_ns ns), ?_, PyData.shown_fits_bulk (B := 8) (by decide) (by decide) hs.2 ?_⟩
  · show PyData.depthAll (nsD ns) + 1 ≤ 60
    rw [dep_ns]
    decide
  · show PyData.bulkAll (nsD ns) ≤ _
    rw [bulk_ns]
    exact Nat.le_trans hl (by decide)
theorem rp_ps {ps : List Pl} {pd : PyData} (hp : IsPs pd ps) (h : ∀ p ∈ ps, p.1 < 4 ∧ p.2 < 4) (hl : ps.length ≤ 16) : Rp pd := by
  have hs := small_ps h
  have hd := dep_ps ps
  have hb : PyData.bulkAll (psD ps) ≤ 2 ^ 20 := by
    rw [bulk_ps]
    exact Nat.le_trans (by omega : _ ≤ 48) (by decide)
  rcases hp with rfl | rfl
  · exact ⟨.inl ⟨_, rfl⟩, nds_ps ps, hs.1, PyData.hasDict_of_canLay _ (lay_ps ps), Nat.le_trans (Nat.succ_le_succ hd) (by decide), PyData.shown_fits_bulk (B := 8) (by decide) (by decide) hs.2 hb⟩
  · exact ⟨.inr ⟨_, rfl⟩, nds_ps ps, hs.1, PyData.hasDict_of_canLay _ (lay_ps ps), Nat.le_trans (Nat.succ_le_succ hd) (by decide), PyData.shown_fits_bulk (B := 8) (by decide) (by decide) hs.2 hb⟩
theorem eqvAll_ps : ∀ ps : List Pl, PyData.eqv (.list (psD ps)) (.list (psD ps)) = true
  | [] => rfl
  | p :: ps => by
    show (PyData.eqv (pD p) (pD p) && PyData.eqv (.list (psD ps)) (.list (psD ps))) = true
    rw [eqv_pD, decide_eq_true rfl, eqvAll_ps ps]
    rfl
theorem eqvAll_ns : ∀ ns : List Nat, PyData.eqv (.list (nsD ns)) (.list (nsD ns)) = true
  | [] => rfl
  | n :: ns => by
    show (PyData.eqv (N n) (N n) && PyData.eqv (.list (nsD ns)) (.list (nsD ns))) = true
    rw [eqv_N, decide_eq_true rfl, eqvAll_ns ns]
    rfl
/-! ### sorted(places) -/
theorem Avs.mem {S : Addr → Prop} {H : Hp} {qs : List Pl} : ∀ {xs : List V}, Avs S H xs (psD qs) → ∀ x ∈ xs, ∃ p : Pl, ∃ t, x = .ref t ∧ H t = some (.tup [.int p.1, .int p.2]) ∧ Av S H x (pD p) := fun {xs} a => by
  induction qs generalizing xs with
  | nil => cases a; intro x hx; cases hx
  | cons q qs ih =>
    cases a with
    | cons b r =>
      intro x hx
      rcases List.mem_cons.mp hx with rfl | hx
      · have b' := id b
        cases b with
        | tup n f us =>
          cases us with
          | cons u1 r1 =>
            cases r1 with
            | cons u2 r2 =>
              cases r2
              cases u1
              cases u2
              exact ⟨q, _, rfl, f, b'⟩
      · exact ih r x hx
/-- the two numbers of a pair -/
def prI (H : Hp) : V → Int × Int
  | .ref t => match H t with
    | some (.tup [.int i, .int j]) => (i, j)
    | _ => (0, 0)
  | _ => (0, 0)
def prN (H : Hp) (v : V) : Pl := ((prI H v).1.toNat, (prI H v).2.toNat)
theorem prI_at {H : Hp} {t : Addr} {p : Pl} (f : H t = some (.tup [.int p.1, .int p.2])) : prI H (.ref t) = ((p.1 : Int), (p.2 : Int)) := by
  show (match H t with
    | some (.tup [.int i, .int j]) => (i, j)
    | _ => (0, 0)) = _
  rw [f]
theorem prN_at {H : Hp} {t : Addr} {p : Pl} (f : H t = some (.tup [.int p.1, .int p.2])) : prN H (.ref t) = p := by
  unfold prN
  rw [prI_at f]
  rfl
theorem prN_map {S : Addr → Prop} {H : Hp} {qs : List Pl} : ∀ {xs : List V}, Avs S H xs (psD qs) → xs.map (prN H) = qs := fun {xs} a => by
  induction qs generalizing xs with
  | nil => cases a; rfl
  | cons q qs ih =>
    cases a with
    | cons b r =>
      rw [List.map_cons, ih r]
      cases b with
      | tup n f us =>
        cases us with
        | cons u1 r1 =>
          cases r1 with
          | cons u2 r2 =>
            cases r2
            cases u1
            cases u2
            rw [prN_at f]
theorem avs_of {S : Addr → Prop} {H : Hp} : ∀ {ys : List V}, (∀ y ∈ ys, Av S H y (pD (prN H y))) → Avs S H ys (psD (ys.map (prN H)))
  | [], _ => .nil
  | y :: ys, h => .cons (h y (.head _)) (avs_of fun z hz => h z (.tail _ hz))
theorem sorted_ps {γ : List (Option PyData)} {K : PySem.W.Frag} {te : TE} {qs ms : List Pl} (h : EvG te γ (.list (psD qs))) (hs : ms.Pairwise ltP) (hn : qs.Nodup) (hm : ∀ p, p ∈ ms ↔ p ∈ qs) : EvG (tCB (rSortedPO K) (tCons te tNil)) γ (.list (psD ms)) := fun S H σ l e Q q =>
  h S H σ l e _ fun H1 v s1 av => by
    cases av with
    | lst n f hx =>
      rename_i a xs
      have mem := Avs.mem hx
      have mp := prN_map hx
      have l1 := l.same s1
      refine ⟨a, xs, prI H1, rfl, SqL.of f, fun x hx' => ?_, fun ys p sr st np => ?_⟩
      · obtain ⟨p, t, rfl, g, _⟩ := mem x hx'
        exact ⟨t, rfl, by rw [prI_at g]; exact g⟩
      · have av : ∀ y ∈ ys, Av S H1 y (pD (prN H1 y)) := fun y hy => by
          obtain ⟨p, t, rfl, g, av⟩ := mem y (st.perm.mem_iff.mp hy)
          rw [prN_at g]
          exact av
        have pm : (ys.map (prN H1)).Perm qs := mp ▸ st.perm.map (prN H1)
        have nd : (ys.map (prN H1)).Nodup := pm.nodup_iff.mpr hn
        have e2 : ys.map (prN H1) = ms := by
          refine ltP_uniq ?_ hs fun k => pm.mem_iff.trans (hm k).symm
          have sr' : ys.Pairwise fun x y => ¬ (prN H1 y = prN H1 x) → ltP (prN H1 x) (prN H1 y) := by
            refine List.Pairwise.imp_of_mem (fun {x y} hx hy hlt hne => ?_) sr
            obtain ⟨p, t, rfl, g, _⟩ := mem x (st.perm.mem_iff.mp hx)
            obtain ⟨r, u, rfl, g', _⟩ := mem y (st.perm.mem_iff.mp hy)
            have hlt' : SrtO.lexB (prI H1 (.ref u)) (prI H1 (.ref t)) = false := hlt
            rw [prI_at g, prI_at g'] at hlt'
            rw [prN_at g, prN_at g'] at hne ⊢
            have := SrtO.lexB_no.mp hlt'
            unfold ltP
            have hne' : ¬ (r.1 = p.1 ∧ r.2 = p.2) := fun z => hne (Prod.ext z.1 z.2)
            dsimp only at this
            omega
          rw [List.pairwise_map]
          exact (sr'.and (List.pairwise_map.mp nd)).imp fun {x y} z => z.1 fun w => z.2 w.symm
        have := (avs_of av).same (same_new (o := .lst ys) np)
        rw [e2] at this
        exact q _ _ (s1.trans (same_new np)) (.lst (l1.new np) upd_same this)
theorem rk_ltP {ps : List Pl} (t : Nat) : (rk ps t).Pairwise ltP := (rk_srt ps t).imp fun h => .inl h
theorem ltP_nodup {ps : List Pl} (h : ps.Pairwise ltP) : ps.Nodup := by
  show ps.Pairwise (· ≠ ·)
  refine h.imp fun {a b} z => ?_
  intro e
  subst e
  exact ltP_irr z
theorem rng_filter {t : Nat} {rows : List Nat} (h : (List.range t).filter (fun x => decide (x ∈ rows)) = rows) : ((rngD 0 t).filter (fun d => (nsD rows).any fun z => PyData.eqv z d)).map (fun d => d) = nsD rows := by
  rw [List.map_id']
  show ((List.range t).map _).filter _ = _
  rw [List.filter_map]
  have e1 : ((fun d => (nsD rows).any fun z => PyData.eqv z d) ∘ fun i : Nat => PyData.int (0 + (i : Int))) = fun x => decide (x ∈ rows) := funext fun x => by
    show ((nsD rows).any fun z => PyData.eqv z (.int (0 + (x : Int)))) = _
    rw [Int.zero_add]
    exact in_ns rows x
  rw [e1, h]
  refine List.map_congr_left fun x _ => ?_
  show PyData.int (0 + (x : Int)) = .int x
  rw [Int.zero_add]
/-! ### the judges -/
def Frr (ds : List PyData) (r : PyData) : Prop := ∃ (t w : Nat) (ps : List Pl), Board t w ps ∧ ds = [N t, N w, .list (psD ps), .list (psD (rk ps t)), N (due ps t)] ∧ r = .bool true
def Fcr (ds : List PyData) (r : PyData) : Prop := ∃ (t w : Nat) (ps : List Pl), Board t w ps ∧ ds = [N t, N w, .list (psD ps), cvD ps (coverRows ps t), N (due ps t)] ∧ r = .bool true
/-- a def that is called where no repr is under way -/
structure DnG (P : Program) (w : World) (K : PySem.W.Frag) (mg : Str → Option Value) (base : Heap) (lv : Nat) (x : Str) (ps : List Str) (sp : Sp) where
  f : Addr
  fd : FuncData
  G : FnG P w K mg base lv f fd ps sp
  m : mg x = some (.ref f)
  k : PySem.W.keepIn K (.ref f) = true
  b : Binds K fd ps []
section
variable {P : Program} {w : World} {K : PySem.W.Frag} {mg : Str → Option Value} {base : Heap}
abbrev nRr : List Str := ["_law_tall", "_law_wide", "_law_places", "_law_told", "_law_due", "_law_one", "_law_row", "_law_column"]
theorem scRr : FnScope nRr ["_law_tall", "_law_wide", "_law_places", "_law_told", "_law_due"] (defScope sRr) := ⟨rfl, rfl, rfl, by decide +kernel, rfl, by decide +kernel, by decide +kernel⟩
theorem ok_rr {f : Addr} {fd : FuncData} (F : Fun K "_law_rooks_right" "_law_rooks_right" sRr f fd) (B : Blt mg) (dIr : Dn P w K mg base 8 "is_rooks" ["tall", "wide", "places", "value"] (SpG Fir)) : FnG P w K mg base 9 f fd ["_law_tall", "_law_wide", "_law_places", "_law_told", "_law_due"] (SpG Frr) := by
  refine okG F scRr (fun vs H Q E h => h.len (n := 5) (by rintro ds r ⟨t, w, ps, _, rfl, _⟩; rfl)) (fun cdv A outer s H vs Q E hgd hr h => ?_)
  have hu65 := u65 hr
  have hu := Nat.lt_of_succ_lt hu65
  refine ⟨_, pss_cons (ps_if (pw_or (pt_not (pt_val (pe_callB call_isi (by rfl) B.isi PyProof.Rows.boot_isinstance (pa_cons (pv 3) (pa_cons (pe_bltn (by rfl) B.list PyProof.Rows.boot_list (v := .ty "list") rfl) pa_nil))))) (pw_or1 (pt_not (pt_val (pe_callB (cr_all rfl) (by rfl) B.all PyProof.Rows.boot_all (pa_cons (pe_lc (own := [("_law_one", 5)]) (g := gName 5) (tt := tYes) (te := (tAndV (tCB (rIsi K) (tCons (tVar 5) (tCons (tC (.ty "tuple")) tNil))) (tOp (rInD K) (tVar 5) (tVar 2)))) rfl scRr.nd (pi_list (pv 3)) (blkOk_by (own := [("_law_one", 5)]) (N := nRr) (sc := defScope sRr) (by decide +kernel)) (fun _ _ _ _ _ => (pg_name (i := 5) scRr.nd rfl (Or.inl rfl))) (fun _ _ _ _ _ => pts_nil) (fun _ _ _ _ _ => (pe_and (pe_callB call_isi (by rfl) B.isi PyProof.Rows.boot_isinstance (pa_cons (pv 5) (pa_cons (pe_bltn (by rfl) B.tuple PyProof.Rows.boot_tuple (v := .ty "tuple") rfl) pa_nil))) (pe_one (pe_cmpR (op_inD hu65) (pv 5) (pv 2) (by rfl)))))) pa_nil)))))).pt (pss_one (ps_ret pe_bl)) pss_nil)
      (pss_cons (ps_if (pw_or (pt_cmpR op_ne (pe_callB call_len_seq (by rfl) B.len PySem.boot_len (pa_cons (pv 3) pa_nil)) (pv 4) (nomark _)) (pw_or (pt_cmpR (op_neD hu) (pv 3) (pe_callB cr_sortedPO (by rfl) B.sorted PyProof.Rows.boot_sorted (pa_cons (pv 3) pa_nil)) (nomark _)) (pw_or1 (pt_cmpR op_ne (pe_callB (call_reprD hgd hu) (by rfl) B.repr PyProof.Rows.boot_repr (pa_cons (pv 3) pa_nil)) (pe_callB (call_reprD hgd hu) (by rfl) B.repr PyProof.Rows.boot_repr (pa_cons (pe_lc (own := [("_law_row", 6), ("_law_column", 7)]) (g := gTup K 2 (gCons (gName 6) (gCons (gName 7) gNil))) (tt := tYes) rfl scRr.nd (pi_list (pv 3)) (blkOk_by (own := [("_law_row", 6), ("_law_column", 7)]) (N := nRr) (sc := defScope sRr) (by decide +kernel)) (fun _ _ _ _ _ => (pg_tup rfl (pgs_cons (pg_name (i := 6) scRr.nd rfl (Or.inl rfl)) (pgs_cons (pg_name (i := 7) scRr.nd rfl (Or.inl rfl)) pgs_nil)))) (fun _ _ _ _ _ => pts_nil) (fun _ _ _ _ _ => (pe_tup (pa_cons (pe_callTy call_int1 (by rfl) B.int PyProof.Rows.boot_int (pa_cons (pv 6) pa_nil)) (pa_cons (pe_callTy call_int1 (by rfl) B.int PyProof.Rows.boot_int (pa_cons (pv 7) pa_nil)) pa_nil))))) pa_nil)) (nomark _))))).pt (pss_one (ps_ret pe_bl)) pss_nil)
      (pss_cons (ps_if (pw_or (pt_cmpR op_ne (pe_callB call_lenD (by rfl) B.len PySem.boot_len (pa_cons (pe_callTy (call_dictP rfl) (by rfl) B.dict PyProof.Rows.boot_dict (pa_cons (pe_lc (own := [("_law_row", 6), ("_law_column", 7)]) (g := gTup K 2 (gCons (gName 6) (gCons (gName 7) gNil))) (tt := tYes) (te := (tTup (tCons (tVar 6) (tCons (tC (.bl true)) tNil)))) rfl scRr.nd (pi_list (pv 3)) (blkOk_by (own := [("_law_row", 6), ("_law_column", 7)]) (N := nRr) (sc := defScope sRr) (by decide +kernel)) (fun _ _ _ _ _ => (pg_tup rfl (pgs_cons (pg_name (i := 6) scRr.nd rfl (Or.inl rfl)) (pgs_cons (pg_name (i := 7) scRr.nd rfl (Or.inl rfl)) pgs_nil)))) (fun _ _ _ _ _ => pts_nil) (fun _ _ _ _ _ => (pe_tup (pa_cons (pv 6) (pa_cons pe_bl pa_nil))))) pa_nil)) pa_nil)) (pv 4) (nomark _)) (pw_or1 (pt_cmpR op_ne (pe_callB call_lenD (by rfl) B.len PySem.boot_len (pa_cons (pe_callTy (call_dictP rfl) (by rfl) B.dict PyProof.Rows.boot_dict (pa_cons (pe_lc (own := [("_law_row", 6), ("_law_column", 7)]) (g := gTup K 2 (gCons (gName 6) (gCons (gName 7) gNil))) (tt := tYes) (te := (tTup (tCons (tVar 7) (tCons (tC (.bl true)) tNil)))) rfl scRr.nd (pi_list (pv 3)) (blkOk_by (own := [("_law_row", 6), ("_law_column", 7)]) (N := nRr) (sc := defScope sRr) (by decide +kernel)) (fun _ _ _ _ _ => (pg_tup rfl (pgs_cons (pg_name (i := 6) scRr.nd rfl (Or.inl rfl)) (pgs_cons (pg_name (i := 7) scRr.nd rfl (Or.inl rfl)) pgs_nil)))) (fun _ _ _ _ _ => pts_nil) (fun _ _ _ _ _ => (pe_tup (pa_cons (pv 7) (pa_cons pe_bl pa_nil))))) pa_nil)) pa_nil)) (pv 4) (nomark _)))).pt (pss_one (ps_ret pe_bl)) pss_nil)
      (pss_one (ps_ret (pe_and (pe_cmpR op_is_bl (pe_call dIr.G (hr.mono (by decide)) (by rfl) dIr.m dIr.k dIr.b .nil pass0 (pa_cons (pv 0) (pa_cons (pv 1) (pa_cons (pv 2) (pa_cons (pv 3) pa_nil))))) pe_bl (nomark _)) (pe_one (pe_cmpR op_is_bl (pe_call dIr.G (hr.mono (by decide)) (by rfl) dIr.m dIr.k dIr.b .nil pass0 (pa_cons (pv 0) (pa_cons (pv 1) (pa_cons (pv 2) (pa_cons (pe_slice sl_list (pv 3) (po_some pe_int) po_none) pa_nil))))) pe_bl (nomark _)))))))), h.body fun ds r hF => ?_⟩
  obtain ⟨t, w, ps, hb, rfl, rfl⟩ := hF
  have sp := rk_spare ps t
  have hlen := rk_len ps t
  have n16 := hb.n16
  have d4 := due_le4 hb.loose
  have small : ∀ p ∈ rk ps t, p.1 < 4 ∧ p.2 < 4 := fun p hp => by
    have h1 := hb.inn p (sp.sub p hp)
    have := hb.t4
    have := hb.w4
    omega
  have R := rp_ps (.inl rfl) small (by omega)
  refine .seq (.ifF (.eq (.or (a := false) (.eq (.not (.val (b := true) (.isi (.var rfl) kb_ll))) rfl) fun _ => .not (.val (.allLc (fun _ => true) (.list (.var rfl)) (by rw [len_psD]; omega) fun i d hd => ?_))) (by rw [List.all_eq_true.mpr fun _ _ => rfl]; rfl)) .next) ?_
  · obtain ⟨p, hp, rfl⟩ := get_ps hd
    have hm := sp.sub p (List.mem_of_getElem? hp)
    exact ⟨_, _, .name, fun j h => h, .eq (.andV (a := true) (.isi (.var rfl) kb_tt) fun _ => .op (.var rfl) (.var rfl) (.inD rfl (nds_ps _) (sh_pD _) (sh_ps _))) (by rw [in_ps, decide_eq_true hm]; rfl)⟩
  refine .seq (.ifF (.eq (.or (a := false) (.eq (.tst (.op (.len (.var rfl)) (.var rfl) .neI)) (by rw [len_psD, hlen, decide_eq_true rfl]; rfl)) fun _ => .or (a := false) (.eq (.tst (.op (.var rfl) (sorted_ps (.var rfl) (rk_ltP t) (ltP_nodup (rk_ltP t)) fun p => Iff.rfl) (.neD (nds_ps _) (nds_ps _) (sh_ps _) (sh_ps _)))) (by rw [eqvAll_ps]; rfl)) fun _ => .tst (.op (.repr R (.var rfl)) (.repr R (.eq (.map (fun d => d) (.list (.var rfl)) (by rw [len_psD]; omega) fun i d hd => ?_) (by rw [List.map_id']))) (.neS _))) rfl) .next) ?_
  · obtain ⟨p, hp, rfl⟩ := get_ps hd
    exact ⟨_, _, .two, fun j h => h, .tup (.cons (.intOf (.var rfl)) (.cons (.intOf (.var rfl)) .nil)) (by show 2 ≤ sizeLine; decide)⟩
  have e1 : (psD (rk ps t)).map (fun d => PyData.tuple [fstD d, .bool true]) = (toI ((rk ps t).map (·.1))).map fun k => .tuple [.int k, .bool true] := by
    refine Eq.trans ?_ (map_ent (fun p : Pl => p.1) _)
    show ((rk ps t).map pD).map _ = _
    rw [List.map_map]
    rfl
  have e2 : (psD (rk ps t)).map (fun d => PyData.tuple [sndD d, .bool true]) = (toI ((rk ps t).map (·.2))).map fun k => .tuple [.int k, .bool true] := by
    refine Eq.trans ?_ (map_ent (fun p : Pl => p.2) _)
    show ((rk ps t).map pD).map _ = _
    rw [List.map_map]
    rfl
  refine .seq (.ifF (.eq (.or (a := false) (.eq (.tst (.op (.lenD (.dictOf (.eq (.map (fun d => .tuple [fstD d, .bool true]) (.list (.var rfl)) (by rw [len_psD]; omega) fun i d hd => ?_) (by rw [e1])))) (.var rfl) .neI)) (by rw [dk_len sp.rows fun c => Iff.rfl, List.length_map, hlen, decide_eq_true rfl]; rfl)) fun _ => .tst (.op (.lenD (.dictOf (.eq (.map (fun d => .tuple [sndD d, .bool true]) (.list (.var rfl)) (by rw [len_psD]; omega) fun i d hd => ?_) (by rw [e2])))) (.var rfl) .neI)) (by rw [dk_len sp.cols fun c => Iff.rfl, List.length_map, hlen, decide_eq_true rfl]; rfl)) .next) ?_
  · obtain ⟨p, hp, rfl⟩ := get_ps hd
    exact ⟨_, _, .two, fun j h => h, .tup (.cons (.var rfl) (.cons (.bl true) .nil)) (by show 2 ≤ sizeLine; decide)⟩
  · obtain ⟨p, hp, rfl⟩ := get_ps hd
    exact ⟨_, _, .two, fun j h => h, .tup (.cons (.var rfl) (.cons (.bl true) .nil)) (by show 2 ≤ sizeLine; decide)⟩
  have hp1 := due_pos hb
  refine .ret (.eq (.andV (a := true) (.eq (.op (.call (.cons (.var rfl) (.cons (.var rfl) (.cons (.var rfl) (.cons (.var rfl) .nil)))) ⟨t, w, ps, rk ps t, hb, sp, by omega, rfl, rfl⟩) (.bl true) .isB) (by rw [decide_eq_true rfl]; rfl)) fun _ => .op (.call (.cons (.var rfl) (.cons (.var rfl) (.cons (.var rfl) (.cons (.eq (.slice (.var rfl) (.some (.int 1)) .none) (by rw [cut1, show (psD (rk ps t)).drop 1 = psD ((rk ps t).drop 1) from (List.map_drop ..).symm])) .nil)))) ⟨t, w, ps, (rk ps t).drop 1, hb, spare_drop sp 1, by rw [List.length_drop]; omega, rfl, rfl⟩) (.bl false) .isB) ?_)
  rw [decide_eq_false (show ¬ ((rk ps t).drop 1).length = (mostR ps t 0 []).length from by rw [List.length_drop]; show ¬ (rk ps t).length - 1 = (rk ps t).length; omega)]
  rfl
abbrev nCr : List Str := ["_law_tall", "_law_wide", "_law_places", "_law_told", "_law_due", "_law_rows", "_law_columns", "_law_less", "_law_lines", "_law_row", "_law_column"]
theorem scCr : FnScope nCr ["_law_tall", "_law_wide", "_law_places", "_law_told", "_law_due"] (defScope sCr) := ⟨rfl, rfl, rfl, by decide +kernel, rfl, by decide +kernel, by decide +kernel⟩
theorem ok_cr {f : Addr} {fd : FuncData} (F : Fun K "_law_cover_right" "_law_cover_right" sCr f fd) (B : Blt mg) (dIc : Dn P w K mg base 8 "is_cover" ["tall", "wide", "places", "value"] (SpG Fic)) : FnG P w K mg base 9 f fd ["_law_tall", "_law_wide", "_law_places", "_law_told", "_law_due"] (SpG Fcr) := by
  refine okG F scCr (fun vs H Q E h => h.len (n := 5) (by rintro ds r ⟨t, w, ps, _, rfl, _⟩; rfl)) (fun cdv A outer s H vs Q E hgd hr h => ?_)
  have hu65 := u65 hr
  have hu := Nat.lt_of_succ_lt hu65
  refine ⟨_, pss_cons (ps_if (pw_or (pt_not (pt_val (pe_callB call_isi (by rfl) B.isi PyProof.Rows.boot_isinstance (pa_cons (pv 3) (pa_cons (pe_bltn (by rfl) B.tuple PyProof.Rows.boot_tuple (v := .ty "tuple") rfl) pa_nil))))) (pw_or (pt_cmpR op_ne (pe_callB call_len_seq (by rfl) B.len PySem.boot_len (pa_cons (pv 3) pa_nil)) pe_int (nomark _)) (pw_or1 (pt_not (pt_val (pe_callB (cr_all rfl) (by rfl) B.all PyProof.Rows.boot_all (pa_cons (pe_lc (own := [("_law_lines", 8)]) (g := gName 8) (tt := tYes) (te := (tCB (rIsi K) (tCons (tVar 8) (tCons (tC (.ty "list")) tNil)))) rfl scCr.nd (pi_tup (pv 3)) (blkOk_by (own := [("_law_lines", 8)]) (N := nCr) (sc := defScope sCr) (by decide +kernel)) (fun _ _ _ _ _ => (pg_name (i := 8) scCr.nd rfl (Or.inl rfl))) (fun _ _ _ _ _ => pts_nil) (fun _ _ _ _ _ => (pe_callB call_isi (by rfl) B.isi PyProof.Rows.boot_isinstance (pa_cons (pv 8) (pa_cons (pe_bltn (by rfl) B.list PyProof.Rows.boot_list (v := .ty "list") rfl) pa_nil))))) pa_nil))))))).pt (pss_one (ps_ret pe_bl)) pss_nil)
      (pss_cons (ps_asg (pv 3) (pg_tup rfl (pgs_cons (pg_name (i := 5) scCr.nd rfl (Or.inr rfl)) (pgs_cons (pg_name (i := 6) scCr.nd rfl (Or.inr rfl)) pgs_nil))))
      (pss_cons (ps_if (pw_or (pt_cmpR op_ne (pe_callB (call_reprD hgd hu) (by rfl) B.repr PyProof.Rows.boot_repr (pa_cons (pv 5) pa_nil)) (pe_callB (call_reprD hgd hu) (by rfl) B.repr PyProof.Rows.boot_repr (pa_cons (pe_lc (own := [("_law_row", 9)]) (g := gName 9) (tt := (tTest (tOp (rInD K) (tVar 9) (tVar 5)))) (te := (tVar 9)) rfl scCr.nd (pi_range1 (by rfl) B.range (pa_cons (pv 0) pa_nil)) (blkOk_by (own := [("_law_row", 9)]) (N := nCr) (sc := defScope sCr) (by decide +kernel)) (fun _ _ _ _ _ => (pg_name (i := 9) scCr.nd rfl (Or.inl rfl))) (fun _ _ _ _ _ => (pts_one (pt_cmpR (op_inD hu65) (pv 9) (pv 5) (by rfl)))) (fun _ _ _ _ _ => (pv 9))) pa_nil)) (nomark _)) (pw_or1 (pt_cmpR op_ne (pe_callB (call_reprD hgd hu) (by rfl) B.repr PyProof.Rows.boot_repr (pa_cons (pv 6) pa_nil)) (pe_callB (call_reprD hgd hu) (by rfl) B.repr PyProof.Rows.boot_repr (pa_cons (pe_lc (own := [("_law_column", 10)]) (g := gName 10) (tt := (tTest (tOp (rInD K) (tVar 10) (tVar 6)))) (te := (tVar 10)) rfl scCr.nd (pi_range1 (by rfl) B.range (pa_cons (pv 1) pa_nil)) (blkOk_by (own := [("_law_column", 10)]) (N := nCr) (sc := defScope sCr) (by decide +kernel)) (fun _ _ _ _ _ => (pg_name (i := 10) scCr.nd rfl (Or.inl rfl))) (fun _ _ _ _ _ => (pts_one (pt_cmpR (op_inD hu65) (pv 10) (pv 6) (by rfl)))) (fun _ _ _ _ _ => (pv 10))) pa_nil)) (nomark _)))).pt (pss_one (ps_ret pe_bl)) pss_nil)
      (pss_cons (ps_if (pw_or (pt_cmpR op_ne (pe_op op_add (pe_callB call_len_seq (by rfl) B.len PySem.boot_len (pa_cons (pv 5) pa_nil)) (pe_callB call_len_seq (by rfl) B.len PySem.boot_len (pa_cons (pv 6) pa_nil))) (pv 4) (nomark _)) (pw_or1 (pt_not (pt_val (pe_callB (cr_all rfl) (by rfl) B.all PyProof.Rows.boot_all (pa_cons (pe_lc (own := [("_law_row", 9), ("_law_column", 10)]) (g := gTup K 2 (gCons (gName 9) (gCons (gName 10) gNil))) (tt := tYes) (te := (tOrV (tOp (rInD K) (tVar 9) (tVar 5)) (tOp (rInD K) (tVar 10) (tVar 6)))) rfl scCr.nd (pi_list (pv 2)) (blkOk_by (own := [("_law_row", 9), ("_law_column", 10)]) (N := nCr) (sc := defScope sCr) (by decide +kernel)) (fun _ _ _ _ _ => (pg_tup rfl (pgs_cons (pg_name (i := 9) scCr.nd rfl (Or.inl rfl)) (pgs_cons (pg_name (i := 10) scCr.nd rfl (Or.inl rfl)) pgs_nil)))) (fun _ _ _ _ _ => pts_nil) (fun _ _ _ _ _ => (pe_or (pe_cmpR (op_inD hu65) (pv 9) (pv 5) (by rfl)) (pe_one (pe_cmpR (op_inD hu65) (pv 10) (pv 6) (by rfl)))))) pa_nil)))))).pt (pss_one (ps_ret pe_bl)) pss_nil)
      (pss_cons (ps_set (i := 7) scCr.nd rfl (Or.inl rfl) (pe_ifExp (pt_cmpR (op_neD hu) (pv 5) (pe_lst pa_nil) (nomark _)) (pe_tup (pa_cons (pe_slice sl_list (pv 5) (po_some pe_int) po_none) (pa_cons (pv 6) pa_nil))) (pe_tup (pa_cons (pv 5) (pa_cons (pe_slice sl_list (pv 6) (po_some pe_int) po_none) pa_nil)))))
      (pss_one (ps_ret (pe_and (pe_cmpR op_is_bl (pe_call dIc.G (hr.mono (by decide)) (by rfl) dIc.m dIc.k dIc.b .nil pass0 (pa_cons (pv 0) (pa_cons (pv 1) (pa_cons (pv 2) (pa_cons (pv 3) pa_nil))))) pe_bl (nomark _)) (pe_one (pe_cmpR op_is_bl (pe_call dIc.G (hr.mono (by decide)) (by rfl) dIc.m dIc.k dIc.b .nil pass0 (pa_cons (pv 0) (pa_cons (pv 1) (pa_cons (pv 2) (pa_cons (pv 7) pa_nil))))) pe_bl (nomark _)))))))))), h.body fun ds r hF => ?_⟩
  obtain ⟨t, w, ps, hb, rfl, rfl⟩ := hF
  have n16 := hb.n16
  have t4 := hb.t4
  have w4 := hb.w4
  have hlot := cover_lot ps t
  have hsz : (coverRows ps t).length + (colsOf ps (coverRows ps t)).length = due ps t := cover_size hb.loose
  have hrow := lots_is t _ hlot
  have hcol := cols_is hb (coverRows ps t)
  have n1 := lot_nodup hlot
  have n2 := cols_nodup ps (coverRows ps t)
  have b1 := lot_mem hlot
  have b2 := cols_w hb (coverRows ps t)
  have hall : covers ps (coverRows ps t) (colsOf ps (coverRows ps t)) = true := covers_all hb (coverRows ps t)
  have d4 := due_le4 hb.loose
  have hp1 := due_pos hb
  unfold cvD
  generalize coverRows ps t = rows at *
  generalize colsOf ps rows = cols at *
  have R1 : Rp (.list (nsD rows)) := rp_ns (fun x hx => by have := b1 x hx; omega) (by omega)
  have R2 : Rp (.list (nsD cols)) := rp_ns (fun x hx => by have := b2 x hx; omega) (by omega)
  refine .seq (.ifF (.eq (.or (a := false) (.eq (.not (.val (b := true) (.isi (.var rfl) kb_tt))) rfl) fun _ => .or (a := false) (.eq (.tst (.op (.lenT (.var rfl)) (.int 2) .neI)) rfl) fun _ => .not (.val (.allLc (fun _ => true) (.tuple (.var rfl)) (by show 2 < 1000000; decide) fun i d hd => ?_))) (by rw [List.all_eq_true.mpr fun _ _ => rfl]; rfl)) .next) ?_
  · have : ∃ xs, d = .list xs := by
      match i, hd with
      | 0, hd => exact ⟨_, (Option.some.inj hd).symm⟩
      | 1, hd => exact ⟨_, (Option.some.inj hd).symm⟩
      | i + 2, hd => cases hd
    obtain ⟨xs, rfl⟩ := this
    exact ⟨_, _, .name, fun j h => h, .isi (.var rfl) kb_ll⟩
  refine .seq (.asg (.var rfl) .two) ?_
  refine .seq (.ifF (.eq (.or (a := false) (.eq (.tst (.op (.repr R1 (.var rfl)) (.repr R1 (.eq (.lc (fun d => (nsD rows).any fun z => PyData.eqv z d) (fun d => d) (.range (.cons (.var rfl) .nil) (by omega)) (by show ((List.range t).map _).length < _; rw [List.length_map, List.length_range]; omega) fun i d hd => ?_) (by rw [rng_filter hrow]))) (.neS _))) rfl) fun _ => .tst (.op (.repr R2 (.var rfl)) (.repr R2 (.eq (.lc (fun d => (nsD cols).any fun z => PyData.eqv z d) (fun d => d) (.range (.cons (.var rfl) .nil) (by omega)) (by show ((List.range w).map _).length < _; rw [List.length_map, List.length_range]; omega) fun i d hd => ?_) (by rw [rng_filter hcol]))) (.neS _))) rfl) .next) ?_
  · obtain ⟨n, rfl⟩ : ∃ n : Int, d = .int n := by
      have h' : ((List.range t).map fun (i : Nat) => PyData.int (0 + (i : Int)))[i]? = some d := hd
      rw [List.getElem?_map] at h'
      cases hp : (List.range t)[i]? with
      | none => rw [hp] at h'; cases h'
      | some x => rw [hp] at h'; exact ⟨_, (Option.some.inj h').symm⟩
    exact ⟨_, _, .name, fun j h => h, .tst (.op (.var rfl) (.var rfl) (.inD rfl (nds_ns _) (by unfold SeqAt.shaped; rfl) (sh_ns _))), fun _ => .var rfl⟩
  · obtain ⟨n, rfl⟩ : ∃ n : Int, d = .int n := by
      have h' : ((List.range w).map fun (i : Nat) => PyData.int (0 + (i : Int)))[i]? = some d := hd
      rw [List.getElem?_map] at h'
      cases hp : (List.range w)[i]? with
      | none => rw [hp] at h'; cases h'
      | some x => rw [hp] at h'; exact ⟨_, (Option.some.inj h').symm⟩
    exact ⟨_, _, .name, fun j h => h, .tst (.op (.var rfl) (.var rfl) (.inD rfl (nds_ns _) (by unfold SeqAt.shaped; rfl) (sh_ns _))), fun _ => .var rfl⟩
  refine .seq (.ifF (.eq (.or (a := false) (.eq (.tst (.op (.op (.len (.var rfl)) (.len (.var rfl)) .add) (.var rfl) .neI)) (by rw [len_nsD, len_nsD, decide_eq_true (by omega)]; rfl)) fun _ => .not (.val (.allLc (covD rows cols) (.list (.var rfl)) (by rw [len_psD]; omega) fun i d hd => ?_))) (by rw [cov_ps, hall]; rfl)) .next) ?_
  · obtain ⟨p, hp', rfl⟩ := get_ps hd
    exact ⟨_, _, .two, fun j h => h, .orV (.op (.var rfl) (.var rfl) (.inD rfl (nds_ns _) (sh_N _) (sh_ns _))) fun _ => .op (.var rfl) (.var rfl) (.inD rfl (nds_ns _) (sh_N _) (sh_ns _))⟩
  -- one line less
  obtain ⟨r', c', hlen, m1, m2, x1, x2, hite⟩ : ∃ r' c' : List Nat, r'.length + c'.length + 1 = due ps t ∧ r'.Nodup ∧ c'.Nodup ∧ (∀ x ∈ r', x < t) ∧ (∀ x ∈ c', x < w) ∧
      EvG (tIf (tTest (tOp (rNeD K) (tVar 5) (tLst tNil))) (tTup (tCons (tSl (rSlL K) (tVar 5) (tPart (tC (.int 1))) tNoPart) (tCons (tVar 6) tNil))) (tTup (tCons (tVar 5) (tCons (tSl (rSlL K) (tVar 6) (tPart (tC (.int 1))) tNoPart) tNil)))) [some (N t), some (N w), some (.list (psD ps)), some (.tuple [.list (nsD rows), .list (nsD cols)]), some (N (due ps t)), some (.list (nsD rows)), some (.list (nsD cols)), none, none, none, none] (.tuple [.list (nsD r'), .list (nsD c')]) := by
    cases rows with
    | nil =>
      cases cols with
      | nil =>
        have : (0 : Nat) + 0 = due ps t := hsz
        omega
      | cons c cols =>
        refine ⟨[], cols, by have : (0 : Nat) + (cols.length + 1) = due ps t := hsz; show 0 + cols.length + 1 = _; omega, .nil, (List.nodup_cons.mp n2).2, fun x hx => (by cases hx), fun x hx => b2 x (.tail _ hx), ?_⟩
        exact .ite_f (.eq (.tst (.op (.var rfl) (.lst .nil (by decide)) (.neD rfl rfl (sh_ns []) (sh_ns [])))) rfl) (.tup (.cons (.var rfl) (.cons (.eq (.slice (.var rfl) (.some (.int 1)) .none) (by rw [cut1]; rfl)) .nil)) (by show 2 ≤ sizeLine; decide))
    | cons r rows =>
      refine ⟨rows, cols, by have : (rows.length + 1) + cols.length = due ps t := hsz; omega, (List.nodup_cons.mp n1).2, n2, fun x hx => b1 x (.tail _ hx), b2, ?_⟩
      exact .ite_t (.eq (.tst (.op (.var rfl) (.lst .nil (by decide)) (.neD (nds_ns (r :: rows)) rfl (sh_ns (r :: rows)) (sh_ns [])))) rfl) (.tup (.cons (.eq (.slice (.var rfl) (.some (.int 1)) .none) (by rw [cut1]; rfl)) (.cons (.var rfl) .nil)) (by show 2 ≤ sizeLine; decide))
  refine .seq (.set hite) ?_
  have hbest : sizeOf' ps (coverRows ps t) = due ps t := cover_size hb.loose
  refine .ret (.eq (.andV (a := true) (.eq (.op (.call (.cons (.var rfl) (.cons (.var rfl) (.cons (.var rfl) (.cons (.var rfl) .nil)))) ⟨t, w, ps, _, rows, cols, hb, .inl rfl, n1, b1, n2, b2, by omega, by omega, rfl, rfl⟩) (.bl true) .isB) (by rw [hall, hbest, decide_eq_true hsz]; rfl)) fun _ => .op (.call (.cons (.var rfl) (.cons (.var rfl) (.cons (.var rfl) (.cons (.var rfl) .nil)))) ⟨t, w, ps, _, r', c', hb, .inl rfl, m1, x1, m2, x2, by omega, by omega, rfl, rfl⟩) (.bl false) .isB) ?_)
  rw [hbest, decide_eq_false (by omega : ¬ r'.length + c'.length = due ps t), Bool.and_false]
  rfl
end
end K71

set_option Elab.async false
set_option linter.all false
set_option maxRecDepth 100000
set_option maxHeartbeats 4000000
/-! What is drawn, told by data; the law's boards. -/
namespace K71
open PySem L2 GD RQ
/-! ### beside the pot -/
theorem Kp.mono {S S' : Addr → Prop} {H H' : Hp} (hs : ∀ X, S X → S' X) (k : Kp S H H') : Kp S' H H' := fun b o n e => k b o (fun z => n (hs b z)) e
theorem Kp.refl (S : Addr → Prop) (H : Hp) : Kp S H H := fun _ _ _ e => e
theorem live_kp {pot : Addr} {S : Addr → Prop} {H H' : Hp} (l : Live S H) (k : Kp (Sp1 pot) H H') (p : PotAt H' pot) : Live S H' := fun X hX z => by
  by_cases e : X = pot
  · obtain ⟨a, b, f, _⟩ := p
    rw [e, f] at z
    cases z
  · cases h : H X with
    | none => exact l X hX h
    | some o =>
      rw [k X o e h] at z
      cases z
theorem Gm.learn {S : Addr → Prop} {H : Hp} {σ : L2.St} {γ : List (Option PyData)} {i : Nat} {v : V} {d : PyData} (e : Gm S H σ γ) (h : σ[i]? = some (some v)) (a : Av S H v d) : Gm S H σ (γ.set i (some d)) := by
  refine ⟨by rw [List.length_set, e.len], fun j c hj => ?_⟩
  by_cases hij : i = j
  · subst hij
    rw [List.getElem?_set] at hj
    simp only [if_true] at hj
    split at hj
    · cases hj
      exact ⟨v, h, a⟩
    · cases hj
  · rw [List.getElem?_set_ne hij] at hj
    exact e.at_ j c hj
theorem Gm.sub {S S' : Addr → Prop} {H : Hp} {σ : L2.St} {γ : List (Option PyData)} (hs : ∀ X, S X → S' X) (e : Gm S' H σ γ) : Gm S H σ γ := ⟨e.len, fun i d h => let ⟨v, a, b⟩ := e.at_ i d h; ⟨v, a, b.less hs⟩⟩
/-- an expression draws, and comes to one of these -/
def EvD (pot : Addr) (te : TE) (γ : List (Option PyData)) (C : PyData → Prop) : Prop := ∀ S H σ, S pot → Live S H → PotAt H pot → Gm S H σ γ → σ[0]? = some (some (.ref pot)) → ∀ Q : VK, (∀ H' v d, Kp (Sp1 pot) H H' → PotAt H' pot → C d → Av S H' v d → Q v H') → te σ H Q
def EvAD (pot : Addr) (ta : TA) (γ : List (Option PyData)) (C : List PyData → Prop) : Prop := ∀ S H σ, S pot → Live S H → PotAt H pot → Gm S H σ γ → σ[0]? = some (some (.ref pot)) → ∀ Q : List V → Hp → Prop, (∀ H' vs ds, Kp (Sp1 pot) H H' → PotAt H' pot → C ds → Avs S H' vs ds → Q vs H') → ta σ H Q
def EvBD (pot : Addr) (tt : TT) (γ : List (Option PyData)) (C : Bool → Prop) : Prop := ∀ S H σ, S pot → Live S H → PotAt H pot → Gm S H σ γ → σ[0]? = some (some (.ref pot)) → ∀ Q : Bool → Hp → Prop, (∀ H' b, Kp (Sp1 pot) H H' → PotAt H' pot → C b → Q b H') → tt σ H Q
def StR (pot : Addr) (ts : TS) (γ : List (Option PyData)) (r : PyData → Prop) : Prop := ∀ H σ D, PotAt H pot → Gm (Sp1 pot) H σ γ → σ[0]? = some (some (.ref pot)) → (∀ v H' d, r d → Kp (Sp1 pot) H H' → PotAt H' pot → Av (Sp1 pot) H' v d → D.rt v H') → ts D σ H
section
variable {pot : Addr} {γ : List (Option PyData)} {K : PySem.W.Frag} {te ta tb : TE} {tt tu : TT} {x y : PyData} {r C C' : PyData → Prop} {rest t : TS}
theorem kp1 {S : Addr → Prop} {H H' : Hp} (hS : S pot) (k : Kp (Sp1 pot) H H') : Kp S H H' := Kp.mono (fun X hX => by rw [hX]; exact hS) k
theorem EvD.pure (h : EvG te γ x) : EvD pot te γ (· = x) := fun S H σ hS l p e z Q q => h S H σ l e Q fun H' v s a => q H' v x (Kp.of s) (p.same s) rfl a
theorem EvD.imp (h : EvD pot te γ C) (hc : ∀ d, C d → C' d) : EvD pot te γ C' := fun S H σ hS l p e z Q q => h S H σ hS l p e z Q fun H' v d k p' c a => q H' v d k p' (hc d c) a
/-- the pot is drawn from -/
theorem EvD.draw {n : Nat} {E : XK} (h : EvG tb γ (N n)) (n1 : 1 ≤ n) (n2 : n ≤ 1000) : EvD pot (tCall SpDraw [] E (tCons (tVar 0) (tCons tb tNil))) γ (fun d => ∃ k, k < n ∧ d = N k) := fun S H σ hS l p e z Q q => by
  refine ⟨_, z, h S H σ l e _ fun H1 v s1 av => ?_⟩
  cases av
  exact ⟨pot, n, rfl, n1, n2, p.same s1, fun H' d k p' hd => q H' _ _ ((Kp.of s1).trans k) p' ⟨d, hd, rfl⟩ (.int _)⟩
theorem EvD.opR {o : R2} {f : PyData → PyData} (h1 : EvG ta γ x) (h2 : EvD pot tb γ C) (ho : ∀ y, C y → OpG o x y (f y)) : EvD pot (tOp o ta tb) γ (fun d => ∃ y, C y ∧ d = f y) := fun S H σ hS l p e z Q q =>
  h1 S H σ l e _ fun H1 v s1 av => h2 S H1 σ hS (l.same s1) (p.same s1) (e.same s1) z _ fun H2 w y k2 p2 c aw =>
    have l2 := live_kp (l.same s1) k2 p2
    ho y c S H2 v w l2 (av.keep (kp1 hS k2)) aw _ fun H3 u s3 au => q H3 u (f y) ((Kp.of s1).trans (k2.trans (Kp.of s3))) (p2.same s3) ⟨y, c, rfl⟩ au
theorem EvD.opL {o : R2} {f : PyData → PyData} (h1 : EvD pot ta γ C) (h2 : EvG tb γ y) (ho : ∀ x, C x → OpG o x y (f x)) : EvD pot (tOp o ta tb) γ (fun d => ∃ x, C x ∧ d = f x) := fun S H σ hS l p e z Q q =>
  h1 S H σ hS l p e z _ fun H1 v x k1 p1 c av =>
    have l1 := live_kp l k1 p1
    h2 S H1 σ l1 (e.keep (kp1 hS k1)) _ fun H2 w s2 aw => ho x c S H2 v w (l1.same s2) (av.same s2) aw _ fun H3 u s3 au => q H3 u (f x) (k1.trans (Kp.of (s2.trans s3))) (p1.same (s2.trans s3)) ⟨x, c, rfl⟩ au
theorem EvAD.nil : EvAD pot tNil γ (· = []) := fun S H σ hS l p e z Q q => q H [] [] (Kp.refl _ _) p rfl .nil
theorem EvAD.cons {tr : TA} {R : List PyData → Prop} (h1 : EvD pot te γ C) (h2 : EvAD pot tr γ R) : EvAD pot (tCons te tr) γ (fun ds => ∃ d rs, ds = d :: rs ∧ C d ∧ R rs) := fun S H σ hS l p e z Q q =>
  h1 S H σ hS l p e z _ fun H1 v d k1 p1 c av => h2 S H1 σ hS (live_kp l k1 p1) p1 (e.keep (kp1 hS k1)) z _ fun H2 vs rs k2 p2 cr avs => q H2 _ _ (k1.trans k2) p2 ⟨d, rs, rfl, c, cr⟩ (.cons (av.keep (kp1 hS k2)) avs)
theorem EvD.tup {tr : TA} {R : List PyData → Prop} (h : EvAD pot tr γ R) (hz : ∀ ds, R ds → ds.length ≤ sizeLine) : EvD pot (tTup tr) γ (fun d => ∃ ds, d = .tuple ds ∧ R ds) := fun S H σ hS l p e z Q q =>
  h S H σ hS l p e z _ fun H1 vs ds k1 p1 c avs => ⟨by rw [avs.len]; exact hz ds c, fun a na => q _ _ _ (k1.trans (Kp.of (same_new na))) (p1.same (same_new na)) ⟨ds, rfl, c⟩ (.tup ((live_kp l k1 p1).new na) upd_same (avs.same (same_new na)))⟩
theorem EvBD.tst {c : Bool → Prop} (h : EvD pot te γ (fun d => ∃ b, d = .bool b ∧ c b)) : EvBD pot (tTest te) γ c := fun S H σ hS l p e z Q q =>
  h S H σ hS l p e z _ fun H1 v d k1 p1 cc av => by
    obtain ⟨b, rfl, cc⟩ := cc
    cases av
    exact ⟨b, rfl, q H1 b k1 p1 cc⟩
theorem EvBD.imp {c c' : Bool → Prop} (h : EvBD pot tt γ c) (hc : ∀ b, c b → c' b) : EvBD pot tt γ c' := fun S H σ hS l p e z Q q => h S H σ hS l p e z Q fun H' b k p' cc => q H' b k p' (hc b cc)
theorem EvBD.or {a : Bool} {c : Bool → Prop} (h1 : EvB tt γ a) (h2 : EvBD pot tu γ c) : EvBD pot (tOr tt tu) γ (fun b => a = true → b = true) := fun S H σ hS l p e z Q q =>
  h1 S H σ l e _ fun H1 s1 => by
    cases a with
    | true =>
      rw [if_pos rfl]
      exact q H1 true (Kp.of s1) (p.same s1) fun _ => rfl
    | false =>
      rw [if_neg Bool.false_ne_true]
      exact h2 S H1 σ hS (l.same s1) (p.same s1) (e.same s1) z _ fun H2 b k2 p2 _ => q H2 b ((Kp.of s1).trans k2) p2 fun w => by cases w
theorem EvD.ite {c : Bool → Prop} (hc : EvBD pot tt γ c) (h1 : EvG ta γ x) (h2 : EvG tb γ y) : EvD pot (tIf tt ta tb) γ (fun d => d = x ∨ d = y) := fun S H σ hS l p e z Q q =>
  hc S H σ hS l p e z _ fun H1 b k1 p1 _ => by
    have l1 := live_kp l k1 p1
    have e1 := e.keep (kp1 hS k1)
    cases b with
    | true =>
      rw [if_pos rfl]
      exact h1 S H1 σ l1 e1 _ fun H2 v s2 av => q H2 v x (k1.trans (Kp.of s2)) (p1.same s2) (.inl rfl) av
    | false =>
      rw [if_neg Bool.false_ne_true]
      exact h2 S H1 σ l1 e1 _ fun H2 v s2 av => q H2 v y (k1.trans (Kp.of s2)) (p1.same s2) (.inr rfl) av
/-! ### statements -/
theorem StR.pure (h : StG t γ (.rt x)) (hx : r x) : StR pot t γ r := fun H σ D p e z k => h (Sp1 pot) H σ D p.live e fun v H' s a => k v H' x hx (Kp.of s) (p.same s) a
theorem set0 {σ : L2.St} {i : Nat} {v w : V} (hi : i ≠ 0) (z : σ[0]? = some (some w)) : (σ.set i (some v))[0]? = some (some w) := by
  rw [List.getElem?_set_ne hi]
  exact z
theorem StR.setD {i : Nat} (hi : i ≠ 0) (h : EvD pot te γ C) (hn : ∀ d, C d → StR pot rest (γ.set i (some d)) r) : StR pot (tSeq (tAsg te (gName i)) rest) γ r := fun H σ D p e z k =>
  h (Sp1 pot) H σ rfl p.live p e z _ fun H1 v d k1 p1 c av => hn d c H1 _ D p1 ((e.keep k1).set i av) (set0 hi z) fun v H' d' hd k2 p2 a => k v H' d' hd (k1.trans k2) p2 a
theorem StR.set {i : Nat} (hi : i ≠ 0) (h : EvG te γ x) (hn : StR pot rest (γ.set i (some x)) r) : StR pot (tSeq (tAsg te (gName i)) rest) γ r := .setD hi (.pure h) fun d c => by rw [c]; exact hn
theorem StR.asg3 {i j m : Nat} {R : PyData → PyData → PyData → Prop} (hi : i ≠ 0) (hj : j ≠ 0) (hm : m ≠ 0) (h : EvD pot te γ (fun d => ∃ x y z, d = .tuple [x, y, z] ∧ R x y z)) (hn : ∀ x y z, R x y z → StR pot rest (((γ.set i (some x)).set j (some y)).set m (some z)) r) : StR pot (tSeq (tAsg te (gTup K 3 (gCons (gName i) (gCons (gName j) (gCons (gName m) gNil))))) rest) γ r := fun H σ D p e z k =>
  h (Sp1 pot) H σ rfl p.live p e z _ fun H1 v d k1 p1 c av => by
    obtain ⟨a, b, c, rfl, hR⟩ := c
    cases av with
    | tup n f hs =>
      cases hs with
      | cons a1 r1 =>
        cases r1 with
        | cons a2 r2 =>
          cases r2 with
          | cons a3 r3 =>
            cases r3
            exact ⟨_, _, rfl, SqT.of f, rfl, _, _, rfl, _, _, rfl, _, _, rfl, rfl, hn a b c hR H1 _ D p1 ((((e.keep k1).set i a1).set j a2).set m a3) (set0 hm (set0 hj (set0 hi z))) fun v H' d' hd k2 p2 a => k v H' d' hd (k1.trans k2) p2 a⟩
theorem StR.par {i j : Nat} {ta : TA} (hi : i ≠ 0) (hj : j ≠ 0) (h : EvA ta γ [x, y]) (hn : StR pot rest ((γ.set i (some x)).set j (some y)) r) : StR pot (tSeq (tPar i j ta) rest) γ r := fun H σ D p e z k =>
  h (Sp1 pot) H σ p.live e _ fun H1 vs s1 av => by
    cases av with
    | cons a r1 =>
      cases r1 with
      | cons b r2 =>
        cases r2
        exact ⟨_, _, rfl, hn H1 _ D (p.same s1) (((e.same s1).set i a).set j b) (set0 hj (set0 hi z)) fun v H' d' hd k2 p2 a => k v H' d' hd ((Kp.of s1).trans k2) p2 a⟩
theorem StR.ifF (hc : EvB tt γ false) (hn : StR pot rest γ r) : StR pot (tSeq (tIfS tt t tNext) rest) γ r := fun H σ D p e z k =>
  hc (Sp1 pot) H σ p.live e _ fun H1 s1 => by
    rw [if_neg Bool.false_ne_true]
    exact hn H1 σ D (p.same s1) (e.same s1) z fun v H' d' hd k2 p2 a => k v H' d' hd ((Kp.of s1).trans k2) p2 a
/-- [e for x in range(n) if test], the test drawn -/
theorem lc_pot {S : Addr → Prop} {j n : Nat} {tn : TE} {σ : L2.St} {H : Hp} {Q : VK} {must : Nat → Prop} {m : Nat → PyData} (hS : S pot) (l : Live S H) (hp : PotAt H pot) (e : Gm S H σ γ) (h0 : σ[0]? = some (some (.ref pot))) (hj : j ≠ 0) (hn : n ≤ 1000) (hr : EvG tn γ (N n))
    (step : ∀ i, i < n → EvBD pot tt ((wipeG γ [j]).set j (some (N i))) (fun b => must i → b = true) ∧ EvG te ((wipeG γ [j]).set j (some (N i))) (m i))
    (hd : ∀ (H' : Hp) (D : Addr) (ks : List Nat), Kp (Sp1 pot) H H' → PotAt H' pot → Av S H' (.ref D) (.list (ks.map m)) → ks.Pairwise (· < ·) → (∀ k ∈ ks, k < n) → (∀ k, k < n → must k → k ∈ ks) → Q (.ref D) H') : tLc (iRng1 (tCons tn tNil)) (gName j) tt te [j] σ H Q := by
  refine hr S H σ l e _ fun H1 v s1 av => ?_
  cases av
  refine ⟨_, rfl, by omega, by omega, fun D hD => ?_⟩
  have l1 := l.same s1
  have p1 := hp.same s1
  have nD : ¬ S D := l1.new hD
  have nDp : D ≠ pot := fun z => nD (z ▸ hS)
  have e1 : Gm (SD S D) H1 σ γ := (e.same s1).fresh hD
  have sD := same_new (o := .lst []) hD
  refine lc_range (fun i H' => Kp (Sp1 pot) H1 H' ∧ PotAt H' pot ∧ ∃ xs ks, H' D = some (.lst xs) ∧ Avs (SD S D) H' xs (ks.map m) ∧ ks.Pairwise (· < ·) ∧ (∀ k ∈ ks, k < i) ∧ ∀ k, k < i → must k → k ∈ ks) ⟨Kp.of sD, p1.same sD, [], [], upd_same, .nil, .nil, fun k z => (by cases z), fun k z => absurd z (Nat.not_lt_zero k)⟩ ?_ ?_
  · rintro i H' hi ⟨kk, pp, xs, ks, hD', ha, hs, hk, hm⟩
    rw [Int.toNat_natCast] at hi
    refine ⟨by rw [wipe_set (.head _), wipe_wipe], ?_⟩
    obtain ⟨st, se⟩ := step i hi
    have l2 : Live (SD S D) H' := fun X hX => hX.elim (fun z => live_kp l1 kk pp X z) fun z => by
      rw [z, hD']
      intro w
      cases w
    have z2 : ((wipe σ [j]).set j (some (.int (0 + (i : Nat)))))[0]? = some (some (.ref pot)) := by
      rw [List.getElem?_set_ne hj]
      show ((wipe σ []).set j none)[0]? = _
      rw [List.getElem?_set_ne hj]
      exact h0
    have e2 : Gm (SD S D) H' ((wipe σ [j]).set j (some (.int (0 + (i : Nat))))) ((wipeG γ [j]).set j (some (N i))) := by
      rw [Int.zero_add]
      exact ((e1.keep (kp1 (.inl hS) kk)).wipe [j]).set j (.int _)
    refine st (SD S D) H' _ (.inl hS) l2 pp e2 z2 _ fun H3 b k3 p3 hb => ?_
    have k13 := kk.trans k3
    have hD3 : H3 D = some (.lst xs) := k3 D _ nDp hD'
    have ha3 := ha.keep (kp1 (S := SD S D) (.inl hS) k3)
    cases b with
    | false =>
      rw [if_neg Bool.false_ne_true]
      refine ⟨k13, p3, xs, ks, hD3, ha3, hs, fun k hk' => Nat.lt_succ_of_lt (hk k hk'), fun k hk' hmu => ?_⟩
      rcases Nat.lt_succ_iff_lt_or_eq.mp hk' with g | g
      · exact hm k g hmu
      · subst g
        cases hb hmu
    | true =>
      rw [if_pos rfl]
      refine se (SD S D) H3 _ (live_kp l2 k3 p3) (e2.keep (kp1 (.inl hS) k3)) _ fun H4 v s4 av => ?_
      have hD4 := s4 _ _ hD3
      have ha4 := ha3.same s4
      have hlen : xs.length < 1000000 := by
        have hl := ha4.len
        rw [List.length_map] at hl
        have hnd : ks.Nodup := hs.imp fun {a b} h z => by omega
        have : ks.length ≤ (List.range i).length := List.Nodup.length_le_of_subset hnd fun k hk' => List.mem_range.mpr (hk k hk')
        rw [List.length_range] at this
        omega
      have kp : Kp (SD S D) H4 (upd H4 D (.lst (xs ++ [v]))) := fun b o n hb' => by
        rw [upd_ne (fun z => n (.inr z))]
        exact hb'
      refine ⟨xs, hD4, Nat.lt_of_lt_of_le hlen (by decide), fun b o nb hb' => ?_, ?_, xs ++ [v], ks ++ [i], upd_same, ?_, ?_, ?_, ?_⟩
      · rw [upd_ne (ne_of_none hb' hD)]
        exact s4 _ _ (k13 _ _ nb hb')
      · obtain ⟨a, b, f, g⟩ := p3.same s4
        exact ⟨a, b, by rw [upd_ne (Ne.symm nDp)]; exact f, g⟩
      · rw [List.map_append]
        exact (ha4.app (.cons av .nil)).keep kp
      · rw [List.pairwise_append]
        exact ⟨hs, List.pairwise_singleton _ _, fun a ha' b hb' => by rw [List.mem_singleton.mp hb']; exact hk a ha'⟩
      · intro k hk'
        rcases List.mem_append.mp hk' with g | g
        · exact Nat.lt_succ_of_lt (hk k g)
        · rw [List.mem_singleton.mp g]
          exact Nat.lt_succ_self i
      · intro k hk' hmu
        rcases Nat.lt_succ_iff_lt_or_eq.mp hk' with g | g
        · exact List.mem_append.mpr (.inl (hm k g hmu))
        · exact List.mem_append.mpr (.inr (by rw [g]; exact .head _))
  · rintro H' ⟨kk, pp, xs, ks, hD', ha, hs, hk, hm⟩
    rw [Int.toNat_natCast] at hk hm
    exact hd H' D ks ((Kp.of s1).trans kk) pp (.lst nD hD' (ha.less fun X h => .inl h)) hs hk hm
end
/-! ### boards -/
structure SpBoard (vs : List V) (H : Hp) (Q : VK) (E : XK) : Prop where
  ex : ∃ pot : Addr, vs = [.ref pot, .int 4] ∧ PotAt H pot ∧ ∀ H' v t w ps, Board t w ps → Kp (Sp1 pot) H H' → PotAt H' pot → Av (Sp1 pot) H' v (.tuple [N t, N w, .list (psD ps)]) → Q v H'
theorem grid_le {ps : List Pl} (h : ps.Pairwise ltP) (h4 : ∀ p ∈ ps, p.1 < 4 ∧ p.2 < 4) : ps.length ≤ 16 :=
  List.Nodup.length_le_of_subset (l₂ := grid16) (ltP_nodup h) fun p hp => grid_mem (h4 p hp).1 (h4 p hp).2
section
variable {P : Program} {w : World} {K : PySem.W.Frag} {mg : Str → Option Value} {base : Heap}
abbrev nBo : List Str := ["_law_pot_here", "_law_most_here", "_law_tall", "_law_wide", "_law_often", "_law_sure", "_law_places", "_law_row", "_law_column"]
theorem scBo : FnScope nBo ["_law_pot_here", "_law_most_here"] (defScope sBo) := ⟨rfl, rfl, rfl, by decide +kernel, rfl, by decide +kernel, by decide +kernel⟩
theorem ok_bo {f : Addr} {fd : FuncData} (F : Fun K "_law_board" "_law_board" sBo f fd) (B : Blt mg) (dDr : Dn P w K mg base 1 "_law_draw" ["_law_pot_here", "_law_many"] SpDraw) : FnOk P w K mg base CX0 2 f fd ["_law_pot_here", "_law_most_here"] SpBoard := by
  refine F.ok scBo (fun vs H Q E h => ?_) (fun cdv A outer s H vs Q E hr h => ?_)
  · obtain ⟨pot, rfl, _⟩ := h
    rfl
  have hu65 := u65 hr
  have hu := Nat.lt_of_succ_lt hu65
  refine ⟨_, pss_cons (ps_asg (pe_tup (pa_cons (pe_op op_add pe_int (pe_call dDr.G (hr.mono (by decide)) (by rfl) dDr.m dDr.k dDr.b .nil pass0 (pa_cons (pv 0) (pa_cons (pv 1) pa_nil)))) (pa_cons (pe_op op_add pe_int (pe_call dDr.G (hr.mono (by decide)) (by rfl) dDr.m dDr.k dDr.b .nil pass0 (pa_cons (pv 0) (pa_cons (pv 1) pa_nil)))) (pa_cons (pe_op op_add pe_int (pe_call dDr.G (hr.mono (by decide)) (by rfl) dDr.m dDr.k dDr.b .nil pass0 (pa_cons (pv 0) (pa_cons pe_int pa_nil)))) pa_nil)))) (pg_tup rfl (pgs_cons (pg_name (i := 2) scBo.nd rfl (Or.inl rfl)) (pgs_cons (pg_name (i := 3) scBo.nd rfl (Or.inl rfl)) (pgs_cons (pg_name (i := 4) scBo.nd rfl (Or.inr rfl)) pgs_nil)))))
      (pss_cons (ps_set (i := 5) scBo.nd rfl (Or.inr rfl) (pe_tup (pa_cons (pe_call dDr.G (hr.mono (by decide)) (by rfl) dDr.m dDr.k dDr.b .nil pass0 (pa_cons (pv 0) (pa_cons (pv 2) pa_nil))) (pa_cons (pe_call dDr.G (hr.mono (by decide)) (by rfl) dDr.m dDr.k dDr.b .nil pass0 (pa_cons (pv 0) (pa_cons (pv 3) pa_nil))) pa_nil))))
      (pss_cons (ps_set (i := 6) scBo.nd rfl (Or.inl rfl) (pe_lst pa_nil))
      (pss_cons (ps_for PassesOwn.never rfl (pi_range1 (by rfl) B.range (pa_cons (pv 2) pa_nil)) (pg_name (i := 7) scBo.nd rfl (Or.inr rfl)) (pss_one (ps_expr (pe_bm PySem.F.plainAttrs_list PySem.F.slot_list_extend PySem.F.type_list_extend mt_extend (pv 6) (pa_cons (pe_lc (own := [("_law_column", 8)]) (g := gName 8) (tt := (tOr (tTest (tOp (rEqD K) (tTup (tCons (tVar 7) (tCons (tVar 8) tNil))) (tVar 5))) (tTest (tOp (rI0 fun i j => .bl (decide (i < j))) (tCall SpDraw [] E0 (tCons (tVar 0) (tCons (tC (.int 4)) tNil))) (tVar 4))))) (te := (tTup (tCons (tVar 7) (tCons (tVar 8) tNil)))) rfl scBo.nd (pi_range1 (by rfl) B.range (pa_cons (pv 3) pa_nil)) (blkOk_by (own := [("_law_column", 8)]) (N := nBo) (sc := defScope sBo) (by decide +kernel)) (fun _ _ _ _ _ => (pg_name (i := 8) scBo.nd rfl (Or.inl rfl))) (fun _ _ _ _ _ => (pts_one (pw_or (pt_cmpR (op_eqD hu) (pe_tup (pa_cons (pv 7) (pa_cons (pv 8) pa_nil))) (pv 5) (nomark _)) (pw_or1 (pt_cmpR op_lt (pe_call dDr.G (hr.mono (by decide)) (by rfl) dDr.m dDr.k dDr.b .nil pass0 (pa_cons (pv 0) (pa_cons pe_int pa_nil))) (pv 4) (nomark _)))).pt)) (fun _ _ _ _ _ => (pe_tup (pa_cons (pv 7) (pa_cons (pv 8) pa_nil))))) pa_nil)))))
      (pss_one (ps_ret (pe_tup (pa_cons (pv 2) (pa_cons (pv 3) (pa_cons (pv 6) pa_nil))))))))), ?_⟩
  obtain ⟨pot, rfl, hp, kk⟩ := h
  have one : ∀ {n : Nat} {g : List (Option PyData)} {tb : TE}, EvG tb g (N n) → 1 ≤ n → n ≤ 1000 → EvD pot (tOp (rI0 fun i j => .int (i + j)) (tC (.int 1)) (tCall SpDraw [] E0 (tCons (tVar 0) (tCons tb tNil)))) g (fun d => ∃ k, k < n ∧ d = N (1 + k)) := fun {n g tb} h n1 n2 =>
    (EvD.opR (x := .int 1) (f := fun y => match y with | .int i => .int (1 + i) | _ => .none) (.int 1) (.draw h n1 n2) fun y c => by
      obtain ⟨k, hk, rfl⟩ := c
      exact .add).imp fun d ⟨y, ⟨k, hk, ey⟩, ed⟩ => ⟨k, hk, by
        rw [ed, ey]
        show PyData.int (1 + (k : Int)) = .int ((1 + k : Nat) : Int)
        congr 1⟩
  have start : Gm (Sp1 pot) H (L2.start nBo [.ref pot, .int 4]) [none, some (N 4), none, none, none, none, none, none, none] := ⟨rfl, fun i d hd => by
    match i, hd with
    | 0, hd => cases hd
    | 1, hd => exact ⟨_, rfl, by cases hd; exact .int 4⟩
    | 2, hd => cases hd
    | 3, hd => cases hd
    | 4, hd => cases hd
    | 5, hd => cases hd
    | 6, hd => cases hd
    | 7, hd => cases hd
    | 8, hd => cases hd
    | i + 9, hd => cases hd⟩
  have d3 := EvD.tup (pot := pot) (.cons (one (n := 4) (g := [none, some (N 4), none, none, none, none, none, none, none]) (tb := tVar 1) (.var rfl) (by decide) (by decide)) (.cons (one (n := 4) (tb := tVar 1) (.var rfl) (by decide) (by decide)) (.cons (one (n := 4) (tb := tC (.int 4)) (.int 4) (by decide) (by decide)) .nil))) (by
    rintro ds ⟨a, _, e, _, b, _, e2, _, c, _, e3, _, e4⟩
    rw [e, e2, e3, e4]
    show 3 ≤ sizeLine
    decide)
  have d3' := d3.imp (C' := fun d => ∃ x y z, d = .tuple [x, y, z] ∧ ∃ t w o : Nat, 1 ≤ t ∧ t ≤ 4 ∧ 1 ≤ w ∧ w ≤ 4 ∧ x = N t ∧ y = N w ∧ z = N o) (by
    rintro d ⟨_, rfl, _, _, rfl, ⟨t0, ht0, rfl⟩, _, _, rfl, ⟨w0, hw0, rfl⟩, _, _, rfl, ⟨o0, ho0, rfl⟩, rfl⟩
    exact ⟨_, _, _, rfl, 1 + t0, 1 + w0, 1 + o0, by omega, by omega, by omega, by omega, rfl, rfl, rfl⟩)
  refine (StR.asg3 (r := fun d => ∃ t w ps, Board t w ps ∧ d = .tuple [N t, N w, .list (psD ps)]) (by decide) (by decide) (by decide) d3' ?_) H _ _ hp start rfl ?_
  rotate_left
  · rintro v H' d ⟨t, w, ps, hb, rfl⟩ k p a
    exact kk H' v t w ps hb k p a
  · rintro x y z ⟨t, w, o, t1, t4, w1, w4, rfl, rfl, rfl⟩
    refine StR.setD (by decide) (EvD.tup (.cons (.draw (.var rfl) t1 (by omega)) (.cons (.draw (.var rfl) w1 (by omega)) .nil)) (by
      rintro ds ⟨a, _, e, _, b, _, e2, _, e3⟩
      rw [e, e2, e3]
      exact two_line)) ?_
    rintro d ⟨_, rfl, _, _, rfl, ⟨sa, hsa, rfl⟩, _, _, rfl, ⟨sb, hsb, rfl⟩, rfl⟩
    intro H σ D hp e z k
    refine ⟨by decide, fun L nL => ?_⟩
    have nLp : L ≠ pot := fun w => by
      obtain ⟨_, _, f, _⟩ := hp
      rw [← w, nL] at f
      cases f
    have sL := same_new (o := .lst []) nL
    have e6 : Gm (SD (Sp1 pot) L) (upd H L (.lst [])) (σ.set 6 (some (.ref L))) [none, some (N 4), some (N t), some (N w), some (N o), some (.tuple [N sa, N sb]), none, none, none] := by
      have e' := (e.fresh nL).same sL
      refine ⟨by rw [List.length_set]; exact e'.len, fun i d hd => ?_⟩
      by_cases hi : i = 6
      · subst hi
        cases hd
      · obtain ⟨v, h1, h2⟩ := e'.at_ i d hd
        exact ⟨v, by rw [List.getElem?_set_ne (Ne.symm hi)]; exact h1, h2⟩
    have z6 : (σ.set 6 (some (.ref L)))[0]? = some (some (.ref pot)) := set0 (by decide) z
    have y6 : (σ.set 6 (some (.ref L)))[6]? = some (some (.ref L)) := by
      rw [List.getElem?_set]
      simp only [if_true]
      rw [if_pos (by rw [e.len]; show (6 : Nat) < 9; decide)]
    have p6 := hp.same sL
    have l6 : Live (SD (Sp1 pot) L) (upd H L (.lst [])) := fun X hX => hX.elim (fun w => p6.live X w) fun w => by
      rw [w, upd_same]
      intro q
      cases q
    refine (EvG.var rfl : EvG (tVar 2) _ (N t)) _ _ _ l6 e6 _ fun H0 v s0 av => ?_
    cases av
    refine ⟨_, rfl, by omega, by omega, ?_⟩
    refine for_range (fun i σ' H' => Kp (Sp1 pot) H H' ∧ PotAt H' pot ∧ Gm (SD (Sp1 pot) L) H' σ' [none, some (N 4), some (N t), some (N w), some (N o), some (.tuple [N sa, N sb]), none, none, none] ∧ σ'[0]? = some (some (.ref pot)) ∧ σ'[6]? = some (some (.ref L)) ∧ ∃ xs ps, H' L = some (.lst xs) ∧ Avs (SD (Sp1 pot) L) H' xs (psD ps) ∧ ps.Pairwise ltP ∧ (∀ p ∈ ps, p.1 < i ∧ p.2 < w) ∧ (sa < i → (sa, sb) ∈ ps)) ?_ ?_ ?_
    · exact ⟨Kp.of (sL.trans s0), p6.same s0, e6.same s0, z6, y6, [], [], s0 _ _ upd_same, .nil, .nil, fun p z => (by cases z), fun z => absurd z (Nat.not_lt_zero sa)⟩
    · rintro i σ' H' hi ⟨k1, p1, e1, z1, y1, xs, ps, hL, ha, hs, hb, hm⟩
      rw [Int.toNat_natCast] at hi
      have z7 : (σ'.set 7 (some (.int (0 + (i : Nat)))))[0]? = some (some (.ref pot)) := set0 (by decide) z1
      have y7 : (σ'.set 7 (some (.int (0 + (i : Nat)))))[6]? = some (some (.ref L)) := by
        rw [List.getElem?_set_ne (by decide)]
        exact y1
      have e7 : Gm (SD (Sp1 pot) L) H' (σ'.set 7 (some (.int (0 + (i : Nat))))) [none, some (N 4), some (N t), some (N w), some (N o), some (.tuple [N sa, N sb]), none, some (N i), none] := by
        rw [Int.zero_add]
        exact e1.set 7 (.int _)
      have l7 : Live (SD (Sp1 pot) L) H' := fun X hX => hX.elim (fun w => p1.live X w) fun w => by
        rw [w, hL]
        intro q
        cases q
      refine ⟨_, y7, .inl ⟨rfl, _, SqL.of hL⟩, ?_⟩
      refine lc_pot (must := fun c => i = sa ∧ c = sb) (m := fun c => .tuple [N i, N c]) (.inl rfl) l7 p1 e7 z7 (by decide) (by omega) (.var rfl) (fun c hc => ⟨?_, ?_⟩) fun H3 Dd ks k3 p3 av3 hks hkn hmu => ?_
      · refine (EvBD.or (a := decide ((i, c) = (sa, sb))) (.eq (.tst (.op (.tup (.cons (.var rfl) (.cons (.var rfl) .nil)) two_line) (.var rfl) (.eqD rfl rfl (sh_pD (i, c)) (sh_pD (sa, sb))))) (eqv_pD (i, c) (sa, sb))) (.tst (c := fun _ => True) ((EvD.opL (y := N o) (f := fun x => match x with | .int a => .bool (decide (a < (o : Int))) | _ => .none) (.draw (.int 4) (by decide) (by decide)) (.var rfl) fun x c => ?_).imp fun d hd => ?_))).imp fun b hb hmu => hb (decide_eq_true (by rw [hmu.1, hmu.2]))
        · obtain ⟨k, _, rfl⟩ := c
          exact .lt
        · obtain ⟨_, ⟨k, _, rfl⟩, rfl⟩ := hd
          exact ⟨_, rfl, trivial⟩
      · exact .tup (.cons (.var rfl) (.cons (.var rfl) .nil)) two_line
      · have hL3 : H3 L = some (.lst xs) := k3 L _ nLp hL
        have ha3 := ha.keep (kp1 (S := SD (Sp1 pot) L) (.inl rfl) k3)
        have hbn : ∀ p ∈ ps ++ ks.map (fun c => ((i, c) : Pl)), p.1 < i + 1 ∧ p.2 < w := fun p hp' => by
          rcases List.mem_append.mp hp' with g | g
          · have := hb p g
            omega
          · obtain ⟨c, hc, rfl⟩ := List.mem_map.mp g
            exact ⟨Nat.lt_succ_self i, hkn c hc⟩
        have hsn : (ps ++ ks.map (fun c => ((i, c) : Pl))).Pairwise ltP := by
          rw [List.pairwise_append]
          refine ⟨hs, List.pairwise_map.mpr (hks.imp fun {a b} h => .inr ⟨rfl, h⟩), fun p hp' q hq => .inl ?_⟩
          obtain ⟨c, hc, rfl⟩ := List.mem_map.mp hq
          exact (hb p hp').1
        have h16 := grid_le hsn fun p hp' => by
          have := hbn p hp'
          omega
        have ed : (ks.map fun c => PyData.tuple [N i, N c]) = psD (ks.map fun c => ((i, c) : Pl)) := by
          show _ = (ks.map _).map pD
          rw [List.map_map]
          rfl
        rw [ed] at av3
        cases av3 with
        | lst nD hD hz =>
          rename_i zs
          have hl1 := ha3.len
          have hl2 := hz.len
          rw [len_psD] at hl1 hl2
          rw [List.length_append] at h16
          have kp : Kp (SD (Sp1 pot) L) H3 (upd H3 L (.lst (xs ++ zs))) := fun b o n e => by
            rw [upd_ne (fun z => n (.inr z))]
            exact e
          refine ⟨L, Dd, xs, zs, rfl, rfl, hL3, hD, by rw [hl1, hl2]; exact Nat.le_trans h16 (by decide), fun b o nb e => ?_, ?_, (e7.keep (kp1 (.inl rfl) k3)).keep kp |>.less (.k (.k (.k (.k (.k (.k (.k (.f (.k .nil))))))))), z7, y7, xs ++ zs, ps ++ ks.map (fun c => ((i, c) : Pl)), upd_same, ?_, hsn, hbn, fun g => ?_⟩
          · rw [upd_ne (ne_of_none e nL)]
            exact k3 _ _ nb (k1 _ _ nb e)
          · obtain ⟨a, b, f, g⟩ := p3
            exact ⟨a, b, by rw [upd_ne (Ne.symm nLp)]; exact f, g⟩
          · rw [show psD (ps ++ ks.map (fun c => ((i, c) : Pl))) = psD ps ++ psD (ks.map fun c => ((i, c) : Pl)) from List.map_append ..]
            exact (ha3.app hz).keep kp
          · rcases Nat.lt_succ_iff_lt_or_eq.mp g with g | g
            · exact List.mem_append.mpr (.inl (hm g))
            · exact List.mem_append.mpr (.inr (List.mem_map.mpr ⟨sb, hmu sb hsb ⟨g.symm, rfl⟩, by rw [g]⟩))
    · rintro σ' H' ⟨k1, p1, e1, z1, y1, xs, ps, hL, ha, hs, hb, hm⟩
      rw [Int.toNat_natCast] at hb hm
      have hb' : Board t w ps := ⟨t1, t4, w1, w4, List.length_pos_of_mem (hm hsa), grid_le hs fun p hp' => by
        have := hb p hp'
        omega, hb, hs⟩
      have e7 := Gm.learn (Gm.sub (fun X h => .inl h) e1) y1 (Av.lst nLp hL (ha.less fun X h => .inl h))
      exact StG.ret (.tup (.cons (.var rfl) (.cons (.var rfl) (.cons (.var rfl) .nil))) (by show 3 ≤ sizeLine; decide)) (Sp1 pot) H' σ' D p1.live e7 fun v H2 s a => k v H2 _ ⟨t, w, ps, hb', rfl⟩ (k1.trans (Kp.of s)) (p1.same s) a
end
end K71

set_option Elab.async false
set_option linter.all false
set_option maxRecDepth 100000
set_option maxHeartbeats 4000000
/-! One board, looked at. -/
namespace K71
open PySem L2 GD RQ
section
variable {pot : Addr} {γ : List (Option PyData)} {K : PySem.W.Frag} {te ta tb : TE} {tt tu : TT} {x y : PyData} {r C C' : PyData → Prop} {rest t : TS}
theorem StR.board {E : XK} (hn : ∀ t w ps, Board t w ps → StR pot rest (((γ.set 1 (some (N t))).set 2 (some (N w))).set 3 (some (.list (psD ps)))) r) : StR pot (tSeq (tAsg (tCall SpBoard [] E (tCons (tVar 0) (tCons (tC (.int 4)) tNil))) (gTup K 3 (gCons (gName 1) (gCons (gName 2) (gCons (gName 3) gNil))))) rest) γ r := fun H σ D p e z k =>
  ⟨_, z, ⟨pot, rfl, p, fun H1 v t w ps hb k1 p1 av => by
    cases av with
    | tup n f hs =>
      cases hs with
      | cons a1 r1 =>
        cases r1 with
        | cons a2 r2 =>
          cases r2 with
          | cons a3 r3 =>
            cases r3
            exact ⟨_, _, rfl, SqT.of f, rfl, _, _, rfl, _, _, rfl, _, _, rfl, rfl, hn t w ps hb H1 _ D p1 ((((e.keep k1).set 1 a1).set 2 a2).set 3 a3) (set0 (by decide) (set0 (by decide) (set0 (by decide) z))) fun v H' d' hd k2 p2 a => k v H' d' hd (k1.trans k2) p2 a⟩⟩⟩
end
theorem eqv_cv (ps : List Pl) (rows : List Nat) : PyData.eqv (cvD ps rows) (cvD ps rows) = true := by
  show (PyData.eqv (.list (nsD rows)) (.list (nsD rows)) && (PyData.eqv (.list (nsD (colsOf ps rows))) (.list (nsD (colsOf ps rows))) && true)) = true
  rw [eqvAll_ns, eqvAll_ns]
  rfl
theorem nd_cv (ps : List Pl) (rows : List Nat) : nd (cvD ps rows) = true := by
  show (nds (nsD rows) && (nds (nsD (colsOf ps rows)) && true)) = true
  rw [nds_ns, nds_ns]
  rfl
theorem sh_cv (ps : List Pl) (rows : List Nat) : SeqAt.shaped (cvD ps rows) = true := by
  unfold SeqAt.shaped
  rw [Bool.and_eq_true, decide_eq_true_eq]
  constructor
  · show (PyData.canLayAll0 (nsD rows) && (PyData.canLayAll0 (nsD (colsOf ps rows)) && true)) = true
    rw [lay_ns, lay_ns]
    rfl
  · show max (PyData.depthAll (nsD rows) + 1) (max (PyData.depthAll (nsD (colsOf ps rows)) + 1) 0) + 1 ≤ 64
    rw [dep_ns, dep_ns]
    decide
/-- a def that is called by keywords too -/
structure DnK (P : Program) (w : World) (K : PySem.W.Frag) (mg : Str → Option Value) (base : Heap) (lv : Nat) (x : Str) (ps : List Str) (sp : Sp) extends Dn P w K mg base lv x ps sp where
  bk : KBn K fd ps 0 ps.reverse (fun us ws => us ++ ws.reverse) (fun vs zs => vs ++ zs.reverse)
structure SpRi (vs : List V) (H : Hp) (Q : VK) (E : XK) : Prop where
  ex : ∃ pot : Addr, vs = [.ref pot] ∧ PotAt H pot ∧ ∀ H', Kp (Sp1 pot) H H' → PotAt H' pot → Q (.bl true) H'
section
variable {P : Program} {w : World} {K : PySem.W.Frag} {mg : Str → Option Value} {base : Heap}
abbrev nRi : List Str := ["_law_pot_here", "_law_tall", "_law_wide", "_law_places", "_law_given", "_law_due", "_law_shown", "_law_one", "_law_other", "_law_turned", "_law_out", "_law_left", "_law_fewer", "_law_row", "_law_column"]
theorem scRi : FnScope nRi ["_law_pot_here"] (defScope sRi) := ⟨rfl, rfl, rfl, by decide +kernel, rfl, by decide +kernel, by decide +kernel⟩
theorem ok_ri {f : Addr} {fd : FuncData} (F : Fun K "_law_right" "_law_right" sRi f fd) (B : Blt mg) (dDr : Dn P w K mg base 1 "_law_draw" ["_law_pot_here", "_law_many"] SpDraw) (dBo : Dn P w K mg base 2 "_law_board" ["_law_pot_here", "_law_most_here"] SpBoard)
    (dMo : Dn P w K mg base 5 "_law_most" ["_law_tall", "_law_places", "_law_row", "_law_used"] (SpG Fmo4)) (dFe : Dn P w K mg base 2 "_law_fewest" ["_law_tall", "_law_places"] (SpG Ffe)) (dRk : DnK P w K mg base 7 "rooks" ["tall", "wide", "places"] (SpG Frk)) (dCv : DnK P w K mg base 7 "cover" ["tall", "wide", "places"] (SpG Fcv))
    (dIr : Dn P w K mg base 8 "is_rooks" ["tall", "wide", "places", "value"] (SpG Fir)) (dIc : Dn P w K mg base 8 "is_cover" ["tall", "wide", "places", "value"] (SpG Fic)) (dRr : DnG P w K mg base 9 "_law_rooks_right" ["_law_tall", "_law_wide", "_law_places", "_law_told", "_law_due"] (SpG Frr)) (dCr : DnG P w K mg base 9 "_law_cover_right" ["_law_tall", "_law_wide", "_law_places", "_law_told", "_law_due"] (SpG Fcr)) :
    FnG P w K mg base 10 f fd ["_law_pot_here"] SpRi := by
  refine okG F scRi (fun vs H Q E h => ?_) (fun cdv A outer s H vs Q E hgd hr h => ?_)
  · obtain ⟨pot, rfl, _⟩ := h
    rfl
  have hu65 := u65 hr
  have hu := Nat.lt_of_succ_lt hu65
  refine ⟨_, pss_cons (ps_asg (pe_call dBo.G (hr.mono (by decide)) (by rfl) dBo.m dBo.k dBo.b .nil pass0 (pa_cons (pv 0) (pa_cons pe_int pa_nil))) (pg_tup rfl (pgs_cons (pg_name (i := 1) scRi.nd rfl (Or.inl rfl)) (pgs_cons (pg_name (i := 2) scRi.nd rfl (Or.inl rfl)) (pgs_cons (pg_name (i := 3) scRi.nd rfl (Or.inl rfl)) pgs_nil)))))
      (pss_cons (ps_set (i := 4) scRi.nd rfl (Or.inl rfl) (pe_ifExp (pt_cmpR op_eq (pe_call dDr.G (hr.mono (by decide)) (by rfl) dDr.m dDr.k dDr.b .nil pass0 (pa_cons (pv 0) (pa_cons pe_int pa_nil))) pe_int (nomark _)) (pe_callTy call_tuple_of (by rfl) B.tuple PyProof.Rows.boot_tuple (pa_cons (pv 3) pa_nil)) (pe_callTy call_list_of (by rfl) B.list PyProof.Rows.boot_list (pa_cons (pv 3) pa_nil))))
      (pss_cons (ps_par (i := 5) (j := 6) rfl scRi.nd rfl rfl (by decide) rfl rfl (pa_cons (pe_call dMo.G (hr.mono (by decide)) (by rfl) dMo.m dMo.k dMo.b .nil pass0 (pa_cons (pv 1) (pa_cons (pv 3) (pa_cons pe_int (pa_cons (pe_lst pa_nil) pa_nil))))) (pa_cons (pe_callB (call_reprD hgd hu) (by rfl) B.repr PyProof.Rows.boot_repr (pa_cons (pv 4) pa_nil)) pa_nil)) (by rfl))
      (pss_cons (ps_par (i := 7) (j := 8) rfl scRi.nd rfl rfl (by decide) rfl rfl (pa_cons (pe_call dRk.G (hr.mono (by decide)) (by rfl) dRk.m dRk.k dRk.b .nil pass0 (pa_cons (pv 1) (pa_cons (pv 2) (pa_cons (pv 4) pa_nil)))) (pa_cons (pe_call dCv.G (hr.mono (by decide)) (by rfl) dCv.m dCv.k dCv.b .nil pass0 (pa_cons (pv 1) (pa_cons (pv 2) (pa_cons (pv 4) pa_nil)))) pa_nil)) (by rfl))
      (pss_cons (ps_if (pw_or (pt_cmpR op_ne (pv 5) (pe_call dFe.G (hr.mono (by decide)) (by rfl) dFe.m dFe.k dFe.b .nil pass0 (pa_cons (pv 1) (pa_cons (pv 3) pa_nil))) (nomark _)) (pw_or (pt_not (pt_val (pe_callG (E := E0) dRr.G hgd (hr.mono (by decide)) (by rfl) dRr.m dRr.k dRr.b (pa_cons (pv 1) (pa_cons (pv 2) (pa_cons (pv 3) (pa_cons (pv 7) (pa_cons (pv 5) pa_nil)))))))) (pw_or1 (pt_not (pt_val (pe_callG (E := E0) dCr.G hgd (hr.mono (by decide)) (by rfl) dCr.m dCr.k dCr.b (pa_cons (pv 1) (pa_cons (pv 2) (pa_cons (pv 3) (pa_cons (pv 8) (pa_cons (pv 5) pa_nil))))))))))).pt (pss_one (ps_ret pe_bl)) pss_nil)
      (pss_cons (ps_if (pw_or (pt_cmpR (op_neD hu) (pe_callK0 (E := E0) dRk.G (hr.mono (by decide)) (by rfl) dRk.m dRk.k dRk.bk pass0 (pk_cons (pv 4) (pk_cons (pv 2) (pk_cons (pv 1) pk_nil)))) (pv 7) (nomark _)) (pw_or (pt_cmpR (op_neD hu) (pe_callK0 (E := E0) dCv.G (hr.mono (by decide)) (by rfl) dCv.m dCv.k dCv.bk pass0 (pk_cons (pv 4) (pk_cons (pv 2) (pk_cons (pv 1) pk_nil)))) (pv 8) (nomark _)) (pw_or1 (pt_cmpR op_ne (pe_callB (call_reprD hgd hu) (by rfl) B.repr PyProof.Rows.boot_repr (pa_cons (pv 4) pa_nil)) (pv 6) (nomark _))))).pt (pss_one (ps_ret pe_bl)) pss_nil)
      (pss_cons (ps_set (i := 9) scRi.nd rfl (Or.inl rfl) (pe_callB cr_sortedPO (by rfl) B.sorted PyProof.Rows.boot_sorted (pa_cons (pe_lc (own := [("_law_row", 13), ("_law_column", 14)]) (g := gTup K 2 (gCons (gName 13) (gCons (gName 14) gNil))) (tt := tYes) (te := (tTup (tCons (tVar 14) (tCons (tVar 13) tNil)))) rfl scRi.nd (pi_list (pv 3)) (blkOk_by (own := [("_law_row", 13), ("_law_column", 14)]) (N := nRi) (sc := defScope sRi) (by decide +kernel)) (fun _ _ _ _ _ => (pg_tup rfl (pgs_cons (pg_name (i := 13) scRi.nd rfl (Or.inl rfl)) (pgs_cons (pg_name (i := 14) scRi.nd rfl (Or.inl rfl)) pgs_nil)))) (fun _ _ _ _ _ => pts_nil) (fun _ _ _ _ _ => (pe_tup (pa_cons (pv 14) (pa_cons (pv 13) pa_nil))))) pa_nil)))
      (pss_cons (ps_if (pw_or (pt_cmpR op_ne (pe_callB call_len_seq (by rfl) B.len PySem.boot_len (pa_cons (pe_call dRk.G (hr.mono (by decide)) (by rfl) dRk.m dRk.k dRk.b .nil pass0 (pa_cons (pv 2) (pa_cons (pv 1) (pa_cons (pv 9) pa_nil)))) pa_nil)) (pv 5) (nomark _)) (pw_or1 (pt_cmpR op_isnot_bl (pe_call dIc.G (hr.mono (by decide)) (by rfl) dIc.m dIc.k dIc.b .nil pass0 (pa_cons (pv 2) (pa_cons (pv 1) (pa_cons (pv 9) (pa_cons (pe_tup (pa_cons (pe_ix ix_tup (pv 8) pe_int (fun _ _ => rfl)) (pa_cons (pe_ix ix_tup (pv 8) pe_int (fun _ _ => rfl)) pa_nil))) pa_nil))))) pe_bl (nomark _)))).pt (pss_one (ps_ret pe_bl)) pss_nil)
      (pss_cons (ps_if (pt_not (pt_val (pe_call dIr.G (hr.mono (by decide)) (by rfl) dIr.m dIr.k dIr.b .nil pass0 (pa_cons (pv 2) (pa_cons (pv 1) (pa_cons (pv 9) (pa_cons (pe_lc (own := [("_law_row", 13), ("_law_column", 14)]) (g := gTup K 2 (gCons (gName 13) (gCons (gName 14) gNil))) (tt := tYes) (te := (tTup (tCons (tVar 14) (tCons (tVar 13) tNil)))) rfl scRi.nd (pi_list (pv 7)) (blkOk_by (own := [("_law_row", 13), ("_law_column", 14)]) (N := nRi) (sc := defScope sRi) (by decide +kernel)) (fun _ _ _ _ _ => (pg_tup rfl (pgs_cons (pg_name (i := 13) scRi.nd rfl (Or.inl rfl)) (pgs_cons (pg_name (i := 14) scRi.nd rfl (Or.inl rfl)) pgs_nil)))) (fun _ _ _ _ _ => pts_nil) (fun _ _ _ _ _ => (pe_tup (pa_cons (pv 14) (pa_cons (pv 13) pa_nil))))) pa_nil))))))) (pss_one (ps_ret pe_bl)) pss_nil)
      (pss_cons (ps_set (i := 10) scRi.nd rfl (Or.inl rfl) (pe_call dDr.G (hr.mono (by decide)) (by rfl) dDr.m dDr.k dDr.b .nil pass0 (pa_cons (pv 0) (pa_cons (pe_callB call_len_seq (by rfl) B.len PySem.boot_len (pa_cons (pv 3) pa_nil)) pa_nil))))
      (pss_cons (ps_set (i := 11) scRi.nd rfl (Or.inl rfl) (pe_op op_cat (pe_slice sl_list (pv 3) po_none (po_some (pv 10))) (pe_slice sl_list (pv 3) (po_some (pe_op op_add (pv 10) pe_int)) po_none)))
      (pss_cons (ps_if (pt_cmpR (op_eqD hu) (pv 11) (pe_lst pa_nil) (nomark _)) (pss_one (ps_ret pe_bl)) pss_nil)
      (pss_cons (ps_set (i := 12) scRi.nd rfl (Or.inl rfl) (pe_call dMo.G (hr.mono (by decide)) (by rfl) dMo.m dMo.k dMo.b .nil pass0 (pa_cons (pv 1) (pa_cons (pv 11) (pa_cons pe_int (pa_cons (pe_lst pa_nil) pa_nil))))))
      (pss_one (ps_ret (pe_and (pe_cmpR op_le (pe_op op_sub (pv 5) pe_int) (pv 12) (nomark _)) (pe_and (pe_cmpR op_le (pv 12) (pv 5) (nomark _)) (pe_one (pe_cmpR op_eq (pe_callB call_len_seq (by rfl) B.len PySem.boot_len (pa_cons (pe_call dRk.G (hr.mono (by decide)) (by rfl) dRk.m dRk.k dRk.b .nil pass0 (pa_cons (pv 1) (pa_cons (pv 2) (pa_cons (pv 11) pa_nil)))) pa_nil)) (pv 12) (nomark _))))))))))))))))))), ?_⟩
  obtain ⟨pot, rfl, hp, kk⟩ := h
  have start : Gm (Sp1 pot) H (L2.start nRi [.ref pot]) (List.replicate 15 none) := ⟨rfl, fun i d hd => by
    rw [List.getElem?_replicate] at hd
    split at hd <;> cases hd⟩
  refine (?_ : StR pot _ (List.replicate 15 none) (· = .bool true)) H _ _ hp start rfl ?_
  rotate_left
  · rintro v H' d rfl k p a
    cases a
    exact kk H' k p
  refine StR.board fun t w ps hb => ?_
  have t4 := hb.t4
  have w4 := hb.w4
  have n1 := hb.n1
  have n16 := hb.n16
  have small : ∀ p ∈ ps, p.1 < 4 ∧ p.2 < 4 := fun p hp => by
    have := hb.inn p hp
    omega
  -- given
  refine StR.setD (by decide) (.ite (.tst (c := fun _ => True) ((EvD.opL (y := .int 0) (f := fun x => match x with | .int a => .bool (decide (a = 0)) | _ => .none) (.draw (.int 2) (by decide) (by decide)) (.int 0) fun x c => ?_).imp fun d hd => ?_)) (.tupleOf (.var rfl)) (.listOf (.var rfl))) fun pd hpd => ?_
  · obtain ⟨k, _, rfl⟩ := c
    exact .eqI
  · obtain ⟨_, ⟨k, _, rfl⟩, rfl⟩ := hd
    exact ⟨_, rfl, trivial⟩
  have hip : IsPs pd ps := hpd.symm
  have R := rp_ps hip small n16
  -- due, shown
  refine StR.par (by decide) (by decide) (.cons (.call (.cons (.var rfl) (.cons (.var rfl) (.cons (.int 0) (.cons (.lst .nil (by decide)) .nil)))) ⟨t, t4, t, 0, ps, [], n16, by omega, t4, Nat.le_refl _, rfl, rfl⟩) (.cons (.repr R (.var rfl)) .nil)) ?_
  -- one, other
  refine StR.par (by decide) (by decide) (.cons (.call (.cons (.var rfl) (.cons (.var rfl) (.cons (.var rfl) .nil))) ⟨t, w, ps, pd, hb, hip, rfl, rfl⟩) (.cons (.call (.cons (.var rfl) (.cons (.var rfl) (.cons (.var rfl) .nil))) ⟨t, w, ps, pd, hb, hip, rfl, rfl⟩) .nil)) ?_
  refine StR.ifF (.eq (.or (a := false) (.eq (.tst (.op (.var rfl) (.call (.cons (.var rfl) (.cons (.var rfl) .nil)) ⟨t, w, ps, hb, rfl, rfl⟩) .neI)) (by rw [fewest_eq hb.loose, decide_eq_true rfl]; rfl)) fun _ => .or (a := false) (.eq (.not (.val (b := true) (.call (.cons (.var rfl) (.cons (.var rfl) (.cons (.var rfl) (.cons (.var rfl) (.cons (.var rfl) .nil))))) ⟨t, w, ps, hb, rfl, rfl⟩))) rfl) fun _ => .not (.val (b := true) (.call (.cons (.var rfl) (.cons (.var rfl) (.cons (.var rfl) (.cons (.var rfl) (.cons (.var rfl) .nil))))) ⟨t, w, ps, hb, rfl, rfl⟩))) rfl) ?_
  refine StR.ifF (.eq (.or (a := false) (.eq (.tst (.op (.callKR (F := Frk) (r := .list (psD (rk ps t))) (.cons (.var rfl) (.cons (.var rfl) (.cons (.var rfl) .nil))) rfl ⟨t, w, ps, pd, hb, hip, rfl, rfl⟩) (.var rfl) (.neD (nds_ps _) (nds_ps _) (sh_ps _) (sh_ps _)))) (by rw [eqvAll_ps]; rfl)) fun _ => .or (a := false) (.eq (.tst (.op (.callKR (F := Fcv) (r := cvD ps (coverRows ps t)) (.cons (.var rfl) (.cons (.var rfl) (.cons (.var rfl) .nil))) rfl ⟨t, w, ps, pd, hb, hip, rfl, rfl⟩) (.var rfl) (.neD (nd_cv _ _) (nd_cv _ _) (sh_cv _ _) (sh_cv _ _)))) (by rw [eqv_cv]; rfl)) fun _ => .tst (.op (.repr R (.var rfl)) (.var rfl) (.neS _))) rfl) ?_
  -- turned
  have em : ∀ qs : List Pl, (psD qs).map (fun d => PyData.tuple [sndD d, fstD d]) = psD (qs.map sw) := fun qs => by
    show (qs.map pD).map _ = (qs.map sw).map pD
    rw [List.map_map, List.map_map]
    rfl
  have hbt := turn_board hb
  have hnd : (ps.map sw).Nodup := by
    show (ps.map sw).Pairwise (· ≠ ·)
    rw [List.pairwise_map]
    refine (ltP_nodup hb.srt).imp fun {a b} hne z => hne ?_
    have z1 : a.2 = b.2 := congrArg Prod.fst z
    have z2 : a.1 = b.1 := congrArg Prod.snd z
    exact Prod.ext z2 z1
  have hmem : ∀ p, p ∈ turnP ps ↔ p ∈ ps.map sw := fun p => by
    rw [turn_mem hb.loose, List.mem_map]
    exact ⟨fun h => ⟨sw p, h, rfl⟩, fun ⟨q, hq, e⟩ => e ▸ hq⟩
  refine StR.set (by decide) (sorted_ps (.eq (.map (fun d => .tuple [sndD d, fstD d]) (.list (.var rfl)) (by rw [len_psD]; omega) fun i d hd => ?_) (by rw [em])) (turn_srt ps) hnd hmem) ?_
  · obtain ⟨p, hp, rfl⟩ := get_ps hd
    exact ⟨_, _, .two, fun j h => h, .tup (.cons (.var rfl) (.cons (.var rfl) .nil)) two_line⟩
  have hlot := cover_lot ps t
  have hsz : (coverRows ps t).length + (colsOf ps (coverRows ps t)).length = due ps t := cover_size hb.loose
  have d4 := due_le4 hb.loose
  have hct : covers (turnP ps) (colsOf ps (coverRows ps t)) (coverRows ps t) = true := covers_turn hb.loose (covers_all hb (coverRows ps t))
  have hst : (colsOf ps (coverRows ps t)).length + (coverRows ps t).length = sizeOf' (turnP ps) (coverRows (turnP ps) w) := by
    rw [cover_size hbt.loose, due_turn hb]
    omega
  refine StR.ifF (.eq (.or (a := false) (.eq (.tst (.op (.len (.call (.cons (.var rfl) (.cons (.var rfl) (.cons (.var rfl) .nil))) ⟨w, t, turnP ps, _, hbt, .inl rfl, rfl, rfl⟩)) (.var rfl) .neI)) (by rw [len_psD, show (mostR (turnP ps) w 0 []).length = due ps t from (rk_len _ _).trans (due_turn hb), decide_eq_true rfl]; rfl)) fun _ => .tst (.op (.call (.cons (.var rfl) (.cons (.var rfl) (.cons (.var rfl) (.cons (.tup (.cons (.op (.var rfl) (.int 1) (.ixT (j := 1) rfl)) (.cons (.op (.var rfl) (.int 0) (.ixT (j := 0) rfl)) .nil)) two_line) .nil)))) ⟨w, t, turnP ps, _, colsOf ps (coverRows ps t), coverRows ps t, hbt, .inl rfl, cols_nodup _ _, cols_w hb _, lot_nodup hlot, lot_mem hlot, by omega, by omega, rfl, rfl⟩) (.bl true) .isnotB)) (by rw [hct, decide_eq_true hst]; rfl)) ?_
  have hsp := rk_spare ps t
  have hrl := rk_len ps t
  refine StR.ifF (.eq (.not (.val (.call (.cons (.var rfl) (.cons (.var rfl) (.cons (.var rfl) (.cons (.eq (.map (fun d => .tuple [sndD d, fstD d]) (.list (.var rfl)) (by rw [len_psD]; show (rk ps t).length < _; omega) fun i d hd => ?_) (by rw [em])) .nil)))) ⟨w, t, turnP ps, (rk ps t).map sw, hbt, spare_turn hb.loose hsp, by rw [List.length_map]; omega, rfl, rfl⟩))) ?_) ?_
  · obtain ⟨p, hp, rfl⟩ := get_ps hd
    exact ⟨_, _, .two, fun j h => h, .tup (.cons (.var rfl) (.cons (.var rfl) .nil)) two_line⟩
  · rw [List.length_map, show (mostR (turnP ps) w 0 []).length = due ps t from (rk_len _ _).trans (due_turn hb), hrl, decide_eq_true rfl]
    rfl
  -- less a place
  refine StR.setD (by decide) (.draw (n := ps.length) (.eq (.len (.var rfl)) (by rw [len_psD])) n1 (by omega)) ?_
  rintro d ⟨k, hk, rfl⟩
  refine StR.pure (x := .bool true) ?_ rfl
  have hlen : (psD ps).length = ps.length := len_psD ps
  have el : cutD (psD ps) none (some (k : Int)) ++ cutD (psD ps) (some ((k + 1 : Nat) : Int)) none = psD (leftP ps k) := by
    rw [cut_to (by omega), cut_from (by omega)]
    show (ps.map pD).take k ++ (ps.map pD).drop (k + 1) = (ps.take k ++ ps.drop (k + 1)).map pD
    rw [List.map_append, List.map_take, List.map_drop]
  have hl2 := (left_sub ps k).length_le
  refine .seq (.set (.eq (.op (.slice (.var rfl) .none (.some (.var rfl))) (.slice (.var rfl) (.some (.eq (.op (.var rfl) (.int 1) .add) (by rw [show (k : Int) + 1 = ((k + 1 : Nat) : Int) from rfl]))) .none) (.cat ?_)) (by rw [el]))) ?_
  · rw [← List.length_append, el, len_psD]
    exact Nat.le_trans (Nat.le_trans hl2 n16) (by decide)
  by_cases hnil : leftP ps k = []
  · rw [hnil]
    exact .seq_rt (.ifT (.eq (.tst (.op (.var rfl) (.lst .nil (by decide)) (.eqD rfl rfl (sh_ps []) (sh_ps [])))) rfl) (.ret (.bl true)))
  have hbl := left_board hb hnil
  obtain ⟨g1, g2⟩ := due_left hb hk hnil
  refine .seq (.ifF (.eq (.tst (.op (.var rfl) (.lst .nil (by decide)) (.eqD (nds_ps _) rfl (sh_ps _) (sh_ps [])))) ?_) .next) ?_
  · cases hL : leftP ps k with
    | nil => exact absurd hL hnil
    | cons p q => rfl
  refine .seq (.set (.call (.cons (.var rfl) (.cons (.var rfl) (.cons (.int 0) (.cons (.lst .nil (by decide)) .nil)))) ⟨t, t4, t, 0, leftP ps k, [], by omega, by omega, t4, Nat.le_refl _, rfl, rfl⟩)) ?_
  refine .ret (.eq (.andV (.op (.op (.var rfl) (.int 1) .sub) (.var rfl) .le) fun _ => .andV (.op (.var rfl) (.var rfl) .le) fun _ => .op (.len (.call (.cons (.var rfl) (.cons (.var rfl) (.cons (.var rfl) .nil))) ⟨t, w, leftP ps k, _, hbl, .inl rfl, rfl, rfl⟩)) (.var rfl) .eqI) ?_)
  rw [len_psD, show (mostR (leftP ps k) t 0 []).length = due (leftP ps k) t from rk_len _ _, decide_eq_true (show ((due ps t : Nat) : Int) - 1 ≤ ((due (leftP ps k) t : Nat) : Int) by omega), decide_eq_true (show ((due (leftP ps k) t : Nat) : Int) ≤ ((due ps t : Nat) : Int) by omega), decide_eq_true rfl]
  rfl
end
end K71

set_option Elab.async false
set_option linter.all false
set_option maxRecDepth 100000
set_option maxHeartbeats 4000000
/-! The law, and what the top has written. -/
namespace K71
open PySem L2 GD RQ PyProof.Rows
section
variable {P : Program} {w : World} {K : PySem.W.Frag} {mg : Str → Option Value} {base : Heap}
structure SpLaw (K : PySem.W.Frag) (vs : List V) (H : Hp) (Q : VK) (E : XK) : Prop where
  ex : ∃ (a : Addr) (ns : List Int), vs = [.ref a] ∧ SqL K H a (ns.map V.int) ∧ ∀ H', Q (.bl true) H'
abbrev nLaw : List Str := ["_law_script", "_law_k"]
theorem scLaw : FnScope nLaw ["_law_script"] (defScope sLaw) := ⟨rfl, rfl, rfl, by decide +kernel, rfl, by decide +kernel, by decide +kernel⟩
theorem ok_law {f : Addr} {fd : FuncData} (F : Fun K "law" "law" sLaw f fd) (B : Blt mg) (dPo : Dn P w K mg base 1 "_law_pot" ["_law_script", "_law_k"] (SpPot K)) (dRi : DnG P w K mg base 10 "_law_right" ["_law_pot_here"] SpRi) : FnG P w K mg base 11 f fd ["_law_script"] (SpLaw K) := by
  refine okG F scLaw (fun vs H Q E h => ?_) (fun cdv A outer s H vs Q E hgd hr h => ?_)
  · obtain ⟨a, ns, rfl, _⟩ := h
    rfl
  obtain ⟨a, ns, rfl, hS, k⟩ := h
  refine ⟨_, PSs.nox (pss_one (ps_ret (pe_callB (cr_all rfl) (by rfl) B.all PyProof.Rows.boot_all (pa_cons (pe_lc (own := [("_law_k", 1)]) (g := gName 1) (tt := tYes) rfl scLaw.nd (pi_range1 (by rfl) B.range (pa_cons (pe_callB (call_max2 rfl) (by rfl) B.max PyProof.Rows.boot_max (pa_cons pe_int (pa_cons (pe_callB (call_min2 rfl) (by rfl) B.min PyProof.Rows.boot_min (pa_cons pe_int (pa_cons (pe_callB call_len_seq (by rfl) B.len PySem.boot_len (pa_cons (pv 0) pa_nil)) pa_nil))) pa_nil))) pa_nil)) (blkOk_by (own := [("_law_k", 1)]) (N := nLaw) (sc := defScope sLaw) (by decide +kernel)) (fun _ _ _ _ _ => (pg_name (i := 1) scLaw.nd rfl (Or.inl rfl))) (fun _ _ _ _ _ => pts_nil) (fun _ _ _ _ _ => (pe_callG (E := E0) dRi.G hgd (hr.mono (by decide)) (by rfl) dRi.m dRi.k dRi.b (pa_cons (pe_call dPo.G (hr.mono (by decide)) (by rfl) dPo.m dPo.k dPo.b .nil pass0 (pa_cons (pv 0) (pa_cons (pv 1) pa_nil))) pa_nil)))) pa_nil)))), ?_⟩
  refine ⟨_, rfl, a, _, rfl, .inl hS, _, _, rfl, _, _, rfl, _, rfl, ?_, ?_, fun D hD => ?_⟩
  · split <;> split <;> omega
  · split <;> split <;> omega
  generalize hv : (if (if ((ns.map V.int).length : Int) < 3 then ((ns.map V.int).length : Int) else 3) > 1 then (if ((ns.map V.int).length : Int) < 3 then ((ns.map V.int).length : Int) else 3) else 1) = v
  have hv3 : v ≤ 3 := by
    rw [← hv]
    split <;> split <;> omega
  refine lc_range (fun i H' => Same H H' ∧ H' D = some (.lst (List.replicate i (.bl true)))) ⟨same_new hD, upd_same⟩ ?_ ?_
  · rintro i H' hi ⟨ss, hD'⟩
    have ez : (0 : Int) + (i : Int) = (i : Int) := Int.zero_add _
    rw [ez]
    refine ⟨rfl, ?_⟩
    refine ⟨_, rfl, _, rfl, ⟨a, ns, i, rfl, by omega, ss.seq hS, fun H2 pot np s2 p2 => ⟨pot, rfl, p2, fun H3 k3 p3 => ?_⟩⟩⟩
    have nD : D ≠ pot := fun z => by
      rw [z, np] at hD'
      cases hD'
    have hD3 := k3 D _ nD (s2 _ _ hD')
    refine ⟨_, hD3, by rw [List.length_replicate]; exact Nat.lt_of_le_of_lt (by omega : i ≤ 3) (by decide), fun b o e => ?_, ?_⟩
    · rw [upd_ne (ne_of_none e hD)]
      have e' := ss b o e
      exact k3 b o (fun z => by
        have z' : b = pot := z
        rw [z', np] at e'
        cases e') (s2 _ _ e')
    · rw [upd_same, List.replicate_succ']
  · rintro H' ⟨ss, hD'⟩
    refine ⟨_, List.replicate v.toNat true, rfl, SqL.of (by rw [hD', List.map_replicate]), ?_⟩
    have : (List.replicate v.toNat true).all id = true := by
      rw [List.all_eq_true]
      intro x hx
      rw [(List.mem_replicate.mp hx).2]
      rfl
    rw [this]
    exact k H'
end
/-! ### what the top has written -/
theorem all_mk {l : PySem.W.OpenLaw} {w : World} {K : PySem.W.Frag} {h : Heap} {mg : Str → Option Value} {fa fIsInt fIsCount fIsList fBet fWm fPat fPl fRk fIr fCv fIc fMr fLo fCs fUn fWb fPo fDr fBo fMo fLl fFe fRr fCr fRi fLaw : Addr} (X : K.In h) (G : h.Ns mainGlobals mg) (hfa : mg "law" = some (.ref fa))
    {odIsInt anIsInt odIsCount anIsCount odIsList anIsList odBet anBet odWm anWm odPat anPat odPl anPl odRk anRk odIr anIr odCv anCv odIc anIc odMr anMr odLo anLo odCs anCs odUn anUn odWb anWb odPo anPo odDr anDr odBo anBo odMo anMo odLl anLl odFe anFe odRr anRr odCr anCr odRi anRi odLaw anLaw : Option Addr} {slIsInt slIsCount slIsList slBet slWm slPat slPl slRk slIr slCv slIc slMr slLo slCs slUn slWb slPo slDr slBo slMo slLl slFe slRr slCr slRi slLaw : Array (Option Value)} {ocIsInt kVIsInt dcIsInt pmIsInt cdIsInt ctIsInt ocIsCount kVIsCount dcIsCount pmIsCount cdIsCount ctIsCount ocIsList kVIsList dcIsList pmIsList cdIsList ctIsList ocBet kVBet dcBet pmBet cdBet ctBet ocWm kVWm dcWm pmWm cdWm ctWm ocPat kVPat dcPat pmPat cdPat ctPat ocPl kVPl dcPl pmPl cdPl ctPl ocRk kVRk dcRk pmRk cdRk ctRk ocIr kVIr dcIr pmIr cdIr ctIr ocCv kVCv dcCv pmCv cdCv ctCv ocIc kVIc dcIc pmIc cdIc ctIc ocMr kVMr dcMr pmMr cdMr ctMr ocLo kVLo dcLo pmLo cdLo ctLo ocCs kVCs dcCs pmCs cdCs ctCs ocUn kVUn dcUn pmUn cdUn ctUn ocWb kVWb dcWb pmWb cdWb ctWb ocPo kVPo dcPo pmPo cdPo ctPo ocDr kVDr dcDr pmDr cdDr ctDr ocBo kVBo dcBo pmBo cdBo ctBo ocMo kVMo dcMo pmMo cdMo ctMo ocLl kVLl dcLl pmLl cdLl ctLl ocFe kVFe dcFe pmFe cdFe ctFe ocRr kVRr dcRr pmRr cdRr ctRr ocCr kVCr dcCr pmCr cdCr ctCr ocRi kVRi dcRi pmRi cdRi ctRi ocLaw kVLaw dcLaw pmLaw cdLaw ctLaw : Value} {tkc16 tkc4 : Tok}
    (aIsInt : PySem.W.nsIn K mainGlobals "is_integer" = some (some (.ref fIsInt)))
    (yIsInt : K.lookup fIsInt = some ⟨ocIsInt, odIsInt, .func (PySem.W.fnOf "is_integer" "is_integer" (defArgs sIsInt) (defBody sIsInt) (defScope sIsInt) .none kVIsInt dcIsInt pmIsInt anIsInt cdIsInt ctIsInt), slIsInt⟩)
    (cIsInt : PySem.W.codeIn K cdIsInt "is_integer" = true)
    (kIsInt : PySem.W.keepIn K (.ref fIsInt) = true)
    (aIsCount : PySem.W.nsIn K mainGlobals "is_count" = some (some (.ref fIsCount)))
    (yIsCount : K.lookup fIsCount = some ⟨ocIsCount, odIsCount, .func (PySem.W.fnOf "is_count" "is_count" (defArgs sIsCount) (defBody sIsCount) (defScope sIsCount) .none kVIsCount dcIsCount pmIsCount anIsCount cdIsCount ctIsCount), slIsCount⟩)
    (cIsCount : PySem.W.codeIn K cdIsCount "is_count" = true)
    (kIsCount : PySem.W.keepIn K (.ref fIsCount) = true)
    (aIsList : PySem.W.nsIn K mainGlobals "is_list" = some (some (.ref fIsList)))
    (yIsList : K.lookup fIsList = some ⟨ocIsList, odIsList, .func (PySem.W.fnOf "is_list" "is_list" (defArgs sIsList) (defBody sIsList) (defScope sIsList) .none kVIsList dcIsList pmIsList anIsList cdIsList ctIsList), slIsList⟩)
    (cIsList : PySem.W.codeIn K cdIsList "is_list" = true)
    (kIsList : PySem.W.keepIn K (.ref fIsList) = true)
    (aBet : PySem.W.nsIn K mainGlobals "is_between" = some (some (.ref fBet)))
    (yBet : K.lookup fBet = some ⟨ocBet, odBet, .func (PySem.W.fnOf "is_between" "is_between" (defArgs sBet) (defBody sBet) (defScope sBet) .none kVBet dcBet pmBet anBet cdBet ctBet), slBet⟩)
    (cBet : PySem.W.codeIn K cdBet "is_between" = true)
    (kBet : PySem.W.keepIn K (.ref fBet) = true)
    (aWm : PySem.W.nsIn K mainGlobals "want_many" = some (some (.ref fWm)))
    (yWm : K.lookup fWm = some ⟨ocWm, odWm, .func (PySem.W.fnOf "want_many" "want_many" (defArgs sWm) (defBody sWm) (defScope sWm) .none kVWm dcWm pmWm anWm cdWm ctWm), slWm⟩)
    (cWm : PySem.W.codeIn K cdWm "want_many" = true)
    (kWm : PySem.W.keepIn K (.ref fWm) = true)
    (aPat : PySem.W.nsIn K mainGlobals "are_places" = some (some (.ref fPat)))
    (yPat : K.lookup fPat = some ⟨ocPat, odPat, .func (PySem.W.fnOf "are_places" "are_places" (defArgs sPat) (defBody sPat) (defScope sPat) .none kVPat dcPat pmPat anPat cdPat ctPat), slPat⟩)
    (cPat : PySem.W.codeIn K cdPat "are_places" = true)
    (kPat : PySem.W.keepIn K (.ref fPat) = true)
    (aPl : PySem.W.nsIn K mainGlobals "is_place" = some (some (.ref fPl)))
    (yPl : K.lookup fPl = some ⟨ocPl, odPl, .func (PySem.W.fnOf "is_place" "is_place" (defArgs sPl) (defBody sPl) (defScope sPl) .none kVPl dcPl pmPl anPl cdPl ctPl), slPl⟩)
    (cPl : PySem.W.codeIn K cdPl "is_place" = true)
    (kPl : PySem.W.keepIn K (.ref fPl) = true)
    (aRk : PySem.W.nsIn K mainGlobals "rooks" = some (some (.ref fRk)))
    (yRk : K.lookup fRk = some ⟨ocRk, odRk, .func (PySem.W.fnOf "rooks" "rooks" (defArgs sRk) (defBody sRk) (defScope sRk) .none kVRk dcRk pmRk anRk cdRk ctRk), slRk⟩)
    (cRk : PySem.W.codeIn K cdRk "rooks" = true)
    (kRk : PySem.W.keepIn K (.ref fRk) = true)
    (aIr : PySem.W.nsIn K mainGlobals "is_rooks" = some (some (.ref fIr)))
    (yIr : K.lookup fIr = some ⟨ocIr, odIr, .func (PySem.W.fnOf "is_rooks" "is_rooks" (defArgs sIr) (defBody sIr) (defScope sIr) .none kVIr dcIr pmIr anIr cdIr ctIr), slIr⟩)
    (cIr : PySem.W.codeIn K cdIr "is_rooks" = true)
    (kIr : PySem.W.keepIn K (.ref fIr) = true)
    (aCv : PySem.W.nsIn K mainGlobals "cover" = some (some (.ref fCv)))
    (yCv : K.lookup fCv = some ⟨ocCv, odCv, .func (PySem.W.fnOf "cover" "cover" (defArgs sCv) (defBody sCv) (defScope sCv) .none kVCv dcCv pmCv anCv cdCv ctCv), slCv⟩)
    (cCv : PySem.W.codeIn K cdCv "cover" = true)
    (kCv : PySem.W.keepIn K (.ref fCv) = true)
    (aIc : PySem.W.nsIn K mainGlobals "is_cover" = some (some (.ref fIc)))
    (yIc : K.lookup fIc = some ⟨ocIc, odIc, .func (PySem.W.fnOf "is_cover" "is_cover" (defArgs sIc) (defBody sIc) (defScope sIc) .none kVIc dcIc pmIc anIc cdIc ctIc), slIc⟩)
    (cIc : PySem.W.codeIn K cdIc "is_cover" = true)
    (kIc : PySem.W.keepIn K (.ref fIc) = true)
    (aMr : PySem.W.nsIn K mainGlobals "_most_rooks" = some (some (.ref fMr)))
    (yMr : K.lookup fMr = some ⟨ocMr, odMr, .func (PySem.W.fnOf "_most_rooks" "_most_rooks" (defArgs sMr) (defBody sMr) (defScope sMr) .none kVMr dcMr pmMr anMr cdMr ctMr), slMr⟩)
    (cMr : PySem.W.codeIn K cdMr "_most_rooks" = true)
    (kMr : PySem.W.keepIn K (.ref fMr) = true)
    (aLo : PySem.W.nsIn K mainGlobals "_lots" = some (some (.ref fLo)))
    (yLo : K.lookup fLo = some ⟨ocLo, odLo, .func (PySem.W.fnOf "_lots" "_lots" (defArgs sLo) (defBody sLo) (defScope sLo) .none kVLo dcLo pmLo anLo cdLo ctLo), slLo⟩)
    (cLo : PySem.W.codeIn K cdLo "_lots" = true)
    (kLo : PySem.W.keepIn K (.ref fLo) = true)
    (aCs : PySem.W.nsIn K mainGlobals "_cover_size" = some (some (.ref fCs)))
    (yCs : K.lookup fCs = some ⟨ocCs, odCs, .func (PySem.W.fnOf "_cover_size" "_cover_size" (defArgs sCs) (defBody sCs) (defScope sCs) .none kVCs dcCs pmCs anCs cdCs ctCs), slCs⟩)
    (cCs : PySem.W.codeIn K cdCs "_cover_size" = true)
    (kCs : PySem.W.keepIn K (.ref fCs) = true)
    (aUn : PySem.W.nsIn K mainGlobals "is_lot" = some (some (.ref fUn)))
    (yUn : K.lookup fUn = some ⟨ocUn, odUn, .func (PySem.W.fnOf "is_lot" "is_lot" (defArgs sUn) (defBody sUn) (defScope sUn) .none kVUn dcUn pmUn anUn cdUn ctUn), slUn⟩)
    (cUn : PySem.W.codeIn K cdUn "is_lot" = true)
    (kUn : PySem.W.keepIn K (.ref fUn) = true)
    (aWb : PySem.W.nsIn K mainGlobals "_want_board" = some (some (.ref fWb)))
    (yWb : K.lookup fWb = some ⟨ocWb, odWb, .func (PySem.W.fnOf "_want_board" "_want_board" (defArgs sWb) (defBody sWb) (defScope sWb) .none kVWb dcWb pmWb anWb cdWb ctWb), slWb⟩)
    (cWb : PySem.W.codeIn K cdWb "_want_board" = true)
    (kWb : PySem.W.keepIn K (.ref fWb) = true)
    (aPo : PySem.W.nsIn K mainGlobals "_law_pot" = some (some (.ref fPo)))
    (yPo : K.lookup fPo = some ⟨ocPo, odPo, .func (PySem.W.fnOf "_law_pot" "_law_pot" (defArgs sPo) (defBody sPo) (defScope sPo) .none kVPo dcPo pmPo anPo cdPo ctPo), slPo⟩)
    (cPo : PySem.W.codeIn K cdPo "_law_pot" = true)
    (kPo : PySem.W.keepIn K (.ref fPo) = true)
    (aDr : PySem.W.nsIn K mainGlobals "_law_draw" = some (some (.ref fDr)))
    (yDr : K.lookup fDr = some ⟨ocDr, odDr, .func (PySem.W.fnOf "_law_draw" "_law_draw" (defArgs sDr) (defBody sDr) (defScope sDr) .none kVDr dcDr pmDr anDr cdDr ctDr), slDr⟩)
    (cDr : PySem.W.codeIn K cdDr "_law_draw" = true)
    (kDr : PySem.W.keepIn K (.ref fDr) = true)
    (aBo : PySem.W.nsIn K mainGlobals "_law_board" = some (some (.ref fBo)))
    (yBo : K.lookup fBo = some ⟨ocBo, odBo, .func (PySem.W.fnOf "_law_board" "_law_board" (defArgs sBo) (defBody sBo) (defScope sBo) .none kVBo dcBo pmBo anBo cdBo ctBo), slBo⟩)
    (cBo : PySem.W.codeIn K cdBo "_law_board" = true)
    (kBo : PySem.W.keepIn K (.ref fBo) = true)
    (aMo : PySem.W.nsIn K mainGlobals "_law_most" = some (some (.ref fMo)))
    (yMo : K.lookup fMo = some ⟨ocMo, odMo, .func (PySem.W.fnOf "_law_most" "_law_most" (defArgs sMo) (defBody sMo) (defScope sMo) .none kVMo dcMo pmMo anMo cdMo ctMo), slMo⟩)
    (cMo : PySem.W.codeIn K cdMo "_law_most" = true)
    (kMo : PySem.W.keepIn K (.ref fMo) = true)
    (aLl : PySem.W.nsIn K mainGlobals "_law_lots" = some (some (.ref fLl)))
    (yLl : K.lookup fLl = some ⟨ocLl, odLl, .func (PySem.W.fnOf "_law_lots" "_law_lots" (defArgs sLl) (defBody sLl) (defScope sLl) .none kVLl dcLl pmLl anLl cdLl ctLl), slLl⟩)
    (cLl : PySem.W.codeIn K cdLl "_law_lots" = true)
    (kLl : PySem.W.keepIn K (.ref fLl) = true)
    (aFe : PySem.W.nsIn K mainGlobals "_law_fewest" = some (some (.ref fFe)))
    (yFe : K.lookup fFe = some ⟨ocFe, odFe, .func (PySem.W.fnOf "_law_fewest" "_law_fewest" (defArgs sFe) (defBody sFe) (defScope sFe) .none kVFe dcFe pmFe anFe cdFe ctFe), slFe⟩)
    (cFe : PySem.W.codeIn K cdFe "_law_fewest" = true)
    (kFe : PySem.W.keepIn K (.ref fFe) = true)
    (aRr : PySem.W.nsIn K mainGlobals "_law_rooks_right" = some (some (.ref fRr)))
    (yRr : K.lookup fRr = some ⟨ocRr, odRr, .func (PySem.W.fnOf "_law_rooks_right" "_law_rooks_right" (defArgs sRr) (defBody sRr) (defScope sRr) .none kVRr dcRr pmRr anRr cdRr ctRr), slRr⟩)
    (cRr : PySem.W.codeIn K cdRr "_law_rooks_right" = true)
    (kRr : PySem.W.keepIn K (.ref fRr) = true)
    (aCr : PySem.W.nsIn K mainGlobals "_law_cover_right" = some (some (.ref fCr)))
    (yCr : K.lookup fCr = some ⟨ocCr, odCr, .func (PySem.W.fnOf "_law_cover_right" "_law_cover_right" (defArgs sCr) (defBody sCr) (defScope sCr) .none kVCr dcCr pmCr anCr cdCr ctCr), slCr⟩)
    (cCr : PySem.W.codeIn K cdCr "_law_cover_right" = true)
    (kCr : PySem.W.keepIn K (.ref fCr) = true)
    (aRi : PySem.W.nsIn K mainGlobals "_law_right" = some (some (.ref fRi)))
    (yRi : K.lookup fRi = some ⟨ocRi, odRi, .func (PySem.W.fnOf "_law_right" "_law_right" (defArgs sRi) (defBody sRi) (defScope sRi) .none kVRi dcRi pmRi anRi cdRi ctRi), slRi⟩)
    (cRi : PySem.W.codeIn K cdRi "_law_right" = true)
    (kRi : PySem.W.keepIn K (.ref fRi) = true)
    (aLaw : PySem.W.nsIn K mainGlobals "law" = some (some (.ref fLaw)))
    (yLaw : K.lookup fLaw = some ⟨ocLaw, odLaw, .func (PySem.W.fnOf "law" "law" (defArgs sLaw) (defBody sLaw) (defScope sLaw) .none kVLaw dcLaw pmLaw anLaw cdLaw ctLaw), slLaw⟩)
    (cLaw : PySem.W.codeIn K cdLaw "law" = true)
    (kLaw : PySem.W.keepIn K (.ref fLaw) = true)
    (z_isinstance : PySem.W.nsIn K mainGlobals "isinstance" = some none)
    (z_int : PySem.W.nsIn K mainGlobals "int" = some none)
    (z_bool : PySem.W.nsIn K mainGlobals "bool" = some none)
    (z_abs : PySem.W.nsIn K mainGlobals "abs" = some none)
    (z_list : PySem.W.nsIn K mainGlobals "list" = some none)
    (z_tuple : PySem.W.nsIn K mainGlobals "tuple" = some none)
    (z_len : PySem.W.nsIn K mainGlobals "len" = some none)
    (z_max : PySem.W.nsIn K mainGlobals "max" = some none)
    (z_min : PySem.W.nsIn K mainGlobals "min" = some none)
    (z_divmod : PySem.W.nsIn K mainGlobals "divmod" = some none)
    (z_range : PySem.W.nsIn K mainGlobals "range" = some none)
    (z_repr : PySem.W.nsIn K mainGlobals "repr" = some none)
    (z_all : PySem.W.nsIn K mainGlobals "all" = some none)
    (z_set : PySem.W.nsIn K mainGlobals "set" = some none)
    (z_sorted : PySem.W.nsIn K mainGlobals "sorted" = some none)
    (z_dict : PySem.W.nsIn K mainGlobals "dict" = some none)
    (z_zip : PySem.W.nsIn K mainGlobals "zip" = some none)
    (c16 : PySem.W.nsIn K mainGlobals "MOST_PLACES" = some (some (.int 16 tkc16)))
    (c4 : PySem.W.nsIn K mainGlobals "MOST" = some (some (.int 4 tkc4))) :
    ∃ fd : FuncData, (∀ (s : Shared) (v : Value), BindsTo s fd ⟨[v], []⟩ [("_law_script", v)]) ∧ ∀ base : Heap, K.In base → base.Ns mainGlobals mg → FnG l.prog w K mg base 11 fa fd ["_law_script"] (SpLaw K) := by
  have e := hfa.symm.trans (PySem.W.mg_of X G aLaw)
  cases e
  have B : Blt mg := ⟨PySem.W.mg_none_of X G z_isinstance, PySem.W.mg_none_of X G z_int, PySem.W.mg_none_of X G z_bool, PySem.W.mg_none_of X G z_abs, PySem.W.mg_none_of X G z_list, PySem.W.mg_none_of X G z_tuple, PySem.W.mg_none_of X G z_len, PySem.W.mg_none_of X G z_max, PySem.W.mg_none_of X G z_min, PySem.W.mg_none_of X G z_divmod, PySem.W.mg_none_of X G z_range, PySem.W.mg_none_of X G z_repr, PySem.W.mg_none_of X G z_all, PySem.W.mg_none_of X G z_set, PySem.W.mg_none_of X G z_sorted, PySem.W.mg_none_of X G z_dict, PySem.W.mg_none_of X G z_zip⟩
  have FIsInt := fun_mk (st := sIsInt) yIsInt cIsInt kIsInt
  have bIsInt := FIsInt.binds (ps := ["value"]) fun _ _ _ _ _ _ us hl => match us, hl with | [_], _ => rfl
  have FIsCount := fun_mk (st := sIsCount) yIsCount cIsCount kIsCount
  have bIsCount := FIsCount.binds (ps := ["value"]) fun _ _ _ _ _ _ us hl => match us, hl with | [_], _ => rfl
  have FIsList := fun_mk (st := sIsList) yIsList cIsList kIsList
  have bIsList := FIsList.binds (ps := ["value"]) fun _ _ _ _ _ _ us hl => match us, hl with | [_], _ => rfl
  have FBet := fun_mk (st := sBet) yBet cBet kBet
  have bBet := FBet.binds (ps := ["value", "low", "high"]) fun _ _ _ _ _ _ us hl => match us, hl with | [_, _, _], _ => rfl
  have FWm := fun_mk (st := sWm) yWm cWm kWm
  have bWm := FWm.binds (ps := ["value", "low", "high"]) fun _ _ _ _ _ _ us hl => match us, hl with | [_, _, _], _ => rfl
  have FPat := fun_mk (st := sPat) yPat cPat kPat
  have bPat := FPat.binds (ps := ["value", "tall", "wide", "low", "high"]) fun _ _ _ _ _ _ us hl => match us, hl with | [_, _, _, _, _], _ => rfl
  have FPl := fun_mk (st := sPl) yPl cPl kPl
  have bPl := FPl.binds (ps := ["value", "tall", "wide"]) fun _ _ _ _ _ _ us hl => match us, hl with | [_, _, _], _ => rfl
  have FRk := fun_mk (st := sRk) yRk cRk kRk
  have bRk := FRk.binds (ps := ["tall", "wide", "places"]) fun _ _ _ _ _ _ us hl => match us, hl with | [_, _, _], _ => rfl
  have FIr := fun_mk (st := sIr) yIr cIr kIr
  have bIr := FIr.binds (ps := ["tall", "wide", "places", "value"]) fun _ _ _ _ _ _ us hl => match us, hl with | [_, _, _, _], _ => rfl
  have FCv := fun_mk (st := sCv) yCv cCv kCv
  have bCv := FCv.binds (ps := ["tall", "wide", "places"]) fun _ _ _ _ _ _ us hl => match us, hl with | [_, _, _], _ => rfl
  have FIc := fun_mk (st := sIc) yIc cIc kIc
  have bIc := FIc.binds (ps := ["tall", "wide", "places", "value"]) fun _ _ _ _ _ _ us hl => match us, hl with | [_, _, _, _], _ => rfl
  have FMr := fun_mk (st := sMr) yMr cMr kMr
  have bMr := FMr.binds (ps := ["places", "tall", "taken", "row"]) fun _ _ _ _ _ _ us hl => match us, hl with | [_, _, _, _], _ => rfl
  have FLo := fun_mk (st := sLo) yLo cLo kLo
  have bLo := FLo.binds (ps := ["many"]) fun _ _ _ _ _ _ us hl => match us, hl with | [_], _ => rfl
  have FCs := fun_mk (st := sCs) yCs cCs kCs
  have bCs := FCs.binds (ps := ["value"]) fun _ _ _ _ _ _ us hl => match us, hl with | [_], _ => rfl
  have FUn := fun_mk (st := sUn) yUn cUn kUn
  have bUn := FUn.binds (ps := ["value", "many"]) fun _ _ _ _ _ _ us hl => match us, hl with | [_, _], _ => rfl
  have FWb := fun_mk (st := sWb) yWb cWb kWb
  have bWb := FWb.binds (ps := ["tall", "wide", "places"]) fun _ _ _ _ _ _ us hl => match us, hl with | [_, _, _], _ => rfl
  have FPo := fun_mk (st := sPo) yPo cPo kPo
  have bPo := FPo.binds (ps := ["_law_script", "_law_k"]) fun _ _ _ _ _ _ us hl => match us, hl with | [_, _], _ => rfl
  have FDr := fun_mk (st := sDr) yDr cDr kDr
  have bDr := FDr.binds (ps := ["_law_pot_here", "_law_many"]) fun _ _ _ _ _ _ us hl => match us, hl with | [_, _], _ => rfl
  have FBo := fun_mk (st := sBo) yBo cBo kBo
  have bBo := FBo.binds (ps := ["_law_pot_here", "_law_most_here"]) fun _ _ _ _ _ _ us hl => match us, hl with | [_, _], _ => rfl
  have FMo := fun_mk (st := sMo) yMo cMo kMo
  have bMo := FMo.binds (ps := ["_law_tall", "_law_places", "_law_row", "_law_used"]) fun _ _ _ _ _ _ us hl => match us, hl with | [_, _, _, _], _ => rfl
  have FLl := fun_mk (st := sLl) yLl cLl kLl
  have bLl := FLl.binds (ps := ["_law_many"]) fun _ _ _ _ _ _ us hl => match us, hl with | [_], _ => rfl
  have FFe := fun_mk (st := sFe) yFe cFe kFe
  have bFe := FFe.binds (ps := ["_law_tall", "_law_places"]) fun _ _ _ _ _ _ us hl => match us, hl with | [_, _], _ => rfl
  have FRr := fun_mk (st := sRr) yRr cRr kRr
  have bRr := FRr.binds (ps := ["_law_tall", "_law_wide", "_law_places", "_law_told", "_law_due"]) fun _ _ _ _ _ _ us hl => match us, hl with | [_, _, _, _, _], _ => rfl
  have FCr := fun_mk (st := sCr) yCr cCr kCr
  have bCr := FCr.binds (ps := ["_law_tall", "_law_wide", "_law_places", "_law_told", "_law_due"]) fun _ _ _ _ _ _ us hl => match us, hl with | [_, _, _, _, _], _ => rfl
  have FRi := fun_mk (st := sRi) yRi cRi kRi
  have bRi := FRi.binds (ps := ["_law_pot_here"]) fun _ _ _ _ _ _ us hl => match us, hl with | [_], _ => rfl
  have FLaw := fun_mk (st := sLaw) yLaw cLaw kLaw
  have kbRk : KBn K _ ["tall", "wide", "places"] 0 ["places", "wide", "tall"] (fun us ws => us ++ ws.reverse) (fun vs zs => vs ++ zs.reverse) := kbn_turn FRk fun _ _ _ _ _ _ us ws hl hw => match us, hl, ws, hw with | [], _, [_, _, _], _ => rfl
  have kbCv : KBn K _ ["tall", "wide", "places"] 0 ["places", "wide", "tall"] (fun us ws => us ++ ws.reverse) (fun vs zs => vs ++ zs.reverse) := kbn_turn FCv fun _ _ _ _ _ _ us ws hl hw => match us, hl, ws, hw with | [], _, [_, _, _], _ => rfl
  refine ⟨PySem.W.fnOf "law" "law" (defArgs sLaw) (defBody sLaw) (defScope sLaw) .none kVLaw dcLaw pmLaw anLaw cdLaw ctLaw, fun s v => .of_eq rfl, fun base _ _ => ?_⟩
  let dInt : Dn l.prog w K mg base 1 "is_integer" ["value"] (SpG FisInt) := ⟨fIsInt, _, ok_isInt FIsInt B, PySem.W.mg_of X G aIsInt, kIsInt, bIsInt⟩
  let dCount : Dn l.prog w K mg base 2 "is_count" ["value"] (SpG FisCount) := ⟨fIsCount, _, ok_isCount FIsCount B dInt, PySem.W.mg_of X G aIsCount, kIsCount, bIsCount⟩
  let dList : Dn l.prog w K mg base 1 "is_list" ["value"] (SpG FisList) := ⟨fIsList, _, ok_isList FIsList B, PySem.W.mg_of X G aIsList, kIsList, bIsList⟩
  let dBet : Dn l.prog w K mg base 3 "is_between" ["value", "low", "high"] (SpG Fbet) := ⟨fBet, _, ok_bet FBet B dCount, PySem.W.mg_of X G aBet, kBet, bBet⟩
  let dWm : Dn l.prog w K mg base 4 "want_many" ["value", "low", "high"] (SpG Fwm) := ⟨fWm, _, ok_wm FWm B dBet, PySem.W.mg_of X G aWm, kWm, bWm⟩
  let dPl : Dn l.prog w K mg base 4 "is_place" ["value", "tall", "wide"] (SpG Fpl) := ⟨fPl, _, ok_pl FPl B dBet, PySem.W.mg_of X G aPl, kPl, bPl⟩
  let dPat : Dn l.prog w K mg base 5 "are_places" ["value", "tall", "wide", "low", "high"] (SpG Fpat) := ⟨fPat, _, ok_pat FPat B dList dPl, PySem.W.mg_of X G aPat, kPat, bPat⟩
  let dWb : Dn l.prog w K mg base 6 "_want_board" ["tall", "wide", "places"] (SpG Fwb) := ⟨fWb, _, ok_wb FWb B (PySem.W.mg_of X G c4) (PySem.W.mg_of X G c16) dWm dPat, PySem.W.mg_of X G aWb, kWb, bWb⟩
  let dMr : Dn l.prog w K mg base 5 "_most_rooks" ["places", "tall", "taken", "row"] (SpG Fmr4) := ⟨fMr, _, fn_any fun n hn => (ok_mr FMr B (PySem.W.mg_of X G aMr) kMr bMr n).mono (Nat.succ_le_succ hn), PySem.W.mg_of X G aMr, kMr, bMr⟩
  let dRk : DnK l.prog w K mg base 7 "rooks" ["tall", "wide", "places"] (SpG Frk) := ⟨⟨fRk, _, ok_rk FRk B dWb dMr, PySem.W.mg_of X G aRk, kRk, bRk⟩, kbRk⟩
  let dLo : Dn l.prog w K mg base 1 "_lots" ["many"] (SpG Flo) := ⟨fLo, _, ok_lo FLo B, PySem.W.mg_of X G aLo, kLo, bLo⟩
  let dCs : Dn l.prog w K mg base 1 "_cover_size" ["value"] (SpG Fcs) := ⟨fCs, _, ok_cs FCs B, PySem.W.mg_of X G aCs, kCs, bCs⟩
  let dCv : DnK l.prog w K mg base 7 "cover" ["tall", "wide", "places"] (SpG Fcv) := ⟨⟨fCv, _, ok_cv FCv B dWb dLo dCs, PySem.W.mg_of X G aCv, kCv, bCv⟩, kbCv⟩
  let dIr : Dn l.prog w K mg base 8 "is_rooks" ["tall", "wide", "places", "value"] (SpG Fir) := ⟨fIr, _, ok_ir FIr B dWb dList dPl dRk.toDn, PySem.W.mg_of X G aIr, kIr, bIr⟩
  let dUn : Dn l.prog w K mg base 4 "is_lot" ["value", "many"] (SpG Fun') := ⟨fUn, _, ok_un FUn B dList dBet, PySem.W.mg_of X G aUn, kUn, bUn⟩
  let dIc : Dn l.prog w K mg base 8 "is_cover" ["tall", "wide", "places", "value"] (SpG Fic) := ⟨fIc, _, ok_ic FIc B dWb dUn dCs dCv.toDn, PySem.W.mg_of X G aIc, kIc, bIc⟩
  let dPo : Dn l.prog w K mg base 1 "_law_pot" ["_law_script", "_law_k"] (SpPot K) := ⟨fPo, _, ok_po FPo B, PySem.W.mg_of X G aPo, kPo, bPo⟩
  let dDr : Dn l.prog w K mg base 1 "_law_draw" ["_law_pot_here", "_law_many"] SpDraw := ⟨fDr, _, ok_dr FDr B, PySem.W.mg_of X G aDr, kDr, bDr⟩
  let dBo : Dn l.prog w K mg base 2 "_law_board" ["_law_pot_here", "_law_most_here"] SpBoard := ⟨fBo, _, ok_bo FBo B dDr, PySem.W.mg_of X G aBo, kBo, bBo⟩
  let dMo : Dn l.prog w K mg base 5 "_law_most" ["_law_tall", "_law_places", "_law_row", "_law_used"] (SpG Fmo4) := ⟨fMo, _, fn_any fun n hn => (ok_mo FMo B (PySem.W.mg_of X G aMo) kMo bMo n).mono (Nat.succ_le_succ hn), PySem.W.mg_of X G aMo, kMo, bMo⟩
  let dLl : Dn l.prog w K mg base 1 "_law_lots" ["_law_many"] (SpG Flo) := ⟨fLl, _, ok_ll FLl B, PySem.W.mg_of X G aLl, kLl, bLl⟩
  let dFe : Dn l.prog w K mg base 2 "_law_fewest" ["_law_tall", "_law_places"] (SpG Ffe) := ⟨fFe, _, ok_fe FFe B dLl, PySem.W.mg_of X G aFe, kFe, bFe⟩
  let dRr : DnG l.prog w K mg base 9 "_law_rooks_right" ["_law_tall", "_law_wide", "_law_places", "_law_told", "_law_due"] (SpG Frr) := ⟨fRr, _, ok_rr FRr B dIr, PySem.W.mg_of X G aRr, kRr, bRr⟩
  let dCr : DnG l.prog w K mg base 9 "_law_cover_right" ["_law_tall", "_law_wide", "_law_places", "_law_told", "_law_due"] (SpG Fcr) := ⟨fCr, _, ok_cr FCr B dIc, PySem.W.mg_of X G aCr, kCr, bCr⟩
  let dRi : DnG l.prog w K mg base 10 "_law_right" ["_law_pot_here"] SpRi := ⟨fRi, _, ok_ri FRi B dDr dBo dMo dFe dRk dCv dIr dIc dRr dCr, PySem.W.mg_of X G aRi, kRi, bRi⟩
  exact ok_law FLaw B dPo dRi
theorem walk {l : PySem.W.OpenLaw} {n : Nat} {q : Program} {loose : List Str} {XP : (Str → Option Value) → Heap → Prop} {YP : World → Heap → Prop} {d : DefRec} {K : Params → PySem.W.Frag} (hn : l.most = some n) (hn2 : n ≤ sizeLine) (hdf : d.params.defaults = [])
    (hY : ∀ (w : World) (h : Heap), YP w h → (K w.params).In h)
    (F : ∀ (w : World) (mg : Str → Option Value) (fa : Addr) (h : Heap), (K w.params).In h → h.Ns mainGlobals mg → mg d.name = some (.ref fa) →
      ∃ fd : FuncData, (∀ (s : Shared) (u : Value), BindsTo s fd ⟨[u], []⟩ [("_law_script", u)]) ∧ ∀ base : Heap, (K w.params).In base → base.Ns mainGlobals mg → FnG l.prog w (K w.params) mg base 11 fa fd ["_law_script"] (SpLaw (K w.params))) :
    PySem.W.WalkO q loose XP YP l.row.toRowW d [] (fun f vs => PySem.call f vs) :=
  walkG (k := 11) (x := "_law_script") (sp := fun K => SpLaw K) hn hn2 hdf ⟨rfl, by decide, by decide⟩ hY F fun K H a ns _ hS => ⟨a, ns, rfl, hS, fun _ => rfl⟩
end K71

set_option Elab.async false
set_option maxRecDepth 100000
open PySem PySem.W PyProof.Rows in
set_option maxRecDepth 100000 in
set_option maxHeartbeats 0 in
theorem PySem.Challenge.cw_shrunkrooms_k71_whole_rooks_and_covers_holds : PySem.Challenge.rw_shrunkrooms_k71_whole_rooks_and_covers.Holds := by
  w_on; o_law; k_head; (case hw => w_witness2)
  k_fill
  refine K71.walk (l := PySem.Challenge.rw_shrunkrooms_k71_whole_rooks_and_covers) rfl (by decide) rfl (fun w h Y => PySem.W.kIn_of Y) ?F
  case F =>
    intro w mg fa h KX G hmg
    refine' K71.all_mk KX G hmg ?aIsInt ?yIsInt ?cIsInt ?kIsInt ?aIsCount ?yIsCount ?cIsCount ?kIsCount ?aIsList ?yIsList ?cIsList ?kIsList ?aBet ?yBet ?cBet ?kBet ?aWm ?yWm ?cWm ?kWm ?aPat ?yPat ?cPat ?kPat ?aPl ?yPl ?cPl ?kPl ?aRk ?yRk ?cRk ?kRk ?aIr ?yIr ?cIr ?kIr ?aCv ?yCv ?cCv ?kCv ?aIc ?yIc ?cIc ?kIc ?aMr ?yMr ?cMr ?kMr ?aLo ?yLo ?cLo ?kLo ?aCs ?yCs ?cCs ?kCs ?aUn ?yUn ?cUn ?kUn ?aWb ?yWb ?cWb ?kWb ?aPo ?yPo ?cPo ?kPo ?aDr ?yDr ?cDr ?kDr ?aBo ?yBo ?cBo ?kBo ?aMo ?yMo ?cMo ?kMo ?aLl ?yLl ?cLl ?kLl ?aFe ?yFe ?cFe ?kFe ?aRr ?yRr ?cRr ?kRr ?aCr ?yCr ?cCr ?kCr ?aRi ?yRi ?cRi ?kRi ?aLaw ?yLaw ?cLaw ?kLaw ?z_isinstance ?z_int ?z_bool ?z_abs ?z_list ?z_tuple ?z_len ?z_max ?z_min ?z_divmod ?z_range ?z_repr ?z_all ?z_set ?z_sorted ?z_dict ?z_zip ?c16 ?c4
    (case aIsInt => k_is)
    (case yIsInt => k_is)
    (case cIsInt => k_is)
    (case kIsInt => k_is)
    (case aIsCount => k_is)
    (case yIsCount => k_is)
    (case cIsCount => k_is)
    (case kIsCount => k_is)
    (case aIsList => k_is)
    (case yIsList => k_is)
    (case cIsList => k_is)
    (case kIsList => k_is)
    (case aBet => k_is)
    (case yBet => k_is)
    (case cBet => k_is)
    (case kBet => k_is)
    (case aWm => k_is)
    (case yWm => k_is)
    (case cWm => k_is)
    (case kWm => k_is)
    (case aPat => k_is)
    (case yPat => k_is)
    (case cPat => k_is)
    (case kPat => k_is)
    (case aPl => k_is)
    (case yPl => k_is)
    (case cPl => k_is)
    (case kPl => k_is)
    (case aRk => k_is)
    (case yRk => k_is)
    (case cRk => k_is)
    (case kRk => k_is)
    (case aIr => k_is)
    (case yIr => k_is)
    (case cIr => k_is)
    (case kIr => k_is)
    (case aCv => k_is)
    (case yCv => k_is)
    (case cCv => k_is)
    (case kCv => k_is)
    (case aIc => k_is)
    (case yIc => k_is)
    (case cIc => k_is)
    (case kIc => k_is)
    (case aMr => k_is)
    (case yMr => k_is)
    (case cMr => k_is)
    (case kMr => k_is)
    (case aLo => k_is)
    (case yLo => k_is)
    (case cLo => k_is)
    (case kLo => k_is)
    (case aCs => k_is)
    (case yCs => k_is)
    (case cCs => k_is)
    (case kCs => k_is)
    (case aUn => k_is)
    (case yUn => k_is)
    (case cUn => k_is)
    (case kUn => k_is)
    (case aWb => k_is)
    (case yWb => k_is)
    (case cWb => k_is)
    (case kWb => k_is)
    (case aPo => k_is)
    (case yPo => k_is)
    (case cPo => k_is)
    (case kPo => k_is)
    (case aDr => k_is)
    (case yDr => k_is)
    (case cDr => k_is)
    (case kDr => k_is)
    (case aBo => k_is)
    (case yBo => k_is)
    (case cBo => k_is)
    (case kBo => k_is)
    (case aMo => k_is)
    (case yMo => k_is)
    (case cMo => k_is)
    (case kMo => k_is)
    (case aLl => k_is)
    (case yLl => k_is)
    (case cLl => k_is)
    (case kLl => k_is)
    (case aFe => k_is)
    (case yFe => k_is)
    (case cFe => k_is)
    (case kFe => k_is)
    (case aRr => k_is)
    (case yRr => k_is)
    (case cRr => k_is)
    (case kRr => k_is)
    (case aCr => k_is)
    (case yCr => k_is)
    (case cCr => k_is)
    (case kCr => k_is)
    (case aRi => k_is)
    (case yRi => k_is)
    (case cRi => k_is)
    (case kRi => k_is)
    (case aLaw => k_is)
    (case yLaw => k_is)
    (case cLaw => k_is)
    (case kLaw => k_is)
    (case z_isinstance => k_is)
    (case z_int => k_is)
    (case z_bool => k_is)
    (case z_abs => k_is)
    (case z_list => k_is)
    (case z_tuple => k_is)
    (case z_len => k_is)
    (case z_max => k_is)
    (case z_min => k_is)
    (case z_divmod => k_is)
    (case z_range => k_is)
    (case z_repr => k_is)
    (case z_all => k_is)
    (case z_set => k_is)
    (case z_sorted => k_is)
    (case z_dict => k_is)
    (case z_zip => k_is)
    (case c16 => k_is)
    (case c4 => k_is)
