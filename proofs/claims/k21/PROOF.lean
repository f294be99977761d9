import PyProof.Rows.All
import Wide.All
import OpenK.AllK
import Wide.FinOn
import HandS.ForMost
import HandS.ForExc
import HandS.Wide
import HandS.Gcd
import HandS.IsInst
import HandS.Evl
import HandS.TupLe
import HandS.Style
import HandS.Defaults
import HandS.TryOnly
import HandS.Star
import HandS.Head0
import HandS.Head1
import HandS.Head2
import HandS.Head3
import HandS.HeadHook1
import HandS.HeadHook2
import HandS.HeadEnd
import PySem.Challenge.RW_farheld_k21_forms_valued_and_made
set_option Elab.async false
set_option linter.all false
set_option maxRecDepth 100000
set_option maxHeartbeats 4000000
/-! Programs over data (numbers, truths, texts, lists and tuples that nobody changes): what an expression comes to, as a datum, over heaps that only grow. -/
namespace Dat
open PySem L2 Evl
section
variable {X : Cx}
/-- // by any number other than 0 of less than 9000 bits -/
def CDivA (_ j : Int) : Prop := j ≠ 0 ∧ j.natAbs.log2 < 9000
theorem op_fdivA : OpR X (binaryOp .FloorDiv) (rI CDivA fun i j => .int (i.fdiv j)) := opI fun i j _ _ _ _ _ hc q => PyProof.Rows.floordiv_int hc.1 q (.inl (PyProof.noPylong_of_log2 hc.2))
end
section
variable {K : PySem.W.Frag}
mutual
theorem dp_grow {H H' : Hp} (e : Ex H H') : ∀ (d : PyData) (v : V), Dp K H v d → Dp K H' v d
  | .none, _, h => by
    cases h
    exact .non
  | .bool b, _, h => by
    cases h
    exact .bl b
  | .int i, _, h => by
    cases h
    exact .int i
  | .str x, _, h => by
    cases h
    exact .str x
  | .list ds, _, h => by
    cases h with
    | lst hs ha => exact .lst (ex_l e hs) (dps_grow e ds _ ha)
  | .tuple ds, _, h => by
    cases h with
    | tup hs ha => exact .tup (ex_t e hs) (dps_grow e ds _ ha)
  | .dict _, _, h => by cases h
theorem dps_grow {H H' : Hp} (e : Ex H H') : ∀ (ds : List PyData) (vs : List V), DpAll K H vs ds → DpAll K H' vs ds
  | [], _, h => by
    cases h
    exact .nil
  | d :: ds, _, h => by
    cases h with
    | cons h1 h2 => exact .cons (dp_grow e d _ h1) (dps_grow e ds _ h2)
end
theorem dps_len {H : Hp} : ∀ {vs : List V} {ds : List PyData}, DpAll K H vs ds → vs.length = ds.length
  | _, _, .nil => rfl
  | _, _, .cons _ t => by rw [List.length_cons, List.length_cons, dps_len t]
theorem dps_get {H : Hp} : ∀ {vs : List V} {ds : List PyData} {i : Nat} {d : PyData}, DpAll K H vs ds → ds[i]? = some d → ∃ v, vs[i]? = some v ∧ Dp K H v d
  | _, _, i, d, .nil, e => by cases e
  | _, _, 0, d, .cons h _, e => by
    cases e
    exact ⟨_, rfl, h⟩
  | _, _, i + 1, d, .cons _ t, e => dps_get (i := i) (d := d) t e
theorem dps_back {H : Hp} : ∀ {vs : List V} {ds : List PyData} {i : Nat} {v : V}, DpAll K H vs ds → vs[i]? = some v → ∃ d, ds[i]? = some d ∧ Dp K H v d
  | _, _, i, v, .nil, e => by cases e
  | _, _, 0, v, .cons h _, e => by
    cases e
    exact ⟨_, rfl, h⟩
  | _, _, i + 1, v, .cons _ t, e => dps_back (i := i) (v := v) t e
theorem dps_at {H : Hp} {vs : List V} {ds : List PyData} {i : Int} {d : PyData} (h : DpAll K H vs ds) (e : atI ds i = some d) : ∃ v, atI vs i = some v ∧ Dp K H v d := by
  unfold atI at e ⊢
  rw [dps_len h]
  cases q : ixN ds.length i with
  | none =>
    rw [q] at e
    cases e
  | some j =>
    rw [q] at e
    exact dps_get h e
theorem dps_app {H : Hp} : ∀ {vs ws : List V} {ds es : List PyData}, DpAll K H vs ds → DpAll K H ws es → DpAll K H (vs ++ ws) (ds ++ es)
  | _, _, _, _, .nil, t => t
  | _, _, _, _, .cons h r, t => .cons h (dps_app r t)

/-! ### judgements -/
def EvD (K : PySem.W.Frag) (te : TE) (σ : L2.St) (H : Hp) (d : PyData) : Prop := ∀ H1, Ex H H1 → ∀ Q : VK, (∀ v H2, Ex H1 H2 → Dp K H2 v d → Q v H2) → te σ H1 Q
def EvDs (K : PySem.W.Frag) (ta : TA) (σ : L2.St) (H : Hp) (ds : List PyData) : Prop := ∀ H1, Ex H H1 → ∀ Q : List V → Hp → Prop, (∀ vs H2, Ex H1 H2 → DpAll K H2 vs ds → Q vs H2) → ta σ H1 Q
def EvB (tt : TT) (σ : L2.St) (H : Hp) (b : Bool) : Prop := ∀ H1, Ex H H1 → ∀ Q : Bool → Hp → Prop, (∀ H2, Ex H1 H2 → Q b H2) → tt σ H1 Q
/-- the slot i holds the datum d -/
def Sl (K : PySem.W.Frag) (σ : L2.St) (H : Hp) (i : Nat) (d : PyData) : Prop := ∃ v, σ[i]? = some (some v) ∧ Dp K H v d
variable {σ : L2.St} {H H' : Hp} {te tb tx : TE} {ta : TA} {t u : TT} {d e : PyData} {ds : List PyData}
theorem EvD.mono (x : Ex H H') (h : EvD K te σ H d) : EvD K te σ H' d := fun H1 a Q q => h H1 (x.trans a) Q q
theorem EvB.mono {b : Bool} (x : Ex H H') (h : EvB t σ H b) : EvB t σ H' b := fun H1 a Q q => h H1 (x.trans a) Q q
theorem d_var {i : Nat} (h : Sl K σ H i d) : EvD K (tVar i) σ H d := fun H1 x Q k => by
  obtain ⟨v, hs, hv⟩ := h
  exact ⟨v, hs, k v H1 (Ex.refl H1) (dp_grow x _ _ hv)⟩
theorem d_c {v : V} (h : ∀ H, Dp K H v d) : EvD K (tC v) σ H d := fun H1 _ Q k => k _ H1 (Ex.refl H1) (h _)
theorem d_int {i : Int} : EvD K (tC (.int i)) σ H (.int i) := d_c fun _ => .int i
theorem d_bl {b : Bool} : EvD K (tC (.bl b)) σ H (.bool b) := d_c fun _ => .bl b
theorem d_non : EvD K (tC .non) σ H .none := d_c fun _ => .non
theorem d_str {x : Str} : EvD K (tC (.str x)) σ H (.str x) := d_c fun _ => .str x
theorem ds_nil : EvDs K tNil σ H [] := fun H1 _ Q k => k [] H1 (Ex.refl H1) .nil
theorem ds_cons (h : EvD K te σ H d) (r : EvDs K ta σ H ds) : EvDs K (tCons te ta) σ H (d :: ds) := fun H1 x Q k =>
  h H1 x _ fun v H2 x2 hv => r H2 (x.trans x2) _ fun vs H3 x3 hvs => k _ H3 (x2.trans x3) (.cons (dp_grow x3 _ _ hv) hvs)
theorem d_tup (h : EvDs K ta σ H ds) (hl : ds.length ≤ 1000) : EvD K (tTup ta) σ H (.tuple ds) := fun H1 x Q k =>
  h H1 x _ fun vs H2 x2 hvs => ⟨sz_of (by rw [dps_len hvs]; omega), fun p hp => k _ _ (x2.trans (Ex.new hp)) (.tup (st_of upd_same) (dps_grow (Ex.new hp) _ _ hvs))⟩
theorem d_lst (h : EvDs K ta σ H ds) (hl : ds.length ≤ 1000) : EvD K (tLst ta) σ H (.list ds) := fun H1 x Q k =>
  h H1 x _ fun vs H2 x2 hvs => ⟨sz_of (by rw [dps_len hvs]; omega), fun p hp => k _ _ (x2.trans (Ex.new hp)) (.lst (sq_of upd_same) (dps_grow (Ex.new hp) _ _ hvs))⟩
/-- a two-place operation over ints -/
theorem d_I {C : Int → Int → Prop} {g : Int → Int → V} {i j : Int} (h : EvD K te σ H (.int i)) (r : EvD K tb σ H (.int j)) (hc : C i j) (hg : ∀ H, Dp K H (g i j) d) : EvD K (tOp (rI C g) te tb) σ H d := fun H1 x Q k =>
  h H1 x _ fun v H2 x2 hv => r H2 (x.trans x2) _ fun w H3 x3 hw => by
    cases hv
    cases hw
    exact ⟨i, j, rfl, rfl, hc, k _ H3 (x2.trans x3) (hg _)⟩
theorem d_I0 {g : Int → Int → V} {i j : Int} (h : EvD K te σ H (.int i)) (r : EvD K tb σ H (.int j)) (hg : ∀ H, Dp K H (g i j) d) : EvD K (tOp (rI0 g) te tb) σ H d := fun H1 x Q k =>
  h H1 x _ fun v H2 x2 hv => r H2 (x.trans x2) _ fun w H3 x3 hw => by
    cases hv
    cases hw
    exact ⟨i, j, rfl, rfl, k _ H3 (x2.trans x3) (hg _)⟩
section
variable {i j : Int}
theorem d_add (h : EvD K te σ H (.int i)) (r : EvD K tb σ H (.int j)) : EvD K (tOp (rI0 fun i j => .int (i + j)) te tb) σ H (.int (i + j)) := d_I0 h r fun _ => .int _
theorem d_sub (h : EvD K te σ H (.int i)) (r : EvD K tb σ H (.int j)) : EvD K (tOp (rI0 fun i j => .int (i - j)) te tb) σ H (.int (i - j)) := d_I0 h r fun _ => .int _
theorem d_mul (h : EvD K te σ H (.int i)) (r : EvD K tb σ H (.int j)) (hc : CMulW i j) : EvD K (tOp (rI CMulW fun i j => .int (i * j)) te tb) σ H (.int (i * j)) := d_I h r hc fun _ => .int _
theorem d_fdiv (h : EvD K te σ H (.int i)) (r : EvD K tb σ H (.int j)) (hc : CDivA i j) : EvD K (tOp (rI CDivA fun i j => .int (i.fdiv j)) te tb) σ H (.int (i.fdiv j)) := d_I h r hc fun _ => .int _
theorem d_mod (h : EvD K te σ H (.int i)) (r : EvD K tb σ H (.int j)) (hc : 0 < j) : EvD K (tOp (rI (fun _ j => 0 < j) fun i j => .int (i % j)) te tb) σ H (.int (i % j)) := d_I h r hc fun _ => .int _
theorem d_lt (h : EvD K te σ H (.int i)) (r : EvD K tb σ H (.int j)) : EvD K (tOp (rI0 fun i j => .bl (decide (i < j))) te tb) σ H (.bool (decide (i < j))) := d_I0 h r fun _ => .bl _
theorem d_le (h : EvD K te σ H (.int i)) (r : EvD K tb σ H (.int j)) : EvD K (tOp (rI0 fun i j => .bl (decide (i ≤ j))) te tb) σ H (.bool (decide (i ≤ j))) := d_I0 h r fun _ => .bl _
theorem d_gt (h : EvD K te σ H (.int i)) (r : EvD K tb σ H (.int j)) : EvD K (tOp (rI0 fun i j => .bl (decide (j < i))) te tb) σ H (.bool (decide (j < i))) := d_I0 h r fun _ => .bl _
theorem d_ge (h : EvD K te σ H (.int i)) (r : EvD K tb σ H (.int j)) : EvD K (tOp (rI0 fun i j => .bl (decide (j ≤ i))) te tb) σ H (.bool (decide (j ≤ i))) := d_I0 h r fun _ => .bl _
theorem d_eqI (h : EvD K te σ H (.int i)) (r : EvD K tb σ H (.int j)) : EvD K (tOp rEq te tb) σ H (.bool (decide (i = j))) := fun H1 x Q k =>
  h H1 x _ fun v H2 x2 hv => r H2 (x.trans x2) _ fun w H3 x3 hw => by
    cases hv
    cases hw
    refine ⟨rfl, ?_⟩
    have z : decide (V.int i = V.int j) = decide (i = j) := by
      by_cases q : i = j
      · subst q
        rw [decide_eq_true rfl, decide_eq_true rfl]
      · rw [decide_eq_false q, decide_eq_false (fun z => q (V.int.inj z))]
    rw [z]
    exact k _ H3 (x2.trans x3) (.bl _)
theorem d_neI (h : EvD K te σ H (.int i)) (r : EvD K tb σ H (.int j)) : EvD K (tOp rNe te tb) σ H (.bool (decide (i ≠ j))) := fun H1 x Q k =>
  h H1 x _ fun v H2 x2 hv => r H2 (x.trans x2) _ fun w H3 x3 hw => by
    cases hv
    cases hw
    refine ⟨rfl, ?_⟩
    have z : (!decide (V.int i = V.int j)) = decide (i ≠ j) := by
      by_cases q : i = j
      · subst q
        rw [decide_eq_true rfl, decide_eq_false (fun z => z rfl)]
        rfl
      · rw [decide_eq_true q, decide_eq_false (fun z => q (V.int.inj z))]
        rfl
    rw [z]
    exact k _ H3 (x2.trans x3) (.bl _)
theorem d_neg (h : EvD K te σ H (.int i)) : EvD K (tUn (rU fun i => .int (-i)) te) σ H (.int (-i)) := fun H1 x Q k =>
  h H1 x _ fun v H2 x2 hv => by
    cases hv
    exact ⟨i, rfl, k _ H2 x2 (.int _)⟩
theorem d_abs (h : EvD K te σ H (.int i)) : EvD K (tCB (fun xs H Q => ∃ i, xs = [.int i] ∧ Q (.int (if i < 0 then -i else i)) H) (tCons te tNil)) σ H (.int (i.natAbs : Int)) := fun H1 x Q k =>
  h H1 x _ fun v H2 x2 hv => by
    cases hv
    refine ⟨i, rfl, ?_⟩
    have z : (if i < 0 then -i else i) = (i.natAbs : Int) := by
      split <;> omega
    rw [z]
    exact k _ H2 x2 (.int _)
theorem d_toInt (h : EvD K te σ H (.int i)) : EvD K (tCB (fun xs H Q => (∃ i, xs = [.int i] ∧ Q (.int i) H) ∨ ∃ k, xs = [.bl k] ∧ Q (.int (if k then 1 else 0)) H) (tCons te tNil)) σ H (.int i) := fun H1 x Q k =>
  h H1 x _ fun v H2 x2 hv => by
    cases hv
    exact .inl ⟨i, rfl, k _ H2 x2 (.int _)⟩
theorem d_toIntB {b : Bool} (h : EvD K te σ H (.bool b)) : EvD K (tCB (fun xs H Q => (∃ i, xs = [.int i] ∧ Q (.int i) H) ∨ ∃ k, xs = [.bl k] ∧ Q (.int (if k then 1 else 0)) H) (tCons te tNil)) σ H (.int (if b then 1 else 0)) := fun H1 x Q k =>
  h H1 x _ fun v H2 x2 hv => by
    cases hv
    exact .inr ⟨b, rfl, k _ H2 x2 (.int _)⟩
theorem d_gcd (h : EvD K te σ H (.int i)) (r : EvD K tb σ H (.int j)) : EvD K (tCB rGcd (tCons te (tCons tb tNil))) σ H (.int ((Nat.gcd i.natAbs j.natAbs : Nat) : Int)) := fun H1 x Q k =>
  h H1 x _ fun v H2 x2 hv => r H2 (x.trans x2) _ fun w H3 x3 hw => by
    cases hv
    cases hw
    exact ⟨i, j, rfl, k _ H3 (x2.trans x3) (.int _)⟩
/-- t[i], xs[i] -/
theorem d_ixT (h : EvD K te σ H (.tuple ds)) (r : EvD K tb σ H (.int i)) (e : atI ds i = some d) : EvD K (tOp (rIxT K) te tb) σ H d := fun H1 x Q k =>
  h H1 x _ fun v H2 x2 hv => r H2 (x.trans x2) _ fun w H3 x3 hw => by
    cases dp_grow x3 _ _ hv with
    | tup hs ha =>
      cases hw
      obtain ⟨z, hz, hd⟩ := dps_at ha e
      exact ⟨_, _, i, z, rfl, rfl, hs, hz, k _ H3 (x2.trans x3) hd⟩
theorem d_ixL (h : EvD K te σ H (.list ds)) (r : EvD K tb σ H (.int i)) (e : atI ds i = some d) : EvD K (tOp (rIxL K) te tb) σ H d := fun H1 x Q k =>
  h H1 x _ fun v H2 x2 hv => r H2 (x.trans x2) _ fun w H3 x3 hw => by
    cases dp_grow x3 _ _ hv with
    | lst hs ha =>
      cases hw
      obtain ⟨z, hz, hd⟩ := dps_at ha e
      exact ⟨_, _, i, z, rfl, rfl, hs, hz, k _ H3 (x2.trans x3) hd⟩
theorem d_lenL (h : EvD K te σ H (.list ds)) : EvD K (tCB (fun xs H Q => ∃ p ys, xs = [.ref p] ∧ (SqL K H p ys ∨ SqT K H p ys) ∧ Q (.int ys.length) H) (tCons te tNil)) σ H (.int ds.length) := fun H1 x Q k =>
  h H1 x _ fun v H2 x2 hv => by
    cases hv with
    | lst hs ha =>
      refine ⟨_, _, rfl, .inl hs, ?_⟩
      rw [dps_len ha]
      exact k _ H2 x2 (.int _)
theorem d_lenT (h : EvD K te σ H (.tuple ds)) : EvD K (tCB (fun xs H Q => ∃ p ys, xs = [.ref p] ∧ (SqL K H p ys ∨ SqT K H p ys) ∧ Q (.int ys.length) H) (tCons te tNil)) σ H (.int ds.length) := fun H1 x Q k =>
  h H1 x _ fun v H2 x2 hv => by
    cases hv with
    | tup hs ha =>
      refine ⟨_, _, rfl, .inr hs, ?_⟩
      rw [dps_len ha]
      exact k _ H2 x2 (.int _)
end
/-- == and != of data -/
theorem d_eqD (h : EvD K te σ H d) (r : EvD K tb σ H e) (hd : SeqAt.shaped d = true) (he : SeqAt.shaped e = true) : EvD K (tOp (rEqD K) te tb) σ H (.bool (PyData.eqv d e)) := fun H1 x Q k =>
  h H1 x _ fun v H2 x2 hv => r H2 (x.trans x2) _ fun w H3 x3 hw => ⟨d, e, dp_grow x3 _ _ hv, hw, hd, he, k _ H3 (x2.trans x3) (.bl _)⟩
theorem d_neD (h : EvD K te σ H d) (r : EvD K tb σ H e) (hd : SeqAt.shaped d = true) (he : SeqAt.shaped e = true) : EvD K (tOp (rNeD K) te tb) σ H (.bool (!PyData.eqv d e)) := fun H1 x Q k =>
  h H1 x _ fun v H2 x2 hv => r H2 (x.trans x2) _ fun w H3 x3 hw => ⟨d, e, dp_grow x3 _ _ hv, hw, hd, he, k _ H3 (x2.trans x3) (.bl _)⟩
def isNone : PyData → Bool
  | .none => true
  | _ => false
theorem dec_none {v : V} {H : Hp} (h : Dp K H v d) : decide (v = V.non) = isNone d := by
  cases h <;> rfl
theorem d_isN (h : EvD K te σ H d) : EvD K (tOp (fun x y H Q => y = .non ∧ Q (.bl (decide (x = .non))) H) te (tC .non)) σ H (.bool (isNone d)) := fun H1 x Q k =>
  h H1 x _ fun v H2 x2 hv => ⟨rfl, by
    rw [dec_none hv]
    exact k _ H2 x2 (.bl _)⟩
theorem d_notN (h : EvD K te σ H d) : EvD K (tOp (fun x y H Q => y = .non ∧ Q (.bl (!decide (x = .non))) H) te (tC .non)) σ H (.bool (!isNone d)) := fun H1 x Q k =>
  h H1 x _ fun v H2 x2 hv => ⟨rfl, by
    rw [dec_none hv]
    exact k _ H2 x2 (.bl _)⟩
theorem d_isB {a b : Bool} (h : EvD K te σ H (.bool a)) (r : EvD K tb σ H (.bool b)) : EvD K (tOp (fun x y H Q => ∃ a b, x = .bl a ∧ y = .bl b ∧ Q (.bl (decide (a = b))) H) te tb) σ H (.bool (decide (a = b))) := fun H1 x Q k =>
  h H1 x _ fun v H2 x2 hv => r H2 (x.trans x2) _ fun w H3 x3 hw => by
    cases hv
    cases hw
    exact ⟨a, b, rfl, rfl, k _ H3 (x2.trans x3) (.bl _)⟩
/-! ### truths -/
theorem d_and {a b : Bool} (h : EvD K te σ H (.bool a)) (r : a = true → EvD K tb σ H (.bool b)) : EvD K (tAndV te tb) σ H (.bool (a && b)) := fun H1 x Q k =>
  h H1 x _ fun v H2 x2 hv => by
    cases hv
    refine ⟨a, rfl, ?_⟩
    cases a with
    | true =>
      show tb σ H2 Q
      exact r rfl H2 (x.trans x2) Q fun v H3 x3 hv => k v H3 (x2.trans x3) hv
    | false =>
      show Q (.bl false) H2
      exact k _ H2 x2 (.bl _)
theorem d_or {a b : Bool} (h : EvD K te σ H (.bool a)) (r : a = false → EvD K tb σ H (.bool b)) : EvD K (tOrV te tb) σ H (.bool (a || b)) := fun H1 x Q k =>
  h H1 x _ fun v H2 x2 hv => by
    cases hv
    refine ⟨a, rfl, ?_⟩
    cases a with
    | false =>
      show tb σ H2 Q
      exact r rfl H2 (x.trans x2) Q fun v H3 x3 hv => k v H3 (x2.trans x3) hv
    | true =>
      show Q (.bl true) H2
      exact k _ H2 x2 (.bl _)
theorem d_not {a : Bool} (h : EvD K te σ H (.bool a)) : EvD K (tNotV te) σ H (.bool (!a)) := fun H1 x Q k =>
  h H1 x _ fun v H2 x2 hv => by
    cases hv
    exact ⟨a, rfl, k _ H2 x2 (.bl _)⟩
theorem b_test {b : Bool} (h : EvD K te σ H (.bool b)) : EvB (tTest te) σ H b := fun H1 x Q k => h H1 x _ fun v H2 x2 hv => by
  cases hv
  exact ⟨b, rfl, k H2 x2⟩
theorem b_val {b : Bool} (h : EvD K te σ H (.bool b)) : EvB (tB te) σ H b := fun H1 x Q k => h H1 x _ fun v H2 x2 hv => by
  cases hv
  exact ⟨b, rfl, k H2 x2⟩
theorem b_not {a : Bool} (h : EvB t σ H a) : EvB (tNot t) σ H (!a) := fun H1 x Q k => h H1 x _ fun H2 x2 => k H2 x2
theorem b_and {a b : Bool} (h : EvB t σ H a) (r : a = true → EvB u σ H b) : EvB (tAnd t u) σ H (a && b) := fun H1 x Q k => h H1 x _ fun H2 x2 => by
  cases a with
  | true =>
    show u σ H2 Q
    exact r rfl H2 (x.trans x2) Q fun H3 x3 => k H3 (x2.trans x3)
  | false =>
    show Q false H2
    exact k H2 x2
theorem b_or {a b : Bool} (h : EvB t σ H a) (r : a = false → EvB u σ H b) : EvB (tOr t u) σ H (a || b) := fun H1 x Q k => h H1 x _ fun H2 x2 => by
  cases a with
  | false =>
    show u σ H2 Q
    exact r rfl H2 (x.trans x2) Q fun H3 x3 => k H3 (x2.trans x3)
  | true =>
    show Q true H2
    exact k H2 x2
theorem d_if {b : Bool} (h : EvB t σ H b) (r1 : b = true → EvD K te σ H d) (r2 : b = false → EvD K tb σ H d) : EvD K (tIf t te tb) σ H d := fun H1 x Q k => h H1 x _ fun H2 x2 => by
  cases b with
  | true =>
    show te σ H2 Q
    exact r1 rfl H2 (x.trans x2) Q fun v H3 x3 hv => k v H3 (x2.trans x3) hv
  | false =>
    show tb σ H2 Q
    exact r2 rfl H2 (x.trans x2) Q fun v H3 x3 hv => k v H3 (x2.trans x3) hv
theorem d_ite {b : Bool} (h : EvB t σ H b) (r1 : b = true → EvD K te σ H d) (r2 : b = false → EvD K tb σ H e) : EvD K (tIf t te tb) σ H (if b = true then d else e) := fun H1 x Q k => h H1 x _ fun H2 x2 => by
  cases b with
  | true =>
    show te σ H2 Q
    exact r1 rfl H2 (x.trans x2) Q fun v H3 x3 hv => k v H3 (x2.trans x3) (by rw [if_pos rfl]; exact hv)
  | false =>
    show tb σ H2 Q
    exact r2 rfl H2 (x.trans x2) Q fun v H3 x3 hv => k v H3 (x2.trans x3) (by rw [if_neg Bool.false_ne_true]; exact hv)
theorem d_is (h : EvD K te σ H d) (q : d = e) : EvD K te σ H e := q ▸ h
theorem b_is {a b : Bool} (h : EvB t σ H a) (q : a = b) : EvB t σ H b := q ▸ h
/-! ### kinds -/
/-- the name of a datum's type -/
def kind : PyData → String
  | .none => "NoneType"
  | .bool _ => "bool"
  | .int _ => "int"
  | .str _ => "str"
  | .list _ => "list"
  | .tuple _ => "tuple"
  | .dict _ => "dict"
theorem tyx_of {v : V} {H : Hp} (h : Dp K H v d) : TyX K H v (.type (kind d)) := by
  cases h with
  | non => exact .base .non
  | bl b => exact .base (.bl b)
  | int i => exact .base (.int i)
  | str x => exact .base (.str x)
  | lst hs _ =>
    rcases hs with (h | ⟨o, h⟩) | ⟨o, its, n, h, hc, _⟩
    · exact .base (.lst h)
    · exact .base (.frz h)
    · exact .kList h hc
  | tup hs _ =>
    rcases hs with (h | ⟨o, h⟩) | ⟨o, its, n, h, hc, _⟩
    · exact .base (.tup h)
    · exact .fTuple h
    · exact .kTuple h hc
theorem d_isi {c : String} {b : Bool} (h : EvD K te σ H d) (e : kitB (kind d) c = some b) : EvD K (tCB (rIsi K) (tCons te (tCons (tC (.ty c)) tNil))) σ H (.bool b) := fun H1 x Q k =>
  h H1 x _ fun v H2 x2 hv => ⟨v, .ty c, _, _, b, rfl, .ty c, tyx_of hv, kit_ty e, k _ H2 x2 (.bl _)⟩
/-- isinstance(x, (T, U)) -/
theorem d_isiT {c c' : String} {b b' : Bool} (h : EvD K te σ H d) (e : kitB (kind d) c = some b) (e' : kitB (kind d) c' = some b') : EvD K (tCB (rIsiT K) (tCons te (tCons (tTup (tCons (tC (.ty c)) (tCons (tC (.ty c')) tNil))) tNil))) σ H (.bool (b || b')) := fun H1 x Q k =>
  h H1 x _ fun v H2 x2 hv => ⟨sz_of (by show 2 ≤ 100000; decide), fun p hp => ⟨v, p, [.ty c, .ty c'], _, [.type c, .type c'], b || b', rfl, upd_same, .cons (.ty c) (.cons (.ty c') .nil), tyx_of (dp_grow (Ex.new hp) _ _ hv), by
    unfold PySem.W.kitAny PySem.W.kitAny PySem.W.kitAny
    rw [kit_ty e, kit_ty e']
    cases b <;> cases b' <;> rfl, k _ _ (x2.trans (Ex.new hp)) (.bl _)⟩⟩
/-! ### calls -/
/-- a def that makes of data a datum -/
def spD (K : PySem.W.Frag) (n : Nat) (f : List PyData → PyData → Prop) : Sp := fun vs H Q _ => ∃ ds d, ds.length = n ∧ DpAll K H vs ds ∧ f ds d ∧ ∀ v H', Ex H H' → Dp K H' v d → Q v H'
theorem d_call {n : Nat} {f : List PyData → PyData → Prop} {E : XK} (h : EvDs K ta σ H ds) (hl : ds.length = n) (hf : f ds d) : EvD K (tCall (spD K n f) [] E ta) σ H d := fun H1 x Q k =>
  h H1 x _ fun vs H2 x2 hvs => by
    refine ⟨ds, d, hl, ?_, hf, fun v H' x' hv => k v H' (x2.trans x') hv⟩
    rw [List.append_nil]
    exact hvs
/-! ### statements -/
variable {D : Ends} {tu tw : TS}
theorem z_set {i : Nat} {ts : TS} (h : EvD K te σ H d) (k : ∀ v H1, Ex H H1 → Dp K H1 v d → ts D (σ.set i (some v)) H1) : tSeq (tAsg te (gName i)) ts D σ H := h H (Ex.refl H) _ k
theorem z_if {b : Bool} {ts : TS} (h : EvB t σ H b) (k1 : b = true → ∀ H1, Ex H H1 → tu { D with nx := ts D } σ H1) (k2 : b = false → ∀ H1, Ex H H1 → tw { D with nx := ts D } σ H1) : tSeq (tIfS t tu tw) ts D σ H := h H (Ex.refl H) _ fun H1 x => by
  cases b with
  | true =>
    show tu _ σ H1
    exact k1 rfl H1 x
  | false =>
    show tw _ σ H1
    exact k2 rfl H1 x
theorem z_if1 {b : Bool} (h : EvB t σ H b) (k1 : b = true → ∀ H1, Ex H H1 → tu D σ H1) (k2 : b = false → ∀ H1, Ex H H1 → tw D σ H1) : tIfS t tu tw D σ H := h H (Ex.refl H) _ fun H1 x => by
  cases b with
  | true =>
    show tu D σ H1
    exact k1 rfl H1 x
  | false =>
    show tw D σ H1
    exact k2 rfl H1 x
theorem z_ret (h : EvD K te σ H d) (k : ∀ v H1, Ex H H1 → Dp K H1 v d → D.rt v H1) : tRet te D σ H := h H (Ex.refl H) _ k
theorem z_set1 {i : Nat} (h : EvD K te σ H d) (k : ∀ v H1, Ex H H1 → Dp K H1 v d → D.nx (σ.set i (some v)) H1) : tAsg te (gName i) D σ H := h H (Ex.refl H) _ k
theorem z_next (h : D.nx σ H) : tNext D σ H := h
theorem x_set {i : Nat} {v : V} {ts : TS} (h : ∀ Q : VK, Q v H → te σ H Q) (k : ts D (σ.set i (some v)) H) : tSeq (tAsg te (gName i)) ts D σ H := h _ k
theorem z_while {c : TT} {ts : TS} (Pv : L2.St → Hp → Prop) (μ : L2.St → Hp → Nat) (h0 : Pv σ H)
    (hs : ∀ σ1 H1, Pv σ1 H1 → c σ1 H1 fun b H2 => if b = true then tu { D with nx := fun σ2 H3 => Pv σ2 H3 ∧ μ σ2 H3 < μ σ1 H1, ct := fun σ2 H3 => Pv σ2 H3 ∧ μ σ2 H3 < μ σ1 H1, bk := ts D } σ1 H2 else ts D σ1 H2)
    (mono : ∀ σ1 H1 Q Q', (∀ b H2, Q b H2 → Q' b H2) → c σ1 H1 Q → c σ1 H1 Q') : tSeq (tWhile c tu) ts D σ H := while_by (D := { D with nx := ts D }) Pv μ h0 hs mono
theorem Sl.mono {i : Nat} (x : Ex H H') (h : Sl K σ H i d) : Sl K σ H' i d := by
  obtain ⟨v, hs, hv⟩ := h
  exact ⟨v, hs, dp_grow x _ _ hv⟩
/-- x, y = t (a tuple of two) -/
theorem g_two {i j : Nat} {v : V} {a b : PyData} {Q : L2.St → Hp → Prop} {n : Nat} (hv : Dp K H v (.tuple [a, b])) (hn : n = 2) (k : ∀ x y, Dp K H x a → Dp K H y b → Q ((σ.set i (some x)).set j (some y)) H) : gTup K n (gCons (gName i) (gCons (gName j) gNil)) v σ H Q := by
  cases hv with
  | tup hs ha =>
    cases ha with
    | cons h1 t1 =>
      cases t1 with
      | cons h2 t2 =>
        cases t2
        exact ⟨_, _, rfl, hs, hn.symm, _, _, rfl, _, _, rfl, rfl, k _ _ h1 h2⟩
end
end Dat
/-! Ratios: what their defs promise. -/
namespace Dat
open PySem L2 Evl
/-! ### a def as its callers know it -/
structure Def (P : Program) (w : World) (K : PySem.W.Frag) (mg : Str → Option Value) (base : Heap) (CX : CXT) (k : Nat) (x : Str) (ps : List Str) (sp : Sp) : Prop where
  ex : ∃ (f : Addr) (fd : FuncData), FnOk P w K mg base CX k f fd ps sp ∧ mg x = some (.ref f) ∧ PySem.W.keepIn K (.ref f) = true ∧ Binds K fd ps []
section
variable {X : Cx} {CX : CXT} {k : Nat} {ps : List Str} {sp : Sp} {E : XK} {x : Str} {p pos : Pos} {e : Expr} {es : List Expr} {t : TA}
theorem pe_dcall (D : Def X.prog X.w X.K X.mg X.base CX k x ps sp) (hr : Room k X.A) (hx : Passes CX X E) (ha : PA X (e :: es) t) (hg : Gl X x := by rfl)
    (hdb : (x == ("__debug__" : Str)) = false := by decide) (he : starEach (e :: es) X.env = (false, eval e X.env) :: starEach es X.env := by rfl) (hpl : (backTo pos (starEach es X.env)).any (·.1) = false := by rfl) :
    PE X (.Call (.Name x p) (e :: es) [] pos) (tCall sp [] E t) := by
  obtain ⟨f, fd, F, hm, hk, hb⟩ := D.ex
  exact pe_call F hr hg hm hk hb .nil hx ha hdb he hpl
end
structure Bl (mg : Str → Option Value) : Prop where
  b_int : mg "int" = none
  b_abs : mg "abs" = none
  b_len : mg "len" = none
  b_range : mg "range" = none
  b_isinstance : mg "isinstance" = none
  b_any : mg "any" = none
  b_all : mg "all" = none
  b_bool : mg "bool" = none
  b_str : mg "str" = none
  b_tuple : mg "tuple" = none
  b_list : mg "list" = none
  b_enumerate : mg "enumerate" = none
  g_gcd : mg "gcd" = some (.builtin "math.gcd")
section
variable {K : PySem.W.Frag}
theorem dps_cons {H : Hp} {vs : List V} {d : PyData} {ds : List PyData} (h : DpAll K H vs (d :: ds)) : ∃ v ws, vs = v :: ws ∧ Dp K H v d ∧ DpAll K H ws ds := by
  cases h with
  | cons h1 h2 => exact ⟨_, _, rfl, h1, h2⟩
theorem dps_nil {H : Hp} {vs : List V} (h : DpAll K H vs []) : vs = [] := by
  cases h
  rfl
end
/-! ### ratios -/
abbrev rat (p q : Int) : PyData := .tuple [.int p, .int q]
/-- the two parts in lowest terms, the bottom above 0 -/
def lowP (t b : Int) : Int := if b < 0 then (-t) / (Nat.gcd t.natAbs b.natAbs : Nat) else t / (Nat.gcd t.natAbs b.natAbs : Nat)
def lowQ (t b : Int) : Int := if b < 0 then (-b) / (Nat.gcd t.natAbs b.natAbs : Nat) else b / (Nat.gcd t.natAbs b.natAbs : Nat)
abbrev lowest (t b : Int) : PyData := rat (lowP t b) (lowQ t b)
abbrev B : Nat := 1500
def fLowest (ds : List PyData) (d : PyData) : Prop := ∃ t b : Int, ds = [.int t, .int b] ∧ b ≠ 0 ∧ b.natAbs < 2 ^ 4000 ∧ d = lowest t b
def two (f : Int → Int → Int → Int → PyData) (ds : List PyData) (d : PyData) : Prop := ∃ p q r s : Int, ds = [rat p q, rat r s] ∧ q ≠ 0 ∧ s ≠ 0 ∧ p.natAbs < 2 ^ B ∧ q.natAbs < 2 ^ B ∧ r.natAbs < 2 ^ B ∧ s.natAbs < 2 ^ B ∧ d = f p q r s
def fPlus := two fun p q r s => lowest (p * s + r * q) (q * s)
def fMinus := two fun p q r s => lowest (p * s - r * q) (q * s)
def fTimes := two fun p q r s => lowest (p * r) (q * s)
def fLess := two fun p q r s => .bool (decide (p * s < r * q))
def one1 (f : Int → Int → PyData) (ds : List PyData) (d : PyData) : Prop := ∃ p q : Int, ds = [rat p q] ∧ d = f p q
def fNegative := one1 fun p q => rat (-p) q
def fSize := one1 fun p q => rat (p.natAbs : Int) q
def fFloor (ds : List PyData) (d : PyData) : Prop := ∃ p q : Int, ds = [rat p q] ∧ q ≠ 0 ∧ q.natAbs < 2 ^ B ∧ d = .int (p.fdiv q)
theorem mul_ne {q s : Int} (h : q ≠ 0) (h' : s ≠ 0) : q * s ≠ 0 := Int.mul_ne_zero h h'
theorem small_mul {q s : Int} (h : q.natAbs < 2 ^ B) (h' : s.natAbs < 2 ^ B) : (q * s).natAbs < 2 ^ 4000 := Nat.lt_of_lt_of_le (wide_lt h h') (Nat.pow_le_pow_right (by decide) (by decide))
theorem div_ok {i j : Int} {n : Nat} (h : j ≠ 0) (h' : j.natAbs < 2 ^ n) (h0 : 0 < n := by decide) (h9 : n ≤ 9000 := by decide) : CDivA i j := ⟨h, Nat.lt_of_lt_of_le (PySem.Flt.log2_lt_of h0 h') h9⟩
theorem gcd_pos {t b : Int} (h : b ≠ 0) : 0 < Nat.gcd t.natAbs b.natAbs := Nat.gcd_pos_of_pos_right _ (by omega)
theorem div_g {i t b : Int} (h : b ≠ 0) (h' : b.natAbs < 2 ^ 4000) : CDivA i ((Nat.gcd t.natAbs b.natAbs : Nat) : Int) := by
  have h1 := gcd_pos (t := t) h
  have h2 : Nat.gcd t.natAbs b.natAbs ≤ b.natAbs := Nat.gcd_le_right _ (by omega)
  exact div_ok (n := 4000) (by omega) (by show Nat.gcd t.natAbs b.natAbs < _; exact Nat.lt_of_le_of_lt h2 h')
theorem div_ng {i t b : Int} (h : b ≠ 0) (h' : b.natAbs < 2 ^ 4000) : CDivA i (-((Nat.gcd t.natAbs b.natAbs : Nat) : Int)) := by
  have h1 := gcd_pos (t := t) h
  have h2 : Nat.gcd t.natAbs b.natAbs ≤ b.natAbs := Nat.gcd_le_right _ (by omega)
  exact div_ok (n := 4000) (by omega) (by rw [Int.natAbs_neg]; show Nat.gcd t.natAbs b.natAbs < _; exact Nat.lt_of_le_of_lt h2 h')
theorem fdiv_neg_g {t : Int} {g : Nat} (h : 0 < g) : t.fdiv (-(g : Int)) = (-t) / (g : Int) := by
  have z := Int.neg_fdiv_neg (-t) (g : Int)
  rw [Int.neg_neg] at z
  rw [z, Int.fdiv_eq_ediv_of_nonneg _ (by omega)]
theorem low_neg {t b : Int} (h : b ≠ 0) (c : decide (b < 0) = true) : PyData.tuple [.int (t.fdiv (-((Nat.gcd t.natAbs b.natAbs : Nat) : Int))), .int (b.fdiv (-((Nat.gcd t.natAbs b.natAbs : Nat) : Int)))] = lowest t b := by
  have c' := of_decide_eq_true c
  have h1 := gcd_pos (t := t) h
  show _ = rat (lowP t b) (lowQ t b)
  unfold lowP lowQ
  rw [if_pos c', if_pos c', fdiv_neg_g h1, fdiv_neg_g h1]
theorem low_pos {t b : Int} (c : decide (b < 0) = false) : PyData.tuple [.int (t.fdiv ((Nat.gcd t.natAbs b.natAbs : Nat) : Int)), .int (b.fdiv ((Nat.gcd t.natAbs b.natAbs : Nat) : Int))] = lowest t b := by
  have c' := of_decide_eq_false c
  show _ = rat (lowP t b) (lowQ t b)
  unfold lowP lowQ
  rw [if_neg c', if_neg c', Int.fdiv_eq_ediv_of_nonneg _ (by omega), Int.fdiv_eq_ediv_of_nonneg _ (by omega)]
def fCompare := two fun p q r s => .int (if p * s - r * q = 0 then 0 else if 0 < p * s - r * q then 1 else -1)
theorem cmp_zero {g : Int} (c : decide (g = 0) = true) : PyData.int 0 = .int (if g = 0 then 0 else if 0 < g then 1 else -1) := by
  rw [if_pos (of_decide_eq_true c)]
theorem cmp_sign {g : Int} (c : decide (g = 0) = false) : (if decide (0 < g) = true then PyData.int 1 else .int (-1)) = .int (if g = 0 then 0 else if 0 < g then 1 else -1) := by
  rw [if_neg (of_decide_eq_false c)]
  by_cases h : 0 < g
  · rw [if_pos h, if_pos (decide_eq_true h)]
  · rw [if_neg h, if_neg (by rw [decide_eq_false h]; decide)]
end Dat
/-! Ratios as the core's Rat: sums and products as the program works them out. -/
namespace Dat
open PySem L2 Evl
abbrev ratR (x : Rat) : PyData := rat x.num (x.den : Int)
/-- both parts below 2 ^ n -/
def Sz (n : Nat) (x : Rat) : Prop := x.num.natAbs < 2 ^ n ∧ x.den < 2 ^ n
theorem Sz.mono {n m : Nat} {x : Rat} (h : Sz n x) (l : n ≤ m) : Sz m x :=
  ⟨Nat.lt_of_lt_of_le h.1 (Nat.pow_le_pow_right (by decide) l), Nat.lt_of_lt_of_le h.2 (Nat.pow_le_pow_right (by decide) l)⟩
theorem norm_num (N : Int) (D : Nat) (h : D ≠ 0) : (Rat.normalize N D h).num = N / (Nat.gcd N.natAbs D : Nat) := by
  rw [Rat.normalize_eq]
theorem norm_den (N : Int) (D : Nat) (h : D ≠ 0) : (Rat.normalize N D h).den = D / Nat.gcd N.natAbs D := by
  rw [Rat.normalize_eq]
theorem low_norm (N : Int) (D : Nat) (h : D ≠ 0) : lowest N (D : Int) = ratR (Rat.normalize N D h) := by
  show rat (lowP N D) (lowQ N D) = rat _ _
  rw [norm_num, norm_den]
  unfold lowP lowQ
  rw [if_neg (by omega), if_neg (by omega), Int.natAbs_natCast]
  rfl
theorem sz_norm {n : Nat} (N : Int) (D : Nat) (h : D ≠ 0) (h1 : N.natAbs < 2 ^ n) (h2 : D < 2 ^ n) : Sz n (Rat.normalize N D h) := by
  constructor
  · rw [norm_num]
    refine Nat.lt_of_le_of_lt ?_ h1
    rw [Int.natAbs_ediv_of_dvd (Int.ofNat_dvd_left.mpr (Nat.gcd_dvd_left _ _))]
    exact Nat.div_le_self _ _
  · rw [norm_den]
    exact Nat.lt_of_le_of_lt (Nat.div_le_self _ _) h2
theorem mul_lt2 {a b n m : Nat} (h : a < 2 ^ n) (h' : b < 2 ^ m) : a * b < 2 ^ (n + m) := by
  rw [Nat.pow_add]
  exact Nat.mul_lt_mul'' h h'
theorem sz_add {n m : Nat} {x y : Rat} (h : Sz n x) (h' : Sz m y) : Sz (n + m + 1) (x + y) := by
  rw [Rat.add_def]
  have e : (2 : Nat) ^ (n + m + 1) = 2 ^ (n + m) + 2 ^ (n + m) := by
    rw [Nat.pow_succ]
    omega
  have h1 : (x.num * y.den).natAbs < 2 ^ (n + m) := by
    rw [Int.natAbs_mul, Int.natAbs_natCast]
    exact mul_lt2 h.1 h'.2
  have h2 : (y.num * x.den).natAbs < 2 ^ (n + m) := by
    rw [Int.natAbs_mul, Int.natAbs_natCast, Nat.mul_comm]
    exact mul_lt2 h.2 h'.1
  refine sz_norm _ _ _ ?_ ?_
  · have := Int.natAbs_add_le (x.num * y.den) (y.num * x.den)
    omega
  · have := mul_lt2 h.2 h'.2
    omega
theorem sz_mul {n m : Nat} {x y : Rat} (h : Sz n x) (h' : Sz m y) : Sz (n + m) (x * y) := by
  rw [Rat.mul_def]
  refine sz_norm _ _ _ ?_ ?_
  · rw [Int.natAbs_mul]
    exact mul_lt2 h.1 h'.1
  · exact mul_lt2 h.2 h'.2
theorem rat_of {r : Rat} {C D : Int} (h : r.num = C) (h' : (r.den : Int) = D) : ratR r = rat C D := by
  show rat r.num (r.den : Int) = _
  rw [h, h']
theorem joined1 {x y : Rat} (g : Nat.gcd x.den y.den = 1) : ratR (x + y) = rat (x.num * y.den + y.num * x.den) ((x.den : Int) * y.den) := by
  have e : x + y = Rat.add x y := rfl
  rw [e]
  unfold Rat.add
  simp only [g, dite_true]
  rfl
theorem joined2 {x y : Rat} (g : Nat.gcd x.den y.den ≠ 1) : ratR (x + y) =
    rat ((x.num * ((y.den / Nat.gcd x.den y.den : Nat) : Int) + y.num * ((x.den / Nat.gcd x.den y.den : Nat) : Int)) / (Nat.gcd (x.num * ((y.den / Nat.gcd x.den y.den : Nat) : Int) + y.num * ((x.den / Nat.gcd x.den y.den : Nat) : Int)).natAbs (Nat.gcd x.den y.den) : Nat))
      (((x.den / Nat.gcd x.den y.den : Nat) : Int) * ((y.den / Nat.gcd (x.num * ((y.den / Nat.gcd x.den y.den : Nat) : Int) + y.num * ((x.den / Nat.gcd x.den y.den : Nat) : Int)).natAbs (Nat.gcd x.den y.den) : Nat) : Int)) := by
  have e : x + y = Rat.add x y := rfl
  rw [e]
  unfold Rat.add
  simp only [g, dite_false, Rat.maybeNormalize_eq]
  refine rat_of ?_ ?_
  · show Int.divExact _ _ (Int.ofNat_dvd_left.mpr (Nat.gcd_dvd_left _ _)) = _
    rw [Int.divExact_eq_tdiv, Int.tdiv_eq_ediv_of_dvd (Int.ofNat_dvd_left.mpr (Nat.gcd_dvd_left _ _))]
  · have hd : Nat.gcd (x.num * ((y.den / Nat.gcd x.den y.den : Nat) : Int) + y.num * ((x.den / Nat.gcd x.den y.den : Nat) : Int)).natAbs (Nat.gcd x.den y.den) ∣ y.den := Nat.dvd_trans (Nat.gcd_dvd_right _ _) (Nat.gcd_dvd_right _ _)
    rw [← Int.natCast_mul, ← Nat.mul_div_assoc _ hd]
theorem timesR {x y : Rat} : ratR (x * y) = rat ((x.num / (Nat.gcd x.num.natAbs y.den : Nat)) * (y.num / (Nat.gcd y.num.natAbs x.den : Nat))) (((x.den / Nat.gcd y.num.natAbs x.den : Nat) : Int) * ((y.den / Nat.gcd x.num.natAbs y.den : Nat) : Int)) := by
  have e : x * y = Rat.mul x y := rfl
  rw [e]
  unfold Rat.mul
  refine rat_of ?_ ?_
  · show Int.divExact _ _ (Int.ofNat_dvd_left.mpr (Nat.gcd_dvd_left _ _)) * Int.divExact _ _ (Int.ofNat_dvd_left.mpr (Nat.gcd_dvd_left _ _)) = _
    rw [Int.divExact_eq_tdiv, Int.divExact_eq_tdiv, Int.tdiv_eq_ediv_of_dvd (Int.ofNat_dvd_left.mpr (Nat.gcd_dvd_left _ _)), Int.tdiv_eq_ediv_of_dvd (Int.ofNat_dvd_left.mpr (Nat.gcd_dvd_left _ _))]
  · show ((Nat.divExact _ _ (Nat.gcd_dvd_right _ _) * Nat.divExact _ _ (Nat.gcd_dvd_right _ _) : Nat) : Int) = _
    rw [Int.natCast_mul]
    rfl
theorem rat_ext {x y : Rat} (h : ratR x = ratR y) : x = y := by
  injection h with h
  injection h with h1 h
  injection h with h2 _
  injection h1 with h1
  injection h2 with h2
  exact Rat.ext h1 (by omega)
end Dat
namespace Dat
open PySem L2 Evl
def isIntD : PyData → Bool
  | .int _ => true
  | .bool _ => true
  | _ => false
def isBoolD : PyData → Bool
  | .bool _ => true
  | _ => false
def isTupD : PyData → Bool
  | .tuple _ => true
  | _ => false
theorem kit_int (d : PyData) : kitB (kind d) "int" = some (isIntD d) := by cases d <;> rfl
theorem kit_bool (d : PyData) : kitB (kind d) "bool" = some (isBoolD d) := by cases d <;> rfl
theorem kit_tuple (d : PyData) : kitB (kind d) "tuple" = some (isTupD d) := by cases d <;> rfl
abbrev FunV (K : PySem.W.Frag) (x : Str) (st : Stmt) (dvs : List V) (f : Addr) (fd : FuncData) : Prop := FunD K x x (defArgs st) (defBody st) (defScope st) dvs [] f fd
/-- a limit: none, or a whole number -/
def Lim (d : PyData) : Prop := d = .none ∨ ∃ i, d = .int i
def above : PyData → Int → Bool
  | .int l, n => decide (l ≤ n)
  | _, _ => true
def below : PyData → Int → Bool
  | .int h, n => decide (n ≤ h)
  | _, _ => true
def wholeIn : PyData → PyData → PyData → Bool
  | .int n, lo, hi => above lo n && below hi n
  | _, _, _ => false
def fWhole (ds : List PyData) (d : PyData) : Prop := ∃ t lo hi, ds = [t, lo, hi] ∧ Lim lo ∧ Lim hi ∧ d = .bool (wholeIn t lo hi)
def leD : PyData → PyData → Bool
  | .int l, .int n => decide (l ≤ n)
  | _, _ => true
section
variable {K : PySem.W.Frag} {te tb : TE} {σ : L2.St} {H : Hp} {t lo hi : PyData}
theorem whole_int (c : (!isIntD t || isBoolD t) = false) : ∃ n, t = .int n := by
  cases t <;> first | exact ⟨_, rfl⟩ | cases c
theorem le_lo (l : Lim lo) (c0 : isNone lo = false) (c : (!isIntD t || isBoolD t) = false) (h : EvD K te σ H lo) (r : EvD K tb σ H t) : EvD K (tOp (rI0 fun i j => .bl (decide (i ≤ j))) te tb) σ H (.bool (leD lo t)) := by
  obtain ⟨n, rfl⟩ := whole_int c
  rcases l with rfl | ⟨i, rfl⟩
  · cases c0
  · exact d_le h r
theorem le_hi (l : Lim hi) (c0 : isNone hi = false) (c : (!isIntD t || isBoolD t) = false) (h : EvD K te σ H t) (r : EvD K tb σ H hi) : EvD K (tOp (rI0 fun i j => .bl (decide (i ≤ j))) te tb) σ H (.bool (leD t hi)) := by
  obtain ⟨n, rfl⟩ := whole_int c
  rcases l with rfl | ⟨i, rfl⟩
  · cases c0
  · exact d_le h r
theorem whole_no (c : (!isIntD t || isBoolD t) = true) : wholeIn t lo hi = false := by
  cases t <;> first | rfl | cases c
theorem whole_yes (l1 : Lim lo) (l2 : Lim hi) (c : (!isIntD t || isBoolD t) = false) : ((isNone lo || leD lo t) && (isNone hi || leD t hi)) = wholeIn t lo hi := by
  obtain ⟨n, rfl⟩ := whole_int c
  rcases l1 with rfl | ⟨i, rfl⟩ <;> rcases l2 with rfl | ⟨j, rfl⟩ <;> rfl
end
end Dat
namespace Dat
open PySem L2 Evl
def fJoined (ds : List PyData) (d : PyData) : Prop := ∃ x y : Rat, ds = [ratR x, .int y.num, .int (y.den : Int)] ∧ Sz B x ∧ Sz B y ∧ d = ratR (x + y)
def fPlusR (ds : List PyData) (d : PyData) : Prop := ∃ x y : Rat, ds = [ratR x, ratR y] ∧ Sz B x ∧ Sz B y ∧ d = ratR (x + y)
def fTimesR (ds : List PyData) (d : PyData) : Prop := ∃ x y : Rat, ds = [ratR x, ratR y] ∧ Sz B x ∧ Sz B y ∧ d = ratR (x * y)
theorem nz {g : Nat} (h : 0 < g) : ((g : Nat) : Int) ≠ 0 := by omega
theorem fdiv_nat (a g : Nat) : PyData.int ((a : Int).fdiv (g : Int)) = .int ((a / g : Nat) : Int) := by
  rw [Int.fdiv_eq_ediv_of_nonneg _ (by omega)]
  rfl
theorem fdiv_int (a : Int) (g : Nat) : PyData.int (a.fdiv (g : Int)) = .int (a / (g : Int)) := by
  rw [Int.fdiv_eq_ediv_of_nonneg _ (by omega)]
theorem nat_of {a : Nat} (c : decide ((a : Int) = 1) = true) : a = 1 := by
  have := of_decide_eq_true c
  omega
theorem nat_ne {a : Nat} (c : decide ((a : Int) = 1) = false) : a ≠ 1 := by
  have := of_decide_eq_false c
  omega
theorem div_lt {x : Int} {g n : Nat} (h : g ∣ x.natAbs) (h' : x.natAbs < 2 ^ n) : (x / (g : Int)).natAbs < 2 ^ n := by
  rw [Int.natAbs_ediv_of_dvd (Int.ofNat_dvd_left.mpr h)]
  exact Nat.lt_of_le_of_lt (Nat.div_le_self _ _) h'
theorem den_mul (x y : Rat) : (x.den : Int) * (y.den : Int) ≠ 0 := Int.mul_ne_zero (by have := x.den_pos; omega) (by have := y.den_pos; omega)
theorem low_add (x y : Rat) : ratR (x + y) = lowest (x.num * y.den + y.num * x.den) ((x.den : Int) * y.den) := by
  rw [Rat.add_def, ← low_norm, Int.natCast_mul]
theorem low_mul (x y : Rat) : ratR (x * y) = lowest (x.num * y.num) ((x.den : Int) * y.den) := by
  rw [Rat.mul_def, ← low_norm, Int.natCast_mul]
end Dat
namespace K21
open PySem L2 Evl Dat
def topS (i : Nat) : Stmt := PySem.Challenge.pw_farheld_k21_forms_valued_and_made.main.body.getD i (.Pass ⟨0, 0, 0, 0⟩)
section
variable {P : Program} {w : World} {K : PySem.W.Frag} {mg : Str → Option Value} {base : Heap}
abbrev s_is_whole : Stmt := topS 3
abbrev N_is_whole : List Str := ["thing", "low", "high"]
theorem sc_is_whole : FnScope N_is_whole ["thing", "low", "high"] (defScope s_is_whole) := ⟨rfl, rfl, rfl, by decide +kernel, rfl, by decide +kernel, by decide +kernel⟩
theorem ok_is_whole {f : Addr} {fd : FuncData} (F : FunV K "is_whole" s_is_whole [.non, .non] f fd) (T : Bl mg)  : FnOk P w K mg base CX0 1 f fd ["thing", "low", "high"] (spD K 3 fWhole) := by
  refine F.ok sc_is_whole (fun vs H Q E h => ?_) (fun cdv A outer s H vs Q E hr h => ?_)
  · obtain ⟨ds, d, hl, hd, _⟩ := h
    exact (dps_len hd).trans hl
  · obtain ⟨ds, d, hl, hd, hf, k⟩ := h
    obtain ⟨t, lo, hi, rfl, l1, l2, rfl⟩ := hf
    obtain ⟨v_thing, vs, rfl, h_thing, hd⟩ := dps_cons hd
    obtain ⟨v_low, vs, rfl, h_low, hd⟩ := dps_cons hd
    obtain ⟨v_high, vs, rfl, h_high, hd⟩ := dps_cons hd
    obtain rfl := dps_nil hd
    have ex : Ex H H := Ex.refl H
    refine ⟨_, (pss_cons (ps_if (PW.pt (pw_or (pt_not (pt_val (pe_callB call_isi (by rfl) T.b_isinstance (by decide +kernel) (pa_cons (pv 0) (pa_cons (pe_bltn (v := .ty "int") (by rfl) T.b_int (by decide +kernel) rfl) pa_nil))))) (pw_or1 (pt_val (pe_callB call_isi (by rfl) T.b_isinstance (by decide +kernel) (pa_cons (pv 0) (pa_cons (pe_bltn (v := .ty "bool") (by rfl) T.b_bool (by decide +kernel) rfl) pa_nil))))))) (pss_one (ps_ret pe_bl)) pss_nil)
    (pss_one (ps_ret (pe_and (pe_or (pe_cmpR op_isN (pv 1) pe_non (nomark _)) (pe_one (pe_cmpR op_le (pv 1) (pv 0) (nomark _)))) (pe_one (pe_or (pe_cmpR op_isN (pv 2) pe_non (nomark _)) (pe_one (pe_cmpR op_le (pv 0) (pv 2) (nomark _))))))))), ?_⟩
    refine z_if (σ := [some (v_thing), some (v_low), some (v_high)]) (b_or (b_not (b_val (d_isi (d_var ⟨_, rfl, h_thing⟩) (kit_int _)))) (fun c_0 => (b_val (d_isi (d_var ⟨_, rfl, h_thing⟩) (kit_bool _))))) (fun c4 H1 e => ?_) (fun c4 H1 e => ?_)
    · replace h_thing := dp_grow e _ _ h_thing
      replace h_low := dp_grow e _ _ h_low
      replace h_high := dp_grow e _ _ h_high
      replace ex := ex.trans e
      refine z_ret (K := K) (σ := [some (v_thing), some (v_low), some (v_high)]) d_bl fun v H1 e h => ?_
      replace ex := ex.trans e
      exact k v _ ex (by first | (rw [whole_no (by assumption)]; exact h) | (rw [← whole_yes l1 l2 (by assumption)]; exact h))
    · replace h_thing := dp_grow e _ _ h_thing
      replace h_low := dp_grow e _ _ h_low
      replace h_high := dp_grow e _ _ h_high
      replace ex := ex.trans e
      refine z_next ?_
      refine z_ret (K := K) (σ := [some (v_thing), some (v_low), some (v_high)]) (d_and (d_or (d_isN (d_var ⟨_, rfl, h_low⟩)) (fun c_0 => (le_lo l1 (by assumption) (by assumption) (d_var ⟨_, rfl, h_low⟩) (d_var ⟨_, rfl, h_thing⟩)))) (fun c_0 => (d_or (d_isN (d_var ⟨_, rfl, h_high⟩)) (fun c_0 => (le_hi l2 (by assumption) (by assumption) (d_var ⟨_, rfl, h_thing⟩) (d_var ⟨_, rfl, h_high⟩)))))) fun v H1 e h => ?_
      replace ex := ex.trans e
      exact k v _ ex (by first | (rw [whole_no (by assumption)]; exact h) | (rw [← whole_yes l1 l2 (by assumption)]; exact h))

end
end K21
namespace K21
open PySem L2 Evl Dat
section
variable {P : Program} {w : World} {K : PySem.W.Frag} {mg : Str → Option Value} {base : Heap}
abbrev s_joined : Stmt := topS 6
abbrev N_joined : List Str := ["one", "top", "bottom", "shared", "part", "total", "rest"]
theorem sc_joined : FnScope N_joined ["one", "top", "bottom"] (defScope s_joined) := ⟨rfl, rfl, rfl, by decide +kernel, rfl, by decide +kernel, by decide +kernel⟩
theorem ok_joined {f : Addr} {fd : FuncData} (F : Fun K "_joined" "_joined" s_joined f fd) (T : Bl mg)  : FnOk P w K mg base CX0 1 f fd ["one", "top", "bottom"] (spD K 3 fJoined) := by
  refine F.ok sc_joined (fun vs H Q E h => ?_) (fun cdv A outer s H vs Q E hr h => ?_)
  · obtain ⟨ds, d, hl, hd, _⟩ := h
    exact (dps_len hd).trans hl
  · obtain ⟨ds, d, hl, hd, hf, k⟩ := h
    obtain ⟨x, y, rfl, ⟨bxn, bxd⟩, ⟨byn, byd⟩, rfl⟩ := hf
    replace bxd : (x.den : Int).natAbs < 2 ^ B := bxd
    replace byd : (y.den : Int).natAbs < 2 ^ B := byd
    have g0 : 0 < Nat.gcd x.den y.den := Nat.gcd_pos_of_pos_left _ x.den_pos
    have gb : (((Nat.gcd x.den y.den : Nat) : Int)).natAbs < 2 ^ B := Nat.lt_of_le_of_lt (Nat.gcd_le_left _ x.den_pos) bxd
    have bpx : (((x.den / Nat.gcd x.den y.den : Nat) : Int)).natAbs < 2 ^ B := Nat.lt_of_le_of_lt (Nat.div_le_self _ _) bxd
    have bpy : (((y.den / Nat.gcd x.den y.den : Nat) : Int)).natAbs < 2 ^ B := Nat.lt_of_le_of_lt (Nat.div_le_self _ _) byd
    have r0 : ∀ t : Int, 0 < Nat.gcd t.natAbs (Nat.gcd x.den y.den) := fun t => Nat.gcd_pos_of_pos_right _ g0
    have rb : ∀ t : Int, (((Nat.gcd t.natAbs (Nat.gcd x.den y.den) : Nat) : Int)).natAbs < 2 ^ B := fun t => Nat.lt_of_le_of_lt (Nat.gcd_le_right _ g0) gb
    have bpr : ∀ t : Int, (((y.den / Nat.gcd t.natAbs (Nat.gcd x.den y.den) : Nat) : Int)).natAbs < 2 ^ B := fun t => Nat.lt_of_le_of_lt (Nat.div_le_self _ _) byd
    obtain ⟨v_one, vs, rfl, h_one, hd⟩ := dps_cons hd
    obtain ⟨v_top, vs, rfl, h_top, hd⟩ := dps_cons hd
    obtain ⟨v_bottom, vs, rfl, h_bottom, hd⟩ := dps_cons hd
    obtain rfl := dps_nil hd
    have ex : Ex H H := Ex.refl H
    refine ⟨_, (pss_cons (ps_set (i := 3) sc_joined.nd rfl (Or.inl rfl) (pe_callBfun cr_gcd (by rfl) T.g_gcd (pa_cons (pe_ix (r := rIxT K) ix_tup (pv 0) pe_int (fun _ _ => rfl)) (pa_cons (pv 2) pa_nil))))
    (pss_cons (ps_if (pt_cmpR op_eq (pv 3) pe_int (nomark _)) (pss_one (ps_ret (pe_tup (pa_cons (pe_op op_add (pe_op op_mulW (pe_ix (r := rIxT K) ix_tup (pv 0) pe_int (fun _ _ => rfl)) (pv 2)) (pe_op op_mulW (pv 1) (pe_ix (r := rIxT K) ix_tup (pv 0) pe_int (fun _ _ => rfl)))) (pa_cons (pe_op op_mulW (pe_ix (r := rIxT K) ix_tup (pv 0) pe_int (fun _ _ => rfl)) (pv 2)) pa_nil))))) pss_nil)
    (pss_cons (ps_set (i := 4) sc_joined.nd rfl (Or.inl rfl) (pe_op op_fdivA (pe_ix (r := rIxT K) ix_tup (pv 0) pe_int (fun _ _ => rfl)) (pv 3)))
    (pss_cons (ps_set (i := 5) sc_joined.nd rfl (Or.inl rfl) (pe_op op_add (pe_op op_mulW (pe_ix (r := rIxT K) ix_tup (pv 0) pe_int (fun _ _ => rfl)) (pe_op op_fdivA (pv 2) (pv 3))) (pe_op op_mulW (pv 1) (pv 4))))
    (pss_cons (ps_set (i := 6) sc_joined.nd rfl (Or.inl rfl) (pe_callBfun cr_gcd (by rfl) T.g_gcd (pa_cons (pv 5) (pa_cons (pv 3) pa_nil))))
    (pss_one (ps_ret (pe_tup (pa_cons (pe_op op_fdivA (pv 5) (pv 6)) (pa_cons (pe_op op_mulW (pv 4) (pe_op op_fdivA (pv 2) (pv 6))) pa_nil)))))))))), ?_⟩
    refine z_set (K := K) (σ := [some (v_one), some (v_top), some (v_bottom), none, none, none, none]) (d_gcd (d_ixT (d_var ⟨_, rfl, h_one⟩) d_int rfl) (d_var ⟨_, rfl, h_bottom⟩)) fun v_shared1 H1 e h' => ?_
    replace h_one := dp_grow e _ _ h_one
    replace h_top := dp_grow e _ _ h_top
    replace h_bottom := dp_grow e _ _ h_bottom
    replace ex := ex.trans e
    have h_shared := h'
    clear h'
    refine z_if (σ := [some (v_one), some (v_top), some (v_bottom), some v_shared1, none, none, none]) (b_test (d_eqI (d_var ⟨_, rfl, h_shared⟩) d_int)) (fun c4 H1 e => ?_) (fun c4 H1 e => ?_)
    · replace h_one := dp_grow e _ _ h_one
      replace h_top := dp_grow e _ _ h_top
      replace h_bottom := dp_grow e _ _ h_bottom
      replace h_shared := dp_grow e _ _ h_shared
      replace ex := ex.trans e
      refine z_ret (K := K) (σ := [some (v_one), some (v_top), some (v_bottom), some v_shared1, none, none, none]) (d_tup (ds_cons (d_add (d_mul (d_ixT (d_var ⟨_, rfl, h_one⟩) d_int rfl) (d_var ⟨_, rfl, h_bottom⟩) (wide_mul (by assumption) (by assumption) (by decide) (by decide) (by decide))) (d_mul (d_var ⟨_, rfl, h_top⟩) (d_ixT (d_var ⟨_, rfl, h_one⟩) d_int rfl) (wide_mul (by assumption) (by assumption) (by decide) (by decide) (by decide)))) (ds_cons (d_mul (d_ixT (d_var ⟨_, rfl, h_one⟩) d_int rfl) (d_var ⟨_, rfl, h_bottom⟩) (wide_mul (by assumption) (by assumption) (by decide) (by decide) (by decide))) ds_nil)) (by show 2 ≤ 1000; decide)) fun v H1 e h => ?_
      replace ex := ex.trans e
      have h' : Dp K H1 v (ratR (x + y)) := by first | (rw [joined1 (nat_of c4)]; exact h) | (rw [joined2 (nat_ne c4)]; exact h)
      exact k v _ ex h'
    · replace h_one := dp_grow e _ _ h_one
      replace h_top := dp_grow e _ _ h_top
      replace h_bottom := dp_grow e _ _ h_bottom
      replace h_shared := dp_grow e _ _ h_shared
      replace ex := ex.trans e
      refine z_next ?_
      refine z_set (K := K) (σ := [some (v_one), some (v_top), some (v_bottom), some v_shared1, none, none, none]) (d_is (d_fdiv (d_ixT (d_var ⟨_, rfl, h_one⟩) d_int rfl) (d_var ⟨_, rfl, h_shared⟩) (div_ok (n := B) (nz g0) gb (by decide) (by decide))) (fdiv_nat _ _)) fun v_part2 H1 e h' => ?_
      replace h_one := dp_grow e _ _ h_one
      replace h_top := dp_grow e _ _ h_top
      replace h_bottom := dp_grow e _ _ h_bottom
      replace h_shared := dp_grow e _ _ h_shared
      replace ex := ex.trans e
      have h_part := h'
      clear h'
      refine z_set (K := K) (σ := [some (v_one), some (v_top), some (v_bottom), some v_shared1, some v_part2, none, none]) (d_add (d_mul (d_ixT (d_var ⟨_, rfl, h_one⟩) d_int rfl) (d_is (d_fdiv (d_var ⟨_, rfl, h_bottom⟩) (d_var ⟨_, rfl, h_shared⟩) (div_ok (n := B) (nz g0) gb (by decide) (by decide))) (fdiv_nat _ _)) (wide_mul (by assumption) (by assumption) (by decide) (by decide) (by decide))) (d_mul (d_var ⟨_, rfl, h_top⟩) (d_var ⟨_, rfl, h_part⟩) (wide_mul (by assumption) (by assumption) (by decide) (by decide) (by decide)))) fun v_total3 H1 e h' => ?_
      replace h_one := dp_grow e _ _ h_one
      replace h_top := dp_grow e _ _ h_top
      replace h_bottom := dp_grow e _ _ h_bottom
      replace h_shared := dp_grow e _ _ h_shared
      replace h_part := dp_grow e _ _ h_part
      replace ex := ex.trans e
      have h_total := h'
      clear h'
      refine z_set (K := K) (σ := [some (v_one), some (v_top), some (v_bottom), some v_shared1, some v_part2, some v_total3, none]) (d_gcd (d_var ⟨_, rfl, h_total⟩) (d_var ⟨_, rfl, h_shared⟩)) fun v_rest4 H1 e h' => ?_
      replace h_one := dp_grow e _ _ h_one
      replace h_top := dp_grow e _ _ h_top
      replace h_bottom := dp_grow e _ _ h_bottom
      replace h_shared := dp_grow e _ _ h_shared
      replace h_part := dp_grow e _ _ h_part
      replace h_total := dp_grow e _ _ h_total
      replace ex := ex.trans e
      have h_rest := h'
      clear h'
      refine z_ret (K := K) (σ := [some (v_one), some (v_top), some (v_bottom), some v_shared1, some v_part2, some v_total3, some v_rest4]) (d_tup (ds_cons (d_is (d_fdiv (d_var ⟨_, rfl, h_total⟩) (d_var ⟨_, rfl, h_rest⟩) (div_ok (n := B) (nz (r0 _)) (rb _) (by decide) (by decide))) (fdiv_int _ _)) (ds_cons (d_mul (d_var ⟨_, rfl, h_part⟩) (d_is (d_fdiv (d_var ⟨_, rfl, h_bottom⟩) (d_var ⟨_, rfl, h_rest⟩) (div_ok (n := B) (nz (r0 _)) (rb _) (by decide) (by decide))) (fdiv_nat _ _)) (wide_mul (by assumption) (bpr _) (by decide) (by decide) (by decide))) ds_nil)) (by show 2 ≤ 1000; decide)) fun v H1 e h => ?_
      replace ex := ex.trans e
      have h' : Dp K H1 v (ratR (x + y)) := by first | (rw [joined1 (nat_of c4)]; exact h) | (rw [joined2 (nat_ne c4)]; exact h)
      exact k v _ ex h'

abbrev s_plus : Stmt := topS 5
abbrev N_plus : List Str := ["one", "other"]
theorem sc_plus : FnScope N_plus ["one", "other"] (defScope s_plus) := ⟨rfl, rfl, rfl, by decide +kernel, rfl, by decide +kernel, by decide +kernel⟩
theorem ok_plus {f : Addr} {fd : FuncData} (F : Fun K "plus" "plus" s_plus f fd) (T : Bl mg) (D_joined : Def P w K mg base CX0 1 "_joined" ["one", "top", "bottom"] (spD K 3 fJoined)) : FnOk P w K mg base CX0 2 f fd ["one", "other"] (spD K 2 fPlusR) := by
  refine F.ok sc_plus (fun vs H Q E h => ?_) (fun cdv A outer s H vs Q E hr h => ?_)
  · obtain ⟨ds, d, hl, hd, _⟩ := h
    exact (dps_len hd).trans hl
  · obtain ⟨ds, d, hl, hd, hf, k⟩ := h
    obtain ⟨x, y, rfl, ⟨bxn, bxd⟩, ⟨byn, byd⟩, rfl⟩ := hf
    replace bxd : (x.den : Int).natAbs < 2 ^ B := bxd
    replace byd : (y.den : Int).natAbs < 2 ^ B := byd
    obtain ⟨v_one, vs, rfl, h_one, hd⟩ := dps_cons hd
    obtain ⟨v_other, vs, rfl, h_other, hd⟩ := dps_cons hd
    obtain rfl := dps_nil hd
    have ex : Ex H H := Ex.refl H
    refine ⟨_, (pss_one (ps_ret (pe_dcall D_joined (hr.mono (by decide)) pass0 (pa_cons (pv 0) (pa_cons (pe_ix (r := rIxT K) ix_tup (pv 1) pe_int (fun _ _ => rfl)) (pa_cons (pe_ix (r := rIxT K) ix_tup (pv 1) pe_int (fun _ _ => rfl)) pa_nil)))))), ?_⟩
    refine z_ret (K := K) (σ := [some (v_one), some (v_other)]) (d_call (ds_cons (d_var ⟨_, rfl, h_one⟩) (ds_cons (d_ixT (d_var ⟨_, rfl, h_other⟩) d_int rfl) (ds_cons (d_ixT (d_var ⟨_, rfl, h_other⟩) d_int rfl) ds_nil))) rfl ⟨x, y, rfl, ⟨bxn, bxd⟩, ⟨byn, byd⟩, rfl⟩) fun v H1 e h => ?_
    replace ex := ex.trans e
    exact k v _ ex h

abbrev s_times : Stmt := topS 7
abbrev N_times : List Str := ["one", "other", "left", "right"]
theorem sc_times : FnScope N_times ["one", "other"] (defScope s_times) := ⟨rfl, rfl, rfl, by decide +kernel, rfl, by decide +kernel, by decide +kernel⟩
theorem ok_times {f : Addr} {fd : FuncData} (F : Fun K "times" "times" s_times f fd) (T : Bl mg)  : FnOk P w K mg base CX0 1 f fd ["one", "other"] (spD K 2 fTimesR) := by
  refine F.ok sc_times (fun vs H Q E h => ?_) (fun cdv A outer s H vs Q E hr h => ?_)
  · obtain ⟨ds, d, hl, hd, _⟩ := h
    exact (dps_len hd).trans hl
  · obtain ⟨ds, d, hl, hd, hf, k⟩ := h
    obtain ⟨x, y, rfl, ⟨bxn, bxd⟩, ⟨byn, byd⟩, rfl⟩ := hf
    replace bxd : (x.den : Int).natAbs < 2 ^ B := bxd
    replace byd : (y.den : Int).natAbs < 2 ^ B := byd
    have l0 : 0 < Nat.gcd x.num.natAbs y.den := Nat.gcd_pos_of_pos_right _ y.den_pos
    have q0 : 0 < Nat.gcd y.num.natAbs x.den := Nat.gcd_pos_of_pos_right _ x.den_pos
    have lb : (((Nat.gcd x.num.natAbs y.den : Nat) : Int)).natAbs < 2 ^ B := Nat.lt_of_le_of_lt (Nat.gcd_le_right _ y.den_pos) byd
    have qb : (((Nat.gcd y.num.natAbs x.den : Nat) : Int)).natAbs < 2 ^ B := Nat.lt_of_le_of_lt (Nat.gcd_le_right _ x.den_pos) bxd
    have b1 := div_lt (g := Nat.gcd x.num.natAbs y.den) (Nat.gcd_dvd_left _ _) bxn
    have b2 := div_lt (g := Nat.gcd y.num.natAbs x.den) (Nat.gcd_dvd_left _ _) byn
    have b3 : (((x.den / Nat.gcd y.num.natAbs x.den : Nat) : Int)).natAbs < 2 ^ B := Nat.lt_of_le_of_lt (Nat.div_le_self _ _) bxd
    have b4 : (((y.den / Nat.gcd x.num.natAbs y.den : Nat) : Int)).natAbs < 2 ^ B := Nat.lt_of_le_of_lt (Nat.div_le_self _ _) byd
    obtain ⟨v_one, vs, rfl, h_one, hd⟩ := dps_cons hd
    obtain ⟨v_other, vs, rfl, h_other, hd⟩ := dps_cons hd
    obtain rfl := dps_nil hd
    have ex : Ex H H := Ex.refl H
    refine ⟨_, (pss_cons (ps_set (i := 2) sc_times.nd rfl (Or.inl rfl) (pe_callBfun cr_gcd (by rfl) T.g_gcd (pa_cons (pe_ix (r := rIxT K) ix_tup (pv 0) pe_int (fun _ _ => rfl)) (pa_cons (pe_ix (r := rIxT K) ix_tup (pv 1) pe_int (fun _ _ => rfl)) pa_nil))))
    (pss_cons (ps_set (i := 3) sc_times.nd rfl (Or.inl rfl) (pe_callBfun cr_gcd (by rfl) T.g_gcd (pa_cons (pe_ix (r := rIxT K) ix_tup (pv 1) pe_int (fun _ _ => rfl)) (pa_cons (pe_ix (r := rIxT K) ix_tup (pv 0) pe_int (fun _ _ => rfl)) pa_nil))))
    (pss_one (ps_ret (pe_tup (pa_cons (pe_op op_mulW (pe_op op_fdivA (pe_ix (r := rIxT K) ix_tup (pv 0) pe_int (fun _ _ => rfl)) (pv 2)) (pe_op op_fdivA (pe_ix (r := rIxT K) ix_tup (pv 1) pe_int (fun _ _ => rfl)) (pv 3))) (pa_cons (pe_op op_mulW (pe_op op_fdivA (pe_ix (r := rIxT K) ix_tup (pv 0) pe_int (fun _ _ => rfl)) (pv 3)) (pe_op op_fdivA (pe_ix (r := rIxT K) ix_tup (pv 1) pe_int (fun _ _ => rfl)) (pv 2))) pa_nil))))))), ?_⟩
    refine z_set (K := K) (σ := [some (v_one), some (v_other), none, none]) (d_gcd (d_ixT (d_var ⟨_, rfl, h_one⟩) d_int rfl) (d_ixT (d_var ⟨_, rfl, h_other⟩) d_int rfl)) fun v_left5 H1 e h' => ?_
    replace h_one := dp_grow e _ _ h_one
    replace h_other := dp_grow e _ _ h_other
    replace ex := ex.trans e
    have h_left := h'
    clear h'
    refine z_set (K := K) (σ := [some (v_one), some (v_other), some v_left5, none]) (d_gcd (d_ixT (d_var ⟨_, rfl, h_other⟩) d_int rfl) (d_ixT (d_var ⟨_, rfl, h_one⟩) d_int rfl)) fun v_right6 H1 e h' => ?_
    replace h_one := dp_grow e _ _ h_one
    replace h_other := dp_grow e _ _ h_other
    replace h_left := dp_grow e _ _ h_left
    replace ex := ex.trans e
    have h_right := h'
    clear h'
    refine z_ret (K := K) (σ := [some (v_one), some (v_other), some v_left5, some v_right6]) (d_tup (ds_cons (d_mul (d_is (d_fdiv (d_ixT (d_var ⟨_, rfl, h_one⟩) d_int rfl) (d_var ⟨_, rfl, h_left⟩) (div_ok (n := B) (nz l0) lb (by decide) (by decide))) (fdiv_int _ _)) (d_is (d_fdiv (d_ixT (d_var ⟨_, rfl, h_other⟩) d_int rfl) (d_var ⟨_, rfl, h_right⟩) (div_ok (n := B) (nz q0) qb (by decide) (by decide))) (fdiv_int _ _)) (wide_mul (by assumption) (by assumption) (by decide) (by decide) (by decide))) (ds_cons (d_mul (d_is (d_fdiv (d_ixT (d_var ⟨_, rfl, h_one⟩) d_int rfl) (d_var ⟨_, rfl, h_right⟩) (div_ok (n := B) (nz q0) qb (by decide) (by decide))) (fdiv_nat _ _)) (d_is (d_fdiv (d_ixT (d_var ⟨_, rfl, h_other⟩) d_int rfl) (d_var ⟨_, rfl, h_left⟩) (div_ok (n := B) (nz l0) lb (by decide) (by decide))) (fdiv_nat _ _)) (wide_mul (by assumption) (by assumption) (by decide) (by decide) (by decide))) ds_nil)) (by show 2 ≤ 1000; decide)) fun v H1 e h => ?_
    replace ex := ex.trans e
    rw [timesR] at k
    exact k v _ ex h

abbrev s_L_plus : Stmt := topS 22
abbrev N_L_plus : List Str := ["a", "b"]
theorem sc_L_plus : FnScope N_L_plus ["a", "b"] (defScope s_L_plus) := ⟨rfl, rfl, rfl, by decide +kernel, rfl, by decide +kernel, by decide +kernel⟩
theorem ok_L_plus {f : Addr} {fd : FuncData} (F : Fun K "_law_plus" "_law_plus" s_L_plus f fd) (T : Bl mg) (D_law_ratio : Def P w K mg base CX0 1 "_law_ratio" ["top", "bottom"] (spD K 2 fLowest)) : FnOk P w K mg base CX0 2 f fd ["a", "b"] (spD K 2 fPlusR) := by
  refine F.ok sc_L_plus (fun vs H Q E h => ?_) (fun cdv A outer s H vs Q E hr h => ?_)
  · obtain ⟨ds, d, hl, hd, _⟩ := h
    exact (dps_len hd).trans hl
  · obtain ⟨ds, d, hl, hd, hf, k⟩ := h
    obtain ⟨x, y, rfl, ⟨bxn, bxd⟩, ⟨byn, byd⟩, rfl⟩ := hf
    replace bxd : (x.den : Int).natAbs < 2 ^ B := bxd
    replace byd : (y.den : Int).natAbs < 2 ^ B := byd
    obtain ⟨v_a, vs, rfl, h_a, hd⟩ := dps_cons hd
    obtain ⟨v_b, vs, rfl, h_b, hd⟩ := dps_cons hd
    obtain rfl := dps_nil hd
    have ex : Ex H H := Ex.refl H
    refine ⟨_, (pss_one (ps_ret (pe_dcall D_law_ratio (hr.mono (by decide)) pass0 (pa_cons (pe_op op_add (pe_op op_mulW (pe_ix (r := rIxT K) ix_tup (pv 0) pe_int (fun _ _ => rfl)) (pe_ix (r := rIxT K) ix_tup (pv 1) pe_int (fun _ _ => rfl))) (pe_op op_mulW (pe_ix (r := rIxT K) ix_tup (pv 1) pe_int (fun _ _ => rfl)) (pe_ix (r := rIxT K) ix_tup (pv 0) pe_int (fun _ _ => rfl)))) (pa_cons (pe_op op_mulW (pe_ix (r := rIxT K) ix_tup (pv 0) pe_int (fun _ _ => rfl)) (pe_ix (r := rIxT K) ix_tup (pv 1) pe_int (fun _ _ => rfl))) pa_nil))))), ?_⟩
    refine z_ret (K := K) (σ := [some (v_a), some (v_b)]) (d_call (ds_cons (d_add (d_mul (d_ixT (d_var ⟨_, rfl, h_a⟩) d_int rfl) (d_ixT (d_var ⟨_, rfl, h_b⟩) d_int rfl) (wide_mul (by assumption) (by assumption) (by decide) (by decide) (by decide))) (d_mul (d_ixT (d_var ⟨_, rfl, h_b⟩) d_int rfl) (d_ixT (d_var ⟨_, rfl, h_a⟩) d_int rfl) (wide_mul (by assumption) (by assumption) (by decide) (by decide) (by decide)))) (ds_cons (d_mul (d_ixT (d_var ⟨_, rfl, h_a⟩) d_int rfl) (d_ixT (d_var ⟨_, rfl, h_b⟩) d_int rfl) (wide_mul (by assumption) (by assumption) (by decide) (by decide) (by decide))) ds_nil)) rfl ⟨_, _, rfl, den_mul x y, small_mul bxd byd, low_add x y⟩) fun v H1 e h => ?_
    replace ex := ex.trans e
    exact k v _ ex h

abbrev s_L_times : Stmt := topS 23
abbrev N_L_times : List Str := ["a", "b"]
theorem sc_L_times : FnScope N_L_times ["a", "b"] (defScope s_L_times) := ⟨rfl, rfl, rfl, by decide +kernel, rfl, by decide +kernel, by decide +kernel⟩
theorem ok_L_times {f : Addr} {fd : FuncData} (F : Fun K "_law_times" "_law_times" s_L_times f fd) (T : Bl mg) (D_law_ratio : Def P w K mg base CX0 1 "_law_ratio" ["top", "bottom"] (spD K 2 fLowest)) : FnOk P w K mg base CX0 2 f fd ["a", "b"] (spD K 2 fTimesR) := by
  refine F.ok sc_L_times (fun vs H Q E h => ?_) (fun cdv A outer s H vs Q E hr h => ?_)
  · obtain ⟨ds, d, hl, hd, _⟩ := h
    exact (dps_len hd).trans hl
  · obtain ⟨ds, d, hl, hd, hf, k⟩ := h
    obtain ⟨x, y, rfl, ⟨bxn, bxd⟩, ⟨byn, byd⟩, rfl⟩ := hf
    replace bxd : (x.den : Int).natAbs < 2 ^ B := bxd
    replace byd : (y.den : Int).natAbs < 2 ^ B := byd
    obtain ⟨v_a, vs, rfl, h_a, hd⟩ := dps_cons hd
    obtain ⟨v_b, vs, rfl, h_b, hd⟩ := dps_cons hd
    obtain rfl := dps_nil hd
    have ex : Ex H H := Ex.refl H
    refine ⟨_, (pss_one (ps_ret (pe_dcall D_law_ratio (hr.mono (by decide)) pass0 (pa_cons (pe_op op_mulW (pe_ix (r := rIxT K) ix_tup (pv 0) pe_int (fun _ _ => rfl)) (pe_ix (r := rIxT K) ix_tup (pv 1) pe_int (fun _ _ => rfl))) (pa_cons (pe_op op_mulW (pe_ix (r := rIxT K) ix_tup (pv 0) pe_int (fun _ _ => rfl)) (pe_ix (r := rIxT K) ix_tup (pv 1) pe_int (fun _ _ => rfl))) pa_nil))))), ?_⟩
    refine z_ret (K := K) (σ := [some (v_a), some (v_b)]) (d_call (ds_cons (d_mul (d_ixT (d_var ⟨_, rfl, h_a⟩) d_int rfl) (d_ixT (d_var ⟨_, rfl, h_b⟩) d_int rfl) (wide_mul (by assumption) (by assumption) (by decide) (by decide) (by decide))) (ds_cons (d_mul (d_ixT (d_var ⟨_, rfl, h_a⟩) d_int rfl) (d_ixT (d_var ⟨_, rfl, h_b⟩) d_int rfl) (wide_mul (by assumption) (by assumption) (by decide) (by decide) (by decide))) ds_nil)) rfl ⟨_, _, rfl, den_mul x y, small_mul bxd byd, low_mul x y⟩) fun v H1 e h => ?_
    replace ex := ex.trans e
    exact k v _ ex h

end
end K21
namespace Dat
open PySem L2 Evl
structure DefV (P : Program) (w : World) (K : PySem.W.Frag) (mg : Str → Option Value) (base : Heap) (CX : CXT) (k : Nat) (x : Str) (ps : List Str) (dvs : List V) (sp : Sp) : Prop where
  ex : ∃ (f : Addr) (fd : FuncData) (ds : List Value), FnOk P w K mg base CX k f fd ps sp ∧ mg x = some (.ref f) ∧ PySem.W.keepIn K (.ref f) = true ∧ Binds K fd ps ds ∧ Vals dvs ds
section
variable {X : Cx} {CX : CXT} {k : Nat} {ps : List Str} {sp : Sp} {E : XK} {x : Str} {p pos : Pos} {e : Expr} {es : List Expr} {t : TA} {dvs : List V}
theorem pe_dcallV (D : DefV X.prog X.w X.K X.mg X.base CX k x ps dvs sp) (hr : Room k X.A) (hx : Passes CX X E) (ha : PA X (e :: es) t) (hg : Gl X x := by rfl)
    (hdb : (x == ("__debug__" : Str)) = false := by decide) (he : starEach (e :: es) X.env = (false, eval e X.env) :: starEach es X.env := by rfl) (hpl : (backTo pos (starEach es X.env)).any (·.1) = false := by rfl) :
    PE X (.Call (.Name x p) (e :: es) [] pos) (tCall sp dvs E t) := by
  obtain ⟨f, fd, ds, F, hm, hk, hb, hv⟩ := D.ex
  exact pe_call F hr hg hm hk hb hv hx ha hdb he hpl
end
/-- x, y = a tuple of two -/
theorem z_two {K : PySem.W.Frag} {te : TE} {σ : L2.St} {H : Hp} {D : Ends} {ts : TS} {i j : Nat} {a b : PyData} {n : Nat} (h : EvD K te σ H (.tuple [a, b])) (k : ∀ x y H1, Ex H H1 → Dp K H1 x a → Dp K H1 y b → ts D ((σ.set i (some x)).set j (some y)) H1) (hn : n = 2 := by rfl) : tSeq (tAsg te (gTup K n (gCons (gName i) (gCons (gName j) gNil)))) ts D σ H := h H (Ex.refl H) _ fun v H1 e hv => g_two hv hn fun x y hx hy => k x y H1 e hx hy
theorem d_callV {K : PySem.W.Frag} {ta : TA} {σ : L2.St} {H : Hp} {ds es : List PyData} {d : PyData} {n : Nat} {f : List PyData → PyData → Prop} {E : XK} {dvs : List V} (h : EvDs K ta σ H ds) (hv : ∀ H, DpAll K H dvs es) (hl : (ds ++ es).length = n) (hf : f (ds ++ es) d) : EvD K (tCall (spD K n f) dvs E ta) σ H d := fun H1 x Q k =>
  h H1 x _ fun vs H2 x2 hvs => ⟨ds ++ es, d, hl, dps_app hvs (hv H2), hf, fun v H' x' hv => k v H' (x2.trans x') hv⟩
section
variable {P : Program} {w : World} {K : PySem.W.Frag} {mg : Str → Option Value} {base : Heap} {x : Str} {st : Stmt} {dvs : List V} {f : Addr} {fd : FuncData} {k : Nat} {ps : List Str} {sp : Sp} {CX : CXT}
theorem defV (F : FunV K x st dvs f fd) (ok : FnOk P w K mg base CX k f fd ps sp) (hm : mg x = some (.ref f)) (n j : Nat) (hd : dvs ≠ []) (hn : n + (dvs.length - j) = ps.length)
    (h : ∀ (T : Addr) (kV doc pm : Value) (an : Option Addr) (cdv ct : Value) (us its : List Value), us.length = n → its.length = dvs.length →
      ∃ k, bindArgs (PySem.W.fnOf x x (defArgs st) (defBody st) (defScope st) (.ref T) kV doc pm an cdv ct) ⟨us, []⟩ = seqItems? (.ref T) >>= k ∧ k (some its.toArray) = pure (ps.zip (us ++ its.drop j))) : DefV P w K mg base CX k x ps (dvs.drop j) sp := by
  obtain ⟨ds, hv, hb⟩ := F.binds1 n j hd hn h
  exact ⟨f, fd, ds, ok, hm, F.kp, hb, hv⟩
end
end Dat
namespace K21
open PySem L2 Evl Dat
section
variable {P : Program} {w : World} {K : PySem.W.Frag} {mg : Str → Option Value} {base : Heap}
abbrev psW : List Str := ["thing", "low", "high"]
abbrev DW (P : Program) (w : World) (K : PySem.W.Frag) (mg : Str → Option Value) (base : Heap) (dvs : List V) : Prop := DefV P w K mg base CX0 1 "is_whole" psW dvs (spD K 3 fWhole)
theorem dw1 {f : Addr} {fd : FuncData} (F : FunV K "is_whole" s_is_whole [.non, .non] f fd) (T : Bl mg) (hm : mg "is_whole" = some (.ref f)) : DW P w K mg base [.non, .non] :=
  defV F (ok_is_whole F T) hm 1 0 (by decide) rfl fun _ _ _ _ _ _ _ us its hl hi => match us, its, hl, hi with | [_], [_, _], _, _ => ⟨_, rfl, rfl⟩
theorem dw2 {f : Addr} {fd : FuncData} (F : FunV K "is_whole" s_is_whole [.non, .non] f fd) (T : Bl mg) (hm : mg "is_whole" = some (.ref f)) : DW P w K mg base [.non] :=
  defV F (ok_is_whole F T) hm 2 1 (by decide) rfl fun _ _ _ _ _ _ _ us its hl hi => match us, its, hl, hi with | [_, _], [_, _], _, _ => ⟨_, rfl, rfl⟩
theorem dw3 {f : Addr} {fd : FuncData} (F : FunV K "is_whole" s_is_whole [.non, .non] f fd) (T : Bl mg) (hm : mg "is_whole" = some (.ref f)) : DW P w K mg base [] :=
  defV F (ok_is_whole F T) hm 3 2 (by decide) rfl fun _ _ _ _ _ _ _ us its hl hi => match us, its, hl, hi with | [_, _, _], [_, _], _, _ => ⟨_, rfl, rfl⟩
end
end K21
namespace Dat
open PySem L2 Evl
/-! ### is it a ratio -/
def lenNe : PyData → Bool
  | .tuple ds => decide ((ds.length : Int) ≠ 2)
  | _ => false
def gcd1 : PyData → PyData → Bool
  | .int p, .int q => decide (((Nat.gcd p.natAbs q.natAbs : Nat) : Int) = 1)
  | _, _ => true
def ratB (a b : PyData) : Bool := wholeIn a .none .none && (wholeIn b (.int 1) .none && gcd1 a b)
def ratD : PyData → Bool
  | .tuple [a, b] => ratB a b
  | _ => false
def fIsRatio (ds : List PyData) (d : PyData) : Prop := ∃ t, ds = [t] ∧ d = .bool (ratD t)
section
variable {K : PySem.W.Frag} {te tb : TE} {σ : L2.St} {H : Hp} {t a b : PyData}
theorem ne_len (c0 : (!isTupD t) = false) (h : EvD K te σ H t) : EvD K (tOp rNe (tCB (fun xs H Q => ∃ p ys, xs = [.ref p] ∧ (SqL K H p ys ∨ SqT K H p ys) ∧ Q (.int ys.length) H) (tCons te tNil)) (tC (.int 2))) σ H (.bool (lenNe t)) := by
  cases t <;> first | cases c0 | skip
  exact d_neI (d_lenT h) d_int
theorem two_of (c : (!isTupD t || lenNe t) = false) : ∃ a b, t = .tuple [a, b] := by
  cases t <;> first | cases c | skip
  rename_i ds
  have c2 : decide ((ds.length : Int) ≠ 2) = false := c
  have c3 := of_decide_eq_false c2
  have c4 : ds.length = 2 := by omega
  match ds, c4 with
  | [a, b], _ => exact ⟨a, b, rfl⟩
theorem rat_no (c : (!isTupD t || lenNe t) = true) : ratD t = false := by
  cases t <;> first | rfl | skip
  rename_i ds
  have c2 : decide ((ds.length : Int) ≠ 2) = true := c
  have c3 := of_decide_eq_true c2
  match ds, c3 with
  | [], _ => rfl
  | [_], _ => rfl
  | [_, _], c3 => exact absurd rfl c3
  | _ :: _ :: _ :: _, _ => rfl
theorem int_of {lo hi : PyData} (c : wholeIn a lo hi = true) : ∃ n, a = .int n := by
  cases a <;> first | exact ⟨_, rfl⟩ | cases c
theorem eq_gcd (c0 : wholeIn a .none .none = true) (c1 : wholeIn b (.int 1) .none = true) (h : EvD K te σ H a) (r : EvD K tb σ H b) : EvD K (tOp rEq (tCB rGcd (tCons te (tCons tb tNil))) (tC (.int 1))) σ H (.bool (gcd1 a b)) := by
  obtain ⟨p, rfl⟩ := int_of c0
  obtain ⟨q, rfl⟩ := int_of c1
  exact d_eqI (d_gcd h r) d_int
end
end Dat
namespace K21
open PySem L2 Evl Dat
section
variable {P : Program} {w : World} {K : PySem.W.Frag} {mg : Str → Option Value} {base : Heap}
abbrev s_is_ratio : Stmt := topS 4
abbrev N_is_ratio : List Str := ["thing", "top", "bottom"]
theorem sc_is_ratio : FnScope N_is_ratio ["thing"] (defScope s_is_ratio) := ⟨rfl, rfl, rfl, by decide +kernel, rfl, by decide +kernel, by decide +kernel⟩
theorem ok_is_ratio {f : Addr} {fd : FuncData} (F : Fun K "is_ratio" "is_ratio" s_is_ratio f fd) (T : Bl mg) (D_w1 : DW P w K mg base [.non, .non]) (D_w2 : DW P w K mg base [.non]) : FnOk P w K mg base CX0 2 f fd ["thing"] (spD K 1 fIsRatio) := by
  refine F.ok sc_is_ratio (fun vs H Q E h => ?_) (fun cdv A outer s H vs Q E hr h => ?_)
  · obtain ⟨ds, d, hl, hd, _⟩ := h
    exact (dps_len hd).trans hl
  · obtain ⟨ds, d, hl, hd, hf, k⟩ := h
    obtain ⟨t, rfl, rfl⟩ := hf
    obtain ⟨v_thing, vs, rfl, h_thing, hd⟩ := dps_cons hd
    obtain rfl := dps_nil hd
    have ex : Ex H H := Ex.refl H
    refine ⟨_, (pss_cons (ps_if (PW.pt (pw_or (pt_not (pt_val (pe_callB call_isi (by rfl) T.b_isinstance (by decide +kernel) (pa_cons (pv 0) (pa_cons (pe_bltn (v := .ty "tuple") (by rfl) T.b_tuple (by decide +kernel) rfl) pa_nil))))) (pw_or1 (pt_cmpR op_ne (pe_callB call_len_seq (by rfl) T.b_len (by decide +kernel) (pa_cons (pv 0) pa_nil)) pe_int (nomark _))))) (pss_one (ps_ret pe_bl)) pss_nil)
    (pss_cons (ps_asg (pv 0) (pg_tup rfl (pgs_cons (pg_name (i := 1) sc_is_ratio.nd rfl (Or.inl rfl)) (pgs_cons (pg_name (i := 2) sc_is_ratio.nd rfl (Or.inl rfl)) pgs_nil))) rfl)
    (pss_one (ps_ret (pe_and (pe_dcallV D_w1 (hr.mono (by decide)) pass0 (pa_cons (pv 1) pa_nil)) (pe_and (pe_dcallV D_w2 (hr.mono (by decide)) pass0 (pa_cons (pv 2) (pa_cons pe_int pa_nil))) (pe_one (pe_cmpR op_eq (pe_callBfun cr_gcd (by rfl) T.g_gcd (pa_cons (pv 1) (pa_cons (pv 2) pa_nil))) pe_int (nomark _))))))))), ?_⟩
    refine z_if (σ := [some (v_thing), none, none]) (b_or (b_not (b_val (d_isi (d_var ⟨_, rfl, h_thing⟩) (kit_tuple _)))) (fun c_0 => b_test (ne_len c_0 (d_var ⟨_, rfl, h_thing⟩)))) (fun c4 H1 e => ?_) (fun c4 H1 e => ?_)
    · replace ex := ex.trans e
      refine z_ret (K := K) (σ := [some (v_thing), none, none]) d_bl fun v H1 e h => ?_
      exact k v _ (ex.trans e) (by rw [rat_no c4]; exact h)
    · obtain ⟨a, b, rfl⟩ := two_of c4
      replace h_thing := dp_grow e _ _ h_thing
      replace ex := ex.trans e
      refine z_next ?_
      refine z_two (K := K) (σ := [some (v_thing), none, none]) (d_var ⟨_, rfl, h_thing⟩) fun x y H1 e hx hy => ?_
      replace ex := ex.trans e
      refine z_ret (K := K) (σ := [some (v_thing), some x, some y]) (d_and (d_callV (ds_cons (d_var ⟨_, rfl, hx⟩) ds_nil) (fun _ => .cons .non (.cons .non .nil)) rfl ⟨_, _, _, rfl, .inl rfl, .inl rfl, rfl⟩) (fun c_0 =>
        d_and (d_callV (ds_cons (d_var ⟨_, rfl, hy⟩) (ds_cons d_int ds_nil)) (fun _ => .cons .non .nil) rfl ⟨_, _, _, rfl, .inr ⟨_, rfl⟩, .inl rfl, rfl⟩) (fun c_1 => eq_gcd c_0 c_1 (d_var ⟨_, rfl, hx⟩) (d_var ⟨_, rfl, hy⟩)))) fun v H1 e h => ?_
      exact k v _ (ex.trans e) h
end
end K21
namespace Dat
open PySem L2 Evl
section
variable {K : PySem.W.Frag} {te : TE} {σ : L2.St} {H : Hp} {D : Ends} {tb ts : TS} {j : Nat} {ds : List PyData}
/-- for x in a list: the invariant by the turn -/
theorem z_forL (h : EvD K te σ H (.list ds)) (Pv : Nat → L2.St → Hp → Prop) (h0 : ∀ H1, Ex H H1 → Pv 0 σ H1)
    (step : ∀ i d v σ' H' (D' : Ends), ds[i]? = some d → Ex H H' → Pv i σ' H' → Dp K H' v d → (∀ σ2 H2, Ex H' H2 → Pv (i + 1) σ2 H2 → D'.nx σ2 H2) → tb D' (σ'.set j (some v)) H')
    (fin : ∀ σ' H', Ex H H' → Pv ds.length σ' H' → ts D σ' H') : tSeq (tFor (iList K te) (gName j) tb) ts D σ H := h H (Ex.refl H) _ fun v H1 e hv => by
  cases hv with
  | lst hs ha =>
    rename_i a vs
    refine ⟨a, rfl, ⟨vs, hs⟩, ?_⟩
    have hl := dps_len ha
    refine for_list (fun i σ' H' => Ex H1 H' ∧ Pv i σ' H') ⟨Ex.refl H1, h0 _ e⟩ (fun i σ' H' _ p => ex_l p.1 hs) (fun i x σ' H' hx p => ?_) (fun σ' H' p => fin σ' H' (e.trans p.1) (by rw [← hl]; exact p.2))
    obtain ⟨d, hd, hxd⟩ := dps_back ha hx
    exact step i d x σ' H' _ hd (e.trans p.1) p.2 (dp_grow p.1 _ _ hxd) fun σ2 H2 e2 p2 => ⟨p.1.trans e2, p2⟩
/-- for x in a tuple -/
theorem z_forT (h : EvD K te σ H (.tuple ds)) (Pv : Nat → L2.St → Hp → Prop) (h0 : ∀ H1, Ex H H1 → Pv 0 σ H1)
    (step : ∀ i d v σ' H' (D' : Ends), ds[i]? = some d → Ex H H' → Pv i σ' H' → Dp K H' v d → (∀ σ2 H2, Ex H' H2 → Pv (i + 1) σ2 H2 → D'.nx σ2 H2) → tb D' (σ'.set j (some v)) H')
    (fin : ∀ σ' H', Ex H H' → Pv ds.length σ' H' → ts D σ' H') : tSeq (tFor (iTup K te) (gName j) tb) ts D σ H := h H (Ex.refl H) _ fun v H1 e hv => by
  cases hv with
  | tup hs ha =>
    rename_i a vs
    refine ⟨a, rfl, ⟨vs, hs⟩, ?_⟩
    have hl := dps_len ha
    refine for_tup (fun i σ' H' => Ex H1 H' ∧ Pv i σ' H') ⟨Ex.refl H1, h0 _ e⟩ (fun i σ' H' _ p => ex_t p.1 hs) (fun i x σ' H' hx p => ?_) (fun σ' H' p => fin σ' H' (e.trans p.1) (by rw [← hl]; exact p.2))
    obtain ⟨d, hd, hxd⟩ := dps_back ha hx
    exact step i d x σ' H' _ hd (e.trans p.1) p.2 (dp_grow p.1 _ _ hxd) fun σ2 H2 e2 p2 => ⟨p.1.trans e2, p2⟩
end
end Dat
namespace Dat
open PySem L2 Evl
section
variable {K : PySem.W.Frag} {te tb : TE} {σ : L2.St} {H : Hp} {ta : TA} {t a b d : PyData}
theorem ev_bl {x : Bool} (h : EvD K te σ H (.bool x)) : Ev te σ H (.bl x) := fun H1 e Q q => h H1 e _ fun v H2 e2 hv => by
  cases hv
  exact q H2 e2
theorem eva_int {i : Int} (h : EvDs K ta σ H [.int i]) : EvA ta σ H [.int i] := fun H1 e Q q => h H1 e _ fun vs H2 e2 hv => by
  obtain ⟨x, ws, rfl, h1, hv⟩ := dps_cons hv
  obtain rfl := dps_nil hv
  cases h1
  exact q H2 e2
/-- all([.. for i in range(n)]) of truths -/
theorem d_allR {j n : Nat} {vs : List Nat} (f : Nat → Bool) (h : EvDs K ta σ H [.int (n : Int)]) (hn : n ≤ 40000) (hw : ∀ x, wipe ((wipe σ vs).set j (some x)) vs = wipe σ vs)
    (he : ∀ (i : Nat) H1, Ex H H1 → i < n → EvD K te ((wipe σ vs).set j (some (.int (i : Int)))) H1 (.bool (f i))) :
    EvD K (tCB (rAll K) (tCons (tLc (iRng1 ta) (gName j) tYes te vs) tNil)) σ H (.bool ((List.range n).all f)) := fun H1 e Q k => by
  show tLc (iRng1 ta) (gName j) tYes te vs σ H1 (fun v H2 => rAll K [v] H2 Q)
  exact el_lcR1 (t := tYes) (fun _ => true) (fun i => .bl (f i)) (eva_int h) ⟨by omega, by omega⟩ hw (fun i H2 _ _ H3 e3 R r => r H3 (Ex.refl H3)) (fun i H2 e2 hi _ => ev_bl (he i H2 e2 (by omega))) H1 e _ fun p H2 hp e2 hv => by
    have hg : given ((n : Int).toNat) (fun _ => true) (fun i => V.bl (f i)) = ((List.range n).map f).map V.bl := by
      unfold given
      rw [Int.toNat_natCast, List.filter_eq_self.mpr (fun _ _ => rfl), List.map_map]
      rfl
    rw [hg] at hv
    refine ⟨p, (List.range n).map f, rfl, .inl (.inl hv), ?_⟩
    have e9 : ((List.range n).map f).all id = (List.range n).all f := by
      rw [List.all_map]
      rfl
    rw [e9]
    exact k _ _ e2 (.bl _)
end
end Dat
namespace Dat
open PySem L2 Evl
/-! ### the law's own comparison -/
def isStrD : PyData → Bool
  | .str _ => true
  | _ => false
theorem kit_str (d : PyData) : kitB (kind d) "str" = some (isStrD d) := by cases d <;> rfl
def lenSame : PyData → PyData → Bool
  | .tuple es, .tuple ds => decide ((es.length : Int) = ds.length)
  | _, _ => true
def allI (f : PyData → PyData → Bool) : PyData → PyData → Bool
  | .tuple es, .tuple ds => (List.range ds.length).all fun i => f (es.getD i .none) (ds.getD i .none)
  | _, _ => true
def sameN : Nat → PyData → PyData → Bool
  | 0, _, _ => false
  | n + 1, a, b => if isTupD b then (isTupD a && (lenSame a b && allI (sameN n) a b)) else if (isBoolD b || isBoolD a) then (isBoolD b && (isBoolD a && PyData.eqv a b)) else if isIntD b then (isIntD a && PyData.eqv a b) else if isStrD b then (isStrD a && PyData.eqv a b) else (isNone a && isNone b)
def depN : Nat → PyData → Prop
  | 0, _ => False
  | n + 1, .tuple ds => ds.length ≤ 1000 ∧ ∀ i, i < ds.length → depN n (ds.getD i .none)
  | _ + 1, _ => True
def fSame (n : Nat) (ds : List PyData) (d : PyData) : Prop := ∃ a b, ds = [a, b] ∧ depN n b ∧ d = .bool (sameN n a b)
theorem atI_nat {α : Type} {l : List α} {i : Nat} {x : α} (h : i < l.length) : atI l (i : Int) = some (l.getD i x) := by
  unfold atI
  have e : ixN l.length (i : Int) = some i := by
    unfold ixN
    rw [if_pos (by omega), if_pos (by omega), Int.toNat_natCast]
  rw [e]
  show l[i]? = _
  rw [List.getD_eq_getElem?_getD, List.getElem?_eq_getElem h]
  rfl
section
variable {K : PySem.W.Frag} {te tb : TE} {σ : L2.St} {H : Hp} {a b : PyData}
theorem eq_bools (c : isBoolD b = true) (c0 : isBoolD a = true) (h : EvD K te σ H a) (r : EvD K tb σ H b) : EvD K (tOp (rEqD K) te tb) σ H (.bool (PyData.eqv a b)) := by
  cases b <;> first | cases c | skip
  cases a <;> first | cases c0 | skip
  exact d_eqD h r rfl rfl
theorem eq_ints (c : isIntD b = true) (c0 : isIntD a = true) (h : EvD K te σ H a) (r : EvD K tb σ H b) : EvD K (tOp (rEqD K) te tb) σ H (.bool (PyData.eqv a b)) := by
  cases b <;> first | cases c | skip
  all_goals (cases a <;> first | exact d_eqD h r rfl rfl | cases c0)
theorem eq_strs (c : isStrD b = true) (c0 : isStrD a = true) (h : EvD K te σ H a) (r : EvD K tb σ H b) : EvD K (tOp rEq te tb) σ H (.bool (PyData.eqv a b)) := by
  cases b <;> first | cases c | skip
  cases a <;> first | cases c0 | skip
  rename_i y x
  exact fun H1 x0 Q k => h H1 x0 _ fun v H2 x2 hv => r H2 (x0.trans x2) _ fun w H3 x3 hw => by
    cases hv
    cases hw
    refine ⟨rfl, ?_⟩
    have z : decide (V.str x = V.str y) = PyData.eqv (.str x) (.str y) := by
      show _ = (x == y)
      by_cases q : x = y
      · subst q
        rw [decide_eq_true rfl, beq_self_eq_true]
      · rw [decide_eq_false (fun z => q (V.str.inj z)), beq_eq_false_iff_ne.mpr q]
    rw [z]
    exact k _ H3 (x2.trans x3) (.bl _)
theorem tup_of (c : isTupD a = true) : ∃ ds, a = .tuple ds := by
  cases a <;> first | exact ⟨_, rfl⟩ | cases c
end
end Dat
namespace K21
open PySem L2 Evl Dat
section
variable {P : Program} {w : World} {K : PySem.W.Frag} {mg : Str → Option Value} {base : Heap}
abbrev s_L_same : Stmt := topS 25
abbrev N_L_same : List Str := ["told", "due", "k"]
theorem sc_L_same : FnScope N_L_same ["told", "due"] (defScope s_L_same) := ⟨rfl, rfl, rfl, by decide +kernel, rfl, by decide +kernel, by decide +kernel⟩

theorem ok_L_same1 {n : Nat} {f : Addr} {fd : FuncData} (F : Fun K "_law_same" "_law_same" s_L_same f fd) (T : Bl mg) (D_law_same : Def P w K mg base CX0 n "_law_same" ["told", "due"] (spD K 2 (fSame n))) : FnOk P w K mg base CX0 (n + 1) f fd ["told", "due"] (spD K 2 (fSame (n + 1))) := by
  refine F.ok sc_L_same (fun vs H Q E h => ?_) (fun cdv A outer s H vs Q E hr h => ?_)
  · obtain ⟨ds, d, hl, hd, _⟩ := h
    exact (dps_len hd).trans hl
  · obtain ⟨ds, d, hl, hd, hf, k⟩ := h
    obtain ⟨a, b, rfl, hdep, rfl⟩ := hf
    obtain ⟨v_told, vs, rfl, h_told, hd⟩ := dps_cons hd
    obtain ⟨v_due, vs, rfl, h_due, hd⟩ := dps_cons hd
    obtain rfl := dps_nil hd
    refine ⟨_, (pss_cons (ps_if (pt_val (pe_callB call_isi (by rfl) T.b_isinstance (by decide +kernel) (pa_cons (pv 1) (pa_cons (pe_bltn (v := .ty "tuple") (by rfl) T.b_tuple (by decide +kernel) rfl) pa_nil)))) (pss_one (ps_ret (pe_and (pe_callB call_isi (by rfl) T.b_isinstance (by decide +kernel) (pa_cons (pv 0) (pa_cons (pe_bltn (v := .ty "tuple") (by rfl) T.b_tuple (by decide +kernel) rfl) pa_nil))) (pe_and (pe_cmpR op_eq (pe_callB call_len_seq (by rfl) T.b_len (by decide +kernel) (pa_cons (pv 0) pa_nil)) (pe_callB call_len_seq (by rfl) T.b_len (by decide +kernel) (pa_cons (pv 1) pa_nil)) (nomark _)) (pe_one (pe_callB (cr_all rfl) (by rfl) T.b_all (by decide +kernel) (pa_cons (pe_lc (own := [("k", 2)]) (g := gName 2) rfl sc_L_same.nd (pi_range1 rfl T.b_range (pa_cons (pe_callB call_len_seq (by rfl) T.b_len (by decide +kernel) (pa_cons (pv 1) pa_nil)) pa_nil)) (blkOk_by (own := [("k", 2)]) (N := N_L_same) (sc := defScope s_L_same) (by decide +kernel)) (fun _ _ _ _ _ => pg_name (i := 2) sc_L_same.nd rfl (Or.inl rfl)) (fun _ _ _ _ _ => pts_nil) (fun _ _ _ _ _ => (pe_dcall D_law_same (hr.mono (Nat.le_refl _)) pass0 (pa_cons (pe_ix (r := rIxT K) ix_tup (pv 0) (pv 2) (fun _ _ => rfl)) (pa_cons (pe_ix (r := rIxT K) ix_tup (pv 1) (pv 2) (fun _ _ => rfl)) pa_nil))))) pa_nil))))))) pss_nil)
    (pss_cons (ps_if (PW.pt (pw_or (pt_val (pe_callB call_isi (by rfl) T.b_isinstance (by decide +kernel) (pa_cons (pv 1) (pa_cons (pe_bltn (v := .ty "bool") (by rfl) T.b_bool (by decide +kernel) rfl) pa_nil)))) (pw_or1 (pt_val (pe_callB call_isi (by rfl) T.b_isinstance (by decide +kernel) (pa_cons (pv 0) (pa_cons (pe_bltn (v := .ty "bool") (by rfl) T.b_bool (by decide +kernel) rfl) pa_nil))))))) (pss_one (ps_ret (pe_and (pe_callB call_isi (by rfl) T.b_isinstance (by decide +kernel) (pa_cons (pv 1) (pa_cons (pe_bltn (v := .ty "bool") (by rfl) T.b_bool (by decide +kernel) rfl) pa_nil))) (pe_and (pe_callB call_isi (by rfl) T.b_isinstance (by decide +kernel) (pa_cons (pv 0) (pa_cons (pe_bltn (v := .ty "bool") (by rfl) T.b_bool (by decide +kernel) rfl) pa_nil))) (pe_one (pe_cmpR (op_eqD hr.units) (pv 0) (pv 1) (nomark _))))))) pss_nil)
    (pss_cons (ps_if (pt_val (pe_callB call_isi (by rfl) T.b_isinstance (by decide +kernel) (pa_cons (pv 1) (pa_cons (pe_bltn (v := .ty "int") (by rfl) T.b_int (by decide +kernel) rfl) pa_nil)))) (pss_one (ps_ret (pe_and (pe_callB call_isi (by rfl) T.b_isinstance (by decide +kernel) (pa_cons (pv 0) (pa_cons (pe_bltn (v := .ty "int") (by rfl) T.b_int (by decide +kernel) rfl) pa_nil))) (pe_one (pe_cmpR (op_eqD hr.units) (pv 0) (pv 1) (nomark _)))))) pss_nil)
    (pss_cons (ps_if (pt_val (pe_callB call_isi (by rfl) T.b_isinstance (by decide +kernel) (pa_cons (pv 1) (pa_cons (pe_bltn (v := .ty "str") (by rfl) T.b_str (by decide +kernel) rfl) pa_nil)))) (pss_one (ps_ret (pe_and (pe_callB call_isi (by rfl) T.b_isinstance (by decide +kernel) (pa_cons (pv 0) (pa_cons (pe_bltn (v := .ty "str") (by rfl) T.b_str (by decide +kernel) rfl) pa_nil))) (pe_one (pe_cmpR op_eq (pv 0) (pv 1) (nomark _)))))) pss_nil)
    (pss_one (ps_ret (pe_and (pe_cmpR op_isN (pv 0) pe_non (nomark _)) (pe_one (pe_cmpR op_isN (pv 1) pe_non (nomark _)))))))))), ?_⟩
    refine z_if (σ := [some v_told, some v_due, none]) (b_val (d_isi (d_var ⟨_, rfl, h_due⟩) (kit_tuple _))) (fun c H1 e => ?_) (fun c H1 e => z_next ?_)
    · have V0 : EvD K (tVar 0) [some v_told, some v_due, none] H1 a := d_var ⟨_, rfl, dp_grow e _ _ h_told⟩
      have V1 : EvD K (tVar 1) [some v_told, some v_due, none] H1 b := d_var ⟨_, rfl, dp_grow e _ _ h_due⟩
      have ev : sameN (n + 1) a b = (isTupD a && (lenSame a b && allI (sameN n) a b)) := if_pos c
      rw [ev] at k
      obtain ⟨ds, rfl⟩ := tup_of c
      refine z_ret (K := K) (σ := [some v_told, some v_due, none]) (d_and (d_isi V0 (kit_tuple _)) (fun c0 => d_and (b := allI (sameN n) a (.tuple ds)) (d_is (d := .bool (lenSame a (.tuple ds))) ?_ rfl) (fun c1 => ?_))) fun v H2 e2 h => k v _ (e.trans e2) h
      · obtain ⟨es, rfl⟩ := tup_of c0
        exact d_eqI (d_lenT V0) (d_lenT V1)
      · obtain ⟨es, rfl⟩ := tup_of c0
        have hl : es.length = ds.length := by
          have z := of_decide_eq_true c1
          omega
        refine d_allR (n := ds.length) (fun i => sameN n (es.getD i .none) (ds.getD i .none)) (ds_cons (d_lenT V1) ds_nil) (by have := hdep.1; omega) (fun _ => rfl) (fun i H2 e2 hi => ?_)
        have W0 : EvD K (tVar 0) [some v_told, some v_due, some (.int (i : Int))] H2 (.tuple es) := d_var ⟨_, rfl, dp_grow (e.trans e2) _ _ h_told⟩
        have W1 : EvD K (tVar 1) [some v_told, some v_due, some (.int (i : Int))] H2 (.tuple ds) := d_var ⟨_, rfl, dp_grow (e.trans e2) _ _ h_due⟩
        have W2 : EvD K (tVar 2) [some v_told, some v_due, some (.int (i : Int))] H2 (.int (i : Int)) := d_var ⟨_, rfl, .int _⟩
        exact d_call (ds_cons (d_ixT W0 W2 (atI_nat (by omega))) (ds_cons (d_ixT W1 W2 (atI_nat hi)) ds_nil)) rfl ⟨_, _, rfl, hdep.2 i hi, rfl⟩
    have V0 : EvD K (tVar 0) [some v_told, some v_due, none] H1 a := d_var ⟨_, rfl, dp_grow e _ _ h_told⟩
    have V1 : EvD K (tVar 1) [some v_told, some v_due, none] H1 b := d_var ⟨_, rfl, dp_grow e _ _ h_due⟩
    have nt : ¬ (isTupD b = true) := by rw [c]; decide
    have ev : sameN (n + 1) a b = (if (isBoolD b || isBoolD a) = true then (isBoolD b && (isBoolD a && PyData.eqv a b)) else if isIntD b = true then (isIntD a && PyData.eqv a b) else if isStrD b = true then (isStrD a && PyData.eqv a b) else (isNone a && isNone b)) := if_neg nt
    rw [ev] at k
    refine z_if (σ := [some v_told, some v_due, none]) (b_or (b_val (d_isi V1 (kit_bool _))) (fun _ => b_val (d_isi V0 (kit_bool _)))) (fun c2 H2 e2 => ?_) (fun c2 H2 e2 => z_next ?_)
    · rw [if_pos c2] at k
      exact z_ret (K := K) (d_and (d_isi (V1.mono e2) (kit_bool _)) (fun c3 => d_and (d_isi (V0.mono e2) (kit_bool _)) (fun c4 => eq_bools c3 c4 (V0.mono e2) (V1.mono e2)))) fun v H3 e3 h => k v _ ((e.trans e2).trans e3) h
    rw [if_neg (by rw [c2]; decide)] at k
    refine z_if (σ := [some v_told, some v_due, none]) (b_val (d_isi (V1.mono e2) (kit_int _))) (fun c3 H3 e3 => ?_) (fun c3 H3 e3 => z_next ?_)
    · rw [if_pos c3] at k
      exact z_ret (K := K) (d_and (d_isi (V0.mono (e2.trans e3)) (kit_int _)) (fun c4 => eq_ints c3 c4 (V0.mono (e2.trans e3)) (V1.mono (e2.trans e3)))) fun v H4 e4 h => k v _ (((e.trans e2).trans e3).trans e4) h
    rw [if_neg (by rw [c3]; decide)] at k
    refine z_if (σ := [some v_told, some v_due, none]) (b_val (d_isi (V1.mono (e2.trans e3)) (kit_str _))) (fun c4 H4 e4 => ?_) (fun c4 H4 e4 => z_next ?_)
    · rw [if_pos c4] at k
      exact z_ret (K := K) (d_and (d_isi (V0.mono ((e2.trans e3).trans e4)) (kit_str _)) (fun c5 => eq_strs c4 c5 (V0.mono ((e2.trans e3).trans e4)) (V1.mono ((e2.trans e3).trans e4)))) fun v H5 e5 h => k v _ ((((e.trans e2).trans e3).trans e4).trans e5) h
    rw [if_neg (by rw [c4]; decide)] at k
    exact z_ret (K := K) (d_and (d_isN (V0.mono ((e2.trans e3).trans e4))) (fun _ => d_isN (V1.mono ((e2.trans e3).trans e4)))) fun v H5 e5 h => k v _ ((((e.trans e2).trans e3).trans e4).trans e5) h
end
end K21
namespace Dat
open PySem L2 Evl
/-- data of truths, ints, texts, None and short tuples of them, of a depth below n -/
def goodN : Nat → PyData → Bool
  | 0, _ => false
  | n + 1, .tuple ds => decide (ds.length ≤ 1000) && ds.all fun d => goodN n d
  | _ + 1, .none => true
  | _ + 1, .bool _ => true
  | _ + 1, .int _ => true
  | _ + 1, .str _ => true
  | _ + 1, _ => false
theorem getD_mem {ds : List PyData} {i : Nat} (h : i < ds.length) : ds.getD i .none ∈ ds := by
  rw [List.getD_eq_getElem?_getD, List.getElem?_eq_getElem h]
  exact List.getElem_mem h
theorem good_dep : ∀ {n : Nat} {d : PyData}, goodN n d = true → depN n d
  | 0, _, h => by cases h
  | n + 1, d, h => by
    cases d with
    | tuple ds =>
      obtain ⟨h1, h2⟩ := Bool.and_eq_true_iff.mp (show (decide (ds.length ≤ 1000) && ds.all fun d => goodN n d) = true from h)
      exact ⟨of_decide_eq_true h1, fun i hi => good_dep (List.all_eq_true.mp h2 _ (getD_mem hi))⟩
    | _ => trivial
theorem good_same : ∀ {n : Nat} {d : PyData}, goodN n d = true → sameN n d d = true
  | 0, _, h => by cases h
  | n + 1, d, h => by
    cases d with
    | tuple ds =>
      obtain ⟨h1, h2⟩ := Bool.and_eq_true_iff.mp (show (decide (ds.length ≤ 1000) && ds.all fun d => goodN n d) = true from h)
      show (true && (decide ((ds.length : Int) = ds.length) && (List.range ds.length).all fun i => sameN n (ds.getD i .none) (ds.getD i .none))) = true
      rw [decide_eq_true rfl, Bool.true_and, Bool.true_and, List.all_eq_true]
      intro i hi
      exact good_same (List.all_eq_true.mp h2 _ (getD_mem (List.mem_range.mp hi)))
    | none => rfl
    | bool b =>
      show (true && (true && (b == b))) = true
      rw [beq_self_eq_true]
      rfl
    | int i =>
      show (true && (i == i)) = true
      rw [beq_self_eq_true]
      rfl
    | str x =>
      show (true && (x == x)) = true
      rw [beq_self_eq_true]
      rfl
    | list _ => cases h
    | dict _ => cases h
end Dat
namespace K21
open PySem L2 Evl Dat
section
variable {P : Program} {w : World} {K : PySem.W.Frag} {mg : Str → Option Value} {base : Heap}
theorem def_L_same {f : Addr} {fd : FuncData} (F : Fun K "_law_same" "_law_same" s_L_same f fd) (T : Bl mg) (hm : mg "_law_same" = some (.ref f)) (kp : PySem.W.keepIn K (.ref f) = true) (hb : Binds K fd ["told", "due"] []) : ∀ n, Def P w K mg base CX0 n "_law_same" ["told", "due"] (spD K 2 (fSame n))
  | 0 => ⟨f, fd, ⟨fun vs H Q E h => by
      obtain ⟨ds, d, _, _, ⟨a, b, _, hd, _⟩, _⟩ := h
      exact hd.elim, fun A outer s H args us vs Q E _ _ _ _ h => by
      obtain ⟨ds, d, _, _, ⟨a, b, _, hd, _⟩, _⟩ := h
      exact hd.elim⟩, hm, kp, hb⟩
  | n + 1 => ⟨f, fd, ok_L_same1 F T (def_L_same F T hm kp hb n), hm, kp, hb⟩
end
end K21
namespace K21
open PySem L2 Evl Dat
section
variable {P : Program} {w : World} {K : PySem.W.Frag} {mg : Str → Option Value} {base : Heap}
abbrev s_Lratio : Stmt := topS 21
abbrev N_Lratio : List Str := ["top", "bottom", "one", "other"]
theorem sc_Lratio : FnScope N_Lratio ["top", "bottom"] (defScope s_Lratio) := ⟨rfl, rfl, rfl, by decide +kernel, rfl, by decide +kernel, by decide +kernel⟩
theorem ok_Lratio {f : Addr} {fd : FuncData} (F : Fun K "_law_ratio" "_law_ratio" s_Lratio f fd) (T : Bl mg) : FnOk P w K mg base CX0 1 f fd ["top", "bottom"] (spD K 2 fLowest) := by
  refine F.ok sc_Lratio (fun vs H Q E h => ?_) (fun cdv A outer s H vs Q E hr h => ?_)
  · obtain ⟨ds, d, hl, hd, _⟩ := h
    exact (dps_len hd).trans hl
  · obtain ⟨ds, d, hl, hd, hf, k⟩ := h
    obtain ⟨t, b, rfl, b0, bb, rfl⟩ := hf
    obtain ⟨v_top, vs, rfl, h_top, hd⟩ := dps_cons hd
    obtain ⟨v_bottom, vs, rfl, h_bottom, hd⟩ := dps_cons hd
    obtain rfl := dps_nil hd
    cases h_top
    cases h_bottom
    refine ⟨_, Evl.pss_cut (ps_if (pt_cmpR op_lt (pv 1) pe_int (nomark _)) (pss_cons (ps_set (i := 0) sc_Lratio.nd rfl (Or.inl rfl) (pe_un un_neg (pv 0))) (pss_one (ps_set (i := 1) sc_Lratio.nd rfl (Or.inl rfl) (pe_un un_neg (pv 1))))) pss_nil)
      (pss_cons (ps_set (i := 2) sc_Lratio.nd rfl (Or.inl rfl) (pe_callB call_abs (by rfl) T.b_abs (by decide +kernel) (pa_cons (pv 0) pa_nil)))
      (pss_cons (ps_set (i := 3) sc_Lratio.nd rfl (Or.inl rfl) (pv 1))
      (pss_cons (ps_while PassesOwn.never (pt_truth (pv 2) (fun _ => rfl)) (pss_one (ps_par (i := 2) (j := 3) rfl sc_Lratio.nd rfl rfl (by decide) rfl rfl (pa_cons (pe_op op_mod (pe_callTy call_int1 (by rfl) T.b_int (by decide +kernel) (pa_cons (pv 3) pa_nil)) (pv 2)) (pa_cons (pv 2) pa_nil)) (by rfl))))
      (pss_one (ps_ret (pe_tup (pa_cons (pe_op op_fdivA (pv 0) (pv 3)) (pa_cons (pe_op op_fdivA (pv 1) (pv 3)) pa_nil)))))))), ?_⟩
    refine ⟨fun σ' H' => σ' = [some (.int (if b < 0 then -t else t)), some (.int (if b < 0 then -b else b)), none, none] ∧ H' = H, ?_, ?_⟩
    · refine ⟨_, rfl, _, _, rfl, rfl, _, rfl, ?_⟩
      refine ite2 (fun c => ?_) (fun c => ?_)
      · have c' := of_decide_eq_true c
        refine ⟨_, rfl, _, rfl, _, rfl, _, rfl, ?_, rfl⟩
        rw [if_pos c', if_pos c']
        rfl
      · have c' : ¬ b < 0 := fun z => c (decide_eq_true z)
        refine ⟨?_, rfl⟩
        rw [if_neg c', if_neg c']
        rfl
    · rintro σ' H' ⟨rfl, rfl⟩
      have hb : 0 < (if b < 0 then -b else b) := by split <;> omega
      have hg : Nat.gcd (if b < 0 then -t else t).natAbs (if b < 0 then -b else b).natAbs = Nat.gcd t.natAbs b.natAbs := by
        split <;> simp
      have hlow : lowest t b = rat ((if b < 0 then -t else t) / (Nat.gcd t.natAbs b.natAbs : Nat)) ((if b < 0 then -b else b) / (Nat.gcd t.natAbs b.natAbs : Nat)) := by
        show rat (lowP t b) (lowQ t b) = _
        unfold lowP lowQ
        by_cases c : b < 0
        · simp only [if_pos c]
        · simp only [if_neg c]
      have hbb : (if b < 0 then -b else b).natAbs < 2 ^ 4000 := by
        split
        · rw [Int.natAbs_neg]
          exact bb
        · exact bb
      rw [hlow] at k
      rw [← hg] at k
      generalize (if b < 0 then -t else t) = t' at k
      generalize (if b < 0 then -b else b) = b' at k hb hbb
      clear hg hlow b0 bb
      have ha : (if t' < 0 then -t' else t') = (t'.natAbs : Int) := by split <;> omega
      refine x_set (v := .int (t'.natAbs : Int)) (fun Q q => ⟨_, rfl, t', rfl, by rw [ha]; exact q⟩) ?_
      refine x_set (v := .int b') (fun Q q => ⟨_, rfl, q⟩) ?_
      show tSeq (tWhile _ _) _ _ [some (.int t'), some (.int b'), some (.int (t'.natAbs : Int)), some (.int b')] _
      refine z_while (fun σ' H1 => H1 = H' ∧ ∃ x y : Nat, σ' = [some (.int t'), some (.int b'), some (.int x), some (.int y)] ∧ 0 < y ∧ Nat.gcd x y = Nat.gcd t'.natAbs b'.natAbs) (fun σ' _ => match σ' with | [_, _, some (.int x), _] => x.toNat | _ => 0) ?_ ?_ ?_
      · have hy : b' = ((b'.toNat : Nat) : Int) := by omega
        refine ⟨rfl, t'.natAbs, b'.toNat, ?_, by omega, ?_⟩
        · show [some (V.int t'), some (V.int b'), some (V.int (t'.natAbs : Int)), some (V.int b')] = _
          rw [← hy]
        · have : b'.toNat = b'.natAbs := by omega
          rw [this]
      · rintro σ' H1 ⟨rfl, x, y, rfl, hy, hgc⟩
        refine ⟨_, rfl, _, rfl, ?_⟩
        by_cases hx : x = 0
        · subst hx
          refine iteF ?_
          have hgy : y = Nat.gcd t'.natAbs b'.natAbs := by
            rw [← hgc, Nat.gcd_zero_left]
          have hyb : y ≤ b'.natAbs := by
            rw [hgy]
            exact Nat.gcd_le_right _ (by omega)
          have hdiv : ∀ i : Int, CDivA i ((y : Nat) : Int) := fun i => div_ok (n := 4000) (by omega) (Nat.lt_of_le_of_lt hyb hbb)
          refine ⟨_, rfl, _, rfl, _, _, rfl, rfl, hdiv _, _, rfl, _, rfl, _, _, rfl, rfl, hdiv _, by show 2 ≤ sizeLine; decide, fun p hp => ?_⟩
          refine k _ _ (Ex.new hp) (.tup (st_of upd_same) (.cons ?_ (.cons ?_ .nil)))
          · rw [← hgy, ← Int.fdiv_eq_ediv_of_nonneg _ (by omega)]
            exact .int _
          · rw [← hgy, ← Int.fdiv_eq_ediv_of_nonneg _ (by omega)]
            exact .int _
        · have hne : (((x : Nat) : Int) != 0) = true := by
            rw [bne_iff_ne]
            omega
          rw [hne]
          refine iteT ?_
          refine ⟨_, rfl, .inl ⟨_, rfl, _, rfl, _, _, rfl, rfl, (by show (0 : Int) < (x : Int); omega), _, rfl, _, _, rfl, ?_⟩⟩
          refine ⟨⟨rfl, y % x, x, ?_, by omega, ?_⟩, ?_⟩
          · show [some (V.int t'), some (V.int b'), some (V.int ((y : Int) % (x : Int))), some (V.int (x : Int))] = _
            rw [← Int.natCast_emod]
          · rw [← hgc, Nat.gcd_comm x y, ← Nat.gcd_rec, Nat.gcd_comm]
          · show ((y : Int) % (x : Int)).toNat < ((x : Nat) : Int).toNat
            rw [← Int.natCast_emod]
            exact Nat.mod_lt _ (by omega)
      · rintro σ' H1 Q1 Q2 hQ ⟨v, h1, kk, h2, h3⟩
        exact ⟨v, h1, kk, h2, hQ _ _ h3⟩
end
end K21
namespace K21
open PySem L2 Evl Dat
section
variable {X : Cx} {CX : CXT} {k : Nat} {ps : List Str} {sp : Sp} {E : XK} {x : Str} {p pos : Pos} {e : Expr} {es : List Expr} {t : TA}
theorem pe_dcall0 (D : Def X.prog X.w X.K X.mg X.base CX k x ps sp) (hr : Room k X.A) (hx : Passes CX X E) (hg : Gl X x := by rfl) (hdb : (x == ("__debug__" : Str)) = false := by decide) :
    PE X (.Call (.Name x p) [] [] pos) (tCall sp [] E tNil) := by
  obtain ⟨f, fd, F, hm, hk, hb⟩ := D.ex
  exact pe_call0 F hr hg hm hk hb .nil hx hdb
end
/-- a hand at h: its cells at c (never changed), and three numbers -/
def HandOk (H : Hp) (h c : Addr) (ns : List Int) : Prop := ∃ (p r t : Int), H h = some (.lst [.ref c, .int p, .int r, .int t]) ∧ H c = some (.lst (ns.map V.int)) ∧
  ns.length ≤ 63 ∧ (∀ n ∈ ns, 0 ≤ n) ∧ 0 ≤ p ∧ p ≤ 64 ∧ 0 ≤ r ∧ 0 ≤ t ∧ t < 2147483629
def spMix : Sp := fun vs H Q _ => ∃ n k : Int, vs = [.int n, .int k] ∧ 0 ≤ n ∧ n < 2147483647 ∧ 0 ≤ k ∧ k ≤ 1000 ∧ ∀ r, Q (.int r) H
def spHand (K : PySem.W.Frag) : Sp := fun vs H Q _ => ∃ (a : Addr) (ns : List Int), vs = [.ref a] ∧ SqL K H a (ns.map V.int) ∧ ns.length ≤ 63 ∧
  ∀ H' h c ms, Same H H' → H h = none → H c = none → HandOk H' h c ms → Q (.ref h) H'
def spDraw : Sp := fun vs H Q _ => ∃ (h c : Addr) (ns : List Int) (many : Int), vs = [.ref h, .int many] ∧ 0 < many ∧ many.natAbs < 2 ^ 1000 ∧ HandOk H h c ns ∧
  ∀ r H', 0 ≤ r → r < many → HandOk H' h c ns → (∀ a, a ≠ h → H' a = H a) → Q (.int r) H'
section
variable {P : Program} {w : World} {K : PySem.W.Frag} {mg : Str → Option Value} {base : Heap}
abbrev s_mix : Stmt := topS 18
abbrev N_mix : List Str := ["number", "turn", "once", "twice"]
theorem sc_mix : FnScope N_mix ["number", "turn"] (defScope s_mix) := ⟨rfl, rfl, rfl, by decide +kernel, rfl, by decide +kernel, by decide +kernel⟩
theorem ok_mix {f : Addr} {fd : FuncData} (F : Fun K "_law_mix" "_law_mix" s_mix f fd) (T : Bl mg) : FnOk P w K mg base CX0 1 f fd ["number", "turn"] spMix := by
  refine F.ok sc_mix (fun vs H Q E h => ?_) (fun cdv A outer s H vs Q E hr h => ?_)
  · obtain ⟨n, k, rfl, _⟩ := h
    rfl
  · obtain ⟨n, k, rfl, n0, n1, k0, k1, q⟩ := h
    refine ⟨_, (pss_cons (ps_set (i := 2) sc_mix.nd rfl (Or.inl rfl) (pe_op op_mod (pe_callTy call_int1 (by rfl) T.b_int (by decide +kernel) (pa_cons (pe_op op_add (pe_op op_add (pe_op op_mul (pv 0) pe_int) (pe_op op_mul (pv 1) pe_int)) pe_int) pa_nil)) pe_int))
    (pss_cons (ps_set (i := 3) sc_mix.nd rfl (Or.inl rfl) (pe_op op_mod (pe_callTy call_int1 (by rfl) T.b_int (by decide +kernel) (pa_cons (pe_op op_add (pe_op op_add (pe_op op_mul (pv 2) (pv 2)) (pe_op op_mul (pe_op op_fdiv (pv 2) pe_int) pe_int)) (pe_op op_mul (pv 1) pe_int)) pa_nil)) pe_int))
    (pss_one (ps_ret (pe_op op_fdiv (pe_op op_mod (pe_callTy call_int1 (by rfl) T.b_int (by decide +kernel) (pa_cons (pe_op op_add (pe_op op_fdiv (pe_op op_mul (pv 3) (pv 3)) pe_int) (pv 2)) pa_nil)) pe_int) pe_int))))), ?_⟩
    refine ⟨_, rfl, _, _, rfl, rfl, .inr (by decide), _, rfl, _, _, rfl, rfl, .inr (by decide), _, _, rfl, rfl, _, _, rfl, rfl, .inl ⟨_, rfl, _, _, rfl, rfl, (by show (0 : Int) < 2147483647; decide), ?_⟩⟩
    generalize ho : (n * 48271 + k * 16807 + 11) % 2147483647 = once
    have o0 : 0 ≤ once := by omega
    have o1 : once < 2147483647 := by omega
    refine ⟨_, rfl, _, rfl, _, _, rfl, rfl, .inl ⟨by omega, by omega⟩, _, rfl, _, _, rfl, rfl, ⟨by decide, by decide⟩, _, _, rfl, rfl, .inr (by decide), _, _, rfl, rfl, _, rfl, _, _, rfl, rfl, .inr (by decide), _, _, rfl, rfl, .inl ⟨_, rfl, _, _, rfl, rfl, (by show (0 : Int) < 2147483399; decide), ?_⟩⟩
    generalize ht : (once * once + once / 127 * 40692 + k * 69621) % 2147483399 = twice
    have t0 : 0 ≤ twice := by omega
    have t1 : twice < 2147483399 := by omega
    refine ⟨_, rfl, _, rfl, _, _, rfl, rfl, .inl ⟨by omega, by omega⟩, _, _, rfl, rfl, ⟨by decide, by decide⟩, _, rfl, _, _, rfl, rfl, .inl ⟨_, rfl, _, _, rfl, rfl, (by show (0 : Int) < 2147483563; decide), _, _, rfl, rfl, ⟨by decide, by decide⟩, q _⟩⟩
end
section
variable {P : Program} {w : World} {K : PySem.W.Frag} {mg : Str → Option Value} {base : Heap}
abbrev s_draw : Stmt := topS 20
abbrev N_draw : List Str := ["hand", "many", "cell", "rest"]
theorem sc_draw : FnScope N_draw ["hand", "many"] (defScope s_draw) := ⟨rfl, rfl, rfl, by decide +kernel, rfl, by decide +kernel, by decide +kernel⟩
theorem ok_draw {f : Addr} {fd : FuncData} (F : Fun K "_law_draw" "_law_draw" s_draw f fd) (T : Bl mg) (D_law_mix : Def P w K mg base CX0 1 "_law_mix" ["number", "turn"] spMix) : FnOk P w K mg base CX0 2 f fd ["hand", "many"] spDraw := by
  refine F.ok sc_draw (fun vs H Q E h => ?_) (fun cdv A outer s H vs Q E hr h => ?_)
  · obtain ⟨a, c, ns, many, rfl, _⟩ := h
    rfl
  · obtain ⟨a, c, ns, many, rfl, m0, m1, ⟨p, r, t, hH, hC, hl, hns, p0, p1, r0, t0, t1⟩, q⟩ := h
    refine ⟨_, (Evl.pss_cut (ps_if (PW.pt (pw_and (pt_cmpR op_eq (pe_ix ix_list (pv 0) pe_int (fun _ _ => rfl)) pe_int (nomark _)) (pw_and1 (pt_cmpR op_lt (pe_ix ix_list (pv 0) pe_int (fun _ _ => rfl)) (pe_callB call_len_seq (by rfl) T.b_len (by decide +kernel) (pa_cons (pe_ix ix_list (pv 0) pe_int (fun _ _ => rfl)) pa_nil)) (nomark _))))) (pss_cons (ps_set (i := 2) sc_draw.nd rfl (Or.inl rfl) (pe_ix ix_list (pe_ix ix_list (pv 0) pe_int (fun _ _ => rfl)) (pe_ix ix_list (pv 0) pe_int (fun _ _ => rfl)) (fun _ _ => rfl)))
    (pss_cons (ps_asg (pe_op op_add (pe_ix ix_list (pv 0) pe_int (fun _ _ => rfl)) pe_int) (pg_sub (pv 0) pe_int set_list) rfl)
    (pss_cons (ps_if (pt_cmpR op_lt (pv 2) (pe_op op_pow pe_int pe_int) (nomark _)) (pss_one (ps_ret (pe_op op_mod (pe_callTy call_int1 (by rfl) T.b_int (by decide +kernel) (pa_cons (pe_dcall D_law_mix (hr.mono (by decide)) pass0 (pa_cons (pe_op op_mod (pe_callTy call_int1 (by rfl) T.b_int (by decide +kernel) (pa_cons (pv 2) pa_nil)) pe_int) (pa_cons (pe_ix ix_list (pv 0) pe_int (fun _ _ => rfl)) pa_nil))) pa_nil)) (pv 1)))) pss_nil)
    (pss_one (ps_asg (pv 2) (pg_sub (pv 0) pe_int set_list) rfl))))) pss_nil)
    (pss_cons (ps_if (pt_cmpR op_gt (pe_ix ix_list (pv 0) pe_int (fun _ _ => rfl)) pe_int (nomark _)) (pss_cons (ps_set (i := 3) sc_draw.nd rfl (Or.inl rfl) (pe_ix ix_list (pv 0) pe_int (fun _ _ => rfl)))
    (pss_cons (ps_asg (pe_op op_fdivW (pv 3) (pv 1)) (pg_sub (pv 0) pe_int set_list) rfl)
    (pss_one (ps_ret (pe_op op_mod (pe_callTy call_int1 (by rfl) T.b_int (by decide +kernel) (pa_cons (pv 3) pa_nil)) (pv 1)))))) pss_nil)
    (pss_cons (ps_asg (pe_op op_mod (pe_callTy call_int1 (by rfl) T.b_int (by decide +kernel) (pa_cons (pe_op op_add (pe_ix ix_list (pv 0) pe_int (fun _ _ => rfl)) pe_int) pa_nil)) pe_int) (pg_sub (pv 0) pe_int set_list) rfl)
    (pss_one (ps_ret (pe_op op_mod (pe_callTy call_int1 (by rfl) T.b_int (by decide +kernel) (pa_cons (pe_dcall D_law_mix (hr.mono (by decide)) pass0 (pa_cons (pe_ix ix_list (pv 0) pe_int (fun _ _ => rfl)) (pa_cons (pe_ix ix_list (pv 0) pe_int (fun _ _ => rfl)) pa_nil))) pa_nil)) (pv 1))))))), ?_⟩
    have nca : c ≠ a := fun e => by
      rw [e, hH] at hC
      have := Option.some.inj hC
      injection this with e1
      cases ns with
      | nil => cases e1
      | cons n l =>
        rw [List.map_cons] at e1
        injection e1 with e2
        cases e2
    have nac : a ≠ c := fun e => nca e.symm
    refine ⟨fun σ' H' => ∃ (v2 : Option V) (p r t : Int), σ' = [some (.ref a), some (.int many), v2, none] ∧ H' a = some (.lst [.ref c, .int p, .int r, .int t]) ∧ H' c = some (.lst (ns.map V.int)) ∧ (∀ b, b ≠ a → H' b = H b) ∧ 0 ≤ p ∧ p ≤ 64 ∧ 0 ≤ r ∧ 0 ≤ t ∧ t < 2147483629, ?_, ?_⟩
    · refine ⟨_, rfl, a, _, 2, _, rfl, rfl, SqL.of hH, rfl, rfl, _, rfl, ?_⟩
      refine ite2 (fun e1 => ?_) (fun e1 => ?_)
      · refine ⟨_, rfl, a, _, 1, _, rfl, rfl, SqL.of hH, rfl, _, rfl, a, _, 0, _, rfl, rfl, SqL.of hH, rfl, c, _, rfl, .inl (SqL.of hC), _, _, rfl, rfl, _, rfl, ?_⟩
        refine ite2 (fun e2 => ?_) (fun e2 => ?_)
        · have e2 := of_decide_eq_true e2
          rw [List.length_map] at e2
          have hi : p.toNat < ns.length := by omega
          have hp : ((p.toNat : Nat) : Int) = p := by omega
          have hat : atI (ns.map V.int) p = some (.int ns[p.toNat]) := by
            have h := atI_nat (xs := ns.map V.int) (j := p.toNat) (v := .int ns[p.toNat]) (by rw [List.getElem?_map, List.getElem?_eq_getElem hi]; rfl)
            rw [hp] at h
            exact h
          have hcell : 0 ≤ ns[p.toNat] := hns _ (List.getElem_mem hi)
          generalize ns[p.toNat] = cell at hat hcell
          refine ⟨_, rfl, a, _, 0, _, rfl, rfl, SqL.of hH, rfl, _, rfl, a, _, 1, _, rfl, rfl, SqL.of hH, rfl, c, _, p, _, rfl, rfl, SqL.of hC, hat, ?_⟩
          refine ⟨_, rfl, a, _, 1, _, rfl, rfl, SqL.of hH, rfl, _, _, rfl, rfl, _, rfl, a, _, 1, 1, rfl, rfl, hH, rfl, ?_⟩
          have hH1 : (upd H a (.lst [.ref c, .int (p + 1), .int r, .int t])) a = some (.lst [.ref c, .int (p + 1), .int r, .int t]) := upd_same
          have hC1 : (upd H a (.lst [.ref c, .int (p + 1), .int r, .int t])) c = some (.lst (ns.map V.int)) := (upd_ne nca).trans hC
          have hU : ∀ b, b ≠ a → (upd H a (.lst [.ref c, .int (p + 1), .int r, .int t])) b = H b := fun b hb => upd_ne hb
          show tSeq _ _ _ _ (upd H a (.lst [.ref c, .int (p + 1), .int r, .int t]))
          generalize upd H a (.lst [.ref c, .int (p + 1), .int r, .int t]) = H1 at hH1 hC1 hU
          refine ⟨_, rfl, _, _, rfl, rfl, ⟨by decide, by decide, by decide⟩, _, _, rfl, rfl, _, rfl, ?_⟩
          refine ite2 (fun e3 => ?_) (fun e3 => ?_)
          · refine ⟨_, rfl, .inl ⟨_, rfl, _, _, rfl, rfl, (by show (0 : Int) < 2147483647; decide), _, rfl, a, _, 1, _, rfl, rfl, SqL.of hH1, rfl, _, _, rfl, by omega, by omega, by omega, by omega, fun z => .inl ⟨_, rfl, _, rfl, _, _, rfl, rfl, m0, ?_⟩⟩⟩
            exact q _ _ (Int.emod_nonneg _ (by omega)) (Int.emod_lt_of_pos _ m0) ⟨p + 1, r, t, hH1, hC1, hl, hns, by omega, by omega, r0, t0, t1⟩ hU
          · refine ⟨_, rfl, _, rfl, a, _, 2, 2, rfl, rfl, hH1, rfl, ?_⟩
            exact ⟨_, p + 1, cell, t, rfl, upd_same, (upd_ne nca).trans hC1, fun b hb => (upd_ne hb).trans (hU b hb), by omega, by omega, hcell, t0, t1⟩
        · exact ⟨_, p, r, t, rfl, hH, hC, fun _ _ => rfl, p0, p1, r0, t0, t1⟩
      · exact ⟨_, p, r, t, rfl, hH, hC, fun _ _ => rfl, p0, p1, r0, t0, t1⟩
    · clear hH hC p0 p1 r0 t0 t1 p r t
      rintro σ' H1 ⟨v2, p, r, t, rfl, hH, hC, hU, p0, p1, r0, t0, t1⟩
      refine ⟨_, rfl, a, _, 2, _, rfl, rfl, SqL.of hH, rfl, _, _, rfl, rfl, _, rfl, ?_⟩
      refine ite2 (fun e1 => ?_) (fun e1 => ?_)
      · refine ⟨_, rfl, a, _, 2, _, rfl, rfl, SqL.of hH, rfl, ?_⟩
        refine ⟨_, rfl, _, rfl, _, _, rfl, rfl, wide_div m0 m1 (by decide) (by decide), _, rfl, a, _, 2, 2, rfl, rfl, hH, rfl, ?_⟩
        refine ⟨_, rfl, .inl ⟨_, rfl, _, rfl, _, _, rfl, rfl, m0, ?_⟩⟩
        exact q _ _ (Int.emod_nonneg _ (by omega)) (Int.emod_lt_of_pos _ m0) ⟨p, r / many, t, upd_same, (upd_ne nca).trans hC, hl, hns, p0, p1, Int.ediv_nonneg r0 (by omega), t0, t1⟩ fun b hb => (upd_ne hb).trans (hU b hb)
      · refine ⟨_, rfl, a, _, 3, _, rfl, rfl, SqL.of hH, rfl, _, _, rfl, rfl, .inl ⟨_, rfl, _, _, rfl, rfl, (by show (0 : Int) < 2147483629; decide), _, rfl, a, _, 3, 3, rfl, rfl, hH, rfl, ?_⟩⟩
        have hH1 : (upd H1 a (.lst [.ref c, .int p, .int r, .int ((t + 1) % 2147483629)])) a = some (.lst [.ref c, .int p, .int r, .int ((t + 1) % 2147483629)]) := upd_same
        have hC1 : (upd H1 a (.lst [.ref c, .int p, .int r, .int ((t + 1) % 2147483629)])) c = some (.lst (ns.map V.int)) := (upd_ne nca).trans hC
        refine ⟨_, rfl, a, _, 3, _, rfl, rfl, SqL.of hH1, rfl, _, rfl, a, _, 1, _, rfl, rfl, SqL.of hH1, rfl, _, _, rfl, by omega, by omega, by omega, by omega, fun z => .inl ⟨_, rfl, _, rfl, _, _, rfl, rfl, m0, ?_⟩⟩
        exact q _ _ (Int.emod_nonneg _ (by omega)) (Int.emod_lt_of_pos _ m0) ⟨p, r, (t + 1) % 2147483629, hH1, hC1, hl, hns, by omega, by omega, r0, by omega, by omega⟩ fun b hb => (upd_ne hb).trans (hU b hb)
end
theorem same_new {H : Hp} {p : Addr} {o : HO} (h : H p = none) : Same H (upd H p o) := fun b x e => by
  rw [upd_ne (ne_of_none e h)]
  exact e
theorem yes_turn {σ : L2.St} {H : Hp} {te : TE} {Q : VK} {B : Hp → Prop} (h : te σ H Q) : tYes σ H (fun b H3 => if b = true then te σ H3 Q else B H3) := by
  show (if true = true then te σ H Q else B H)
  rw [if_pos rfl]
  exact h
theorem for_enum {K : PySem.W.Frag} {a : Addr} {xs : List V} {g : TG} {tb : TS} {D : Ends} {σ : St} {H : Hp} (Pv : Nat → St → Hp → Prop) (h0 : Pv 0 σ H) (hl : ∀ i σ H, i ≤ xs.length → Pv i σ H → SqL K H a xs)
    (hs : ∀ (i : Nat) x σ H T, xs[i]? = some x → Pv i σ H → H T = none → g (.ref T) σ (upd H T (.tup [.int (i : Nat), x])) fun σ2 H2 => tb { D with nx := Pv (i + 1), ct := Pv (i + 1), bk := D.nx } σ2 H2) (hd : ∀ σ H, Pv xs.length σ H → D.nx σ H) :
    ∃ W : Nat → Nat → St → Hp → Prop, (∃ m, W 0 m σ H) ∧ ∀ i m σ H, W i m σ H →
      ((Ite K a).stop i H ∧ D.nx σ H) ∨ ((Ite K a).go i H ∧ ∃ N : St → Hp → Prop, (∀ σ' H', N σ' H' → ∃ m', m' < m ∧ W (i + 1) m' σ' H') ∧ ∀ x H', (Ite K a).yld i H x H' → g x σ H' fun σ2 H2 => tb { D with nx := N, ct := N, bk := D.nx } σ2 H2) := by
  refine ⟨fun i m σ H => m = xs.length - i ∧ i ≤ xs.length ∧ Pv i σ H, ⟨xs.length, by simp, Nat.zero_le _, h0⟩, ?_⟩
  rintro i m σ H ⟨rfl, hi, p⟩
  have q := hl i σ H hi p
  by_cases hlt : i < xs.length
  · refine .inr ⟨⟨xs, xs[i], q, by simp [hlt]⟩, Pv (i + 1), fun σ' H' p' => ⟨xs.length - (i + 1), by omega, rfl, hlt, p'⟩, fun x H' y => ?_⟩
    obtain ⟨T, x', rfl, nT, rfl, hx⟩ := y
    exact hs i x' σ H T (hx xs q) p nT
  · refine .inl ⟨⟨xs, q, by omega⟩, ?_⟩
    have e : i = xs.length := by omega
    subst e
    exact hd σ H p
section
variable {P : Program} {w : World} {K : PySem.W.Frag} {mg : Str → Option Value} {base : Heap}
abbrev s_hand : Stmt := topS 19
abbrev N_hand : List Str := ["script", "total", "k", "cell"]
theorem sc_hand : FnScope N_hand ["script"] (defScope s_hand) := ⟨rfl, rfl, rfl, by decide +kernel, rfl, by decide +kernel, by decide +kernel⟩
theorem ok_hand {f : Addr} {fd : FuncData} (F : Fun K "_law_hand" "_law_hand" s_hand f fd) (T : Bl mg) : FnOk P w K mg base CX0 1 f fd ["script"] (spHand K) := by
  refine F.ok sc_hand (fun vs H Q E h => ?_) (fun cdv A outer s H vs Q E hr h => ?_)
  · obtain ⟨a, ns, rfl, _⟩ := h
    rfl
  · obtain ⟨a, ns, rfl, hS, hl, q⟩ := h
    refine ⟨_, (pss_cons (ps_set (i := 1) sc_hand.nd rfl (Or.inl rfl) pe_int)
    (pss_cons (ps_for PassesOwn.never rfl (pi_enum (by rfl) T.b_enumerate (pa_cons (pv 0) pa_nil)) (pg_tup rfl (pgs_cons (pg_name (i := 2) sc_hand.nd rfl (Or.inl rfl)) (pgs_cons (pg_name (i := 3) sc_hand.nd rfl (Or.inl rfl)) pgs_nil))) (pss_one (ps_set (i := 1) sc_hand.nd rfl (Or.inl rfl) (pe_op op_mod (pe_callTy call_int1 (by rfl) T.b_int (by decide +kernel) (pa_cons (pe_op op_add (pe_op op_mul (pv 1) pe_int) (pe_op op_mul (pe_callTy call_int1 (by rfl) T.b_int (by decide +kernel) (pa_cons (pv 3) pa_nil)) (pe_op op_add (pv 2) pe_int))) pa_nil)) pe_int))))
    (pss_one (ps_ret (pe_lst (pa_cons (pe_lc (own := [("cell", 3)]) (g := gName 3) rfl sc_hand.nd (pi_list (pv 0)) (blkOk_by (own := [("cell", 3)]) (N := N_hand) (sc := defScope s_hand) (by decide +kernel)) (fun _ _ _ _ _ => pg_name (i := 3) sc_hand.nd rfl (Or.inl rfl)) (fun _ _ _ _ _ => pts_nil) (fun _ _ _ _ _ => (pe_callB call_abs (by rfl) T.b_abs (by decide +kernel) (pa_cons (pe_callTy call_int1 (by rfl) T.b_int (by decide +kernel) (pa_cons (pv 3) pa_nil)) pa_nil)))) (pa_cons pe_int (pa_cons pe_int (pa_cons (pv 1) pa_nil))))))))), ?_⟩
    refine ⟨.ref a, rfl, a, _, rfl, hS, ?_⟩
    refine for_enum (fun i σ' H' => ∃ (t : Int) (v2 v3 : Option V), σ' = [some (.ref a), some (.int t), v2, v3] ∧ Same H H' ∧ 0 ≤ t ∧ t < 2147483629) ⟨0, none, none, rfl, Same.refl _, by decide, by decide⟩ (fun i σ' H' _ ⟨_, _, _, _, sm, _⟩ => sm.seq hS) ?_ ?_
    · rintro i x σ' H' T hx ⟨t, v2, v3, rfl, sm, t0, t1⟩ nT
      obtain ⟨n, rfl⟩ : ∃ n, x = V.int n := by
        rw [List.getElem?_map] at hx
        cases e : ns[i]? with
        | none =>
          rw [e] at hx
          cases hx
        | some u =>
          rw [e] at hx
          exact ⟨u, (Option.some.inj hx).symm⟩
      refine ⟨T, _, rfl, .inl (.inl upd_same), rfl, _, _, rfl, _, _, rfl, rfl, ?_⟩
      refine ⟨_, rfl, _, _, rfl, rfl, .inr (by decide), _, rfl, .inl ⟨_, rfl, _, rfl, _, _, rfl, rfl, _, _, rfl, rfl, .inr ⟨by have := (List.getElem?_eq_some_iff.mp hx).1; rw [List.length_map] at this; omega, by have := (List.getElem?_eq_some_iff.mp hx).1; rw [List.length_map] at this; omega⟩, _, _, rfl, rfl, .inl ⟨_, rfl, _, _, rfl, rfl, (by show (0 : Int) < 2147483629; decide), ?_⟩⟩⟩
      exact ⟨_, _, _, rfl, sm.trans (same_new nT), Int.emod_nonneg _ (by decide), Int.emod_lt_of_pos _ (by decide)⟩
    · rintro σ' H1 ⟨t, v2, v3, rfl, sm, t0, t1⟩
      refine ⟨_, rfl, a, rfl, ⟨_, sm.seq hS⟩, fun D hD => ?_⟩
      refine lc_list (K := K) (xs := ns.map V.int) (fun i H' => Same H1 H' ∧ H' D = some (.lst (((ns.take i).map fun n => if n < 0 then -n else n).map V.int))) ⟨same_new hD, upd_same⟩ (fun i H' _ p => p.1.seq (sm.seq hS)) ?_ ?_
      · rintro i x H' hx ⟨sm', hd⟩
        obtain ⟨n, rfl, hn⟩ : ∃ n, x = V.int n ∧ ns[i]? = some n := by
          rw [List.getElem?_map] at hx
          cases e : ns[i]? with
          | none =>
            rw [e] at hx
            cases hx
          | some u =>
            rw [e] at hx
            exact ⟨u, (Option.some.inj hx).symm, rfl⟩
        have hlt : i < ns.length := (List.getElem?_eq_some_iff.mp hn).1
        refine ⟨rfl, yes_turn ?_⟩
        refine ⟨_, rfl, .inl ⟨_, rfl, _, rfl, _, hd, ?_, ?_, ?_⟩⟩
        · rw [List.length_map, List.length_map, List.length_take]
          exact Nat.lt_of_le_of_lt (Nat.min_le_left _ _) (small1000 (by omega))
        · exact fun b x e => by
            rw [upd_ne (ne_of_none e hD)]
            exact sm' _ _ e
        · rw [upd_same, List.take_add_one, hn, List.map_append, List.map_append]
          rfl
      · rintro H2 ⟨sm', hd⟩
        have hnot : (ns.map V.int).length = ns.length := List.length_map ..
        rw [hnot, List.take_length] at hd
        refine ⟨_, rfl, by show 4 ≤ sizeLine; decide, fun h hh => ?_⟩
        have nDh : D ≠ h := ne_of_none hd hh
        refine q _ h D (ns.map fun n => if n < 0 then -n else n) ?_ ?_ ?_ ⟨0, 0, t, upd_same, (upd_ne nDh).trans hd, by rw [List.length_map]; exact hl, ?_, by decide, by decide, by decide, t0, t1⟩
        · exact (sm.trans sm').trans (same_new hh)
        · exact sm.free (sm'.free hh)
        · exact sm.free hD
        · intro n hn
          obtain ⟨m, _, rfl⟩ := List.mem_map.mp hn
          split <;> omega
end
end K21
namespace Dat
open PySem L2 Evl
/-! ### one of two readings: a list or a tuple -/
def tAlt (t1 t2 : TE) : TE := fun σ H Q => t1 σ H Q ∨ t2 σ H Q
def gAlt (g1 g2 : TG) : TG := fun v σ H Q => g1 v σ H Q ∨ g2 v σ H Q
def iAlt (i1 i2 : TI) : TI := fun σ H R => i1 σ H R ∨ i2 σ H R
section
variable {X : Cx} {e tg : Expr}
theorem pe_alt {t1 t2 : TE} (h1 : PE X e t1) (h2 : PE X e t2) : PE X e (tAlt t1 t2) := ⟨fun pins s σ H Q I h => h.elim (h1.run pins s σ H Q I) (h2.run pins s σ H Q I)⟩
theorem pg_alt {t1 t2 : TG} (h1 : PG X e t1) (h2 : PG X e t2) : PG X e (gAlt t1 t2) := ⟨fun pins s σ H v u Q I r h => h.elim (h1.run pins s σ H v u Q I r) (h2.run pins s σ H v u Q I r)⟩
theorem pi_alt {t1 t2 : TI} (h1 : PI X tg e t1) (h2 : PI X tg e t2) : PI X tg e (iAlt t1 t2) := ⟨fun pins s σ H R I h => h.elim (h1.run pins s σ H R I) (h2.run pins s σ H R I)⟩
end
def sq : Bool → List PyData → PyData
  | true, ds => .tuple ds
  | false, ds => .list ds
section
variable {K : PySem.W.Frag} {te tb : TE} {σ : L2.St} {H : Hp} {D : Ends} {ts ty : TS} {ds : List PyData} {b : Bool} {a c d : PyData}
theorem d_ixS {i : Int} (h : EvD K te σ H (sq b ds)) (r : EvD K tb σ H (.int i)) (e : atI ds i = some d) : EvD K (tAlt (tOp (rIxT K) te tb) (tOp (rIxL K) te tb)) σ H d := fun H1 x Q k => by
  cases b with
  | true => exact .inl (d_ixT h r e H1 x Q k)
  | false => exact .inr (d_ixL h r e H1 x Q k)
theorem g_twoS {i j n : Nat} {v : V} {Q : L2.St → Hp → Prop} (hv : Dp K H v (sq b [a, c])) (hn : n = 2) (k : ∀ x y, Dp K H x a → Dp K H y c → Q ((σ.set i (some x)).set j (some y)) H) : gAlt (gTup K n (gCons (gName i) (gCons (gName j) gNil))) (gLst K n (gCons (gName i) (gCons (gName j) gNil))) v σ H Q := by
  cases b with
  | true => exact .inl (g_two hv hn k)
  | false =>
    refine .inr ?_
    cases hv with
    | lst hs ha =>
      cases ha with
      | cons h1 t1 =>
        cases t1 with
        | cons h2 t2 =>
          cases t2
          exact ⟨_, _, rfl, hs, hn.symm, _, _, rfl, _, _, rfl, rfl, k _ _ h1 h2⟩
/-- x, y = a list or tuple of two -/
theorem z_twoS {i j n : Nat} (h : EvD K te σ H (sq b [a, c])) (k : ∀ x y H1, Ex H H1 → Dp K H1 x a → Dp K H1 y c → ts D ((σ.set i (some x)).set j (some y)) H1) (hn : n = 2 := by rfl) :
    tSeq (tAsg te (gAlt (gTup K n (gCons (gName i) (gCons (gName j) gNil))) (gLst K n (gCons (gName i) (gCons (gName j) gNil))))) ts D σ H := h H (Ex.refl H) _ fun v H1 e hv => g_twoS hv hn fun x y hx hy => k x y H1 e hx hy
/-- for .. in a list or a tuple -/
theorem z_forS {tg : TG} (h : EvD K te σ H (sq b ds)) (Pv : Nat → L2.St → Hp → Prop) (h0 : ∀ H1, Ex H H1 → Pv 0 σ H1)
    (step : ∀ i d v σ' H' (D' : Ends), ds[i]? = some d → Ex H H' → Pv i σ' H' → Dp K H' v d → D'.rt = D.rt → (∀ σ2 H2, Ex H' H2 → Pv (i + 1) σ2 H2 → D'.nx σ2 H2) → tg v σ' H' fun σ2 H2 => ty D' σ2 H2)
    (fin : ∀ σ' H', Ex H H' → Pv ds.length σ' H' → ts D σ' H') : tSeq (tFor (iAlt (iList K te) (iTup K te)) tg ty) ts D σ H := by
  cases b with
  | false =>
    refine .inl (h H (Ex.refl H) _ fun v H1 e hv => ?_)
    cases hv with
    | lst hs ha =>
      rename_i a vs
      refine ⟨a, rfl, ⟨vs, hs⟩, ?_⟩
      have hl := dps_len ha
      refine for_list (fun i σ' H' => Ex H1 H' ∧ Pv i σ' H') ⟨Ex.refl H1, h0 _ e⟩ (fun i σ' H' _ p => ex_l p.1 hs) (fun i x σ' H' hx p => ?_) (fun σ' H' p => fin σ' H' (e.trans p.1) (by rw [← hl]; exact p.2))
      obtain ⟨d, hd, hxd⟩ := dps_back ha hx
      exact step i d x σ' H' _ hd (e.trans p.1) p.2 (dp_grow p.1 _ _ hxd) rfl fun σ2 H2 e2 p2 => ⟨p.1.trans e2, p2⟩
  | true =>
    refine .inr (h H (Ex.refl H) _ fun v H1 e hv => ?_)
    cases hv with
    | tup hs ha =>
      rename_i a vs
      refine ⟨a, rfl, ⟨vs, hs⟩, ?_⟩
      have hl := dps_len ha
      refine for_tup (fun i σ' H' => Ex H1 H' ∧ Pv i σ' H') ⟨Ex.refl H1, h0 _ e⟩ (fun i σ' H' _ p => ex_t p.1 hs) (fun i x σ' H' hx p => ?_) (fun σ' H' p => fin σ' H' (e.trans p.1) (by rw [← hl]; exact p.2))
      obtain ⟨d, hd, hxd⟩ := dps_back ha hx
      exact step i d x σ' H' _ hd (e.trans p.1) p.2 (dp_grow p.1 _ _ hxd) rfl fun σ2 H2 e2 p2 => ⟨p.1.trans e2, p2⟩
end
/-! ### forms -/
abbrev partD (b : Bool) (p : Nat × Rat) : PyData := sq b [.int (p.1 : Int), ratR p.2]
abbrev formD (b : Bool) (c : Rat) (ps : List (Nat × Rat)) : PyData := sq b [ratR c, sq b (ps.map (partD b))]
def valueR (rs : List Rat) (c : Rat) (ps : List (Nat × Rat)) : Rat := ps.foldl (fun v p => v + p.2 * rs.getD p.1 0) c
def fValue (ds : List PyData) (d : PyData) : Prop := ∃ (b r : Bool) (c : Rat) (ps : List (Nat × Rat)) (rs : List Rat), ds = [formD b c ps, sq r (rs.map ratR)] ∧ (∀ p ∈ ps, p.1 < rs.length) ∧ (∀ p ∈ ps, Sz B p.2) ∧ (∀ p ∈ ps, Sz B (p.2 * rs.getD p.1 0)) ∧ (∀ x ∈ rs, Sz B x) ∧ (∀ i, Sz B (valueR rs c (ps.take i))) ∧ d = ratR (valueR rs c ps)
theorem take_next {α : Type} {l : List α} {i : Nat} {a : α} (h : l[i]? = some a) : l.take (i + 1) = l.take i ++ [a] := by
  rw [List.take_add_one, h]
  rfl
theorem value_next {rs : List Rat} {c : Rat} {ps : List (Nat × Rat)} {i : Nat} {p : Nat × Rat} (h : ps[i]? = some p) : valueR rs c (ps.take (i + 1)) = valueR rs c (ps.take i) + p.2 * rs.getD p.1 0 := by
  unfold valueR
  rw [take_next h, List.foldl_append]
  rfl
end Dat
namespace K21
open PySem L2 Evl Dat
section
variable {P : Program} {w : World} {K : PySem.W.Frag} {mg : Str → Option Value} {base : Heap}
abbrev s_form_value : Stmt := topS 13
abbrev N_form_value : List Str := ["form", "registers", "value", "parts", "register", "multiple"]
theorem sc_form_value : FnScope N_form_value ["form", "registers"] (defScope s_form_value) := ⟨rfl, rfl, rfl, by decide +kernel, rfl, by decide +kernel, by decide +kernel⟩
theorem ok_form_value {f : Addr} {fd : FuncData} (F : Fun K "form_value" "form_value" s_form_value f fd) (D_plus : Def P w K mg base CX0 2 "plus" ["one", "other"] (spD K 2 fPlusR)) (D_times : Def P w K mg base CX0 1 "times" ["one", "other"] (spD K 2 fTimesR)) : FnOk P w K mg base CX0 3 f fd ["form", "registers"] (spD K 2 fValue) := by
  refine F.ok sc_form_value (fun vs H Q E h => ?_) (fun cdv A outer s H vs Q E hr h => ?_)
  · obtain ⟨ds, d, hl, hd, _⟩ := h
    exact (dps_len hd).trans hl
  · obtain ⟨ds, d, hl, hd, hf, k⟩ := h
    obtain ⟨b, r, c, ps, rs, rfl, hin, hsz, hsp, hrs, hvs, rfl⟩ := hf
    obtain ⟨v_form, vs, rfl, h_form, hd⟩ := dps_cons hd
    obtain ⟨v_regs, vs, rfl, h_regs, hd⟩ := dps_cons hd
    obtain rfl := dps_nil hd
    refine ⟨_, (pss_cons (ps_asg (pv 0) (pg_alt (pg_tup rfl (pgs_cons (pg_name (i := 2) sc_form_value.nd rfl (Or.inl rfl)) (pgs_cons (pg_name (i := 3) sc_form_value.nd rfl (Or.inl rfl)) pgs_nil))) (pg_lst rfl (pgs_cons (pg_name (i := 2) sc_form_value.nd rfl (Or.inl rfl)) (pgs_cons (pg_name (i := 3) sc_form_value.nd rfl (Or.inl rfl)) pgs_nil)))) rfl)
      (pss_cons (ps_for PassesOwn.never rfl (pi_alt (pi_list (pv 3)) (pi_tup (pv 3))) (pg_alt (pg_tup rfl (pgs_cons (pg_name (i := 4) sc_form_value.nd rfl (Or.inl rfl)) (pgs_cons (pg_name (i := 5) sc_form_value.nd rfl (Or.inl rfl)) pgs_nil))) (pg_lst rfl (pgs_cons (pg_name (i := 4) sc_form_value.nd rfl (Or.inl rfl)) (pgs_cons (pg_name (i := 5) sc_form_value.nd rfl (Or.inl rfl)) pgs_nil))))
        (pss_one (ps_set (i := 2) sc_form_value.nd rfl (Or.inl rfl) (pe_dcall D_plus (hr.mono (by decide)) pass0 (pa_cons (pv 2) (pa_cons (pe_dcall D_times (hr.mono (by decide)) pass0 (pa_cons (pv 5) (pa_cons (pe_alt (pe_ix (r := rIxT K) ix_tup (pv 1) (pv 4) (fun _ _ => rfl)) (pe_ix (r := rIxL K) ix_list (pv 1) (pv 4) (fun _ _ => rfl))) pa_nil))) pa_nil))))))
      (pss_one (ps_ret (pv 2))))), ?_⟩
    refine z_twoS (K := K) (σ := [some v_form, some v_regs, none, none, none, none]) (d_var ⟨_, rfl, h_form⟩) fun x y H1 e hx hy => ?_
    replace h_regs := dp_grow e _ _ h_regs
    refine z_forS (σ := [some v_form, some v_regs, some x, some y, none, none]) (d_var ⟨_, rfl, hy⟩) (fun i σ' H' => ∃ vv x4 x5, σ' = [some v_form, some v_regs, some vv, some y, x4, x5] ∧ Dp K H' vv (ratR (valueR rs c (ps.take i)))) (fun H2 e2 => ⟨_, _, _, rfl, dp_grow e2 _ _ hx⟩) (fun i d v σ' H' D' hd e2 p hv hrt kD => ?_) (fun σ' H' e2 p => ?_)
    · obtain ⟨vv, x4, x5, rfl, hvv⟩ := p
      rw [List.getElem?_map] at hd
      obtain ⟨pt, hpt, rfl⟩ := Option.map_eq_some_iff.mp hd
      have hm := List.mem_of_getElem? hpt
      refine g_twoS hv rfl fun xa xb ha hb => ?_
      have hi := hin _ hm
      have hgr : (rs.map ratR).length = rs.length := List.length_map ..
      have hat : atI (rs.map ratR) (pt.1 : Int) = some (ratR (rs.getD pt.1 0)) := by
        have h := Dat.atI_nat (l := rs.map ratR) (i := pt.1) (x := ratR 0) (by rw [hgr]; exact hi)
        rw [h, List.getD_eq_getElem?_getD, List.getElem?_map, List.getD_eq_getElem?_getD, List.getElem?_eq_getElem hi]
        rfl
      have hrz : Sz B (rs.getD pt.1 0) := hrs _ (by rw [List.getD_eq_getElem?_getD, List.getElem?_eq_getElem hi]; exact List.getElem_mem hi)
      refine z_set1 (K := K) (σ := [some v_form, some v_regs, some vv, some y, some xa, some xb]) (d := ratR (valueR rs c (ps.take i) + pt.2 * rs.getD pt.1 0)) (d_call (ds_cons (d_var ⟨_, rfl, hvv⟩) (ds_cons (d_call (ds_cons (d_var ⟨_, rfl, hb⟩) (ds_cons (d_ixS (d_var ⟨_, rfl, dp_grow e2 _ _ h_regs⟩) (d_var ⟨_, rfl, ha⟩) hat) ds_nil)) rfl ⟨_, _, rfl, hsz _ hm, hrz, rfl⟩) ds_nil)) rfl ⟨_, _, rfl, hvs i, hsp _ hm, rfl⟩) fun v2 H2 e3 h3 => ?_
      refine kD _ _ e3 ⟨_, _, _, rfl, ?_⟩
      rw [value_next hpt]
      exact h3
    · obtain ⟨vv, x4, x5, rfl, hvv⟩ := p
      rw [List.length_map, List.take_length] at hvv
      exact z_ret (K := K) (σ := [some v_form, some v_regs, some vv, some y, x4, x5]) (d_var ⟨_, rfl, hvv⟩) fun v2 H2 e3 h3 => k v2 _ ((e.trans e2).trans e3) h3
end
end K21
namespace Dat
open PySem L2 Evl
/-! ### what stands but for one object that changes -/
def rem (H : Hp) (L : Addr) : Hp := fun a => if a = L then none else H a
section
variable {K : PySem.W.Frag} {H H2 : Hp} {L : Addr} {o : HO}
theorem rem_ne {a : Addr} (h : a ≠ L) : rem H L a = H a := if_neg h
theorem rem_self : rem H L L = none := if_pos rfl
theorem rem_ex : Ex (rem H L) H := fun a u e => by
  by_cases q : a = L
  · subst q
    rw [rem_self] at e
    cases e
  · rw [rem_ne q] at e
    exact e
theorem ex_rem (h : Ex H H2) : Ex (rem H L) (rem H2 L) := fun a u e => by
  by_cases q : a = L
  · subst q
    rw [rem_self] at e
    cases e
  · rw [rem_ne q] at e ⊢
    exact h a u e
theorem rem_upd : rem (upd H L o) L = rem H L := funext fun a => by
  by_cases q : a = L
  · subst q
    rw [rem_self, rem_self]
  · rw [rem_ne q, rem_ne q, upd_ne q]
theorem rem_new (h : H L = none) : rem (upd H L o) L = H := funext fun a => by
  by_cases q : a = L
  · subst q
    rw [rem_self, h]
  · rw [rem_ne q, upd_ne q]
mutual
def flat : PyData → Bool
  | .list _ => false
  | .dict _ => false
  | .tuple ds => flats ds
  | _ => true
def flats : List PyData → Bool
  | [] => true
  | d :: ds => flat d && flats ds
end
def NoTup (o : HO) : Prop := ∀ xs : List V, (o ≠ .tup xs) ∧ (∀ u, o ≠ .frz u (.tup xs))
theorem noTup_l {xs : List V} : NoTup (.lst xs) := fun _ => ⟨(fun e => by cases e), (fun _ e => by cases e)⟩
theorem noTup_d {kvs : List (Key × V)} : NoTup (.dK kvs) := fun _ => ⟨(fun e => by cases e), (fun _ e => by cases e)⟩
theorem st_rem {a : Addr} {xs : List V} (hL : H L = some o) (ho : NoTup o) (h : SqT K H a xs) : SqT K (rem H L) a xs := by
  rcases h with h | h
  · have ne : a ≠ L := fun q => by
      subst q
      rcases h with h | ⟨u, h⟩
      · rw [hL] at h
        exact (ho xs).1 (Option.some.inj h)
      · rw [hL] at h
        exact (ho xs).2 u (Option.some.inj h)
    refine .inl ?_
    rcases h with h | ⟨u, h⟩
    · exact .inl (by rw [rem_ne ne]; exact h)
    · exact .inr ⟨u, by rw [rem_ne ne]; exact h⟩
  · exact .inr h
mutual
theorem dp_rem (hL : H L = some o) (ho : NoTup o) : ∀ (d : PyData) (v : V), flat d = true → Dp K H v d → Dp K (rem H L) v d
  | .none, _, _, h => by
    cases h
    exact .non
  | .bool b, _, _, h => by
    cases h
    exact .bl b
  | .int i, _, _, h => by
    cases h
    exact .int i
  | .str x, _, _, h => by
    cases h
    exact .str x
  | .list ds, _, f, _ => by cases f
  | .tuple ds, _, f, h => by
    cases h with
    | tup hs ha => exact .tup (st_rem hL ho hs) (dps_rem hL ho ds _ f ha)
  | .dict _, _, f, _ => by cases f
theorem dps_rem (hL : H L = some o) (ho : NoTup o) : ∀ (ds : List PyData) (vs : List V), flats ds = true → DpAll K H vs ds → DpAll K (rem H L) vs ds
  | [], _, _, h => by
    cases h
    exact .nil
  | d :: ds, _, f, h => by
    have f' := Bool.and_eq_true_iff.mp f
    cases h with
    | cons h1 h2 => exact .cons (dp_rem hL ho d _ f'.1 h1) (dps_rem hL ho ds _ f'.2 h2)
end
end
section
variable {K : PySem.W.Frag} {te tb : TE} {ta : TA} {σ : L2.St} {H Hb : Hp} {D : Ends} {ts ty : TS} {ds : List PyData} {b : Bool} {a c d : PyData}
/-- for .. in a list or a tuple that stands in a heap Hb, whatever else changes -/
theorem z_forB {tg : TG} {v : V} (hv : Dp K Hb v (sq b ds)) (h : Ev te σ H v) (Pv : Nat → L2.St → Hp → Prop) (h0 : ∀ H1, Ex H H1 → Pv 0 σ H1) (hb : ∀ i σ' H', Pv i σ' H' → Ex Hb H')
    (step : ∀ i d x σ' H' (D' : Ends), ds[i]? = some d → Pv i σ' H' → Dp K Hb x d → D'.rt = D.rt → (∀ σ2 H2, Pv (i + 1) σ2 H2 → D'.nx σ2 H2) → tg x σ' H' fun σ2 H2 => ty D' σ2 H2)
    (fin : ∀ σ' H', Pv ds.length σ' H' → ts D σ' H') : tSeq (tFor (iAlt (iList K te) (iTup K te)) tg ty) ts D σ H := by
  cases b with
  | false =>
    refine .inl (h H (Ex.refl H) _ fun H1 e => ?_)
    cases hv with
    | lst hs ha =>
      rename_i a vs
      refine ⟨a, rfl, ⟨vs, ex_l (hb _ _ _ (h0 _ e)) hs⟩, ?_⟩
      have hl := dps_len ha
      refine for_list Pv (h0 _ e) (fun i σ' H' _ p => ex_l (hb _ _ _ p) hs) (fun i x σ' H' hx p => ?_) (fun σ' H' p => fin σ' H' (by rw [← hl]; exact p))
      obtain ⟨d, hd, hxd⟩ := dps_back ha hx
      exact step i d x σ' H' _ hd p hxd rfl fun σ2 H2 p2 => p2
  | true =>
    refine .inr (h H (Ex.refl H) _ fun H1 e => ?_)
    cases hv with
    | tup hs ha =>
      rename_i a vs
      refine ⟨a, rfl, ⟨vs, ex_t (hb _ _ _ (h0 _ e)) hs⟩, ?_⟩
      have hl := dps_len ha
      refine for_tup Pv (h0 _ e) (fun i σ' H' _ p => ex_t (hb _ _ _ p) hs) (fun i x σ' H' hx p => ?_) (fun σ' H' p => fin σ' H' (by rw [← hl]; exact p))
      obtain ⟨d, hd, hxd⟩ := dps_back ha hx
      exact step i d x σ' H' _ hd p hxd rfl fun σ2 H2 p2 => p2
/-- the item of a list or tuple, as it stands -/
theorem ev_ixS {i : Int} {v : V} (hx : Ex Hb H) (h : Ev te σ H v) (hv : Dp K Hb v (sq b ds)) (e : atI ds i = some d) : ∃ z, Dp K Hb z d ∧ Ev (tAlt (tOp (rIxT K) te (tC (.int i))) (tOp (rIxL K) te (tC (.int i)))) σ H z := by
  cases b with
  | true =>
    cases hv with
    | tup hs ha =>
      obtain ⟨z, hz, hd⟩ := dps_at ha e
      exact ⟨z, hd, fun H1 x Q k => .inl (h H1 x _ fun H2 x2 => ⟨_, _, i, z, rfl, rfl, ex_t (hx.trans (x.trans x2)) hs, hz, k _ x2⟩)⟩
  | false =>
    cases hv with
    | lst hs ha =>
      obtain ⟨z, hz, hd⟩ := dps_at ha e
      exact ⟨z, hd, fun H1 x Q k => .inr (h H1 x _ fun H2 x2 => ⟨_, _, i, z, rfl, rfl, ex_l (hx.trans (x.trans x2)) hs, hz, k _ x2⟩)⟩
theorem d_lenS (h : EvD K te σ H (sq b ds)) : EvD K (tCB (fun xs H Q => ∃ p ys, xs = [.ref p] ∧ (SqL K H p ys ∨ SqT K H p ys) ∧ Q (.int ys.length) H) (tCons te tNil)) σ H (.int ds.length) := by
  cases b with
  | true => exact d_lenT h
  | false => exact d_lenL h
theorem d_tupL (h : EvD K te σ H (.list ds)) : EvD K (tCB (fun xs H Q => ∃ p ys, xs = [.ref p] ∧ ((SqL K H p ys ∧ ∀ l, H l = none → Q (.ref l) (upd H l (.tup ys))) ∨ (SqT K H p ys ∧ Q (.ref p) H))) (tCons te tNil)) σ H (.tuple ds) := fun H1 x Q k =>
  h H1 x _ fun v H2 x2 hv => by
    cases hv with
    | lst hs ha => exact ⟨_, _, rfl, .inl ⟨hs, fun l hl => k _ _ (x2.trans (Ex.new hl)) (.tup (st_of upd_same) (dps_grow (Ex.new hl) _ _ ha))⟩⟩
end
def isListD : PyData → Bool
  | .list _ => true
  | _ => false
def isSeqD (d : PyData) : Bool := isListD d || isTupD d
theorem kit_list (d : PyData) : kitB (kind d) "list" = some (isListD d) := by cases d <;> rfl
def items : PyData → List PyData
  | .list ds => ds
  | .tuple ds => ds
  | _ => []
def coupleD (d : PyData) : Bool := isSeqD d && decide (((items d).length : Int) = 2)
theorem seq_of {t : PyData} (c : isSeqD t = true) : ∃ b, t = sq b (items t) := by
  cases t
  all_goals first | exact ⟨true, rfl⟩ | exact ⟨false, rfl⟩ | cases c
theorem items_sq (b : Bool) (ds : List PyData) : items (sq b ds) = ds := by cases b <;> rfl
theorem couple_of {t : PyData} (c : coupleD t = true) : ∃ b x y, t = sq b [x, y] := by
  obtain ⟨c1, c2⟩ := Bool.and_eq_true_iff.mp c
  obtain ⟨b, hb⟩ := seq_of c1
  have c3 := of_decide_eq_true c2
  generalize items t = ds at hb c3
  have c4 : ds.length = 2 := by omega
  match ds, c4 with
  | [x, y], _ => exact ⟨b, x, y, hb⟩
def fSeq (ds : List PyData) (d : PyData) : Prop := ∃ t, ds = [t, .int 0, .none] ∧ d = .bool (isSeqD t)
def fCouple (ds : List PyData) (d : PyData) : Prop := ∃ t, ds = [t] ∧ d = .bool (coupleD t)
def fSettled (ds : List PyData) (d : PyData) : Prop := ∃ t kp, ds = [t, kp] ∧ SeqAt.shaped t = true ∧ SeqAt.shaped kp = true ∧ d = if PyData.eqv t kp = true then t else kp
end Dat
namespace K21
open PySem L2 Evl Dat
section
variable {P : Program} {w : World} {K : PySem.W.Frag} {mg : Str → Option Value} {base : Heap}
abbrev s_is_sequence : Stmt := topS 9
abbrev N_is_sequence : List Str := ["thing", "least", "most"]
theorem sc_is_sequence : FnScope N_is_sequence ["thing", "least", "most"] (defScope s_is_sequence) := ⟨rfl, rfl, rfl, by decide +kernel, rfl, by decide +kernel, by decide +kernel⟩
theorem ok_is_sequence {f : Addr} {fd : FuncData} (F : FunV K "is_sequence" s_is_sequence [.int 0, .non] f fd) (T : Bl mg) : FnOk P w K mg base CX0 1 f fd ["thing", "least", "most"] (spD K 3 fSeq) := by
  refine F.ok sc_is_sequence (fun vs H Q E h => ?_) (fun cdv A outer s H vs Q E hr h => ?_)
  · obtain ⟨ds, d, hl, hd, _⟩ := h
    exact (dps_len hd).trans hl
  · obtain ⟨ds, d, hl, hd, hf, k⟩ := h
    obtain ⟨t, rfl, rfl⟩ := hf
    obtain ⟨v_t, vs, rfl, h_t, hd⟩ := dps_cons hd
    obtain ⟨v_l, vs, rfl, h_l, hd⟩ := dps_cons hd
    obtain ⟨v_m, vs, rfl, h_m, hd⟩ := dps_cons hd
    obtain rfl := dps_nil hd
    refine ⟨_, (pss_cons (ps_if (pt_not (pt_val (pe_callB call_isiT (by rfl) T.b_isinstance (by decide +kernel) (pa_cons (pv 0) (pa_cons (pe_tup (pa_cons (pe_bltn (v := .ty "list") (by rfl) T.b_list (by decide +kernel) rfl) (pa_cons (pe_bltn (v := .ty "tuple") (by rfl) T.b_tuple (by decide +kernel) rfl) pa_nil))) pa_nil))))) (pss_one (ps_ret pe_bl)) pss_nil)
      (pss_one (ps_ret (pe_and (pe_cmpR op_le (pv 1) (pe_callB call_len_seq (by rfl) T.b_len (by decide +kernel) (pa_cons (pv 0) pa_nil)) (nomark _)) (pe_one (pe_or (pe_cmpR op_isN (pv 2) pe_non (nomark _)) (pe_one (pe_cmpR op_le (pe_callB call_len_seq (by rfl) T.b_len (by decide +kernel) (pa_cons (pv 0) pa_nil)) (pv 2) (nomark _))))))))), ?_⟩
    refine z_if (σ := [some v_t, some v_l, some v_m]) (b_not (b_val (d_isiT (d_var ⟨_, rfl, h_t⟩) (kit_list _) (kit_tuple _)))) (fun c H1 e => ?_) (fun c H1 e => z_next ?_)
    · have c' : isSeqD t = false := by
        have : (!isSeqD t) = true := c
        rwa [Bool.not_eq_true'] at this
      refine z_ret (K := K) (σ := [some v_t, some v_l, some v_m]) d_bl fun v H2 e2 h => ?_
      rw [c'] at k
      exact k v _ (e.trans e2) h
    · have c' : isSeqD t = true := by
        have : (!isSeqD t) = false := c
        rwa [Bool.not_eq_false'] at this
      obtain ⟨b, hb⟩ := seq_of c'
      have hs : EvD K (tVar 0) [some v_t, some v_l, some v_m] H1 (sq b (items t)) := d_var ⟨_, rfl, by rw [← hb]; exact dp_grow e _ _ h_t⟩
      refine z_ret (K := K) (σ := [some v_t, some v_l, some v_m]) (d := .bool true) (d_is (d_and (d_le (d_var ⟨_, rfl, dp_grow e _ _ h_l⟩) (d_lenS hs)) (fun c_0 => d_or (b := true) (d_isN (d_var ⟨_, rfl, dp_grow e _ _ h_m⟩)) (fun c_1 => by cases c_1))) ?_) fun v H2 e2 h => ?_
      · have : decide ((0 : Int) ≤ ((items t).length : Int)) = true := decide_eq_true (by omega)
        rw [this]
        rfl
      · rw [c'] at k
        exact k v _ (e.trans e2) h
abbrev s_is_couple : Stmt := topS 10
abbrev N_is_couple : List Str := ["thing"]
theorem sc_is_couple : FnScope N_is_couple ["thing"] (defScope s_is_couple) := ⟨rfl, rfl, rfl, by decide +kernel, rfl, by decide +kernel, by decide +kernel⟩
theorem ok_is_couple {f : Addr} {fd : FuncData} (F : Fun K "is_couple" "is_couple" s_is_couple f fd) (T : Bl mg) : FnOk P w K mg base CX0 1 f fd ["thing"] (spD K 1 fCouple) := by
  refine F.ok sc_is_couple (fun vs H Q E h => ?_) (fun cdv A outer s H vs Q E hr h => ?_)
  · obtain ⟨ds, d, hl, hd, _⟩ := h
    exact (dps_len hd).trans hl
  · obtain ⟨ds, d, hl, hd, hf, k⟩ := h
    obtain ⟨t, rfl, rfl⟩ := hf
    obtain ⟨v_t, vs, rfl, h_t, hd⟩ := dps_cons hd
    obtain rfl := dps_nil hd
    refine ⟨_, (pss_one (ps_ret (pe_and (pe_callB call_isiT (by rfl) T.b_isinstance (by decide +kernel) (pa_cons (pv 0) (pa_cons (pe_tup (pa_cons (pe_bltn (v := .ty "list") (by rfl) T.b_list (by decide +kernel) rfl) (pa_cons (pe_bltn (v := .ty "tuple") (by rfl) T.b_tuple (by decide +kernel) rfl) pa_nil))) pa_nil))) (pe_one (pe_cmpR op_eq (pe_callB call_len_seq (by rfl) T.b_len (by decide +kernel) (pa_cons (pv 0) pa_nil)) pe_int (nomark _)))))), ?_⟩
    refine z_ret (K := K) (σ := [some v_t]) (d_and (a := isSeqD t) (d_isiT (d_var ⟨_, rfl, h_t⟩) (kit_list _) (kit_tuple _)) (fun c_0 => ?_)) fun v H2 e2 h => k v _ e2 h
    obtain ⟨b, hb⟩ := seq_of c_0
    exact d_eqI (d_lenS (b := b) (d_var ⟨_, rfl, by rw [← hb]; exact h_t⟩)) d_int
abbrev s_settled : Stmt := topS 11
abbrev N_settled : List Str := ["thing", "kept"]
theorem sc_settled : FnScope N_settled ["thing", "kept"] (defScope s_settled) := ⟨rfl, rfl, rfl, by decide +kernel, rfl, by decide +kernel, by decide +kernel⟩
theorem ok_settled {f : Addr} {fd : FuncData} (F : Fun K "settled" "settled" s_settled f fd) : FnOk P w K mg base CX0 1 f fd ["thing", "kept"] (spD K 2 fSettled) := by
  refine F.ok sc_settled (fun vs H Q E h => ?_) (fun cdv A outer s H vs Q E hr h => ?_)
  · obtain ⟨ds, d, hl, hd, _⟩ := h
    exact (dps_len hd).trans hl
  · obtain ⟨ds, d, hl, hd, hf, k⟩ := h
    obtain ⟨t, kp, rfl, s1, s2, rfl⟩ := hf
    obtain ⟨v_t, vs, rfl, h_t, hd⟩ := dps_cons hd
    obtain ⟨v_k, vs, rfl, h_k, hd⟩ := dps_cons hd
    obtain rfl := dps_nil hd
    refine ⟨_, (pss_one (ps_ret (pe_ifExp (pt_cmpR (op_eqD hr.units) (pv 0) (pv 1) (nomark _)) (pv 0) (pv 1)))), ?_⟩
    exact z_ret (K := K) (σ := [some v_t, some v_k]) (d_ite (b_test (d_eqD (d_var ⟨_, rfl, h_t⟩) (d_var ⟨_, rfl, h_k⟩) s1 s2)) (fun _ => d_var ⟨_, rfl, h_t⟩) (fun _ => d_var ⟨_, rfl, h_k⟩)) fun v H2 e2 h => k v _ e2 h
end
end K21
namespace Dat
open PySem L2 Evl
section
variable {K : PySem.W.Frag} {te : TE} {σ : L2.St} {H : Hp} {D : Ends} {ts : TS} {d : PyData}
/-- xs.append(e) on the list at L -/
theorem z_append {L : Addr} {vs : List V} {i : Nat} (hσ : σ[i]? = some (some (.ref L))) (hL : H L = some (.lst vs)) (hl : vs.length ≤ 1000) (h : EvD K te σ H d) (k : ∀ v H2, Ex H H2 → Dp K H2 v d → ts D σ (upd H2 L (.lst (vs ++ [v])))) :
    tSeq (tDrop (tBM K "list" rAppend (tVar i) (tCons te tNil))) ts D σ H :=
  ⟨_, hσ, .inl ⟨rfl, _, SqL.of hL⟩, h H (Ex.refl H) _ fun v H2 e hv => ⟨L, vs, v, rfl, rfl, e _ _ hL, sz_lt (by omega), k v H2 e hv⟩⟩
theorem z_append1 {L : Addr} {vs : List V} {i : Nat} (hσ : σ[i]? = some (some (.ref L))) (hL : H L = some (.lst vs)) (hl : vs.length ≤ 1000) (h : EvD K te σ H d) (k : ∀ v H2, Ex H H2 → Dp K H2 v d → D.nx σ (upd H2 L (.lst (vs ++ [v])))) :
    tDrop (tBM K "list" rAppend (tVar i) (tCons te tNil)) D σ H :=
  ⟨_, hσ, .inl ⟨rfl, _, SqL.of hL⟩, h H (Ex.refl H) _ fun v H2 e hv => ⟨L, vs, v, rfl, rfl, e _ _ hL, sz_lt (by omega), k v H2 e hv⟩⟩
theorem drop_cons {α : Type} {l : List α} {i : Nat} {a : α} (h : l[i]? = some a) : l.drop i = a :: l.drop (i + 1) := by
  obtain ⟨hi, rfl⟩ := List.getElem?_eq_some_iff.mp h
  exact List.drop_eq_getElem_cons hi
/-- x = [] -/
theorem z_nil {i : Nat} (k : ∀ L, H L = none → ts D (σ.set i (some (.ref L))) (upd H L (.lst []))) : tSeq (tAsg (tLst tNil) (gName i)) ts D σ H := ⟨sz_of (by show 0 ≤ 100000; decide), fun L hL => k L hL⟩
end
/-! ### what is kept of a thing as a form -/
def nd0 (t : PyData) : PyData := (items t).getD 0 .none
def nd1 (t : PyData) : PyData := (items t).getD 1 .none
def numI : PyData → Int
  | .int i => i
  | _ => 0
def partOK (n low : Int) (p : PyData) : Bool := coupleD p && (wholeIn (nd0 p) (.int low) (.int (n - 1)) && (ratD (nd1 p) && !PyData.eqv (nd1 p) (rat 0 1)))
def normP (p : PyData) : PyData := .tuple [nd0 p, nd1 p]
def keptParts (n : Int) : Int → List PyData → Option (List PyData)
  | _, [] => some []
  | low, p :: ps => if partOK n low p = true then (keptParts n (numI (nd0 p) + 1) ps).map (normP p :: ·) else none
def keptD (t : PyData) (n : Int) : PyData := if (coupleD t && (ratD (nd0 t) && isSeqD (nd1 t))) = true then (match keptParts n 0 (items (nd1 t)) with
  | some l => .tuple [nd0 t, .tuple l]
  | none => .none) else .none
def fKept (ds : List PyData) (d : PyData) : Prop := ∃ t n, ds = [t, .int n] ∧ (items (nd1 t)).length ≤ 1000 ∧ d = keptD t n
def fIsForm (ds : List PyData) (d : PyData) : Prop := ∃ t n, ds = [t, .int n] ∧ (items (nd1 t)).length ≤ 1000 ∧ d = .bool (!isNone (keptD t n))
theorem rat_two {m : PyData} (c : ratD m = true) : ∃ p q, m = rat p q := by
  unfold ratD at c
  split at c
  · rename_i a b
    obtain ⟨c1, c2⟩ := Bool.and_eq_true_iff.mp c
    obtain ⟨c4, c3⟩ := Bool.and_eq_true_iff.mp c2
    obtain ⟨p, rfl⟩ := int_of c1
    obtain ⟨q, rfl⟩ := int_of c4
    exact ⟨p, q, rfl⟩
  · cases c
theorem part_ok {n low : Int} {p : PyData} (h : partOK n low p = true) : ∃ b r x y, p = sq b [.int r, rat x y] ∧ normP p = .tuple [.int r, rat x y] ∧ numI (nd0 p) = r := by
  unfold partOK at h
  obtain ⟨h1, k2⟩ := Bool.and_eq_true_iff.mp h
  obtain ⟨h2, k3⟩ := Bool.and_eq_true_iff.mp k2
  obtain ⟨h3, k4⟩ := Bool.and_eq_true_iff.mp k3
  obtain ⟨b, u, m, rfl⟩ := couple_of h1
  have e0 : nd0 (sq b [u, m]) = u := by unfold nd0; rw [items_sq]; rfl
  have e1 : nd1 (sq b [u, m]) = m := by unfold nd1; rw [items_sq]; rfl
  rw [e0] at h2
  rw [e1] at h3
  obtain ⟨r, rfl⟩ := int_of h2
  obtain ⟨x, y, rfl⟩ := rat_two h3
  refine ⟨b, r, x, y, rfl, ?_, ?_⟩
  · unfold normP
    rw [e0, e1]
  · rw [e0]
    rfl
theorem lay_sq (b : Bool) (ds : List PyData) : PyData.canLay0 (sq b ds) = PyData.canLayAll0 ds := by cases b <;> rfl
theorem dep_sq (b : Bool) (ds : List PyData) : PyData.depth (sq b ds) = PyData.depthAll ds + 1 := by cases b <;> rfl
theorem kept_shape {n : Int} : ∀ {low : Int} {ds l : List PyData}, keptParts n low ds = some l → (PyData.canLayAll0 ds = true ∧ PyData.depthAll ds ≤ 2) ∧ (PyData.canLayAll0 l = true ∧ PyData.depthAll l ≤ 2) ∧ flats l = true ∧ (PyData.eqvAll ds l = true → ds = l)
  | low, [], l, h => by
    cases h
    exact ⟨⟨rfl, by decide⟩, ⟨rfl, by decide⟩, rfl, fun _ => rfl⟩
  | low, p :: ps, l, h => by
    unfold keptParts at h
    split at h
    · rename_i hp
      obtain ⟨l', hl', rfl⟩ := Option.map_eq_some_iff.mp h
      obtain ⟨b, r, x, y, rfl, en, _⟩ := part_ok hp
      obtain ⟨⟨a1, a2⟩, ⟨a3, a4⟩, a5, a6⟩ := kept_shape hl'
      rw [en]
      have d1 : PyData.depth (sq b [.int r, rat x y]) = 2 := by rw [dep_sq]; rfl
      refine ⟨⟨?_, ?_⟩, ⟨?_, ?_⟩, ?_, ?_⟩
      · show (PyData.canLay0 (sq b [.int r, rat x y]) && PyData.canLayAll0 ps) = true
        rw [lay_sq, a1]
        rfl
      · show max (PyData.depth (sq b [.int r, rat x y])) (PyData.depthAll ps) ≤ 2
        rw [d1]
        omega
      · show (PyData.canLay0 (.tuple [.int r, rat x y]) && PyData.canLayAll0 l') = true
        rw [a3]
        rfl
      · show max 2 (PyData.depthAll l') ≤ 2
        omega
      · show (true && flats l') = true
        rw [a5]
        rfl
      · intro he
        obtain ⟨e1, e2⟩ := Bool.and_eq_true_iff.mp (show (PyData.eqv (sq b [.int r, rat x y]) (.tuple [.int r, rat x y]) && PyData.eqvAll ps l') = true from he)
        rw [a6 e2]
        cases b with
        | true => rfl
        | false => cases e1
    · cases h
/-- one part is settled: it is kept as a tuple -/
theorem settled_part {b : Bool} {r x y : Int} : (if PyData.eqv (sq b [.int r, rat x y]) (.tuple [.int r, rat x y]) = true then sq b [.int r, rat x y] else .tuple [.int r, rat x y]) = .tuple [.int r, rat x y] := by
  cases b with
  | true =>
    show (if _ then PyData.tuple _ else _) = _
    split <;> rfl
  | false => exact if_neg (by intro h; cases h)
theorem settled_all {b b' : Bool} {c : PyData} {ds l : List PyData} (h : PyData.eqvAll ds l = true → ds = l) : (if PyData.eqv (sq b [c, sq b' ds]) (.tuple [c, .tuple l]) = true then sq b [c, sq b' ds] else .tuple [c, .tuple l]) = .tuple [c, .tuple l] := by
  split
  · rename_i he
    cases b with
    | false => cases he
    | true =>
      obtain ⟨_, e2⟩ := Bool.and_eq_true_iff.mp (show (PyData.eqv c c && (PyData.eqv (sq b' ds) (.tuple l) && true)) = true from he)
      cases b' with
      | false => cases e2
      | true =>
        have e3 : PyData.eqvAll ds l = true := (Bool.and_eq_true_iff.mp e2).1
        rw [h e3]
        rfl
  · rfl
end Dat
namespace K21
open PySem L2 Evl Dat
section
variable {P : Program} {w : World} {K : PySem.W.Frag} {mg : Str → Option Value} {base : Heap}
abbrev s_kept_form : Stmt := topS 16
abbrev N_kept_form : List Str := ["thing", "registers", "told", "low", "part", "register", "multiple"]
theorem sc_kept_form : FnScope N_kept_form ["thing", "registers"] (defScope s_kept_form) := ⟨rfl, rfl, rfl, by decide +kernel, rfl, by decide +kernel, by decide +kernel⟩
abbrev psS : List Str := ["thing", "least", "most"]
theorem two_at {b : Bool} {x y : PyData} : atI [x, y] 0 = some x ∧ atI [x, y] 1 = some y := ⟨rfl, rfl⟩
theorem ok_kept_form {f : Addr} {fd : FuncData} {aZ : Addr} (F : Fun K "kept_form" "kept_form" s_kept_form f fd) (T : Bl mg) (gZ : mg "ZERO" = some (.ref aZ)) (hZ : ∀ H, Dp K H (.ref aZ) (rat 0 1))
    (D_is_couple : Def P w K mg base CX0 1 "is_couple" ["thing"] (spD K 1 fCouple)) (D_is_ratio : Def P w K mg base CX0 2 "is_ratio" ["thing"] (spD K 1 fIsRatio)) (D_is_sequence : DefV P w K mg base CX0 1 "is_sequence" psS [.int 0, .non] (spD K 3 fSeq))
    (D_w3 : DW P w K mg base []) (D_settled : Def P w K mg base CX0 1 "settled" ["thing", "kept"] (spD K 2 fSettled)) : FnOk P w K mg base CX0 3 f fd ["thing", "registers"] (spD K 2 fKept) := by
  refine F.ok sc_kept_form (fun vs H Q E h => ?_) (fun cdv A outer s H vs Q E hr h => ?_)
  · obtain ⟨ds, d, hl, hd, _⟩ := h
    exact (dps_len hd).trans hl
  · obtain ⟨ds, d, hl, hd, hf, k⟩ := h
    obtain ⟨t, n, rfl, hmany, rfl⟩ := hf
    obtain ⟨v_t, vs, rfl, h_t, hd⟩ := dps_cons hd
    obtain ⟨v_n, vs, rfl, h_n, hd⟩ := dps_cons hd
    obtain rfl := dps_nil hd
    refine ⟨_, (pss_cons (ps_if (PW.pt (pw_or (pt_not (pt_val (pe_dcall D_is_couple (hr.mono (by decide)) pass0 (pa_cons (pv 0) pa_nil)))) (pw_or (pt_not (pt_val (pe_dcall D_is_ratio (hr.mono (by decide)) pass0 (pa_cons (pe_alt (pe_ix (r := rIxT K) ix_tup (pv 0) pe_int (fun _ _ => rfl)) (pe_ix (r := rIxL K) ix_list (pv 0) pe_int (fun _ _ => rfl))) pa_nil)))) (pw_or1 (pt_not (pt_val (pe_dcallV D_is_sequence (hr.mono (by decide)) pass0 (pa_cons (pe_alt (pe_ix (r := rIxT K) ix_tup (pv 0) pe_int (fun _ _ => rfl)) (pe_ix (r := rIxL K) ix_list (pv 0) pe_int (fun _ _ => rfl))) pa_nil)))))))) (pss_one (ps_ret pe_non)) pss_nil)
    (pss_cons (ps_set (i := 2) sc_kept_form.nd rfl (Or.inl rfl) (pe_lst pa_nil))
    (pss_cons (ps_set (i := 3) sc_kept_form.nd rfl (Or.inl rfl) pe_int)
    (pss_cons (ps_for PassesOwn.never rfl (pi_alt (pi_list (pe_alt (pe_ix (r := rIxT K) ix_tup (pv 0) pe_int (fun _ _ => rfl)) (pe_ix (r := rIxL K) ix_list (pv 0) pe_int (fun _ _ => rfl)))) (pi_tup (pe_alt (pe_ix (r := rIxT K) ix_tup (pv 0) pe_int (fun _ _ => rfl)) (pe_ix (r := rIxL K) ix_list (pv 0) pe_int (fun _ _ => rfl))))) (pg_name (i := 4) sc_kept_form.nd rfl (Or.inl rfl)) (pss_cons (ps_if (pt_not (pt_val (pe_dcall D_is_couple (hr.mono (by decide)) pass0 (pa_cons (pv 4) pa_nil)))) (pss_one (ps_ret pe_non)) pss_nil)
    (pss_cons (ps_asg (pv 4) (pg_alt (pg_tup rfl (pgs_cons (pg_name (i := 5) sc_kept_form.nd rfl (Or.inl rfl)) (pgs_cons (pg_name (i := 6) sc_kept_form.nd rfl (Or.inl rfl)) pgs_nil))) (pg_lst rfl (pgs_cons (pg_name (i := 5) sc_kept_form.nd rfl (Or.inl rfl)) (pgs_cons (pg_name (i := 6) sc_kept_form.nd rfl (Or.inl rfl)) pgs_nil)))) rfl)
    (pss_cons (ps_if (PW.pt (pw_or (pt_not (pt_val (pe_dcallV D_w3 (hr.mono (by decide)) pass0 (pa_cons (pv 5) (pa_cons (pv 3) (pa_cons (pe_op op_sub (pv 1) pe_int) pa_nil)))))) (pw_or (pt_not (pt_val (pe_dcall D_is_ratio (hr.mono (by decide)) pass0 (pa_cons (pv 6) pa_nil)))) (pw_or1 (pt_cmpR (op_eqD hr.units) (pv 6) (pe_glob (v := .ref aZ) rfl gZ rfl) (nomark _)))))) (pss_one (ps_ret pe_non)) pss_nil)
    (pss_cons (ps_expr (pe_bm PySem.F.plainAttrs_list PySem.F.slot_list_append PySem.F.type_list_append mt_append (pv 2) (pa_cons (pe_dcall D_settled (hr.mono (by decide)) pass0 (pa_cons (pv 4) (pa_cons (pe_tup (pa_cons (pv 5) (pa_cons (pv 6) pa_nil))) pa_nil))) pa_nil)))
    (pss_one (ps_set (i := 3) sc_kept_form.nd rfl (Or.inl rfl) (pe_op op_add (pv 5) pe_int))))))))
    (pss_one (ps_ret (pe_dcall D_settled (hr.mono (by decide)) pass0 (pa_cons (pv 0) (pa_cons (pe_tup (pa_cons (pe_alt (pe_ix (r := rIxT K) ix_tup (pv 0) pe_int (fun _ _ => rfl)) (pe_ix (r := rIxL K) ix_list (pv 0) pe_int (fun _ _ => rfl))) (pa_cons (pe_callTy call_tuple_of (by rfl) T.b_tuple (by decide +kernel) (pa_cons (pv 2) pa_nil)) pa_nil))) pa_nil))))))))), ?_⟩
    refine z_if (σ := [some v_t, some v_n, none, none, none, none, none]) (b := !coupleD t || (!ratD (nd0 t) || !isSeqD (nd1 t))) (b_or (b_not (b_val (d_call (ds_cons (d_var ⟨_, rfl, h_t⟩) ds_nil) rfl ⟨_, rfl, rfl⟩))) (fun c_0 => ?_)) (fun c H1 e => ?_) (fun c H1 e => z_next ?_)
    · have c1 : coupleD t = true := by rwa [Bool.not_eq_false'] at c_0
      obtain ⟨b, u, m, rfl⟩ := couple_of c1
      have e0 : nd0 (sq b [u, m]) = u := by unfold nd0; rw [items_sq]; rfl
      have e1 : nd1 (sq b [u, m]) = m := by unfold nd1; rw [items_sq]; rfl
      rw [e0, e1]
      exact b_or (b_not (b_val (d_call (ds_cons (d_ixS (b := b) (d_var ⟨_, rfl, h_t⟩) d_int rfl) ds_nil) rfl ⟨_, rfl, rfl⟩))) (fun c_1 => b_not (b_val (d_callV (ds_cons (d_ixS (b := b) (d_var ⟨_, rfl, h_t⟩) d_int rfl) ds_nil) (fun _ => .cons (.int 0) (.cons .non .nil)) rfl ⟨_, rfl, rfl⟩)))
    · have c' : (coupleD t && (ratD (nd0 t) && isSeqD (nd1 t))) = false := by
        cases h1 : coupleD t <;> cases h2 : ratD (nd0 t) <;> cases h3 : isSeqD (nd1 t) <;> rw [h1, h2, h3] at c <;> first | rfl | cases c
      refine z_ret (K := K) (σ := [some v_t, some v_n, none, none, none, none, none]) d_non fun v H2 e2 h => ?_
      unfold keptD at k
      rw [if_neg (by rw [c']; decide)] at k
      exact k v _ (e.trans e2) h
    · have c' : (coupleD t && (ratD (nd0 t) && isSeqD (nd1 t))) = true := by
        cases h1 : coupleD t <;> cases h2 : ratD (nd0 t) <;> cases h3 : isSeqD (nd1 t) <;> rw [h1, h2, h3] at c <;> first | rfl | cases c
      unfold keptD at k
      rw [if_pos c'] at k
      obtain ⟨c1, k2⟩ := Bool.and_eq_true_iff.mp c'
      obtain ⟨c2, c3⟩ := Bool.and_eq_true_iff.mp k2
      obtain ⟨b, u, m, rfl⟩ := couple_of c1
      have e0 : nd0 (sq b [u, m]) = u := by unfold nd0; rw [items_sq]; rfl
      have e1 : nd1 (sq b [u, m]) = m := by unfold nd1; rw [items_sq]; rfl
      rw [e0] at c2 k
      rw [e1] at c3 k hmany
      clear c1 k2 c' c e0 e1
      obtain ⟨b', hm⟩ := seq_of c3
      generalize items m = ds at hm k hmany
      subst hm
      replace h_t := dp_grow e _ _ h_t
      replace h_n := dp_grow e _ _ h_n
      refine z_nil fun L hL => ?_
      have eL : Ex H1 (upd H1 L (.lst [])) := Ex.new hL
      refine z_set (K := K) (σ := [some v_t, some v_n, some (.ref L), none, none, none, none]) d_int fun v3 H2 e2 h3 => ?_
      have hL2 : H2 L = some (.lst []) := e2 _ _ upd_same
      have eR : Ex H1 (rem H2 L) := by
        have z := ex_rem (L := L) e2
        rw [rem_new hL] at z
        exact z
      clear eL
      cases h3
      obtain ⟨vi, hvi, evi⟩ := ev_ixS (te := tVar 0) (σ := [some v_t, some v_n, some (.ref L), some (.int 0), none, none, none]) (i := 1) (eR.trans rem_ex) (ev_var rfl) h_t (d := sq b' ds) rfl
      have hu := rat_two c2
      refine z_forB (Hb := H1) (b := b') (ds := ds) hvi evi (fun i σ' H' => ∃ low done vs x4 x5 x6, σ' = [some v_t, some v_n, some (.ref L), some (.int low), x4, x5, x6] ∧ keptParts n 0 ds = (keptParts n low (ds.drop i)).map (done ++ ·) ∧ H' L = some (.lst vs) ∧ DpAll K (rem H' L) vs done ∧ done.length = i ∧ Ex H1 (rem H' L))
        (fun Hx ex => ⟨0, [], [], none, none, none, rfl, ?_, ex _ _ hL2, .nil, rfl, eR.trans (ex_rem ex)⟩) (fun i σ' H' p => ?_) (fun i d x σ' H' D' hd p hx hrt kD => ?_) (fun σ' H' p => ?_)
      · rw [List.drop_zero]
        cases keptParts n 0 ds <;> rfl
      · obtain ⟨_, _, _, _, _, _, _, _, _, _, _, ex⟩ := p
        exact ex.trans rem_ex
      · obtain ⟨low, done, vs, x4, x5, x6, rfl, hk, hLs, hdone, hlen, ex⟩ := p
        rw [drop_cons hd] at hk
        have ex' := ex.trans rem_ex
        have hil : i < ds.length := (List.getElem?_eq_some_iff.mp hd).1
        have bad : partOK n low d = false → ∀ v H3, Ex H' H3 → Dp K H3 v .none → D'.rt v H3 := fun hp v H3 e3 h => by
          have hk2 : keptParts n 0 ds = none := by
            rw [hk]
            unfold keptParts
            rw [if_neg (by rw [hp]; decide)]
            rfl
          rw [hk2] at k
          rw [hrt]
          exact k v _ (e.trans (ex'.trans e3)) h
        refine z_if (σ := [some v_t, some v_n, some (.ref L), some (.int low), some x, x5, x6]) (b_not (b_val (d_call (ds_cons (d_var ⟨_, rfl, dp_grow ex' _ _ hx⟩) ds_nil) rfl ⟨_, rfl, rfl⟩))) (fun c H3 e3 => ?_) (fun c H3 e3 => z_next ?_)
        · have hc : coupleD d = false := by rwa [Bool.not_eq_true'] at c
          refine z_ret (K := K) (σ := [some v_t, some v_n, some (.ref L), some (.int low), some x, x5, x6]) d_non fun v H4 e4 h => ?_
          exact bad (by unfold partOK; rw [hc]; rfl) v H4 (e3.trans e4) h
        · have hc : coupleD d = true := by rwa [Bool.not_eq_false'] at c
          obtain ⟨bb, u2, m2, rfl⟩ := couple_of hc
          have e0 : nd0 (sq bb [u2, m2]) = u2 := by unfold nd0; rw [items_sq]; rfl
          have e1 : nd1 (sq bb [u2, m2]) = m2 := by unfold nd1; rw [items_sq]; rfl
          have hpart : partOK n low (sq bb [u2, m2]) = (wholeIn u2 (.int low) (.int (n - 1)) && (ratD m2 && !PyData.eqv m2 (rat 0 1))) := by
            unfold partOK
            rw [hc, e0, e1]
            rfl
          refine z_twoS (K := K) (σ := [some v_t, some v_n, some (.ref L), some (.int low), some x, x5, x6]) (d_var ⟨_, rfl, dp_grow (ex'.trans e3) _ _ hx⟩) fun y5 y6 H4 e4 h5 h6 => ?_
          refine z_if (σ := [some v_t, some v_n, some (.ref L), some (.int low), some x, some y5, some y6]) (b := !wholeIn u2 (.int low) (.int (n - 1)) || (!ratD m2 || PyData.eqv m2 (rat 0 1)))
            (b_or (b_not (b_val (d_callV (ds_cons (d_var ⟨_, rfl, h5⟩) (ds_cons (d_var ⟨_, rfl, .int low⟩) (ds_cons (d_sub (d_var ⟨_, rfl, dp_grow (ex'.trans (e3.trans e4)) _ _ h_n⟩) d_int) ds_nil))) (fun _ => .nil) rfl ⟨_, _, _, rfl, .inr ⟨_, rfl⟩, .inr ⟨_, rfl⟩, rfl⟩)))
              (fun c0 => b_or (b_not (b_val (d_call (ds_cons (d_var ⟨_, rfl, h6⟩) ds_nil) rfl ⟨_, rfl, rfl⟩))) (fun c1 => b_test (d_eqD (d_var ⟨_, rfl, h6⟩) (d_c (d := rat 0 1) hZ) ?_ rfl)))) (fun c2 H5 e5 => ?_) (fun c2 H5 e5 => z_next ?_)
          · obtain ⟨p, q, rfl⟩ := rat_two (by rwa [Bool.not_eq_false'] at c1)
            rfl
          · refine z_ret (K := K) (σ := [some v_t, some v_n, some (.ref L), some (.int low), some x, some y5, some y6]) d_non fun v H6 e6 h => ?_
            refine bad ?_ v H6 (e3.trans (e4.trans (e5.trans e6))) h
            rw [hpart]
            cases g1 : wholeIn u2 (.int low) (.int (n - 1)) <;> cases g2 : ratD m2 <;> cases g3 : PyData.eqv m2 (rat 0 1) <;> rw [g1, g2, g3] at c2 <;> first | rfl | cases c2
          · have hp : partOK n low (sq bb [u2, m2]) = true := by
              rw [hpart]
              cases g1 : wholeIn u2 (.int low) (.int (n - 1)) <;> cases g2 : ratD m2 <;> cases g3 : PyData.eqv m2 (rat 0 1) <;> rw [g1, g2, g3] at c2 <;> first | rfl | cases c2
            obtain ⟨bb', r, px, qx, he, hn, hr'⟩ := part_ok hp
            have hun : u2 = .int r ∧ m2 = rat px qx := by
              have z := congrArg items he
              rw [items_sq, items_sq] at z
              injection z with z1 z2
              injection z2 with z2 _
              exact ⟨z1, z2⟩
            obtain ⟨rfl, rfl⟩ := hun
            cases h5
            have e15 : Ex H1 H5 := ex'.trans (e3.trans (e4.trans e5))
            have hvl : vs.length ≤ 1000 := by
              rw [dps_len hdone, hlen]
              omega
            refine z_append (K := K) (σ := [some v_t, some v_n, some (.ref L), some (.int low), some x, some (.int r), some y6]) (d := .tuple [.int r, rat px qx]) rfl ((e3.trans (e4.trans e5)) _ _ hLs) hvl
              (d_is (d_call (ds_cons (d_var ⟨_, rfl, dp_grow e15 _ _ hx⟩) (ds_cons (d_tup (ds_cons (d_var ⟨_, rfl, .int r⟩) (ds_cons (d_var ⟨_, rfl, dp_grow e5 _ _ h6⟩) ds_nil)) (by show 2 ≤ 1000; decide)) ds_nil)) rfl ⟨_, _, rfl, by unfold SeqAt.shaped; rw [lay_sq, dep_sq]; rfl, rfl, rfl⟩) settled_part) fun v H6 e6 h => ?_
            refine z_set1 (K := K) (σ := [some v_t, some v_n, some (.ref L), some (.int low), some x, some (.int r), some y6]) (d_add (d_var ⟨_, rfl, .int r⟩) d_int) fun v7 H7 e7 h7 => ?_
            cases h7
            have e36 : Ex H' H6 := e3.trans (e4.trans (e5.trans e6))
            have eU : Ex (rem H6 L) (rem H7 L) := by
              have z := ex_rem (L := L) e7
              rwa [rem_upd] at z
            refine kD _ _ ⟨r + 1, done ++ [normP (sq bb [.int r, rat px qx])], vs ++ [v], some x, some (.int r), some y6, rfl, ?_, e7 _ _ upd_same, ?_, ?_, ex.trans ((ex_rem e36).trans eU)⟩
            · rw [hk]
              conv => lhs; unfold keptParts
              rw [if_pos hp, hr', Option.map_map]
              congr 1
              funext l
              show done ++ (_ :: l) = (done ++ [_]) ++ l
              rw [List.append_assoc]
              rfl
            · refine dps_app (dps_grow ((ex_rem e36).trans eU) _ _ hdone) (.cons (dp_grow eU _ _ ?_) .nil)
              rw [hn]
              exact dp_rem (e36 _ _ hLs) noTup_l _ _ rfl h
            · rw [List.length_append, hlen]
              rfl
      · obtain ⟨low, done, vs, x4, x5, x6, rfl, hk, hLs, hdone, hlen, ex⟩ := p
        rw [List.drop_length] at hk
        have hk2 : keptParts n 0 ds = some done := by
          rw [hk]
          show some (done ++ []) = _
          rw [List.append_nil]
        rw [hk2] at k
        obtain ⟨⟨s1, s2⟩, ⟨s3, s4⟩, _, s6⟩ := kept_shape hk2
        obtain ⟨p, q, rfl⟩ := hu
        have hL' : Dp K H' (.ref L) (.list done) := .lst (SqL.of hLs) (dps_grow rem_ex _ _ hdone)
        have ht' := dp_grow (ex.trans rem_ex) _ _ h_t
        refine z_ret (K := K) (σ := [some v_t, some v_n, some (.ref L), some (.int low), x4, x5, x6]) (d := .tuple [rat p q, .tuple done]) (d_is (d_call (ds_cons (d_var ⟨_, rfl, ht'⟩) (ds_cons (d_tup (ds_cons (d_ixS (b := b) (d_var ⟨_, rfl, ht'⟩) d_int rfl) (ds_cons (d_tupL (d_var ⟨_, rfl, hL'⟩)) ds_nil)) (by show 2 ≤ 1000; decide)) ds_nil)) rfl ⟨_, _, rfl, ?_, ?_, rfl⟩) (settled_all s6)) fun v H3 e3 h => ?_
        · unfold SeqAt.shaped
          rw [lay_sq, dep_sq]
          show (true && (PyData.canLay0 (sq b' ds) && true) && decide (max 1 (max (PyData.depth (sq b' ds)) 0) + 1 ≤ 64)) = true
          rw [lay_sq, dep_sq, s1, decide_eq_true (by omega)]
          rfl
        · show (true && (PyData.canLayAll0 done && true) && decide (max 1 (max (PyData.depthAll done + 1) 0) + 1 ≤ 64)) = true
          rw [s3, decide_eq_true (by omega)]
          rfl
        · exact k v _ (e.trans ((ex.trans rem_ex).trans e3)) h
abbrev s_is_form : Stmt := topS 14
abbrev N_is_form : List Str := ["thing", "registers"]
theorem sc_is_form : FnScope N_is_form ["thing", "registers"] (defScope s_is_form) := ⟨rfl, rfl, rfl, by decide +kernel, rfl, by decide +kernel, by decide +kernel⟩
theorem ok_is_form {f : Addr} {fd : FuncData} (F : Fun K "is_form" "is_form" s_is_form f fd) (D_kept_form : Def P w K mg base CX0 3 "kept_form" ["thing", "registers"] (spD K 2 fKept)) : FnOk P w K mg base CX0 4 f fd ["thing", "registers"] (spD K 2 fIsForm) := by
  refine F.ok sc_is_form (fun vs H Q E h => ?_) (fun cdv A outer s H vs Q E hr h => ?_)
  · obtain ⟨ds, d, hl, hd, _⟩ := h
    exact (dps_len hd).trans hl
  · obtain ⟨ds, d, hl, hd, hf, k⟩ := h
    obtain ⟨t, n, rfl, hmany, rfl⟩ := hf
    obtain ⟨v_t, vs, rfl, h_t, hd⟩ := dps_cons hd
    obtain ⟨v_n, vs, rfl, h_n, hd⟩ := dps_cons hd
    obtain rfl := dps_nil hd
    refine ⟨_, (pss_one (ps_ret (pe_cmpR op_notN (pe_dcall D_kept_form (hr.mono (by decide)) pass0 (pa_cons (pv 0) (pa_cons (pv 1) pa_nil))) pe_non (nomark _)))), ?_⟩
    exact z_ret (K := K) (σ := [some v_t, some v_n]) (d_notN (d_call (ds_cons (d_var ⟨_, rfl, h_t⟩) (ds_cons (d_var ⟨_, rfl, h_n⟩) ds_nil)) rfl ⟨_, _, rfl, hmany, rfl⟩)) fun v H1 e h => k v _ e h
end
end K21
namespace Dat
open PySem L2 Evl
section
variable {X : Cx} {CX : CXT} {k : Nat} {f : Addr} {sp : Sp} {E : XK} {x : Str} {e : Expr} {es : List Expr} {t : TA} {p pos : Pos}
/-- f(e, ..) of a def known by FnR -/
theorem pe_callF (F : FnR X.prog X.w X.K X.mg X.base CX k f sp) (hr : Room k X.A) (hk : PySem.W.keepIn X.K (.ref f) = true) (hm : X.mg x = some (.ref f)) (hx : Passes CX X E) (ha : PA X (e :: es) t) (hg : Gl X x := by rfl)
    (hdb : (x == ("__debug__" : Str)) = false := by decide) (he : starEach (e :: es) X.env = (false, eval e X.env) :: starEach es X.env := by rfl) (hpl : (backTo pos (starEach es X.env)).any (·.1) = false := by rfl) :
    PE X (.Call (.Name x p) (e :: es) [] pos) (tCall sp [] E t) := by
  refine ⟨fun pins s σ H Q I h => ?_⟩
  refine wpAny_Call_Name_kw (ld_glob I hg hm ?_ hdb)
  refine PySem.W.callWith_K (h₀ := X.base) I.ok.mod.kin hk (thn (ha.run pos pins s σ H _ I h) fun us s1 ⟨vs, H1, I1, r, q⟩ => ⟨I1.kIn, ?_⟩) he hpl
  have q : sp (vs ++ []) H1 Q E := q
  rw [List.append_nil] at q
  exact wpAny_call (run_fnR F hr hx I1 r q)
end
section
variable {K : PySem.W.Frag} {te tb ty tx : TE} {tt : TT} {ta : TA} {σ : L2.St} {H Hb : Hp} {D : Ends} {ts : TS} {ds : List PyData} {b : Bool} {a c d z : PyData}
/-- d.get(k, x) -/
theorem d_dget2 {T : Addr} {kvs : List (Key × V)} {i : Nat} {k : Int} (hσ : σ[i]? = some (some (.ref T))) (hT : H T = some (.dK kvs)) (hy : EvD K ty σ H (.int k)) (hz : EvD K tx σ H z) (h1 : ∀ v, valV kvs (Sum.inl k) = some v → Dp K H v d) (h2 : valV kvs (Sum.inl k) = none → z = d) :
    EvD K (tDGet2 (tVar i) ty tx) σ H d := fun H1 x Q q => ⟨_, hσ, T, rfl, .inl ⟨kvs, .inl (x _ _ hT)⟩, hy H1 x _ fun v H2 x2 hv => hz H2 (x.trans x2) _ fun w H3 x3 hw => by
  cases hv
  have e := DGet.k (k := Sum.inl k) ((x.trans (x2.trans x3)) _ _ hT)
  refine ⟨_, e, ?_⟩
  cases o : valV kvs (Sum.inl k) with
  | some v => exact q _ _ (x2.trans x3) (dp_grow (x.trans (x2.trans x3)) _ _ (h1 v o))
  | none =>
    have := h2 o
    subst this
    exact q _ _ (x2.trans x3) hw⟩
/-- d[k] -/
theorem d_dget {T : Addr} {kvs : List (Key × V)} {i : Nat} {k : Int} {v : V} (hσ : σ[i]? = some (some (.ref T))) (hT : H T = some (.dK kvs)) (hy : EvD K ty σ H (.int k)) (h1 : valV kvs (Sum.inl k) = some v) (h2 : Dp K H v d) :
    EvD K (tDGet (tVar i) ty) σ H d := fun H1 x Q q => ⟨_, hσ, hy H1 x _ fun u H2 x2 hv => by
  cases hv
  have e := DGet.k (k := Sum.inl k) ((x.trans x2) _ _ hT)
  rw [h1] at e
  exact ⟨T, v, rfl, e, q _ _ x2 (dp_grow (x.trans x2) _ _ h2)⟩⟩
/-- d[k] = e, the last one of a block -/
theorem z_dput1 {T : Addr} {kvs : List (Key × V)} {i : Nat} {k : Int} (hσ : σ[i]? = some (some (.ref T))) (hT : H T = some (.dK kvs)) (hl : kvs.length ≤ 1000) (hv : EvD K te σ H d) (hy : ∀ H1, Ex H H1 → Ev ty σ H1 (.int k)) (q : ∀ v H2 H3, Ex H H2 → Dp K H2 v d → Ex H2 H3 → D.nx σ (upd H3 T (.dK (putK kvs (Sum.inl k) v)))) :
    sDPut (tVar i) ty te D σ H := hv H (Ex.refl H) _ fun v H2 x2 h => ⟨_, hσ, hy _ x2 H2 (Ex.refl H2) _ fun H3 x3 => ⟨T, _, rfl, DPut.k (k := Sum.inl k) ((x2.trans x3) _ _ hT) (sz_lt (by omega)), q v H2 H3 x2 h x3⟩⟩
theorem flat_map {l : List PyData} {g : PyData → PyData} (h : ∀ d ∈ l, flat (g d) = true) : flats (l.map g) = true := by
  induction l with
  | nil => rfl
  | cons d l ih =>
    show (flat (g d) && flats (l.map g)) = true
    rw [h d List.mem_cons_self, ih fun d hd => h d (List.mem_cons_of_mem _ hd)]
    rfl
theorem take_filter {α β : Type} {l : List α} {i : Nat} {a : α} {p : α → Bool} {g : α → β} (h : l[i]? = some a) : ((l.take (i + 1)).filter p).map g = ((l.take i).filter p).map g ++ if p a = true then [g a] else [] := by
  rw [take_next h, List.filter_append, List.map_append]
  congr 1
  by_cases q : p a = true
  · rw [if_pos q, List.filter_cons_of_pos q]
    rfl
  · rw [if_neg q, List.filter_cons_of_neg q]
    rfl
/-- [e for x in xs if t] over data, its items without lists -/
theorem d_lcL {j : Nat} {vs : List Nat} (p : PyData → Bool) (g : PyData → PyData) (h : EvD K tx σ H (.list ds)) (hn : ds.length ≤ 40000) (hw : ∀ x, wipe ((wipe σ vs).set j (some x)) vs = wipe σ vs)
    (hp : ∀ d v H1, Ex H H1 → d ∈ ds → Dp K H1 v d → EvB tt ((wipe σ vs).set j (some v)) H1 (p d)) (he : ∀ d v H1, Ex H H1 → d ∈ ds → p d = true → Dp K H1 v d → EvD K te ((wipe σ vs).set j (some v)) H1 (g d)) (hf : ∀ d ∈ ds, flat (g d) = true) :
    EvD K (tLc (iList K tx) (gName j) tt te vs) σ H (.list ((ds.filter p).map g)) := fun H1 e Q k => by
  refine h H1 e _ fun v H2 e2 hv => ?_
  cases hv with
  | lst hs ha =>
    rename_i a xs
    have hl := dps_len ha
    refine ⟨a, rfl, ⟨xs, hs⟩, fun D hD => ?_⟩
    refine lc_list (K := K) (xs := xs) (fun i H' => ∃ acc, H' D = some (.lst acc) ∧ acc.length ≤ i ∧ Ex H2 (rem H' D) ∧ DpAll K (rem H' D) acc (((ds.take i).filter p).map g)) ⟨[], upd_same, Nat.le_refl _, by rw [rem_new hD]; exact Ex.refl H2, .nil⟩ (fun i H' _ ⟨_, _, _, ex, _⟩ => ex_l (ex.trans rem_ex) hs) ?_ ?_
    · rintro i x H' hx ⟨acc, hacc, hlen, ex, hall⟩
      obtain ⟨d, hd, hxd⟩ := dps_back ha hx
      have hm := List.mem_of_getElem? hd
      have ex0 : Ex H H' := e.trans (e2.trans (ex.trans rem_ex))
      have hi : i < ds.length := (List.getElem?_eq_some_iff.mp hd).1
      have hx' := dp_grow (ex.trans rem_ex) _ _ hxd
      refine ⟨hw x, hp d x H' ex0 hm hx' H' (Ex.refl H') _ fun H3 e3 => ?_⟩
      cases c : p d with
      | true =>
        refine (if_pos rfl : _ = _) ▸ he d x H3 (ex0.trans e3) hm c (dp_grow e3 _ _ hx') H3 (Ex.refl H3) _ fun y H4 e4 hy => ?_
        have e34 := e3.trans e4
        refine ⟨acc, e34 _ _ hacc, sz_lt (by omega), acc ++ [y], upd_same, by rw [List.length_append]; exact Nat.succ_le_succ hlen, ?_, ?_⟩
        · rw [rem_upd]
          exact ex.trans (ex_rem e34)
        · rw [rem_upd, take_filter hd, if_pos c]
          exact dps_app (dps_grow (ex_rem e34) _ _ hall) (.cons (dp_rem (e34 _ _ hacc) noTup_l _ _ (hf d hm) hy) .nil)
      | false =>
        refine (if_neg Bool.false_ne_true : _ = _) ▸ ⟨acc, e3 _ _ hacc, by omega, ex.trans (ex_rem e3), ?_⟩
        rw [take_filter hd, if_neg (by rw [c]; decide), List.append_nil]
        exact dps_grow (ex_rem e3) _ _ hall
    · rintro H3 ⟨acc, hacc, _, ex, hall⟩
      rw [hl, List.take_length] at hall
      exact k _ _ (e2.trans (ex.trans rem_ex)) (.lst (SqL.of hacc) (dps_grow rem_ex _ _ hall))
/-- sorted(d) of a dict of ints -/
theorem d_sortedD {T : Addr} {kvs : List (Key × V)} {i : Nat} {ks : List Int} (hσ : σ[i]? = some (some (.ref T))) (hT : H T = some (.dK kvs)) (hk : kvs.map (·.1) = ks.map Sum.inl) (hl : ks.length < 64) :
    EvD K (tCB (fun xs H Q => ∃ (a : Addr) (kvs : List (Key × V)) (ks : List Int), xs = [.ref a] ∧ Rd H a (.dK kvs) ∧ kvs.map (·.1) = ks.map Sum.inl ∧ ks.length < 64 ∧
    ∀ (ys : List Int) (p : Addr), ys.Perm ks → ys.Pairwise (· ≤ ·) → H p = none → Q (.ref p) (upd H p (.lst (ys.map V.int)))) (tCons (tVar i) tNil)) σ H (.list ((PySem.W.sortI ks).map PyData.int)) := fun H1 x Q q =>
  ⟨_, hσ, T, kvs, ks, rfl, .inl (x _ _ hT), hk, hl, fun ys p hp hs hn => q _ _ (Ex.new hn) (.lst (SqL.of upd_same) (by
    rw [PySem.W.eq_sortI hp hs]
    generalize PySem.W.sortI ks = zs
    generalize upd H1 p _ = H2
    induction zs with
    | nil => exact .nil
    | cons y ys ih => exact .cons (.int y) ih))⟩
end
end Dat
namespace Dat
open PySem L2 Evl
section
variable {K : PySem.W.Frag} {σ : L2.St} {H : Hp} {D : Ends} {ts : TS}
theorem z_dnew {i : Nat} (k : ∀ T, H T = none → ts D (σ.set i (some (.ref T))) (upd H T (.dK []))) : tSeq (tAsg tDNewK (gName i)) ts D σ H := fun T hT => k T hT
end
/-- what the parts add up to at a register -/
def sumAt (ps : List (Nat × Rat)) (s : Nat) : Rat := ps.foldl (fun a p => if p.1 = s then a + p.2 else a) 0
theorem sumAt_snoc (ps : List (Nat × Rat)) (p : Nat × Rat) (s : Nat) : sumAt (ps ++ [p]) s = if p.1 = s then sumAt ps s + p.2 else sumAt ps s := by
  unfold sumAt
  rw [List.foldl_append]
  rfl
theorem sumAt_none {s : Nat} : ∀ {ps : List (Nat × Rat)} {a : Rat}, s ∉ ps.map (·.1) → ps.foldl (fun a p => if p.1 = s then a + p.2 else a) a = a
  | [], _, _ => rfl
  | p :: ps, a, h => by
    have h1 : p.1 ≠ s := fun e => h (by rw [List.map_cons, e]; exact List.mem_cons_self)
    show ps.foldl _ (if p.1 = s then a + p.2 else a) = a
    rw [if_neg h1]
    exact sumAt_none fun m => h (List.mem_cons_of_mem _ m)
/-- the registers whose multiple is not 0, ascending -/
def dueL (ps : List (Nat × Rat)) : List (Nat × Rat) := ((List.range 24).filter fun s => decide (sumAt ps s ≠ 0)).map fun s => (s, sumAt ps s)
def fMake (ds : List PyData) (d : PyData) : Prop := ∃ (c : Rat) (ps : List (Nat × Rat)), ds = [ratR c, .tuple (ps.map (partD true))] ∧ ps.length ≤ 20 ∧ (∀ p ∈ ps, p.1 < 24 ∧ Sz B p.2) ∧ (∀ i s, Sz B (sumAt (ps.take i) s)) ∧ d = formD true c (dueL ps)
/-- what the dict holds behind some parts -/
def DOk (K : PySem.W.Frag) (H : Hp) (kvs : List (Key × V)) (ks : List Nat) (l : List (Nat × Rat)) : Prop :=
  kvs.map (·.1) = ks.map (fun s : Nat => (Sum.inl (s : Int) : Key)) ∧ ks.Nodup ∧ ks.length ≤ l.length ∧ (∀ s, s ∈ ks ↔ s ∈ l.map (·.1)) ∧ ∀ s ∈ ks, ∃ v, valV kvs (Sum.inl (s : Int)) = some v ∧ Dp K H v (ratR (sumAt l s))
theorem key_inj {s t : Nat} (h : (Sum.inl (s : Int) : Key) = Sum.inl (t : Int)) : s = t := by
  injection h with h
  omega
theorem valV_mem {kvs : List (Key × V)} {k : Key} : k ∈ kvs.map (·.1) ↔ ∃ v, valV kvs k = some v := by
  have z := valV_any k kvs
  constructor
  · intro h
    obtain ⟨kv, hm, e⟩ := List.mem_map.mp h
    have : (kvs.any fun kv => decide (kv.1 = k)) = true := List.any_eq_true.mpr ⟨kv, hm, decide_eq_true e⟩
    rw [z] at this
    exact Option.isSome_iff_exists.mp this
  · intro h
    have : (valV kvs k).isSome = true := Option.isSome_iff_exists.mpr h
    rw [← z] at this
    obtain ⟨kv, hm, e⟩ := List.any_eq_true.mp this
    exact List.mem_map.mpr ⟨kv, hm, of_decide_eq_true e⟩
theorem keys_put {kvs : List (Key × V)} {k : Key} {v : V} (h : k ∈ kvs.map (·.1)) : (putK kvs k v).map (·.1) = kvs.map (·.1) := by
  have z := valV_any k kvs
  rw [Option.isSome_iff_exists.mpr (valV_mem.mp h)] at z
  unfold putK
  rw [if_pos z, List.map_map]
  refine List.map_congr_left fun kv _ => ?_
  show (if kv.1 = k then (kv.1, v) else kv).1 = kv.1
  split <;> rfl
section
variable {K : PySem.W.Frag} {H H' : Hp}
theorem DOk.grow {kvs : List (Key × V)} {ks : List Nat} {l : List (Nat × Rat)} (e : Ex H H') (h : DOk K H kvs ks l) : DOk K H' kvs ks l :=
  ⟨h.1, h.2.1, h.2.2.1, h.2.2.2.1, fun s hs => by
    obtain ⟨v, h1, h2⟩ := h.2.2.2.2 s hs
    exact ⟨v, h1, dp_grow e _ _ h2⟩⟩
theorem DOk.put {kvs : List (Key × V)} {ks : List Nat} {l : List (Nat × Rat)} {p : Nat × Rat} {v : V} (h : DOk K H kvs ks l) (hv : Dp K H v (ratR (sumAt l p.1 + p.2))) : ∃ ks', DOk K H (putK kvs (Sum.inl (p.1 : Int)) v) ks' (l ++ [p]) := by
  obtain ⟨h1, h2, h3, h4, h5⟩ := h
  have sm : ∀ s, s ∈ (l ++ [p]).map (·.1) ↔ s ∈ l.map (·.1) ∨ s = p.1 := fun s => by
    rw [List.map_append, List.mem_append]
    refine or_congr Iff.rfl ?_
    exact List.mem_singleton
  have hval : ∀ s, s ≠ p.1 → ∀ u, valV kvs (Sum.inl (s : Int)) = some u → Dp K H u (ratR (sumAt l s)) → ∃ v', valV (putK kvs (Sum.inl (p.1 : Int)) v) (Sum.inl (s : Int)) = some v' ∧ Dp K H v' (ratR (sumAt (l ++ [p]) s)) := fun s hs u hu hd => by
    refine ⟨u, ?_, ?_⟩
    · rw [valV_put, if_neg (fun e => hs (key_inj e))]
      exact hu
    · rw [sumAt_snoc, if_neg (fun e => hs e.symm)]
      exact hd
  have hnew : ∃ v', valV (putK kvs (Sum.inl (p.1 : Int)) v) (Sum.inl (p.1 : Int)) = some v' ∧ Dp K H v' (ratR (sumAt (l ++ [p]) p.1)) := by
    refine ⟨v, ?_, ?_⟩
    · rw [valV_put, if_pos rfl]
    · rw [sumAt_snoc, if_pos rfl]
      exact hv
  by_cases hm : p.1 ∈ ks
  · refine ⟨ks, ?_, h2, by rw [List.length_append]; omega, fun s => ?_, fun s hs => ?_⟩
    · rw [keys_put (by rw [h1]; exact List.mem_map.mpr ⟨_, hm, rfl⟩)]
      exact h1
    · rw [sm, ← h4]
      constructor
      · exact Or.inl
      · rintro (a | rfl)
        · exact a
        · exact hm
    · by_cases e : s = p.1
      · rw [e]
        exact hnew
      · obtain ⟨u, a, b⟩ := h5 s hs
        exact hval s e u a b
  · have hnone : valV kvs (Sum.inl (p.1 : Int)) = none := by
      cases q : valV kvs (Sum.inl (p.1 : Int)) with
      | none => rfl
      | some u =>
        have := valV_mem.mpr ⟨u, q⟩
        rw [h1] at this
        obtain ⟨s, hs, e⟩ := List.mem_map.mp this
        exact absurd (key_inj e ▸ hs) hm
    refine ⟨ks ++ [p.1], ?_, ?_, ?_, fun s => ?_, fun s hs => ?_⟩
    · rw [putK_new v hnone, List.map_append, List.map_append, h1]
      rfl
    · rw [List.nodup_append]
      refine ⟨h2, List.nodup_cons.mpr ⟨by simp, List.nodup_nil⟩, fun a ha b hb e => ?_⟩
      rw [List.mem_singleton.mp hb] at e
      exact hm (e ▸ ha)
    · rw [List.length_append, List.length_append]
      exact Nat.succ_le_succ h3
    · rw [sm, List.mem_append, List.mem_singleton, ← h4]
    · rcases List.mem_append.mp hs with a | a
      · by_cases e : s = p.1
        · rw [e]
          exact hnew
        · obtain ⟨u, x, y⟩ := h5 s a
          exact hval s e u x y
      · rw [List.mem_singleton.mp a]
        exact hnew
end
/-! ### the sorted registers are those of the range -/
theorem nodup_ints {ks : List Nat} (h : ks.Nodup) : (ks.map fun s : Nat => (s : Int)).Nodup := by
  rw [List.nodup_iff_pairwise_ne, List.pairwise_map]
  rw [List.nodup_iff_pairwise_ne] at h
  exact h.imp fun a e => a (by omega)
theorem sorted_due {ps : List (Nat × Rat)} {ks : List Nat} (hn : ks.Nodup) (hm : ∀ s, s ∈ ks ↔ s ∈ ps.map (·.1)) (h24 : ∀ p ∈ ps, p.1 < 24) (f : Nat → Bool) (hf : ∀ s, s ∉ ps.map (·.1) → f s = false) :
    (PySem.W.sortI (ks.map fun s : Nat => (s : Int))).filter (fun i => f i.toNat) = ((List.range 24).filter f).map fun s : Nat => (s : Int) := by
  have hp := PySem.W.sortI_perm (ks.map fun s : Nat => (s : Int))
  have e1 : ((List.range 24).filter f).map (fun s : Nat => (s : Int)) = ((List.range 24).map fun s : Nat => (s : Int)).filter fun i => f i.toNat := by
    rw [List.filter_map]
    rfl
  rw [e1]
  refine List.Perm.eq_of_pairwise (le := fun a b : Int => a ≤ b) (fun _ _ _ _ a b => Int.le_antisymm a b) ((PySem.W.sortI_rises _).filter _) (List.Pairwise.filter _ ?_) ?_
  · rw [List.pairwise_map]
    exact List.pairwise_lt_range.imp fun h => by omega
  · rw [List.perm_ext_iff_of_nodup ((hp.nodup_iff.mpr (nodup_ints hn)).filter _) ((nodup_ints List.nodup_range).filter _)]
    intro a
    rw [List.mem_filter, List.mem_filter, hp.mem_iff, List.mem_map, List.mem_map]
    constructor
    · rintro ⟨⟨s, hs, rfl⟩, c⟩
      have := (hm s).mp hs
      obtain ⟨p, hpm, e⟩ := List.mem_map.mp this
      exact ⟨⟨s, List.mem_range.mpr (e ▸ h24 p hpm), rfl⟩, c⟩
    · rintro ⟨⟨s, hs, rfl⟩, c⟩
      refine ⟨⟨s, (hm s).mpr ?_, rfl⟩, c⟩
      refine Classical.byContradiction fun z => ?_
      have := hf s z
      have c' : f s = true := c
      rw [this] at c'
      cases c'
theorem eqv_zero (x : Rat) : PyData.eqv (ratR x) (rat 0 1) = decide (x = 0) := by
  show (x.num == 0 && ((x.den : Int) == 1 && true)) = _
  by_cases h : x = 0
  · rw [h]
    rfl
  · rw [decide_eq_false h]
    have : x.num ≠ 0 := fun e => h (by rwa [Rat.num_eq_zero] at e)
    rw [beq_eq_false_iff_ne.mpr this]
    rfl
end Dat
namespace K21
open PySem L2 Evl Dat
section
variable {P : Program} {w : World} {K : PySem.W.Frag} {mg : Str → Option Value} {base : Heap}
abbrev s_make_form : Stmt := topS 15
abbrev N_make_form : List Str := ["constant", "parts", "totals", "register", "multiple", "told"]
theorem sc_make_form : FnScope N_make_form ["constant", "parts"] (defScope s_make_form) := ⟨rfl, rfl, rfl, by decide +kernel, rfl, by decide +kernel, by decide +kernel⟩
def spMake (K : PySem.W.Frag) : Sp := fun vs H Q _ => ∃ (c : Rat) (ps : List (Nat × Rat)), DpAll K H vs (ratR c :: ps.map (partD true)) ∧ ps.length ≤ 20 ∧ (∀ p ∈ ps, p.1 < 24 ∧ Sz B p.2) ∧ (∀ i s, Sz B (sumAt (ps.take i) s)) ∧ ∀ v H', Ex H H' → Dp K H' v (formD true c (dueL ps)) → Q v H'
theorem ok_make_form {f : Addr} {fd : FuncData} {aZ : Addr} (F : Fun K "make_form" "make_form" s_make_form f fd) (T : Bl mg) (bS : mg "sorted" = none) (gZ : mg "ZERO" = some (.ref aZ)) (hZ : ∀ H, Dp K H (.ref aZ) (rat 0 1))
    (D_plus : Def P w K mg base CX0 2 "plus" ["one", "other"] (spD K 2 fPlusR)) : FnR P w K mg base CX0 3 f (spMake K) := by
  obtain ⟨oc, od, kV, doc, pm, an, cdv, ct, osl, rfl, lk, hcd⟩ := F.ex
  have R := StX.fn_star (P := P) (w := w) (mg := mg) (base := base) (k := 2) (ps := ["constant"]) (pv := "parts") (CX := CX0) (sp := spD K 2 fMake) lk hcd sc_make_form StX.cxUp_none (fun us rest hl => StX.bind_star1 (p1 := "constant") (pv := "parts") (B := fun xs => bindArgs (PySem.W.fnOf "make_form" "make_form" (defArgs s_make_form) (defBody s_make_form) (defScope s_make_form) .none kV doc pm an cdv ct) ⟨xs, []⟩) (fun _ => rfl) (fun _ _ _ => rfl) us rest hl) (fun A outer s H vs Q E hr h => ?_)
  · refine R.imp fun vs H Q E h => ?_
    obtain ⟨c, ps, hd, hlen, h24, hsz, k⟩ := h
    obtain ⟨vc, ws, rfl, hc, hd⟩ := dps_cons hd
    refine ⟨[vc], ws, rfl, rfl, sz_of (by rw [dps_len hd, List.length_map]; omega), fun p hp => ⟨[ratR c, .tuple (ps.map (partD true))], _, rfl, .cons (dp_grow (Ex.new hp) _ _ hc) (.cons (.tup (SqT.of upd_same) (dps_grow (Ex.new hp) _ _ hd)) .nil), ⟨c, ps, rfl, hlen, h24, hsz, rfl⟩, fun v H' e hv => k v H' ((Ex.new hp).trans e) hv⟩⟩
  · obtain ⟨ds, d, hl, hd, hf, k⟩ := h
    obtain ⟨c, ps, rfl, hlen, h24, hsz, rfl⟩ := hf
    obtain ⟨v_c, vs, rfl, h_c, hd⟩ := dps_cons hd
    obtain ⟨v_p, vs, rfl, h_p, hd⟩ := dps_cons hd
    obtain rfl := dps_nil hd
    refine ⟨_, PSs.nox (pss_cons (ps_set (i := 2) sc_make_form.nd rfl (Or.inr rfl) pe_dnewK)
    (pss_cons (ps_for PassesOwn.never rfl (pi_alt (pi_list (pv 1)) (pi_tup (pv 1))) (pg_alt (pg_tup rfl (pgs_cons (pg_name (i := 3) sc_make_form.nd rfl (Or.inl rfl)) (pgs_cons (pg_name (i := 4) sc_make_form.nd rfl (Or.inl rfl)) pgs_nil))) (pg_lst rfl (pgs_cons (pg_name (i := 3) sc_make_form.nd rfl (Or.inl rfl)) (pgs_cons (pg_name (i := 4) sc_make_form.nd rfl (Or.inl rfl)) pgs_nil)))) (pss_one (ps_dput (hu_of hr) (pv 2) (pv 3) (pe_dcall D_plus (hr.mono (by decide)) pass0 (pa_cons (pe_dget2 (hu_of hr) (pv 2) (pv 3) (pe_glob (v := .ref aZ) rfl gZ rfl) ⟨rfl, rfl, rfl, rfl⟩) (pa_cons (pv 4) pa_nil))) rfl)))
    (pss_cons (ps_setLc (i := 5) (own := [("register", 3)]) (g := gName 3) rfl sc_make_form.nd rfl rfl (sw_true rfl rfl rfl (by decide +kernel)) (pi_list (pe_callB (call_sortedDI rfl) (by rfl) bS (by decide +kernel) (pa_cons (pv 2) pa_nil))) (blkOk_by (own := [("register", 3)]) (N := N_make_form) (sc := defScope s_make_form) (by decide +kernel)) (fun _ _ _ _ _ => pg_name (i := 3) sc_make_form.nd rfl (Or.inl rfl)) (fun _ _ _ _ _ => (pts_one (pt_cmpR (r := rNeD K) (op_neD hr.units) (pe_dget (hu_of hr) (pv 2) (pv 3) (fun _ _ => rfl)) (pe_glob (v := .ref aZ) rfl gZ rfl) (nomark _)))) (fun _ _ _ _ _ => (pe_tup (pa_cons (pv 3) (pa_cons (pe_dget (hu_of hr) (pv 2) (pv 3) (fun _ _ => rfl)) pa_nil)))))
    (pss_one (ps_ret (pe_tup (pa_cons (pv 0) (pa_cons (pe_callTy call_tuple_of (by rfl) T.b_tuple (by decide +kernel) (pa_cons (pv 5) pa_nil)) pa_nil)))))))), ?_⟩
    refine z_dnew fun T hT => ?_
    refine z_forB (Hb := H) (b := true) (ds := ps.map (partD true)) (σ := [some v_c, some v_p, some (.ref T), none, none, none]) h_p (ev_var rfl) (fun i σ' H' => ∃ kvs ks x3 x4, σ' = [some v_c, some v_p, some (.ref T), x3, x4, none] ∧ H' T = some (.dK kvs) ∧ DOk K (rem H' T) kvs ks (ps.take i) ∧ Ex H (rem H' T))
      (fun H1 e1 => ⟨[], [], none, none, rfl, e1 _ _ upd_same, ⟨rfl, List.nodup_nil, Nat.le_refl _, fun s => Iff.rfl, fun s hs => by cases hs⟩, ?_⟩) (fun i σ' H' p => ?_) (fun i d x σ' H' D' hd p hx hrt kD => ?_) (fun σ' H' p => ?_)
    · have z := ex_rem (L := T) e1
      rw [rem_new hT] at z
      exact z
    · obtain ⟨_, _, _, _, _, _, _, ex⟩ := p
      exact ex.trans rem_ex
    · obtain ⟨kvs, ks, x3, x4, rfl, hT', hok, ex⟩ := p
      rw [List.getElem?_map] at hd
      obtain ⟨pt, hpt, rfl⟩ := Option.map_eq_some_iff.mp hd
      have hm := List.mem_of_getElem? hpt
      have ex' := ex.trans rem_ex
      refine g_twoS (b := true) (dp_grow ex' _ _ hx) rfl fun xa xb ha hb => ?_
      cases ha
      have hkl : kvs.length ≤ 1000 := by
        have z := congrArg List.length hok.1
        rw [List.length_map, List.length_map] at z
        have z2 := hok.2.2.1
        rw [List.length_take] at z2
        omega
      refine z_dput1 (σ := [some v_c, some v_p, some (.ref T), some (.int (pt.1 : Int)), some xb, none]) (k := (pt.1 : Int)) (d := ratR (sumAt (ps.take i) pt.1 + pt.2)) rfl hT' hkl
        (d_call (ds_cons (d_dget2 (d := ratR (sumAt (ps.take i) pt.1)) rfl hT' (d_var ⟨_, rfl, .int _⟩) (d_c (d := rat 0 1) hZ) (fun v hv => ?_) (fun hv => ?_)) (ds_cons (d_var ⟨_, rfl, hb⟩) ds_nil)) rfl ⟨_, _, rfl, hsz i _, (h24 _ hm).2, rfl⟩)
        (fun H1 e1 => ev_var rfl) (fun v H2 H3 e2 hv e3 => ?_)
      · have hmem : pt.1 ∈ ks := by
          have z := valV_mem.mpr ⟨v, hv⟩
          rw [hok.1] at z
          obtain ⟨s, hs, e⟩ := List.mem_map.mp z
          exact key_inj e ▸ hs
        obtain ⟨u, hu, hdu⟩ := hok.2.2.2.2 _ hmem
        rw [hv] at hu
        cases hu
        exact dp_grow rem_ex _ _ hdu
      · have hmem : pt.1 ∉ (ps.take i).map (·.1) := fun z => by
          obtain ⟨u, hu, _⟩ := hok.2.2.2.2 _ ((hok.2.2.2.1 _).mpr z)
          rw [hv] at hu
          cases hu
        unfold sumAt
        rw [sumAt_none hmem]
        rfl
      · have e23 := ex_rem (L := T) (e2.trans e3)
        obtain ⟨ks', hok'⟩ := DOk.put (DOk.grow e23 hok) (dp_grow (ex_rem e3) _ _ (dp_rem (e2 _ _ hT') noTup_d _ _ rfl hv))
        refine kD _ _ ⟨_, ks', some (.int (pt.1 : Int)), some xb, rfl, upd_same, ?_, ?_⟩
        · rw [rem_upd, take_next hpt]
          exact hok'
        · rw [rem_upd]
          exact ex.trans e23
    · obtain ⟨kvs, ks, x3, x4, rfl, hT', hok, ex⟩ := p
      rw [List.length_map, List.take_length] at hok
      have hok2 := DOk.grow rem_ex hok
      have ex' := ex.trans rem_ex
      have hkeys : kvs.map (·.1) = (ks.map fun s : Nat => (s : Int)).map Sum.inl := by
        rw [hok.1, List.map_map]
        rfl
      have hkl : ks.length ≤ 20 := Nat.le_trans hok.2.2.1 hlen
      have hin : ∀ d ∈ (PySem.W.sortI (ks.map fun s : Nat => (s : Int))).map PyData.int, ∃ s ∈ ks, d = .int (s : Int) := fun d hd => by
        obtain ⟨i, hi, rfl⟩ := List.mem_map.mp hd
        obtain ⟨s, hs, rfl⟩ := List.mem_map.mp ((PySem.W.sortI_perm _).mem_iff.mp hi)
        exact ⟨s, hs, rfl⟩
      refine z_set (K := K) (σ := [some v_c, some v_p, some (.ref T), x3, x4, none]) (d := .list ((dueL ps).map (partD true))) (d_is (d_lcL (fun d => !PyData.eqv (ratR (sumAt ps (numI d).toNat)) (rat 0 1)) (fun d => .tuple [d, ratR (sumAt ps (numI d).toNat)])
        (d_sortedD rfl hT' hkeys (by rw [List.length_map]; omega)) ?_ (fun _ => rfl) (fun d v H1 e1 hd hv => ?_) (fun d v H1 e1 hd _ hv => ?_) (fun d hd => ?_)) ?_) fun v H1 e1 hv => ?_
      · rw [List.length_map, (PySem.W.sortI_perm _).length_eq, List.length_map]
        omega
      · obtain ⟨s, hs, rfl⟩ := hin d hd
        obtain ⟨u, hu, hdu⟩ := hok2.2.2.2.2 s hs
        cases hv
        exact b_test (d_neD (d_dget (v := u) rfl (e1 _ _ hT') (d_var ⟨_, rfl, .int _⟩) hu (dp_grow e1 _ _ hdu)) (d_c (d := rat 0 1) hZ) rfl rfl)
      · obtain ⟨s, hs, rfl⟩ := hin d hd
        obtain ⟨u, hu, hdu⟩ := hok2.2.2.2.2 s hs
        cases hv
        exact d_tup (ds_cons (d_var ⟨_, rfl, .int _⟩) (ds_cons (d_dget (v := u) rfl (e1 _ _ hT') (d_var ⟨_, rfl, .int _⟩) hu (dp_grow e1 _ _ hdu)) ds_nil)) (by show 2 ≤ 1000; decide)
      · obtain ⟨s, hs, rfl⟩ := hin d hd
        rfl
      · have z := sorted_due hok.2.1 hok.2.2.2.1 (fun p hp => (h24 p hp).1) (fun s => decide (sumAt ps s ≠ 0)) (fun s hs => by
          unfold sumAt
          rw [sumAt_none hs]
          rfl)
        have e1 : ((PySem.W.sortI (ks.map fun s : Nat => (s : Int))).map PyData.int).filter (fun d => !PyData.eqv (ratR (sumAt ps (numI d).toNat)) (rat 0 1)) = ((PySem.W.sortI (ks.map fun s : Nat => (s : Int))).filter fun i => decide (sumAt ps i.toNat ≠ 0)).map PyData.int := by
          rw [List.filter_map]
          congr 1
          refine List.filter_congr fun i _ => ?_
          show (!PyData.eqv (ratR (sumAt ps i.toNat)) (rat 0 1)) = _
          rw [eqv_zero]
          by_cases h : sumAt ps i.toNat = 0
          · rw [decide_eq_true h, decide_eq_false (fun z => z h)]
            rfl
          · rw [decide_eq_false h, decide_eq_true h]
            rfl
        rw [e1, z]
        unfold dueL
        rw [List.map_map, List.map_map, List.map_map]
        rfl
      · refine z_ret (K := K) (σ := [some v_c, some v_p, some (.ref T), x3, x4, some v]) (d_tup (ds_cons (d_var ⟨_, rfl, dp_grow (ex'.trans e1) _ _ h_c⟩) (ds_cons (d_tupL (d_var ⟨_, rfl, hv⟩)) ds_nil)) (by show 2 ≤ 1000; decide)) fun v2 H2 e2 h2 => ?_
        exact k v2 _ ((ex'.trans e1).trans e2) h2
end
end K21
namespace Dat
open PySem L2 Evl
section
variable {K : PySem.W.Frag} {te tb ty tx : TE} {tt : TT} {ta : TA} {σ : L2.St} {H Hb : Hp} {D : Ends} {ts : TS} {ds : List PyData} {b : Bool} {d : PyData}
/-- a new list that holds data, known apart from what stands elsewhere -/
def EvN (K : PySem.W.Frag) (te : TE) (σ : L2.St) (H : Hp) (ds : List PyData) : Prop := ∀ H1, Ex H H1 → ∀ Q : VK, (∀ p xs H2, H1 p = none → Ex H1 (rem H2 p) → H2 p = some (.lst xs) → DpAll K (rem H2 p) xs ds → Q (.ref p) H2) → te σ H1 Q
theorem evn_d (h : EvN K te σ H ds) : EvD K te σ H (.list ds) := fun H1 e Q k => h H1 e Q fun p xs H2 hp e2 hx ha => k _ _ (e2.trans rem_ex) (.lst (SqL.of hx) (dps_grow rem_ex _ _ ha))
theorem z_new {i : Nat} (h : EvN K te σ H ds) (k : ∀ p xs H2, H p = none → Ex H (rem H2 p) → H2 p = some (.lst xs) → DpAll K (rem H2 p) xs ds → ts D (σ.set i (some (.ref p))) H2) : tSeq (tAsg te (gName i)) ts D σ H := h H (Ex.refl H) _ k
/-- [e for i in range(n) if t] over data, its items without lists -/
theorem n_lcR {j n : Nat} {vs : List Nat} (p : Nat → Bool) (g : Nat → PyData) (h : EvDs K ta σ H [.int (n : Int)]) (hn : n ≤ 40000) (hw : ∀ x, wipe ((wipe σ vs).set j (some x)) vs = wipe σ vs)
    (hp : ∀ i H1, Ex H H1 → i < n → EvB tt ((wipe σ vs).set j (some (.int (i : Int)))) H1 (p i)) (he : ∀ i H1, Ex H H1 → i < n → p i = true → EvD K te ((wipe σ vs).set j (some (.int (i : Int)))) H1 (g i)) (hf : ∀ i, flat (g i) = true) :
    EvN K (tLc (iRng1 ta) (gName j) tt te vs) σ H (((List.range n).filter p).map g) := fun H1 e Q k => by
  refine h H1 e _ fun ws H2 e2 hv => ?_
  obtain ⟨x, ws, rfl, hx, hv⟩ := dps_cons hv
  obtain rfl := dps_nil hv
  cases hx
  refine ⟨(n : Int), rfl, by omega, by omega, fun D hD => ?_⟩
  refine lc_range (lo := 0) (n := (n : Int).toNat) (fun i H' => ∃ acc, H' D = some (.lst acc) ∧ acc.length ≤ i ∧ Ex H2 (rem H' D) ∧ DpAll K (rem H' D) acc (((List.range i).filter p).map g)) ⟨[], upd_same, Nat.le_refl _, by rw [rem_new hD]; exact Ex.refl H2, .nil⟩ ?_ ?_
  · rintro i H' hi ⟨acc, hacc, hlen, ex, hall⟩
    have hi : i < n := by omega
    have ex0 : Ex H H' := e.trans (e2.trans (ex.trans rem_ex))
    have z0 : (0 : Int) + (i : Int) = (i : Int) := Int.zero_add _
    rw [z0]
    refine ⟨hw _, hp i H' ex0 hi H' (Ex.refl H') _ fun H3 e3 => ?_⟩
    have ef : ((List.range (i + 1)).filter p).map g = ((List.range i).filter p).map g ++ if p i = true then [g i] else [] := by
      rw [List.range_succ, List.filter_append, List.map_append]
      congr 1
      by_cases q : p i = true
      · rw [if_pos q, List.filter_cons_of_pos q]
        rfl
      · rw [if_neg q, List.filter_cons_of_neg q]
        rfl
    cases c : p i with
    | true =>
      refine (if_pos rfl : _ = _) ▸ he i H3 (ex0.trans e3) hi c H3 (Ex.refl H3) _ fun y H4 e4 hy => ?_
      have e34 := e3.trans e4
      refine ⟨acc, e34 _ _ hacc, sz_lt (by omega), acc ++ [y], upd_same, by rw [List.length_append]; exact Nat.succ_le_succ hlen, ?_, ?_⟩
      · rw [rem_upd]
        exact ex.trans (ex_rem e34)
      · rw [rem_upd, ef, if_pos c]
        exact dps_app (dps_grow (ex_rem e34) _ _ hall) (.cons (dp_rem (e34 _ _ hacc) noTup_l _ _ (hf i) hy) .nil)
    | false =>
      refine (if_neg Bool.false_ne_true : _ = _) ▸ ⟨acc, e3 _ _ hacc, by omega, ex.trans (ex_rem e3), ?_⟩
      rw [ef, if_neg (by rw [c]; decide), List.append_nil]
      exact dps_grow (ex_rem e3) _ _ hall
  · rintro H3 ⟨acc, hacc, _, ex, hall⟩
    have en : (n : Int).toNat = n := Int.toNat_natCast n
    rw [en] at hall
    exact k D acc H3 (fresh_back e2 hD) (e2.trans ex) hacc hall
theorem dps_set {H : Hp} {d : PyData} {v : V} : ∀ {vs : List V} {ds : List PyData} {j : Nat}, DpAll K H vs ds → Dp K H v d → DpAll K H (vs.set j v) (ds.set j d)
  | _, _, _, .nil, _ => .nil
  | _, _, 0, .cons _ t, h => .cons h t
  | _, _, j + 1, .cons x t, h => .cons x (dps_set (j := j) t h)
/-- xs[i] = e, the last one of a block -/
theorem z_lput1 {S : Addr} {vs : List V} {i j : Nat} (hσ : σ[i]? = some (some (.ref S))) (hS : H S = some (.lst vs)) (hj : j < vs.length) (hv : EvD K te σ H d) (hy : ∀ H1, Ex H H1 → Ev ty σ H1 (.int (j : Int))) (q : ∀ v H2 H3, Ex H H2 → Dp K H2 v d → Ex H2 H3 → D.nx σ (upd H3 S (.lst (vs.set j v)))) :
    tAsg te (gSub (tVar i) ty rSetL) D σ H := hv H (Ex.refl H) _ fun v H2 x2 h => ⟨_, hσ, hy _ x2 H2 (Ex.refl H2) _ fun H3 x3 => ⟨S, vs, (j : Int), j, rfl, rfl, (x2.trans x3) _ _ hS, by
  unfold ixN
  rw [if_pos (by omega), if_pos (by omega), Int.toNat_natCast], q v H2 H3 x2 h x3⟩⟩
end
def fSums (ds : List PyData) (d : PyData) : Prop := ∃ ps : List (Nat × Rat), ds = [.list (ps.map (partD true))] ∧ ps.length ≤ 20 ∧ (∀ p ∈ ps, p.1 < 24 ∧ Sz B p.2) ∧ (∀ i s, Sz B (sumAt (ps.take i) s)) ∧ d = .list ((List.range 24).map fun s => ratR (sumAt ps s))
def fLawMake (ds : List PyData) (d : PyData) : Prop := ∃ (c : Rat) (ps : List (Nat × Rat)), ds = [ratR c, .list (ps.map (partD true))] ∧ ps.length ≤ 5 ∧ (∀ p ∈ ps, p.1 < 24 ∧ Sz B p.2) ∧ (∀ i s, Sz B (sumAt (ps.take i) s)) ∧ d = formD true c (dueL ps)
theorem sums_set (ps : List (Nat × Rat)) (p : Nat × Rat) : ((List.range 24).map fun s => ratR (sumAt ps s)).set p.1 (ratR (sumAt ps p.1 + p.2)) = (List.range 24).map fun s => ratR (sumAt (ps ++ [p]) s) := by
  apply List.ext_getElem?
  intro i
  rw [List.getElem?_set, List.getElem?_map, List.getElem?_map, List.length_map, List.length_range]
  by_cases h : p.1 = i
  · subst h
    rw [if_pos rfl]
    by_cases h2 : p.1 < 24
    · rw [if_pos h2, List.getElem?_range h2]
      show _ = some (ratR (sumAt (ps ++ [p]) p.1))
      rw [sumAt_snoc, if_pos rfl]
    · rw [if_neg h2, List.getElem?_eq_none (by rw [List.length_range]; omega)]
      rfl
  · rw [if_neg h]
    by_cases h2 : i < 24
    · rw [List.getElem?_range h2]
      show some (ratR (sumAt ps i)) = some (ratR (sumAt (ps ++ [p]) i))
      rw [sumAt_snoc, if_neg h]
    · rw [List.getElem?_eq_none (by rw [List.length_range]; omega)]
      rfl
theorem hand_grow {H H' : Hp} {h c : Addr} {ns : List Int} (e : Ex H H') (hh : K21.HandOk H h c ns) : K21.HandOk H' h c ns := by
  obtain ⟨x, y, z, h1, h2, r⟩ := hh
  exact ⟨x, y, z, e _ _ h1, e _ _ h2, r⟩
end Dat
namespace K21
open PySem L2 Evl Dat
def spFraction (K : PySem.W.Frag) : Sp := fun vs H Q _ => ∃ (h c : Addr) (ns : List Int), vs = [.ref h] ∧ HandOk H h c ns ∧ ∀ (x : Rat) v H', Sz 30 x → HandOk H' h c ns → Ex (rem H h) (rem H' h) → Dp K (rem H' h) v (ratR x) → Q v H'
section
variable {P : Program} {w : World} {K : PySem.W.Frag} {mg : Str → Option Value} {base : Heap}
theorem frame_ex {H H' : Hp} {h : Addr} (f : ∀ a, a ≠ h → H' a = H a) : Ex (rem H h) (rem H' h) := fun a o e => by
  by_cases q : a = h
  · subst q
    rw [rem_self] at e
    cases e
  · rw [rem_ne q] at e ⊢
    rw [f a q]
    exact e
abbrev s_L_fraction : Stmt := topS 24
abbrev N_L_fraction : List Str := ["hand", "kind", "top"]
theorem sc_L_fraction : FnScope N_L_fraction ["hand"] (defScope s_L_fraction) := ⟨rfl, rfl, rfl, by decide +kernel, rfl, by decide +kernel, by decide +kernel⟩
def fracs : List Rat := [⟨0, 1, by decide, by decide⟩, ⟨1, 1, by decide, by decide⟩, ⟨-1, 1, by decide, by decide⟩, ⟨1, 2, by decide, by decide⟩, ⟨-3, 2, by decide, by decide⟩, ⟨2, 1, by decide, by decide⟩, ⟨5, 3, by decide, by decide⟩, ⟨0, 1, by decide, by decide⟩, ⟨-1, 4, by decide, by decide⟩, ⟨4, 1, by decide, by decide⟩, ⟨-2, 3, by decide, by decide⟩]
theorem frac_at {r : Int} (h0 : 0 ≤ r) (h1 : r < 11) : ∃ x : Rat, Sz 30 x ∧ atI (fracs.map ratR) r = some (ratR x) := by
  have e : r = 0 ∨ r = 1 ∨ r = 2 ∨ r = 3 ∨ r = 4 ∨ r = 5 ∨ r = 6 ∨ r = 7 ∨ r = 8 ∨ r = 9 ∨ r = 10 := by omega
  rcases e with rfl | rfl | rfl | rfl | rfl | rfl | rfl | rfl | rfl | rfl | rfl <;> exact ⟨_, ⟨by decide, by decide⟩, rfl⟩
theorem ok_L_fraction {f : Addr} {fd : FuncData} (F : Fun K "_law_fraction" "_law_fraction" s_L_fraction f fd) (D_law_draw : Def P w K mg base CX0 2 "_law_draw" ["hand", "many"] spDraw) (D_law_ratio : Def P w K mg base CX0 1 "_law_ratio" ["top", "bottom"] (spD K 2 fLowest)) : FnOk P w K mg base CX0 3 f fd ["hand"] (spFraction K) := by
  refine F.ok sc_L_fraction (fun vs H Q E h => ?_) (fun cdv A outer s H vs Q E hr h => ?_)
  · obtain ⟨a, c, ns, rfl, _⟩ := h
    rfl
  · obtain ⟨a, c, ns, rfl, hh, q⟩ := h
    refine ⟨_, (pss_cons (ps_set (i := 1) sc_L_fraction.nd rfl (Or.inl rfl) (pe_dcall D_law_draw (hr.mono (by decide)) pass0 (pa_cons (pv 0) (pa_cons pe_int pa_nil))))
    (pss_cons (ps_if (pt_cmpR op_eq (pv 1) pe_int (nomark _)) (pss_cons (ps_set (i := 2) sc_L_fraction.nd rfl (Or.inl rfl) (pe_op op_sub (pe_dcall D_law_draw (hr.mono (by decide)) pass0 (pa_cons (pv 0) (pa_cons (pe_op op_pow pe_int pe_int) pa_nil))) (pe_op op_mul pe_int (pe_op op_pow pe_int pe_int))))
    (pss_one (ps_ret (pe_dcall D_law_ratio (hr.mono (by decide)) pass0 (pa_cons (pv 2) (pa_cons (pe_op op_add pe_int (pe_dcall D_law_draw (hr.mono (by decide)) pass0 (pa_cons (pv 0) (pa_cons pe_int pa_nil)))) pa_nil)))))) pss_nil)
    (pss_one (ps_ret (pe_ix (r := rIxT K) ix_tup (pe_tup (pa_cons (pe_tup (pa_cons pe_int (pa_cons pe_int pa_nil))) (pa_cons (pe_tup (pa_cons pe_int (pa_cons pe_int pa_nil))) (pa_cons (pe_tup (pa_cons (pe_un un_neg pe_int) (pa_cons pe_int pa_nil))) (pa_cons (pe_tup (pa_cons pe_int (pa_cons pe_int pa_nil))) (pa_cons (pe_tup (pa_cons (pe_un un_neg pe_int) (pa_cons pe_int pa_nil))) (pa_cons (pe_tup (pa_cons pe_int (pa_cons pe_int pa_nil))) (pa_cons (pe_tup (pa_cons pe_int (pa_cons pe_int pa_nil))) (pa_cons (pe_tup (pa_cons pe_int (pa_cons pe_int pa_nil))) (pa_cons (pe_tup (pa_cons (pe_un un_neg pe_int) (pa_cons pe_int pa_nil))) (pa_cons (pe_tup (pa_cons pe_int (pa_cons pe_int pa_nil))) (pa_cons (pe_tup (pa_cons (pe_un un_neg pe_int) (pa_cons pe_int pa_nil))) pa_nil)))))))))))) (pv 1) (fun _ _ => rfl)))))), ?_⟩
    refine ⟨_, rfl, a, c, ns, 12, rfl, by decide, by decide, hh, fun r H1 r0 r1 hh1 he1 => ?_⟩
    have fr1 := frame_ex he1
    refine z_if (σ := [some (.ref a), some (.int r), none]) (b_test (K := K) (d_eqI (d_var ⟨_, rfl, .int r⟩) d_int)) (fun c1 H2 e2 => ?_) (fun c1 H2 e2 => z_next ?_)
    · refine ⟨_, rfl, 10, 9, rfl, rfl, ⟨by decide, by decide, by decide⟩, a, c, ns, _, rfl, by decide +kernel, by decide +kernel, hand_grow e2 hh1, fun t H3 t0 t1 hh3 he3 => ?_⟩
      refine ⟨10, 8, rfl, rfl, ⟨by decide, by decide, by decide⟩, _, _, rfl, rfl, .inl ⟨by decide, by decide⟩, _, _, rfl, rfl, ?_⟩
      refine ⟨_, rfl, _, rfl, a, c, ns, 6, rfl, by decide, by decide, hh3, fun b H4 b0 b1 hh4 he4 => ?_⟩
      refine ⟨_, _, rfl, rfl, ?_⟩
      have t2 : t < 10 ^ 9 := t1
      show spD K 2 fLowest [.int (t - 5 * 10 ^ 8), .int (1 + b)] H4 Q E0
      generalize hT : t - 5 * 10 ^ 8 = T
      have hTb : T.natAbs < 2 ^ 30 := by omega
      have hb : (1 + b) = (((1 + b).toNat : Nat) : Int) := by omega
      have hbn : (1 + b).toNat ≠ 0 := by omega
      have hnb : (1 + b).toNat < 2 ^ 30 := Nat.lt_of_le_of_lt (m := 6) (by omega) (by decide)
      have hl : lowest T (1 + b) = ratR (Rat.normalize T (1 + b).toNat hbn) := by
        rw [← low_norm, ← hb]
      refine ⟨[.int T, .int (1 + b)], lowest T (1 + b), rfl, .cons (.int _) (.cons (.int _) .nil), ⟨_, _, rfl, by omega, Nat.lt_of_le_of_lt (m := 10) (by omega) (by decide +kernel), rfl⟩, fun v H5 e5 hv => ?_⟩
      rw [hl] at hv
      have hk4 := hh4
      obtain ⟨_, _, _, g1, _⟩ := hk4
      refine q (Rat.normalize T (1 + b).toNat hbn) v H5 (sz_norm _ _ _ hTb hnb) (hand_grow e5 hh4) ((fr1.trans (ex_rem e2)).trans (((frame_ex he3).trans (frame_ex he4)).trans (ex_rem e5))) (dp_rem (e5 _ _ g1) noTup_l _ _ rfl hv)
    · have r2 : r ≠ 11 := of_decide_eq_false c1
      obtain ⟨x, hx, hat⟩ := frac_at r0 (by omega)
      refine z_ret (K := K) (σ := [some (.ref a), some (.int r), none]) (d_ixT (ds := fracs.map ratR) (d_is (d_tup (ds_cons (d_tup (ds_cons d_int (ds_cons d_int ds_nil)) (by show 2 ≤ 1000; decide)) (ds_cons (d_tup (ds_cons d_int (ds_cons d_int ds_nil)) (by show 2 ≤ 1000; decide)) (ds_cons (d_tup (ds_cons (d_neg d_int) (ds_cons d_int ds_nil)) (by show 2 ≤ 1000; decide)) (ds_cons (d_tup (ds_cons d_int (ds_cons d_int ds_nil)) (by show 2 ≤ 1000; decide)) (ds_cons (d_tup (ds_cons (d_neg d_int) (ds_cons d_int ds_nil)) (by show 2 ≤ 1000; decide)) (ds_cons (d_tup (ds_cons d_int (ds_cons d_int ds_nil)) (by show 2 ≤ 1000; decide)) (ds_cons (d_tup (ds_cons d_int (ds_cons d_int ds_nil)) (by show 2 ≤ 1000; decide)) (ds_cons (d_tup (ds_cons d_int (ds_cons d_int ds_nil)) (by show 2 ≤ 1000; decide)) (ds_cons (d_tup (ds_cons (d_neg d_int) (ds_cons d_int ds_nil)) (by show 2 ≤ 1000; decide)) (ds_cons (d_tup (ds_cons d_int (ds_cons d_int ds_nil)) (by show 2 ≤ 1000; decide)) (ds_cons (d_tup (ds_cons (d_neg d_int) (ds_cons d_int ds_nil)) (by show 2 ≤ 1000; decide)) ds_nil))))))))))) (by show 11 ≤ 1000; decide)) rfl) (d_var ⟨_, rfl, .int r⟩) hat) fun v H3 e3 hv => ?_
      have hh3 := hand_grow (e2.trans e3) hh1
      obtain ⟨_, _, _, g1, _⟩ := hand_grow (e2.trans e3) hh1
      exact q x v H3 hx hh3 (fr1.trans (ex_rem (e2.trans e3))) (dp_rem g1 noTup_l _ _ rfl hv)
abbrev s_L_sums : Stmt := topS 27
abbrev N_L_sums : List Str := ["parts", "sums", "slot", "multiple"]
theorem sc_L_sums : FnScope N_L_sums ["parts"] (defScope s_L_sums) := ⟨rfl, rfl, rfl, by decide +kernel, rfl, by decide +kernel, by decide +kernel⟩
theorem ok_L_sums {f : Addr} {fd : FuncData} (F : Fun K "_law_sums" "_law_sums" s_L_sums f fd) (T : Bl mg) (D_law_plus : Def P w K mg base CX0 2 "_law_plus" ["a", "b"] (spD K 2 fPlusR)) : FnOk P w K mg base CX0 3 f fd ["parts"] (spD K 1 fSums) := by
  refine F.ok sc_L_sums (fun vs H Q E h => ?_) (fun cdv A outer s H vs Q E hr h => ?_)
  · obtain ⟨ds, d, hl, hd, _⟩ := h
    exact (dps_len hd).trans hl
  · obtain ⟨ds, d, hl, hd, hf, k⟩ := h
    obtain ⟨ps, rfl, hlen, h24, hsz, rfl⟩ := hf
    obtain ⟨v_p, vs, rfl, h_p, hd⟩ := dps_cons hd
    obtain rfl := dps_nil hd
    refine ⟨_, (pss_cons (ps_setLc (i := 1) (own := [("slot", 2)]) (g := gName 2) rfl sc_L_sums.nd rfl rfl (sw_true rfl rfl rfl (by decide +kernel)) (pi_range1 rfl T.b_range (pa_cons pe_int pa_nil)) (blkOk_by (own := [("slot", 2)]) (N := N_L_sums) (sc := defScope s_L_sums) (by decide +kernel)) (fun _ _ _ _ _ => pg_name (i := 2) sc_L_sums.nd rfl (Or.inl rfl)) (fun _ _ _ _ _ => pts_nil) (fun _ _ _ _ _ => (pe_tup (pa_cons pe_int (pa_cons pe_int pa_nil)))))
    (pss_cons (ps_for PassesOwn.never rfl (pi_alt (pi_list (pv 0)) (pi_tup (pv 0))) (pg_alt (pg_tup rfl (pgs_cons (pg_name (i := 2) sc_L_sums.nd rfl (Or.inl rfl)) (pgs_cons (pg_name (i := 3) sc_L_sums.nd rfl (Or.inl rfl)) pgs_nil))) (pg_lst rfl (pgs_cons (pg_name (i := 2) sc_L_sums.nd rfl (Or.inl rfl)) (pgs_cons (pg_name (i := 3) sc_L_sums.nd rfl (Or.inl rfl)) pgs_nil)))) (pss_one (ps_asg (pe_dcall D_law_plus (hr.mono (by decide)) pass0 (pa_cons (pe_ix (r := rIxL K) ix_list (pv 1) (pv 2) (fun _ _ => rfl)) (pa_cons (pv 3) pa_nil))) (pg_sub (pv 1) (pv 2) set_list) rfl)))
    (pss_one (ps_ret (pv 1))))), ?_⟩
    refine z_new (K := K) (σ := [some v_p, none, none, none]) (n_lcR (n := 24) (fun _ => true) (fun _ => ratR 0) (ds_cons d_int ds_nil) (by decide) (fun _ => rfl) (fun i H1 e1 hi H2 e2 R r => r H2 (Ex.refl H2)) (fun i H1 e1 hi _ => d_tup (ds_cons d_int (ds_cons d_int ds_nil)) (by show 2 ≤ 1000; decide)) (fun _ => rfl)) fun S xs H1 hS ex1 hxs hall => ?_
    refine z_forB (Hb := H) (b := false) (ds := ps.map (partD true)) (σ := [some v_p, some (.ref S), none, none]) h_p (ev_var rfl) (fun i σ' H' => ∃ xs x2 x3, σ' = [some v_p, some (.ref S), x2, x3] ∧ H' S = some (.lst xs) ∧ DpAll K (rem H' S) xs ((List.range 24).map fun s => ratR (sumAt (ps.take i) s)) ∧ Ex H (rem H' S))
      (fun H2 e2 => ⟨xs, none, none, rfl, e2 _ _ hxs, dps_grow (ex_rem e2) _ _ hall, ex1.trans (ex_rem e2)⟩) (fun i σ' H' p => ?_) (fun i d x σ' H' D' hd p hx hrt kD => ?_) (fun σ' H' p => ?_)
    · obtain ⟨_, _, _, _, _, _, ex⟩ := p
      exact ex.trans rem_ex
    · obtain ⟨xs, x2, x3, rfl, hS', hall, ex⟩ := p
      rw [List.getElem?_map] at hd
      obtain ⟨pt, hpt, rfl⟩ := Option.map_eq_some_iff.mp hd
      have hm := List.mem_of_getElem? hpt
      have ex' := ex.trans rem_ex
      have hxl : xs.length = 24 := by
        rw [dps_len hall, List.length_map, List.length_range]
      refine g_twoS (b := true) (dp_grow ex' _ _ hx) rfl fun xa xb ha hb => ?_
      cases ha
      have hat : atI ((List.range 24).map fun s => ratR (sumAt (ps.take i) s)) (pt.1 : Int) = some (ratR (sumAt (ps.take i) pt.1)) := by
        have h := Dat.atI_nat (l := (List.range 24).map fun s => ratR (sumAt (ps.take i) s)) (i := pt.1) (x := ratR 0) (by rw [List.length_map, List.length_range]; exact (h24 _ hm).1)
        rw [h, List.getD_eq_getElem?_getD, List.getElem?_map, List.getElem?_range (h24 _ hm).1]
        rfl
      refine z_lput1 (σ := [some v_p, some (.ref S), some (.int (pt.1 : Int)), some xb]) (j := pt.1) (d := ratR (sumAt (ps.take i) pt.1 + pt.2)) rfl hS' (by rw [hxl]; exact (h24 _ hm).1)
        (d_call (ds_cons (d_ixL (d_var ⟨_, rfl, .lst (SqL.of hS') (dps_grow rem_ex _ _ hall)⟩) (d_var ⟨_, rfl, .int _⟩) hat) (ds_cons (d_var ⟨_, rfl, hb⟩) ds_nil)) rfl ⟨_, _, rfl, hsz i _, (h24 _ hm).2, rfl⟩) (fun H1 e1 => ev_var rfl) (fun v H2 H3 e2 hv e3 => ?_)
      have e23 := ex_rem (L := S) (e2.trans e3)
      refine kD _ _ ⟨_, some (.int (pt.1 : Int)), some xb, rfl, upd_same, ?_, ?_⟩
      · rw [rem_upd, take_next hpt, ← sums_set]
        exact dps_set (dps_grow e23 _ _ hall) (dp_grow (ex_rem e3) _ _ (dp_rem (e2 _ _ hS') noTup_l _ _ rfl hv))
      · rw [rem_upd]
        exact ex.trans e23
    · obtain ⟨xs, x2, x3, rfl, hS', hall, ex⟩ := p
      rw [List.length_map, List.take_length] at hall
      exact z_ret (K := K) (σ := [some v_p, some (.ref S), x2, x3]) (d_var ⟨_, rfl, .lst (SqL.of hS') (dps_grow rem_ex _ _ hall)⟩) fun v H2 e2 h => k v _ ((ex.trans rem_ex).trans e2) h
abbrev s_L_make : Stmt := topS 26
abbrev N_L_make : List Str := ["constant", "parts"]
theorem sc_L_make : FnScope N_L_make ["constant", "parts"] (defScope s_L_make) := ⟨rfl, rfl, rfl, by decide +kernel, rfl, by decide +kernel, by decide +kernel⟩
theorem d_make {ta : TA} {σ : L2.St} {H : Hp} {c : Rat} {qs : List (Nat × Rat)} (h : EvDs K ta σ H (ratR c :: qs.map (partD true))) (hl : qs.length ≤ 20) (h24 : ∀ p ∈ qs, p.1 < 24 ∧ Sz B p.2) (hsz : ∀ i s, Sz B (sumAt (qs.take i) s)) {E : XK} : EvD K (tCall (spMake K) [] E ta) σ H (formD true c (dueL qs)) := fun H1 x Q k =>
  h H1 x _ fun vs H2 x2 hvs => by
    refine ⟨c, qs, ?_, hl, h24, hsz, fun v H' x' hv => k v H' (x2.trans x') hv⟩
    rw [List.append_nil]
    exact hvs
theorem ok_L_make {f fM : Addr} {fd : FuncData} (F : Fun K "_law_make" "_law_make" s_L_make f fd) (T : Bl mg) (F_make : FnR P w K mg base CX0 3 fM (spMake K)) (kM : PySem.W.keepIn K (.ref fM) = true) (hM : mg "make_form" = some (.ref fM)) : FnOk P w K mg base CX0 4 f fd ["constant", "parts"] (spD K 2 fLawMake) := by
  refine F.ok sc_L_make (fun vs H Q E h => ?_) (fun cdv A outer s H vs Q E hr h => ?_)
  · obtain ⟨ds, d, hl, hd, _⟩ := h
    exact (dps_len hd).trans hl
  · obtain ⟨ds, d, hl, hd, hf, k⟩ := h
    obtain ⟨c, ps, rfl, hlen, hin, hsz, rfl⟩ := hf
    obtain ⟨v_c, vs, rfl, h_c, hd⟩ := dps_cons hd
    obtain ⟨v_p, vs, rfl, h_p, hd⟩ := dps_cons hd
    obtain rfl := dps_nil hd
    refine ⟨_, (pss_cons (ps_if (pt_cmpR op_eq (pe_callB call_len_seq (by rfl) T.b_len (by decide +kernel) (pa_cons (pv 1) pa_nil)) pe_int (nomark _)) (pss_one (ps_ret (pe_callF F_make (hr.mono (by decide)) kM hM pass0 (pa_cons (pv 0) pa_nil)))) pss_nil)
    (pss_cons (ps_if (pt_cmpR op_eq (pe_callB call_len_seq (by rfl) T.b_len (by decide +kernel) (pa_cons (pv 1) pa_nil)) pe_int (nomark _)) (pss_one (ps_ret (pe_callF F_make (hr.mono (by decide)) kM hM pass0 (pa_cons (pv 0) (pa_cons (pe_ix (r := rIxL K) ix_list (pv 1) pe_int (fun _ _ => rfl)) pa_nil))))) pss_nil)
    (pss_cons (ps_if (pt_cmpR op_eq (pe_callB call_len_seq (by rfl) T.b_len (by decide +kernel) (pa_cons (pv 1) pa_nil)) pe_int (nomark _)) (pss_one (ps_ret (pe_callF F_make (hr.mono (by decide)) kM hM pass0 (pa_cons (pv 0) (pa_cons (pe_ix (r := rIxL K) ix_list (pv 1) pe_int (fun _ _ => rfl)) (pa_cons (pe_ix (r := rIxL K) ix_list (pv 1) pe_int (fun _ _ => rfl)) pa_nil)))))) pss_nil)
    (pss_cons (ps_if (pt_cmpR op_eq (pe_callB call_len_seq (by rfl) T.b_len (by decide +kernel) (pa_cons (pv 1) pa_nil)) pe_int (nomark _)) (pss_one (ps_ret (pe_callF F_make (hr.mono (by decide)) kM hM pass0 (pa_cons (pv 0) (pa_cons (pe_ix (r := rIxL K) ix_list (pv 1) pe_int (fun _ _ => rfl)) (pa_cons (pe_ix (r := rIxL K) ix_list (pv 1) pe_int (fun _ _ => rfl)) (pa_cons (pe_ix (r := rIxL K) ix_list (pv 1) pe_int (fun _ _ => rfl)) pa_nil))))))) pss_nil)
    (pss_cons (ps_if (pt_cmpR op_eq (pe_callB call_len_seq (by rfl) T.b_len (by decide +kernel) (pa_cons (pv 1) pa_nil)) pe_int (nomark _)) (pss_one (ps_ret (pe_callF F_make (hr.mono (by decide)) kM hM pass0 (pa_cons (pv 0) (pa_cons (pe_ix (r := rIxL K) ix_list (pv 1) pe_int (fun _ _ => rfl)) (pa_cons (pe_ix (r := rIxL K) ix_list (pv 1) pe_int (fun _ _ => rfl)) (pa_cons (pe_ix (r := rIxL K) ix_list (pv 1) pe_int (fun _ _ => rfl)) (pa_cons (pe_ix (r := rIxL K) ix_list (pv 1) pe_int (fun _ _ => rfl)) pa_nil)))))))) pss_nil)
    (pss_one (ps_ret (pe_callF F_make (hr.mono (by decide)) kM hM pass0 (pa_cons (pv 0) (pa_cons (pe_ix (r := rIxL K) ix_list (pv 1) pe_int (fun _ _ => rfl)) (pa_cons (pe_ix (r := rIxL K) ix_list (pv 1) pe_int (fun _ _ => rfl)) (pa_cons (pe_ix (r := rIxL K) ix_list (pv 1) pe_int (fun _ _ => rfl)) (pa_cons (pe_ix (r := rIxL K) ix_list (pv 1) pe_int (fun _ _ => rfl)) (pa_cons (pe_ix (r := rIxL K) ix_list (pv 1) pe_int (fun _ _ => rfl)) pa_nil)))))))))))))), ?_⟩
    match ps, hlen with
    | [], _ =>
      have VP : ∀ H1, Ex H H1 → EvD K (tVar 1) [some v_c, some v_p] H1 (.list ([].map (partD true))) := fun H1 e => d_var ⟨_, rfl, dp_grow e _ _ h_p⟩
      have VC : ∀ H1, Ex H H1 → EvD K (tVar 0) [some v_c, some v_p] H1 (ratR c) := fun H1 e => d_var ⟨_, rfl, dp_grow e _ _ h_c⟩
      have e : Ex H H := Ex.refl H
      refine z_if (σ := [some v_c, some v_p]) (b_test (d_eqI (d_lenL (VP _ e)) d_int)) (fun c1 H1 e1 => ?_) (fun c1 H1 e1 => absurd (show (0 : Int) = 0 by decide) (of_decide_eq_false c1))
      replace e := e.trans e1
      exact z_ret (K := K) (σ := [some v_c, some v_p]) (d_make (qs := []) (ds_cons (VC _ e) ds_nil) (by show 0 ≤ 20; decide) hin hsz) fun v H2 e2 h => k v _ (e.trans e2) h
    | [p0], _ =>
      have VP : ∀ H1, Ex H H1 → EvD K (tVar 1) [some v_c, some v_p] H1 (.list ([p0].map (partD true))) := fun H1 e => d_var ⟨_, rfl, dp_grow e _ _ h_p⟩
      have VC : ∀ H1, Ex H H1 → EvD K (tVar 0) [some v_c, some v_p] H1 (ratR c) := fun H1 e => d_var ⟨_, rfl, dp_grow e _ _ h_c⟩
      have e : Ex H H := Ex.refl H
      refine z_if (σ := [some v_c, some v_p]) (b_test (d_eqI (d_lenL (VP _ e)) d_int)) (fun c1 H1 e1 => ?_) (fun c1 H1 e1 => z_next ?_)
      · exact absurd (of_decide_eq_true c1) (by show ¬ ((1 : Int) = 0); decide)
      replace e := e.trans e1
      refine z_if (σ := [some v_c, some v_p]) (b_test (d_eqI (d_lenL (VP _ e)) d_int)) (fun c1 H1 e1 => ?_) (fun c1 H1 e1 => absurd (show (1 : Int) = 1 by decide) (of_decide_eq_false c1))
      replace e := e.trans e1
      exact z_ret (K := K) (σ := [some v_c, some v_p]) (d_make (qs := [p0]) (ds_cons (VC _ e) (ds_cons (d_ixL (VP _ e) d_int rfl) ds_nil)) (by show 1 ≤ 20; decide) hin hsz) fun v H2 e2 h => k v _ (e.trans e2) h
    | [p0, p1], _ =>
      have VP : ∀ H1, Ex H H1 → EvD K (tVar 1) [some v_c, some v_p] H1 (.list ([p0, p1].map (partD true))) := fun H1 e => d_var ⟨_, rfl, dp_grow e _ _ h_p⟩
      have VC : ∀ H1, Ex H H1 → EvD K (tVar 0) [some v_c, some v_p] H1 (ratR c) := fun H1 e => d_var ⟨_, rfl, dp_grow e _ _ h_c⟩
      have e : Ex H H := Ex.refl H
      refine z_if (σ := [some v_c, some v_p]) (b_test (d_eqI (d_lenL (VP _ e)) d_int)) (fun c1 H1 e1 => ?_) (fun c1 H1 e1 => z_next ?_)
      · exact absurd (of_decide_eq_true c1) (by show ¬ ((2 : Int) = 0); decide)
      replace e := e.trans e1
      refine z_if (σ := [some v_c, some v_p]) (b_test (d_eqI (d_lenL (VP _ e)) d_int)) (fun c1 H1 e1 => ?_) (fun c1 H1 e1 => z_next ?_)
      · exact absurd (of_decide_eq_true c1) (by show ¬ ((2 : Int) = 1); decide)
      replace e := e.trans e1
      refine z_if (σ := [some v_c, some v_p]) (b_test (d_eqI (d_lenL (VP _ e)) d_int)) (fun c1 H1 e1 => ?_) (fun c1 H1 e1 => absurd (show (2 : Int) = 2 by decide) (of_decide_eq_false c1))
      replace e := e.trans e1
      exact z_ret (K := K) (σ := [some v_c, some v_p]) (d_make (qs := [p0, p1]) (ds_cons (VC _ e) (ds_cons (d_ixL (VP _ e) d_int rfl) (ds_cons (d_ixL (VP _ e) d_int rfl) ds_nil))) (by show 2 ≤ 20; decide) hin hsz) fun v H2 e2 h => k v _ (e.trans e2) h
    | [p0, p1, p2], _ =>
      have VP : ∀ H1, Ex H H1 → EvD K (tVar 1) [some v_c, some v_p] H1 (.list ([p0, p1, p2].map (partD true))) := fun H1 e => d_var ⟨_, rfl, dp_grow e _ _ h_p⟩
      have VC : ∀ H1, Ex H H1 → EvD K (tVar 0) [some v_c, some v_p] H1 (ratR c) := fun H1 e => d_var ⟨_, rfl, dp_grow e _ _ h_c⟩
      have e : Ex H H := Ex.refl H
      refine z_if (σ := [some v_c, some v_p]) (b_test (d_eqI (d_lenL (VP _ e)) d_int)) (fun c1 H1 e1 => ?_) (fun c1 H1 e1 => z_next ?_)
      · exact absurd (of_decide_eq_true c1) (by show ¬ ((3 : Int) = 0); decide)
      replace e := e.trans e1
      refine z_if (σ := [some v_c, some v_p]) (b_test (d_eqI (d_lenL (VP _ e)) d_int)) (fun c1 H1 e1 => ?_) (fun c1 H1 e1 => z_next ?_)
      · exact absurd (of_decide_eq_true c1) (by show ¬ ((3 : Int) = 1); decide)
      replace e := e.trans e1
      refine z_if (σ := [some v_c, some v_p]) (b_test (d_eqI (d_lenL (VP _ e)) d_int)) (fun c1 H1 e1 => ?_) (fun c1 H1 e1 => z_next ?_)
      · exact absurd (of_decide_eq_true c1) (by show ¬ ((3 : Int) = 2); decide)
      replace e := e.trans e1
      refine z_if (σ := [some v_c, some v_p]) (b_test (d_eqI (d_lenL (VP _ e)) d_int)) (fun c1 H1 e1 => ?_) (fun c1 H1 e1 => absurd (show (3 : Int) = 3 by decide) (of_decide_eq_false c1))
      replace e := e.trans e1
      exact z_ret (K := K) (σ := [some v_c, some v_p]) (d_make (qs := [p0, p1, p2]) (ds_cons (VC _ e) (ds_cons (d_ixL (VP _ e) d_int rfl) (ds_cons (d_ixL (VP _ e) d_int rfl) (ds_cons (d_ixL (VP _ e) d_int rfl) ds_nil)))) (by show 3 ≤ 20; decide) hin hsz) fun v H2 e2 h => k v _ (e.trans e2) h
    | [p0, p1, p2, p3], _ =>
      have VP : ∀ H1, Ex H H1 → EvD K (tVar 1) [some v_c, some v_p] H1 (.list ([p0, p1, p2, p3].map (partD true))) := fun H1 e => d_var ⟨_, rfl, dp_grow e _ _ h_p⟩
      have VC : ∀ H1, Ex H H1 → EvD K (tVar 0) [some v_c, some v_p] H1 (ratR c) := fun H1 e => d_var ⟨_, rfl, dp_grow e _ _ h_c⟩
      have e : Ex H H := Ex.refl H
      refine z_if (σ := [some v_c, some v_p]) (b_test (d_eqI (d_lenL (VP _ e)) d_int)) (fun c1 H1 e1 => ?_) (fun c1 H1 e1 => z_next ?_)
      · exact absurd (of_decide_eq_true c1) (by show ¬ ((4 : Int) = 0); decide)
      replace e := e.trans e1
      refine z_if (σ := [some v_c, some v_p]) (b_test (d_eqI (d_lenL (VP _ e)) d_int)) (fun c1 H1 e1 => ?_) (fun c1 H1 e1 => z_next ?_)
      · exact absurd (of_decide_eq_true c1) (by show ¬ ((4 : Int) = 1); decide)
      replace e := e.trans e1
      refine z_if (σ := [some v_c, some v_p]) (b_test (d_eqI (d_lenL (VP _ e)) d_int)) (fun c1 H1 e1 => ?_) (fun c1 H1 e1 => z_next ?_)
      · exact absurd (of_decide_eq_true c1) (by show ¬ ((4 : Int) = 2); decide)
      replace e := e.trans e1
      refine z_if (σ := [some v_c, some v_p]) (b_test (d_eqI (d_lenL (VP _ e)) d_int)) (fun c1 H1 e1 => ?_) (fun c1 H1 e1 => z_next ?_)
      · exact absurd (of_decide_eq_true c1) (by show ¬ ((4 : Int) = 3); decide)
      replace e := e.trans e1
      refine z_if (σ := [some v_c, some v_p]) (b_test (d_eqI (d_lenL (VP _ e)) d_int)) (fun c1 H1 e1 => ?_) (fun c1 H1 e1 => absurd (show (4 : Int) = 4 by decide) (of_decide_eq_false c1))
      replace e := e.trans e1
      exact z_ret (K := K) (σ := [some v_c, some v_p]) (d_make (qs := [p0, p1, p2, p3]) (ds_cons (VC _ e) (ds_cons (d_ixL (VP _ e) d_int rfl) (ds_cons (d_ixL (VP _ e) d_int rfl) (ds_cons (d_ixL (VP _ e) d_int rfl) (ds_cons (d_ixL (VP _ e) d_int rfl) ds_nil))))) (by show 4 ≤ 20; decide) hin hsz) fun v H2 e2 h => k v _ (e.trans e2) h
    | [p0, p1, p2, p3, p4], _ =>
      have VP : ∀ H1, Ex H H1 → EvD K (tVar 1) [some v_c, some v_p] H1 (.list ([p0, p1, p2, p3, p4].map (partD true))) := fun H1 e => d_var ⟨_, rfl, dp_grow e _ _ h_p⟩
      have VC : ∀ H1, Ex H H1 → EvD K (tVar 0) [some v_c, some v_p] H1 (ratR c) := fun H1 e => d_var ⟨_, rfl, dp_grow e _ _ h_c⟩
      have e : Ex H H := Ex.refl H
      refine z_if (σ := [some v_c, some v_p]) (b_test (d_eqI (d_lenL (VP _ e)) d_int)) (fun c1 H1 e1 => ?_) (fun c1 H1 e1 => z_next ?_)
      · exact absurd (of_decide_eq_true c1) (by show ¬ ((5 : Int) = 0); decide)
      replace e := e.trans e1
      refine z_if (σ := [some v_c, some v_p]) (b_test (d_eqI (d_lenL (VP _ e)) d_int)) (fun c1 H1 e1 => ?_) (fun c1 H1 e1 => z_next ?_)
      · exact absurd (of_decide_eq_true c1) (by show ¬ ((5 : Int) = 1); decide)
      replace e := e.trans e1
      refine z_if (σ := [some v_c, some v_p]) (b_test (d_eqI (d_lenL (VP _ e)) d_int)) (fun c1 H1 e1 => ?_) (fun c1 H1 e1 => z_next ?_)
      · exact absurd (of_decide_eq_true c1) (by show ¬ ((5 : Int) = 2); decide)
      replace e := e.trans e1
      refine z_if (σ := [some v_c, some v_p]) (b_test (d_eqI (d_lenL (VP _ e)) d_int)) (fun c1 H1 e1 => ?_) (fun c1 H1 e1 => z_next ?_)
      · exact absurd (of_decide_eq_true c1) (by show ¬ ((5 : Int) = 3); decide)
      replace e := e.trans e1
      refine z_if (σ := [some v_c, some v_p]) (b_test (d_eqI (d_lenL (VP _ e)) d_int)) (fun c1 H1 e1 => ?_) (fun c1 H1 e1 => z_next ?_)
      · exact absurd (of_decide_eq_true c1) (by show ¬ ((5 : Int) = 4); decide)
      replace e := e.trans e1
      exact z_ret (K := K) (σ := [some v_c, some v_p]) (d_make (qs := [p0, p1, p2, p3, p4]) (ds_cons (VC _ e) (ds_cons (d_ixL (VP _ e) d_int rfl) (ds_cons (d_ixL (VP _ e) d_int rfl) (ds_cons (d_ixL (VP _ e) d_int rfl) (ds_cons (d_ixL (VP _ e) d_int rfl) (ds_cons (d_ixL (VP _ e) d_int rfl) ds_nil)))))) (by show 5 ≤ 20; decide) hin hsz) fun v H2 e2 h => k v _ (e.trans e2) h
    | _ :: _ :: _ :: _ :: _ :: _ :: _, h => exact absurd h (by simp)
end
end K21
namespace Dat
open PySem L2 Evl
/-! ### plain lists: such as may stand beside + -/
def EvW (K : PySem.W.Frag) (te : TE) (σ : L2.St) (H : Hp) (ds : List PyData) : Prop := ∀ H1, Ex H H1 → ∀ Q : VK, (∀ p xs H2, Ex H1 H2 → H2 p = some (.lst xs) → DpAll K H2 xs ds → Q (.ref p) H2) → te σ H1 Q
section
variable {K : PySem.W.Frag} {te tb : TE} {t : TT} {ta : TA} {σ : L2.St} {H : Hp} {D : Ends} {ts : TS} {ds es : List PyData}
theorem w_d (h : EvW K te σ H ds) : EvD K te σ H (.list ds) := fun H1 e Q k => h H1 e Q fun p xs H2 e2 hx ha => k _ _ e2 (.lst (SqL.of hx) ha)
theorem w_lst (h : EvDs K ta σ H ds) (hl : ds.length ≤ 1000) : EvW K (tLst ta) σ H ds := fun H1 x Q k =>
  h H1 x _ fun vs H2 x2 hvs => ⟨sz_of (by rw [dps_len hvs]; omega), fun p hp => k p vs _ (x2.trans (Ex.new hp)) upd_same (dps_grow (Ex.new hp) _ _ hvs)⟩
theorem w_var {i : Nat} {p : Addr} {xs : List V} (hσ : σ[i]? = some (some (.ref p))) (hx : H p = some (.lst xs)) (ha : DpAll K H xs ds) : EvW K (tVar i) σ H ds := fun H1 e Q k => ⟨_, hσ, k p xs H1 (Ex.refl H1) (e _ _ hx) (dps_grow e _ _ ha)⟩
theorem w_cat (h : EvW K te σ H ds) (r : EvW K tb σ H es) (hl : ds.length ≤ 1000) (hl' : es.length ≤ 1000) : EvW K (tOp rCat te tb) σ H (ds ++ es) := fun H1 e Q k =>
  h H1 e _ fun p xs H2 e2 hx ha => r H2 (e.trans e2) _ fun q ys H3 e3 hy hb => ⟨p, q, xs, ys, rfl, rfl, e3 _ _ hx, hy, sz_of (by rw [dps_len ha, dps_len hb]; omega), fun n hn =>
    k n _ _ ((e2.trans e3).trans (Ex.new hn)) upd_same (dps_app (dps_grow (e3.trans (Ex.new hn)) _ _ ha) (dps_grow (Ex.new hn) _ _ hb))⟩
theorem w_if {b : Bool} (h : EvB t σ H b) (r1 : b = true → EvW K te σ H ds) (r2 : b = false → EvW K tb σ H ds) : EvW K (tIf t te tb) σ H ds := fun H1 x Q k => h H1 x _ fun H2 x2 => by
  cases b with
  | true =>
    show te σ H2 Q
    exact r1 rfl H2 (x.trans x2) Q fun p xs H3 x3 => k p xs H3 (x2.trans x3)
  | false =>
    show tb σ H2 Q
    exact r2 rfl H2 (x.trans x2) Q fun p xs H3 x3 => k p xs H3 (x2.trans x3)
theorem cut_last (vs : List V) : cutV vs none (some (-1)) = vs.dropLast := by
  have e1 : HT.sIx vs.length vs.length (some (-1)) = vs.length - 1 := by
    show (if (-1 : Int) < 0 then ((-1 : Int) + (vs.length : Int)).toNat else min ((-1 : Int).toNat) vs.length) = _
    rw [if_pos (by decide)]
    omega
  have e0 : HT.sIx vs.length 0 none = 0 := rfl
  unfold cutV
  rw [e1, e0, List.drop_zero, List.dropLast_eq_take, Nat.sub_zero]
theorem dps_take {H : Hp} : ∀ {vs : List V} {ds : List PyData} (n : Nat), DpAll K H vs ds → DpAll K H (vs.take n) (ds.take n)
  | _, _, 0, _ => .nil
  | _, _, _ + 1, .nil => .nil
  | _, _, n + 1, .cons h t => .cons h (dps_take n t)
/-- xs[:-1] -/
theorem w_init (h : EvW K te σ H ds) (r : EvD K tb σ H (.int (-1))) : EvW K (tSl (rSlL K) te tNoPart (tPart tb)) σ H ds.dropLast := fun H1 e Q k =>
  h H1 e _ fun p xs H2 e2 hx ha => r H2 (e.trans e2) _ fun v H3 e3 hv => by
    cases hv
    refine ⟨-1, rfl, p, xs, rfl, SqL.of (e3 _ _ hx), fun q hq => ?_⟩
    have z := k q _ _ ((e2.trans e3).trans (Ex.new (o := .lst (cutV xs none (some (-1)))) hq)) upd_same
    refine z ?_
    rw [cut_last, List.dropLast_eq_take, List.dropLast_eq_take, dps_len ha]
    exact dps_take _ (dps_grow (e3.trans (Ex.new hq)) _ _ ha)
/-- t[:1] of a couple -/
theorem d_one {a c : PyData} (h : EvD K te σ H (.tuple [a, c])) (r : EvD K tb σ H (.int 1)) : EvD K (tSl (rSlT K) te tNoPart (tPart tb)) σ H (.tuple [a]) := fun H1 e Q k =>
  h H1 e _ fun w H2 e2 hw => r H2 (e.trans e2) _ fun v H3 e3 hv => by
    cases hv
    cases dp_grow e3 _ _ hw with
    | tup hs ha =>
      obtain ⟨x, ws, rfl, hx, ha⟩ := dps_cons ha
      obtain ⟨y, ws, rfl, hy, ha⟩ := dps_cons ha
      obtain rfl := dps_nil ha
      refine ⟨1, rfl, _, _, rfl, hs, (fun z => absurd z.2 (by show ¬ ((1 : Nat) = 2); decide)), fun q hq => k _ _ ((e2.trans e3).trans (Ex.new hq)) (.tup (SqT.of upd_same) (.cons (dp_grow (Ex.new hq) _ _ hx) .nil))⟩
/-- t + u of tuples that are not empty -/
theorem d_catT (h : EvD K te σ H (.tuple ds)) (r : EvD K tb σ H (.tuple es)) (h1 : ds ≠ []) (h2 : es ≠ []) (hl : ds.length + es.length ≤ 1000) : EvD K (tOp (rCatT K) te tb) σ H (.tuple (ds ++ es)) := fun H1 e Q k =>
  h H1 e _ fun v H2 e2 hv => r H2 (e.trans e2) _ fun w H3 e3 hw => by
    cases dp_grow e3 _ _ hv with
    | tup hs ha =>
      cases hw with
      | tup hs' hb =>
        rename_i p xs q ys
        have n1 : xs ≠ [] := fun z => h1 (List.length_eq_zero_iff.mp (by rw [← dps_len ha, z]; rfl))
        have n2 : ys ≠ [] := fun z => h2 (List.length_eq_zero_iff.mp (by rw [← dps_len hb, z]; rfl))
        exact ⟨_, _, xs, ys, rfl, rfl, hs, hs', n1, sz_of (by rw [dps_len ha, dps_len hb]; omega), fun z => absurd z n2, fun _ n hn => k _ _ ((e2.trans e3).trans (Ex.new hn)) (.tup (SqT.of upd_same) (dps_app (dps_grow (Ex.new hn) _ _ ha) (dps_grow (Ex.new hn) _ _ hb)))⟩
theorem z_plain {i : Nat} (h : EvW K te σ H ds) (k : ∀ p xs H2, Ex H H2 → H2 p = some (.lst xs) → DpAll K H2 xs ds → ts D (σ.set i (some (.ref p))) H2) : tSeq (tAsg te (gName i)) ts D σ H := h H (Ex.refl H) _ k
end
theorem parts_shape : ∀ (qs : List (Nat × Rat)), PyData.canLayAll0 (qs.map (partD true)) = true ∧ PyData.depthAll (qs.map (partD true)) ≤ 2
  | [] => ⟨rfl, by decide⟩
  | q :: qs => by
    obtain ⟨h1, h2⟩ := parts_shape qs
    refine ⟨?_, ?_⟩
    · show (true && PyData.canLayAll0 (qs.map (partD true))) = true
      rw [h1]
      rfl
    · show max 2 (PyData.depthAll (qs.map (partD true))) ≤ 2
      omega
/-! ### forms with one thing wrong -/
def badL (c : Rat) (OS INI : List PyData) (s : Nat) (x : Rat) : List PyData :=
  [.none, .int 7, .str "", .tuple [ratR c], .tuple [ratR c, .list OS, .list OS], .tuple [.list [.int 1, .int 1], .list OS], .tuple [rat 2 4, .list OS], .tuple [rat 1 0, .list OS], .tuple [.tuple [.bool true, .int 1], .list OS], .tuple [ratR c, .none],
   .tuple [ratR c, .list (OS ++ [partD true (s, x)])], .tuple [ratR c, .list (OS ++ [.tuple [.int 24, rat 1 1]])], .tuple [ratR c, .list ([.tuple [.int (-1), rat 1 1]] ++ OS)], .tuple [ratR c, .list (INI ++ [.tuple [.bool true, ratR x]])], .tuple [ratR c, .list ([partD true (s, x)] ++ OS)],
   .tuple [ratR c, .list (INI ++ [.tuple [.int (s : Int), rat 0 1]])], .tuple [ratR c, .list (INI ++ [.tuple [.int (s : Int), .list [.int 1, .int 1]]])], .tuple [ratR c, .list (INI ++ [.tuple [.int (s : Int), rat 3 (-1)]])], .tuple [ratR c, .list (INI ++ [.tuple [.int (s : Int), ratR x, .int 0]])],
   .tuple [ratR c, .list (INI ++ [.tuple [.int (s : Int)]])], .tuple [ratR c, .list (INI ++ [.none])]]
theorem kept_bad {n : Int} {b : PyData} (hb : ∀ low, 0 ≤ low → partOK n low b = false) : ∀ (l : List PyData) (low : Int), 0 ≤ low → keptParts n low (l ++ [b]) = none
  | [], low, h0 => by
    show keptParts n low [b] = none
    unfold keptParts
    rw [if_neg (by rw [hb low h0]; decide)]
  | p :: l, low, h0 => by
    show keptParts n low (p :: (l ++ [b])) = none
    unfold keptParts
    split
    · rename_i hp
      obtain ⟨_, r, px, qx, e, _, hr⟩ := part_ok hp
      have hlow : low ≤ r := by
        unfold partOK at hp
        obtain ⟨_, k2⟩ := Bool.and_eq_true_iff.mp hp
        obtain ⟨h2, _⟩ := Bool.and_eq_true_iff.mp k2
        have e0 : nd0 p = .int r := by
          rw [e]
          unfold nd0
          rw [items_sq]
          rfl
        rw [e0] at h2
        have := (Bool.and_eq_true_iff.mp h2).1
        exact of_decide_eq_true this
      rw [hr, kept_bad hb l (r + 1) (by omega)]
      rfl
    · rfl
theorem part_low {n low r : Int} {x : PyData} (h : r < low) : partOK n low (.tuple [.int r, x]) = false := by
  unfold partOK
  show (true && ((decide (low ≤ r) && decide (r ≤ n - 1)) && _)) = false
  rw [decide_eq_false (by omega)]
  rfl
theorem kept_low {n r : Int} {x : PyData} : ∀ (l : List PyData) (low : Int), r < low → keptParts n low (l ++ [.tuple [.int r, x]]) = none
  | [], low, h0 => by
    show keptParts n low [_] = none
    unfold keptParts
    rw [if_neg (by rw [part_low h0]; decide)]
  | p :: l, low, h0 => by
    show keptParts n low (p :: (l ++ _)) = none
    unfold keptParts
    split
    · rename_i hp
      obtain ⟨_, r', px, qx, e, _, hr⟩ := part_ok hp
      have hlow : low ≤ r' := by
        unfold partOK at hp
        obtain ⟨_, k2⟩ := Bool.and_eq_true_iff.mp hp
        obtain ⟨h2, _⟩ := Bool.and_eq_true_iff.mp k2
        have e0 : nd0 p = .int r' := by
          rw [e]
          unfold nd0
          rw [items_sq]
          rfl
        rw [e0] at h2
        have := (Bool.and_eq_true_iff.mp h2).1
        exact of_decide_eq_true this
      rw [hr, kept_low l (r' + 1) (by omega)]
      rfl
    · rfl
theorem kept_twice {n r : Int} {x : PyData} (B : List PyData) : ∀ (A : List PyData) (low : Int), keptParts n low (A ++ .tuple [.int r, x] :: (B ++ [.tuple [.int r, x]])) = none
  | [], low => by
    show keptParts n low (_ :: _) = none
    unfold keptParts
    split
    · have e : numI (nd0 (.tuple [.int r, x])) = r := rfl
      rw [e, kept_low B (r + 1) (by omega)]
      rfl
    · rfl
  | p :: A, low => by
    show keptParts n low (p :: (A ++ _)) = none
    unfold keptParts
    split
    · rw [kept_twice B A]
      rfl
    · rfl
theorem none_parts {c : Rat} {l : List PyData} {n : Int} (h : keptParts n 0 l = none) : isNone (keptD (.tuple [ratR c, .list l]) n) = true := by
  unfold keptD
  split
  · have e : items (nd1 (.tuple [ratR c, .list l])) = l := rfl
    rw [e, h]
    rfl
  · rfl
theorem none_not {t : PyData} {n : Int} (h : (coupleD t && (ratD (nd0 t) && isSeqD (nd1 t))) = false) : isNone (keptD t n) = true := by
  unfold keptD
  rw [if_neg (by rw [h]; decide)]
  rfl
theorem bad_all {c : Rat} {ini : List (Nat × Rat)} {s : Nat} {x : Rat} (hl : ini.length ≤ 100) : ∀ d ∈ badL c ((ini ++ [(s, x)]).map (partD true)) (ini.map (partD true)) s x, isNone (keptD d 24) = true ∧ (items (nd1 d)).length ≤ 1000 := by
  have eo : (ini ++ [(s, x)]).map (partD true) = ini.map (partD true) ++ [partD true (s, x)] := List.map_append
  have lo : ((ini ++ [(s, x)]).map (partD true)).length ≤ 101 := by
    rw [List.length_map, List.length_append]
    show ini.length + 1 ≤ 101
    omega
  have li : (ini.map (partD true)).length ≤ 100 := by
    rw [List.length_map]
    exact hl
  have short : ∀ (l : List PyData) (b : PyData), l.length ≤ 101 → (items (nd1 (.tuple [ratR c, .list (l ++ [b])]))).length ≤ 1000 := fun l b h => by
    show (l ++ [b]).length ≤ 1000
    rw [List.length_append]
    show l.length + 1 ≤ 1000
    omega
  have short2 : ∀ (l : List PyData) (b : PyData), l.length ≤ 101 → (items (nd1 (.tuple [ratR c, .list ([b] ++ l)]))).length ≤ 1000 := fun l b h => by
    show (b :: l).length ≤ 1000
    rw [List.length_cons]
    omega
  have seq2 : ∀ d0 : PyData, (items (nd1 (.tuple [d0, .list ((ini ++ [(s, x)]).map (partD true))]))).length ≤ 1000 := fun d0 => by
    show ((ini ++ [(s, x)]).map (partD true)).length ≤ 1000
    omega
  generalize hOS : (ini ++ [(s, x)]).map (partD true) = OS at *
  generalize hIN : ini.map (partD true) = INI at *
  intro d hd
  unfold badL at hd
  simp only [List.mem_cons, List.not_mem_nil, or_false] at hd
  rcases hd with rfl | rfl | rfl | rfl | rfl | rfl | rfl | rfl | rfl | rfl | rfl | rfl | rfl | rfl | rfl | rfl | rfl | rfl | rfl | rfl | rfl
  · exact ⟨rfl, Nat.zero_le _⟩
  · exact ⟨rfl, Nat.zero_le _⟩
  · exact ⟨rfl, Nat.zero_le _⟩
  · exact ⟨rfl, Nat.zero_le _⟩
  · exact ⟨rfl, by show OS.length ≤ 1000; omega⟩
  · exact ⟨rfl, seq2 _⟩
  · exact ⟨none_not rfl, seq2 _⟩
  · exact ⟨none_not rfl, seq2 _⟩
  · exact ⟨none_not rfl, seq2 _⟩
  · exact ⟨none_not (by show (true && (ratD (ratR c) && false)) = false; rw [Bool.and_false]; rfl), Nat.zero_le _⟩
  · refine ⟨none_parts ?_, short _ _ (by omega)⟩
    rw [eo, List.append_assoc]
    exact kept_twice [] INI 0
  · exact ⟨none_parts (kept_bad (fun low _ => by
      show (true && ((decide (low ≤ 24) && decide ((24 : Int) ≤ 24 - 1)) && _)) = false
      rw [decide_eq_false (p := (24 : Int) ≤ 24 - 1) (by decide), Bool.and_false]
      rfl) _ 0 (by decide)), short _ _ (by omega)⟩
  · refine ⟨none_parts ?_, short2 _ _ (by omega)⟩
    show keptParts 24 0 (.tuple [.int (-1), rat 1 1] :: OS) = none
    unfold keptParts
    rw [if_neg (by decide)]
  · exact ⟨none_parts (kept_bad (fun low _ => rfl) _ 0 (by decide)), short _ _ (by omega)⟩
  · refine ⟨none_parts ?_, short2 _ _ (by omega)⟩
    rw [eo]
    exact kept_twice INI [] 0
  · exact ⟨none_parts (kept_bad (fun low _ => by
      show (true && ((decide (low ≤ (s : Int)) && decide ((s : Int) ≤ 24 - 1)) && (true && false))) = false
      rw [Bool.and_false, Bool.and_false, Bool.and_false]) _ 0 (by decide)), short _ _ (by omega)⟩
  · exact ⟨none_parts (kept_bad (fun low _ => by
      show (true && ((decide (low ≤ (s : Int)) && decide ((s : Int) ≤ 24 - 1)) && (false && _))) = false
      rw [Bool.false_and, Bool.and_false, Bool.and_false]) _ 0 (by decide)), short _ _ (by omega)⟩
  · exact ⟨none_parts (kept_bad (fun low _ => by
      show (true && ((decide (low ≤ (s : Int)) && decide ((s : Int) ≤ 24 - 1)) && (false && _))) = false
      rw [Bool.false_and, Bool.and_false, Bool.and_false]) _ 0 (by decide)), short _ _ (by omega)⟩
  · exact ⟨none_parts (kept_bad (fun low _ => rfl) _ 0 (by decide)), short _ _ (by omega)⟩
  · exact ⟨none_parts (kept_bad (fun low _ => rfl) _ 0 (by decide)), short _ _ (by omega)⟩
  · exact ⟨none_parts (kept_bad (fun low _ => rfl) _ 0 (by decide)), short _ _ (by omega)⟩
end Dat
namespace K21
open PySem L2 Evl Dat
def spBad (K : PySem.W.Frag) : Sp := fun vs H Q _ => ∃ (c : Rat) (qs : List (Nat × Rat)) (vc : V) (p : Addr) (xs : List V), vs = [vc, .ref p] ∧ Dp K H vc (ratR c) ∧ H p = some (.lst xs) ∧ DpAll K H xs (qs.map (partD true)) ∧ qs.length ≤ 100 ∧
  ∀ v H' l, Ex H H' → Dp K H' v (.list l) → (∀ d ∈ l, isNone (keptD d 24) = true ∧ (items (nd1 d)).length ≤ 1000) → Q v H'
section
variable {P : Program} {w : World} {K : PySem.W.Frag} {mg : Str → Option Value} {base : Heap}
abbrev s_L_bad_forms : Stmt := topS 28
abbrev N_L_bad_forms : List Str := ["constant", "parts", "some", "last", "ahead"]
theorem sc_L_bad_forms : FnScope N_L_bad_forms ["constant", "parts"] (defScope s_L_bad_forms) := ⟨rfl, rfl, rfl, by decide +kernel, rfl, by decide +kernel, by decide +kernel⟩
theorem ok_L_bad_forms {f : Addr} {fd : FuncData} (F : Fun K "_law_bad_forms" "_law_bad_forms" s_L_bad_forms f fd) (T : Bl mg) : FnOk P w K mg base CX0 1 f fd ["constant", "parts"] (spBad K) := by
  refine F.ok sc_L_bad_forms (fun vs H Q E h => ?_) (fun cdv A outer s H vs Q E hr h => ?_)
  · obtain ⟨c, qs, vc, p, xs, rfl, _⟩ := h
    rfl
  · obtain ⟨c, qs, vc, p, xs, rfl, hc, hp, hxs, hlen, k⟩ := h
    refine ⟨_, (pss_cons (ps_set (i := 2) sc_L_bad_forms.nd rfl (Or.inl rfl) (pe_ifExp (pt_cmpR (op_neD hr.units) (pv 1) (pe_lst pa_nil) (nomark _)) (pv 1) (pe_lst (pa_cons (pe_tup (pa_cons pe_int (pa_cons (pe_tup (pa_cons pe_int (pa_cons pe_int pa_nil))) pa_nil))) pa_nil))))
    (pss_cons (ps_set (i := 3) sc_L_bad_forms.nd rfl (Or.inl rfl) (pe_ix (r := rIxL K) ix_list (pv 2) (pe_un un_neg pe_int) (fun _ _ => rfl)))
    (pss_cons (ps_set (i := 4) sc_L_bad_forms.nd rfl (Or.inl rfl) (pe_slice sl_list (pv 2) po_none (po_some (pe_un un_neg pe_int))))
    (pss_one (ps_ret (pe_lst (pa_cons pe_non (pa_cons pe_int (pa_cons pe_str (pa_cons (pe_tup (pa_cons (pv 0) pa_nil)) (pa_cons (pe_tup (pa_cons (pv 0) (pa_cons (pv 2) (pa_cons (pv 2) pa_nil)))) (pa_cons (pe_tup (pa_cons (pe_lst (pa_cons pe_int (pa_cons pe_int pa_nil))) (pa_cons (pv 2) pa_nil))) (pa_cons (pe_tup (pa_cons (pe_tup (pa_cons pe_int (pa_cons pe_int pa_nil))) (pa_cons (pv 2) pa_nil))) (pa_cons (pe_tup (pa_cons (pe_tup (pa_cons pe_int (pa_cons pe_int pa_nil))) (pa_cons (pv 2) pa_nil))) (pa_cons (pe_tup (pa_cons (pe_tup (pa_cons pe_bl (pa_cons pe_int pa_nil))) (pa_cons (pv 2) pa_nil))) (pa_cons (pe_tup (pa_cons (pv 0) (pa_cons pe_non pa_nil))) (pa_cons (pe_tup (pa_cons (pv 0) (pa_cons (pe_op op_cat (pv 2) (pe_lst (pa_cons (pv 3) pa_nil))) pa_nil))) (pa_cons (pe_tup (pa_cons (pv 0) (pa_cons (pe_op op_cat (pv 2) (pe_lst (pa_cons (pe_tup (pa_cons pe_int (pa_cons (pe_tup (pa_cons pe_int (pa_cons pe_int pa_nil))) pa_nil))) pa_nil))) pa_nil))) (pa_cons (pe_tup (pa_cons (pv 0) (pa_cons (pe_op op_cat (pe_lst (pa_cons (pe_tup (pa_cons (pe_un un_neg pe_int) (pa_cons (pe_tup (pa_cons pe_int (pa_cons pe_int pa_nil))) pa_nil))) pa_nil)) (pv 2)) pa_nil))) (pa_cons (pe_tup (pa_cons (pv 0) (pa_cons (pe_op op_cat (pv 4) (pe_lst (pa_cons (pe_tup (pa_cons pe_bl (pa_cons (pe_ix (r := rIxT K) ix_tup (pv 3) pe_int (fun _ _ => rfl)) pa_nil))) pa_nil))) pa_nil))) (pa_cons (pe_tup (pa_cons (pv 0) (pa_cons (pe_op op_cat (pe_lst (pa_cons (pv 3) pa_nil)) (pv 2)) pa_nil))) (pa_cons (pe_tup (pa_cons (pv 0) (pa_cons (pe_op op_cat (pv 4) (pe_lst (pa_cons (pe_tup (pa_cons (pe_ix (r := rIxT K) ix_tup (pv 3) pe_int (fun _ _ => rfl)) (pa_cons (pe_tup (pa_cons pe_int (pa_cons pe_int pa_nil))) pa_nil))) pa_nil))) pa_nil))) (pa_cons (pe_tup (pa_cons (pv 0) (pa_cons (pe_op op_cat (pv 4) (pe_lst (pa_cons (pe_tup (pa_cons (pe_ix (r := rIxT K) ix_tup (pv 3) pe_int (fun _ _ => rfl)) (pa_cons (pe_lst (pa_cons pe_int (pa_cons pe_int pa_nil))) pa_nil))) pa_nil))) pa_nil))) (pa_cons (pe_tup (pa_cons (pv 0) (pa_cons (pe_op op_cat (pv 4) (pe_lst (pa_cons (pe_tup (pa_cons (pe_ix (r := rIxT K) ix_tup (pv 3) pe_int (fun _ _ => rfl)) (pa_cons (pe_tup (pa_cons pe_int (pa_cons (pe_un un_neg pe_int) pa_nil))) pa_nil))) pa_nil))) pa_nil))) (pa_cons (pe_tup (pa_cons (pv 0) (pa_cons (pe_op op_cat (pv 4) (pe_lst (pa_cons (pe_op op_catT (pv 3) (pe_tup (pa_cons pe_int pa_nil))) pa_nil))) pa_nil))) (pa_cons (pe_tup (pa_cons (pv 0) (pa_cons (pe_op op_cat (pv 4) (pe_lst (pa_cons (pe_slice sl_tup (pv 3) po_none (po_some pe_int)) pa_nil))) pa_nil))) (pa_cons (pe_tup (pa_cons (pv 0) (pa_cons (pe_op op_cat (pv 4) (pe_lst (pa_cons pe_non pa_nil))) pa_nil))) pa_nil))))))))))))))))))))))))))), ?_⟩
    have e0 : Ex H H := Ex.refl H
    have hos : ∃ (ini : List (Nat × Rat)) (s : Nat) (x : Rat), (if qs = [] then [(0, (1 : Rat))] else qs) = ini ++ [(s, x)] ∧ ini.length ≤ 100 := by
      by_cases hq : qs = []
      · rw [if_pos hq]
        exact ⟨[], 0, 1, rfl, by decide⟩
      · rw [if_neg hq]
        refine ⟨qs.dropLast, (qs.getLast hq).1, (qs.getLast hq).2, (List.dropLast_concat_getLast hq).symm, ?_⟩
        rw [List.length_dropLast]
        omega
    obtain ⟨ini, s, x, ho, hini⟩ := hos
    refine z_plain (K := K) (σ := [some vc, some (.ref p), none, none, none]) (ds := (ini ++ [(s, x)]).map (partD true)) (w_if (b := !PyData.eqv (.list (qs.map (partD true))) (.list [])) (b_test (d_neD (w_d (w_var rfl hp hxs)) (d_lst ds_nil (by decide)) ?_ rfl)) (fun c1 => ?_) (fun c1 => ?_)) fun q ys H1 e1 hq hys => ?_
    · unfold SeqAt.shaped
      show (PyData.canLayAll0 (qs.map (partD true)) && decide (PyData.depthAll (qs.map (partD true)) + 1 ≤ 64)) = true
      obtain ⟨h1, h2⟩ := parts_shape qs
      rw [h1, decide_eq_true (by omega)]
      rfl
    · have hq : qs ≠ [] := fun z => by
        rw [z] at c1
        cases c1
      rw [if_neg hq] at ho
      rw [← ho]
      exact w_var rfl hp hxs
    · have hq : qs = [] := by
        cases qs with
        | nil => rfl
        | cons a l => cases c1
      rw [if_pos hq] at ho
      rw [← ho]
      exact w_lst (ds_cons (d_tup (ds_cons d_int (ds_cons (d_tup (ds_cons d_int (ds_cons d_int ds_nil)) (by show 2 ≤ 1000; decide)) ds_nil)) (by show 2 ≤ 1000; decide)) ds_nil) (by show 1 ≤ 1000; decide)
    · have eo : (ini ++ [(s, x)]).map (partD true) = ini.map (partD true) ++ [partD true (s, x)] := List.map_append
      have li : (ini.map (partD true)).length ≤ 100 := by
        rw [List.length_map]
        exact hini
      have lo : ((ini ++ [(s, x)]).map (partD true)).length ≤ 101 := by
        rw [eo, List.length_append]
        show (ini.map (partD true)).length + 1 ≤ 101
        omega
      have hat : atI ((ini ++ [(s, x)]).map (partD true)) (-1) = some (partD true (s, x)) := by
        rw [eo]
        unfold atI
        have e : ixN (ini.map (partD true) ++ [partD true (s, x)]).length (-1) = some (ini.map (partD true)).length := by
          unfold ixN
          rw [List.length_append]
          show (if (0 : Int) ≤ -1 then _ else if -(((ini.map (partD true)).length + 1 : Nat) : Int) ≤ -1 then some (-1 + (((ini.map (partD true)).length + 1 : Nat) : Int)).toNat else none) = _
          rw [if_neg (by decide), if_pos (by omega)]
          congr 1
          omega
        rw [e]
        show (ini.map (partD true) ++ [partD true (s, x)])[(ini.map (partD true)).length]? = _
        rw [List.getElem?_append_right (Nat.le_refl _), Nat.sub_self]
        rfl
      refine z_set (K := K) (σ := [some vc, some (.ref p), some (.ref q), none, none]) (d := .tuple [.int (s : Int), ratR x]) (d_ixL (w_d (w_var rfl hq hys)) (d_neg d_int) hat) fun vl H2 e2 hl => ?_
      refine z_plain (K := K) (σ := [some vc, some (.ref p), some (.ref q), some vl, none]) (w_init (w_var rfl (e2 _ _ hq) (dps_grow e2 _ _ hys)) (d_neg d_int)) fun r zs H3 e3 hr3 hzs => ?_
      have hzs' : DpAll K H3 zs (ini.map (partD true)) := by
        rw [eo, List.dropLast_concat] at hzs
        exact hzs
      have W : EvW K (tVar 2) [some vc, some (.ref p), some (.ref q), some vl, some (.ref r)] H3 ((ini ++ [(s, x)]).map (partD true)) := w_var rfl (e3 _ _ (e2 _ _ hq)) (dps_grow (e2.trans e3) _ _ hys)
      have A : EvW K (tVar 4) [some vc, some (.ref p), some (.ref q), some vl, some (.ref r)] H3 (ini.map (partD true)) := w_var rfl hr3 hzs'
      have C : EvD K (tVar 0) [some vc, some (.ref p), some (.ref q), some vl, some (.ref r)] H3 (ratR c) := d_var ⟨_, rfl, dp_grow (e1.trans (e2.trans e3)) _ _ hc⟩
      have L : EvD K (tVar 3) [some vc, some (.ref p), some (.ref q), some vl, some (.ref r)] H3 (.tuple [.int (s : Int), ratR x]) := d_var ⟨_, rfl, dp_grow e3 _ _ hl⟩
      refine z_ret (K := K) (σ := [some vc, some (.ref p), some (.ref q), some vl, some (.ref r)]) (d := .list (badL c ((ini ++ [(s, x)]).map (partD true)) (ini.map (partD true)) s x)) ?_ fun v H4 e4 hv => k v H4 _ (e1.trans (e2.trans (e3.trans e4))) hv (bad_all hini)
      exact d_lst (ds_cons d_non
        (ds_cons d_int
        (ds_cons d_str
        (ds_cons (d_tup (ds_cons C ds_nil) (by show 1 ≤ 1000; decide))
        (ds_cons (d_tup (ds_cons C (ds_cons (w_d W) (ds_cons (w_d W) ds_nil))) (by show 3 ≤ 1000; decide))
        (ds_cons (d_tup (ds_cons (d_lst (ds_cons d_int (ds_cons d_int ds_nil)) (by show 2 ≤ 1000; decide)) (ds_cons (w_d W) ds_nil)) (by show 2 ≤ 1000; decide))
        (ds_cons (d_tup (ds_cons (d_tup (ds_cons d_int (ds_cons d_int ds_nil)) (by show 2 ≤ 1000; decide)) (ds_cons (w_d W) ds_nil)) (by show 2 ≤ 1000; decide))
        (ds_cons (d_tup (ds_cons (d_tup (ds_cons d_int (ds_cons d_int ds_nil)) (by show 2 ≤ 1000; decide)) (ds_cons (w_d W) ds_nil)) (by show 2 ≤ 1000; decide))
        (ds_cons (d_tup (ds_cons (d_tup (ds_cons d_bl (ds_cons d_int ds_nil)) (by show 2 ≤ 1000; decide)) (ds_cons (w_d W) ds_nil)) (by show 2 ≤ 1000; decide))
        (ds_cons (d_tup (ds_cons C (ds_cons d_non ds_nil)) (by show 2 ≤ 1000; decide))
        (ds_cons (d_tup (ds_cons C (ds_cons (w_d (w_cat W (w_lst (ds_cons L ds_nil) (by show 1 ≤ 1000; decide)) (by omega) (by show 1 ≤ 1000; decide))) ds_nil)) (by show 2 ≤ 1000; decide))
        (ds_cons (d_tup (ds_cons C (ds_cons (w_d (w_cat W (w_lst (ds_cons (d_tup (ds_cons d_int (ds_cons (d_tup (ds_cons d_int (ds_cons d_int ds_nil)) (by show 2 ≤ 1000; decide)) ds_nil)) (by show 2 ≤ 1000; decide)) ds_nil) (by show 1 ≤ 1000; decide)) (by omega) (by show 1 ≤ 1000; decide))) ds_nil)) (by show 2 ≤ 1000; decide))
        (ds_cons (d_tup (ds_cons C (ds_cons (w_d (w_cat (w_lst (ds_cons (d_tup (ds_cons (d_neg d_int) (ds_cons (d_tup (ds_cons d_int (ds_cons d_int ds_nil)) (by show 2 ≤ 1000; decide)) ds_nil)) (by show 2 ≤ 1000; decide)) ds_nil) (by show 1 ≤ 1000; decide)) W (by show 1 ≤ 1000; decide) (by omega))) ds_nil)) (by show 2 ≤ 1000; decide))
        (ds_cons (d_tup (ds_cons C (ds_cons (w_d (w_cat A (w_lst (ds_cons (d_tup (ds_cons d_bl (ds_cons (d_ixT L d_int rfl) ds_nil)) (by show 2 ≤ 1000; decide)) ds_nil) (by show 1 ≤ 1000; decide)) (by omega) (by show 1 ≤ 1000; decide))) ds_nil)) (by show 2 ≤ 1000; decide))
        (ds_cons (d_tup (ds_cons C (ds_cons (w_d (w_cat (w_lst (ds_cons L ds_nil) (by show 1 ≤ 1000; decide)) W (by show 1 ≤ 1000; decide) (by omega))) ds_nil)) (by show 2 ≤ 1000; decide))
        (ds_cons (d_tup (ds_cons C (ds_cons (w_d (w_cat A (w_lst (ds_cons (d_tup (ds_cons (d_ixT L d_int rfl) (ds_cons (d_tup (ds_cons d_int (ds_cons d_int ds_nil)) (by show 2 ≤ 1000; decide)) ds_nil)) (by show 2 ≤ 1000; decide)) ds_nil) (by show 1 ≤ 1000; decide)) (by omega) (by show 1 ≤ 1000; decide))) ds_nil)) (by show 2 ≤ 1000; decide))
        (ds_cons (d_tup (ds_cons C (ds_cons (w_d (w_cat A (w_lst (ds_cons (d_tup (ds_cons (d_ixT L d_int rfl) (ds_cons (d_lst (ds_cons d_int (ds_cons d_int ds_nil)) (by show 2 ≤ 1000; decide)) ds_nil)) (by show 2 ≤ 1000; decide)) ds_nil) (by show 1 ≤ 1000; decide)) (by omega) (by show 1 ≤ 1000; decide))) ds_nil)) (by show 2 ≤ 1000; decide))
        (ds_cons (d_tup (ds_cons C (ds_cons (w_d (w_cat A (w_lst (ds_cons (d_tup (ds_cons (d_ixT L d_int rfl) (ds_cons (d_tup (ds_cons d_int (ds_cons (d_neg d_int) ds_nil)) (by show 2 ≤ 1000; decide)) ds_nil)) (by show 2 ≤ 1000; decide)) ds_nil) (by show 1 ≤ 1000; decide)) (by omega) (by show 1 ≤ 1000; decide))) ds_nil)) (by show 2 ≤ 1000; decide))
        (ds_cons (d_tup (ds_cons C (ds_cons (w_d (w_cat A (w_lst (ds_cons (d_catT L (d_tup (ds_cons d_int ds_nil) (by show 1 ≤ 1000; decide)) (by simp) (by simp) (by show 3 ≤ 1000; decide)) ds_nil) (by show 1 ≤ 1000; decide)) (by omega) (by show 1 ≤ 1000; decide))) ds_nil)) (by show 2 ≤ 1000; decide))
        (ds_cons (d_tup (ds_cons C (ds_cons (w_d (w_cat A (w_lst (ds_cons (d_one L d_int) ds_nil) (by show 1 ≤ 1000; decide)) (by omega) (by show 1 ≤ 1000; decide))) ds_nil)) (by show 2 ≤ 1000; decide))
        (ds_cons (d_tup (ds_cons C (ds_cons (w_d (w_cat A (w_lst (ds_cons d_non ds_nil) (by show 1 ≤ 1000; decide)) (by omega) (by show 1 ≤ 1000; decide))) ds_nil)) (by show 2 ≤ 1000; decide))
        ds_nil))))))))))))))))))))) (by show 21 ≤ 1000; decide)
end
end K21
namespace Dat
open PySem L2 Evl
/-! ### the value of a form is that of its parts -/
def sumR (f : Nat → Rat) : Nat → Rat
  | 0 => 0
  | n + 1 => sumR f n + f n
theorem sumR_zero : ∀ n, sumR (fun _ => 0) n = 0
  | 0 => rfl
  | n + 1 => by
    show sumR (fun _ => 0) n + 0 = 0
    rw [sumR_zero n, Rat.add_zero]
theorem sumR_one {f : Nat → Rat} {p : Nat} {d : Rat} : ∀ n, sumR (fun s => if p = s then f s + d else f s) n = if p < n then sumR f n + d else sumR f n
  | 0 => by
    rw [if_neg (by omega)]
    rfl
  | n + 1 => by
    show sumR (fun s => if p = s then f s + d else f s) n + (if p = n then f n + d else f n) = _
    rw [sumR_one n]
    show _ = if p < n + 1 then (sumR f n + f n) + d else sumR f n + f n
    by_cases h : p = n
    · rw [if_pos h, if_neg (by omega), if_pos (by omega)]
      grind
    · rw [if_neg h]
      by_cases h2 : p < n
      · rw [if_pos h2, if_pos (by omega)]
        grind
      · rw [if_neg h2, if_neg (by omega)]
theorem sumR_congr {f g : Nat → Rat} (h : ∀ s, f s = g s) (n : Nat) : sumR f n = sumR g n := by
  rw [funext h]
theorem value_sum {rs : List Rat} {c : Rat} {ps : List (Nat × Rat)} (h : ∀ p ∈ ps, p.1 < 24) : ∀ i, valueR rs c (ps.take i) = c + sumR (fun s => sumAt (ps.take i) s * rs.getD s 0) 24
  | 0 => by
    rw [List.take_zero]
    show c = c + _
    have e : sumR (fun s => sumAt [] s * rs.getD s 0) 24 = 0 := by
      exact (sumR_congr (f := fun s => sumAt [] s * rs.getD s 0) (g := fun _ => 0) (fun s => Rat.zero_mul _) 24).trans (sumR_zero 24)
    rw [e, Rat.add_zero]
  | i + 1 => by
    cases q : ps[i]? with
    | none =>
      have hl := List.getElem?_eq_none_iff.mp q
      have z := value_sum (rs := rs) (c := c) h i
      rw [List.take_of_length_le (by omega)] at z ⊢
      exact z
    | some p =>
      rw [value_next q, value_sum h i, take_next q]
      have hp := h p (List.mem_of_getElem? q)
      have e : sumR (fun s => sumAt (ps.take i ++ [p]) s * rs.getD s 0) 24 = sumR (fun s => if p.1 = s then sumAt (ps.take i) s * rs.getD s 0 + p.2 * rs.getD p.1 0 else sumAt (ps.take i) s * rs.getD s 0) 24 := sumR_congr (fun s => by
        rw [sumAt_snoc]
        by_cases h : p.1 = s
        · rw [if_pos h, if_pos h, h, Rat.add_mul]
        · rw [if_neg h, if_neg h]) 24
      rw [e, sumR_one, if_pos hp]
      grind
theorem value_due {rs : List Rat} {c : Rat} {ps : List (Nat × Rat)} : ∀ n, valueR rs c (((List.range n).filter fun s => decide (sumAt ps s ≠ 0)).map fun s => (s, sumAt ps s)) = c + sumR (fun s => sumAt ps s * rs.getD s 0) n
  | 0 => (Rat.add_zero c).symm
  | n + 1 => by
    have ih := value_due (rs := rs) (c := c) (ps := ps) n
    rw [List.range_succ, List.filter_append, List.map_append]
    show List.foldl _ _ _ = _
    rw [List.foldl_append]
    have e : List.foldl (fun v (p : Nat × Rat) => v + p.2 * rs.getD p.1 0) c (((List.range n).filter fun s => decide (sumAt ps s ≠ 0)).map fun s => (s, sumAt ps s)) = _ := ih
    rw [e]
    show _ = c + (sumR (fun s => sumAt ps s * rs.getD s 0) n + sumAt ps n * rs.getD n 0)
    by_cases h : sumAt ps n = 0
    · rw [List.filter_cons_of_neg (by rw [decide_eq_false (fun z => z h)]; decide)]
      show c + _ = _
      rw [h, Rat.zero_mul, Rat.add_zero]
    · rw [List.filter_cons_of_pos (p := fun s => decide (sumAt ps s ≠ 0)) (decide_eq_true (p := sumAt ps n ≠ 0) h)]
      show (c + _) + sumAt ps n * rs.getD n 0 = _
      rw [Rat.add_assoc]
theorem value_same {rs : List Rat} {c : Rat} {ps : List (Nat × Rat)} (h : ∀ p ∈ ps, p.1 < 24) : valueR rs c (dueL ps) = valueR rs c ps := by
  have z := value_sum (rs := rs) (c := c) h ps.length
  rw [List.take_length] at z
  rw [z]
  exact value_due 24
/-! ### sizes -/
theorem sz_zero : Sz 1 (0 : Rat) := ⟨by decide, by decide⟩
theorem sz_sum {n : Nat} {ps : List (Nat × Rat)} (h : ∀ p ∈ ps, Sz n p.2) (s : Nat) : ∀ i, Sz (1 + i * (n + 1)) (sumAt (ps.take i) s)
  | 0 => by
    rw [List.take_zero, Nat.zero_mul]
    exact sz_zero
  | i + 1 => by
    have ih := sz_sum h s i
    cases q : ps[i]? with
    | none =>
      have hl := List.getElem?_eq_none_iff.mp q
      rw [List.take_of_length_le (by omega)] at ih ⊢
      exact ih.mono (by rw [Nat.succ_mul]; omega)
    | some p =>
      rw [take_next q, sumAt_snoc]
      split
      · exact (sz_add ih (h p (List.mem_of_getElem? q))).mono (by rw [Nat.succ_mul]; omega)
      · exact ih.mono (by rw [Nat.succ_mul]; omega)
theorem sz_value {n m : Nat} {rs : List Rat} {c : Rat} {qs : List (Nat × Rat)} (hc : Sz m c) (h : ∀ p ∈ qs, Sz n (p.2 * rs.getD p.1 0)) : ∀ i, Sz (m + i * (n + 1)) (valueR rs c (qs.take i))
  | 0 => by
    rw [List.take_zero, Nat.zero_mul]
    exact hc
  | i + 1 => by
    have ih := sz_value hc h i
    cases q : qs[i]? with
    | none =>
      have hl := List.getElem?_eq_none_iff.mp q
      rw [List.take_of_length_le (by omega)] at ih ⊢
      exact ih.mono (by rw [Nat.succ_mul]; omega)
    | some p =>
      rw [value_next q]
      exact (sz_add ih (h p (List.mem_of_getElem? q))).mono (by rw [Nat.succ_mul]; omega)
theorem len_sub {l : List Nat} : ∀ {m : List Nat}, l.Nodup → (∀ a ∈ l, a ∈ m) → l.length ≤ m.length := by
  induction l with
  | nil => exact fun _ _ => Nat.zero_le _
  | cons a l ih =>
    intro m hn hs
    have ha := hs a List.mem_cons_self
    obtain ⟨h1, h2⟩ := List.nodup_cons.mp hn
    have z := ih (m := m.erase a) h2 fun b hb => (List.mem_erase_of_ne (fun e : b = a => h1 (e ▸ hb))).mpr (hs b (List.mem_cons_of_mem _ hb))
    rw [List.length_erase_of_mem ha] at z
    have : 0 < m.length := List.length_pos_of_mem ha
    rw [List.length_cons]
    omega
theorem due_mem {ps : List (Nat × Rat)} {q : Nat × Rat} (h : q ∈ dueL ps) : q.1 < 24 ∧ q.2 = sumAt ps q.1 ∧ q.2 ≠ 0 ∧ q.1 ∈ ps.map (·.1) := by
  obtain ⟨s, hs, rfl⟩ := List.mem_map.mp h
  obtain ⟨h1, h2⟩ := List.mem_filter.mp hs
  have h3 : sumAt ps s ≠ 0 := of_decide_eq_true h2
  refine ⟨List.mem_range.mp h1, rfl, h3, Classical.byContradiction fun z => h3 ?_⟩
  unfold sumAt
  exact sumAt_none z
theorem due_len {ps : List (Nat × Rat)} : (dueL ps).length ≤ ps.length := by
  have z := len_sub (l := (dueL ps).map (·.1)) (m := ps.map (·.1)) (by
    unfold dueL
    rw [List.map_map]
    have e : ((fun q : Nat × Rat => q.1) ∘ fun s => (s, sumAt ps s)) = id := rfl
    rw [e, List.map_id]
    exact List.nodup_range.filter _) (fun a ha => by
    obtain ⟨q, hq, rfl⟩ := List.mem_map.mp ha
    exact (due_mem hq).2.2.2)
  rwa [List.length_map, List.length_map] at z
/-! ### a form of registers below a number -/
theorem ratD_R (x : Rat) : ratD (ratR x) = true := by
  show (true && ((decide ((1 : Int) ≤ (x.den : Int)) && true) && decide (((Nat.gcd x.num.natAbs x.den : Nat) : Int) = 1))) = true
  rw [decide_eq_true (by have := x.den_pos; omega), decide_eq_true (by have := x.reduced; unfold Nat.Coprime at this; omega)]
  rfl
def Asc : Nat → List (Nat × Rat) → Prop
  | _, [] => True
  | low, q :: qs => low ≤ q.1 ∧ q.2 ≠ 0 ∧ Asc (q.1 + 1) qs
theorem part_val {n : Int} {low : Nat} {b : Bool} {q : Nat × Rat} (h1 : low ≤ q.1) (h2 : q.2 ≠ 0) : partOK n (low : Int) (partD b q) = decide ((q.1 : Int) ≤ n - 1) := by
  have e0 : nd0 (partD b q) = .int (q.1 : Int) := by unfold nd0; rw [items_sq]; rfl
  have e1 : nd1 (partD b q) = ratR q.2 := by unfold nd1; rw [items_sq]; rfl
  have e2 : coupleD (partD b q) = true := by
    unfold coupleD
    rw [items_sq]
    cases b <;> rfl
  unfold partOK
  rw [e0, e1, e2, ratD_R, eqv_zero, decide_eq_false h2]
  show (true && ((decide ((low : Int) ≤ (q.1 : Int)) && decide ((q.1 : Int) ≤ n - 1)) && (true && true))) = _
  rw [decide_eq_true (by omega)]
  cases decide ((q.1 : Int) ≤ n - 1) <;> rfl
theorem num_part (b : Bool) (q : Nat × Rat) : numI (nd0 (partD b q)) = (q.1 : Int) := by
  unfold nd0
  rw [items_sq]
  rfl
theorem kept_asc {n : Int} {b : Bool} : ∀ {qs : List (Nat × Rat)} {low : Nat}, Asc low qs → (keptParts n (low : Int) (qs.map (partD b))).isSome = qs.all fun q => decide ((q.1 : Int) ≤ n - 1)
  | [], _, _ => rfl
  | q :: qs, low, ⟨h1, h2, h3⟩ => by
    show (keptParts n (low : Int) (partD b q :: qs.map (partD b))).isSome = (decide ((q.1 : Int) ≤ n - 1) && qs.all _)
    unfold keptParts
    rw [part_val h1 h2, num_part]
    by_cases h : (q.1 : Int) ≤ n - 1
    · rw [if_pos (decide_eq_true h), decide_eq_true h, Option.isSome_map]
      have z := kept_asc (n := n) (b := b) h3
      rw [Bool.true_and, ← z]
      rfl
    · rw [if_neg (by rw [decide_eq_false h]; decide), decide_eq_false h]
      rfl
theorem asc_due {ps : List (Nat × Rat)} (l : List Nat) (hl : l.Pairwise (· < ·)) : ∀ {low : Nat}, (∀ s ∈ l, low ≤ s) → Asc low ((l.filter fun s => decide (sumAt ps s ≠ 0)).map fun s => (s, sumAt ps s)) := by
  induction l with
  | nil => exact fun _ => trivial
  | cons a l ih =>
    intro low h
    obtain ⟨h1, h2⟩ := List.pairwise_cons.mp hl
    by_cases c : sumAt ps a = 0
    · rw [List.filter_cons_of_neg (by rw [decide_eq_false (fun z => z c)]; decide)]
      exact ih h2 fun s hs => h s (List.mem_cons_of_mem _ hs)
    · rw [List.filter_cons_of_pos (p := fun s => decide (sumAt ps s ≠ 0)) (decide_eq_true (p := sumAt ps a ≠ 0) c)]
      exact ⟨h a List.mem_cons_self, c, ih h2 fun s hs => h1 s hs⟩
theorem asc_dueL (ps : List (Nat × Rat)) : Asc 0 (dueL ps) := asc_due _ List.pairwise_lt_range fun _ _ => Nat.zero_le _
/-- the greatest register, -1 without one -/
def most (qs : List (Nat × Rat)) : Int := match qs.getLast? with
  | some q => (q.1 : Int)
  | none => -1
theorem most_ge : ∀ {qs : List (Nat × Rat)} {low : Nat}, Asc low qs → qs ≠ [] → (low : Int) ≤ most qs
  | [], _, _, h => absurd rfl h
  | [q], low, ⟨h1, _, _⟩, _ => by
    show (low : Int) ≤ (q.1 : Int)
    omega
  | q :: r :: qs, low, ⟨h1, _, h3⟩, _ => by
    have z := most_ge h3 (by simp)
    have e : most (q :: r :: qs) = most (r :: qs) := rfl
    rw [e]
    omega
theorem all_most {n : Int} (hn : 0 ≤ n) : ∀ {qs : List (Nat × Rat)} {low : Nat}, Asc low qs → (qs.all fun q => decide ((q.1 : Int) ≤ n - 1)) = decide (most qs < n)
  | [], _, _ => by
    show true = decide ((-1 : Int) < n)
    rw [decide_eq_true (by omega)]
  | [q], low, _ => by
    show (decide ((q.1 : Int) ≤ n - 1) && true) = decide ((q.1 : Int) < n)
    rw [Bool.and_true]
    exact decide_eq_decide.mpr (by omega)
  | q :: r :: qs, low, ⟨h1, _, h3⟩ => by
    have z := all_most hn h3
    have e : most (q :: r :: qs) = most (r :: qs) := rfl
    show (decide ((q.1 : Int) ≤ n - 1) && (r :: qs).all _) = _
    rw [e, z]
    have g := most_ge h3 (by simp)
    by_cases h : most (r :: qs) < n
    · rw [decide_eq_true h, decide_eq_true (by omega)]
      rfl
    · rw [decide_eq_false h, Bool.and_false]
theorem form_kept {n : Int} {b : Bool} {c : Rat} {ps : List (Nat × Rat)} (hn : 0 ≤ n) : (!isNone (keptD (formD b c (dueL ps)) n)) = decide (most (dueL ps) < n) := by
  rw [← all_most hn (asc_dueL ps), ← kept_asc (n := n) (b := b) (asc_dueL ps)]
  have e0 : nd0 (formD b c (dueL ps)) = ratR c := by unfold nd0; rw [items_sq]; rfl
  have e1 : nd1 (formD b c (dueL ps)) = sq b ((dueL ps).map (partD b)) := by unfold nd1; rw [items_sq]; rfl
  have e2 : coupleD (formD b c (dueL ps)) = true := by
    unfold coupleD
    rw [items_sq]
    cases b <;> rfl
  have e3 : isSeqD (sq b ((dueL ps).map (partD b))) = true := by cases b <;> rfl
  unfold keptD
  rw [e0, e1, e2, ratD_R, e3, items_sq]
  show (!isNone (match keptParts n ((0 : Nat) : Int) ((dueL ps).map (partD b)) with
    | some l => .tuple [ratR c, .tuple l]
    | none => .none)) = _
  cases keptParts n ((0 : Nat) : Int) ((dueL ps).map (partD b)) <;> rfl
theorem last_due {ps : List (Nat × Rat)} (h : dueL ps ≠ []) : ∃ q, atI ((dueL ps).map (partD true)) (-1) = some (partD true q) ∧ most (dueL ps) = (q.1 : Int) := by
  generalize dueL ps = qs at h
  refine ⟨qs.getLast h, ?_, ?_⟩
  · unfold atI
    have hp : 0 < qs.length := List.length_pos_iff.mpr h
    have e : ixN (qs.map (partD true)).length (-1) = some (qs.length - 1) := by
      unfold ixN
      rw [List.length_map]
      show (if (0 : Int) ≤ -1 then _ else if -(qs.length : Int) ≤ -1 then some (-1 + (qs.length : Int)).toNat else none) = _
      rw [if_neg (by decide), if_pos (by omega)]
      congr 1
      omega
    rw [e]
    show (qs.map (partD true))[qs.length - 1]? = _
    rw [List.getElem?_map, List.getLast_eq_getElem, List.getElem?_eq_getElem (by omega)]
    rfl
  · unfold most
    rw [List.getLast?_eq_some_getLast h]
/-! ### what is compared by the law is good -/
theorem good_rat (x : Rat) : goodN 3 (ratR x) = true := rfl
theorem good_form {c : Rat} {qs : List (Nat × Rat)} (h : qs.length ≤ 1000) : goodN 5 (formD true c qs) = true := by
  show (decide (2 ≤ 1000) && (true && ((decide ((qs.map (partD true)).length ≤ 1000) && (qs.map (partD true)).all fun d => goodN 3 d) && true))) = true
  rw [List.length_map, decide_eq_true h, List.all_map]
  have : (qs.all ((fun d => goodN 3 d) ∘ partD true)) = true := List.all_eq_true.mpr fun q _ => rfl
  rw [this]
  rfl
end Dat
namespace Dat
open PySem L2 Evl
section
variable {K : PySem.W.Frag} {te tb : TE} {tt : TT} {ta : TA} {σ : L2.St} {H : Hp} {D : Ends} {ts ty : TS} {ds : List PyData} {d : PyData}
def rListOf (K : PySem.W.Frag) : List V → Hp → VK → Prop := fun xs H Q => ∃ p ys, xs = [.ref p] ∧ (SqL K H p ys ∨ SqT K H p ys) ∧ ∀ l, H l = none → Q (.ref l) (upd H l (.lst ys))
theorem z_spec {i : Nat} (S : V → Hp → Prop) (h : ∀ Q : VK, (∀ v H1, S v H1 → Q v H1) → te σ H Q) (k : ∀ v H1, S v H1 → ts D (σ.set i (some v)) H1) : tSeq (tAsg te (gName i)) ts D σ H := h _ k
/-- for x in range(n), whatever changes: S tells what the number is -/
theorem z_forA {j : Nat} (S : Int → Hp → Prop) (h : ∀ Q : List V → Hp → Prop, (∀ n H1, S n H1 → 0 ≤ n ∧ n ≤ 100000 → Q [.int n] H1) → ta σ H Q) (Pv : Int → Nat → L2.St → Hp → Prop) (p0 : ∀ n H1, S n H1 → Pv n 0 σ H1)
    (step : ∀ (n : Int) (i : Nat) σ' H' (D' : Ends), (i : Int) < n → Pv n i σ' H' → D'.rt = D.rt → (∀ σ2 H2, Pv n (i + 1) σ2 H2 → D'.nx σ2 H2) → ty D' (σ'.set j (some (.int (i : Int)))) H')
    (fin : ∀ n σ' H', 0 ≤ n → Pv n n.toNat σ' H' → ts D σ' H') : tSeq (tFor (iRng1 ta) (gName j) ty) ts D σ H := by
  refine h _ fun n H1 s hn => ⟨n, rfl, by omega, by omega, for_range (lo := 0) (n := n.toNat) (Pv n) (p0 n H1 s) (fun i σ' H' hi p => ?_) (fun σ' H' p => fin n σ' H' hn.1 p)⟩
  have e0 : (0 : Int) + (i : Int) = (i : Int) := Int.zero_add _
  rw [e0]
  exact step n i σ' H' _ (by omega) p rfl fun σ2 H2 p2 => p2
/-- for .. in a list or a tuple, the last one of a block -/
theorem z_forS1 {tg : TG} {b : Bool} (h : EvD K te σ H (sq b ds)) (Pv : Nat → L2.St → Hp → Prop) (h0 : ∀ H1, Ex H H1 → Pv 0 σ H1)
    (step : ∀ i d v σ' H' (D' : Ends), ds[i]? = some d → Ex H H' → Pv i σ' H' → Dp K H' v d → D'.rt = D.rt → (∀ σ2 H2, Ex H' H2 → Pv (i + 1) σ2 H2 → D'.nx σ2 H2) → tg v σ' H' fun σ2 H2 => ty D' σ2 H2)
    (fin : ∀ σ' H', Ex H H' → Pv ds.length σ' H' → D.nx σ' H') : tFor (iAlt (iList K te) (iTup K te)) tg ty D σ H := by
  cases b with
  | false =>
    refine .inl (h H (Ex.refl H) _ fun v H1 e hv => ?_)
    cases hv with
    | lst hs ha =>
      rename_i a vs
      refine ⟨a, rfl, ⟨vs, hs⟩, ?_⟩
      have hl := dps_len ha
      refine for_list (fun i σ' H' => Ex H1 H' ∧ Pv i σ' H') ⟨Ex.refl H1, h0 _ e⟩ (fun i σ' H' _ p => ex_l p.1 hs) (fun i x σ' H' hx p => ?_) (fun σ' H' p => fin σ' H' (e.trans p.1) (by rw [← hl]; exact p.2))
      obtain ⟨d, hd, hxd⟩ := dps_back ha hx
      exact step i d x σ' H' _ hd (e.trans p.1) p.2 (dp_grow p.1 _ _ hxd) rfl fun σ2 H2 e2 p2 => ⟨p.1.trans e2, p2⟩
  | true =>
    refine .inr (h H (Ex.refl H) _ fun v H1 e hv => ?_)
    cases hv with
    | tup hs ha =>
      rename_i a vs
      refine ⟨a, rfl, ⟨vs, hs⟩, ?_⟩
      have hl := dps_len ha
      refine for_tup (fun i σ' H' => Ex H1 H' ∧ Pv i σ' H') ⟨Ex.refl H1, h0 _ e⟩ (fun i σ' H' _ p => ex_t p.1 hs) (fun i x σ' H' hx p => ?_) (fun σ' H' p => fin σ' H' (e.trans p.1) (by rw [← hl]; exact p.2))
      obtain ⟨d, hd, hxd⟩ := dps_back ha hx
      exact step i d x σ' H' _ hd (e.trans p.1) p.2 (dp_grow p.1 _ _ hxd) rfl fun σ2 H2 e2 p2 => ⟨p.1.trans e2, p2⟩
/-- for x in a list of which only a property of its items is known -/
theorem z_forF {j : Nat} {b : Bool} (S : List PyData → Prop) (h : ∀ H1, Ex H H1 → ∀ Q : VK, (∀ v H2 l, Ex H1 H2 → Dp K H2 v (.list l) → S l → Q v H2) → te σ H1 Q) (Pv : Nat → L2.St → Hp → Prop) (h0 : ∀ H1, Ex H H1 → Pv 0 σ H1)
    (step : ∀ i d v σ' H' (D' : Ends) l, S l → d ∈ l → Ex H H' → Pv i σ' H' → Dp K H' v d → D'.rt = D.rt → (∀ σ2 H2, Ex H' H2 → Pv (i + 1) σ2 H2 → D'.nx σ2 H2) → ty D' (σ'.set j (some v)) H')
    (fin : ∀ σ' H', Ex H H' → (∃ n, Pv n σ' H') → ts D σ' H') : tSeq (tFor (iAlt (iList K te) (iTup K te)) (gName j) ty) ts D σ H := by
  refine .inl (h H (Ex.refl H) _ fun v H1 l e hv hS => ?_)
  cases hv with
  | lst hs ha =>
    rename_i a vs
    refine ⟨a, rfl, ⟨vs, hs⟩, ?_⟩
    refine for_list (fun i σ' H' => Ex H1 H' ∧ Pv i σ' H') ⟨Ex.refl H1, h0 _ e⟩ (fun i σ' H' _ p => ex_l p.1 hs) (fun i x σ' H' hx p => ?_) (fun σ' H' p => fin σ' H' (e.trans p.1) ⟨_, p.2⟩)
    obtain ⟨d, hd, hxd⟩ := dps_back ha hx
    exact step i d x σ' H' _ l hS (List.mem_of_getElem? hd) (e.trans p.1) p.2 (dp_grow p.1 _ _ hxd) rfl fun σ2 H2 e2 p2 => ⟨p.1.trans e2, p2⟩
/-- [list(x) for x in xs] of tuples -/
theorem d_lists {j : Nat} {vs : List Nat} {ws : List (List PyData)} (h : EvD K te σ H (.list (ws.map PyData.tuple))) (hn : ws.length ≤ 40000) (hj : j < σ.length) (hw : ∀ x, wipe ((wipe σ vs).set j (some x)) vs = wipe σ vs) (hl : ∀ x, ((wipe σ vs).set j (some x))[j]? = some (some x)) :
    EvD K (tLc (iList K te) (gName j) tYes (tCB (rListOf K) (tCons (tVar j) tNil)) vs) σ H (.list (ws.map PyData.list)) := fun H1 e Q k => by
  refine h H1 e _ fun v H2 e2 hv => ?_
  cases hv with
  | lst hs ha =>
    rename_i a xs
    have hlen := dps_len ha
    rw [List.length_map] at hlen
    refine ⟨a, rfl, ⟨xs, hs⟩, fun D hD => ?_⟩
    refine lc_list (K := K) (xs := xs) (fun i H' => ∃ acc, H' D = some (.lst acc) ∧ acc.length ≤ i ∧ Ex H2 (rem H' D) ∧ DpAll K (rem H' D) acc ((ws.take i).map PyData.list)) ⟨[], upd_same, Nat.le_refl _, by rw [rem_new hD]; exact Ex.refl H2, .nil⟩ (fun i H' _ ⟨_, _, _, ex, _⟩ => ex_l (ex.trans rem_ex) hs) ?_ ?_
    · rintro i x H' hx ⟨acc, hacc, hal, ex, hall⟩
      obtain ⟨d, hd, hxd⟩ := dps_back ha hx
      rw [List.getElem?_map] at hd
      obtain ⟨u, hu, rfl⟩ := Option.map_eq_some_iff.mp hd
      have hi : i < ws.length := (List.getElem?_eq_some_iff.mp hu).1
      refine ⟨hw x, K21.yes_turn ?_⟩
      cases hxd with
      | tup hts hta =>
        rename_i b ys
        refine ⟨_, hl _, b, ys, rfl, .inr (ex_t (ex.trans rem_ex) hts), fun l hlf => ?_⟩
        have nD : l ≠ D := fun q => by
          rw [q, hacc] at hlf
          cases hlf
        have e4 : Ex H' (upd H' l (.lst ys)) := Ex.new hlf
        refine ⟨acc, e4 _ _ hacc, sz_lt (by omega), acc ++ [.ref l], upd_same, by rw [List.length_append]; exact Nat.succ_le_succ hal, ?_, ?_⟩
        · rw [rem_upd]
          exact ex.trans (ex_rem e4)
        · rw [rem_upd, take_next hu, List.map_append]
          refine dps_app (dps_grow (ex_rem e4) _ _ hall) (.cons (.lst (SqL.of ?_) (dps_grow (ex.trans (ex_rem e4)) _ _ hta)) .nil)
          rw [rem_ne nD]
          exact upd_same
    · rintro H3 ⟨acc, hacc, _, ex, hall⟩
      rw [hlen, List.take_length] at hall
      exact k _ _ (e2.trans (ex.trans rem_ex)) (.lst (SqL.of hacc) (dps_grow rem_ex _ _ hall))
theorem d_isBb {a b : Bool} (h : EvD K te σ H (.bool a)) (r : EvD K tb σ H (.bool b)) : EvD K (tOp rIsB te tb) σ H (.bool (decide (a = b))) := fun H1 x Q k =>
  h H1 x _ fun v H2 x2 hv => r H2 (x.trans x2) _ fun w H3 x3 hw => by
    cases hv
    cases hw
    exact ⟨a, b, rfl, rfl, k _ H3 (x2.trans x3) (.bl _)⟩
theorem d_notBb {a b : Bool} (h : EvD K te σ H (.bool a)) (r : EvD K tb σ H (.bool b)) : EvD K (tOp rNotB te tb) σ H (.bool (!decide (a = b))) := fun H1 x Q k =>
  h H1 x _ fun v H2 x2 hv => r H2 (x.trans x2) _ fun w H3 x3 hw => by
    cases hv
    cases hw
    exact ⟨a, b, rfl, rfl, k _ H3 (x2.trans x3) (.bl _)⟩
theorem d_neB {a b : Bool} (h : EvD K te σ H (.bool a)) (r : EvD K tb σ H (.bool b)) : EvD K (tOp rNe te tb) σ H (.bool (!decide (a = b))) := fun H1 x Q k =>
  h H1 x _ fun v H2 x2 hv => r H2 (x.trans x2) _ fun w H3 x3 hw => by
    cases hv
    cases hw
    refine ⟨rfl, ?_⟩
    have z : (!decide (V.bl a = V.bl b)) = !decide (a = b) := by cases a <;> cases b <;> rfl
    rw [z]
    exact k _ H3 (x2.trans x3) (.bl _)
end
theorem parts_shapeF : ∀ (qs : List (Nat × Rat)), PyData.canLayAll0 (qs.map (partD false)) = true ∧ PyData.depthAll (qs.map (partD false)) ≤ 2
  | [] => ⟨rfl, by decide⟩
  | q :: qs => by
    obtain ⟨h1, h2⟩ := parts_shapeF qs
    refine ⟨?_, ?_⟩
    · show (true && PyData.canLayAll0 (qs.map (partD false))) = true
      rw [h1]
      rfl
    · show max 2 (PyData.depthAll (qs.map (partD false))) ≤ 2
      omega
theorem canLay_of {d : PyData} (h : SeqAt.shaped d = true) : PyData.canLay0 d = true := SeqAt.canLay_of_shaped h
theorem eqv_self {d : PyData} (h : PyData.canLay0 d = true) : PyData.eqv d d = true := SeqAt.eqv_refl d h
theorem rem_upd2 {H : Hp} {h R : Addr} {o : HO} : rem (rem (upd H R o) h) R = rem (rem H h) R := funext fun a => by
  by_cases q : a = R
  · subst q
    rw [rem_self, rem_self]
  · rw [rem_ne q, rem_ne q]
    by_cases q2 : a = h
    · subst q2
      rw [rem_self, rem_self]
    · rw [rem_ne q2, rem_ne q2, upd_ne q]
end Dat
namespace K21
open PySem L2 Evl Dat
theorem hand_upd {H : Hp} {h c R : Addr} {ns : List Int} {o : HO} (hh : HandOk H h c ns) (n1 : h ≠ R) (n2 : c ≠ R) : HandOk (upd H R o) h c ns := by
  obtain ⟨x, y, z, h1, h2, r⟩ := hh
  exact ⟨x, y, z, (upd_ne n1).trans h1, (upd_ne n2).trans h2, r⟩
/-- what stands but for the hand and the rows that are filled -/
def aw (H : Hp) (h R P : Addr) : Hp := rem (rem (rem H h) R) P
theorem aw_ex {H : Hp} {h R P : Addr} : Ex (aw H h R P) H := rem_ex.trans (rem_ex.trans rem_ex)
theorem aw_at {H : Hp} {h R P a : Addr} (h1 : a ≠ h) (h2 : a ≠ R) (h3 : a ≠ P) : aw H h R P a = H a := by
  unfold aw
  rw [rem_ne h3, rem_ne h2, rem_ne h1]
theorem ex_aw {H H' : Hp} {h R P : Addr} (e : Ex (rem H h) (rem H' h)) : Ex (aw H h R P) (aw H' h R P) := ex_rem (ex_rem e)
theorem aw_upd {H : Hp} {h R P : Addr} {o : HO} : aw (upd H P o) h R P = aw H h R P := funext fun a => by
  by_cases q : a = P
  · subst q
    unfold aw
    rw [rem_self, rem_self]
  · unfold aw
    rw [rem_ne q, rem_ne q]
    by_cases q1 : a = R
    · subst q1
      rw [rem_self, rem_self]
    · rw [rem_ne q1, rem_ne q1]
      by_cases q2 : a = h
      · subst q2
        rw [rem_self, rem_self]
      · rw [rem_ne q2, rem_ne q2, upd_ne q]
/-- a plain list stands as it stood -/
theorem keep_at {H H' : Hp} {h R : Addr} {o : HO} (e : Ex (rem H h) (rem H' h)) (n : R ≠ h) (hR : H R = some o) : H' R = some o := by
  have z := e R o (by rw [rem_ne n]; exact hR)
  rwa [rem_ne n] at z
end K21
namespace K21
open PySem L2 Evl Dat
def spLaw (K : PySem.W.Frag) : Sp := fun vs H Q _ => ∃ (a : Addr) (ns : List Int), vs = [.ref a] ∧ SqL K H a (ns.map V.int) ∧ ns.length ≤ 63 ∧ ∀ H', Q (.bl true) H'
section
variable {P : Program} {w : World} {K : PySem.W.Frag} {mg : Str → Option Value} {base : Heap}
abbrev s_law : Stmt := topS 29
abbrev N_law : List Str := ["script", "hand", "many", "registers", "slot", "width", "parts", "turn", "constant", "sums", "due", "made", "value", "multiple", "listed", "part", "greatest", "count", "form", "told", "bad"]
theorem sc_law : FnScope N_law ["script"] (defScope s_law) := ⟨rfl, rfl, rfl, by decide +kernel, rfl, by decide +kernel, by decide +kernel⟩
abbrev DF (P : Program) (w : World) (K : PySem.W.Frag) (mg : Str → Option Value) (base : Heap) (k : Nat) (x : Str) (ps : List Str) (sp : Sp) : Prop := Def P w K mg base CX0 k x ps sp
theorem ok_law {f : Addr} {fd : FuncData} (F : Fun K "law" "law" s_law f fd) (T : Bl mg)
    (D_law_hand : DF P w K mg base 1 "_law_hand" ["script"] (spHand K)) (D_law_draw : DF P w K mg base 2 "_law_draw" ["hand", "many"] spDraw) (D_law_fraction : DF P w K mg base 3 "_law_fraction" ["hand"] (spFraction K))
    (D_law_sums : DF P w K mg base 3 "_law_sums" ["parts"] (spD K 1 fSums)) (D_law_make : DF P w K mg base 4 "_law_make" ["constant", "parts"] (spD K 2 fLawMake)) (D_law_same : DF P w K mg base 5 "_law_same" ["told", "due"] (spD K 2 (fSame 5)))
    (D_law_plus : DF P w K mg base 2 "_law_plus" ["a", "b"] (spD K 2 fPlusR)) (D_law_times : DF P w K mg base 2 "_law_times" ["a", "b"] (spD K 2 fTimesR)) (D_form_value : DF P w K mg base 3 "form_value" ["form", "registers"] (spD K 2 fValue))
    (D_is_form : DF P w K mg base 4 "is_form" ["thing", "registers"] (spD K 2 fIsForm)) (D_law_bad_forms : DF P w K mg base 1 "_law_bad_forms" ["constant", "parts"] (spBad K)) : FnOk P w K mg base CX0 6 f fd ["script"] (spLaw K) := by
  refine F.ok sc_law (fun vs H Q E h => ?_) (fun cdv A outer s H vs Q E hr h => ?_)
  · obtain ⟨a, ns, rfl, _⟩ := h
    rfl
  · obtain ⟨a, ns, rfl, hS, hl, q⟩ := h
    refine ⟨_, (pss_cons (ps_set (i := 1) sc_law.nd rfl (Or.inl rfl) (pe_dcall D_law_hand (hr.mono (by decide)) pass0 (pa_cons (pv 0) pa_nil)))
    (pss_cons (ps_set (i := 2) sc_law.nd rfl (Or.inl rfl) (pe_dcall D_law_draw (hr.mono (by decide)) pass0 (pa_cons (pv 1) (pa_cons pe_int pa_nil))))
    (pss_cons (ps_set (i := 3) sc_law.nd rfl (Or.inl rfl) (pe_lst pa_nil))
    (pss_cons (ps_for PassesOwn.never rfl (pi_range1 rfl T.b_range (pa_cons (pv 2) pa_nil)) (pg_name (i := 4) sc_law.nd rfl (Or.inl rfl)) (pss_one (ps_expr (pe_bm PySem.F.plainAttrs_list PySem.F.slot_list_append PySem.F.type_list_append mt_append (pv 3) (pa_cons (pe_dcall D_law_fraction (hr.mono (by decide)) pass0 (pa_cons (pv 1) pa_nil)) pa_nil)))))
    (pss_cons (ps_set (i := 5) sc_law.nd rfl (Or.inl rfl) (pe_ifExp (pt_cmpR op_gt (pv 2) pe_int (nomark _)) (pe_op op_add pe_int (pe_dcall D_law_draw (hr.mono (by decide)) pass0 (pa_cons (pv 1) (pa_cons (pv 2) pa_nil)))) pe_int))
    (pss_cons (ps_set (i := 6) sc_law.nd rfl (Or.inl rfl) (pe_lst pa_nil))
    (pss_cons (ps_for PassesOwn.never rfl (pi_range1 rfl T.b_range (pa_cons (pe_ifExp (pt_cmpR op_gt (pv 2) pe_int (nomark _)) (pe_dcall D_law_draw (hr.mono (by decide)) pass0 (pa_cons (pv 1) (pa_cons pe_int pa_nil))) pe_int) pa_nil)) (pg_name (i := 7) sc_law.nd rfl (Or.inl rfl)) (pss_cons (ps_set (i := 4) sc_law.nd rfl (Or.inl rfl) (pe_dcall D_law_draw (hr.mono (by decide)) pass0 (pa_cons (pv 1) (pa_cons (pv 5) pa_nil))))
    (pss_one (ps_expr (pe_bm PySem.F.plainAttrs_list PySem.F.slot_list_append PySem.F.type_list_append mt_append (pv 6) (pa_cons (pe_tup (pa_cons (pv 4) (pa_cons (pe_dcall D_law_fraction (hr.mono (by decide)) pass0 (pa_cons (pv 1) pa_nil)) pa_nil))) pa_nil))))))
    (pss_cons (ps_set (i := 8) sc_law.nd rfl (Or.inl rfl) (pe_dcall D_law_fraction (hr.mono (by decide)) pass0 (pa_cons (pv 1) pa_nil)))
    (pss_cons (ps_set (i := 9) sc_law.nd rfl (Or.inr rfl) (pe_dcall D_law_sums (hr.mono (by decide)) pass0 (pa_cons (pv 6) pa_nil)))
    (pss_cons (ps_setLc (i := 10) (own := [("slot", 4)]) (g := gName 4) rfl sc_law.nd rfl rfl (sw_true rfl rfl rfl (by decide +kernel)) (pi_range1 rfl T.b_range (pa_cons pe_int pa_nil)) (blkOk_by (own := [("slot", 4)]) (N := N_law) (sc := defScope s_law) (by decide +kernel)) (fun _ _ _ _ _ => pg_name (i := 4) sc_law.nd rfl (Or.inl rfl)) (fun _ _ _ _ _ => (pts_one (pt_cmpR (r := rNeD K) (op_neD hr.units) (pe_ix (r := rIxL K) ix_list (pv 9) (pv 4) (fun _ _ => rfl)) (pe_tup (pa_cons pe_int (pa_cons pe_int pa_nil))) (nomark _)))) (fun _ _ _ _ _ => (pe_tup (pa_cons (pv 4) (pa_cons (pe_ix (r := rIxL K) ix_list (pv 9) (pv 4) (fun _ _ => rfl)) pa_nil)))))
    (pss_cons (ps_set (i := 11) sc_law.nd rfl (Or.inl rfl) (pe_dcall D_law_make (hr.mono (by decide)) pass0 (pa_cons (pv 8) (pa_cons (pv 6) pa_nil))))
    (pss_cons (ps_if (pt_not (pt_val (pe_dcall D_law_same (hr.mono (by decide)) pass0 (pa_cons (pv 11) (pa_cons (pe_tup (pa_cons (pv 8) (pa_cons (pe_callTy call_tuple_of (by rfl) T.b_tuple (by decide +kernel) (pa_cons (pv 10) pa_nil)) pa_nil))) pa_nil))))) (pss_one (ps_ret pe_bl)) pss_nil)
    (pss_cons (ps_set (i := 12) sc_law.nd rfl (Or.inl rfl) (pv 8))
    (pss_cons (ps_for PassesOwn.never rfl (pi_alt (pi_list (pv 6)) (pi_tup (pv 6))) (pg_alt (pg_tup rfl (pgs_cons (pg_name (i := 4) sc_law.nd rfl (Or.inl rfl)) (pgs_cons (pg_name (i := 13) sc_law.nd rfl (Or.inl rfl)) pgs_nil))) (pg_lst rfl (pgs_cons (pg_name (i := 4) sc_law.nd rfl (Or.inl rfl)) (pgs_cons (pg_name (i := 13) sc_law.nd rfl (Or.inl rfl)) pgs_nil)))) (pss_one (ps_set (i := 12) sc_law.nd rfl (Or.inl rfl) (pe_dcall D_law_plus (hr.mono (by decide)) pass0 (pa_cons (pv 12) (pa_cons (pe_dcall D_law_times (hr.mono (by decide)) pass0 (pa_cons (pv 13) (pa_cons (pe_ix (r := rIxL K) ix_list (pv 3) (pv 4) (fun _ _ => rfl)) pa_nil))) pa_nil))))))
    (pss_cons (ps_set (i := 14) sc_law.nd rfl (Or.inl rfl) (pe_lst (pa_cons (pv 8) (pa_cons (pe_lc (own := [("part", 15)]) (g := gName 15) rfl sc_law.nd (pi_list (pv 10)) (blkOk_by (own := [("part", 15)]) (N := N_law) (sc := defScope s_law) (by decide +kernel)) (fun _ _ _ _ _ => pg_name (i := 15) sc_law.nd rfl (Or.inl rfl)) (fun _ _ _ _ _ => pts_nil) (fun _ _ _ _ _ => (pe_callTy (T := "list") (r := rListOf K) call_list_of (by rfl) T.b_list (by decide +kernel) (pa_cons (pv 15) pa_nil)))) pa_nil))))
    (pss_cons (ps_if (PW.pt (pw_or (pt_not (pt_val (pe_dcall D_law_same (hr.mono (by decide)) pass0 (pa_cons (pe_dcall D_form_value (hr.mono (by decide)) pass0 (pa_cons (pv 11) (pa_cons (pv 3) pa_nil))) (pa_cons (pv 12) pa_nil))))) (pw_or1 (pt_not (pt_val (pe_dcall D_law_same (hr.mono (by decide)) pass0 (pa_cons (pe_dcall D_form_value (hr.mono (by decide)) pass0 (pa_cons (pv 14) (pa_cons (pe_callTy call_tuple_of (by rfl) T.b_tuple (by decide +kernel) (pa_cons (pv 3) pa_nil)) pa_nil))) (pa_cons (pv 12) pa_nil)))))))) (pss_one (ps_ret pe_bl)) pss_nil)
    (pss_cons (ps_set (i := 16) sc_law.nd rfl (Or.inl rfl) (pe_ifExp (pt_cmpR (op_neD hr.units) (pv 10) (pe_lst pa_nil) (nomark _)) (pe_ix (r := rIxT K) ix_tup (pe_ix (r := rIxL K) ix_list (pv 10) (pe_un un_neg pe_int) (fun _ _ => rfl)) pe_int (fun _ _ => rfl)) (pe_un un_neg pe_int)))
    (pss_cons (ps_for PassesOwn.never rfl (pi_range1 rfl T.b_range (pa_cons pe_int pa_nil)) (pg_name (i := 17) sc_law.nd rfl (Or.inl rfl)) (pss_one (ps_for PassesOwn.never rfl (pi_alt (pi_list (pe_tup (pa_cons (pv 11) (pa_cons (pv 14) pa_nil)))) (pi_tup (pe_tup (pa_cons (pv 11) (pa_cons (pv 14) pa_nil))))) (pg_name (i := 18) sc_law.nd rfl (Or.inl rfl)) (pss_cons (ps_set (i := 19) sc_law.nd rfl (Or.inl rfl) (pe_dcall D_is_form (hr.mono (by decide)) pass0 (pa_cons (pv 18) (pa_cons (pv 17) pa_nil))))
    (pss_one (ps_if (PW.pt (pw_or (pt_cmpR op_ne (pe_cmpR op_isBl (pv 19) pe_bl (nomark _)) (pe_cmpR op_lt (pv 16) (pv 17) (nomark _)) (nomark _)) (pw_or1 (pt_not (pt_val (pe_callB call_isi (by rfl) T.b_isinstance (by decide +kernel) (pa_cons (pv 19) (pa_cons (pe_bltn (v := .ty "bool") (by rfl) T.b_bool (by decide +kernel) rfl) pa_nil)))))))) (pss_one (ps_ret pe_bl)) pss_nil))))))
    (pss_cons (ps_for PassesOwn.never rfl (pi_alt (pi_list (pe_dcall D_law_bad_forms (hr.mono (by decide)) pass0 (pa_cons (pv 8) (pa_cons (pv 10) pa_nil)))) (pi_tup (pe_dcall D_law_bad_forms (hr.mono (by decide)) pass0 (pa_cons (pv 8) (pa_cons (pv 10) pa_nil))))) (pg_name (i := 20) sc_law.nd rfl (Or.inl rfl)) (pss_one (ps_if (pt_cmpR op_notBl (pe_dcall D_is_form (hr.mono (by decide)) pass0 (pa_cons (pv 20) (pa_cons pe_int pa_nil))) pe_bl (nomark _)) (pss_one (ps_ret pe_bl)) pss_nil)))
    (pss_one (ps_ret (pe_and (pe_cmpR (op_eqD hr.units) (pv 14) (pe_lst (pa_cons (pv 8) (pa_cons (pe_lc (own := [("part", 15)]) (g := gName 15) rfl sc_law.nd (pi_list (pv 10)) (blkOk_by (own := [("part", 15)]) (N := N_law) (sc := defScope s_law) (by decide +kernel)) (fun _ _ _ _ _ => pg_name (i := 15) sc_law.nd rfl (Or.inl rfl)) (fun _ _ _ _ _ => pts_nil) (fun _ _ _ _ _ => (pe_callTy (T := "list") (r := rListOf K) call_list_of (by rfl) T.b_list (by decide +kernel) (pa_cons (pv 15) pa_nil)))) pa_nil))) (nomark _)) (pe_one (pe_cmpR (op_eqD hr.units) (pe_dcall D_law_make (hr.mono (by decide)) pass0 (pa_cons (pv 8) (pa_cons (pv 6) pa_nil))) (pv 11) (nomark _))))))))))))))))))))))))), ?_⟩
    refine ⟨_, rfl, a, ns, rfl, hS, hl, fun H1 h c ms _ _ _ hh => ?_⟩
    refine ⟨_, rfl, h, c, ms, 25, rfl, by decide, by decide, hh, fun m H2 m0 m1 hh2 _ => ?_⟩
    refine z_nil fun R hR => ?_
    have hRh : R ≠ h := fun e => by
      obtain ⟨_, _, _, h1, _⟩ := hh2
      rw [← e, hR] at h1
      cases h1
    have hRc : R ≠ c := fun e => by
      obtain ⟨_, _, _, _, h1, _⟩ := hh2
      rw [← e, hR] at h1
      cases h1
    refine z_forA (σ := [some (.ref a), some (.ref h), some (.int m), some (.ref R), none, none, none, none, none, none, none, none, none, none, none, none, none, none, none, none, none]) (fun n H' => n = m ∧ H' = upd H2 R (.lst [])) (fun Q' k => ⟨_, rfl, k m _ ⟨rfl, rfl⟩ ⟨by omega, by omega⟩⟩)
      (fun n i σ' H' => n = m ∧ ∃ x4 vs xs, σ' = [some (.ref a), some (.ref h), some (.int m), some (.ref R), x4, none, none, none, none, none, none, none, none, none, none, none, none, none, none, none, none] ∧ HandOk H' h c ms ∧ H' R = some (.lst vs) ∧ DpAll K (rem (rem H' h) R) vs (xs.map ratR) ∧ xs.length = i ∧ ∀ x ∈ xs, Sz 30 x)
      (fun n H' hn => ⟨hn.1, none, [], [], rfl, hn.2 ▸ hand_upd hh2 (Ne.symm hRh) (Ne.symm hRc), hn.2 ▸ upd_same, .nil, rfl, fun x hx => by cases hx⟩)
      (fun n i σ' H' D' hi p hrt kD => ?_) (fun n σ' H3 hn p => ?_)
    · obtain ⟨rfl, x4, vs, xs, rfl, hh', hR', hall, hlen, hsz⟩ := p
      refine ⟨_, rfl, .inl ⟨rfl, _, SqL.of hR'⟩, _, rfl, h, c, ms, rfl, hh', fun x v H3 hx hh3 e3 hv => ?_⟩
      have hR3 := keep_at e3 hRh hR'
      refine ⟨R, vs, v, rfl, rfl, hR3, sz_lt (by rw [dps_len hall, List.length_map, hlen]; omega), kD _ _ ⟨rfl, _, vs ++ [v], xs ++ [x], rfl, hand_upd hh3 (Ne.symm hRh) (Ne.symm hRc), upd_same, ?_, ?_, ?_⟩⟩
      · rw [rem_upd2, List.map_append]
        exact dps_app (dps_grow (ex_rem e3) _ _ hall) (.cons (dp_rem (by rw [rem_ne hRh]; exact hR3) noTup_l _ _ rfl hv) .nil)
      · rw [List.length_append, hlen]
        rfl
      · intro y hy
        rcases List.mem_append.mp hy with hy | hy
        · exact hsz y hy
        · rw [List.mem_singleton.mp hy]
          exact hx
    obtain ⟨rfl, x4, vsR, xs, rfl, hh3, hR3, hallR, hlenR, hszR⟩ := p
    have hxl : (xs.length : Int) = n := by omega
    refine z_spec (σ := [some (.ref a), some (.ref h), some (.int n), some (.ref R), x4, none, none, none, none, none, none, none, none, none, none, none, none, none, none, none, none]) (fun v H' => ∃ wd : Int, v = .int wd ∧ (0 < n → 0 < wd ∧ wd ≤ n) ∧ HandOk H' h c ms ∧ H' R = some (.lst vsR) ∧ DpAll K (rem (rem H' h) R) vsR (xs.map ratR)) (fun Q' k => ?_) fun v H4 hv => ?_
    · refine b_test (K := K) (d_gt (d_var ⟨_, rfl, .int n⟩) d_int) _ (Ex.refl _) _ fun H4 e4 => ?_
      by_cases hp : 0 < n
      · rw [decide_eq_true hp]
        refine ⟨_, rfl, _, rfl, h, c, ms, n, rfl, hp, Nat.lt_of_le_of_lt (m := 25) (by omega) (by decide +kernel), hand_grow e4 hh3, fun d H5 d0 d1 hh5 he5 => ⟨1, d, rfl, rfl, ?_⟩⟩
        have e45 : Ex (rem H3 h) (rem H5 h) := (ex_rem e4).trans (frame_ex he5)
        exact k _ H5 ⟨1 + d, rfl, fun _ => ⟨by omega, by omega⟩, hh5, keep_at e45 hRh hR3, dps_grow (ex_rem e45) _ _ hallR⟩
      · rw [decide_eq_false hp]
        exact k _ H4 ⟨0, rfl, fun z => absurd z hp, hand_grow e4 hh3, e4 _ _ hR3, dps_grow (ex_rem (ex_rem e4)) _ _ hallR⟩
    obtain ⟨wd, rfl, hwd, hh4, hR4, hallR4⟩ := hv
    clear hR3 hallR hh3
    refine z_nil fun P hP => ?_
    have hPh : P ≠ h := fun e => by
      obtain ⟨_, _, _, h1, _⟩ := hh4
      rw [← e, hP] at h1
      cases h1
    have hPc : P ≠ c := fun e => by
      obtain ⟨_, _, _, _, h1, _⟩ := hh4
      rw [← e, hP] at h1
      cases h1
    have hPR : P ≠ R := fun e => by
      rw [← e, hP] at hR4
      cases hR4
    have base0 : rem (rem H4 h) R = aw (upd H4 P (.lst [])) h R P := by
      rw [aw_upd]
      exact funext fun b => by
        unfold aw
        by_cases z : b = P
        · subst z
          rw [rem_self, rem_ne hPR, rem_ne hPh, hP]
        · rw [rem_ne z]
    rw [base0] at hallR4
    have hh5 := hand_upd (o := .lst []) hh4 (Ne.symm hPh) (Ne.symm hPc)
    have hR5 : (upd H4 P (.lst [])) R = some (.lst vsR) := (upd_ne (Ne.symm hPR)).trans hR4
    have hP5 : (upd H4 P (.lst [])) P = some (.lst []) := upd_same
    generalize upd H4 P (.lst []) = H5 at hallR4 hh5 hR5 hP5
    clear base0 hP hh4 hR4
    refine z_forA (σ := [some (.ref a), some (.ref h), some (.int n), some (.ref R), x4, some (.int wd), some (.ref P), none, none, none, none, none, none, none, none, none, none, none, none, none, none]) (fun k H' => k ≤ 5 ∧ (0 < k → 0 < n) ∧ HandOk H' h c ms ∧ Ex (rem H5 h) (rem H' h)) (fun Q' k => ?_)
      (fun k i σ' H' => k ≤ 5 ∧ (0 < k → 0 < n) ∧ ∃ x4 x7 vsP ps, σ' = [some (.ref a), some (.ref h), some (.int n), some (.ref R), x4, some (.int wd), some (.ref P), x7, none, none, none, none, none, none, none, none, none, none, none, none, none] ∧ HandOk H' h c ms ∧ Ex (aw H5 h R P) (aw H' h R P) ∧ H' R = some (.lst vsR) ∧ H' P = some (.lst vsP) ∧ DpAll K (aw H' h R P) vsP (ps.map (partD true)) ∧ ps.length = i ∧ ∀ p ∈ ps, p.1 < xs.length ∧ Sz 30 p.2)
      (fun k H' s => ⟨s.1, s.2.1, x4, none, [], [], rfl, s.2.2.1, ex_aw s.2.2.2, keep_at s.2.2.2 hRh hR5, keep_at s.2.2.2 hPh hP5, .nil, rfl, fun p hp => by cases hp⟩)
      (fun k i σ' H' D' hi p hrt kD => ?_) (fun k σ' H6 hk p => ?_)
    · refine b_test (K := K) (d_gt (d_var ⟨_, rfl, .int n⟩) d_int) _ (Ex.refl _) _ fun H6 e6 => ?_
      by_cases hp : 0 < n
      · rw [decide_eq_true hp]
        exact ⟨_, rfl, h, c, ms, 6, rfl, by decide, by decide, hand_grow e6 hh5, fun d H7 d0 d1 hh7 he7 => k d H7 ⟨by omega, fun _ => hp, hh7, (ex_rem e6).trans (frame_ex he7)⟩ ⟨by omega, by omega⟩⟩
      · rw [decide_eq_false hp]
        exact k 0 H6 ⟨by decide, fun z => absurd z (by decide), hand_grow e6 hh5, ex_rem e6⟩ ⟨by decide, by decide⟩
    · obtain ⟨hk5, hkn, x4, x7, vsP, ps, rfl, hh', ex, hR', hP', hall, hlen, hps⟩ := p
      have hn0 := hkn (by omega)
      obtain ⟨w0, w1⟩ := hwd hn0
      refine ⟨_, rfl, _, rfl, h, c, ms, wd, rfl, w0, Nat.lt_of_le_of_lt (m := 25) (by omega) (by decide +kernel), hh', fun d H6 d0 d1 hh6 he6 => ?_⟩
      have f6 := frame_ex he6
      have hd : ((d.toNat : Nat) : Int) = d := by omega
      refine ⟨_, rfl, .inl ⟨rfl, _, SqL.of (keep_at f6 hPh hP')⟩, _, rfl, _, rfl, h, c, ms, rfl, hh6, fun x v H7 hx hh7 e7 hv => ?_⟩
      have f67 := f6.trans e7
      refine ⟨by show 2 ≤ sizeLine; decide, fun t ht => ?_⟩
      have hR7 := keep_at f67 hRh hR'
      have hP7 := keep_at f67 hPh hP'
      have nth : t ≠ h := fun e => by
        obtain ⟨_, _, _, h1, _⟩ := hh7
        rw [← e, ht] at h1
        cases h1
      have ntR : t ≠ R := fun e => by
        rw [← e, ht] at hR7
        cases hR7
      have ntP : t ≠ P := fun e => by
        rw [← e, ht] at hP7
        cases hP7
      have e8 : Ex H7 (upd H7 t (.tup [.int d, v])) := Ex.new ht
      refine ⟨P, vsP, .ref t, rfl, rfl, e8 _ _ hP7, sz_lt (by rw [dps_len hall, List.length_map, hlen]; omega), kD _ _ ⟨hk5, hkn, _, _, vsP ++ [.ref t], ps ++ [(d.toNat, x)], rfl, hand_upd (hand_grow e8 hh7) (Ne.symm hPh) (Ne.symm hPc), ?_, (upd_ne (Ne.symm hPR)).trans (e8 _ _ hR7), upd_same, ?_, ?_, ?_⟩⟩
      · rw [aw_upd]
        exact (ex.trans (ex_aw f67)).trans (ex_aw (ex_rem e8))
      · rw [aw_upd, List.map_append]
        refine dps_app (dps_grow ((ex_aw f67).trans (ex_aw (ex_rem e8))) _ _ hall) (.cons (.tup (xs := [.int d, v]) (SqT.of ?_) (.cons ?_ (.cons ?_ .nil))) .nil)
        · exact (aw_at nth ntR ntP).trans upd_same
        · show Dp K _ (.int d) (.int ((d.toNat : Nat) : Int))
          rw [hd]
          exact .int d
        · refine dp_grow (ex_aw (ex_rem e8)) _ _ (dp_rem (o := .lst vsP) ?_ noTup_l _ _ rfl (dp_rem (by rw [rem_ne hRh]; exact hR7) noTup_l _ _ rfl hv))
          rw [rem_ne hPR, rem_ne hPh]
          exact hP7
      · rw [List.length_append, hlen]
        rfl
      · intro y hy
        rcases List.mem_append.mp hy with hy | hy
        · exact hps y hy
        · rw [List.mem_singleton.mp hy]
          exact ⟨by show d.toNat < xs.length; omega, hx⟩
    obtain ⟨hk5, _, x4, x7, vsP, ps, rfl, hh', ex, hR', hP', hall, hlen, hps⟩ := p
    refine ⟨_, rfl, h, c, ms, rfl, hh', fun cc v_c H7 hcc _ e7 hvc => ?_⟩
    have f7 := ex_aw (R := R) (P := P) e7
    have h_parts : Dp K H7 (.ref P) (.list (ps.map (partD true))) := .lst (SqL.of (keep_at e7 hPh hP')) (dps_grow (f7.trans aw_ex) _ _ hall)
    have h_registers : Dp K H7 (.ref R) (.list (xs.map ratR)) := .lst (SqL.of (keep_at e7 hRh hR')) (dps_grow ((ex.trans f7).trans aw_ex) _ _ hallR4)
    have h_constant : Dp K H7 v_c (ratR cc) := dp_grow rem_ex _ _ hvc
    have hpl : ps.length ≤ 5 := by omega
    have hx25 : xs.length ≤ 24 := by omega
    clear hvc f7 e7 hall hP' hR' ex hh' hallR4 hwd hh5 hR5 hP5 hRh hRc hPh hPc hPR hlen hk5 hlenR hk m0 m1 hxl hh hh2 hS hl hR
    have h24 : ∀ p ∈ ps, p.1 < 24 := fun p hp => Nat.lt_of_lt_of_le (hps p hp).1 hx25
    have hsz : ∀ i s, Sz B (sumAt (ps.take i) s) := fun i s => by
      by_cases hi : i ≤ 5
      · exact (sz_sum (n := 30) (fun p hp => (hps p hp).2) s i).mono (by show 1 + i * 31 ≤ 1500; omega)
      · have z := sz_sum (n := 30) (fun p hp => (hps p hp).2) s 5
        rw [List.take_of_length_le hpl] at z
        rw [List.take_of_length_le (by omega)]
        exact z.mono (by decide)
    have hszA : ∀ s, Sz 156 (sumAt ps s) := fun s => by
      have z := sz_sum (n := 30) (fun p hp => (hps p hp).2) s 5
      rw [List.take_of_length_le hpl] at z
      exact z.mono (by decide)
    have hfm : ∀ p ∈ ps, p.1 < 24 ∧ Sz B p.2 := fun p hp => ⟨h24 p hp, (hps p hp).2.mono (by decide)⟩
    have hreg : ∀ s, Sz 30 (xs.getD s 0) := fun s => by
      rw [List.getD_eq_getElem?_getD]
      cases g : xs[s]? with
      | none => exact ⟨by decide, by decide⟩
      | some y => exact hszR y (List.mem_of_getElem? g)
    have hdl : (dueL ps).length ≤ 5 := Nat.le_trans due_len hpl
    have hdm : ∀ p ∈ dueL ps, p.1 < xs.length ∧ Sz 156 p.2 := fun p hp => by
      obtain ⟨_, e2, _, hm⟩ := due_mem hp
      obtain ⟨p', hp', e⟩ := List.mem_map.mp hm
      refine ⟨e ▸ (hps p' hp').1, ?_⟩
      rw [e2]
      exact hszA _
    have hvp : ∀ i, Sz B (valueR xs cc (ps.take i)) := fun i => by
      have z := fun j => sz_value (n := 60) hcc (rs := xs) (qs := ps) (fun p hp => (sz_mul (hps p hp).2 (hreg p.1)).mono (by decide)) j
      by_cases hi : i ≤ 5
      · exact (z i).mono (by show 30 + i * 61 ≤ 1500; omega)
      · have z5 := z 5
        rw [List.take_of_length_le hpl] at z5
        rw [List.take_of_length_le (by omega)]
        exact z5.mono (by decide)
    have hvd : ∀ i, Sz B (valueR xs cc ((dueL ps).take i)) := fun i => by
      have z := fun j => sz_value (n := 186) hcc (rs := xs) (qs := dueL ps) (fun p hp => (sz_mul (hdm p hp).2 (hreg p.1)).mono (by decide)) j
      by_cases hi : i ≤ 5
      · exact (z i).mono (by show 30 + i * 187 ≤ 1500; omega)
      · have z5 := z 5
        rw [List.take_of_length_le hdl] at z5
        rw [List.take_of_length_le (by omega)]
        exact z5.mono (by decide)
    have hval : ∀ b r, fValue [formD b cc (dueL ps), sq r (xs.map ratR)] (ratR (valueR xs cc ps)) := fun b r =>
      ⟨b, r, cc, dueL ps, xs, rfl, fun p hp => (hdm p hp).1, fun p hp => (hdm p hp).2.mono (by decide), fun p hp => (sz_mul (hdm p hp).2 (hreg p.1)).mono (by decide), fun x hx => (hszR x hx).mono (by decide), hvd, by rw [value_same h24]⟩
    refine z_set (K := K) (σ := [some (.ref a), some (.ref h), some (.int n), some (.ref R), x4, some (.int wd), some (.ref P), x7, some v_c, none, none, none, none, none, none, none, none, none, none, none, none]) (d_call (ds_cons (d_var ⟨_, rfl, h_parts⟩) ds_nil) rfl ⟨ps, rfl, by omega, hfm, hsz, rfl⟩) fun v_sums H8 e h_sums => ?_
    replace h_registers := dp_grow e _ _ h_registers
    replace h_parts := dp_grow e _ _ h_parts
    replace h_constant := dp_grow e _ _ h_constant
    clear e
    have hatS : ∀ i : Nat, i < 24 → atI ((List.range 24).map fun s => ratR (sumAt ps s)) (i : Int) = some (ratR (sumAt ps i)) := fun i hi => by
      have h := Dat.atI_nat (l := (List.range 24).map fun s => ratR (sumAt ps s)) (i := i) (x := ratR 0) (by rw [List.length_map, List.length_range]; exact hi)
      rw [h, List.getD_eq_getElem?_getD, List.getElem?_map, List.getElem?_range hi]
      rfl
    refine z_new (K := K) (σ := [some (.ref a), some (.ref h), some (.int n), some (.ref R), x4, some (.int wd), some (.ref P), x7, some v_c, some v_sums, none, none, none, none, none, none, none, none, none, none, none]) (ds := (dueL ps).map (partD true)) ?_ fun pD xsD H9 _ e hD hDs => ?_
    · have z := n_lcR (K := K) (σ := [some (.ref a), some (.ref h), some (.int n), some (.ref R), x4, some (.int wd), some (.ref P), x7, some v_c, some v_sums, none, none, none, none, none, none, none, none, none, none, none]) (H := H8) (ta := tCons (tC (.int 24)) tNil) (tt := tTest (tOp (rNeD K) (tOp (rIxL K) (tVar 9) (tVar 4)) (tTup (tCons (tC (.int 0)) (tCons (tC (.int 1)) tNil))))) (te := tTup (tCons (tVar 4) (tCons (tOp (rIxL K) (tVar 9) (tVar 4)) tNil))) (j := 4) (vs := [4]) (n := 24) (fun i => !PyData.eqv (ratR (sumAt ps i)) (rat 0 1)) (fun i => .tuple [.int (i : Int), ratR (sumAt ps i)]) (ds_cons d_int ds_nil) (by decide) (fun _ => rfl)
        (fun i H1 e1 hi => b_test (d_neD (d_ixL (d_var ⟨_, rfl, dp_grow e1 _ _ h_sums⟩) (d_var ⟨_, rfl, .int _⟩) (hatS i hi)) (d_tup (ds_cons d_int (ds_cons d_int ds_nil)) (by show 2 ≤ 1000; decide)) rfl rfl))
        (fun i H1 e1 hi _ => d_tup (ds_cons (d_var ⟨_, rfl, .int _⟩) (ds_cons (d_ixL (d_var ⟨_, rfl, dp_grow e1 _ _ h_sums⟩) (d_var ⟨_, rfl, .int _⟩) (hatS i hi)) ds_nil)) (by show 2 ≤ 1000; decide)) (fun _ => rfl)
      have e1 : (((List.range 24).filter fun i : Nat => !PyData.eqv (ratR (sumAt ps i)) (rat 0 1)).map fun i : Nat => PyData.tuple [.int (i : Int), ratR (sumAt ps i)]) = (dueL ps).map (partD true) := by
        unfold dueL
        rw [List.map_map]
        have e2 : (fun i => !PyData.eqv (ratR (sumAt ps i)) (rat 0 1)) = fun s => decide (sumAt ps s ≠ 0) := funext fun s => by
          rw [eqv_zero]
          by_cases h : sumAt ps s = 0
          · rw [decide_eq_true h, decide_eq_false (fun z => z h)]
            rfl
          · rw [decide_eq_false h, decide_eq_true h]
            rfl
        rw [e2]
        rfl
      rw [e1] at z
      exact z
    replace e := e.trans rem_ex
    replace hDs := dps_grow rem_ex _ _ hDs
    replace h_registers := dp_grow e _ _ h_registers
    replace h_parts := dp_grow e _ _ h_parts
    replace h_constant := dp_grow e _ _ h_constant
    replace h_sums := dp_grow e _ _ h_sums
    clear e
    refine z_set (K := K) (σ := [some (.ref a), some (.ref h), some (.int n), some (.ref R), x4, some (.int wd), some (.ref P), x7, some v_c, some v_sums, some (.ref pD), none, none, none, none, none, none, none, none, none, none]) (d_call (ds_cons (d_var ⟨_, rfl, h_constant⟩) (ds_cons (d_var ⟨_, rfl, h_parts⟩) ds_nil)) rfl ⟨cc, ps, rfl, hpl, hfm, hsz, rfl⟩) fun v_made H10 e h_made => ?_
    replace h_registers := dp_grow e _ _ h_registers
    replace h_parts := dp_grow e _ _ h_parts
    replace h_constant := dp_grow e _ _ h_constant
    replace h_sums := dp_grow e _ _ h_sums
    replace hD := e _ _ hD
    replace hDs := dps_grow e _ _ hDs
    clear e
    have gform : goodN 5 (formD true cc (dueL ps)) = true := good_form (by omega)
    have grat : goodN 5 (ratR (valueR xs cc ps)) = true := rfl
    have hsame : ∀ d, goodN 5 d = true → fSame 5 [d, d] (.bool true) := fun d hd => ⟨d, d, rfl, good_dep hd, by rw [good_same hd]⟩
    refine z_if (σ := [some (.ref a), some (.ref h), some (.int n), some (.ref R), x4, some (.int wd), some (.ref P), x7, some v_c, some v_sums, some (.ref pD), some v_made, none, none, none, none, none, none, none, none, none]) (b_not (b_val (K := K) (b := true) (d_call (ds_cons (d_var ⟨_, rfl, h_made⟩) (ds_cons (d_tup (ds_cons (d_var ⟨_, rfl, h_constant⟩) (ds_cons (d_tupL (d_var ⟨_, rfl, .lst (SqL.of hD) hDs⟩)) ds_nil)) (by show 2 ≤ 1000; decide)) ds_nil)) rfl (hsame _ gform)))) (fun c1 _ _ => by cases c1) (fun _ H11 e => z_next ?_)
    replace h_registers := dp_grow e _ _ h_registers
    replace h_parts := dp_grow e _ _ h_parts
    replace h_constant := dp_grow e _ _ h_constant
    replace h_sums := dp_grow e _ _ h_sums
    replace h_made := dp_grow e _ _ h_made
    replace hD := e _ _ hD
    replace hDs := dps_grow e _ _ hDs
    clear e
    refine z_set (K := K) (σ := [some (.ref a), some (.ref h), some (.int n), some (.ref R), x4, some (.int wd), some (.ref P), x7, some v_c, some v_sums, some (.ref pD), some v_made, none, none, none, none, none, none, none, none, none]) (d_var ⟨_, rfl, h_constant⟩) fun v_value H12 e h_value => ?_
    replace h_registers := dp_grow e _ _ h_registers
    replace h_parts := dp_grow e _ _ h_parts
    replace h_constant := dp_grow e _ _ h_constant
    replace h_sums := dp_grow e _ _ h_sums
    replace h_made := dp_grow e _ _ h_made
    replace hD := e _ _ hD
    replace hDs := dps_grow e _ _ hDs
    clear e
    refine z_forS (b := false) (σ := [some (.ref a), some (.ref h), some (.int n), some (.ref R), x4, some (.int wd), some (.ref P), x7, some v_c, some v_sums, some (.ref pD), some v_made, some v_value, none, none, none, none, none, none, none, none]) (d_var ⟨_, rfl, h_parts⟩) (fun i σ' H' => ∃ x4' vv x13, σ' = [some (.ref a), some (.ref h), some (.int n), some (.ref R), x4', some (.int wd), some (.ref P), x7, some v_c, some v_sums, some (.ref pD), some v_made, some vv, x13, none, none, none, none, none, none, none] ∧ Dp K H' vv (ratR (valueR xs cc (ps.take i)))) (fun H1 e1 => ⟨_, _, _, rfl, dp_grow e1 _ _ h_value⟩) (fun i d v σ' H' D' hd e2 p hv hrt kD => ?_) (fun σ' H13 e p => ?_)
    · obtain ⟨x4', vv, x13, rfl, hvv⟩ := p
      rw [List.getElem?_map] at hd
      obtain ⟨pt, hpt, rfl⟩ := Option.map_eq_some_iff.mp hd
      have hm := List.mem_of_getElem? hpt
      refine g_twoS (b := true) hv rfl fun xa xb ha hb => ?_
      have hi := (hps _ hm).1
      have hat : atI (xs.map ratR) (pt.1 : Int) = some (ratR (xs.getD pt.1 0)) := by
        have h := Dat.atI_nat (l := xs.map ratR) (i := pt.1) (x := ratR 0) (by rw [List.length_map]; exact hi)
        rw [h, List.getD_eq_getElem?_getD, List.getElem?_map, List.getD_eq_getElem?_getD, List.getElem?_eq_getElem hi]
        rfl
      refine z_set1 (K := K) (σ := [some (.ref a), some (.ref h), some (.int n), some (.ref R), some xa, some (.int wd), some (.ref P), x7, some v_c, some v_sums, some (.ref pD), some v_made, some vv, some xb, none, none, none, none, none, none, none]) (d := ratR (valueR xs cc (ps.take i) + pt.2 * xs.getD pt.1 0)) (d_call (ds_cons (d_var ⟨_, rfl, hvv⟩) (ds_cons (d_call (ds_cons (d_var ⟨_, rfl, hb⟩) (ds_cons (d_ixL (d_var ⟨_, rfl, dp_grow e2 _ _ h_registers⟩) (d_var ⟨_, rfl, ha⟩) hat) ds_nil)) rfl ⟨_, _, rfl, (hps _ hm).2.mono (by decide), (hreg _).mono (by decide), rfl⟩) ds_nil)) rfl ⟨_, _, rfl, hvp i, (sz_mul (hps _ hm).2 (hreg _)).mono (by decide), rfl⟩) fun v2 H2 e3 h3 => ?_
      refine kD _ _ e3 ⟨_, _, _, rfl, ?_⟩
      rw [value_next hpt]
      exact h3
    obtain ⟨x4', vv, x13, rfl, hvv⟩ := p
    rw [List.length_map, List.take_length] at hvv
    clear h_value
    replace h_registers := dp_grow e _ _ h_registers
    replace h_parts := dp_grow e _ _ h_parts
    replace h_constant := dp_grow e _ _ h_constant
    replace h_sums := dp_grow e _ _ h_sums
    replace h_made := dp_grow e _ _ h_made
    replace hD := e _ _ hD
    replace hDs := dps_grow e _ _ hDs
    clear e
    have h_value := hvv
    clear hvv
    have hlist : ∀ {i : Nat} {σ : L2.St} {H : Hp} (te : TE) (vs : List Nat) (hj : i < σ.length) (hw : ∀ x, wipe ((wipe σ vs).set i (some x)) vs = wipe σ vs) (hl : ∀ x, ((wipe σ vs).set i (some x))[i]? = some (some x)), EvD K te σ H (.list ((dueL ps).map (partD true))) → EvD K (tLc (iList K te) (gName i) tYes (tCB (rListOf K) (tCons (tVar i) tNil)) vs) σ H (.list ((dueL ps).map (partD false))) := fun te vs hj hw hl h => by
      have e1 : (dueL ps).map (partD true) = ((dueL ps).map fun q => [PyData.int (q.1 : Int), ratR q.2]).map PyData.tuple := by
        rw [List.map_map]
        rfl
      have e2 : (dueL ps).map (partD false) = ((dueL ps).map fun q => [PyData.int (q.1 : Int), ratR q.2]).map PyData.list := by
        rw [List.map_map]
        rfl
      rw [e1] at h
      rw [e2]
      exact d_lists h (by rw [List.length_map]; omega) hj hw hl
    refine z_set (K := K) (σ := [some (.ref a), some (.ref h), some (.int n), some (.ref R), x4', some (.int wd), some (.ref P), x7, some v_c, some v_sums, some (.ref pD), some v_made, some vv, x13, none, none, none, none, none, none, none]) (d := formD false cc (dueL ps)) (d_lst (ds_cons (d_var ⟨_, rfl, h_constant⟩) (ds_cons (hlist (tVar 10) [15] (by show 15 < 21; decide) (fun _ => rfl) (fun _ => rfl) (d_var ⟨_, rfl, .lst (SqL.of hD) hDs⟩)) ds_nil)) (by show 2 ≤ 1000; decide)) fun v_listed H14 e h_listed => ?_
    replace h_registers := dp_grow e _ _ h_registers
    replace h_parts := dp_grow e _ _ h_parts
    replace h_constant := dp_grow e _ _ h_constant
    replace h_sums := dp_grow e _ _ h_sums
    replace h_made := dp_grow e _ _ h_made
    replace h_value := dp_grow e _ _ h_value
    replace hD := e _ _ hD
    replace hDs := dps_grow e _ _ hDs
    clear e
    refine z_if (σ := [some (.ref a), some (.ref h), some (.int n), some (.ref R), x4', some (.int wd), some (.ref P), x7, some v_c, some v_sums, some (.ref pD), some v_made, some vv, x13, some v_listed, none, none, none, none, none, none]) (b_or (b_not (b_val (K := K) (b := true) (d_call (ds_cons (d_call (ds_cons (d_var ⟨_, rfl, h_made⟩) (ds_cons (d_var ⟨_, rfl, h_registers⟩) ds_nil)) rfl (hval true false)) (ds_cons (d_var ⟨_, rfl, h_value⟩) ds_nil)) rfl (hsame _ grat)))) (fun _ => b_not (b_val (K := K) (b := true) (d_call (ds_cons (d_call (ds_cons (d_var ⟨_, rfl, h_listed⟩) (ds_cons (d_tupL (d_var ⟨_, rfl, h_registers⟩)) ds_nil)) rfl (hval false true)) (ds_cons (d_var ⟨_, rfl, h_value⟩) ds_nil)) rfl (hsame _ grat))))) (fun c1 _ _ => by cases c1) (fun _ H15 e => z_next ?_)
    replace h_registers := dp_grow e _ _ h_registers
    replace h_parts := dp_grow e _ _ h_parts
    replace h_constant := dp_grow e _ _ h_constant
    replace h_sums := dp_grow e _ _ h_sums
    replace h_made := dp_grow e _ _ h_made
    replace h_value := dp_grow e _ _ h_value
    replace h_listed := dp_grow e _ _ h_listed
    replace hD := e _ _ hD
    replace hDs := dps_grow e _ _ hDs
    clear e
    have shD : SeqAt.shaped (.list ((dueL ps).map (partD true))) = true := by
      unfold SeqAt.shaped
      obtain ⟨h1, h2⟩ := parts_shape (dueL ps)
      show (PyData.canLayAll0 ((dueL ps).map (partD true)) && decide (PyData.depthAll ((dueL ps).map (partD true)) + 1 ≤ 64)) = true
      rw [h1, decide_eq_true (by omega)]
      rfl
    refine z_set (K := K) (σ := [some (.ref a), some (.ref h), some (.int n), some (.ref R), x4', some (.int wd), some (.ref P), x7, some v_c, some v_sums, some (.ref pD), some v_made, some vv, x13, some v_listed, none, none, none, none, none, none]) (d := .int (most (dueL ps))) (d_if (b := !PyData.eqv (.list ((dueL ps).map (partD true))) (.list [])) (b_test (d_neD (d_var ⟨_, rfl, .lst (SqL.of hD) hDs⟩) (d_lst ds_nil (by decide)) shD rfl)) (fun c1 => ?_) (fun c1 => ?_)) fun v_greatest H16 e h_greatest => ?_
    · have hq : dueL ps ≠ [] := fun z => by
        rw [z] at c1
        cases c1
      obtain ⟨qq, h1, h2⟩ := last_due hq
      rw [h2]
      exact d_ixT (d_ixL (d_var ⟨_, rfl, .lst (SqL.of hD) hDs⟩) (d_neg d_int) h1) d_int rfl
    · have hq : dueL ps = [] := by
        cases hz : dueL ps with
        | nil => rfl
        | cons u l =>
          rw [hz] at c1
          cases c1
      rw [hq]
      exact d_neg d_int
    replace h_registers := dp_grow e _ _ h_registers
    replace h_parts := dp_grow e _ _ h_parts
    replace h_constant := dp_grow e _ _ h_constant
    replace h_sums := dp_grow e _ _ h_sums
    replace h_made := dp_grow e _ _ h_made
    replace h_value := dp_grow e _ _ h_value
    replace h_listed := dp_grow e _ _ h_listed
    replace hD := e _ _ hD
    replace hDs := dps_grow e _ _ hDs
    clear e
    refine z_forA (σ := [some (.ref a), some (.ref h), some (.int n), some (.ref R), x4', some (.int wd), some (.ref P), x7, some v_c, some v_sums, some (.ref pD), some v_made, some vv, x13, some v_listed, none, some v_greatest, none, none, none, none]) (fun k H' => k = 25 ∧ Ex H16 H') (fun Q' k => k 25 _ ⟨rfl, Ex.refl _⟩ ⟨by decide, by decide⟩) (fun k i σ' H' => k = 25 ∧ Ex H16 H' ∧ ∃ x17 x18 x19, σ' = [some (.ref a), some (.ref h), some (.int n), some (.ref R), x4', some (.int wd), some (.ref P), x7, some v_c, some v_sums, some (.ref pD), some v_made, some vv, x13, some v_listed, none, some v_greatest, x17, x18, x19, none]) (fun k H' s => ⟨s.1, s.2, none, none, none, rfl⟩) (fun k i σ' H' D' hi p hrt kD => ?_) (fun k σ' H' hk p => ?_)
    · obtain ⟨rfl, ex, x17, x18, x19, rfl⟩ := p
      have hreb : ∀ D2 : Ends, ∀ σ1 H1, Ex H' H1 → (∃ x18 x19, σ1 = [some (.ref a), some (.ref h), some (.int n), some (.ref R), x4', some (.int wd), some (.ref P), x7, some v_c, some v_sums, some (.ref pD), some v_made, some vv, x13, some v_listed, none, some v_greatest, some (.int (i : Int)), x18, x19, none]) → (∀ σ2 H2, (25 : Int) = 25 ∧ Ex H16 H2 ∧ (∃ x17 x18 x19, σ2 = [some (.ref a), some (.ref h), some (.int n), some (.ref R), x4', some (.int wd), some (.ref P), x7, some v_c, some v_sums, some (.ref pD), some v_made, some vv, x13, some v_listed, none, some v_greatest, x17, x18, x19, none]) → D2.nx σ2 H2) → D2.nx σ1 H1 := fun D2 σ1 H1 e1 h1 k2 => by
        obtain ⟨x18, x19, rfl⟩ := h1
        exact k2 _ _ ⟨rfl, ex.trans e1, _, _, _, rfl⟩
      refine z_forS1 (b := true) (σ := [some (.ref a), some (.ref h), some (.int n), some (.ref R), x4', some (.int wd), some (.ref P), x7, some v_c, some v_sums, some (.ref pD), some v_made, some vv, x13, some v_listed, none, some v_greatest, some (.int (i : Int)), x18, x19, none]) (d_tup (ds_cons (d_var ⟨_, rfl, dp_grow ex _ _ h_made⟩) (ds_cons (d_var ⟨_, rfl, dp_grow ex _ _ h_listed⟩) ds_nil)) (by show 2 ≤ 1000; decide)) (fun j σ2 H2 => ∃ x18 x19, σ2 = [some (.ref a), some (.ref h), some (.int n), some (.ref R), x4', some (.int wd), some (.ref P), x7, some v_c, some v_sums, some (.ref pD), some v_made, some vv, x13, some v_listed, none, some v_greatest, some (.int (i : Int)), x18, x19, none]) (fun H1 e1 => ⟨_, _, rfl⟩) (fun j d vf σ2 H2 D2 hd e2 p2 hv hrt2 kD2 => ?_) (fun σ2 H2 e2 p2 => hreb _ _ _ e2 p2 kD)
      obtain ⟨x18', x19', rfl⟩ := p2
      have hdb : ∃ b, d = formD b cc (dueL ps) := by
        match j, hd with
        | 0, hd => exact ⟨true, (Option.some.inj hd).symm⟩
        | 1, hd => exact ⟨false, (Option.some.inj hd).symm⟩
        | j + 2, hd => cases hd
      obtain ⟨b, rfl⟩ := hdb
      refine z_set (K := K) (σ := [some (.ref a), some (.ref h), some (.int n), some (.ref R), x4', some (.int wd), some (.ref P), x7, some v_c, some v_sums, some (.ref pD), some v_made, some vv, x13, some v_listed, none, some v_greatest, some (.int (i : Int)), some vf, x19', none]) (d := .bool (decide (most (dueL ps) < (i : Int)))) (d_is (d_call (ds_cons (d_var ⟨_, rfl, hv⟩) (ds_cons (d_var ⟨_, rfl, .int _⟩) ds_nil)) rfl ⟨_, (i : Int), rfl, ?_, rfl⟩) (by rw [form_kept (by omega)])) fun vt H3 e3 ht => ?_
      · have e1 : nd1 (formD b cc (dueL ps)) = sq b ((dueL ps).map (partD b)) := by unfold nd1; rw [items_sq]; rfl
        rw [e1, items_sq, List.length_map]
        omega
      refine z_if1 (σ := [some (.ref a), some (.ref h), some (.int n), some (.ref R), x4', some (.int wd), some (.ref P), x7, some v_c, some v_sums, some (.ref pD), some v_made, some vv, x13, some v_listed, none, some v_greatest, some (.int (i : Int)), some vf, some vt, none]) (b := (!decide (decide (decide (most (dueL ps) < (i : Int)) = true) = decide (most (dueL ps) < (i : Int)))) || !true) (b_or (b_test (d_neB (d_isBb (d_var ⟨_, rfl, ht⟩) d_bl) (d_lt (d_var ⟨_, rfl, dp_grow (ex.trans (e2.trans e3)) _ _ h_greatest⟩) (d_var ⟨_, rfl, .int _⟩)))) (fun _ => b_not (b_val (d_isi (c := "bool") (d_var ⟨_, rfl, ht⟩) rfl)))) (fun c1 H4 e4 => ?_) (fun c1 H4 e4 => z_next ?_)
      · exfalso
        revert c1
        cases decide (most (dueL ps) < (i : Int)) <;> decide
      · exact kD2 _ _ (e3.trans e4) ⟨_, _, rfl⟩
    obtain ⟨_, e, x17, x18, x19, rfl⟩ := p
    replace h_registers := dp_grow e _ _ h_registers
    replace h_parts := dp_grow e _ _ h_parts
    replace h_constant := dp_grow e _ _ h_constant
    replace h_sums := dp_grow e _ _ h_sums
    replace h_made := dp_grow e _ _ h_made
    replace h_value := dp_grow e _ _ h_value
    replace h_listed := dp_grow e _ _ h_listed
    replace h_greatest := dp_grow e _ _ h_greatest
    replace hD := e _ _ hD
    replace hDs := dps_grow e _ _ hDs
    clear e
    refine z_forF (σ := [some (.ref a), some (.ref h), some (.int n), some (.ref R), x4', some (.int wd), some (.ref P), x7, some v_c, some v_sums, some (.ref pD), some v_made, some vv, x13, some v_listed, none, some v_greatest, x17, x18, x19, none]) (b := false) (S := fun l => ∀ d ∈ l, isNone (keptD d 24) = true ∧ (items (nd1 d)).length ≤ 1000) (fun H1 e1 Q' k => ⟨_, rfl, _, rfl, cc, dueL ps, v_c, pD, xsD, rfl, dp_grow e1 _ _ h_constant, e1 _ _ hD, dps_grow e1 _ _ hDs, by omega, fun v H2 l e2 hv hb => k v H2 l e2 hv hb⟩) (fun i σ' H2 => ∃ x20, σ' = [some (.ref a), some (.ref h), some (.int n), some (.ref R), x4', some (.int wd), some (.ref P), x7, some v_c, some v_sums, some (.ref pD), some v_made, some vv, x13, some v_listed, none, some v_greatest, x17, x18, x19, x20]) (fun H1 e1 => ⟨_, rfl⟩) (fun i d v σ' H2 D' l hS hd e2 p hv hrt kD => ?_) (fun σ' H2 e p => ?_)
    · obtain ⟨x20, rfl⟩ := p
      obtain ⟨hb1, hb2⟩ := hS d hd
      refine z_if1 (σ := [some (.ref a), some (.ref h), some (.int n), some (.ref R), x4', some (.int wd), some (.ref P), x7, some v_c, some v_sums, some (.ref pD), some v_made, some vv, x13, some v_listed, none, some v_greatest, x17, x18, x19, some v]) (b := false) (b_is (b_test (d_notBb (d_call (ds_cons (d_var ⟨_, rfl, hv⟩) (ds_cons d_int ds_nil)) rfl ⟨_, 24, rfl, hb2, rfl⟩) d_bl)) (by rw [hb1]; rfl)) (fun c1 _ _ => by cases c1) (fun _ H4 e4 => z_next (kD _ _ e4 ⟨_, rfl⟩))
    obtain ⟨_, x20, rfl⟩ := p
    replace h_registers := dp_grow e _ _ h_registers
    replace h_parts := dp_grow e _ _ h_parts
    replace h_constant := dp_grow e _ _ h_constant
    replace h_sums := dp_grow e _ _ h_sums
    replace h_made := dp_grow e _ _ h_made
    replace h_value := dp_grow e _ _ h_value
    replace h_listed := dp_grow e _ _ h_listed
    replace h_greatest := dp_grow e _ _ h_greatest
    replace hD := e _ _ hD
    replace hDs := dps_grow e _ _ hDs
    have sh1 : SeqAt.shaped (formD false cc (dueL ps)) = true := by
      unfold SeqAt.shaped
      obtain ⟨h1, h2⟩ := parts_shapeF (dueL ps)
      show (true && (PyData.canLayAll0 ((dueL ps).map (partD false)) && true) && decide (max 1 (max (PyData.depthAll ((dueL ps).map (partD false)) + 1) 0) + 1 ≤ 64)) = true
      rw [h1, decide_eq_true (by omega)]
      rfl
    have sh2 : SeqAt.shaped (formD true cc (dueL ps)) = true := by
      unfold SeqAt.shaped
      obtain ⟨h1, h2⟩ := parts_shape (dueL ps)
      show (true && (PyData.canLayAll0 ((dueL ps).map (partD true)) && true) && decide (max 1 (max (PyData.depthAll ((dueL ps).map (partD true)) + 1) 0) + 1 ≤ 64)) = true
      rw [h1, decide_eq_true (by omega)]
      rfl
    refine z_ret (K := K) (σ := [some (.ref a), some (.ref h), some (.int n), some (.ref R), x4', some (.int wd), some (.ref P), x7, some v_c, some v_sums, some (.ref pD), some v_made, some vv, x13, some v_listed, none, some v_greatest, x17, x18, x19, x20]) (d := .bool true) (d_is (d_and (d_eqD (d_var ⟨_, rfl, h_listed⟩) (d_is (e := formD false cc (dueL ps)) (d_lst (ds_cons (d_var ⟨_, rfl, h_constant⟩) (ds_cons (hlist (tVar 10) [15] (by show 15 < 21; decide) (fun _ => rfl) (fun _ => rfl) (d_var ⟨_, rfl, .lst (SqL.of hD) hDs⟩)) ds_nil)) (by show 2 ≤ 1000; decide)) rfl) sh1 sh1) (fun _ => d_eqD (d_call (ds_cons (d_var ⟨_, rfl, h_constant⟩) (ds_cons (d_var ⟨_, rfl, h_parts⟩) ds_nil)) rfl ⟨cc, ps, rfl, hpl, hfm, hsz, rfl⟩) (d_var ⟨_, rfl, h_made⟩) sh2 sh2)) ?_) fun v H9 e9 hv => ?_
    · rw [eqv_self (canLay_of sh1), eqv_self (canLay_of sh2)]
      rfl
    · cases hv
      exact q _
end
end K21
namespace HH
open PySem L2 K21
open He (ga ma frG frG_in frG_at FnD DefD SaysE obsE valE eqO eqO_ok ba refV)
def fnNames : List Str := ["is_whole", "is_ratio", "plus", "_joined", "times", "is_sequence", "is_couple", "settled", "form_value", "is_form", "make_form", "kept_form", "_law_mix", "_law_hand", "_law_draw", "_law_ratio", "_law_plus", "_law_times", "_law_fraction", "_law_same", "_law_make", "_law_sums", "_law_bad_forms", "law"]
def freeNames : List Str := ["int", "abs", "len", "range", "isinstance", "any", "all", "bool", "str", "tuple", "list", "enumerate", "sorted"]
def fnOk (K : PySem.W.Frag) (x : Str) : Bool := eqO (PySem.W.nsIn K mainGlobals x) (some (some (.ref (ga K x)))) && PySem.W.keepIn K (.ref (ga K x))
def exB (K : PySem.W.Frag) : Bool := fnNames.all (fun x => fnOk K x) && (freeNames.all (fun x => eqO (PySem.W.nsIn K mainGlobals x) (some none)) && (((eqO (PySem.W.nsIn K mainGlobals "ZERO") (some (some (.ref (ga K "ZERO")))) && He.tupB K "ZERO" [.int 0, .int 1])) && eqO (PySem.W.nsIn K mainGlobals "gcd") (some (some (.builtin "math.gcd")))))
def fds : List FnD := [⟨("is_ratio", none), "is_ratio", "is_ratio", defArgs (topS 4), defBody (topS 4), defScope (topS 4)⟩,
  ⟨("plus", none), "plus", "plus", defArgs (topS 5), defBody (topS 5), defScope (topS 5)⟩,
  ⟨("_joined", none), "_joined", "_joined", defArgs (topS 6), defBody (topS 6), defScope (topS 6)⟩,
  ⟨("times", none), "times", "times", defArgs (topS 7), defBody (topS 7), defScope (topS 7)⟩,
  ⟨("is_couple", none), "is_couple", "is_couple", defArgs (topS 10), defBody (topS 10), defScope (topS 10)⟩,
  ⟨("settled", none), "settled", "settled", defArgs (topS 11), defBody (topS 11), defScope (topS 11)⟩,
  ⟨("form_value", none), "form_value", "form_value", defArgs (topS 13), defBody (topS 13), defScope (topS 13)⟩,
  ⟨("is_form", none), "is_form", "is_form", defArgs (topS 14), defBody (topS 14), defScope (topS 14)⟩,
  ⟨("make_form", none), "make_form", "make_form", defArgs (topS 15), defBody (topS 15), defScope (topS 15)⟩,
  ⟨("kept_form", none), "kept_form", "kept_form", defArgs (topS 16), defBody (topS 16), defScope (topS 16)⟩,
  ⟨("_law_mix", none), "_law_mix", "_law_mix", defArgs (topS 18), defBody (topS 18), defScope (topS 18)⟩,
  ⟨("_law_hand", none), "_law_hand", "_law_hand", defArgs (topS 19), defBody (topS 19), defScope (topS 19)⟩,
  ⟨("_law_draw", none), "_law_draw", "_law_draw", defArgs (topS 20), defBody (topS 20), defScope (topS 20)⟩,
  ⟨("_law_ratio", none), "_law_ratio", "_law_ratio", defArgs (topS 21), defBody (topS 21), defScope (topS 21)⟩,
  ⟨("_law_plus", none), "_law_plus", "_law_plus", defArgs (topS 22), defBody (topS 22), defScope (topS 22)⟩,
  ⟨("_law_times", none), "_law_times", "_law_times", defArgs (topS 23), defBody (topS 23), defScope (topS 23)⟩,
  ⟨("_law_fraction", none), "_law_fraction", "_law_fraction", defArgs (topS 24), defBody (topS 24), defScope (topS 24)⟩,
  ⟨("_law_same", none), "_law_same", "_law_same", defArgs (topS 25), defBody (topS 25), defScope (topS 25)⟩,
  ⟨("_law_make", none), "_law_make", "_law_make", defArgs (topS 26), defBody (topS 26), defScope (topS 26)⟩,
  ⟨("_law_sums", none), "_law_sums", "_law_sums", defArgs (topS 27), defBody (topS 27), defScope (topS 27)⟩,
  ⟨("_law_bad_forms", none), "_law_bad_forms", "_law_bad_forms", defArgs (topS 28), defBody (topS 28), defScope (topS 28)⟩,
  ⟨("law", none), "law", "law", defArgs (topS 29), defBody (topS 29), defScope (topS 29)⟩]
def dds : List DefD := [⟨("is_whole", none), "is_whole", "is_whole", defArgs (topS 3), defBody (topS 3), defScope (topS 3), [.non, .non], []⟩,
  ⟨("is_sequence", none), "is_sequence", "is_sequence", defArgs (topS 9), defBody (topS 9), defScope (topS 9), [.int 0, .non], []⟩]
def refsN (o : Obj) : List Addr := match o.data with
  | .dict es _ => es.toList.flatMap fun e => refV e.val
  | .func fd => refV fd.code ++ refV fd.defaults
  | _ => []
def stepN (g : Addr → Option Obj) (as : List Addr) : List Addr := as.flatMap fun a => match g a with
  | some o => refsN o
  | none => []
/-- the module's names, their codes and defaults -/
def asN (g : Addr → Option Obj) : List Addr := mainGlobals :: (stepN g [mainGlobals] ++ stepN g (stepN g [mainGlobals]))
def kOf (g : Addr → Option Obj) : PySem.W.Frag := frG g (asN g)
abbrev AlC : Type := Bool × He.Al × He.AlD
def obC (K : PySem.W.Frag) : AlC := (exB K, obsE [] fds K, He.obsD [] dds K)
def valC : AlC := (true, valE fds, He.valD dds)
structure Says (K : PySem.W.Frag) : Prop where
  b : exB K = true
  f : SaysE [] fds K
  d : He.SaysD [] dds K
def hk : PySem.W.Hook where
  α := AlC
  obs := fun s => obC (kOf s.heap.get?)
  val := fun _ => valC
  says := fun _ h => ∃ K : PySem.W.Frag, K.In h ∧ Says K
  of := fun _ _ e => ⟨_, frG_in, ⟨congrArg (fun z : AlC => z.1) e, congrArg (fun z : AlC => z.2.1) e, congrArg (fun z : AlC => z.2.2) e⟩⟩
  keeps := fun _ _ _ ⟨K, hK, c⟩ k => ⟨K, PySem.W.Frag.In.keeps hK k, c⟩
def ob (s : PySem.W.SharedT) : AlC := obC (kOf (HandSHeadRun.getT s))
theorem ob_eq (s : PySem.W.SharedT) : ob s = hk.obs s.abs := by
  have e : HandSHeadRun.getT s = s.abs.heap.get? := funext (HandSHeadRun.getT_eq s)
  unfold ob
  rw [e]
  rfl
section
variable {K : PySem.W.Frag}
theorem Says.fn (c : Says K) (i : Nat) {x : Str} (h : fnNames[i]? = some x := by rfl) : PySem.W.nsIn K mainGlobals x = some (some (.ref (ga K x))) ∧ PySem.W.keepIn K (.ref (ga K x)) = true := by
  obtain ⟨h1, h2⟩ := ba (List.all_eq_true.mp (ba c.b).1 x (List.mem_of_getElem? h))
  exact ⟨eqO_ok h1, h2⟩
theorem Says.free (c : Says K) (i : Nat) {x : Str} (h : freeNames[i]? = some x := by rfl) : PySem.W.nsIn K mainGlobals x = some none := eqO_ok (List.all_eq_true.mp (ba (ba c.b).2).1 x (List.mem_of_getElem? h))
end
end HH
namespace HR
open PySem PySem.W PySem.Calls PyProof.Rows
abbrev R : OpenRow := OpenLaw.row PySem.Challenge.rw_farheld_k21_forms_valued_and_made
def names0 : List PySem.Str := ["ZERO", "is_whole", "is_ratio", "plus", "_joined", "times", "is_sequence", "is_couple", "settled", "form_value", "is_form", "make_form", "kept_form", "_law_mix", "_law_hand", "_law_draw", "_law_ratio", "_law_plus", "_law_times", "_law_fraction", "_law_same", "_law_make", "_law_sums", "_law_bad_forms"]
def names : List PySem.Str := names0
theorem run (w : World) : HandSHeadRun.RunEqI R (view R.prog [0, 29]) HH.hk HH.ob 6000 names w := by
  unfold HandSHeadRun.RunEqI
  kernel_rfl
end HR
namespace HH
open PySem L2 K21 Dat
open He (ga ma frG frG_in frG_at FnD DefD SaysE obsE valE eqO eqO_ok ba refV)
theorem fun_of {K : PySem.W.Frag} {x : Str} {st : Stmt} (h : ∃ oc od osl kV doc pm an cdv ct, K.lookup (ga K x) = some ⟨oc, od, .func (PySem.W.fnOf x x (defArgs st) (defBody st) (defScope st) .none kV doc pm an cdv ct), osl⟩ ∧ PySem.W.codeIn K cdv x = true) (kp : PySem.W.keepIn K (.ref (ga K x)) = true) :
    ∃ fd, Fun K x x st (ga K x) fd := by
  obtain ⟨_, _, _, _, _, _, _, _, _, lk, cd⟩ := h
  exact ⟨_, fun_mk lk cd kp⟩
theorem def_of {P : Program} {w : World} {K : PySem.W.Frag} {mg : Str → Option Value} {base : Heap} {CX : CXT} {k : Nat} {x : Str} {st : Stmt} {ps : List Str} {sp : Sp} {f : Addr} {fd : FuncData} (F : Fun K x x st f fd) (ok : FnOk P w K mg base CX k f fd ps sp) (hm : mg x = some (.ref f))
    (h : ∀ (kV doc pm : Value) (an : Option Addr) (cdv ct : Value) (us : List Value), us.length = ps.length → bindArgs (PySem.W.fnOf x x (defArgs st) (defBody st) (defScope st) .none kV doc pm an cdv ct) ⟨us, []⟩ = pure (ps.zip us)) : Def P w K mg base CX k x ps sp :=
  ⟨f, fd, ok, hm, F.kp, F.binds h⟩
theorem facts {l : PySem.W.OpenLaw} {w : World} {K : PySem.W.Frag} {h : Heap} {mg : Str → Option Value} {fa : Addr} (X : K.In h) (G : h.Ns mainGlobals mg) (hfa : mg "law" = some (.ref fa)) (c : Says K) :
    ∃ fd : FuncData, (∀ (s : Shared) (v : Value), BindsTo s fd ⟨[v], []⟩ [("script", v)]) ∧ ∀ base : Heap, K.In base → base.Ns mainGlobals mg → FnOk l.prog w K mg base CX0 6 fa fd ["script"] (spLaw K) := by
  have fr := fun (i : Nat) {x : Str} (h : freeNames[i]? = some x) => PySem.W.mg_none_of X G (c.free i h)
  have mf := fun (i : Nat) {x : Str} (h : fnNames[i]? = some x) => PySem.W.mg_of X G (c.fn i h).1
  have cb := (ba (ba c.b).2).2
  obtain ⟨cz, cg⟩ := ba cb
  obtain ⟨cz1, cz2⟩ := ba cz
  have gG : mg "gcd" = some (.builtin "math.gcd") := PySem.W.mg_of X G (eqO_ok cg)
  have gZ : mg "ZERO" = some (.ref (ga K "ZERO")) := PySem.W.mg_of X G (eqO_ok cz1)
  have hZ : ∀ H, Dp K H (.ref (ga K "ZERO")) (rat 0 1) := fun H => .tup (He.tupB_ok cz2 H) (.cons (.int 0) (.cons (.int 1) .nil))
  have T : Bl mg := ⟨fr 0 rfl, fr 1 rfl, fr 2 rfl, fr 3 rfl, fr 4 rfl, fr 5 rfl, fr 6 rfl, fr 7 rfl, fr 8 rfl, fr 9 rfl, fr 10 rfl, fr 11 rfl, gG⟩
  have bS : mg "sorted" = none := fr 12 rfl
  have F_is_whole : ∃ fd, FunD K "is_whole" "is_whole" (defArgs (topS 3)) (defBody (topS 3)) (defScope (topS 3)) [.non, .non] [] (ga K "is_whole") fd := c.d.def_ 0 rfl
  have F_is_ratio : ∃ fd, Fun K "is_ratio" "is_ratio" (topS 4) (ga K "is_ratio") fd := fun_of (st := topS 4) (c.f.def_ 0 rfl) (c.fn 1 rfl).2
  have F_plus : ∃ fd, Fun K "plus" "plus" (topS 5) (ga K "plus") fd := fun_of (st := topS 5) (c.f.def_ 1 rfl) (c.fn 2 rfl).2
  have F__joined : ∃ fd, Fun K "_joined" "_joined" (topS 6) (ga K "_joined") fd := fun_of (st := topS 6) (c.f.def_ 2 rfl) (c.fn 3 rfl).2
  have F_times : ∃ fd, Fun K "times" "times" (topS 7) (ga K "times") fd := fun_of (st := topS 7) (c.f.def_ 3 rfl) (c.fn 4 rfl).2
  have F_is_sequence : ∃ fd, FunD K "is_sequence" "is_sequence" (defArgs (topS 9)) (defBody (topS 9)) (defScope (topS 9)) [.int 0, .non] [] (ga K "is_sequence") fd := c.d.def_ 1 rfl
  have F_is_couple : ∃ fd, Fun K "is_couple" "is_couple" (topS 10) (ga K "is_couple") fd := fun_of (st := topS 10) (c.f.def_ 4 rfl) (c.fn 6 rfl).2
  have F_settled : ∃ fd, Fun K "settled" "settled" (topS 11) (ga K "settled") fd := fun_of (st := topS 11) (c.f.def_ 5 rfl) (c.fn 7 rfl).2
  have F_form_value : ∃ fd, Fun K "form_value" "form_value" (topS 13) (ga K "form_value") fd := fun_of (st := topS 13) (c.f.def_ 6 rfl) (c.fn 8 rfl).2
  have F_is_form : ∃ fd, Fun K "is_form" "is_form" (topS 14) (ga K "is_form") fd := fun_of (st := topS 14) (c.f.def_ 7 rfl) (c.fn 9 rfl).2
  have F_make_form : ∃ fd, Fun K "make_form" "make_form" (topS 15) (ga K "make_form") fd := fun_of (st := topS 15) (c.f.def_ 8 rfl) (c.fn 10 rfl).2
  have F_kept_form : ∃ fd, Fun K "kept_form" "kept_form" (topS 16) (ga K "kept_form") fd := fun_of (st := topS 16) (c.f.def_ 9 rfl) (c.fn 11 rfl).2
  have F_mix : ∃ fd, Fun K "_law_mix" "_law_mix" (topS 18) (ga K "_law_mix") fd := fun_of (st := topS 18) (c.f.def_ 10 rfl) (c.fn 12 rfl).2
  have F_hand : ∃ fd, Fun K "_law_hand" "_law_hand" (topS 19) (ga K "_law_hand") fd := fun_of (st := topS 19) (c.f.def_ 11 rfl) (c.fn 13 rfl).2
  have F_draw : ∃ fd, Fun K "_law_draw" "_law_draw" (topS 20) (ga K "_law_draw") fd := fun_of (st := topS 20) (c.f.def_ 12 rfl) (c.fn 14 rfl).2
  have F_L_ratio : ∃ fd, Fun K "_law_ratio" "_law_ratio" (topS 21) (ga K "_law_ratio") fd := fun_of (st := topS 21) (c.f.def_ 13 rfl) (c.fn 15 rfl).2
  have F_L_plus : ∃ fd, Fun K "_law_plus" "_law_plus" (topS 22) (ga K "_law_plus") fd := fun_of (st := topS 22) (c.f.def_ 14 rfl) (c.fn 16 rfl).2
  have F_L_times : ∃ fd, Fun K "_law_times" "_law_times" (topS 23) (ga K "_law_times") fd := fun_of (st := topS 23) (c.f.def_ 15 rfl) (c.fn 17 rfl).2
  have F_L_fraction : ∃ fd, Fun K "_law_fraction" "_law_fraction" (topS 24) (ga K "_law_fraction") fd := fun_of (st := topS 24) (c.f.def_ 16 rfl) (c.fn 18 rfl).2
  have F_L_same : ∃ fd, Fun K "_law_same" "_law_same" (topS 25) (ga K "_law_same") fd := fun_of (st := topS 25) (c.f.def_ 17 rfl) (c.fn 19 rfl).2
  have F_L_make : ∃ fd, Fun K "_law_make" "_law_make" (topS 26) (ga K "_law_make") fd := fun_of (st := topS 26) (c.f.def_ 18 rfl) (c.fn 20 rfl).2
  have F_L_sums : ∃ fd, Fun K "_law_sums" "_law_sums" (topS 27) (ga K "_law_sums") fd := fun_of (st := topS 27) (c.f.def_ 19 rfl) (c.fn 21 rfl).2
  have F_L_bad_forms : ∃ fd, Fun K "_law_bad_forms" "_law_bad_forms" (topS 28) (ga K "_law_bad_forms") fd := fun_of (st := topS 28) (c.f.def_ 20 rfl) (c.fn 22 rfl).2
  have F_law : ∃ fd, Fun K "law" "law" (topS 29) (ga K "law") fd := fun_of (st := topS 29) (c.f.def_ 21 rfl) (c.fn 23 rfl).2
  obtain ⟨fd, F⟩ := F_law
  have e := hfa.symm.trans (mf 23 rfl)
  cases e
  refine ⟨fd, ?_, fun base _ _ => ?_⟩
  · obtain ⟨oc, od, kV, doc, pm, an, cdv, ct, osl, rfl, lk, hcd⟩ := F.ex
    exact fun s v => BindsTo.of_eq rfl
  · obtain ⟨fd_is_whole, F_is_whole⟩ := F_is_whole
    obtain ⟨fd_is_ratio, F_is_ratio⟩ := F_is_ratio
    obtain ⟨fd_plus, F_plus⟩ := F_plus
    obtain ⟨fd__joined, F__joined⟩ := F__joined
    obtain ⟨fd_times, F_times⟩ := F_times
    obtain ⟨fd_is_sequence, F_is_sequence⟩ := F_is_sequence
    obtain ⟨fd_is_couple, F_is_couple⟩ := F_is_couple
    obtain ⟨fd_settled, F_settled⟩ := F_settled
    obtain ⟨fd_form_value, F_form_value⟩ := F_form_value
    obtain ⟨fd_is_form, F_is_form⟩ := F_is_form
    obtain ⟨fd_make_form, F_make_form⟩ := F_make_form
    obtain ⟨fd_kept_form, F_kept_form⟩ := F_kept_form
    obtain ⟨fd_mix, F_mix⟩ := F_mix
    obtain ⟨fd_hand, F_hand⟩ := F_hand
    obtain ⟨fd_draw, F_draw⟩ := F_draw
    obtain ⟨fd_L_ratio, F_L_ratio⟩ := F_L_ratio
    obtain ⟨fd_L_plus, F_L_plus⟩ := F_L_plus
    obtain ⟨fd_L_times, F_L_times⟩ := F_L_times
    obtain ⟨fd_L_fraction, F_L_fraction⟩ := F_L_fraction
    obtain ⟨fd_L_same, F_L_same⟩ := F_L_same
    obtain ⟨fd_L_make, F_L_make⟩ := F_L_make
    obtain ⟨fd_L_sums, F_L_sums⟩ := F_L_sums
    obtain ⟨fd_L_bad_forms, F_L_bad_forms⟩ := F_L_bad_forms
    have W1 := dw1 (P := l.prog) (w := w) (base := base) F_is_whole T (mf 0 rfl)
    have W2 := dw2 (P := l.prog) (w := w) (base := base) F_is_whole T (mf 0 rfl)
    have W3 := dw3 (P := l.prog) (w := w) (base := base) F_is_whole T (mf 0 rfl)
    have S1 : DefV l.prog w K mg base CX0 1 "is_sequence" psS [.int 0, .non] (spD K 3 fSeq) := defV (dvs := [.int 0, .non]) F_is_sequence (ok_is_sequence F_is_sequence T) (mf 5 rfl) 1 0 (by decide) rfl fun _ _ _ _ _ _ _ us its hl hi => match us, its, hl, hi with | [_], [_, _], _, _ => ⟨_, rfl, rfl⟩
    have D_is_ratio := def_of (P := l.prog) (w := w) (base := base) (ps := ["thing"]) F_is_ratio (ok_is_ratio F_is_ratio T W1 W2) (mf 1 rfl) fun _ _ _ _ _ _ us hl => match us, hl with | [_], _ => rfl
    have D__joined := def_of (P := l.prog) (w := w) (base := base) (ps := ["one", "top", "bottom"]) F__joined (ok_joined F__joined T) (mf 3 rfl) fun _ _ _ _ _ _ us hl => match us, hl with | [_, _, _], _ => rfl
    have D_plus := def_of (P := l.prog) (w := w) (base := base) (ps := ["one", "other"]) F_plus (ok_plus F_plus T D__joined) (mf 2 rfl) fun _ _ _ _ _ _ us hl => match us, hl with | [_, _], _ => rfl
    have D_times := def_of (P := l.prog) (w := w) (base := base) (ps := ["one", "other"]) F_times (ok_times F_times T) (mf 4 rfl) fun _ _ _ _ _ _ us hl => match us, hl with | [_, _], _ => rfl
    have D_is_couple := def_of (P := l.prog) (w := w) (base := base) (ps := ["thing"]) F_is_couple (ok_is_couple F_is_couple T) (mf 6 rfl) fun _ _ _ _ _ _ us hl => match us, hl with | [_], _ => rfl
    have D_settled := def_of (P := l.prog) (w := w) (base := base) (ps := ["thing", "kept"]) F_settled (ok_settled F_settled) (mf 7 rfl) fun _ _ _ _ _ _ us hl => match us, hl with | [_, _], _ => rfl
    have D_form_value := def_of (P := l.prog) (w := w) (base := base) (ps := ["form", "registers"]) F_form_value (ok_form_value F_form_value D_plus D_times) (mf 8 rfl) fun _ _ _ _ _ _ us hl => match us, hl with | [_, _], _ => rfl
    have D_kept_form := def_of (P := l.prog) (w := w) (base := base) (ps := ["thing", "registers"]) F_kept_form (ok_kept_form F_kept_form T gZ hZ D_is_couple D_is_ratio S1 W3 D_settled) (mf 11 rfl) fun _ _ _ _ _ _ us hl => match us, hl with | [_, _], _ => rfl
    have D_is_form := def_of (P := l.prog) (w := w) (base := base) (ps := ["thing", "registers"]) F_is_form (ok_is_form F_is_form D_kept_form) (mf 9 rfl) fun _ _ _ _ _ _ us hl => match us, hl with | [_, _], _ => rfl
    have M := ok_make_form (P := l.prog) (w := w) (base := base) F_make_form T bS gZ hZ D_plus
    have D_mix := def_of (P := l.prog) (w := w) (base := base) (ps := ["number", "turn"]) F_mix (ok_mix F_mix T) (mf 12 rfl) fun _ _ _ _ _ _ us hl => match us, hl with | [_, _], _ => rfl
    have D_hand := def_of (P := l.prog) (w := w) (base := base) (ps := ["script"]) F_hand (ok_hand F_hand T) (mf 13 rfl) fun _ _ _ _ _ _ us hl => match us, hl with | [_], _ => rfl
    have D_draw := def_of (P := l.prog) (w := w) (base := base) (ps := ["hand", "many"]) F_draw (ok_draw F_draw T D_mix) (mf 14 rfl) fun _ _ _ _ _ _ us hl => match us, hl with | [_, _], _ => rfl
    have D_L_ratio := def_of (P := l.prog) (w := w) (base := base) (ps := ["top", "bottom"]) F_L_ratio (ok_Lratio F_L_ratio T) (mf 15 rfl) fun _ _ _ _ _ _ us hl => match us, hl with | [_, _], _ => rfl
    have D_L_plus := def_of (P := l.prog) (w := w) (base := base) (ps := ["a", "b"]) F_L_plus (ok_L_plus F_L_plus T D_L_ratio) (mf 16 rfl) fun _ _ _ _ _ _ us hl => match us, hl with | [_, _], _ => rfl
    have D_L_times := def_of (P := l.prog) (w := w) (base := base) (ps := ["a", "b"]) F_L_times (ok_L_times F_L_times T D_L_ratio) (mf 17 rfl) fun _ _ _ _ _ _ us hl => match us, hl with | [_, _], _ => rfl
    have D_L_fraction := def_of (P := l.prog) (w := w) (base := base) (ps := ["hand"]) F_L_fraction (ok_L_fraction F_L_fraction D_draw D_L_ratio) (mf 18 rfl) fun _ _ _ _ _ _ us hl => match us, hl with | [_], _ => rfl
    have D_L_same := def_L_same (P := l.prog) (w := w) (base := base) F_L_same T (mf 19 rfl) F_L_same.kp (F_L_same.binds (ps := ["told", "due"]) fun _ _ _ _ _ _ us hl => match us, hl with | [_, _], _ => rfl) 5
    have D_L_make := def_of (P := l.prog) (w := w) (base := base) (ps := ["constant", "parts"]) F_L_make (ok_L_make F_L_make T M F_make_form.kp (mf 10 rfl)) (mf 20 rfl) fun _ _ _ _ _ _ us hl => match us, hl with | [_, _], _ => rfl
    have D_L_sums := def_of (P := l.prog) (w := w) (base := base) (ps := ["parts"]) F_L_sums (ok_L_sums F_L_sums T D_L_plus) (mf 21 rfl) fun _ _ _ _ _ _ us hl => match us, hl with | [_], _ => rfl
    have D_L_bad_forms := def_of (P := l.prog) (w := w) (base := base) (ps := ["constant", "parts"]) F_L_bad_forms (ok_L_bad_forms F_L_bad_forms T) (mf 22 rfl) fun _ _ _ _ _ _ us hl => match us, hl with | [_, _], _ => rfl
    exact ok_law F T D_hand D_draw D_L_fraction D_L_sums D_L_make D_L_same D_L_plus D_L_times D_form_value D_is_form D_L_bad_forms
end HH
open PySem PySem.W PySem.Calls PyProof.Rows
theorem PySem.Challenge.cw_farheld_k21_forms_valued_and_made_holds : PySem.Challenge.rw_farheld_k21_forms_valued_and_made.Holds := by
  w_on; o_law
  refine HandSHeadRun.head_imp (r := OpenLaw.row PySem.Challenge.rw_farheld_k21_forms_valued_and_made) (q := view (OpenLaw.row PySem.Challenge.rw_farheld_k21_forms_valued_and_made).prog [0, 29]) (H := HH.hk) (ob := HH.ob) (M := 6000) (loose := HR.names) (d := HandSHeadRun.topDef (OpenLaw.row PySem.Challenge.rw_farheld_k21_forms_valued_and_made).prog 29) (kwd := []) HH.ob_eq
    HR.run (by kernel_rfl) (by kernel_rfl) (by kernel_rfl) (by rfl) (by first | assumption | decide +kernel) (by decide +kernel) ⟨rfl, rfl, rfl, rfl, rfl, by decide +kernel⟩ ?hw ?hc
  case hw => w_witness2
  case hc =>
    refine L2.walk_ofE (l := PySem.Challenge.rw_farheld_k21_forms_valued_and_made) (n := 63) (k := 6) (x := "script") (CX := L2.CX0) rfl (by decide) (by kernel_rfl) ⟨rfl, by decide, by decide⟩ ?F (fun _ _ _ _ z => z)
    intro w mg fa h Y G hmg0
    obtain ⟨K, KX, c⟩ := Y
    have hmg : mg ("law" : PySem.Str) = some (.ref fa) := by
      have e : (HandSHeadRun.topDef (OpenLaw.row PySem.Challenge.rw_farheld_k21_forms_valued_and_made).prog 29).name = ("law" : PySem.Str) := by kernel_rfl
      rw [← e]
      exact hmg0
    obtain ⟨fd, hb, hF⟩ := HH.facts (l := PySem.Challenge.rw_farheld_k21_forms_valued_and_made) (w := w) KX G hmg c
    exact ⟨K, fd, K21.spLaw K, KX, hb, fun H a ns hl _ hS => ⟨a, ns, rfl, hS, hl, fun _ => rfl⟩, hF⟩
