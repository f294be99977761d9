import PyProof.Rows.All
import Wide.All
import OpenK.AllK
import Wide.FinOn
import HandS.ForMost
import HandS.ForExc
import HandS.Wide
import HandS.Gcd
import HandS.IsInst
import HandS.Evl
import HandS.TupLe
import HandS.Style
import HandS.Defaults
import HandS.TryOnly
import HandS.Star
import HandS.Deep
import HandS.ExcInit
import HandS.ExcField
import HandS.WordsExc
import HandS.Ends
import HandS.HeadEnd
import PyProof.ReprRoads
import PyProof.Rows.ReprR
import HandS.TryMany
import HandS.SuiteRaise
import KE.GoesRaise
import HandS.TupMul
import KE.GoesEnum
import HandS.ExcIs
import HandS.Head0
import HandS.Head1
import HandS.Head2
import HandS.Head3
import HandS.HeadHook1
import HandS.HeadHook2
import PySem.Challenge.RW_farheld_k03_whole_growths_and_pushes_gat
set_option Elab.async false
set_option linter.all false
set_option maxRecDepth 100000
set_option maxHeartbeats 4000000
/-! Programs over data (numbers, truths, texts, lists and tuples that nobody changes): what an expression comes to, as a datum, over heaps that only grow. -/
namespace Dat
open PySem L2 Evl
section
variable {X : Cx}
/-- // by any number other than 0 of less than 9000 bits -/
def CDivA (_ j : Int) : Prop := j ≠ 0 ∧ j.natAbs.log2 < 9000
theorem op_fdivA : OpR X (binaryOp .FloorDiv) (rI CDivA fun i j => .int (i.fdiv j)) := opI fun i j _ _ _ _ _ hc q => PyProof.Rows.floordiv_int hc.1 q (.inl (PyProof.noPylong_of_log2 hc.2))
end
section
variable {K : PySem.W.Frag}
mutual
theorem dp_grow {H H' : Hp} (e : Ex H H') : ∀ (d : PyData) (v : V), Dp K H v d → Dp K H' v d
  | .none, _, h => by
    cases h
    exact .non
  | .bool b, _, h => by
    cases h
    exact .bl b
  | .int i, _, h => by
    cases h
    exact .int i
  | .str x, _, h => by
    cases h
    exact .str x
  | .list ds, _, h => by
    cases h with
    | lst hs ha => exact .lst (ex_l e hs) (dps_grow e ds _ ha)
  | .tuple ds, _, h => by
    cases h with
    | tup hs ha => exact .tup (ex_t e hs) (dps_grow e ds _ ha)
  | .dict _, _, h => by cases h
theorem dps_grow {H H' : Hp} (e : Ex H H') : ∀ (ds : List PyData) (vs : List V), DpAll K H vs ds → DpAll K H' vs ds
  | [], _, h => by
    cases h
    exact .nil
  | d :: ds, _, h => by
    cases h with
    | cons h1 h2 => exact .cons (dp_grow e d _ h1) (dps_grow e ds _ h2)
end
theorem dps_len {H : Hp} : ∀ {vs : List V} {ds : List PyData}, DpAll K H vs ds → vs.length = ds.length
  | _, _, .nil => rfl
  | _, _, .cons _ t => by rw [List.length_cons, List.length_cons, dps_len t]
theorem dps_get {H : Hp} : ∀ {vs : List V} {ds : List PyData} {i : Nat} {d : PyData}, DpAll K H vs ds → ds[i]? = some d → ∃ v, vs[i]? = some v ∧ Dp K H v d
  | _, _, i, d, .nil, e => by cases e
  | _, _, 0, d, .cons h _, e => by
    cases e
    exact ⟨_, rfl, h⟩
  | _, _, i + 1, d, .cons _ t, e => dps_get (i := i) (d := d) t e
theorem dps_back {H : Hp} : ∀ {vs : List V} {ds : List PyData} {i : Nat} {v : V}, DpAll K H vs ds → vs[i]? = some v → ∃ d, ds[i]? = some d ∧ Dp K H v d
  | _, _, i, v, .nil, e => by cases e
  | _, _, 0, v, .cons h _, e => by
    cases e
    exact ⟨_, rfl, h⟩
  | _, _, i + 1, v, .cons _ t, e => dps_back (i := i) (v := v) t e
theorem dps_at {H : Hp} {vs : List V} {ds : List PyData} {i : Int} {d : PyData} (h : DpAll K H vs ds) (e : atI ds i = some d) : ∃ v, atI vs i = some v ∧ Dp K H v d := by
  unfold atI at e ⊢
  rw [dps_len h]
  cases q : ixN ds.length i with
  | none =>
    rw [q] at e
    cases e
  | some j =>
    rw [q] at e
    exact dps_get h e
theorem dps_app {H : Hp} : ∀ {vs ws : List V} {ds es : List PyData}, DpAll K H vs ds → DpAll K H ws es → DpAll K H (vs ++ ws) (ds ++ es)
  | _, _, _, _, .nil, t => t
  | _, _, _, _, .cons h r, t => .cons h (dps_app r t)

/-! ### judgements -/
def EvD (K : PySem.W.Frag) (te : TE) (σ : L2.St) (H : Hp) (d : PyData) : Prop := ∀ H1, Ex H H1 → ∀ Q : VK, (∀ v H2, Ex H1 H2 → Dp K H2 v d → Q v H2) → te σ H1 Q
def EvDs (K : PySem.W.Frag) (ta : TA) (σ : L2.St) (H : Hp) (ds : List PyData) : Prop := ∀ H1, Ex H H1 → ∀ Q : List V → Hp → Prop, (∀ vs H2, Ex H1 H2 → DpAll K H2 vs ds → Q vs H2) → ta σ H1 Q
def EvB (tt : TT) (σ : L2.St) (H : Hp) (b : Bool) : Prop := ∀ H1, Ex H H1 → ∀ Q : Bool → Hp → Prop, (∀ H2, Ex H1 H2 → Q b H2) → tt σ H1 Q
/-- the slot i holds the datum d -/
def Sl (K : PySem.W.Frag) (σ : L2.St) (H : Hp) (i : Nat) (d : PyData) : Prop := ∃ v, σ[i]? = some (some v) ∧ Dp K H v d
variable {σ : L2.St} {H H' : Hp} {te tb tx : TE} {ta : TA} {t u : TT} {d e : PyData} {ds : List PyData}
theorem EvD.mono (x : Ex H H') (h : EvD K te σ H d) : EvD K te σ H' d := fun H1 a Q q => h H1 (x.trans a) Q q
theorem EvB.mono {b : Bool} (x : Ex H H') (h : EvB t σ H b) : EvB t σ H' b := fun H1 a Q q => h H1 (x.trans a) Q q
theorem d_var {i : Nat} (h : Sl K σ H i d) : EvD K (tVar i) σ H d := fun H1 x Q k => by
  obtain ⟨v, hs, hv⟩ := h
  exact ⟨v, hs, k v H1 (Ex.refl H1) (dp_grow x _ _ hv)⟩
theorem d_c {v : V} (h : ∀ H, Dp K H v d) : EvD K (tC v) σ H d := fun H1 _ Q k => k _ H1 (Ex.refl H1) (h _)
theorem d_int {i : Int} : EvD K (tC (.int i)) σ H (.int i) := d_c fun _ => .int i
theorem d_bl {b : Bool} : EvD K (tC (.bl b)) σ H (.bool b) := d_c fun _ => .bl b
theorem d_non : EvD K (tC .non) σ H .none := d_c fun _ => .non
theorem d_str {x : Str} : EvD K (tC (.str x)) σ H (.str x) := d_c fun _ => .str x
theorem ds_nil : EvDs K tNil σ H [] := fun H1 _ Q k => k [] H1 (Ex.refl H1) .nil
theorem ds_cons (h : EvD K te σ H d) (r : EvDs K ta σ H ds) : EvDs K (tCons te ta) σ H (d :: ds) := fun H1 x Q k =>
  h H1 x _ fun v H2 x2 hv => r H2 (x.trans x2) _ fun vs H3 x3 hvs => k _ H3 (x2.trans x3) (.cons (dp_grow x3 _ _ hv) hvs)
theorem d_tup (h : EvDs K ta σ H ds) (hl : ds.length ≤ 1000) : EvD K (tTup ta) σ H (.tuple ds) := fun H1 x Q k =>
  h H1 x _ fun vs H2 x2 hvs => ⟨sz_of (by rw [dps_len hvs]; omega), fun p hp => k _ _ (x2.trans (Ex.new hp)) (.tup (st_of upd_same) (dps_grow (Ex.new hp) _ _ hvs))⟩
theorem d_lst (h : EvDs K ta σ H ds) (hl : ds.length ≤ 1000) : EvD K (tLst ta) σ H (.list ds) := fun H1 x Q k =>
  h H1 x _ fun vs H2 x2 hvs => ⟨sz_of (by rw [dps_len hvs]; omega), fun p hp => k _ _ (x2.trans (Ex.new hp)) (.lst (sq_of upd_same) (dps_grow (Ex.new hp) _ _ hvs))⟩
/-- a two-place operation over ints -/
theorem d_I {C : Int → Int → Prop} {g : Int → Int → V} {i j : Int} (h : EvD K te σ H (.int i)) (r : EvD K tb σ H (.int j)) (hc : C i j) (hg : ∀ H, Dp K H (g i j) d) : EvD K (tOp (rI C g) te tb) σ H d := fun H1 x Q k =>
  h H1 x _ fun v H2 x2 hv => r H2 (x.trans x2) _ fun w H3 x3 hw => by
    cases hv
    cases hw
    exact ⟨i, j, rfl, rfl, hc, k _ H3 (x2.trans x3) (hg _)⟩
theorem d_I0 {g : Int → Int → V} {i j : Int} (h : EvD K te σ H (.int i)) (r : EvD K tb σ H (.int j)) (hg : ∀ H, Dp K H (g i j) d) : EvD K (tOp (rI0 g) te tb) σ H d := fun H1 x Q k =>
  h H1 x _ fun v H2 x2 hv => r H2 (x.trans x2) _ fun w H3 x3 hw => by
    cases hv
    cases hw
    exact ⟨i, j, rfl, rfl, k _ H3 (x2.trans x3) (hg _)⟩
section
variable {i j : Int}
theorem d_add (h : EvD K te σ H (.int i)) (r : EvD K tb σ H (.int j)) : EvD K (tOp (rI0 fun i j => .int (i + j)) te tb) σ H (.int (i + j)) := d_I0 h r fun _ => .int _
theorem d_sub (h : EvD K te σ H (.int i)) (r : EvD K tb σ H (.int j)) : EvD K (tOp (rI0 fun i j => .int (i - j)) te tb) σ H (.int (i - j)) := d_I0 h r fun _ => .int _
theorem d_mul (h : EvD K te σ H (.int i)) (r : EvD K tb σ H (.int j)) (hc : CMulW i j) : EvD K (tOp (rI CMulW fun i j => .int (i * j)) te tb) σ H (.int (i * j)) := d_I h r hc fun _ => .int _
theorem d_fdiv (h : EvD K te σ H (.int i)) (r : EvD K tb σ H (.int j)) (hc : CDivA i j) : EvD K (tOp (rI CDivA fun i j => .int (i.fdiv j)) te tb) σ H (.int (i.fdiv j)) := d_I h r hc fun _ => .int _
theorem d_mod (h : EvD K te σ H (.int i)) (r : EvD K tb σ H (.int j)) (hc : 0 < j) : EvD K (tOp (rI (fun _ j => 0 < j) fun i j => .int (i % j)) te tb) σ H (.int (i % j)) := d_I h r hc fun _ => .int _
theorem d_lt (h : EvD K te σ H (.int i)) (r : EvD K tb σ H (.int j)) : EvD K (tOp (rI0 fun i j => .bl (decide (i < j))) te tb) σ H (.bool (decide (i < j))) := d_I0 h r fun _ => .bl _
theorem d_le (h : EvD K te σ H (.int i)) (r : EvD K tb σ H (.int j)) : EvD K (tOp (rI0 fun i j => .bl (decide (i ≤ j))) te tb) σ H (.bool (decide (i ≤ j))) := d_I0 h r fun _ => .bl _
theorem d_gt (h : EvD K te σ H (.int i)) (r : EvD K tb σ H (.int j)) : EvD K (tOp (rI0 fun i j => .bl (decide (j < i))) te tb) σ H (.bool (decide (j < i))) := d_I0 h r fun _ => .bl _
theorem d_ge (h : EvD K te σ H (.int i)) (r : EvD K tb σ H (.int j)) : EvD K (tOp (rI0 fun i j => .bl (decide (j ≤ i))) te tb) σ H (.bool (decide (j ≤ i))) := d_I0 h r fun _ => .bl _
theorem d_eqI (h : EvD K te σ H (.int i)) (r : EvD K tb σ H (.int j)) : EvD K (tOp rEq te tb) σ H (.bool (decide (i = j))) := fun H1 x Q k =>
  h H1 x _ fun v H2 x2 hv => r H2 (x.trans x2) _ fun w H3 x3 hw => by
    cases hv
    cases hw
    refine ⟨rfl, ?_⟩
    have z : decide (V.int i = V.int j) = decide (i = j) := by
      by_cases q : i = j
      · subst q
        rw [decide_eq_true rfl, decide_eq_true rfl]
      · rw [decide_eq_false q, decide_eq_false (fun z => q (V.int.inj z))]
    rw [z]
    exact k _ H3 (x2.trans x3) (.bl _)
theorem d_neI (h : EvD K te σ H (.int i)) (r : EvD K tb σ H (.int j)) : EvD K (tOp rNe te tb) σ H (.bool (decide (i ≠ j))) := fun H1 x Q k =>
  h H1 x _ fun v H2 x2 hv => r H2 (x.trans x2) _ fun w H3 x3 hw => by
    cases hv
    cases hw
    refine ⟨rfl, ?_⟩
    have z : (!decide (V.int i = V.int j)) = decide (i ≠ j) := by
      by_cases q : i = j
      · subst q
        rw [decide_eq_true rfl, decide_eq_false (fun z => z rfl)]
        rfl
      · rw [decide_eq_true q, decide_eq_false (fun z => q (V.int.inj z))]
        rfl
    rw [z]
    exact k _ H3 (x2.trans x3) (.bl _)
theorem d_neg (h : EvD K te σ H (.int i)) : EvD K (tUn (rU fun i => .int (-i)) te) σ H (.int (-i)) := fun H1 x Q k =>
  h H1 x _ fun v H2 x2 hv => by
    cases hv
    exact ⟨i, rfl, k _ H2 x2 (.int _)⟩
theorem d_abs (h : EvD K te σ H (.int i)) : EvD K (tCB (fun xs H Q => ∃ i, xs = [.int i] ∧ Q (.int (if i < 0 then -i else i)) H) (tCons te tNil)) σ H (.int (i.natAbs : Int)) := fun H1 x Q k =>
  h H1 x _ fun v H2 x2 hv => by
    cases hv
    refine ⟨i, rfl, ?_⟩
    have z : (if i < 0 then -i else i) = (i.natAbs : Int) := by
      split <;> omega
    rw [z]
    exact k _ H2 x2 (.int _)
theorem d_toInt (h : EvD K te σ H (.int i)) : EvD K (tCB (fun xs H Q => (∃ i, xs = [.int i] ∧ Q (.int i) H) ∨ ∃ k, xs = [.bl k] ∧ Q (.int (if k then 1 else 0)) H) (tCons te tNil)) σ H (.int i) := fun H1 x Q k =>
  h H1 x _ fun v H2 x2 hv => by
    cases hv
    exact .inl ⟨i, rfl, k _ H2 x2 (.int _)⟩
theorem d_toIntB {b : Bool} (h : EvD K te σ H (.bool b)) : EvD K (tCB (fun xs H Q => (∃ i, xs = [.int i] ∧ Q (.int i) H) ∨ ∃ k, xs = [.bl k] ∧ Q (.int (if k then 1 else 0)) H) (tCons te tNil)) σ H (.int (if b then 1 else 0)) := fun H1 x Q k =>
  h H1 x _ fun v H2 x2 hv => by
    cases hv
    exact .inr ⟨b, rfl, k _ H2 x2 (.int _)⟩
theorem d_gcd (h : EvD K te σ H (.int i)) (r : EvD K tb σ H (.int j)) : EvD K (tCB rGcd (tCons te (tCons tb tNil))) σ H (.int ((Nat.gcd i.natAbs j.natAbs : Nat) : Int)) := fun H1 x Q k =>
  h H1 x _ fun v H2 x2 hv => r H2 (x.trans x2) _ fun w H3 x3 hw => by
    cases hv
    cases hw
    exact ⟨i, j, rfl, k _ H3 (x2.trans x3) (.int _)⟩
/-- t[i], xs[i] -/
theorem d_ixT (h : EvD K te σ H (.tuple ds)) (r : EvD K tb σ H (.int i)) (e : atI ds i = some d) : EvD K (tOp (rIxT K) te tb) σ H d := fun H1 x Q k =>
  h H1 x _ fun v H2 x2 hv => r H2 (x.trans x2) _ fun w H3 x3 hw => by
    cases dp_grow x3 _ _ hv with
    | tup hs ha =>
      cases hw
      obtain ⟨z, hz, hd⟩ := dps_at ha e
      exact ⟨_, _, i, z, rfl, rfl, hs, hz, k _ H3 (x2.trans x3) hd⟩
theorem d_ixL (h : EvD K te σ H (.list ds)) (r : EvD K tb σ H (.int i)) (e : atI ds i = some d) : EvD K (tOp (rIxL K) te tb) σ H d := fun H1 x Q k =>
  h H1 x _ fun v H2 x2 hv => r H2 (x.trans x2) _ fun w H3 x3 hw => by
    cases dp_grow x3 _ _ hv with
    | lst hs ha =>
      cases hw
      obtain ⟨z, hz, hd⟩ := dps_at ha e
      exact ⟨_, _, i, z, rfl, rfl, hs, hz, k _ H3 (x2.trans x3) hd⟩
theorem d_lenL (h : EvD K te σ H (.list ds)) : EvD K (tCB (fun xs H Q => ∃ p ys, xs = [.ref p] ∧ (SqL K H p ys ∨ SqT K H p ys) ∧ Q (.int ys.length) H) (tCons te tNil)) σ H (.int ds.length) := fun H1 x Q k =>
  h H1 x _ fun v H2 x2 hv => by
    cases hv with
    | lst hs ha =>
      refine ⟨_, _, rfl, .inl hs, ?_⟩
      rw [dps_len ha]
      exact k _ H2 x2 (.int _)
theorem d_lenT (h : EvD K te σ H (.tuple ds)) : EvD K (tCB (fun xs H Q => ∃ p ys, xs = [.ref p] ∧ (SqL K H p ys ∨ SqT K H p ys) ∧ Q (.int ys.length) H) (tCons te tNil)) σ H (.int ds.length) := fun H1 x Q k =>
  h H1 x _ fun v H2 x2 hv => by
    cases hv with
    | tup hs ha =>
      refine ⟨_, _, rfl, .inr hs, ?_⟩
      rw [dps_len ha]
      exact k _ H2 x2 (.int _)
end
/-- == and != of data -/
theorem d_eqD (h : EvD K te σ H d) (r : EvD K tb σ H e) (hd : SeqAt.shaped d = true) (he : SeqAt.shaped e = true) : EvD K (tOp (rEqD K) te tb) σ H (.bool (PyData.eqv d e)) := fun H1 x Q k =>
  h H1 x _ fun v H2 x2 hv => r H2 (x.trans x2) _ fun w H3 x3 hw => ⟨d, e, dp_grow x3 _ _ hv, hw, hd, he, k _ H3 (x2.trans x3) (.bl _)⟩
theorem d_neD (h : EvD K te σ H d) (r : EvD K tb σ H e) (hd : SeqAt.shaped d = true) (he : SeqAt.shaped e = true) : EvD K (tOp (rNeD K) te tb) σ H (.bool (!PyData.eqv d e)) := fun H1 x Q k =>
  h H1 x _ fun v H2 x2 hv => r H2 (x.trans x2) _ fun w H3 x3 hw => ⟨d, e, dp_grow x3 _ _ hv, hw, hd, he, k _ H3 (x2.trans x3) (.bl _)⟩
def isNone : PyData → Bool
  | .none => true
  | _ => false
theorem dec_none {v : V} {H : Hp} (h : Dp K H v d) : decide (v = V.non) = isNone d := by
  cases h <;> rfl
theorem d_isN (h : EvD K te σ H d) : EvD K (tOp (fun x y H Q => y = .non ∧ Q (.bl (decide (x = .non))) H) te (tC .non)) σ H (.bool (isNone d)) := fun H1 x Q k =>
  h H1 x _ fun v H2 x2 hv => ⟨rfl, by
    rw [dec_none hv]
    exact k _ H2 x2 (.bl _)⟩
theorem d_notN (h : EvD K te σ H d) : EvD K (tOp (fun x y H Q => y = .non ∧ Q (.bl (!decide (x = .non))) H) te (tC .non)) σ H (.bool (!isNone d)) := fun H1 x Q k =>
  h H1 x _ fun v H2 x2 hv => ⟨rfl, by
    rw [dec_none hv]
    exact k _ H2 x2 (.bl _)⟩
theorem d_isB {a b : Bool} (h : EvD K te σ H (.bool a)) (r : EvD K tb σ H (.bool b)) : EvD K (tOp (fun x y H Q => ∃ a b, x = .bl a ∧ y = .bl b ∧ Q (.bl (decide (a = b))) H) te tb) σ H (.bool (decide (a = b))) := fun H1 x Q k =>
  h H1 x _ fun v H2 x2 hv => r H2 (x.trans x2) _ fun w H3 x3 hw => by
    cases hv
    cases hw
    exact ⟨a, b, rfl, rfl, k _ H3 (x2.trans x3) (.bl _)⟩
/-! ### truths -/
theorem d_and {a b : Bool} (h : EvD K te σ H (.bool a)) (r : a = true → EvD K tb σ H (.bool b)) : EvD K (tAndV te tb) σ H (.bool (a && b)) := fun H1 x Q k =>
  h H1 x _ fun v H2 x2 hv => by
    cases hv
    refine ⟨a, rfl, ?_⟩
    cases a with
    | true =>
      show tb σ H2 Q
      exact r rfl H2 (x.trans x2) Q fun v H3 x3 hv => k v H3 (x2.trans x3) hv
    | false =>
      show Q (.bl false) H2
      exact k _ H2 x2 (.bl _)
theorem d_or {a b : Bool} (h : EvD K te σ H (.bool a)) (r : a = false → EvD K tb σ H (.bool b)) : EvD K (tOrV te tb) σ H (.bool (a || b)) := fun H1 x Q k =>
  h H1 x _ fun v H2 x2 hv => by
    cases hv
    refine ⟨a, rfl, ?_⟩
    cases a with
    | false =>
      show tb σ H2 Q
      exact r rfl H2 (x.trans x2) Q fun v H3 x3 hv => k v H3 (x2.trans x3) hv
    | true =>
      show Q (.bl true) H2
      exact k _ H2 x2 (.bl _)
theorem d_not {a : Bool} (h : EvD K te σ H (.bool a)) : EvD K (tNotV te) σ H (.bool (!a)) := fun H1 x Q k =>
  h H1 x _ fun v H2 x2 hv => by
    cases hv
    exact ⟨a, rfl, k _ H2 x2 (.bl _)⟩
theorem b_test {b : Bool} (h : EvD K te σ H (.bool b)) : EvB (tTest te) σ H b := fun H1 x Q k => h H1 x _ fun v H2 x2 hv => by
  cases hv
  exact ⟨b, rfl, k H2 x2⟩
theorem b_val {b : Bool} (h : EvD K te σ H (.bool b)) : EvB (tB te) σ H b := fun H1 x Q k => h H1 x _ fun v H2 x2 hv => by
  cases hv
  exact ⟨b, rfl, k H2 x2⟩
theorem b_not {a : Bool} (h : EvB t σ H a) : EvB (tNot t) σ H (!a) := fun H1 x Q k => h H1 x _ fun H2 x2 => k H2 x2
theorem b_and {a b : Bool} (h : EvB t σ H a) (r : a = true → EvB u σ H b) : EvB (tAnd t u) σ H (a && b) := fun H1 x Q k => h H1 x _ fun H2 x2 => by
  cases a with
  | true =>
    show u σ H2 Q
    exact r rfl H2 (x.trans x2) Q fun H3 x3 => k H3 (x2.trans x3)
  | false =>
    show Q false H2
    exact k H2 x2
theorem b_or {a b : Bool} (h : EvB t σ H a) (r : a = false → EvB u σ H b) : EvB (tOr t u) σ H (a || b) := fun H1 x Q k => h H1 x _ fun H2 x2 => by
  cases a with
  | false =>
    show u σ H2 Q
    exact r rfl H2 (x.trans x2) Q fun H3 x3 => k H3 (x2.trans x3)
  | true =>
    show Q true H2
    exact k H2 x2
theorem d_if {b : Bool} (h : EvB t σ H b) (r1 : b = true → EvD K te σ H d) (r2 : b = false → EvD K tb σ H d) : EvD K (tIf t te tb) σ H d := fun H1 x Q k => h H1 x _ fun H2 x2 => by
  cases b with
  | true =>
    show te σ H2 Q
    exact r1 rfl H2 (x.trans x2) Q fun v H3 x3 hv => k v H3 (x2.trans x3) hv
  | false =>
    show tb σ H2 Q
    exact r2 rfl H2 (x.trans x2) Q fun v H3 x3 hv => k v H3 (x2.trans x3) hv
theorem d_ite {b : Bool} (h : EvB t σ H b) (r1 : b = true → EvD K te σ H d) (r2 : b = false → EvD K tb σ H e) : EvD K (tIf t te tb) σ H (if b = true then d else e) := fun H1 x Q k => h H1 x _ fun H2 x2 => by
  cases b with
  | true =>
    show te σ H2 Q
    exact r1 rfl H2 (x.trans x2) Q fun v H3 x3 hv => k v H3 (x2.trans x3) (by rw [if_pos rfl]; exact hv)
  | false =>
    show tb σ H2 Q
    exact r2 rfl H2 (x.trans x2) Q fun v H3 x3 hv => k v H3 (x2.trans x3) (by rw [if_neg Bool.false_ne_true]; exact hv)
theorem d_is (h : EvD K te σ H d) (q : d = e) : EvD K te σ H e := q ▸ h
theorem b_is {a b : Bool} (h : EvB t σ H a) (q : a = b) : EvB t σ H b := q ▸ h
/-! ### kinds -/
/-- the name of a datum's type -/
def kind : PyData → String
  | .none => "NoneType"
  | .bool _ => "bool"
  | .int _ => "int"
  | .str _ => "str"
  | .list _ => "list"
  | .tuple _ => "tuple"
  | .dict _ => "dict"
theorem tyx_of {v : V} {H : Hp} (h : Dp K H v d) : TyX K H v (.type (kind d)) := by
  cases h with
  | non => exact .base .non
  | bl b => exact .base (.bl b)
  | int i => exact .base (.int i)
  | str x => exact .base (.str x)
  | lst hs _ =>
    rcases hs with (h | ⟨o, h⟩) | ⟨o, its, n, h, hc, _⟩
    · exact .base (.lst h)
    · exact .base (.frz h)
    · exact .kList h hc
  | tup hs _ =>
    rcases hs with (h | ⟨o, h⟩) | ⟨o, its, n, h, hc, _⟩
    · exact .base (.tup h)
    · exact .fTuple h
    · exact .kTuple h hc
theorem d_isi {c : String} {b : Bool} (h : EvD K te σ H d) (e : kitB (kind d) c = some b) : EvD K (tCB (rIsi K) (tCons te (tCons (tC (.ty c)) tNil))) σ H (.bool b) := fun H1 x Q k =>
  h H1 x _ fun v H2 x2 hv => ⟨v, .ty c, _, _, b, rfl, .ty c, tyx_of hv, kit_ty e, k _ H2 x2 (.bl _)⟩
/-- isinstance(x, (T, U)) -/
theorem d_isiT {c c' : String} {b b' : Bool} (h : EvD K te σ H d) (e : kitB (kind d) c = some b) (e' : kitB (kind d) c' = some b') : EvD K (tCB (rIsiT K) (tCons te (tCons (tTup (tCons (tC (.ty c)) (tCons (tC (.ty c')) tNil))) tNil))) σ H (.bool (b || b')) := fun H1 x Q k =>
  h H1 x _ fun v H2 x2 hv => ⟨sz_of (by show 2 ≤ 100000; decide), fun p hp => ⟨v, p, [.ty c, .ty c'], _, [.type c, .type c'], b || b', rfl, upd_same, .cons (.ty c) (.cons (.ty c') .nil), tyx_of (dp_grow (Ex.new hp) _ _ hv), by
    unfold PySem.W.kitAny PySem.W.kitAny PySem.W.kitAny
    rw [kit_ty e, kit_ty e']
    cases b <;> cases b' <;> rfl, k _ _ (x2.trans (Ex.new hp)) (.bl _)⟩⟩
/-! ### calls -/
/-- a def that makes of data a datum -/
def spD (K : PySem.W.Frag) (n : Nat) (f : List PyData → PyData → Prop) : Sp := fun vs H Q _ => ∃ ds d, ds.length = n ∧ DpAll K H vs ds ∧ f ds d ∧ ∀ v H', Ex H H' → Dp K H' v d → Q v H'
theorem d_call {n : Nat} {f : List PyData → PyData → Prop} {E : XK} (h : EvDs K ta σ H ds) (hl : ds.length = n) (hf : f ds d) : EvD K (tCall (spD K n f) [] E ta) σ H d := fun H1 x Q k =>
  h H1 x _ fun vs H2 x2 hvs => by
    refine ⟨ds, d, hl, ?_, hf, fun v H' x' hv => k v H' (x2.trans x') hv⟩
    rw [List.append_nil]
    exact hvs
/-! ### statements -/
variable {D : Ends} {tu tw : TS}
theorem z_set {i : Nat} {ts : TS} (h : EvD K te σ H d) (k : ∀ v H1, Ex H H1 → Dp K H1 v d → ts D (σ.set i (some v)) H1) : tSeq (tAsg te (gName i)) ts D σ H := h H (Ex.refl H) _ k
theorem z_if {b : Bool} {ts : TS} (h : EvB t σ H b) (k1 : b = true → ∀ H1, Ex H H1 → tu { D with nx := ts D } σ H1) (k2 : b = false → ∀ H1, Ex H H1 → tw { D with nx := ts D } σ H1) : tSeq (tIfS t tu tw) ts D σ H := h H (Ex.refl H) _ fun H1 x => by
  cases b with
  | true =>
    show tu _ σ H1
    exact k1 rfl H1 x
  | false =>
    show tw _ σ H1
    exact k2 rfl H1 x
theorem z_if1 {b : Bool} (h : EvB t σ H b) (k1 : b = true → ∀ H1, Ex H H1 → tu D σ H1) (k2 : b = false → ∀ H1, Ex H H1 → tw D σ H1) : tIfS t tu tw D σ H := h H (Ex.refl H) _ fun H1 x => by
  cases b with
  | true =>
    show tu D σ H1
    exact k1 rfl H1 x
  | false =>
    show tw D σ H1
    exact k2 rfl H1 x
theorem z_ret (h : EvD K te σ H d) (k : ∀ v H1, Ex H H1 → Dp K H1 v d → D.rt v H1) : tRet te D σ H := h H (Ex.refl H) _ k
theorem z_set1 {i : Nat} (h : EvD K te σ H d) (k : ∀ v H1, Ex H H1 → Dp K H1 v d → D.nx (σ.set i (some v)) H1) : tAsg te (gName i) D σ H := h H (Ex.refl H) _ k
theorem z_next (h : D.nx σ H) : tNext D σ H := h
theorem x_set {i : Nat} {v : V} {ts : TS} (h : ∀ Q : VK, Q v H → te σ H Q) (k : ts D (σ.set i (some v)) H) : tSeq (tAsg te (gName i)) ts D σ H := h _ k
theorem z_while {c : TT} {ts : TS} (Pv : L2.St → Hp → Prop) (μ : L2.St → Hp → Nat) (h0 : Pv σ H)
    (hs : ∀ σ1 H1, Pv σ1 H1 → c σ1 H1 fun b H2 => if b = true then tu { D with nx := fun σ2 H3 => Pv σ2 H3 ∧ μ σ2 H3 < μ σ1 H1, ct := fun σ2 H3 => Pv σ2 H3 ∧ μ σ2 H3 < μ σ1 H1, bk := ts D } σ1 H2 else ts D σ1 H2)
    (mono : ∀ σ1 H1 Q Q', (∀ b H2, Q b H2 → Q' b H2) → c σ1 H1 Q → c σ1 H1 Q') : tSeq (tWhile c tu) ts D σ H := while_by (D := { D with nx := ts D }) Pv μ h0 hs mono
theorem Sl.mono {i : Nat} (x : Ex H H') (h : Sl K σ H i d) : Sl K σ H' i d := by
  obtain ⟨v, hs, hv⟩ := h
  exact ⟨v, hs, dp_grow x _ _ hv⟩
/-- x, y = t (a tuple of two) -/
theorem g_two {i j : Nat} {v : V} {a b : PyData} {Q : L2.St → Hp → Prop} {n : Nat} (hv : Dp K H v (.tuple [a, b])) (hn : n = 2) (k : ∀ x y, Dp K H x a → Dp K H y b → Q ((σ.set i (some x)).set j (some y)) H) : gTup K n (gCons (gName i) (gCons (gName j) gNil)) v σ H Q := by
  cases hv with
  | tup hs ha =>
    cases ha with
    | cons h1 t1 =>
      cases t1 with
      | cons h2 t2 =>
        cases t2
        exact ⟨_, _, rfl, hs, hn.symm, _, _, rfl, _, _, rfl, rfl, k _ _ h1 h2⟩
end
end Dat
/-! Ratios: what their defs promise. -/
namespace Dat
open PySem L2 Evl
/-! ### a def as its callers know it -/
structure Def (P : Program) (w : World) (K : PySem.W.Frag) (mg : Str → Option Value) (base : Heap) (CX : CXT) (k : Nat) (x : Str) (ps : List Str) (sp : Sp) : Prop where
  ex : ∃ (f : Addr) (fd : FuncData), FnOk P w K mg base CX k f fd ps sp ∧ mg x = some (.ref f) ∧ PySem.W.keepIn K (.ref f) = true ∧ Binds K fd ps []
section
variable {X : Cx} {CX : CXT} {k : Nat} {ps : List Str} {sp : Sp} {E : XK} {x : Str} {p pos : Pos} {e : Expr} {es : List Expr} {t : TA}
theorem pe_dcall (D : Def X.prog X.w X.K X.mg X.base CX k x ps sp) (hr : Room k X.A) (hx : Passes CX X E) (ha : PA X (e :: es) t) (hg : Gl X x := by rfl)
    (hdb : (x == ("__debug__" : Str)) = false := by decide) (he : starEach (e :: es) X.env = (false, eval e X.env) :: starEach es X.env := by rfl) (hpl : (backTo pos (starEach es X.env)).any (·.1) = false := by rfl) :
    PE X (.Call (.Name x p) (e :: es) [] pos) (tCall sp [] E t) := by
  obtain ⟨f, fd, F, hm, hk, hb⟩ := D.ex
  exact pe_call F hr hg hm hk hb .nil hx ha hdb he hpl
end
structure Bl (mg : Str → Option Value) : Prop where
  b_int : mg "int" = none
  b_abs : mg "abs" = none
  b_len : mg "len" = none
  b_range : mg "range" = none
  b_isinstance : mg "isinstance" = none
  b_any : mg "any" = none
  b_all : mg "all" = none
  b_bool : mg "bool" = none
  b_str : mg "str" = none
  b_tuple : mg "tuple" = none
  b_list : mg "list" = none
  b_enumerate : mg "enumerate" = none
  g_gcd : mg "gcd" = some (.builtin "math.gcd")
section
variable {K : PySem.W.Frag}
theorem dps_cons {H : Hp} {vs : List V} {d : PyData} {ds : List PyData} (h : DpAll K H vs (d :: ds)) : ∃ v ws, vs = v :: ws ∧ Dp K H v d ∧ DpAll K H ws ds := by
  cases h with
  | cons h1 h2 => exact ⟨_, _, rfl, h1, h2⟩
theorem dps_nil {H : Hp} {vs : List V} (h : DpAll K H vs []) : vs = [] := by
  cases h
  rfl
end
/-! ### ratios -/
abbrev rat (p q : Int) : PyData := .tuple [.int p, .int q]
/-- the two parts in lowest terms, the bottom above 0 -/
def lowP (t b : Int) : Int := if b < 0 then (-t) / (Nat.gcd t.natAbs b.natAbs : Nat) else t / (Nat.gcd t.natAbs b.natAbs : Nat)
def lowQ (t b : Int) : Int := if b < 0 then (-b) / (Nat.gcd t.natAbs b.natAbs : Nat) else b / (Nat.gcd t.natAbs b.natAbs : Nat)
abbrev lowest (t b : Int) : PyData := rat (lowP t b) (lowQ t b)
abbrev B : Nat := 1500
def fLowest (ds : List PyData) (d : PyData) : Prop := ∃ t b : Int, ds = [.int t, .int b] ∧ b ≠ 0 ∧ b.natAbs < 2 ^ 4000 ∧ d = lowest t b
def two (f : Int → Int → Int → Int → PyData) (ds : List PyData) (d : PyData) : Prop := ∃ p q r s : Int, ds = [rat p q, rat r s] ∧ q ≠ 0 ∧ s ≠ 0 ∧ p.natAbs < 2 ^ B ∧ q.natAbs < 2 ^ B ∧ r.natAbs < 2 ^ B ∧ s.natAbs < 2 ^ B ∧ d = f p q r s
def fPlus := two fun p q r s => lowest (p * s + r * q) (q * s)
def fMinus := two fun p q r s => lowest (p * s - r * q) (q * s)
def fTimes := two fun p q r s => lowest (p * r) (q * s)
def fLess := two fun p q r s => .bool (decide (p * s < r * q))
def one1 (f : Int → Int → PyData) (ds : List PyData) (d : PyData) : Prop := ∃ p q : Int, ds = [rat p q] ∧ d = f p q
def fNegative := one1 fun p q => rat (-p) q
def fSize := one1 fun p q => rat (p.natAbs : Int) q
def fFloor (ds : List PyData) (d : PyData) : Prop := ∃ p q : Int, ds = [rat p q] ∧ q ≠ 0 ∧ q.natAbs < 2 ^ B ∧ d = .int (p.fdiv q)
theorem mul_ne {q s : Int} (h : q ≠ 0) (h' : s ≠ 0) : q * s ≠ 0 := Int.mul_ne_zero h h'
theorem small_mul {q s : Int} (h : q.natAbs < 2 ^ B) (h' : s.natAbs < 2 ^ B) : (q * s).natAbs < 2 ^ 4000 := Nat.lt_of_lt_of_le (wide_lt h h') (Nat.pow_le_pow_right (by decide) (by decide))
theorem div_ok {i j : Int} {n : Nat} (h : j ≠ 0) (h' : j.natAbs < 2 ^ n) (h0 : 0 < n := by decide) (h9 : n ≤ 9000 := by decide) : CDivA i j := ⟨h, Nat.lt_of_lt_of_le (PySem.Flt.log2_lt_of h0 h') h9⟩
theorem gcd_pos {t b : Int} (h : b ≠ 0) : 0 < Nat.gcd t.natAbs b.natAbs := Nat.gcd_pos_of_pos_right _ (by omega)
theorem div_g {i t b : Int} (h : b ≠ 0) (h' : b.natAbs < 2 ^ 4000) : CDivA i ((Nat.gcd t.natAbs b.natAbs : Nat) : Int) := by
  have h1 := gcd_pos (t := t) h
  have h2 : Nat.gcd t.natAbs b.natAbs ≤ b.natAbs := Nat.gcd_le_right _ (by omega)
  exact div_ok (n := 4000) (by omega) (by show Nat.gcd t.natAbs b.natAbs < _; exact Nat.lt_of_le_of_lt h2 h')
theorem div_ng {i t b : Int} (h : b ≠ 0) (h' : b.natAbs < 2 ^ 4000) : CDivA i (-((Nat.gcd t.natAbs b.natAbs : Nat) : Int)) := by
  have h1 := gcd_pos (t := t) h
  have h2 : Nat.gcd t.natAbs b.natAbs ≤ b.natAbs := Nat.gcd_le_right _ (by omega)
  exact div_ok (n := 4000) (by omega) (by rw [Int.natAbs_neg]; show Nat.gcd t.natAbs b.natAbs < _; exact Nat.lt_of_le_of_lt h2 h')
theorem fdiv_neg_g {t : Int} {g : Nat} (h : 0 < g) : t.fdiv (-(g : Int)) = (-t) / (g : Int) := by
  have z := Int.neg_fdiv_neg (-t) (g : Int)
  rw [Int.neg_neg] at z
  rw [z, Int.fdiv_eq_ediv_of_nonneg _ (by omega)]
theorem low_neg {t b : Int} (h : b ≠ 0) (c : decide (b < 0) = true) : PyData.tuple [.int (t.fdiv (-((Nat.gcd t.natAbs b.natAbs : Nat) : Int))), .int (b.fdiv (-((Nat.gcd t.natAbs b.natAbs : Nat) : Int)))] = lowest t b := by
  have c' := of_decide_eq_true c
  have h1 := gcd_pos (t := t) h
  show _ = rat (lowP t b) (lowQ t b)
  unfold lowP lowQ
  rw [if_pos c', if_pos c', fdiv_neg_g h1, fdiv_neg_g h1]
theorem low_pos {t b : Int} (c : decide (b < 0) = false) : PyData.tuple [.int (t.fdiv ((Nat.gcd t.natAbs b.natAbs : Nat) : Int)), .int (b.fdiv ((Nat.gcd t.natAbs b.natAbs : Nat) : Int))] = lowest t b := by
  have c' := of_decide_eq_false c
  show _ = rat (lowP t b) (lowQ t b)
  unfold lowP lowQ
  rw [if_neg c', if_neg c', Int.fdiv_eq_ediv_of_nonneg _ (by omega), Int.fdiv_eq_ediv_of_nonneg _ (by omega)]
def fCompare := two fun p q r s => .int (if p * s - r * q = 0 then 0 else if 0 < p * s - r * q then 1 else -1)
theorem cmp_zero {g : Int} (c : decide (g = 0) = true) : PyData.int 0 = .int (if g = 0 then 0 else if 0 < g then 1 else -1) := by
  rw [if_pos (of_decide_eq_true c)]
theorem cmp_sign {g : Int} (c : decide (g = 0) = false) : (if decide (0 < g) = true then PyData.int 1 else .int (-1)) = .int (if g = 0 then 0 else if 0 < g then 1 else -1) := by
  rw [if_neg (of_decide_eq_false c)]
  by_cases h : 0 < g
  · rw [if_pos h, if_pos (decide_eq_true h)]
  · rw [if_neg h, if_neg (by rw [decide_eq_false h]; decide)]
end Dat
/-! Ratios as the core's Rat: sums and products as the program works them out. -/
namespace Dat
open PySem L2 Evl
abbrev ratR (x : Rat) : PyData := rat x.num (x.den : Int)
/-- both parts below 2 ^ n -/
def Sz (n : Nat) (x : Rat) : Prop := x.num.natAbs < 2 ^ n ∧ x.den < 2 ^ n
theorem Sz.mono {n m : Nat} {x : Rat} (h : Sz n x) (l : n ≤ m) : Sz m x :=
  ⟨Nat.lt_of_lt_of_le h.1 (Nat.pow_le_pow_right (by decide) l), Nat.lt_of_lt_of_le h.2 (Nat.pow_le_pow_right (by decide) l)⟩
theorem norm_num (N : Int) (D : Nat) (h : D ≠ 0) : (Rat.normalize N D h).num = N / (Nat.gcd N.natAbs D : Nat) := by
  rw [Rat.normalize_eq]
theorem norm_den (N : Int) (D : Nat) (h : D ≠ 0) : (Rat.normalize N D h).den = D / Nat.gcd N.natAbs D := by
  rw [Rat.normalize_eq]
theorem low_norm (N : Int) (D : Nat) (h : D ≠ 0) : lowest N (D : Int) = ratR (Rat.normalize N D h) := by
  show rat (lowP N D) (lowQ N D) = rat _ _
  rw [norm_num, norm_den]
  unfold lowP lowQ
  rw [if_neg (by omega), if_neg (by omega), Int.natAbs_natCast]
  rfl
theorem sz_norm {n : Nat} (N : Int) (D : Nat) (h : D ≠ 0) (h1 : N.natAbs < 2 ^ n) (h2 : D < 2 ^ n) : Sz n (Rat.normalize N D h) := by
  constructor
  · rw [norm_num]
    refine Nat.lt_of_le_of_lt ?_ h1
    rw [Int.natAbs_ediv_of_dvd (Int.ofNat_dvd_left.mpr (Nat.gcd_dvd_left _ _))]
    exact Nat.div_le_self _ _
  · rw [norm_den]
    exact Nat.lt_of_le_of_lt (Nat.div_le_self _ _) h2
theorem mul_lt2 {a b n m : Nat} (h : a < 2 ^ n) (h' : b < 2 ^ m) : a * b < 2 ^ (n + m) := by
  rw [Nat.pow_add]
  exact Nat.mul_lt_mul'' h h'
theorem sz_add {n m : Nat} {x y : Rat} (h : Sz n x) (h' : Sz m y) : Sz (n + m + 1) (x + y) := by
  rw [Rat.add_def]
  have e : (2 : Nat) ^ (n + m + 1) = 2 ^ (n + m) + 2 ^ (n + m) := by
    rw [Nat.pow_succ]
    omega
  have h1 : (x.num * y.den).natAbs < 2 ^ (n + m) := by
    rw [Int.natAbs_mul, Int.natAbs_natCast]
    exact mul_lt2 h.1 h'.2
  have h2 : (y.num * x.den).natAbs < 2 ^ (n + m) := by
    rw [Int.natAbs_mul, Int.natAbs_natCast, Nat.mul_comm]
    exact mul_lt2 h.2 h'.1
  refine sz_norm _ _ _ ?_ ?_
  · have := Int.natAbs_add_le (x.num * y.den) (y.num * x.den)
    omega
  · have := mul_lt2 h.2 h'.2
    omega
theorem sz_mul {n m : Nat} {x y : Rat} (h : Sz n x) (h' : Sz m y) : Sz (n + m) (x * y) := by
  rw [Rat.mul_def]
  refine sz_norm _ _ _ ?_ ?_
  · rw [Int.natAbs_mul]
    exact mul_lt2 h.1 h'.1
  · exact mul_lt2 h.2 h'.2
theorem rat_of {r : Rat} {C D : Int} (h : r.num = C) (h' : (r.den : Int) = D) : ratR r = rat C D := by
  show rat r.num (r.den : Int) = _
  rw [h, h']
theorem joined1 {x y : Rat} (g : Nat.gcd x.den y.den = 1) : ratR (x + y) = rat (x.num * y.den + y.num * x.den) ((x.den : Int) * y.den) := by
  have e : x + y = Rat.add x y := rfl
  rw [e]
  unfold Rat.add
  simp only [g, dite_true]
  rfl
theorem joined2 {x y : Rat} (g : Nat.gcd x.den y.den ≠ 1) : ratR (x + y) =
    rat ((x.num * ((y.den / Nat.gcd x.den y.den : Nat) : Int) + y.num * ((x.den / Nat.gcd x.den y.den : Nat) : Int)) / (Nat.gcd (x.num * ((y.den / Nat.gcd x.den y.den : Nat) : Int) + y.num * ((x.den / Nat.gcd x.den y.den : Nat) : Int)).natAbs (Nat.gcd x.den y.den) : Nat))
      (((x.den / Nat.gcd x.den y.den : Nat) : Int) * ((y.den / Nat.gcd (x.num * ((y.den / Nat.gcd x.den y.den : Nat) : Int) + y.num * ((x.den / Nat.gcd x.den y.den : Nat) : Int)).natAbs (Nat.gcd x.den y.den) : Nat) : Int)) := by
  have e : x + y = Rat.add x y := rfl
  rw [e]
  unfold Rat.add
  simp only [g, dite_false, Rat.maybeNormalize_eq]
  refine rat_of ?_ ?_
  · show Int.divExact _ _ (Int.ofNat_dvd_left.mpr (Nat.gcd_dvd_left _ _)) = _
    rw [Int.divExact_eq_tdiv, Int.tdiv_eq_ediv_of_dvd (Int.ofNat_dvd_left.mpr (Nat.gcd_dvd_left _ _))]
  · have hd : Nat.gcd (x.num * ((y.den / Nat.gcd x.den y.den : Nat) : Int) + y.num * ((x.den / Nat.gcd x.den y.den : Nat) : Int)).natAbs (Nat.gcd x.den y.den) ∣ y.den := Nat.dvd_trans (Nat.gcd_dvd_right _ _) (Nat.gcd_dvd_right _ _)
    rw [← Int.natCast_mul, ← Nat.mul_div_assoc _ hd]
theorem timesR {x y : Rat} : ratR (x * y) = rat ((x.num / (Nat.gcd x.num.natAbs y.den : Nat)) * (y.num / (Nat.gcd y.num.natAbs x.den : Nat))) (((x.den / Nat.gcd y.num.natAbs x.den : Nat) : Int) * ((y.den / Nat.gcd x.num.natAbs y.den : Nat) : Int)) := by
  have e : x * y = Rat.mul x y := rfl
  rw [e]
  unfold Rat.mul
  refine rat_of ?_ ?_
  · show Int.divExact _ _ (Int.ofNat_dvd_left.mpr (Nat.gcd_dvd_left _ _)) * Int.divExact _ _ (Int.ofNat_dvd_left.mpr (Nat.gcd_dvd_left _ _)) = _
    rw [Int.divExact_eq_tdiv, Int.divExact_eq_tdiv, Int.tdiv_eq_ediv_of_dvd (Int.ofNat_dvd_left.mpr (Nat.gcd_dvd_left _ _)), Int.tdiv_eq_ediv_of_dvd (Int.ofNat_dvd_left.mpr (Nat.gcd_dvd_left _ _))]
  · show ((Nat.divExact _ _ (Nat.gcd_dvd_right _ _) * Nat.divExact _ _ (Nat.gcd_dvd_right _ _) : Nat) : Int) = _
    rw [Int.natCast_mul]
    rfl
theorem rat_ext {x y : Rat} (h : ratR x = ratR y) : x = y := by
  injection h with h
  injection h with h1 h
  injection h with h2 _
  injection h1 with h1
  injection h2 with h2
  exact Rat.ext h1 (by omega)
end Dat
/-! Everything general of the texts of k01 and k21: data, hands, loops, texts. -/
namespace Dat
open PySem L2 Evl
/-! from S1 -/
def isIntD : PyData → Bool
  | .int _ => true
  | .bool _ => true
  | _ => false
def isBoolD : PyData → Bool
  | .bool _ => true
  | _ => false
def isTupD : PyData → Bool
  | .tuple _ => true
  | _ => false
theorem kit_int (d : PyData) : kitB (kind d) "int" = some (isIntD d) := by cases d <;> rfl
theorem kit_bool (d : PyData) : kitB (kind d) "bool" = some (isBoolD d) := by cases d <;> rfl
theorem kit_tuple (d : PyData) : kitB (kind d) "tuple" = some (isTupD d) := by cases d <;> rfl
abbrev FunV (K : PySem.W.Frag) (x : Str) (st : Stmt) (dvs : List V) (f : Addr) (fd : FuncData) : Prop := FunD K x x (defArgs st) (defBody st) (defScope st) dvs [] f fd
/-- a limit: none, or a whole number -/
def Lim (d : PyData) : Prop := d = .none ∨ ∃ i, d = .int i
def above : PyData → Int → Bool
  | .int l, n => decide (l ≤ n)
  | _, _ => true
def below : PyData → Int → Bool
  | .int h, n => decide (n ≤ h)
  | _, _ => true
def wholeIn : PyData → PyData → PyData → Bool
  | .int n, lo, hi => above lo n && below hi n
  | _, _, _ => false
def fWhole (ds : List PyData) (d : PyData) : Prop := ∃ t lo hi, ds = [t, lo, hi] ∧ Lim lo ∧ Lim hi ∧ d = .bool (wholeIn t lo hi)
def leD : PyData → PyData → Bool
  | .int l, .int n => decide (l ≤ n)
  | _, _ => true
section
variable {K : PySem.W.Frag} {te tb : TE} {σ : L2.St} {H : Hp} {t lo hi : PyData}
theorem whole_int (c : (!isIntD t || isBoolD t) = false) : ∃ n, t = .int n := by
  cases t <;> first | exact ⟨_, rfl⟩ | cases c
theorem le_lo (l : Lim lo) (c0 : isNone lo = false) (c : (!isIntD t || isBoolD t) = false) (h : EvD K te σ H lo) (r : EvD K tb σ H t) : EvD K (tOp (rI0 fun i j => .bl (decide (i ≤ j))) te tb) σ H (.bool (leD lo t)) := by
  obtain ⟨n, rfl⟩ := whole_int c
  rcases l with rfl | ⟨i, rfl⟩
  · cases c0
  · exact d_le h r
theorem le_hi (l : Lim hi) (c0 : isNone hi = false) (c : (!isIntD t || isBoolD t) = false) (h : EvD K te σ H t) (r : EvD K tb σ H hi) : EvD K (tOp (rI0 fun i j => .bl (decide (i ≤ j))) te tb) σ H (.bool (leD t hi)) := by
  obtain ⟨n, rfl⟩ := whole_int c
  rcases l with rfl | ⟨i, rfl⟩
  · cases c0
  · exact d_le h r
theorem whole_no (c : (!isIntD t || isBoolD t) = true) : wholeIn t lo hi = false := by
  cases t <;> first | rfl | cases c
theorem whole_yes (l1 : Lim lo) (l2 : Lim hi) (c : (!isIntD t || isBoolD t) = false) : ((isNone lo || leD lo t) && (isNone hi || leD t hi)) = wholeIn t lo hi := by
  obtain ⟨n, rfl⟩ := whole_int c
  rcases l1 with rfl | ⟨i, rfl⟩ <;> rcases l2 with rfl | ⟨j, rfl⟩ <;> rfl
end

/-! from S1 -/
def fJoined (ds : List PyData) (d : PyData) : Prop := ∃ x y : Rat, ds = [ratR x, .int y.num, .int (y.den : Int)] ∧ Sz B x ∧ Sz B y ∧ d = ratR (x + y)
def fPlusR (ds : List PyData) (d : PyData) : Prop := ∃ x y : Rat, ds = [ratR x, ratR y] ∧ Sz B x ∧ Sz B y ∧ d = ratR (x + y)
def fTimesR (ds : List PyData) (d : PyData) : Prop := ∃ x y : Rat, ds = [ratR x, ratR y] ∧ Sz B x ∧ Sz B y ∧ d = ratR (x * y)
theorem nz {g : Nat} (h : 0 < g) : ((g : Nat) : Int) ≠ 0 := by omega
theorem fdiv_nat (a g : Nat) : PyData.int ((a : Int).fdiv (g : Int)) = .int ((a / g : Nat) : Int) := by
  rw [Int.fdiv_eq_ediv_of_nonneg _ (by omega)]
  rfl
theorem fdiv_int (a : Int) (g : Nat) : PyData.int (a.fdiv (g : Int)) = .int (a / (g : Int)) := by
  rw [Int.fdiv_eq_ediv_of_nonneg _ (by omega)]
theorem nat_of {a : Nat} (c : decide ((a : Int) = 1) = true) : a = 1 := by
  have := of_decide_eq_true c
  omega
theorem nat_ne {a : Nat} (c : decide ((a : Int) = 1) = false) : a ≠ 1 := by
  have := of_decide_eq_false c
  omega
theorem div_lt {x : Int} {g n : Nat} (h : g ∣ x.natAbs) (h' : x.natAbs < 2 ^ n) : (x / (g : Int)).natAbs < 2 ^ n := by
  rw [Int.natAbs_ediv_of_dvd (Int.ofNat_dvd_left.mpr h)]
  exact Nat.lt_of_le_of_lt (Nat.div_le_self _ _) h'
theorem den_mul (x y : Rat) : (x.den : Int) * (y.den : Int) ≠ 0 := Int.mul_ne_zero (by have := x.den_pos; omega) (by have := y.den_pos; omega)
theorem low_add (x y : Rat) : ratR (x + y) = lowest (x.num * y.den + y.num * x.den) ((x.den : Int) * y.den) := by
  rw [Rat.add_def, ← low_norm, Int.natCast_mul]
theorem low_mul (x y : Rat) : ratR (x * y) = lowest (x.num * y.num) ((x.den : Int) * y.den) := by
  rw [Rat.mul_def, ← low_norm, Int.natCast_mul]

/-! from S3 -/
structure DefV (P : Program) (w : World) (K : PySem.W.Frag) (mg : Str → Option Value) (base : Heap) (CX : CXT) (k : Nat) (x : Str) (ps : List Str) (dvs : List V) (sp : Sp) : Prop where
  ex : ∃ (f : Addr) (fd : FuncData) (ds : List Value), FnOk P w K mg base CX k f fd ps sp ∧ mg x = some (.ref f) ∧ PySem.W.keepIn K (.ref f) = true ∧ Binds K fd ps ds ∧ Vals dvs ds
section
variable {X : Cx} {CX : CXT} {k : Nat} {ps : List Str} {sp : Sp} {E : XK} {x : Str} {p pos : Pos} {e : Expr} {es : List Expr} {t : TA} {dvs : List V}
theorem pe_dcallV (D : DefV X.prog X.w X.K X.mg X.base CX k x ps dvs sp) (hr : Room k X.A) (hx : Passes CX X E) (ha : PA X (e :: es) t) (hg : Gl X x := by rfl)
    (hdb : (x == ("__debug__" : Str)) = false := by decide) (he : starEach (e :: es) X.env = (false, eval e X.env) :: starEach es X.env := by rfl) (hpl : (backTo pos (starEach es X.env)).any (·.1) = false := by rfl) :
    PE X (.Call (.Name x p) (e :: es) [] pos) (tCall sp dvs E t) := by
  obtain ⟨f, fd, ds, F, hm, hk, hb, hv⟩ := D.ex
  exact pe_call F hr hg hm hk hb hv hx ha hdb he hpl
end
/-- x, y = a tuple of two -/
theorem z_two {K : PySem.W.Frag} {te : TE} {σ : L2.St} {H : Hp} {D : Ends} {ts : TS} {i j : Nat} {a b : PyData} {n : Nat} (h : EvD K te σ H (.tuple [a, b])) (k : ∀ x y H1, Ex H H1 → Dp K H1 x a → Dp K H1 y b → ts D ((σ.set i (some x)).set j (some y)) H1) (hn : n = 2 := by rfl) : tSeq (tAsg te (gTup K n (gCons (gName i) (gCons (gName j) gNil)))) ts D σ H := h H (Ex.refl H) _ fun v H1 e hv => g_two hv hn fun x y hx hy => k x y H1 e hx hy
theorem d_callV {K : PySem.W.Frag} {ta : TA} {σ : L2.St} {H : Hp} {ds es : List PyData} {d : PyData} {n : Nat} {f : List PyData → PyData → Prop} {E : XK} {dvs : List V} (h : EvDs K ta σ H ds) (hv : ∀ H, DpAll K H dvs es) (hl : (ds ++ es).length = n) (hf : f (ds ++ es) d) : EvD K (tCall (spD K n f) dvs E ta) σ H d := fun H1 x Q k =>
  h H1 x _ fun vs H2 x2 hvs => ⟨ds ++ es, d, hl, dps_app hvs (hv H2), hf, fun v H' x' hv => k v H' (x2.trans x') hv⟩
section
variable {P : Program} {w : World} {K : PySem.W.Frag} {mg : Str → Option Value} {base : Heap} {x : Str} {st : Stmt} {dvs : List V} {f : Addr} {fd : FuncData} {k : Nat} {ps : List Str} {sp : Sp} {CX : CXT}
theorem defV (F : FunV K x st dvs f fd) (ok : FnOk P w K mg base CX k f fd ps sp) (hm : mg x = some (.ref f)) (n j : Nat) (hd : dvs ≠ []) (hn : n + (dvs.length - j) = ps.length)
    (h : ∀ (T : Addr) (kV doc pm : Value) (an : Option Addr) (cdv ct : Value) (us its : List Value), us.length = n → its.length = dvs.length →
      ∃ k, bindArgs (PySem.W.fnOf x x (defArgs st) (defBody st) (defScope st) (.ref T) kV doc pm an cdv ct) ⟨us, []⟩ = seqItems? (.ref T) >>= k ∧ k (some its.toArray) = pure (ps.zip (us ++ its.drop j))) : DefV P w K mg base CX k x ps (dvs.drop j) sp := by
  obtain ⟨ds, hv, hb⟩ := F.binds1 n j hd hn h
  exact ⟨f, fd, ds, ok, hm, F.kp, hb, hv⟩
end

/-! from S4 -/
/-! ### is it a ratio -/
def lenNe : PyData → Bool
  | .tuple ds => decide ((ds.length : Int) ≠ 2)
  | _ => false
def gcd1 : PyData → PyData → Bool
  | .int p, .int q => decide (((Nat.gcd p.natAbs q.natAbs : Nat) : Int) = 1)
  | _, _ => true
def ratB (a b : PyData) : Bool := wholeIn a .none .none && (wholeIn b (.int 1) .none && gcd1 a b)
def ratD : PyData → Bool
  | .tuple [a, b] => ratB a b
  | _ => false
def fIsRatio (ds : List PyData) (d : PyData) : Prop := ∃ t, ds = [t] ∧ d = .bool (ratD t)
section
variable {K : PySem.W.Frag} {te tb : TE} {σ : L2.St} {H : Hp} {t a b : PyData}
theorem ne_len (c0 : (!isTupD t) = false) (h : EvD K te σ H t) : EvD K (tOp rNe (tCB (fun xs H Q => ∃ p ys, xs = [.ref p] ∧ (SqL K H p ys ∨ SqT K H p ys) ∧ Q (.int ys.length) H) (tCons te tNil)) (tC (.int 2))) σ H (.bool (lenNe t)) := by
  cases t <;> first | cases c0 | skip
  exact d_neI (d_lenT h) d_int
theorem two_of (c : (!isTupD t || lenNe t) = false) : ∃ a b, t = .tuple [a, b] := by
  cases t <;> first | cases c | skip
  rename_i ds
  have c2 : decide ((ds.length : Int) ≠ 2) = false := c
  have c3 := of_decide_eq_false c2
  have c4 : ds.length = 2 := by omega
  match ds, c4 with
  | [a, b], _ => exact ⟨a, b, rfl⟩
theorem rat_no (c : (!isTupD t || lenNe t) = true) : ratD t = false := by
  cases t <;> first | rfl | skip
  rename_i ds
  have c2 : decide ((ds.length : Int) ≠ 2) = true := c
  have c3 := of_decide_eq_true c2
  match ds, c3 with
  | [], _ => rfl
  | [_], _ => rfl
  | [_, _], c3 => exact absurd rfl c3
  | _ :: _ :: _ :: _, _ => rfl
theorem int_of {lo hi : PyData} (c : wholeIn a lo hi = true) : ∃ n, a = .int n := by
  cases a <;> first | exact ⟨_, rfl⟩ | cases c
theorem eq_gcd (c0 : wholeIn a .none .none = true) (c1 : wholeIn b (.int 1) .none = true) (h : EvD K te σ H a) (r : EvD K tb σ H b) : EvD K (tOp rEq (tCB rGcd (tCons te (tCons tb tNil))) (tC (.int 1))) σ H (.bool (gcd1 a b)) := by
  obtain ⟨p, rfl⟩ := int_of c0
  obtain ⟨q, rfl⟩ := int_of c1
  exact d_eqI (d_gcd h r) d_int
end

/-! from S5 -/
section
variable {K : PySem.W.Frag} {te : TE} {σ : L2.St} {H : Hp} {D : Ends} {tb ts : TS} {j : Nat} {ds : List PyData}
/-- for x in a list: the invariant by the turn -/
theorem z_forL (h : EvD K te σ H (.list ds)) (Pv : Nat → L2.St → Hp → Prop) (h0 : ∀ H1, Ex H H1 → Pv 0 σ H1)
    (step : ∀ i d v σ' H' (D' : Ends), ds[i]? = some d → Ex H H' → Pv i σ' H' → Dp K H' v d → (∀ σ2 H2, Ex H' H2 → Pv (i + 1) σ2 H2 → D'.nx σ2 H2) → tb D' (σ'.set j (some v)) H')
    (fin : ∀ σ' H', Ex H H' → Pv ds.length σ' H' → ts D σ' H') : tSeq (tFor (iList K te) (gName j) tb) ts D σ H := h H (Ex.refl H) _ fun v H1 e hv => by
  cases hv with
  | lst hs ha =>
    rename_i a vs
    refine ⟨a, rfl, ⟨vs, hs⟩, ?_⟩
    have hl := dps_len ha
    refine for_list (fun i σ' H' => Ex H1 H' ∧ Pv i σ' H') ⟨Ex.refl H1, h0 _ e⟩ (fun i σ' H' _ p => ex_l p.1 hs) (fun i x σ' H' hx p => ?_) (fun σ' H' p => fin σ' H' (e.trans p.1) (by rw [← hl]; exact p.2))
    obtain ⟨d, hd, hxd⟩ := dps_back ha hx
    exact step i d x σ' H' _ hd (e.trans p.1) p.2 (dp_grow p.1 _ _ hxd) fun σ2 H2 e2 p2 => ⟨p.1.trans e2, p2⟩
/-- for x in a tuple -/
theorem z_forT (h : EvD K te σ H (.tuple ds)) (Pv : Nat → L2.St → Hp → Prop) (h0 : ∀ H1, Ex H H1 → Pv 0 σ H1)
    (step : ∀ i d v σ' H' (D' : Ends), ds[i]? = some d → Ex H H' → Pv i σ' H' → Dp K H' v d → (∀ σ2 H2, Ex H' H2 → Pv (i + 1) σ2 H2 → D'.nx σ2 H2) → tb D' (σ'.set j (some v)) H')
    (fin : ∀ σ' H', Ex H H' → Pv ds.length σ' H' → ts D σ' H') : tSeq (tFor (iTup K te) (gName j) tb) ts D σ H := h H (Ex.refl H) _ fun v H1 e hv => by
  cases hv with
  | tup hs ha =>
    rename_i a vs
    refine ⟨a, rfl, ⟨vs, hs⟩, ?_⟩
    have hl := dps_len ha
    refine for_tup (fun i σ' H' => Ex H1 H' ∧ Pv i σ' H') ⟨Ex.refl H1, h0 _ e⟩ (fun i σ' H' _ p => ex_t p.1 hs) (fun i x σ' H' hx p => ?_) (fun σ' H' p => fin σ' H' (e.trans p.1) (by rw [← hl]; exact p.2))
    obtain ⟨d, hd, hxd⟩ := dps_back ha hx
    exact step i d x σ' H' _ hd (e.trans p.1) p.2 (dp_grow p.1 _ _ hxd) fun σ2 H2 e2 p2 => ⟨p.1.trans e2, p2⟩
end

/-! from S6 -/
section
variable {K : PySem.W.Frag} {te tb : TE} {σ : L2.St} {H : Hp} {ta : TA} {t a b d : PyData}
theorem ev_bl {x : Bool} (h : EvD K te σ H (.bool x)) : Ev te σ H (.bl x) := fun H1 e Q q => h H1 e _ fun v H2 e2 hv => by
  cases hv
  exact q H2 e2
theorem eva_int {i : Int} (h : EvDs K ta σ H [.int i]) : EvA ta σ H [.int i] := fun H1 e Q q => h H1 e _ fun vs H2 e2 hv => by
  obtain ⟨x, ws, rfl, h1, hv⟩ := dps_cons hv
  obtain rfl := dps_nil hv
  cases h1
  exact q H2 e2
/-- all([.. for i in range(n)]) of truths -/
theorem d_allR {j n : Nat} {vs : List Nat} (f : Nat → Bool) (h : EvDs K ta σ H [.int (n : Int)]) (hn : n ≤ 40000) (hw : ∀ x, wipe ((wipe σ vs).set j (some x)) vs = wipe σ vs)
    (he : ∀ (i : Nat) H1, Ex H H1 → i < n → EvD K te ((wipe σ vs).set j (some (.int (i : Int)))) H1 (.bool (f i))) :
    EvD K (tCB (rAll K) (tCons (tLc (iRng1 ta) (gName j) tYes te vs) tNil)) σ H (.bool ((List.range n).all f)) := fun H1 e Q k => by
  show tLc (iRng1 ta) (gName j) tYes te vs σ H1 (fun v H2 => rAll K [v] H2 Q)
  exact el_lcR1 (t := tYes) (fun _ => true) (fun i => .bl (f i)) (eva_int h) ⟨by omega, by omega⟩ hw (fun i H2 _ _ H3 e3 R r => r H3 (Ex.refl H3)) (fun i H2 e2 hi _ => ev_bl (he i H2 e2 (by omega))) H1 e _ fun p H2 hp e2 hv => by
    have hg : given ((n : Int).toNat) (fun _ => true) (fun i => V.bl (f i)) = ((List.range n).map f).map V.bl := by
      unfold given
      rw [Int.toNat_natCast, List.filter_eq_self.mpr (fun _ _ => rfl), List.map_map]
      rfl
    rw [hg] at hv
    refine ⟨p, (List.range n).map f, rfl, .inl (.inl hv), ?_⟩
    have e9 : ((List.range n).map f).all id = (List.range n).all f := by
      rw [List.all_map]
      rfl
    rw [e9]
    exact k _ _ e2 (.bl _)
end

/-! from S7 -/
/-! ### the law's own comparison -/
def isStrD : PyData → Bool
  | .str _ => true
  | _ => false
theorem kit_str (d : PyData) : kitB (kind d) "str" = some (isStrD d) := by cases d <;> rfl
def lenSame : PyData → PyData → Bool
  | .tuple es, .tuple ds => decide ((es.length : Int) = ds.length)
  | _, _ => true
def allI (f : PyData → PyData → Bool) : PyData → PyData → Bool
  | .tuple es, .tuple ds => (List.range ds.length).all fun i => f (es.getD i .none) (ds.getD i .none)
  | _, _ => true
def sameN : Nat → PyData → PyData → Bool
  | 0, _, _ => false
  | n + 1, a, b => if isTupD b then (isTupD a && (lenSame a b && allI (sameN n) a b)) else if (isBoolD b || isBoolD a) then (isBoolD b && (isBoolD a && PyData.eqv a b)) else if isIntD b then (isIntD a && PyData.eqv a b) else if isStrD b then (isStrD a && PyData.eqv a b) else (isNone a && isNone b)
def depN : Nat → PyData → Prop
  | 0, _ => False
  | n + 1, .tuple ds => ds.length ≤ 1000 ∧ ∀ i, i < ds.length → depN n (ds.getD i .none)
  | _ + 1, _ => True
def fSame (n : Nat) (ds : List PyData) (d : PyData) : Prop := ∃ a b, ds = [a, b] ∧ depN n b ∧ d = .bool (sameN n a b)
theorem atI_nat {α : Type} {l : List α} {i : Nat} {x : α} (h : i < l.length) : atI l (i : Int) = some (l.getD i x) := by
  unfold atI
  have e : ixN l.length (i : Int) = some i := by
    unfold ixN
    rw [if_pos (by omega), if_pos (by omega), Int.toNat_natCast]
  rw [e]
  show l[i]? = _
  rw [List.getD_eq_getElem?_getD, List.getElem?_eq_getElem h]
  rfl
section
variable {K : PySem.W.Frag} {te tb : TE} {σ : L2.St} {H : Hp} {a b : PyData}
theorem eq_bools (c : isBoolD b = true) (c0 : isBoolD a = true) (h : EvD K te σ H a) (r : EvD K tb σ H b) : EvD K (tOp (rEqD K) te tb) σ H (.bool (PyData.eqv a b)) := by
  cases b <;> first | cases c | skip
  cases a <;> first | cases c0 | skip
  exact d_eqD h r rfl rfl
theorem eq_ints (c : isIntD b = true) (c0 : isIntD a = true) (h : EvD K te σ H a) (r : EvD K tb σ H b) : EvD K (tOp (rEqD K) te tb) σ H (.bool (PyData.eqv a b)) := by
  cases b <;> first | cases c | skip
  all_goals (cases a <;> first | exact d_eqD h r rfl rfl | cases c0)
theorem eq_strs (c : isStrD b = true) (c0 : isStrD a = true) (h : EvD K te σ H a) (r : EvD K tb σ H b) : EvD K (tOp rEq te tb) σ H (.bool (PyData.eqv a b)) := by
  cases b <;> first | cases c | skip
  cases a <;> first | cases c0 | skip
  rename_i y x
  exact fun H1 x0 Q k => h H1 x0 _ fun v H2 x2 hv => r H2 (x0.trans x2) _ fun w H3 x3 hw => by
    cases hv
    cases hw
    refine ⟨rfl, ?_⟩
    have z : decide (V.str x = V.str y) = PyData.eqv (.str x) (.str y) := by
      show _ = (x == y)
      by_cases q : x = y
      · subst q
        rw [decide_eq_true rfl, beq_self_eq_true]
      · rw [decide_eq_false (fun z => q (V.str.inj z)), beq_eq_false_iff_ne.mpr q]
    rw [z]
    exact k _ H3 (x2.trans x3) (.bl _)
theorem tup_of (c : isTupD a = true) : ∃ ds, a = .tuple ds := by
  cases a <;> first | exact ⟨_, rfl⟩ | cases c
end

/-! from S8 -/
/-- data of truths, ints, texts, None and short tuples of them, of a depth below n -/
def goodN : Nat → PyData → Bool
  | 0, _ => false
  | n + 1, .tuple ds => decide (ds.length ≤ 1000) && ds.all fun d => goodN n d
  | _ + 1, .none => true
  | _ + 1, .bool _ => true
  | _ + 1, .int _ => true
  | _ + 1, .str _ => true
  | _ + 1, _ => false
theorem getD_mem {ds : List PyData} {i : Nat} (h : i < ds.length) : ds.getD i .none ∈ ds := by
  rw [List.getD_eq_getElem?_getD, List.getElem?_eq_getElem h]
  exact List.getElem_mem h
theorem good_dep : ∀ {n : Nat} {d : PyData}, goodN n d = true → depN n d
  | 0, _, h => by cases h
  | n + 1, d, h => by
    cases d with
    | tuple ds =>
      obtain ⟨h1, h2⟩ := Bool.and_eq_true_iff.mp (show (decide (ds.length ≤ 1000) && ds.all fun d => goodN n d) = true from h)
      exact ⟨of_decide_eq_true h1, fun i hi => good_dep (List.all_eq_true.mp h2 _ (getD_mem hi))⟩
    | _ => trivial
theorem good_same : ∀ {n : Nat} {d : PyData}, goodN n d = true → sameN n d d = true
  | 0, _, h => by cases h
  | n + 1, d, h => by
    cases d with
    | tuple ds =>
      obtain ⟨h1, h2⟩ := Bool.and_eq_true_iff.mp (show (decide (ds.length ≤ 1000) && ds.all fun d => goodN n d) = true from h)
      show (true && (decide ((ds.length : Int) = ds.length) && (List.range ds.length).all fun i => sameN n (ds.getD i .none) (ds.getD i .none))) = true
      rw [decide_eq_true rfl, Bool.true_and, Bool.true_and, List.all_eq_true]
      intro i hi
      exact good_same (List.all_eq_true.mp h2 _ (getD_mem (List.mem_range.mp hi)))
    | none => rfl
    | bool b =>
      show (true && (true && (b == b))) = true
      rw [beq_self_eq_true]
      rfl
    | int i =>
      show (true && (i == i)) = true
      rw [beq_self_eq_true]
      rfl
    | str x =>
      show (true && (x == x)) = true
      rw [beq_self_eq_true]
      rfl
    | list _ => cases h
    | dict _ => cases h

/-! from S10 -/
section
variable {X : Cx} {CX : CXT} {k : Nat} {ps : List Str} {sp : Sp} {E : XK} {x : Str} {p pos : Pos} {e : Expr} {es : List Expr} {t : TA}
theorem pe_dcall0 (D : Def X.prog X.w X.K X.mg X.base CX k x ps sp) (hr : Room k X.A) (hx : Passes CX X E) (hg : Gl X x := by rfl) (hdb : (x == ("__debug__" : Str)) = false := by decide) :
    PE X (.Call (.Name x p) [] [] pos) (tCall sp [] E tNil) := by
  obtain ⟨f, fd, F, hm, hk, hb⟩ := D.ex
  exact pe_call0 F hr hg hm hk hb .nil hx hdb
end
/-- a hand at h: its cells at c (never changed), and three numbers -/
def HandOk (H : Hp) (h c : Addr) (ns : List Int) : Prop := ∃ (p r t : Int), H h = some (.lst [.ref c, .int p, .int r, .int t]) ∧ H c = some (.lst (ns.map V.int)) ∧
  ns.length ≤ 63 ∧ (∀ n ∈ ns, 0 ≤ n) ∧ 0 ≤ p ∧ p ≤ 64 ∧ 0 ≤ r ∧ 0 ≤ t ∧ t < 2147483629
def spMix : Sp := fun vs H Q _ => ∃ n k : Int, vs = [.int n, .int k] ∧ 0 ≤ n ∧ n < 2147483647 ∧ 0 ≤ k ∧ k ≤ 1000 ∧ ∀ r, Q (.int r) H
def spHand (K : PySem.W.Frag) : Sp := fun vs H Q _ => ∃ (a : Addr) (ns : List Int), vs = [.ref a] ∧ SqL K H a (ns.map V.int) ∧ ns.length ≤ 63 ∧
  ∀ H' h c ms, Same H H' → H h = none → H c = none → HandOk H' h c ms → Q (.ref h) H'
def spDraw : Sp := fun vs H Q _ => ∃ (h c : Addr) (ns : List Int) (many : Int), vs = [.ref h, .int many] ∧ 0 < many ∧ many.natAbs < 2 ^ 1000 ∧ HandOk H h c ns ∧
  ∀ r H', 0 ≤ r → r < many → HandOk H' h c ns → (∀ a, a ≠ h → H' a = H a) → Q (.int r) H'

/-! from S10 -/
theorem same_new {H : Hp} {p : Addr} {o : HO} (h : H p = none) : Same H (upd H p o) := fun b x e => by
  rw [upd_ne (ne_of_none e h)]
  exact e
theorem yes_turn {σ : L2.St} {H : Hp} {te : TE} {Q : VK} {B : Hp → Prop} (h : te σ H Q) : tYes σ H (fun b H3 => if b = true then te σ H3 Q else B H3) := by
  show (if true = true then te σ H Q else B H)
  rw [if_pos rfl]
  exact h
theorem for_enum {K : PySem.W.Frag} {a : Addr} {xs : List V} {g : TG} {tb : TS} {D : Ends} {σ : St} {H : Hp} (Pv : Nat → St → Hp → Prop) (h0 : Pv 0 σ H) (hl : ∀ i σ H, i ≤ xs.length → Pv i σ H → SqL K H a xs)
    (hs : ∀ (i : Nat) x σ H T, xs[i]? = some x → Pv i σ H → H T = none → g (.ref T) σ (upd H T (.tup [.int (i : Nat), x])) fun σ2 H2 => tb { D with nx := Pv (i + 1), ct := Pv (i + 1), bk := D.nx } σ2 H2) (hd : ∀ σ H, Pv xs.length σ H → D.nx σ H) :
    ∃ W : Nat → Nat → St → Hp → Prop, (∃ m, W 0 m σ H) ∧ ∀ i m σ H, W i m σ H →
      ((Ite K a).stop i H ∧ D.nx σ H) ∨ ((Ite K a).go i H ∧ ∃ N : St → Hp → Prop, (∀ σ' H', N σ' H' → ∃ m', m' < m ∧ W (i + 1) m' σ' H') ∧ ∀ x H', (Ite K a).yld i H x H' → g x σ H' fun σ2 H2 => tb { D with nx := N, ct := N, bk := D.nx } σ2 H2) := by
  refine ⟨fun i m σ H => m = xs.length - i ∧ i ≤ xs.length ∧ Pv i σ H, ⟨xs.length, by simp, Nat.zero_le _, h0⟩, ?_⟩
  rintro i m σ H ⟨rfl, hi, p⟩
  have q := hl i σ H hi p
  by_cases hlt : i < xs.length
  · refine .inr ⟨⟨xs, xs[i], q, by simp [hlt]⟩, Pv (i + 1), fun σ' H' p' => ⟨xs.length - (i + 1), by omega, rfl, hlt, p'⟩, fun x H' y => ?_⟩
    obtain ⟨T, x', rfl, nT, rfl, hx⟩ := y
    exact hs i x' σ H T (hx xs q) p nT
  · refine .inl ⟨⟨xs, q, by omega⟩, ?_⟩
    have e : i = xs.length := by omega
    subst e
    exact hd σ H p

/-! from S11 -/
/-! ### one of two readings: a list or a tuple -/
def tAlt (t1 t2 : TE) : TE := fun σ H Q => t1 σ H Q ∨ t2 σ H Q
def gAlt (g1 g2 : TG) : TG := fun v σ H Q => g1 v σ H Q ∨ g2 v σ H Q
def iAlt (i1 i2 : TI) : TI := fun σ H R => i1 σ H R ∨ i2 σ H R
section
variable {X : Cx} {e tg : Expr}
theorem pe_alt {t1 t2 : TE} (h1 : PE X e t1) (h2 : PE X e t2) : PE X e (tAlt t1 t2) := ⟨fun pins s σ H Q I h => h.elim (h1.run pins s σ H Q I) (h2.run pins s σ H Q I)⟩
theorem pg_alt {t1 t2 : TG} (h1 : PG X e t1) (h2 : PG X e t2) : PG X e (gAlt t1 t2) := ⟨fun pins s σ H v u Q I r h => h.elim (h1.run pins s σ H v u Q I r) (h2.run pins s σ H v u Q I r)⟩
theorem pi_alt {t1 t2 : TI} (h1 : PI X tg e t1) (h2 : PI X tg e t2) : PI X tg e (iAlt t1 t2) := ⟨fun pins s σ H R I h => h.elim (h1.run pins s σ H R I) (h2.run pins s σ H R I)⟩
end
def sq : Bool → List PyData → PyData
  | true, ds => .tuple ds
  | false, ds => .list ds
section
variable {K : PySem.W.Frag} {te tb : TE} {σ : L2.St} {H : Hp} {D : Ends} {ts ty : TS} {ds : List PyData} {b : Bool} {a c d : PyData}
theorem d_ixS {i : Int} (h : EvD K te σ H (sq b ds)) (r : EvD K tb σ H (.int i)) (e : atI ds i = some d) : EvD K (tAlt (tOp (rIxT K) te tb) (tOp (rIxL K) te tb)) σ H d := fun H1 x Q k => by
  cases b with
  | true => exact .inl (d_ixT h r e H1 x Q k)
  | false => exact .inr (d_ixL h r e H1 x Q k)
theorem g_twoS {i j n : Nat} {v : V} {Q : L2.St → Hp → Prop} (hv : Dp K H v (sq b [a, c])) (hn : n = 2) (k : ∀ x y, Dp K H x a → Dp K H y c → Q ((σ.set i (some x)).set j (some y)) H) : gAlt (gTup K n (gCons (gName i) (gCons (gName j) gNil))) (gLst K n (gCons (gName i) (gCons (gName j) gNil))) v σ H Q := by
  cases b with
  | true => exact .inl (g_two hv hn k)
  | false =>
    refine .inr ?_
    cases hv with
    | lst hs ha =>
      cases ha with
      | cons h1 t1 =>
        cases t1 with
        | cons h2 t2 =>
          cases t2
          exact ⟨_, _, rfl, hs, hn.symm, _, _, rfl, _, _, rfl, rfl, k _ _ h1 h2⟩
/-- x, y = a list or tuple of two -/
theorem z_twoS {i j n : Nat} (h : EvD K te σ H (sq b [a, c])) (k : ∀ x y H1, Ex H H1 → Dp K H1 x a → Dp K H1 y c → ts D ((σ.set i (some x)).set j (some y)) H1) (hn : n = 2 := by rfl) :
    tSeq (tAsg te (gAlt (gTup K n (gCons (gName i) (gCons (gName j) gNil))) (gLst K n (gCons (gName i) (gCons (gName j) gNil))))) ts D σ H := h H (Ex.refl H) _ fun v H1 e hv => g_twoS hv hn fun x y hx hy => k x y H1 e hx hy
/-- for .. in a list or a tuple -/
theorem z_forS {tg : TG} (h : EvD K te σ H (sq b ds)) (Pv : Nat → L2.St → Hp → Prop) (h0 : ∀ H1, Ex H H1 → Pv 0 σ H1)
    (step : ∀ i d v σ' H' (D' : Ends), ds[i]? = some d → Ex H H' → Pv i σ' H' → Dp K H' v d → D'.rt = D.rt → (∀ σ2 H2, Ex H' H2 → Pv (i + 1) σ2 H2 → D'.nx σ2 H2) → tg v σ' H' fun σ2 H2 => ty D' σ2 H2)
    (fin : ∀ σ' H', Ex H H' → Pv ds.length σ' H' → ts D σ' H') : tSeq (tFor (iAlt (iList K te) (iTup K te)) tg ty) ts D σ H := by
  cases b with
  | false =>
    refine .inl (h H (Ex.refl H) _ fun v H1 e hv => ?_)
    cases hv with
    | lst hs ha =>
      rename_i a vs
      refine ⟨a, rfl, ⟨vs, hs⟩, ?_⟩
      have hl := dps_len ha
      refine for_list (fun i σ' H' => Ex H1 H' ∧ Pv i σ' H') ⟨Ex.refl H1, h0 _ e⟩ (fun i σ' H' _ p => ex_l p.1 hs) (fun i x σ' H' hx p => ?_) (fun σ' H' p => fin σ' H' (e.trans p.1) (by rw [← hl]; exact p.2))
      obtain ⟨d, hd, hxd⟩ := dps_back ha hx
      exact step i d x σ' H' _ hd (e.trans p.1) p.2 (dp_grow p.1 _ _ hxd) rfl fun σ2 H2 e2 p2 => ⟨p.1.trans e2, p2⟩
  | true =>
    refine .inr (h H (Ex.refl H) _ fun v H1 e hv => ?_)
    cases hv with
    | tup hs ha =>
      rename_i a vs
      refine ⟨a, rfl, ⟨vs, hs⟩, ?_⟩
      have hl := dps_len ha
      refine for_tup (fun i σ' H' => Ex H1 H' ∧ Pv i σ' H') ⟨Ex.refl H1, h0 _ e⟩ (fun i σ' H' _ p => ex_t p.1 hs) (fun i x σ' H' hx p => ?_) (fun σ' H' p => fin σ' H' (e.trans p.1) (by rw [← hl]; exact p.2))
      obtain ⟨d, hd, hxd⟩ := dps_back ha hx
      exact step i d x σ' H' _ hd (e.trans p.1) p.2 (dp_grow p.1 _ _ hxd) rfl fun σ2 H2 e2 p2 => ⟨p.1.trans e2, p2⟩
end
theorem take_next {α : Type} {l : List α} {i : Nat} {a : α} (h : l[i]? = some a) : l.take (i + 1) = l.take i ++ [a] := by
  rw [List.take_add_one, h]
  rfl

/-! from S11 -/
/-! ### what stands but for one object that changes -/
def rem (H : Hp) (L : Addr) : Hp := fun a => if a = L then none else H a
section
variable {K : PySem.W.Frag} {H H2 : Hp} {L : Addr} {o : HO}
theorem rem_ne {a : Addr} (h : a ≠ L) : rem H L a = H a := if_neg h
theorem rem_self : rem H L L = none := if_pos rfl
theorem rem_ex : Ex (rem H L) H := fun a u e => by
  by_cases q : a = L
  · subst q
    rw [rem_self] at e
    cases e
  · rw [rem_ne q] at e
    exact e
theorem ex_rem (h : Ex H H2) : Ex (rem H L) (rem H2 L) := fun a u e => by
  by_cases q : a = L
  · subst q
    rw [rem_self] at e
    cases e
  · rw [rem_ne q] at e ⊢
    exact h a u e
theorem rem_upd : rem (upd H L o) L = rem H L := funext fun a => by
  by_cases q : a = L
  · subst q
    rw [rem_self, rem_self]
  · rw [rem_ne q, rem_ne q, upd_ne q]
theorem rem_new (h : H L = none) : rem (upd H L o) L = H := funext fun a => by
  by_cases q : a = L
  · subst q
    rw [rem_self, h]
  · rw [rem_ne q, upd_ne q]
mutual
def flat : PyData → Bool
  | .list _ => false
  | .dict _ => false
  | .tuple ds => flats ds
  | _ => true
def flats : List PyData → Bool
  | [] => true
  | d :: ds => flat d && flats ds
end
def NoTup (o : HO) : Prop := ∀ xs : List V, (o ≠ .tup xs) ∧ (∀ u, o ≠ .frz u (.tup xs))
theorem noTup_l {xs : List V} : NoTup (.lst xs) := fun _ => ⟨(fun e => by cases e), (fun _ e => by cases e)⟩
theorem noTup_d {kvs : List (Key × V)} : NoTup (.dK kvs) := fun _ => ⟨(fun e => by cases e), (fun _ e => by cases e)⟩
theorem st_rem {a : Addr} {xs : List V} (hL : H L = some o) (ho : NoTup o) (h : SqT K H a xs) : SqT K (rem H L) a xs := by
  rcases h with h | h
  · have ne : a ≠ L := fun q => by
      subst q
      rcases h with h | ⟨u, h⟩
      · rw [hL] at h
        exact (ho xs).1 (Option.some.inj h)
      · rw [hL] at h
        exact (ho xs).2 u (Option.some.inj h)
    refine .inl ?_
    rcases h with h | ⟨u, h⟩
    · exact .inl (by rw [rem_ne ne]; exact h)
    · exact .inr ⟨u, by rw [rem_ne ne]; exact h⟩
  · exact .inr h
mutual
theorem dp_rem (hL : H L = some o) (ho : NoTup o) : ∀ (d : PyData) (v : V), flat d = true → Dp K H v d → Dp K (rem H L) v d
  | .none, _, _, h => by
    cases h
    exact .non
  | .bool b, _, _, h => by
    cases h
    exact .bl b
  | .int i, _, _, h => by
    cases h
    exact .int i
  | .str x, _, _, h => by
    cases h
    exact .str x
  | .list ds, _, f, _ => by cases f
  | .tuple ds, _, f, h => by
    cases h with
    | tup hs ha => exact .tup (st_rem hL ho hs) (dps_rem hL ho ds _ f ha)
  | .dict _, _, f, _ => by cases f
theorem dps_rem (hL : H L = some o) (ho : NoTup o) : ∀ (ds : List PyData) (vs : List V), flats ds = true → DpAll K H vs ds → DpAll K (rem H L) vs ds
  | [], _, _, h => by
    cases h
    exact .nil
  | d :: ds, _, f, h => by
    have f' := Bool.and_eq_true_iff.mp f
    cases h with
    | cons h1 h2 => exact .cons (dp_rem hL ho d _ f'.1 h1) (dps_rem hL ho ds _ f'.2 h2)
end
end
section
variable {K : PySem.W.Frag} {te tb : TE} {ta : TA} {σ : L2.St} {H Hb : Hp} {D : Ends} {ts ty : TS} {ds : List PyData} {b : Bool} {a c d : PyData}
/-- for .. in a list or a tuple that stands in a heap Hb, whatever else changes -/
theorem z_forB {tg : TG} {v : V} (hv : Dp K Hb v (sq b ds)) (h : Ev te σ H v) (Pv : Nat → L2.St → Hp → Prop) (h0 : ∀ H1, Ex H H1 → Pv 0 σ H1) (hb : ∀ i σ' H', Pv i σ' H' → Ex Hb H')
    (step : ∀ i d x σ' H' (D' : Ends), ds[i]? = some d → Pv i σ' H' → Dp K Hb x d → D'.rt = D.rt → (∀ σ2 H2, Pv (i + 1) σ2 H2 → D'.nx σ2 H2) → tg x σ' H' fun σ2 H2 => ty D' σ2 H2)
    (fin : ∀ σ' H', Pv ds.length σ' H' → ts D σ' H') : tSeq (tFor (iAlt (iList K te) (iTup K te)) tg ty) ts D σ H := by
  cases b with
  | false =>
    refine .inl (h H (Ex.refl H) _ fun H1 e => ?_)
    cases hv with
    | lst hs ha =>
      rename_i a vs
      refine ⟨a, rfl, ⟨vs, ex_l (hb _ _ _ (h0 _ e)) hs⟩, ?_⟩
      have hl := dps_len ha
      refine for_list Pv (h0 _ e) (fun i σ' H' _ p => ex_l (hb _ _ _ p) hs) (fun i x σ' H' hx p => ?_) (fun σ' H' p => fin σ' H' (by rw [← hl]; exact p))
      obtain ⟨d, hd, hxd⟩ := dps_back ha hx
      exact step i d x σ' H' _ hd p hxd rfl fun σ2 H2 p2 => p2
  | true =>
    refine .inr (h H (Ex.refl H) _ fun H1 e => ?_)
    cases hv with
    | tup hs ha =>
      rename_i a vs
      refine ⟨a, rfl, ⟨vs, ex_t (hb _ _ _ (h0 _ e)) hs⟩, ?_⟩
      have hl := dps_len ha
      refine for_tup Pv (h0 _ e) (fun i σ' H' _ p => ex_t (hb _ _ _ p) hs) (fun i x σ' H' hx p => ?_) (fun σ' H' p => fin σ' H' (by rw [← hl]; exact p))
      obtain ⟨d, hd, hxd⟩ := dps_back ha hx
      exact step i d x σ' H' _ hd p hxd rfl fun σ2 H2 p2 => p2
/-- the item of a list or tuple, as it stands -/
theorem ev_ixS {i : Int} {v : V} (hx : Ex Hb H) (h : Ev te σ H v) (hv : Dp K Hb v (sq b ds)) (e : atI ds i = some d) : ∃ z, Dp K Hb z d ∧ Ev (tAlt (tOp (rIxT K) te (tC (.int i))) (tOp (rIxL K) te (tC (.int i)))) σ H z := by
  cases b with
  | true =>
    cases hv with
    | tup hs ha =>
      obtain ⟨z, hz, hd⟩ := dps_at ha e
      exact ⟨z, hd, fun H1 x Q k => .inl (h H1 x _ fun H2 x2 => ⟨_, _, i, z, rfl, rfl, ex_t (hx.trans (x.trans x2)) hs, hz, k _ x2⟩)⟩
  | false =>
    cases hv with
    | lst hs ha =>
      obtain ⟨z, hz, hd⟩ := dps_at ha e
      exact ⟨z, hd, fun H1 x Q k => .inr (h H1 x _ fun H2 x2 => ⟨_, _, i, z, rfl, rfl, ex_l (hx.trans (x.trans x2)) hs, hz, k _ x2⟩)⟩
theorem d_lenS (h : EvD K te σ H (sq b ds)) : EvD K (tCB (fun xs H Q => ∃ p ys, xs = [.ref p] ∧ (SqL K H p ys ∨ SqT K H p ys) ∧ Q (.int ys.length) H) (tCons te tNil)) σ H (.int ds.length) := by
  cases b with
  | true => exact d_lenT h
  | false => exact d_lenL h
theorem d_tupL (h : EvD K te σ H (.list ds)) : EvD K (tCB (fun xs H Q => ∃ p ys, xs = [.ref p] ∧ ((SqL K H p ys ∧ ∀ l, H l = none → Q (.ref l) (upd H l (.tup ys))) ∨ (SqT K H p ys ∧ Q (.ref p) H))) (tCons te tNil)) σ H (.tuple ds) := fun H1 x Q k =>
  h H1 x _ fun v H2 x2 hv => by
    cases hv with
    | lst hs ha => exact ⟨_, _, rfl, .inl ⟨hs, fun l hl => k _ _ (x2.trans (Ex.new hl)) (.tup (st_of upd_same) (dps_grow (Ex.new hl) _ _ ha))⟩⟩
end
def isListD : PyData → Bool
  | .list _ => true
  | _ => false
def isSeqD (d : PyData) : Bool := isListD d || isTupD d
theorem kit_list (d : PyData) : kitB (kind d) "list" = some (isListD d) := by cases d <;> rfl
def items : PyData → List PyData
  | .list ds => ds
  | .tuple ds => ds
  | _ => []
def coupleD (d : PyData) : Bool := isSeqD d && decide (((items d).length : Int) = 2)
theorem seq_of {t : PyData} (c : isSeqD t = true) : ∃ b, t = sq b (items t) := by
  cases t
  all_goals first | exact ⟨true, rfl⟩ | exact ⟨false, rfl⟩ | cases c
theorem items_sq (b : Bool) (ds : List PyData) : items (sq b ds) = ds := by cases b <;> rfl
theorem couple_of {t : PyData} (c : coupleD t = true) : ∃ b x y, t = sq b [x, y] := by
  obtain ⟨c1, c2⟩ := Bool.and_eq_true_iff.mp c
  obtain ⟨b, hb⟩ := seq_of c1
  have c3 := of_decide_eq_true c2
  generalize items t = ds at hb c3
  have c4 : ds.length = 2 := by omega
  match ds, c4 with
  | [x, y], _ => exact ⟨b, x, y, hb⟩
def fSeq (ds : List PyData) (d : PyData) : Prop := ∃ t, ds = [t, .int 0, .none] ∧ d = .bool (isSeqD t)
def fCouple (ds : List PyData) (d : PyData) : Prop := ∃ t, ds = [t] ∧ d = .bool (coupleD t)
def fSettled (ds : List PyData) (d : PyData) : Prop := ∃ t kp, ds = [t, kp] ∧ SeqAt.shaped t = true ∧ SeqAt.shaped kp = true ∧ d = if PyData.eqv t kp = true then t else kp

/-! from S11 -/
section
variable {K : PySem.W.Frag} {te : TE} {σ : L2.St} {H : Hp} {D : Ends} {ts : TS} {d : PyData}
/-- xs.append(e) on the list at L -/
theorem z_append {L : Addr} {vs : List V} {i : Nat} (hσ : σ[i]? = some (some (.ref L))) (hL : H L = some (.lst vs)) (hl : vs.length ≤ 1000) (h : EvD K te σ H d) (k : ∀ v H2, Ex H H2 → Dp K H2 v d → ts D σ (upd H2 L (.lst (vs ++ [v])))) :
    tSeq (tDrop (tBM K "list" rAppend (tVar i) (tCons te tNil))) ts D σ H :=
  ⟨_, hσ, .inl ⟨rfl, _, SqL.of hL⟩, h H (Ex.refl H) _ fun v H2 e hv => ⟨L, vs, v, rfl, rfl, e _ _ hL, sz_lt (by omega), k v H2 e hv⟩⟩
theorem z_append1 {L : Addr} {vs : List V} {i : Nat} (hσ : σ[i]? = some (some (.ref L))) (hL : H L = some (.lst vs)) (hl : vs.length ≤ 1000) (h : EvD K te σ H d) (k : ∀ v H2, Ex H H2 → Dp K H2 v d → D.nx σ (upd H2 L (.lst (vs ++ [v])))) :
    tDrop (tBM K "list" rAppend (tVar i) (tCons te tNil)) D σ H :=
  ⟨_, hσ, .inl ⟨rfl, _, SqL.of hL⟩, h H (Ex.refl H) _ fun v H2 e hv => ⟨L, vs, v, rfl, rfl, e _ _ hL, sz_lt (by omega), k v H2 e hv⟩⟩
theorem drop_cons {α : Type} {l : List α} {i : Nat} {a : α} (h : l[i]? = some a) : l.drop i = a :: l.drop (i + 1) := by
  obtain ⟨hi, rfl⟩ := List.getElem?_eq_some_iff.mp h
  exact List.drop_eq_getElem_cons hi
/-- x = [] -/
theorem z_nil {i : Nat} (k : ∀ L, H L = none → ts D (σ.set i (some (.ref L))) (upd H L (.lst []))) : tSeq (tAsg (tLst tNil) (gName i)) ts D σ H := ⟨sz_of (by show 0 ≤ 100000; decide), fun L hL => k L hL⟩
end

/-! from S11 -/
section
variable {X : Cx} {CX : CXT} {k : Nat} {f : Addr} {sp : Sp} {E : XK} {x : Str} {e : Expr} {es : List Expr} {t : TA} {p pos : Pos}
/-- f(e, ..) of a def known by FnR -/
theorem pe_callF (F : FnR X.prog X.w X.K X.mg X.base CX k f sp) (hr : Room k X.A) (hk : PySem.W.keepIn X.K (.ref f) = true) (hm : X.mg x = some (.ref f)) (hx : Passes CX X E) (ha : PA X (e :: es) t) (hg : Gl X x := by rfl)
    (hdb : (x == ("__debug__" : Str)) = false := by decide) (he : starEach (e :: es) X.env = (false, eval e X.env) :: starEach es X.env := by rfl) (hpl : (backTo pos (starEach es X.env)).any (·.1) = false := by rfl) :
    PE X (.Call (.Name x p) (e :: es) [] pos) (tCall sp [] E t) := by
  refine ⟨fun pins s σ H Q I h => ?_⟩
  refine wpAny_Call_Name_kw (ld_glob I hg hm ?_ hdb)
  refine PySem.W.callWith_K (h₀ := X.base) I.ok.mod.kin hk (thn (ha.run pos pins s σ H _ I h) fun us s1 ⟨vs, H1, I1, r, q⟩ => ⟨I1.kIn, ?_⟩) he hpl
  have q : sp (vs ++ []) H1 Q E := q
  rw [List.append_nil] at q
  exact wpAny_call (run_fnR F hr hx I1 r q)
end
section
variable {K : PySem.W.Frag} {te tb ty tx : TE} {tt : TT} {ta : TA} {σ : L2.St} {H Hb : Hp} {D : Ends} {ts : TS} {ds : List PyData} {b : Bool} {a c d z : PyData}
/-- d.get(k, x) -/
theorem d_dget2 {T : Addr} {kvs : List (Key × V)} {i : Nat} {k : Int} (hσ : σ[i]? = some (some (.ref T))) (hT : H T = some (.dK kvs)) (hy : EvD K ty σ H (.int k)) (hz : EvD K tx σ H z) (h1 : ∀ v, valV kvs (Sum.inl k) = some v → Dp K H v d) (h2 : valV kvs (Sum.inl k) = none → z = d) :
    EvD K (tDGet2 (tVar i) ty tx) σ H d := fun H1 x Q q => ⟨_, hσ, T, rfl, .inl ⟨kvs, .inl (x _ _ hT)⟩, hy H1 x _ fun v H2 x2 hv => hz H2 (x.trans x2) _ fun w H3 x3 hw => by
  cases hv
  have e := DGet.k (k := Sum.inl k) ((x.trans (x2.trans x3)) _ _ hT)
  refine ⟨_, e, ?_⟩
  cases o : valV kvs (Sum.inl k) with
  | some v => exact q _ _ (x2.trans x3) (dp_grow (x.trans (x2.trans x3)) _ _ (h1 v o))
  | none =>
    have := h2 o
    subst this
    exact q _ _ (x2.trans x3) hw⟩
/-- d[k] -/
theorem d_dget {T : Addr} {kvs : List (Key × V)} {i : Nat} {k : Int} {v : V} (hσ : σ[i]? = some (some (.ref T))) (hT : H T = some (.dK kvs)) (hy : EvD K ty σ H (.int k)) (h1 : valV kvs (Sum.inl k) = some v) (h2 : Dp K H v d) :
    EvD K (tDGet (tVar i) ty) σ H d := fun H1 x Q q => ⟨_, hσ, hy H1 x _ fun u H2 x2 hv => by
  cases hv
  have e := DGet.k (k := Sum.inl k) ((x.trans x2) _ _ hT)
  rw [h1] at e
  exact ⟨T, v, rfl, e, q _ _ x2 (dp_grow (x.trans x2) _ _ h2)⟩⟩
/-- d[k] = e, the last one of a block -/
theorem z_dput1 {T : Addr} {kvs : List (Key × V)} {i : Nat} {k : Int} (hσ : σ[i]? = some (some (.ref T))) (hT : H T = some (.dK kvs)) (hl : kvs.length ≤ 1000) (hv : EvD K te σ H d) (hy : ∀ H1, Ex H H1 → Ev ty σ H1 (.int k)) (q : ∀ v H2 H3, Ex H H2 → Dp K H2 v d → Ex H2 H3 → D.nx σ (upd H3 T (.dK (putK kvs (Sum.inl k) v)))) :
    sDPut (tVar i) ty te D σ H := hv H (Ex.refl H) _ fun v H2 x2 h => ⟨_, hσ, hy _ x2 H2 (Ex.refl H2) _ fun H3 x3 => ⟨T, _, rfl, DPut.k (k := Sum.inl k) ((x2.trans x3) _ _ hT) (sz_lt (by omega)), q v H2 H3 x2 h x3⟩⟩
theorem flat_map {l : List PyData} {g : PyData → PyData} (h : ∀ d ∈ l, flat (g d) = true) : flats (l.map g) = true := by
  induction l with
  | nil => rfl
  | cons d l ih =>
    show (flat (g d) && flats (l.map g)) = true
    rw [h d List.mem_cons_self, ih fun d hd => h d (List.mem_cons_of_mem _ hd)]
    rfl
theorem take_filter {α β : Type} {l : List α} {i : Nat} {a : α} {p : α → Bool} {g : α → β} (h : l[i]? = some a) : ((l.take (i + 1)).filter p).map g = ((l.take i).filter p).map g ++ if p a = true then [g a] else [] := by
  rw [take_next h, List.filter_append, List.map_append]
  congr 1
  by_cases q : p a = true
  · rw [if_pos q, List.filter_cons_of_pos q]
    rfl
  · rw [if_neg q, List.filter_cons_of_neg q]
    rfl
/-- [e for x in xs if t] over data, its items without lists -/
theorem d_lcL {j : Nat} {vs : List Nat} (p : PyData → Bool) (g : PyData → PyData) (h : EvD K tx σ H (.list ds)) (hn : ds.length ≤ 40000) (hw : ∀ x, wipe ((wipe σ vs).set j (some x)) vs = wipe σ vs)
    (hp : ∀ d v H1, Ex H H1 → d ∈ ds → Dp K H1 v d → EvB tt ((wipe σ vs).set j (some v)) H1 (p d)) (he : ∀ d v H1, Ex H H1 → d ∈ ds → p d = true → Dp K H1 v d → EvD K te ((wipe σ vs).set j (some v)) H1 (g d)) (hf : ∀ d ∈ ds, flat (g d) = true) :
    EvD K (tLc (iList K tx) (gName j) tt te vs) σ H (.list ((ds.filter p).map g)) := fun H1 e Q k => by
  refine h H1 e _ fun v H2 e2 hv => ?_
  cases hv with
  | lst hs ha =>
    rename_i a xs
    have hl := dps_len ha
    refine ⟨a, rfl, ⟨xs, hs⟩, fun D hD => ?_⟩
    refine lc_list (K := K) (xs := xs) (fun i H' => ∃ acc, H' D = some (.lst acc) ∧ acc.length ≤ i ∧ Ex H2 (rem H' D) ∧ DpAll K (rem H' D) acc (((ds.take i).filter p).map g)) ⟨[], upd_same, Nat.le_refl _, by rw [rem_new hD]; exact Ex.refl H2, .nil⟩ (fun i H' _ ⟨_, _, _, ex, _⟩ => ex_l (ex.trans rem_ex) hs) ?_ ?_
    · rintro i x H' hx ⟨acc, hacc, hlen, ex, hall⟩
      obtain ⟨d, hd, hxd⟩ := dps_back ha hx
      have hm := List.mem_of_getElem? hd
      have ex0 : Ex H H' := e.trans (e2.trans (ex.trans rem_ex))
      have hi : i < ds.length := (List.getElem?_eq_some_iff.mp hd).1
      have hx' := dp_grow (ex.trans rem_ex) _ _ hxd
      refine ⟨hw x, hp d x H' ex0 hm hx' H' (Ex.refl H') _ fun H3 e3 => ?_⟩
      cases c : p d with
      | true =>
        refine (if_pos rfl : _ = _) ▸ he d x H3 (ex0.trans e3) hm c (dp_grow e3 _ _ hx') H3 (Ex.refl H3) _ fun y H4 e4 hy => ?_
        have e34 := e3.trans e4
        refine ⟨acc, e34 _ _ hacc, sz_lt (by omega), acc ++ [y], upd_same, by rw [List.length_append]; exact Nat.succ_le_succ hlen, ?_, ?_⟩
        · rw [rem_upd]
          exact ex.trans (ex_rem e34)
        · rw [rem_upd, take_filter hd, if_pos c]
          exact dps_app (dps_grow (ex_rem e34) _ _ hall) (.cons (dp_rem (e34 _ _ hacc) noTup_l _ _ (hf d hm) hy) .nil)
      | false =>
        refine (if_neg Bool.false_ne_true : _ = _) ▸ ⟨acc, e3 _ _ hacc, by omega, ex.trans (ex_rem e3), ?_⟩
        rw [take_filter hd, if_neg (by rw [c]; decide), List.append_nil]
        exact dps_grow (ex_rem e3) _ _ hall
    · rintro H3 ⟨acc, hacc, _, ex, hall⟩
      rw [hl, List.take_length] at hall
      exact k _ _ (e2.trans (ex.trans rem_ex)) (.lst (SqL.of hacc) (dps_grow rem_ex _ _ hall))
/-- sorted(d) of a dict of ints -/
theorem d_sortedD {T : Addr} {kvs : List (Key × V)} {i : Nat} {ks : List Int} (hσ : σ[i]? = some (some (.ref T))) (hT : H T = some (.dK kvs)) (hk : kvs.map (·.1) = ks.map Sum.inl) (hl : ks.length < 64) :
    EvD K (tCB (fun xs H Q => ∃ (a : Addr) (kvs : List (Key × V)) (ks : List Int), xs = [.ref a] ∧ Rd H a (.dK kvs) ∧ kvs.map (·.1) = ks.map Sum.inl ∧ ks.length < 64 ∧
    ∀ (ys : List Int) (p : Addr), ys.Perm ks → ys.Pairwise (· ≤ ·) → H p = none → Q (.ref p) (upd H p (.lst (ys.map V.int)))) (tCons (tVar i) tNil)) σ H (.list ((PySem.W.sortI ks).map PyData.int)) := fun H1 x Q q =>
  ⟨_, hσ, T, kvs, ks, rfl, .inl (x _ _ hT), hk, hl, fun ys p hp hs hn => q _ _ (Ex.new hn) (.lst (SqL.of upd_same) (by
    rw [PySem.W.eq_sortI hp hs]
    generalize PySem.W.sortI ks = zs
    generalize upd H1 p _ = H2
    induction zs with
    | nil => exact .nil
    | cons y ys ih => exact .cons (.int y) ih))⟩
end

/-! from S11 -/
section
variable {K : PySem.W.Frag} {te tb ty tx : TE} {tt : TT} {ta : TA} {σ : L2.St} {H Hb : Hp} {D : Ends} {ts : TS} {ds : List PyData} {b : Bool} {d : PyData}
/-- a new list that holds data, known apart from what stands elsewhere -/
def EvN (K : PySem.W.Frag) (te : TE) (σ : L2.St) (H : Hp) (ds : List PyData) : Prop := ∀ H1, Ex H H1 → ∀ Q : VK, (∀ p xs H2, H1 p = none → Ex H1 (rem H2 p) → H2 p = some (.lst xs) → DpAll K (rem H2 p) xs ds → Q (.ref p) H2) → te σ H1 Q
theorem evn_d (h : EvN K te σ H ds) : EvD K te σ H (.list ds) := fun H1 e Q k => h H1 e Q fun p xs H2 hp e2 hx ha => k _ _ (e2.trans rem_ex) (.lst (SqL.of hx) (dps_grow rem_ex _ _ ha))
theorem z_new {i : Nat} (h : EvN K te σ H ds) (k : ∀ p xs H2, H p = none → Ex H (rem H2 p) → H2 p = some (.lst xs) → DpAll K (rem H2 p) xs ds → ts D (σ.set i (some (.ref p))) H2) : tSeq (tAsg te (gName i)) ts D σ H := h H (Ex.refl H) _ k
/-- [e for i in range(n) if t] over data, its items without lists -/
theorem n_lcR {j n : Nat} {vs : List Nat} (p : Nat → Bool) (g : Nat → PyData) (h : EvDs K ta σ H [.int (n : Int)]) (hn : n ≤ 40000) (hw : ∀ x, wipe ((wipe σ vs).set j (some x)) vs = wipe σ vs)
    (hp : ∀ i H1, Ex H H1 → i < n → EvB tt ((wipe σ vs).set j (some (.int (i : Int)))) H1 (p i)) (he : ∀ i H1, Ex H H1 → i < n → p i = true → EvD K te ((wipe σ vs).set j (some (.int (i : Int)))) H1 (g i)) (hf : ∀ i, flat (g i) = true) :
    EvN K (tLc (iRng1 ta) (gName j) tt te vs) σ H (((List.range n).filter p).map g) := fun H1 e Q k => by
  refine h H1 e _ fun ws H2 e2 hv => ?_
  obtain ⟨x, ws, rfl, hx, hv⟩ := dps_cons hv
  obtain rfl := dps_nil hv
  cases hx
  refine ⟨(n : Int), rfl, by omega, by omega, fun D hD => ?_⟩
  refine lc_range (lo := 0) (n := (n : Int).toNat) (fun i H' => ∃ acc, H' D = some (.lst acc) ∧ acc.length ≤ i ∧ Ex H2 (rem H' D) ∧ DpAll K (rem H' D) acc (((List.range i).filter p).map g)) ⟨[], upd_same, Nat.le_refl _, by rw [rem_new hD]; exact Ex.refl H2, .nil⟩ ?_ ?_
  · rintro i H' hi ⟨acc, hacc, hlen, ex, hall⟩
    have hi : i < n := by omega
    have ex0 : Ex H H' := e.trans (e2.trans (ex.trans rem_ex))
    have z0 : (0 : Int) + (i : Int) = (i : Int) := Int.zero_add _
    rw [z0]
    refine ⟨hw _, hp i H' ex0 hi H' (Ex.refl H') _ fun H3 e3 => ?_⟩
    have ef : ((List.range (i + 1)).filter p).map g = ((List.range i).filter p).map g ++ if p i = true then [g i] else [] := by
      rw [List.range_succ, List.filter_append, List.map_append]
      congr 1
      by_cases q : p i = true
      · rw [if_pos q, List.filter_cons_of_pos q]
        rfl
      · rw [if_neg q, List.filter_cons_of_neg q]
        rfl
    cases c : p i with
    | true =>
      refine (if_pos rfl : _ = _) ▸ he i H3 (ex0.trans e3) hi c H3 (Ex.refl H3) _ fun y H4 e4 hy => ?_
      have e34 := e3.trans e4
      refine ⟨acc, e34 _ _ hacc, sz_lt (by omega), acc ++ [y], upd_same, by rw [List.length_append]; exact Nat.succ_le_succ hlen, ?_, ?_⟩
      · rw [rem_upd]
        exact ex.trans (ex_rem e34)
      · rw [rem_upd, ef, if_pos c]
        exact dps_app (dps_grow (ex_rem e34) _ _ hall) (.cons (dp_rem (e34 _ _ hacc) noTup_l _ _ (hf i) hy) .nil)
    | false =>
      refine (if_neg Bool.false_ne_true : _ = _) ▸ ⟨acc, e3 _ _ hacc, by omega, ex.trans (ex_rem e3), ?_⟩
      rw [ef, if_neg (by rw [c]; decide), List.append_nil]
      exact dps_grow (ex_rem e3) _ _ hall
  · rintro H3 ⟨acc, hacc, _, ex, hall⟩
    have en : (n : Int).toNat = n := Int.toNat_natCast n
    rw [en] at hall
    exact k D acc H3 (fresh_back e2 hD) (e2.trans ex) hacc hall
theorem dps_set {H : Hp} {d : PyData} {v : V} : ∀ {vs : List V} {ds : List PyData} {j : Nat}, DpAll K H vs ds → Dp K H v d → DpAll K H (vs.set j v) (ds.set j d)
  | _, _, _, .nil, _ => .nil
  | _, _, 0, .cons _ t, h => .cons h t
  | _, _, j + 1, .cons x t, h => .cons x (dps_set (j := j) t h)
/-- xs[i] = e, the last one of a block -/
theorem z_lput1 {S : Addr} {vs : List V} {i j : Nat} (hσ : σ[i]? = some (some (.ref S))) (hS : H S = some (.lst vs)) (hj : j < vs.length) (hv : EvD K te σ H d) (hy : ∀ H1, Ex H H1 → Ev ty σ H1 (.int (j : Int))) (q : ∀ v H2 H3, Ex H H2 → Dp K H2 v d → Ex H2 H3 → D.nx σ (upd H3 S (.lst (vs.set j v)))) :
    tAsg te (gSub (tVar i) ty rSetL) D σ H := hv H (Ex.refl H) _ fun v H2 x2 h => ⟨_, hσ, hy _ x2 H2 (Ex.refl H2) _ fun H3 x3 => ⟨S, vs, (j : Int), j, rfl, rfl, (x2.trans x3) _ _ hS, by
  unfold ixN
  rw [if_pos (by omega), if_pos (by omega), Int.toNat_natCast], q v H2 H3 x2 h x3⟩⟩
end
theorem hand_grow {H H' : Hp} {h c : Addr} {ns : List Int} (e : Ex H H') (hh : HandOk H h c ns) : HandOk H' h c ns := by
  obtain ⟨x, y, z, h1, h2, r⟩ := hh
  exact ⟨x, y, z, e _ _ h1, e _ _ h2, r⟩

/-! from S11 -/
/-! ### plain lists: such as may stand beside + -/
def EvW (K : PySem.W.Frag) (te : TE) (σ : L2.St) (H : Hp) (ds : List PyData) : Prop := ∀ H1, Ex H H1 → ∀ Q : VK, (∀ p xs H2, Ex H1 H2 → H2 p = some (.lst xs) → DpAll K H2 xs ds → Q (.ref p) H2) → te σ H1 Q
section
variable {K : PySem.W.Frag} {te tb : TE} {t : TT} {ta : TA} {σ : L2.St} {H : Hp} {D : Ends} {ts : TS} {ds es : List PyData}
theorem w_d (h : EvW K te σ H ds) : EvD K te σ H (.list ds) := fun H1 e Q k => h H1 e Q fun p xs H2 e2 hx ha => k _ _ e2 (.lst (SqL.of hx) ha)
theorem w_lst (h : EvDs K ta σ H ds) (hl : ds.length ≤ 1000) : EvW K (tLst ta) σ H ds := fun H1 x Q k =>
  h H1 x _ fun vs H2 x2 hvs => ⟨sz_of (by rw [dps_len hvs]; omega), fun p hp => k p vs _ (x2.trans (Ex.new hp)) upd_same (dps_grow (Ex.new hp) _ _ hvs)⟩
theorem w_var {i : Nat} {p : Addr} {xs : List V} (hσ : σ[i]? = some (some (.ref p))) (hx : H p = some (.lst xs)) (ha : DpAll K H xs ds) : EvW K (tVar i) σ H ds := fun H1 e Q k => ⟨_, hσ, k p xs H1 (Ex.refl H1) (e _ _ hx) (dps_grow e _ _ ha)⟩
theorem w_cat (h : EvW K te σ H ds) (r : EvW K tb σ H es) (hl : ds.length ≤ 1000) (hl' : es.length ≤ 1000) : EvW K (tOp rCat te tb) σ H (ds ++ es) := fun H1 e Q k =>
  h H1 e _ fun p xs H2 e2 hx ha => r H2 (e.trans e2) _ fun q ys H3 e3 hy hb => ⟨p, q, xs, ys, rfl, rfl, e3 _ _ hx, hy, sz_of (by rw [dps_len ha, dps_len hb]; omega), fun n hn =>
    k n _ _ ((e2.trans e3).trans (Ex.new hn)) upd_same (dps_app (dps_grow (e3.trans (Ex.new hn)) _ _ ha) (dps_grow (Ex.new hn) _ _ hb))⟩
theorem w_if {b : Bool} (h : EvB t σ H b) (r1 : b = true → EvW K te σ H ds) (r2 : b = false → EvW K tb σ H ds) : EvW K (tIf t te tb) σ H ds := fun H1 x Q k => h H1 x _ fun H2 x2 => by
  cases b with
  | true =>
    show te σ H2 Q
    exact r1 rfl H2 (x.trans x2) Q fun p xs H3 x3 => k p xs H3 (x2.trans x3)
  | false =>
    show tb σ H2 Q
    exact r2 rfl H2 (x.trans x2) Q fun p xs H3 x3 => k p xs H3 (x2.trans x3)
theorem cut_last (vs : List V) : cutV vs none (some (-1)) = vs.dropLast := by
  have e1 : HT.sIx vs.length vs.length (some (-1)) = vs.length - 1 := by
    show (if (-1 : Int) < 0 then ((-1 : Int) + (vs.length : Int)).toNat else min ((-1 : Int).toNat) vs.length) = _
    rw [if_pos (by decide)]
    omega
  have e0 : HT.sIx vs.length 0 none = 0 := rfl
  unfold cutV
  rw [e1, e0, List.drop_zero, List.dropLast_eq_take, Nat.sub_zero]
theorem dps_take {H : Hp} : ∀ {vs : List V} {ds : List PyData} (n : Nat), DpAll K H vs ds → DpAll K H (vs.take n) (ds.take n)
  | _, _, 0, _ => .nil
  | _, _, _ + 1, .nil => .nil
  | _, _, n + 1, .cons h t => .cons h (dps_take n t)
/-- xs[:-1] -/
theorem w_init (h : EvW K te σ H ds) (r : EvD K tb σ H (.int (-1))) : EvW K (tSl (rSlL K) te tNoPart (tPart tb)) σ H ds.dropLast := fun H1 e Q k =>
  h H1 e _ fun p xs H2 e2 hx ha => r H2 (e.trans e2) _ fun v H3 e3 hv => by
    cases hv
    refine ⟨-1, rfl, p, xs, rfl, SqL.of (e3 _ _ hx), fun q hq => ?_⟩
    have z := k q _ _ ((e2.trans e3).trans (Ex.new (o := .lst (cutV xs none (some (-1)))) hq)) upd_same
    refine z ?_
    rw [cut_last, List.dropLast_eq_take, List.dropLast_eq_take, dps_len ha]
    exact dps_take _ (dps_grow (e3.trans (Ex.new hq)) _ _ ha)
/-- t[:1] of a couple -/
theorem d_one {a c : PyData} (h : EvD K te σ H (.tuple [a, c])) (r : EvD K tb σ H (.int 1)) : EvD K (tSl (rSlT K) te tNoPart (tPart tb)) σ H (.tuple [a]) := fun H1 e Q k =>
  h H1 e _ fun w H2 e2 hw => r H2 (e.trans e2) _ fun v H3 e3 hv => by
    cases hv
    cases dp_grow e3 _ _ hw with
    | tup hs ha =>
      obtain ⟨x, ws, rfl, hx, ha⟩ := dps_cons ha
      obtain ⟨y, ws, rfl, hy, ha⟩ := dps_cons ha
      obtain rfl := dps_nil ha
      refine ⟨1, rfl, _, _, rfl, hs, (fun z => absurd z.2 (by show ¬ ((1 : Nat) = 2); decide)), fun q hq => k _ _ ((e2.trans e3).trans (Ex.new hq)) (.tup (SqT.of upd_same) (.cons (dp_grow (Ex.new hq) _ _ hx) .nil))⟩
/-- t + u of tuples that are not empty -/
theorem d_catT (h : EvD K te σ H (.tuple ds)) (r : EvD K tb σ H (.tuple es)) (h1 : ds ≠ []) (h2 : es ≠ []) (hl : ds.length + es.length ≤ 1000) : EvD K (tOp (rCatT K) te tb) σ H (.tuple (ds ++ es)) := fun H1 e Q k =>
  h H1 e _ fun v H2 e2 hv => r H2 (e.trans e2) _ fun w H3 e3 hw => by
    cases dp_grow e3 _ _ hv with
    | tup hs ha =>
      cases hw with
      | tup hs' hb =>
        rename_i p xs q ys
        have n1 : xs ≠ [] := fun z => h1 (List.length_eq_zero_iff.mp (by rw [← dps_len ha, z]; rfl))
        have n2 : ys ≠ [] := fun z => h2 (List.length_eq_zero_iff.mp (by rw [← dps_len hb, z]; rfl))
        exact ⟨_, _, xs, ys, rfl, rfl, hs, hs', n1, sz_of (by rw [dps_len ha, dps_len hb]; omega), fun z => absurd z n2, fun _ n hn => k _ _ ((e2.trans e3).trans (Ex.new hn)) (.tup (SqT.of upd_same) (dps_app (dps_grow (Ex.new hn) _ _ ha) (dps_grow (Ex.new hn) _ _ hb)))⟩
theorem z_plain {i : Nat} (h : EvW K te σ H ds) (k : ∀ p xs H2, Ex H H2 → H2 p = some (.lst xs) → DpAll K H2 xs ds → ts D (σ.set i (some (.ref p))) H2) : tSeq (tAsg te (gName i)) ts D σ H := h H (Ex.refl H) _ k
end

/-! from S11 -/
section
variable {K : PySem.W.Frag} {te tb : TE} {tt : TT} {ta : TA} {σ : L2.St} {H : Hp} {D : Ends} {ts ty : TS} {ds : List PyData} {d : PyData}
def rListOf (K : PySem.W.Frag) : List V → Hp → VK → Prop := fun xs H Q => ∃ p ys, xs = [.ref p] ∧ (SqL K H p ys ∨ SqT K H p ys) ∧ ∀ l, H l = none → Q (.ref l) (upd H l (.lst ys))
theorem z_spec {i : Nat} (S : V → Hp → Prop) (h : ∀ Q : VK, (∀ v H1, S v H1 → Q v H1) → te σ H Q) (k : ∀ v H1, S v H1 → ts D (σ.set i (some v)) H1) : tSeq (tAsg te (gName i)) ts D σ H := h _ k
/-- for x in range(n), whatever changes: S tells what the number is -/
theorem z_forA {j : Nat} (S : Int → Hp → Prop) (h : ∀ Q : List V → Hp → Prop, (∀ n H1, S n H1 → 0 ≤ n ∧ n ≤ 100000 → Q [.int n] H1) → ta σ H Q) (Pv : Int → Nat → L2.St → Hp → Prop) (p0 : ∀ n H1, S n H1 → Pv n 0 σ H1)
    (step : ∀ (n : Int) (i : Nat) σ' H' (D' : Ends), (i : Int) < n → Pv n i σ' H' → D'.rt = D.rt → (∀ σ2 H2, Pv n (i + 1) σ2 H2 → D'.nx σ2 H2) → ty D' (σ'.set j (some (.int (i : Int)))) H')
    (fin : ∀ n σ' H', 0 ≤ n → Pv n n.toNat σ' H' → ts D σ' H') : tSeq (tFor (iRng1 ta) (gName j) ty) ts D σ H := by
  refine h _ fun n H1 s hn => ⟨n, rfl, by omega, by omega, for_range (lo := 0) (n := n.toNat) (Pv n) (p0 n H1 s) (fun i σ' H' hi p => ?_) (fun σ' H' p => fin n σ' H' hn.1 p)⟩
  have e0 : (0 : Int) + (i : Int) = (i : Int) := Int.zero_add _
  rw [e0]
  exact step n i σ' H' _ (by omega) p rfl fun σ2 H2 p2 => p2
/-- for .. in a list or a tuple, the last one of a block -/
theorem z_forS1 {tg : TG} {b : Bool} (h : EvD K te σ H (sq b ds)) (Pv : Nat → L2.St → Hp → Prop) (h0 : ∀ H1, Ex H H1 → Pv 0 σ H1)
    (step : ∀ i d v σ' H' (D' : Ends), ds[i]? = some d → Ex H H' → Pv i σ' H' → Dp K H' v d → D'.rt = D.rt → (∀ σ2 H2, Ex H' H2 → Pv (i + 1) σ2 H2 → D'.nx σ2 H2) → tg v σ' H' fun σ2 H2 => ty D' σ2 H2)
    (fin : ∀ σ' H', Ex H H' → Pv ds.length σ' H' → D.nx σ' H') : tFor (iAlt (iList K te) (iTup K te)) tg ty D σ H := by
  cases b with
  | false =>
    refine .inl (h H (Ex.refl H) _ fun v H1 e hv => ?_)
    cases hv with
    | lst hs ha =>
      rename_i a vs
      refine ⟨a, rfl, ⟨vs, hs⟩, ?_⟩
      have hl := dps_len ha
      refine for_list (fun i σ' H' => Ex H1 H' ∧ Pv i σ' H') ⟨Ex.refl H1, h0 _ e⟩ (fun i σ' H' _ p => ex_l p.1 hs) (fun i x σ' H' hx p => ?_) (fun σ' H' p => fin σ' H' (e.trans p.1) (by rw [← hl]; exact p.2))
      obtain ⟨d, hd, hxd⟩ := dps_back ha hx
      exact step i d x σ' H' _ hd (e.trans p.1) p.2 (dp_grow p.1 _ _ hxd) rfl fun σ2 H2 e2 p2 => ⟨p.1.trans e2, p2⟩
  | true =>
    refine .inr (h H (Ex.refl H) _ fun v H1 e hv => ?_)
    cases hv with
    | tup hs ha =>
      rename_i a vs
      refine ⟨a, rfl, ⟨vs, hs⟩, ?_⟩
      have hl := dps_len ha
      refine for_tup (fun i σ' H' => Ex H1 H' ∧ Pv i σ' H') ⟨Ex.refl H1, h0 _ e⟩ (fun i σ' H' _ p => ex_t p.1 hs) (fun i x σ' H' hx p => ?_) (fun σ' H' p => fin σ' H' (e.trans p.1) (by rw [← hl]; exact p.2))
      obtain ⟨d, hd, hxd⟩ := dps_back ha hx
      exact step i d x σ' H' _ hd (e.trans p.1) p.2 (dp_grow p.1 _ _ hxd) rfl fun σ2 H2 e2 p2 => ⟨p.1.trans e2, p2⟩
/-- for x in a list of which only a property of its items is known -/
theorem z_forF {j : Nat} {b : Bool} (S : List PyData → Prop) (h : ∀ H1, Ex H H1 → ∀ Q : VK, (∀ v H2 l, Ex H1 H2 → Dp K H2 v (.list l) → S l → Q v H2) → te σ H1 Q) (Pv : Nat → L2.St → Hp → Prop) (h0 : ∀ H1, Ex H H1 → Pv 0 σ H1)
    (step : ∀ i d v σ' H' (D' : Ends) l, S l → d ∈ l → Ex H H' → Pv i σ' H' → Dp K H' v d → D'.rt = D.rt → (∀ σ2 H2, Ex H' H2 → Pv (i + 1) σ2 H2 → D'.nx σ2 H2) → ty D' (σ'.set j (some v)) H')
    (fin : ∀ σ' H', Ex H H' → (∃ n, Pv n σ' H') → ts D σ' H') : tSeq (tFor (iAlt (iList K te) (iTup K te)) (gName j) ty) ts D σ H := by
  refine .inl (h H (Ex.refl H) _ fun v H1 l e hv hS => ?_)
  cases hv with
  | lst hs ha =>
    rename_i a vs
    refine ⟨a, rfl, ⟨vs, hs⟩, ?_⟩
    refine for_list (fun i σ' H' => Ex H1 H' ∧ Pv i σ' H') ⟨Ex.refl H1, h0 _ e⟩ (fun i σ' H' _ p => ex_l p.1 hs) (fun i x σ' H' hx p => ?_) (fun σ' H' p => fin σ' H' (e.trans p.1) ⟨_, p.2⟩)
    obtain ⟨d, hd, hxd⟩ := dps_back ha hx
    exact step i d x σ' H' _ l hS (List.mem_of_getElem? hd) (e.trans p.1) p.2 (dp_grow p.1 _ _ hxd) rfl fun σ2 H2 e2 p2 => ⟨p.1.trans e2, p2⟩
/-- [list(x) for x in xs] of tuples -/
theorem d_lists {j : Nat} {vs : List Nat} {ws : List (List PyData)} (h : EvD K te σ H (.list (ws.map PyData.tuple))) (hn : ws.length ≤ 40000) (hj : j < σ.length) (hw : ∀ x, wipe ((wipe σ vs).set j (some x)) vs = wipe σ vs) (hl : ∀ x, ((wipe σ vs).set j (some x))[j]? = some (some x)) :
    EvD K (tLc (iList K te) (gName j) tYes (tCB (rListOf K) (tCons (tVar j) tNil)) vs) σ H (.list (ws.map PyData.list)) := fun H1 e Q k => by
  refine h H1 e _ fun v H2 e2 hv => ?_
  cases hv with
  | lst hs ha =>
    rename_i a xs
    have hlen := dps_len ha
    rw [List.length_map] at hlen
    refine ⟨a, rfl, ⟨xs, hs⟩, fun D hD => ?_⟩
    refine lc_list (K := K) (xs := xs) (fun i H' => ∃ acc, H' D = some (.lst acc) ∧ acc.length ≤ i ∧ Ex H2 (rem H' D) ∧ DpAll K (rem H' D) acc ((ws.take i).map PyData.list)) ⟨[], upd_same, Nat.le_refl _, by rw [rem_new hD]; exact Ex.refl H2, .nil⟩ (fun i H' _ ⟨_, _, _, ex, _⟩ => ex_l (ex.trans rem_ex) hs) ?_ ?_
    · rintro i x H' hx ⟨acc, hacc, hal, ex, hall⟩
      obtain ⟨d, hd, hxd⟩ := dps_back ha hx
      rw [List.getElem?_map] at hd
      obtain ⟨u, hu, rfl⟩ := Option.map_eq_some_iff.mp hd
      have hi : i < ws.length := (List.getElem?_eq_some_iff.mp hu).1
      refine ⟨hw x, yes_turn ?_⟩
      cases hxd with
      | tup hts hta =>
        rename_i b ys
        refine ⟨_, hl _, b, ys, rfl, .inr (ex_t (ex.trans rem_ex) hts), fun l hlf => ?_⟩
        have nD : l ≠ D := fun q => by
          rw [q, hacc] at hlf
          cases hlf
        have e4 : Ex H' (upd H' l (.lst ys)) := Ex.new hlf
        refine ⟨acc, e4 _ _ hacc, sz_lt (by omega), acc ++ [.ref l], upd_same, by rw [List.length_append]; exact Nat.succ_le_succ hal, ?_, ?_⟩
        · rw [rem_upd]
          exact ex.trans (ex_rem e4)
        · rw [rem_upd, take_next hu, List.map_append]
          refine dps_app (dps_grow (ex_rem e4) _ _ hall) (.cons (.lst (SqL.of ?_) (dps_grow (ex.trans (ex_rem e4)) _ _ hta)) .nil)
          rw [rem_ne nD]
          exact upd_same
    · rintro H3 ⟨acc, hacc, _, ex, hall⟩
      rw [hlen, List.take_length] at hall
      exact k _ _ (e2.trans (ex.trans rem_ex)) (.lst (SqL.of hacc) (dps_grow rem_ex _ _ hall))
theorem d_isBb {a b : Bool} (h : EvD K te σ H (.bool a)) (r : EvD K tb σ H (.bool b)) : EvD K (tOp rIsB te tb) σ H (.bool (decide (a = b))) := fun H1 x Q k =>
  h H1 x _ fun v H2 x2 hv => r H2 (x.trans x2) _ fun w H3 x3 hw => by
    cases hv
    cases hw
    exact ⟨a, b, rfl, rfl, k _ H3 (x2.trans x3) (.bl _)⟩
theorem d_notBb {a b : Bool} (h : EvD K te σ H (.bool a)) (r : EvD K tb σ H (.bool b)) : EvD K (tOp rNotB te tb) σ H (.bool (!decide (a = b))) := fun H1 x Q k =>
  h H1 x _ fun v H2 x2 hv => r H2 (x.trans x2) _ fun w H3 x3 hw => by
    cases hv
    cases hw
    exact ⟨a, b, rfl, rfl, k _ H3 (x2.trans x3) (.bl _)⟩
theorem d_neB {a b : Bool} (h : EvD K te σ H (.bool a)) (r : EvD K tb σ H (.bool b)) : EvD K (tOp rNe te tb) σ H (.bool (!decide (a = b))) := fun H1 x Q k =>
  h H1 x _ fun v H2 x2 hv => r H2 (x.trans x2) _ fun w H3 x3 hw => by
    cases hv
    cases hw
    refine ⟨rfl, ?_⟩
    have z : (!decide (V.bl a = V.bl b)) = !decide (a = b) := by cases a <;> cases b <;> rfl
    rw [z]
    exact k _ H3 (x2.trans x3) (.bl _)
end
theorem canLay_of {d : PyData} (h : SeqAt.shaped d = true) : PyData.canLay0 d = true := SeqAt.canLay_of_shaped h
theorem eqv_self {d : PyData} (h : PyData.canLay0 d = true) : PyData.eqv d d = true := SeqAt.eqv_refl d h
theorem rem_upd2 {H : Hp} {h R : Addr} {o : HO} : rem (rem (upd H R o) h) R = rem (rem H h) R := funext fun a => by
  by_cases q : a = R
  · subst q
    rw [rem_self, rem_self]
  · rw [rem_ne q, rem_ne q]
    by_cases q2 : a = h
    · subst q2
      rw [rem_self, rem_self]
    · rw [rem_ne q2, rem_ne q2, upd_ne q]

/-! from S11k -/
theorem hand_upd {H : Hp} {h c R : Addr} {ns : List Int} {o : HO} (hh : HandOk H h c ns) (n1 : h ≠ R) (n2 : c ≠ R) : HandOk (upd H R o) h c ns := by
  obtain ⟨x, y, z, h1, h2, r⟩ := hh
  exact ⟨x, y, z, (upd_ne n1).trans h1, (upd_ne n2).trans h2, r⟩
/-- what stands but for the hand and the rows that are filled -/
def aw (H : Hp) (h R P : Addr) : Hp := rem (rem (rem H h) R) P
theorem aw_ex {H : Hp} {h R P : Addr} : Ex (aw H h R P) H := rem_ex.trans (rem_ex.trans rem_ex)
theorem aw_at {H : Hp} {h R P a : Addr} (h1 : a ≠ h) (h2 : a ≠ R) (h3 : a ≠ P) : aw H h R P a = H a := by
  unfold aw
  rw [rem_ne h3, rem_ne h2, rem_ne h1]
theorem ex_aw {H H' : Hp} {h R P : Addr} (e : Ex (rem H h) (rem H' h)) : Ex (aw H h R P) (aw H' h R P) := ex_rem (ex_rem e)
theorem aw_upd {H : Hp} {h R P : Addr} {o : HO} : aw (upd H P o) h R P = aw H h R P := funext fun a => by
  by_cases q : a = P
  · subst q
    unfold aw
    rw [rem_self, rem_self]
  · unfold aw
    rw [rem_ne q, rem_ne q]
    by_cases q1 : a = R
    · subst q1
      rw [rem_self, rem_self]
    · rw [rem_ne q1, rem_ne q1]
      by_cases q2 : a = h
      · subst q2
        rw [rem_self, rem_self]
      · rw [rem_ne q2, rem_ne q2, upd_ne q]
/-- a plain list stands as it stood -/
theorem keep_at {H H' : Hp} {h R : Addr} {o : HO} (e : Ex (rem H h) (rem H' h)) (n : R ≠ h) (hR : H R = some o) : H' R = some o := by
  have z := e R o (by rw [rem_ne n]; exact hR)
  rwa [rem_ne n] at z

/-! from S12 -/
theorem hand_new {H : Hp} {h c p : Addr} {ns : List Int} {o : HO} (hh : HandOk H h c ns) (hp : H p = none) : HandOk (upd H p o) h c ns := by
  obtain ⟨x, y, z, h1, h2, r⟩ := hh
  have n1 : h ≠ p := fun e => by rw [e, hp] at h1; cases h1
  have n2 : c ≠ p := fun e => by rw [e, hp] at h2; cases h2
  exact ⟨x, y, z, (upd_ne n1).trans h1, (upd_ne n2).trans h2, r⟩

/-! from S13 -/
theorem at0 {α : Type} {a : α} {l : List α} : atI (a :: l) 0 = some a := by
  unfold atI
  have e : ixN (a :: l).length 0 = some 0 := by
    unfold ixN
    rw [if_pos (by decide), if_pos (by rw [List.length_cons]; omega)]
    rfl
  rw [e]
  rfl
/-- name *= e, wide -/
def ipMulW : TIp := fun x y H Q => ∃ i j, x = .int i ∧ y = .int j ∧ CMulW i j ∧ Q (.int (i * j)) H
theorem ip_mulW {X : Cx} : PIp X .Mult ipMulW := by
  intro pins s σ H x y v u Q I r1 r2 h
  obtain ⟨i, j, e1, e2, hc, q⟩ := h
  subst e1; subst e2
  obtain ⟨t, rfl⟩ := r1
  obtain ⟨t', rfl⟩ := r2
  exact PyProof.Rows.imul_int ⟨.int _, H, I.tok _, ⟨_, rfl⟩, q⟩ hc.ok
section
variable {K : PySem.W.Frag} {te : TE} {σ : L2.St} {H : Hp} {D : Ends} {tb ts : TS} {j : Nat} {ds : List PyData}
theorem z_mulS {i : Nat} {a b : Int} (hs : σ[i]? = some (some (.int a))) (h : EvD K te σ H (.int b)) (hc : CMulW a b) (k : ∀ H1, Ex H H1 → ts D (σ.set i (some (.int (a * b)))) H1) : tSeq (tAug i te ipMulW) ts D σ H :=
  ⟨_, hs, h H (Ex.refl H) _ fun v H1 e hv => by
    cases hv
    exact ⟨a, b, rfl, rfl, hc, k H1 e⟩⟩
theorem z_mul1 {i : Nat} {a b : Int} (hs : σ[i]? = some (some (.int a))) (h : EvD K te σ H (.int b)) (hc : CMulW a b) (k : ∀ H1, Ex H H1 → D.nx (σ.set i (some (.int (a * b)))) H1) : tAug i te ipMulW D σ H :=
  ⟨_, hs, h H (Ex.refl H) _ fun v H1 e hv => by
    cases hv
    exact ⟨a, b, rfl, rfl, hc, k H1 e⟩⟩
/-- x, y = a, b of data -/
theorem z_par {ta : TA} {i j : Nat} {a b : PyData} (h : EvDs K ta σ H [a, b]) (k : ∀ x y H1, Ex H H1 → Dp K H1 x a → Dp K H1 y b → ts D ((σ.set i (some x)).set j (some y)) H1) : tSeq (tPar i j ta) ts D σ H := h H (Ex.refl H) _ fun vs H1 e hv => by
  obtain ⟨x, ws, rfl, h1, hv⟩ := dps_cons hv
  obtain ⟨y, ws, rfl, h2, hv⟩ := dps_cons hv
  obtain rfl := dps_nil hv
  exact ⟨x, y, rfl, k x y H1 e h1 h2⟩
/-- for x in range(n) -/
theorem z_forN {ta : TA} {n : Int} (h : EvDs K ta σ H [.int n]) (h0 : 0 ≤ n) (hn : n ≤ 100000) (Pv : Nat → L2.St → Hp → Prop) (p0 : ∀ H1, Ex H H1 → Pv 0 σ H1)
    (step : ∀ (i : Nat) σ' H' (D' : Ends), (i : Int) < n → Ex H H' → Pv i σ' H' → (∀ σ2 H2, Ex H' H2 → Pv (i + 1) σ2 H2 → D'.nx σ2 H2) → tb D' (σ'.set j (some (.int (i : Int)))) H')
    (fin : ∀ σ' H', Ex H H' → Pv n.toNat σ' H' → ts D σ' H') : tSeq (tFor (iRng1 ta) (gName j) tb) ts D σ H := h H (Ex.refl H) _ fun vs H1 e hv => by
  obtain ⟨x, ws, rfl, h1, hv⟩ := dps_cons hv
  obtain rfl := dps_nil hv
  cases h1
  refine ⟨n, rfl, by omega, by omega, for_range (lo := 0) (n := n.toNat) (fun i σ' H' => Ex H1 H' ∧ Pv i σ' H') ⟨Ex.refl H1, p0 _ e⟩ (fun i σ' H' hi p => ?_) (fun σ' H' p => fin σ' H' (e.trans p.1) p.2)⟩
  have e0 : (0 : Int) + (i : Int) = (i : Int) := Int.zero_add _
  rw [e0]
  exact step i σ' H' _ (by omega) (e.trans p.1) p.2 fun σ2 H2 e2 p2 => ⟨p.1.trans e2, p2⟩
end
/-- the power by so many factors: narrow parts, so that their powers are no wider than 2^20000 -/
def fPower (ds : List PyData) (d : PyData) : Prop := ∃ (p q : Int) (n : Nat), ds = [rat p q, .int n] ∧ n ≤ 1000 ∧ p.natAbs < 2 ^ 160 ∧ q.natAbs < 2 ^ 160 ∧ d = rat (p ^ n) (q ^ n)
theorem pow_small {p : Int} (h : p.natAbs < 2 ^ 160) : ∀ i : Nat, (p ^ i).natAbs < 2 ^ (160 * i + 1)
  | 0 => by
    rw [Int.pow_zero]
    show 1 < _
    exact Nat.one_lt_two_pow (by omega)
  | i + 1 => by
    rw [Int.pow_succ]
    have z := wide_lt (pow_small h i) h
    have e : 160 * i + 1 + 160 = 160 * (i + 1) + 1 := by omega
    rw [e] at z
    exact z
theorem pow_mul_ok {p : Int} (h : p.natAbs < 2 ^ 160) {i : Nat} (hi : i ≤ 1000) : CMulW (p ^ i) p := wide_mul (pow_small h i) h (by omega) (by omega) (by omega)

/-! from S14 -/
def fLWhole (ds : List PyData) (d : PyData) : Prop := ∃ t, ds = [t] ∧ d = .bool (isIntD t && !isBoolD t)
def lenEq : PyData → Bool
  | .tuple ds => decide ((ds.length : Int) = 2)
  | _ => false
def posD : PyData → Bool
  | .int b => decide (0 < b)
  | _ => false
def item0 : PyData → PyData
  | .tuple (a :: _) => a
  | _ => .none
def item1 : PyData → PyData
  | .tuple (_ :: b :: _) => b
  | _ => .none
def wh (t : PyData) : Bool := isIntD t && !isBoolD t
def lowD : PyData → PyData → PyData
  | .int a, .int b => lowest a b
  | _, _ => .none
def lratD (t : PyData) : Bool := isTupD t && (lenEq t && (wh (item0 t) && (wh (item1 t) && (posD (item1 t) && PyData.eqv (lowD (item0 t) (item1 t)) t))))
def fLIsRatio (ds : List PyData) (d : PyData) : Prop := ∃ t, ds = [t] ∧ (∀ a b : Int, t = rat a b → b.natAbs < 2 ^ 4000) ∧ d = .bool (lratD t)
section
variable {K : PySem.W.Frag} {te tb : TE} {σ : L2.St} {H : Hp} {t a b : PyData}
theorem eq_len (c0 : isTupD t = true) (h : EvD K te σ H t) : EvD K (tOp rEq (tCB (fun xs H Q => ∃ p ys, xs = [.ref p] ∧ (SqL K H p ys ∨ SqT K H p ys) ∧ Q (.int ys.length) H) (tCons te tNil)) (tC (.int 2))) σ H (.bool (lenEq t)) := by
  cases t <;> first | cases c0 | skip
  exact d_eqI (d_lenT h) d_int
theorem len_two (c0 : isTupD t = true) (c : lenEq t = true) : ∃ a b, t = .tuple [a, b] := by
  cases t <;> first | cases c0 | skip
  rename_i ds
  have c2 : decide ((ds.length : Int) = 2) = true := c
  have c3 := of_decide_eq_true c2
  have c4 : ds.length = 2 := by omega
  match ds, c4 with
  | [a, b], _ => exact ⟨a, b, rfl⟩
theorem wh_int (c : wh a = true) : ∃ n, a = .int n := by
  cases a <;> first | exact ⟨_, rfl⟩ | cases c
theorem at1 {α : Type} {a b : α} {l : List α} : atI (a :: b :: l) 1 = some b := by
  unfold atI
  have e : ixN (a :: b :: l).length 1 = some 1 := by
    unfold ixN
    rw [if_pos (by decide), if_pos (by rw [List.length_cons, List.length_cons]; omega)]
    rfl
  rw [e]
  rfl
theorem ix0 (c0 : isTupD t = true) (c : lenEq t = true) (h : EvD K te σ H t) : EvD K (tOp (rIxT K) te (tC (.int 0))) σ H (item0 t) := by
  obtain ⟨a, b, rfl⟩ := len_two c0 c
  exact d_ixT h d_int at0
theorem ix1 (c0 : isTupD t = true) (c : lenEq t = true) (h : EvD K te σ H t) : EvD K (tOp (rIxT K) te (tC (.int 1))) σ H (item1 t) := by
  obtain ⟨a, b, rfl⟩ := len_two c0 c
  exact d_ixT h d_int at1
theorem gt_pos (c : wh a = true) (h : EvD K te σ H a) : EvD K (tOp (rI0 fun i j => .bl (decide (j < i))) te (tC (.int 0))) σ H (.bool (posD a)) := by
  obtain ⟨n, rfl⟩ := wh_int c
  exact d_gt h d_int
end

/-! from S16 -/
section
variable {K : PySem.W.Frag} {te tb : TE} {σ : L2.St} {H : Hp} {ta : TA} {d : PyData} {ds : List PyData}
/-- list(xs) of a list -/
theorem d_listL (h : EvD K te σ H (.list ds)) : EvD K (tCB (fun xs H Q => ∃ p ys, xs = [.ref p] ∧ (SqL K H p ys ∨ SqT K H p ys) ∧ ∀ l, H l = none → Q (.ref l) (upd H l (.lst ys))) (tCons te tNil)) σ H (.list ds) := fun H1 x Q k =>
  h H1 x _ fun v H2 x2 hv => by
    cases hv with
    | lst hs ha => exact ⟨_, _, rfl, .inl hs, fun l hl => k _ _ (x2.trans (Ex.new hl)) (.lst (.inl (.inl upd_same)) (dps_grow (Ex.new hl) _ _ ha))⟩
theorem d_notInD (h : EvD K te σ H d) (r : EvD K tb σ H (.list ds)) (hd : SeqAt.shaped d = true) (he : SeqAt.shaped (.list ds) = true) : EvD K (tOp (rNotInD K) te tb) σ H (.bool (!ds.any fun z => PyData.eqv z d)) := fun H1 x Q k =>
  h H1 x _ fun v H2 x2 hv => r H2 (x.trans x2) _ fun w H3 x3 hw => ⟨d, ds, dp_grow x3 _ _ hv, hw, hd, he, k _ H3 (x2.trans x3) (.bl _)⟩
/-- any([.. for x in a list]) of truths -/
theorem d_anyL {j : Nat} {vs : List Nat} (f : PyData → Bool) (h : EvD K te σ H (.list ds)) (hn : ds.length ≤ 40000) (hw : ∀ x, wipe ((wipe σ vs).set j (some x)) vs = wipe σ vs)
    (he : ∀ (d : PyData) (v : V) H1, Ex H H1 → d ∈ ds → Dp K H1 v d → EvD K tb ((wipe σ vs).set j (some v)) H1 (.bool (f d))) :
    EvD K (tCB (rAny K) (tCons (tLc (iList K te) (gName j) tYes tb vs) tNil)) σ H (.bool (ds.any f)) := fun H1 e Q k => by
  show tLc (iList K te) (gName j) tYes tb vs σ H1 (fun v H2 => rAny K [v] H2 Q)
  refine h H1 e _ fun v H2 e2 hv => ?_
  cases hv with
  | lst hs ha =>
    rename_i a xs
    have hl := dps_len ha
    have VA : Ev (fun σ H Q => Q (.ref a) H) σ H2 (.ref a) := fun H3 e3 R r => r H3 (Ex.refl H3)
    have main := el_lcL (t := tYes) (te := tb) (σ := σ) (H := H2) (j := j) (vs := vs) (xs := xs) (fun _ => true) (fun i => .bl (f (ds.getD i .none))) VA hs (by omega) hw (fun i x H3 _ _ H4 e4 R r => r H4 (Ex.refl H4))
      (fun i x H3 e3 hi _ => by
        obtain ⟨d, hd, hxd⟩ := dps_back ha hi
        have hd2 : ds.getD i .none = d := by rw [List.getD_eq_getElem?_getD, hd]; rfl
        rw [hd2]
        exact ev_bl (he d x H3 ((e.trans e2).trans e3) (List.mem_of_getElem? hd) (dp_grow e3 _ _ hxd)))
    show tLc (iList K fun _ H Q => Q (.ref a) H) (gName j) tYes tb vs σ H2 (fun v H2 => rAny K [v] H2 Q)
    refine main H2 (Ex.refl H2) _ fun p H3 hp e3 hv => ?_
    have hg : given xs.length (fun _ => true) (fun i => V.bl (f (ds.getD i .none))) = (ds.map f).map V.bl := by
      unfold given
      rw [List.filter_eq_self.mpr (fun _ _ => rfl), hl]
      apply List.ext_getElem
      · simp
      · intro i h1 h2
        have hi : i < ds.length := by simpa using h2
        rw [List.getElem_map, List.getElem_map, List.getElem_map, List.getElem_range, List.getD_eq_getElem?_getD, List.getElem?_eq_getElem hi]
        rfl
    rw [hg] at hv
    refine ⟨p, ds.map f, rfl, .inl (.inl hv), ?_⟩
    have e9 : (ds.map f).any id = ds.any f := by
      rw [List.any_map]
      rfl
    rw [e9]
    exact k _ _ (e2.trans e3) (.bl _)
end

/-! from S17 -/
def fMinusR (ds : List PyData) (d : PyData) : Prop := ∃ x y : Rat, ds = [ratR x, ratR y] ∧ Sz B x ∧ Sz B y ∧ d = ratR (x - y)
def fLessR (ds : List PyData) (d : PyData) : Prop := ∃ x y : Rat, ds = [ratR x, ratR y] ∧ Sz B x ∧ Sz B y ∧ d = .bool (decide (x < y))
theorem sz_neg {n : Nat} {x : Rat} (h : Sz n x) : Sz n (-x) := ⟨by show (-x.num).natAbs < _; rw [Int.natAbs_neg]; exact h.1, h.2⟩
theorem less_iff {x y : Rat} : PyData.bool (decide (x < y)) = .bool (decide (x.num * (y.den : Int) < y.num * (x.den : Int))) := congrArg PyData.bool (decide_eq_decide.mpr (Rat.lt_iff x y))

/-! from S18 -/
def cmpR (x y : Rat) : Int := if x < y then -1 else if y < x then 1 else 0
def gapR (x y : Rat) : Int := x.num * y.den - y.num * x.den
theorem cmp_gap (x y : Rat) : cmpR x y = if gapR x y < 0 then -1 else if 0 < gapR x y then 1 else 0 := by
  unfold cmpR gapR
  have h1 := Rat.lt_iff x y
  have h2 := Rat.lt_iff y x
  by_cases a : x < y
  · have := h1.mp a
    rw [if_pos a, if_pos (show x.num * (y.den : Int) - y.num * (x.den : Int) < 0 by omega)]
  · have n1 : ¬ (x.num * (y.den : Int) < y.num * (x.den : Int)) := fun z => a (h1.mpr z)
    have e1 : ¬ (x.num * (y.den : Int) - y.num * (x.den : Int) < 0) := by omega
    rw [if_neg a, if_neg e1]
    by_cases b : y < x
    · have := h2.mp b
      rw [if_pos b, if_pos (show 0 < x.num * (y.den : Int) - y.num * (x.den : Int) by omega)]
    · have n2 : ¬ (y.num * (x.den : Int) < x.num * (y.den : Int)) := fun z => b (h2.mpr z)
      have e2 : ¬ (0 < x.num * (y.den : Int) - y.num * (x.den : Int)) := by omega
      rw [if_neg b, if_neg e2]
def fCmpR (ds : List PyData) (d : PyData) : Prop := ∃ x y : Rat, ds = [ratR x, ratR y] ∧ Sz B x ∧ Sz B y ∧ d = .int (cmpR x y)
def SameSign (g e : Int) : Prop := (g < 0 → e < 0) ∧ (0 < g → 0 < e) ∧ (g = 0 → e = 0)
theorem sign_zero {x y : Rat} {g : Int} (s : SameSign g (gapR x y)) (c : decide (g = 0) = true) : PyData.int 0 = .int (cmpR x y) := by
  have h := s.2.2 (of_decide_eq_true c)
  rw [cmp_gap, if_neg (by omega), if_neg (by omega)]
theorem sign_one {x y : Rat} {g : Int} (s : SameSign g (gapR x y)) (c : decide (g = 0) = false) : (if decide (0 < g) = true then PyData.int 1 else .int (-1)) = .int (cmpR x y) := by
  have h := of_decide_eq_false c
  rw [cmp_gap]
  by_cases p : 0 < g
  · have := s.2.1 p
    rw [if_pos (decide_eq_true p), if_neg (by omega), if_pos this]
  · have := s.1 (by omega)
    rw [if_neg (by rw [decide_eq_false p]; decide), if_pos this]
theorem sign_den {x y : Rat} (c : decide ((x.den : Int) = (y.den : Int)) = true) : SameSign (x.num - y.num) (gapR x y) := by
  have h := of_decide_eq_true c
  have e : gapR x y = (x.num - y.num) * (y.den : Int) := by
    unfold gapR
    rw [h, Int.sub_mul]
  have hp : 0 < (y.den : Int) := by have := y.den_pos; omega
  rw [e]
  refine ⟨fun z => Int.mul_neg_of_neg_of_pos z hp, fun z => Int.mul_pos z hp, fun z => ?_⟩
  rw [z, Int.zero_mul]
theorem floor_gt {x y : Rat} (h : y.num.fdiv y.den < x.num.fdiv x.den) : 0 < gapR x y := by
  have hx : 0 < (x.den : Int) := by have := x.den_pos; omega
  have hy : 0 < (y.den : Int) := by have := y.den_pos; omega
  rw [Int.fdiv_eq_ediv_of_nonneg _ (by omega), Int.fdiv_eq_ediv_of_nonneg _ (by omega)] at h
  have h1 : x.num / x.den * x.den ≤ x.num := Int.ediv_mul_le _ (by omega)
  have h2 : y.num < (y.num / y.den + 1) * y.den := Int.lt_ediv_add_one_mul_self _ hy
  have h3 : (y.num / y.den + 1) * y.den ≤ x.num / x.den * y.den := Int.mul_le_mul_of_nonneg_right (by omega) (by omega)
  have h4 : y.num * x.den < x.num / x.den * y.den * x.den := Int.mul_lt_mul_of_pos_right (by omega) hx
  have h5 : x.num / x.den * x.den * y.den ≤ x.num * y.den := Int.mul_le_mul_of_nonneg_right h1 (by omega)
  have e : x.num / x.den * y.den * x.den = x.num / x.den * x.den * y.den := by
    rw [Int.mul_assoc, Int.mul_comm (y.den : Int), ← Int.mul_assoc]
  unfold gapR
  omega
theorem gap_swap (x y : Rat) : gapR y x = -gapR x y := by
  unfold gapR
  omega
theorem cmp1 {x y : Rat} (c : decide ((x.den : Int) = (y.den : Int)) = true) (c6 : decide (x.num - y.num = 0) = true) : PyData.int 0 = .int (cmpR x y) := sign_zero (sign_den c) c6
theorem cmp2 {x y : Rat} (c : decide ((x.den : Int) = (y.den : Int)) = true) (c6 : decide (x.num - y.num = 0) = false) : (if decide (0 < x.num - y.num) = true then PyData.int 1 else .int (-1)) = .int (cmpR x y) := sign_one (sign_den c) c6
theorem cmp4 {x y : Rat} (c6 : decide (x.num.fdiv x.den - y.num.fdiv y.den = 0) = false) (c8 : decide (x.num.fdiv x.den - y.num.fdiv y.den = 0) = false) : (if decide (0 < x.num.fdiv x.den - y.num.fdiv y.den) = true then PyData.int 1 else .int (-1)) = .int (cmpR x y) := by
  have h := of_decide_eq_false c6
  refine sign_one ⟨fun z => ?_, fun z => floor_gt (by omega), fun z => absurd z h⟩ c8
  have := floor_gt (x := y) (y := x) (by omega)
  rw [gap_swap] at this
  omega
theorem cmp5 {x y : Rat} (c8 : decide (x.num * (y.den : Int) - y.num * (x.den : Int) = 0) = true) : PyData.int 0 = .int (cmpR x y) := sign_zero ⟨fun z => z, fun z => z, fun z => z⟩ c8
theorem cmp6 {x y : Rat} (c8 : decide (x.num * (y.den : Int) - y.num * (x.den : Int) = 0) = false) : (if decide (0 < x.num * (y.den : Int) - y.num * (x.den : Int)) = true then PyData.int 1 else .int (-1)) = .int (cmpR x y) := sign_one ⟨fun z => z, fun z => z, fun z => z⟩ c8
theorem cmp_val (x y : Rat) : (cmpR x y < 0 ↔ x < y) ∧ (0 < cmpR x y ↔ y < x) := by
  have e : cmpR x y = if x < y then -1 else if y < x then 1 else 0 := rfl
  by_cases a : x < y
  · have b : ¬ y < x := fun z => by
      have h1 := (Rat.lt_iff x y).mp a
      have h2 := (Rat.lt_iff y x).mp z
      omega
    rw [e, if_pos a]
    exact ⟨⟨fun _ => a, fun _ => by decide⟩, ⟨fun z => absurd z (by decide), fun z => absurd z b⟩⟩
  · rw [e, if_neg a]
    by_cases b : y < x
    · rw [if_pos b]
      exact ⟨⟨fun z => absurd z (by decide), fun z => absurd z a⟩, ⟨fun _ => b, fun _ => by decide⟩⟩
    · rw [if_neg b]
      exact ⟨⟨fun z => absurd z (by decide), fun z => absurd z a⟩, ⟨fun z => absurd z (by decide), fun z => absurd z b⟩⟩
theorem cmp_lt {x y : Rat} (c : decide (cmpR x y < 0) = true) : x < y := (cmp_val x y).1.mp (of_decide_eq_true c)
theorem cmp_nlt {x y : Rat} (c : decide (cmpR x y < 0) = false) : ¬ x < y := fun z => of_decide_eq_false c ((cmp_val x y).1.mpr z)
theorem cmp_gt {x y : Rat} (c : decide (0 < cmpR x y) = true) : y < x := (cmp_val x y).2.mp (of_decide_eq_true c)
theorem cmp_ngt {x y : Rat} (c : decide (0 < cmpR x y) = false) : ¬ y < x := fun z => of_decide_eq_false c ((cmp_val x y).2.mpr z)
def leastR (a b : Rat) : Rat := if b < a then b else a
def mostR (a b : Rat) : Rat := if a < b then b else a
theorem leastR_yes {a b : Rat} (h : b < a) : leastR a b = b := if_pos h
theorem leastR_no {a b : Rat} (h : ¬ b < a) : leastR a b = a := if_neg h
theorem mostR_yes {a b : Rat} (h : a < b) : mostR a b = b := if_pos h
theorem mostR_no {a b : Rat} (h : ¬ a < b) : mostR a b = a := if_neg h
def fFoldR (op : Rat → Rat → Rat) (z : Rat) (ds : List PyData) (d : PyData) : Prop := ∃ (b : Bool) (rs : List Rat), ds = [sq b (rs.map ratR)] ∧ (∀ r ∈ rs, Sz B r) ∧ (∀ i, Sz B ((rs.take i).foldl op z)) ∧ d = ratR (rs.foldl op z)
def fPickR (op : Rat → Rat → Rat) (ds : List PyData) (d : PyData) : Prop := ∃ (b : Bool) (r0 : Rat) (rs : List Rat), ds = [sq b ((r0 :: rs).map ratR)] ∧ (∀ r ∈ r0 :: rs, Sz B r) ∧ d = ratR ((r0 :: rs).foldl op r0)
theorem pick_mem {op : Rat → Rat → Rat} (ho : ∀ a b, op a b = a ∨ op a b = b) : ∀ (l : List Rat) (z : Rat), l.foldl op z ∈ z :: l
  | [], z => List.mem_cons_self
  | r :: l, z => by
    have h := pick_mem ho l (op z r)
    show (l.foldl op (op z r)) ∈ _
    rcases List.mem_cons.mp h with h | h
    · rw [h]
      rcases ho z r with e | e
      · rw [e]
        exact List.mem_cons_self
      · rw [e]
        exact List.mem_cons_of_mem _ List.mem_cons_self
    · exact List.mem_cons_of_mem _ (List.mem_cons_of_mem _ h)

/-! from S19 -/
/-- what an __init__ of the class at C promises that stores its one argument under this name -/
def spI (C : Addr) (n : Str) : Sp := fun vs H Q _ => ∃ (a : Addr) (u : V), vs = [.ref a, u] ∧ H a = some (exo a C none) ∧
  ∀ (d : Addr) (fs : List (Str × V)) (H' : Hp), H d = none → H' a = some (exo a C (some d)) → H' d = some (exd d fs) → (∀ b, b ≠ a → b ≠ d → H' b = H b) → fs.lookup n = some u → Q .non H'
/-- an own class of exceptions with one field -/
structure Cl1 (P : Program) (w : World) (K : PySem.W.Frag) (mg : Str → Option Value) (base : Heap) (x : Str) (C : Addr) (n : Str) : Prop where
  o : OexC K C
  xf : XfC K C
  gC : mg x = some (.ref C)
  no : PySem.W.findIn K (.ref C) n = some none
  te : PySem.W.exmOne K (.ref C) (.ref C) = some true
  made : ∃ (fI : Addr) (fd : FuncData), PySem.W.findIn K (.ref C) "__init__" = some (some (.ref fI)) ∧ PySem.W.typeIn K (.ref fI) = some (.type "function") ∧ FnOk P w K mg base CX0 1 fI fd ["self", n] (spI C n) ∧ Binds K fd ["self", n] []
/-- as spD, or a raise of the class at C whose field n is a text -/
def spE (K : PySem.W.Frag) (C : Addr) (m : Str) (n : Nat) (f : List PyData → PyData → Prop) (g : List PyData → Str → Prop) : Sp := fun vs H Q E => ∃ ds, ds.length = n ∧ DpAll K H vs ds ∧
  ((∃ d, f ds d ∧ ∀ v H', Ex H H' → Dp K H' v d → Q v H') ∨
    ∃ y : Str, g ds y ∧ ∀ d fs H', Ex H H' → H' d = some (.xd fs) → fs.lookup m = some (.str y) → E (.ref C) (some d) H')
section
variable {X : Cx}
/-- C(e) on its way to be raised -/
theorem pmk_c1 {e : Expr} {es : List Expr} {ta : TA} {p pos : Pos} {x n : Str} {C : Addr} (D : Cl1 X.prog X.w X.K X.mg X.base x C n) (hr : Room 2 X.A) (ha : PA X (e :: es) ta) (hg : Gl X x := by rfl)
    (hdb : (x == ("__debug__" : Str)) = false := by decide) (he : starEach (e :: es) X.env = (false, eval e X.env) :: starEach es X.env := by rfl) (hpl : (backTo pos (starEach es X.env)).any (·.1) = false := by rfl) :
    PMk X (.Call (.Name x p) (e :: es) [] pos) (tMkO C (spI C n) [] ta) := by
  obtain ⟨fI, fd, iC, tI, F1, hb⟩ := D.made
  exact pmk_oex D.o iC tI F1 hr hb .nil pass0 hg D.gC ha hdb he hpl
variable {CX : CXT} {k : Nat} {ps : List Str} {sp : Sp} {E : L2.St → XK} {x : Str} {p pos : Pos} {e : Expr} {es : List Expr} {t : TA}
/-- a call in a try -/
theorem pe_dcallS (D : DefV X.prog X.w X.K X.mg X.base CX k x ps [] sp) (hr : Room k X.A) (hx : ∀ σ, PassesAt CX X σ (E σ)) (ha : PA X (e :: es) t) (hg : Gl X x := by rfl)
    (hdb : (x == ("__debug__" : Str)) = false := by decide) (he : starEach (e :: es) X.env = (false, eval e X.env) :: starEach es X.env := by rfl) (hpl : (backTo pos (starEach es X.env)).any (·.1) = false := by rfl) :
    PE X (.Call (.Name x p) (e :: es) [] pos) (tCallS sp E t) := by
  obtain ⟨f, fd, ds, F, hm, hk, hb, hv⟩ := D.ex
  cases hv
  exact pe_callS F hr hg hm hk hb hx ha hdb he hpl
end
section
variable {K : PySem.W.Frag} {σ : L2.St} {H : Hp} {D : Ends} {te : TE} {ta : TA} {ds : List PyData} {d : PyData}
/-- raise C('word') -/
theorem x_raise {C : Addr} {n : Str} {W : WX} {y : Str} (k : ∀ d fs H', Ex H H' → H' d = some (.xd fs) → fs.lookup n = some (.str y) → W (.ref C) (some d) σ H') :
    tMkO C (spI C n) [] (tCons (tC (.str y)) tNil) σ H (fun cls d H' => W cls d σ H') := by
  refine ⟨by show 1 ≤ 1000; decide, fun a ha => ⟨a, .str y, rfl, upd_same, fun d fs H' hd h1 h2 h3 h4 => ⟨rfl, d, fs, h1, h2, ?_, ?_⟩⟩⟩
  · have nda : d ≠ a := fun z => by
      rw [z, upd_same] at hd
      cases hd
    rw [upd_ne nda] at hd
    exact hd
  · have nda : d ≠ a := fun z => by
      rw [z, upd_same] at hd
      cases hd
    have hd2 : H d = none := by
      rw [upd_ne nda] at hd
      exact hd
    refine k d fs _ (fun b o hb => ?_) upd_same h4
    have nb : b ≠ a := ne_of_none hb ha
    have nd : b ≠ d := ne_of_none hb hd2
    rw [upd_ne nd]
    show del H' a b = some o
    unfold del
    rw [if_neg nb, h3 b nb nd, upd_ne nb]
    exact hb
/-- a call that does not raise -/
theorem d_callE {C : Addr} {m : Str} {n : Nat} {f : List PyData → PyData → Prop} {g : List PyData → Str → Prop} {E : XK} {dvs : List V} {es : List PyData} (h : EvDs K ta σ H ds) (hv : ∀ H, DpAll K H dvs es) (hl : (ds ++ es).length = n) (hf : f (ds ++ es) d) :
    EvD K (tCall (spE K C m n f g) dvs E ta) σ H d := fun H1 x Q k =>
  h H1 x _ fun vs H2 x2 hvs => ⟨ds ++ es, hl, dps_app hvs (hv H2), .inl ⟨d, hf, fun v H' x' hv => k v H' (x2.trans x') hv⟩⟩
end

/-! from S20 -/
theorem z_nx {u : TS} {D0 D : Ends} {σ : L2.St} {H : Hp} (h : u D0 σ H) : tNext { D with nx := u D0 } σ H := h

/-! from S22 -/
section
variable {K : PySem.W.Frag} {σ : L2.St} {H : Hp} {te tb : TE}
theorem d_neS {x y : Str} (h : EvD K te σ H (.str x)) (r : EvD K tb σ H (.str y)) : EvD K (tOp rNe te tb) σ H (.bool (!decide (x = y))) := fun H1 x0 Q k =>
  h H1 x0 _ fun v H2 x2 hv => r H2 (x0.trans x2) _ fun w H3 x3 hw => by
    cases hv
    cases hw
    refine ⟨rfl, ?_⟩
    have z : decide (V.str x = V.str y) = decide (x = y) := by
      by_cases q : x = y
      · subst q
        rw [decide_eq_true rfl, decide_eq_true rfl]
      · rw [decide_eq_false q, decide_eq_false (fun z => q (V.str.inj z))]
    rw [z]
    exact k _ H3 (x2.trans x3) (.bl _)
/-- e.f in the suite -/
theorem d_xf {a C dd : Addr} {n y : Str} {fs : List (Str × V)} {i : Nat} (h1 : σ[i]? = some (some (.ref a))) (h2 : H dd = some (.xd fs)) (h3 : fs.lookup n = some (.str y)) : EvD K (tXf a (.ref C) (some dd) C n (tVar i)) σ H (.str y) := fun H1 x Q k =>
  ⟨_, h1, rfl, rfl, dd, fs, _, rfl, x _ _ h2, h3, k _ H1 (Ex.refl H1) (.str _)⟩
theorem x_drop {sp : Sp} {E : Ends → L2.St → XK} {ta : TA} {ts : TS} {D : Ends} {ds : List PyData} (h : EvDs K ta σ H ds) (k : ∀ vs H1, Ex H H1 → DpAll K H1 vs ds → sp vs H1 (fun _ H2 => ts D σ H2) (E { D with nx := ts D } σ)) :
    tSeq (fun D σ H => tDrop (tCallS sp (E D) ta) D σ H) ts D σ H := h H (Ex.refl H) _ k
end

/-! from S23 -/
section
variable {K : PySem.W.Frag} {σ : L2.St} {H : Hp} {te tb : TE}
/-- int(b) of a truth -/
theorem d_intB {b : Bool} (h : EvD K te σ H (.bool b)) : EvD K (tCB (fun xs H Q => (∃ i, xs = [.int i] ∧ Q (.int i) H) ∨ ∃ k, xs = [.bl k] ∧ Q (.int (if k then 1 else 0)) H) (tCons te tNil)) σ H (.int (if b then 1 else 0)) := fun H1 x Q k =>
  h H1 x _ fun v H2 x2 hv => by
    cases hv
    exact .inr ⟨b, rfl, k _ H2 x2 (.int _)⟩
theorem ratR_neg (y : Rat) : PyData.tuple [.int (-y.num), .int (y.den : Int)] = ratR (-y) := by
  show _ = PyData.tuple [.int (-y).num, .int ((-y).den : Int)]
  rw [Rat.neg_num, Rat.neg_den]
theorem floor_facts (x : Rat) (h : Sz 1400 x) : (x.num.fdiv x.den).natAbs < 2 ^ 1400 ∧ (x.num.fdiv x.den + 1).natAbs < 2 ^ B ∧ x.num.fdiv x.den * x.den ≤ x.num ∧ x.num < (x.num.fdiv x.den + 1) * x.den := by
  have d0 : (0 : Int) < x.den := by have := x.den_pos; omega
  have e : x.num.fdiv x.den = x.num / x.den := Int.fdiv_eq_ediv_of_nonneg _ (by omega)
  rw [e]
  have h1 : (x.num / (x.den : Int)).natAbs ≤ x.num.natAbs := Int.natAbs_ediv_le_natAbs _ _
  have h2 := h.1
  refine ⟨by omega, ?_, Int.ediv_mul_le _ (by omega), Int.lt_ediv_add_one_mul_self _ d0⟩
  have : (2 : Nat) ^ 1400 + 1 < 2 ^ B := by decide +kernel
  omega
end

/-! from S31 -/
section
variable {K : PySem.W.Frag} {σ : L2.St} {H : Hp} {te tb : TE}
/-- any([.. for x in a tuple]) of truths -/
theorem d_anyT {ds : List PyData} {j : Nat} {vs : List Nat} (f : PyData → Bool) (h : EvD K te σ H (.tuple ds)) (hn : ds.length ≤ 40000) (hw : ∀ x, wipe ((wipe σ vs).set j (some x)) vs = wipe σ vs)
    (he : ∀ (d : PyData) (v : V) H1, Ex H H1 → d ∈ ds → Dp K H1 v d → EvD K tb ((wipe σ vs).set j (some v)) H1 (.bool (f d))) :
    EvD K (tCB (rAny K) (tCons (tLc (iTup K te) (gName j) tYes tb vs) tNil)) σ H (.bool (ds.any f)) := fun H1 e Q k => by
  show tLc (iTup K te) (gName j) tYes tb vs σ H1 (fun v H2 => rAny K [v] H2 Q)
  refine h H1 e _ fun v H2 e2 hv => ?_
  cases hv with
  | tup hs ha =>
    rename_i a xs
    have hl := dps_len ha
    refine ⟨a, rfl, ⟨xs, hs⟩, fun D hD => ?_⟩
    refine lc_tup (xs := xs) (fun i H' => Ex H2 H' ∧ H' D = some (.lst ((ds.take i).map fun d => V.bl (f d)))) ⟨Ex.new hD, upd_same⟩ (fun i H' _ p => ex_t p.1 hs) (fun i x H' hx p => ?_) (fun H' p => ?_)
    · obtain ⟨ex, hacc⟩ := p
      obtain ⟨d, hd, hxd⟩ := dps_back ha hx
      have hi : i < ds.length := (List.getElem?_eq_some_iff.mp hd).1
      refine ⟨hw _, ?_⟩
      refine yes_turn (he d x H' ((e.trans e2).trans ex) (List.mem_of_getElem? hd) (dp_grow ex _ _ hxd) H' (Ex.refl H') _ fun y H4 e4 hy => ?_)
      cases hy
      refine ⟨_, e4 _ _ hacc, sz_lt (by rw [List.length_map, List.length_take]; omega), ?_, ?_⟩
      · have nD : ∀ b o, H2 b = some o → b ≠ D := fun b o hb => ne_of_none hb hD
        exact fun b o hb => (upd_ne (nD b o hb)).trans (e4 _ _ (ex _ _ hb))
      · rw [take_next hd, List.map_append]
        exact upd_same
    · obtain ⟨ex, hacc⟩ := p
      rw [hl, List.take_length] at hacc
      refine ⟨D, ds.map f, rfl, .inl (.inl (by rw [List.map_map]; exact hacc)), ?_⟩
      have e9 : (ds.map f).any id = ds.any f := by
        rw [List.any_map]
        rfl
      rw [e9]
      exact k _ _ (e2.trans ex) (.bl _)
end

/-! from S31 -/
theorem rem_same {H H' : Hp} {h : Addr} (e : ∀ b, b ≠ h → H' b = H b) : rem H' h = rem H h := funext fun b => by
  unfold rem
  by_cases q : b = h
  · rw [if_pos q, if_pos q]
  · rw [if_neg q, if_neg q, e b q]

/-! from S32 -/
section
variable {K : PySem.W.Frag} {σ : L2.St} {te tb tx : TE} {ta : TA} {h c : Addr} {ns : List Int}
/-- a number, the hand at h apart nothing that is there changes -/
def EI (h c : Addr) (ns : List Int) (te : TE) (σ : L2.St) (P : Int → Prop) : Prop := ∀ H1, HandOk H1 h c ns → ∀ Q : VK, (∀ i H2, HandOk H2 h c ns → Ex (rem H1 h) (rem H2 h) → P i → Q (.int i) H2) → te σ H1 Q
/-- a datum without lists -/
def EH (K : PySem.W.Frag) (h c : Addr) (ns : List Int) (te : TE) (σ : L2.St) (P : PyData → Prop) : Prop := ∀ H1, HandOk H1 h c ns → ∀ Q : VK, (∀ v d H2, HandOk H2 h c ns → Ex (rem H1 h) (rem H2 h) → Dp K (rem H2 h) v d → flat d = true → P d → Q v H2) → te σ H1 Q
theorem i_c {P : Int → Prop} {i : Int} (p : P i) : EI h c ns (tC (.int i)) σ P := fun H1 hh Q q => q i H1 hh (Ex.refl _) p
theorem i_var {P : Int → Prop} {i : Int} {j : Nat} (s : σ[j]? = some (some (.int i))) (p : P i) : EI h c ns (tVar j) σ P := fun H1 hh Q q => ⟨_, s, q i H1 hh (Ex.refl _) p⟩
theorem i_draw {P : Int → Prop} {j : Nat} {many : Int} (s : σ[j]? = some (some (.ref h))) (m0 : 0 < many) (m1 : many.natAbs < 2 ^ 1000) (p : ∀ i, 0 ≤ i → i < many → P i) : EI h c ns (tCall spDraw [] E0 (tCons (tVar j) (tCons (tC (.int many)) tNil))) σ P := fun H1 hh Q q =>
  ⟨_, s, h, c, ns, many, rfl, m0, m1, hh, fun r H2 r0 r1 hh2 he2 => q r H2 hh2 (by rw [rem_same he2]; exact Ex.refl _) (p r r0 r1)⟩
theorem i_add {P1 P2 P : Int → Prop} (a : EI h c ns te σ P1) (b : EI h c ns tb σ P2) (p : ∀ i j, P1 i → P2 j → P (i + j)) : EI h c ns (tOp (rI0 fun i j => .int (i + j)) te tb) σ P := fun H1 hh Q q =>
  a H1 hh _ fun i H2 hh2 e2 p1 => b H2 hh2 _ fun j H3 hh3 e3 p2 => ⟨i, j, rfl, rfl, q _ H3 hh3 (e2.trans e3) (p i j p1 p2)⟩
theorem i_sub {P1 P2 P : Int → Prop} (a : EI h c ns te σ P1) (b : EI h c ns tb σ P2) (p : ∀ i j, P1 i → P2 j → P (i - j)) : EI h c ns (tOp (rI0 fun i j => .int (i - j)) te tb) σ P := fun H1 hh Q q =>
  a H1 hh _ fun i H2 hh2 e2 p1 => b H2 hh2 _ fun j H3 hh3 e3 p2 => ⟨i, j, rfl, rfl, q _ H3 hh3 (e2.trans e3) (p i j p1 p2)⟩
theorem i_neg {P1 P : Int → Prop} (a : EI h c ns te σ P1) (p : ∀ i, P1 i → P (-i)) : EI h c ns (tUn (rU fun i => .int (-i)) te) σ P := fun H1 hh Q q =>
  a H1 hh _ fun i H2 hh2 e2 p1 => ⟨i, rfl, q _ H2 hh2 e2 (p i p1)⟩
/-- a if n == m else b -/
theorem i_if {P1 P : Int → Prop} {m : Int} (a : EI h c ns te σ P1) (b1 : EI h c ns tb σ P) (b2 : EI h c ns tx σ P) : EI h c ns (tIf (tTest (tOp rEq te (tC (.int m)))) tb tx) σ P := fun H1 hh Q q =>
  a H1 hh _ fun i H2 hh2 e2 _ => by
    refine ⟨rfl, decide (V.int i = V.int m), rfl, ?_⟩
    cases decide (V.int i = V.int m) with
    | true => exact (b1 H2 hh2 Q fun j H3 hh3 e3 p => q j H3 hh3 (e2.trans e3) p)
    | false => exact (b2 H2 hh2 Q fun j H3 hh3 e3 p => q j H3 hh3 (e2.trans e3) p)
theorem i_abs {P1 P : Int → Prop} {r : List V → Hp → VK → Prop} (a : EI h c ns te σ P1) (hr : ∀ i H Q, Q (.int (i.natAbs : Int)) H → r [.int i] H Q) (p : ∀ i, P1 i → P (i.natAbs : Int)) : EI h c ns (tCB r (tCons te tNil)) σ P := fun H1 hh Q q =>
  a H1 hh _ fun i H2 hh2 e2 p1 => hr _ _ _ (q _ H2 hh2 e2 (p i p1))
theorem hand_lst {H : Hp} (hh : HandOk H h c ns) : ∃ xs, H h = some (.lst xs) := by
  obtain ⟨p, r, t, h1, _⟩ := hh
  exact ⟨_, h1⟩
theorem hand_dp {H : Hp} {v : V} {d : PyData} (hh : HandOk H h c ns) (f : flat d = true) (x : Dp K H v d) : Dp K (rem H h) v d := by
  obtain ⟨xs, hx⟩ := hand_lst hh
  exact dp_rem hx noTup_l d v f x
/-- a call of a def over data, its arguments two numbers -/
theorem eh_two {P1 P2 : Int → Prop} {P : PyData → Prop} {f : List PyData → PyData → Prop} {g : Int → Int → PyData} (a : EI h c ns te σ P1) (b : EI h c ns tb σ P2) (hf : ∀ i j, P1 i → P2 j → f [.int i, .int j] (g i j) ∧ flat (g i j) = true ∧ P (g i j)) :
    EH K h c ns (tCall (spD K 2 f) [] E0 (tCons te (tCons tb tNil))) σ P := fun H1 hh Q q =>
  a H1 hh _ fun i H2 hh2 e2 p1 => b H2 hh2 _ fun j H3 hh3 e3 p2 => by
    obtain ⟨q1, q2, q3⟩ := hf i j p1 p2
    exact ⟨[.int i, .int j], g i j, rfl, .cons (.int _) (.cons (.int _) .nil), q1, fun v H4 e4 hv => q v _ H4 (hand_grow e4 hh3) ((e2.trans e3).trans (ex_rem e4)) (hand_dp (hand_grow e4 hh3) q2 hv) q2 q3⟩
theorem eh_int {P : Int → Prop} {P' : PyData → Prop} (a : EI h c ns te σ P) (p : ∀ i, P i → P' (.int i)) : EH K h c ns te σ P' := fun H1 hh Q q =>
  a H1 hh _ fun i H2 hh2 e2 p1 => q _ _ H2 hh2 e2 (.int _) rfl (p i p1)
/-- [.. for k in range(n)] -/
theorem eh_list {j : Nat} {vs : List Nat} {Pn : Int → Prop} {P : PyData → Prop} (hn : EI h c ns tb σ Pn) (hp : ∀ n, Pn n → 0 ≤ n ∧ n ≤ 40000) (hw : ∀ x, wipe ((wipe σ vs).set j (some x)) vs = wipe σ vs)
    (he : ∀ i : Nat, EH K h c ns te ((wipe σ vs).set j (some (.int (i : Int)))) P) :
    ∀ H1, HandOk H1 h c ns → ∀ Q : VK, (∀ v ds H2, HandOk H2 h c ns → Ex (rem H1 h) (rem H2 h) → Dp K (rem H2 h) v (.list ds) → Pn (ds.length : Int) → (∀ d ∈ ds, flat d = true ∧ P d) → Q v H2) → tLc (iRng1 (tCons tb tNil)) (gName j) tYes te vs σ H1 Q := fun H1 hh Q q => by
  refine hn H1 hh _ fun n H2 hh2 e2 pn => ?_
  obtain ⟨n0, n1⟩ := hp n pn
  obtain ⟨m, rfl⟩ := Int.eq_ofNat_of_zero_le n0
  refine ⟨_, rfl, by omega, by omega, fun D hD => ?_⟩
  have nD : D ≠ h := fun e => by
    obtain ⟨xs, hx⟩ := hand_lst hh2
    rw [← e, hD] at hx
    cases hx
  have nC : c ≠ D := fun e => by
    obtain ⟨_, _, _, _, h2, _⟩ := hh2
    rw [e, hD] at h2
    cases h2
  refine lc_range (lo := 0) (n := (m : Int).toNat) (fun i H' => HandOk H' h c ns ∧ ∃ acc ds, H' D = some (.lst acc) ∧ ds.length = i ∧ Ex (rem H2 h) (rem (rem H' h) D) ∧ DpAll K (rem (rem H' h) D) acc ds ∧ ∀ d ∈ ds, flat d = true ∧ P d)
    ⟨hand_new hh2 hD, [], [], upd_same, rfl, ?_, .nil, fun d z => by cases z⟩ ?_ ?_
  · rw [rem_upd2]
    intro b o hb
    have nb : b ≠ D := fun e => by
      rw [e, rem_ne nD, hD] at hb
      cases hb
    rw [rem_ne nb]
    exact hb
  · rintro i H' hi ⟨hh', acc, ds, hacc, hlen, ex, hall, hds⟩
    have hlen2 : acc.length = ds.length := dps_len hall
    have z0 : (0 : Int) + (i : Int) = (i : Int) := Int.zero_add _
    rw [z0]
    refine ⟨hw _, yes_turn (he i H' hh' _ fun v d H3 hh3 e3 hv fd pd => ?_)⟩
    have hD3 : H3 D = some (.lst acc) := by
      have := e3 D (.lst acc) (by rw [rem_ne nD]; exact hacc)
      rw [rem_ne nD] at this
      exact this
    have hD4 : (rem H3 h) D = some (.lst acc) := by rw [rem_ne nD]; exact hD3
    have m2 : (m : Int).toNat = m := Int.toNat_natCast m
    refine ⟨acc, hD3, sz_lt (by omega), hand_upd hh3 (Ne.symm nD) nC, acc ++ [v], ds ++ [d], upd_same, by rw [List.length_append, hlen]; rfl, ?_, ?_, ?_⟩
    · rw [rem_upd2]
      exact ex.trans (ex_rem e3)
    · rw [rem_upd2]
      exact dps_app (dps_grow (ex_rem e3) _ _ hall) (.cons (dp_rem hD4 noTup_l _ _ fd hv) .nil)
    · intro z hz
      rcases List.mem_append.mp hz with hz | hz
      · exact hds z hz
      · have : z = d := by simpa using hz
        subst this
        exact ⟨fd, pd⟩
  · rintro H3 ⟨hh3, acc, ds, hacc, hlen, ex, hall, hds⟩
    refine q _ ds H3 hh3 (e2.trans (ex.trans rem_ex)) (.lst (SqL.of (by rw [rem_ne nD]; exact hacc)) (dps_grow rem_ex _ _ hall)) (by rw [hlen, Int.toNat_natCast]; exact pn) hds
variable {D : Ends} {ts tu : TS} {H : Hp}
theorem hz_set {j : Nat} {P : Int → Prop} (hh : HandOk H h c ns) (a : EI h c ns te σ P) (k : ∀ i H1, HandOk H1 h c ns → Ex (rem H h) (rem H1 h) → P i → ts D (σ.set j (some (.int i))) H1) : tSeq (tAsg te (gName j)) ts D σ H := a H hh _ k
theorem hz_list {j i : Nat} {vs : List Nat} {Pn : Int → Prop} {P : PyData → Prop} (hh : HandOk H h c ns) (hn : EI h c ns tb σ Pn) (hp : ∀ n, Pn n → 0 ≤ n ∧ n ≤ 40000) (hw : ∀ x, wipe ((wipe σ vs).set j (some x)) vs = wipe σ vs)
    (he : ∀ i : Nat, EH K h c ns te ((wipe σ vs).set j (some (.int (i : Int)))) P)
    (k : ∀ v ds H2, HandOk H2 h c ns → Ex (rem H h) (rem H2 h) → Dp K (rem H2 h) v (.list ds) → Pn (ds.length : Int) → (∀ d ∈ ds, flat d = true ∧ P d) → ts D (σ.set i (some v)) H2) :
    tSeq (tAsg (tLc (iRng1 (tCons tb tNil)) (gName j) tYes te vs) (gName i)) ts D σ H := eh_list hn hp hw he H hh _ k
theorem hz_data {j : Nat} {P : PyData → Prop} (hh : HandOk H h c ns) (a : EH K h c ns te σ P) (k : ∀ v d H1, HandOk H1 h c ns → Ex (rem H h) (rem H1 h) → Dp K (rem H1 h) v d → P d → ts D (σ.set j (some v)) H1) : tSeq (tAsg te (gName j)) ts D σ H := a H hh _ fun v d H1 a b x _ p => k v d H1 a b x p
end

/-! from S33 -/
theorem fold_sum {a : Nat} : ∀ (l : List Rat) (n : Nat) (x : Rat), (∀ r ∈ l, Sz a r) → Sz n x → Sz (n + (a + 1) * l.length) (l.foldl (· + ·) x)
  | [], n, x, _, h => h
  | r :: l, n, x, hl, h => by
    have := fold_sum l (n + a + 1) (x + r) (fun z hz => hl z (List.mem_cons_of_mem _ hz)) (sz_add h (hl r List.mem_cons_self))
    refine this.mono ?_
    rw [List.length_cons, Nat.mul_succ]
    omega
theorem fold_prod {a : Nat} : ∀ (l : List Rat) (n : Nat) (x : Rat), (∀ r ∈ l, Sz a r) → Sz n x → Sz (n + a * l.length) (l.foldl (· * ·) x)
  | [], n, x, _, h => h
  | r :: l, n, x, hl, h => by
    have := fold_prod l (n + a) (x * r) (fun z hz => hl z (List.mem_cons_of_mem _ hz)) (sz_mul h (hl r List.mem_cons_self))
    refine this.mono ?_
    rw [List.length_cons, Nat.mul_succ]
    omega
theorem sz_one : Sz 1 1 := ⟨by decide, by decide⟩
theorem sz_zero : Sz 1 0 := ⟨by decide, by decide⟩
theorem sz_pow {a : Nat} {x : Rat} (h : Sz a x) : ∀ k : Nat, Sz (1 + a * k) (x ^ k)
  | 0 => by rw [Rat.pow_zero]; exact sz_one
  | k + 1 => by
    rw [Rat.pow_succ]
    exact (sz_mul (sz_pow h k) h).mono (by rw [Nat.mul_succ]; omega)
theorem low_sz {t b : Int} {a : Nat} (h0 : 0 < b) (h1 : t.natAbs < 2 ^ a) (h2 : b.natAbs < 2 ^ a) : ∃ z : Rat, lowest t b = ratR z ∧ Sz a z := by
  obtain ⟨m, rfl⟩ := Int.eq_ofNat_of_zero_le (by omega : 0 ≤ b)
  have m0 : m ≠ 0 := by omega
  exact ⟨_, low_norm t m m0, sz_norm t m m0 h1 h2⟩
theorem rats_of {a : Nat} : ∀ {ds : List PyData}, (∀ d ∈ ds, ∃ z : Rat, d = ratR z ∧ Sz a z) → ∃ rs : List Rat, ds = rs.map ratR ∧ ∀ r ∈ rs, Sz a r
  | [], _ => ⟨[], rfl, fun _ h => by cases h⟩
  | d :: ds, h => by
    obtain ⟨rs, e, hr⟩ := rats_of (ds := ds) fun z hz => h z (List.mem_cons_of_mem _ hz)
    obtain ⟨z, ez, hz⟩ := h d List.mem_cons_self
    refine ⟨z :: rs, by rw [ez, e]; rfl, fun r hr' => ?_⟩
    rcases List.mem_cons.mp hr' with q | q
    · rw [q]; exact hz
    · exact hr r q
section
variable {K : PySem.W.Frag} {σ : L2.St} {H : Hp} {te : TE} {tb : TS} {D : Ends} {ds : List PyData} {j : Nat}
theorem z_forT1 (h : EvD K te σ H (.tuple ds)) (Pv : Nat → L2.St → Hp → Prop) (h0 : ∀ H1, Ex H H1 → Pv 0 σ H1)
    (step : ∀ i d v σ' H' (D' : Ends), ds[i]? = some d → Ex H H' → Pv i σ' H' → Dp K H' v d → (∀ σ2 H2, Ex H' H2 → Pv (i + 1) σ2 H2 → D'.nx σ2 H2) → tb D' (σ'.set j (some v)) H')
    (fin : ∀ σ' H', Ex H H' → Pv ds.length σ' H' → D.nx σ' H') : tFor (iTup K te) (gName j) tb D σ H := z_forT (ts := tNext) h Pv h0 step fin
end

/-! from S28 -/
theorem low_cop {p q : Int} (h0 : 0 < q) (h : Nat.gcd p.natAbs q.natAbs = 1) : lowP p q = p ∧ lowQ p q = q := by
  unfold lowP lowQ
  rw [if_neg (by omega), if_neg (by omega), h]
  exact ⟨Int.ediv_one _, Int.ediv_one _⟩

/-! from S30 -/
theorem dps_rev {K : PySem.W.Frag} {H : Hp} : ∀ {vs : List V} {ds : List PyData}, DpAll K H vs ds → DpAll K H vs.reverse ds.reverse
  | _, _, .nil => .nil
  | _, _, .cons h t => by
    rw [List.reverse_cons, List.reverse_cons]
    exact dps_app (dps_rev t) (.cons h .nil)

/-! from S34 -/
structure DefK (P : Program) (w : World) (K : PySem.W.Frag) (mg : Str → Option Value) (base : Heap) (CX : CXT) (k : Nat) (x : Str) (ps ks : List Str) (gV : List V → List V → List V) (sp : Sp) : Prop where
  ex : ∃ (f : Addr) (fd : FuncData) (g : List Value → List Value → List Value), FnOk P w K mg base CX k f fd ps sp ∧ mg x = some (.ref f) ∧ PySem.W.keepIn K (.ref f) = true ∧ KBn K fd ps 0 ks g gV
section
variable {X : Cx} {CX : CXT} {k : Nat} {ps ks : List Str} {sp : Sp} {E : XK} {x : Str} {p pos : Pos} {kws : List Keyword} {tk : TA} {gV : List V → List V → List V}
/-- f(k = v, ..) -/
theorem pe_dcallK (D : DefK X.prog X.w X.K X.mg X.base CX k x ps ks gV sp) (hr : Room k X.A) (hx : Passes CX X E) (hkw : PK X kws tk) (hg : Gl X x := by rfl)
    (hall : (backToKw pos (keywordEach kws X.env)).all (·.1.isSome) = true := by rfl) (hks : (backToKw pos (keywordEach kws X.env)).filterMap (·.1) = ks := by rfl) (hdb : (x == ("__debug__" : Str)) = false := by decide)
    (hpl : ((backTo pos (starEach [] X.env)).any (·.1) || (backToKw pos (keywordEach kws X.env)).any (·.1.isNone)) = false := by rfl) :
    PE X (.Call (.Name x p) [] kws pos) (tCallN 0 ks.length sp gV E tNil tk) := by
  obtain ⟨f, fd, g, F, hm, hk, hb⟩ := D.ex
  refine ⟨fun pins s σ H Q I h => ?_⟩
  refine wpAny_Call_Name_kw (ld_glob I hg hm ?_ hdb)
  refine PySem.W.callWith_KW0 (h₀ := X.base) I.ok.mod.kin hk hall (thn (hkw.run pos pins s σ H _ I h) fun ws s2 hh => ?_) hpl
  obtain ⟨zs, H2, I2, rz, l1, l2, q2⟩ := hh
  refine ⟨I2.kIn, ?_⟩ ; rw [hks]
  exact run_fnN (us := []) (vs := []) F hr hb hx I2 .nil rz rfl l2 q2
end
theorem lowest_neg2 {t b : Int} (h : 0 < b) : lowest (-t) (-b) = lowest t b := by
  show rat (lowP (-t) (-b)) (lowQ (-t) (-b)) = rat (lowP t b) (lowQ t b)
  unfold lowP lowQ
  rw [if_pos (show -b < 0 by omega), if_pos (show -b < 0 by omega), if_neg (show ¬ b < 0 by omega), if_neg (show ¬ b < 0 by omega), Int.neg_neg, Int.neg_neg, Int.natAbs_neg, Int.natAbs_neg]
theorem lowest_flip {t b : Int} (h : 0 < b) : lowest t (-b) = rat (-(lowP t b)) (lowQ t b) := by
  show rat (lowP t (-b)) (lowQ t (-b)) = _
  unfold lowP lowQ
  rw [if_pos (show -b < 0 by omega), if_pos (show -b < 0 by omega), if_neg (show ¬ b < 0 by omega), if_neg (show ¬ b < 0 by omega), Int.neg_neg, Int.natAbs_neg]
  have hd : ((Nat.gcd t.natAbs b.natAbs : Nat) : Int) ∣ t := Int.ofNat_dvd_left.mpr (Nat.gcd_dvd_left _ _)
  rw [Int.neg_ediv_of_dvd hd]
theorem ratD_lrat {t b : Int} (h : 0 < b) : ratD (rat t b) = lratD (rat t b) := by
  have e1 : ratD (rat t b) = decide (((Nat.gcd t.natAbs b.natAbs : Nat) : Int) = 1) := by
    show (true && ((decide ((1 : Int) ≤ b) && true) && decide (((Nat.gcd t.natAbs b.natAbs : Nat) : Int) = 1))) = _
    rw [decide_eq_true (by omega)]
    rfl
  have e2 : lratD (rat t b) = PyData.eqv (lowest t b) (rat t b) := by
    show (true && (true && (true && (true && (decide (0 < b) && PyData.eqv (lowest t b) (rat t b)))))) = _
    rw [decide_eq_true h]
    rfl
  rw [e1, e2]
  by_cases g : Nat.gcd t.natAbs b.natAbs = 1
  · obtain ⟨l1, l2⟩ := low_cop h g
    have : lowest t b = rat t b := by
      show rat (lowP t b) (lowQ t b) = _
      rw [l1, l2]
    rw [this, decide_eq_true (by omega)]
    exact (eqv_self rfl).symm
  · rw [decide_eq_false (by omega)]
    symm
    have hb : lowQ t b ≠ b := by
      unfold lowQ
      rw [if_neg (by omega)]
      have g0 : 0 < Nat.gcd t.natAbs b.natAbs := Nat.gcd_pos_of_pos_right _ (by omega)
      have g2 : (2 : Int) ≤ ((Nat.gcd t.natAbs b.natAbs : Nat) : Int) := by omega
      intro e
      have := Int.ediv_lt_self_of_pos_of_ne_one (x := b) (y := ((Nat.gcd t.natAbs b.natAbs : Nat) : Int)) h (by omega)
      omega
    show PyData.eqv (.tuple [.int (lowP t b), .int (lowQ t b)]) (.tuple [.int t, .int b]) = false
    simp [PyData.eqv, PyData.eqvAll, hb]

/-! from S35 -/
section
variable {K : PySem.W.Frag} {σ : L2.St} {H B : Hp} {te tb : TE} {t u : TT} {tu tw ts : TS} {D : Ends} {h c : Addr} {ns : List Int}
/-- the hand stands, and all of the base B but the hand stays -/
structure StB (h c : Addr) (ns : List Int) (B H : Hp) : Prop where
  hh : HandOk H h c ns
  ex : Ex B (rem H h)
theorem StB.all (s : StB h c ns B H) : Ex B H := s.ex.trans rem_ex
theorem StB.grow {H' : Hp} (s : StB h c ns B H) (e : Ex H H') : StB h c ns B H' := ⟨hand_grow e s.hh, s.ex.trans (ex_rem e)⟩
def HB (h c : Addr) (ns : List Int) (B : Hp) (t : TT) (σ : L2.St) (b : Bool) : Prop := ∀ H1, StB h c ns B H1 → ∀ Q : Bool → Hp → Prop, (∀ H2, StB h c ns B H2 → Q b H2) → t σ H1 Q
theorem hb_of {b : Bool} (e : EvB t σ B b) : HB h c ns B t σ b := fun H1 s Q q => e H1 s.all Q fun H2 x => q H2 (s.grow x)
theorem hb_nor (a : HB h c ns B t σ false) (b : HB h c ns B u σ false) : HB h c ns B (tOr t u) σ false := fun H1 s Q q => a H1 s _ fun H2 s2 => b H2 s2 Q q
theorem bz_if (s : StB h c ns B H) (e : HB h c ns B t σ false) (k : ∀ H1, StB h c ns B H1 → tw { D with nx := ts D } σ H1) : tSeq (tIfS t tu tw) ts D σ H := e H s _ k
theorem bz_if1 (s : StB h c ns B H) (e : HB h c ns B t σ false) (k : ∀ H1, StB h c ns B H1 → tw D σ H1) : tIfS t tu tw D σ H := e H s _ k
theorem bz_set {i : Nat} {d : PyData} (s : StB h c ns B H) (e : EvD K te σ B d) (k : ∀ v H1, StB h c ns B H1 → Dp K H1 v d → ts D (σ.set i (some v)) H1) : tSeq (tAsg te (gName i)) ts D σ H := e H s.all _ fun v H1 x hv => k v H1 (s.grow x) hv
theorem bz_int {i : Nat} {P : Int → Prop} (s : StB h c ns B H) (e : EI h c ns te σ P) (k : ∀ n H1, StB h c ns B H1 → P n → ts D (σ.set i (some (.int n))) H1) : tSeq (tAsg te (gName i)) ts D σ H := e H s.hh _ fun n H1 a x p => k n H1 ⟨a, s.ex.trans x⟩ p
theorem hz_for {n j : Nat} {tb : TS} (hn : n ≤ 1000) (Pv : Nat → L2.St → Hp → Prop) (p0 : Pv 0 σ H) (step : ∀ i σ' H' (D' : Ends), i < n → Pv i σ' H' → (∀ σ2 H2, Pv (i + 1) σ2 H2 → D'.nx σ2 H2) → tb D' (σ'.set j (some (.int (i : Int)))) H') (fin : ∀ σ' H', Pv n σ' H' → ts D σ' H') :
    tSeq (tFor (iRng1 (tCons (tC (.int (n : Int))) tNil)) (gName j) tb) ts D σ H := by
  refine ⟨(n : Int), rfl, by omega, by omega, for_range (lo := 0) (n := (n : Int).toNat) Pv p0 (fun i σ' H' hi p => ?_) (fun σ' H' p => fin σ' H' (by rw [Int.toNat_natCast] at p; exact p))⟩
  rw [Int.zero_add]
  exact step i σ' H' _ (by omega) p fun σ2 H2 p2 => p2
theorem bz_if2 (s : StB h c ns B H) (e1 : EvB t σ H false) (e2 : HB h c ns B u σ false) (k : ∀ H1, StB h c ns B H1 → tw { D with nx := ts D } σ H1) : tSeq (tIfS (tOr t u) tu tw) ts D σ H := e1 H (Ex.refl H) _ fun H2 x => e2 H2 (s.grow x) _ k
theorem d_callK {C : Addr} {m : Str} {n : Nat} {f : List PyData → PyData → Prop} {g : List PyData → Str → Prop} {E : XK} {tk : TA} {ds : List PyData} {d : PyData} {ks : List Str} (e : EvDs K tk σ H ds) (hl : ds.length = n) (hk : ks.length = n) (hf : f ds.reverse d) :
    EvD K (tCallN 0 ks.length (spE K C m n f g) (fun vs zs => zs.reverse) E tNil tk) σ H d := fun H1 x Q k =>
  e H1 x _ fun vs H2 x2 hvs => ⟨rfl, (dps_len hvs).trans (hl.trans hk.symm), ds.reverse, by rw [List.length_reverse]; exact hl, dps_rev hvs, .inl ⟨d, hf, fun v H' x' hv => k v H' (x2.trans x') hv⟩⟩
theorem d_abs1 {i : Int} (e : EvD K te σ H (.int i)) : EvD K (tCB (fun xs H Q => ∃ i, xs = [.int i] ∧ Q (.int (if i < 0 then -i else i)) H) (tCons te tNil)) σ H (.int (if i < 0 then -i else i)) := fun H1 x Q k =>
  e H1 x _ fun v H2 x2 hv => by
    cases hv
    exact ⟨i, rfl, k _ H2 x2 (.int _)⟩
theorem three_rem {v : V} {n : Int} (hh : HandOk H h c ns) (x : Dp K H v (.list [.int n])) : Dp K (rem H h) v (.list [.int n]) := by
  obtain ⟨p, r, t, hx, _⟩ := hh
  cases x with
  | lst hs ha =>
    rename_i a xs
    obtain ⟨v1, ws, rfl, h1, h2⟩ := dps_cons ha
    obtain rfl := dps_nil h2
    cases h1
    refine .lst ?_ (.cons (.int _) .nil)
    rcases hs with (hq | ⟨u, hq⟩) | hk
    · have na : a ≠ h := fun e => by
        rw [e, hx] at hq
        injection hq with hq
        injection hq with hq
        injection hq with hq _
        cases hq
      exact .inl (.inl (by rw [rem_ne na]; exact hq))
    · have na : a ≠ h := fun e => by
        rw [e, hx] at hq
        injection hq with hq
        cases hq
      exact .inl (.inr ⟨u, by rw [rem_ne na]; exact hq⟩)
    · exact .inr hk
theorem d_intI {i : Int} (e : EvD K te σ H (.int i)) : EvD K (tCB (fun xs H Q => (∃ i, xs = [.int i] ∧ Q (.int i) H) ∨ ∃ k, xs = [.bl k] ∧ Q (.int (if k then 1 else 0)) H) (tCons te tNil)) σ H (.int i) := fun H1 x Q k =>
  e H1 x _ fun v H2 x2 hv => by
    cases hv
    exact .inl ⟨i, rfl, k _ H2 x2 (.int _)⟩
end
def T3 (t : Nat → Int) : List PyData := [.int (t 0), .int (t 1), .int (t 2)]
def R3 (z : Nat → Rat) : List PyData := [ratR (z 0), ratR (z 1), ratR (z 2)]
theorem lt3 {k : Nat} (h : k < 3) : k = 0 ∨ k = 1 ∨ k = 2 := by omega
theorem at_t {t : Nat → Int} {k : Nat} (h : k < 3) : atI (T3 t) (k : Int) = some (.int (t k)) := by
  rcases lt3 h with rfl | rfl | rfl <;> exact L2.atI_nat rfl
theorem at_r {z : Nat → Rat} {k : Nat} (h : k < 3) : atI (R3 z) (k : Int) = some (ratR (z k)) := by
  rcases lt3 h with rfl | rfl | rfl <;> exact L2.atI_nat rfl
theorem three_of {P : Int → Prop} {ds : List PyData} (hl : (ds.length : Int) = 3) (h : ∀ d ∈ ds, ∃ i : Int, d = .int i ∧ P i) : ∃ t : Nat → Int, ds = T3 t ∧ ∀ k, P (t k) := by
  match ds, hl with
  | [d0, d1, d2], _ =>
    obtain ⟨i0, rfl, p0⟩ := h d0 (List.Mem.head _)
    obtain ⟨i1, rfl, p1⟩ := h d1 (List.Mem.tail _ (List.Mem.head _))
    obtain ⟨i2, rfl, p2⟩ := h d2 (List.Mem.tail _ (List.Mem.tail _ (List.Mem.head _)))
    refine ⟨fun k => if k = 0 then i0 else if k = 1 then i1 else i2, rfl, fun k => ?_⟩
    show P (if k = 0 then i0 else if k = 1 then i1 else i2)
    by_cases a : k = 0
    · rw [if_pos a]; exact p0
    · rw [if_neg a]
      by_cases b : k = 1
      · rw [if_pos b]; exact p1
      · rw [if_neg b]; exact p2

end Dat
/-! A law's own def, called from where nothing is shown: repr of data in its body. -/
namespace Dat
open PySem PySem.Spec PyProof.Rows L2 Evl
/-- as FnOk, but only where no object is being shown around the call -/
structure FnG (P : Program) (w : World) (K : PySem.W.Frag) (mg : Str → Option Value) (base : Heap) (CX : CXT) (k : Nat) (f : Addr) (fd : FuncData) (ps : List Str) (sp : Sp) : Prop where
  len : ∀ vs H Q E, sp vs H Q E → vs.length = ps.length
  run : ∀ {A : Around}, A.guards = some [] → ∀ {outer : List Env} {s : Shared} {H : Hp} {args : Args} {us : List Value} {vs : List V} {Q : VK} {E : XK}, Room k A → Env0 P w K mg base A outer s H →
    BindsTo s fd args (ps.zip us) → Vals vs us → sp vs H Q E → codeAny (model P w) A (.call (.ref f) args) (CR CX outer P w H s Q E) s
section
variable {P : Program} {w : World} {K : PySem.W.Frag} {mg : Str → Option Value} {base : Heap}
theorem fun_okG {x qual : Str} {st : Stmt} {f : Addr} {fd : FuncData} {N ps : List Str} {k : Nat} {sp : Sp} (F : Fun K x qual st f fd) (S : FnScope N ps (defScope st))
    (ln : ∀ vs H Q E, sp vs H Q E → vs.length = ps.length)
    (hb : ∀ (cdv : Value) (A : Around), A.guards = some [] → ∀ (outer : List Env) (s : Shared) (H : Hp) (vs : List V) (Q : VK) (E : XK),
      Room k (A.deeper (envOfC qual (defScope st) s.heap.objs.size f cdv)) → sp vs H Q E →
      ∃ t, PSs (cxOf CX0 P w K mg base N qual (defScope st) f cdv A outer s H E).nox (defBody st) t ∧
        t { nx := fun _ H' => Q .non H', rt := Q } (start N vs) H) : FnG P w K mg base CX0 (k + 1) f fd ps sp := by
  obtain ⟨oc, od, kV, doc, pm, an, cdv, ct, osl, rfl, lk, hcd⟩ := F.ex
  constructor
  · exact ln
  intro A gA outer s H args us vs Q E room e0 bt rv want
  have same := ln vs H Q E want
  have inK : K.In s.heap := e0.mod.kin.keeps fun b o z => (e0.bs b o z).1
  have free : s.heap.NoLimit := e0.mod.nolimit.keeps fun b o z => (e0.bs b o z).1
  have kinds : ∀ y ∈ ps.zip us, (defScope st).names.lookup y.1 = some .local ∨
      ((defScope st).names.lookup y.1 = some .cell ∧ ((cellsFrom (s.heap.objs.size + 1) (defScope st).names []).lookup y.1).isSome = true) := by
    rintro ⟨n, v⟩ hy
    cases S.par n (List.of_mem_zip hy).1 with
    | inl q => exact .inl q
    | inr q => exact .inr ⟨q, PySem.W.cellsFrom_some _ _ _ (.inl q)⟩
  apply codeAny_call_function room.depth (inK _ _ lk) rfl S.co S.gen rfl (PySem.W.codeRec_of inK hcd)
  refine bt _ _ _ _ ?_
  apply wpAny_newFunctionEnv_cells S.kind kinds
  intro env he s1 x
  subst he
  refine ⟨free.keeps x.toInCall.keep, ?_⟩
  apply codeAny_func
  obtain ⟨t, ht, hq⟩ := hb cdv A gA outer s H vs Q E (room.deeper _) want
  have I0 := inv_start (CX := CX0) (E := E) S room.hd e0 same rv x
  have body := ht.nox.run [] s1 (start N vs) H _ I0 hq
  refine wpAny_mono body ?_ (fun e s' z => z)
  intro fl s' hs
  cases fl with
  | ret u => obtain ⟨v, σ', H', J, r2, q⟩ := hs; exact ⟨v, H', J.os, J.bare, J.base, J.hok, r2, q⟩
  | next => obtain ⟨σ', H', J, q⟩ := hs; exact ⟨V.non, H', J.os, J.bare, J.base, J.hok, (rfl : RelV V.non Value.none), q⟩
  | brk => obtain ⟨_, _, _, q⟩ := hs; cases q
  | cont => obtain ⟨_, _, _, q⟩ := hs; cases q
end
/-- the script's list, and nothing else, may be known at the start -/
theorem law_runG {P : Program} {w : World} {K : PySem.W.Frag} {mg mb : Str → Option Value} {CX : CXT} {k : Nat} {fa a : Addr} {fd : FuncData} {x : Str} {sp : Sp} {s₁ : Shared} {vs : List Value} {ns : List Int}
    (KX : K.In s₁.heap) (hns : s₁.heap.Ns mainGlobals mg) (hbn : s₁.heap.Ns builtinsNs mb) (hbb : ∀ x : Str, x ≠ "__name__" → mb x = bootBuiltins x) (hlim : s₁.heap.NoLimit)
    (hgens : s₁.gens = #[]) (ha : s₁.heap.get? a = some { cls := .type "list", data := .seq vs.toArray }) (hints : IntsAre vs ns) (hlen : ns.length ≤ sizeLine) (room : Room k callerA)
    (F : ∀ base : Heap, K.In base → base.Ns mainGlobals mg → FnG P w K mg base CX k fa fd [x] sp) (bind1 : ∀ (s : Shared) (u : Value), BindsTo s fd ⟨[u], []⟩ [(x, u)])
    (want : ∀ H : Hp, Only H → SqL K H a (ns.map V.int) → sp [.ref a] H (fun v _ => v = .bl true) fun _ _ _ => False) (hCX : ∀ H e s', CX [] H s₁ (fun _ _ _ => False) e s' → False) :
    codeAny (model P w) callerA (.call (.ref fa) ⟨[.ref a], []⟩) (fun r s' => r = .ok (.ret (.bool true)) ∧ OldK s₁.heap s'.heap ∧ s'.os = s₁.os ∧ AllBare s'.gens) s₁ := by
  have vals := vals_ints hints
  have many := hints.length
  have main : ∀ H : Hp, Only H → SqL K H a (ns.map V.int) → HOk P w H s₁.heap → (∀ b, H b ≠ none → b = a) → (H a ≠ none → K.lookup a = none) →
      codeAny (model P w) callerA (.call (.ref fa) ⟨[.ref a], []⟩) (fun r s' => r = .ok (.ret (.bool true)) ∧ OldK s₁.heap s'.heap ∧ s'.os = s₁.os ∧ AllBare s'.gens) s₁ := by
    intro H hO hS hok only hidden
    have alone : ∀ {b : Addr} {u : HO}, H b = some u → b = a := fun {b u} q => only b (by rw [q]; exact nofun)
    have there : ∀ {b : Addr} {o : Obj}, s₁.heap.get? b = some o → H b = none → (hidT s₁.heap H).get? b = some o := fun z n => hidT_get z n
    have none_at : ∀ {b : Addr} {o : Obj} {es : Array DictEntry} {ep : Nat}, s₁.heap.get? b = some o → o.data = .dict es ep → H b = none := by
      intro b o es ep z d
      by_cases q : H b = none
      · exact q
      · cases only b q
        rw [ha] at z
        cases z
        cases d
    have names : ∀ {b : Addr} {m : Str → Option Value}, s₁.heap.Ns b m → (hidT s₁.heap H).Ns b m := by
      rintro b m ⟨o, es, ep, z, d, rest⟩
      exact ⟨o, es, ep, there z (none_at z d), d, rest⟩
    have KB : K.In (hidT s₁.heap H) := by
      intro b o z
      refine there (KX b o z) ?_
      by_cases q : H b = none
      · exact q
      · cases only b q
        rw [hidden q] at z
        cases z
    obtain ⟨mc, l1, l2⟩ := hlim
    have M : Mod K mg (hidT s₁.heap H) := ⟨KB, names hns, ⟨mb, names hbn, hbb⟩, ⟨mc, names l1, l2⟩⟩
    have e0 : Env0 P w K mg (hidT s₁.heap H) callerA [] s₁ H := { frames := rfl, mod := M, bs := fun b o z => of_hidT z, bsz := Nat.le_of_eq (hidT_size _ _), funs := trivial, frf := (fun b z => by cases z), hok := hok, bare := .of_eq hgens }
    have ran := (F _ KB (names hns)).run (A := callerA) rfl (us := [.ref a]) (vs := [V.ref a]) room e0 (bind1 s₁ (.ref a)) (.cons rfl .nil) (want H hO hS)
    refine codeAny_mono ran ?_
    intro r s' z
    cases r with
    | error e => cases hCX H e s' z
    | ok fl =>
      cases fl with
      | next => cases z
      | brk => cases z
      | cont => cases z
      | ret u =>
        obtain ⟨v, H', os, bare, un, hok', r', q⟩ := z
        cases (show v = .bl true from q)
        cases (show u = Value.bool true from r')
        refine ⟨rfl, OldK.of_keep ?_, os, bare⟩
        intro b o z
        by_cases q : H b = none
        · exact un.keep b o z q (fun m => by cases (show b ∈ ([] : List Addr) from m)) (fun m => by cases m)
        · cases hO b with
          | inl n => exact absurd n q
          | inr n =>
            obtain ⟨ob, xs, n⟩ := n
            have e1 := (hok b _ n).1
            have e2 := (hok' b _ (un.frzs b ob _ n)).1
            rw [z] at e1
            cases e1
            exact e2
  cases hk : K.lookup a with
  | some o =>
    have z := KX a o hk
    rw [ha] at z
    cases z
    exact main (fun _ => none) (fun _ => .inl rfl) (.inr ⟨_, vs.toArray, _, hk, rfl, rfl, rfl, by rw [List.size_toArray, many]; exact hlen, by simpa using vals⟩)
      (fun b u z => by cases (show (none : Option HO) = some u from z)) (fun b z => absurd rfl z) (fun z => absurd rfl z)
  | none =>
    have at_a : ∀ b, b = a → (if b = a then some (HO.frz { cls := .type "list", data := .seq vs.toArray } (.lst (ns.map V.int))) else none) = some (HO.frz { cls := .type "list", data := .seq vs.toArray } (.lst (ns.map V.int))) := fun b q => if_pos q
    refine main (fun b => if b = a then some (.frz { cls := .type "list", data := .seq vs.toArray } (.lst (ns.map V.int))) else none) ?_ (.inl (.inr ⟨_, at_a a rfl⟩)) ?_ ?_ (fun _ => hk)
    · intro b
      by_cases q : b = a
      · exact .inr ⟨_, _, at_a b q⟩
      · exact .inl (if_neg q)
    · intro b u z
      by_cases q : b = a
      · subst q
        cases (at_a b rfl).symm.trans z
        exact ⟨ha, by rw [List.length_map]; exact hlen, vs, _, vals, ha⟩
      · cases (if_neg q).symm.trans z
    · intro b z
      by_cases q : b = a
      · exact q
      · exact absurd (if_neg q) z
theorem walk_G {l : PySem.W.OpenLaw} {n k : Nat} {q : Program} {loose : List Str} {XP : (Str → Option Value) → Heap → Prop} {YP : World → Heap → Prop} {d : DefRec} {CX : CXT} {x : Str}
    (most : l.most = some n) (fits : n ≤ sizeLine) (plain : d.params.defaults = []) (room : Room k callerA)
    (F : ∀ (w : World) (mg : Str → Option Value) (fa : Addr) (h : Heap), YP w h → h.Ns mainGlobals mg → mg d.name = some (.ref fa) → ∃ (K : PySem.W.Frag) (fd : FuncData) (sp : Sp), K.In h ∧ (∀ (s : Shared) (u : Value), BindsTo s fd ⟨[u], []⟩ [(x, u)]) ∧
        (∀ (H : Hp) (a : Addr) (ns : List Int), ns.length ≤ n → Only H → SqL K H a (ns.map V.int) → sp [.ref a] H (fun v _ => v = .bl true) fun _ _ _ => False) ∧ ∀ base : Heap, K.In base → base.Ns mainGlobals mg → FnG l.prog w K mg base CX k fa fd [x] sp)
    (none_out : ∀ (H : Hp) (s : Shared) (e : Value) (s' : Shared), CX [] H s (fun _ _ _ => False) e s' → False) : PySem.W.WalkO q loose XP YP l.row.toRowW d [] (fun f vs => PySem.call f vs) := by
  apply Att.attach_call most plain
  intro w s₀ s₁ mg mb fa o pm cd doc a vs ns G Y ho hd hcd hmg hobj hints hlen hgens
  obtain ⟨K, fd, sp, KX, hb, hsp, hF⟩ := F w mg fa _ Y G.T.g hmg
  exact law_runG KX G.T.g G.T.b G.T.builtins G.T.nolimit hgens hobj hints (Nat.le_trans hlen fits) room hF hb (fun H hO hS => hsp H a ns hlen hO hS) (fun H e s' => none_out H s₁ e s')
/-! ### repr of data -/
def rRepr (K : PySem.W.Frag) : List V → Hp → VK → Prop := fun xs H Q => ∃ a d, xs = [.ref a] ∧ Dp K H (.ref a) d ∧ d.hasDict = false ∧ d.showable = true ∧ d.depth ≤ 60 ∧ d.shown.length ≤ sizeLine ∧ Q (.str d.shown) H
theorem call_repr {X : Cx} (hg : X.A.guards = some []) (hu : X.A.units + 64 < cLine) : CallR X (.builtin "repr") (rRepr X.K) := by
  intro pins s σ H xs us Q I r h
  obtain ⟨a, d, rfl, hd, nd, sh, dp, sz, q⟩ := h
  cases r with
  | cons r1 rt =>
    cases rt
    cases (show _ = Value.ref a from r1)
    obtain ⟨as, rd⟩ := Dp.reads I d (.ref a) (.ref a) hd rfl
    exact repr_of_reads' rd sh (PyData.noDict_hsm nd) hg (by omega) (fun _ _ z => z) (fun h' u tk hk => ⟨.str d.shown, H, I.kept hk, ⟨_, rfl⟩, q⟩) sz
section
variable {K : PySem.W.Frag} {te : TE} {σ : L2.St} {H : Hp} {d : PyData}
def isRefD : PyData → Bool
  | .list _ => true
  | .tuple _ => true
  | _ => false
theorem d_repr (h : EvD K te σ H d) (hr : isRefD d = true) (nd : d.hasDict = false) (sh : d.showable = true) (dp : d.depth ≤ 60) (sz : d.shown.length ≤ sizeLine) : EvD K (tCB (rRepr K) (tCons te tNil)) σ H (.str d.shown) := fun H1 x Q k =>
  h H1 x _ fun v H2 x2 hv => by
    obtain ⟨a, rfl⟩ : ∃ a, v = .ref a := by
      cases hv <;> first | exact ⟨_, rfl⟩ | cases hr
    exact ⟨a, d, rfl, hv, nd, sh, dp, sz, k _ H2 x2 (.str _)⟩
end
end Dat
namespace Dat
open PySem PySem.Spec PyProof.Rows L2 Evl
structure Bl2 (mg : Str → Option Value) : Prop where
  b_max : mg "max" = none
  b_min : mg "min" = none
  b_repr : mg "repr" = none
  b_sorted : mg "sorted" = none
  b_zip : mg "zip" = none
  b_sum : mg "sum" = none
  b_set : mg "set" = none
  b_reversed : mg "reversed" = none
section
variable {K : PySem.W.Frag} {te tb : TE} {tw ts : TS} {ta : TA} {σ : L2.St} {H : Hp} {D : Ends} {i j : Int}
theorem d_max2 (h : EvD K te σ H (.int i)) (r : EvD K tb σ H (.int j)) : EvD K (tCB (fun xs H Q => ∃ i j, xs = [.int i, .int j] ∧ Q (.int (if j > i then j else i)) H) (tCons te (tCons tb tNil))) σ H (.int (max i j)) := fun H1 x Q k =>
  h H1 x _ fun v H2 x2 hv => r H2 (x.trans x2) _ fun w H3 x3 hw => by
    cases hv
    cases hw
    refine ⟨i, j, rfl, ?_⟩
    have e : (if j > i then j else i) = max i j := by split <;> omega
    rw [e]
    exact k _ H3 (x2.trans x3) (.int _)
theorem d_min2 (h : EvD K te σ H (.int i)) (r : EvD K tb σ H (.int j)) : EvD K (tCB (fun xs H Q => ∃ i j, xs = [.int i, .int j] ∧ Q (.int (if j < i then j else i)) H) (tCons te (tCons tb tNil))) σ H (.int (min i j)) := fun H1 x Q k =>
  h H1 x _ fun v H2 x2 hv => r H2 (x.trans x2) _ fun w H3 x3 hw => by
    cases hv
    cases hw
    refine ⟨i, j, rfl, ?_⟩
    have e : (if j < i then j else i) = min i j := by split <;> omega
    rw [e]
    exact k _ H3 (x2.trans x3) (.int _)
/-- for x in range(a, b) -/
theorem z_forR {jj : Nat} {a b : Int} (h : EvDs K ta σ H [.int a, .int b]) (h0 : -100000 ≤ a ∧ a ≤ 100000) (hn : -100000 ≤ b ∧ b ≤ 100000) (Pv : Nat → L2.St → Hp → Prop) (p0 : ∀ H1, Ex H H1 → Pv 0 σ H1)
    (step : ∀ (i : Nat) σ' H' (D' : Ends), a + (i : Int) < b → Ex H H' → Pv i σ' H' → D'.rt = D.rt → (∀ σ2 H2, Ex H' H2 → Pv (i + 1) σ2 H2 → D'.nx σ2 H2) → tw D' (σ'.set jj (some (.int (a + (i : Int))))) H')
    (fin : ∀ σ' H', Ex H H' → Pv (b - a).toNat σ' H' → ts D σ' H') : tSeq (tFor (iRng2 ta) (gName jj) tw) ts D σ H := h H (Ex.refl H) _ fun vs H1 e hv => by
  obtain ⟨x, ws, rfl, h1, hv⟩ := dps_cons hv
  obtain ⟨y, ws, rfl, h2, hv⟩ := dps_cons hv
  obtain rfl := dps_nil hv
  cases h1
  cases h2
  refine ⟨a, b, rfl, ⟨by omega, by omega, by omega, by omega⟩, for_range (lo := a) (n := (b - a).toNat) (fun i σ' H' => Ex H1 H' ∧ Pv i σ' H') ⟨Ex.refl H1, p0 _ e⟩ (fun i σ' H' hi p => ?_) (fun σ' H' p => fin σ' H' (e.trans p.1) p.2)⟩
  exact step i σ' H' _ (by omega) (e.trans p.1) p.2 rfl fun σ2 H2 e2 p2 => ⟨p.1.trans e2, p2⟩
end
end Dat
/-! Draws with limits that are reckoned, drawn lists known apart, lists that grow beside the hand. -/
namespace Dat
open PySem L2 Evl
section
variable {K : PySem.W.Frag} {σ : L2.St} {te tb tx : TE} {ta : TA} {h c : Addr} {ns : List Int}
/-- a number that pure words come to -/
theorem i_of {P : Int → Prop} {i : Int} (e : ∀ H, EvD K te σ H (.int i)) (p : P i) : EI h c ns te σ P := fun H1 hh Q q => e H1 H1 (Ex.refl H1) _ fun v H2 x hv => by
  cases hv
  exact q i H2 (hand_grow x hh) (ex_rem x) p
/-- a draw below a number that is reckoned -/
theorem i_drawE {Pm P : Int → Prop} {j : Nat} (s : σ[j]? = some (some (.ref h))) (m : EI h c ns te σ Pm) (b : ∀ n, Pm n → 0 < n ∧ n.natAbs < 2 ^ 1000) (p : ∀ n i, Pm n → 0 ≤ i → i < n → P i) : EI h c ns (tCall spDraw [] E0 (tCons (tVar j) (tCons te tNil))) σ P := fun H1 hh Q q =>
  ⟨_, s, m H1 hh _ fun n H2 hh2 e2 pn => ⟨h, c, ns, n, rfl, (b n pn).1, (b n pn).2, hh2, fun r H3 r0 r1 hh3 he3 => q r H3 hh3 (e2.trans (by rw [rem_same he3]; exact Ex.refl _)) (p n r pn r0 r1)⟩⟩
theorem i_mul {P1 P2 P : Int → Prop} (a : EI h c ns te σ P1) (b : EI h c ns tb σ P2) (w : ∀ i j, P1 i → P2 j → CMulW i j) (p : ∀ i j, P1 i → P2 j → P (i * j)) : EI h c ns (tOp (rI CMulW fun i j => .int (i * j)) te tb) σ P := fun H1 hh Q q =>
  a H1 hh _ fun i H2 hh2 e2 p1 => b H2 hh2 _ fun j H3 hh3 e3 p2 => ⟨i, j, rfl, rfl, w i j p1 p2, q _ H3 hh3 (e2.trans e3) (p i j p1 p2)⟩
theorem d_pow {H : Hp} {i j : Int} (h : EvD K te σ H (.int i)) (r : EvD K tb σ H (.int j)) (hc : CPow i j) : EvD K (tOp (rI CPow fun i j => .int (i ^ j.toNat)) te tb) σ H (.int (i ^ j.toNat)) := d_I h r hc fun _ => .int _
theorem d_eqS {H : Hp} {x y : Str} (h : EvD K te σ H (.str x)) (r : EvD K tb σ H (.str y)) : EvD K (tOp rEq te tb) σ H (.bool (decide (x = y))) := fun H1 x0 Q k =>
  h H1 x0 _ fun v H2 x2 hv => r H2 (x0.trans x2) _ fun w H3 x3 hw => by
    cases hv
    cases hw
    refine ⟨rfl, ?_⟩
    have z : decide (V.str x = V.str y) = decide (x = y) := by
      by_cases q : x = y
      · subst q
        rw [decide_eq_true rfl, decide_eq_true rfl]
      · rw [decide_eq_false q, decide_eq_false (fun z => q (V.str.inj z))]
    rw [z]
    exact k _ H3 (x2.trans x3) (.bl _)
theorem ints_any {H H' : Hp} : ∀ {xs : List V} {is : List Int}, DpAll K H xs (is.map PyData.int) → DpAll K H' xs (is.map PyData.int)
  | _, [], h => by
    obtain rfl := dps_nil h
    exact .nil
  | _, i :: is, h => by
    obtain ⟨v, ws, rfl, h1, h2⟩ := dps_cons h
    cases h1
    exact .cons (.int i) (ints_any h2)
theorem ints_of {P : Int → Prop} : ∀ {ds : List PyData}, (∀ d ∈ ds, flat d = true ∧ ∃ i : Int, d = .int i ∧ P i) → ∃ is : List Int, ds = is.map PyData.int ∧ ∀ i ∈ is, P i
  | [], _ => ⟨[], rfl, fun _ h => by cases h⟩
  | d :: ds, h => by
    obtain ⟨is, e, hi⟩ := ints_of (ds := ds) fun z hz => h z (List.mem_cons_of_mem _ hz)
    obtain ⟨_, i, rfl, pi⟩ := h d List.mem_cons_self
    refine ⟨i :: is, by rw [e]; rfl, fun r hr => ?_⟩
    rcases List.mem_cons.mp hr with q | q
    · rw [q]; exact pi
    · exact hi r q
theorem hand_ne {H : Hp} {p : Addr} (hh : HandOk H h c ns) (hp : H p = none) : p ≠ h ∧ p ≠ c := by
  obtain ⟨_, _, _, h1, h2, _⟩ := hh
  constructor
  · intro e
    rw [← e, hp] at h1
    cases h1
  · intro e
    rw [← e, hp] at h2
    cases h2
/-- [.. for k in range(n)], the new list known apart -/
theorem eh_new {j : Nat} {vs : List Nat} {Pn : Int → Prop} {P : PyData → Prop} (hn : EI h c ns tb σ Pn) (hp : ∀ n, Pn n → 0 ≤ n ∧ n ≤ 40000) (hw : ∀ x, wipe ((wipe σ vs).set j (some x)) vs = wipe σ vs)
    (he : ∀ i : Nat, EH K h c ns te ((wipe σ vs).set j (some (.int (i : Int)))) P) :
    ∀ H1, HandOk H1 h c ns → ∀ Q : VK, (∀ p xs ds H2, H1 p = none → HandOk H2 h c ns → Ex (rem H1 h) (rem (rem H2 h) p) → H2 p = some (.lst xs) → DpAll K (rem (rem H2 h) p) xs ds → Pn (ds.length : Int) → (∀ d ∈ ds, flat d = true ∧ P d) → Q (.ref p) H2) → tLc (iRng1 (tCons tb tNil)) (gName j) tYes te vs σ H1 Q := fun H1 hh Q q => by
  refine hn H1 hh _ fun n H2 hh2 e2 pn => ?_
  obtain ⟨n0, n1⟩ := hp n pn
  obtain ⟨m, rfl⟩ := Int.eq_ofNat_of_zero_le n0
  refine ⟨_, rfl, by omega, by omega, fun D hD => ?_⟩
  obtain ⟨nD, nC⟩ := hand_ne hh2 hD
  have hD1 : H1 D = none := by
    cases z : H1 D with
    | none => rfl
    | some o =>
      have := e2 D o (by rw [rem_ne nD]; exact z)
      rw [rem_ne nD, hD] at this
      cases this
  refine lc_range (lo := 0) (n := (m : Int).toNat) (fun i H' => HandOk H' h c ns ∧ ∃ acc ds, H' D = some (.lst acc) ∧ ds.length = i ∧ Ex (rem H2 h) (rem (rem H' h) D) ∧ DpAll K (rem (rem H' h) D) acc ds ∧ ∀ d ∈ ds, flat d = true ∧ P d)
    ⟨hand_new hh2 hD, [], [], upd_same, rfl, ?_, .nil, fun d z => by cases z⟩ ?_ ?_
  · rw [rem_upd2]
    intro b o hb
    have nb : b ≠ D := fun e => by
      rw [e, rem_ne nD, hD] at hb
      cases hb
    rw [rem_ne nb]
    exact hb
  · rintro i H' hi ⟨hh', acc, ds, hacc, hlen, ex, hall, hds⟩
    have hlen2 : acc.length = ds.length := dps_len hall
    have z0 : (0 : Int) + (i : Int) = (i : Int) := Int.zero_add _
    rw [z0]
    refine ⟨hw _, yes_turn (he i H' hh' _ fun v d H3 hh3 e3 hv fd pd => ?_)⟩
    have hD3 : H3 D = some (.lst acc) := by
      have := e3 D (.lst acc) (by rw [rem_ne nD]; exact hacc)
      rw [rem_ne nD] at this
      exact this
    have hD4 : (rem H3 h) D = some (.lst acc) := by rw [rem_ne nD]; exact hD3
    have m2 : (m : Int).toNat = m := Int.toNat_natCast m
    refine ⟨acc, hD3, sz_lt (by omega), hand_upd hh3 (Ne.symm nD) (Ne.symm nC), acc ++ [v], ds ++ [d], upd_same, by rw [List.length_append, hlen]; rfl, ?_, ?_, ?_⟩
    · rw [rem_upd2]
      exact ex.trans (ex_rem e3)
    · rw [rem_upd2]
      exact dps_app (dps_grow (ex_rem e3) _ _ hall) (.cons (dp_rem hD4 noTup_l _ _ fd hv) .nil)
    · intro z hz
      rcases List.mem_append.mp hz with hz | hz
      · exact hds z hz
      · have : z = d := by simpa using hz
        subst this
        exact ⟨fd, pd⟩
  · rintro H3 ⟨hh3, acc, ds, hacc, hlen, ex, hall, hds⟩
    exact q D acc ds H3 hD1 hh3 (e2.trans ex) hacc hall (by rw [hlen, Int.toNat_natCast]; exact pn) hds
variable {D : Ends} {ts tu : TS} {H B : Hp}
/-- xs.append(e), e draws; the last one of a block -/
theorem hz_append1 {L : Addr} {vs : List V} {i : Nat} {S : V → Hp → Prop} (hσ : σ[i]? = some (some (.ref L))) (hL : H L = some (.lst vs)) (hl : vs.length ≤ 1000) (a : ∀ Q : VK, (∀ v H2, S v H2 → H2 L = some (.lst vs) → Q v H2) → te σ H Q)
    (k : ∀ v H2, S v H2 → H2 L = some (.lst vs) → D.nx σ (upd H2 L (.lst (vs ++ [v])))) : tDrop (tBM K "list" rAppend (tVar i) (tCons te tNil)) D σ H :=
  ⟨_, hσ, .inl ⟨rfl, _, SqL.of hL⟩, a _ fun v H2 s hL2 => ⟨L, vs, v, rfl, rfl, hL2, sz_lt (by omega), k v H2 s hL2⟩⟩
theorem rem_comm {a b : Addr} : rem (rem H a) b = rem (rem H b) a := funext fun x => by
  by_cases p : x = a
  · subst p
    by_cases q : x = b
    · subst q; rfl
    · rw [rem_ne q, rem_self, rem_self]
  · by_cases q : x = b
    · subst q
      rw [rem_self, rem_ne p, rem_self]
    · rw [rem_ne q, rem_ne p, rem_ne p, rem_ne q]
theorem rem_new2 {p L : Addr} {o : HO} (hp : H p = none) : Ex (rem H L) (rem (upd H p o) L) := ex_rem (Ex.new hp)
/-- drawn data: the base that stands behind it has the new things too -/
theorem bz_data {j : Nat} {P : PyData → Prop} (s : StB h c ns B H) (a : EH K h c ns te σ P) (k : ∀ v d H1 B1, StB h c ns B1 H1 → Ex B B1 → Dp K B1 v d → flat d = true → P d → ts D (σ.set j (some v)) H1) : tSeq (tAsg te (gName j)) ts D σ H :=
  a H s.hh _ fun v d H1 hh1 x hv f p => k v d H1 (rem H1 h) ⟨hh1, Ex.refl _⟩ (s.ex.trans x) hv f p
end
end Dat
namespace Dat
open PySem L2 Evl
def rTupOf (K : PySem.W.Frag) : List V → Hp → VK → Prop := fun xs H Q => ∃ p ys, xs = [.ref p] ∧ ((SqL K H p ys ∧ ∀ l, H l = none → Q (.ref l) (upd H l (.tup ys))) ∨ (SqT K H p ys ∧ Q (.ref p) H))
theorem call_tupOf {X : Cx} : CallR X (.type "tuple") (rTupOf X.K) := call_tuple_of
section
variable {K : PySem.W.Frag} {te : TE} {σ : L2.St} {H : Hp} {ds : List PyData}
theorem d_tupOf (h : EvD K te σ H (.list ds)) : EvD K (tCB (rTupOf K) (tCons te tNil)) σ H (.tuple ds) := d_tupL h
theorem b_yes : EvB tYes σ H true := fun H1 _ Q q => q H1 (Ex.refl H1)
end
end Dat
namespace Dat
open PySem L2 Evl
/-- a new plain list, and that it is new -/
def EvF (K : PySem.W.Frag) (te : TE) (σ : L2.St) (H : Hp) (ds : List PyData) : Prop := ∀ H1, Ex H H1 → ∀ Q : VK, (∀ p xs H2, H1 p = none → Ex H1 H2 → H2 p = some (.lst xs) → DpAll K H2 xs ds → Q (.ref p) H2) → te σ H1 Q
section
variable {K : PySem.W.Frag} {te tb : TE} {ta : TA} {σ : L2.St} {H : Hp} {D : Ends} {ts : TS} {ds es : List PyData}
theorem none_back {H1 H2 : Hp} {p : Addr} (x : Ex H1 H2) (h : H2 p = none) : H1 p = none := by
  cases z : H1 p with
  | none => rfl
  | some o =>
    rw [x _ _ z] at h
    cases h
theorem f_lst (h : EvDs K ta σ H ds) (hl : ds.length ≤ 1000) : EvF K (tLst ta) σ H ds := fun H1 x Q k =>
  h H1 x _ fun vs H2 x2 hvs => ⟨sz_of (by rw [dps_len hvs]; omega), fun p hp => k p vs _ (none_back x2 hp) (x2.trans (Ex.new hp)) upd_same (dps_grow (Ex.new hp) _ _ hvs)⟩
theorem f_cat (h : EvW K te σ H ds) (r : EvW K tb σ H es) (hl : ds.length ≤ 1000) (hl' : es.length ≤ 1000) : EvF K (tOp rCat te tb) σ H (ds ++ es) := fun H1 e Q k =>
  h H1 e _ fun p xs H2 e2 hx ha => r H2 (e.trans e2) _ fun q ys H3 e3 hy hb => ⟨p, q, xs, ys, rfl, rfl, e3 _ _ hx, hy, sz_of (by rw [dps_len ha, dps_len hb]; omega), fun n hn =>
    k n _ _ (none_back (e2.trans e3) hn) ((e2.trans e3).trans (Ex.new hn)) upd_same (dps_app (dps_grow (e3.trans (Ex.new hn)) _ _ ha) (dps_grow (Ex.new hn) _ _ hb))⟩
theorem z_fresh {i : Nat} (h : EvF K te σ H ds) (k : ∀ p xs H2, H p = none → Ex H H2 → H2 p = some (.lst xs) → DpAll K H2 xs ds → ts D (σ.set i (some (.ref p))) H2) : tSeq (tAsg te (gName i)) ts D σ H := h H (Ex.refl H) _ k
theorem z_fresh1 {i : Nat} (h : EvF K te σ H ds) (k : ∀ p xs H2, H p = none → Ex H H2 → H2 p = some (.lst xs) → DpAll K H2 xs ds → D.nx (σ.set i (some (.ref p))) H2) : tAsg te (gName i) D σ H := h H (Ex.refl H) _ k
/-- what stands but for a new object -/
theorem ex_fresh {B : Hp} {p : Addr} (x : Ex B H) (hp : B p = none) : Ex B (rem H p) := fun a o e => by
  have n : a ≠ p := fun q => by
    rw [q, hp] at e
    cases e
  rw [rem_ne n]
  exact x _ _ e
theorem flats_ints : ∀ is : List Int, flats (is.map PyData.int) = true
  | [] => rfl
  | i :: is => by
    show (true && flats (is.map PyData.int)) = true
    rw [flats_ints is]
    rfl
theorem flats_rats : ∀ zs : List Rat, flats (zs.map ratR) = true
  | [] => rfl
  | z :: zs => by
    show (true && flats (zs.map ratR)) = true
    rw [flats_rats zs]
    rfl
end
end Dat
namespace Dat
open PySem L2 Evl
section
variable {K : PySem.W.Frag} {te tb : TE} {σ : L2.St} {H : Hp}
theorem d_sameN {n : Nat} {E : XK} {a : PyData} (g : goodN n a = true) (h : EvD K te σ H a) (r : EvD K tb σ H a) : EvD K (tCall (spD K 2 (fSame n)) [] E (tCons te (tCons tb tNil))) σ H (.bool true) :=
  d_call (ds_cons h (ds_cons r ds_nil)) rfl ⟨_, _, rfl, good_dep g, by rw [good_same g]⟩
theorem b_same {E : XK} {a : PyData} (g : goodN 2 a = true) (h : EvD K te σ H a) (r : EvD K tb σ H a) : EvB (tNot (tB (tCall (spD K 2 (fSame 2)) [] E (tCons te (tCons tb tNil))))) σ H false := b_not (b_val (d_sameN g h r))
theorem b_nor {t u : TT} (h : EvB t σ H false) (r : EvB u σ H false) : EvB (tOr t u) σ H false := b_is (b_or (a := false) (b := false) h (fun _ => r)) rfl
end
end Dat
/-! Several clauses 'except x as n', all with one name. -/
namespace Dat
open PySem PySem.Spec PyProof.Rows L2 Evl
abbrev Clause := Value × (Addr → Value → Option Addr → TS)
/-- what the clauses, all with the name at slot i, wish of an exception -/
def wEach (K : PySem.W.Frag) (i : Nat) (Wout : WX) (D : Ends) : List Clause → WX
  | [] => Wout
  | p :: r => wAs K p.1 i p.2 (wEach K i Wout D r) D
inductive HsAs (X : Cx) (n : Str) : List ExceptHandler → List Clause → Prop
  | nil : HsAs X n [] []
  | cons {x : Str} {c : Value} {ts : Addr → Value → Option Addr → TS} {b₀ : Stmt} {suite : List Stmt} {np pos' : Pos} {hs : List ExceptHandler} {l : List Clause} (nm : Names X x c)
      (su : ∀ (a : Addr) (oe : Obj) (cls : Value) (d : Option Addr) (pn : List (Addr × Obj)), Zc cls d oe → (∃ vs, oe.data = .fields vs) → PSs (X.suite a ((a, oe) :: pn)) (b₀ :: suite) (ts a cls d)) (rest : HsAs X n hs l) :
      HsAs X n (.ExceptHandler (some (.Name x np)) (some n) (b₀ :: suite) pos' :: hs) ((c, ts) :: l)
/-- the exception at a, of class cls, its fields at d, has landed in the frame: s is the state there -/
structure Landed (X : Cx) (pins : List (Addr × Obj)) (σ : L2.St) (H : Hp) (cls : Value) (d : Option Addr) (a : Addr) (B : Heap) (sI s : Shared) : Prop where
  inv : Inv X pins σ H sI
  box : ∀ b o, sI.heap.get? b = some o → b ∉ frs X.stack → B.get? b = some o
  up : sI.heap.UpToSlots s.heap
  fly : HandSPX.FlyingZ B (X.env :: X.outer) a (Zc cls d) s.heap
  na : H a = none
  os : s.os = sI.os
  ag : AllBare s.gens
section
variable {X : Cx} {n : Str} {i : Nat} {Wout : WX} {pins : List (Addr × Obj)} {σ : L2.St} {H : Hp} {D : Ends} {a : Addr} {B : Heap} {sI s : Shared} {cls : Value} {d : Option Addr}
theorem Landed.here (L : Landed X pins σ H cls d a B sI s) : Inv X pins σ H s := L.inv.landed L.box L.fly.1 L.up L.os L.ag
/-- the state, the exception's own place beside it -/
theorem Landed.at_ (L : Landed X pins σ H cls d a B sI s) (hf : X.env.frame = some X.env.locals) : ∃ oe : Obj, s.heap.get? a = some oe ∧ Zc cls d oe ∧ (∃ vs, oe.data = .fields vs) ∧ Inv (X.suite a ((a, oe) :: (X.pn ++ pins))) [] σ H s := by
  obtain ⟨oe, vs, he, hz, hd⟩ := L.fly.there
  have off : a ∉ frs (X.env :: X.outer) := by
    intro hm
    obtain ⟨_, o', e', q⟩ := L.fly.2.2.1.mem hm
    cases he.symm.trans e'
    exact q _ hd
  have nL : a ≠ X.env.locals := fun z => off (List.mem_filterMap.mpr ⟨X.env, List.mem_cons_self, by rw [hf, z]⟩)
  have nF : a ∉ X.fs := by
    intro hm
    obtain ⟨e, he, q⟩ := List.mem_filterMap.mp hm
    exact off (List.mem_filterMap.mpr ⟨e, List.mem_cons_of_mem _ he, q⟩)
  exact ⟨oe, he, hz, ⟨vs, hd⟩, L.here.suite he hd L.na nL nF⟩
/-- no clause is left: out with it -/
theorem Landed.out (L : Landed X pins σ H cls d a B sI s) (hs : X.stack = X.env :: X.outer) (hf : X.env.frame = some X.env.locals) (tk : Takes X Wout) (w : Wout cls d σ H) : wpAny (model X.prog X.w) X.A (handleBy (.ref a) X.env []) (SP X pins D) X.xe s := by
  apply wpAny_handleBy_nil
  obtain ⟨_, _, _, oe, vs, T, oT, _, he, _, hd, h1, _⟩ := id L.fly
  have away : wpAny (model X.prog X.w) X.A (setFlight (.ref a) X.env.frame) (fun _ s4 => wpAny (model X.prog X.w) X.A (throw (.ref a) : Sem Flow) (SP X pins D) X.xe s4) X.xe s := by
    rw [hf]
    apply HandSPX.setFlight_upZ L.fly
    intro h4 hh4 up4
    apply wpAny_throw
    refine tk _ _ ⟨a, B, sI, pins, σ, H, cls, d, rfl, L.inv, L.box, L.up.trans up4, .inr (.inr ?_), L.na, L.os, L.ag, w⟩
    rw [hs]
    exact hh4
  unfold PySem.passOn
  refine wpAny_bind (wpAny_field he hd h1 ?_)
  rw [if_neg (by simp : ¬ ((Value.ref T == Value.none) = true))]
  first
    | exact wpAny_bind away
    | exact wpAny_bind (wpAny_pure (wpAny_bind away))
theorem Landed.walk (hs : X.stack = X.env :: X.outer) (hf : X.env.frame = some X.env.locals) (hN : X.N.Nodup) (hi : X.N[i]? = some n) (hln : X.env.kindOf n = some .local) (tk : Takes X Wout) :
    ∀ {hds : List ExceptHandler} {l : List Clause} {s : Shared}, HsAs X n hds l → Landed X pins σ H cls d a B sI s → wEach X.K i Wout D l cls d σ H → wpAny (model X.prog X.w) X.A (handleBy (.ref a) X.env hds) (SP X pins D) X.xe s := by
  intro hds l s hk L
  induction hk with
  | nil => exact fun w => L.out hs hf tk w
  | @cons x c ts b₀ suite np pos' hds2 l2 nm su rest ih =>
    rintro ⟨b, hb, yes, no⟩
    obtain ⟨oe, he, hz, _, S⟩ := L.at_ hf
    refine wpAny_handleBy_cons (codeAny_handlers_test ?_) (by intro q; cases q)
    have typ : PySem.W.Looks (model X.prog X.w) s.heap (typeOf (.ref a)) cls := fun A Q E s k q => wpAny_typeOf_ref (k _ _ he) (by rw [hz.1]; exact q)
    have cmp := PySem.W.exm_one (M := model X.prog X.w) L.here.kIn typ hb
    have named : ∀ {Q : Value → Shared → Prop} {E : Value → Shared → Prop}, Q c s → wpAny (model X.prog X.w) (X.A.mark (some (.ref a))) (eval (.Name x np) X.env) Q E s := by
      intro Q E q
      obtain ⟨hg, hdbg, g | ⟨g, hv, hnn⟩⟩ := nm
      · exact ld_glob (X := X.suite a ((a, oe) :: (X.pn ++ pins))) S hg g q hdbg
      · exact ld_blt (X := X.suite a ((a, oe) :: (X.pn ++ pins))) S hg g hv q hnn hdbg
    refine named (cmp.here ?_)
    cases b with
    | false =>
      show wpAny _ X.A (handleBy (.ref a) X.env hds2) _ _ _
      exact ih (no rfl)
    | true =>
      apply codeAny_handlers_suite_as
      apply HandSPX.lands_againZ L.fly
      intro h4 fl4 up4
      have L4 : Landed X pins σ H cls d a B sI { s with heap := h4 } := ⟨L.inv, L.box, L.up.trans up4, fl4, L.na, L.os, L.ag⟩
      obtain ⟨oe4, _, hz4, hd4, S4⟩ := L4.at_ hf
      refine store_ok (X := X.suite a ((a, oe4) :: (X.pn ++ pins))) (v := .ref a) S4 hN hi (.inl hln) rfl (fun s5 S5 => ?_) (.inr hln)
      refine wpAny_mono ((su a oe4 cls d (X.pn ++ pins) hz4 hd4).run [] s5 _ H _ S5 (yes rfl a L.na)) ?_ fun _ _ z => z.elim
      intro f s6 hsp
      have gone : ∀ {σ6 : L2.St} {H6 : Hp} {Q : Shared → Prop}, Inv (X.suite a ((a, oe4) :: (X.pn ++ pins))) [] σ6 H6 s6 → (∀ s7, Inv X pins (σ6.set i none) H6 s7 → Q s7) →
          wpAny (model X.prog X.w) X.A (do bindName X.env n .none; unbindBehindTheSuite X.env n pos') (fun _ s7 => Q s7) X.xe s6 := fun S6 hq => gone_ok (S6.unsuite L.inv.ok) hN hi hln hq
      cases f with
      | ret u => obtain ⟨v, σ6, H6, S6, r, q⟩ := hsp; exact gone S6 fun s7 J => ⟨v, σ6.set i none, H6, J, r, q⟩
      | next => obtain ⟨σ6, H6, S6, q⟩ := hsp; exact gone S6 fun s7 J => ⟨σ6.set i none, H6, J, q⟩
      | brk => obtain ⟨σ6, H6, S6, q⟩ := hsp; exact gone S6 fun s7 J => ⟨σ6.set i none, H6, J, q⟩
      | cont => obtain ⟨σ6, H6, S6, q⟩ := hsp; exact gone S6 fun s7 J => ⟨σ6.set i none, H6, J, q⟩
theorem ps_try_each {body : List Stmt} {h₀ : ExceptHandler} {hds : List ExceptHandler} {l : List Clause} {pos : Pos} {tb : WX → TS} (hs : X.stack = X.env :: X.outer) (hf : X.env.frame = some X.env.locals)
    (hN : X.N.Nodup) (hi : X.N[i]? = some n) (hln : X.env.kindOf n = some .local) (tk : Takes X Wout)
    (hb : ∀ (W : WX) (pn : List (Addr × Obj)) (xe : Value → Shared → Prop), Takes (X.tr pn xe) W → PassesOwn (model X.prog X.w) X.A X.env xe → PSs (X.tr pn xe) body (tb W))
    (hh : HsAs X n (h₀ :: hds) l) : PS X (.Try body (h₀ :: hds) [] [] pos) (fun D σ H => tb (wEach X.K i Wout D l) D σ H) := by
  constructor
  intro pins s σ H D I h
  have ok := I.ok
  apply wpAny_Try_except
  have body := hb (wEach X.K i Wout D l) (X.pn ++ pins) (fun e s₁ => wpAny (model X.prog X.w) X.A (noteFrame e X.env) (fun _ s₂ => wpAny (model X.prog X.w) X.A (setFlight e none) (fun _ s₃ =>
    wpAny (model X.prog X.w) X.A (handleBy e X.env (h₀ :: hds)) (SP X pins D) X.xe s₃) X.xe s₂) X.xe s₁) (fun u s' xx => by
      obtain ⟨a, B, sI, pins', σ', H', cls, d, rfl, J', nb, up, sky, na, os, ag, w⟩ := xx
      refine Sky.land Zc.steady (by rw [ok.frames, hs]) hf (by rw [← hs]; exact sky) fun h3 fl3 up3 => ?_
      exact Landed.walk hs hf hN hi hln tk hh ⟨J'.ofTry ok, nb, up.trans up3, fl3, na, os, ag⟩ w) PassesOwn.looking
  refine wpAny_mono (body.run [] s σ H D (I.toTry _) h) ?_ fun e s1 he => he
  intro f s1 hsp
  cases f with
  | ret u => obtain ⟨v, σ', H', J, r, q⟩ := hsp; exact ⟨v, σ', H', J.ofTry ok, r, q⟩
  | next => obtain ⟨σ', H', J, q⟩ := hsp; exact wpAny_execs_nil ⟨σ', H', J.ofTry ok, q⟩
  | brk => obtain ⟨σ', H', J, q⟩ := hsp; exact ⟨σ', H', J.ofTry ok, q⟩
  | cont => obtain ⟨σ', H', J, q⟩ := hsp; exact ⟨σ', H', J.ofTry ok, q⟩
end
end Dat
/-! Instances whose attributes are data, their making and their methods; raises with data in their fields. -/
namespace Dat
open PySem PySem.Spec PyProof.Rows L2 Evl
/-- x is an instance of the class at C; it has attributes of al alone, those of fs with these data -/
def Has (K : PySem.W.Frag) (H : Hp) (x C : Addr) (al : List Str) (fs : List (Str × PyData)) : Prop :=
  ∃ dx as, H x = some (.ins C dx as) ∧ (∀ m, m ∉ al → as.lookup m = none) ∧ ∀ p ∈ fs, ∃ v, as.lookup p.1 = some v ∧ Dp K H v p.2
/-- an exception: its class and its fields -/
abbrev Raised := Addr × List (Str × PyData)
/-- E takes the exception e, raised from H on -/
def Rai (K : PySem.W.Frag) (E : XK) (e : Raised) (H : Hp) : Prop := ∀ d as H', Ex H H' → H' d = some (.xd as) → (∀ p ∈ e.2, ∃ v, as.lookup p.1 = some v ∧ Dp K H' v p.2) → E (.ref e.1) (some d) H'
/-- te raises what is taken -/
def XR (te : TE) (σ : L2.St) (H : Hp) : Prop := ∀ H1, Ex H H1 → ∀ Q : VK, te σ H1 Q
def EvO (K : PySem.W.Frag) (te : TE) (σ : L2.St) (H : Hp) (C : Addr) (al : List Str) (fs : List (Str × PyData)) : Prop :=
  ∀ H1, Ex H H1 → ∀ Q : VK, (∀ x H2, Ex H1 H2 → Has K H2 x C al fs → Q (.ref x) H2) → te σ H1 Q
def spX (K : PySem.W.Frag) (n : Nat) (f : List PyData → PyData → Prop) (g : List PyData → Raised → Prop) : Sp := fun vs H Q E => ∃ ds, ds.length = n ∧ DpAll K H vs ds ∧
  ((∃ d, f ds d ∧ ∀ v H', Ex H H' → Dp K H' v d → Q v H') ∨ ∃ e, g ds e ∧ Rai K E e H)
def spM (K : PySem.W.Frag) (C : Addr) (al : List Str) (n : Nat) (f : List (Str × PyData) → List PyData → PyData → Prop) (g : List (Str × PyData) → List PyData → Raised → Prop) : Sp := fun vs H Q E =>
  ∃ x ws fs ds, vs = .ref x :: ws ∧ ds.length = n ∧ Has K H x C al fs ∧ DpAll K H ws ds ∧ ((∃ d, f fs ds d ∧ ∀ v H', Ex H H' → Dp K H' v d → Q v H') ∨ ∃ e, g fs ds e ∧ Rai K E e H)
/-- a method that returns an instance -/
def spMO (K : PySem.W.Frag) (C : Addr) (al : List Str) (n : Nat) (f : List (Str × PyData) → List PyData → List (Str × PyData) → Prop) (g : List (Str × PyData) → List PyData → Raised → Prop) : Sp := fun vs H Q E =>
  ∃ x ws fs ds, vs = .ref x :: ws ∧ ds.length = n ∧ Has K H x C al fs ∧ DpAll K H ws ds ∧ ((∃ fs', f fs ds fs' ∧ ∀ y H', Ex H H' → Has K H' y C al fs' → Q (.ref y) H') ∨ ∃ e, g fs ds e ∧ Rai K E e H)
/-- an __init__ over data -/
def spNew (K : PySem.W.Frag) (C : Addr) (al : List Str) (n : Nat) (f : List PyData → List (Str × PyData) → Prop) : Sp := fun vs H Q _ =>
  ∃ x dx ws ds fs, vs = .ref x :: ws ∧ ds.length = n ∧ H x = some (.ins C dx []) ∧ DpAll K (rem H x) ws ds ∧ f ds fs ∧ ∀ H', Ex (rem H x) (rem H' x) → Has K H' x C al fs → Q .non H'
def tMethX (C : Addr) (m : Str) (sp : Sp) (E : L2.St → XK) (ta : TE) (t : TA) : TE := fun σ H Q => ta σ H fun x H1 => ∃ a dx fs, x = .ref a ∧ H1 a = some (.ins C dx fs) ∧ fs.lookup m = none ∧ t σ H1 fun vs H2 => sp (x :: vs) H2 Q (E σ)
section
variable {X : Cx} {CX : CXT} {k : Nat} {f C : Addr} {fd : FuncData} {ps : List Str} {sp : Sp} {E : L2.St → XK} {m : Str} {p pos apos : Pos} {e o : Expr} {es : List Expr} {ta : TE} {t : TA}
theorem pe_methX {pl : Sem Bool} (he : PE X o ta) (c : Cls X.K C) (hm : Meth X.K C m f) (F : FnOk X.prog X.w X.K X.mg X.base CX k f fd ps sp) (hr : Room k X.A) (hb : Binds X.K fd ps []) (hx : ∀ σ, PassesAt CX X σ (E σ)) (ha : PA X (e :: es) t)
    (hst : starEach (e :: es) X.env = (false, eval e X.env) :: starEach es X.env := by rfl) (hpl : (backTo pos (starEach es X.env)).any (·.1) = false := by rfl)
    (ht : eval (.Call (.Attribute o m apos) (e :: es) [] pos) X.env = (do
      let ov ← eval o X.env
      standAt apos.atName
      let (f, first) ← holding [ov] (getMethod ov m pl)
      callWith pos f first (backTo pos (starEach (e :: es) X.env)) (backToKw pos (keywordEach [] X.env))) := by rfl) :
    PE X (.Call (.Attribute o m apos) (e :: es) [] pos) (tMethX C m sp E ta t) := by
  constructor
  intro pins s σ H Q I h
  refine PySem.W.methodCall_KW (pl := pl) (thn (he.run pins s σ H _ I h) ?_) ht
  rintro u s1 ⟨x, H1, I1, rx, a, dx, fs, rfl, ea, l, q⟩
  cases (show u = Value.ref a from rx)
  refine getmeth_ok I1 ea c hm l (PySem.W.callWith_K (first := [.ref a]) (h₀ := X.base) I.ok.mod.kin hm.kp (thn (ha.run pos pins s1 σ H1 _ I1 q) ?_) hst hpl)
  rintro us s2 ⟨vs, H2, I2, r, q2⟩
  exact ⟨I2.kIn, run_fnS (us := .ref a :: us) (vs := .ref a :: vs) F hr hb (hx σ) I2 (.cons rfl r) q2⟩
end
section
variable {K : PySem.W.Frag} {σ : L2.St} {H H' : Hp} {x C : Addr} {al : List Str} {fs : List (Str × PyData)}
theorem has_grow (e : Ex H H') (h : Has K H x C al fs) : Has K H' x C al fs := by
  obtain ⟨dx, as, h1, h2, h3⟩ := h
  exact ⟨dx, as, e _ _ h1, h2, fun p hp => let ⟨v, hv, hd⟩ := h3 p hp; ⟨v, hv, dp_grow e _ _ hd⟩⟩
theorem has_sub {fs' : List (Str × PyData)} (s : ∀ p ∈ fs', p ∈ fs) (h : Has K H x C al fs) : Has K H x C al fs' := by
  obtain ⟨dx, as, h1, h2, h3⟩ := h
  exact ⟨dx, as, h1, h2, fun p hp => h3 p (s p hp)⟩
theorem has_rem {L : Addr} {o : HO} (hL : H L = some o) (ho : NoTup o) (ne : x ≠ L) (fl : ∀ p ∈ fs, flat p.2 = true) (h : Has K H x C al fs) : Has K (rem H L) x C al fs := by
  obtain ⟨dx, as, h1, h2, h3⟩ := h
  exact ⟨dx, as, (rem_ne ne).trans h1, h2, fun p hp => let ⟨v, hv, hd⟩ := h3 p hp; ⟨v, hv, dp_rem hL ho _ _ (fl p hp) hd⟩⟩
theorem rai_grow {E : XK} {e : Raised} (x : Ex H H') (h : Rai K E e H) : Rai K E e H' := fun d as H2 x2 => h d as H2 (x.trans x2)
variable {te tb : TE} {ta : TA} {n i : Nat} {d : PyData} {ds : List PyData} {D : Ends} {ts : TS} {E : L2.St → XK} {m : Str} {e : Raised}
theorem o_var (s : σ[i]? = some (some (.ref x))) (h : Has K H x C al fs) : EvO K (tVar i) σ H C al fs := fun H1 e Q k => ⟨_, s, k x H1 (Ex.refl H1) (has_grow e h)⟩
theorem o_sub {fs' : List (Str × PyData)} (s : ∀ p ∈ fs', p ∈ fs) (h : EvO K te σ H C al fs) : EvO K te σ H C al fs' := fun H1 e Q k => h H1 e _ fun x H2 e2 hx => k x H2 e2 (has_sub s hx)
theorem d_fld {f : Str} (h : EvO K te σ H C al fs) (c : Cls K C) (na : NoAttr K C f) (hm : (f, d) ∈ fs) : EvD K (tFld K te f) σ H d := fun H1 e Q k => h H1 e _ fun x H2 e2 hx => by
  obtain ⟨dx, as, h1, _, h3⟩ := hx
  obtain ⟨v, hv, hd⟩ := h3 _ hm
  exact ⟨x, C, dx, as, v, rfl, h1, c, na, hv, k v H2 e2 hd⟩
section
variable {f : List (Str × PyData) → List PyData → PyData → Prop} {fo : List (Str × PyData) → List PyData → List (Str × PyData) → Prop} {g : List (Str × PyData) → List PyData → Raised → Prop}
theorem d_meth (o : EvO K te σ H C al fs) (hm : m ∉ al) (h : EvDs K ta σ H ds) (hl : ds.length = n) (hf : f fs ds d) : EvD K (tMethX C m (spM K C al n f g) E te ta) σ H d := fun H1 e Q k => o H1 e _ fun x H2 e2 hx => by
  obtain ⟨dx, as, h1, h2, h3⟩ := id hx
  refine ⟨x, dx, as, rfl, h1, h2 m hm, h H2 (e.trans e2) _ fun vs H3 e3 hv => ?_⟩
  exact ⟨x, vs, fs, ds, rfl, hl, has_grow e3 hx, hv, .inl ⟨d, hf, fun v H' e4 hv => k v H' ((e2.trans e3).trans e4) hv⟩⟩
theorem o_meth {fs' : List (Str × PyData)} (o : EvO K te σ H C al fs) (hm : m ∉ al) (h : EvDs K ta σ H ds) (hl : ds.length = n) (hf : fo fs ds fs') : EvO K (tMethX C m (spMO K C al n fo g) E te ta) σ H C al fs' := fun H1 e Q k => o H1 e _ fun x H2 e2 hx => by
  obtain ⟨dx, as, h1, h2, h3⟩ := id hx
  refine ⟨x, dx, as, rfl, h1, h2 m hm, h H2 (e.trans e2) _ fun vs H3 e3 hv => ?_⟩
  exact ⟨x, vs, fs, ds, rfl, hl, has_grow e3 hx, hv, .inl ⟨fs', hf, fun v H' e4 hv => k v H' ((e2.trans e3).trans e4) hv⟩⟩
theorem r_meth (o : EvO K te σ H C al fs) (hm : m ∉ al) (h : EvDs K ta σ H ds) (hl : ds.length = n) (hg : g fs ds e) (hE : Rai K (E σ) e H) : XR (tMethX C m (spM K C al n f g) E te ta) σ H := fun H1 e Q => o H1 e _ fun x H2 e2 hx => by
  obtain ⟨dx, as, h1, h2, h3⟩ := id hx
  refine ⟨x, dx, as, rfl, h1, h2 m hm, h H2 (e.trans e2) _ fun vs H3 e3 hv => ?_⟩
  exact ⟨x, vs, fs, ds, rfl, hl, has_grow e3 hx, hv, .inr ⟨_, hg, rai_grow ((e.trans e2).trans e3) hE⟩⟩
theorem r_methO (o : EvO K te σ H C al fs) (hm : m ∉ al) (h : EvDs K ta σ H ds) (hl : ds.length = n) (hg : g fs ds e) (hE : Rai K (E σ) e H) : XR (tMethX C m (spMO K C al n fo g) E te ta) σ H := fun H1 e Q => o H1 e _ fun x H2 e2 hx => by
  obtain ⟨dx, as, h1, h2, h3⟩ := id hx
  refine ⟨x, dx, as, rfl, h1, h2 m hm, h H2 (e.trans e2) _ fun vs H3 e3 hv => ?_⟩
  exact ⟨x, vs, fs, ds, rfl, hl, has_grow e3 hx, hv, .inr ⟨_, hg, rai_grow ((e.trans e2).trans e3) hE⟩⟩
end
section
variable {f : List PyData → PyData → Prop} {g : List PyData → Raised → Prop} {fo : List PyData → List (Str × PyData) → Prop}
theorem d_callX (h : EvDs K ta σ H ds) (hl : ds.length = n) (hf : f ds d) : EvD K (tCallS (spX K n f g) E ta) σ H d := fun H1 e Q k => h H1 e _ fun vs H2 e2 hv =>
  ⟨ds, hl, hv, .inl ⟨d, hf, fun v H' e3 hv => k v H' (e2.trans e3) hv⟩⟩
theorem r_callX (h : EvDs K ta σ H ds) (hl : ds.length = n) (hg : g ds e) (hE : Rai K (E σ) e H) : XR (tCallS (spX K n f g) E ta) σ H := fun H1 e Q => h H1 e _ fun vs H2 e2 hv =>
  ⟨ds, hl, hv, .inr ⟨_, hg, rai_grow (e.trans e2) hE⟩⟩
theorem o_make {E : XK} (h : EvDs K ta σ H ds) (hl : ds.length = n) (hf : fo ds fs) : EvO K (tMake C (spNew K C al n fo) [] E ta) σ H C al fs := fun H1 e Q k => h H1 e _ fun vs H2 e2 hv x dx nx ndx ne => by
  have g : Ex H2 (rem (upd (upd H2 dx (.own x)) x (.ins C dx [])) x) := fun b o hb => by
    have n1 : b ≠ x := ne_of_none hb nx
    rw [rem_ne n1, upd_ne n1, upd_ne (ne_of_none hb ndx)]
    exact hb
  refine ⟨x, dx, vs, ds, fs, by rw [List.append_nil], hl, upd_same, dps_grow g _ _ hv, hf, fun H' x1 hh => ⟨rfl, k x H' (e2.trans ?_) hh⟩⟩
  exact g.trans (x1.trans rem_ex)
end
/-! ### raising in a statement -/
theorem r_call1 {sp : Sp} {dvs : List V} {E : XK} (h : XR te σ H) : XR (tCall sp dvs E (tCons te ta)) σ H := fun H1 x Q => h H1 x _
theorem xz {g : TG} (h : XR te σ H) : tAsg te g D σ H := h H (Ex.refl H) _
theorem xz_set {g : TG} (h : XR te σ H) : tSeq (tAsg te g) ts D σ H := h H (Ex.refl H) _
theorem xz_drop (h : XR te σ H) : tSeq (tDrop te) ts D σ H := h H (Ex.refl H) _
theorem xz_drop1 (h : XR te σ H) : tDrop te D σ H := h H (Ex.refl H) _
theorem xz_ret (h : XR te σ H) : tRet te D σ H := h H (Ex.refl H) _
theorem z_drop (h : EvD K te σ H d) (k : ∀ H1, Ex H H1 → ts D σ H1) : tSeq (tDrop te) ts D σ H := h H (Ex.refl H) _ fun _ H1 e _ => k H1 e
theorem z_drop1 (h : EvD K te σ H d) (k : ∀ H1, Ex H H1 → D.nx σ H1) : tDrop te D σ H := h H (Ex.refl H) _ fun _ H1 e _ => k H1 e
theorem zo_drop1 (h : EvO K te σ H C al fs) (k : ∀ H1, Ex H H1 → D.nx σ H1) : tDrop te D σ H := h H (Ex.refl H) _ fun _ H1 e _ => k H1 e
theorem zo_set (h : EvO K te σ H C al fs) (k : ∀ x H1, Ex H H1 → Has K H1 x C al fs → ts D (σ.set i (some (.ref x))) H1) : tSeq (tAsg te (gName i)) ts D σ H := h H (Ex.refl H) _ k
theorem zo_ret (h : EvO K te σ H C al fs) (k : ∀ x H1, Ex H H1 → Has K H1 x C al fs → D.rt (.ref x) H1) : tRet te D σ H := h H (Ex.refl H) _ k
/-- self.f = te, te flat -/
theorem z_fld1 {dx : Addr} {as : List (Str × V)} {f : Str} (h : EvD K te σ H d) (hi : σ[i]? = some (some (.ref x))) (hx : H x = some (.ins C dx as)) (c : Cls K C) (na : NoAttr K C f) (hl : as.length < 1000) (fl : flat d = true)
    (k : ∀ v H1, Ex (rem H x) (rem H1 x) → H1 x = some (.ins C dx (putF f v as)) → Dp K (rem H1 x) v d → D.nx σ H1) : sFld K (tVar i) te f D σ H := h H (Ex.refl H) _ fun v H1 e hv => by
  have hx1 := e _ _ hx
  refine ⟨_, hi, x, C, dx, as, rfl, hx1, c, na, hl, k v _ ?_ upd_same ?_⟩
  · rw [rem_upd]
    exact ex_rem e
  · rw [rem_upd]
    exact dp_rem hx1 (fun xs => ⟨(fun z => by cases z), (fun u z => by cases z)⟩) _ _ fl hv
theorem z_fld {dx : Addr} {as : List (Str × V)} {f : Str} (h : EvD K te σ H d) (hi : σ[i]? = some (some (.ref x))) (hx : H x = some (.ins C dx as)) (c : Cls K C) (na : NoAttr K C f) (hl : as.length < 1000) (fl : flat d = true)
    (k : ∀ v H1, Ex (rem H x) (rem H1 x) → H1 x = some (.ins C dx (putF f v as)) → Dp K (rem H1 x) v d → ts D σ H1) : tSeq (sFld K (tVar i) te f) ts D σ H := z_fld1 (D := { D with nx := ts D }) h hi hx c na hl fl k
/-- raise C(te), one field -/
theorem x_raiseD {f : Str} {E : XK} (h : EvD K te σ H d) (hR : Rai K E (C, [(f, d)]) H) : tMkO C (spI C f) [] (tCons te tNil) σ H (fun cls d H' => E cls d H') := h H (Ex.refl H) _ fun v H1 e hv => by
  refine ⟨by show 1 ≤ 1000; decide, fun a ha => ⟨a, v, rfl, upd_same, fun dd as H' hd h1 h2 h3 h4 => ⟨rfl, dd, as, h1, h2, ?_, ?_⟩⟩⟩
  · have nda : dd ≠ a := fun z => by
      rw [z, upd_same] at hd
      cases hd
    rw [upd_ne nda] at hd
    exact hd
  · have nda : dd ≠ a := fun z => by
      rw [z, upd_same] at hd
      cases hd
    have hd2 : H1 dd = none := by
      rw [upd_ne nda] at hd
      exact hd
    have ex : Ex H1 (upd (del H' a) dd (.xd as)) := fun b o hb => by
      have nb : b ≠ a := ne_of_none hb ha
      have nd : b ≠ dd := ne_of_none hb hd2
      rw [upd_ne nd]
      show del H' a b = some o
      unfold del
      rw [if_neg nb, h3 b nb nd, upd_ne nb]
      exact hb
    refine hR dd as _ (e.trans ex) upd_same fun p hp => ?_
    cases List.mem_singleton.mp hp
    exact ⟨v, h4, dp_grow ex _ _ hv⟩
/-- e.f in a suite -/
theorem d_xfD {a dd : Addr} {f : Str} {as : List (Str × V)} {v : V} (h1 : σ[i]? = some (some (.ref a))) (h2 : H dd = some (.xd as)) (h3 : as.lookup f = some v) (h4 : Dp K H v d) : EvD K (tXf a (.ref C) (some dd) C f (tVar i)) σ H d := fun H1 x Q k =>
  ⟨_, h1, rfl, rfl, dd, as, _, rfl, x _ _ h2, h3, k _ H1 (Ex.refl H1) (dp_grow x _ _ h4)⟩
end
end Dat
/-! A list comprehension in a def's body whose first element raises. -/
namespace Dat
open PySem PySem.Spec PyProof.Rows L2 Evl
/-- the block's context; an exception of it is taken as xe says -/
abbrev blkX (X : Cx) (s : Shared) (H : Hp) (scope : Scope) (ce : Env) (fp : List Addr) (xe : Value → Shared → Prop) : Cx := { X.blk s H scope ce fp with xe := xe }
section
variable {X : Cx} {pins : List (Addr × Obj)} {σ : L2.St} {H : Hp} {s : Shared}
theorem inv_xe {xe : Value → Shared → Prop} (I : Inv X pins σ H s) : Inv { X with xe := xe } pins σ H s :=
  ⟨⟨I.ok.mod, I.ok.kind, I.ok.glob, I.ok.blt, I.ok.above, I.ok.inj, I.ok.has, I.ok.cab, I.ok.hd, I.ok.frames, I.ok.stk, I.ok.exf, I.ok.bs, I.ok.bsz, I.ok.noex, I.ok.exfs, I.ok.funs, I.ok.frf⟩,
    I.os, I.bare, I.base, I.loc, I.cell, I.free, I.freeC, I.pin, I.hok, I.len⟩
theorem inv_pins (I : Inv X pins σ H s) : Inv X [] σ H s := ⟨I.ok, I.os, I.bare, I.base, I.loc, I.cell, I.free, I.freeC, fun p hp => I.pin p (List.mem_append_left _ (by simpa using hp)), I.hok, I.len⟩
theorem traced_but {h h' base : Heap} {e C : Addr} {Z : Obj → Prop} {fl : Value} {m : Str → Option Value} (x : HandSPX.TracedZ h base e Z fl) (hn : h.Ns C m) (hs : Heap.SameBut C h h') : HandSPX.TracedZ h' base e Z fl := by
  obtain ⟨oe, vs, T, oT, ts, he, hz, hd, h1, nT, ne, hT, dT, h3⟩ := x
  obtain ⟨oC, es, ep, hC, dC, _⟩ := hn
  have other : ∀ {b : Addr} {o : Obj} {us : Array Value}, h.get? b = some o → o.data = .fields us → b ≠ C := by
    intro b o us g d q
    rw [q, hC] at g
    cases g
    rw [dC] at d
    cases d
  exact ⟨oe, vs, T, oT, ts, (hs.2 e (other he hd)).trans he, hz, hd, h1, nT, ne, (hs.2 T (other hT dT)).trans hT, dT, h3⟩
theorem traced_less {h base base' : Heap} {e : Addr} {Z : Obj → Prop} {fl : Value} (x : HandSPX.TracedZ h base e Z fl) (l : ∀ b o, base'.get? b = some o → base.get? b = some o) : HandSPX.TracedZ h base' e Z fl := by
  obtain ⟨oe, vs, T, oT, ts, he, hz, hd, h1, nT, r⟩ := x
  refine ⟨oe, vs, T, oT, ts, he, hz, hd, h1, ?_, r⟩
  cases q : base'.get? T with
  | none => rfl
  | some o => rw [l T o q] at nT; cases nT
/-- the comprehension's names at C are let go, the exception goes on in the def's own frame -/
theorem comp_out {W : WX} {ce : Env} {a : Addr} {B : Heap} {sI s6 : Shared} {cls : Value} {d : Option Addr} {m : Str → Option Value} (hs : X.stack = X.env :: X.outer) (hf : X.env.frame = some X.env.locals) (tk : Takes X W) (cf : ce.frame = X.env.frame)
    (I : Inv X [] σ H sI) (hn : s6.heap.Ns ce.locals m) (fp : FpOk X [] H ce.locals) (nb : ∀ b o, sI.heap.get? b = some o → b ∉ frs X.stack → B.get? b = some o) (up : sI.heap.UpToSlots s6.heap) (sky : Sky B X.stack a (Zc cls d) X.env.locals s6.heap)
    (na : H a = none) (os : s6.os = sI.os) (ag : AllBare s6.gens) (w : W cls d σ H) : notedBy (model X.prog X.w) X.A ce (CompFails (model X.prog X.w) X.A X.xe ce) (.ref a) s6 := by
  have hfr : X.A.frames = some (X.env :: X.outer) := by rw [I.ok.frames, hs]
  rw [hs] at sky
  have behind : ∀ h1, HandSPX.HeldZ B (X.env :: X.outer) a (Zc cls d) X.env.locals h1 → s6.heap.UpToSlots h1 → CompFails (model X.prog X.w) X.A X.xe ce (.ref a) { s6 with heap := h1 } := by
    intro h1 held up1
    have n1 : h1.Ns ce.locals m := hn.upToSlots up1
    refine ⟨m, n1, fun h2 m2 n2 same => ?_⟩
    obtain ⟨g1, g2, g3, g4⟩ := held
    have least : ∀ b o, (PySem.W.hideAll B [ce.locals]).get? b = some o → B.get? b = some o := fun b o e => PySem.W.of_hideAll _ e
    have apart : ∀ b o, (PySem.W.hideAll B [ce.locals]).get? b = some o → b ≠ ce.locals := fun b o e q => by
      rw [q, PySem.W.hideAll_none _ (List.mem_singleton.mpr rfl)] at e
      cases e
    have noB : ∀ {b : Addr}, B.get? b = none → (PySem.W.hideAll B [ce.locals]).get? b = none := fun {b} e => by
      cases q : (PySem.W.hideAll B [ce.locals]).get? b with
      | none => rfl
      | some o => rw [least b o q] at e; cases e
    have t2 := traced_less (traced_but g4 n1 same) least
    have f2 : h2.FunFrames (PySem.W.hideAll B [ce.locals]) (X.env :: X.outer) := funFrames_none (Heap.FunFrames.sameBut same n2 g3) fun L hL => noB (g3.mem hL).1
    have k2 : (PySem.W.hideAll B [ce.locals]).StaysIn h2 := fun b o e => (same.2 b (apart b o e)).trans (g1 b o (least b o e))
    obtain ⟨oe, vs, T, oT, ts, he, hz, hd, e1, _⟩ := id t2
    unfold PySem.passOn
    refine wpAny_bind (wpAny_field he hd e1 ?_)
    rw [if_neg (by simp : ¬ ((Value.ref T == Value.none) = true)), cf, hf]
    refine wpAny_bind (HandSPX.setFlight_anyZ k2 f2 t2 fun h3 b3 f3 t3 up3 => wpAny_throw (tk _ _ ?_))
    have J : Inv X [] σ H { sI with heap := PySem.W.hideAll sI.heap [ce.locals], toks := sI.toks } := I.turned (fun b o hb e => PySem.W.hideAll_get _ e (by simpa using hb)) fp.1 fp.2.1 fp.2.2.2.1 fp.2.2.2.2.1 fp.2.2.2.2.2
    have off : ∀ b o, (PySem.W.hideAll sI.heap [ce.locals]).get? b = some o → sI.heap.get? b = some o ∧ b ≠ ce.locals := fun b o e => ⟨PySem.W.of_hideAll _ e, fun q => by
      rw [q, PySem.W.hideAll_none _ (List.mem_singleton.mpr rfl)] at e
      cases e⟩
    refine ⟨a, PySem.W.hideAll B [ce.locals], _, [], σ, H, cls, d, rfl, J, fun b o e hb => ?_, fun b o e hnf => ?_, .inr (.inr ?_), na, os, ag, w⟩
    · obtain ⟨e0, ne⟩ := off b o e
      exact PySem.W.hideAll_get _ (nb b o e0 hb) (by simpa using ne)
    · obtain ⟨e0, ne⟩ := off b o e
      obtain ⟨s1, q1⟩ := up b o e0 hnf
      obtain ⟨s2, q2⟩ := up1 b _ q1 hnf
      obtain ⟨s3, q3⟩ := up3 b _ ((same.2 b ne).trans q2) hnf
      exact ⟨s3, q3⟩
    · rw [hs]
      exact ⟨b3, noB g2, f3, t3⟩
  show wpAny _ _ (noteFrame (.ref a) ce) _ _ s6
  rw [noteFrame_env _ cf]
  rcases sky with ⟨hB, hn', hl, oe, vs, he, hz, hd, h1⟩ | fl | held
  · exact HandSPX.look_newZ Zc.steady hfr hl hf he hB hn' hd h1 hz behind
  · exact HandSPX.looks_onZ Zc.steady hfr hf fl behind
  · exact HandSPX.againZ hf held.2.2.2 (behind s6.heap held (Heap.UpToSlots.refl _))
/-- what is read of it: the iterator gives a first item, its element raises -/
def tLcX (wi : TI) (g : TG) (te : TE) (vs : List Nat) : TE := fun σ H _ => wi σ H fun J H1 => ∀ D, H1 D = none → J.go 0 (upd H1 D (.lst [])) ∧ ∀ x H', J.yld 0 (upd H1 D (.lst [])) x H' → g x (wipe σ vs) H' fun σ2 H2 => te σ2 H2 fun _ _ => False
theorem pe_lcX {E : XK} {elt tg iter : Expr} {scope : Scope} {own : List (Str × Nat)} {pos : Pos} {wi : TI} {g : TG} {te : TE} (tk : Takes X (fun cls d _ H => E cls d H)) (hs : X.stack = X.env :: X.outer) (hf : X.env.frame = some X.env.locals)
    (hc : X.calm = true) (hN : X.N.Nodup) (hi : PI X tg iter wi) (ok : BlkOk X.N X.env.scope scope own)
    (hg : ∀ (xe : Value → Shared → Prop) (s : Shared) (H : Hp) (C : Addr) (cl : List (Str × Addr)) (fp : List Addr), PG (blkX X s H scope (compEnvC scope cl C X.env) fp xe) tg g)
    (he : ∀ (xe : Value → Shared → Prop) (s : Shared) (H : Hp) (C : Addr) (cl : List (Str × Addr)) (fp : List Addr), (∀ σ, PassesAt (L2.CX X.prog X.w) (blkX X s H scope (compEnvC scope cl C X.env) fp xe) σ E) → PE (blkX X s H scope (compEnvC scope cl C X.env) fp xe) elt te)
    (hq : ∀ x, foldedSetIterable iter X.env x = pure x := by intro _; rfl) :
    PE X (.ListComp elt [⟨tg, iter, [], 0⟩] scope pos) (tLcX wi g te (own.map (·.2))) := by
  constructor
  intro pins s σ H Q I h
  have hfree : ∀ y ∈ scope.names, y.2 = .free → ∃ c, X.env.cells.lookup y.1 = some c := by
    intro y hy e
    rcases ok.free y hy e with k | k
    · exact I.ok.has _ (.inl k)
    · exact I.ok.has _ (.inr k)
  rw [eval_ListComp]
  refine comprehension_at (use := none) rfl hq (closure_ok hfree) ok.kind (fun y hy e => by rw [ok.uniq y hy, e]) (thn (hi.run pins s σ H _ I h) fun xv s1 hx => thn hx fun itv s2 h2 => ?_)
  obtain ⟨it, fp, tn, J, H2, rfl, I2, T, st2, f2, q⟩ := h2
  refine wpAny_newObj_type (newEnv_comp ?_) (by show 0 ≤ sizeLine; decide)
  generalize hD : s2.heap.objs.size = D
  have hDn : H2 D = none := I2.hok.fresh (Nat.le_of_eq hD)
  obtain ⟨go, first⟩ := q D hDn
  generalize hs3 : ({ s2 with heap := s2.heap.push { cls := .type "list", data := .seq ([] : List Value).toArray } } : Shared) = s3
  have I3 : Inv X pins σ (upd H2 D (.lst [])) s3 := by
    rw [← hs3]
    refine I2.laid (t' := s2.toks) (fun b o e => Heap.get?_push_of_some _ e) (Nat.le_of_eq hD) ⟨Nat.zero_le _, [], 0, .nil, ?_⟩
    rw [← hD]
    exact Heap.get?_push_size _ rfl
  have e3 : s3.heap = s2.heap.push { cls := .type "list", data := .seq ([] : List Value).toArray } := by rw [← hs3]
  have inside : ∀ b ∈ fp, b < s2.heap.objs.size := fun b hb => let ⟨o, e, _⟩ := T.obj _ _ st2 b hb; Heap.lt_size e
  have f3 : ∀ b ∈ fp, FpOk X pins (upd H2 D (.lst [])) b ∧ b < s3.heap.objs.size := fun b hb => by
    have hlt := inside b hb
    refine ⟨⟨?_, (f2 b hb).2⟩, by rw [e3, Heap.size_push]; exact Nat.lt_succ_of_lt hlt⟩
    rw [upd_ne (by rw [← hD]; exact Nat.ne_of_lt hlt)]
    exact (f2 b hb).1
  have st3 : tn 0 s3.heap := T.keep _ _ _ st2 fun b _ o e => by rw [e3]; exact Heap.get?_push_of_some _ e
  have I4 := block_start I3 ok hN f3
  generalize hH3 : upd H2 D (.lst []) = H3 at I3 I4 f3 go first
  show codeAny _ _ (.compStart (.ListComp elt [⟨tg, iter, [], 0⟩] scope pos) 0 (.ref it) (.ref D) (compEnvC scope (cellsFrom (s3.heap.objs.size + 1) scope.names (cloFrom X.env.cells scope.names [])) s3.heap.objs.size X.env))
    (compEnds (model X.prog X.w) X.A X.xe none (EP X pins σ Q) (.ref D) (compEnvC scope (cellsFrom (s3.heap.objs.size + 1) scope.names (cloFrom X.env.cells scope.names [])) s3.heap.objs.size X.env)) { s3 with heap := pushCells (s3.heap.push { cls := .type "dict", data := .dict #[] }) scope.names }
  have pg := fun xe => hg xe s3 H3 s3.heap.objs.size (cellsFrom (s3.heap.objs.size + 1) scope.names (cloFrom X.env.cells scope.names [])) fp
  have pe := fun xe => he xe s3 H3 s3.heap.objs.size (cellsFrom (s3.heap.objs.size + 1) scope.names (cloFrom X.env.cells scope.names [])) fp
  have cL : (compEnvC scope (cellsFrom (s3.heap.objs.size + 1) scope.names (cloFrom X.env.cells scope.names [])) s3.heap.objs.size X.env).locals = s3.heap.objs.size := rfl
  have cF : (compEnvC scope (cellsFrom (s3.heap.objs.size + 1) scope.names (cloFrom X.env.cells scope.names [])) s3.heap.objs.size X.env).frame = X.env.frame := rfl
  generalize hce : compEnvC scope (cellsFrom (s3.heap.objs.size + 1) scope.names (cloFrom X.env.cells scope.names [])) s3.heap.objs.size X.env = ce at I4 pg pe cL cF ⊢
  generalize hs4 : ({ s3 with heap := pushCells (s3.heap.push { cls := .type "dict", data := .dict #[] }) scope.names } : Shared) = s4 at I4 ⊢
  have st4 : tn 0 s4.heap := T.keep _ _ _ st3 fun b _ o e => by rw [← hs4]; exact pushCells_keeps _ _ _ _ (Heap.get?_push_of_some _ e)
  have n4 : ∀ b ∈ fp, H3 b = none := fun b hb => (f3 b hb).1.1
  generalize hxe : (notedBy (model X.prog X.w) X.A ce fun e s' => compEnds (model X.prog X.w) X.A X.xe none (EP X pins σ Q) (.ref D) ce (.error e) s') = xe
  have I4 : Inv (blkX X s3 H3 scope ce fp xe) [] (wipe σ (own.map (·.2))) H3 s4 := inv_xe I4
  -- what the element's call lets out
  have passes : ∀ σ', PassesAt (L2.CX X.prog X.w) (blkX X s3 H3 scope ce fp xe) σ' E := by
    intro σ' pins' H5 s5 u s6 I5 c
    obtain ⟨a, B, H6, cls, d, rfl, fl, hok, ub, na, os, ag, hE⟩ := c
    have I5x : Inv X pins σ H5 s5 := I3.call' (ch := fp) I5.os I5.base I5.hok I5.bare fun b hb => ⟨(f3 b hb).1.2.2.2.1, (f3 b hb).1.2.1, (f3 b hb).1.2.2.2.2.1, (f3 b hb).1.2.2.2.2.2⟩
    have nC : H5 s3.heap.objs.size = none := by
      have z : H5 ce.locals = none := I5.free
      rw [cL] at z
      exact z
    obtain ⟨m, hn, _⟩ := I5.loc
    have hn : s5.heap.Ns ce.locals m := hn
    rw [cL] at hn
    have offS : s3.heap.objs.size ∉ frs X.stack := fun hm => by
      rcases List.mem_cons.mp (I3.stkSub _ hm) with z | z
      · exact absurd I3.lt (by rw [← z]; exact Nat.lt_irrefl _)
      · exact I3.nofs (Nat.le_refl _) z
    obtain ⟨oC, es, ep, hC, restC⟩ := id hn
    have hC6 : s6.heap.get? s3.heap.objs.size = some oC := fl.1 _ _ (ub.keep _ _ hC nC offS)
    have x := XE.of_call (W := fun cls d _ H' => E cls d H' ∧ H' s3.heap.objs.size = none) (E := fun cls d H' => E cls d H' ∧ H' s3.heap.objs.size = none) I5x (fun _ _ _ z => z)
      ⟨a, B, H6, cls, d, rfl, fl, hok, ub, na, os, ag, hE, ub.free _ _ hC nC⟩
    obtain ⟨a2, B2, sI, pins2, σ2, H7, cls2, d2, ea, I7, nb, up, sky, na2, os2, ag2, hE2, nC7⟩ := x
    cases ea
    show xe (.ref a) s6
    rw [← hxe]
    exact comp_out (m := m) hs hf tk cF (inv_pins I7) (by rw [cL]; exact ⟨oC, es, ep, hC6, restC⟩) (by rw [cL]; exact inv_pins I3 |>.fpOk (Nat.le_refl _) nC7) nb up sky na2 os2 ag2 hE2
  have stat : ∀ b ∈ fp, FpOk (blkX X s3 H3 scope ce fp xe) [] H3 b := fun b hb =>
    ⟨n4 b hb, (I4.ok.exf b hb).1, I4.ok.exfs b hb, .inl hb, fun x c e => (I4.ok.exf b hb).2 x c e, fun p hp => absurd (show p ∈ ([] : List (Addr × Obj)) ++ [] from hp) (by simp)⟩
  have loop : codeAny (model X.prog X.w) X.A (.compLoop (.ListComp elt [⟨tg, iter, [], 0⟩] scope pos) 0 (.ref it) (.ref D) ce) (compEnds (model X.prog X.w) X.A X.xe none (EP X pins σ Q) (.ref D) ce) s4 := by
    refine compLoop_any (fun n s' => n = 0 ∧ s' = s4) ?_ 0 ⟨rfl, rfl⟩
    rintro n s5 ⟨rfl, rfl⟩
    have item := T.item (blkX X s3 H3 scope ce fp xe) rfl rfl rfl hc 0 [] s5 _ H3 (fun _ _ => False) I4 stat st4 go
    refine thnF item fun r s6 ⟨u, hr, h6⟩ => ?_
    subst hr
    refine thnF h6 fun _ s7 ⟨x, H7, I7, r7, y7, _, _⟩ => ?_
    rw [hxe]
    refine wpAny_mono ((pg xe).run [] s7 _ H7 x u _ I7 r7 (first x H7 y7)) (fun _ s8 z => ?_) fun _ _ z => z
    obtain ⟨σ8, H8, I8, q8⟩ := z
    refine wpAny_tests_nil ?_
    rw [if_pos rfl]
    refine wpAny_mono ((pe xe passes).run [] s8 σ8 H8 _ I8 q8) (fun _ _ z => ?_) fun _ _ z => z
    obtain ⟨_, _, _, _, z⟩ := z
    exact z.elim
  exact codeAny_compStart_list loop (T.self X.A 0 _ _ _ st4 loop)
end
end Dat
/-! Comprehensions over any sequence of data or range, by the item's number; lists made of tuples; lists of lists, changed. -/
namespace Dat
open PySem L2 Evl
section
variable {K : PySem.W.Frag} {te tb tx : TE} {tt : TT} {ta : TA} {σ : L2.St} {H : Hp} {D : Ends} {ts : TS} {ds : List PyData} {d : PyData} {j n : Nat} {vs : List Nat}
def pick (p : Nat → Bool) (g : Nat → PyData) (n : Nat) : List PyData := ((List.range n).filter p).map g
theorem pick_next (p : Nat → Bool) (g : Nat → PyData) (i : Nat) : pick p g (i + 1) = pick p g i ++ if p i = true then [g i] else [] := by
  unfold pick
  rw [List.range_succ, List.filter_append, List.map_append]
  congr 1
  by_cases q : p i = true
  · rw [if_pos q, List.filter_cons_of_pos q]
    rfl
  · rw [if_neg q, List.filter_cons_of_neg q]
    rfl
theorem pick_all (g : Nat → PyData) (n : Nat) : pick (fun _ => true) g n = (List.range n).map g := by
  unfold pick
  rw [List.filter_eq_self.mpr (fun _ _ => rfl)]
theorem range_items {g : PyData → PyData} : ∀ ds : List PyData, (List.range ds.length).map (fun i => g (ds.getD i .none)) = ds.map g := fun ds => by
  refine List.ext_getElem (by simp) fun i h1 h2 => ?_
  simp at h1 h2
  simp [h2]
/-- one turn: the item x, its number i -/
structure Elt (K : PySem.W.Frag) (σ : L2.St) (H : Hp) (j : Nat) (vs : List Nat) (tt : TT) (te : TE) (n : Nat) (It : Nat → V → Hp → Prop) (p : Nat → Bool) (g : Nat → PyData) : Prop where
  hw : ∀ x, wipe ((wipe σ vs).set j (some x)) vs = wipe σ vs
  hp : ∀ i x H1, Ex H H1 → i < n → It i x H1 → EvB tt ((wipe σ vs).set j (some x)) H1 (p i)
  he : ∀ i x H1, Ex H H1 → i < n → p i = true → It i x H1 → EvD K te ((wipe σ vs).set j (some x)) H1 (g i)
  hf : ∀ i, i < n → flat (g i) = true
  mono : ∀ i x H1 H2, Ex H1 H2 → It i x H1 → It i x H2
  few : n ≤ 40000
def LcP (K : PySem.W.Frag) (H2 : Hp) (D : Addr) (p : Nat → Bool) (g : Nat → PyData) (i : Nat) (H' : Hp) : Prop := ∃ acc, H' D = some (.lst acc) ∧ acc.length ≤ i ∧ Ex H2 (rem H' D) ∧ DpAll K (rem H' D) acc (pick p g i)
theorem Elt.start {D : Addr} {p : Nat → Bool} {g : Nat → PyData} {H2 : Hp} (hD : H2 D = none) : LcP K H2 D p g 0 (upd H2 D (.lst [])) := ⟨[], upd_same, Nat.le_refl _, by rw [rem_new hD]; exact Ex.refl H2, .nil⟩
theorem Elt.turn {It : Nat → V → Hp → Prop} {p : Nat → Bool} {g : Nat → PyData} {H2 : Hp} {D : Addr} (E : Elt K σ H j vs tt te n It p g) (e : Ex H H2) {i : Nat} {x : V} {H' : Hp} (hi : i < n) (hx : It i x H') (P : LcP K H2 D p g i H') :
    gName j x (wipe σ vs) H' fun σ2 H2' => wipe σ2 vs = wipe σ vs ∧ tt σ2 H2' fun b H3 =>
      if b = true then te σ2 H3 fun y H4 => ∃ acc, H4 D = some (.lst acc) ∧ acc.length < sizeLine ∧ LcP K H2 D p g (i + 1) (upd H4 D (.lst (acc ++ [y]))) else LcP K H2 D p g (i + 1) H3 := by
  obtain ⟨acc, hacc, hlen, ex, hall⟩ := P
  have few := E.few
  have ex0 : Ex H H' := e.trans (ex.trans rem_ex)
  refine ⟨E.hw x, E.hp i x H' ex0 hi hx H' (Ex.refl H') _ fun H3 e3 => ?_⟩
  cases c : p i with
  | true =>
    refine (if_pos rfl : _ = _) ▸ E.he i x H3 (ex0.trans e3) hi c (E.mono _ _ _ _ e3 hx) H3 (Ex.refl H3) _ fun y H4 e4 hy => ?_
    have e34 := e3.trans e4
    refine ⟨acc, e34 _ _ hacc, sz_lt (by omega), acc ++ [y], upd_same, by rw [List.length_append]; exact Nat.succ_le_succ hlen, ?_, ?_⟩
    · rw [rem_upd]
      exact ex.trans (ex_rem e34)
    · rw [rem_upd, pick_next, if_pos c]
      exact dps_app (dps_grow (ex_rem e34) _ _ hall) (.cons (dp_rem (e34 _ _ hacc) noTup_l _ _ (E.hf i hi) hy) .nil)
  | false =>
    refine (if_neg Bool.false_ne_true : _ = _) ▸ ⟨acc, e3 _ _ hacc, by omega, ex.trans (ex_rem e3), ?_⟩
    rw [pick_next, if_neg (by rw [c]; decide), List.append_nil]
    exact dps_grow (ex_rem e3) _ _ hall
def ItD (K : PySem.W.Frag) (ds : List PyData) (i : Nat) (x : V) (H : Hp) : Prop := ∃ d, ds[i]? = some d ∧ Dp K H x d
def ItR (a : Int) (i : Nat) (x : V) (_ : Hp) : Prop := x = .int (a + (i : Int))
theorem n_lcTup {p : Nat → Bool} {g : Nat → PyData} (h : EvD K tx σ H (.tuple ds)) (E : Elt K σ H j vs tt te ds.length (ItD K ds) p g) : EvN K (tLc (iTup K tx) (gName j) tt te vs) σ H (pick p g ds.length) := fun H1 e Q k => by
  refine h H1 e _ fun v H2 e2 hv => ?_
  cases hv with
  | tup hs ha =>
    rename_i a xs
    have hl := dps_len ha
    refine ⟨a, rfl, ⟨xs, hs⟩, fun D hD => lc_tup (K := K) (xs := xs) (LcP K H2 D p g) (Elt.start hD) (fun i H' _ P => ex_t (P.choose_spec.2.2.1.trans rem_ex) hs) (fun i x H' hx P => ?_) fun H3 P => ?_⟩
    · obtain ⟨d, hd, hxd⟩ := dps_back ha hx
      have ex := P.choose_spec.2.2.1
      exact E.turn (e.trans e2) (List.getElem?_eq_some_iff.mp hd).1 ⟨d, hd, dp_grow (ex.trans rem_ex) _ _ hxd⟩ P
    · obtain ⟨acc, hacc, _, ex, hall⟩ := P
      rw [hl] at hall
      exact k _ _ _ (fresh_back e2 hD) (e2.trans ex) hacc hall
theorem n_lcLst {p : Nat → Bool} {g : Nat → PyData} (h : EvD K tx σ H (.list ds)) (E : Elt K σ H j vs tt te ds.length (ItD K ds) p g) : EvN K (tLc (iList K tx) (gName j) tt te vs) σ H (pick p g ds.length) := fun H1 e Q k => by
  refine h H1 e _ fun v H2 e2 hv => ?_
  cases hv with
  | lst hs ha =>
    rename_i a xs
    have hl := dps_len ha
    refine ⟨a, rfl, ⟨xs, hs⟩, fun D hD => lc_list (K := K) (xs := xs) (LcP K H2 D p g) (Elt.start hD) (fun i H' _ P => ex_l (P.choose_spec.2.2.1.trans rem_ex) hs) (fun i x H' hx P => ?_) fun H3 P => ?_⟩
    · obtain ⟨d, hd, hxd⟩ := dps_back ha hx
      have ex := P.choose_spec.2.2.1
      exact E.turn (e.trans e2) (List.getElem?_eq_some_iff.mp hd).1 ⟨d, hd, dp_grow (ex.trans rem_ex) _ _ hxd⟩ P
    · obtain ⟨acc, hacc, _, ex, hall⟩ := P
      rw [hl] at hall
      exact k _ _ _ (fresh_back e2 hD) (e2.trans ex) hacc hall
theorem n_lcS {b : Bool} {p : Nat → Bool} {g : Nat → PyData} (h : EvD K tx σ H (sq b ds)) (E : Elt K σ H j vs tt te ds.length (ItD K ds) p g) : EvN K (tLc (iAlt (iList K tx) (iTup K tx)) (gName j) tt te vs) σ H (pick p g ds.length) := fun H1 e Q k => by
  cases b with
  | true => exact .inr (n_lcTup h E H1 e Q k)
  | false => exact .inl (n_lcLst h E H1 e Q k)
theorem n_lcR2 {p : Nat → Bool} {g : Nat → PyData} {a b : Int} (h : EvDs K ta σ H [.int a, .int b]) (h0 : a.natAbs < 2 ^ 60) (h1 : b.natAbs < 2 ^ 60) (E : Elt K σ H j vs tt te (b - a).toNat (ItR a) p g) :
    EvN K (tLc (iRng2 ta) (gName j) tt te vs) σ H (pick p g (b - a).toNat) := fun H1 e Q k => by
  refine h H1 e _ fun ws H2 e2 hv => ?_
  obtain ⟨x, ws, rfl, hx, hv⟩ := dps_cons hv
  obtain ⟨y, ws, rfl, hy, hv⟩ := dps_cons hv
  obtain rfl := dps_nil hv
  cases hx
  cases hy
  refine ⟨a, b, rfl, ⟨by omega, by omega, by omega, by omega⟩, fun D hD => lc_range (lo := a) (n := (b - a).toNat) (LcP K H2 D p g) (Elt.start hD) (fun i H' hi P => E.turn (e.trans e2) hi rfl P) fun H3 P => ?_⟩
  obtain ⟨acc, hacc, _, ex, hall⟩ := P
  exact k _ _ _ (fresh_back e2 hD) (e2.trans ex) hacc hall
theorem n_lcR1 {p : Nat → Bool} {g : Nat → PyData} {b : Int} (h : EvDs K ta σ H [.int b]) (h1 : b.natAbs < 2 ^ 60) (E : Elt K σ H j vs tt te b.toNat (ItR 0) p g) :
    EvN K (tLc (iRng1 ta) (gName j) tt te vs) σ H (pick p g b.toNat) := fun H1 e Q k => by
  refine h H1 e _ fun ws H2 e2 hv => ?_
  obtain ⟨y, ws, rfl, hy, hv⟩ := dps_cons hv
  obtain rfl := dps_nil hv
  cases hy
  refine ⟨b, rfl, by omega, by omega, fun D hD => lc_range (lo := 0) (n := b.toNat) (LcP K H2 D p g) (Elt.start hD) (fun i H' hi P => E.turn (e.trans e2) hi rfl P) fun H3 P => ?_⟩
  obtain ⟨acc, hacc, _, ex, hall⟩ := P
  exact k _ _ _ (fresh_back e2 hD) (e2.trans ex) hacc hall
theorem itD_mono (ds : List PyData) : ∀ i x H1 H2, Ex H1 H2 → ItD K ds i x H1 → ItD K ds i x H2 := fun _ _ _ _ e ⟨d, h, q⟩ => ⟨d, h, dp_grow e _ _ q⟩
theorem itR_mono (a : Int) : ∀ i x H1 H2, Ex H1 H2 → ItR a i x H1 → ItR a i x H2 := fun _ _ _ _ _ q => q
/-- tuple(xs) of a list or a tuple -/
theorem d_tupS {b : Bool} (h : EvD K te σ H (sq b ds)) : EvD K (tCB (rTupOf K) (tCons te tNil)) σ H (.tuple ds) := fun H1 e Q k => h H1 e _ fun v H2 e2 hv => by
  cases b with
  | true =>
    cases hv with
    | tup hs ha => exact ⟨_, _, rfl, .inr ⟨hs, k _ H2 e2 (.tup hs ha)⟩⟩
  | false =>
    cases hv with
    | lst hs ha => exact ⟨_, _, rfl, .inl ⟨hs, fun l hl => k _ _ (e2.trans (Ex.new hl)) (.tup (SqT.of upd_same) (dps_grow (Ex.new hl) _ _ ha))⟩⟩
/-- list(xs) of a list or a tuple: a new list -/
theorem f_listS {b : Bool} (h : EvD K te σ H (sq b ds)) : EvF K (tCB (rListOf K) (tCons te tNil)) σ H ds := fun H1 e Q k => h H1 e _ fun v H2 e2 hv => by
  cases b with
  | true =>
    cases hv with
    | tup hs ha => exact ⟨_, _, rfl, .inr hs, fun l hl => k _ _ _ (none_back e2 hl) (e2.trans (Ex.new hl)) upd_same (dps_grow (Ex.new hl) _ _ ha)⟩
  | false =>
    cases hv with
    | lst hs ha => exact ⟨_, _, rfl, .inl hs, fun l hl => k _ _ _ (none_back e2 hl) (e2.trans (Ex.new hl)) upd_same (dps_grow (Ex.new hl) _ _ ha)⟩
theorem f_d (h : EvF K te σ H ds) : EvD K te σ H (.list ds) := fun H1 e Q k => h H1 e Q fun p xs H2 hp e2 hx ha => k _ _ e2 (.lst (SqL.of hx) ha)
/-- xs[i] = e, further statements behind -/
theorem z_lput {ty : TE} {S : Addr} {vs : List V} {i j : Nat} (hσ : σ[i]? = some (some (.ref S))) (hS : H S = some (.lst vs)) (hj : j < vs.length) (hv : EvD K te σ H d) (hy : ∀ H1, Ex H H1 → Ev ty σ H1 (.int (j : Int))) (q : ∀ v H2 H3, Ex H H2 → Dp K H2 v d → Ex H2 H3 → ts D σ (upd H3 S (.lst (vs.set j v)))) :
    tSeq (tAsg te (gSub (tVar i) ty rSetL)) ts D σ H := z_lput1 (D := { D with nx := ts D }) hσ hS hj hv hy q
end
end Dat
/-! Calls of methods and makings as rules with one argument for all that is known of the callee. -/
namespace Dat
open PySem PySem.Spec PyProof.Rows L2 Evl
/-- a class whose instances have the attributes of al -/
structure ClsA (K : PySem.W.Frag) (mg : Str → Option Value) (x : Str) (C : Addr) (al : List Str) : Prop where
  cl : Cls K C
  na : ∀ f ∈ al, NoAttr K C f
  gC : mg x = some (.ref C)
structure MethD (P : Program) (w : World) (K : PySem.W.Frag) (mg : Str → Option Value) (base : Heap) (CX : CXT) (k : Nat) (C : Addr) (m : Str) (ps : List Str) (sp : Sp) : Prop where
  ex : ∃ (f : Addr) (fd : FuncData), Meth K C m f ∧ FnOk P w K mg base CX k f fd ps sp ∧ Binds K fd ps []
structure MakeD (P : Program) (w : World) (K : PySem.W.Frag) (mg : Str → Option Value) (base : Heap) (CX : CXT) (k : Nat) (x : Str) (C : Addr) (ps : List Str) (sp : Sp) : Prop where
  ex : ∃ (f : Addr) (fd : FuncData), Mk K C f ∧ FnOk P w K mg base CX k f fd ps sp ∧ Binds K fd ps [] ∧ mg x = some (.ref C)
section
variable {X : Cx} {CX : CXT} {k : Nat} {C : Addr} {ps : List Str} {sp : Sp} {m x : Str} {p pos apos : Pos} {e o : Expr} {es : List Expr} {ta : TE} {t : TA}
theorem pe_mcall {E : L2.St → XK} {pl : Sem Bool} (he : PE X o ta) (D : MethD X.prog X.w X.K X.mg X.base CX k C m ps sp) (c : Cls X.K C) (hr : Room k X.A) (hx : ∀ σ, PassesAt CX X σ (E σ)) (ha : PA X (e :: es) t)
    (hst : starEach (e :: es) X.env = (false, eval e X.env) :: starEach es X.env := by rfl) (hpl : (backTo pos (starEach es X.env)).any (·.1) = false := by rfl)
    (ht : eval (.Call (.Attribute o m apos) (e :: es) [] pos) X.env = (do
      let ov ← eval o X.env
      standAt apos.atName
      let (f, first) ← holding [ov] (getMethod ov m pl)
      callWith pos f first (backTo pos (starEach (e :: es) X.env)) (backToKw pos (keywordEach [] X.env))) := by rfl) :
    PE X (.Call (.Attribute o m apos) (e :: es) [] pos) (tMethX C m sp E ta t) := by
  obtain ⟨f, fd, M, F, b⟩ := D.ex
  exact pe_methX (pl := pl) he c M F hr b hx ha hst hpl ht
theorem pe_mk {E : XK} (D : MakeD X.prog X.w X.K X.mg X.base CX k x C ps sp) (hr : Room (k + 1) X.A) (hx : Passes CX X E) (ha : PA X (e :: es) t) (hg : Gl X x := by rfl)
    (hdb : (x == ("__debug__" : Str)) = false := by decide) (he : starEach (e :: es) X.env = (false, eval e X.env) :: starEach es X.env := by rfl) (hpl : (backTo pos (starEach es X.env)).any (·.1) = false := by rfl) :
    PE X (.Call (.Name x p) (e :: es) [] pos) (tMake C sp [] E t) := by
  obtain ⟨f, fd, M, F, b, g⟩ := D.ex
  exact pe_make M F hr hg g b .nil hx ha hdb he hpl
/-- nothing is let out -/
theorem passN : ∀ σ, PassesAt (L2.CX X.prog X.w) X σ E0 := fun σ pins H s e s' I h => passL pins σ H s e s' I h
/-- a statement that is never reached -/
theorem ps_none {st : Stmt} : PS X st (fun _ _ _ => False) := ⟨fun _ _ _ _ _ _ z => z.elim⟩
theorem pss_none {b : List Stmt} : PSs X b (fun _ _ _ => False) := ⟨fun _ _ _ _ _ _ z => z.elim⟩
end
end Dat
/-! enumerate over a tuple. -/
namespace Dat
open PySem PySem.Spec PyProof.Rows L2 Evl
/-- enumerate(v), v begun by the iterator o -/
theorem meets_enum1 {v : Value} {o : Obj} {G : Heap → Prop} (B : Begins v o G) :
    Meets (Builtin.«enumerate.__new__» ⟨[.type "enumerate", v], []⟩) (fun _ R s => G s.heap ∧
      R (.ok (.ret (.ref (s.heap.push o).objs.size))) { s with heap := (s.heap.push o).push { cls := .type "enumerate", data := .fields #[.none, .bool false, .ref s.heap.objs.size, rawInt 0, .none, .none] } }) :=
  .of_wp fun prog w A R s h => by
    obtain ⟨hp, g, d, tk, os⟩ := s
    obtain ⟨h1, h⟩ := h
    have hsub := sub_enumerate
    have q1 : ∀ {A' : Around} {E : Value → Shared → Prop} {Q : Value → Shared → Prop}, Q (.ref hp.objs.size) ⟨hp.push o, g, d, tk, os⟩ → wpAny (model prog w) A' (pyIter v) Q E ⟨hp, g, d, tk, os⟩ := fun q => B.iter prog w _ _ ⟨hp, g, d, tk, os⟩ _ h1 q
    wp_walk using q1
    refine wpAny_stack_any fun st => wpAny_pure ?_
    split
    · rename_i c _ _ _ _ _
      cases (c == Value.type "enumerate") <;> (wp_walk using q1; exact ⟨_, rfl, h⟩)
    · wp_walk using q1
      exact ⟨_, rfl, h⟩
theorem call_enum1 {prog : Program} {w : World} {A : Around} {E : Value → Shared → Prop} {s : Shared} {v : Value} {o : Obj} {G : Heap → Prop} {Q : Value → Shared → Prop} (B : Begins v o G) (h1 : G s.heap)
    (h : ∀ h', IsEnum h' (s.heap.objs.size + 1) s.heap.objs.size 0 .none → h'.get? s.heap.objs.size = some o → (∀ b o, s.heap.get? b = some o → h'.get? b = some o) → Q (.ref (s.heap.objs.size + 1)) { s with heap := h' }) :
    wpAny (model prog w) A (call (.type "enumerate") [v]) Q E s := by
  refine callType_new F.called_enumerate (by decide) (F.typeCall_enumerate_1 _) (F.newCall_enumerate_1 _) (fun obj => F.args_object_init_2 obj _) F.entry_enumerate_new (meets_enum1 B) ⟨h1, ?_⟩
  have hz : (s.heap.push o).objs.size = s.heap.objs.size + 1 := Heap.size_push ..
  show _ ∧ _
  rw [hz]
  have he : IsEnum ((s.heap.push o).push { cls := .type "enumerate", data := .fields #[.none, .bool false, .ref s.heap.objs.size, rawInt 0, .none, .none] }) (s.heap.objs.size + 1) s.heap.objs.size 0 .none := by
    have := Heap.get?_push_size (s.heap.push o) (o := { cls := .type "enumerate", data := .fields #[.none, .bool false, .ref s.heap.objs.size, rawInt 0, .none, .none] }) rfl
    rw [hz] at this
    exact this
  exact ⟨⟨_, he, rfl⟩, h _ he (Heap.get?_push_of_some _ (Heap.get?_push_size _ B.free)) fun b o x => Heap.get?_push_of_some _ (Heap.get?_push_of_some _ x)⟩
/-- the tuple at a, each item in a new pair -/
def Ittn (K : PySem.W.Frag) (a : Addr) : It :=
  ⟨fun i H => ∃ (xs : List V) (x : V), SqT K H a xs ∧ xs[i]? = some x, fun i H v H' => ∃ T x, v = .ref T ∧ H T = none ∧ H' = upd H T (.tup [.int (i : Nat), x]) ∧ ∀ xs, SqT K H a xs → xs[i]? = some x, fun i H => ∃ xs : List V, SqT K H a xs ∧ xs.length = i⟩
theorem turn_enumT {P : Program} {w : World} {K : PySem.W.Frag} {elts : List Expr} {kk : Nat} {tpos : Pos} (a e it : Addr) :
    Turn P w K (.Tuple elts kk tpos) (Ittn K a) [e, it] e (fun i h => (∃ old, IsEnum h e it ((i : Nat) : Int) old) ∧ h.IsTupleIter it a i ∧ e ≠ it ∧ a ≠ it ∧ a ≠ e) where
  mem := by simp
  obj := by
    rintro i h ⟨⟨old, he⟩, ⟨o, ho, hc, hd⟩, _⟩ b hb
    rcases (by simpa using hb : b = e ∨ b = it) with rfl | rfl
    · exact ⟨_, he, fun v q => nomatch q⟩
    · exact ⟨o, ho, fun v q => by rw [hd] at q; cases q⟩
  keep := fun i h h' st k => let ⟨⟨old, he⟩, hi, r⟩ := st; ⟨⟨old, k e (by simp) _ he⟩, hi.at fun o q => k it (by simp) o q, r⟩
  item := by
    intro X hP hw hK hc i pins s σ H E I hf st hg
    subst hP hw hK
    obtain ⟨⟨old, he⟩, hit, hne, hai, hae⟩ := st
    obtain ⟨xs, x, hq, hx⟩ := hg
    obtain ⟨its, rv, p, hz⟩ := I.tuple hq
    obtain ⟨u, hu, ru⟩ := rv.get hx
    have hel : e < s.heap.objs.size := Heap.lt_size he
    have hil : it < s.heap.objs.size := by obtain ⟨_, q, _⟩ := hit; exact Heap.lt_size q
    have D := Draws.tuple (prog := X.prog) (w := X.w) (A := X.A.in1) (I.ok.hd hc) it a hai its.toArray
    refine wpAny_pyNext_enum_itemD D he ⟨hit, p⟩ (by have := (List.getElem?_eq_some_iff.mp hu).1; simpa using this) hne (by simp [hne, Ne.symm hae]) fun y h' tk hy ho st' hT hsz hk => ?_
    have hyu : y = u := by
      have hy : its.toArray[i]? = some y := hy
      rw [List.getElem?_toArray, hu] at hy
      exact (Option.some.inj hy).symm
    subst hyu
    refine ⟨_, rfl, wpAny_letOwnedTupleGo_enum (s := { s with heap := h', toks := tk + 1 }) ho fun h'' he' sb => ?_⟩
    have hT2 : h''.get? s.heap.objs.size = some { cls := .type "tuple", data := .seq #[.int i tk, y] } := (sb.2 _ (Nat.ne_of_gt hel)).trans hT
    have new : ObjOk X.prog X.w (upd H s.heap.objs.size (.tup [.int (i : Nat), x])) h'' s.heap.objs.size (.tup [.int (i : Nat), x]) :=
      ⟨by show 2 ≤ sizeLine; decide, [.int i tk, y], .cons ⟨_, rfl⟩ (.cons ru .nil), ⟨_, hT2, rfl, _, rfl⟩⟩
    have I1 : Inv X pins σ (upd H s.heap.objs.size (.tup [.int (i : Nat), x])) { s with heap := h'', toks := tk + 1 } :=
      I.turnedNew (ch := [e, it]) (fun b ob hb q => (sb.2 b (fun z => hb (by simp [z]))).trans (hk b ob (fun z => hb (by simp [z])) (fun z => hb (by simp [z])) q)) hf (Nat.le_refl _) new
    refine ⟨.ref s.heap.objs.size, _, I1, rfl, ⟨_, x, rfl, I.hok.fresh (Nat.le_refl _), rfl, fun ys hy => by rw [I.tuple_inj hy hq]; exact hx⟩, ⟨⟨y, ?_⟩, st'.1.at fun o q => (sb.2 it (Ne.symm hne)).trans q, hne, hai, hae⟩, fun b hb => ?_⟩
    · have e1 : ((i + 1 : Nat) : Int) = (i : Int) + 1 := by omega
      rw [e1]
      exact he'
    · have hb' : b < s.heap.objs.size := by
        rcases (by simpa using hb : b = e ∨ b = it) with rfl | rfl
        · exact hel
        · exact hil
      rw [upd_ne (Nat.ne_of_lt hb')]
      exact (hf b hb).1
  done := by
    intro X hP hw hK hc i pins s σ H E I hf st hg
    subst hP hw hK
    obtain ⟨⟨old, he⟩, hit, hne, hai, hae⟩ := st
    obtain ⟨xs, hq, hx⟩ := hg
    obtain ⟨its, rv, p, hz⟩ := I.tuple hq
    obtain ⟨f0, f1, f2, f3, f4, f5⟩ := hf it (by simp)
    have hl := rv.length
    have D := Draws.tuple (prog := X.prog) (w := X.w) (A := X.A.in1) (I.ok.hd hc) it a hai its.toArray
    have hn : its.toArray.size = i := by simp; omega
    exact wpAny_pyNext_enum_endD D he (by rw [hn]; exact ⟨hit, p⟩) fun h' eb => ⟨rfl, I.turned (t' := s.toks) (fun b o hb q => eb b o hb q) f0 f1 f3 f4 f5⟩
  self := fun A i s Q E st h => let ⟨⟨_, he⟩, _⟩ := st; wpAny_pyIter_enum he h
def iEnumT (K : PySem.W.Frag) (ta : TA) : TI := fun σ H R => ta σ H fun vs H1 => ∃ a xs, vs = [.ref a] ∧ SqT K H1 a xs ∧ R (Ittn K a) H1
theorem pi_enumT {X : Cx} {e : Expr} {ta : TA} {p pos tpos : Pos} {elts : List Expr} {kk : Nat} (hg : Gl X "enumerate") (hm : X.mg "enumerate" = none) (ha : PA X [e] ta) (hs : starEach [e] X.env = [(false, eval e X.env)] := by rfl) :
    PI X (.Tuple elts kk tpos) (.Call (.Name "enumerate" p) [e] [] pos) (iEnumT X.K ta) := by
  constructor
  intro pins s σ H R I h
  refine Call_ (ld_blt I hg hm boot_enumerate (PyProof.Rows.callWith_type1 (thn (ha.run pos pins s σ H _ I h) ?_) hs rfl))
  rintro us s1 ⟨vs, H1, I1, r1, a, xs, rfl, hq, q⟩
  cases r1 with
  | cons r rr =>
    cases rr
    cases r
    obtain ⟨its, rv, p', hz⟩ := I1.tuple hq
    refine call_enum1 (begins_tuple a its.toArray) p' fun h' he hit hk => wpAny_pyIter_enum he ?_
    have I2 : Inv X pins σ H1 { s1 with heap := h' } := I1.kept (t' := s1.toks) hk
    have la : a < s1.heap.objs.size := p'.lt
    refine ⟨s1.heap.objs.size + 1, [s1.heap.objs.size + 1, s1.heap.objs.size], _, _, H1, rfl, I2, turn_enumT a (s1.heap.objs.size + 1) s1.heap.objs.size, ⟨⟨.none, he⟩, ⟨_, hit, rfl, rfl⟩, Nat.succ_ne_self _, Nat.ne_of_lt la, Nat.ne_of_lt (Nat.lt_succ_of_lt la)⟩, fun b hb => ?_, q⟩
    have hle : s1.heap.objs.size ≤ b := by
      rcases (by simpa using hb : b = s1.heap.objs.size + 1 ∨ b = s1.heap.objs.size) with rfl | rfl
      · exact Nat.le_succ _
      · exact Nat.le_refl _
    exact I1.fpOk hle (I1.hok.fresh hle)
theorem for_enumT {K : PySem.W.Frag} {a : Addr} {xs : List V} {g : TG} {tb : TS} {D : Ends} {σ : L2.St} {H : Hp} (Pv : Nat → L2.St → Hp → Prop) (h0 : Pv 0 σ H) (hl : ∀ i σ H, i ≤ xs.length → Pv i σ H → SqT K H a xs)
    (hs : ∀ (i : Nat) x σ H T, xs[i]? = some x → Pv i σ H → H T = none → g (.ref T) σ (upd H T (.tup [.int (i : Nat), x])) fun σ2 H2 => tb { D with nx := Pv (i + 1), ct := Pv (i + 1), bk := D.nx } σ2 H2) (hd : ∀ σ H, Pv xs.length σ H → D.nx σ H) :
    ∃ W : Nat → Nat → L2.St → Hp → Prop, (∃ m, W 0 m σ H) ∧ ∀ i m σ H, W i m σ H →
      ((Ittn K a).stop i H ∧ D.nx σ H) ∨ ((Ittn K a).go i H ∧ ∃ N : L2.St → Hp → Prop, (∀ σ' H', N σ' H' → ∃ m', m' < m ∧ W (i + 1) m' σ' H') ∧ ∀ x H', (Ittn K a).yld i H x H' → g x σ H' fun σ2 H2 => tb { D with nx := N, ct := N, bk := D.nx } σ2 H2) := by
  refine ⟨fun i m σ H => m = xs.length - i ∧ i ≤ xs.length ∧ Pv i σ H, ⟨xs.length, by simp, Nat.zero_le _, h0⟩, ?_⟩
  rintro i m σ H ⟨rfl, hi, p⟩
  have q := hl i σ H hi p
  rcases Nat.lt_or_eq_of_le hi with hlt | e
  · refine .inr ⟨⟨xs, xs[i], q, by simp [hlt]⟩, Pv (i + 1), fun σ' H' p' => ⟨xs.length - (i + 1), by omega, rfl, hlt, p'⟩, fun x H' y => ?_⟩
    obtain ⟨T, x', rfl, nT, rfl, hx⟩ := y
    exact hs i x' σ H T (hx xs q) p nT
  · refine .inl ⟨⟨xs, q, e.symm⟩, ?_⟩
    rw [e] at p
    exact hd σ H p
section
variable {K : PySem.W.Frag} {te : TE} {ty ts : TS} {tg : TG} {D : Ends} {σ : L2.St} {H : Hp} {ds : List PyData} {b : Bool}
theorem dp_one {H1 : Hp} {vs : List V} {d : PyData} (h : DpAll K H1 vs [d]) : ∃ v, vs = [v] ∧ Dp K H1 v d := by
  obtain ⟨v, ws, rfl, hv, h⟩ := dps_cons h
  obtain rfl := dps_nil h
  exact ⟨v, rfl, hv⟩
/-- for i, x in enumerate(xs), the last statement of a block -/
theorem z_enumS1 {i j n : Nat} (h : EvDs K (tCons te tNil) σ H [sq b ds]) (hn : n = 2) (Pv : Nat → L2.St → Hp → Prop) (h0 : ∀ H1, Ex H H1 → Pv 0 σ H1)
    (step : ∀ (k : Nat) d v σ' H' (D' : Ends), ds[k]? = some d → Ex H H' → (∃ H0, Ex H0 H' ∧ Pv k σ' H0) → Dp K H' v d → D'.rt = D.rt → (∀ σ2 H2, Ex H' H2 → Pv (k + 1) σ2 H2 → D'.nx σ2 H2) → ty D' ((σ'.set i (some (.int (k : Int)))).set j (some v)) H')
    (fin : ∀ σ' H', Ex H H' → Pv ds.length σ' H' → D.nx σ' H') :
    tFor (iAlt (iEnum K (tCons te tNil)) (iEnumT K (tCons te tNil))) (gAlt (gTup K n (gCons (gName i) (gCons (gName j) gNil))) (gLst K n (gCons (gName i) (gCons (gName j) gNil)))) ty D σ H := by
  have turn : ∀ {H1 H' : Hp} {T : Addr} {k : Nat} {x : V} {d : PyData} {σ' : L2.St}, Ex H H1 → Ex H1 H' → Pv k σ' H' → H' T = none → ds[k]? = some d → Dp K H' x d →
      gAlt (gTup K n (gCons (gName i) (gCons (gName j) gNil))) (gLst K n (gCons (gName i) (gCons (gName j) gNil))) (.ref T) σ' (upd H' T (.tup [.int (k : Nat), x])) (fun σ2 H2 =>
        ty { D with nx := fun σ' H' => Ex H1 H' ∧ Pv (k + 1) σ' H', ct := fun σ' H' => Ex H1 H' ∧ Pv (k + 1) σ' H', bk := D.nx } σ2 H2) := by
    intro H1 H' T k x d σ' e e1 p hT hd hx
    have eT : Ex H' (upd H' T (.tup [.int (k : Nat), x])) := Ex.new hT
    refine g_twoS (b := true) (.tup (SqT.of upd_same) (.cons (.int (k : Int)) (.cons (dp_grow eT _ _ hx) .nil))) hn fun y z hy hz => ?_
    cases hy
    exact step k d z σ' _ _ hd (e.trans (e1.trans eT)) ⟨H', eT, p⟩ hz rfl fun σ2 H2 e2 p2 => ⟨(e1.trans eT).trans e2, p2⟩
  cases b with
  | false =>
    refine .inl (h H (Ex.refl H) _ fun vs H1 e hv => ?_)
    obtain ⟨v, rfl, hw⟩ := dp_one hv
    cases hw with
    | lst hs ha =>
      rename_i a vs
      have hl := dps_len ha
      refine ⟨a, vs, rfl, hs, for_enum (fun k σ' H' => Ex H1 H' ∧ Pv k σ' H') ⟨Ex.refl H1, h0 _ e⟩ (fun k σ' H' _ p => ex_l p.1 hs) (fun k x σ' H' T hx p hT => ?_) (fun σ' H' p => fin σ' H' (e.trans p.1) (by rw [← hl]; exact p.2))⟩
      obtain ⟨d, hd, hxd⟩ := dps_back ha hx
      exact turn e p.1 p.2 hT hd (dp_grow p.1 _ _ hxd)
  | true =>
    refine .inr (h H (Ex.refl H) _ fun vs H1 e hv => ?_)
    obtain ⟨v, rfl, hw⟩ := dp_one hv
    cases hw with
    | tup hs ha =>
      rename_i a vs
      have hl := dps_len ha
      refine ⟨a, vs, rfl, hs, for_enumT (fun k σ' H' => Ex H1 H' ∧ Pv k σ' H') ⟨Ex.refl H1, h0 _ e⟩ (fun k σ' H' _ p => ex_t p.1 hs) (fun k x σ' H' T hx p hT => ?_) (fun σ' H' p => fin σ' H' (e.trans p.1) (by rw [← hl]; exact p.2))⟩
      obtain ⟨d, hd, hxd⟩ := dps_back ha hx
      exact turn e p.1 p.2 hT hd (dp_grow p.1 _ _ hxd)
end
end Dat
/-! tuple * n, 1 among the n. -/
namespace Dat
open PySem PySem.Spec PyProof.Rows L2 Evl
theorem tuple_one (l : Addr) (items : Array Value) (n : Nat) (dd : Option Addr) (sl : Array (Option Value)) (x : Int) (u : Tok) (c0 : (decide (x < -(2 ^ 63)) || decide (x ≥ 2 ^ 63)) = false) (c1 : (items.isEmpty || x == 1) = true) :
    Meets (Builtin.«tuple.__mul__» ⟨[.ref l, .int x u], []⟩) (fun _ R s => s.heap.get? l = some { cls := .type "tuple", dict := dd, data := .seq items n, slots := sl } ∧ R (.ok (.ret (Value.ref l))) s) :=
  .of_wp fun prog w A R s h => by
    obtain ⟨hp, g, d, tk, os⟩ := s
    obtain ⟨hl, h⟩ := h
    have f1 := AutoSeq1.idx_int
    wp_walk using wpAny_loadPart' hl
    repeat (first
      | (refine wpAny_ite_false (decide_eq_false (by rw [c0]; exact Bool.false_ne_true)) ?_; wp_walk using wpAny_loadPart' hl)
      | (refine wpAny_ite_true (decide_eq_true c1) ?_; wp_walk using wpAny_loadPart' hl))
    exact ⟨_, rfl, h⟩
/-- t * n, n from 1 on -/
def rRepU (K : PySem.W.Frag) : R2 := fun x y H Q => rRepT K x y H Q ∨ ∃ l xs, x = .ref l ∧ y = .int 1 ∧ SqT K H l xs ∧ Q (.ref l) H
theorem op_repU {X : Cx} : OpR X (binaryOp .Mult) (rRepU X.K) := by
  intro pins s σ H x y v u Q I rx ry h
  rcases h with h | ⟨l, xs, rfl, rfl, hT, q⟩
  · exact op_repT pins s σ H x y v u Q I rx ry h
  · cases rx
    obtain ⟨t, rfl⟩ := ry
    obtain ⟨its, r, ⟨⟨cls, dd, data, sl⟩, ho, hc, n, hd⟩, hs⟩ := I.tuple hT
    simp only at hc hd
    subst hc hd
    refine wpAny_binaryOp_repeat_ref (T := "tuple") (U := "int") (by decide) ⟨_, ho, rfl⟩ (fun s' => typeIs_int s' 1 t) noFill_tuple_mul F.fills_int_mul F.slot_int_rmul repeat_tuple F.slot_int_index.lookup
      (call_meets F.slot_int_rmul (typeIs_int s 1 t) F.entry_int_rmul (F.args_int_rmul_2 _ _) (int_rmul_tuple 1 t l its.toArray n dd sl)
        ⟨ho, rfl, ⟨_, ho, rfl⟩, call_meets F.slot_tuple_mul ⟨_, ho, rfl⟩ F.entry_tuple_mul (F.args_tuple_mul_2 _ _) (tuple_one l its.toArray n dd sl 1 t (by decide) (by simp)) ⟨ho, ?_⟩⟩)
    exact ⟨.ref l, H, I, rfl, q⟩
section
variable {K : PySem.W.Frag} {te tb : TE} {σ : L2.St} {H : Hp} {ds : List PyData}
theorem rep_map {α β : Type} (f : α → β) (n : Nat) (l : List α) : (List.replicate n l).flatten.map f = (List.replicate n (l.map f)).flatten := by
  rw [List.map_flatten, List.map_replicate]
theorem dps_rep {vs : List V} (h : DpAll K H vs ds) : ∀ n : Nat, DpAll K H (List.replicate n vs).flatten (List.replicate n ds).flatten
  | 0 => .nil
  | n + 1 => by
    rw [List.replicate_succ, List.replicate_succ, List.flatten_cons, List.flatten_cons]
    exact dps_app h (dps_rep h n)
theorem d_repU {n : Nat} (h : EvD K te σ H (.tuple ds)) (r : EvD K tb σ H (.int (n : Int))) (h0 : 1 ≤ n) (h1 : n ≤ 1000) (hl : ds.length ≤ 1000) (hne : ds ≠ []) : EvD K (tOp (rRepU K) te tb) σ H (.tuple (List.replicate n ds).flatten) := fun H1 e Q k =>
  h H1 e _ fun v H2 e2 hv => r H2 (e.trans e2) _ fun w H3 e3 hw => by
    cases hw
    cases dp_grow e3 _ _ hv with
    | tup hs ha =>
      rename_i a xs
      by_cases q : n = 1
      · subst q
        refine .inr ⟨a, xs, rfl, rfl, hs, k _ _ (e2.trans e3) ?_⟩
        have z : (List.replicate 1 ds).flatten = ds := by simp
        rw [z]
        exact .tup hs ha
      · refine .inl ⟨a, n, xs, rfl, rfl, hs, fun z => hne (List.length_eq_zero_iff.mp (by rw [← dps_len ha, z]; rfl)), by omega, by omega, by rw [dps_len ha]; exact hl, fun p hp => ?_⟩
        rw [Int.toNat_natCast]
        exact k _ _ ((e2.trans e3).trans (Ex.new hp)) (.tup (SqT.of upd_same) (dps_grow (Ex.new hp) _ _ (dps_rep ha n)))
end
/-- e.f with the view named, for comprehensions -/
theorem pe_fldK {X : Cx} {e : Expr} {ta : TE} {f : Str} {pos : Pos} (K : PySem.W.Frag) (he : PE X e ta) (hb : attributeBase e f X.env (eval e X.env) = eval e X.env := by rfl) (hK : X.K = K := by rfl) : PE X (.Attribute e f pos) (tFld K ta f) := by
  subst hK
  exact pe_fld he hb
theorem passZ {X : Cx} : ∀ σ, PassesAt CX0 X σ E0 := fun _ _ _ _ _ _ _ h => h.elim
end Dat
/-! New lists of new lists, and an item of one of them set. -/
namespace Dat
open PySem L2 Evl
section
variable {K : PySem.W.Frag} {te tl ty tx : TE} {σ : L2.St} {H : Hp} {D : Ends} {ts : TS} {d : PyData}
theorem z_lputE {S : Addr} {vs : List V} {j : Nat} (hl : ∀ H1, Ex H H1 → Ev tl σ H1 (.ref S)) (hS : H S = some (.lst vs)) (hj : j < vs.length) (hv : EvD K te σ H d) (hy : ∀ H1, Ex H H1 → Ev ty σ H1 (.int (j : Int))) (q : ∀ v H2 H3, Ex H H2 → Dp K H2 v d → Ex H2 H3 → ts D σ (upd H3 S (.lst (vs.set j v)))) :
    tSeq (tAsg te (gSub tl ty rSetL)) ts D σ H := hv H (Ex.refl H) _ fun v H2 x2 h => hl H2 x2 H2 (Ex.refl H2) _ fun H3 x3 => hy H3 (x2.trans x3) H3 (Ex.refl H3) _ fun H4 x4 => ⟨S, vs, (j : Int), j, rfl, rfl, (x2.trans (x3.trans x4)) _ _ hS, by
  unfold ixN
  rw [if_pos (by omega), if_pos (by omega), Int.toNat_natCast], q v H2 H4 x2 h (x3.trans x4)⟩
/-- an item of a list that is no datum -/
theorem ev_item {S : Addr} {vs : List V} {j : Nat} {v : V} (hl : Ev tl σ H (.ref S)) (hS : H S = some (.lst vs)) (hv : vs[j]? = some v) (hy : ∀ H1, Ex H H1 → Ev ty σ H1 (.int (j : Int))) : Ev (tOp (rIxL K) tl ty) σ H v := fun H1 e Q q =>
  hl H1 e _ fun H2 e2 => hy H2 (e.trans e2) H2 (Ex.refl H2) _ fun H3 e3 => ⟨S, vs, (j : Int), v, rfl, rfl, SqL.of ((e.trans (e2.trans e3)) _ _ hS), by
    have hj : j < vs.length := (List.getElem?_eq_some_iff.mp hv).1
    unfold atI ixN
    rw [if_pos (by omega), if_pos (by omega), Int.toNat_natCast]
    exact hv, q H3 (e2.trans e3)⟩
/-- what a list of new lists holds: the lists at rs, their items yss, what stood before in Hb -/
structure Rows (Hb H2 : Hp) (p : Addr) (rs : List Addr) (yss : List (List V)) : Prop where
  at_ : H2 p = some (.lst (rs.map V.ref))
  new : Hb p = none
  len : yss.length = rs.length
  row : ∀ (i : Nat) r ys, rs[i]? = some r → yss[i]? = some ys → Hb r = none ∧ r ≠ p ∧ H2 r = some (.lst ys)
  nd : rs.Nodup
/-- [list(x) for x in t], t a tuple of tuples -/
theorem n_lists {j : Nat} {vs : List Nat} {Ls : List (List PyData)} (h : EvD K tx σ H (.tuple (Ls.map PyData.tuple))) (hn : Ls.length ≤ 40000) (hw : ∀ x, wipe ((wipe σ vs).set j (some x)) vs = wipe σ vs) (hl : ∀ x, ((wipe σ vs).set j (some x))[j]? = some (some x)) :
    ∀ H1, Ex H H1 → ∀ Q : VK, (∀ Hb p rs yss H2, Ex H1 Hb → Ex Hb H2 → Rows Hb H2 p rs yss → rs.length = Ls.length → (∀ (i : Nat) ys L, yss[i]? = some ys → Ls[i]? = some L → DpAll K Hb ys L) → Q (.ref p) H2) →
      tLc (iTup K tx) (gName j) tYes (tCB (rListOf K) (tCons (tVar j) tNil)) vs σ H1 Q := fun H1 e Q k => by
  refine h H1 e _ fun v Hb e2 hv => ?_
  cases hv with
  | tup hs ha =>
    rename_i a xs
    have hlen := dps_len ha
    rw [List.length_map] at hlen
    refine ⟨a, rfl, ⟨xs, hs⟩, fun D hD => ?_⟩
    refine lc_tup (K := K) (xs := xs) (fun i H' => ∃ rs yss, Ex Hb (rem H' D) ∧ H' D = some (.lst (rs.map V.ref)) ∧ rs.length = i ∧ Rows Hb H' D rs yss ∧ ∀ (i : Nat) ys L, yss[i]? = some ys → Ls[i]? = some L → DpAll K Hb ys L)
      ⟨[], [], by rw [rem_new hD]; exact Ex.refl Hb, upd_same, rfl, ⟨upd_same, hD, rfl, (fun i r ys z => by cases z), List.nodup_nil⟩, (fun i ys L z => by cases z)⟩ (fun i H' _ ⟨_, _, ex, _⟩ => ex_t (ex.trans rem_ex) hs) ?_ ?_
    · rintro i x H' hx ⟨rs, yss, ex, hacc, hi, R, hd'⟩
      obtain ⟨d, hd, hxd⟩ := dps_back ha hx
      rw [List.getElem?_map] at hd
      obtain ⟨L, hL, rfl⟩ := Option.map_eq_some_iff.mp hd
      have hiL : i < Ls.length := (List.getElem?_eq_some_iff.mp hL).1
      refine ⟨hw x, yes_turn ?_⟩
      cases hxd with
      | tup hts hta =>
        rename_i b ys
        refine ⟨_, hl _, b, ys, rfl, .inr (ex_t (ex.trans rem_ex) hts), fun l hlf => ?_⟩
        have nD : l ≠ D := fun q => by
          rw [q, hacc] at hlf
          cases hlf
        have nb : Hb l = none := fresh_back (ex.trans rem_ex) hlf
        refine ⟨rs.map V.ref, (Ex.new hlf) _ _ hacc, by rw [List.length_map]; exact sz_lt (by omega), rs ++ [l], yss ++ [ys], ?_, by rw [List.map_append]; exact upd_same, by rw [List.length_append]; simp [hi], ⟨by rw [List.map_append]; exact upd_same, hD, by rw [List.length_append, List.length_append, R.len]; rfl, ?_, ?_⟩, ?_⟩
        · rw [rem_upd]
          exact ex.trans (ex_rem (Ex.new hlf))
        · intro m r zs hr hz
          by_cases hm : m < rs.length
          · rw [List.getElem?_append_left hm] at hr
            rw [List.getElem?_append_left (by rw [R.len]; exact hm)] at hz
            obtain ⟨q1, q2, q3⟩ := R.row m r zs hr hz
            exact ⟨q1, q2, by rw [upd_ne q2]; exact (Ex.new hlf) _ _ q3⟩
          · have em : m = rs.length := by
              have := (List.getElem?_eq_some_iff.mp hr).1
              rw [List.length_append] at this
              simp at this
              omega
            subst em
            rw [List.getElem?_append_right (Nat.le_refl _), Nat.sub_self] at hr
            rw [List.getElem?_append_right (by rw [R.len]; exact Nat.le_refl _), R.len, Nat.sub_self] at hz
            cases hr
            cases hz
            exact ⟨nb, nD, by rw [upd_ne nD]; exact upd_same⟩
        · rw [List.nodup_append]
          refine ⟨R.nd, by simp, fun r hr q hq => ?_⟩
          rw [List.mem_singleton] at hq
          subst hq
          intro z
          subst z
          obtain ⟨m, hm⟩ := List.mem_iff_getElem?.mp hr
          have hmy : m < yss.length := by rw [R.len]; exact (List.getElem?_eq_some_iff.mp hm).1
          have := (R.row m r yss[m] hm (by simp [hmy])).2.2
          rw [this] at hlf
          cases hlf
        · intro m zs L' hz hL'
          by_cases hm : m < yss.length
          · rw [List.getElem?_append_left hm] at hz
            exact hd' m zs L' hz hL'
          · have em : m = yss.length := by
              have := (List.getElem?_eq_some_iff.mp hz).1
              rw [List.length_append] at this
              simp at this
              omega
            rw [em, List.getElem?_append_right (Nat.le_refl _), Nat.sub_self] at hz
            cases hz
            rw [em, R.len, hi, hL] at hL'
            cases hL'
            exact hta
    · rintro H3 ⟨rs, yss, ex, hacc, hi, R, hd'⟩
      exact k Hb D rs yss H3 e2 (ex.trans rem_ex) R (by rw [hi, hlen]) hd'
end
end Dat
/-! More that is drawn from the hand: data by a test, by a def, a menu; lists in lists. -/
namespace Dat
open PySem L2 Evl
theorem keep_ne {H H2 : Hp} {h L : Addr} {o : HO} (x : Ex (rem H h) (rem H2 h)) (n : L ≠ h) (hL : H L = some o) : H2 L = some o := by
  have := x L o ((rem_ne n).trans hL)
  rwa [rem_ne n] at this
section
variable {K : PySem.W.Frag} {σ : L2.St} {H B : Hp} {te tb tx : TE} {tu tw ts : TS} {D : Ends} {h c : Addr} {ns : List Int}
theorem eh_of {P : PyData → Prop} {d : PyData} (e : ∀ H, EvD K te σ H d) (f : flat d = true) (p : P d) : EH K h c ns te σ P := fun H1 hh Q q => e H1 H1 (Ex.refl H1) _ fun v H2 x hv =>
  q v d H2 (hand_grow x hh) (ex_rem x) (hand_dp (hand_grow x hh) f hv) f p
theorem eh_if {P1 : Int → Prop} {P : PyData → Prop} {m : Int} (a : EI h c ns te σ P1) (b1 : EH K h c ns tb σ P) (b2 : EH K h c ns tx σ P) : EH K h c ns (tIf (tTest (tOp rEq te (tC (.int m)))) tb tx) σ P := fun H1 hh Q q =>
  a H1 hh _ fun i H2 hh2 e2 _ => by
    refine ⟨rfl, decide (V.int i = V.int m), rfl, ?_⟩
    cases decide (V.int i = V.int m) with
    | true => exact (b1 H2 hh2 Q fun v d H3 hh3 e3 p => q v d H3 hh3 (e2.trans e3) p)
    | false => exact (b2 H2 hh2 Q fun v d H3 hh3 e3 p => q v d H3 hh3 (e2.trans e3) p)
theorem eh_call1 {P1 P : PyData → Prop} {f : List PyData → PyData → Prop} {g : PyData → PyData} (a : EH K h c ns te σ P1) (hf : ∀ d, P1 d → f [d] (g d) ∧ flat (g d) = true ∧ P (g d)) : EH K h c ns (tCall (spD K 1 f) [] E0 (tCons te tNil)) σ P := fun H1 hh Q q =>
  a H1 hh _ fun v d H2 hh2 e2 hv fl p1 => by
    obtain ⟨q1, q2, q3⟩ := hf d p1
    exact ⟨[d], g d, rfl, .cons (dp_grow rem_ex _ _ hv) .nil, q1, fun u H4 e4 hu => q u _ H4 (hand_grow e4 hh2) (e2.trans (ex_rem e4)) (hand_dp (hand_grow e4 hh2) q2 hu) q2 q3⟩
/-- a call of a def of the hand alone -/
def spHD (K : PySem.W.Frag) (P : PyData → Prop) : Sp := fun vs H Q _ => ∃ (h c : Addr) (ns : List Int), vs = [.ref h] ∧ HandOk H h c ns ∧ ∀ v d H', HandOk H' h c ns → Ex (rem H h) (rem H' h) → Dp K (rem H' h) v d → flat d = true → P d → Q v H'
theorem eh_hand {P : PyData → Prop} {j : Nat} (s : σ[j]? = some (some (.ref h))) : EH K h c ns (tCall (spHD K P) [] E0 (tCons (tVar j) tNil)) σ P := fun H1 hh Q q => ⟨_, s, h, c, ns, rfl, hh, q⟩
theorem eh_imp {P P' : PyData → Prop} (a : EH K h c ns te σ P) (p : ∀ d, P d → P' d) : EH K h c ns te σ P' := fun H1 hh Q q => a H1 hh _ fun v d H2 hh2 e2 hv f x => q v d H2 hh2 e2 hv f (p d x)
/-- (a, b, ..)[a draw] -/
theorem i_menu {is : List Int} {P1 P : Int → Prop} (e : ∀ H, EvD K te σ H (.tuple (is.map PyData.int))) (a : EI h c ns tb σ P1) (b : ∀ i, P1 i → 0 ≤ i ∧ i < (is.length : Int)) (p : ∀ i ∈ is, P i) : EI h c ns (tOp (rIxT K) te tb) σ P := fun H1 hh Q q =>
  e H1 H1 (Ex.refl H1) _ fun v H2 x hv => a H2 (hand_grow x hh) _ fun i H3 hh3 e3 pi => by
    obtain ⟨b0, b1⟩ := b i pi
    obtain ⟨n, rfl⟩ := Int.eq_ofNat_of_zero_le b0
    have hn : n < is.length := by omega
    have f : flat (.tuple (is.map PyData.int)) = true := flats_ints is
    have hv3 : Dp K H3 v (.tuple (is.map PyData.int)) := dp_grow (e3.trans rem_ex) _ _ (hand_dp (hand_grow x hh) f hv)
    cases hv3 with
    | tup hs ha =>
      rename_i p0 xs
      have ex : xs[n]? = some (.int is[n]) := by
        obtain ⟨u, hu, hd⟩ := dps_get ha (i := n) (d := .int is[n]) (by rw [List.getElem?_map, List.getElem?_eq_getElem hn]; rfl)
        cases hd
        exact hu
      refine ⟨p0, xs, (n : Int), .int is[n], rfl, rfl, hs, ?_, q _ H3 hh3 ((ex_rem x).trans e3) (p _ (List.getElem_mem hn))⟩
      have hl : xs.length = is.length := by rw [dps_len ha, List.length_map]
      unfold atI ixN
      rw [if_pos (by omega), if_pos (by omega), Int.toNat_natCast]
      exact ex
theorem hz_ifEq {P1 : Int → Prop} {m : Int} (hh : HandOk H h c ns) (a : EI h c ns te σ P1) (k1 : ∀ H2, HandOk H2 h c ns → Ex (rem H h) (rem H2 h) → tu D σ H2) (k2 : ∀ H2, HandOk H2 h c ns → Ex (rem H h) (rem H2 h) → tw D σ H2) :
    tIfS (tTest (tOp rEq te (tC (.int m)))) tu tw D σ H := a H hh _ fun i H2 hh2 e2 _ => by
  refine ⟨rfl, decide (V.int i = V.int m), rfl, ?_⟩
  cases decide (V.int i = V.int m) with
  | true => exact k1 H2 hh2 e2
  | false => exact k2 H2 hh2 e2
theorem bz_list {j i : Nat} {vs : List Nat} {Pn : Int → Prop} {P : PyData → Prop} (s : StB h c ns B H) (hn : EI h c ns tb σ Pn) (hp : ∀ n, Pn n → 0 ≤ n ∧ n ≤ 40000) (hw : ∀ x, wipe ((wipe σ vs).set j (some x)) vs = wipe σ vs)
    (he : ∀ i : Nat, EH K h c ns te ((wipe σ vs).set j (some (.int (i : Int)))) P) (k : ∀ v ds H1 B1, StB h c ns B1 H1 → Ex B B1 → Dp K B1 v (.list ds) → Pn (ds.length : Int) → (∀ d ∈ ds, flat d = true ∧ P d) → ts D (σ.set i (some v)) H1) :
    tSeq (tAsg (tLc (iRng1 (tCons tb tNil)) (gName j) tYes te vs) (gName i)) ts D σ H :=
  eh_list hn hp hw he H s.hh _ fun v ds H2 hh2 e2 hv pn hd => k v ds H2 (rem H2 h) ⟨hh2, Ex.refl _⟩ (s.ex.trans e2) hv pn hd
/-- a drawn list beside a list L that is being filled -/
theorem eh_newL {j : Nat} {vs : List Nat} {Pn : Int → Prop} {P : PyData → Prop} {L : Addr} {ys : List V} (hn : EI h c ns tb σ Pn) (hp : ∀ n, Pn n → 0 ≤ n ∧ n ≤ 40000) (hw : ∀ x, wipe ((wipe σ vs).set j (some x)) vs = wipe σ vs)
    (he : ∀ i : Nat, EH K h c ns te ((wipe σ vs).set j (some (.int (i : Int)))) P) (hh : HandOk H h c ns) (nL : L ≠ h) (hL : H L = some (.lst ys)) (Q : VK)
    (k : ∀ p ds H2, HandOk H2 h c ns → Ex (rem H h) (rem H2 h) → H2 L = some (.lst ys) → Dp K (rem (rem H2 h) L) (.ref p) (.list ds) → Pn (ds.length : Int) → (∀ d ∈ ds, flat d = true ∧ P d) → Q (.ref p) H2) :
    tLc (iRng1 (tCons tb tNil)) (gName j) tYes te vs σ H Q := eh_new hn hp hw he H hh Q fun p xs ds H2 hp0 hh2 e2 hx ha pn hd => by
  obtain ⟨nph, npc⟩ := hand_ne hh hp0
  have npL : p ≠ L := fun e => by rw [e, hL] at hp0; cases hp0
  have e2' : Ex (rem H h) (rem H2 h) := e2.trans rem_ex
  have hL2 := keep_ne e2' nL hL
  have fl : flats ds = true := by
    have : ∀ l : List PyData, (∀ d ∈ l, flat d = true ∧ P d) → flats l = true := by
      intro l
      induction l with
      | nil => exact fun _ => rfl
      | cons d l ih => exact fun hh => by show (flat d && flats l) = true; rw [(hh d (by simp)).1, ih fun x hx => hh x (List.mem_cons_of_mem _ hx)]; rfl
    exact this ds hd
  have a1 : DpAll K (rem (rem H2 h) L) xs ds := dps_rem (L := L) (o := .lst ys) (by rw [rem_ne nL]; exact hL2) noTup_l _ _ fl (dps_grow rem_ex _ _ ha)
  exact k p ds H2 hh2 e2' hL2 (.lst (SqL.of (by rw [rem_ne npL, rem_ne nph]; exact hx)) a1) pn hd
/-- return a if a draw is m else b -/
theorem bz_retIf {P1 : Int → Prop} {m : Int} {d1 d2 : PyData} (s : StB h c ns B H) (a : EI h c ns te σ P1) (r1 : EvD K tb σ B d1) (r2 : EvD K tx σ B d2) (f1 : flat d1 = true) (f2 : flat d2 = true)
    (k : ∀ v d H2, (d = d1 ∨ d = d2) → HandOk H2 h c ns → Ex (rem H h) (rem H2 h) → Dp K (rem H2 h) v d → flat d = true → D.rt v H2) : tRet (tIf (tTest (tOp rEq te (tC (.int m)))) tb tx) D σ H := a H s.hh _ fun i H2 hh2 e2 _ => by
  refine ⟨rfl, decide (V.int i = V.int m), rfl, ?_⟩
  have s2 : Ex B H2 := (s.ex.trans e2).trans rem_ex
  cases decide (V.int i = V.int m) with
  | true => exact r1 H2 s2 _ fun v H3 e3 hv => k v d1 H3 (.inl rfl) (hand_grow e3 hh2) (e2.trans (ex_rem e3)) (hand_dp (hand_grow e3 hh2) f1 hv) f1
  | false => exact r2 H2 s2 _ fun v H3 e3 hv => k v d2 H3 (.inr rfl) (hand_grow e3 hh2) (e2.trans (ex_rem e3)) (hand_dp (hand_grow e3 hh2) f2 hv) f2
end
end Dat
/-! isinstance of the exception that a suite holds, its fields in a dict; data with lists drawn from a menu beside the hand. -/
namespace FarK
open PySem PySem.W PySem.Calls PyProof.Rows
section
variable {prog : Program} {w : World} {A : Around} {E : Value → Shared → Prop} {s : Shared} {K : Frag} {x D : Addr} {ox od : Obj}
/-- x.__class__ of an exception that has its own dict -/
theorem own_class (C : L2.ExcC K D) {Q : Option Value → Shared → Prop} (X : K.In s.heap) (I : InstAt s.heap x ox D (some od)) (h : Q (some (.ref D)) { s with toks := s.toks + 1 }) :
    wpAny (model prog w) A (getAttr? (.ref x) "__class__") Q E s := by
  have known : (clsIn K D).isSome = true := by
    obtain ⟨cd, e, _⟩ := any_some C.hd
    rw [e]
    rfl
  obtain ⟨hh, gg, dd, tk, os⟩ := s
  have found := looks_find (M := model prog w) X I (findObj_data known C.ha C.hn C.ht)
  have kind := I.type (M := model prog w)
  have get1 := looks_findIn (M := model prog w) X C.hg
  have get2 := looks_findIn (M := model prog w) X C.hk
  have below : Looks (model prog w) hh (isInstance (.ref x) (.type "BaseException")) true := kind.andThen (looks_subIn X C.hs)
  have notPlain : (onTheHeap (Value.ref D) && Value.builtin "BaseException.__getattribute__" == Value.builtin "object.__getattribute__") = false := by
    have e : (Value.builtin "BaseException.__getattribute__" == Value.builtin "object.__getattribute__") = false := by decide +kernel
    rw [e, Bool.and_false]
  unfold getAttr? getAttrBy? getAttrBy
  refine wpAny_bind (wpAny_mkText (wpAny_bind (wpAny_attempt (wpAny_holding (wpAny_bind (kind.at (wpAny_bind (get1.at ?_))))))))
  show wpAny _ _ (ite ((onTheHeap (Value.ref D) && Value.builtin "BaseException.__getattribute__" == Value.builtin "object.__getattribute__") = true) _ _) _ _ _
  rw [notPlain, if_neg Bool.false_ne_true]
  unfold getAttrByItsOwn hookBefore
  refine wpAny_bind ?_
  rw [if_pos (show onTheHeap (Value.ref D) = true from rfl)]
  refine get2.at (wpAny_bind (wpAny_attempt (wpAny_holding ?_)))
  unfold callGetattribute
  rw [show (false && onTheHeap (Value.builtin "BaseException.__getattribute__")) = false from rfl, if_neg Bool.false_ne_true]
  unfold boundAndCalled
  rw [PySem.F.excAttr_ValueError.ga.bind (.ref x)]
  refine wpAny_bind (wpAny_pure ?_)
  show wpAny _ _ (call (.builtin "BaseException.__getattribute__") [.ref x, .str "__class__" tk]) _ _ _
  refine wpAny_call (codeAny_call_builtin PySem.F.excAttr_ValueError.ga.plain PySem.F.entry_bexc_ga (@check_slot (model prog w) _ _ ⟨hh, gg, dd, tk + 1, os⟩ "BaseException.__getattribute__" "BaseException" "__getattribute__" (.ref x) [.str "__class__" tk] [] _ (by decide +kernel) (by decide +kernel) below (PySem.F.args_bexc_ga (.ref x) (.str "__class__" tk)) ?_))
  unfold Builtin.«object.__getattribute__»
  refine wpAny_bind (wpAny_of_eq (a := ((Value.ref x : Value), [Value.str "__class__" tk])) (by first | rfl | (simp only [slotArgs]; rfl)) (wpAny_bind (wpAny_pure (wpAny_bind (kind.at (wpAny_bind (found.at ?_)))))))
  show wpAny _ _ (holding [Value.builtin "object.__class__"] (call (.builtin "getset_descriptor.__get__") [.builtin "object.__class__", .ref x, .ref D]) >>= ret) _ _ _
  refine wpAny_bind (wpAny_holding (wpAny_call (class_get (s := ⟨hh, gg, dd, tk + 1, os⟩) (ox := ox) (od := some od) X I C.hm (wpAny_pure ?_))))
  show wpAny _ _ (handedOut (.ref D)) _ _ _
  rw [handedOut_of (v := .ref D) rfl]
  first
    | exact wpAny_pure (wpAny_bind (wpAny_pure (wpAny_pure h)))
    | exact wpAny_pure (wpAny_pure h)
    | exact wpAny_pure h
end
end FarK
namespace Dat
open PySem PySem.Spec PyProof.Rows L2 Evl
/-- the classes of exceptions as their users know them -/
structure ExT (K : PySem.W.Frag) (C : Addr) : Prop where
  o : OexC K C
  x : ExcC K C
  self : PySem.W.kitCls K (.ref C) (.ref C) = some true
theorem kit_some {K : PySem.W.Frag} {C x : Addr} {ox od : Obj} (T : ExT K C) : PySem.W.KitX K (.ref x) (.ref C) (fun h => PySem.W.InstAt h x ox C (some od)) where
  ty := fun _ _ _ I => I.type
  it := fun M h X _ => (PySem.W.kit_cls X T.self).2.1
  ne := fun h tp dd its n sl X htp => by
    obtain ⟨nm, q, N, bs, bm, sn, sub, ab, col, d2, k0, k1, k2, k3, k5, hC, _⟩ := T.o.cls
    cases e : (Value.ref C == Value.ref tp) with
    | false => rfl
    | true =>
      have e2 : C = tp := Value.ref.inj (beq_iff_eq.mp e)
      subst e2
      have z := congrArg (fun o : Option Obj => o.map (·.cls)) ((X _ _ hC).symm.trans htp)
      exact absurd (Value.type.inj (Option.some.inj z)) (by decide)
  ca := fun X I k => FarK.own_class T.x X I k
/-- isinstance(e, c), e the exception that the suite holds -/
def rIsX (K : PySem.W.Frag) (a : Addr) (cls : Value) (d : Option Addr) : List V → Hp → VK → Prop := fun xs H Q => ∃ (D dd : Addr) (c : V) (cv : Value) (b : Bool) (fs : List (Str × V)), cls = .ref D ∧ d = some dd ∧ ExT K D ∧ xs = [.ref a, c] ∧ (∀ u, RelV c u → u = cv) ∧ H dd = some (.xd fs) ∧ PySem.W.kitOne K (.ref D) cv = some b ∧ Q (.bl b) H
theorem call_isX {X : Cx} {a : Addr} {cls : Value} {d : Option Addr} {oe : Obj} {pn : List (Addr × Obj)} (hz : Zc cls d oe) (hf : ∃ vs, oe.data = .fields vs) : CallR (X.suite a ((a, oe) :: pn)) (.builtin "isinstance") (rIsX X.K a cls d) := by
  intro pins s σ H xs us Q I r h
  obtain ⟨D, dd, c, cv, b, fs, rfl, rfl, T, rfl, hcv, hd, e, q⟩ := h
  cases r with
  | cons rx rr =>
    cases rr with
    | cons rt rr =>
      cases rr
      cases rx
      have ec := hcv _ rt
      subst ec
      obtain ⟨hget, _⟩ := I.pin (a, oe) (List.mem_append.mpr (.inl List.mem_cons_self))
      obtain ⟨vs, hv⟩ := hf
      obtain ⟨mA, hns, _⟩ := (show ObjOk X.prog X.w H s.heap dd (.xd fs) from I.hok _ _ hd)
      obtain ⟨od, hod, _⟩ := lookIn_ns hns
      have J : PySem.W.InstAt s.heap a oe D (some od) := by
        obtain ⟨oc, odd, oda, osl⟩ := oe
        obtain ⟨h1, h2⟩ := hz
        dsimp only at h1 h2 hv
        subst h1 h2 hv
        exact ⟨hget, rfl, rfl, hod⟩
      exact PySem.W.kia_one (kit_some T) I.kIn J e (fun z => nomatch z) fun tk => ⟨.bl b, H, I.kept (t' := tk) fun _ _ z => z, rfl, q⟩
mutual
/-- no list of four -/
def no4 : PyData → Bool
  | .list ds => decide (ds.length ≠ 4) && no4s ds
  | .dict _ => false
  | .tuple ds => no4s ds
  | _ => true
def no4s : List PyData → Bool
  | [] => true
  | d :: ds => no4 d && no4s ds
end
section
variable {K : PySem.W.Frag} {H : Hp} {L : Addr} {ys : List V}
theorem sl_rem {a : Addr} {xs : List V} (hL : H L = some (.lst ys)) (hn : xs.length ≠ ys.length) (h : SqL K H a xs) : SqL K (rem H L) a xs := by
  rcases h with h | h
  · have ne : a ≠ L := fun q => by
      subst q
      rcases h with h | ⟨u, h⟩
      · rw [hL] at h
        cases h
        exact hn rfl
      · rw [hL] at h
        cases h
    refine .inl ?_
    rcases h with h | ⟨u, h⟩
    · exact .inl (by rw [rem_ne ne]; exact h)
    · exact .inr ⟨u, by rw [rem_ne ne]; exact h⟩
  · exact .inr h
mutual
theorem dp_rem4 (hL : H L = some (.lst ys)) (h4 : ys.length = 4) : ∀ (d : PyData) (v : V), no4 d = true → Dp K H v d → Dp K (rem H L) v d
  | .none, _, _, h => by
    cases h
    exact .non
  | .bool b, _, _, h => by
    cases h
    exact .bl b
  | .int i, _, _, h => by
    cases h
    exact .int i
  | .str x, _, _, h => by
    cases h
    exact .str x
  | .list ds, _, f, h => by
    have f : (decide (ds.length ≠ 4) && no4s ds) = true := f
    rw [Bool.and_eq_true] at f
    cases h with
    | lst hs ha => exact .lst (sl_rem hL (by rw [dps_len ha, h4]; exact of_decide_eq_true f.1) hs) (dps_rem4 hL h4 ds _ f.2 ha)
  | .tuple ds, _, f, h => by
    cases h with
    | tup hs ha => exact .tup (st_rem hL noTup_l hs) (dps_rem4 hL h4 ds _ f ha)
  | .dict _, _, f, _ => by cases f
theorem dps_rem4 (hL : H L = some (.lst ys)) (h4 : ys.length = 4) : ∀ (ds : List PyData) (vs : List V), no4s ds = true → DpAll K H vs ds → DpAll K (rem H L) vs ds
  | [], _, _, h => by
    cases h
    exact .nil
  | d :: ds, _, f, h => by
    have f : (no4 d && no4s ds) = true := f
    rw [Bool.and_eq_true] at f
    cases h with
    | cons h1 h2 => exact .cons (dp_rem4 hL h4 d _ f.1 h1) (dps_rem4 hL h4 ds _ f.2 h2)
end
variable {te tb : TE} {σ : L2.St} {D : L2.Ends} {ts : TS} {B : Hp} {h c : Addr} {ns : List Int} {ds : List PyData}
/-- x = (a, b, ..)[a draw] -/
theorem bz_menu {j : Nat} {P1 : Int → Prop} (s : StB h c ns B H) (e : EvD K te σ B (.tuple ds)) (a : EI h c ns tb σ P1) (b : ∀ i, P1 i → 0 ≤ i ∧ i < (ds.length : Int)) (f : no4s ds = true)
    (k : ∀ v d H1 B1, StB h c ns B1 H1 → Ex B B1 → Dp K B1 v d → d ∈ ds → ts D (σ.set j (some v)) H1) : tSeq (tAsg (tOp (rIxT K) te tb) (gName j)) ts D σ H :=
  e H s.all _ fun v H2 x hv => a H2 (hand_grow x s.hh) _ fun i H3 hh3 e3 pi => by
    obtain ⟨b0, b1⟩ := b i pi
    obtain ⟨n, rfl⟩ := Int.eq_ofNat_of_zero_le b0
    have hn : n < ds.length := by omega
    obtain ⟨q1, q2, q3, hh, _⟩ := id (hand_grow x s.hh)
    have hv2 : Dp K (rem H2 h) v (.tuple ds) := dp_rem4 hh rfl (.tuple ds) v f hv
    have hv3 : Dp K (rem H3 h) v (.tuple ds) := dp_grow e3 _ _ hv2
    cases hv3 with
    | tup hs ha =>
      rename_i p0 xs
      obtain ⟨u, hu, hd⟩ := dps_get ha (i := n) (d := ds[n]) (List.getElem?_eq_getElem hn)
      have hl : xs.length = ds.length := dps_len ha
      refine ⟨p0, xs, (n : Int), u, rfl, rfl, ex_t rem_ex hs, ?_, k u ds[n] H3 (rem H3 h) ⟨hh3, Ex.refl _⟩ (s.ex.trans ((ex_rem x).trans e3)) hd (List.getElem_mem hn)⟩
      unfold atI ixN
      rw [if_pos (by omega), if_pos (by omega), Int.toNat_natCast]
      exact hu
end
end Dat
namespace K03
open PySem L2 Evl Dat
def topS (i : Nat) : Stmt := PySem.Challenge.pw_farheld_k03_whole_growths_and_pushes_gat.main.body.getD i (.Pass ⟨0, 0, 0, 0⟩)
section
variable {P : Program} {w : World} {K : PySem.W.Frag} {mg : Str → Option Value} {base : Heap}
abbrev s_i_BadRatio : Stmt := inClass (topS 3) 0
theorem sc_i_BadRatio : FnScope ["self", "what"] ["self", "what"] (defScope s_i_BadRatio) := ⟨rfl, rfl, rfl, by decide +kernel, rfl, by decide +kernel, by decide +kernel⟩
theorem ok_i_BadRatio {f C : Addr} {fd : FuncData} (F : Fun K "__init__" "BadRatio.__init__" s_i_BadRatio f fd) (T : OexC K C) (n0 : PySem.W.findIn K (.ref C) "what" = some none) : FnOk P w K mg base CX0 1 f fd ["self", "what"] (spI C "what") := by
  refine F.ok sc_i_BadRatio (fun vs H Q E h => ?_) (fun cdv A outer s H vs Q E hr h => ?_)
  · obtain ⟨a, u, rfl, _⟩ := h
    rfl
  · obtain ⟨a, u, rfl, ha, k⟩ := h
    refine ⟨_, (pss_one (ps_ost (pv 0) (pv 1))), ?_⟩
    exact ⟨_, rfl, _, rfl, a, C, rfl, T, n0, .inl ⟨ha, fun d hd da => k d [(("what" : Str), u)] _ hd upd_same ((upd_ne da).trans upd_same) (fun b h1 h2 => (upd_ne h1).trans (upd_ne h2)) (by simp [List.lookup])⟩⟩

abbrev s_is_whole : Stmt := topS 12
abbrev N_is_whole : List Str := ["thing", "low", "high"]
theorem sc_is_whole : FnScope N_is_whole ["thing", "low", "high"] (defScope s_is_whole) := ⟨rfl, rfl, rfl, by decide +kernel, rfl, by decide +kernel, by decide +kernel⟩
theorem ok_is_whole {f : Addr} {fd : FuncData} (F : FunV K "is_whole" s_is_whole [.non, .non] f fd) (T : Bl mg)  : FnOk P w K mg base CX0 1 f fd ["thing", "low", "high"] (spD K 3 fWhole) := by
  refine F.ok sc_is_whole (fun vs H Q E h => ?_) (fun cdv A outer s H vs Q E hr h => ?_)
  · obtain ⟨ds, d, hl, hd, _⟩ := h
    exact (dps_len hd).trans hl
  · obtain ⟨ds, d, hl, hd, hf, k⟩ := h
    obtain ⟨t, lo, hi, rfl, l1, l2, rfl⟩ := hf
    obtain ⟨v_thing, vs, rfl, h_thing, hd⟩ := dps_cons hd
    obtain ⟨v_low, vs, rfl, h_low, hd⟩ := dps_cons hd
    obtain ⟨v_high, vs, rfl, h_high, hd⟩ := dps_cons hd
    obtain rfl := dps_nil hd
    have ex : Ex H H := Ex.refl H
    refine ⟨_, (pss_cons (ps_if (PW.pt (pw_or (pt_not (pt_val (pe_callB call_isi (by rfl) T.b_isinstance (by decide +kernel) (pa_cons (pv 0) (pa_cons (pe_bltn (v := .ty "int") (by rfl) T.b_int (by decide +kernel) rfl) pa_nil))))) (pw_or1 (pt_val (pe_callB call_isi (by rfl) T.b_isinstance (by decide +kernel) (pa_cons (pv 0) (pa_cons (pe_bltn (v := .ty "bool") (by rfl) T.b_bool (by decide +kernel) rfl) pa_nil))))))) (pss_one (ps_ret pe_bl)) pss_nil)
    (pss_one (ps_ret (pe_and (pe_or (pe_cmpR op_isN (pv 1) pe_non (nomark _)) (pe_one (pe_cmpR op_le (pv 1) (pv 0) (nomark _)))) (pe_one (pe_or (pe_cmpR op_isN (pv 2) pe_non (nomark _)) (pe_one (pe_cmpR op_le (pv 0) (pv 2) (nomark _))))))))), ?_⟩
    refine z_if (σ := [some (v_thing), some (v_low), some (v_high)]) (b_or (b_not (b_val (d_isi (d_var ⟨_, rfl, h_thing⟩) (kit_int _)))) (fun c_0 => (b_val (d_isi (d_var ⟨_, rfl, h_thing⟩) (kit_bool _))))) (fun c4 H1 e => ?_) (fun c4 H1 e => ?_)
    · replace h_thing := dp_grow e _ _ h_thing
      replace h_low := dp_grow e _ _ h_low
      replace h_high := dp_grow e _ _ h_high
      replace ex := ex.trans e
      refine z_ret (K := K) (σ := [some (v_thing), some (v_low), some (v_high)]) d_bl fun v H1 e h => ?_
      replace ex := ex.trans e
      exact k v _ ex (by first | (rw [whole_no (by assumption)]; exact h) | (rw [← whole_yes l1 l2 (by assumption)]; exact h))
    · replace h_thing := dp_grow e _ _ h_thing
      replace h_low := dp_grow e _ _ h_low
      replace h_high := dp_grow e _ _ h_high
      replace ex := ex.trans e
      refine z_next ?_
      refine z_ret (K := K) (σ := [some (v_thing), some (v_low), some (v_high)]) (d_and (d_or (d_isN (d_var ⟨_, rfl, h_low⟩)) (fun c_0 => (le_lo l1 (by assumption) (by assumption) (d_var ⟨_, rfl, h_low⟩) (d_var ⟨_, rfl, h_thing⟩)))) (fun c_0 => (d_or (d_isN (d_var ⟨_, rfl, h_high⟩)) (fun c_0 => (le_hi l2 (by assumption) (by assumption) (d_var ⟨_, rfl, h_thing⟩) (d_var ⟨_, rfl, h_high⟩)))))) fun v H1 e h => ?_
      replace ex := ex.trans e
      exact k v _ ex (by first | (rw [whole_no (by assumption)]; exact h) | (rw [← whole_yes l1 l2 (by assumption)]; exact h))
abbrev psW : List Str := ["thing", "low", "high"]
abbrev DW (P : Program) (w : World) (K : PySem.W.Frag) (mg : Str → Option Value) (base : Heap) (dvs : List V) : Prop := DefV P w K mg base CX0 1 "is_whole" psW dvs (spD K 3 fWhole)
theorem dw1 {f : Addr} {fd : FuncData} (F : FunV K "is_whole" s_is_whole [.non, .non] f fd) (T : Bl mg) (hm : mg "is_whole" = some (.ref f)) : DW P w K mg base [.non, .non] :=
  defV F (ok_is_whole F T) hm 1 0 (by decide) rfl fun _ _ _ _ _ _ _ us its hl hi => match us, its, hl, hi with | [_], [_, _], _, _ => ⟨_, rfl, rfl⟩
theorem dw2 {f : Addr} {fd : FuncData} (F : FunV K "is_whole" s_is_whole [.non, .non] f fd) (T : Bl mg) (hm : mg "is_whole" = some (.ref f)) : DW P w K mg base [.non] :=
  defV F (ok_is_whole F T) hm 2 1 (by decide) rfl fun _ _ _ _ _ _ _ us its hl hi => match us, its, hl, hi with | [_, _], [_, _], _, _ => ⟨_, rfl, rfl⟩
theorem dw3 {f : Addr} {fd : FuncData} (F : FunV K "is_whole" s_is_whole [.non, .non] f fd) (T : Bl mg) (hm : mg "is_whole" = some (.ref f)) : DW P w K mg base [] :=
  defV F (ok_is_whole F T) hm 3 2 (by decide) rfl fun _ _ _ _ _ _ _ us its hl hi => match us, its, hl, hi with | [_, _, _], [_, _], _, _ => ⟨_, rfl, rfl⟩

abbrev s_is_ratio : Stmt := topS 13
abbrev N_is_ratio : List Str := ["thing", "top", "bottom"]
theorem sc_is_ratio : FnScope N_is_ratio ["thing"] (defScope s_is_ratio) := ⟨rfl, rfl, rfl, by decide +kernel, rfl, by decide +kernel, by decide +kernel⟩
theorem ok_is_ratio {f : Addr} {fd : FuncData} (F : Fun K "is_ratio" "is_ratio" s_is_ratio f fd) (T : Bl mg) (D_w1 : DW P w K mg base [.non, .non]) (D_w2 : DW P w K mg base [.non]) : FnOk P w K mg base CX0 2 f fd ["thing"] (spD K 1 fIsRatio) := by
  refine F.ok sc_is_ratio (fun vs H Q E h => ?_) (fun cdv A outer s H vs Q E hr h => ?_)
  · obtain ⟨ds, d, hl, hd, _⟩ := h
    exact (dps_len hd).trans hl
  · obtain ⟨ds, d, hl, hd, hf, k⟩ := h
    obtain ⟨t, rfl, rfl⟩ := hf
    obtain ⟨v_thing, vs, rfl, h_thing, hd⟩ := dps_cons hd
    obtain rfl := dps_nil hd
    have ex : Ex H H := Ex.refl H
    refine ⟨_, (pss_cons (ps_if (PW.pt (pw_or (pt_not (pt_val (pe_callB call_isi (by rfl) T.b_isinstance (by decide +kernel) (pa_cons (pv 0) (pa_cons (pe_bltn (v := .ty "tuple") (by rfl) T.b_tuple (by decide +kernel) rfl) pa_nil))))) (pw_or1 (pt_cmpR op_ne (pe_callB call_len_seq (by rfl) T.b_len (by decide +kernel) (pa_cons (pv 0) pa_nil)) pe_int (nomark _))))) (pss_one (ps_ret pe_bl)) pss_nil)
    (pss_cons (ps_asg (pv 0) (pg_tup rfl (pgs_cons (pg_name (i := 1) sc_is_ratio.nd rfl (Or.inl rfl)) (pgs_cons (pg_name (i := 2) sc_is_ratio.nd rfl (Or.inl rfl)) pgs_nil))) rfl)
    (pss_one (ps_ret (pe_and (pe_dcallV D_w1 (hr.mono (by decide)) pass0 (pa_cons (pv 1) pa_nil)) (pe_and (pe_dcallV D_w2 (hr.mono (by decide)) pass0 (pa_cons (pv 2) (pa_cons pe_int pa_nil))) (pe_one (pe_cmpR op_eq (pe_callBfun cr_gcd (by rfl) T.g_gcd (pa_cons (pv 1) (pa_cons (pv 2) pa_nil))) pe_int (nomark _))))))))), ?_⟩
    refine z_if (σ := [some (v_thing), none, none]) (b_or (b_not (b_val (d_isi (d_var ⟨_, rfl, h_thing⟩) (kit_tuple _)))) (fun c_0 => b_test (ne_len c_0 (d_var ⟨_, rfl, h_thing⟩)))) (fun c4 H1 e => ?_) (fun c4 H1 e => ?_)
    · replace ex := ex.trans e
      refine z_ret (K := K) (σ := [some (v_thing), none, none]) d_bl fun v H1 e h => ?_
      exact k v _ (ex.trans e) (by rw [rat_no c4]; exact h)
    · obtain ⟨a, b, rfl⟩ := two_of c4
      replace h_thing := dp_grow e _ _ h_thing
      replace ex := ex.trans e
      refine z_next ?_
      refine z_two (K := K) (σ := [some (v_thing), none, none]) (d_var ⟨_, rfl, h_thing⟩) fun x y H1 e hx hy => ?_
      replace ex := ex.trans e
      refine z_ret (K := K) (σ := [some (v_thing), some x, some y]) (d_and (d_callV (ds_cons (d_var ⟨_, rfl, hx⟩) ds_nil) (fun _ => .cons .non (.cons .non .nil)) rfl ⟨_, _, _, rfl, .inl rfl, .inl rfl, rfl⟩) (fun c_0 =>
        d_and (d_callV (ds_cons (d_var ⟨_, rfl, hy⟩) (ds_cons d_int ds_nil)) (fun _ => .cons .non .nil) rfl ⟨_, _, _, rfl, .inr ⟨_, rfl⟩, .inl rfl, rfl⟩) (fun c_1 => eq_gcd c_0 c_1 (d_var ⟨_, rfl, hx⟩) (d_var ⟨_, rfl, hy⟩)))) fun v H1 e h => ?_
      exact k v _ (ex.trans e) h

abbrev s_lowest : Stmt := topS 15
abbrev N_lowest : List Str := ["top", "bottom", "shared"]
theorem sc_lowest : FnScope N_lowest ["top", "bottom"] (defScope s_lowest) := ⟨rfl, rfl, rfl, by decide +kernel, rfl, by decide +kernel, by decide +kernel⟩
theorem ok_lowest {f : Addr} {fd : FuncData} (F : Fun K "_lowest" "_lowest" s_lowest f fd) (T : Bl mg)  : FnOk P w K mg base CX0 1 f fd ["top", "bottom"] (spD K 2 fLowest) := by
  refine F.ok sc_lowest (fun vs H Q E h => ?_) (fun cdv A outer s H vs Q E hr h => ?_)
  · obtain ⟨ds, d, hl, hd, _⟩ := h
    exact (dps_len hd).trans hl
  · obtain ⟨ds, d, hl, hd, hf, k⟩ := h
    obtain ⟨t, b, rfl, b0, bb, rfl⟩ := hf
    obtain ⟨v_top, vs, rfl, h_top, hd⟩ := dps_cons hd
    obtain ⟨v_bottom, vs, rfl, h_bottom, hd⟩ := dps_cons hd
    obtain rfl := dps_nil hd
    have ex : Ex H H := Ex.refl H
    refine ⟨_, (pss_cons (ps_set (i := 2) sc_lowest.nd rfl (Or.inl rfl) (pe_callBfun cr_gcd (by rfl) T.g_gcd (pa_cons (pv 0) (pa_cons (pv 1) pa_nil))))
    (pss_cons (ps_if (pt_cmpR op_lt (pv 1) pe_int (nomark _)) (pss_one (ps_set (i := 2) sc_lowest.nd rfl (Or.inl rfl) (pe_un un_neg (pv 2)))) pss_nil)
    (pss_one (ps_ret (pe_tup (pa_cons (pe_op op_fdivA (pv 0) (pv 2)) (pa_cons (pe_op op_fdivA (pv 1) (pv 2)) pa_nil))))))), ?_⟩
    refine z_set (K := K) (σ := [some (v_top), some (v_bottom), none]) (d_gcd (d_var ⟨_, rfl, h_top⟩) (d_var ⟨_, rfl, h_bottom⟩)) fun v_shared1 H1 e h' => ?_
    replace h_top := dp_grow e _ _ h_top
    replace h_bottom := dp_grow e _ _ h_bottom
    replace ex := ex.trans e
    have h_shared := h'
    clear h'
    refine z_if (σ := [some (v_top), some (v_bottom), some v_shared1]) (b_test (d_lt (d_var ⟨_, rfl, h_bottom⟩) d_int)) (fun c4 H1 e => ?_) (fun c4 H1 e => ?_)
    · replace h_top := dp_grow e _ _ h_top
      replace h_bottom := dp_grow e _ _ h_bottom
      replace h_shared := dp_grow e _ _ h_shared
      replace ex := ex.trans e
      refine z_set1 (K := K) (σ := [some (v_top), some (v_bottom), some v_shared1]) (d_neg (d_var ⟨_, rfl, h_shared⟩)) fun v_shared2 H1 e h' => ?_
      replace h_top := dp_grow e _ _ h_top
      replace h_bottom := dp_grow e _ _ h_bottom
      clear h_shared
      replace ex := ex.trans e
      have h_shared := h'
      clear h'
      refine z_ret (K := K) (σ := [some (v_top), some (v_bottom), some v_shared2]) (d_tup (ds_cons (d_fdiv (d_var ⟨_, rfl, h_top⟩) (d_var ⟨_, rfl, h_shared⟩) (by first | exact div_g b0 bb | exact div_ng b0 bb)) (ds_cons (d_fdiv (d_var ⟨_, rfl, h_bottom⟩) (d_var ⟨_, rfl, h_shared⟩) (by first | exact div_g b0 bb | exact div_ng b0 bb)) ds_nil)) (by show 2 ≤ 1000; decide)) fun v H1 e h => ?_
      replace ex := ex.trans e
      have h' : Dp K H1 v (lowest t b) := by first | (rw [← low_neg b0 c4]; exact h) | (rw [← low_pos c4]; exact h)
      exact k v _ ex h'
    · replace h_top := dp_grow e _ _ h_top
      replace h_bottom := dp_grow e _ _ h_bottom
      replace h_shared := dp_grow e _ _ h_shared
      replace ex := ex.trans e
      refine z_next ?_
      refine z_ret (K := K) (σ := [some (v_top), some (v_bottom), some v_shared1]) (d_tup (ds_cons (d_fdiv (d_var ⟨_, rfl, h_top⟩) (d_var ⟨_, rfl, h_shared⟩) (by first | exact div_g b0 bb | exact div_ng b0 bb)) (ds_cons (d_fdiv (d_var ⟨_, rfl, h_bottom⟩) (d_var ⟨_, rfl, h_shared⟩) (by first | exact div_g b0 bb | exact div_ng b0 bb)) ds_nil)) (by show 2 ≤ 1000; decide)) fun v H1 e h => ?_
      replace ex := ex.trans e
      have h' : Dp K H1 v (lowest t b) := by first | (rw [← low_neg b0 c4]; exact h) | (rw [← low_pos c4]; exact h)
      exact k v _ ex h'

abbrev s_make_ratio : Stmt := topS 14
abbrev N_make_ratio : List Str := ["top", "bottom"]
theorem sc_make_ratio : FnScope N_make_ratio ["top", "bottom"] (defScope s_make_ratio) := ⟨rfl, rfl, rfl, by decide +kernel, rfl, by decide +kernel, by decide +kernel⟩
/-- what make_ratio returns -/
def fMake (ds : List PyData) (d : PyData) : Prop := fLowest ds d
/-- why make_ratio raises -/
def gMake (ds : List PyData) (y : Str) : Prop := ∃ a b, ds = [a, b] ∧ ((wh a = false ∧ y = "top") ∨ (wh a = true ∧ wh b = false ∧ y = "bottom") ∨ (wh a = true ∧ b = .int 0 ∧ y = "bottom"))
/-- why make_ratio raises -/
def gMake2 (ds : List PyData) (y : Str) : Prop := ∃ a b, ds = [a, b] ∧ ((wholeIn a .none .none = false ∧ y = "top") ∨ (wholeIn a .none .none = true ∧ wholeIn b .none .none = false ∧ y = "bottom") ∨ (wholeIn a .none .none = true ∧ b = .int 0 ∧ y = "bottom"))
abbrev spMakeR (K : PySem.W.Frag) (C : Addr) : Sp := spE K C "what" 2 fMake gMake2
theorem ok_make_ratio {f C : Addr} {fd : FuncData} {dvs : List V} (F : FunV K "make_ratio" s_make_ratio dvs f fd) (T : Bl mg) (TC : Cl1 P w K mg base "BadRatio" C "what") (D_w1 : DW P w K mg base [.non, .non])
    (D_lowest : Def P w K mg base CX0 1 "_lowest" ["top", "bottom"] (spD K 2 fLowest)) : FnOk P w K mg base (L2.CX P w) 3 f fd ["top", "bottom"] (spMakeR K C) := by
  refine F.ok sc_make_ratio (fun vs H Q E h => ?_) (fun cdv A outer s H vs Q E hr h => ?_)
  · obtain ⟨ds, hl, hd, _⟩ := h
    exact (dps_len hd).trans hl
  · have hr2 : Room 2 _ := hr.mono (by decide)
    refine ⟨_, (pss_cons (ps_if (pt_not (pt_val (pe_dcallV D_w1 (hr.mono (by decide)) pass0 (pa_cons (pv 0) pa_nil)))) (pss_one (ps_raise rfl (takes_of rfl rfl rfl rfl) (pmk_c1 TC hr2 (pa_cons pe_str pa_nil)))) pss_nil)
      (pss_cons (ps_if (PW.pt (pw_or (pt_not (pt_val (pe_dcallV D_w1 (hr.mono (by decide)) pass0 (pa_cons (pv 1) pa_nil)))) (pw_or1 (pt_cmpR op_eq (pv 1) pe_int (nomark _))))) (pss_one (ps_raise rfl (takes_of rfl rfl rfl rfl) (pmk_c1 TC hr2 (pa_cons pe_str pa_nil)))) pss_nil)
      (pss_one (ps_ret (pe_dcall D_lowest (hr.mono (by decide)) pass0 (pa_cons (pv 0) (pa_cons (pv 1) pa_nil))))))), ?_⟩
    obtain ⟨ds, hl, hd, h⟩ := h
    have ew : ∀ {a : PyData} {σ : L2.St} {H : Hp} {i : Nat}, Sl K σ H i a → EvB (tNot (tB (tCall (spD K 3 fWhole) [.non, .non] E0 (tCons (tVar i) tNil)))) σ H (!wholeIn a .none .none) := fun s =>
      b_not (b_val (d_callV (ds_cons (d_var s) ds_nil) (fun _ => .cons .non (.cons .non .nil)) rfl ⟨_, _, _, rfl, .inl rfl, .inl rfl, rfl⟩))
    rcases h with ⟨d, hf, k⟩ | ⟨y, hg, k⟩
    · obtain ⟨t, b, rfl, b0, bb, rfl⟩ := hf
      obtain ⟨v_top, vs, rfl, h_top, hd⟩ := dps_cons hd
      obtain ⟨v_bottom, vs, rfl, h_bottom, hd⟩ := dps_cons hd
      obtain rfl := dps_nil hd
      refine z_if (σ := [some (v_top), some (v_bottom)]) (ew ⟨_, rfl, h_top⟩) (fun c H1 e => by cases c) (fun c H1 e => ?_)
      replace h_top := dp_grow e _ _ h_top
      replace h_bottom := dp_grow e _ _ h_bottom
      have ex := e
      refine z_nx ?_
      refine z_if (σ := [some (v_top), some (v_bottom)]) (b_or (ew (i := 1) ⟨v_bottom, rfl, h_bottom⟩) (fun c_0 => b_test (d_eqI (d_var (i := 1) ⟨v_bottom, rfl, h_bottom⟩) d_int))) (fun c H1 e => ?_) (fun c H1 e => ?_)
      · exfalso
        have z : decide (b = 0) = true := c
        exact b0 (of_decide_eq_true z)
      · replace h_top := dp_grow e _ _ h_top
        replace h_bottom := dp_grow e _ _ h_bottom
        replace ex := ex.trans e
        refine z_nx ?_
        refine z_ret (K := K) (σ := [some (v_top), some (v_bottom)]) (d_call (ds_cons (d_var ⟨_, rfl, h_top⟩) (ds_cons (d_var ⟨_, rfl, h_bottom⟩) ds_nil)) rfl ⟨t, b, rfl, b0, bb, rfl⟩) fun v H1 e h => ?_
        exact k v _ (ex.trans e) h
    · obtain ⟨a, b, rfl, hg⟩ := hg
      obtain ⟨v_top, vs, rfl, h_top, hd⟩ := dps_cons hd
      obtain ⟨v_bottom, vs, rfl, h_bottom, hd⟩ := dps_cons hd
      obtain rfl := dps_nil hd
      refine z_if (σ := [some (v_top), some (v_bottom)]) (ew ⟨_, rfl, h_top⟩) (fun c H1 e => ?_) (fun c H1 e => ?_)
      · have ca : wholeIn a .none .none = false := by simpa using c
        have ey : y = "top" := by
          rcases hg with ⟨_, h⟩ | ⟨h, _⟩ | ⟨h, _⟩
          · exact h
          · rw [ca] at h; cases h
          · rw [ca] at h; cases h
        subst ey
        exact x_raise (W := fun cls d _ H => E cls d H) fun d fs H' e' h1 h2 => k d fs H' (e.trans e') h1 h2
      · have ca : wholeIn a .none .none = true := by simpa using c
        replace h_bottom := dp_grow e _ _ h_bottom
        have ex := e
        refine z_nx ?_
        have ey : y = "bottom" := by
          rcases hg with ⟨h, _⟩ | ⟨_, _, h⟩ | ⟨_, _, h⟩
          · rw [ca] at h; cases h
          · exact h
          · exact h
        subst ey
        by_cases hb : wholeIn b .none .none = true
        · have eb : b = .int 0 := by
            rcases hg with ⟨h, _⟩ | ⟨_, h, _⟩ | ⟨_, h, _⟩
            · rw [ca] at h; cases h
            · rw [hb] at h; cases h
            · exact h
          subst eb
          refine z_if (b := true) (σ := [some (v_top), some (v_bottom)]) (b_or (b := true) (ew (i := 1) ⟨v_bottom, rfl, h_bottom⟩) (fun c_0 => b_test (d_is (d_eqI (d_var (i := 1) ⟨v_bottom, rfl, h_bottom⟩) d_int) rfl))) (fun c H1 e => ?_) (fun c H1 e => by cases c)
          exact x_raise (W := fun cls d _ H => E cls d H) fun d fs H' e' h1 h2 => k d fs H' ((ex.trans e).trans e') h1 h2
        · have hb' : wholeIn b .none .none = false := by simpa using hb
          refine z_if (b := true) (σ := [some (v_top), some (v_bottom)]) (b_is (b_or (b := true) (ew (i := 1) ⟨v_bottom, rfl, h_bottom⟩) (fun c_0 => by rw [hb'] at c_0; cases c_0)) (by rw [hb']; rfl)) (fun c H1 e => ?_) (fun c H1 e => by cases c)
          exact x_raise (W := fun cls d _ H => E cls d H) fun d fs H' e' h1 h2 => k d fs H' ((ex.trans e).trans e') h1 h2

abbrev s_times : Stmt := topS 16
abbrev N_times : List Str := ["one", "other", "left", "right"]
theorem sc_times : FnScope N_times ["one", "other"] (defScope s_times) := ⟨rfl, rfl, rfl, by decide +kernel, rfl, by decide +kernel, by decide +kernel⟩
theorem ok_times {f : Addr} {fd : FuncData} (F : Fun K "times" "times" s_times f fd) (T : Bl mg)  : FnOk P w K mg base CX0 1 f fd ["one", "other"] (spD K 2 fTimesR) := by
  refine F.ok sc_times (fun vs H Q E h => ?_) (fun cdv A outer s H vs Q E hr h => ?_)
  · obtain ⟨ds, d, hl, hd, _⟩ := h
    exact (dps_len hd).trans hl
  · obtain ⟨ds, d, hl, hd, hf, k⟩ := h
    obtain ⟨x, y, rfl, ⟨bxn, bxd⟩, ⟨byn, byd⟩, rfl⟩ := hf
    replace bxd : (x.den : Int).natAbs < 2 ^ B := bxd
    replace byd : (y.den : Int).natAbs < 2 ^ B := byd
    have l0 : 0 < Nat.gcd x.num.natAbs y.den := Nat.gcd_pos_of_pos_right _ y.den_pos
    have q0 : 0 < Nat.gcd y.num.natAbs x.den := Nat.gcd_pos_of_pos_right _ x.den_pos
    have lb : (((Nat.gcd x.num.natAbs y.den : Nat) : Int)).natAbs < 2 ^ B := Nat.lt_of_le_of_lt (Nat.gcd_le_right _ y.den_pos) byd
    have qb : (((Nat.gcd y.num.natAbs x.den : Nat) : Int)).natAbs < 2 ^ B := Nat.lt_of_le_of_lt (Nat.gcd_le_right _ x.den_pos) bxd
    have b1 := div_lt (g := Nat.gcd x.num.natAbs y.den) (Nat.gcd_dvd_left _ _) bxn
    have b2 := div_lt (g := Nat.gcd y.num.natAbs x.den) (Nat.gcd_dvd_left _ _) byn
    have b3 : (((x.den / Nat.gcd y.num.natAbs x.den : Nat) : Int)).natAbs < 2 ^ B := Nat.lt_of_le_of_lt (Nat.div_le_self _ _) bxd
    have b4 : (((y.den / Nat.gcd x.num.natAbs y.den : Nat) : Int)).natAbs < 2 ^ B := Nat.lt_of_le_of_lt (Nat.div_le_self _ _) byd
    obtain ⟨v_one, vs, rfl, h_one, hd⟩ := dps_cons hd
    obtain ⟨v_other, vs, rfl, h_other, hd⟩ := dps_cons hd
    obtain rfl := dps_nil hd
    have ex : Ex H H := Ex.refl H
    refine ⟨_, (pss_cons (ps_set (i := 2) sc_times.nd rfl (Or.inl rfl) (pe_callBfun cr_gcd (by rfl) T.g_gcd (pa_cons (pe_ix (r := rIxT K) ix_tup (pv 0) pe_int (fun _ _ => rfl)) (pa_cons (pe_ix (r := rIxT K) ix_tup (pv 1) pe_int (fun _ _ => rfl)) pa_nil))))
    (pss_cons (ps_set (i := 3) sc_times.nd rfl (Or.inl rfl) (pe_callBfun cr_gcd (by rfl) T.g_gcd (pa_cons (pe_ix (r := rIxT K) ix_tup (pv 1) pe_int (fun _ _ => rfl)) (pa_cons (pe_ix (r := rIxT K) ix_tup (pv 0) pe_int (fun _ _ => rfl)) pa_nil))))
    (pss_one (ps_ret (pe_tup (pa_cons (pe_op op_mulW (pe_op op_fdivA (pe_ix (r := rIxT K) ix_tup (pv 0) pe_int (fun _ _ => rfl)) (pv 2)) (pe_op op_fdivA (pe_ix (r := rIxT K) ix_tup (pv 1) pe_int (fun _ _ => rfl)) (pv 3))) (pa_cons (pe_op op_mulW (pe_op op_fdivA (pe_ix (r := rIxT K) ix_tup (pv 0) pe_int (fun _ _ => rfl)) (pv 3)) (pe_op op_fdivA (pe_ix (r := rIxT K) ix_tup (pv 1) pe_int (fun _ _ => rfl)) (pv 2))) pa_nil))))))), ?_⟩
    refine z_set (K := K) (σ := [some (v_one), some (v_other), none, none]) (d_gcd (d_ixT (d_var ⟨_, rfl, h_one⟩) d_int rfl) (d_ixT (d_var ⟨_, rfl, h_other⟩) d_int rfl)) fun v_left5 H1 e h' => ?_
    replace h_one := dp_grow e _ _ h_one
    replace h_other := dp_grow e _ _ h_other
    replace ex := ex.trans e
    have h_left := h'
    clear h'
    refine z_set (K := K) (σ := [some (v_one), some (v_other), some v_left5, none]) (d_gcd (d_ixT (d_var ⟨_, rfl, h_other⟩) d_int rfl) (d_ixT (d_var ⟨_, rfl, h_one⟩) d_int rfl)) fun v_right6 H1 e h' => ?_
    replace h_one := dp_grow e _ _ h_one
    replace h_other := dp_grow e _ _ h_other
    replace h_left := dp_grow e _ _ h_left
    replace ex := ex.trans e
    have h_right := h'
    clear h'
    refine z_ret (K := K) (σ := [some (v_one), some (v_other), some v_left5, some v_right6]) (d_tup (ds_cons (d_mul (d_is (d_fdiv (d_ixT (d_var ⟨_, rfl, h_one⟩) d_int rfl) (d_var ⟨_, rfl, h_left⟩) (div_ok (n := B) (nz l0) lb (by decide) (by decide))) (fdiv_int _ _)) (d_is (d_fdiv (d_ixT (d_var ⟨_, rfl, h_other⟩) d_int rfl) (d_var ⟨_, rfl, h_right⟩) (div_ok (n := B) (nz q0) qb (by decide) (by decide))) (fdiv_int _ _)) (wide_mul (by assumption) (by assumption) (by decide) (by decide) (by decide))) (ds_cons (d_mul (d_is (d_fdiv (d_ixT (d_var ⟨_, rfl, h_one⟩) d_int rfl) (d_var ⟨_, rfl, h_right⟩) (div_ok (n := B) (nz q0) qb (by decide) (by decide))) (fdiv_nat _ _)) (d_is (d_fdiv (d_ixT (d_var ⟨_, rfl, h_other⟩) d_int rfl) (d_var ⟨_, rfl, h_left⟩) (div_ok (n := B) (nz l0) lb (by decide) (by decide))) (fdiv_nat _ _)) (wide_mul (by assumption) (by assumption) (by decide) (by decide) (by decide))) ds_nil)) (by show 2 ≤ 1000; decide)) fun v H1 e h => ?_
    replace ex := ex.trans e
    rw [timesR] at k
    exact k v _ ex h

abbrev s_negative : Stmt := topS 17
abbrev N_negative : List Str := ["one"]
theorem sc_negative : FnScope N_negative ["one"] (defScope s_negative) := ⟨rfl, rfl, rfl, by decide +kernel, rfl, by decide +kernel, by decide +kernel⟩
theorem ok_negative {f : Addr} {fd : FuncData} (F : Fun K "negative" "negative" s_negative f fd) (T : Bl mg)  : FnOk P w K mg base CX0 1 f fd ["one"] (spD K 1 fNegative) := by
  refine F.ok sc_negative (fun vs H Q E h => ?_) (fun cdv A outer s H vs Q E hr h => ?_)
  · obtain ⟨ds, d, hl, hd, _⟩ := h
    exact (dps_len hd).trans hl
  · obtain ⟨ds, d, hl, hd, hf, k⟩ := h
    obtain ⟨p, q, rfl, rfl⟩ := hf
    obtain ⟨v_one, vs, rfl, h_one, hd⟩ := dps_cons hd
    obtain rfl := dps_nil hd
    have ex : Ex H H := Ex.refl H
    refine ⟨_, (pss_one (ps_ret (pe_tup (pa_cons (pe_un un_neg (pe_ix (r := rIxT K) ix_tup (pv 0) pe_int (fun _ _ => rfl))) (pa_cons (pe_ix (r := rIxT K) ix_tup (pv 0) pe_int (fun _ _ => rfl)) pa_nil))))), ?_⟩
    refine z_ret (K := K) (σ := [some (v_one)]) (d_tup (ds_cons (d_neg (d_ixT (d_var ⟨_, rfl, h_one⟩) d_int rfl)) (ds_cons (d_ixT (d_var ⟨_, rfl, h_one⟩) d_int rfl) ds_nil)) (by show 2 ≤ 1000; decide)) fun v H1 e h => ?_
    replace ex := ex.trans e
    exact k v _ ex h

abbrev s_size_of : Stmt := topS 18
abbrev N_size_of : List Str := ["one"]
theorem sc_size_of : FnScope N_size_of ["one"] (defScope s_size_of) := ⟨rfl, rfl, rfl, by decide +kernel, rfl, by decide +kernel, by decide +kernel⟩
theorem ok_size_of {f : Addr} {fd : FuncData} (F : Fun K "size_of" "size_of" s_size_of f fd) (T : Bl mg)  : FnOk P w K mg base CX0 1 f fd ["one"] (spD K 1 fSize) := by
  refine F.ok sc_size_of (fun vs H Q E h => ?_) (fun cdv A outer s H vs Q E hr h => ?_)
  · obtain ⟨ds, d, hl, hd, _⟩ := h
    exact (dps_len hd).trans hl
  · obtain ⟨ds, d, hl, hd, hf, k⟩ := h
    obtain ⟨p, q, rfl, rfl⟩ := hf
    obtain ⟨v_one, vs, rfl, h_one, hd⟩ := dps_cons hd
    obtain rfl := dps_nil hd
    have ex : Ex H H := Ex.refl H
    refine ⟨_, (pss_one (ps_ret (pe_tup (pa_cons (pe_callB call_abs (by rfl) T.b_abs (by decide +kernel) (pa_cons (pe_ix (r := rIxT K) ix_tup (pv 0) pe_int (fun _ _ => rfl)) pa_nil)) (pa_cons (pe_ix (r := rIxT K) ix_tup (pv 0) pe_int (fun _ _ => rfl)) pa_nil))))), ?_⟩
    refine z_ret (K := K) (σ := [some (v_one)]) (d_tup (ds_cons (d_abs (d_ixT (d_var ⟨_, rfl, h_one⟩) d_int rfl)) (ds_cons (d_ixT (d_var ⟨_, rfl, h_one⟩) d_int rfl) ds_nil)) (by show 2 ≤ 1000; decide)) fun v H1 e h => ?_
    replace ex := ex.trans e
    exact k v _ ex h

abbrev s_mix : Stmt := topS 33
abbrev N_mix : List Str := ["number", "turn", "once", "twice"]
theorem sc_mix : FnScope N_mix ["number", "turn"] (defScope s_mix) := ⟨rfl, rfl, rfl, by decide +kernel, rfl, by decide +kernel, by decide +kernel⟩
theorem ok_mix {f : Addr} {fd : FuncData} (F : Fun K "_law_mix" "_law_mix" s_mix f fd) (T : Bl mg) : FnOk P w K mg base CX0 1 f fd ["number", "turn"] spMix := by
  refine F.ok sc_mix (fun vs H Q E h => ?_) (fun cdv A outer s H vs Q E hr h => ?_)
  · obtain ⟨n, k, rfl, _⟩ := h
    rfl
  · obtain ⟨n, k, rfl, n0, n1, k0, k1, q⟩ := h
    refine ⟨_, (pss_cons (ps_set (i := 2) sc_mix.nd rfl (Or.inl rfl) (pe_op op_mod (pe_callTy call_int1 (by rfl) T.b_int (by decide +kernel) (pa_cons (pe_op op_add (pe_op op_add (pe_op op_mul (pv 0) pe_int) (pe_op op_mul (pv 1) pe_int)) pe_int) pa_nil)) pe_int))
    (pss_cons (ps_set (i := 3) sc_mix.nd rfl (Or.inl rfl) (pe_op op_mod (pe_callTy call_int1 (by rfl) T.b_int (by decide +kernel) (pa_cons (pe_op op_add (pe_op op_add (pe_op op_mul (pv 2) (pv 2)) (pe_op op_mul (pe_op op_fdiv (pv 2) pe_int) pe_int)) (pe_op op_mul (pv 1) pe_int)) pa_nil)) pe_int))
    (pss_one (ps_ret (pe_op op_fdiv (pe_op op_mod (pe_callTy call_int1 (by rfl) T.b_int (by decide +kernel) (pa_cons (pe_op op_add (pe_op op_fdiv (pe_op op_mul (pv 3) (pv 3)) pe_int) (pv 2)) pa_nil)) pe_int) pe_int))))), ?_⟩
    refine ⟨_, rfl, _, _, rfl, rfl, .inr (by decide), _, rfl, _, _, rfl, rfl, .inr (by decide), _, _, rfl, rfl, _, _, rfl, rfl, .inl ⟨_, rfl, _, _, rfl, rfl, (by show (0 : Int) < 2147483647; decide), ?_⟩⟩
    generalize ho : (n * 48271 + k * 16807 + 11) % 2147483647 = once
    have o0 : 0 ≤ once := by omega
    have o1 : once < 2147483647 := by omega
    refine ⟨_, rfl, _, rfl, _, _, rfl, rfl, .inl ⟨by omega, by omega⟩, _, rfl, _, _, rfl, rfl, ⟨by decide, by decide⟩, _, _, rfl, rfl, .inr (by decide), _, _, rfl, rfl, _, rfl, _, _, rfl, rfl, .inr (by decide), _, _, rfl, rfl, .inl ⟨_, rfl, _, _, rfl, rfl, (by show (0 : Int) < 2147483399; decide), ?_⟩⟩
    generalize ht : (once * once + once / 127 * 40692 + k * 69621) % 2147483399 = twice
    have t0 : 0 ≤ twice := by omega
    have t1 : twice < 2147483399 := by omega
    refine ⟨_, rfl, _, rfl, _, _, rfl, rfl, .inl ⟨by omega, by omega⟩, _, _, rfl, rfl, ⟨by decide, by decide⟩, _, rfl, _, _, rfl, rfl, .inl ⟨_, rfl, _, _, rfl, rfl, (by show (0 : Int) < 2147483563; decide), _, _, rfl, rfl, ⟨by decide, by decide⟩, q _⟩⟩

abbrev s_hand : Stmt := topS 34
abbrev N_hand : List Str := ["script", "total", "k", "cell"]
theorem sc_hand : FnScope N_hand ["script"] (defScope s_hand) := ⟨rfl, rfl, rfl, by decide +kernel, rfl, by decide +kernel, by decide +kernel⟩
theorem ok_hand {f : Addr} {fd : FuncData} (F : Fun K "_law_hand" "_law_hand" s_hand f fd) (T : Bl mg) : FnOk P w K mg base CX0 1 f fd ["script"] (spHand K) := by
  refine F.ok sc_hand (fun vs H Q E h => ?_) (fun cdv A outer s H vs Q E hr h => ?_)
  · obtain ⟨a, ns, rfl, _⟩ := h
    rfl
  · obtain ⟨a, ns, rfl, hS, hl, q⟩ := h
    refine ⟨_, (pss_cons (ps_set (i := 1) sc_hand.nd rfl (Or.inl rfl) pe_int)
    (pss_cons (ps_for PassesOwn.never rfl (pi_enum (by rfl) T.b_enumerate (pa_cons (pv 0) pa_nil)) (pg_tup rfl (pgs_cons (pg_name (i := 2) sc_hand.nd rfl (Or.inl rfl)) (pgs_cons (pg_name (i := 3) sc_hand.nd rfl (Or.inl rfl)) pgs_nil))) (pss_one (ps_set (i := 1) sc_hand.nd rfl (Or.inl rfl) (pe_op op_mod (pe_callTy call_int1 (by rfl) T.b_int (by decide +kernel) (pa_cons (pe_op op_add (pe_op op_mul (pv 1) pe_int) (pe_op op_mul (pe_callTy call_int1 (by rfl) T.b_int (by decide +kernel) (pa_cons (pv 3) pa_nil)) (pe_op op_add (pv 2) pe_int))) pa_nil)) pe_int))))
    (pss_one (ps_ret (pe_lst (pa_cons (pe_lc (own := [("cell", 3)]) (g := gName 3) rfl sc_hand.nd (pi_list (pv 0)) (blkOk_by (own := [("cell", 3)]) (N := N_hand) (sc := defScope s_hand) (by decide +kernel)) (fun _ _ _ _ _ => pg_name (i := 3) sc_hand.nd rfl (Or.inl rfl)) (fun _ _ _ _ _ => pts_nil) (fun _ _ _ _ _ => (pe_callB call_abs (by rfl) T.b_abs (by decide +kernel) (pa_cons (pe_callTy call_int1 (by rfl) T.b_int (by decide +kernel) (pa_cons (pv 3) pa_nil)) pa_nil)))) (pa_cons pe_int (pa_cons pe_int (pa_cons (pv 1) pa_nil))))))))), ?_⟩
    refine ⟨.ref a, rfl, a, _, rfl, hS, ?_⟩
    refine for_enum (fun i σ' H' => ∃ (t : Int) (v2 v3 : Option V), σ' = [some (.ref a), some (.int t), v2, v3] ∧ Same H H' ∧ 0 ≤ t ∧ t < 2147483629) ⟨0, none, none, rfl, Same.refl _, by decide, by decide⟩ (fun i σ' H' _ ⟨_, _, _, _, sm, _⟩ => sm.seq hS) ?_ ?_
    · rintro i x σ' H' T hx ⟨t, v2, v3, rfl, sm, t0, t1⟩ nT
      obtain ⟨n, rfl⟩ : ∃ n, x = V.int n := by
        rw [List.getElem?_map] at hx
        cases e : ns[i]? with
        | none =>
          rw [e] at hx
          cases hx
        | some u =>
          rw [e] at hx
          exact ⟨u, (Option.some.inj hx).symm⟩
      refine ⟨T, _, rfl, .inl (.inl upd_same), rfl, _, _, rfl, _, _, rfl, rfl, ?_⟩
      refine ⟨_, rfl, _, _, rfl, rfl, .inr (by decide), _, rfl, .inl ⟨_, rfl, _, rfl, _, _, rfl, rfl, _, _, rfl, rfl, .inr ⟨by have := (List.getElem?_eq_some_iff.mp hx).1; rw [List.length_map] at this; omega, by have := (List.getElem?_eq_some_iff.mp hx).1; rw [List.length_map] at this; omega⟩, _, _, rfl, rfl, .inl ⟨_, rfl, _, _, rfl, rfl, (by show (0 : Int) < 2147483629; decide), ?_⟩⟩⟩
      exact ⟨_, _, _, rfl, sm.trans (same_new nT), Int.emod_nonneg _ (by decide), Int.emod_lt_of_pos _ (by decide)⟩
    · rintro σ' H1 ⟨t, v2, v3, rfl, sm, t0, t1⟩
      refine ⟨_, rfl, a, rfl, ⟨_, sm.seq hS⟩, fun D hD => ?_⟩
      refine lc_list (K := K) (xs := ns.map V.int) (fun i H' => Same H1 H' ∧ H' D = some (.lst (((ns.take i).map fun n => if n < 0 then -n else n).map V.int))) ⟨same_new hD, upd_same⟩ (fun i H' _ p => p.1.seq (sm.seq hS)) ?_ ?_
      · rintro i x H' hx ⟨sm', hd⟩
        obtain ⟨n, rfl, hn⟩ : ∃ n, x = V.int n ∧ ns[i]? = some n := by
          rw [List.getElem?_map] at hx
          cases e : ns[i]? with
          | none =>
            rw [e] at hx
            cases hx
          | some u =>
            rw [e] at hx
            exact ⟨u, (Option.some.inj hx).symm, rfl⟩
        have hlt : i < ns.length := (List.getElem?_eq_some_iff.mp hn).1
        refine ⟨rfl, yes_turn ?_⟩
        refine ⟨_, rfl, .inl ⟨_, rfl, _, rfl, _, hd, ?_, ?_, ?_⟩⟩
        · rw [List.length_map, List.length_map, List.length_take]
          exact Nat.lt_of_le_of_lt (Nat.min_le_left _ _) (small1000 (by omega))
        · exact fun b x e => by
            rw [upd_ne (ne_of_none e hD)]
            exact sm' _ _ e
        · rw [upd_same, List.take_add_one, hn, List.map_append, List.map_append]
          rfl
      · rintro H2 ⟨sm', hd⟩
        have hnot : (ns.map V.int).length = ns.length := List.length_map ..
        rw [hnot, List.take_length] at hd
        refine ⟨_, rfl, by show 4 ≤ sizeLine; decide, fun h hh => ?_⟩
        have nDh : D ≠ h := ne_of_none hd hh
        refine q _ h D (ns.map fun n => if n < 0 then -n else n) ?_ ?_ ?_ ⟨0, 0, t, upd_same, (upd_ne nDh).trans hd, by rw [List.length_map]; exact hl, ?_, by decide, by decide, by decide, t0, t1⟩
        · exact (sm.trans sm').trans (same_new hh)
        · exact sm.free (sm'.free hh)
        · exact sm.free hD
        · intro n hn
          obtain ⟨m, _, rfl⟩ := List.mem_map.mp hn
          split <;> omega

abbrev s_draw : Stmt := topS 35
abbrev N_draw : List Str := ["hand", "many", "cell", "rest"]
theorem sc_draw : FnScope N_draw ["hand", "many"] (defScope s_draw) := ⟨rfl, rfl, rfl, by decide +kernel, rfl, by decide +kernel, by decide +kernel⟩
theorem ok_draw {f : Addr} {fd : FuncData} (F : Fun K "_law_draw" "_law_draw" s_draw f fd) (T : Bl mg) (D_law_mix : Def P w K mg base CX0 1 "_law_mix" ["number", "turn"] spMix) : FnOk P w K mg base CX0 2 f fd ["hand", "many"] spDraw := by
  refine F.ok sc_draw (fun vs H Q E h => ?_) (fun cdv A outer s H vs Q E hr h => ?_)
  · obtain ⟨a, c, ns, many, rfl, _⟩ := h
    rfl
  · obtain ⟨a, c, ns, many, rfl, m0, m1, ⟨p, r, t, hH, hC, hl, hns, p0, p1, r0, t0, t1⟩, q⟩ := h
    refine ⟨_, (Evl.pss_cut (ps_if (PW.pt (pw_and (pt_cmpR op_eq (pe_ix ix_list (pv 0) pe_int (fun _ _ => rfl)) pe_int (nomark _)) (pw_and1 (pt_cmpR op_lt (pe_ix ix_list (pv 0) pe_int (fun _ _ => rfl)) (pe_callB call_len_seq (by rfl) T.b_len (by decide +kernel) (pa_cons (pe_ix ix_list (pv 0) pe_int (fun _ _ => rfl)) pa_nil)) (nomark _))))) (pss_cons (ps_set (i := 2) sc_draw.nd rfl (Or.inl rfl) (pe_ix ix_list (pe_ix ix_list (pv 0) pe_int (fun _ _ => rfl)) (pe_ix ix_list (pv 0) pe_int (fun _ _ => rfl)) (fun _ _ => rfl)))
    (pss_cons (ps_asg (pe_op op_add (pe_ix ix_list (pv 0) pe_int (fun _ _ => rfl)) pe_int) (pg_sub (pv 0) pe_int set_list) rfl)
    (pss_cons (ps_if (pt_cmpR op_lt (pv 2) (pe_op op_pow pe_int pe_int) (nomark _)) (pss_one (ps_ret (pe_op op_mod (pe_callTy call_int1 (by rfl) T.b_int (by decide +kernel) (pa_cons (pe_dcall D_law_mix (hr.mono (by decide)) pass0 (pa_cons (pe_op op_mod (pe_callTy call_int1 (by rfl) T.b_int (by decide +kernel) (pa_cons (pv 2) pa_nil)) pe_int) (pa_cons (pe_ix ix_list (pv 0) pe_int (fun _ _ => rfl)) pa_nil))) pa_nil)) (pv 1)))) pss_nil)
    (pss_one (ps_asg (pv 2) (pg_sub (pv 0) pe_int set_list) rfl))))) pss_nil)
    (pss_cons (ps_if (pt_cmpR op_gt (pe_ix ix_list (pv 0) pe_int (fun _ _ => rfl)) pe_int (nomark _)) (pss_cons (ps_set (i := 3) sc_draw.nd rfl (Or.inl rfl) (pe_ix ix_list (pv 0) pe_int (fun _ _ => rfl)))
    (pss_cons (ps_asg (pe_op op_fdivW (pv 3) (pv 1)) (pg_sub (pv 0) pe_int set_list) rfl)
    (pss_one (ps_ret (pe_op op_mod (pe_callTy call_int1 (by rfl) T.b_int (by decide +kernel) (pa_cons (pv 3) pa_nil)) (pv 1)))))) pss_nil)
    (pss_cons (ps_asg (pe_op op_mod (pe_callTy call_int1 (by rfl) T.b_int (by decide +kernel) (pa_cons (pe_op op_add (pe_ix ix_list (pv 0) pe_int (fun _ _ => rfl)) pe_int) pa_nil)) pe_int) (pg_sub (pv 0) pe_int set_list) rfl)
    (pss_one (ps_ret (pe_op op_mod (pe_callTy call_int1 (by rfl) T.b_int (by decide +kernel) (pa_cons (pe_dcall D_law_mix (hr.mono (by decide)) pass0 (pa_cons (pe_ix ix_list (pv 0) pe_int (fun _ _ => rfl)) (pa_cons (pe_ix ix_list (pv 0) pe_int (fun _ _ => rfl)) pa_nil))) pa_nil)) (pv 1))))))), ?_⟩
    have nca : c ≠ a := fun e => by
      rw [e, hH] at hC
      have := Option.some.inj hC
      injection this with e1
      cases ns with
      | nil => cases e1
      | cons n l =>
        rw [List.map_cons] at e1
        injection e1 with e2
        cases e2
    have nac : a ≠ c := fun e => nca e.symm
    refine ⟨fun σ' H' => ∃ (v2 : Option V) (p r t : Int), σ' = [some (.ref a), some (.int many), v2, none] ∧ H' a = some (.lst [.ref c, .int p, .int r, .int t]) ∧ H' c = some (.lst (ns.map V.int)) ∧ (∀ b, b ≠ a → H' b = H b) ∧ 0 ≤ p ∧ p ≤ 64 ∧ 0 ≤ r ∧ 0 ≤ t ∧ t < 2147483629, ?_, ?_⟩
    · refine ⟨_, rfl, a, _, 2, _, rfl, rfl, SqL.of hH, rfl, rfl, _, rfl, ?_⟩
      refine ite2 (fun e1 => ?_) (fun e1 => ?_)
      · refine ⟨_, rfl, a, _, 1, _, rfl, rfl, SqL.of hH, rfl, _, rfl, a, _, 0, _, rfl, rfl, SqL.of hH, rfl, c, _, rfl, .inl (SqL.of hC), _, _, rfl, rfl, _, rfl, ?_⟩
        refine ite2 (fun e2 => ?_) (fun e2 => ?_)
        · have e2 := of_decide_eq_true e2
          rw [List.length_map] at e2
          have hi : p.toNat < ns.length := by omega
          have hp : ((p.toNat : Nat) : Int) = p := by omega
          have hat : atI (ns.map V.int) p = some (.int ns[p.toNat]) := by
            have h := atI_nat (xs := ns.map V.int) (j := p.toNat) (v := .int ns[p.toNat]) (by rw [List.getElem?_map, List.getElem?_eq_getElem hi]; rfl)
            rw [hp] at h
            exact h
          have hcell : 0 ≤ ns[p.toNat] := hns _ (List.getElem_mem hi)
          generalize ns[p.toNat] = cell at hat hcell
          refine ⟨_, rfl, a, _, 0, _, rfl, rfl, SqL.of hH, rfl, _, rfl, a, _, 1, _, rfl, rfl, SqL.of hH, rfl, c, _, p, _, rfl, rfl, SqL.of hC, hat, ?_⟩
          refine ⟨_, rfl, a, _, 1, _, rfl, rfl, SqL.of hH, rfl, _, _, rfl, rfl, _, rfl, a, _, 1, 1, rfl, rfl, hH, rfl, ?_⟩
          have hH1 : (upd H a (.lst [.ref c, .int (p + 1), .int r, .int t])) a = some (.lst [.ref c, .int (p + 1), .int r, .int t]) := upd_same
          have hC1 : (upd H a (.lst [.ref c, .int (p + 1), .int r, .int t])) c = some (.lst (ns.map V.int)) := (upd_ne nca).trans hC
          have hU : ∀ b, b ≠ a → (upd H a (.lst [.ref c, .int (p + 1), .int r, .int t])) b = H b := fun b hb => upd_ne hb
          show tSeq _ _ _ _ (upd H a (.lst [.ref c, .int (p + 1), .int r, .int t]))
          generalize upd H a (.lst [.ref c, .int (p + 1), .int r, .int t]) = H1 at hH1 hC1 hU
          refine ⟨_, rfl, _, _, rfl, rfl, ⟨by decide, by decide, by decide⟩, _, _, rfl, rfl, _, rfl, ?_⟩
          refine ite2 (fun e3 => ?_) (fun e3 => ?_)
          · refine ⟨_, rfl, .inl ⟨_, rfl, _, _, rfl, rfl, (by show (0 : Int) < 2147483647; decide), _, rfl, a, _, 1, _, rfl, rfl, SqL.of hH1, rfl, _, _, rfl, by omega, by omega, by omega, by omega, fun z => .inl ⟨_, rfl, _, rfl, _, _, rfl, rfl, m0, ?_⟩⟩⟩
            exact q _ _ (Int.emod_nonneg _ (by omega)) (Int.emod_lt_of_pos _ m0) ⟨p + 1, r, t, hH1, hC1, hl, hns, by omega, by omega, r0, t0, t1⟩ hU
          · refine ⟨_, rfl, _, rfl, a, _, 2, 2, rfl, rfl, hH1, rfl, ?_⟩
            exact ⟨_, p + 1, cell, t, rfl, upd_same, (upd_ne nca).trans hC1, fun b hb => (upd_ne hb).trans (hU b hb), by omega, by omega, hcell, t0, t1⟩
        · exact ⟨_, p, r, t, rfl, hH, hC, fun _ _ => rfl, p0, p1, r0, t0, t1⟩
      · exact ⟨_, p, r, t, rfl, hH, hC, fun _ _ => rfl, p0, p1, r0, t0, t1⟩
    · clear hH hC p0 p1 r0 t0 t1 p r t
      rintro σ' H1 ⟨v2, p, r, t, rfl, hH, hC, hU, p0, p1, r0, t0, t1⟩
      refine ⟨_, rfl, a, _, 2, _, rfl, rfl, SqL.of hH, rfl, _, _, rfl, rfl, _, rfl, ?_⟩
      refine ite2 (fun e1 => ?_) (fun e1 => ?_)
      · refine ⟨_, rfl, a, _, 2, _, rfl, rfl, SqL.of hH, rfl, ?_⟩
        refine ⟨_, rfl, _, rfl, _, _, rfl, rfl, wide_div m0 m1 (by decide) (by decide), _, rfl, a, _, 2, 2, rfl, rfl, hH, rfl, ?_⟩
        refine ⟨_, rfl, .inl ⟨_, rfl, _, rfl, _, _, rfl, rfl, m0, ?_⟩⟩
        exact q _ _ (Int.emod_nonneg _ (by omega)) (Int.emod_lt_of_pos _ m0) ⟨p, r / many, t, upd_same, (upd_ne nca).trans hC, hl, hns, p0, p1, Int.ediv_nonneg r0 (by omega), t0, t1⟩ fun b hb => (upd_ne hb).trans (hU b hb)
      · refine ⟨_, rfl, a, _, 3, _, rfl, rfl, SqL.of hH, rfl, _, _, rfl, rfl, .inl ⟨_, rfl, _, _, rfl, rfl, (by show (0 : Int) < 2147483629; decide), _, rfl, a, _, 3, 3, rfl, rfl, hH, rfl, ?_⟩⟩
        have hH1 : (upd H1 a (.lst [.ref c, .int p, .int r, .int ((t + 1) % 2147483629)])) a = some (.lst [.ref c, .int p, .int r, .int ((t + 1) % 2147483629)]) := upd_same
        have hC1 : (upd H1 a (.lst [.ref c, .int p, .int r, .int ((t + 1) % 2147483629)])) c = some (.lst (ns.map V.int)) := (upd_ne nca).trans hC
        refine ⟨_, rfl, a, _, 3, _, rfl, rfl, SqL.of hH1, rfl, _, rfl, a, _, 1, _, rfl, rfl, SqL.of hH1, rfl, _, _, rfl, by omega, by omega, by omega, by omega, fun z => .inl ⟨_, rfl, _, rfl, _, _, rfl, rfl, m0, ?_⟩⟩
        exact q _ _ (Int.emod_nonneg _ (by omega)) (Int.emod_lt_of_pos _ m0) ⟨p, r, (t + 1) % 2147483629, hH1, hC1, hl, hns, by omega, by omega, r0, by omega, by omega⟩ fun b hb => (upd_ne hb).trans (hU b hb)

abbrev s_Lratio : Stmt := topS 36
abbrev N_Lratio : List Str := ["top", "bottom", "one", "other"]
theorem sc_Lratio : FnScope N_Lratio ["top", "bottom"] (defScope s_Lratio) := ⟨rfl, rfl, rfl, by decide +kernel, rfl, by decide +kernel, by decide +kernel⟩
theorem ok_Lratio {f : Addr} {fd : FuncData} (F : Fun K "_law_ratio" "_law_ratio" s_Lratio f fd) (T : Bl mg) : FnOk P w K mg base CX0 1 f fd ["top", "bottom"] (spD K 2 fLowest) := by
  refine F.ok sc_Lratio (fun vs H Q E h => ?_) (fun cdv A outer s H vs Q E hr h => ?_)
  · obtain ⟨ds, d, hl, hd, _⟩ := h
    exact (dps_len hd).trans hl
  · obtain ⟨ds, d, hl, hd, hf, k⟩ := h
    obtain ⟨t, b, rfl, b0, bb, rfl⟩ := hf
    obtain ⟨v_top, vs, rfl, h_top, hd⟩ := dps_cons hd
    obtain ⟨v_bottom, vs, rfl, h_bottom, hd⟩ := dps_cons hd
    obtain rfl := dps_nil hd
    cases h_top
    cases h_bottom
    refine ⟨_, Evl.pss_cut (ps_if (pt_cmpR op_lt (pv 1) pe_int (nomark _)) (pss_cons (ps_set (i := 0) sc_Lratio.nd rfl (Or.inl rfl) (pe_un un_neg (pv 0))) (pss_one (ps_set (i := 1) sc_Lratio.nd rfl (Or.inl rfl) (pe_un un_neg (pv 1))))) pss_nil)
      (pss_cons (ps_set (i := 2) sc_Lratio.nd rfl (Or.inl rfl) (pe_callB call_abs (by rfl) T.b_abs (by decide +kernel) (pa_cons (pv 0) pa_nil)))
      (pss_cons (ps_set (i := 3) sc_Lratio.nd rfl (Or.inl rfl) (pv 1))
      (pss_cons (ps_while PassesOwn.never (pt_truth (pv 2) (fun _ => rfl)) (pss_one (ps_par (i := 2) (j := 3) rfl sc_Lratio.nd rfl rfl (by decide) rfl rfl (pa_cons (pe_op op_mod (pe_callTy call_int1 (by rfl) T.b_int (by decide +kernel) (pa_cons (pv 3) pa_nil)) (pv 2)) (pa_cons (pv 2) pa_nil)) (by rfl))))
      (pss_one (ps_ret (pe_tup (pa_cons (pe_op op_fdivA (pv 0) (pv 3)) (pa_cons (pe_op op_fdivA (pv 1) (pv 3)) pa_nil)))))))), ?_⟩
    refine ⟨fun σ' H' => σ' = [some (.int (if b < 0 then -t else t)), some (.int (if b < 0 then -b else b)), none, none] ∧ H' = H, ?_, ?_⟩
    · refine ⟨_, rfl, _, _, rfl, rfl, _, rfl, ?_⟩
      refine ite2 (fun c => ?_) (fun c => ?_)
      · have c' := of_decide_eq_true c
        refine ⟨_, rfl, _, rfl, _, rfl, _, rfl, ?_, rfl⟩
        rw [if_pos c', if_pos c']
        rfl
      · have c' : ¬ b < 0 := fun z => c (decide_eq_true z)
        refine ⟨?_, rfl⟩
        rw [if_neg c', if_neg c']
        rfl
    · rintro σ' H' ⟨rfl, rfl⟩
      have hb : 0 < (if b < 0 then -b else b) := by split <;> omega
      have hg : Nat.gcd (if b < 0 then -t else t).natAbs (if b < 0 then -b else b).natAbs = Nat.gcd t.natAbs b.natAbs := by
        split <;> simp
      have hlow : lowest t b = rat ((if b < 0 then -t else t) / (Nat.gcd t.natAbs b.natAbs : Nat)) ((if b < 0 then -b else b) / (Nat.gcd t.natAbs b.natAbs : Nat)) := by
        show rat (lowP t b) (lowQ t b) = _
        unfold lowP lowQ
        by_cases c : b < 0
        · simp only [if_pos c]
        · simp only [if_neg c]
      have hbb : (if b < 0 then -b else b).natAbs < 2 ^ 4000 := by
        split
        · rw [Int.natAbs_neg]
          exact bb
        · exact bb
      rw [hlow] at k
      rw [← hg] at k
      generalize (if b < 0 then -t else t) = t' at k
      generalize (if b < 0 then -b else b) = b' at k hb hbb
      clear hg hlow b0 bb
      have ha : (if t' < 0 then -t' else t') = (t'.natAbs : Int) := by split <;> omega
      refine x_set (v := .int (t'.natAbs : Int)) (fun Q q => ⟨_, rfl, t', rfl, by rw [ha]; exact q⟩) ?_
      refine x_set (v := .int b') (fun Q q => ⟨_, rfl, q⟩) ?_
      show tSeq (tWhile _ _) _ _ [some (.int t'), some (.int b'), some (.int (t'.natAbs : Int)), some (.int b')] _
      refine z_while (fun σ' H1 => H1 = H' ∧ ∃ x y : Nat, σ' = [some (.int t'), some (.int b'), some (.int x), some (.int y)] ∧ 0 < y ∧ Nat.gcd x y = Nat.gcd t'.natAbs b'.natAbs) (fun σ' _ => match σ' with | [_, _, some (.int x), _] => x.toNat | _ => 0) ?_ ?_ ?_
      · have hy : b' = ((b'.toNat : Nat) : Int) := by omega
        refine ⟨rfl, t'.natAbs, b'.toNat, ?_, by omega, ?_⟩
        · show [some (V.int t'), some (V.int b'), some (V.int (t'.natAbs : Int)), some (V.int b')] = _
          rw [← hy]
        · have : b'.toNat = b'.natAbs := by omega
          rw [this]
      · rintro σ' H1 ⟨rfl, x, y, rfl, hy, hgc⟩
        refine ⟨_, rfl, _, rfl, ?_⟩
        by_cases hx : x = 0
        · subst hx
          refine iteF ?_
          have hgy : y = Nat.gcd t'.natAbs b'.natAbs := by
            rw [← hgc, Nat.gcd_zero_left]
          have hyb : y ≤ b'.natAbs := by
            rw [hgy]
            exact Nat.gcd_le_right _ (by omega)
          have hdiv : ∀ i : Int, CDivA i ((y : Nat) : Int) := fun i => div_ok (n := 4000) (by omega) (Nat.lt_of_le_of_lt hyb hbb)
          refine ⟨_, rfl, _, rfl, _, _, rfl, rfl, hdiv _, _, rfl, _, rfl, _, _, rfl, rfl, hdiv _, by show 2 ≤ sizeLine; decide, fun p hp => ?_⟩
          refine k _ _ (Ex.new hp) (.tup (st_of upd_same) (.cons ?_ (.cons ?_ .nil)))
          · rw [← hgy, ← Int.fdiv_eq_ediv_of_nonneg _ (by omega)]
            exact .int _
          · rw [← hgy, ← Int.fdiv_eq_ediv_of_nonneg _ (by omega)]
            exact .int _
        · have hne : (((x : Nat) : Int) != 0) = true := by
            rw [bne_iff_ne]
            omega
          rw [hne]
          refine iteT ?_
          refine ⟨_, rfl, .inl ⟨_, rfl, _, rfl, _, _, rfl, rfl, (by show (0 : Int) < (x : Int); omega), _, rfl, _, _, rfl, ?_⟩⟩
          refine ⟨⟨rfl, y % x, x, ?_, by omega, ?_⟩, ?_⟩
          · show [some (V.int t'), some (V.int b'), some (V.int ((y : Int) % (x : Int))), some (V.int (x : Int))] = _
            rw [← Int.natCast_emod]
          · rw [← hgc, Nat.gcd_comm x y, ← Nat.gcd_rec, Nat.gcd_comm]
          · show ((y : Int) % (x : Int)).toNat < ((x : Nat) : Int).toNat
            rw [← Int.natCast_emod]
            exact Nat.mod_lt _ (by omega)
      · rintro σ' H1 Q1 Q2 hQ ⟨v, h1, kk, h2, h3⟩
        exact ⟨v, h1, kk, h2, hQ _ _ h3⟩

abbrev s_L_plus : Stmt := topS 37
abbrev N_L_plus : List Str := ["a", "b"]
theorem sc_L_plus : FnScope N_L_plus ["a", "b"] (defScope s_L_plus) := ⟨rfl, rfl, rfl, by decide +kernel, rfl, by decide +kernel, by decide +kernel⟩
theorem ok_L_plus {f : Addr} {fd : FuncData} (F : Fun K "_law_plus" "_law_plus" s_L_plus f fd) (T : Bl mg) (D_law_ratio : Def P w K mg base CX0 1 "_law_ratio" ["top", "bottom"] (spD K 2 fLowest)) : FnOk P w K mg base CX0 2 f fd ["a", "b"] (spD K 2 fPlusR) := by
  refine F.ok sc_L_plus (fun vs H Q E h => ?_) (fun cdv A outer s H vs Q E hr h => ?_)
  · obtain ⟨ds, d, hl, hd, _⟩ := h
    exact (dps_len hd).trans hl
  · obtain ⟨ds, d, hl, hd, hf, k⟩ := h
    obtain ⟨x, y, rfl, ⟨bxn, bxd⟩, ⟨byn, byd⟩, rfl⟩ := hf
    replace bxd : (x.den : Int).natAbs < 2 ^ B := bxd
    replace byd : (y.den : Int).natAbs < 2 ^ B := byd
    obtain ⟨v_a, vs, rfl, h_a, hd⟩ := dps_cons hd
    obtain ⟨v_b, vs, rfl, h_b, hd⟩ := dps_cons hd
    obtain rfl := dps_nil hd
    have ex : Ex H H := Ex.refl H
    refine ⟨_, (pss_one (ps_ret (pe_dcall D_law_ratio (hr.mono (by decide)) pass0 (pa_cons (pe_op op_add (pe_op op_mulW (pe_ix (r := rIxT K) ix_tup (pv 0) pe_int (fun _ _ => rfl)) (pe_ix (r := rIxT K) ix_tup (pv 1) pe_int (fun _ _ => rfl))) (pe_op op_mulW (pe_ix (r := rIxT K) ix_tup (pv 1) pe_int (fun _ _ => rfl)) (pe_ix (r := rIxT K) ix_tup (pv 0) pe_int (fun _ _ => rfl)))) (pa_cons (pe_op op_mulW (pe_ix (r := rIxT K) ix_tup (pv 0) pe_int (fun _ _ => rfl)) (pe_ix (r := rIxT K) ix_tup (pv 1) pe_int (fun _ _ => rfl))) pa_nil))))), ?_⟩
    refine z_ret (K := K) (σ := [some (v_a), some (v_b)]) (d_call (ds_cons (d_add (d_mul (d_ixT (d_var ⟨_, rfl, h_a⟩) d_int rfl) (d_ixT (d_var ⟨_, rfl, h_b⟩) d_int rfl) (wide_mul (by assumption) (by assumption) (by decide) (by decide) (by decide))) (d_mul (d_ixT (d_var ⟨_, rfl, h_b⟩) d_int rfl) (d_ixT (d_var ⟨_, rfl, h_a⟩) d_int rfl) (wide_mul (by assumption) (by assumption) (by decide) (by decide) (by decide)))) (ds_cons (d_mul (d_ixT (d_var ⟨_, rfl, h_a⟩) d_int rfl) (d_ixT (d_var ⟨_, rfl, h_b⟩) d_int rfl) (wide_mul (by assumption) (by assumption) (by decide) (by decide) (by decide))) ds_nil)) rfl ⟨_, _, rfl, den_mul x y, small_mul bxd byd, low_add x y⟩) fun v H1 e h => ?_
    replace ex := ex.trans e
    exact k v _ ex h

abbrev s_L_times : Stmt := topS 38
abbrev N_L_times : List Str := ["a", "b"]
theorem sc_L_times : FnScope N_L_times ["a", "b"] (defScope s_L_times) := ⟨rfl, rfl, rfl, by decide +kernel, rfl, by decide +kernel, by decide +kernel⟩
theorem ok_L_times {f : Addr} {fd : FuncData} (F : Fun K "_law_times" "_law_times" s_L_times f fd) (T : Bl mg) (D_law_ratio : Def P w K mg base CX0 1 "_law_ratio" ["top", "bottom"] (spD K 2 fLowest)) : FnOk P w K mg base CX0 2 f fd ["a", "b"] (spD K 2 fTimesR) := by
  refine F.ok sc_L_times (fun vs H Q E h => ?_) (fun cdv A outer s H vs Q E hr h => ?_)
  · obtain ⟨ds, d, hl, hd, _⟩ := h
    exact (dps_len hd).trans hl
  · obtain ⟨ds, d, hl, hd, hf, k⟩ := h
    obtain ⟨x, y, rfl, ⟨bxn, bxd⟩, ⟨byn, byd⟩, rfl⟩ := hf
    replace bxd : (x.den : Int).natAbs < 2 ^ B := bxd
    replace byd : (y.den : Int).natAbs < 2 ^ B := byd
    obtain ⟨v_a, vs, rfl, h_a, hd⟩ := dps_cons hd
    obtain ⟨v_b, vs, rfl, h_b, hd⟩ := dps_cons hd
    obtain rfl := dps_nil hd
    have ex : Ex H H := Ex.refl H
    refine ⟨_, (pss_one (ps_ret (pe_dcall D_law_ratio (hr.mono (by decide)) pass0 (pa_cons (pe_op op_mulW (pe_ix (r := rIxT K) ix_tup (pv 0) pe_int (fun _ _ => rfl)) (pe_ix (r := rIxT K) ix_tup (pv 1) pe_int (fun _ _ => rfl))) (pa_cons (pe_op op_mulW (pe_ix (r := rIxT K) ix_tup (pv 0) pe_int (fun _ _ => rfl)) (pe_ix (r := rIxT K) ix_tup (pv 1) pe_int (fun _ _ => rfl))) pa_nil))))), ?_⟩
    refine z_ret (K := K) (σ := [some (v_a), some (v_b)]) (d_call (ds_cons (d_mul (d_ixT (d_var ⟨_, rfl, h_a⟩) d_int rfl) (d_ixT (d_var ⟨_, rfl, h_b⟩) d_int rfl) (wide_mul (by assumption) (by assumption) (by decide) (by decide) (by decide))) (ds_cons (d_mul (d_ixT (d_var ⟨_, rfl, h_a⟩) d_int rfl) (d_ixT (d_var ⟨_, rfl, h_b⟩) d_int rfl) (wide_mul (by assumption) (by assumption) (by decide) (by decide) (by decide))) ds_nil)) rfl ⟨_, _, rfl, den_mul x y, small_mul bxd byd, low_mul x y⟩) fun v H1 e h => ?_
    replace ex := ex.trans e
    exact k v _ ex h

abbrev s_L_less : Stmt := topS 39
abbrev N_L_less : List Str := ["a", "b"]
theorem sc_L_less : FnScope N_L_less ["a", "b"] (defScope s_L_less) := ⟨rfl, rfl, rfl, by decide +kernel, rfl, by decide +kernel, by decide +kernel⟩
theorem ok_L_less {f : Addr} {fd : FuncData} (F : Fun K "_law_less" "_law_less" s_L_less f fd) (T : Bl mg)  : FnOk P w K mg base CX0 1 f fd ["a", "b"] (spD K 2 fLessR) := by
  refine F.ok sc_L_less (fun vs H Q E h => ?_) (fun cdv A outer s H vs Q E hr h => ?_)
  · obtain ⟨ds, d, hl, hd, _⟩ := h
    exact (dps_len hd).trans hl
  · obtain ⟨ds, d, hl, hd, hf, k⟩ := h
    obtain ⟨x, y, rfl, ⟨bxn, bxd⟩, ⟨byn, byd⟩, rfl⟩ := hf
    replace bxd : (x.den : Int).natAbs < 2 ^ B := bxd
    replace byd : (y.den : Int).natAbs < 2 ^ B := byd
    obtain ⟨v_a, vs, rfl, h_a, hd⟩ := dps_cons hd
    obtain ⟨v_b, vs, rfl, h_b, hd⟩ := dps_cons hd
    obtain rfl := dps_nil hd
    have ex : Ex H H := Ex.refl H
    refine ⟨_, (pss_one (ps_ret (pe_cmpR op_lt (pe_op op_mulW (pe_ix (r := rIxT K) ix_tup (pv 0) pe_int (fun _ _ => rfl)) (pe_ix (r := rIxT K) ix_tup (pv 1) pe_int (fun _ _ => rfl))) (pe_op op_mulW (pe_ix (r := rIxT K) ix_tup (pv 1) pe_int (fun _ _ => rfl)) (pe_ix (r := rIxT K) ix_tup (pv 0) pe_int (fun _ _ => rfl))) (nomark _)))), ?_⟩
    refine z_ret (K := K) (σ := [some (v_a), some (v_b)]) (d_lt (d_mul (d_ixT (d_var ⟨_, rfl, h_a⟩) d_int rfl) (d_ixT (d_var ⟨_, rfl, h_b⟩) d_int rfl) (wide_mul (by assumption) (by assumption) (by decide) (by decide) (by decide))) (d_mul (d_ixT (d_var ⟨_, rfl, h_b⟩) d_int rfl) (d_ixT (d_var ⟨_, rfl, h_a⟩) d_int rfl) (wide_mul (by assumption) (by assumption) (by decide) (by decide) (by decide)))) fun v H1 e h => ?_
    replace ex := ex.trans e
    rw [less_iff] at k
    exact k v _ ex h

abbrev s_L_size : Stmt := topS 40
abbrev N_L_size : List Str := ["a"]
theorem sc_L_size : FnScope N_L_size ["a"] (defScope s_L_size) := ⟨rfl, rfl, rfl, by decide +kernel, rfl, by decide +kernel, by decide +kernel⟩
theorem ok_L_size {f : Addr} {fd : FuncData} (F : Fun K "_law_size" "_law_size" s_L_size f fd) (T : Bl mg)  : FnOk P w K mg base CX0 1 f fd ["a"] (spD K 1 fSize) := by
  refine F.ok sc_L_size (fun vs H Q E h => ?_) (fun cdv A outer s H vs Q E hr h => ?_)
  · obtain ⟨ds, d, hl, hd, _⟩ := h
    exact (dps_len hd).trans hl
  · obtain ⟨ds, d, hl, hd, hf, k⟩ := h
    obtain ⟨p, q, rfl, rfl⟩ := hf
    obtain ⟨v_a, vs, rfl, h_a, hd⟩ := dps_cons hd
    obtain rfl := dps_nil hd
    have ex : Ex H H := Ex.refl H
    refine ⟨_, (pss_one (ps_ret (pe_tup (pa_cons (pe_callB call_abs (by rfl) T.b_abs (by decide +kernel) (pa_cons (pe_ix (r := rIxT K) ix_tup (pv 0) pe_int (fun _ _ => rfl)) pa_nil)) (pa_cons (pe_ix (r := rIxT K) ix_tup (pv 0) pe_int (fun _ _ => rfl)) pa_nil))))), ?_⟩
    refine z_ret (K := K) (σ := [some (v_a)]) (d_tup (ds_cons (d_abs (d_ixT (d_var ⟨_, rfl, h_a⟩) d_int rfl)) (ds_cons (d_ixT (d_var ⟨_, rfl, h_a⟩) d_int rfl) ds_nil)) (by show 2 ≤ 1000; decide)) fun v H1 e h => ?_
    replace ex := ex.trans e
    exact k v _ ex h

abbrev s_L_whole : Stmt := topS 41
abbrev N_L_whole : List Str := ["thing"]
theorem sc_L_whole : FnScope N_L_whole ["thing"] (defScope s_L_whole) := ⟨rfl, rfl, rfl, by decide +kernel, rfl, by decide +kernel, by decide +kernel⟩
theorem ok_L_whole {f : Addr} {fd : FuncData} (F : Fun K "_law_whole" "_law_whole" s_L_whole f fd) (T : Bl mg) : FnOk P w K mg base CX0 1 f fd ["thing"] (spD K 1 fLWhole) := by
  refine F.ok sc_L_whole (fun vs H Q E h => ?_) (fun cdv A outer s H vs Q E hr h => ?_)
  · obtain ⟨ds, d, hl, hd, _⟩ := h
    exact (dps_len hd).trans hl
  · obtain ⟨ds, d, hl, hd, hf, k⟩ := h
    obtain ⟨t, rfl, rfl⟩ := hf
    obtain ⟨v_thing, vs, rfl, h_thing, hd⟩ := dps_cons hd
    obtain rfl := dps_nil hd
    refine ⟨_, (pss_one (ps_ret (pe_and (pe_callB call_isi (by rfl) T.b_isinstance (by decide +kernel) (pa_cons (pv 0) (pa_cons (pe_bltn (v := .ty "int") (by rfl) T.b_int (by decide +kernel) rfl) pa_nil))) (pe_one (pe_not (pe_callB call_isi (by rfl) T.b_isinstance (by decide +kernel) (pa_cons (pv 0) (pa_cons (pe_bltn (v := .ty "bool") (by rfl) T.b_bool (by decide +kernel) rfl) pa_nil)))))))), ?_⟩
    refine z_ret (K := K) (σ := [some v_thing]) (d_and (d_isi (d_var ⟨_, rfl, h_thing⟩) (kit_int _)) (fun _ => d_not (d_isi (d_var ⟨_, rfl, h_thing⟩) (kit_bool _)))) fun v H1 e h => ?_
    exact k v _ e h

abbrev s_L_same : Stmt := topS 42
abbrev N_L_same : List Str := ["told", "due", "k"]
theorem sc_L_same : FnScope N_L_same ["told", "due"] (defScope s_L_same) := ⟨rfl, rfl, rfl, by decide +kernel, rfl, by decide +kernel, by decide +kernel⟩

theorem ok_L_same1 {n : Nat} {f : Addr} {fd : FuncData} (F : Fun K "_law_same" "_law_same" s_L_same f fd) (T : Bl mg) (D_law_same : Def P w K mg base CX0 n "_law_same" ["told", "due"] (spD K 2 (fSame n))) : FnOk P w K mg base CX0 (n + 1) f fd ["told", "due"] (spD K 2 (fSame (n + 1))) := by
  refine F.ok sc_L_same (fun vs H Q E h => ?_) (fun cdv A outer s H vs Q E hr h => ?_)
  · obtain ⟨ds, d, hl, hd, _⟩ := h
    exact (dps_len hd).trans hl
  · obtain ⟨ds, d, hl, hd, hf, k⟩ := h
    obtain ⟨a, b, rfl, hdep, rfl⟩ := hf
    obtain ⟨v_told, vs, rfl, h_told, hd⟩ := dps_cons hd
    obtain ⟨v_due, vs, rfl, h_due, hd⟩ := dps_cons hd
    obtain rfl := dps_nil hd
    refine ⟨_, (pss_cons (ps_if (pt_val (pe_callB call_isi (by rfl) T.b_isinstance (by decide +kernel) (pa_cons (pv 1) (pa_cons (pe_bltn (v := .ty "tuple") (by rfl) T.b_tuple (by decide +kernel) rfl) pa_nil)))) (pss_one (ps_ret (pe_and (pe_callB call_isi (by rfl) T.b_isinstance (by decide +kernel) (pa_cons (pv 0) (pa_cons (pe_bltn (v := .ty "tuple") (by rfl) T.b_tuple (by decide +kernel) rfl) pa_nil))) (pe_and (pe_cmpR op_eq (pe_callB call_len_seq (by rfl) T.b_len (by decide +kernel) (pa_cons (pv 0) pa_nil)) (pe_callB call_len_seq (by rfl) T.b_len (by decide +kernel) (pa_cons (pv 1) pa_nil)) (nomark _)) (pe_one (pe_callB (cr_all rfl) (by rfl) T.b_all (by decide +kernel) (pa_cons (pe_lc (own := [("k", 2)]) (g := gName 2) rfl sc_L_same.nd (pi_range1 rfl T.b_range (pa_cons (pe_callB call_len_seq (by rfl) T.b_len (by decide +kernel) (pa_cons (pv 1) pa_nil)) pa_nil)) (blkOk_by (own := [("k", 2)]) (N := N_L_same) (sc := defScope s_L_same) (by decide +kernel)) (fun _ _ _ _ _ => pg_name (i := 2) sc_L_same.nd rfl (Or.inl rfl)) (fun _ _ _ _ _ => pts_nil) (fun _ _ _ _ _ => (pe_dcall D_law_same (hr.mono (Nat.le_refl _)) pass0 (pa_cons (pe_ix (r := rIxT K) ix_tup (pv 0) (pv 2) (fun _ _ => rfl)) (pa_cons (pe_ix (r := rIxT K) ix_tup (pv 1) (pv 2) (fun _ _ => rfl)) pa_nil))))) pa_nil))))))) pss_nil)
    (pss_cons (ps_if (PW.pt (pw_or (pt_val (pe_callB call_isi (by rfl) T.b_isinstance (by decide +kernel) (pa_cons (pv 1) (pa_cons (pe_bltn (v := .ty "bool") (by rfl) T.b_bool (by decide +kernel) rfl) pa_nil)))) (pw_or1 (pt_val (pe_callB call_isi (by rfl) T.b_isinstance (by decide +kernel) (pa_cons (pv 0) (pa_cons (pe_bltn (v := .ty "bool") (by rfl) T.b_bool (by decide +kernel) rfl) pa_nil))))))) (pss_one (ps_ret (pe_and (pe_callB call_isi (by rfl) T.b_isinstance (by decide +kernel) (pa_cons (pv 1) (pa_cons (pe_bltn (v := .ty "bool") (by rfl) T.b_bool (by decide +kernel) rfl) pa_nil))) (pe_and (pe_callB call_isi (by rfl) T.b_isinstance (by decide +kernel) (pa_cons (pv 0) (pa_cons (pe_bltn (v := .ty "bool") (by rfl) T.b_bool (by decide +kernel) rfl) pa_nil))) (pe_one (pe_cmpR (op_eqD hr.units) (pv 0) (pv 1) (nomark _))))))) pss_nil)
    (pss_cons (ps_if (pt_val (pe_callB call_isi (by rfl) T.b_isinstance (by decide +kernel) (pa_cons (pv 1) (pa_cons (pe_bltn (v := .ty "int") (by rfl) T.b_int (by decide +kernel) rfl) pa_nil)))) (pss_one (ps_ret (pe_and (pe_callB call_isi (by rfl) T.b_isinstance (by decide +kernel) (pa_cons (pv 0) (pa_cons (pe_bltn (v := .ty "int") (by rfl) T.b_int (by decide +kernel) rfl) pa_nil))) (pe_one (pe_cmpR (op_eqD hr.units) (pv 0) (pv 1) (nomark _)))))) pss_nil)
    (pss_cons (ps_if (pt_val (pe_callB call_isi (by rfl) T.b_isinstance (by decide +kernel) (pa_cons (pv 1) (pa_cons (pe_bltn (v := .ty "str") (by rfl) T.b_str (by decide +kernel) rfl) pa_nil)))) (pss_one (ps_ret (pe_and (pe_callB call_isi (by rfl) T.b_isinstance (by decide +kernel) (pa_cons (pv 0) (pa_cons (pe_bltn (v := .ty "str") (by rfl) T.b_str (by decide +kernel) rfl) pa_nil))) (pe_one (pe_cmpR op_eq (pv 0) (pv 1) (nomark _)))))) pss_nil)
    (pss_one (ps_ret (pe_and (pe_cmpR op_isN (pv 0) pe_non (nomark _)) (pe_one (pe_cmpR op_isN (pv 1) pe_non (nomark _)))))))))), ?_⟩
    refine z_if (σ := [some v_told, some v_due, none]) (b_val (d_isi (d_var ⟨_, rfl, h_due⟩) (kit_tuple _))) (fun c H1 e => ?_) (fun c H1 e => z_next ?_)
    · have V0 : EvD K (tVar 0) [some v_told, some v_due, none] H1 a := d_var ⟨_, rfl, dp_grow e _ _ h_told⟩
      have V1 : EvD K (tVar 1) [some v_told, some v_due, none] H1 b := d_var ⟨_, rfl, dp_grow e _ _ h_due⟩
      have ev : sameN (n + 1) a b = (isTupD a && (lenSame a b && allI (sameN n) a b)) := if_pos c
      rw [ev] at k
      obtain ⟨ds, rfl⟩ := tup_of c
      refine z_ret (K := K) (σ := [some v_told, some v_due, none]) (d_and (d_isi V0 (kit_tuple _)) (fun c0 => d_and (b := allI (sameN n) a (.tuple ds)) (d_is (d := .bool (lenSame a (.tuple ds))) ?_ rfl) (fun c1 => ?_))) fun v H2 e2 h => k v _ (e.trans e2) h
      · obtain ⟨es, rfl⟩ := tup_of c0
        exact d_eqI (d_lenT V0) (d_lenT V1)
      · obtain ⟨es, rfl⟩ := tup_of c0
        have hl : es.length = ds.length := by
          have z := of_decide_eq_true c1
          omega
        refine d_allR (n := ds.length) (fun i => sameN n (es.getD i .none) (ds.getD i .none)) (ds_cons (d_lenT V1) ds_nil) (by have := hdep.1; omega) (fun _ => rfl) (fun i H2 e2 hi => ?_)
        have W0 : EvD K (tVar 0) [some v_told, some v_due, some (.int (i : Int))] H2 (.tuple es) := d_var ⟨_, rfl, dp_grow (e.trans e2) _ _ h_told⟩
        have W1 : EvD K (tVar 1) [some v_told, some v_due, some (.int (i : Int))] H2 (.tuple ds) := d_var ⟨_, rfl, dp_grow (e.trans e2) _ _ h_due⟩
        have W2 : EvD K (tVar 2) [some v_told, some v_due, some (.int (i : Int))] H2 (.int (i : Int)) := d_var ⟨_, rfl, .int _⟩
        exact d_call (ds_cons (d_ixT W0 W2 (atI_nat (by omega))) (ds_cons (d_ixT W1 W2 (atI_nat hi)) ds_nil)) rfl ⟨_, _, rfl, hdep.2 i hi, rfl⟩
    have V0 : EvD K (tVar 0) [some v_told, some v_due, none] H1 a := d_var ⟨_, rfl, dp_grow e _ _ h_told⟩
    have V1 : EvD K (tVar 1) [some v_told, some v_due, none] H1 b := d_var ⟨_, rfl, dp_grow e _ _ h_due⟩
    have nt : ¬ (isTupD b = true) := by rw [c]; decide
    have ev : sameN (n + 1) a b = (if (isBoolD b || isBoolD a) = true then (isBoolD b && (isBoolD a && PyData.eqv a b)) else if isIntD b = true then (isIntD a && PyData.eqv a b) else if isStrD b = true then (isStrD a && PyData.eqv a b) else (isNone a && isNone b)) := if_neg nt
    rw [ev] at k
    refine z_if (σ := [some v_told, some v_due, none]) (b_or (b_val (d_isi V1 (kit_bool _))) (fun _ => b_val (d_isi V0 (kit_bool _)))) (fun c2 H2 e2 => ?_) (fun c2 H2 e2 => z_next ?_)
    · rw [if_pos c2] at k
      exact z_ret (K := K) (d_and (d_isi (V1.mono e2) (kit_bool _)) (fun c3 => d_and (d_isi (V0.mono e2) (kit_bool _)) (fun c4 => eq_bools c3 c4 (V0.mono e2) (V1.mono e2)))) fun v H3 e3 h => k v _ ((e.trans e2).trans e3) h
    rw [if_neg (by rw [c2]; decide)] at k
    refine z_if (σ := [some v_told, some v_due, none]) (b_val (d_isi (V1.mono e2) (kit_int _))) (fun c3 H3 e3 => ?_) (fun c3 H3 e3 => z_next ?_)
    · rw [if_pos c3] at k
      exact z_ret (K := K) (d_and (d_isi (V0.mono (e2.trans e3)) (kit_int _)) (fun c4 => eq_ints c3 c4 (V0.mono (e2.trans e3)) (V1.mono (e2.trans e3)))) fun v H4 e4 h => k v _ (((e.trans e2).trans e3).trans e4) h
    rw [if_neg (by rw [c3]; decide)] at k
    refine z_if (σ := [some v_told, some v_due, none]) (b_val (d_isi (V1.mono (e2.trans e3)) (kit_str _))) (fun c4 H4 e4 => ?_) (fun c4 H4 e4 => z_next ?_)
    · rw [if_pos c4] at k
      exact z_ret (K := K) (d_and (d_isi (V0.mono ((e2.trans e3).trans e4)) (kit_str _)) (fun c5 => eq_strs c4 c5 (V0.mono ((e2.trans e3).trans e4)) (V1.mono ((e2.trans e3).trans e4)))) fun v H5 e5 h => k v _ ((((e.trans e2).trans e3).trans e4).trans e5) h
    rw [if_neg (by rw [c4]; decide)] at k
    exact z_ret (K := K) (d_and (d_isN (V0.mono ((e2.trans e3).trans e4))) (fun _ => d_isN (V1.mono ((e2.trans e3).trans e4)))) fun v H5 e5 h => k v _ ((((e.trans e2).trans e3).trans e4).trans e5) h
theorem def_L_same {f : Addr} {fd : FuncData} (F : Fun K "_law_same" "_law_same" s_L_same f fd) (T : Bl mg) (hm : mg "_law_same" = some (.ref f)) (kp : PySem.W.keepIn K (.ref f) = true) (hb : Binds K fd ["told", "due"] []) : ∀ n, Def P w K mg base CX0 n "_law_same" ["told", "due"] (spD K 2 (fSame n))
  | 0 => ⟨f, fd, ⟨fun vs H Q E h => by
      obtain ⟨ds, d, _, _, ⟨a, b, _, hd, _⟩, _⟩ := h
      exact hd.elim, fun A outer s H args us vs Q E _ _ _ _ h => by
      obtain ⟨ds, d, _, _, ⟨a, b, _, hd, _⟩, _⟩ := h
      exact hd.elim⟩, hm, kp, hb⟩
  | n + 1 => ⟨f, fd, ok_L_same1 F T (def_L_same F T hm kp hb n), hm, kp, hb⟩

end
end K03
/-! The mathematics of carried and gathered: f k is the factor of tick k. -/
namespace K03
def absR (x : Rat) : Rat := if x < 0 then -x else x
theorem abs_mul (x y : Rat) : absR (x * y) = absR x * absR y := by
  unfold absR
  by_cases hx : x < 0 <;> by_cases hy : y < 0
  · have h : ¬ x * y < 0 := by
      have := Rat.mul_pos (a := -x) (b := -y) (by grind) (by grind)
      grind
    rw [if_pos hx, if_pos hy, if_neg h]; grind
  · rw [if_pos hx, if_neg hy]
    by_cases y0 : y = 0
    · subst y0; simp
    · have h : x * y < 0 := by
        have := Rat.mul_pos (a := -x) (b := y) (by grind) (by grind)
        grind
      rw [if_pos h]; grind
  · rw [if_neg hx, if_pos hy]
    by_cases x0 : x = 0
    · subst x0; simp
    · have h : x * y < 0 := by
        have := Rat.mul_pos (a := x) (b := -y) (by grind) (by grind)
        grind
      rw [if_pos h]; grind
  · have h : ¬ x * y < 0 := by
      have := Rat.mul_nonneg (a := x) (b := y) (by grind) (by grind)
      grind
    rw [if_neg hx, if_neg hy, if_neg h]
theorem abs_one : absR 1 = 1 := by decide
theorem abs_zero : absR 0 = 0 := by decide
theorem abs_nn (x : Rat) : 0 ≤ absR x := by unfold absR; split <;> grind
theorem abs_pos {x : Rat} (h : x ≠ 0) : 0 < absR x := by unfold absR; split <;> grind
theorem abs_of_nn {x : Rat} (h : 0 ≤ x) : absR x = x := by unfold absR; split <;> grind
theorem abs_neg (x : Rat) : absR (-x) = absR x := by unfold absR; split <;> split <;> grind
theorem abs_abs (x : Rat) : absR (absR x) = absR x := abs_of_nn (abs_nn x)
theorem abs_add (x y : Rat) : absR (x + y) ≤ absR x + absR y := by unfold absR; split <;> split <;> split <;> grind
/-- the product of the ticks p .. p + t - 1 -/
def P (f : Nat → Rat) (p : Nat) : Nat → Rat
  | 0 => 1
  | t + 1 => P f p t * f (p + t)
/-- what one unit of push gathers -/
def G (f : Nat → Rat) (p : Nat) : Nat → Rat
  | 0 => 0
  | t + 1 => G f p t * absR (f (p + t)) + 1
section
variable {f : Nat → Rat} {p : Nat}
theorem P_add (a : Nat) : ∀ b : Nat, P f p (a + b) = P f p a * P f (p + a) b
  | 0 => by simp [P]
  | b + 1 => by
    rw [← Nat.add_assoc]
    show P f p (a + b) * f (p + (a + b)) = P f p a * (P f (p + a) b * f (p + a + b))
    rw [P_add a b, Nat.add_assoc]
    grind
theorem P_front (t : Nat) : P f p (t + 1) = f p * P f (p + 1) t := by
  rw [Nat.add_comm t 1, P_add 1 t]
  show (1 * f (p + 0)) * _ = _
  rw [Nat.add_zero]
  grind
theorem G_add (a : Nat) : ∀ b : Nat, G f p (a + b) = absR (P f (p + a) b) * G f p a + G f (p + a) b
  | 0 => by
    show G f p a = absR 1 * G f p a + 0
    rw [abs_one]; grind
  | b + 1 => by
    rw [← Nat.add_assoc]
    show G f p (a + b) * absR (f (p + (a + b))) + 1 = absR (P f (p + a) b * f (p + a + b)) * G f p a + (G f (p + a) b * absR (f (p + a + b)) + 1)
    rw [G_add a b, abs_mul, Nat.add_assoc]
    grind
theorem G_front (t : Nat) : G f p (t + 1) = absR (P f (p + 1) t) + G f (p + 1) t := by
  rw [Nat.add_comm t 1, G_add 1 t]
  have e : G f p 1 = 1 := by show (0 : Rat) * _ + 1 = 1; grind
  rw [e]; grind
theorem G_nn : ∀ t : Nat, 0 ≤ G f p t
  | 0 => Rat.le_refl
  | t + 1 => by
    have := Rat.mul_nonneg (G_nn t) (abs_nn (f (p + t)))
    show 0 ≤ G f p t * absR (f (p + t)) + 1
    grind
theorem P_abs : ∀ t : Nat, absR (P f p t) = P (fun k => absR (f k)) p t
  | 0 => abs_one
  | t + 1 => by
    show absR (P f p t * f (p + t)) = P (fun k => absR (f k)) p t * absR (f (p + t))
    rw [abs_mul, P_abs t]
theorem P_ne (h : ∀ k, f k ≠ 0) : ∀ t : Nat, P f p t ≠ 0
  | 0 => fun z => absurd (show (1 : Rat) = 0 from z) (by decide)
  | t + 1 => fun z => by
    have z : P f p t * f (p + t) = 0 := z
    rcases Rat.mul_eq_zero.mp z with q | q
    · exact P_ne h t q
    · exact h _ q
theorem P_shift {q : Nat} (h : ∀ k, f (p + k) = f (q + k)) : ∀ t : Nat, P f p t = P f q t
  | 0 => rfl
  | t + 1 => by show P f p t * f (p + t) = P f q t * f (q + t); rw [P_shift h t, h t]
theorem G_shift {q : Nat} (h : ∀ k, f (p + k) = f (q + k)) : ∀ t : Nat, G f p t = G f q t
  | 0 => rfl
  | t + 1 => by show G f p t * absR (f (p + t)) + 1 = G f q t * absR (f (q + t)) + 1; rw [G_shift h t, h t]
/-- the first n terms of the sum over the ticks, each over what comes behind it -/
def LS (push : Rat) (f : Nat → Rat) (p t : Nat) : Nat → Rat
  | 0 => 0
  | n + 1 => LS push f p t n + push * absR (P f (p + n + 1) (t - n - 1))
theorem LS_eq {push : Rat} {t : Nat} : ∀ n : Nat, n ≤ t → LS push f p t n = push * (absR (P f (p + n) (t - n)) * G f p n)
  | 0, _ => by
    show (0 : Rat) = push * (absR (P f p t) * 0)
    grind
  | n + 1, h => by
    show LS push f p t n + push * absR (P f (p + n + 1) (t - n - 1)) = push * (absR (P f (p + (n + 1)) (t - (n + 1))) * (G f p n * absR (f (p + n)) + 1))
    rw [LS_eq n (by omega)]
    have e : t - n = (t - (n + 1)) + 1 := by omega
    have e2 : t - n - 1 = t - (n + 1) := by omega
    rw [e2, e, P_front, abs_mul, Nat.add_assoc p n 1]
    grind
theorem LS_all {push : Rat} (t : Nat) : LS push f p t t = push * G f p t := by
  rw [LS_eq t (Nat.le_refl t), Nat.sub_self]
  show push * (absR 1 * _) = _
  rw [abs_one]; grind
/-- positions under the pushes u -/
def pos (f : Nat → Rat) (p : Nat) (x : Rat) (u : Nat → Rat) : Nat → Rat
  | 0 => x
  | k + 1 => f (p + k) * pos f p x u k + u k
theorem pos_le {x push half : Rat} {u : Nat → Rat} : ∀ t : Nat, absR x ≤ half → (∀ k, k < t → absR (u k) ≤ push) → absR (pos f p x u t) ≤ absR (P f p t) * half + push * G f p t
  | 0, hx, _ => by
    show absR x ≤ absR 1 * half + push * 0
    rw [abs_one]; grind
  | t + 1, hx, hu => by
    have ih := pos_le t hx fun k hk => hu k (by omega)
    have h1 := abs_add (f (p + t) * pos f p x u t) (u t)
    have h2 := hu t (by omega)
    rw [abs_mul] at h1
    have h3 := Rat.mul_le_mul_of_nonneg_left ih (abs_nn (f (p + t)))
    show absR (f (p + t) * pos f p x u t + u t) ≤ absR (P f p t * f (p + t)) * half + push * (G f p t * absR (f (p + t)) + 1)
    rw [abs_mul]
    grind
/-- the push that makes most of what comes behind -/
def bestU (push : Rat) (f : Nat → Rat) (p t k : Nat) : Rat := if 0 < P f (p + k + 1) (t - k - 1) then push else -push
def bestX (half : Rat) (f : Nat → Rat) (p t : Nat) : Rat := if 0 < P f p t then half else -half
theorem best_mul {c h : Rat} : (if 0 < c then h else -h) * c = absR c * h := by
  unfold absR
  by_cases q : c < 0
  · rw [if_pos q, if_neg (by grind)]; grind
  · rw [if_neg q]
    by_cases z : 0 < c
    · rw [if_pos z]; grind
    · have : c = 0 := by grind
      rw [this]; grind
theorem pos_best {push half : Rat} {t : Nat} : ∀ n : Nat, n ≤ t → pos f p (bestX half f p t) (bestU push f p t) n * P f (p + n) (t - n) = absR (P f p t) * half + absR (P f (p + n) (t - n)) * G f p n * push
  | 0, _ => by
    show bestX half f p t * P f p t = absR (P f p t) * half + absR (P f p t) * 0 * push
    unfold bestX
    rw [best_mul]; grind
  | n + 1, h => by
    have ih := pos_best (push := push) (half := half) n (by omega : n ≤ t)
    have e : t - n = (t - (n + 1)) + 1 := by omega
    rw [e, P_front, abs_mul] at ih
    have b : bestU push f p t n * P f (p + n + 1) (t - (n + 1)) = absR (P f (p + n + 1) (t - (n + 1))) * push := by
      unfold bestU
      rw [show t - n - 1 = t - (n + 1) from by omega]
      exact best_mul
    show (f (p + n) * pos f p (bestX half f p t) (bestU push f p t) n + bestU push f p t n) * P f (p + n + 1) (t - (n + 1)) = absR (P f p t) * half + absR (P f (p + n + 1) (t - (n + 1))) * (G f p n * absR (f (p + n)) + 1) * push
    generalize P f (p + n + 1) (t - (n + 1)) = c at *
    generalize pos f p (bestX half f p t) (bestU push f p t) n = x at *
    generalize bestU push f p t n = u at *
    generalize absR (P f p t) * half = y at *
    grind
theorem pos_end {push half : Rat} (t : Nat) : pos f p (bestX half f p t) (bestU push f p t) t = absR (P f p t) * half + push * G f p t := by
  have h := pos_best (f := f) (p := p) (push := push) (half := half) t (Nat.le_refl t)
  rw [Nat.sub_self] at h
  have e : P f (p + t) 0 = 1 := rfl
  rw [e, abs_one] at h
  grind
end
/-! ### unreduced sums -/
def topC (f : Nat → Rat) (p : Nat) : Nat → Int
  | 0 => 1
  | t + 1 => topC f p t * (f (p + t)).num
def botC (f : Nat → Rat) (p : Nat) : Nat → Int
  | 0 => 1
  | t + 1 => botC f p t * ((f (p + t)).den : Int)
def topG (f : Nat → Rat) (p : Nat) : Nat → Int
  | 0 => 0
  | t + 1 => topG f p t * ((f (p + t)).num.natAbs : Int) + botC f p t * ((f (p + t)).den : Int)
theorem bot_pos (f : Nat → Rat) (p : Nat) : ∀ t, 0 < botC f p t
  | 0 => Int.one_pos
  | t + 1 => Int.mul_pos (bot_pos f p t) (by have := (f (p + t)).den_pos; omega)
theorem num_eq (x : Rat) : (x.num : Rat) = x * ((x.den : Int) : Rat) := by
  rw [Rat.intCast_natCast]
  have := Rat.div_mul_cancel (a := (x.num : Rat)) (b := (x.den : Rat)) (by simpa using x.den_nz)
  rw [show (x.num : Rat) / (x.den : Rat) = x from by rw [← Rat.mkRat_eq_div, Rat.mkRat_self]] at this
  exact this.symm
theorem absR_eq (x : Rat) : absR x = if x.num < 0 then -x else x := by
  unfold absR
  have : x < 0 ↔ x.num < 0 := by
    rw [← Rat.not_le, ← Rat.num_nonneg, Int.not_le]
  by_cases h : x.num < 0
  · rw [if_pos h, if_pos (this.mpr h)]
  · rw [if_neg h, if_neg (fun z => h (this.mp z))]
theorem natAbs_eq (x : Rat) : ((x.num.natAbs : Int) : Rat) = absR x * ((x.den : Int) : Rat) := by
  rw [absR_eq]
  by_cases h : x.num < 0
  · rw [if_pos h, show (x.num.natAbs : Int) = -x.num from by omega, Rat.intCast_neg, num_eq x]; grind
  · rw [if_neg h, show (x.num.natAbs : Int) = x.num from by omega, num_eq x]
theorem topC_eq (f : Nat → Rat) (p : Nat) : ∀ t, (topC f p t : Rat) = P f p t * (botC f p t : Rat)
  | 0 => by simp [topC, botC, P]
  | t + 1 => by
    show ((topC f p t * (f (p + t)).num : Int) : Rat) = P f p t * f (p + t) * ((botC f p t * ((f (p + t)).den : Int) : Int) : Rat)
    rw [Rat.intCast_mul, Rat.intCast_mul, topC_eq f p t, num_eq (f (p + t))]
    grind
theorem topG_eq (f : Nat → Rat) (p : Nat) : ∀ t, (topG f p t : Rat) = G f p t * (botC f p t : Rat)
  | 0 => by simp [topG, botC, G]
  | t + 1 => by
    show ((topG f p t * ((f (p + t)).num.natAbs : Int) + botC f p t * ((f (p + t)).den : Int) : Int) : Rat) = (G f p t * absR (f (p + t)) + 1) * ((botC f p t * ((f (p + t)).den : Int) : Int) : Rat)
    rw [Rat.intCast_add, Rat.intCast_mul, Rat.intCast_mul, topG_eq f p t, natAbs_eq (f (p + t))]
    grind
/-- every factor is at most M above and below -/
def Upto (f : Nat → Rat) (M : Nat) : Prop := ∀ k, (f k).num.natAbs ≤ M ∧ (f k).den ≤ M
theorem upto_one {f : Nat → Rat} {M : Nat} (h : Upto f M) : 1 ≤ M := Nat.le_trans (f 0).den_pos (h 0).2
theorem bot_le {f : Nat → Rat} {M p : Nat} (h : Upto f M) : ∀ t, (botC f p t).natAbs ≤ M ^ t
  | 0 => Nat.le_refl 1
  | t + 1 => by
    show (botC f p t * ((f (p + t)).den : Int)).natAbs ≤ _
    rw [Int.natAbs_mul, Nat.pow_succ]
    exact Nat.mul_le_mul (bot_le h t) (h (p + t)).2
theorem top_le {f : Nat → Rat} {M p : Nat} (h : Upto f M) : ∀ t, (topC f p t).natAbs ≤ M ^ t
  | 0 => Nat.le_refl 1
  | t + 1 => by
    show (topC f p t * (f (p + t)).num).natAbs ≤ _
    rw [Int.natAbs_mul, Nat.pow_succ]
    exact Nat.mul_le_mul (top_le h t) (h (p + t)).1
theorem topG_le {f : Nat → Rat} {M p : Nat} (h : Upto f M) : ∀ t, (topG f p t).natAbs ≤ t * M ^ t
  | 0 => Nat.le_refl 0
  | t + 1 => by
    have a : (topG f p t * ((f (p + t)).num.natAbs : Int)).natAbs ≤ (t * M ^ t) * M := by
      rw [Int.natAbs_mul]
      exact Nat.mul_le_mul (topG_le h t) (h (p + t)).1
    have b : (botC f p t * ((f (p + t)).den : Int)).natAbs ≤ M ^ t * M := by
      rw [Int.natAbs_mul]
      exact Nat.mul_le_mul (bot_le h t) (h (p + t)).2
    have c := Int.natAbs_add_le (topG f p t * ((f (p + t)).num.natAbs : Int)) (botC f p t * ((f (p + t)).den : Int))
    show (topG f p t * ((f (p + t)).num.natAbs : Int) + botC f p t * ((f (p + t)).den : Int)).natAbs ≤ _
    rw [Nat.pow_succ]
    have e : (t + 1) * (M ^ t * M) = t * M ^ t * M + M ^ t * M := by rw [Nat.add_mul, Nat.one_mul, Nat.mul_assoc]
    omega
theorem pow_mono {M s t : Nat} (h : 1 ≤ M) (l : s ≤ t) : (s + 1) * M ^ s ≤ (t + 1) * M ^ t := Nat.mul_le_mul (by omega) (Nat.pow_le_pow_right h l)
theorem pow_mono1 {M s t : Nat} (h : 1 ≤ M) (l : s ≤ t) : M ^ s ≤ (t + 1) * M ^ t := by
  have := pow_mono h l
  have e : (s + 1) * M ^ s = s * M ^ s + M ^ s := by rw [Nat.add_mul, Nat.one_mul]
  omega
end K03
namespace Dat
open PySem L2 Evl
def isSeqIn (t : PyData) (lo hi : Int) : Bool := isSeqD t && (decide (lo ≤ ((items t).length : Int)) && decide (((items t).length : Int) ≤ hi))
def fSeqIn (ds : List PyData) (d : PyData) : Prop := ∃ t lo hi, ds = [t, .int lo, .int hi] ∧ d = .bool (isSeqIn t lo hi)
section
variable {K : PySem.W.Frag} {te tx : TE} {σ : L2.St} {H : Hp} {ds : List PyData} {j : Nat} {vs : List Nat}
theorem dp_bools {bs : List Bool} : ∀ {xs : List V} {H : Hp}, DpAll K H xs (bs.map PyData.bool) → xs = bs.map V.bl := by
  induction bs with
  | nil => intro xs H h; cases h; rfl
  | cons b bs ih =>
    intro xs H h
    obtain ⟨v, ws, rfl, hv, ht⟩ := dps_cons h
    cases hv
    rw [ih ht]
    rfl
/-- all([..]) of booleans -/
theorem d_allN {bs : List Bool} (h : EvN K te σ H (bs.map PyData.bool)) : EvD K (tCB (rAll K) (tCons te tNil)) σ H (.bool (bs.all id)) := fun H1 e Q k =>
  h H1 e _ fun p xs H2 hp x hx ha => ⟨p, bs, rfl, by rw [← dp_bools ha]; exact SqL.of hx, k _ H2 (x.trans rem_ex) (.bl _)⟩
theorem d_anyN {bs : List Bool} (h : EvN K te σ H (bs.map PyData.bool)) : EvD K (tCB (rAny K) (tCons te tNil)) σ H (.bool (bs.any id)) := fun H1 e Q k =>
  h H1 e _ fun p xs H2 hp x hx ha => ⟨p, bs, rfl, by rw [← dp_bools ha]; exact SqL.of hx, k _ H2 (x.trans rem_ex) (.bl _)⟩
theorem n_is {es : List PyData} (h : EvN K te σ H ds) (q : ds = es) : EvN K te σ H es := q ▸ h
end
end Dat
namespace K03
open PySem L2 Evl Dat
abbrev rowD (b : Bool) (r : List Rat) : PyData := sq b (r.map ratR)
abbrev facD (b c : Bool) (F : List (List Rat)) : PyData := sq b (F.map (rowD c))
/-- factors as a plant has them -/
structure GoodF (F : List (List Rat)) : Prop where
  lo : 1 ≤ F.length
  hi : F.length ≤ 3
  row : ∃ n, 1 ≤ n ∧ n ≤ 4 ∧ ∀ r ∈ F, r.length = n
  fac : ∀ r ∈ F, ∀ x ∈ r, x ≠ 0 ∧ Sz 60 x
def fPhase (ds : List PyData) (d : PyData) : Prop := ∃ p, ds = [p] ∧ wholeIn p (.int 0) .none = true ∧ d = .none
def gPhase (C : Addr) (ds : List PyData) (e : Raised) : Prop := ∃ p, ds = [p] ∧ wholeIn p (.int 0) .none = false ∧ e = (C, [(("phase" : Str), p)])
def fTicks (ds : List PyData) (d : PyData) : Prop := ∃ p, ds = [p] ∧ wholeIn p (.int 0) (.int 1000) = true ∧ d = .none
def gTicks (C : Addr) (ds : List PyData) (e : Raised) : Prop := ∃ p, ds = [p] ∧ wholeIn p (.int 0) (.int 1000) = false ∧ e = (C, [(("ticks" : Str), p)])
def gTurn (C : Addr) (ds : List PyData) (e : Raised) : Prop := ∃ r p, ds = [r, p] ∧ wholeIn p (.int 0) .none = false ∧ e = (C, [(("phase" : Str), p)])
def fRep (ds : List PyData) (d : PyData) : Prop := ∃ (r : List Rat) (n : Nat), ds = [rowD true r, .int n] ∧ 1 ≤ n ∧ n * r.length ≤ 4 ∧ 1 ≤ r.length ∧ d = rowD true (List.replicate n r).flatten
def gRep (C : Addr) (ds : List PyData) (e : Raised) : Prop := ∃ (r : List Rat) (p : PyData), ds = [rowD true r, p] ∧ 1 ≤ r.length ∧ r.length ≤ 4 ∧ (wholeIn p (.int 1) .none = false ∨ ∃ n : Int, p = .int n ∧ n.natAbs < 2 ^ 100 ∧ 4 < n * r.length) ∧ e = (C, [(("repeats" : Str), p)])
def fCheckF (ds : List PyData) (d : PyData) : Prop := ∃ b c F, ds = [facD b c F] ∧ GoodF F ∧ d = .none
def fCheckL (ds : List PyData) (d : PyData) : Prop := ∃ (b : Bool) (L : List Rat) (w1 w2 : PyData) (least : Int), ds = [rowD b L, .int (L.length : Int), w1, w2, .int least] ∧ (∀ x ∈ L, least ≤ x.num) ∧ L.length ≤ 3 ∧ d = .none
section
variable {P : Program} {w : World} {K : PySem.W.Frag} {mg : Str → Option Value} {base : Heap}

abbrev s_is_sequence : Stmt := topS 20
abbrev N_is_sequence : List Str := ["thing", "least", "most"]
theorem sc_is_sequence : FnScope N_is_sequence ["thing", "least", "most"] (defScope s_is_sequence) := ⟨rfl, rfl, rfl, by decide +kernel, rfl, by decide +kernel, by decide +kernel⟩

theorem ok_is_sequence {f : Addr} {fd : FuncData} (F : FunV K "is_sequence" s_is_sequence [.int 0, .non] f fd) (T : Bl mg) : FnOk P w K mg base CX0 1 f fd ["thing", "least", "most"] (spD K 3 fSeqIn) := by
  refine F.ok sc_is_sequence (fun vs H Q E h => ?_) (fun cdv A outer s H vs Q E hr h => ?_)
  · obtain ⟨ds, d, hl, hd, _⟩ := h
    exact (dps_len hd).trans hl
  · refine ⟨_, (pss_cons (ps_if (pt_not (pt_val (pe_callB call_isiT (by rfl) T.b_isinstance (by decide +kernel) (pa_cons (pv 0) (pa_cons (pe_tup (pa_cons (pe_bltn (v := .ty "list") (by rfl) T.b_list (by decide +kernel) rfl) (pa_cons (pe_bltn (v := .ty "tuple") (by rfl) T.b_tuple (by decide +kernel) rfl) pa_nil))) pa_nil))))) (pss_one (ps_ret pe_bl)) pss_nil)
    (pss_one (ps_ret (pe_and (pe_cmpR op_le (pv 1) (pe_callB call_len_seq (by rfl) T.b_len (by decide +kernel) (pa_cons (pv 0) pa_nil)) (nomark _)) (pe_one (pe_or (pe_cmpR op_isN (pv 2) pe_non (nomark _)) (pe_one (pe_cmpR op_le (pe_callB call_len_seq (by rfl) T.b_len (by decide +kernel) (pa_cons (pv 0) pa_nil)) (pv 2) (nomark _))))))))), ?_⟩
    obtain ⟨ds, d, hl, hd, ⟨t, lo, hi, rfl, rfl⟩, k⟩ := h
    obtain ⟨v_t, vs, rfl, h_t, hd⟩ := dps_cons hd
    obtain ⟨v_l, vs, rfl, h_l, hd⟩ := dps_cons hd
    obtain ⟨v_h, vs, rfl, h_h, hd⟩ := dps_cons hd
    obtain rfl := dps_nil hd
    have kk : ∀ v H1, Ex H H1 → Dp K H1 v (.bool (isSeqIn t lo hi)) → Q v H1 := fun v H1 e h => k v H1 e h
    refine z_if (σ := [some v_t, some v_l, some v_h]) (b_not (b_val (d_isiT (d_var ⟨_, rfl, h_t⟩) (kit_list _) (kit_tuple _)))) (fun c H1 e => ?_) (fun c H1 e => ?_)
    · refine z_ret (K := K) (σ := [some v_t, some v_l, some v_h]) d_bl fun v H2 e2 h => kk v H2 (e.trans e2) ?_
      have z : isSeqD t = false := by simpa [isSeqD] using c
      unfold isSeqIn
      rw [z]
      exact h
    · have z : isSeqD t = true := by
        have c : (!isSeqD t) = false := c
        generalize isSeqD t = u at c
        cases u
        · cases c
        · rfl
      obtain ⟨b, hb⟩ := seq_of z
      rw [hb] at h_t
      refine z_nx ?_
      refine z_ret (K := K) (σ := [some v_t, some v_l, some v_h]) (d_and (d_le (d_var ⟨_, rfl, dp_grow e _ _ h_l⟩) (d_lenS (d_var ⟨_, rfl, dp_grow e _ _ h_t⟩))) (fun _ => d_or (d_isN (d_var ⟨_, rfl, dp_grow e _ _ h_h⟩)) (fun _ => d_le (d_lenS (d_var ⟨_, rfl, dp_grow e _ _ h_t⟩)) (d_var ⟨_, rfl, dp_grow e _ _ h_h⟩)))) fun v H2 e2 h => kk v H2 (e.trans e2) ?_
      unfold isSeqIn
      rw [z]
      exact h
abbrev DSeq (P : Program) (w : World) (K : PySem.W.Frag) (mg : Str → Option Value) (base : Heap) : Prop := DefV P w K mg base CX0 1 "is_sequence" ["thing", "least", "most"] [] (spD K 3 fSeqIn)
theorem d_seq {f : Addr} {fd : FuncData} (F : FunV K "is_sequence" s_is_sequence [.int 0, .non] f fd) (T : Bl mg) (hm : mg "is_sequence" = some (.ref f)) : DSeq P w K mg base :=
  defV F (ok_is_sequence F T) hm 3 2 (by decide) rfl fun _ _ _ _ _ _ _ us its hl hi => match us, its, hl, hi with | [_, _, _], [_, _], _, _ => ⟨_, rfl, rfl⟩

abbrev s_check_phase : Stmt := topS 26
abbrev N_check_phase : List Str := ["phase"]
theorem sc_check_phase : FnScope N_check_phase ["phase"] (defScope s_check_phase) := ⟨rfl, rfl, rfl, by decide +kernel, rfl, by decide +kernel, by decide +kernel⟩

theorem ok_check_phase {f C : Addr} {fd : FuncData} (F : Fun K "check_phase" "check_phase" s_check_phase f fd) (TPh : Cl1 P w K mg base "BadPhase" C "phase") (D_w2 : DW P w K mg base [.non]) : FnOk P w K mg base (L2.CX P w) 3 f fd ["phase"] (spX K 1 fPhase (gPhase C)) := by
  refine F.okX sc_check_phase (fun vs H Q E h => ?_) (fun cdv A outer s H vs Q E hr h => ?_)
  · obtain ⟨ds, hl, hd, _⟩ := h
    exact (dps_len hd).trans hl
  · refine ⟨_, (pss_one (ps_if (pt_not (pt_val (pe_dcallV D_w2 (hr.mono (by decide)) pass0 (pa_cons (pv 0) (pa_cons pe_int pa_nil))))) (pss_one (ps_raise rfl (takes_of rfl rfl rfl rfl) (pmk_c1 TPh (hr.mono (by decide)) (pa_cons (pv 0) pa_nil)))) pss_nil)), ?_⟩
    obtain ⟨ds, hl, hd, h⟩ := h
    obtain ⟨p, rfl⟩ : ∃ p, ds = [p] := by
      match ds, hl with
      | [p], _ => exact ⟨p, rfl⟩
    obtain ⟨v_p, vs, rfl, h_p, hd⟩ := dps_cons hd
    obtain rfl := dps_nil hd
    refine z_if1 (σ := [some v_p]) (b_not (b_val (d_callV (ds_cons (d_var ⟨_, rfl, h_p⟩) (ds_cons d_int ds_nil)) (fun _ => .cons .non .nil) rfl ⟨_, _, _, rfl, .inr ⟨_, rfl⟩, .inl rfl, rfl⟩))) (fun c H1 e => ?_) (fun c H1 e => ?_)
    · rcases h with ⟨d, ⟨p', ep, hw, rfl⟩, k⟩ | ⟨x, ⟨p', ep, hw, rfl⟩, k⟩
      · cases ep
        rw [hw] at c
        cases c
      · cases ep
        exact x_raiseD (E := E) (d_var ⟨_, rfl, dp_grow e _ _ h_p⟩) (rai_grow e k)
    · rcases h with ⟨d, ⟨p', ep, hw, rfl⟩, k⟩ | ⟨x, ⟨p', ep, hw, rfl⟩, k⟩
      · exact k _ _ e .non
      · cases ep
        rw [hw] at c
        cases c

abbrev s_check_ticks : Stmt := topS 27
abbrev N_check_ticks : List Str := ["ticks"]
theorem sc_check_ticks : FnScope N_check_ticks ["ticks"] (defScope s_check_ticks) := ⟨rfl, rfl, rfl, by decide +kernel, rfl, by decide +kernel, by decide +kernel⟩

theorem ok_check_ticks {f C : Addr} {fd : FuncData} {tT : Tok} (gT : mg "MOST_TICKS" = some (.int 1000 tT)) (F : Fun K "check_ticks" "check_ticks" s_check_ticks f fd) (TTi : Cl1 P w K mg base "BadTicks" C "ticks") (D_w3 : DW P w K mg base []) : FnOk P w K mg base (L2.CX P w) 3 f fd ["ticks"] (spX K 1 fTicks (gTicks C)) := by
  refine F.okX sc_check_ticks (fun vs H Q E h => ?_) (fun cdv A outer s H vs Q E hr h => ?_)
  · obtain ⟨ds, hl, hd, _⟩ := h
    exact (dps_len hd).trans hl
  · refine ⟨_, (pss_one (ps_if (pt_not (pt_val (pe_dcallV D_w3 (hr.mono (by decide)) pass0 (pa_cons (pv 0) (pa_cons pe_int (pa_cons (pe_glob (v := .int 1000) rfl gT ⟨_, rfl⟩) pa_nil)))))) (pss_one (ps_raise rfl (takes_of rfl rfl rfl rfl) (pmk_c1 TTi (hr.mono (by decide)) (pa_cons (pv 0) pa_nil)))) pss_nil)), ?_⟩
    obtain ⟨ds, hl, hd, h⟩ := h
    obtain ⟨p, rfl⟩ : ∃ p, ds = [p] := by
      match ds, hl with
      | [p], _ => exact ⟨p, rfl⟩
    obtain ⟨v_p, vs, rfl, h_p, hd⟩ := dps_cons hd
    obtain rfl := dps_nil hd
    refine z_if1 (σ := [some v_p]) (b_not (b_val (d_callV (ds_cons (d_var ⟨_, rfl, h_p⟩) (ds_cons d_int (ds_cons d_int ds_nil))) (fun _ => .nil) rfl ⟨_, _, _, rfl, .inr ⟨_, rfl⟩, .inr ⟨_, rfl⟩, rfl⟩))) (fun c H1 e => ?_) (fun c H1 e => ?_)
    · rcases h with ⟨d, ⟨p', ep, hw, rfl⟩, k⟩ | ⟨x, ⟨p', ep, hw, rfl⟩, k⟩
      · cases ep
        rw [hw] at c
        cases c
      · cases ep
        exact x_raiseD (E := E) (d_var ⟨_, rfl, dp_grow e _ _ h_p⟩) (rai_grow e k)
    · rcases h with ⟨d, ⟨p', ep, hw, rfl⟩, k⟩ | ⟨x, ⟨p', ep, hw, rfl⟩, k⟩
      · exact k _ _ e .non
      · cases ep
        rw [hw] at c
        cases c
end
end K03
namespace Dat
open PySem L2 Evl
theorem at_map {α : Type} (f : α → PyData) {l : List α} {i : Nat} (z : α) (h : i < l.length) : atI (l.map f) (i : Int) = some (f (l.getD i z)) := by
  rw [atI_nat (x := f z) (by rw [List.length_map]; exact h), List.getD_eq_getElem?_getD, List.getD_eq_getElem?_getD, List.getElem?_map]
  cases l[i]? <;> rfl
end Dat
namespace K03
open PySem L2 Evl Dat
section
variable {P : Program} {w : World} {K : PySem.W.Frag} {mg : Str → Option Value} {base : Heap}

abbrev s_turned_row : Stmt := topS 28
abbrev N_turned_row : List Str := ["row", "phases", "first"]
theorem sc_turned_row : FnScope N_turned_row ["row", "phases"] (defScope s_turned_row) := ⟨rfl, rfl, rfl, by decide +kernel, rfl, by decide +kernel, by decide +kernel⟩

theorem ok_turned_row {f C : Addr} {fd : FuncData} (F : Fun K "turned_row" "turned_row" s_turned_row f fd) (D_check_phase : DefV P w K mg base (L2.CX P w) 3 "check_phase" ["phase"] [] (spX K 1 fPhase (gPhase C))) : FnOk P w K mg base (L2.CX P w) 4 f fd ["row", "phases"] (spX K 2 (fun _ _ => False) (gTurn C)) := by
  refine F.okX sc_turned_row (fun vs H Q E h => ?_) (fun cdv A outer s H vs Q E hr h => ?_)
  · obtain ⟨ds, hl, hd, _⟩ := h
    exact (dps_len hd).trans hl
  · refine ⟨_, (pss_cons (ps_expr (pe_dcallS D_check_phase (hr.mono (by decide)) (fun σ => passAt (takes_of rfl rfl rfl rfl) σ) (pa_cons (pv 1) pa_nil)))
    (pss_cons ps_none
    (pss_one ps_none))), ?_⟩
    obtain ⟨ds, hl, hd, ⟨d, z, _⟩ | ⟨e, ⟨r, p, rfl, hw, rfl⟩, k⟩⟩ := h
    · exact z.elim
    · obtain ⟨v_r, vs, rfl, h_r, hd⟩ := dps_cons hd
      obtain ⟨v_p, vs, rfl, h_p, hd⟩ := dps_cons hd
      obtain rfl := dps_nil hd
      exact xz_drop (σ := [some v_r, some v_p, none]) (r_callX (ds_cons (d_var ⟨_, rfl, h_p⟩) ds_nil) rfl ⟨p, rfl, hw, rfl⟩ k)

abbrev s_repeated_row : Stmt := topS 29
abbrev N_repeated_row : List Str := ["row", "repeats"]
theorem sc_repeated_row : FnScope N_repeated_row ["row", "repeats"] (defScope s_repeated_row) := ⟨rfl, rfl, rfl, by decide +kernel, rfl, by decide +kernel, by decide +kernel⟩

theorem ok_repeated_row {f C : Addr} {fd : FuncData} {tP : Tok} (F : Fun K "repeated_row" "repeated_row" s_repeated_row f fd) (T : Bl mg) (gP : mg "MOST_PHASES" = some (.int 4 tP)) (TTs : Cl1 P w K mg base "BadTimes" C "repeats") (D_w2 : DW P w K mg base [.non]) :
    FnOk P w K mg base (L2.CX P w) 3 f fd ["row", "repeats"] (spX K 2 fRep (gRep C)) := by
  refine F.okX sc_repeated_row (fun vs H Q E h => ?_) (fun cdv A outer s H vs Q E hr h => ?_)
  · obtain ⟨ds, hl, hd, _⟩ := h
    exact (dps_len hd).trans hl
  · refine ⟨_, (pss_cons (ps_if (PW.pt (pw_or (pt_not (pt_val (pe_dcallV D_w2 (hr.mono (by decide)) pass0 (pa_cons (pv 1) (pa_cons pe_int pa_nil))))) (pw_or1 (pt_cmpR op_gt (pe_op op_mulW (pv 1) (pe_callB call_len_seq (by rfl) T.b_len (by decide +kernel) (pa_cons (pv 0) pa_nil))) (pe_glob (v := .int 4) rfl gP ⟨_, rfl⟩) (nomark _))))) (pss_one (ps_raise rfl (takes_of rfl rfl rfl rfl) (pmk_c1 TTs (hr.mono (by decide)) (pa_cons (pv 1) pa_nil)))) pss_nil)
    (pss_one (ps_ret (pe_op op_repU (pe_callTy (r := rTupOf K) call_tupOf (by rfl) T.b_tuple (by decide +kernel) (pa_cons (pv 0) pa_nil)) (pv 1))))), ?_⟩
    obtain ⟨ds, hl, hd, ⟨d, ⟨r, n, rfl, h1, h4, hr1, rfl⟩, k⟩ | ⟨e, ⟨r, p, rfl, hr1, hr4, hp, rfl⟩, k⟩⟩ := h
    · obtain ⟨v_r, vs, rfl, h_r, hd⟩ := dps_cons hd
      obtain ⟨v_p, vs, rfl, h_p, hd⟩ := dps_cons hd
      obtain rfl := dps_nil hd
      have n4 : n ≤ 4 := Nat.le_trans (Nat.le_mul_of_pos_right n hr1) h4
      have m4 : ((n : Int) * ((r.map ratR).length : Int)) ≤ 4 := by
        rw [List.length_map]
        exact_mod_cast h4
      refine z_if (σ := [some v_r, some v_p]) (b_or (b_not (b_val (d_callV (ds_cons (d_var ⟨_, rfl, h_p⟩) (ds_cons d_int ds_nil)) (fun _ => .cons .non .nil) rfl ⟨_, _, _, rfl, .inr ⟨_, rfl⟩, .inl rfl, rfl⟩))) (fun _ => b_test (d_gt (d_mul (d_var ⟨_, rfl, h_p⟩) (d_lenT (d_var ⟨_, rfl, h_r⟩)) (wide_mul (a := 10) (b := 10) (by omega) (by rw [List.length_map]; have := Nat.le_trans (Nat.le_mul_of_pos_left r.length h1) h4; omega) (by decide) (by decide) (by decide))) (d_c (d := .int 4) fun _ => .int 4)))) (fun c H1 e => ?_) (fun c H1 e => ?_)
      · exfalso
        have w1 : wholeIn (.int (n : Int)) (.int 1) .none = true := by
          show (true && (decide ((1 : Int) ≤ (n : Int)) && true)) = true
          simp; omega
        rw [w1] at c
        have c : decide ((4 : Int) < (n : Int) * ((r.map ratR).length : Int)) = true := c
        have := of_decide_eq_true c
        omega
      · refine z_nx ?_
        refine z_ret (K := K) (σ := [some v_r, some v_p]) (d_repU (d_tupS (b := true) (d_var ⟨_, rfl, dp_grow e _ _ h_r⟩)) (d_var ⟨_, rfl, dp_grow e _ _ h_p⟩) h1 (by omega) (by rw [List.length_map]; have := Nat.le_trans (Nat.le_mul_of_pos_left r.length h1) h4; omega) (fun z => by
          have := congrArg List.length z
          rw [List.length_map] at this
          simp at this
          rw [this] at hr1
          simp at hr1)) fun v H2 e2 h => k v H2 (e.trans e2) ?_
        rw [← rep_map] at h
        exact h
    · obtain ⟨v_r, vs, rfl, h_r, hd⟩ := dps_cons hd
      obtain ⟨v_p, vs, rfl, h_p, hd⟩ := dps_cons hd
      obtain rfl := dps_nil hd
      refine z_if (b := true) (σ := [some v_r, some v_p]) ?_ (fun c H1 e => ?_) (fun c H1 e => by cases c)
      · rcases hp with hw | ⟨n, rfl, hs, h4⟩
        · exact b_is (b_or (b := true) (b_not (b_val (d_callV (ds_cons (d_var ⟨_, rfl, h_p⟩) (ds_cons d_int ds_nil)) (fun _ => .cons .non .nil) rfl ⟨_, _, _, rfl, .inr ⟨_, rfl⟩, .inl rfl, rfl⟩))) (fun c => by rw [hw] at c; cases c)) (by rw [hw]; rfl)
        · refine b_is (b_or (b_not (b_val (d_callV (ds_cons (d_var ⟨_, rfl, h_p⟩) (ds_cons d_int ds_nil)) (fun _ => .cons .non .nil) rfl ⟨_, _, _, rfl, .inr ⟨_, rfl⟩, .inl rfl, rfl⟩))) (fun _ => b_test (d_gt (d_mul (d_var ⟨_, rfl, h_p⟩) (d_lenT (d_var ⟨_, rfl, h_r⟩)) (wide_mul (a := 100) (b := 10) hs (by rw [List.length_map]; omega) (by decide) (by decide) (by decide))) (d_c (d := .int 4) fun _ => .int 4)))) ?_
          rw [List.length_map, decide_eq_true h4, Bool.or_true]
      · exact x_raiseD (E := E) (d_var ⟨_, rfl, dp_grow e _ _ h_p⟩) (rai_grow e k)

abbrev s_check_factors : Stmt := topS 30
abbrev N_check_factors : List Str := ["factors", "mode", "row", "factor"]
theorem sc_check_factors : FnScope N_check_factors ["factors"] (defScope s_check_factors) := ⟨rfl, rfl, rfl, by decide +kernel, rfl, by decide +kernel, by decide +kernel⟩

theorem ratD_ok (x : Rat) : ratD (ratR x) = true := by
  have h0 := x.den_pos
  have h1 := x.reduced
  show (wholeIn (.int x.num) .none .none && (wholeIn (.int (x.den : Int)) (.int 1) .none && gcd1 (.int x.num) (.int (x.den : Int)))) = true
  have a : wholeIn (.int (x.den : Int)) (.int 1) .none = true := by
    show (true && (decide ((1 : Int) ≤ (x.den : Int)) && true)) = true
    simp; omega
  rw [a]
  show (true && (true && decide (((Nat.gcd x.num.natAbs (x.den : Int).natAbs : Nat) : Int) = 1))) = true
  have b : Nat.gcd x.num.natAbs (x.den : Int).natAbs = 1 := by
    rw [Int.natAbs_natCast]; exact h1
  rw [b]; rfl
theorem ne_zero_ratR {x : Rat} (h : x ≠ 0) : PyData.eqv (ratR x) (.tuple [.int 0, .int 1]) = false := by
  show ((x.num == 0) && (((x.den : Int) == 1) && true)) = false
  have : x.num ≠ 0 := fun z => h (Rat.num_eq_zero.mp z)
  simp [this]
theorem ok_check_factors {f aZ : Addr} {fd : FuncData} {tM tP : Tok} (F : Fun K "_check_factors" "_check_factors" s_check_factors f fd) (T : Bl mg) (gM : mg "MOST_MODES" = some (.int 3 tM)) (gP : mg "MOST_PHASES" = some (.int 4 tP)) (gZ : mg "ZERO" = some (.ref aZ)) (hZ : ∀ H, Dp K H (.ref aZ) (ratR 0))
    (D_seq : DSeq P w K mg base) (D_is_ratio : Def P w K mg base CX0 2 "is_ratio" ["thing"] (spD K 1 fIsRatio)) : FnOk P w K mg base CX0 3 f fd ["factors"] (spD K 1 fCheckF) := by
  refine F.ok sc_check_factors (fun vs H Q E h => ?_) (fun cdv A outer s H vs Q E hr h => ?_)
  · obtain ⟨ds, d, hl, hd, _⟩ := h
    exact (dps_len hd).trans hl
  · refine ⟨_, (pss_cons (ps_if (pt_not (pt_val (pe_dcallV D_seq (hr.mono (by decide)) pass0 (pa_cons (pv 0) (pa_cons pe_int (pa_cons (pe_glob (v := .int 3) rfl gM ⟨_, rfl⟩) pa_nil)))))) (pss_one ps_none) pss_nil)
    (pss_one (ps_for PassesOwn.never rfl (pi_alt (pi_enum (by rfl) T.b_enumerate (pa_cons (pv 0) pa_nil)) (pi_enumT (by rfl) T.b_enumerate (pa_cons (pv 0) pa_nil))) (pg_alt (pg_tup rfl (pgs_cons (pg_name (i := 1) sc_check_factors.nd rfl (Or.inl rfl)) (pgs_cons (pg_name (i := 2) sc_check_factors.nd rfl (Or.inl rfl)) pgs_nil))) (pg_lst rfl (pgs_cons (pg_name (i := 1) sc_check_factors.nd rfl (Or.inl rfl)) (pgs_cons (pg_name (i := 2) sc_check_factors.nd rfl (Or.inl rfl)) pgs_nil)))) (pss_cons (ps_if (PW.pt (pw_or (pt_not (pt_val (pe_dcallV D_seq (hr.mono (by decide)) pass0 (pa_cons (pv 2) (pa_cons pe_int (pa_cons (pe_glob (v := .int 4) rfl gP ⟨_, rfl⟩) pa_nil)))))) (pw_or1 (pt_cmpR op_ne (pe_callB call_len_seq (by rfl) T.b_len (by decide +kernel) (pa_cons (pv 2) pa_nil)) (pe_callB call_len_seq (by rfl) T.b_len (by decide +kernel) (pa_cons (pe_alt (pe_ix (r := rIxT K) ix_tup (pv 0) pe_int (fun _ _ => rfl)) (pe_ix (r := rIxL K) ix_list (pv 0) pe_int (fun _ _ => rfl))) pa_nil)) (nomark _))))) (pss_one ps_none) pss_nil)
    (pss_one (ps_if (pt_not (pt_val (pe_callB (cr_all rfl) (by rfl) T.b_all (by decide +kernel) (pa_cons (pe_lc (own := [("factor", 3)]) (g := gName 3) rfl sc_check_factors.nd (pi_alt (pi_list (pv 2)) (pi_tup (pv 2))) (blkOk_by (own := [("factor", 3)]) (N := N_check_factors) (sc := defScope s_check_factors) (by decide +kernel)) (fun _ _ _ _ _ => pg_name (i := 3) sc_check_factors.nd rfl (Or.inl rfl)) (fun _ _ _ _ _ => pts_nil) (fun _ _ _ _ _ => (pe_and (pe_dcall D_is_ratio (hr.mono (by decide)) pass0 (pa_cons (pv 3) pa_nil)) (pe_one (pe_cmpR (r := rNeD K) (op_neD (X := _) hr.units) (pv 3) (pe_glob (v := .ref aZ) rfl gZ rfl) (nomark _)))))) pa_nil)))) (pss_one ps_none) pss_nil)))))), ?_⟩
    obtain ⟨ds, d, hl, hd, ⟨b, c, G, rfl, hG, rfl⟩, k⟩ := h
    obtain ⟨v_f, vs, rfl, h_f, hd⟩ := dps_cons hd
    obtain rfl := dps_nil hd
    obtain ⟨n, n1, n4, hn⟩ := hG.row
    have seq1 : isSeqIn (facD b c G) 1 3 = true := by
      unfold isSeqIn
      rw [items_sq, List.length_map, decide_eq_true (by have := hG.lo; omega), decide_eq_true (by have := hG.hi; omega)]
      cases b <;> rfl
    refine z_if (b := false) (σ := [some v_f, none, none, none]) (b_is (b_not (b_val (d_callV (es := []) (ds_cons (d_var ⟨_, rfl, h_f⟩) (ds_cons d_int (ds_cons d_int ds_nil))) (fun _ => .nil) rfl ⟨_, _, _, rfl, rfl⟩))) (by rw [seq1]; rfl)) (fun cz H1 e => by cases cz) (fun cz H1 e => ?_)
    refine z_nx ?_
    have h_f1 := dp_grow e _ _ h_f
    refine z_enumS1 (b := b) (ds := G.map (rowD c)) (ds_cons (d_var ⟨_, rfl, h_f1⟩) ds_nil) rfl (fun i σ' H' => ∃ o1 o2, σ' = [some v_f, o1, o2, none]) (fun H2 e2 => ⟨_, _, rfl⟩) ?_ (fun σ' H' e2 p => k _ _ (e.trans e2) .non)
    rintro i d v σ' H' D' hd' e2 ⟨H0, e0, o1, o2, rfl⟩ hv hrt kk
    rw [List.getElem?_map] at hd'
    obtain ⟨r, hr', rfl⟩ := Option.map_eq_some_iff.mp hd'
    have hm := List.mem_of_getElem? hr'
    have hrl := hn r hm
    have h_f2 := dp_grow e2 _ _ h_f1
    have seq2 : isSeqIn (rowD c r) 1 4 = true := by
      unfold isSeqIn
      rw [items_sq, List.length_map, hrl, decide_eq_true (by omega), decide_eq_true (by omega)]
      cases c <;> rfl
    have at0 : atI (G.map (rowD c)) ((0 : Nat) : Int) = some (rowD c (G.getD 0 [])) := at_map _ _ hG.lo
    have l0 : (G.getD 0 []).length = n := by
      have h0 := hG.lo
      cases G with
      | nil => simp at h0
      | cons a l => exact hn a (by simp)
    refine z_if (b := false) (σ := [some v_f, some (.int (i : Int)), some v, none]) (b_is (b_or (b_not (b_val (d_callV (es := []) (ds_cons (d_var ⟨_, rfl, hv⟩) (ds_cons d_int (ds_cons d_int ds_nil))) (fun _ => .nil) rfl ⟨_, _, _, rfl, rfl⟩))) (fun _ => b_test (d_neI (d_lenS (d_var ⟨_, rfl, hv⟩)) (d_lenS (d_ixS (d_var ⟨_, rfl, h_f2⟩) d_int at0))))) (by
      rw [seq2, List.length_map, List.length_map, hrl, l0]; simp)) (fun cz H1 e => by cases cz) (fun c1 H3 e3 => ?_)
    refine z_nx ?_
    have hv3 := dp_grow e3 _ _ hv
    have elts : EvN K (tLc (iAlt (iList K (tVar 2)) (iTup K (tVar 2))) (gName 3) tYes (tAndV (tCall (spD K 1 fIsRatio) [] E0 (tCons (tVar 3) tNil)) (tOp (rNeD K) (tVar 3) (tC (.ref aZ)))) [3]) [some v_f, some (.int (i : Int)), some v, none] H3 ((List.replicate r.length true).map PyData.bool) := by
      refine n_is (n_lcS (b := c) (p := fun _ => true) (g := fun _ => .bool true) (d_var ⟨_, rfl, hv3⟩) ⟨fun x => rfl, fun i x H1 e hi hx => b_yes, fun i x H1 e hi _ hx => ?_, fun i hi => rfl, itD_mono _, by rw [List.length_map]; omega⟩) ?_
      · obtain ⟨d, hd, hx⟩ := hx
        rw [List.getElem?_map] at hd
        obtain ⟨q, hq, rfl⟩ := Option.map_eq_some_iff.mp hd
        have nz := (hG.fac r hm q (List.mem_of_getElem? hq)).1
        refine d_is (d_and (a := true) (b := true) (d_is (d_call (ds_cons (d_var ⟨_, rfl, hx⟩) ds_nil) rfl ⟨_, rfl, rfl⟩) (by rw [ratD_ok])) (fun _ => d_is (d_neD (d_var ⟨_, rfl, hx⟩) (d_c hZ) rfl rfl) ?_)) rfl
        rw [show PyData.eqv (ratR q) (ratR 0) = false from ne_zero_ratR nz]
        rfl
      · rw [pick_all, List.length_map, List.map_replicate]
        exact (List.map_const' ..).trans (by rw [List.length_range])
    refine z_if1 (b := false) (σ := [some v_f, some (.int (i : Int)), some v, none]) (b_is (b_not (b_val (d_allN elts))) (by simp)) (fun cz H1 e => by cases cz) (fun c2 H4 e4 => ?_)
    exact kk _ _ (e3.trans e4) ⟨_, _, rfl⟩

abbrev s_check_lengths : Stmt := topS 31
abbrev N_check_lengths : List Str := ["lengths", "modes", "all_word", "one_word", "least", "mode", "length"]
theorem sc_check_lengths : FnScope N_check_lengths ["lengths", "modes", "all_word", "one_word", "least"] (defScope s_check_lengths) := ⟨rfl, rfl, rfl, by decide +kernel, rfl, by decide +kernel, by decide +kernel⟩

theorem ok_check_lengths {f : Addr} {fd : FuncData} (F : Fun K "_check_lengths" "_check_lengths" s_check_lengths f fd) (T : Bl mg)
    (D_seq : DSeq P w K mg base) (D_is_ratio : Def P w K mg base CX0 2 "is_ratio" ["thing"] (spD K 1 fIsRatio)) : FnOk P w K mg base CX0 3 f fd ["lengths", "modes", "all_word", "one_word", "least"] (spD K 5 fCheckL) := by
  refine F.ok sc_check_lengths (fun vs H Q E h => ?_) (fun cdv A outer s H vs Q E hr h => ?_)
  · obtain ⟨ds, d, hl, hd, _⟩ := h
    exact (dps_len hd).trans hl
  · refine ⟨_, (pss_cons (ps_if (pt_not (pt_val (pe_dcallV D_seq (hr.mono (by decide)) pass0 (pa_cons (pv 0) (pa_cons (pv 1) (pa_cons (pv 1) pa_nil)))))) (pss_one ps_none) pss_nil)
    (pss_one (ps_for PassesOwn.never rfl (pi_alt (pi_enum (by rfl) T.b_enumerate (pa_cons (pv 0) pa_nil)) (pi_enumT (by rfl) T.b_enumerate (pa_cons (pv 0) pa_nil))) (pg_alt (pg_tup rfl (pgs_cons (pg_name (i := 5) sc_check_lengths.nd rfl (Or.inl rfl)) (pgs_cons (pg_name (i := 6) sc_check_lengths.nd rfl (Or.inl rfl)) pgs_nil))) (pg_lst rfl (pgs_cons (pg_name (i := 5) sc_check_lengths.nd rfl (Or.inl rfl)) (pgs_cons (pg_name (i := 6) sc_check_lengths.nd rfl (Or.inl rfl)) pgs_nil)))) (pss_one (ps_if (PW.pt (pw_or (pt_not (pt_val (pe_dcall D_is_ratio (hr.mono (by decide)) pass0 (pa_cons (pv 6) pa_nil)))) (pw_or1 (pt_cmpR op_lt (pe_ix (r := rIxT K) ix_tup (pv 6) pe_int (fun _ _ => rfl)) (pv 4) (nomark _))))) (pss_one ps_none) pss_nil))))), ?_⟩
    obtain ⟨ds, d, hl, hd, ⟨b, L, w1, w2, least, rfl, hL, l3, rfl⟩, k⟩ := h
    obtain ⟨v_f, vs, rfl, h_f, hd⟩ := dps_cons hd
    obtain ⟨v_n, vs, rfl, h_n, hd⟩ := dps_cons hd
    obtain ⟨v_a, vs, rfl, h_a, hd⟩ := dps_cons hd
    obtain ⟨v_o, vs, rfl, h_o, hd⟩ := dps_cons hd
    obtain ⟨v_l, vs, rfl, h_l, hd⟩ := dps_cons hd
    obtain rfl := dps_nil hd
    have seq1 : isSeqIn (rowD b L) (L.length : Int) (L.length : Int) = true := by
      unfold isSeqIn
      rw [items_sq, List.length_map, decide_eq_true (Int.le_refl _)]
      cases b <;> rfl
    refine z_if (b := false) (σ := [some v_f, some v_n, some v_a, some v_o, some v_l, none, none]) (b_is (b_not (b_val (d_callV (es := []) (ds_cons (d_var ⟨_, rfl, h_f⟩) (ds_cons (d_var ⟨_, rfl, h_n⟩) (ds_cons (d_var ⟨_, rfl, h_n⟩) ds_nil))) (fun _ => .nil) rfl ⟨_, _, _, rfl, rfl⟩))) (by rw [seq1]; rfl)) (fun cz H1 e => by cases cz) (fun cz H1 e => ?_)
    refine z_nx ?_
    refine z_enumS1 (b := b) (ds := L.map ratR) (ds_cons (d_var ⟨_, rfl, dp_grow e _ _ h_f⟩) ds_nil) rfl (fun i σ' H' => ∃ o1 o2, σ' = [some v_f, some v_n, some v_a, some v_o, some v_l, o1, o2]) (fun H2 e2 => ⟨_, _, rfl⟩) ?_ (fun σ' H' e2 p => k _ _ (e.trans e2) .non)
    rintro i d v σ' H' D' hd' e2 ⟨H0, e0, o1, o2, rfl⟩ hv hrt kk
    rw [List.getElem?_map] at hd'
    obtain ⟨x, hx, rfl⟩ := Option.map_eq_some_iff.mp hd'
    have h_l2 := dp_grow (e.trans e2) _ _ h_l
    refine z_if1 (b := false) (σ := [some v_f, some v_n, some v_a, some v_o, some v_l, some (.int (i : Int)), some v]) (b_is (b_or (b_not (b_val (d_call (ds_cons (d_var ⟨_, rfl, hv⟩) ds_nil) rfl ⟨_, rfl, rfl⟩))) (fun _ => b_test (d_lt (d_ixT (d_var ⟨_, rfl, hv⟩) d_int rfl) (d_var ⟨_, rfl, h_l2⟩)))) (by
      rw [ratD_ok, decide_eq_false (by have := hL x (List.mem_of_getElem? hx); omega)]; rfl)) (fun c H1 e => by cases c) (fun c1 H3 e3 => ?_)
    exact kk _ _ e3 ⟨_, _, rfl⟩
end
end K03
namespace Dat
open PySem L2 Evl
theorem lowest_div {t b : Int} (h : 0 < b) : lowest t b = ratR ((t : Rat) / (b : Rat)) := by
  obtain ⟨m, rfl⟩ := Int.eq_ofNat_of_zero_le (Int.le_of_lt h)
  have m0 : m ≠ 0 := by omega
  rw [low_norm t m m0, Rat.normalize_eq_mkRat, Rat.mkRat_eq_div]
  rfl
end Dat
namespace K03
open PySem L2 Evl Dat
abbrev al : List Str := ["factors", "pushes", "starts", "modes", "period", "growing"]
/-- a plant's attributes, but growing -/
def plantF (F : List (List Rat)) (p s : List Rat) : List (Str × PyData) :=
  [(("factors" : Str), facD true true F), (("pushes" : Str), rowD true p), (("starts" : Str), rowD true s), (("modes" : Str), .int (F.length : Int)), (("period" : Str), .int ((F.getD 0 []).length : Int))]
structure GoodP (F : List (List Rat)) (p s : List Rat) : Prop where
  f : GoodF F
  pl : p.length = F.length
  sl : s.length = F.length
  p0 : ∀ x ∈ p, 0 < x ∧ Sz 100 x
  s0 : ∀ x ∈ s, 0 ≤ x ∧ Sz 100 x
def fac (F : List (List Rat)) (m k : Nat) : Rat := (F.getD m []).getD (k % (F.getD m []).length) 0
abbrev OnF := List (List Rat) → List Rat → List Rat → List PyData → PyData → Prop
abbrev OnG := List (List Rat) → List Rat → List Rat → List PyData → Raised → Prop
def onF (f : OnF) (fs : List (Str × PyData)) (ds : List PyData) (d : PyData) : Prop := ∃ F p s, GoodP F p s ∧ fs = plantF F p s ∧ f F p s ds d
def onG (g : OnG) (fs : List (Str × PyData)) (ds : List PyData) (e : Raised) : Prop := ∃ F p s, GoodP F p s ∧ fs = plantF F p s ∧ g F p s ds e
abbrev okM (F : List (List Rat)) (m : PyData) : Bool := wholeIn m (.int 0) (.int ((F.length : Int) - 1))
abbrev okPh (m : PyData) : Bool := wholeIn m (.int 0) .none
abbrev okT (m : PyData) : Bool := wholeIn m (.int 0) (.int 1000)
theorem okM_nat {F : List (List Rat)} {m : Nat} (h : m < F.length) : okM F (.int (m : Int)) = true := by
  show (true && (decide ((0 : Int) ≤ (m : Int)) && decide ((m : Int) ≤ (F.length : Int) - 1))) = true
  simp; omega
theorem okPh_nat (m : Nat) : okPh (.int (m : Int)) = true := by
  show (true && (decide ((0 : Int) ≤ (m : Int)) && true)) = true
  simp
theorem okT_nat {m : Nat} (h : m ≤ 1000) : okT (.int (m : Int)) = true := by
  show (true && (decide ((0 : Int) ≤ (m : Int)) && decide ((m : Int) ≤ 1000))) = true
  simp; omega
def fMode : OnF := fun F _ _ ds d => ∃ m, ds = [m] ∧ okM F m = true ∧ d = .none
def gMode (C : Addr) : OnG := fun F _ _ ds e => ∃ m, ds = [m] ∧ okM F m = false ∧ e = (C, [(("mode" : Str), m)])
def fStretch : OnF := fun F _ _ ds d => ∃ m ph t, ds = [m, ph, t] ∧ okM F m = true ∧ okPh ph = true ∧ okT t = true ∧ d = .none
def gStretch (CM CP CT : Addr) : OnG := fun F _ _ ds e => ∃ m ph t, ds = [m, ph, t] ∧ ((okM F m = false ∧ e = (CM, [(("mode" : Str), m)])) ∨ (okM F m = true ∧ okPh ph = false ∧ e = (CP, [(("phase" : Str), ph)])) ∨
  (okM F m = true ∧ okPh ph = true ∧ okT t = false ∧ e = (CT, [(("ticks" : Str), t)])))
/-- so many ticks, not too many -/
def Fits (f : Nat → Rat) (t : Nat) : Prop := ∃ M, Upto f M ∧ (t + 1) * M ^ t < 2 ^ 1100
def at3 (ds : List PyData) (F : List (List Rat)) (m ph t : Nat) : Prop := ds = [.int (m : Int), .int (ph : Int), .int (t : Int)] ∧ m < F.length ∧ t ≤ 1000
def fMet : OnF := fun F _ _ ds d => ∃ m ph t : Nat, at3 ds F m ph t ∧ d = .list ((List.range t).map fun k => ratR (fac F m (ph + k)))
def fCarried : OnF := fun F _ _ ds d => ∃ m ph t : Nat, at3 ds F m ph t ∧ Fits (fac F m) t ∧ d = ratR (P (fac F m) ph t)
def fGrowth : OnF := fun F _ _ ds d => ∃ m ph t : Nat, at3 ds F m ph t ∧ Fits (fac F m) t ∧ d = ratR (absR (P (fac F m) ph t))
def fGathered : OnF := fun F p _ ds d => ∃ m ph t : Nat, at3 ds F m ph t ∧ Fits (fac F m) t ∧ d = ratR (G (fac F m) ph t * p.getD m 0)
def growsB (F : List (List Rat)) (m : Nat) : Bool := decide (((absR (P (fac F m) 0 (F.getD 0 []).length)).den : Int) ≤ (absR (P (fac F m) 0 (F.getD 0 []).length)).num)
def fGrows : OnF := fun F _ _ ds d => ∃ m : Nat, ds = [.int (m : Int)] ∧ m < F.length ∧ d = .bool (growsB F m)
theorem fac_mem {F : List (List Rat)} (h : GoodF F) {m : Nat} (hm : m < F.length) (k : Nat) : fac F m k ∈ F.getD m [] := by
  obtain ⟨n, n1, n4, hn⟩ := h.row
  have e : F.getD m [] = F[m] := by simp [hm]
  have l : (F.getD m []).length = n := by rw [e]; exact hn _ (List.getElem_mem hm)
  unfold fac
  have lt : k % (F.getD m []).length < (F.getD m []).length := Nat.mod_lt _ (by omega)
  generalize F.getD m [] = r at *
  simp [lt]
theorem row_mem {F : List (List Rat)} {m : Nat} (hm : m < F.length) : F.getD m [] ∈ F := by
  have e : F.getD m [] = F[m] := by simp [hm]
  rw [e]; exact List.getElem_mem hm
theorem row_len {F : List (List Rat)} (h : GoodF F) {m : Nat} (hm : m < F.length) : (F.getD m []).length = (F.getD 0 []).length ∧ 1 ≤ (F.getD 0 []).length ∧ (F.getD 0 []).length ≤ 4 := by
  obtain ⟨n, n1, n4, hn⟩ := h.row
  have h0 := hn _ (row_mem (F := F) h.lo)
  have h1 := hn _ (row_mem hm)
  omega
theorem fac_ok {F : List (List Rat)} (h : GoodF F) {m : Nat} (hm : m < F.length) (k : Nat) : fac F m k ≠ 0 ∧ Sz 60 (fac F m k) := h.fac _ (row_mem hm) _ (fac_mem h hm k)
theorem fits_pow {f : Nat → Rat} {t : Nat} (h : Fits f t) {i : Nat} (hi : i ≤ t) (p : Nat) : (topC f p i).natAbs < 2 ^ 1100 ∧ (botC f p i).natAbs < 2 ^ 1100 ∧ (topG f p i).natAbs < 2 ^ 1100 := by
  obtain ⟨M, hM, hs⟩ := h
  have m1 := upto_one hM
  have a := pow_mono1 m1 hi
  have b : i * M ^ i ≤ (i + 1) * M ^ i := Nat.mul_le_mul_right _ (Nat.le_succ i)
  have c := pow_mono m1 hi
  exact ⟨Nat.lt_of_le_of_lt (Nat.le_trans (top_le hM i) a) hs, Nat.lt_of_le_of_lt (Nat.le_trans (bot_le hM i) a) hs, Nat.lt_of_le_of_lt (Nat.le_trans (topG_le hM i) (Nat.le_trans b c)) hs⟩
theorem P_low (f : Nat → Rat) (p t : Nat) : lowest (topC f p t) (botC f p t) = ratR (P f p t) := by
  have h := bot_pos f p t
  rw [lowest_div h, topC_eq]
  congr 1
  have hb : (botC f p t : Rat) ≠ 0 := by simp; omega
  generalize (botC f p t : Rat) = b at hb
  grind
theorem G_low (f : Nat → Rat) (p t : Nat) : lowest (topG f p t) (botC f p t) = ratR (G f p t) := by
  have h := bot_pos f p t
  rw [lowest_div h, topG_eq]
  congr 1
  have hb : (botC f p t : Rat) ≠ 0 := by simp; omega
  generalize (botC f p t : Rat) = b at hb
  grind
theorem ratR_inj {x y : Rat} (h : ratR x = ratR y) : x = y := by
  injection h with h
  injection h with h1 h2
  injection h1 with h1
  injection h2 with h2 _
  injection h2 with h2
  exact Rat.ext h1 (by omega)
theorem fits_sz {f : Nat → Rat} {t : Nat} (h : Fits f t) (p : Nat) : Sz 1100 (P f p t) ∧ Sz 1100 (G f p t) := by
  obtain ⟨a, b, c⟩ := fits_pow h (Nat.le_refl t) p
  obtain ⟨z, e, hz⟩ := low_sz (bot_pos f p t) a b
  obtain ⟨y, e', hy⟩ := low_sz (bot_pos f p t) c b
  rw [P_low] at e
  rw [G_low] at e'
  rw [ratR_inj e, ratR_inj e']
  exact ⟨hz, hy⟩
theorem abs_ratR (x : Rat) : rat (x.num.natAbs : Int) (x.den : Int) = ratR (absR x) := by
  rw [absR_eq]
  by_cases h : x.num < 0
  · rw [if_pos h]
    show rat _ _ = rat (-x).num ((-x).den : Int)
    rw [show (-x).num = -x.num from rfl, show (-x).den = x.den from rfl, show (x.num.natAbs : Int) = -x.num from by omega]
  · rw [if_neg h, show (x.num.natAbs : Int) = x.num from by omega]
section
variable {P' : Program} {w : World} {K : PySem.W.Frag} {mg : Str → Option Value} {base : Heap} {C CM CP CT CB : Addr}

abbrev s_check_mode : Stmt := inClass (topS 25) 10
abbrev N_check_mode : List Str := ["self", "mode"]
theorem sc_check_mode : FnScope N_check_mode ["self", "mode"] (defScope s_check_mode) := ⟨rfl, rfl, rfl, by decide +kernel, rfl, by decide +kernel, by decide +kernel⟩

theorem ok_check_mode {f : Addr} {fd : FuncData} (F : Fun K "check_mode" "Plant.check_mode" s_check_mode f fd) (TC : ClsA K mg "Plant" C al) (TMo : Cl1 P' w K mg base "NoMode" CM "mode") (D_w3 : DW P' w K mg base []) : FnOk P' w K mg base (L2.CX P' w) 3 f fd ["self", "mode"] (spM K C al 1 (onF fMode) (onG (gMode CM))) := by
  refine F.okX sc_check_mode (fun vs H Q E h => ?_) (fun cdv A outer s H vs Q E hr h => ?_)
  · obtain ⟨x, ws, fs, ds, rfl, hl, _, hd, _⟩ := h
    simp [dps_len hd, hl]
  · refine ⟨_, (pss_one (ps_if (pt_not (pt_val (pe_dcallV D_w3 (hr.mono (by decide)) pass0 (pa_cons (pv 1) (pa_cons pe_int (pa_cons (pe_op op_sub (pe_fld (pv 0) rfl) pe_int) pa_nil)))))) (pss_one (ps_raise rfl (takes_of rfl rfl rfl rfl) (pmk_c1 TMo (hr.mono (by decide)) (pa_cons (pv 1) pa_nil)))) pss_nil)), ?_⟩
    obtain ⟨x, ws, fs, ds, rfl, hl, hx, hd, h⟩ := h
    obtain ⟨m, rfl⟩ : ∃ m, ds = [m] := by
      match ds, hl with
      | [m], _ => exact ⟨m, rfl⟩
    obtain ⟨v_m, vs, rfl, h_m, hd⟩ := dps_cons hd
    obtain rfl := dps_nil hd
    have test : ∀ {F p s}, fs = plantF F p s → EvB (tNot (tB (tCall (spD K 3 fWhole) [] E0 (tCons (tVar 1) (tCons (tC (.int 0)) (tCons (tOp (rI0 fun i j => .int (i - j)) (tFld K (tVar 0) "modes") (tC (.int 1))) tNil)))))) [some (.ref x), some v_m] H (!okM F m) := by
      rintro F p s rfl
      exact b_not (b_val (d_callV (ds_cons (d_var ⟨_, rfl, h_m⟩) (ds_cons d_int (ds_cons (d_sub (d_fld (o_var rfl hx) TC.cl (TC.na _ (by simp)) (d := .int (F.length : Int)) (by simp [plantF])) d_int) ds_nil))) (fun _ => .nil) rfl ⟨_, _, _, rfl, .inr ⟨_, rfl⟩, .inr ⟨_, rfl⟩, rfl⟩))
    rcases h with ⟨d, ⟨F, p, s, hg, hfs, m', em, hm, rfl⟩, k⟩ | ⟨e, ⟨F, p, s, hg, hfs, m', em, hm, rfl⟩, k⟩
    · cases em
      refine z_if1 (b := false) (σ := [some (.ref x), some v_m]) (b_is (test hfs) (by simp [hm])) (fun c H1 e => by cases c) (fun c H1 e => k _ _ e .non)
    · cases em
      refine z_if1 (b := true) (σ := [some (.ref x), some v_m]) (b_is (test hfs) (by simp [hm])) (fun c H1 e => ?_) (fun c H1 e => by cases c)
      exact x_raiseD (E := E) (d_var ⟨_, rfl, dp_grow e _ _ h_m⟩) (rai_grow e k)

abbrev s_check_stretch : Stmt := inClass (topS 25) 11
abbrev N_check_stretch : List Str := ["self", "mode", "phase", "ticks"]
theorem sc_check_stretch : FnScope N_check_stretch ["self", "mode", "phase", "ticks"] (defScope s_check_stretch) := ⟨rfl, rfl, rfl, by decide +kernel, rfl, by decide +kernel, by decide +kernel⟩

theorem ok_check_stretch {f : Addr} {fd : FuncData} (F : Fun K "_check_stretch" "Plant._check_stretch" s_check_stretch f fd) (TC : ClsA K mg "Plant" C al) (D_check_mode : MethD P' w K mg base (L2.CX P' w) 3 C "check_mode" ["self", "mode"] (spM K C al 1 (onF fMode) (onG (gMode CM))))
    (D_check_phase : DefV P' w K mg base (L2.CX P' w) 3 "check_phase" ["phase"] [] (spX K 1 fPhase (gPhase CP))) (D_check_ticks : DefV P' w K mg base (L2.CX P' w) 3 "check_ticks" ["ticks"] [] (spX K 1 fTicks (gTicks CT))) :
    FnOk P' w K mg base (L2.CX P' w) 4 f fd ["self", "mode", "phase", "ticks"] (spM K C al 3 (onF fStretch) (onG (gStretch CM CP CT))) := by
  refine F.okX sc_check_stretch (fun vs H Q E h => ?_) (fun cdv A outer s H vs Q E hr h => ?_)
  · obtain ⟨x, ws, fs, ds, rfl, hl, _, hd, _⟩ := h
    simp [dps_len hd, hl]
  · refine ⟨_, (pss_cons (ps_expr (pe_mcall (pv 0) D_check_mode TC.cl (hr.mono (by decide)) (fun σ => passAt (takes_of rfl rfl rfl rfl) σ) (pa_cons (pv 1) pa_nil)))
    (pss_cons (ps_expr (pe_dcallS D_check_phase (hr.mono (by decide)) (fun σ => passAt (takes_of rfl rfl rfl rfl) σ) (pa_cons (pv 2) pa_nil)))
    (pss_one (ps_expr (pe_dcallS D_check_ticks (hr.mono (by decide)) (fun σ => passAt (takes_of rfl rfl rfl rfl) σ) (pa_cons (pv 3) pa_nil)))))), ?_⟩
    obtain ⟨x, ws, fs, ds, rfl, hl, hx, hd, h⟩ := h
    obtain ⟨m, ph, t, rfl⟩ : ∃ m ph t, ds = [m, ph, t] := by
      match ds, hl with
      | [m, ph, t], _ => exact ⟨m, ph, t, rfl⟩
    obtain ⟨v_m, vs, rfl, h_m, hd⟩ := dps_cons hd
    obtain ⟨v_p, vs, rfl, h_p, hd⟩ := dps_cons hd
    obtain ⟨v_t, vs, rfl, h_t, hd⟩ := dps_cons hd
    obtain rfl := dps_nil hd
    have no : (("check_mode" : Str)) ∉ al := by decide +kernel
    rcases h with ⟨d, ⟨F, p, s, hg, hfs, m', ph', t', em, hm, hp, ht, rfl⟩, k⟩ | ⟨e, ⟨F, p, s, hg, hfs, m', ph', t', em, hz⟩, k⟩
    · cases em
      refine z_drop (K := K) (σ := [some (.ref x), some v_m, some v_p, some v_t]) (d_meth (o_var rfl hx) no (ds_cons (d_var ⟨_, rfl, h_m⟩) ds_nil) rfl ⟨F, p, s, hg, hfs, m, rfl, hm, rfl⟩) fun H1 e1 => ?_
      refine z_drop (K := K) (σ := [some (.ref x), some v_m, some v_p, some v_t]) (d_callX (ds_cons (d_var ⟨_, rfl, dp_grow e1 _ _ h_p⟩) ds_nil) rfl ⟨ph, rfl, hp, rfl⟩) fun H2 e2 => ?_
      exact z_drop1 (K := K) (σ := [some (.ref x), some v_m, some v_p, some v_t]) (d_callX (ds_cons (d_var ⟨_, rfl, dp_grow (e1.trans e2) _ _ h_t⟩) ds_nil) rfl ⟨t, rfl, ht, rfl⟩) fun H3 e3 => k _ _ ((e1.trans e2).trans e3) .non
    · cases em
      rcases hz with ⟨hm, rfl⟩ | ⟨hm, hp, rfl⟩ | ⟨hm, hp, ht, rfl⟩
      · exact xz_drop (σ := [some (.ref x), some v_m, some v_p, some v_t]) (r_meth (o_var rfl hx) no (ds_cons (d_var ⟨_, rfl, h_m⟩) ds_nil) rfl ⟨F, p, s, hg, hfs, m, rfl, hm, rfl⟩ k)
      · refine z_drop (K := K) (σ := [some (.ref x), some v_m, some v_p, some v_t]) (d_meth (o_var rfl hx) no (ds_cons (d_var ⟨_, rfl, h_m⟩) ds_nil) rfl ⟨F, p, s, hg, hfs, m, rfl, hm, rfl⟩) fun H1 e1 => ?_
        exact xz_drop (σ := [some (.ref x), some v_m, some v_p, some v_t]) (r_callX (ds_cons (d_var ⟨_, rfl, dp_grow e1 _ _ h_p⟩) ds_nil) rfl ⟨ph, rfl, hp, rfl⟩ (rai_grow e1 k))
      · refine z_drop (K := K) (σ := [some (.ref x), some v_m, some v_p, some v_t]) (d_meth (o_var rfl hx) no (ds_cons (d_var ⟨_, rfl, h_m⟩) ds_nil) rfl ⟨F, p, s, hg, hfs, m, rfl, hm, rfl⟩) fun H1 e1 => ?_
        refine z_drop (K := K) (σ := [some (.ref x), some v_m, some v_p, some v_t]) (d_callX (ds_cons (d_var ⟨_, rfl, dp_grow e1 _ _ h_p⟩) ds_nil) rfl ⟨ph, rfl, hp, rfl⟩) fun H2 e2 => ?_
        exact xz_drop1 (σ := [some (.ref x), some v_m, some v_p, some v_t]) (r_callX (ds_cons (d_var ⟨_, rfl, dp_grow (e1.trans e2) _ _ h_t⟩) ds_nil) rfl ⟨t, rfl, ht, rfl⟩ (rai_grow (e1.trans e2) k))

abbrev s_factors_met : Stmt := inClass (topS 25) 12
abbrev N_factors_met : List Str := ["self", "mode", "phase", "ticks", "row", "first", "tick"]
theorem sc_factors_met : FnScope N_factors_met ["self", "mode", "phase", "ticks"] (defScope s_factors_met) := ⟨rfl, rfl, rfl, by decide +kernel, rfl, by decide +kernel, by decide +kernel⟩

theorem ok_factors_met {f : Addr} {fd : FuncData} (F : Fun K "_factors_met" "Plant._factors_met" s_factors_met f fd) (T : Bl mg) (TC : ClsA K mg "Plant" C al) : FnOk P' w K mg base CX0 1 f fd ["self", "mode", "phase", "ticks"] (spM K C al 3 (onF fMet) (fun _ _ _ => False)) := by
  refine F.ok sc_factors_met (fun vs H Q E h => ?_) (fun cdv A outer s H vs Q E hr h => ?_)
  · obtain ⟨x, ws, fs, ds, rfl, hl, _, hd, _⟩ := h
    simp [dps_len hd, hl]
  · refine ⟨_, (pss_cons (ps_set (i := 4) sc_factors_met.nd rfl (Or.inr rfl) (pe_ix (r := rIxT K) ix_tup (pe_fld (pv 0) rfl) (pv 1) (fun _ _ => rfl)))
    (pss_cons (ps_set (i := 5) sc_factors_met.nd rfl (Or.inl rfl) (pe_op op_mod (pv 2) (pe_fld (pv 0) rfl)))
    (pss_one (ps_ret (pe_lc (own := [("tick", 6)]) (g := gName 6) rfl sc_factors_met.nd (pi_range2 rfl T.b_range (pa_cons (pv 5) (pa_cons (pe_op op_add (pv 5) (pv 3)) pa_nil))) (blkOk_by (own := [("tick", 6)]) (N := N_factors_met) (sc := defScope s_factors_met) (by decide +kernel)) (fun _ _ _ _ _ => pg_name (i := 6) sc_factors_met.nd rfl (Or.inl rfl)) (fun _ _ _ _ _ => pts_nil) (fun _ _ _ _ _ => (pe_ix (r := rIxT K) ix_tup (pv 4) (pe_op op_mod (pv 6) (pe_fldK K (pv 0))) (fun _ _ => rfl)))))))), ?_⟩
    obtain ⟨x, ws, fs, ds, rfl, hl, hx, hd, ⟨d, ⟨F, p, s, hg, rfl, m, ph, t, ⟨rfl, hm, ht⟩, rfl⟩, k⟩ | ⟨_, z, _⟩⟩ := h
    · obtain ⟨v_m, vs, rfl, h_m, hd⟩ := dps_cons hd
      obtain ⟨v_p, vs, rfl, h_p, hd⟩ := dps_cons hd
      obtain ⟨v_t, vs, rfl, h_t, hd⟩ := dps_cons hd
      obtain rfl := dps_nil hd
      obtain ⟨l1, l2, l3⟩ := row_len hg.f hm
      have l0 : (0 : Int) < ((F.getD 0 []).length : Int) := by omega
      refine z_set (K := K) (σ := [some (.ref x), some v_m, some v_p, some v_t, none, none, none]) (d_ixT (ds := F.map (rowD true)) (d_fld (o_var rfl hx) TC.cl (TC.na _ (by simp)) (by simp [plantF, facD, sq])) (d_var ⟨_, rfl, h_m⟩) (at_map _ [] hm)) fun v_r H1 e1 h_r => ?_
      have hx1 := has_grow e1 hx
      refine z_set (K := K) (σ := [some (.ref x), some v_m, some v_p, some v_t, some v_r, none, none]) (d_mod (d_var ⟨_, rfl, dp_grow e1 _ _ h_p⟩) (d_fld (o_var rfl hx1) TC.cl (TC.na _ (by simp)) (d := .int ((F.getD 0 []).length : Int)) (by simp [plantF])) l0) fun v_f H2 e2 h_f => ?_
      have hx2 := has_grow e2 hx1
      have h_r2 := dp_grow e2 _ _ h_r
      have h_t2 := dp_grow (e1.trans e2) _ _ h_t
      have f0 : 0 ≤ (ph : Int) % ((F.getD 0 []).length : Int) := Int.emod_nonneg _ (by omega)
      have f1 : (ph : Int) % ((F.getD 0 []).length : Int) < ((F.getD 0 []).length : Int) := Int.emod_lt_of_pos _ l0
      generalize hfi : (ph : Int) % ((F.getD 0 []).length : Int) = fi at h_f f0 f1
      have en : (fi + (t : Int) - fi).toNat = t := by omega
      refine z_ret (K := K) (σ := [some (.ref x), some v_m, some v_p, some v_t, some v_r, some v_f, none]) (d := .list ((List.range t).map fun k => ratR (fac F m (ph + k)))) (evn_d (n_is (n_lcR2 (p := fun _ => true) (g := fun k => ratR (fac F m (ph + k))) (ds_cons (d_var ⟨_, rfl, h_f⟩) (ds_cons (d_add (d_var ⟨_, rfl, h_f⟩) (d_var ⟨_, rfl, h_t2⟩)) ds_nil)) (by omega) (by omega) ⟨fun y => rfl, fun i y H3 e hi hy => b_yes, fun i y H3 e3 hi _ hy => ?_, fun i _ => rfl, itR_mono _, by omega⟩) (by rw [pick_all, en]))) fun v H3 e3 hv => k v H3 ((e1.trans e2).trans e3) hv
      cases hy
      refine d_ixT (ds := (F.getD m []).map ratR) (i := (((ph + i) % (F.getD m []).length : Nat) : Int)) (d_var ⟨_, rfl, dp_grow e3 _ _ h_r2⟩) (d_is (d_mod (d_var (d := .int (fi + (i : Int))) ⟨_, rfl, .int _⟩) (d_fld (o_var rfl (has_grow e3 hx2)) TC.cl (TC.na _ (by simp)) (d := .int ((F.getD 0 []).length : Int)) (by simp [plantF])) l0) ?_) (at_map _ 0 (Nat.mod_lt _ (by omega)))
      rw [l1, ← hfi, Int.natCast_emod, Int.natCast_add, Int.emod_add_emod]
    · exact z.elim

abbrev s_carried : Stmt := inClass (topS 25) 2
abbrev N_carried : List Str := ["self", "mode", "phase", "ticks", "top", "bottom", "factor"]
theorem sc_carried : FnScope N_carried ["self", "mode", "phase", "ticks"] (defScope s_carried) := ⟨rfl, rfl, rfl, by decide +kernel, rfl, by decide +kernel, by decide +kernel⟩

abbrev MStr (P : Program) (w : World) (K : PySem.W.Frag) (mg : Str → Option Value) (base : Heap) (C CM CP CT : Addr) : Prop := MethD P w K mg base (L2.CX P w) 4 C "_check_stretch" ["self", "mode", "phase", "ticks"] (spM K C al 3 (onF fStretch) (onG (gStretch CM CP CT)))
abbrev MMet (P : Program) (w : World) (K : PySem.W.Frag) (mg : Str → Option Value) (base : Heap) (C : Addr) : Prop := MethD P w K mg base CX0 1 C "_factors_met" ["self", "mode", "phase", "ticks"] (spM K C al 3 (onF fMet) (fun _ _ _ => False))

theorem ok_carried {f : Addr} {fd : FuncData} (F : Fun K "carried" "Plant.carried" s_carried f fd) (TC : ClsA K mg "Plant" C al) (D_check_stretch : MStr P' w K mg base C CM CP CT) (D_factors_met : MMet P' w K mg base C)
    (D_make : DefV P' w K mg base (L2.CX P' w) 3 "make_ratio" ["top", "bottom"] [] (spMakeR K CB)) : FnOk P' w K mg base (L2.CX P' w) 5 f fd ["self", "mode", "phase", "ticks"] (spM K C al 3 (onF fCarried) (onG (gStretch CM CP CT))) := by
  refine F.okX sc_carried (fun vs H Q E h => ?_) (fun cdv A outer s H vs Q E hr h => ?_)
  · obtain ⟨x, ws, fs, ds, rfl, hl, _, hd, _⟩ := h
    simp [dps_len hd, hl]
  · refine ⟨_, (pss_cons (ps_expr (pe_mcall (pv 0) D_check_stretch TC.cl (hr.mono (by decide)) (fun σ => passAt (takes_of rfl rfl rfl rfl) σ) (pa_cons (pv 1) (pa_cons (pv 2) (pa_cons (pv 3) pa_nil)))))
    (pss_cons (ps_asg (pe_tup (pa_cons pe_int (pa_cons pe_int pa_nil))) (pg_alt (pg_tup rfl (pgs_cons (pg_name (i := 4) sc_carried.nd rfl (Or.inl rfl)) (pgs_cons (pg_name (i := 5) sc_carried.nd rfl (Or.inl rfl)) pgs_nil))) (pg_lst rfl (pgs_cons (pg_name (i := 4) sc_carried.nd rfl (Or.inl rfl)) (pgs_cons (pg_name (i := 5) sc_carried.nd rfl (Or.inl rfl)) pgs_nil)))) rfl)
    (pss_cons (ps_for (passes_of rfl) rfl (pi_list (pe_mcall (pv 0) D_factors_met TC.cl (hr.mono (by decide)) passZ (pa_cons (pv 1) (pa_cons (pv 2) (pa_cons (pv 3) pa_nil))))) (pg_name (i := 6) sc_carried.nd rfl (Or.inl rfl)) (pss_cons (ps_aug (i := 4) sc_carried.nd rfl (Or.inl rfl) (pe_ix (r := rIxT K) ix_tup (pv 6) pe_int (fun _ _ => rfl)) ip_mulW)
    (pss_one (ps_aug (i := 5) sc_carried.nd rfl (Or.inl rfl) (pe_ix (r := rIxT K) ix_tup (pv 6) pe_int (fun _ _ => rfl)) ip_mulW))))
    (pss_one (ps_ret (pe_dcallV D_make (hr.mono (by decide)) passL (pa_cons (pv 4) (pa_cons (pv 5) pa_nil)))))))), ?_⟩
    obtain ⟨x, ws, fs, ds, rfl, hl, hx, hd, h⟩ := h
    have no1 : (("_check_stretch" : Str)) ∉ al := by decide +kernel
    have no2 : (("_factors_met" : Str)) ∉ al := by decide +kernel
    obtain ⟨a1, a2, a3, rfl⟩ : ∃ m ph t, ds = [m, ph, t] := by
      match ds, hl with
      | [m, ph, t], _ => exact ⟨m, ph, t, rfl⟩
    obtain ⟨v_m, vs, rfl, h_m, hd⟩ := dps_cons hd
    obtain ⟨v_p, vs, rfl, h_p, hd⟩ := dps_cons hd
    obtain ⟨v_t, vs, rfl, h_t, hd⟩ := dps_cons hd
    obtain rfl := dps_nil hd
    rcases h with ⟨d, ⟨F, p, s, hg, hfs, m, ph, t, ⟨ea, hm, ht⟩, hfit, rfl⟩, k⟩ | ⟨e, hz, k⟩
    · cases ea
      refine z_drop (K := K) (σ := [some (.ref x), some v_m, some v_p, some v_t, none, none, none]) (d_meth (o_var rfl hx) no1 (ds_cons (d_var ⟨_, rfl, h_m⟩) (ds_cons (d_var ⟨_, rfl, h_p⟩) (ds_cons (d_var ⟨_, rfl, h_t⟩) ds_nil))) rfl ⟨F, p, s, hg, hfs, _, _, _, rfl, okM_nat hm, okPh_nat ph, okT_nat ht, rfl⟩) fun H1 e1 => ?_
      refine z_twoS (K := K) (b := true) (σ := [some (.ref x), some v_m, some v_p, some v_t, none, none, none]) (d_tup (ds_cons d_int (ds_cons d_int ds_nil)) (by show 2 ≤ 1000; decide)) fun y z H2 e2 hy hz => ?_
      cases hy
      cases hz
      have e12 := e1.trans e2
      refine z_forL (K := K) (σ := [some (.ref x), some v_m, some v_p, some v_t, some (.int 1), some (.int 1), none]) (d_meth (o_var rfl (has_grow e12 hx)) no2 (ds_cons (d_var ⟨_, rfl, dp_grow e12 _ _ h_m⟩) (ds_cons (d_var ⟨_, rfl, dp_grow e12 _ _ h_p⟩) (ds_cons (d_var ⟨_, rfl, dp_grow e12 _ _ h_t⟩) ds_nil))) rfl ⟨F, p, s, hg, hfs, m, ph, t, ⟨rfl, hm, ht⟩, rfl⟩)
        (fun i σ' H' => ∃ o, σ' = [some (.ref x), some v_m, some v_p, some v_t, some (.int (topC (fac F m) ph i)), some (.int (botC (fac F m) ph i)), o]) (fun H3 e3 => ⟨none, rfl⟩) ?_ ?_
      · rintro i d v σ' H' D' hd' e3 ⟨o, rfl⟩ hv kk
        have hi : i < t := by
          have := (List.getElem?_eq_some_iff.mp hd').1
          simpa using this
        have ed : d = ratR (fac F m (ph + i)) := by
          rw [List.getElem?_map, List.getElem?_range hi] at hd'
          exact (Option.some.inj hd').symm
        subst ed
        obtain ⟨b1, b2, _⟩ := fits_pow hfit (Nat.le_of_lt hi) ph
        obtain ⟨_, s1, s2⟩ := fac_ok hg.f hm (ph + i)
        refine z_mulS (i := 4) (a := topC (fac F m) ph i) (σ := [some (.ref x), some v_m, some v_p, some v_t, some (.int (topC (fac F m) ph i)), some (.int (botC (fac F m) ph i)), some v]) rfl (d_ixT (d_var ⟨_, rfl, hv⟩) d_int rfl) (wide_mul b1 s1 (by decide) (by decide) (by decide)) fun H3 e4 => ?_
        refine z_mul1 (i := 5) (a := botC (fac F m) ph i) (σ := [some (.ref x), some v_m, some v_p, some v_t, some (.int (topC (fac F m) ph i * (fac F m (ph + i)).num)), some (.int (botC (fac F m) ph i)), some v]) rfl (d_ixT (d_var ⟨_, rfl, dp_grow e4 _ _ hv⟩) d_int rfl) (wide_mul b2 (by rw [Int.natAbs_natCast]; exact s2) (by decide) (by decide) (by decide)) fun H4 e5 => ?_
        exact kk _ _ (e4.trans e5) ⟨some v, rfl⟩
      · rintro σ' H' e3 ⟨o, rfl⟩
        rw [List.length_map, List.length_range]
        obtain ⟨b1, b2, _⟩ := fits_pow hfit (Nat.le_refl t) ph
        have bp := bot_pos (fac F m) ph t
        refine z_ret (K := K) (σ := [some (.ref x), some v_m, some v_p, some v_t, some (.int (topC (fac F m) ph t)), some (.int (botC (fac F m) ph t)), o]) (d_is (d_callE (es := []) (ds_cons (d_var (d := .int _) ⟨_, rfl, .int _⟩) (ds_cons (d_var (d := .int _) ⟨_, rfl, .int _⟩) ds_nil)) (fun _ => .nil) rfl ⟨_, _, rfl, by omega, Nat.lt_trans b2 (Nat.pow_lt_pow_right (by decide) (by decide)), rfl⟩) (P_low _ _ _)) fun v H3 e4 hv => k v H3 ((e12.trans e3).trans e4) hv
    · exact xz_drop (σ := [some (.ref x), some v_m, some v_p, some v_t, none, none, none]) (r_meth (o_var rfl hx) no1 (ds_cons (d_var ⟨_, rfl, h_m⟩) (ds_cons (d_var ⟨_, rfl, h_p⟩) (ds_cons (d_var ⟨_, rfl, h_t⟩) ds_nil))) rfl hz k)

abbrev s_growth : Stmt := inClass (topS 25) 3
abbrev N_growth : List Str := ["self", "mode", "phase", "ticks"]
theorem sc_growth : FnScope N_growth ["self", "mode", "phase", "ticks"] (defScope s_growth) := ⟨rfl, rfl, rfl, by decide +kernel, rfl, by decide +kernel, by decide +kernel⟩

theorem ok_growth {f : Addr} {fd : FuncData} (F : Fun K "growth" "Plant.growth" s_growth f fd) (TC : ClsA K mg "Plant" C al) (D_carried : MethD P' w K mg base (L2.CX P' w) 5 C "carried" ["self", "mode", "phase", "ticks"] (spM K C al 3 (onF fCarried) (onG (gStretch CM CP CT))))
    (D_size_of : Def P' w K mg base CX0 1 "size_of" ["one"] (spD K 1 fSize)) : FnOk P' w K mg base (L2.CX P' w) 6 f fd ["self", "mode", "phase", "ticks"] (spM K C al 3 (onF fGrowth) (onG (gStretch CM CP CT))) := by
  refine F.okX sc_growth (fun vs H Q E h => ?_) (fun cdv A outer s H vs Q E hr h => ?_)
  · obtain ⟨x, ws, fs, ds, rfl, hl, _, hd, _⟩ := h
    simp [dps_len hd, hl]
  · refine ⟨_, (pss_one (ps_ret (pe_dcall D_size_of (hr.mono (by decide)) pass0 (pa_cons (pe_mcall (pv 0) D_carried TC.cl (hr.mono (by decide)) (fun σ => passAt (takes_of rfl rfl rfl rfl) σ) (pa_cons (pv 1) (pa_cons (pv 2) (pa_cons (pv 3) pa_nil)))) pa_nil)))), ?_⟩
    obtain ⟨x, ws, fs, ds, rfl, hl, hx, hd, h⟩ := h
    have no1 : (("_check_stretch" : Str)) ∉ al := by decide +kernel
    have no2 : (("_factors_met" : Str)) ∉ al := by decide +kernel
    obtain ⟨a1, a2, a3, rfl⟩ : ∃ m ph t, ds = [m, ph, t] := by
      match ds, hl with
      | [m, ph, t], _ => exact ⟨m, ph, t, rfl⟩
    obtain ⟨v_m, vs, rfl, h_m, hd⟩ := dps_cons hd
    obtain ⟨v_p, vs, rfl, h_p, hd⟩ := dps_cons hd
    obtain ⟨v_t, vs, rfl, h_t, hd⟩ := dps_cons hd
    obtain rfl := dps_nil hd
    have no3 : (("carried" : Str)) ∉ al := by decide +kernel
    rcases h with ⟨d, ⟨F, p, s, hg, hfs, m, ph, t, ⟨ea, hm, ht⟩, hfit, rfl⟩, k⟩ | ⟨e, hz, k⟩
    · cases ea
      refine z_ret (K := K) (σ := [some (.ref x), some v_m, some v_p, some v_t]) (d_is (d_call (ds_cons (d_meth (o_var rfl hx) no3 (ds_cons (d_var ⟨_, rfl, h_m⟩) (ds_cons (d_var ⟨_, rfl, h_p⟩) (ds_cons (d_var ⟨_, rfl, h_t⟩) ds_nil))) rfl ⟨F, p, s, hg, hfs, m, ph, t, ⟨rfl, hm, ht⟩, hfit, rfl⟩) ds_nil) rfl ⟨_, _, rfl, rfl⟩) (abs_ratR _)) fun v H3 e4 hv => k v H3 e4 hv
    · exact xz_ret (σ := [some (.ref x), some v_m, some v_p, some v_t]) (r_call1 (r_meth (o_var rfl hx) no3 (ds_cons (d_var ⟨_, rfl, h_m⟩) (ds_cons (d_var ⟨_, rfl, h_p⟩) (ds_cons (d_var ⟨_, rfl, h_t⟩) ds_nil))) rfl hz k))
end
end K03
namespace K03
open PySem L2 Evl Dat
theorem lookup_out {al : List Str} {m : Str} (hm : m ∉ al) : ∀ {as : List (Str × V)}, (∀ p ∈ as, p.1 ∈ al) → as.lookup m = none
  | [], _ => rfl
  | (f, v) :: r, h => by
    have ne : (m == f) = false := beq_eq_false_iff_ne.mpr fun z => hm (z ▸ h (f, v) (by simp))
    show (match m == f with | true => some v | false => r.lookup m) = none
    rw [ne]
    exact lookup_out hm fun p hp => h p (List.mem_cons_of_mem _ hp)
/-- a new plant -/
def fPlant (ds : List PyData) (fs : List (Str × PyData)) : Prop := ∃ b0 b1 b2 b3 F p s, ds = [facD b0 b1 F, rowD b2 p, rowD b3 s] ∧ GoodP F p s ∧ fs = plantF F p s
def putAt (l : List Rat) (m : Nat) (x : Rat) : List Rat := l.set m x
section
variable {P' : Program} {w : World} {K : PySem.W.Frag} {mg : Str → Option Value} {base : Heap} {C CM CP CT CB : Addr}

abbrev s_gathered : Stmt := inClass (topS 25) 4
abbrev N_gathered : List Str := ["self", "mode", "phase", "ticks", "top", "bottom", "factor"]
theorem sc_gathered : FnScope N_gathered ["self", "mode", "phase", "ticks"] (defScope s_gathered) := ⟨rfl, rfl, rfl, by decide +kernel, rfl, by decide +kernel, by decide +kernel⟩

theorem ok_gathered {f : Addr} {fd : FuncData} (F : Fun K "gathered" "Plant.gathered" s_gathered f fd) (T : Bl mg) (TC : ClsA K mg "Plant" C al) (D_check_stretch : MStr P' w K mg base C CM CP CT) (D_factors_met : MMet P' w K mg base C)
    (D_make : DefV P' w K mg base (L2.CX P' w) 3 "make_ratio" ["top", "bottom"] [] (spMakeR K CB)) (D_times : Def P' w K mg base CX0 1 "times" ["one", "other"] (spD K 2 fTimesR)) : FnOk P' w K mg base (L2.CX P' w) 5 f fd ["self", "mode", "phase", "ticks"] (spM K C al 3 (onF fGathered) (onG (gStretch CM CP CT))) := by
  refine F.okX sc_gathered (fun vs H Q E h => ?_) (fun cdv A outer s H vs Q E hr h => ?_)
  · obtain ⟨x, ws, fs, ds, rfl, hl, _, hd, _⟩ := h
    simp [dps_len hd, hl]
  · refine ⟨_, (pss_cons (ps_expr (pe_mcall (pv 0) D_check_stretch TC.cl (hr.mono (by decide)) (fun σ => passAt (takes_of rfl rfl rfl rfl) σ) (pa_cons (pv 1) (pa_cons (pv 2) (pa_cons (pv 3) pa_nil)))))
    (pss_cons (ps_asg (pe_tup (pa_cons pe_int (pa_cons pe_int pa_nil))) (pg_alt (pg_tup rfl (pgs_cons (pg_name (i := 4) sc_gathered.nd rfl (Or.inl rfl)) (pgs_cons (pg_name (i := 5) sc_gathered.nd rfl (Or.inl rfl)) pgs_nil))) (pg_lst rfl (pgs_cons (pg_name (i := 4) sc_gathered.nd rfl (Or.inl rfl)) (pgs_cons (pg_name (i := 5) sc_gathered.nd rfl (Or.inl rfl)) pgs_nil)))) rfl)
    (pss_cons (ps_for (passes_of rfl) rfl (pi_list (pe_mcall (pv 0) D_factors_met TC.cl (hr.mono (by decide)) passZ (pa_cons (pv 1) (pa_cons (pv 2) (pa_cons (pv 3) pa_nil))))) (pg_name (i := 6) sc_gathered.nd rfl (Or.inl rfl)) (pss_cons (ps_aug (i := 5) sc_gathered.nd rfl (Or.inl rfl) (pe_ix (r := rIxT K) ix_tup (pv 6) pe_int (fun _ _ => rfl)) ip_mulW)
    (pss_one (ps_set (i := 4) sc_gathered.nd rfl (Or.inl rfl) (pe_op op_add (pe_op op_mulW (pv 4) (pe_callB call_abs (by rfl) T.b_abs (by decide +kernel) (pa_cons (pe_ix (r := rIxT K) ix_tup (pv 6) pe_int (fun _ _ => rfl)) pa_nil))) (pv 5))))))
    (pss_one (ps_ret (pe_dcall D_times (hr.mono (by decide)) pass0 (pa_cons (pe_dcallV D_make (hr.mono (by decide)) passL (pa_cons (pv 4) (pa_cons (pv 5) pa_nil))) (pa_cons (pe_ix (r := rIxT K) ix_tup (pe_fld (pv 0) rfl) (pv 1) (fun _ _ => rfl)) pa_nil)))))))), ?_⟩
    obtain ⟨x, ws, fs, ds, rfl, hl, hx, hd, h⟩ := h
    have no1 : (("_check_stretch" : Str)) ∉ al := by decide +kernel
    have no2 : (("_factors_met" : Str)) ∉ al := by decide +kernel
    obtain ⟨a1, a2, a3, rfl⟩ : ∃ m ph t, ds = [m, ph, t] := by
      match ds, hl with
      | [m, ph, t], _ => exact ⟨m, ph, t, rfl⟩
    obtain ⟨v_m, vs, rfl, h_m, hd⟩ := dps_cons hd
    obtain ⟨v_p, vs, rfl, h_p, hd⟩ := dps_cons hd
    obtain ⟨v_t, vs, rfl, h_t, hd⟩ := dps_cons hd
    obtain rfl := dps_nil hd
    rcases h with ⟨d, ⟨F, p, s, hg, hfs, m, ph, t, ⟨ea, hm, ht⟩, hfit, rfl⟩, k⟩ | ⟨e, hz, k⟩
    · cases ea
      refine z_drop (K := K) (σ := [some (.ref x), some v_m, some v_p, some v_t, none, none, none]) (d_meth (o_var rfl hx) no1 (ds_cons (d_var ⟨_, rfl, h_m⟩) (ds_cons (d_var ⟨_, rfl, h_p⟩) (ds_cons (d_var ⟨_, rfl, h_t⟩) ds_nil))) rfl ⟨F, p, s, hg, hfs, _, _, _, rfl, okM_nat hm, okPh_nat ph, okT_nat ht, rfl⟩) fun H1 e1 => ?_
      refine z_twoS (K := K) (b := true) (σ := [some (.ref x), some v_m, some v_p, some v_t, none, none, none]) (d_tup (ds_cons d_int (ds_cons d_int ds_nil)) (by show 2 ≤ 1000; decide)) fun y z H2 e2 hy hz => ?_
      cases hy
      cases hz
      have e12 := e1.trans e2
      refine z_forL (K := K) (σ := [some (.ref x), some v_m, some v_p, some v_t, some (.int 0), some (.int 1), none]) (d_meth (o_var rfl (has_grow e12 hx)) no2 (ds_cons (d_var ⟨_, rfl, dp_grow e12 _ _ h_m⟩) (ds_cons (d_var ⟨_, rfl, dp_grow e12 _ _ h_p⟩) (ds_cons (d_var ⟨_, rfl, dp_grow e12 _ _ h_t⟩) ds_nil))) rfl ⟨F, p, s, hg, hfs, m, ph, t, ⟨rfl, hm, ht⟩, rfl⟩)
        (fun i σ' H' => ∃ o, σ' = [some (.ref x), some v_m, some v_p, some v_t, some (.int (topG (fac F m) ph i)), some (.int (botC (fac F m) ph i)), o]) (fun H3 e3 => ⟨none, rfl⟩) ?_ ?_
      · rintro i d v σ' H' D' hd' e3 ⟨o, rfl⟩ hv kk
        have hi : i < t := by
          have := (List.getElem?_eq_some_iff.mp hd').1
          simpa using this
        have ed : d = ratR (fac F m (ph + i)) := by
          rw [List.getElem?_map, List.getElem?_range hi] at hd'
          exact (Option.some.inj hd').symm
        subst ed
        obtain ⟨b1, b2, b3⟩ := fits_pow hfit (Nat.le_of_lt hi) ph
        obtain ⟨_, s1, s2⟩ := fac_ok hg.f hm (ph + i)
        refine z_mulS (i := 5) (a := botC (fac F m) ph i) (σ := [some (.ref x), some v_m, some v_p, some v_t, some (.int (topG (fac F m) ph i)), some (.int (botC (fac F m) ph i)), some v]) rfl (d_ixT (d_var ⟨_, rfl, hv⟩) d_int rfl) (wide_mul b2 (by rw [Int.natAbs_natCast]; exact s2) (by decide) (by decide) (by decide)) fun H3 e4 => ?_
        refine z_set1 (K := K) (σ := [some (.ref x), some v_m, some v_p, some v_t, some (.int (topG (fac F m) ph i)), some (.int (botC (fac F m) ph i * ((fac F m (ph + i)).den : Int))), some v]) (d_add (d_mul (d_var (d := .int _) ⟨_, rfl, .int _⟩) (d_abs (d_ixT (d_var ⟨_, rfl, dp_grow e4 _ _ hv⟩) d_int rfl)) (wide_mul b3 (by rw [Int.natAbs_natCast]; exact s1) (by decide) (by decide) (by decide))) (d_var (d := .int _) ⟨_, rfl, .int _⟩)) fun u H4 e5 hu => ?_
        cases hu
        exact kk _ _ (e4.trans e5) ⟨some v, rfl⟩
      · rintro σ' H' e3 ⟨o, rfl⟩
        rw [List.length_map, List.length_range]
        obtain ⟨b1, b2, _⟩ := fits_pow hfit (Nat.le_refl t) ph
        have bp := bot_pos (fac F m) ph t
        have e13 := e12.trans e3
        have hmp : m < p.length := by have := hg.pl; omega
        have hpm : p.getD m 0 ∈ p := by
          have e : p.getD m 0 = p[m] := by simp [hmp]
          rw [e]; exact List.getElem_mem hmp
        refine z_ret (K := K) (σ := [some (.ref x), some v_m, some v_p, some v_t, some (.int (topG (fac F m) ph t)), some (.int (botC (fac F m) ph t)), o]) (d_call (ds_cons (d_is (d_callE (es := []) (ds_cons (d_var (d := .int _) ⟨_, rfl, .int _⟩) (ds_cons (d_var (d := .int _) ⟨_, rfl, .int _⟩) ds_nil)) (fun _ => .nil) rfl ⟨_, _, rfl, by omega, Nat.lt_trans b2 (Nat.pow_lt_pow_right (by decide) (by decide)), rfl⟩) (G_low _ _ _)) (ds_cons (d_ixT (ds := p.map ratR) (d_fld (o_var rfl (has_grow e13 hx)) TC.cl (TC.na _ (by simp)) (by rw [hfs]; simp [plantF, rowD, sq])) (d_var ⟨_, rfl, dp_grow e13 _ _ h_m⟩) (at_map _ 0 hmp)) ds_nil)) rfl ⟨_, _, rfl, (fits_sz hfit ph).2.mono (by decide), (hg.p0 _ hpm).2.mono (by decide), rfl⟩) fun v H3 e4 hv => k v H3 (e13.trans e4) hv
    · exact xz_drop (σ := [some (.ref x), some v_m, some v_p, some v_t, none, none, none]) (r_meth (o_var rfl hx) no1 (ds_cons (d_var ⟨_, rfl, h_m⟩) (ds_cons (d_var ⟨_, rfl, h_p⟩) (ds_cons (d_var ⟨_, rfl, h_t⟩) ds_nil))) rfl hz k)

abbrev s_grows : Stmt := inClass (topS 25) 5
abbrev N_grows : List Str := ["self", "mode", "top", "bottom"]
theorem sc_grows : FnScope N_grows ["self", "mode"] (defScope s_grows) := ⟨rfl, rfl, rfl, by decide +kernel, rfl, by decide +kernel, by decide +kernel⟩

theorem fits4 {F : List (List Rat)} (h : GoodF F) {m : Nat} (hm : m < F.length) {t : Nat} (ht : t ≤ 6) : Fits (fac F m) t := by
  refine ⟨2 ^ 60, fun k => ?_, ?_⟩
  · obtain ⟨_, a, b⟩ := fac_ok h hm k
    exact ⟨Nat.le_of_lt a, Nat.le_of_lt b⟩
  · have : t = 0 ∨ t = 1 ∨ t = 2 ∨ t = 3 ∨ t = 4 ∨ t = 5 ∨ t = 6 := by omega
    rcases this with rfl | rfl | rfl | rfl | rfl | rfl | rfl <;> decide
theorem ok_grows {f : Addr} {fd : FuncData} (F : Fun K "grows" "Plant.grows" s_grows f fd) (TC : ClsA K mg "Plant" C al) (D_check_mode : MethD P' w K mg base (L2.CX P' w) 3 C "check_mode" ["self", "mode"] (spM K C al 1 (onF fMode) (onG (gMode CM))))
    (D_growth : MethD P' w K mg base (L2.CX P' w) 6 C "growth" ["self", "mode", "phase", "ticks"] (spM K C al 3 (onF fGrowth) (onG (gStretch CM CP CT)))) : FnOk P' w K mg base (L2.CX P' w) 7 f fd ["self", "mode"] (spM K C al 1 (onF fGrows) (onG (gMode CM))) := by
  refine F.okX sc_grows (fun vs H Q E h => ?_) (fun cdv A outer s H vs Q E hr h => ?_)
  · obtain ⟨x, ws, fs, ds, rfl, hl, _, hd, _⟩ := h
    simp [dps_len hd, hl]
  · refine ⟨_, (pss_cons (ps_expr (pe_mcall (pv 0) D_check_mode TC.cl (hr.mono (by decide)) (fun σ => passAt (takes_of rfl rfl rfl rfl) σ) (pa_cons (pv 1) pa_nil)))
    (pss_cons (ps_asg (pe_mcall (pv 0) D_growth TC.cl (hr.mono (by decide)) (fun σ => passAt (takes_of rfl rfl rfl rfl) σ) (pa_cons (pv 1) (pa_cons pe_int (pa_cons (pe_fld (pv 0) rfl) pa_nil)))) (pg_alt (pg_tup rfl (pgs_cons (pg_name (i := 2) sc_grows.nd rfl (Or.inl rfl)) (pgs_cons (pg_name (i := 3) sc_grows.nd rfl (Or.inl rfl)) pgs_nil))) (pg_lst rfl (pgs_cons (pg_name (i := 2) sc_grows.nd rfl (Or.inl rfl)) (pgs_cons (pg_name (i := 3) sc_grows.nd rfl (Or.inl rfl)) pgs_nil)))) rfl)
    (pss_one (ps_ret (pe_cmpR op_ge (pv 2) (pv 3) (nomark _)))))), ?_⟩
    obtain ⟨x, ws, fs, ds, rfl, hl, hx, hd, h⟩ := h
    obtain ⟨m, rfl⟩ : ∃ m, ds = [m] := by
      match ds, hl with
      | [m], _ => exact ⟨m, rfl⟩
    obtain ⟨v_m, vs, rfl, h_m, hd⟩ := dps_cons hd
    obtain rfl := dps_nil hd
    have no : (("check_mode" : Str)) ∉ al := by decide +kernel
    have no2 : (("growth" : Str)) ∉ al := by decide +kernel
    rcases h with ⟨d, ⟨F, p, s, hg, hfs, m', em, hm, rfl⟩, k⟩ | ⟨e, ⟨F, p, s, hg, hfs, m', em, hm, rfl⟩, k⟩
    · cases em
      obtain ⟨l1, l2, l3⟩ := row_len hg.f hm
      refine z_drop (K := K) (σ := [some (.ref x), some v_m, none, none]) (d_meth (o_var rfl hx) no (ds_cons (d_var ⟨_, rfl, h_m⟩) ds_nil) rfl ⟨F, p, s, hg, hfs, _, rfl, okM_nat hm, rfl⟩) fun H1 e1 => ?_
      have hx1 := has_grow e1 hx
      refine z_twoS (K := K) (b := true) (a := .int (absR (P (fac F m') 0 (F.getD 0 []).length)).num) (c := .int ((absR (P (fac F m') 0 (F.getD 0 []).length)).den : Int)) (σ := [some (.ref x), some v_m, none, none]) (d_meth (o_var rfl hx1) no2 (ds_cons (d_var ⟨_, rfl, dp_grow e1 _ _ h_m⟩) (ds_cons d_int (ds_cons (d_fld (o_var rfl hx1) TC.cl (TC.na _ (by simp)) (d := .int ((F.getD 0 []).length : Int)) (by rw [hfs]; simp [plantF])) ds_nil))) rfl ⟨F, p, s, hg, hfs, m', 0, (F.getD 0 []).length, ⟨rfl, hm, by omega⟩, fits4 hg.f hm (by omega), rfl⟩) fun y z H2 e2 hy hz => ?_
      exact z_ret (K := K) (σ := [some (.ref x), some v_m, some y, some z]) (d_ge (d_var ⟨_, rfl, hy⟩) (d_var ⟨_, rfl, hz⟩)) fun v H3 e3 hv => k v H3 ((e1.trans e2).trans e3) hv
    · cases em
      exact xz_drop (σ := [some (.ref x), some v_m, none, none]) (r_meth (o_var rfl hx) no (ds_cons (d_var ⟨_, rfl, h_m⟩) ds_nil) rfl ⟨F, p, s, hg, hfs, _, rfl, hm, rfl⟩ k)

abbrev s_init__ : Stmt := inClass (topS 25) 0
abbrev N_init__ : List Str := ["self", "factors", "pushes", "starts", "row", "mode"]
theorem sc_init__ : FnScope N_init__ ["self", "factors", "pushes", "starts"] (defScope s_init__) := ⟨rfl, rfl, rfl, by decide +kernel, rfl, by decide +kernel, by decide +kernel⟩

theorem flat_row (r : List Rat) : flat (rowD true r) = true := flats_rats r
theorem flats_rows : ∀ F : List (List Rat), flats (F.map (rowD true)) = true
  | [] => rfl
  | r :: F => by
    show (flat (rowD true r) && flats (F.map (rowD true))) = true
    rw [flat_row, flats_rows F]; rfl
theorem flat_fac (F : List (List Rat)) : flat (facD true true F) = true := flats_rows F
theorem flats_grow (p : Nat → Bool) : ∀ n, flats (pick p (fun i => .int (i : Int)) n) = true
  | 0 => rfl
  | n + 1 => by
    rw [pick_next]
    have app : ∀ a b : List PyData, flats a = true → flats b = true → flats (a ++ b) = true := by
      intro a
      induction a with
      | nil => exact fun b _ h => h
      | cons x a ih =>
        intro b h h'
        have h : (flat x && flats a) = true := h
        rw [Bool.and_eq_true] at h
        show (flat x && flats (a ++ b)) = true
        rw [h.1, ih b h.2 h']; rfl
    refine app _ _ (flats_grow p n) ?_
    split <;> rfl
theorem ok_init {f : Addr} {fd : FuncData} (F : Fun K "__init__" "Plant.__init__" s_init__ f fd) (T : Bl mg) (TC : ClsA K mg "Plant" C al) (D_check_factors : Def P' w K mg base CX0 3 "_check_factors" ["factors"] (spD K 1 fCheckF))
    (D_check_lengths : Def P' w K mg base CX0 3 "_check_lengths" ["lengths", "modes", "all_word", "one_word", "least"] (spD K 5 fCheckL)) (D_grows : MethD P' w K mg base (L2.CX P' w) 7 C "grows" ["self", "mode"] (spM K C al 1 (onF fGrows) (onG (gMode CM)))) :
    FnOk P' w K mg base (L2.CX P' w) 8 f fd ["self", "factors", "pushes", "starts"] (spNew K C al 3 fPlant) := by
  refine F.okX sc_init__ (fun vs H Q E h => ?_) (fun cdv A outer s H vs Q E hr h => ?_)
  · obtain ⟨x, dx, ws, ds, fs, rfl, hl, _, hd, _⟩ := h
    simp [dps_len hd, hl]
  · refine ⟨_, (pss_cons (ps_expr (pe_dcall D_check_factors (hr.mono (by decide)) pass0 (pa_cons (pv 1) pa_nil)))
    (pss_cons (ps_expr (pe_dcall D_check_lengths (hr.mono (by decide)) pass0 (pa_cons (pv 2) (pa_cons (pe_callB call_len_seq (by rfl) T.b_len (by decide +kernel) (pa_cons (pv 1) pa_nil)) (pa_cons pe_str (pa_cons pe_str (pa_cons pe_int pa_nil)))))))
    (pss_cons (ps_expr (pe_dcall D_check_lengths (hr.mono (by decide)) pass0 (pa_cons (pv 3) (pa_cons (pe_callB call_len_seq (by rfl) T.b_len (by decide +kernel) (pa_cons (pv 1) pa_nil)) (pa_cons pe_str (pa_cons pe_str (pa_cons pe_int pa_nil)))))))
    (pss_cons (ps_fld (pv 0) (pe_callTy (r := rTupOf K) call_tupOf (by rfl) T.b_tuple (by decide +kernel) (pa_cons (pe_lc (own := [("row", 4)]) (g := gName 4) rfl sc_init__.nd (pi_alt (pi_list (pv 1)) (pi_tup (pv 1))) (blkOk_by (own := [("row", 4)]) (N := N_init__) (sc := defScope s_init__) (by decide +kernel)) (fun _ _ _ _ _ => pg_name (i := 4) sc_init__.nd rfl (Or.inl rfl)) (fun _ _ _ _ _ => pts_nil) (fun _ _ _ _ _ => (pe_callTy (r := rTupOf K) call_tupOf (by rfl) T.b_tuple (by decide +kernel) (pa_cons (pv 4) pa_nil)))) pa_nil)) rfl)
    (pss_cons (ps_fld (pv 0) (pe_callTy (r := rTupOf K) call_tupOf (by rfl) T.b_tuple (by decide +kernel) (pa_cons (pv 2) pa_nil)) rfl)
    (pss_cons (ps_fld (pv 0) (pe_callTy (r := rTupOf K) call_tupOf (by rfl) T.b_tuple (by decide +kernel) (pa_cons (pv 3) pa_nil)) rfl)
    (pss_cons (ps_fld (pv 0) (pe_callB call_len_seq (by rfl) T.b_len (by decide +kernel) (pa_cons (pe_fld (pv 0) rfl) pa_nil)) rfl)
    (pss_cons (ps_fld (pv 0) (pe_callB call_len_seq (by rfl) T.b_len (by decide +kernel) (pa_cons (pe_ix (r := rIxT K) ix_tup (pe_fld (pv 0) rfl) pe_int (fun _ _ => rfl)) pa_nil)) rfl)
    (pss_one (ps_fld (pv 0) (pe_callTy (r := rTupOf K) call_tupOf (by rfl) T.b_tuple (by decide +kernel) (pa_cons (pe_lc (own := [("mode", 5)]) (g := gName 5) rfl sc_init__.nd (pi_range1 rfl T.b_range (pa_cons (pe_fldK K (pv 0)) pa_nil)) (blkOk_by (own := [("mode", 5)]) (N := N_init__) (sc := defScope s_init__) (by decide +kernel)) (fun _ _ _ _ _ => pg_name (i := 5) sc_init__.nd rfl (Or.inl rfl)) (fun _ _ _ _ _ => (pts_one (pt_val (pe_mcall (pv 0) D_grows TC.cl (hr.mono (by decide)) passN (pa_cons (pv 5) pa_nil))))) (fun _ _ _ _ _ => (pv 5))) pa_nil)) rfl)))))))))), ?_⟩
    obtain ⟨x, dx, ws, ds, fs, rfl, hl, hx, hd, ⟨b0, b1, b2, b3, F, p, s, rfl, hg, rfl⟩, k⟩ := h
    obtain ⟨v_f, vs, rfl, h_f, hd⟩ := dps_cons hd
    obtain ⟨v_p, vs, rfl, h_p, hd⟩ := dps_cons hd
    obtain ⟨v_s, vs, rfl, h_s, hd⟩ := dps_cons hd
    obtain rfl := dps_nil hd
    have pl := hg.pl
    have sl := hg.sl
    have fh := hg.f.hi
    refine z_drop (K := K) (σ := [some (.ref x), some v_f, some v_p, some v_s, none, none]) (d_call (ds_cons (d_var ⟨_, rfl, dp_grow rem_ex _ _ h_f⟩) ds_nil) rfl ⟨b0, b1, F, rfl, hg.f, rfl⟩) fun H1 e1 => ?_
    have g1 := (ex_rem (L := x) e1)
    have h_f1 := dp_grow g1 _ _ h_f
    have h_p1 := dp_grow g1 _ _ h_p
    have h_s1 := dp_grow g1 _ _ h_s
    refine z_drop (K := K) (σ := [some (.ref x), some v_f, some v_p, some v_s, none, none]) (d_call (ds_cons (d_var ⟨_, rfl, dp_grow rem_ex _ _ h_p1⟩) (ds_cons (d_is (d_lenS (d_var ⟨_, rfl, dp_grow rem_ex _ _ h_f1⟩)) (by rw [List.length_map, ← pl])) (ds_cons d_str (ds_cons d_str (ds_cons d_int ds_nil))))) rfl ⟨b2, p, _, _, 1, rfl, fun y hy => ?_, by omega, rfl⟩) fun H2 e2 => ?_
    · have := (hg.p0 y hy).1
      have h0 : 0 < y.num := by
        rw [Rat.lt_iff] at this
        simpa using this
      omega
    have g2 := g1.trans (ex_rem (L := x) e2)
    have h_f2 := dp_grow g2 _ _ h_f
    have h_p2 := dp_grow g2 _ _ h_p
    have h_s2 := dp_grow g2 _ _ h_s
    refine z_drop (K := K) (σ := [some (.ref x), some v_f, some v_p, some v_s, none, none]) (d_call (ds_cons (d_var ⟨_, rfl, dp_grow rem_ex _ _ h_s2⟩) (ds_cons (d_is (d_lenS (d_var ⟨_, rfl, dp_grow rem_ex _ _ h_f2⟩)) (by rw [List.length_map, ← sl])) (ds_cons d_str (ds_cons d_str (ds_cons d_int ds_nil))))) rfl ⟨b3, s, _, _, 0, rfl, fun y hy => Rat.num_nonneg.mpr (hg.s0 y hy).1, by omega, rfl⟩) fun H3 e3 => ?_
    have g3 := g2.trans (ex_rem (L := x) e3)
    have hx3 := e3 _ _ (e2 _ _ (e1 _ _ hx))
    -- self.factors
    refine z_fld (K := K) (x := x) (σ := [some (.ref x), some v_f, some v_p, some v_s, none, none]) (d := facD true true F) (d_tupOf (d_is (evn_d (n_lcS (b := b0) (ds := F.map (rowD b1)) (p := fun _ => true) (g := fun i => rowD true (F.getD i [])) (d_var ⟨_, rfl, dp_grow (g3.trans rem_ex) _ _ h_f⟩) ⟨fun y => rfl, fun i y H4 e hi hy => b_yes, fun i y H4 e4 hi _ hy => ?_, fun i _ => flat_row _, itD_mono _, by rw [List.length_map]; omega⟩)) ?_)) rfl hx3 TC.cl (TC.na _ (by simp)) (by show 0 < 1000; decide) (flat_fac F) fun a1 H4 g4 hx4 ha1 => ?_
    · obtain ⟨d, hd, hy⟩ := hy
      rw [List.getElem?_map] at hd
      obtain ⟨r, hr', rfl⟩ := Option.map_eq_some_iff.mp hd
      refine d_is (d_tupS (b := b1) (d_var ⟨_, rfl, hy⟩)) ?_
      show rowD true r = rowD true (F.getD i [])
      rw [List.getD_eq_getElem?_getD, hr']; rfl
    · rw [pick_all, List.length_map]
      congr 1
      refine List.ext_getElem (by simp) fun i q1 q2 => ?_
      simp at q1 q2
      simp [q1]
    have g34 := g3.trans g4
    -- self.pushes, self.starts
    refine z_fld (K := K) (x := x) (σ := [some (.ref x), some v_f, some v_p, some v_s, none, none]) (d := rowD true p) (d_tupS (b := b2) (d_var ⟨_, rfl, dp_grow (g34.trans rem_ex) _ _ h_p⟩)) rfl hx4 TC.cl (TC.na _ (by simp)) (by show 1 < 1000; decide) (flat_row p) fun a2 H5 g5 hx5 ha2 => ?_
    refine z_fld (K := K) (x := x) (σ := [some (.ref x), some v_f, some v_p, some v_s, none, none]) (d := rowD true s) (d_tupS (b := b3) (d_var ⟨_, rfl, dp_grow ((g34.trans g5).trans rem_ex) _ _ h_s⟩)) rfl hx5 TC.cl (TC.na _ (by simp)) (by show 2 < 1000; decide) (flat_row s) fun a3 H6 g6 hx6 ha3 => ?_
    have has3 : Has K H6 x C al [(("factors" : Str), facD true true F), (("pushes" : Str), rowD true p), (("starts" : Str), rowD true s)] := by
      refine ⟨dx, [(("factors" : Str), a1), (("pushes" : Str), a2), (("starts" : Str), a3)], hx6, fun m hm => lookup_out hm (by simp), fun q hq => ?_⟩
      simp only [List.mem_cons, List.not_mem_nil, or_false] at hq
      rcases hq with rfl | rfl | rfl
      · exact ⟨a1, rfl, dp_grow ((g5.trans g6).trans rem_ex) _ _ ha1⟩
      · exact ⟨a2, rfl, dp_grow (g6.trans rem_ex) _ _ ha2⟩
      · exact ⟨a3, rfl, dp_grow rem_ex _ _ ha3⟩
    -- self.modes
    refine z_fld (K := K) (x := x) (σ := [some (.ref x), some v_f, some v_p, some v_s, none, none]) (d := .int (F.length : Int)) (d_is (d_lenS (b := true) (ds := F.map (rowD true)) (d_fld (o_var rfl has3) TC.cl (TC.na _ (by simp)) (by simp [facD, sq]))) (by rw [List.length_map])) rfl hx6 TC.cl (TC.na _ (by simp)) (by show 3 < 1000; decide) rfl fun a4 H7 g7 hx7 ha4 => ?_
    have has4 : Has K H7 x C al [(("factors" : Str), facD true true F), (("pushes" : Str), rowD true p), (("starts" : Str), rowD true s), (("modes" : Str), .int (F.length : Int))] := by
      refine ⟨dx, [(("factors" : Str), a1), (("pushes" : Str), a2), (("starts" : Str), a3), (("modes" : Str), a4)], hx7, fun m hm => lookup_out hm (by simp), fun q hq => ?_⟩
      simp only [List.mem_cons, List.not_mem_nil, or_false] at hq
      rcases hq with rfl | rfl | rfl | rfl
      · exact ⟨a1, rfl, dp_grow (((g5.trans g6).trans g7).trans rem_ex) _ _ ha1⟩
      · exact ⟨a2, rfl, dp_grow ((g6.trans g7).trans rem_ex) _ _ ha2⟩
      · exact ⟨a3, rfl, dp_grow (g7.trans rem_ex) _ _ ha3⟩
      · exact ⟨a4, rfl, dp_grow rem_ex _ _ ha4⟩
    -- self.period
    refine z_fld (K := K) (x := x) (σ := [some (.ref x), some v_f, some v_p, some v_s, none, none]) (d := .int ((F.getD 0 []).length : Int)) (d_is (d_lenS (b := true) (ds := (F.getD 0 []).map ratR) (d_ixT (ds := F.map (rowD true)) (i := ((0 : Nat) : Int)) (d_fld (o_var rfl has4) TC.cl (TC.na _ (by simp)) (by simp [facD, sq])) d_int (at_map _ [] hg.f.lo))) (by rw [List.length_map])) rfl hx7 TC.cl (TC.na _ (by simp)) (by show 4 < 1000; decide) rfl fun a5 H8 g8 hx8 ha5 => ?_
    have g58 := ((g5.trans g6).trans g7).trans g8
    have fields : ∀ {H9 : Hp} {as : List (Str × V)}, Ex (rem H8 x) (rem H9 x) → H9 x = some (.ins C dx ([(("factors" : Str), a1), (("pushes" : Str), a2), (("starts" : Str), a3), (("modes" : Str), a4), (("period" : Str), a5)] ++ as)) → (∀ q ∈ as, q.1 ∈ al) → Has K H9 x C al (plantF F p s) := by
      intro H9 as g9 hx9 ha
      refine ⟨dx, _, hx9, fun m hm => lookup_out hm (fun q hq => ?_), fun q hq => ?_⟩
      · rcases List.mem_append.mp hq with hq | hq
        · simp only [List.mem_cons, List.not_mem_nil, or_false] at hq
          rcases hq with rfl | rfl | rfl | rfl | rfl <;> simp
        · exact ha q hq
      · simp only [plantF, List.mem_cons, List.not_mem_nil, or_false] at hq
        rcases hq with rfl | rfl | rfl | rfl | rfl
        · exact ⟨a1, rfl, dp_grow ((g58.trans g9).trans rem_ex) _ _ ha1⟩
        · exact ⟨a2, rfl, dp_grow ((((g6.trans g7).trans g8).trans g9).trans rem_ex) _ _ ha2⟩
        · exact ⟨a3, rfl, dp_grow (((g7.trans g8).trans g9).trans rem_ex) _ _ ha3⟩
        · exact ⟨a4, rfl, dp_grow ((g8.trans g9).trans rem_ex) _ _ ha4⟩
        · exact ⟨a5, rfl, dp_grow (g9.trans rem_ex) _ _ ha5⟩
    have has5 := fields (as := []) (Ex.refl _) hx8 (by simp)
    -- self.growing
    refine z_fld1 (K := K) (x := x) (σ := [some (.ref x), some v_f, some v_p, some v_s, none, none]) (d := .tuple (pick (growsB F) (fun i => .int (i : Int)) F.length)) (d_tupOf (d_is (evn_d (n_lcR1 (b := (F.length : Int)) (p := growsB F) (g := fun i => .int (i : Int)) (ds_cons (d_fld (o_var rfl has5) TC.cl (TC.na _ (by simp)) (d := .int (F.length : Int)) (by simp [plantF])) ds_nil) (by omega) ⟨fun y => rfl, fun i y H9 e9 hi hy => ?_, fun i y H9 e9 hi _ hy => ?_, fun i _ => rfl, itR_mono _, by omega⟩)) (by rw [Int.toNat_natCast]))) rfl hx8 TC.cl (TC.na _ (by simp)) (by show 5 < 1000; decide) (flats_grow _ _) fun a6 H9 g9 hx9 ha6 => ?_
    · cases hy
      rw [Int.toNat_natCast] at hi
      exact b_val (d_meth (o_var rfl (has_grow e9 has5)) (by decide +kernel) (ds_cons (d_var (d := .int (i : Int)) ⟨_, rfl, by rw [Int.zero_add]; exact .int _⟩) ds_nil) rfl ⟨F, p, s, hg, rfl, i, rfl, hi, rfl⟩)
    · cases hy
      exact d_var (d := .int (i : Int)) ⟨_, rfl, by rw [Int.zero_add]; exact .int _⟩
    · refine k H9 ?_ (fields (as := [(("growing" : Str), a6)]) g9 hx9 (by simp))
      exact (((g34.trans g58).trans g9))
end
end K03
namespace Dat
open PySem L2 Evl
section
variable {K : PySem.W.Frag} {te tx tb : TE} {ta : TA} {σ : L2.St} {H : Hp}
theorem r_lcTup {j : Nat} {vs : List Nat} {d0 : PyData} {ds : List PyData} (h : EvD K tx σ H (.tuple (d0 :: ds))) (he : ∀ x H1, Ex H H1 → Dp K H1 x d0 → XR te ((wipe σ vs).set j (some x)) H1) : XR (tLcX (iTup K tx) (gName j) te vs) σ H := fun H1 e Q => by
  refine h H1 e _ fun v H2 e2 hv => ?_
  cases hv with
  | tup hs ha =>
    rename_i a xs
    obtain ⟨x0, ws, rfl, hx, _⟩ := dps_cons ha
    refine ⟨a, rfl, ⟨_, hs⟩, fun D hD => ⟨⟨_, x0, ex_t (Ex.new hD) hs, rfl⟩, fun x H' y => ?_⟩⟩
    obtain ⟨rfl, hy⟩ := y
    have := hy _ (ex_t (Ex.new hD) hs)
    cases this
    exact he x0 _ (e.trans (e2.trans (Ex.new hD))) (dp_grow (Ex.new hD) _ _ hx) _ (Ex.refl _) _
theorem r_make1 {C : Addr} {sp : Sp} {dvs : List V} {E : XK} (h : XR te σ H) : XR (tMake C sp dvs E (tCons te ta)) σ H := fun H1 x Q => h H1 x _
theorem r_alt {t1 : TE} (h : XR te σ H) : XR (tAlt t1 te) σ H := fun H1 x Q => .inr (h H1 x Q)
theorem d_alt1 {t2 : TE} {d : PyData} (h : EvD K te σ H d) : EvD K (tAlt te t2) σ H d := fun H1 x Q k => .inl (h H1 x Q k)
theorem dps_put {H : Hp} {d : PyData} {v : V} {vs : List V} {ds : List PyData} {j : Nat} (h : DpAll K H vs ds) (hv : Dp K H v d) : DpAll K H (vs.set j v) (ds.set j d) := dps_set h hv
theorem z_lists {D : L2.Ends} {ts : TS} {i j : Nat} {vs : List Nat} {Ls : List (List PyData)} (h : EvD K tx σ H (.tuple (Ls.map PyData.tuple))) (hn : Ls.length ≤ 40000) (hw : ∀ x, wipe ((wipe σ vs).set j (some x)) vs = wipe σ vs) (hl : ∀ x, ((wipe σ vs).set j (some x))[j]? = some (some x))
    (k : ∀ Hb p rs yss H2, Ex H Hb → Ex Hb H2 → Rows Hb H2 p rs yss → rs.length = Ls.length → (∀ (i : Nat) ys L, yss[i]? = some ys → Ls[i]? = some L → DpAll K Hb ys L) → ts D (σ.set i (some (.ref p))) H2) :
    tSeq (tAsg (tLc (iTup K tx) (gName j) tYes (tCB (rListOf K) (tCons (tVar j) tNil)) vs) (gName i)) ts D σ H := n_lists h hn hw hl H (Ex.refl H) (fun x H1 => ts D (σ.set i (some x)) H1) k
theorem nodup_inj {α : Type} : ∀ {l : List α} {i j : Nat} {a : α}, l.Nodup → l[i]? = some a → l[j]? = some a → i = j
  | [], i, j, a, _, h, _ => by cases h
  | b :: l, 0, 0, a, _, _, _ => rfl
  | b :: l, 0, j + 1, a, nd, h, h' => by
    cases h
    exact absurd (List.mem_of_getElem? (show l[j]? = some b from h')) (List.nodup_cons.mp nd).1
  | b :: l, i + 1, 0, a, nd, h, h' => by
    cases h'
    exact absurd (List.mem_of_getElem? (show l[i]? = some b from h)) (List.nodup_cons.mp nd).1
  | b :: l, i + 1, j + 1, a, nd, h, h' => by rw [nodup_inj (List.nodup_cons.mp nd).2 (show l[i]? = some a from h) (show l[j]? = some a from h')]
theorem dps_rows {H : Hp} : ∀ {rs : List Addr} {Ls : List PyData}, rs.length = Ls.length → (∀ (i : Nat) r d, rs[i]? = some r → Ls[i]? = some d → ∃ ys b, H r = some (.lst ys) ∧ d = .list b ∧ DpAll K H ys b) → DpAll K H (rs.map V.ref) Ls
  | [], [], _, _ => .nil
  | r :: rs, d :: Ls, hl, h => by
    obtain ⟨ys, b, h1, rfl, h2⟩ := h 0 r d rfl rfl
    exact .cons (.lst (SqL.of h1) h2) (dps_rows (by simpa using hl) fun i r d hr hd => h (i + 1) r d (by simpa using hr) (by simpa using hd))
end
end Dat
namespace K03
open PySem L2 Evl Dat
theorem good_set {F : List (List Rat)} {p s : List Rat} (h : GoodP F p s) {m : Nat} (hm : m < F.length) (i : Nat) {x : Rat} (hx : x ≠ 0 ∧ Sz 60 x) : GoodP (F.set m ((F.getD m []).set i (-x))) p s := by
  obtain ⟨n, n1, n4, hn⟩ := h.f.row
  refine ⟨⟨by rw [List.length_set]; exact h.f.lo, by rw [List.length_set]; exact h.f.hi, ⟨n, n1, n4, fun r hr => ?_⟩, ?_⟩, by rw [List.length_set]; exact h.pl, by rw [List.length_set]; exact h.sl, h.p0, h.s0⟩
  · rcases List.mem_or_eq_of_mem_set hr with q | q
    · exact hn r q
    · rw [q, List.length_set]; exact hn _ (row_mem hm)
  · intro r hr y hy
    rcases List.mem_or_eq_of_mem_set hr with q | q
    · exact h.f.fac r q y hy
    · rw [q] at hy
      rcases List.mem_or_eq_of_mem_set hy with z | z
      · exact h.f.fac _ (row_mem hm) y z
      · rw [z]
        exact ⟨fun w => hx.1 (by have := congrArg (fun t : Rat => -t) w; simpa using this), sz_neg hx.2⟩
abbrev OnO := List (List Rat) → List Rat → List Rat → List PyData → List (Str × PyData) → Prop
def onO (f : OnO) (fs : List (Str × PyData)) (ds : List PyData) (d : List (Str × PyData)) : Prop := ∃ F p s, GoodP F p s ∧ fs = plantF F p s ∧ f F p s ds d
def fUnit : OnO := fun F p s ds fs => ∃ (m : Nat) (u : Rat), ds = [.int (m : Int), ratR u] ∧ m < F.length ∧ 0 < u ∧ Sz 1500 u ∧ GoodP F (p.set m (p.getD m 0 * u)) (s.set m (s.getD m 0 * u)) ∧ fs = plantF F (p.set m (p.getD m 0 * u)) (s.set m (s.getD m 0 * u))
def badUnit (u : PyData) : Prop := ratD u = false ∨ ∃ a b : Int, u = .tuple [.int a, .int b] ∧ a ≤ 0
def gUnit (CM CU : Addr) : OnG := fun F _ _ ds e => ∃ m u, ds = [m, u] ∧ ((okM F m = false ∧ e = (CM, [(("mode" : Str), m)])) ∨ (okM F m = true ∧ badUnit u ∧ e = (CU, [(("unit" : Str), u)])))
def fSign : OnO := fun F p s ds fs => ∃ m ph : Nat, ds = [.int (m : Int), .int (ph : Int)] ∧ m < F.length ∧ fs = plantF (F.set m ((F.getD m []).set (ph % (F.getD 0 []).length) (-fac F m ph))) p s
def gSign (CM CP : Addr) : OnG := fun F _ _ ds e => ∃ m ph, ds = [m, ph] ∧ ((okM F m = false ∧ e = (CM, [(("mode" : Str), m)])) ∨ (okM F m = true ∧ okPh ph = false ∧ e = (CP, [(("phase" : Str), ph)])))
def gTurned (CP : Addr) : OnG := fun F _ _ ds e => ∃ ph, ds = [ph] ∧ okPh ph = false ∧ e = (CP, [(("phase" : Str), ph)])
def fRepd : OnO := fun F p s ds fs => ∃ n : Nat, ds = [.int (n : Int)] ∧ 1 ≤ n ∧ n * (F.getD 0 []).length ≤ 4 ∧ fs = plantF (F.map fun r => (List.replicate n r).flatten) p s
def gRepd (CR : Addr) : OnG := fun F _ _ ds e => ∃ q, ds = [q] ∧ (wholeIn q (.int 1) .none = false ∨ ∃ n : Int, q = .int n ∧ n.natAbs < 2 ^ 100 ∧ 4 < n * ((F.getD 0 []).length : Int)) ∧ e = (CR, [(("repeats" : Str), q)])
section
variable {P' : Program} {w : World} {K : PySem.W.Frag} {mg : Str → Option Value} {base : Heap} {C CM CP CT CB CU CR : Addr}
abbrev MkP (P : Program) (w : World) (K : PySem.W.Frag) (mg : Str → Option Value) (base : Heap) (C : Addr) : Prop := MakeD  P w K mg base (L2.CX  P w) 8 "Plant" C ["self", "factors", "pushes", "starts"] (spNew K C al 3 fPlant)

abbrev s_with_unit : Stmt := inClass (topS 25) 6
abbrev N_with_unit : List Str := ["self", "mode", "unit", "pushes", "starts"]
theorem sc_with_unit : FnScope N_with_unit ["self", "mode", "unit"] (defScope s_with_unit) := ⟨rfl, rfl, rfl, by decide +kernel, rfl, by decide +kernel, by decide +kernel⟩

theorem ok_with_unit {f : Addr} {fd : FuncData} (F : Fun K "with_unit" "Plant.with_unit" s_with_unit f fd) (T : Bl mg) (TC : ClsA K mg "Plant" C al) (TUn : Cl1 P' w K mg base "BadUnit" CU "unit") (D_check_mode : MethD P' w K mg base (L2.CX P' w) 3 C "check_mode" ["self", "mode"] (spM K C al 1 (onF fMode) (onG (gMode CM))))
    (D_is_ratio : Def P' w K mg base CX0 2 "is_ratio" ["thing"] (spD K 1 fIsRatio)) (D_times : Def P' w K mg base CX0 1 "times" ["one", "other"] (spD K 2 fTimesR)) (D_Plant : MkP P' w K mg base C) :
    FnOk P' w K mg base (L2.CX P' w) 10 f fd ["self", "mode", "unit"] (spMO K C al 2 (onO fUnit) (onG (gUnit CM CU))) := by
  refine F.okX sc_with_unit (fun vs H Q E h => ?_) (fun cdv A outer s H vs Q E hr h => ?_)
  · obtain ⟨x, ws, fs, ds, rfl, hl, _, hd, _⟩ := h
    simp [dps_len hd, hl]
  · refine ⟨_, (pss_cons (ps_expr (pe_mcall (pv 0) D_check_mode TC.cl (hr.mono (by decide)) (fun σ => passAt (takes_of rfl rfl rfl rfl) σ) (pa_cons (pv 1) pa_nil)))
    (pss_cons (ps_if (PW.pt (pw_or (pt_not (pt_val (pe_dcall D_is_ratio (hr.mono (by decide)) pass0 (pa_cons (pv 2) pa_nil)))) (pw_or1 (pt_cmpR op_le (pe_ix (r := rIxT K) ix_tup (pv 2) pe_int (fun _ _ => rfl)) pe_int (nomark _))))) (pss_one (ps_raise rfl (takes_of rfl rfl rfl rfl) (pmk_c1 TUn (hr.mono (by decide)) (pa_cons (pv 2) pa_nil)))) pss_nil)
    (pss_cons (ps_set (i := 3) sc_with_unit.nd rfl (Or.inl rfl) (pe_callTy (r := rListOf K) call_list_of (by rfl) T.b_list (by decide +kernel) (pa_cons (pe_fld (pv 0) rfl) pa_nil)))
    (pss_cons (ps_set (i := 4) sc_with_unit.nd rfl (Or.inl rfl) (pe_callTy (r := rListOf K) call_list_of (by rfl) T.b_list (by decide +kernel) (pa_cons (pe_fld (pv 0) rfl) pa_nil)))
    (pss_cons (ps_asg (pe_dcall D_times (hr.mono (by decide)) pass0 (pa_cons (pe_ix (r := rIxL K) ix_list (pv 3) (pv 1) (fun _ _ => rfl)) (pa_cons (pv 2) pa_nil))) (pg_sub (pv 3) (pv 1) set_list) rfl)
    (pss_cons (ps_asg (pe_dcall D_times (hr.mono (by decide)) pass0 (pa_cons (pe_ix (r := rIxL K) ix_list (pv 4) (pv 1) (fun _ _ => rfl)) (pa_cons (pv 2) pa_nil))) (pg_sub (pv 4) (pv 1) set_list) rfl)
    (pss_one (ps_ret (pe_mk D_Plant (hr.mono (by decide)) passL (pa_cons (pe_fld (pv 0) rfl) (pa_cons (pv 3) (pa_cons (pv 4) pa_nil)))))))))))), ?_⟩
    obtain ⟨x, ws, fs, ds, rfl, hl, hx, hd, h⟩ := h
    obtain ⟨a1, a2, rfl⟩ : ∃ m u, ds = [m, u] := by
      match ds, hl with
      | [m, u], _ => exact ⟨m, u, rfl⟩
    obtain ⟨v_m, vs, rfl, h_m, hd⟩ := dps_cons hd
    obtain ⟨v_u, vs, rfl, h_u, hd⟩ := dps_cons hd
    obtain rfl := dps_nil hd
    have no : (("check_mode" : Str)) ∉ al := by decide +kernel
    rcases h with ⟨d, ⟨F, p, s, hg, hfs, m, u, ea, hm, hu, su, hg', rfl⟩, k⟩ | ⟨e, ⟨F, p, s, hg, hfs, m, u, ea, hz⟩, k⟩
    · cases ea
      refine z_drop (K := K) (σ := [some (.ref x), some v_m, some v_u, none, none]) (d_meth (o_var rfl hx) no (ds_cons (d_var ⟨_, rfl, h_m⟩) ds_nil) rfl ⟨F, p, s, hg, hfs, _, rfl, okM_nat hm, rfl⟩) fun H1 e1 => ?_
      have un : 0 < u.num := by
        rw [Rat.lt_iff] at hu
        simpa using hu
      refine z_if (b := false) (σ := [some (.ref x), some v_m, some v_u, none, none]) (b_is (b_or (b_not (b_val (d_call (ds_cons (d_var ⟨_, rfl, dp_grow e1 _ _ h_u⟩) ds_nil) rfl ⟨_, rfl, rfl⟩))) (fun _ => b_test (d_le (d_ixT (d_var ⟨_, rfl, dp_grow e1 _ _ h_u⟩) d_int rfl) d_int))) (by rw [ratD_ok, decide_eq_false (by omega)]; rfl)) (fun c H2 e2 => by cases c) (fun c H2 e2 => ?_)
      refine z_nx ?_
      have e12 := e1.trans e2
      subst hfs
      refine z_fresh (K := K) (σ := [some (.ref x), some v_m, some v_u, none, none]) (ds := p.map ratR) (f_listS (b := true) (d_fld (o_var rfl (has_grow e12 hx)) TC.cl (TC.na _ (by simp)) (by simp [plantF, rowD]))) fun p1 xs1 H3 n1 e3 hp1 ha1 => ?_
      have e13 := e12.trans e3
      refine z_fresh (K := K) (σ := [some (.ref x), some v_m, some v_u, some (.ref p1), none]) (ds := s.map ratR) (f_listS (b := true) (d_fld (o_var rfl (has_grow e13 hx)) TC.cl (TC.na _ (by simp)) (by simp [plantF, rowD]))) fun p2 xs2 H4 n2 e4 hp2 ha2 => ?_
      have e14 := e13.trans e4
      have hp1' := e4 _ _ hp1
      have np : p1 ≠ p2 := fun z => by rw [z, n2] at hp1; cases hp1
      have nb1 : H p1 = none := fresh_back e12 n1
      have nb2 : H p2 = none := fresh_back e13 n2
      have b4 : Ex H (rem (rem H4 p1) p2) := ex_fresh (ex_fresh e14 nb1) nb2
      have hp2r : rem H4 p1 p2 = some (.lst xs2) := (rem_ne np.symm).trans hp2
      have c1 : DpAll K (rem (rem H4 p1) p2) xs1 (p.map ratR) := dps_rem hp2r noTup_l _ _ (flats_rats p) (dps_rem hp1' noTup_l _ _ (flats_rats p) (dps_grow e4 _ _ ha1))
      have c2 : DpAll K (rem (rem H4 p1) p2) xs2 (s.map ratR) := dps_rem hp2r noTup_l _ _ (flats_rats s) (dps_rem hp1' noTup_l _ _ (flats_rats s) ha2)
      have up : ∀ {H : Hp}, Ex (rem (rem H p1) p2) H := fun {H} => rem_ex.trans rem_ex
      have hml : m < p.length := by have := hg.pl; omega
      have hms : m < s.length := by have := hg.sl; omega
      have hpm : p.getD m 0 ∈ p := by
        have e : p.getD m 0 = p[m] := by simp [hml]
        rw [e]; exact List.getElem_mem hml
      have hsm : s.getD m 0 ∈ s := by
        have e : s.getD m 0 = s[m] := by simp [hms]
        rw [e]; exact List.getElem_mem hms
      have h_m4 := dp_grow b4 _ _ h_m
      have h_u4 := dp_grow b4 _ _ h_u
      cases h_m
      -- pushes[mode]
      refine z_lput (K := K) (S := p1) (vs := xs1) (j := m) (σ := [some (.ref x), some (.int (m : Int)), some v_u, some (.ref p1), some (.ref p2)]) rfl hp1' (by rw [dps_len c1, List.length_map]; exact hml) (d := ratR (p.getD m 0 * u)) (d_call (ds_cons (d_ixL (ds := p.map ratR) (d_var ⟨_, rfl, .lst (SqL.of hp1') (dps_grow up _ _ c1)⟩) (d_var ⟨_, rfl, .int _⟩) (at_map _ 0 hml)) (ds_cons (d_var ⟨_, rfl, dp_grow up _ _ h_u4⟩) ds_nil)) rfl ⟨_, _, rfl, (hg.p0 _ hpm).2.mono (by decide), su, rfl⟩) (fun H5 _ => ev_var rfl) fun y H5 H6 e5 hy e6 => ?_
      have e46 := e5.trans e6
      have hp1b := e46 _ _ hp1'
      have hp2b := e46 _ _ hp2
      have b6 : Ex (rem (rem H4 p1) p2) (rem (rem H6 p1) p2) := ex_rem (ex_rem e46)
      have hp2r6 : rem H6 p1 p2 = some (.lst xs2) := (rem_ne np.symm).trans hp2b
      have hyb : Dp K (rem (rem H6 p1) p2) y (ratR (p.getD m 0 * u)) := dp_rem hp2r6 noTup_l _ _ rfl (dp_rem hp1b noTup_l _ _ rfl (dp_grow e6 _ _ hy))
      have q6 : rem (rem (upd H6 p1 (.lst (xs1.set m y))) p1) p2 = rem (rem H6 p1) p2 := by rw [rem_upd]
      have d1 : DpAll K (rem (rem H6 p1) p2) (xs1.set m y) ((p.map ratR).set m (ratR (p.getD m 0 * u))) := dps_set (dps_grow b6 _ _ c1) hyb
      have c26 := dps_grow b6 _ _ c2
      have hp2c : upd H6 p1 (.lst (xs1.set m y)) p2 = some (.lst xs2) := by rw [upd_ne np.symm]; exact hp2b
      have hp1c : upd H6 p1 (.lst (xs1.set m y)) p1 = some (.lst (xs1.set m y)) := upd_same
      generalize upd H6 p1 (.lst (xs1.set m y)) = H7 at hp1c hp2c q6
      rw [← q6] at d1 c26 b6
      -- starts[mode]
      refine z_lput (K := K) (S := p2) (vs := xs2) (j := m) (σ := [some (.ref x), some (.int (m : Int)), some v_u, some (.ref p1), some (.ref p2)]) rfl hp2c (by rw [dps_len c26, List.length_map]; exact hms) (d := ratR (s.getD m 0 * u)) (d_call (ds_cons (d_ixL (ds := s.map ratR) (d_var ⟨_, rfl, .lst (SqL.of hp2c) (dps_grow up _ _ c26)⟩) (d_var ⟨_, rfl, .int _⟩) (at_map _ 0 hms)) (ds_cons (d_var ⟨_, rfl, dp_grow (b6.trans up) _ _ h_u4⟩) ds_nil)) rfl ⟨_, _, rfl, (hg.s0 _ hsm).2.mono (by decide), su, rfl⟩) (fun H5 _ => ev_var rfl) fun z H8 H9 e8 hz e9 => ?_
      have e79 := e8.trans e9
      have hp1d := e79 _ _ hp1c
      have hp2d := e79 _ _ hp2c
      have b9 : Ex (rem (rem H7 p1) p2) (rem (rem H9 p1) p2) := ex_rem (ex_rem e79)
      have hp2r9 : rem H9 p1 p2 = some (.lst xs2) := (rem_ne np.symm).trans hp2d
      have hzb : Dp K (rem (rem H9 p1) p2) z (ratR (s.getD m 0 * u)) := dp_rem hp2r9 noTup_l _ _ rfl (dp_rem hp1d noTup_l _ _ rfl (dp_grow e9 _ _ hz))
      have q9 : rem (rem (upd H9 p2 (.lst (xs2.set m z))) p1) p2 = rem (rem H9 p1) p2 := by rw [rem_comm, rem_upd, rem_comm]
      have d1' := dps_grow b9 _ _ d1
      have d2 : DpAll K (rem (rem H9 p1) p2) (xs2.set m z) ((s.map ratR).set m (ratR (s.getD m 0 * u))) := dps_set (dps_grow b9 _ _ c26) hzb
      have hp1e : upd H9 p2 (.lst (xs2.set m z)) p1 = some (.lst (xs1.set m y)) := by rw [upd_ne np]; exact hp1d
      have hp2e : upd H9 p2 (.lst (xs2.set m z)) p2 = some (.lst (xs2.set m z)) := upd_same
      generalize upd H9 p2 (.lst (xs2.set m z)) = HA at hp1e hp2e q9
      have bA := b4.trans (b6.trans b9)
      rw [← q9] at d1' d2 bA
      have map_set : ∀ (l : List Rat) (m : Nat) (q : Rat), (l.map ratR).set m (ratR q) = (l.set m q).map ratR := fun l m q => by rw [List.map_set]
      rw [map_set] at d1' d2
      exact zo_ret (σ := [some (.ref x), some (.int (m : Int)), some v_u, some (.ref p1), some (.ref p2)]) (o_make (ds_cons (d_fld (o_var rfl (has_grow (bA.trans up) hx)) TC.cl (TC.na _ (by simp)) (d := facD true true F) (by simp [plantF])) (ds_cons (d_var (d := rowD false (p.set m (p.getD m 0 * u))) ⟨_, rfl, .lst (SqL.of hp1e) (dps_grow up _ _ d1')⟩) (ds_cons (d_var (d := rowD false (s.set m (s.getD m 0 * u))) ⟨_, rfl, .lst (SqL.of hp2e) (dps_grow up _ _ d2)⟩) ds_nil))) rfl ⟨true, true, false, false, F, _, _, rfl, hg', rfl⟩) fun y H' e hy => k y H' ((bA.trans up).trans e) hy
    · cases ea
      rcases hz with ⟨hm, rfl⟩ | ⟨hm, hu, rfl⟩
      · exact xz_drop (σ := [some (.ref x), some v_m, some v_u, none, none]) (r_meth (o_var rfl hx) no (ds_cons (d_var ⟨_, rfl, h_m⟩) ds_nil) rfl ⟨F, p, s, hg, hfs, _, rfl, hm, rfl⟩ k)
      · refine z_drop (K := K) (σ := [some (.ref x), some v_m, some v_u, none, none]) (d_meth (o_var rfl hx) no (ds_cons (d_var ⟨_, rfl, h_m⟩) ds_nil) rfl ⟨F, p, s, hg, hfs, _, rfl, hm, rfl⟩) fun H1 e1 => ?_
        refine z_if (b := true) (σ := [some (.ref x), some v_m, some v_u, none, none]) ?_ (fun c H2 e2 => x_raiseD (E := E) (d_var ⟨_, rfl, dp_grow (e1.trans e2) _ _ h_u⟩) (rai_grow (e1.trans e2) k)) (fun c H2 e2 => by cases c)
        rcases hu with hu | ⟨a, b, rfl, ha⟩
        · exact b_is (b_or (b := true) (b_not (b_val (d_call (ds_cons (d_var ⟨_, rfl, dp_grow e1 _ _ h_u⟩) ds_nil) rfl ⟨_, rfl, rfl⟩))) (fun c => by rw [hu] at c; cases c)) (by rw [hu]; rfl)
        · exact b_is (b_or (b_not (b_val (d_call (ds_cons (d_var ⟨_, rfl, dp_grow e1 _ _ h_u⟩) ds_nil) rfl ⟨_, rfl, rfl⟩))) (fun _ => b_test (d_le (d_ixT (d_var ⟨_, rfl, dp_grow e1 _ _ h_u⟩) d_int rfl) d_int))) (by rw [decide_eq_true ha, Bool.or_true])

abbrev s_with_sign : Stmt := inClass (topS 25) 7
abbrev N_with_sign : List Str := ["self", "mode", "phase", "rows", "row", "at"]
theorem sc_with_sign : FnScope N_with_sign ["self", "mode", "phase"] (defScope s_with_sign) := ⟨rfl, rfl, rfl, by decide +kernel, rfl, by decide +kernel, by decide +kernel⟩

theorem ok_with_sign {f : Addr} {fd : FuncData} (F : Fun K "with_sign" "Plant.with_sign" s_with_sign f fd) (T : Bl mg) (TC : ClsA K mg "Plant" C al) (D_check_mode : MethD P' w K mg base (L2.CX P' w) 3 C "check_mode" ["self", "mode"] (spM K C al 1 (onF fMode) (onG (gMode CM))))
    (D_check_phase : DefV P' w K mg base (L2.CX P' w) 3 "check_phase" ["phase"] [] (spX K 1 fPhase (gPhase CP))) (D_negative : Def P' w K mg base CX0 1 "negative" ["one"] (spD K 1 fNegative)) (D_Plant : MkP P' w K mg base C) :
    FnOk P' w K mg base (L2.CX P' w) 10 f fd ["self", "mode", "phase"] (spMO K C al 2 (onO fSign) (onG (gSign CM CP))) := by
  refine F.okX sc_with_sign (fun vs H Q E h => ?_) (fun cdv A outer s H vs Q E hr h => ?_)
  · obtain ⟨x, ws, fs, ds, rfl, hl, _, hd, _⟩ := h
    simp [dps_len hd, hl]
  · refine ⟨_, (pss_cons (ps_expr (pe_mcall (pv 0) D_check_mode TC.cl (hr.mono (by decide)) (fun σ => passAt (takes_of rfl rfl rfl rfl) σ) (pa_cons (pv 1) pa_nil)))
    (pss_cons (ps_expr (pe_dcallS D_check_phase (hr.mono (by decide)) (fun σ => passAt (takes_of rfl rfl rfl rfl) σ) (pa_cons (pv 2) pa_nil)))
    (pss_cons (ps_setLc (i := 3) (own := [("row", 4)]) (g := gName 4) rfl sc_with_sign.nd rfl rfl (sw_true rfl rfl rfl (by decide +kernel)) (pi_tup (pe_fldK K (pv 0))) (blkOk_by (own := [("row", 4)]) (N := N_with_sign) (sc := defScope s_with_sign) (by decide +kernel)) (fun _ _ _ _ _ => pg_name (i := 4) sc_with_sign.nd rfl (Or.inl rfl)) (fun _ _ _ _ _ => pts_nil) (fun _ _ _ _ _ => (pe_callTy (r := rListOf K) call_list_of (by rfl) T.b_list (by decide +kernel) (pa_cons (pv 4) pa_nil))))
    (pss_cons (ps_set (i := 5) sc_with_sign.nd rfl (Or.inl rfl) (pe_op op_mod (pv 2) (pe_fld (pv 0) rfl)))
    (pss_cons (ps_asg (pe_dcall D_negative (hr.mono (by decide)) pass0 (pa_cons (pe_ix (r := rIxL K) ix_list (pe_ix (r := rIxL K) ix_list (pv 3) (pv 1) (fun _ _ => rfl)) (pv 5) (fun _ _ => rfl)) pa_nil)) (pg_sub (pe_ix (r := rIxL K) ix_list (pv 3) (pv 1) (fun _ _ => rfl)) (pv 5) set_list) rfl)
    (pss_one (ps_ret (pe_mk D_Plant (hr.mono (by decide)) passL (pa_cons (pv 3) (pa_cons (pe_fld (pv 0) rfl) (pa_cons (pe_fld (pv 0) rfl) pa_nil))))))))))), ?_⟩
    obtain ⟨x, ws, fs, ds, rfl, hl, hx, hd, h⟩ := h
    obtain ⟨a1, a2, rfl⟩ : ∃ m u, ds = [m, u] := by
      match ds, hl with
      | [m, u], _ => exact ⟨m, u, rfl⟩
    obtain ⟨v_m, vs, rfl, h_m, hd⟩ := dps_cons hd
    obtain ⟨v_p, vs, rfl, h_p, hd⟩ := dps_cons hd
    obtain rfl := dps_nil hd
    have no : (("check_mode" : Str)) ∉ al := by decide +kernel
    rcases h with ⟨d, ⟨F, p, s, hg, hfs, m, ph, ea, hm, rfl⟩, k⟩ | ⟨e, ⟨F, p, s, hg, hfs, m, ph, ea, hz⟩, k⟩
    · cases ea
      cases h_m
      cases h_p
      subst hfs
      obtain ⟨l1, l2, l3⟩ := row_len hg.f hm
      refine z_drop (K := K) (σ := [some (.ref x), some (.int (m : Int)), some (.int (ph : Int)), none, none, none]) (d_meth (o_var rfl hx) no (ds_cons (d_var ⟨_, rfl, .int _⟩) ds_nil) rfl ⟨F, p, s, hg, rfl, _, rfl, okM_nat hm, rfl⟩) fun H1 e1 => ?_
      refine z_drop (K := K) (σ := [some (.ref x), some (.int (m : Int)), some (.int (ph : Int)), none, none, none]) (d_callX (ds_cons (d_var ⟨_, rfl, .int _⟩) ds_nil) rfl ⟨_, rfl, okPh_nat ph, rfl⟩) fun H2 e2 => ?_
      have e12 := e1.trans e2
      refine z_lists (K := K) (i := 3) (tx := tFld K (tVar 0) "factors") (j := 4) (vs := [4]) (Ls := F.map fun r => r.map ratR) (σ := [some (.ref x), some (.int (m : Int)), some (.int (ph : Int)), none, none, none]) (d_fld (d := .tuple ((F.map fun r => r.map ratR).map PyData.tuple)) (o_var rfl (has_grow e12 hx)) TC.cl (TC.na _ (by simp)) (by simp [plantF, facD, rowD, sq, Function.comp_def])) (by rw [List.length_map]; have := hg.f.hi; omega) (fun y => rfl) (fun y => rfl) fun Hb q rs yss H3 eb e3 R hrs hys => ?_
      rw [List.length_map] at hrs
      have e1b := e12.trans eb
      have e13 := e1b.trans e3
      have l0 : (0 : Int) < ((F.getD 0 []).length : Int) := by omega
      refine z_set (K := K) (σ := [some (.ref x), some (.int (m : Int)), some (.int (ph : Int)), some (.ref q), none, none]) (d_mod (d_var (d := .int (ph : Int)) ⟨_, rfl, .int _⟩) (d_fld (o_var rfl (has_grow e13 hx)) TC.cl (TC.na _ (by simp)) (d := .int ((F.getD 0 []).length : Int)) (by simp [plantF])) l0) fun v_a H4 e4 h_a => ?_
      have ea : (ph : Int) % ((F.getD 0 []).length : Int) = ((ph % (F.getD 0 []).length : Nat) : Int) := (Int.natCast_emod _ _).symm
      have alt : ph % (F.getD 0 []).length < (F.getD 0 []).length := Nat.mod_lt _ (by omega)
      rw [ea] at h_a
      generalize hat : ph % (F.getD 0 []).length = at_ at h_a alt
      cases h_a
      have hmr : m < rs.length := by omega
      have hmy : m < yss.length := by rw [R.len]; exact hmr
      have er : rs[m]? = some rs[m] := List.getElem?_eq_getElem hmr
      have ey : yss[m]? = some yss[m] := List.getElem?_eq_getElem hmy
      have eF : F[m]? = some (F.getD m []) := by simp [hm]
      obtain ⟨r0, r1, r2⟩ := R.row m _ _ er ey
      have hyL : DpAll K Hb yss[m] ((F.getD m []).map ratR) := hys m _ _ ey (by rw [List.getElem?_map, eF]; rfl)
      have eb4 := e3.trans e4
      have e14 := e1b.trans eb4
      have hq4 := e4 _ _ R.at_
      have rows4 : Dp K H4 (.ref q) (facD false false F) := by
        refine .lst (SqL.of hq4) (dps_rows (by rw [List.length_map]; exact hrs) fun i r d hr hL => ?_)
        have hi : i < yss.length := by rw [R.len]; exact (List.getElem?_eq_some_iff.mp hr).1
        rw [List.getElem?_map] at hL
        obtain ⟨row, hrow, rfl⟩ := Option.map_eq_some_iff.mp hL
        exact ⟨yss[i], _, e4 _ _ (R.row i r _ hr (List.getElem?_eq_getElem hi)).2.2, rfl, dps_grow eb4 _ _ (hys i _ _ (List.getElem?_eq_getElem hi) (by rw [List.getElem?_map, hrow]; rfl))⟩
      have xval : (F.getD m []).getD at_ 0 = fac F m ph := by
        unfold fac
        rw [l1, hat]
      refine z_lputE (K := K) (S := rs[m]) (vs := yss[m]) (j := at_) (tl := tOp (rIxL K) (tVar 3) (tVar 1)) (ty := tVar 5) (σ := [some (.ref x), some (.int (m : Int)), some (.int (ph : Int)), some (.ref q), none, some (.int (at_ : Int))]) (fun H5 e5 => ev_item (ev_var rfl) (e5 _ _ hq4) (by rw [List.getElem?_map, er]; rfl) (fun H6 _ => ev_var rfl)) (e4 _ _ r2) (by rw [dps_len hyL, List.length_map, l1]; exact alt) (d := ratR (-fac F m ph)) (d_call (ds_cons (d_ixL (ds := (F.getD m []).map ratR) (d_ixL (ds := F.map (rowD false)) (d_var ⟨_, rfl, rows4⟩) (d_var ⟨_, rfl, .int _⟩) (at_map _ [] hm)) (d_var ⟨_, rfl, .int _⟩) (by rw [at_map _ 0 (by rw [l1]; exact alt), xval])) ds_nil) rfl ⟨(fac F m ph).num, ((fac F m ph).den : Int), rfl, rfl⟩) (fun H5 _ => ev_var rfl) fun v H5 H6 e5 hv e6 => ?_
      have e46 := e5.trans e6
      have hr6 := e46 _ _ (e4 _ _ r2)
      have ex7 : Ex Hb (upd H6 rs[m] (.lst (yss[m].set at_ v))) := Ex.mut (eb4.trans e46) r0
      have hv7 : Dp K (upd H6 rs[m] (.lst (yss[m].set at_ v))) v (ratR (-fac F m ph)) := by
        have z := dp_rem hr6 noTup_l _ _ rfl (dp_grow e6 _ _ hv)
        rw [← rem_upd (o := .lst (yss[m].set at_ v))] at z
        exact dp_grow rem_ex _ _ z
      have rows7 : Dp K (upd H6 rs[m] (.lst (yss[m].set at_ v))) (.ref q) (facD false false (F.set m ((F.getD m []).set at_ (-fac F m ph)))) := by
        have hq7 : upd H6 rs[m] (.lst (yss[m].set at_ v)) q = some (.lst (rs.map V.ref)) := by rw [upd_ne r1.symm]; exact e46 _ _ hq4
        refine .lst (SqL.of hq7) (dps_rows (by rw [List.length_map, List.length_set]; exact hrs) fun i r d hr hL => ?_)
        have hir := (List.getElem?_eq_some_iff.mp hr).1
        have hi : i < yss.length := by rw [R.len]; exact hir
        rw [List.getElem?_map] at hL
        obtain ⟨row, hrow, rfl⟩ := Option.map_eq_some_iff.mp hL
        by_cases him : i = m
        · subst him
          rw [er] at hr
          cases hr
          rw [List.getElem?_set_self hm] at hrow
          cases hrow
          refine ⟨_, _, upd_same, rfl, ?_⟩
          rw [List.map_set]
          exact dps_set (dps_grow ex7 _ _ hyL) hv7
        · rw [List.getElem?_set_ne (Ne.symm him)] at hrow
          have ne : r ≠ rs[m] := fun z => him (nodup_inj R.nd hr (z ▸ er))
          refine ⟨yss[i], _, by rw [upd_ne ne]; exact e46 _ _ (e4 _ _ (R.row i r _ hr (List.getElem?_eq_getElem hi)).2.2), rfl, dps_grow ex7 _ _ (hys i _ _ (List.getElem?_eq_getElem hi) (by rw [List.getElem?_map, hrow]; rfl))⟩
      generalize upd H6 rs[m] (.lst (yss[m].set at_ v)) = H7 at ex7 hv7 rows7
      have eH7 := e1b.trans ex7
      have gd : GoodP (F.set m ((F.getD m []).set at_ (-fac F m ph))) p s := good_set hg hm _ (fac_ok hg.f hm ph)
      rw [hat] at k
      exact zo_ret (σ := [some (.ref x), some (.int (m : Int)), some (.int (ph : Int)), some (.ref q), none, some (.int (at_ : Int))]) (o_make (ds_cons (d_var ⟨_, rfl, rows7⟩) (ds_cons (d_fld (o_var rfl (has_grow eH7 hx)) TC.cl (TC.na _ (by simp)) (d := rowD true p) (by simp [plantF])) (ds_cons (d_fld (o_var rfl (has_grow eH7 hx)) TC.cl (TC.na _ (by simp)) (d := rowD true s) (by simp [plantF])) ds_nil))) rfl ⟨false, false, true, true, _, p, s, rfl, gd, rfl⟩) fun y H' e hy => k y H' (eH7.trans e) hy
    · cases ea
      rcases hz with ⟨hm, rfl⟩ | ⟨hm, hp, rfl⟩
      · exact xz_drop (σ := [some (.ref x), some v_m, some v_p, none, none, none]) (r_meth (o_var rfl hx) no (ds_cons (d_var ⟨_, rfl, h_m⟩) ds_nil) rfl ⟨F, p, s, hg, hfs, _, rfl, hm, rfl⟩ k)
      · refine z_drop (K := K) (σ := [some (.ref x), some v_m, some v_p, none, none, none]) (d_meth (o_var rfl hx) no (ds_cons (d_var ⟨_, rfl, h_m⟩) ds_nil) rfl ⟨F, p, s, hg, hfs, _, rfl, hm, rfl⟩) fun H1 e1 => ?_
        exact xz_drop (σ := [some (.ref x), some v_m, some v_p, none, none, none]) (r_callX (ds_cons (d_var ⟨_, rfl, dp_grow e1 _ _ h_p⟩) ds_nil) rfl ⟨_, rfl, hp, rfl⟩ (rai_grow e1 k))
end
end K03
namespace K03
open PySem L2 Evl Dat
theorem good_rep {F : List (List Rat)} {p s : List Rat} (h : GoodP F p s) {n : Nat} (h1 : 1 ≤ n) (h4 : n * (F.getD 0 []).length ≤ 4) : GoodP (F.map fun r => (List.replicate n r).flatten) p s := by
  obtain ⟨q, q1, q4, hq⟩ := h.f.row
  have l0 := hq _ (row_mem (F := F) h.f.lo)
  rw [l0] at h4
  refine ⟨⟨by rw [List.length_map]; exact h.f.lo, by rw [List.length_map]; exact h.f.hi, ⟨n * q, Nat.mul_pos h1 q1, h4, fun r hr => ?_⟩, ?_⟩, by rw [List.length_map]; exact h.pl, by rw [List.length_map]; exact h.sl, h.p0, h.s0⟩
  · obtain ⟨u, hu, rfl⟩ := List.mem_map.mp hr
    simp [List.length_flatten, hq u hu]
  · intro r hr y hy
    obtain ⟨u, hu, rfl⟩ := List.mem_map.mp hr
    obtain ⟨z, hz, hy⟩ := List.mem_flatten.mp hy
    rw [List.eq_of_mem_replicate hz] at hy
    exact h.f.fac u hu y hy
section
variable {P' : Program} {w : World} {K : PySem.W.Frag} {mg : Str → Option Value} {base : Heap} {C CM CP CT CB CU CR : Addr}

abbrev s_turned : Stmt := inClass (topS 25) 8
abbrev N_turned : List Str := ["self", "phases", "row"]
theorem sc_turned : FnScope N_turned ["self", "phases"] (defScope s_turned) := ⟨rfl, rfl, rfl, by decide +kernel, rfl, by decide +kernel, by decide +kernel⟩

theorem ok_turned {f : Addr} {fd : FuncData} (F : Fun K "turned" "Plant.turned" s_turned f fd) (T : Bl mg) (TC : ClsA K mg "Plant" C al) (D_turned_row : DefV P' w K mg base (L2.CX P' w) 4 "turned_row" ["row", "phases"] [] (spX K 2 (fun _ _ => False) (gTurn CP))) (D_Plant : MkP P' w K mg base C) :
    FnOk P' w K mg base (L2.CX P' w) 10 f fd ["self", "phases"] (spMO K C al 1 (fun _ _ _ => False) (onG (gTurned CP))) := by
  refine F.okX sc_turned (fun vs H Q E h => ?_) (fun cdv A outer s H vs Q E hr h => ?_)
  · obtain ⟨x, ws, fs, ds, rfl, hl, _, hd, _⟩ := h
    simp [dps_len hd, hl]
  · refine ⟨_, (pss_one (ps_ret (pe_mk D_Plant (hr.mono (by decide)) passL (pa_cons (pe_lcX (E := E) (own := [("row", 2)]) (g := gName 2) (takes_of rfl rfl rfl rfl) rfl rfl rfl sc_turned.nd (pi_tup (pe_fld (pv 0) rfl)) (blkOk_by (own := [("row", 2)]) (N := N_turned) (sc := defScope s_turned) (by decide +kernel)) (fun _ _ _ _ _ _ => pg_name (i := 2) sc_turned.nd rfl (Or.inl rfl)) (fun _ _ _ _ _ _ hx => (pe_dcallS (E := fun _ => E) D_turned_row (hr.mono (by decide)) hx (pa_cons (pv 2) (pa_cons (pv 1) pa_nil))))) (pa_cons (pe_fld (pv 0) rfl) (pa_cons (pe_fld (pv 0) rfl) pa_nil)))))), ?_⟩
    obtain ⟨x, ws, fs, ds, rfl, hl, hx, hd, ⟨d, z, _⟩ | ⟨e, ⟨F, p, s, hg, rfl, q, rfl, hq, rfl⟩, k⟩⟩ := h
    · exact z.elim
    · obtain ⟨v_p, vs, rfl, h_p, hd⟩ := dps_cons hd
      obtain rfl := dps_nil hd
      obtain ⟨r0, rs, rfl⟩ : ∃ r0 rs, F = r0 :: rs := by
        have := hg.f.lo
        cases F with
        | nil => simp at this
        | cons r0 rs => exact ⟨r0, rs, rfl⟩
      refine xz_ret (σ := [some (.ref x), some v_p, none]) (r_make1 (r_lcTup (K := K) (d0 := rowD true r0) (ds := rs.map (rowD true)) (d_fld (f := "factors") (o_var rfl hx) TC.cl (TC.na _ (by simp)) (List.mem_cons.mpr (.inl rfl))) fun y H1 e1 hy => ?_))
      exact r_callX (ds_cons (d_var ⟨_, rfl, hy⟩) (ds_cons (d_var ⟨_, rfl, dp_grow e1 _ _ h_p⟩) ds_nil)) rfl ⟨_, _, rfl, hq, rfl⟩ (rai_grow e1 k)

abbrev s_repeated : Stmt := inClass (topS 25) 9
abbrev N_repeated : List Str := ["self", "repeats", "row"]
theorem sc_repeated : FnScope N_repeated ["self", "repeats"] (defScope s_repeated) := ⟨rfl, rfl, rfl, by decide +kernel, rfl, by decide +kernel, by decide +kernel⟩

theorem ok_repeated {f : Addr} {fd : FuncData} (F : Fun K "repeated" "Plant.repeated" s_repeated f fd) (T : Bl mg) (TC : ClsA K mg "Plant" C al) (D_repeated_row : DefV P' w K mg base (L2.CX P' w) 3 "repeated_row" ["row", "repeats"] [] (spX K 2 fRep (gRep CR))) (D_Plant : MkP P' w K mg base C) :
    FnOk P' w K mg base (L2.CX P' w) 10 f fd ["self", "repeats"] (spMO K C al 1 (onO fRepd) (onG (gRepd CR))) := by
  refine F.okX sc_repeated (fun vs H Q E h => ?_) (fun cdv A outer s H vs Q E hr h => ?_)
  · obtain ⟨x, ws, fs, ds, rfl, hl, _, hd, _⟩ := h
    simp [dps_len hd, hl]
  · refine ⟨_, (pss_one (ps_ret (pe_mk D_Plant (hr.mono (by decide)) passL (pa_cons (pe_alt (pe_lc (own := [("row", 2)]) (g := gName 2) rfl sc_repeated.nd (pi_tup (pe_fldK K (pv 0))) (blkOk_by (own := [("row", 2)]) (N := N_repeated) (sc := defScope s_repeated) (by decide +kernel)) (fun _ _ _ _ _ => pg_name (i := 2) sc_repeated.nd rfl (Or.inl rfl)) (fun _ _ _ _ _ => pts_nil) (fun _ _ _ _ _ => (pe_dcallS D_repeated_row (hr.mono (by decide)) passN (pa_cons (pv 2) (pa_cons (pv 1) pa_nil))))) (pe_lcX (E := E) (own := [("row", 2)]) (g := gName 2) (takes_of rfl rfl rfl rfl) rfl rfl rfl sc_repeated.nd (pi_tup (pe_fld (pv 0) rfl)) (blkOk_by (own := [("row", 2)]) (N := N_repeated) (sc := defScope s_repeated) (by decide +kernel)) (fun _ _ _ _ _ _ => pg_name (i := 2) sc_repeated.nd rfl (Or.inl rfl)) (fun _ _ _ _ _ _ hx => (pe_dcallS (E := fun _ => E) D_repeated_row (hr.mono (by decide)) hx (pa_cons (pv 2) (pa_cons (pv 1) pa_nil)))))) (pa_cons (pe_fld (pv 0) rfl) (pa_cons (pe_fld (pv 0) rfl) pa_nil)))))), ?_⟩
    obtain ⟨x, ws, fs, ds, rfl, hl, hx, hd, ⟨d, ⟨F, p, s, hg, rfl, n, rfl, h1, h4, rfl⟩, k⟩ | ⟨e, ⟨F, p, s, hg, rfl, q, rfl, hq, rfl⟩, k⟩⟩ := h
    · obtain ⟨v_p, vs, rfl, h_p, hd⟩ := dps_cons hd
      obtain rfl := dps_nil hd
      refine zo_ret (σ := [some (.ref x), some v_p, none]) (o_make (ds_cons (d_alt1 (d := facD false true (F.map fun r => (List.replicate n r).flatten)) (d_is (evn_d (n_lcTup (K := K) (ds := F.map (rowD true)) (p := fun _ => true) (g := fun i => rowD true (List.replicate n (F.getD i [])).flatten) (d_fld (o_var rfl hx) TC.cl (TC.na _ (by simp)) (by simp [plantF, facD, sq])) ⟨fun y => rfl, fun i y H1 e hi hy => b_yes, fun i y H1 e1 hi _ hy => ?_, fun i _ => flat_row _, itD_mono _, by rw [List.length_map]; have := hg.f.hi; omega⟩)) ?_)) (ds_cons (d_fld (o_var rfl hx) TC.cl (TC.na _ (by simp)) (d := rowD true p) (by simp [plantF])) (ds_cons (d_fld (o_var rfl hx) TC.cl (TC.na _ (by simp)) (d := rowD true s) (by simp [plantF])) ds_nil))) rfl ⟨false, true, true, true, _, p, s, rfl, good_rep hg h1 h4, rfl⟩) fun y H' e hy => k y H' e hy
      · obtain ⟨d, hd, hy⟩ := hy
        rw [List.getElem?_map] at hd
        obtain ⟨r, hr', rfl⟩ := Option.map_eq_some_iff.mp hd
        have er : F.getD i [] = r := by rw [List.getD_eq_getElem?_getD, hr']; rfl
        obtain ⟨q, q1, q4, hq⟩ := hg.f.row
        have lr := hq r (List.mem_of_getElem? hr')
        have l0 := hq _ (row_mem (F := F) hg.f.lo)
        rw [er]
        exact d_callX (ds_cons (d_var ⟨_, rfl, hy⟩) (ds_cons (d_var ⟨_, rfl, dp_grow e1 _ _ h_p⟩) ds_nil)) rfl ⟨r, n, rfl, h1, by rw [lr, ← l0]; exact h4, by omega, rfl⟩
      · rw [pick_all, List.length_map]
        show PyData.list _ = PyData.list _
        congr 1
        refine List.ext_getElem (by simp) fun i q1 q2 => ?_
        simp at q1 q2
        simp [q1]
    · obtain ⟨v_p, vs, rfl, h_p, hd⟩ := dps_cons hd
      obtain rfl := dps_nil hd
      obtain ⟨r0, rs, rfl⟩ : ∃ r0 rs, F = r0 :: rs := by
        have := hg.f.lo
        cases F with
        | nil => simp at this
        | cons r0 rs => exact ⟨r0, rs, rfl⟩
      obtain ⟨_, l2, l3⟩ := row_len hg.f (m := 0) hg.f.lo
      refine xz_ret (σ := [some (.ref x), some v_p, none]) (r_make1 (r_alt (r_lcTup (K := K) (d0 := rowD true r0) (ds := rs.map (rowD true)) (d_fld (f := "factors") (o_var rfl hx) TC.cl (TC.na _ (by simp)) (List.mem_cons.mpr (.inl rfl))) fun y H1 e1 hy => ?_)))
      exact r_callX (ds_cons (d_var ⟨_, rfl, hy⟩) (ds_cons (d_var ⟨_, rfl, dp_grow e1 _ _ h_p⟩) ds_nil)) rfl ⟨r0, _, rfl, l2, l3, hq, rfl⟩ (rai_grow e1 k)
end
end K03
namespace K03
open PySem L2 Evl Dat
/-- a row gone round -/
def cyc (r : List Rat) (k : Nat) : Rat := r.getD (k % r.length) 0
/-- a row as it is drawn -/
structure Row (r : List Rat) : Prop where
  lo : 1 ≤ r.length
  hi : r.length ≤ 4
  sz : ∀ x ∈ r, x ≠ 0 ∧ Sz 31 x
theorem cyc_ok {r : List Rat} (h : Row r) (k : Nat) : cyc r k ≠ 0 ∧ Sz 31 (cyc r k) := by
  have lt : k % r.length < r.length := Nat.mod_lt _ h.lo
  have e : cyc r k = r[k % r.length] := by unfold cyc; simp [lt]
  rw [e]
  exact h.sz _ (List.getElem_mem lt)
theorem P_sz {f : Nat → Rat} {a : Nat} (h : ∀ k, Sz a (f k)) (p : Nat) : ∀ t, Sz (1 + a * t) (P f p t)
  | 0 => sz_one.mono (by omega)
  | t + 1 => (sz_mul (P_sz h p t) (h (p + t))).mono (by rw [Nat.mul_succ]; omega)
theorem abs_sz {a : Nat} {x : Rat} (h : Sz a x) : Sz a (absR x) := by
  unfold absR
  split
  · exact sz_neg h
  · exact h
theorem fitsR {r : List Rat} (h : Row r) {t : Nat} (ht : t ≤ 6) : Fits (cyc r) t := by
  refine ⟨2 ^ 31, fun k => ?_, ?_⟩
  · obtain ⟨_, a, b⟩ := cyc_ok h k
    exact ⟨Nat.le_of_lt a, Nat.le_of_lt b⟩
  · have : t = 0 ∨ t = 1 ∨ t = 2 ∨ t = 3 ∨ t = 4 ∨ t = 5 ∨ t = 6 := by omega
    rcases this with rfl | rfl | rfl | rfl | rfl | rfl | rfl <;> decide
theorem G_sz {r : List Rat} (h : Row r) {t : Nat} (ht : t ≤ 6) (p : Nat) : Sz 190 (G (cyc r) p t) ∧ Sz 190 (P (cyc r) p t) := by
  have up : Upto (cyc r) (2 ^ 31) := fun k => by
    obtain ⟨_, a, b⟩ := cyc_ok h k
    exact ⟨Nat.le_of_lt a, Nat.le_of_lt b⟩
  have h1 := topG_le up (p := p) t
  have h2 := bot_le up (p := p) t
  have h3 := top_le up (p := p) t
  have b : t * (2 ^ 31) ^ t < 2 ^ 190 ∧ (2 ^ 31) ^ t < 2 ^ 190 := by
    have : t = 0 ∨ t = 1 ∨ t = 2 ∨ t = 3 ∨ t = 4 ∨ t = 5 ∨ t = 6 := by omega
    rcases this with rfl | rfl | rfl | rfl | rfl | rfl | rfl <;> decide
  obtain ⟨z, e, hz⟩ := low_sz (bot_pos (cyc r) p t) (Nat.lt_of_le_of_lt h1 b.1) (Nat.lt_of_le_of_lt h2 b.2)
  obtain ⟨y, e', hy⟩ := low_sz (bot_pos (cyc r) p t) (Nat.lt_of_le_of_lt h3 b.2) (Nat.lt_of_le_of_lt h2 b.2)
  rw [G_low] at e
  rw [P_low] at e'
  rw [ratR_inj e, ratR_inj e']
  exact ⟨hz, hy⟩
def fProduct (ds : List PyData) (d : PyData) : Prop := ∃ (r : List Rat) (ph t : Nat), ds = [rowD false r, .int (ph : Int), .int (t : Int)] ∧ Row r ∧ t ≤ 6 ∧ d = ratR (P (cyc r) ph t)
def fLGath (ds : List PyData) (d : PyData) : Prop := ∃ (r : List Rat) (push : Rat) (ph t : Nat), ds = [rowD false r, ratR push, .int (ph : Int), .int (t : Int)] ∧ Row r ∧ Sz 31 push ∧ t ≤ 6 ∧ d = ratR (push * G (cyc r) ph t)
def fPlayed (ds : List PyData) (d : PyData) : Prop := ∃ (r us : List Rat) (x : Rat) (ph t : Nat), ds = [rowD false r, .int (ph : Int), .int (t : Int), ratR x, rowD false us] ∧ Row r ∧ Sz 31 x ∧ t ≤ 6 ∧ us.length = t ∧ (∀ u ∈ us, Sz 31 u) ∧ d = ratR (pos (cyc r) ph x (fun k => us.getD k 0) t)
theorem LS_sz {r : List Rat} (h : Row r) {push : Rat} (hp : Sz 31 push) (ph : Nat) {t : Nat} (ht : t ≤ 6) : ∀ n, n ≤ t → Sz (1 + 222 * n) (LS push (cyc r) ph t n)
  | 0, _ => sz_zero.mono (by omega)
  | n + 1, hn => (sz_add (LS_sz h hp ph ht n (by omega)) (sz_mul hp (abs_sz (G_sz h (t := t - n - 1) (by omega) (ph + n + 1)).2))).mono (by omega)
theorem pos_sz {r : List Rat} (h : Row r) {x : Rat} (hx : Sz 31 x) {u : Nat → Rat} (hu : ∀ k, Sz 31 (u k)) (ph : Nat) : ∀ n, Sz (31 + 64 * n) (pos (cyc r) ph x u n)
  | 0 => hx
  | n + 1 => (sz_add (sz_mul (cyc_ok h (ph + n)).2 (pos_sz h hx hu ph n)) (hu n)).mono (by omega)
section
variable {P' : Program} {w : World} {K : PySem.W.Frag} {mg : Str → Option Value} {base : Heap}

abbrev s_L_product : Stmt := topS 45
abbrev N_L_product : List Str := ["line", "phase", "ticks", "total", "k"]
theorem sc_L_product : FnScope N_L_product ["line", "phase", "ticks"] (defScope s_L_product) := ⟨rfl, rfl, rfl, by decide +kernel, rfl, by decide +kernel, by decide +kernel⟩

theorem at_cyc {K : PySem.W.Frag} {σ : L2.St} {H : Hp} {a b : Nat} {v : V} {r : List Rat} {ph i : Nat} (hr : Row r) (h1 : σ[0]? = some (some v)) (h2 : Dp K H v (rowD false r)) (h3 : σ[a]? = some (some (.int (ph : Int)))) (h4 : σ[b]? = some (some (.int (i : Int)))) :
    EvD K (tOp (rIxL K) (tVar 0) (tOp (rI (fun _ j => 0 < j) fun i j => .int (i % j)) (tCB (fun xs H Q => (∃ i, xs = [.int i] ∧ Q (.int i) H) ∨ ∃ k, xs = [.bl k] ∧ Q (.int (if k then 1 else 0)) H) (tCons (tOp (rI0 fun i j => .int (i + j)) (tVar a) (tVar b)) tNil)) (tCB (fun xs H Q => ∃ p ys, xs = [.ref p] ∧ (SqL K H p ys ∨ SqT K H p ys) ∧ Q (.int ys.length) H) (tCons (tVar 0) tNil)))) σ H (ratR (cyc r (ph + i))) := by
  have l0 : (0 : Int) < (r.length : Int) := by have := hr.lo; omega
  refine d_ixL (ds := r.map ratR) (i := (((ph + i) % r.length : Nat) : Int)) (d_var ⟨_, h1, h2⟩) (d_is (d_mod (i := (ph : Int) + (i : Int)) (j := (r.length : Int)) (d_toInt (d_add (d_var ⟨_, h3, .int _⟩) (d_var ⟨_, h4, .int _⟩))) (d_is (d_lenL (d_var ⟨_, h1, h2⟩)) (by rw [List.length_map])) l0) (by rw [Int.natCast_emod, Int.natCast_add])) (at_map _ 0 (Nat.mod_lt _ hr.lo))
theorem ok_L_product {f : Addr} {fd : FuncData} (F : Fun K "_law_product" "_law_product" s_L_product f fd) (T : Bl mg) (D_law_times : Def P' w K mg base CX0 2 "_law_times" ["a", "b"] (spD K 2 fTimesR)) : FnOk P' w K mg base CX0 3 f fd ["line", "phase", "ticks"] (spD K 3 fProduct) := by
  refine F.ok sc_L_product (fun vs H Q E h => ?_) (fun cdv A outer s H vs Q E hr h => ?_)
  · obtain ⟨ds, d, hl, hd, _⟩ := h
    exact (dps_len hd).trans hl
  · refine ⟨_, (pss_cons (ps_set (i := 3) sc_L_product.nd rfl (Or.inl rfl) (pe_tup (pa_cons pe_int (pa_cons pe_int pa_nil))))
    (pss_cons (ps_for PassesOwn.never rfl (pi_range1 rfl T.b_range (pa_cons (pv 2) pa_nil)) (pg_name (i := 4) sc_L_product.nd rfl (Or.inl rfl)) (pss_one (ps_set (i := 3) sc_L_product.nd rfl (Or.inl rfl) (pe_dcall D_law_times (hr.mono (by decide)) pass0 (pa_cons (pv 3) (pa_cons (pe_ix (r := rIxL K) ix_list (pv 0) (pe_op op_mod (pe_callTy call_int1 (by rfl) T.b_int (by decide +kernel) (pa_cons (pe_op op_add (pv 1) (pv 4)) pa_nil)) (pe_callB call_len_seq (by rfl) T.b_len (by decide +kernel) (pa_cons (pv 0) pa_nil))) (fun _ _ => rfl)) pa_nil))))))
    (pss_one (ps_ret (pv 3))))), ?_⟩
    obtain ⟨ds, d, hl, hd, ⟨r, ph, t, rfl, hr, ht, rfl⟩, k⟩ := h
    obtain ⟨v_r, vs, rfl, h_r, hd⟩ := dps_cons hd
    obtain ⟨v_p, vs, rfl, h_p, hd⟩ := dps_cons hd
    obtain ⟨v_t, vs, rfl, h_t, hd⟩ := dps_cons hd
    obtain rfl := dps_nil hd
    cases h_p
    cases h_t
    refine z_set (K := K) (σ := [some v_r, some (.int (ph : Int)), some (.int (t : Int)), none, none]) (d_tup (ds_cons d_int (ds_cons d_int ds_nil)) (by show 2 ≤ 1000; decide)) fun v1 H1 e1 h1 => ?_
    refine z_forN (K := K) (σ := [some v_r, some (.int (ph : Int)), some (.int (t : Int)), some v1, none]) (ds_cons (d_var (d := .int (t : Int)) ⟨_, rfl, .int _⟩) ds_nil) (by omega) (by omega) (fun i σ' H' => ∃ v o, σ' = [some v_r, some (.int (ph : Int)), some (.int (t : Int)), some v, o] ∧ Dp K H' v (ratR (P (cyc r) ph i)))
      (fun H2 e2 => ⟨v1, none, rfl, dp_grow e2 _ _ h1⟩) ?_ ?_
    · rintro i σ' H' D' hi e2 ⟨v, o, rfl, hv⟩ kk
      refine z_set1 (K := K) (σ := [some v_r, some (.int (ph : Int)), some (.int (t : Int)), some v, some (.int (i : Int))]) (d_call (ds_cons (d_var ⟨_, rfl, hv⟩) (ds_cons (at_cyc hr rfl (dp_grow (e1.trans e2) _ _ h_r) rfl rfl) ds_nil)) rfl ⟨_, _, rfl, (P_sz (fun k => (cyc_ok hr k).2) ph i).mono (by show _ ≤ 1500; omega), (cyc_ok hr _).2.mono (by decide), rfl⟩) fun u H3 e3 hu => ?_
      exact kk _ _ e3 ⟨u, _, rfl, hu⟩
    · rintro σ' H' e2 ⟨v, o, rfl, hv⟩
      rw [Int.toNat_natCast] at hv
      exact z_ret (K := K) (σ := [some v_r, some (.int (ph : Int)), some (.int (t : Int)), some v, o]) (d_var ⟨_, rfl, hv⟩) fun u H3 e3 hu => k u H3 ((e1.trans e2).trans e3) hu

abbrev s_L_gathered : Stmt := topS 46
abbrev N_L_gathered : List Str := ["line", "push", "phase", "ticks", "total", "k"]
theorem sc_L_gathered : FnScope N_L_gathered ["line", "push", "phase", "ticks"] (defScope s_L_gathered) := ⟨rfl, rfl, rfl, by decide +kernel, rfl, by decide +kernel, by decide +kernel⟩

theorem ok_L_gathered {f : Addr} {fd : FuncData} (F : Fun K "_law_gathered" "_law_gathered" s_L_gathered f fd) (T : Bl mg) (D_law_times : Def P' w K mg base CX0 2 "_law_times" ["a", "b"] (spD K 2 fTimesR)) (D_law_plus : Def P' w K mg base CX0 2 "_law_plus" ["a", "b"] (spD K 2 fPlusR))
    (D_law_size : Def P' w K mg base CX0 1 "_law_size" ["a"] (spD K 1 fSize)) (D_law_product : Def P' w K mg base CX0 3 "_law_product" ["line", "phase", "ticks"] (spD K 3 fProduct)) : FnOk P' w K mg base CX0 4 f fd ["line", "push", "phase", "ticks"] (spD K 4 fLGath) := by
  refine F.ok sc_L_gathered (fun vs H Q E h => ?_) (fun cdv A outer s H vs Q E hr h => ?_)
  · obtain ⟨ds, d, hl, hd, _⟩ := h
    exact (dps_len hd).trans hl
  · refine ⟨_, (pss_cons (ps_set (i := 4) sc_L_gathered.nd rfl (Or.inl rfl) (pe_tup (pa_cons pe_int (pa_cons pe_int pa_nil))))
    (pss_cons (ps_for PassesOwn.never rfl (pi_range1 rfl T.b_range (pa_cons (pv 3) pa_nil)) (pg_name (i := 5) sc_L_gathered.nd rfl (Or.inl rfl)) (pss_one (ps_set (i := 4) sc_L_gathered.nd rfl (Or.inl rfl) (pe_dcall D_law_plus (hr.mono (by decide)) pass0 (pa_cons (pv 4) (pa_cons (pe_dcall D_law_times (hr.mono (by decide)) pass0 (pa_cons (pv 1) (pa_cons (pe_dcall D_law_size (hr.mono (by decide)) pass0 (pa_cons (pe_dcall D_law_product (hr.mono (by decide)) pass0 (pa_cons (pv 0) (pa_cons (pe_op op_add (pe_op op_add (pv 2) (pv 5)) pe_int) (pa_cons (pe_op op_sub (pe_op op_sub (pv 3) (pv 5)) pe_int) pa_nil)))) pa_nil)) pa_nil))) pa_nil))))))
    (pss_one (ps_ret (pv 4))))), ?_⟩
    obtain ⟨ds, d, hl, hd, ⟨r, push, ph, t, rfl, hr, hp, ht, rfl⟩, k⟩ := h
    obtain ⟨v_r, vs, rfl, h_r, hd⟩ := dps_cons hd
    obtain ⟨v_u, vs, rfl, h_u, hd⟩ := dps_cons hd
    obtain ⟨v_p, vs, rfl, h_p, hd⟩ := dps_cons hd
    obtain ⟨v_t, vs, rfl, h_t, hd⟩ := dps_cons hd
    obtain rfl := dps_nil hd
    cases h_p
    cases h_t
    refine z_set (K := K) (σ := [some v_r, some v_u, some (.int (ph : Int)), some (.int (t : Int)), none, none]) (d_tup (ds_cons d_int (ds_cons d_int ds_nil)) (by show 2 ≤ 1000; decide)) fun v1 H1 e1 h1 => ?_
    refine z_forN (K := K) (σ := [some v_r, some v_u, some (.int (ph : Int)), some (.int (t : Int)), some v1, none]) (ds_cons (d_var (d := .int (t : Int)) ⟨_, rfl, .int _⟩) ds_nil) (by omega) (by omega) (fun i σ' H' => ∃ v o, σ' = [some v_r, some v_u, some (.int (ph : Int)), some (.int (t : Int)), some v, o] ∧ Dp K H' v (ratR (LS push (cyc r) ph t i)))
      (fun H2 e2 => ⟨v1, none, rfl, dp_grow e2 _ _ h1⟩) ?_ ?_
    · rintro i σ' H' D' hi e2 ⟨v, o, rfl, hv⟩ kk
      have e12 := e1.trans e2
      have it : i < t := by omega
      have a1 : (ph : Int) + (i : Int) + 1 = ((ph + i + 1 : Nat) : Int) := by omega
      have a2 : (t : Int) - (i : Int) - 1 = ((t - i - 1 : Nat) : Int) := by omega
      have g := G_sz hr (t := t - i - 1) (by omega) (ph + i + 1)
      refine z_set1 (K := K) (σ := [some v_r, some v_u, some (.int (ph : Int)), some (.int (t : Int)), some v, some (.int (i : Int))]) (d_call (ds_cons (d_var ⟨_, rfl, hv⟩) (ds_cons (d_call (ds_cons (d_var ⟨_, rfl, dp_grow e12 _ _ h_u⟩) (ds_cons (d_is (d_call (ds_cons (d_call (ds_cons (d_var ⟨_, rfl, dp_grow e12 _ _ h_r⟩) (ds_cons (d_is (d_add (d_add (d_var (d := .int (ph : Int)) ⟨_, rfl, .int _⟩) (d_var (d := .int (i : Int)) ⟨_, rfl, .int _⟩)) d_int) (congrArg PyData.int a1)) (ds_cons (d_is (d_sub (d_sub (d_var (d := .int (t : Int)) ⟨_, rfl, .int _⟩) (d_var (d := .int (i : Int)) ⟨_, rfl, .int _⟩)) d_int) (congrArg PyData.int a2)) ds_nil))) rfl ⟨r, _, _, rfl, hr, by omega, rfl⟩) ds_nil) rfl ⟨_, _, rfl, rfl⟩) (abs_ratR _)) ds_nil)) rfl ⟨_, _, rfl, hp.mono (by decide), (abs_sz g.2).mono (by decide), rfl⟩) ds_nil)) rfl ⟨_, _, rfl, (LS_sz hr hp ph ht i (by omega)).mono (by show _ ≤ 1500; omega), (sz_mul hp (abs_sz g.2)).mono (by decide), rfl⟩) fun u H3 e3 hu => ?_
      exact kk _ _ e3 ⟨u, _, rfl, hu⟩
    · rintro σ' H' e2 ⟨v, o, rfl, hv⟩
      rw [Int.toNat_natCast, LS_all] at hv
      exact z_ret (K := K) (σ := [some v_r, some v_u, some (.int (ph : Int)), some (.int (t : Int)), some v, o]) (d_var ⟨_, rfl, hv⟩) fun u H3 e3 hu => k u H3 ((e1.trans e2).trans e3) hu

abbrev s_L_played : Stmt := topS 47
abbrev N_L_played : List Str := ["line", "phase", "ticks", "position", "pushes", "k"]
theorem sc_L_played : FnScope N_L_played ["line", "phase", "ticks", "position", "pushes"] (defScope s_L_played) := ⟨rfl, rfl, rfl, by decide +kernel, rfl, by decide +kernel, by decide +kernel⟩

theorem ok_L_played {f : Addr} {fd : FuncData} (F : Fun K "_law_played" "_law_played" s_L_played f fd) (T : Bl mg) (D_law_times : Def P' w K mg base CX0 2 "_law_times" ["a", "b"] (spD K 2 fTimesR)) (D_law_plus : Def P' w K mg base CX0 2 "_law_plus" ["a", "b"] (spD K 2 fPlusR)) :
    FnOk P' w K mg base CX0 3 f fd ["line", "phase", "ticks", "position", "pushes"] (spD K 5 fPlayed) := by
  refine F.ok sc_L_played (fun vs H Q E h => ?_) (fun cdv A outer s H vs Q E hr h => ?_)
  · obtain ⟨ds, d, hl, hd, _⟩ := h
    exact (dps_len hd).trans hl
  · refine ⟨_, (pss_cons (ps_for PassesOwn.never rfl (pi_range1 rfl T.b_range (pa_cons (pv 2) pa_nil)) (pg_name (i := 5) sc_L_played.nd rfl (Or.inl rfl)) (pss_one (ps_set (i := 3) sc_L_played.nd rfl (Or.inl rfl) (pe_dcall D_law_plus (hr.mono (by decide)) pass0 (pa_cons (pe_dcall D_law_times (hr.mono (by decide)) pass0 (pa_cons (pe_ix (r := rIxL K) ix_list (pv 0) (pe_op op_mod (pe_callTy call_int1 (by rfl) T.b_int (by decide +kernel) (pa_cons (pe_op op_add (pv 1) (pv 5)) pa_nil)) (pe_callB call_len_seq (by rfl) T.b_len (by decide +kernel) (pa_cons (pv 0) pa_nil))) (fun _ _ => rfl)) (pa_cons (pv 3) pa_nil))) (pa_cons (pe_ix (r := rIxL K) ix_list (pv 4) (pv 5) (fun _ _ => rfl)) pa_nil))))))
    (pss_one (ps_ret (pv 3)))), ?_⟩
    obtain ⟨ds, d, hl, hd, ⟨r, us, x, ph, t, rfl, hr, hx, ht, hut, hus, rfl⟩, k⟩ := h
    obtain ⟨v_r, vs, rfl, h_r, hd⟩ := dps_cons hd
    obtain ⟨v_p, vs, rfl, h_p, hd⟩ := dps_cons hd
    obtain ⟨v_t, vs, rfl, h_t, hd⟩ := dps_cons hd
    obtain ⟨v_x, vs, rfl, h_x, hd⟩ := dps_cons hd
    obtain ⟨v_u, vs, rfl, h_u, hd⟩ := dps_cons hd
    obtain rfl := dps_nil hd
    cases h_p
    cases h_t
    have hu : ∀ k, Sz 31 (us.getD k 0) := fun k => by
      rw [List.getD_eq_getElem?_getD]
      cases e : us[k]? with
      | none => exact sz_zero.mono (by decide)
      | some u => exact hus u (List.mem_of_getElem? e)
    refine z_forN (K := K) (σ := [some v_r, some (.int (ph : Int)), some (.int (t : Int)), some v_x, some v_u, none]) (ds_cons (d_var (d := .int (t : Int)) ⟨_, rfl, .int _⟩) ds_nil) (by omega) (by omega) (fun i σ' H' => ∃ v o, σ' = [some v_r, some (.int (ph : Int)), some (.int (t : Int)), some v, some v_u, o] ∧ Dp K H' v (ratR (pos (cyc r) ph x (fun k => us.getD k 0) i)))
      (fun H2 e2 => ⟨v_x, none, rfl, dp_grow e2 _ _ h_x⟩) ?_ ?_
    · rintro i σ' H' D' hi e2 ⟨v, o, rfl, hv⟩ kk
      have it : i < t := by omega
      refine z_set1 (K := K) (σ := [some v_r, some (.int (ph : Int)), some (.int (t : Int)), some v, some v_u, some (.int (i : Int))]) (d_call (ds_cons (d_call (ds_cons (at_cyc hr rfl (dp_grow e2 _ _ h_r) rfl rfl) (ds_cons (d_var ⟨_, rfl, hv⟩) ds_nil)) rfl ⟨_, _, rfl, (cyc_ok hr _).2.mono (by decide), (pos_sz hr hx hu ph i).mono (by show _ ≤ 1500; omega), rfl⟩) (ds_cons (d_ixL (ds := us.map ratR) (d_var ⟨_, rfl, dp_grow e2 _ _ h_u⟩) (d_var (d := .int (i : Int)) ⟨_, rfl, .int _⟩) (at_map _ 0 (by omega))) ds_nil)) rfl ⟨_, _, rfl, (sz_mul (cyc_ok hr _).2 (pos_sz hr hx hu ph i)).mono (by show _ ≤ 1500; omega), (hu i).mono (by decide), rfl⟩) fun u H3 e3 hu => ?_
      exact kk _ _ e3 ⟨u, _, rfl, hu⟩
    · rintro σ' H' e2 ⟨v, o, rfl, hv⟩
      rw [Int.toNat_natCast] at hv
      exact z_ret (K := K) (σ := [some v_r, some (.int (ph : Int)), some (.int (t : Int)), some v, some v_u, o]) (d_var ⟨_, rfl, hv⟩) fun u H3 e3 hu => k u H3 (e2.trans e3) hu

abbrev s_L_any_ratio : Stmt := topS 43
abbrev N_L_any_ratio : List Str := ["hand", "most", "one"]
theorem sc_L_any_ratio : FnScope N_L_any_ratio ["hand"] (defScope s_L_any_ratio) := ⟨rfl, rfl, rfl, by decide +kernel, rfl, by decide +kernel, by decide +kernel⟩

def Any (d : PyData) : Prop := ∃ x : Rat, d = ratR x ∧ x ≠ 0 ∧ Sz 31 x
theorem any_low {a b : Int} (ha : 1 ≤ a) (ha' : a ≤ 10 ^ 9) (hb : 1 ≤ b) (hb' : b ≤ 10 ^ 9) : ∃ x : Rat, lowest a b = ratR x ∧ x ≠ 0 ∧ Sz 31 x := by
  obtain ⟨z, e, hz⟩ := low_sz (a := 31) (by omega : 0 < b) (t := a) (by omega) (by omega)
  refine ⟨z, e, fun z0 => ?_, hz⟩
  rw [lowest_div (by omega)] at e
  have e := ratR_inj e
  rw [z0] at e
  have hb0 : (b : Rat) ≠ 0 := by simp; omega
  have ha0 : (a : Rat) ≠ 0 := by simp; omega
  generalize (a : Rat) = u at *
  generalize (b : Rat) = v at *
  have : u = 0 := by
    have := Rat.div_mul_cancel (a := u) hb0
    rw [e] at this
    grind
  exact ha0 this
theorem ok_L_any_ratio {f : Addr} {fd : FuncData} (F : Fun K "_law_any_ratio" "_law_any_ratio" s_L_any_ratio f fd) (T : Bl mg) (D_law_draw : Def P' w K mg base CX0 2 "_law_draw" ["hand", "many"] spDraw) (D_law_ratio : Def P' w K mg base CX0 1 "_law_ratio" ["top", "bottom"] (spD K 2 fLowest)) :
    FnOk P' w K mg base CX0 3 f fd ["hand"] (spHD K Any) := by
  refine F.ok sc_L_any_ratio (fun vs H Q E h => ?_) (fun cdv A outer s H vs Q E hr h => ?_)
  · obtain ⟨hd, c, ns, rfl, _⟩ := h
    rfl
  · refine ⟨_, (pss_cons (ps_set (i := 1) sc_L_any_ratio.nd rfl (Or.inl rfl) (pe_ix (r := rIxT K) ix_tup (pe_tup (pa_cons pe_int (pa_cons pe_int (pa_cons (pe_op op_pow pe_int pe_int) pa_nil)))) (pe_dcall D_law_draw (hr.mono (by decide)) pass0 (pa_cons (pv 0) (pa_cons pe_int pa_nil))) (fun _ _ => rfl)))
    (pss_cons (ps_set (i := 2) sc_L_any_ratio.nd rfl (Or.inl rfl) (pe_dcall D_law_ratio (hr.mono (by decide)) pass0 (pa_cons (pe_op op_add pe_int (pe_dcall D_law_draw (hr.mono (by decide)) pass0 (pa_cons (pv 0) (pa_cons (pv 1) pa_nil)))) (pa_cons (pe_op op_add pe_int (pe_dcall D_law_draw (hr.mono (by decide)) pass0 (pa_cons (pv 0) (pa_cons (pv 1) pa_nil)))) pa_nil))))
    (pss_one (ps_ret (pe_ifExp (pt_cmpR op_eq (pe_dcall D_law_draw (hr.mono (by decide)) pass0 (pa_cons (pv 0) (pa_cons pe_int pa_nil))) pe_int (nomark _)) (pe_tup (pa_cons (pe_un un_neg (pe_ix (r := rIxT K) ix_tup (pv 2) pe_int (fun _ _ => rfl))) (pa_cons (pe_ix (r := rIxT K) ix_tup (pv 2) pe_int (fun _ _ => rfl)) pa_nil))) (pv 2)))))), ?_⟩
    obtain ⟨hd, c, ns, rfl, hh, k⟩ := h
    have s0 : StB hd c ns (rem H hd) H := ⟨hh, Ex.refl _⟩
    refine bz_int (D := _) (σ := [some (.ref hd), none, none]) (P := fun i => 1 ≤ i ∧ i ≤ 10 ^ 9) s0 (i_menu (is := [3, 8, 10 ^ 9]) (P1 := fun i => 0 ≤ i ∧ i < 3) (fun H => d_tup (ds_cons d_int (ds_cons d_int (ds_cons (d_pow d_int d_int ⟨by decide, by decide, by decide⟩) ds_nil))) (by show 3 ≤ 1000; decide)) (i_draw rfl (by decide) (by decide) (fun i p q => ⟨p, q⟩)) (fun i p => p) (fun i hi => by
      simp only [List.mem_cons, List.not_mem_nil, or_false] at hi
      rcases hi with rfl | rfl | rfl <;> decide)) fun mo H1 s1 pm => ?_
    have dr : EI hd c ns (tCall spDraw [] E0 (tCons (tVar 0) (tCons (tVar 1) tNil))) [some (.ref hd), some (.int mo), none] (fun i => 0 ≤ i ∧ i < 10 ^ 9) := i_drawE (Pm := fun i => 1 ≤ i ∧ i ≤ 10 ^ 9) rfl (i_var rfl pm) (fun n p => ⟨by omega, Nat.lt_of_lt_of_le (m := 2 ^ 31) (by omega) (Nat.pow_le_pow_right (by decide) (by decide))⟩) (fun n i p q1 q2 => ⟨q1, by omega⟩)
    have dr1 : EI hd c ns (tOp (rI0 fun i j => .int (i + j)) (tC (.int 1)) (tCall spDraw [] E0 (tCons (tVar 0) (tCons (tVar 1) tNil)))) [some (.ref hd), some (.int mo), none] (fun i => 1 ≤ i ∧ i ≤ 10 ^ 9) := i_add (i_c (P := fun i => i = 1) rfl) dr (fun i j p q => by omega)
    refine bz_data (K := K) (D := _) (P := Any) (σ := [some (.ref hd), some (.int mo), none]) s1 (eh_two (g := fun i j => lowest i j) dr1 dr1 (fun i j p q => ⟨⟨i, j, rfl, by omega, Nat.lt_of_lt_of_le (m := 2 ^ 31) (by omega) (Nat.pow_le_pow_right (by decide) (by decide)), rfl⟩, rfl, any_low p.1 p.2 q.1 q.2⟩)) fun v d H2 B1 s2 e2 hv fl px => ?_
    obtain ⟨x, rfl, x0, sx⟩ := px
    refine bz_retIf (K := K) (σ := [some (.ref hd), some (.int mo), some v]) (d1 := ratR (-x)) (d2 := ratR x) s2 (i_draw (P := fun i => 0 ≤ i ∧ i < 3) rfl (by decide) (by decide) (fun i p q => ⟨p, q⟩)) (d_tup (ds_cons (d_neg (d_ixT (d_var ⟨_, rfl, hv⟩) d_int rfl)) (ds_cons (d_ixT (d_var ⟨_, rfl, hv⟩) d_int rfl) ds_nil)) (by show 2 ≤ 1000; decide)) (d_var ⟨_, rfl, hv⟩) rfl rfl fun u d H3 hd hh3 e3 hu fl3 => ?_
    refine k u d H3 hh3 ((e2.trans s2.ex).trans e3) hu fl3 ?_
    rcases hd with rfl | rfl
    · exact ⟨-x, rfl, fun z => x0 (by have := congrArg (fun t : Rat => -t) z; simpa using this), sz_neg sx⟩
    · exact ⟨x, rfl, x0, sx⟩
end
end K03
namespace K03
open PySem L2 Evl Dat
structure GoodD (F : List (List Rat)) (p s : List Rat) : Prop where
  g : GoodP F p s
  row : ∀ r ∈ F, Row r
  p1 : ∀ x ∈ p, Sz 31 x
  s1 : ∀ x ∈ s, Sz 31 x
def spPlant (K : PySem.W.Frag) : Sp := fun vs H Q _ => ∃ (h c : Addr) (ns : List Int), vs = [.ref h] ∧ HandOk H h c ns ∧ ∀ v F p s H', HandOk H' h c ns → Ex (rem H h) (rem H' h) → GoodD F p s → Dp K (rem H' h) v (.tuple [facD false false F, rowD false p, rowD false s]) → Q v H'
theorem rats_any {P : Rat → Prop} : ∀ {ds : List PyData}, (∀ d ∈ ds, flat d = true ∧ ∃ x : Rat, d = ratR x ∧ P x) → ∃ rs : List Rat, ds = rs.map ratR ∧ ∀ r ∈ rs, P r
  | [], _ => ⟨[], rfl, fun r hr => by cases hr⟩
  | d :: ds, h => by
    obtain ⟨rs, e, hr⟩ := rats_any fun x hx => h x (List.mem_cons_of_mem _ hx)
    obtain ⟨_, x, rfl, px⟩ := h d List.mem_cons_self
    refine ⟨x :: rs, by rw [e]; rfl, fun r h' => ?_⟩
    rcases List.mem_cons.mp h' with q | q
    · rw [q]; exact px
    · exact hr r q
def sizeD : PyData → PyData
  | .tuple [.int p, .int q] => .tuple [.int (p.natAbs : Int), .int q]
  | d => d
theorem size_any {d : PyData} (h : Any d) : fSize [d] (sizeD d) ∧ flat (sizeD d) = true ∧ ∃ x : Rat, sizeD d = ratR x ∧ 0 < x ∧ Sz 31 x := by
  obtain ⟨x, rfl, x0, sx⟩ := h
  exact ⟨⟨_, _, rfl, rfl⟩, rfl, absR x, abs_ratR x, abs_pos x0, abs_sz sx⟩
/-- return (a, b, c) of what the base knows: the tuple is new -/
theorem ret_base {K : PySem.W.Frag} {h c : Addr} {ns : List Int} {H : Hp} {σ : L2.St} {D : L2.Ends} {i j k : Nat} {u v w : V} {d1 d2 d3 : PyData} (hh : HandOk H h c ns) (s1 : σ[i]? = some (some u)) (s2 : σ[j]? = some (some v)) (s3 : σ[k]? = some (some w))
    (h1 : Dp K (rem H h) u d1) (h2 : Dp K (rem H h) v d2) (h3 : Dp K (rem H h) w d3)
    (q : ∀ v H2, HandOk H2 h c ns → Ex (rem H h) (rem H2 h) → Dp K (rem H2 h) v (.tuple [d1, d2, d3]) → D.rt v H2) : tRet (tTup (tCons (tVar i) (tCons (tVar j) (tCons (tVar k) tNil)))) D σ H := by
  refine ⟨u, s1, v, s2, w, s3, sz_of (by show 3 ≤ 100000; decide), fun p hp => ?_⟩
  obtain ⟨n1, n2⟩ := hand_ne hh hp
  have e : Ex (rem H h) (rem (upd H p (.tup [u, v, w])) h) := ex_rem (Ex.new hp)
  refine q _ _ (hand_upd hh n1.symm n2.symm) e (.tup (SqT.of (by rw [rem_ne n1]; exact upd_same)) (.cons (dp_grow e _ _ h1) (.cons (dp_grow e _ _ h2) (.cons (dp_grow e _ _ h3) .nil))))
theorem z_proj {f : L2.St → Hp → Prop} {D : L2.Ends} {σ : L2.St} {H : Hp} (h : f σ H) : ({ D with nx := f } : L2.Ends).nx σ H := h
section
variable {P' : Program} {w : World} {K : PySem.W.Frag} {mg : Str → Option Value} {base : Heap}

abbrev s_L_plant_drawn : Stmt := topS 44
abbrev N_L_plant_drawn : List Str := ["hand", "modes", "period", "factors", "mode", "phase", "pushes", "starts"]
theorem sc_L_plant_drawn : FnScope N_L_plant_drawn ["hand"] (defScope s_L_plant_drawn) := ⟨rfl, rfl, rfl, by decide +kernel, rfl, by decide +kernel, by decide +kernel⟩

theorem ok_L_plant_drawn {f : Addr} {fd : FuncData} (F : Fun K "_law_plant_drawn" "_law_plant_drawn" s_L_plant_drawn f fd) (T : Bl mg) (D_law_draw : Def P' w K mg base CX0 2 "_law_draw" ["hand", "many"] spDraw) (D_law_any_ratio : Def P' w K mg base CX0 3 "_law_any_ratio" ["hand"] (spHD K Any)) (D_law_size : Def P' w K mg base CX0 1 "_law_size" ["a"] (spD K 1 fSize)) :
    FnOk P' w K mg base CX0 4 f fd ["hand"] (spPlant K) := by
  refine F.ok sc_L_plant_drawn (fun vs H Q E h => ?_) (fun cdv A outer s H vs Q E hr h => ?_)
  · obtain ⟨hd, c, ns, rfl, _⟩ := h
    rfl
  · refine ⟨_, (pss_cons (ps_set (i := 1) sc_L_plant_drawn.nd rfl (Or.inl rfl) (pe_op op_add pe_int (pe_dcall D_law_draw (hr.mono (by decide)) pass0 (pa_cons (pv 0) (pa_cons pe_int pa_nil)))))
    (pss_cons (ps_set (i := 2) sc_L_plant_drawn.nd rfl (Or.inl rfl) (pe_op op_add pe_int (pe_dcall D_law_draw (hr.mono (by decide)) pass0 (pa_cons (pv 0) (pa_cons pe_int pa_nil)))))
    (pss_cons (ps_set (i := 3) sc_L_plant_drawn.nd rfl (Or.inl rfl) (pe_lst pa_nil))
    (pss_cons (ps_for PassesOwn.never rfl (pi_range1 rfl T.b_range (pa_cons (pv 1) pa_nil)) (pg_name (i := 4) sc_L_plant_drawn.nd rfl (Or.inl rfl)) (pss_cons (ps_expr (pe_bm PySem.F.plainAttrs_list PySem.F.slot_list_append PySem.F.type_list_append mt_append (pv 3) (pa_cons (pe_lc (own := [("phase", 5)]) (g := gName 5) rfl sc_L_plant_drawn.nd (pi_range1 rfl T.b_range (pa_cons (pv 2) pa_nil)) (blkOk_by (own := [("phase", 5)]) (N := N_L_plant_drawn) (sc := defScope s_L_plant_drawn) (by decide +kernel)) (fun _ _ _ _ _ => pg_name (i := 5) sc_L_plant_drawn.nd rfl (Or.inl rfl)) (fun _ _ _ _ _ => pts_nil) (fun _ _ _ _ _ => (pe_dcall D_law_any_ratio (hr.mono (by decide)) pass0 (pa_cons (pv 0) pa_nil)))) pa_nil)))
    (pss_one (ps_if (pt_cmpR op_eq (pe_dcall D_law_draw (hr.mono (by decide)) pass0 (pa_cons (pv 0) (pa_cons pe_int pa_nil))) pe_int (nomark _)) (pss_one (ps_asg (pe_lc (own := [("phase", 5)]) (g := gName 5) rfl sc_L_plant_drawn.nd (pi_range1 rfl T.b_range (pa_cons (pv 2) pa_nil)) (blkOk_by (own := [("phase", 5)]) (N := N_L_plant_drawn) (sc := defScope s_L_plant_drawn) (by decide +kernel)) (fun _ _ _ _ _ => pg_name (i := 5) sc_L_plant_drawn.nd rfl (Or.inl rfl)) (fun _ _ _ _ _ => pts_nil) (fun _ _ _ _ _ => (pe_ifExp (pt_cmpR op_eq (pe_dcall D_law_draw (hr.mono (by decide)) pass0 (pa_cons (pv 0) (pa_cons pe_int pa_nil))) pe_int (nomark _)) (pe_tup (pa_cons (pe_un un_neg pe_int) (pa_cons pe_int pa_nil))) (pe_tup (pa_cons pe_int (pa_cons pe_int pa_nil)))))) (pg_sub (pv 3) (pv 4) set_list) rfl)) pss_nil))))
    (pss_cons (ps_setLc (i := 6) (own := [("mode", 4)]) (g := gName 4) rfl sc_L_plant_drawn.nd rfl rfl (sw_true rfl rfl rfl (by decide +kernel)) (pi_range1 rfl T.b_range (pa_cons (pv 1) pa_nil)) (blkOk_by (own := [("mode", 4)]) (N := N_L_plant_drawn) (sc := defScope s_L_plant_drawn) (by decide +kernel)) (fun _ _ _ _ _ => pg_name (i := 4) sc_L_plant_drawn.nd rfl (Or.inl rfl)) (fun _ _ _ _ _ => pts_nil) (fun _ _ _ _ _ => (pe_dcall D_law_size (hr.mono (by decide)) pass0 (pa_cons (pe_dcall D_law_any_ratio (hr.mono (by decide)) pass0 (pa_cons (pv 0) pa_nil)) pa_nil))))
    (pss_cons (ps_setLc (i := 7) (own := [("mode", 4)]) (g := gName 4) rfl sc_L_plant_drawn.nd rfl rfl (sw_true rfl rfl rfl (by decide +kernel)) (pi_range1 rfl T.b_range (pa_cons (pv 1) pa_nil)) (blkOk_by (own := [("mode", 4)]) (N := N_L_plant_drawn) (sc := defScope s_L_plant_drawn) (by decide +kernel)) (fun _ _ _ _ _ => pg_name (i := 4) sc_L_plant_drawn.nd rfl (Or.inl rfl)) (fun _ _ _ _ _ => pts_nil) (fun _ _ _ _ _ => (pe_ifExp (pt_cmpR op_eq (pe_dcall D_law_draw (hr.mono (by decide)) pass0 (pa_cons (pv 0) (pa_cons pe_int pa_nil))) pe_int (nomark _)) (pe_tup (pa_cons pe_int (pa_cons pe_int pa_nil))) (pe_dcall D_law_size (hr.mono (by decide)) pass0 (pa_cons (pe_dcall D_law_any_ratio (hr.mono (by decide)) pass0 (pa_cons (pv 0) pa_nil)) pa_nil)))))
    (pss_one (ps_ret (pe_tup (pa_cons (pv 3) (pa_cons (pv 6) (pa_cons (pv 7) pa_nil)))))))))))), ?_⟩
    obtain ⟨hd, c, ns, rfl, hh, k⟩ := h
    have dr : ∀ {σ : L2.St} {m : Int} , σ[0]? = some (some (.ref hd)) → 0 < m → m.natAbs < 2 ^ 1000 → EI hd c ns (tCall spDraw [] E0 (tCons (tVar 0) (tCons (tC (.int m)) tNil))) σ (fun i => 0 ≤ i ∧ i < m) := fun e m0 m1 => i_draw e m0 m1 (fun i p q => ⟨p, q⟩)
    refine bz_int (D := _) (σ := [some (.ref hd), none, none, none, none, none, none, none]) (P := fun i => 1 ≤ i ∧ i ≤ 3) (B := rem H hd) ⟨hh, Ex.refl _⟩ (i_add (i_c (P := fun i => i = 1) rfl) (dr rfl (by decide) (by decide)) (fun i j p q => by omega)) fun mo H1 s1 pm => ?_
    refine bz_int (D := _) (σ := [some (.ref hd), some (.int mo), none, none, none, none, none, none]) (P := fun i => 1 ≤ i ∧ i ≤ 4) s1 (i_add (i_c (P := fun i => i = 1) rfl) (dr rfl (by decide) (by decide)) (fun i j p q => by omega)) fun pe H2 s2 pp => ?_
    refine z_nil (D := _) (σ := [some (.ref hd), some (.int mo), some (.int pe), none, none, none, none, none]) fun L hL => ?_
    obtain ⟨nLh, nLc⟩ := hand_ne s2.hh hL
    have hh3 : HandOk (upd H2 L (.lst [])) hd c ns := hand_new s2.hh hL
    have ex3 : Ex (rem H hd) (rem (upd H2 L (.lst [])) hd) := s2.ex.trans (ex_rem (Ex.new hL))
    have hL3 : upd H2 L (.lst []) L = some (.lst []) := upd_same
    generalize upd H2 L (.lst []) = H3 at hh3 ex3 hL3
    obtain ⟨mn, rfl⟩ := Int.eq_ofNat_of_zero_le (show 0 ≤ mo by omega)
    refine z_forA (σ := [some (.ref hd), some (.int (mn : Int)), some (.int pe), some (.ref L), none, none, none, none]) (S := fun n H => n = (mn : Int) ∧ H = H3) (fun Q q => ⟨_, rfl, q _ _ ⟨rfl, rfl⟩ ⟨by omega, by omega⟩⟩)
      (fun n i σ' H' => n = (mn : Int) ∧ HandOk H' hd c ns ∧ Ex (rem H hd) (rem H' hd) ∧ ∃ o xs, σ' = [some (.ref hd), some (.int (mn : Int)), some (.int pe), some (.ref L), o, none, none, none] ∧ H' L = some (.lst xs) ∧ ∃ R : List (List Rat), R.length = i ∧ (∀ r ∈ R, Row r ∧ (r.length : Int) = pe) ∧ DpAll K (rem (rem H' hd) L) xs (R.map (rowD false)))
      (fun n H4 e => by obtain ⟨rfl, rfl⟩ := e; exact ⟨rfl, hh3, ex3, none, [], rfl, hL3, [], rfl, (fun r hr => by cases hr), .nil⟩) (fun n i σ' H' D' hi pv _ kD => ?_) (fun n σ' H4 n0 pv => ?_)
    · obtain ⟨rfl, hh', ex', o, xs, rfl, hLx, R, hRl, hR, hall⟩ := pv
      have hxl : xs.length = i := by rw [dps_len hall, List.length_map, hRl]
      -- factors.append([..])
      refine hz_append1 (D := { D' with nx := _ }) (σ := [some (.ref hd), some (.int (mn : Int)), some (.int pe), some (.ref L), some (.int (i : Int)), none, none, none]) (L := L) (S := fun v H2 => ∃ r, HandOk H2 hd c ns ∧ Ex (rem H' hd) (rem H2 hd) ∧ Row r ∧ (r.length : Int) = pe ∧ Dp K (rem (rem H2 hd) L) v (rowD false r)) rfl hLx (by omega) (fun Q q => ?_) (fun v H2 st hL2 => ?_)
      · refine eh_newL (K := K) (σ := [some (.ref hd), some (.int (mn : Int)), some (.int pe), some (.ref L), some (.int (i : Int)), none, none, none]) (P := Any) (Pn := fun i => i = pe) (i_var rfl rfl) (fun n p => by omega) (fun _ => rfl) (fun i => eh_hand rfl) hh' nLh hLx Q fun p ds H2 hh2 e2 hL2 hv pn hds => ?_
        obtain ⟨r, rfl, hr⟩ := rats_any hds
        rw [List.length_map] at pn
        exact q _ H2 ⟨r, hh2, e2, ⟨by omega, by omega, hr⟩, pn, hv⟩ hL2
      · obtain ⟨r, hh2, ex2, rr, rl, hv⟩ := st
        have hh5 : HandOk (upd H2 L (.lst (xs ++ [v]))) hd c ns := hand_upd hh2 (Ne.symm nLh) (Ne.symm nLc)
        have hL5 : upd H2 L (.lst (xs ++ [v])) L = some (.lst (xs ++ [v])) := upd_same
        have q5 : rem (rem (upd H2 L (.lst (xs ++ [v]))) hd) L = rem (rem H2 hd) L := rem_upd2
        have ex5 : Ex (rem H hd) (rem (upd H2 L (.lst (xs ++ [v]))) hd) := by
          have nb : rem H hd L = none := by
            cases z : rem H hd L with
            | none => rfl
            | some u =>
              have := s2.ex L u z
              rw [rem_ne nLh, hL] at this
              cases this
          intro a u e
          have na : a ≠ L := fun z => by rw [z, nb] at e; cases e
          have := (ex'.trans ex2) a u e
          by_cases ah : a = hd
          · rw [ah, rem_self] at this; cases this
          · rw [rem_ne ah] at this ⊢
            rw [upd_ne na]; exact this
        have all5 : DpAll K (rem (rem (upd H2 L (.lst (xs ++ [v]))) hd) L) (xs ++ [v]) ((R ++ [r]).map (rowD false)) := by
          rw [q5, List.map_append]
          exact dps_app (dps_grow (ex_rem ex2) _ _ hall) (.cons hv .nil)
        have hR5 : ∀ r' ∈ R ++ [r], Row r' ∧ (r'.length : Int) = pe := fun r' hr' => by
          rcases List.mem_append.mp hr' with z | z
          · exact hR r' z
          · rw [List.mem_singleton.mp z]; exact ⟨rr, rl⟩
        have l5 : (R ++ [r]).length = i + 1 := by rw [List.length_append, hRl]; rfl
        generalize upd H2 L (.lst (xs ++ [v])) = H5 at hh5 hL5 ex5 all5
        generalize xs ++ [v] = xs5 at hL5 all5
        generalize R ++ [r] = R5 at all5 hR5 l5
        refine z_proj ?_
        refine hz_ifEq (D := D') hh5 (dr rfl (by decide) (by decide)) (fun H6 hh6 e6 => ?_) (fun H6 hh6 e6 => ?_)
        · have hL6 := keep_ne e6 nLh hL5
          have all6 := dps_grow (ex_rem e6) _ _ all5
          refine eh_newL (K := K) (σ := [some (.ref hd), some (.int (mn : Int)), some (.int pe), some (.ref L), some (.int (i : Int)), none, none, none]) (P := Any) (Pn := fun i => i = pe) (i_var rfl rfl) (fun n p => by omega) (fun _ => rfl) (fun i => eh_if (dr rfl (by decide) (by decide)) (eh_of (d := ratR (-1)) (fun H => d_tup (ds_cons (d_neg d_int) (ds_cons d_int ds_nil)) (by show 2 ≤ 1000; decide)) rfl ⟨-1, rfl, by decide, by decide, by decide⟩) (eh_of (d := ratR 1) (fun H => d_tup (ds_cons d_int (ds_cons d_int ds_nil)) (by show 2 ≤ 1000; decide)) rfl ⟨1, rfl, by decide, by decide, by decide⟩)) hh6 nLh hL6 _ fun p ds H7 hh7 e7 hL7 hv7 pn hds => ?_
          obtain ⟨r7, rfl, hr7⟩ := rats_any hds
          rw [List.length_map] at pn
          have hx5 : xs5.length = i + 1 := by rw [dps_len all5, List.length_map, l5]
          refine ⟨_, rfl, _, rfl, L, xs5, (i : Int), i, rfl, rfl, hL7, by unfold ixN; rw [if_pos (by omega), if_pos (by omega), Int.toNat_natCast], ?_⟩
          refine kD _ _ ⟨rfl, hand_upd hh7 (Ne.symm nLh) (Ne.symm nLc), ?_, _, _, rfl, upd_same, R5.set i r7, by rw [List.length_set, l5], ?_, ?_⟩
          · have nb : rem H hd L = none := by
              cases z : rem H hd L with
              | none => rfl
              | some u =>
                have := s2.ex L u z
                rw [rem_ne nLh, hL] at this
                cases this
            intro a u e
            have na : a ≠ L := fun z => by rw [z, nb] at e; cases e
            have := (ex5.trans (e6.trans e7)) a u e
            by_cases ah : a = hd
            · rw [ah, rem_self] at this; cases this
            · rw [rem_ne ah] at this ⊢
              rw [upd_ne na]; exact this
          · intro r' hr'
            rcases List.mem_or_eq_of_mem_set hr' with z | z
            · exact hR5 r' z
            · rw [z]; exact ⟨⟨by omega, by omega, hr7⟩, pn⟩
          · rw [rem_upd2, List.map_set]
            exact dps_set (dps_grow (ex_rem e7) _ _ all6) hv7
        · have hL6 := keep_ne e6 nLh hL5
          exact kD _ _ ⟨rfl, hh6, ex5.trans e6, _, _, rfl, hL6, R5, l5, hR5, dps_grow (ex_rem e6) _ _ all5⟩
    · obtain ⟨rfl, hh4, ex4, o, xs, rfl, hLx, R, hRl, hR, hall⟩ := pv
      rw [Int.toNat_natCast] at hRl
      have s4 : StB hd c ns (rem H4 hd) H4 := ⟨hh4, Ex.refl _⟩
      have fac4 : Dp K (rem H4 hd) (.ref L) (facD false false R) := .lst (SqL.of (by rw [rem_ne nLh]; exact hLx)) (dps_grow rem_ex _ _ hall)
      refine bz_list (K := K) (D := _) (i := 6) (σ := [some (.ref hd), some (.int (mn : Int)), some (.int pe), some (.ref L), o, none, none, none]) (Pn := fun i => i = (mn : Int)) (P := fun d => ∃ x : Rat, d = ratR x ∧ 0 < x ∧ Sz 31 x) s4 (i_var rfl rfl) (fun n p => by omega) (fun _ => rfl) (fun i => eh_call1 (g := sizeD) (eh_hand rfl) (fun d hd => size_any hd)) fun v_p ds H5 B5 s5 e5 hp pn hds => ?_
      obtain ⟨p, rfl, hpp⟩ := rats_any hds
      rw [List.length_map] at pn
      refine bz_list (K := K) (D := _) (i := 7) (σ := [some (.ref hd), some (.int (mn : Int)), some (.int pe), some (.ref L), o, none, some v_p, none]) (Pn := fun i => i = (mn : Int)) (P := fun d => ∃ x : Rat, d = ratR x ∧ 0 ≤ x ∧ Sz 31 x) s5 (i_var rfl rfl) (fun n p => by omega) (fun _ => rfl) (fun i => eh_if (dr rfl (by decide) (by decide)) (eh_of (d := ratR 0) (fun H => d_tup (ds_cons d_int (ds_cons d_int ds_nil)) (by show 2 ≤ 1000; decide)) rfl ⟨0, rfl, by decide, by decide, by decide⟩) (eh_imp (P := fun d => ∃ x : Rat, d = ratR x ∧ 0 < x ∧ Sz 31 x) (eh_call1 (g := sizeD) (eh_hand rfl) (fun d hd => size_any hd)) (fun d ⟨x, e, x0, sx⟩ => ⟨x, e, Rat.le_of_lt x0, sx⟩))) fun v_s ds H6 B6 s6 e6 hs sn hds => ?_
      obtain ⟨s, rfl, hss⟩ := rats_any hds
      rw [List.length_map] at sn
      obtain ⟨q0, hq0⟩ := hand_lst s6.hh
      have gd : GoodD R p s := by
        refine ⟨⟨⟨by omega, by omega, ⟨pe.toNat, by omega, by omega, fun r hr => by have := (hR r hr).2; omega⟩, fun r hr x hx => ?_⟩, by omega, by omega, fun x hx => ⟨(hpp x hx).1, (hpp x hx).2.mono (by decide)⟩, fun x hx => ⟨(hss x hx).1, (hss x hx).2.mono (by decide)⟩⟩, fun r hr => (hR r hr).1, fun x hx => (hpp x hx).2, fun x hx => (hss x hx).2⟩
        obtain ⟨x0, sx⟩ := (hR r hr).1.sz x hx
        exact ⟨x0, sx.mono (by decide)⟩
      refine ret_base (K := K) s6.hh rfl rfl rfl (dp_grow ((e5.trans e6).trans s6.ex) _ _ fac4) (dp_grow (e6.trans s6.ex) _ _ hp) (dp_grow s6.ex _ _ hs) fun v H7 hh7 e7 hv => ?_
      exact k v R p s H7 hh7 ((ex4.trans (e5.trans (e6.trans s6.ex))).trans e7) gd hv
end
end K03
namespace Dat
open PySem L2 Evl
section
variable {K : PySem.W.Frag} {i : Nat} {Wout : WX} {D : L2.Ends} {l : List Clause} {ts : Addr → Value → Option Addr → TS} {C C' : Addr} {d : Option Addr} {σ : L2.St} {H : Hp}
theorem each_yes (h : PySem.W.exmOne K (.ref C) (.ref C) = some true) (k : ∀ a, H a = none → ts a (.ref C) d { nx := fun σ' H' => D.nx (σ'.set i none) H', rt := D.rt, bk := fun σ' H' => D.bk (σ'.set i none) H', ct := fun σ' H' => D.ct (σ'.set i none) H' } (σ.set i (some (.ref a))) H) :
    wEach K i Wout D ((.ref C, ts) :: l) (.ref C) d σ H := ⟨true, h, fun _ => k, fun q => by cases q⟩
theorem each_no (h : PySem.W.exmOne K (.ref C) (.ref C') = some false) (k : wEach K i Wout D l (.ref C) d σ H) : wEach K i Wout D ((.ref C', ts) :: l) (.ref C) d σ H := ⟨false, h, (fun q => by cases q), fun _ => k⟩
theorem z_beta {t ts' : TS} (h : t { D with nx := ts' D } σ H) : tSeq t ts' D σ H := h
end
end Dat
namespace K03
open PySem L2 Evl Dat
abbrev tag (w : Str) (d : PyData) : PyData := .tuple [.str w, d]
def fWord : OnF := fun F _ _ ds d => ∃ (nm : Nat) (m ph t : PyData), ds = [.int (nm : Int), m, ph, t] ∧ nm < 3 ∧ ((okM F m = false ∧ d = tag "mode" m) ∨ (okM F m = true ∧ okPh ph = false ∧ d = tag "phase" ph) ∨
  (okM F m = true ∧ okPh ph = true ∧ okT t = false ∧ d = tag "ticks" t) ∨ ∃ mm pp tt : Nat, at3 [m, ph, t] F mm pp tt ∧ Fits (fac F mm) tt ∧ d = .str "let")
def fOther : OnF := fun F _ _ ds d => ∃ (nm : Nat) (m q : PyData), ds = [.int (nm : Int), m, q] ∧
  ((nm = 0 ∧ okM F m = false ∧ d = tag "mode" m) ∨ (nm = 0 ∧ okM F m = true ∧ badUnit q ∧ d = tag "unit" q) ∨ (nm = 1 ∧ okM F m = false ∧ d = tag "mode" m) ∨ (nm = 1 ∧ okM F m = true ∧ okPh q = false ∧ d = tag "phase" q) ∨
    (nm = 2 ∧ okPh q = false ∧ d = tag "phase" q) ∨ (nm = 3 ∧ (wholeIn q (.int 1) .none = false ∨ ∃ n : Int, q = .int n ∧ n.natAbs < 2 ^ 100 ∧ 4 < n * ((F.getD 0 []).length : Int)) ∧ d = tag "times" q) ∨ (∃ n : Nat, nm = 3 ∧ q = .int (n : Int) ∧ 1 ≤ n ∧ n * (F.getD 0 []).length ≤ 4 ∧ d = .str "let"))
/-- classes that don't catch one another -/
structure Apart (K : PySem.W.Frag) (CM CP CT CU CR : Addr) : Prop where
  pm : PySem.W.exmOne K (.ref CP) (.ref CM) = some false
  tm : PySem.W.exmOne K (.ref CT) (.ref CM) = some false
  tp : PySem.W.exmOne K (.ref CT) (.ref CP) = some false
  um : PySem.W.exmOne K (.ref CU) (.ref CM) = some false
  pu : PySem.W.exmOne K (.ref CP) (.ref CU) = some false
  rm : PySem.W.exmOne K (.ref CR) (.ref CM) = some false
  ru : PySem.W.exmOne K (.ref CR) (.ref CU) = some false
  rp : PySem.W.exmOne K (.ref CR) (.ref CP) = some false
section
variable {P' : Program} {w : World} {K : PySem.W.Frag} {mg : Str → Option Value} {base : Heap} {C CM CP CT CB CU CR : Addr}

abbrev s_L_word : Stmt := topS 48
abbrev N_L_word : List Str := ["plant", "name", "mode", "phase", "ticks", "told", "e"]
theorem sc_L_word : FnScope N_L_word ["plant", "name", "mode", "phase", "ticks"] (defScope s_L_word) := ⟨rfl, rfl, rfl, by decide +kernel, rfl, by decide +kernel, by decide +kernel⟩

theorem ok_L_word {f : Addr} {fd : FuncData} (F : Fun K "_law_word" "_law_word" s_L_word f fd) (TC : ClsA K mg "Plant" C al) (A' : Apart K CM CP CT CU CR) (TMo : Cl1 P' w K mg base "NoMode" CM "mode") (TPh : Cl1 P' w K mg base "BadPhase" CP "phase") (TTi : Cl1 P' w K mg base "BadTicks" CT "ticks")
    (D_carried : MethD P' w K mg base (L2.CX P' w) 5 C "carried" ["self", "mode", "phase", "ticks"] (spM K C al 3 (onF fCarried) (onG (gStretch CM CP CT)))) (D_growth : MethD P' w K mg base (L2.CX P' w) 6 C "growth" ["self", "mode", "phase", "ticks"] (spM K C al 3 (onF fGrowth) (onG (gStretch CM CP CT))))
    (D_gathered : MethD P' w K mg base (L2.CX P' w) 5 C "gathered" ["self", "mode", "phase", "ticks"] (spM K C al 3 (onF fGathered) (onG (gStretch CM CP CT)))) : FnOk P' w K mg base CX0 7 f fd ["plant", "name", "mode", "phase", "ticks"] (spM K C al 4 (onF fWord) (fun _ _ _ => False)) := by
  refine F.ok sc_L_word (fun vs H Q E h => ?_) (fun cdv A outer s H vs Q E hr h => ?_)
  · obtain ⟨x, ws, fs, ds, rfl, hl, _, hd, _⟩ := h
    simp [dps_len hd, hl]
  · refine ⟨_, (pss_cons (ps_set (i := 5) sc_L_word.nd rfl (Or.inl rfl) pe_str)
    (pss_cons (ps_try_each (i := 6) rfl rfl sc_L_word.nd rfl rfl takes0 (fun W pn xe tk _ => (pss_one (ps_if (pt_cmpR op_eq (pv 1) pe_int (nomark _)) (pss_one (ps_expr (pe_mcall (pv 0) D_carried TC.cl (hr.mono (by decide)) (fun σ => passAt tk σ) (pa_cons (pv 2) (pa_cons (pv 3) (pa_cons (pv 4) pa_nil)))))) (pss_one (ps_if (pt_cmpR op_eq (pv 1) pe_int (nomark _)) (pss_one (ps_expr (pe_mcall (pv 0) D_growth TC.cl (hr.mono (by decide)) (fun σ => passAt tk σ) (pa_cons (pv 2) (pa_cons (pv 3) (pa_cons (pv 4) pa_nil)))))) (pss_one (ps_expr (pe_mcall (pv 0) D_gathered TC.cl (hr.mono (by decide)) (fun σ => passAt tk σ) (pa_cons (pv 2) (pa_cons (pv 3) (pa_cons (pv 4) pa_nil))))))))))) (HsAs.cons ⟨rfl, by decide, .inl TMo.gC⟩ (fun a oe cls d pn hz hf => (pss_one (ps_set (i := 5) sc_L_word.nd rfl (Or.inl rfl) (pe_tup (pa_cons pe_str (pa_cons (pe_xf TMo.xf TMo.no hz hf (pv 6)) pa_nil)))))) (HsAs.cons ⟨rfl, by decide, .inl TPh.gC⟩ (fun a oe cls d pn hz hf => (pss_one (ps_set (i := 5) sc_L_word.nd rfl (Or.inl rfl) (pe_tup (pa_cons pe_str (pa_cons (pe_xf TPh.xf TPh.no hz hf (pv 6)) pa_nil)))))) (HsAs.cons ⟨rfl, by decide, .inl TTi.gC⟩ (fun a oe cls d pn hz hf => (pss_one (ps_set (i := 5) sc_L_word.nd rfl (Or.inl rfl) (pe_tup (pa_cons pe_str (pa_cons (pe_xf TTi.xf TTi.no hz hf (pv 6)) pa_nil)))))) HsAs.nil))))
    (pss_one (ps_ret (pv 5))))), ?_⟩
    obtain ⟨x, ws, fs, ds, rfl, hl, hx, hd, ⟨d, ⟨F, p, s, hg, rfl, nm, m, ph, t, rfl, hnm, hc⟩, k⟩ | ⟨_, z, _⟩⟩ := h
    · obtain ⟨v_n, vs, rfl, h_n, hd⟩ := dps_cons hd
      obtain ⟨v_m, vs, rfl, h_m, hd⟩ := dps_cons hd
      obtain ⟨v_p, vs, rfl, h_p, hd⟩ := dps_cons hd
      obtain ⟨v_t, vs, rfl, h_t, hd⟩ := dps_cons hd
      obtain rfl := dps_nil hd
      cases h_n
      refine z_set (K := K) (σ := [some (.ref x), some (.int (nm : Int)), some v_m, some v_p, some v_t, none, none]) d_str fun v0 H1 e1 h0 => ?_
      have hx1 := has_grow e1 hx
      have h_m1 := dp_grow e1 _ _ h_m
      have h_p1 := dp_grow e1 _ _ h_p
      have h_t1 := dp_grow e1 _ _ h_t
      refine z_beta ?_

      -- what each of the three comes to
      have go : ∀ {te : TE} {D : L2.Ends} {H2 : Hp}, Ex H1 H2 → ((∃ mm pp tt : Nat, at3 [m, ph, t] F mm pp tt ∧ Fits (fac F mm) tt) → ∀ H', Ex H2 H' → D.nx [some (.ref x), some (.int (nm : Int)), some v_m, some v_p, some v_t, some v0, none] H') → ((∃ mm pp tt : Nat, at3 [m, ph, t] F mm pp tt ∧ Fits (fac F mm) tt) → ∃ d', EvD K te [some (.ref x), some (.int (nm : Int)), some v_m, some v_p, some v_t, some v0, none] H2 d') →
          ((∀ e, gStretch CM CP CT F p s [m, ph, t] e → XR te [some (.ref x), some (.int (nm : Int)), some v_m, some v_p, some v_t, some v0, none] H2)) → tDrop te D [some (.ref x), some (.int (nm : Int)), some v_m, some v_p, some v_t, some v0, none] H2 := by
        intro te D H2 e2 hD h1 h2
        rcases hc with ⟨a, rfl⟩ | ⟨a, b, rfl⟩ | ⟨a, b, c, rfl⟩ | ⟨mm, pp, tt, a, b, rfl⟩
        · exact xz_drop1 (h2 _ ⟨_, _, _, rfl, .inl ⟨a, rfl⟩⟩)
        · exact xz_drop1 (h2 _ ⟨_, _, _, rfl, .inr (.inl ⟨a, b, rfl⟩)⟩)
        · exact xz_drop1 (h2 _ ⟨_, _, _, rfl, .inr (.inr ⟨a, b, c, rfl⟩)⟩)
        · obtain ⟨d', e'⟩ := h1 ⟨mm, pp, tt, a, b⟩
          exact z_drop1 (K := K) e' fun H' eH => hD ⟨mm, pp, tt, a, b⟩ H' eH
      -- what is told of an exception
      have told : ∀ {D : L2.Ends} {H2 : Hp} {e : Raised}, Ex H1 H2 → (∀ u H', Ex H2 H' → Dp K H' u d → D.nx [some (.ref x), some (.int (nm : Int)), some v_m, some v_p, some v_t, some u, none] H') → gStretch CM CP CT F p s [m, ph, t] e →
          Rai K (WE (wEach K 6 (fun _ _ _ _ => False) D [(.ref CM, fun a cls d => tAsg (tTup (tCons (tC (.str "mode")) (tCons (tXf a cls d CM "mode" (tVar 6)) tNil))) (gName 5)), (.ref CP, fun a cls d => tAsg (tTup (tCons (tC (.str "phase")) (tCons (tXf a cls d CP "phase" (tVar 6)) tNil))) (gName 5)), (.ref CT, fun a cls d => tAsg (tTup (tCons (tC (.str "ticks")) (tCons (tXf a cls d CT "ticks" (tVar 6)) tNil))) (gName 5))])
            [some (.ref x), some (.int (nm : Int)), some v_m, some v_p, some v_t, some v0, none]) e H2 := by
        intro D H2 e e2 hD he dd as H3 e3 hdd hfl
        obtain ⟨m', ph', t', eq, hz⟩ := he
        cases eq
        have fin : ∀ {Cx : Addr} {wd fl : Str} {q : PyData} {a : Addr} {v : V} {D' : L2.Ends}, as.lookup fl = some v → Dp K H3 v q → d = tag wd q → D' = { nx := fun σ' H' => D.nx (σ'.set 6 none) H', rt := D.rt, bk := fun σ' H' => D.bk (σ'.set 6 none) H', ct := fun σ' H' => D.ct (σ'.set 6 none) H' } →
            tAsg (tTup (tCons (tC (.str wd)) (tCons (tXf a (.ref Cx) (some dd) Cx fl (tVar 6)) tNil))) (gName 5) D' [some (.ref x), some (.int (nm : Int)), some v_m, some v_p, some v_t, some v0, some (.ref a)] H3 := by
          intro Cx wd fl q a v D' h1 h2 h3 h4
          subst h4
          refine z_set1 (K := K) (i := 5) (σ := [some (.ref x), some (.int (nm : Int)), some v_m, some v_p, some v_t, some v0, some (.ref a)]) (d_tup (ds_cons d_str (ds_cons (d_xfD (C := Cx) rfl hdd h1 h2) ds_nil)) (by show 2 ≤ 1000; decide)) fun u H4 e4 hu => ?_
          exact hD u H4 (e3.trans e4) (h3 ▸ hu)
        rcases hz with ⟨a, rfl⟩ | ⟨a, b, rfl⟩ | ⟨a, b, c, rfl⟩
        · obtain ⟨v, h1, h2⟩ := hfl _ (List.mem_singleton.mpr rfl)
          refine each_yes TMo.te fun aa ha => fin h1 h2 ?_ rfl
          rcases hc with ⟨_, r⟩ | ⟨a', _, _⟩ | ⟨a', _⟩ | ⟨mm, pp, tt, ⟨r, q1, q2⟩, _⟩
          · exact r
          · rw [a] at a'; cases a'
          · rw [a] at a'; cases a'
          · cases r
            rw [okM_nat q1] at a; cases a
        · obtain ⟨v, h1, h2⟩ := hfl _ (List.mem_singleton.mpr rfl)
          refine each_no A'.pm (each_yes TPh.te fun aa ha => fin h1 h2 ?_ rfl)
          rcases hc with ⟨a', _⟩ | ⟨_, _, r⟩ | ⟨_, b', _⟩ | ⟨mm, pp, tt, ⟨r, q1, q2⟩, _⟩
          · rw [a] at a'; cases a'
          · exact r
          · rw [b] at b'; cases b'
          · cases r
            rw [okPh_nat] at b; cases b
        · obtain ⟨v, h1, h2⟩ := hfl _ (List.mem_singleton.mpr rfl)
          refine each_no A'.tm (each_no A'.tp (each_yes TTi.te fun aa ha => fin h1 h2 ?_ rfl))
          rcases hc with ⟨a', _⟩ | ⟨_, b', _⟩ | ⟨_, _, _, r⟩ | ⟨mm, pp, tt, ⟨r, q1, q2⟩, _⟩
          · rw [a] at a'; cases a'
          · rw [b] at b'; cases b'
          · exact r
          · cases r
            rw [okT_nat q2] at c; cases c
      have letd : (∃ mm pp tt : Nat, at3 [m, ph, t] F mm pp tt ∧ Fits (fac F mm) tt) → d = .str "let" := by
        rintro ⟨mm, pp, tt, ⟨r, q1, q2⟩, _⟩
        cases r
        rcases hc with ⟨a, _⟩ | ⟨_, b, _⟩ | ⟨_, _, c, _⟩ | ⟨_, _, _, _, _, r⟩
        · rw [okM_nat q1] at a; cases a
        · rw [okPh_nat] at b; cases b
        · rw [okT_nat q2] at c; cases c
        · exact r
      have ret : ∀ (u : V) (H' : Hp), Ex H1 H' → Dp K H' u d → tRet (tVar 5) { nx := fun _ H' => Q .non H', rt := Q } [some (.ref x), some (.int (nm : Int)), some v_m, some v_p, some v_t, some u, none] H' := fun u H' e hu =>
        z_ret (K := K) (σ := [some (.ref x), some (.int (nm : Int)), some v_m, some v_p, some v_t, some u, none]) (d_var ⟨_, rfl, hu⟩) fun v H2 e2 hv => k v H2 ((e1.trans e).trans e2) hv
      have lets : ∀ H', Ex H1 H' → (∃ mm pp tt : Nat, at3 [m, ph, t] F mm pp tt ∧ Fits (fac F mm) tt) → Dp K H' v0 d := fun H' e hz => by rw [letd hz]; exact dp_grow e _ _ h0
      have noc : (("carried" : Str)) ∉ al := by decide +kernel
      have nog : (("growth" : Str)) ∉ al := by decide +kernel
      have nok : (("gathered" : Str)) ∉ al := by decide +kernel
      have args : ∀ {H2 : Hp}, Ex H1 H2 → EvDs K (tCons (tVar 2) (tCons (tVar 3) (tCons (tVar 4) tNil))) [some (.ref x), some (.int (nm : Int)), some v_m, some v_p, some v_t, some v0, none] H2 [m, ph, t] := fun e2 => ds_cons (d_var ⟨_, rfl, dp_grow e2 _ _ h_m1⟩) (ds_cons (d_var ⟨_, rfl, dp_grow e2 _ _ h_p1⟩) (ds_cons (d_var ⟨_, rfl, dp_grow e2 _ _ h_t1⟩) ds_nil))
      refine z_if1 (σ := [some (.ref x), some (.int (nm : Int)), some v_m, some v_p, some v_t, some v0, none]) (b_test (K := K) (d_eqI (d_var (d := .int (nm : Int)) ⟨_, rfl, .int _⟩) d_int)) (fun c H2 e2 => ?_) (fun c H2 e2 => ?_)
      · exact go e2 (fun hz H' e => ret v0 H' (e2.trans e) (lets H' (e2.trans e) hz)) (fun ⟨mm, pp, tt, a, b⟩ => ⟨_, d_meth (o_var rfl (has_grow e2 hx1)) noc (args e2) rfl ⟨F, p, s, hg, rfl, mm, pp, tt, a, b, rfl⟩⟩) (fun e he => r_meth (o_var rfl (has_grow e2 hx1)) noc (args e2) rfl ⟨F, p, s, hg, rfl, he⟩ (told e2 (fun u H' e' hu => ret u H' (e2.trans e') hu) he))
      · refine z_if1 (σ := [some (.ref x), some (.int (nm : Int)), some v_m, some v_p, some v_t, some v0, none]) (b_test (K := K) (d_eqI (d_var (d := .int (nm : Int)) ⟨_, rfl, .int _⟩) d_int)) (fun c H3 e3 => ?_) (fun c H3 e3 => ?_)
        · exact go (e2.trans e3) (fun hz H' e => ret v0 H' ((e2.trans e3).trans e) (lets H' ((e2.trans e3).trans e) hz)) (fun ⟨mm, pp, tt, a, b⟩ => ⟨_, d_meth (o_var rfl (has_grow (e2.trans e3) hx1)) nog (args (e2.trans e3)) rfl ⟨F, p, s, hg, rfl, mm, pp, tt, a, b, rfl⟩⟩) (fun e he => r_meth (o_var rfl (has_grow (e2.trans e3) hx1)) nog (args (e2.trans e3)) rfl ⟨F, p, s, hg, rfl, he⟩ (told (e2.trans e3) (fun u H' e' hu => ret u H' ((e2.trans e3).trans e') hu) he))
        · exact go (e2.trans e3) (fun hz H' e => ret v0 H' ((e2.trans e3).trans e) (lets H' ((e2.trans e3).trans e) hz)) (fun ⟨mm, pp, tt, a, b⟩ => ⟨_, d_meth (o_var rfl (has_grow (e2.trans e3) hx1)) nok (args (e2.trans e3)) rfl ⟨F, p, s, hg, rfl, mm, pp, tt, a, b, rfl⟩⟩) (fun e he => r_meth (o_var rfl (has_grow (e2.trans e3) hx1)) nok (args (e2.trans e3)) rfl ⟨F, p, s, hg, rfl, he⟩ (told (e2.trans e3) (fun u H' e' hu => ret u H' ((e2.trans e3).trans e') hu) he))
    · exact z.elim
end
end K03
namespace K03
open PySem L2 Evl Dat
section
variable {P' : Program} {w : World} {K : PySem.W.Frag} {mg : Str → Option Value} {base : Heap} {C CM CP CT CB CU CR : Addr}

abbrev s_L_other : Stmt := topS 49
abbrev N_L_other : List Str := ["plant", "name", "mode", "thing", "told", "e"]
theorem sc_L_other : FnScope N_L_other ["plant", "name", "mode", "thing"] (defScope s_L_other) := ⟨rfl, rfl, rfl, by decide +kernel, rfl, by decide +kernel, by decide +kernel⟩

theorem ok_L_other {f : Addr} {fd : FuncData} (F : Fun K "_law_other" "_law_other" s_L_other f fd) (TC : ClsA K mg "Plant" C al) (A' : Apart K CM CP CT CU CR) (TMo : Cl1 P' w K mg base "NoMode" CM "mode") (TPh : Cl1 P' w K mg base "BadPhase" CP "phase") (TUn : Cl1 P' w K mg base "BadUnit" CU "unit") (TTs : Cl1 P' w K mg base "BadTimes" CR "repeats")
    (D_with_unit : MethD P' w K mg base (L2.CX P' w) 10 C "with_unit" ["self", "mode", "unit"] (spMO K C al 2 (onO fUnit) (onG (gUnit CM CU)))) (D_with_sign : MethD P' w K mg base (L2.CX P' w) 10 C "with_sign" ["self", "mode", "phase"] (spMO K C al 2 (onO fSign) (onG (gSign CM CP))))
    (D_turned : MethD P' w K mg base (L2.CX P' w) 10 C "turned" ["self", "phases"] (spMO K C al 1 (fun _ _ _ => False) (onG (gTurned CP)))) (D_repeated : MethD P' w K mg base (L2.CX P' w) 10 C "repeated" ["self", "repeats"] (spMO K C al 1 (onO fRepd) (onG (gRepd CR)))) :
    FnOk P' w K mg base CX0 11 f fd ["plant", "name", "mode", "thing"] (spM K C al 3 (onF fOther) (fun _ _ _ => False)) := by
  refine F.ok sc_L_other (fun vs H Q E h => ?_) (fun cdv A outer s H vs Q E hr h => ?_)
  · obtain ⟨x, ws, fs, ds, rfl, hl, _, hd, _⟩ := h
    simp [dps_len hd, hl]
  · refine ⟨_, (pss_cons (ps_set (i := 4) sc_L_other.nd rfl (Or.inl rfl) pe_str)
    (pss_cons (ps_try_each (i := 5) rfl rfl sc_L_other.nd rfl rfl takes0 (fun W pn xe tk _ => (pss_one (ps_if (pt_cmpR op_eq (pv 1) pe_int (nomark _)) (pss_one (ps_expr (pe_mcall (pv 0) D_with_unit TC.cl (hr.mono (by decide)) (fun σ => passAt tk σ) (pa_cons (pv 2) (pa_cons (pv 3) pa_nil))))) (pss_one (ps_if (pt_cmpR op_eq (pv 1) pe_int (nomark _)) (pss_one (ps_expr (pe_mcall (pv 0) D_with_sign TC.cl (hr.mono (by decide)) (fun σ => passAt tk σ) (pa_cons (pv 2) (pa_cons (pv 3) pa_nil))))) (pss_one (ps_if (pt_cmpR op_eq (pv 1) pe_int (nomark _)) (pss_one (ps_expr (pe_mcall (pv 0) D_turned TC.cl (hr.mono (by decide)) (fun σ => passAt tk σ) (pa_cons (pv 3) pa_nil)))) (pss_one (ps_expr (pe_mcall (pv 0) D_repeated TC.cl (hr.mono (by decide)) (fun σ => passAt tk σ) (pa_cons (pv 3) pa_nil))))))))))) (HsAs.cons ⟨rfl, by decide, .inl TMo.gC⟩ (fun a oe cls d pn hz hf => (pss_one (ps_set (i := 4) sc_L_other.nd rfl (Or.inl rfl) (pe_tup (pa_cons pe_str (pa_cons (pe_xf TMo.xf TMo.no hz hf (pv 5)) pa_nil)))))) (HsAs.cons ⟨rfl, by decide, .inl TUn.gC⟩ (fun a oe cls d pn hz hf => (pss_one (ps_set (i := 4) sc_L_other.nd rfl (Or.inl rfl) (pe_tup (pa_cons pe_str (pa_cons (pe_xf TUn.xf TUn.no hz hf (pv 5)) pa_nil)))))) (HsAs.cons ⟨rfl, by decide, .inl TPh.gC⟩ (fun a oe cls d pn hz hf => (pss_one (ps_set (i := 4) sc_L_other.nd rfl (Or.inl rfl) (pe_tup (pa_cons pe_str (pa_cons (pe_xf TPh.xf TPh.no hz hf (pv 5)) pa_nil)))))) (HsAs.cons ⟨rfl, by decide, .inl TTs.gC⟩ (fun a oe cls d pn hz hf => (pss_one (ps_set (i := 4) sc_L_other.nd rfl (Or.inl rfl) (pe_tup (pa_cons pe_str (pa_cons (pe_xf TTs.xf TTs.no hz hf (pv 5)) pa_nil)))))) HsAs.nil)))))
    (pss_one (ps_ret (pv 4))))), ?_⟩
    obtain ⟨x, ws, fs, ds, rfl, hl, hx, hd, ⟨d, ⟨F, p, s, hg, rfl, nm, m, q, rfl, hc⟩, k⟩ | ⟨_, z, _⟩⟩ := h
    · obtain ⟨v_n, vs, rfl, h_n, hd⟩ := dps_cons hd
      obtain ⟨v_m, vs, rfl, h_m, hd⟩ := dps_cons hd
      obtain ⟨v_q, vs, rfl, h_q, hd⟩ := dps_cons hd
      obtain rfl := dps_nil hd
      cases h_n
      refine z_set (K := K) (σ := [some (.ref x), some (.int (nm : Int)), some v_m, some v_q, none, none]) d_str fun v0 H1 e1 h0 => ?_
      have hx1 := has_grow e1 hx
      have h_m1 := dp_grow e1 _ _ h_m
      have h_q1 := dp_grow e1 _ _ h_q
      refine z_beta ?_
      have toldCM : ∀ {D : L2.Ends} {H2 : Hp} {q : PyData}, d = tag "mode" q → Ex H1 H2 → (∀ u H', Ex H2 H' → Dp K H' u d → D.nx [some (.ref x), some (.int (nm : Int)), some v_m, some v_q, some u, none] H') →
          Rai K (WE (wEach K 5 (fun _ _ _ _ => False) D [(.ref CM, fun a cls d => tAsg (tTup (tCons (tC (.str "mode")) (tCons (tXf a cls d CM "mode" (tVar 5)) tNil))) (gName 4)), (.ref CU, fun a cls d => tAsg (tTup (tCons (tC (.str "unit")) (tCons (tXf a cls d CU "unit" (tVar 5)) tNil))) (gName 4)), (.ref CP, fun a cls d => tAsg (tTup (tCons (tC (.str "phase")) (tCons (tXf a cls d CP "phase" (tVar 5)) tNil))) (gName 4)), (.ref CR, fun a cls d => tAsg (tTup (tCons (tC (.str "times")) (tCons (tXf a cls d CR "repeats" (tVar 5)) tNil))) (gName 4))]) [some (.ref x), some (.int (nm : Int)), some v_m, some v_q, some v0, none]) (CM, [(("mode" : Str), q)]) H2 := by
        intro D H2 q hdq e2 hD dd as H3 e3 hdd hfl
        obtain ⟨v, h1, h2⟩ := hfl _ (List.mem_singleton.mpr rfl)
        have fin : ∀ {Cx : Addr} {wd fl : Str} {q : PyData} {a : Addr} {v : V} {D' : L2.Ends}, as.lookup fl = some v → Dp K H3 v q → d = tag wd q → D' = { nx := fun σ' H' => D.nx (σ'.set 5 none) H', rt := D.rt, bk := fun σ' H' => D.bk (σ'.set 5 none) H', ct := fun σ' H' => D.ct (σ'.set 5 none) H' } →
            tAsg (tTup (tCons (tC (.str wd)) (tCons (tXf a (.ref Cx) (some dd) Cx fl (tVar 5)) tNil))) (gName 4) D' [some (.ref x), some (.int (nm : Int)), some v_m, some v_q, some v0, some (.ref a)] H3 := by
          intro Cx wd fl q a v D' h1 h2 h3 h4
          subst h4
          refine z_set1 (K := K) (i := 4) (σ := [some (.ref x), some (.int (nm : Int)), some v_m, some v_q, some v0, some (.ref a)]) (d_tup (ds_cons d_str (ds_cons (d_xfD (C := Cx) rfl hdd h1 h2) ds_nil)) (by show 2 ≤ 1000; decide)) fun u H4 e4 hu => ?_
          exact hD u H4 (e3.trans e4) (h3 ▸ hu)
        exact each_yes TMo.te fun aa ha => fin h1 h2 hdq rfl
      have toldCU : ∀ {D : L2.Ends} {H2 : Hp} {q : PyData}, d = tag "unit" q → Ex H1 H2 → (∀ u H', Ex H2 H' → Dp K H' u d → D.nx [some (.ref x), some (.int (nm : Int)), some v_m, some v_q, some u, none] H') →
          Rai K (WE (wEach K 5 (fun _ _ _ _ => False) D [(.ref CM, fun a cls d => tAsg (tTup (tCons (tC (.str "mode")) (tCons (tXf a cls d CM "mode" (tVar 5)) tNil))) (gName 4)), (.ref CU, fun a cls d => tAsg (tTup (tCons (tC (.str "unit")) (tCons (tXf a cls d CU "unit" (tVar 5)) tNil))) (gName 4)), (.ref CP, fun a cls d => tAsg (tTup (tCons (tC (.str "phase")) (tCons (tXf a cls d CP "phase" (tVar 5)) tNil))) (gName 4)), (.ref CR, fun a cls d => tAsg (tTup (tCons (tC (.str "times")) (tCons (tXf a cls d CR "repeats" (tVar 5)) tNil))) (gName 4))]) [some (.ref x), some (.int (nm : Int)), some v_m, some v_q, some v0, none]) (CU, [(("unit" : Str), q)]) H2 := by
        intro D H2 q hdq e2 hD dd as H3 e3 hdd hfl
        obtain ⟨v, h1, h2⟩ := hfl _ (List.mem_singleton.mpr rfl)
        have fin : ∀ {Cx : Addr} {wd fl : Str} {q : PyData} {a : Addr} {v : V} {D' : L2.Ends}, as.lookup fl = some v → Dp K H3 v q → d = tag wd q → D' = { nx := fun σ' H' => D.nx (σ'.set 5 none) H', rt := D.rt, bk := fun σ' H' => D.bk (σ'.set 5 none) H', ct := fun σ' H' => D.ct (σ'.set 5 none) H' } →
            tAsg (tTup (tCons (tC (.str wd)) (tCons (tXf a (.ref Cx) (some dd) Cx fl (tVar 5)) tNil))) (gName 4) D' [some (.ref x), some (.int (nm : Int)), some v_m, some v_q, some v0, some (.ref a)] H3 := by
          intro Cx wd fl q a v D' h1 h2 h3 h4
          subst h4
          refine z_set1 (K := K) (i := 4) (σ := [some (.ref x), some (.int (nm : Int)), some v_m, some v_q, some v0, some (.ref a)]) (d_tup (ds_cons d_str (ds_cons (d_xfD (C := Cx) rfl hdd h1 h2) ds_nil)) (by show 2 ≤ 1000; decide)) fun u H4 e4 hu => ?_
          exact hD u H4 (e3.trans e4) (h3 ▸ hu)
        exact each_no A'.um (each_yes TUn.te fun aa ha => fin h1 h2 hdq rfl)
      have toldCP : ∀ {D : L2.Ends} {H2 : Hp} {q : PyData}, d = tag "phase" q → Ex H1 H2 → (∀ u H', Ex H2 H' → Dp K H' u d → D.nx [some (.ref x), some (.int (nm : Int)), some v_m, some v_q, some u, none] H') →
          Rai K (WE (wEach K 5 (fun _ _ _ _ => False) D [(.ref CM, fun a cls d => tAsg (tTup (tCons (tC (.str "mode")) (tCons (tXf a cls d CM "mode" (tVar 5)) tNil))) (gName 4)), (.ref CU, fun a cls d => tAsg (tTup (tCons (tC (.str "unit")) (tCons (tXf a cls d CU "unit" (tVar 5)) tNil))) (gName 4)), (.ref CP, fun a cls d => tAsg (tTup (tCons (tC (.str "phase")) (tCons (tXf a cls d CP "phase" (tVar 5)) tNil))) (gName 4)), (.ref CR, fun a cls d => tAsg (tTup (tCons (tC (.str "times")) (tCons (tXf a cls d CR "repeats" (tVar 5)) tNil))) (gName 4))]) [some (.ref x), some (.int (nm : Int)), some v_m, some v_q, some v0, none]) (CP, [(("phase" : Str), q)]) H2 := by
        intro D H2 q hdq e2 hD dd as H3 e3 hdd hfl
        obtain ⟨v, h1, h2⟩ := hfl _ (List.mem_singleton.mpr rfl)
        have fin : ∀ {Cx : Addr} {wd fl : Str} {q : PyData} {a : Addr} {v : V} {D' : L2.Ends}, as.lookup fl = some v → Dp K H3 v q → d = tag wd q → D' = { nx := fun σ' H' => D.nx (σ'.set 5 none) H', rt := D.rt, bk := fun σ' H' => D.bk (σ'.set 5 none) H', ct := fun σ' H' => D.ct (σ'.set 5 none) H' } →
            tAsg (tTup (tCons (tC (.str wd)) (tCons (tXf a (.ref Cx) (some dd) Cx fl (tVar 5)) tNil))) (gName 4) D' [some (.ref x), some (.int (nm : Int)), some v_m, some v_q, some v0, some (.ref a)] H3 := by
          intro Cx wd fl q a v D' h1 h2 h3 h4
          subst h4
          refine z_set1 (K := K) (i := 4) (σ := [some (.ref x), some (.int (nm : Int)), some v_m, some v_q, some v0, some (.ref a)]) (d_tup (ds_cons d_str (ds_cons (d_xfD (C := Cx) rfl hdd h1 h2) ds_nil)) (by show 2 ≤ 1000; decide)) fun u H4 e4 hu => ?_
          exact hD u H4 (e3.trans e4) (h3 ▸ hu)
        exact each_no A'.pm (each_no A'.pu (each_yes TPh.te fun aa ha => fin h1 h2 hdq rfl))
      have toldCR : ∀ {D : L2.Ends} {H2 : Hp} {q : PyData}, d = tag "times" q → Ex H1 H2 → (∀ u H', Ex H2 H' → Dp K H' u d → D.nx [some (.ref x), some (.int (nm : Int)), some v_m, some v_q, some u, none] H') →
          Rai K (WE (wEach K 5 (fun _ _ _ _ => False) D [(.ref CM, fun a cls d => tAsg (tTup (tCons (tC (.str "mode")) (tCons (tXf a cls d CM "mode" (tVar 5)) tNil))) (gName 4)), (.ref CU, fun a cls d => tAsg (tTup (tCons (tC (.str "unit")) (tCons (tXf a cls d CU "unit" (tVar 5)) tNil))) (gName 4)), (.ref CP, fun a cls d => tAsg (tTup (tCons (tC (.str "phase")) (tCons (tXf a cls d CP "phase" (tVar 5)) tNil))) (gName 4)), (.ref CR, fun a cls d => tAsg (tTup (tCons (tC (.str "times")) (tCons (tXf a cls d CR "repeats" (tVar 5)) tNil))) (gName 4))]) [some (.ref x), some (.int (nm : Int)), some v_m, some v_q, some v0, none]) (CR, [(("repeats" : Str), q)]) H2 := by
        intro D H2 q hdq e2 hD dd as H3 e3 hdd hfl
        obtain ⟨v, h1, h2⟩ := hfl _ (List.mem_singleton.mpr rfl)
        have fin : ∀ {Cx : Addr} {wd fl : Str} {q : PyData} {a : Addr} {v : V} {D' : L2.Ends}, as.lookup fl = some v → Dp K H3 v q → d = tag wd q → D' = { nx := fun σ' H' => D.nx (σ'.set 5 none) H', rt := D.rt, bk := fun σ' H' => D.bk (σ'.set 5 none) H', ct := fun σ' H' => D.ct (σ'.set 5 none) H' } →
            tAsg (tTup (tCons (tC (.str wd)) (tCons (tXf a (.ref Cx) (some dd) Cx fl (tVar 5)) tNil))) (gName 4) D' [some (.ref x), some (.int (nm : Int)), some v_m, some v_q, some v0, some (.ref a)] H3 := by
          intro Cx wd fl q a v D' h1 h2 h3 h4
          subst h4
          refine z_set1 (K := K) (i := 4) (σ := [some (.ref x), some (.int (nm : Int)), some v_m, some v_q, some v0, some (.ref a)]) (d_tup (ds_cons d_str (ds_cons (d_xfD (C := Cx) rfl hdd h1 h2) ds_nil)) (by show 2 ≤ 1000; decide)) fun u H4 e4 hu => ?_
          exact hD u H4 (e3.trans e4) (h3 ▸ hu)
        exact each_no A'.rm (each_no A'.ru (each_no A'.rp (each_yes TTs.te fun aa ha => fin h1 h2 hdq rfl)))
      have ret : ∀ (u : V) (H' : Hp), Ex H1 H' → Dp K H' u d → tRet (tVar 4) { nx := fun _ H' => Q .non H', rt := Q } [some (.ref x), some (.int (nm : Int)), some v_m, some v_q, some u, none] H' := fun u H' e hu =>
        z_ret (K := K) (σ := [some (.ref x), some (.int (nm : Int)), some v_m, some v_q, some u, none]) (d_var ⟨_, rfl, hu⟩) fun v H2 e2 hv => k v H2 ((e1.trans e).trans e2) hv
      have rt : ∀ {H2 : Hp}, Ex H1 H2 → ∀ u H', Ex H2 H' → Dp K H' u d → tRet (tVar 4) { nx := fun _ H' => Q .non H', rt := Q } [some (.ref x), some (.int (nm : Int)), some v_m, some v_q, some u, none] H' := fun e2 u H' e hu => ret u H' (e2.trans e) hu
      have n1 : (("with_unit" : Str)) ∉ al := by decide +kernel
      have n2 : (("with_sign" : Str)) ∉ al := by decide +kernel
      have n3 : (("turned" : Str)) ∉ al := by decide +kernel
      have n4 : (("repeated" : Str)) ∉ al := by decide +kernel
      have two : ∀ {H2 : Hp}, Ex H1 H2 → EvDs K (tCons (tVar 2) (tCons (tVar 3) tNil)) [some (.ref x), some (.int (nm : Int)), some v_m, some v_q, some v0, none] H2 [m, q] := fun e2 => ds_cons (d_var ⟨_, rfl, dp_grow e2 _ _ h_m1⟩) (ds_cons (d_var ⟨_, rfl, dp_grow e2 _ _ h_q1⟩) ds_nil)
      have one : ∀ {H2 : Hp}, Ex H1 H2 → EvDs K (tCons (tVar 3) tNil) [some (.ref x), some (.int (nm : Int)), some v_m, some v_q, some v0, none] H2 [q] := fun e2 => ds_cons (d_var ⟨_, rfl, dp_grow e2 _ _ h_q1⟩) ds_nil
      have tst : ∀ (i : Int) {H2 : Hp}, EvB (tTest (tOp rEq (tVar 1) (tC (.int i)))) [some (.ref x), some (.int (nm : Int)), some v_m, some v_q, some v0, none] H2 (decide ((nm : Int) = i)) := fun i H2 => b_test (K := K) (d_eqI (d_var (d := .int (nm : Int)) ⟨_, rfl, .int _⟩) d_int)
      refine z_if1 (σ := [some (.ref x), some (.int (nm : Int)), some v_m, some v_q, some v0, none]) (tst 0) (fun c0 H2 e2 => ?_) (fun c0 H2 e2 => ?_)
      · have c0 : nm = 0 := by have := of_decide_eq_true c0; omega
        rcases hc with ⟨_, a, hd⟩ | ⟨_, a, b, hd⟩ | ⟨a, _⟩ | ⟨a, _⟩ | ⟨a, _⟩ | ⟨a, _⟩ | ⟨_, a, _⟩ <;> try omega
        · exact xz_drop1 (r_methO (o_var rfl (has_grow e2 hx1)) n1 (two e2) rfl ⟨F, p, s, hg, rfl, m, q, rfl, .inl ⟨a, rfl⟩⟩ (toldCM hd e2 (rt e2)))
        · exact xz_drop1 (r_methO (o_var rfl (has_grow e2 hx1)) n1 (two e2) rfl ⟨F, p, s, hg, rfl, m, q, rfl, .inr ⟨a, b, rfl⟩⟩ (toldCU hd e2 (rt e2)))
      · refine z_if1 (σ := [some (.ref x), some (.int (nm : Int)), some v_m, some v_q, some v0, none]) (tst 1) (fun c1 H3 e3 => ?_) (fun c1 H3 e3 => ?_)
        · have c1 : nm = 1 := by have := of_decide_eq_true c1; omega
          have e2 := e2.trans e3
          rcases hc with ⟨a, _⟩ | ⟨a, _⟩ | ⟨_, a, hd⟩ | ⟨_, a, b, hd⟩ | ⟨a, _⟩ | ⟨a, _⟩ | ⟨_, a, _⟩ <;> try omega
          · exact xz_drop1 (r_methO (o_var rfl (has_grow e2 hx1)) n2 (two e2) rfl ⟨F, p, s, hg, rfl, m, q, rfl, .inl ⟨a, rfl⟩⟩ (toldCM hd e2 (rt e2)))
          · exact xz_drop1 (r_methO (o_var rfl (has_grow e2 hx1)) n2 (two e2) rfl ⟨F, p, s, hg, rfl, m, q, rfl, .inr ⟨a, b, rfl⟩⟩ (toldCP hd e2 (rt e2)))
        · refine z_if1 (σ := [some (.ref x), some (.int (nm : Int)), some v_m, some v_q, some v0, none]) (tst 2) (fun c2 H4 e4 => ?_) (fun c2 H4 e4 => ?_)
          · have c2 : nm = 2 := by have := of_decide_eq_true c2; omega
            have e2 := (e2.trans e3).trans e4
            rcases hc with ⟨a, _⟩ | ⟨a, _⟩ | ⟨a, _⟩ | ⟨a, _⟩ | ⟨_, a, hd⟩ | ⟨a, _⟩ | ⟨_, a, _⟩ <;> try omega
            exact xz_drop1 (r_methO (o_var rfl (has_grow e2 hx1)) n3 (one e2) rfl ⟨F, p, s, hg, rfl, q, rfl, a, rfl⟩ (toldCP hd e2 (rt e2)))
          · have d0 := of_decide_eq_false c0
            have d1 := of_decide_eq_false c1
            have d2 := of_decide_eq_false c2
            have e2 := (e2.trans e3).trans e4
            rcases hc with ⟨a, _⟩ | ⟨a, _⟩ | ⟨a, _⟩ | ⟨a, _⟩ | ⟨a, _⟩ | ⟨_, a, hd⟩ | ⟨n, _, rfl, a, b, rfl⟩ <;> try omega
            · exact xz_drop1 (r_methO (o_var rfl (has_grow e2 hx1)) n4 (one e2) rfl ⟨F, p, s, hg, rfl, q, rfl, a, rfl⟩ (toldCR hd e2 (rt e2)))
            · exact zo_drop1 (K := K) (o_meth (o_var rfl (has_grow e2 hx1)) n4 (one e2) rfl ⟨F, p, s, hg, rfl, n, rfl, a, b, rfl⟩) fun H5 e5 => ret v0 H5 (e2.trans e5) (dp_grow (e2.trans e5) _ _ h0)
    · exact z.elim
end
end K03
namespace Dat
open PySem L2 Evl
section
variable {K : PySem.W.Frag} {C : Addr} {al : List Str} {n : Nat} {f : List (Str × PyData) → List PyData → PyData → Prop} {g : List (Str × PyData) → List PyData → Raised → Prop} {te tb : TE} {ta : TA} {σ : L2.St} {H : Hp} {fs : List (Str × PyData)} {ds : List PyData} {d : PyData}
theorem d_callM {E : XK} (o : EvO K te σ H C al fs) (h : EvDs K ta σ H ds) (hl : ds.length = n) (hf : f fs ds d) : EvD K (tCall (spM K C al n f g) [] E (tCons te ta)) σ H d := fun H1 e Q k => o H1 e _ fun x H2 e2 hx => h H2 (e.trans e2) _ fun vs H3 e3 hv =>
  ⟨x, vs, fs, ds, by rw [List.append_nil], hl, has_grow e3 hx, hv, .inl ⟨d, hf, fun v H' e4 hv => k v H' ((e2.trans e3).trans e4) hv⟩⟩
theorem b_ne (h : EvD K te σ H d) (r : EvD K tb σ H d) (s : SeqAt.shaped d = true) : EvB (tTest (tOp (rNeD K) te tb)) σ H false := b_test (K := K) (d_is (d_neD h r s s) (by rw [eqv_self (SeqAt.canLay_of_shaped s)]; rfl))
end
end Dat
namespace K03
open PySem L2 Evl Dat
theorem shaped_tag {w : Str} {d : PyData} (hw : PyData.canLay0 (.str w) = true) (h : SeqAt.shaped d = true) (hd : d.depth ≤ 2) : SeqAt.shaped (tag w d) = true := by
  have h1 := SeqAt.canLay_of_shaped h
  show (PyData.canLay0 (.tuple [.str w, d]) && decide (PyData.depth (.tuple [.str w, d]) ≤ 64)) = true
  have e1 : PyData.canLay0 (.tuple [.str w, d]) = (PyData.canLay0 (.str w) && (PyData.canLay0 d && true)) := rfl
  have e2 : PyData.depth (.tuple [.str w, d]) = max 0 (max (PyData.depth d) 0) + 1 := rfl
  rw [e1, hw, h1, e2, decide_eq_true (by omega)]
  rfl
def spRef (K : PySem.W.Frag) (C : Addr) : Sp := fun vs H Q _ => ∃ (h c x : Addr) (ns : List Int) (F : List (List Rat)) (p s : List Rat), vs = [.ref h, .ref x, .int (F.length : Int), .int ((F.getD 0 []).length : Int)] ∧ HandOk H h c ns ∧ Has K (rem H h) x C al (plantF F p s) ∧ GoodP F p s ∧
  ∀ H', HandOk H' h c ns → Ex (rem H h) (rem H' h) → Q (.bl true) H'
section
variable {P' : Program} {w : World} {K : PySem.W.Frag} {mg : Str → Option Value} {base : Heap} {C CM CP CT CB CU CR CH : Addr}

abbrev s_L_refusals : Stmt := topS 50
abbrev N_L_refusals : List Str := ["hand", "plant", "modes", "period", "mode", "phase", "ticks", "good", "name", "unit", "repeats", "told", "e"]
theorem sc_L_refusals : FnScope N_L_refusals ["hand", "plant", "modes", "period"] (defScope s_L_refusals) := ⟨rfl, rfl, rfl, by decide +kernel, rfl, by decide +kernel, by decide +kernel⟩

theorem ok_L_refusals {f : Addr} {fd : FuncData} (F' : Fun K "_law_refusals" "_law_refusals" s_L_refusals f fd) (T : Bl mg) (TC : ClsA K mg "Plant" C al) (TMo : Cl1 P' w K mg base "NoMode" CM "mode") (gH : mg "HeldError" = some (.ref CH)) (mh : PySem.W.exmOne K (.ref CM) (.ref CH) = some true) (xt : ExT K CM) (kt : PySem.W.kitOne K (.ref CM) (.ref CM) = some true)
    (D_law_draw : Def P' w K mg base CX0 2 "_law_draw" ["hand", "many"] spDraw) (D_law_word : Def P' w K mg base CX0 7 "_law_word" ["plant", "name", "mode", "phase", "ticks"] (spM K C al 4 (onF fWord) (fun _ _ _ => False))) (D_law_other : Def P' w K mg base CX0 11 "_law_other" ["plant", "name", "mode", "thing"] (spM K C al 3 (onF fOther) (fun _ _ _ => False)))
    (D_grows : MethD P' w K mg base (L2.CX P' w) 7 C "grows" ["self", "mode"] (spM K C al 1 (onF fGrows) (onG (gMode CM)))) : FnOk P' w K mg base CX0 12 f fd ["hand", "plant", "modes", "period"] (spRef K C) := by
  refine F'.ok sc_L_refusals (fun vs H Q E h => ?_) (fun cdv A outer s H vs Q E hr h => ?_)
  · obtain ⟨hd, c, x, ns, F, p, s, rfl, _⟩ := h
    rfl
  · refine ⟨_, (pss_cons (ps_set (i := 4) sc_L_refusals.nd rfl (Or.inl rfl) (pe_ix (r := rIxT K) ix_tup (pe_tup (pa_cons (pe_un un_neg pe_int) (pa_cons (pv 2) (pa_cons pe_non (pa_cons pe_str (pa_cons (pe_tup (pa_cons pe_int pa_nil)) (pa_cons (pe_op op_add (pv 2) (pe_op op_pow pe_int pe_int)) (pa_cons pe_bl (pa_cons pe_bl pa_nil))))))))) (pe_dcall D_law_draw (hr.mono (by decide)) pass0 (pa_cons (pv 0) (pa_cons pe_int pa_nil))) (fun _ _ => rfl)))
    (pss_cons (ps_set (i := 5) sc_L_refusals.nd rfl (Or.inl rfl) (pe_ix (r := rIxT K) ix_tup (pe_tup (pa_cons (pe_un un_neg pe_int) (pa_cons pe_non (pa_cons pe_str (pa_cons (pe_lst (pa_cons pe_int pa_nil)) (pa_cons (pe_un un_neg (pe_op op_pow pe_int pe_int)) (pa_cons pe_bl (pa_cons pe_bl pa_nil)))))))) (pe_dcall D_law_draw (hr.mono (by decide)) pass0 (pa_cons (pv 0) (pa_cons pe_int pa_nil))) (fun _ _ => rfl)))
    (pss_cons (ps_set (i := 6) sc_L_refusals.nd rfl (Or.inl rfl) (pe_ix (r := rIxT K) ix_tup (pe_tup (pa_cons (pe_un un_neg pe_int) (pa_cons pe_int (pa_cons pe_non (pa_cons pe_str (pa_cons (pe_op op_pow pe_int pe_int) (pa_cons pe_bl pa_nil))))))) (pe_dcall D_law_draw (hr.mono (by decide)) pass0 (pa_cons (pv 0) (pa_cons pe_int pa_nil))) (fun _ _ => rfl)))
    (pss_cons (ps_set (i := 7) sc_L_refusals.nd rfl (Or.inl rfl) (pe_dcall D_law_draw (hr.mono (by decide)) pass0 (pa_cons (pv 0) (pa_cons (pv 2) pa_nil))))
    (pss_cons (ps_for PassesOwn.never rfl (pi_range1 rfl T.b_range (pa_cons pe_int pa_nil)) (pg_name (i := 8) sc_L_refusals.nd rfl (Or.inl rfl)) (pss_cons (ps_if (PW.pt (pw_or (pt_cmpR (op_neD hr.units) (pe_dcall D_law_word (hr.mono (by decide)) pass0 (pa_cons (pv 1) (pa_cons (pv 8) (pa_cons (pv 4) (pa_cons (pv 5) (pa_cons (pv 6) pa_nil)))))) (pe_tup (pa_cons pe_str (pa_cons (pv 4) pa_nil))) (nomark _)) (pw_or1 (pt_cmpR (op_neD hr.units) (pe_dcall D_law_word (hr.mono (by decide)) pass0 (pa_cons (pv 1) (pa_cons (pv 8) (pa_cons (pv 7) (pa_cons (pv 5) (pa_cons (pv 6) pa_nil)))))) (pe_tup (pa_cons pe_str (pa_cons (pv 5) pa_nil))) (nomark _))))) (pss_one (ps_ret pe_bl)) pss_nil)
    (pss_cons (ps_if (PW.pt (pw_or (pt_cmpR (op_neD hr.units) (pe_dcall D_law_word (hr.mono (by decide)) pass0 (pa_cons (pv 1) (pa_cons (pv 8) (pa_cons (pv 7) (pa_cons pe_int (pa_cons (pv 6) pa_nil)))))) (pe_tup (pa_cons pe_str (pa_cons (pv 6) pa_nil))) (nomark _)) (pw_or1 (pt_cmpR (op_neD hr.units) (pe_dcall D_law_word (hr.mono (by decide)) pass0 (pa_cons (pv 1) (pa_cons (pv 8) (pa_cons (pv 7) (pa_cons pe_int (pa_cons pe_int pa_nil)))))) pe_str (nomark _))))) (pss_one (ps_ret pe_bl)) pss_nil)
    (pss_one (ps_if (PW.pt (pw_or (pt_cmpR (op_neD hr.units) (pe_dcall D_law_word (hr.mono (by decide)) pass0 (pa_cons (pv 1) (pa_cons (pv 8) (pa_cons (pv 4) (pa_cons pe_int (pa_cons pe_int pa_nil)))))) (pe_tup (pa_cons pe_str (pa_cons (pv 4) pa_nil))) (nomark _)) (pw_or1 (pt_cmpR (op_neD hr.units) (pe_dcall D_law_word (hr.mono (by decide)) pass0 (pa_cons (pv 1) (pa_cons (pv 8) (pa_cons (pv 7) (pa_cons (pv 5) (pa_cons pe_int pa_nil)))))) (pe_tup (pa_cons pe_str (pa_cons (pv 5) pa_nil))) (nomark _))))) (pss_one (ps_ret pe_bl)) pss_nil)))))
    (pss_cons (ps_set (i := 9) sc_L_refusals.nd rfl (Or.inl rfl) (pe_ix (r := rIxT K) ix_tup (pe_tup (pa_cons (pe_tup (pa_cons pe_int (pa_cons pe_int pa_nil))) (pa_cons (pe_tup (pa_cons (pe_un un_neg pe_int) (pa_cons pe_int pa_nil))) (pa_cons pe_int (pa_cons pe_non (pa_cons (pe_lst (pa_cons pe_int (pa_cons pe_int pa_nil))) (pa_cons (pe_tup (pa_cons pe_int (pa_cons pe_int pa_nil))) (pa_cons (pe_tup (pa_cons pe_bl (pa_cons pe_int pa_nil))) pa_nil)))))))) (pe_dcall D_law_draw (hr.mono (by decide)) pass0 (pa_cons (pv 0) (pa_cons pe_int pa_nil))) (fun _ _ => rfl)))
    (pss_cons (ps_if (PW.pt (pw_or (pt_cmpR (op_neD hr.units) (pe_dcall D_law_other (hr.mono (by decide)) pass0 (pa_cons (pv 1) (pa_cons pe_int (pa_cons (pv 4) (pa_cons (pv 9) pa_nil))))) (pe_tup (pa_cons pe_str (pa_cons (pv 4) pa_nil))) (nomark _)) (pw_or1 (pt_cmpR (op_neD hr.units) (pe_dcall D_law_other (hr.mono (by decide)) pass0 (pa_cons (pv 1) (pa_cons pe_int (pa_cons (pv 7) (pa_cons (pv 9) pa_nil))))) (pe_tup (pa_cons pe_str (pa_cons (pv 9) pa_nil))) (nomark _))))) (pss_one (ps_ret pe_bl)) pss_nil)
    (pss_cons (ps_if (PW.pt (pw_or (pt_cmpR (op_neD hr.units) (pe_dcall D_law_other (hr.mono (by decide)) pass0 (pa_cons (pv 1) (pa_cons pe_int (pa_cons (pv 4) (pa_cons (pe_tup (pa_cons pe_int (pa_cons pe_int pa_nil))) pa_nil))))) (pe_tup (pa_cons pe_str (pa_cons (pv 4) pa_nil))) (nomark _)) (pw_or1 (pt_cmpR (op_neD hr.units) (pe_dcall D_law_other (hr.mono (by decide)) pass0 (pa_cons (pv 1) (pa_cons pe_int (pa_cons (pv 4) (pa_cons pe_int pa_nil))))) (pe_tup (pa_cons pe_str (pa_cons (pv 4) pa_nil))) (nomark _))))) (pss_one (ps_ret pe_bl)) pss_nil)
    (pss_cons (ps_if (PW.pt (pw_or (pt_cmpR (op_neD hr.units) (pe_dcall D_law_other (hr.mono (by decide)) pass0 (pa_cons (pv 1) (pa_cons pe_int (pa_cons (pv 4) (pa_cons (pv 5) pa_nil))))) (pe_tup (pa_cons pe_str (pa_cons (pv 4) pa_nil))) (nomark _)) (pw_or (pt_cmpR (op_neD hr.units) (pe_dcall D_law_other (hr.mono (by decide)) pass0 (pa_cons (pv 1) (pa_cons pe_int (pa_cons (pv 7) (pa_cons (pv 5) pa_nil))))) (pe_tup (pa_cons pe_str (pa_cons (pv 5) pa_nil))) (nomark _)) (pw_or1 (pt_cmpR (op_neD hr.units) (pe_dcall D_law_other (hr.mono (by decide)) pass0 (pa_cons (pv 1) (pa_cons pe_int (pa_cons pe_int (pa_cons (pv 5) pa_nil))))) (pe_tup (pa_cons pe_str (pa_cons (pv 5) pa_nil))) (nomark _)))))) (pss_one (ps_ret pe_bl)) pss_nil)
    (pss_cons (ps_for PassesOwn.never rfl (pi_tup (pe_tup (pa_cons pe_int (pa_cons (pe_un un_neg pe_int) (pa_cons pe_int (pa_cons pe_non (pa_cons pe_str (pa_cons (pe_op op_pow pe_int pe_int) (pa_cons pe_bl pa_nil))))))))) (pg_name (i := 10) sc_L_refusals.nd rfl (Or.inl rfl)) (pss_one (ps_if (pt_cmpR (op_neD hr.units) (pe_dcall D_law_other (hr.mono (by decide)) pass0 (pa_cons (pv 1) (pa_cons pe_int (pa_cons pe_int (pa_cons (pv 10) pa_nil))))) (pe_tup (pa_cons pe_str (pa_cons (pv 10) pa_nil))) (nomark _)) (pss_one (ps_ret pe_bl)) pss_nil)))
    (pss_cons (ps_for PassesOwn.never rfl (pi_range2 rfl T.b_range (pa_cons pe_int (pa_cons pe_int pa_nil))) (pg_name (i := 10) sc_L_refusals.nd rfl (Or.inl rfl)) (pss_one (ps_if (pt_cmpR (op_neD hr.units) (pe_dcall D_law_other (hr.mono (by decide)) pass0 (pa_cons (pv 1) (pa_cons pe_int (pa_cons pe_int (pa_cons (pv 10) pa_nil))))) (pe_ifExp (pt_cmpR op_le (pe_op op_mulW (pv 10) (pv 3)) pe_int (nomark _)) pe_str (pe_tup (pa_cons pe_str (pa_cons (pv 10) pa_nil)))) (nomark _)) (pss_one (ps_ret pe_bl)) pss_nil)))
    (pss_cons (ps_set (i := 11) sc_L_refusals.nd rfl (Or.inl rfl) pe_str)
    (pss_cons (ps_try_each (i := 12) rfl rfl sc_L_refusals.nd rfl rfl takes0 (fun W pn xe tk _ => (pss_one (ps_expr (pe_mcall (pv 1) D_grows TC.cl (hr.mono (by decide)) (fun σ => passAt tk σ) (pa_cons (pv 4) pa_nil))))) (HsAs.cons ⟨rfl, by decide, .inl gH⟩ (fun a oe cls d pn hz hf => (pss_one (ps_set (i := 11) sc_L_refusals.nd rfl (Or.inl rfl) (pe_and (pe_callB (id := "isinstance") (r := rIsX K a cls d) (call_isX hz hf) (by rfl) T.b_isinstance (by decide +kernel) (pa_cons (pv 12) (pa_cons (pe_glob (v := .ref CM) rfl TMo.gC rfl) pa_nil))) (pe_one (pe_cmpR (r := rEqD K) (op_eqD (X := _) hr.units) (pe_xf TMo.xf TMo.no hz hf (pv 12)) (pv 4) (nomark _))))))) HsAs.nil))
    (pss_one (ps_ret (pe_cmpR op_isBl (pv 11) pe_bl (nomark _))))))))))))))))), ?_⟩
    obtain ⟨hd, c, x, ns, F, p, s, rfl, hh, hx, hg, k⟩ := h
    have fl := hg.f.lo
    have fh := hg.f.hi
    have st0 : StB hd c ns (rem H hd) H := ⟨hh, Ex.refl _⟩
    have dr : ∀ {σ : L2.St} {m : Int} , σ[0]? = some (some (.ref hd)) → 0 < m → m.natAbs < 2 ^ 1000 → EI hd c ns (tCall spDraw [] E0 (tCons (tVar 0) (tCons (tC (.int m)) tNil))) σ (fun i => 0 ≤ i ∧ i < m) := fun e m0 m1 => i_draw e m0 m1 (fun i p q => ⟨p, q⟩)
    -- mode
    refine bz_menu (K := K) (D := _) (σ := [some (.ref hd), some (.ref x), some (.int (F.length : Int)), some (.int ((F.getD 0 []).length : Int)), none, none, none, none, none, none, none, none, none]) (ds := [.int (-1), .int (F.length : Int), .none, .str "0", .tuple [.int 0], .int ((F.length : Int) + 10 ^ 9), .bool false, .bool true]) st0 (d_tup (ds_cons (d_neg d_int) (ds_cons (d_var (d := .int (F.length : Int)) ⟨_, rfl, .int _⟩) (ds_cons d_non (ds_cons d_str (ds_cons (d_tup (ds_cons d_int ds_nil) (by show 1 ≤ 1000; decide)) (ds_cons (d_add (d_var (d := .int (F.length : Int)) ⟨_, rfl, .int _⟩) (d_pow d_int d_int ⟨by decide, by decide, by decide⟩)) (ds_cons d_bl (ds_cons d_bl ds_nil)))))))) (by show 8 ≤ 1000; decide)) (dr rfl (by decide) (by decide)) (fun i p => p) rfl fun v_m dm H1 B1 st1 b1 h_m hm => ?_
    have bm : okM F dm = false ∧ SeqAt.shaped dm = true ∧ dm.depth ≤ 2 := by
      simp only [List.mem_cons, List.not_mem_nil, or_false] at hm
      rcases hm with rfl | rfl | rfl | rfl | rfl | rfl | rfl | rfl
      · exact ⟨rfl, by decide +kernel, by decide +kernel⟩
      · refine ⟨?_, rfl, Nat.zero_le _⟩
        show (true && (decide ((0 : Int) ≤ (F.length : Int)) && decide ((F.length : Int) ≤ (F.length : Int) - 1))) = false
        rw [decide_eq_false (p := (F.length : Int) ≤ (F.length : Int) - 1) (by omega)]; simp
      · exact ⟨rfl, by decide +kernel, by decide +kernel⟩
      · exact ⟨rfl, by decide +kernel, by decide +kernel⟩
      · exact ⟨rfl, by decide +kernel, by decide +kernel⟩
      · refine ⟨?_, rfl, Nat.zero_le _⟩
        show (true && (decide ((0 : Int) ≤ (F.length : Int) + 10 ^ 9) && decide ((F.length : Int) + 10 ^ 9 ≤ (F.length : Int) - 1))) = false
        rw [decide_eq_false (p := (F.length : Int) + 10 ^ 9 ≤ (F.length : Int) - 1) (by omega)]; simp
      · exact ⟨rfl, by decide +kernel, by decide +kernel⟩
      · exact ⟨rfl, by decide +kernel, by decide +kernel⟩
    clear hm
    obtain ⟨bm, shm, dpm⟩ := bm
    have shM : SeqAt.shaped (tag "mode" dm) = true := shaped_tag (by decide +kernel) shm dpm
    -- phase
    refine bz_menu (K := K) (D := _) (σ := [some (.ref hd), some (.ref x), some (.int (F.length : Int)), some (.int ((F.getD 0 []).length : Int)), some v_m, none, none, none, none, none, none, none, none]) (ds := [.int (-1), .none, .str "1", .list [.int 0], .int (-(10 ^ 20)), .bool true, .bool false]) st1 (d_tup (ds_cons (d_neg d_int) (ds_cons d_non (ds_cons d_str (ds_cons (d_lst (ds_cons d_int ds_nil) (by show 1 ≤ 1000; decide)) (ds_cons (d_neg (d_pow d_int d_int ⟨by decide, by decide, by decide⟩)) (ds_cons d_bl (ds_cons d_bl ds_nil))))))) (by show 7 ≤ 1000; decide)) (dr rfl (by decide) (by decide)) (fun i p => p) rfl fun v_p dp H2 B2 st2 b2 h_p hp => ?_
    have bp : okPh dp = false ∧ SeqAt.shaped (tag "phase" dp) = true := by
      simp only [List.mem_cons, List.not_mem_nil, or_false] at hp
      rcases hp with rfl | rfl | rfl | rfl | rfl | rfl | rfl <;> exact ⟨rfl, by decide +kernel⟩
    clear hp
    obtain ⟨bp, shP⟩ := bp
    -- ticks
    refine bz_menu (K := K) (D := _) (σ := [some (.ref hd), some (.ref x), some (.int (F.length : Int)), some (.int ((F.getD 0 []).length : Int)), some v_m, some v_p, none, none, none, none, none, none, none]) (ds := [.int (-1), .int 1001, .none, .str "2", .int (10 ^ 9), .bool true]) st2 (d_tup (ds_cons (d_neg d_int) (ds_cons d_int (ds_cons d_non (ds_cons d_str (ds_cons (d_pow d_int d_int ⟨by decide, by decide, by decide⟩) (ds_cons d_bl ds_nil)))))) (by show 6 ≤ 1000; decide)) (dr rfl (by decide) (by decide)) (fun i p => p) rfl fun v_t dt H3 B3 st3 b3 h_t ht => ?_
    have bt : okT dt = false ∧ SeqAt.shaped (tag "ticks" dt) = true := by
      simp only [List.mem_cons, List.not_mem_nil, or_false] at ht
      rcases ht with rfl | rfl | rfl | rfl | rfl | rfl <;> exact ⟨rfl, by decide +kernel⟩
    clear ht
    obtain ⟨bt, shT⟩ := bt
    -- good
    refine bz_int (D := _) (σ := [some (.ref hd), some (.ref x), some (.int (F.length : Int)), some (.int ((F.getD 0 []).length : Int)), some v_m, some v_p, some v_t, none, none, none, none, none, none]) (P := fun i => 0 ≤ i ∧ i < (F.length : Int)) st3 (i_drawE (Pm := fun i => i = (F.length : Int)) rfl (i_var rfl rfl) (fun n e => by subst e; exact ⟨by omega, Nat.lt_of_le_of_lt (m := 3) (by omega) (by decide)⟩) (fun n i e p q => by subst e; exact ⟨p, q⟩)) fun go H4 st4 pg => ?_
    obtain ⟨gn, rfl⟩ := Int.eq_ofNat_of_zero_le pg.1
    have gl : gn < F.length := by omega
    have hx3 := has_grow ((b1.trans b2).trans b3) hx
    have h_m3 := dp_grow (b2.trans b3) _ _ h_m
    have h_p3 := dp_grow b3 _ _ h_p
    have b03 := (b1.trans b2).trans b3
    clear h_m h_p b1 b2 b3 st0 st1 st2 st3
    have okg := okM_nat gl
    have fit0 : Fits (fac F gn) 0 := fits4 hg.f gl (by omega)
    -- words
    have wd : ∀ {σ : L2.St} {H : Hp} {t1 t2 t3 t4 : TE} {nm : Nat} {m ph t d : PyData}, σ[1]? = some (some (.ref x)) → Ex B3 H → nm < 3 → EvD K t1 σ H (.int (nm : Int)) → EvD K t2 σ H m → EvD K t3 σ H ph → EvD K t4 σ H t → fWord F p s [.int (nm : Int), m, ph, t] d →
        EvD K (tCall (spM K C al 4 (onF fWord) (fun _ _ _ => False)) [] E0 (tCons (tVar 1) (tCons t1 (tCons t2 (tCons t3 (tCons t4 tNil)))))) σ H d := fun e1 e2 _ q1 q2 q3 q4 hf => d_callM (o_var e1 (has_grow e2 hx3)) (ds_cons q1 (ds_cons q2 (ds_cons q3 (ds_cons q4 ds_nil)))) rfl ⟨F, p, s, hg, rfl, hf⟩
    have ot : ∀ {σ : L2.St} {H : Hp} {t1 t2 t3 : TE} {nm : Nat} {m q d : PyData}, σ[1]? = some (some (.ref x)) → Ex B3 H → EvD K t1 σ H (.int (nm : Int)) → EvD K t2 σ H m → EvD K t3 σ H q → fOther F p s [.int (nm : Int), m, q] d →
        EvD K (tCall (spM K C al 3 (onF fOther) (fun _ _ _ => False)) [] E0 (tCons (tVar 1) (tCons t1 (tCons t2 (tCons t3 tNil))))) σ H d := fun e1 e2 q1 q2 q3 hf => d_callM (o_var e1 (has_grow e2 hx3)) (ds_cons q1 (ds_cons q2 (ds_cons q3 ds_nil))) rfl ⟨F, p, s, hg, rfl, hf⟩
    have tg : ∀ {σ : L2.St} {H : Hp} {te : TE} {wd : Str} {d : PyData}, EvD K te σ H d → EvD K (tTup (tCons (tC (.str wd)) (tCons te tNil))) σ H (tag wd d) := fun e => d_tup (ds_cons d_str (ds_cons e ds_nil)) (by show 2 ≤ 1000; decide)
    have e4 := st4.all
    refine z_forN (K := K) (D := _) (σ := [some (.ref hd), some (.ref x), some (.int (F.length : Int)), some (.int ((F.getD 0 []).length : Int)), some v_m, some v_p, some v_t, some (.int (gn : Int)), none, none, none, none, none]) (ds_cons (d_int (i := 3)) ds_nil) (by decide) (by decide) (fun i σ' H' => ∃ o, σ' = [some (.ref hd), some (.ref x), some (.int (F.length : Int)), some (.int ((F.getD 0 []).length : Int)), some v_m, some v_p, some v_t, some (.int (gn : Int)), o, none, none, none, none]) (fun H5 e5 => ⟨none, rfl⟩) ?_ ?_
    · rintro i σ' H' D' hi e5 ⟨o, rfl⟩ kk
      have i3 : i < 3 := by omega
      have vn : ∀ {H : Hp}, EvD K (tVar 8) [some (.ref hd), some (.ref x), some (.int (F.length : Int)), some (.int ((F.getD 0 []).length : Int)), some v_m, some v_p, some v_t, some (.int (gn : Int)), some (.int (i : Int)), none, none, none, none] H (.int (i : Int)) := fun {H} => d_var ⟨_, rfl, .int _⟩
      have vg : ∀ {H : Hp}, EvD K (tVar 7) [some (.ref hd), some (.ref x), some (.int (F.length : Int)), some (.int ((F.getD 0 []).length : Int)), some v_m, some v_p, some v_t, some (.int (gn : Int)), some (.int (i : Int)), none, none, none, none] H (.int (gn : Int)) := fun {H} => d_var ⟨_, rfl, .int _⟩
      have vm : ∀ {H : Hp}, Ex B3 H → EvD K (tVar 4) [some (.ref hd), some (.ref x), some (.int (F.length : Int)), some (.int ((F.getD 0 []).length : Int)), some v_m, some v_p, some v_t, some (.int (gn : Int)), some (.int (i : Int)), none, none, none, none] H dm := fun e => d_var ⟨_, rfl, dp_grow e _ _ h_m3⟩
      have vp : ∀ {H : Hp}, Ex B3 H → EvD K (tVar 5) [some (.ref hd), some (.ref x), some (.int (F.length : Int)), some (.int ((F.getD 0 []).length : Int)), some v_m, some v_p, some v_t, some (.int (gn : Int)), some (.int (i : Int)), none, none, none, none] H dp := fun e => d_var ⟨_, rfl, dp_grow e _ _ h_p3⟩
      have vt : ∀ {H : Hp}, Ex B3 H → EvD K (tVar 6) [some (.ref hd), some (.ref x), some (.int (F.length : Int)), some (.int ((F.getD 0 []).length : Int)), some v_m, some v_p, some v_t, some (.int (gn : Int)), some (.int (i : Int)), none, none, none, none] H dt := fun e => d_var ⟨_, rfl, dp_grow e _ _ h_t⟩
      have g5 := e4.trans e5
      refine z_if (b := false) (σ := [some (.ref hd), some (.ref x), some (.int (F.length : Int)), some (.int ((F.getD 0 []).length : Int)), some v_m, some v_p, some v_t, some (.int (gn : Int)), some (.int (i : Int)), none, none, none, none]) (b_nor (b_ne (wd rfl g5 i3 vn (vm g5) (vp g5) (vt g5) ⟨i, _, _, _, rfl, i3, .inl ⟨bm, rfl⟩⟩) (tg (vm g5)) shM) (b_ne (wd rfl g5 i3 vn vg (vp g5) (vt g5) ⟨i, _, _, _, rfl, i3, .inr (.inl ⟨okg, bp, rfl⟩)⟩) (tg (vp g5)) shP)) (fun c => by cases c) (fun _ H6 e6 => ?_)
      refine z_nx ?_
      have g6 := g5.trans e6
      refine z_if (b := false) (σ := [some (.ref hd), some (.ref x), some (.int (F.length : Int)), some (.int ((F.getD 0 []).length : Int)), some v_m, some v_p, some v_t, some (.int (gn : Int)), some (.int (i : Int)), none, none, none, none]) (b_nor (b_ne (wd rfl g6 i3 vn vg d_int (vt g6) ⟨i, _, _, _, rfl, i3, .inr (.inr (.inl ⟨okg, okPh_nat 0, bt, rfl⟩))⟩) (tg (vt g6)) shT) (b_ne (wd rfl g6 i3 vn vg d_int d_int ⟨i, _, _, _, rfl, i3, .inr (.inr (.inr ⟨gn, 3, 0, ⟨rfl, gl, by omega⟩, fit0, rfl⟩))⟩) d_str (by decide +kernel))) (fun c => by cases c) (fun _ H7 e7 => ?_)
      refine z_nx ?_
      have g7 := g6.trans e7
      refine z_if1 (b := false) (σ := [some (.ref hd), some (.ref x), some (.int (F.length : Int)), some (.int ((F.getD 0 []).length : Int)), some v_m, some v_p, some v_t, some (.int (gn : Int)), some (.int (i : Int)), none, none, none, none]) (b_nor (b_ne (wd rfl g7 i3 vn (vm g7) d_int d_int ⟨i, _, _, _, rfl, i3, .inl ⟨bm, rfl⟩⟩) (tg (vm g7)) shM) (b_ne (wd rfl g7 i3 vn vg (vp g7) d_int ⟨i, _, _, _, rfl, i3, .inr (.inl ⟨okg, bp, rfl⟩)⟩) (tg (vp g7)) shP)) (fun c => by cases c) (fun _ H8 e8 => ?_)
      exact kk _ _ ((e6.trans e7).trans e8) ⟨_, rfl⟩
    · rintro σ' H5 e5 ⟨o, rfl⟩
      have st5 := st4.grow e5
      -- unit
      refine bz_menu (K := K) (D := _) (σ := [some (.ref hd), some (.ref x), some (.int (F.length : Int)), some (.int ((F.getD 0 []).length : Int)), some v_m, some v_p, some v_t, some (.int (gn : Int)), o, none, none, none, none]) (ds := [.tuple [.int 0, .int 1], .tuple [.int (-1), .int 2], .int 1, .none, .list [.int 1, .int 2], .tuple [.int 2, .int 4], .tuple [.bool true, .int 1]]) st5 (d_tup (ds_cons (d_tup (ds_cons d_int (ds_cons d_int ds_nil)) (by show 2 ≤ 1000; decide)) (ds_cons (d_tup (ds_cons (d_neg d_int) (ds_cons d_int ds_nil)) (by show 2 ≤ 1000; decide)) (ds_cons d_int (ds_cons d_non (ds_cons (d_lst (ds_cons d_int (ds_cons d_int ds_nil)) (by show 2 ≤ 1000; decide)) (ds_cons (d_tup (ds_cons d_int (ds_cons d_int ds_nil)) (by show 2 ≤ 1000; decide)) (ds_cons (d_tup (ds_cons d_bl (ds_cons d_int ds_nil)) (by show 2 ≤ 1000; decide)) ds_nil))))))) (by show 7 ≤ 1000; decide)) (dr rfl (by decide) (by decide)) (fun i p => p) rfl fun v_u du H6 B6 st6 b6 h_u hu => ?_
      have bu : badUnit du ∧ SeqAt.shaped (tag "unit" du) = true := by
        simp only [List.mem_cons, List.not_mem_nil, or_false] at hu
        rcases hu with rfl | rfl | rfl | rfl | rfl | rfl | rfl
        · exact ⟨.inr ⟨0, 1, rfl, by decide⟩, by decide +kernel⟩
        · exact ⟨.inr ⟨-1, 2, rfl, by decide⟩, by decide +kernel⟩
        · exact ⟨.inl rfl, by decide +kernel⟩
        · exact ⟨.inl rfl, by decide +kernel⟩
        · exact ⟨.inl rfl, by decide +kernel⟩
        · exact ⟨.inl rfl, by decide +kernel⟩
        · exact ⟨.inl rfl, by decide +kernel⟩
      clear hu
      obtain ⟨bu, shU⟩ := bu
      have h_m6 := dp_grow b6 _ _ h_m3
      have h_p6 := dp_grow b6 _ _ h_p3
      have e6 := st6.all
      have g6 := b6.trans e6
      have vg : ∀ {σ : L2.St} {H : Hp}, σ[7]? = some (some (.int (gn : Int))) → EvD K (tVar 7) σ H (.int (gn : Int)) := fun e => d_var ⟨_, e, .int _⟩
      have vm : ∀ {σ : L2.St} {H : Hp}, σ[4]? = some (some v_m) → Ex B6 H → EvD K (tVar 4) σ H dm := fun s e => d_var ⟨_, s, dp_grow e _ _ h_m6⟩
      have vp : ∀ {σ : L2.St} {H : Hp}, σ[5]? = some (some v_p) → Ex B6 H → EvD K (tVar 5) σ H dp := fun s e => d_var ⟨_, s, dp_grow e _ _ h_p6⟩
      have vu : ∀ {σ : L2.St} {H : Hp}, σ[9]? = some (some v_u) → Ex B6 H → EvD K (tVar 9) σ H du := fun s e => d_var ⟨_, s, dp_grow e _ _ h_u⟩
      refine z_if (b := false) (D := _) (H := H6) (σ := [some (.ref hd), some (.ref x), some (.int (F.length : Int)), some (.int ((F.getD 0 []).length : Int)), some v_m, some v_p, some v_t, some (.int (gn : Int)), o, some v_u, none, none, none]) (b_nor (b_ne (ot (nm := 0) rfl g6 d_int (vm rfl e6) (vu rfl e6) ⟨0, _, _, rfl, .inl ⟨rfl, bm, rfl⟩⟩) (tg (vm rfl e6)) shM) (b_ne (ot (nm := 0) rfl g6 d_int (vg rfl) (vu rfl e6) ⟨0, _, _, rfl, .inr (.inl ⟨rfl, okg, bu, rfl⟩)⟩) (tg (vu rfl e6)) shU)) (fun c => by cases c) (fun _ H7 x7 => ?_)
      refine z_nx ?_
      have e7 := e6.trans x7
      have g7 := b6.trans e7
      refine z_if (b := false) (D := _) (H := H7) (σ := [some (.ref hd), some (.ref x), some (.int (F.length : Int)), some (.int ((F.getD 0 []).length : Int)), some v_m, some v_p, some v_t, some (.int (gn : Int)), o, some v_u, none, none, none]) (b_nor (b_ne (ot (nm := 0) rfl g7 d_int (vm rfl e7) (d_tup (ds_cons d_int (ds_cons d_int ds_nil)) (by show 2 ≤ 1000; decide)) ⟨0, _, _, rfl, .inl ⟨rfl, bm, rfl⟩⟩) (tg (vm rfl e7)) shM) (b_ne (ot (nm := 1) rfl g7 d_int (vm rfl e7) d_int ⟨1, _, _, rfl, .inr (.inr (.inl ⟨rfl, bm, rfl⟩))⟩) (tg (vm rfl e7)) shM)) (fun c => by cases c) (fun _ H8 x8 => ?_)
      refine z_nx ?_
      have e8 := e7.trans x8
      have g8 := b6.trans e8
      refine z_if (b := false) (D := _) (H := H8) (σ := [some (.ref hd), some (.ref x), some (.int (F.length : Int)), some (.int ((F.getD 0 []).length : Int)), some v_m, some v_p, some v_t, some (.int (gn : Int)), o, some v_u, none, none, none]) (b_nor (b_ne (ot (nm := 1) rfl g8 d_int (vm rfl e8) (vp rfl e8) ⟨1, _, _, rfl, .inr (.inr (.inl ⟨rfl, bm, rfl⟩))⟩) (tg (vm rfl e8)) shM) (b_nor (b_ne (ot (nm := 1) rfl g8 d_int (vg rfl) (vp rfl e8) ⟨1, _, _, rfl, .inr (.inr (.inr (.inl ⟨rfl, okg, bp, rfl⟩)))⟩) (tg (vp rfl e8)) shP) (b_ne (ot (nm := 2) rfl g8 d_int d_int (vp rfl e8) ⟨2, _, _, rfl, .inr (.inr (.inr (.inr (.inl ⟨rfl, bp, rfl⟩))))⟩) (tg (vp rfl e8)) shP))) (fun c => by cases c) (fun _ H9 x9 => ?_)
      refine z_nx ?_
      have e9 := e8.trans x9
      obtain ⟨_, p1, p4⟩ := row_len hg.f (m := 0) hg.f.lo
      -- repeats that are refused
      refine z_forT (K := K) (D := _) (H := H9) (σ := [some (.ref hd), some (.ref x), some (.int (F.length : Int)), some (.int ((F.getD 0 []).length : Int)), some v_m, some v_p, some v_t, some (.int (gn : Int)), o, some v_u, none, none, none]) (ds := [.int 0, .int (-1), .int 5, .none, .str "1", .int (10 ^ 9), .bool true]) (d_tup (ds_cons d_int (ds_cons (d_neg d_int) (ds_cons d_int (ds_cons d_non (ds_cons d_str (ds_cons (d_pow d_int d_int ⟨by decide, by decide, by decide⟩) (ds_cons d_bl ds_nil))))))) (by show 7 ≤ 1000; decide)) (fun i σ' H' => ∃ o2, σ' = [some (.ref hd), some (.ref x), some (.int (F.length : Int)), some (.int ((F.getD 0 []).length : Int)), some v_m, some v_p, some v_t, some (.int (gn : Int)), o, some v_u, o2, none, none]) (fun H5 e5 => ⟨none, rfl⟩) ?_ ?_
      · rintro i d v σ' H' D' hd' x10 ⟨o2, rfl⟩ hv kk
        have br : (wholeIn d (.int 1) .none = false ∨ ∃ n : Int, d = .int n ∧ n.natAbs < 2 ^ 100 ∧ 4 < n * ((F.getD 0 []).length : Int)) ∧ SeqAt.shaped (tag "times" d) = true := by
          have hm := List.mem_of_getElem? hd'
          simp only [List.mem_cons, List.not_mem_nil, or_false] at hm
          rcases hm with rfl | rfl | rfl | rfl | rfl | rfl | rfl
          · exact ⟨.inl rfl, by decide +kernel⟩
          · exact ⟨.inl rfl, by decide +kernel⟩
          · exact ⟨.inr ⟨5, rfl, by decide, by omega⟩, by decide +kernel⟩
          · exact ⟨.inl rfl, by decide +kernel⟩
          · exact ⟨.inl rfl, by decide +kernel⟩
          · exact ⟨.inr ⟨10 ^ 9, rfl, by decide, by omega⟩, by decide +kernel⟩
          · exact ⟨.inl rfl, by decide +kernel⟩
        have e10 := e9.trans x10
        have vr : EvD K (tVar 10) [some (.ref hd), some (.ref x), some (.int (F.length : Int)), some (.int ((F.getD 0 []).length : Int)), some v_m, some v_p, some v_t, some (.int (gn : Int)), o, some v_u, some v, none, none] H' d := d_var ⟨_, rfl, hv⟩
        refine z_if1 (b := false) (σ := [some (.ref hd), some (.ref x), some (.int (F.length : Int)), some (.int ((F.getD 0 []).length : Int)), some v_m, some v_p, some v_t, some (.int (gn : Int)), o, some v_u, some v, none, none]) (b_ne (ot (nm := 3) rfl (b6.trans e10) d_int d_int vr ⟨3, _, _, rfl, .inr (.inr (.inr (.inr (.inr (.inl ⟨rfl, br.1, rfl⟩)))))⟩) (tg vr) br.2) (fun c => by cases c) (fun _ HA xA => ?_)
        exact kk _ _ xA ⟨_, rfl⟩
      · rintro σ' HB xB ⟨o2, rfl⟩
        have eB := e9.trans xB
        -- repeats of both kinds
        refine z_forR (K := K) (D := _) (H := HB) (jj := 10) (a := 1) (b := 5) (σ := [some (.ref hd), some (.ref x), some (.int (F.length : Int)), some (.int ((F.getD 0 []).length : Int)), some v_m, some v_p, some v_t, some (.int (gn : Int)), o, some v_u, o2, none, none]) (ds_cons d_int (ds_cons d_int ds_nil)) (by decide) (by decide) (fun i σ' H' => ∃ o2, σ' = [some (.ref hd), some (.ref x), some (.int (F.length : Int)), some (.int ((F.getD 0 []).length : Int)), some v_m, some v_p, some v_t, some (.int (gn : Int)), o, some v_u, o2, none, none]) (fun H5 e5 => ⟨_, rfl⟩) ?_ ?_
        · rintro i σ' H' D' hi x10 ⟨o2, rfl⟩ hrt kk
          have e10 := eB.trans x10
          have vr : ∀ {H : Hp}, EvD K (tVar 10) [some (.ref hd), some (.ref x), some (.int (F.length : Int)), some (.int ((F.getD 0 []).length : Int)), some v_m, some v_p, some v_t, some (.int (gn : Int)), o, some v_u, some (.int (1 + (i : Int))), none, none] H (.int (1 + (i : Int))) := fun {H} => d_var ⟨_, rfl, .int _⟩
          have vper : ∀ {H : Hp}, EvD K (tVar 3) [some (.ref hd), some (.ref x), some (.int (F.length : Int)), some (.int ((F.getD 0 []).length : Int)), some v_m, some v_p, some v_t, some (.int (gn : Int)), o, some v_u, some (.int (1 + (i : Int))), none, none] H (.int ((F.getD 0 []).length : Int)) := fun {H} => d_var ⟨_, rfl, .int _⟩
          have tst : EvB (tTest (tOp (rI0 fun i j => .bl (decide (i ≤ j))) (tOp (rI CMulW fun i j => .int (i * j)) (tVar 10) (tVar 3)) (tC (.int 4)))) [some (.ref hd), some (.ref x), some (.int (F.length : Int)), some (.int ((F.getD 0 []).length : Int)), some v_m, some v_p, some v_t, some (.int (gn : Int)), o, some v_u, some (.int (1 + (i : Int))), none, none] H' (decide ((1 + (i : Int)) * ((F.getD 0 []).length : Int) ≤ 4)) := b_test (K := K) (d_le (d_mul vr vper (wide_mul (a := 10) (b := 10) (by omega) (by omega) (by decide) (by decide) (by decide))) d_int)
          have en : (1 + (i : Int)) = ((1 + i : Nat) : Int) := by omega
          by_cases hL : (1 + (i : Int)) * ((F.getD 0 []).length : Int) ≤ 4
          · have hL' : (1 + i) * (F.getD 0 []).length ≤ 4 := by rw [en] at hL; exact_mod_cast hL
            refine z_if1 (b := false) (σ := [some (.ref hd), some (.ref x), some (.int (F.length : Int)), some (.int ((F.getD 0 []).length : Int)), some v_m, some v_p, some v_t, some (.int (gn : Int)), o, some v_u, some (.int (1 + (i : Int))), none, none]) (b_ne (d := .str "let") (ot (nm := 3) rfl (b6.trans e10) d_int (d_int (i := 0)) (d_is vr (congrArg PyData.int en)) ⟨3, _, _, rfl, .inr (.inr (.inr (.inr (.inr (.inr ⟨1 + i, rfl, rfl, by omega, hL', rfl⟩)))))⟩) (d_if tst (fun _ => d_str) (fun c => by rw [decide_eq_true hL] at c; cases c)) (by decide +kernel)) (fun c => by cases c) (fun _ HA xA => ?_)
            exact kk _ _ xA ⟨_, rfl⟩
          · refine z_if1 (b := false) (σ := [some (.ref hd), some (.ref x), some (.int (F.length : Int)), some (.int ((F.getD 0 []).length : Int)), some v_m, some v_p, some v_t, some (.int (gn : Int)), o, some v_u, some (.int (1 + (i : Int))), none, none]) (b_ne (d := tag "times" (.int (1 + (i : Int)))) (ot (nm := 3) rfl (b6.trans e10) d_int (d_int (i := 0)) vr ⟨3, _, _, rfl, .inr (.inr (.inr (.inr (.inr (.inl ⟨rfl, .inr ⟨_, rfl, by omega, by omega⟩, rfl⟩)))))⟩) (d_if tst (fun c => by rw [decide_eq_false hL] at c; cases c) (fun _ => tg vr)) (shaped_tag (by decide +kernel) rfl (Nat.zero_le _))) (fun c => by cases c) (fun _ HA xA => ?_)
            exact kk _ _ xA ⟨_, rfl⟩
        · rintro σ' HC xC ⟨o3, rfl⟩
          have eC := eB.trans xC
          -- grows of a wrong mode
          refine z_set (K := K) (D := _) (H := HC) (σ := [some (.ref hd), some (.ref x), some (.int (F.length : Int)), some (.int ((F.getD 0 []).length : Int)), some v_m, some v_p, some v_t, some (.int (gn : Int)), o, some v_u, o3, none, none]) d_str fun v0 HD xD h0 => ?_
          have eD := eC.trans xD
          refine z_beta ?_
          refine xz_drop1 (σ := [some (.ref hd), some (.ref x), some (.int (F.length : Int)), some (.int ((F.getD 0 []).length : Int)), some v_m, some v_p, some v_t, some (.int (gn : Int)), o, some v_u, o3, some v0, none]) (r_meth (o_var rfl (has_grow (b6.trans eD) hx3)) (by decide +kernel) (ds_cons (vm rfl eD) ds_nil) rfl ⟨F, p, s, hg, rfl, dm, rfl, bm, rfl⟩ fun dd as HE xE hdd hfl => ?_)
          obtain ⟨v, h1, h2⟩ := hfl _ (List.mem_singleton.mpr rfl)
          refine ⟨true, mh, fun _ aa ha => ?_, fun q => by cases q⟩
          have isx : EvD K (tCB (rIsX K aa (.ref CM) (some dd)) (tCons (tVar 12) (tCons (tC (.ref CM)) tNil))) [some (.ref hd), some (.ref x), some (.int (F.length : Int)), some (.int ((F.getD 0 []).length : Int)), some v_m, some v_p, some v_t, some (.int (gn : Int)), o, some v_u, o3, some v0, some (.ref aa)] HE (.bool true) := fun H1 x1 Q k1 => ⟨_, rfl, CM, dd, .ref CM, .ref CM, true, as, rfl, rfl, xt, rfl, (fun u r => by cases r; rfl), x1 _ _ hdd, kt, k1 _ H1 (Ex.refl H1) (.bl true)⟩
          refine z_set1 (K := K) (i := 11) (σ := [some (.ref hd), some (.ref x), some (.int (F.length : Int)), some (.int ((F.getD 0 []).length : Int)), some v_m, some v_p, some v_t, some (.int (gn : Int)), o, some v_u, o3, some v0, some (.ref aa)]) (d := .bool true) (d_is (d_and (a := true) (b := true) isx (fun _ => d_is (d_eqD (d_xfD (i := 12) (C := CM) rfl hdd h1 h2) (vm rfl (eD.trans xE)) shm shm) (by rw [eqv_self (SeqAt.canLay_of_shaped shm)]))) rfl) fun u HF xF hu => ?_
          cases hu
          refine z_ret (K := K) (σ := [some (.ref hd), some (.ref x), some (.int (F.length : Int)), some (.int ((F.getD 0 []).length : Int)), some v_m, some v_p, some v_t, some (.int (gn : Int)), o, some v_u, o3, some (.bl true), none]) (d_isBb (d_var ⟨_, rfl, .bl true⟩) d_bl) fun u HG xG hu => ?_
          cases hu
          have gx : Ex H6 HG := x7.trans (x8.trans (x9.trans (xB.trans (xC.trans (xD.trans (xE.trans (xF.trans xG)))))))
          exact k HG (hand_grow gx st6.hh) ((b03.trans (b6.trans st6.ex)).trans (ex_rem gx))
end
end K03
namespace Dat
open PySem L2 Evl
section
variable {K : PySem.W.Frag} {σ : L2.St} {H B : Hp} {te tb : TE} {h c : Addr} {ns : List Int} {ds : List PyData}
theorem eh_menuD {P1 : Int → Prop} {P : PyData → Prop} (e : ∀ H, EvD K te σ H (.tuple ds)) (fl : flats ds = true) (a : EI h c ns tb σ P1) (b : ∀ i, P1 i → 0 ≤ i ∧ i < (ds.length : Int)) (p : ∀ d ∈ ds, flat d = true ∧ P d) : EH K h c ns (tOp (rIxT K) te tb) σ P := fun H1 hh Q q =>
  e H1 H1 (Ex.refl H1) _ fun v H2 x hv => a H2 (hand_grow x hh) _ fun i H3 hh3 e3 pi => by
    obtain ⟨b0, b1⟩ := b i pi
    obtain ⟨n, rfl⟩ := Int.eq_ofNat_of_zero_le b0
    have hn : n < ds.length := by omega
    have f : flat (.tuple ds) = true := fl
    have hv3 : Dp K (rem H3 h) v (.tuple ds) := dp_grow e3 _ _ (hand_dp (hand_grow x hh) f hv)
    cases hv3 with
    | tup hs ha =>
      rename_i p0 xs
      obtain ⟨u, hu, hd⟩ := dps_get ha (i := n) (d := ds[n]) (List.getElem?_eq_getElem hn)
      have hl : xs.length = ds.length := dps_len ha
      refine ⟨p0, xs, (n : Int), u, rfl, rfl, ex_t rem_ex hs, ?_, q u ds[n] H3 hh3 ((ex_rem x).trans e3) hd (p _ (List.getElem_mem hn)).1 (p _ (List.getElem_mem hn)).2⟩
      unfold atI ixN
      rw [if_pos (by omega), if_pos (by omega), Int.toNat_natCast]
      exact hu
theorem z_join {t ts : TS} {D : L2.Ends} (S : L2.St → Hp → Prop) (h1 : ∀ X : L2.St → Hp → Prop, (∀ σ' H', S σ' H' → X σ' H') → t { D with nx := X } σ H) (h2 : ∀ σ' H', S σ' H' → ts D σ' H') : tSeq t ts D σ H := h1 (ts D) h2
end
end Dat
namespace K03
open PySem L2 Evl Dat
def hiF (g : Nat → Rat) : Nat → Int
  | 0 => 1
  | k + 1 => hiF g k * ((g k).num.natAbs : Int)
def loF (g : Nat → Rat) : Nat → Int
  | 0 => 1
  | k + 1 => loF g k * ((g k).den : Int)
def sgF (g : Nat → Rat) : Nat → Int
  | 0 => 1
  | k + 1 => if 0 < (g k).num then sgF g k else -sgF g k
def toF (a : Int) (g : Nat → Rat) : Nat → Int
  | 0 => 0
  | k + 1 => (toF a g k + a * hiF g k) * ((g k).den : Int)
section
variable {g : Nat → Rat} {M : Nat}
theorem hi_le (h : Upto g M) : ∀ k, (hiF g k).natAbs ≤ M ^ k ∧ (loF g k).natAbs ≤ M ^ k ∧ 0 < loF g k
  | 0 => ⟨Nat.le_refl _, Nat.le_refl _, Int.one_pos⟩
  | k + 1 => by
    obtain ⟨a, b, c⟩ := hi_le h k
    refine ⟨?_, ?_, Int.mul_pos c (by have := (g k).den_pos; omega)⟩
    · show (hiF g k * ((g k).num.natAbs : Int)).natAbs ≤ _
      rw [Int.natAbs_mul, Nat.pow_succ]
      exact Nat.mul_le_mul a (h k).1
    · show (loF g k * ((g k).den : Int)).natAbs ≤ _
      rw [Int.natAbs_mul, Nat.pow_succ]
      exact Nat.mul_le_mul b (h k).2
theorem to_le (h : Upto g M) (a : Int) : ∀ k, (toF a g k).natAbs ≤ a.natAbs * (k * M ^ k)
  | 0 => Nat.zero_le _
  | k + 1 => by
    have i1 := to_le h a k
    have i2 := (hi_le h k).1
    show ((toF a g k + a * hiF g k) * ((g k).den : Int)).natAbs ≤ _
    rw [Int.natAbs_mul, Nat.pow_succ]
    have e : a.natAbs * ((k + 1) * (M ^ k * M)) = (a.natAbs * (k * M ^ k) + a.natAbs * M ^ k) * M := by
      rw [Nat.add_mul, Nat.one_mul, Nat.mul_add, Nat.add_mul, Nat.mul_assoc, Nat.mul_assoc, Nat.mul_assoc]
    rw [e]
    refine Nat.mul_le_mul (Nat.le_trans (Int.natAbs_add_le _ _) (Nat.add_le_add i1 ?_)) (h k).2
    rw [Int.natAbs_mul]
    exact Nat.mul_le_mul_left _ i2
theorem sg_one (g : Nat → Rat) : ∀ k, sgF g k = 1 ∨ sgF g k = -1
  | 0 => .inl rfl
  | k + 1 => by
    have := sg_one g k
    show (if 0 < (g k).num then sgF g k else -sgF g k) = 1 ∨ (if 0 < (g k).num then sgF g k else -sgF g k) = -1
    split <;> omega
end
/-- backwards over the ticks: what the sums are -/
theorem far_eq {f : Nat → Rat} (h : ∀ k, f k ≠ 0) (ph t : Nat) (a : Int) : ∀ k, k ≤ t → ((sgF (fun j => f (ph + t - 1 - j)) k * hiF (fun j => f (ph + t - 1 - j)) k : Int) : Rat) = P f (ph + t - k) k * (loF (fun j => f (ph + t - 1 - j)) k : Rat) ∧
    ((hiF (fun j => f (ph + t - 1 - j)) k : Int) : Rat) = absR (P f (ph + t - k) k) * (loF (fun j => f (ph + t - 1 - j)) k : Rat) ∧ ((toF a (fun j => f (ph + t - 1 - j)) k : Int) : Rat) = (a : Rat) * G f (ph + t - k) k * (loF (fun j => f (ph + t - 1 - j)) k : Rat)
  | 0, _ => by
    refine ⟨?_, ?_, ?_⟩
    · simp [sgF, hiF, loF, P]
    · show ((1 : Int) : Rat) = absR 1 * ((1 : Int) : Rat)
      rw [abs_one]; simp
    · show ((0 : Int) : Rat) = (a : Rat) * 0 * ((1 : Int) : Rat)
      simp
  | k + 1, hk => by
    obtain ⟨i1, i2, i3⟩ := far_eq h ph t a k (by omega)
    have ep : ph + t - k = (ph + t - (k + 1)) + 1 := by omega
    have eg : ph + t - 1 - k = ph + t - (k + 1) := by omega
    rw [ep] at i1 i2 i3
    have hf := h (ph + t - (k + 1))
    generalize hg : (fun j => f (ph + t - 1 - j)) = g at *
    have gk : g k = f (ph + t - (k + 1)) := by rw [← hg]; show f (ph + t - 1 - k) = _; rw [eg]
    generalize ph + t - (k + 1) = q at *
    have nz : (f q).num ≠ 0 := fun z => hf (Rat.num_eq_zero.mp z)
    have en := num_eq (f q)
    have ea := natAbs_eq (f q)
    refine ⟨?_, ?_, ?_⟩
    · show (((if 0 < (g k).num then sgF g k else -sgF g k) * (hiF g k * ((g k).num.natAbs : Int)) : Int) : Rat) = P f q (k + 1) * ((loF g k * ((g k).den : Int) : Int) : Rat)
      rw [gk, P_front]
      have e1 : (if 0 < (f q).num then sgF g k else -sgF g k) * (hiF g k * ((f q).num.natAbs : Int)) = (sgF g k * hiF g k) * (f q).num := by
        split
        · rw [show ((f q).num.natAbs : Int) = (f q).num from by omega, Int.mul_assoc]
        · rw [show ((f q).num.natAbs : Int) = -(f q).num from by omega, Int.neg_mul, Int.mul_neg, Int.mul_neg, Int.neg_neg, Int.mul_assoc]
      rw [e1, Rat.intCast_mul, i1, Rat.intCast_mul, en]
      grind
    · show ((hiF g k * ((g k).num.natAbs : Int) : Int) : Rat) = absR (P f q (k + 1)) * ((loF g k * ((g k).den : Int) : Int) : Rat)
      rw [gk, P_front, abs_mul, Rat.intCast_mul, Rat.intCast_mul, i2, ea]
      grind
    · show (((toF a g k + a * hiF g k) * ((g k).den : Int) : Int) : Rat) = (a : Rat) * G f q (k + 1) * ((loF g k * ((g k).den : Int) : Int) : Rat)
      rw [gk, G_front, Rat.intCast_mul, Rat.intCast_add, Rat.intCast_mul, i3, i2, Rat.intCast_mul]
      grind
def spFar (K : PySem.W.Frag) : Sp := fun vs H Q _ => ∃ (h c : Addr) (ns : List Int), vs = [.ref h] ∧ HandOk H h c ns ∧ ∀ H', HandOk H' h c ns → Ex (rem H h) (rem H' h) → Q (.bl true) H'
def LineP (M : Nat) (d : PyData) : Prop := ∃ x : Rat, d = ratR x ∧ x ≠ 0 ∧ x.num.natAbs ≤ M ∧ x.den ≤ M
/-- a row that may be gone over for t ticks -/
structure FarRow (r : List Rat) (pe : Int) (t M : Nat) : Prop where
  len : (r.length : Int) = pe
  el : ∀ x ∈ r, x ≠ 0 ∧ x.num.natAbs ≤ M ∧ x.den ≤ M
  m : M ≤ 16
  t1 : t ≤ 1000
  fit : (t + 1) * M ^ t < 2 ^ 1100
  m1 : 1 ≤ M
/-- pushes as they are drawn -/
def PushP (d : PyData) : Prop := ∃ u : Rat, d = ratR u ∧ 0 < u ∧ Sz 4 u
theorem push_low {a b : Int} (ha : 1 ≤ a) (ha' : a ≤ 9) (hb : 1 ≤ b) (hb' : b ≤ 9) : PushP (lowest a b) := by
  obtain ⟨z, e, hz⟩ := low_sz (a := 4) (by omega : 0 < b) (t := a) (by omega) (by omega)
  refine ⟨z, e, ?_, hz⟩
  rw [lowest_div (by omega)] at e
  have e := ratR_inj e
  rw [← e]
  refine (Rat.lt_div_iff (Rat.intCast_pos.mpr (by omega))).mpr ?_
  rw [Rat.zero_mul]
  exact Rat.intCast_pos.mpr (by omega)
theorem div_of {x : Rat} {a b : Int} (h : 0 < b) (e : (a : Rat) = x * (b : Rat)) : lowest a b = ratR x := by
  rw [lowest_div h, e]
  congr 1
  have hb : (b : Rat) ≠ 0 := by simp; omega
  generalize (b : Rat) = v at hb
  grind
theorem FarRow.cyc {r : List Rat} {pe : Int} {t M : Nat} (h : FarRow r pe t M) (h0 : 1 ≤ pe) (k : Nat) : cyc r k ≠ 0 ∧ (cyc r k).num.natAbs ≤ M ∧ (cyc r k).den ≤ M := by
  have l1 : 0 < r.length := by have := h.len; omega
  have lt : k % r.length < r.length := Nat.mod_lt _ l1
  have e : K03.cyc r k = r[k % r.length] := by unfold K03.cyc; simp [lt]
  rw [e]; exact h.el _ (List.getElem_mem lt)
theorem FarRow.pow {r : List Rat} {pe : Int} {t M : Nat} (h : FarRow r pe t M) {i : Nat} (hi : i ≤ t) {g : Nat → Rat} (hg : Upto g M) : (hiF g i).natAbs < 2 ^ 1100 ∧ (loF g i).natAbs < 2 ^ 1100 ∧ ∀ a : Int, a.natAbs < 2 ^ 4 → (toF a g i).natAbs < 2 ^ 1104 := by
  obtain ⟨a, b, _⟩ := hi_le hg i
  have p1 := pow_mono1 h.m1 hi
  have p2 := pow_mono h.m1 hi
  refine ⟨Nat.lt_of_le_of_lt (Nat.le_trans a p1) h.fit, Nat.lt_of_le_of_lt (Nat.le_trans b p1) h.fit, fun x hx => ?_⟩
  have c := to_le hg x i
  have d : i * M ^ i ≤ (i + 1) * M ^ i := Nat.mul_le_mul_right _ (Nat.le_succ i)
  have e : i * M ^ i < 2 ^ 1100 := Nat.lt_of_le_of_lt (Nat.le_trans d p2) h.fit
  refine Nat.lt_of_le_of_lt c ?_
  rw [show (2 : Nat) ^ 1104 = 2 ^ 4 * 2 ^ 1100 from by rw [← Nat.pow_add]]
  exact Nat.mul_lt_mul'' hx e
theorem abs_if (i : Int) : (if i < 0 then -i else i) = (i.natAbs : Int) := by split <;> omega
theorem half_neg : (.tuple [.int (-1), .int 2] : PyData) = ratR (-1 / 2) := by
  have h1 : (-1 / 2 : Rat).num = -1 := by decide +kernel
  have h2 : (-1 / 2 : Rat).den = 2 := by decide +kernel
  unfold ratR
  rw [h1, h2]
  rfl
theorem line_low {a b : Int} (ha : a ≠ 0) (ha' : a.natAbs ≤ 9) (hb : 1 ≤ b) (hb' : b ≤ 9) : LineP 16 (lowest a b) := by
  obtain ⟨z, e, h1, h2⟩ := low_sz (a := 4) (by omega : 0 < b) (t := a) (by omega) (by omega)
  refine ⟨z, e, fun z0 => ?_, by omega, by omega⟩
  rw [lowest_div (by omega)] at e
  have e := ratR_inj e
  rw [z0] at e
  have hb0 : (b : Rat) ≠ 0 := by simp; omega
  have ha0 : (a : Rat) ≠ 0 := by simp; exact ha
  generalize (a : Rat) = u at *
  generalize (b : Rat) = v at *
  have : u = 0 := by
    have := Rat.div_mul_cancel (a := u) hb0
    rw [e] at this
    grind
  exact ha0 this
section
variable {P' : Program} {w : World} {K : PySem.W.Frag} {mg : Str → Option Value} {base : Heap} {C CM CP CT CB : Addr}

abbrev s_L_far : Stmt := topS 51
abbrev N_L_far : List Str := ["hand", "period", "ticks", "line", "phase", "push", "total", "high", "low", "sign", "k", "one", "plant", "carried"]
theorem sc_L_far : FnScope N_L_far ["hand"] (defScope s_L_far) := ⟨rfl, rfl, rfl, by decide +kernel, rfl, by decide +kernel, by decide +kernel⟩

theorem ok_L_far {f : Addr} {fd : FuncData} (F : Fun K "_law_far" "_law_far" s_L_far f fd) (T : Bl mg) (TC : ClsA K mg "Plant" C al) (D_law_draw : Def P' w K mg base CX0 2 "_law_draw" ["hand", "many"] spDraw) (D_law_ratio : Def P' w K mg base CX0 1 "_law_ratio" ["top", "bottom"] (spD K 2 fLowest)) (D_law_size : Def P' w K mg base CX0 1 "_law_size" ["a"] (spD K 1 fSize))
    (D_law_same : Def P' w K mg base CX0 2 "_law_same" ["told", "due"] (spD K 2 (fSame 2))) (D_Plant : MkP P' w K mg base C)
    (D_carried : MethD P' w K mg base (L2.CX P' w) 5 C "carried" ["self", "mode", "phase", "ticks"] (spM K C al 3 (onF fCarried) (onG (gStretch CM CP CT)))) (D_growth : MethD P' w K mg base (L2.CX P' w) 6 C "growth" ["self", "mode", "phase", "ticks"] (spM K C al 3 (onF fGrowth) (onG (gStretch CM CP CT))))
    (D_gathered : MethD P' w K mg base (L2.CX P' w) 5 C "gathered" ["self", "mode", "phase", "ticks"] (spM K C al 3 (onF fGathered) (onG (gStretch CM CP CT)))) : FnOk P' w K mg base CX0 10 f fd ["hand"] (spFar K) := by
  refine F.ok sc_L_far (fun vs H Q E h => ?_) (fun cdv A outer s H vs Q E hr h => ?_)
  · obtain ⟨hd, c, ns, rfl, _⟩ := h
    rfl
  · refine ⟨_, (pss_cons (ps_set (i := 1) sc_L_far.nd rfl (Or.inl rfl) (pe_op op_add pe_int (pe_dcall D_law_draw (hr.mono (by decide)) pass0 (pa_cons (pv 0) (pa_cons pe_int pa_nil)))))
    (pss_cons (ps_set (i := 2) sc_L_far.nd rfl (Or.inl rfl) (pe_op op_add pe_int (pe_dcall D_law_draw (hr.mono (by decide)) pass0 (pa_cons (pv 0) (pa_cons pe_int pa_nil)))))
    (pss_cons (ps_setLc (i := 3) (own := [("phase", 4)]) (g := gName 4) rfl sc_L_far.nd rfl rfl (sw_true rfl rfl rfl (by decide +kernel)) (pi_range1 rfl T.b_range (pa_cons (pv 1) pa_nil)) (blkOk_by (own := [("phase", 4)]) (N := N_L_far) (sc := defScope s_L_far) (by decide +kernel)) (fun _ _ _ _ _ => pg_name (i := 4) sc_L_far.nd rfl (Or.inl rfl)) (fun _ _ _ _ _ => pts_nil) (fun _ _ _ _ _ => (pe_dcall D_law_ratio (hr.mono (by decide)) pass0 (pa_cons (pe_op op_mulW (pe_op op_add pe_int (pe_dcall D_law_draw (hr.mono (by decide)) pass0 (pa_cons (pv 0) (pa_cons pe_int pa_nil)))) (pe_op op_sub pe_int (pe_op op_mulW pe_int (pe_dcall D_law_draw (hr.mono (by decide)) pass0 (pa_cons (pv 0) (pa_cons pe_int pa_nil)))))) (pa_cons (pe_op op_add pe_int (pe_dcall D_law_draw (hr.mono (by decide)) pass0 (pa_cons (pv 0) (pa_cons pe_int pa_nil)))) pa_nil)))))
    (pss_cons (ps_if (pt_cmpR op_eq (pe_dcall D_law_draw (hr.mono (by decide)) pass0 (pa_cons (pv 0) (pa_cons pe_int pa_nil))) pe_int (nomark _)) (pss_cons (ps_set (i := 2) sc_L_far.nd rfl (Or.inl rfl) (pe_ix (r := rIxT K) ix_tup (pe_tup (pa_cons pe_int (pa_cons pe_int (pa_cons pe_int pa_nil)))) (pe_dcall D_law_draw (hr.mono (by decide)) pass0 (pa_cons (pv 0) (pa_cons pe_int pa_nil))) (fun _ _ => rfl)))
    (pss_one (ps_setLc (i := 3) (own := [("phase", 4)]) (g := gName 4) rfl sc_L_far.nd rfl rfl (sw_true rfl rfl rfl (by decide +kernel)) (pi_range1 rfl T.b_range (pa_cons (pv 1) pa_nil)) (blkOk_by (own := [("phase", 4)]) (N := N_L_far) (sc := defScope s_L_far) (by decide +kernel)) (fun _ _ _ _ _ => pg_name (i := 4) sc_L_far.nd rfl (Or.inl rfl)) (fun _ _ _ _ _ => pts_nil) (fun _ _ _ _ _ => (pe_ix (r := rIxT K) ix_tup (pe_tup (pa_cons (pe_tup (pa_cons pe_int (pa_cons pe_int pa_nil))) (pa_cons (pe_tup (pa_cons (pe_un un_neg pe_int) (pa_cons pe_int pa_nil))) (pa_cons (pe_tup (pa_cons pe_int (pa_cons pe_int pa_nil))) (pa_cons (pe_tup (pa_cons (pe_un un_neg pe_int) (pa_cons pe_int pa_nil))) pa_nil))))) (pe_dcall D_law_draw (hr.mono (by decide)) pass0 (pa_cons (pv 0) (pa_cons pe_int pa_nil))) (fun _ _ => rfl)))))) pss_nil)
    (pss_cons (ps_set (i := 5) sc_L_far.nd rfl (Or.inl rfl) (pe_dcall D_law_ratio (hr.mono (by decide)) pass0 (pa_cons (pe_op op_add pe_int (pe_dcall D_law_draw (hr.mono (by decide)) pass0 (pa_cons (pv 0) (pa_cons pe_int pa_nil)))) (pa_cons (pe_op op_add pe_int (pe_dcall D_law_draw (hr.mono (by decide)) pass0 (pa_cons (pv 0) (pa_cons pe_int pa_nil)))) pa_nil))))
    (pss_cons (ps_set (i := 4) sc_L_far.nd rfl (Or.inl rfl) (pe_dcall D_law_draw (hr.mono (by decide)) pass0 (pa_cons (pv 0) (pa_cons pe_int pa_nil))))
    (pss_cons (ps_set (i := 6) sc_L_far.nd rfl (Or.inl rfl) pe_int)
    (pss_cons (ps_set (i := 7) sc_L_far.nd rfl (Or.inl rfl) pe_int)
    (pss_cons (ps_set (i := 8) sc_L_far.nd rfl (Or.inl rfl) pe_int)
    (pss_cons (ps_set (i := 9) sc_L_far.nd rfl (Or.inl rfl) pe_int)
    (pss_cons (ps_for PassesOwn.never rfl (pi_range1 rfl T.b_range (pa_cons (pv 2) pa_nil)) (pg_name (i := 10) sc_L_far.nd rfl (Or.inl rfl)) (pss_cons (ps_set (i := 6) sc_L_far.nd rfl (Or.inl rfl) (pe_op op_add (pv 6) (pe_op op_mulW (pe_ix (r := rIxT K) ix_tup (pv 5) pe_int (fun _ _ => rfl)) (pv 7))))
    (pss_cons (ps_set (i := 11) sc_L_far.nd rfl (Or.inl rfl) (pe_ix (r := rIxL K) ix_list (pv 3) (pe_op op_mod (pe_callTy call_int1 (by rfl) T.b_int (by decide +kernel) (pa_cons (pe_op op_sub (pe_op op_sub (pe_op op_add (pv 4) (pv 2)) pe_int) (pv 10)) pa_nil)) (pv 1)) (fun _ _ => rfl)))
    (pss_cons (ps_set (i := 7) sc_L_far.nd rfl (Or.inl rfl) (pe_op op_mulW (pv 7) (pe_callB call_abs (by rfl) T.b_abs (by decide +kernel) (pa_cons (pe_ix (r := rIxT K) ix_tup (pv 11) pe_int (fun _ _ => rfl)) pa_nil))))
    (pss_cons (ps_set (i := 8) sc_L_far.nd rfl (Or.inl rfl) (pe_op op_mulW (pv 8) (pe_ix (r := rIxT K) ix_tup (pv 11) pe_int (fun _ _ => rfl))))
    (pss_cons (ps_set (i := 6) sc_L_far.nd rfl (Or.inl rfl) (pe_op op_mulW (pv 6) (pe_ix (r := rIxT K) ix_tup (pv 11) pe_int (fun _ _ => rfl))))
    (pss_one (ps_set (i := 9) sc_L_far.nd rfl (Or.inl rfl) (pe_ifExp (pt_cmpR op_gt (pe_ix (r := rIxT K) ix_tup (pv 11) pe_int (fun _ _ => rfl)) pe_int (nomark _)) (pv 9) (pe_un un_neg (pv 9)))))))))))
    (pss_cons (ps_set (i := 12) sc_L_far.nd rfl (Or.inl rfl) (pe_mk D_Plant (hr.mono (by decide)) passL (pa_cons (pe_lst (pa_cons (pv 3) pa_nil)) (pa_cons (pe_lst (pa_cons (pv 5) pa_nil)) (pa_cons (pe_lst (pa_cons (pe_tup (pa_cons pe_int (pa_cons pe_int pa_nil))) pa_nil)) pa_nil)))))
    (pss_cons (ps_set (i := 13) sc_L_far.nd rfl (Or.inl rfl) (pe_dcall D_law_ratio (hr.mono (by decide)) pass0 (pa_cons (pe_op op_mulW (pv 9) (pv 7)) (pa_cons (pv 8) pa_nil))))
    (pss_cons (ps_if (PW.pt (pw_or (pt_not (pt_val (pe_dcall D_law_same (hr.mono (by decide)) pass0 (pa_cons (pe_mcall (pv 12) D_carried TC.cl (hr.mono (by decide)) passN (pa_cons pe_int (pa_cons (pv 4) (pa_cons (pv 2) pa_nil)))) (pa_cons (pv 13) pa_nil))))) (pw_or1 (pt_not (pt_val (pe_dcall D_law_same (hr.mono (by decide)) pass0 (pa_cons (pe_mcall (pv 12) D_growth TC.cl (hr.mono (by decide)) passN (pa_cons pe_int (pa_cons (pv 4) (pa_cons (pv 2) pa_nil)))) (pa_cons (pe_dcall D_law_size (hr.mono (by decide)) pass0 (pa_cons (pv 13) pa_nil)) pa_nil)))))))) (pss_one (ps_ret pe_bl)) pss_nil)
    (pss_one (ps_ret (pe_dcall D_law_same (hr.mono (by decide)) pass0 (pa_cons (pe_mcall (pv 12) D_gathered TC.cl (hr.mono (by decide)) passN (pa_cons pe_int (pa_cons (pv 4) (pa_cons (pv 2) pa_nil)))) (pa_cons (pe_dcall D_law_ratio (hr.mono (by decide)) pass0 (pa_cons (pv 6) (pa_cons (pe_op op_mulW (pe_ix (r := rIxT K) ix_tup (pv 5) pe_int (fun _ _ => rfl)) (pv 8)) pa_nil))) pa_nil))))))))))))))))))), ?_⟩
    obtain ⟨hd, c, ns, rfl, hh, k⟩ := h
    have dr : ∀ {σ : L2.St} {m : Int} , σ[0]? = some (some (.ref hd)) → 0 < m → m.natAbs < 2 ^ 1000 → EI hd c ns (tCall spDraw [] E0 (tCons (tVar 0) (tCons (tC (.int m)) tNil))) σ (fun i => 0 ≤ i ∧ i < m) := fun e m0 m1 => i_draw e m0 m1 (fun i p q => ⟨p, q⟩)
    have st0 : StB hd c ns (rem H hd) H := ⟨hh, Ex.refl _⟩
    have d1 : ∀ {σ : L2.St}, σ[0]? = some (some (.ref hd)) → EI hd c ns (tOp (rI0 fun i j => .int (i + j)) (tC (.int 1)) (tCall spDraw [] E0 (tCons (tVar 0) (tCons (tC (.int 9)) tNil)))) σ (fun i => 1 ≤ i ∧ i ≤ 9) := fun e => i_add (i_c (P := fun i => i = 1) rfl) (dr e (by decide) (by decide)) (fun i j p q => by omega)
    refine bz_int (D := _) (σ := [some (.ref hd), none, none, none, none, none, none, none, none, none, none, none, none, none]) (P := fun i => 1 ≤ i ∧ i ≤ 4) st0 (i_add (i_c (P := fun i => i = 1) rfl) (dr rfl (by decide) (by decide)) (fun i j p q => by omega)) fun pe H1 st1 pp => ?_
    refine bz_int (D := _) (σ := [some (.ref hd), some (.int pe), none, none, none, none, none, none, none, none, none, none, none, none]) (P := fun i => 7 ≤ i ∧ i ≤ 60) st1 (i_add (i_c (P := fun i => i = 7) rfl) (dr rfl (by decide) (by decide)) (fun i j p q => by omega)) fun ti H2 st2 pt => ?_
    refine bz_list (K := K) (D := _) (i := 3) (σ := [some (.ref hd), some (.int pe), some (.int ti), none, none, none, none, none, none, none, none, none, none, none]) (Pn := fun i => i = pe) (P := LineP 16) st2 (i_var rfl rfl) (fun n p => by omega) (fun _ => rfl) (fun i => eh_two (g := fun i j => lowest i j) (P1 := fun i => i ≠ 0 ∧ i.natAbs ≤ 9) (i_mul (d1 rfl) (i_sub (P := fun i => i = 1 ∨ i = -1) (i_c (P := fun i => i = 1) rfl) (i_mul (P := fun i => i = 0 ∨ i = 2) (i_c (P := fun i => i = 2) rfl) (dr (m := 2) rfl (by decide) (by decide)) (fun i j p q => wide_mul (a := 10) (b := 10) (by omega) (by omega) (by decide) (by decide) (by decide)) (fun i j p q => by
        have : j = 0 ∨ j = 1 := by omega
        subst p
        rcases this with rfl | rfl <;> decide)) (fun i j p q => by omega)) (fun i j p q => wide_mul (a := 10) (b := 10) (by omega) (by omega) (by decide) (by decide) (by decide)) (fun i j p q => by rcases q with rfl | rfl <;> omega)) (d1 rfl) (fun i j p q => ⟨⟨i, j, rfl, by omega, Nat.lt_of_lt_of_le (m := 2 ^ 4) (by omega) (Nat.pow_le_pow_right (by decide) (by decide)), rfl⟩, rfl, line_low p.1 p.2 q.1 q.2⟩)) fun v_l ds H3 B3 st3 b3 h_l pn hds => ?_
    obtain ⟨r0, rfl, hr0⟩ := rats_any hds
    rw [List.length_map] at pn
    refine z_join (D := _) (H := H3) (σ := [some (.ref hd), some (.int pe), some (.int ti), some v_l, none, none, none, none, none, none, none, none, none, none]) (fun σ' H' => ∃ (t M : Nat) (r : List Rat) (v_r : V) (B' : Hp), σ' = [some (.ref hd), some (.int pe), some (.int (t : Int)), some v_r, none, none, none, none, none, none, none, none, none, none] ∧ StB hd c ns B' H' ∧ Ex (rem H hd) B' ∧ Dp K B' v_r (rowD false r) ∧ FarRow r pe t M) (fun X hX => ?_) ?_
    · refine hz_ifEq st3.hh (dr rfl (by decide) (by decide)) (fun H4 hh4 e4 => ?_) (fun H4 hh4 e4 => ?_)
      · refine bz_int (D := _) (σ := [some (.ref hd), some (.int pe), some (.int ti), some v_l, none, none, none, none, none, none, none, none, none, none]) (P := fun i => i = 1000 ∨ i = 999 ∨ i = 200) (B := rem H4 hd) ⟨hh4, Ex.refl _⟩ (i_menu (is := [1000, 999, 200]) (P1 := fun i => 0 ≤ i ∧ i < 3) (fun H => d_tup (ds_cons d_int (ds_cons d_int (ds_cons d_int ds_nil))) (by show 3 ≤ 1000; decide)) (dr rfl (by decide) (by decide)) (fun i p => p) (fun i hi => by simpa using hi)) fun tj H5 st5 ptj => ?_
        have l2 : ∀ d ∈ ([.tuple [.int 1, .int 1], .tuple [.int (-1), .int 1], .tuple [.int 2, .int 1], .tuple [.int (-1), .int 2]] : List PyData), flat d = true ∧ LineP 2 d := by
          intro d hd
          simp only [List.mem_cons, List.not_mem_nil, or_false] at hd
          rcases hd with rfl | rfl | rfl | rfl
          · exact ⟨rfl, 1, rfl, by decide, by decide, by decide⟩
          · exact ⟨rfl, -1, rfl, by decide, by decide, by decide⟩
          · exact ⟨rfl, 2, rfl, by decide, by decide, by decide⟩
          · exact ⟨rfl, -1 / 2, half_neg, by decide +kernel, by decide +kernel, by decide +kernel⟩
        refine eh_list (K := K) (σ := [some (.ref hd), some (.int pe), some (.int tj), some v_l, none, none, none, none, none, none, none, none, none, none]) (h := hd) (c := c) (ns := ns) (Pn := fun i => i = pe) (P := LineP 2) (i_var rfl rfl) (fun n p => by omega) (fun _ => rfl) (fun i => eh_menuD (ds := [.tuple [.int 1, .int 1], .tuple [.int (-1), .int 1], .tuple [.int 2, .int 1], .tuple [.int (-1), .int 2]]) (fun H => d_tup (ds_cons (d_tup (ds_cons d_int (ds_cons d_int ds_nil)) (by show 2 ≤ 1000; decide)) (ds_cons (d_tup (ds_cons (d_neg d_int) (ds_cons d_int ds_nil)) (by show 2 ≤ 1000; decide)) (ds_cons (d_tup (ds_cons d_int (ds_cons d_int ds_nil)) (by show 2 ≤ 1000; decide)) (ds_cons (d_tup (ds_cons (d_neg d_int) (ds_cons d_int ds_nil)) (by show 2 ≤ 1000; decide)) ds_nil)))) (by show 4 ≤ 1000; decide)) rfl (dr rfl (by decide) (by decide)) (fun i p => p) l2) H5 st5.hh _ fun v_r ds H6 hh6 e6 hv pn6 hds => ?_
        obtain ⟨r, rfl, hr⟩ := rats_any hds
        rw [List.length_map] at pn6
        refine hX _ _ ⟨tj.toNat, 2, r, v_r, rem H6 hd, ?_, ⟨hh6, Ex.refl _⟩, (b3.trans st3.ex).trans (e4.trans (st5.ex.trans e6)), hv, pn6, hr, by decide, by omega, ?_, by decide⟩
        · have : ((tj.toNat : Nat) : Int) = tj := by omega
          rw [this]; rfl
        · rcases ptj with rfl | rfl | rfl <;> decide +kernel
      · refine hX _ _ ⟨ti.toNat, 16, r0, v_l, B3, ?_, ⟨hh4, st3.ex.trans e4⟩, b3, h_l, pn, hr0, by decide, by omega, ?_, by decide⟩
        · have : ((ti.toNat : Nat) : Int) = ti := by omega
          rw [this]
        · have h1 : ti.toNat ≤ 60 := by omega
          exact Nat.lt_of_le_of_lt (pow_mono (by decide) h1) (by decide +kernel)
    · rintro σ' H4 ⟨t, M, r, v_r, B4, rfl, st4, b4, h_r, fr⟩
      have cy := fr.cyc pp.1
      have hT := fr.t1
      have hM := fr.m
      refine bz_data (K := K) (D := _) (P := PushP) (σ := [some (.ref hd), some (.int pe), some (.int (t : Int)), some v_r, none, none, none, none, none, none, none, none, none, none]) st4 (eh_two (g := fun i j => lowest i j) (d1 rfl) (d1 rfl) (fun i j p q => ⟨⟨i, j, rfl, by omega, Nat.lt_of_lt_of_le (m := 2 ^ 4) (by omega) (Nat.pow_le_pow_right (by decide) (by decide)), rfl⟩, rfl, push_low p.1 p.2 q.1 q.2⟩)) fun v_u d H5 B5 st5 e5 h_u fl pu => ?_
      obtain ⟨u, rfl, u0, su⟩ := pu
      refine bz_int (D := _) (σ := [some (.ref hd), some (.int pe), some (.int (t : Int)), some v_r, none, some v_u, none, none, none, none, none, none, none, none]) (P := fun i => 0 ≤ i ∧ i < 9) st5 (dr rfl (by decide) (by decide)) fun phi H6 st6 pph => ?_
      obtain ⟨ph, rfl⟩ := Int.eq_ofNat_of_zero_le pph.1
      have hr6 : Dp K H6 v_r (rowD false r) := dp_grow (e5.trans st6.all) _ _ h_r
      have hu6 : Dp K H6 v_u (ratR u) := dp_grow st6.all _ _ h_u
      generalize hgg : (fun j => cyc r (ph + t - 1 - j)) = gg
      have up : Upto gg M := fun k => by rw [← hgg]; exact (cy _).2
      have l0 : 0 < r.length := by have := fr.len; omega
      refine z_set (K := K) (σ := [some (.ref hd), some (.int pe), some (.int (t : Int)), some v_r, some (.int (ph : Int)), some v_u, none, none, none, none, none, none, none, none]) (d_int (i := 0)) fun w0 H7 e7 h7 => ?_
      cases h7
      refine z_set (K := K) (σ := [some (.ref hd), some (.int pe), some (.int (t : Int)), some v_r, some (.int (ph : Int)), some v_u, some (.int 0), none, none, none, none, none, none, none]) (d_int (i := 1)) fun w0 H8 e8 h8 => ?_
      cases h8
      refine z_set (K := K) (σ := [some (.ref hd), some (.int pe), some (.int (t : Int)), some v_r, some (.int (ph : Int)), some v_u, some (.int 0), some (.int 1), none, none, none, none, none, none]) (d_int (i := 1)) fun w0 H9 e9 h9 => ?_
      cases h9
      refine z_set (K := K) (σ := [some (.ref hd), some (.int pe), some (.int (t : Int)), some v_r, some (.int (ph : Int)), some v_u, some (.int 0), some (.int 1), some (.int 1), none, none, none, none, none]) (d_int (i := 1)) fun w0 Ha ea ha => ?_
      cases ha
      have xa := ((e7.trans e8).trans e9).trans ea
      have hra := dp_grow xa _ _ hr6
      have hua := dp_grow xa _ _ hu6
      refine z_forN (K := K) (σ := [some (.ref hd), some (.int pe), some (.int (t : Int)), some v_r, some (.int (ph : Int)), some v_u, some (.int 0), some (.int 1), some (.int 1), some (.int 1), none, none, none, none]) (ds_cons (d_var (d := .int (t : Int)) ⟨_, rfl, .int _⟩) ds_nil) (by omega) (by omega) (fun i σ' H' => ∃ o1 o2, σ' = [some (.ref hd), some (.int pe), some (.int (t : Int)), some v_r, some (.int (ph : Int)), some v_u, some (.int (toF u.num gg i)), some (.int (hiF gg i)), some (.int (loF gg i)), some (.int (sgF gg i)), o1, o2, none, none]) (fun H' e => ⟨none, none, rfl⟩) ?_ ?_
      · rintro i σ' H' D' hi e ⟨o1, o2, rfl⟩ kk
        have it : i < t := by omega
        have hr' := dp_grow e _ _ hra
        have hu' := dp_grow e _ _ hua
        obtain ⟨q1, q2, q3⟩ := fr.pow (Nat.le_of_lt it) up
        obtain ⟨s1, s2, s3⟩ := fr.pow (i := i + 1) it up
        have gi : gg i = cyc r (ph + t - 1 - i) := by rw [← hgg]
        obtain ⟨g0, g1, g2⟩ := cy (ph + t - 1 - i)
        rw [← gi] at g0 g1 g2
        refine z_set (K := K) (σ := [some (.ref hd), some (.int pe), some (.int (t : Int)), some v_r, some (.int (ph : Int)), some v_u, some (.int (toF u.num gg i)), some (.int (hiF gg i)), some (.int (loF gg i)), some (.int (sgF gg i)), some (.int (i : Int)), o2, none, none]) (d_add (d_var (d := .int (toF u.num gg i)) ⟨_, rfl, .int _⟩) (d_mul (d_ixT (d_var ⟨_, rfl, hu'⟩) d_int rfl) (d_var (d := .int (hiF gg i)) ⟨_, rfl, .int _⟩) (wide_mul su.1 q1 (by decide) (by decide) (by decide)))) fun w1 H1 x1 h1 => ?_
        cases h1
        refine z_set (K := K) (σ := [some (.ref hd), some (.int pe), some (.int (t : Int)), some v_r, some (.int (ph : Int)), some v_u, some (.int (toF u.num gg i + u.num * hiF gg i)), some (.int (hiF gg i)), some (.int (loF gg i)), some (.int (sgF gg i)), some (.int (i : Int)), o2, none, none]) (d_ixL (ds := r.map ratR) (i := (((ph + t - 1 - i) % r.length : Nat) : Int)) (d_var ⟨_, rfl, dp_grow x1 _ _ hr'⟩) (d_is (d_mod (i := (ph : Int) + (t : Int) - 1 - (i : Int)) (j := pe) (d_toInt (d_sub (d_sub (d_add (d_var (d := .int (ph : Int)) ⟨_, rfl, .int _⟩) (d_var (d := .int (t : Int)) ⟨_, rfl, .int _⟩)) d_int) (d_var (d := .int (i : Int)) ⟨_, rfl, .int _⟩))) (d_var (d := .int pe) ⟨_, rfl, .int _⟩) (by omega)) (by rw [Int.natCast_emod, ← fr.len, show ((ph + t - 1 - i : Nat) : Int) = (ph : Int) + (t : Int) - 1 - (i : Int) from by omega])) (at_map _ 0 (Nat.mod_lt _ l0))) fun v_o H2 x2 h_o => ?_
        have h_o : Dp K H2 v_o (ratR (gg i)) := by rw [gi]; exact h_o
        have nb : ((gg i).num.natAbs : Int).natAbs < 2 ^ 5 := by omega
        have db : ((gg i).den : Int).natAbs < 2 ^ 5 := by omega
        refine z_set (K := K) (σ := [some (.ref hd), some (.int pe), some (.int (t : Int)), some v_r, some (.int (ph : Int)), some v_u, some (.int (toF u.num gg i + u.num * hiF gg i)), some (.int (hiF gg i)), some (.int (loF gg i)), some (.int (sgF gg i)), some (.int (i : Int)), some v_o, none, none]) (d_mul (d_var (d := .int (hiF gg i)) ⟨_, rfl, .int _⟩) (d_is (d_abs1 (d_ixT (d_var ⟨_, rfl, h_o⟩) d_int rfl)) (congrArg PyData.int (abs_if _))) (wide_mul q1 nb (by decide) (by decide) (by decide))) fun w3 H3 x3 h3 => ?_
        cases h3
        refine z_set (K := K) (σ := [some (.ref hd), some (.int pe), some (.int (t : Int)), some v_r, some (.int (ph : Int)), some v_u, some (.int (toF u.num gg i + u.num * hiF gg i)), some (.int (hiF gg i * ((gg i).num.natAbs : Int))), some (.int (loF gg i)), some (.int (sgF gg i)), some (.int (i : Int)), some v_o, none, none]) (d_mul (d_var (d := .int (loF gg i)) ⟨_, rfl, .int _⟩) (d_ixT (d_var ⟨_, rfl, dp_grow x3 _ _ h_o⟩) d_int rfl) (wide_mul q2 db (by decide) (by decide) (by decide))) fun w4 H4 x4 h4 => ?_
        cases h4
        have tb : (toF u.num gg i + u.num * hiF gg i).natAbs < 2 ^ 1105 := by
          refine Nat.lt_of_le_of_lt (Int.natAbs_add_le _ _) ?_
          rw [Int.natAbs_mul]
          have a1 := q3 _ su.1
          have a2 := Nat.mul_lt_mul'' su.1 q1
          rw [← Nat.pow_add] at a2
          rw [show (2 : Nat) ^ 1105 = 2 ^ 1104 + 2 ^ 1104 from by rw [← Nat.two_mul, ← Nat.pow_succ']]
          exact Nat.add_lt_add a1 a2
        refine z_set (K := K) (σ := [some (.ref hd), some (.int pe), some (.int (t : Int)), some v_r, some (.int (ph : Int)), some v_u, some (.int (toF u.num gg i + u.num * hiF gg i)), some (.int (hiF gg i * ((gg i).num.natAbs : Int))), some (.int (loF gg i * ((gg i).den : Int))), some (.int (sgF gg i)), some (.int (i : Int)), some v_o, none, none]) (d_mul (d_var (d := .int (toF u.num gg i + u.num * hiF gg i)) ⟨_, rfl, .int _⟩) (d_ixT (d_var ⟨_, rfl, dp_grow (x3.trans x4) _ _ h_o⟩) d_int rfl) (wide_mul tb db (by decide) (by decide) (by decide))) fun w5 H5 x5 h5 => ?_
        cases h5
        refine z_set1 (K := K) (σ := [some (.ref hd), some (.int pe), some (.int (t : Int)), some v_r, some (.int (ph : Int)), some v_u, some (.int ((toF u.num gg i + u.num * hiF gg i) * ((gg i).den : Int))), some (.int (hiF gg i * ((gg i).num.natAbs : Int))), some (.int (loF gg i * ((gg i).den : Int))), some (.int (sgF gg i)), some (.int (i : Int)), some v_o, none, none]) (d_if (d := .int (sgF gg (i + 1))) (b_test (d_gt (d_ixT (d_var ⟨_, rfl, dp_grow ((x3.trans x4).trans x5) _ _ h_o⟩) d_int rfl) d_int)) (fun c => d_is (d_var (d := .int (sgF gg i)) ⟨_, rfl, .int _⟩) (congrArg PyData.int (if_pos (of_decide_eq_true c)).symm)) (fun c => d_is (d_neg (d_var (d := .int (sgF gg i)) ⟨_, rfl, .int _⟩)) (congrArg PyData.int (if_neg (of_decide_eq_false c)).symm))) fun w6 H6 x6 h6 => ?_
        cases h6
        exact kk _ _ ((((x1.trans x2).trans x3).trans x4).trans (x5.trans x6)) ⟨_, _, rfl⟩
      · rintro σ' H' e ⟨o1, o2, rfl⟩
        rw [Int.toNat_natCast]
        have hr' := dp_grow e _ _ hra
        have hu' := dp_grow e _ _ hua
        obtain ⟨q1, q2, q3⟩ := fr.pow (Nat.le_refl t) up
        obtain ⟨_, _, lo0⟩ := hi_le up t
        obtain ⟨f1, f2, f3⟩ := far_eq (f := cyc r) (fun k => (cy k).1) ph t u.num t (Nat.le_refl t)
        rw [hgg, show ph + t - t = ph from by omega] at f1 f2 f3
        have ft : Fits (fac [r] 0) t := ⟨M, fun k => (cy k).2, fr.fit⟩
        have gp : GoodP [r] [u] [0] := {
          f := { lo := Nat.le_refl 1, hi := (by show 1 ≤ 3; decide), row := ⟨r.length, l0, by have := fr.len; omega, fun x hx => by rw [List.mem_singleton.mp hx]⟩, fac := fun x hx y hy => by
                  rw [List.mem_singleton.mp hx] at hy
                  obtain ⟨z1, z2, z3⟩ := fr.el y hy
                  exact ⟨z1, Nat.lt_of_lt_of_le (m := 2 ^ 5) (by omega) (Nat.pow_le_pow_right (by decide) (by decide)), Nat.lt_of_lt_of_le (m := 2 ^ 5) (by omega) (Nat.pow_le_pow_right (by decide) (by decide))⟩ }
          pl := rfl
          sl := rfl
          p0 := fun x hx => by rw [List.mem_singleton.mp hx]; exact ⟨u0, su.mono (by decide)⟩
          s0 := fun x hx => by rw [List.mem_singleton.mp hx]; exact ⟨by decide, sz_zero.mono (by decide)⟩ }
        have a3 : at3 [.int 0, .int (ph : Int), .int (t : Int)] [r] 0 ph t := ⟨rfl, Nat.lt_succ_self 0, hT⟩
        refine zo_set (K := K) (σ := [some (.ref hd), some (.int pe), some (.int (t : Int)), some v_r, some (.int (ph : Int)), some v_u, some (.int (toF u.num gg t)), some (.int (hiF gg t)), some (.int (loF gg t)), some (.int (sgF gg t)), o1, o2, none, none]) (o_make (ds_cons (w_d (w_lst (ds_cons (d_var (d := rowD false r) ⟨_, rfl, hr'⟩) ds_nil) (by show 1 ≤ 1000; decide))) (ds_cons (w_d (w_lst (ds_cons (d_var (d := ratR u) ⟨_, rfl, hu'⟩) ds_nil) (by show 1 ≤ 1000; decide))) (ds_cons (w_d (w_lst (ds_cons (d_tup (ds_cons d_int (ds_cons d_int ds_nil)) (by show 2 ≤ 1000; decide)) ds_nil) (by show 1 ≤ 1000; decide))) ds_nil))) rfl ⟨false, false, false, false, [r], [u], [0], rfl, gp, rfl⟩) fun x Hb xb hx => ?_
        have sg1 : (sgF gg t).natAbs < 2 ^ 2 := by rcases sg_one gg t with h | h <;> rw [h] <;> decide
        refine z_set (K := K) (σ := [some (.ref hd), some (.int pe), some (.int (t : Int)), some v_r, some (.int (ph : Int)), some v_u, some (.int (toF u.num gg t)), some (.int (hiF gg t)), some (.int (loF gg t)), some (.int (sgF gg t)), o1, o2, some (.ref x), none]) (d_call (ds_cons (d_mul (d_var (d := .int (sgF gg t)) ⟨_, rfl, .int _⟩) (d_var (d := .int (hiF gg t)) ⟨_, rfl, .int _⟩) (wide_mul sg1 q1 (by decide) (by decide) (by decide))) (ds_cons (d_var (d := .int (loF gg t)) ⟨_, rfl, .int _⟩) ds_nil)) rfl ⟨_, _, rfl, by omega, Nat.lt_of_lt_of_le q2 (Nat.pow_le_pow_right (by decide) (by decide)), (div_of lo0 f1).symm⟩) fun v_c Hc xc h_c => ?_
        have hx' := has_grow xc hx
        have n1 : (("carried" : Str)) ∉ al := by decide +kernel
        have n2 : (("growth" : Str)) ∉ al := by decide +kernel
        have n3 : (("gathered" : Str)) ∉ al := by decide +kernel
        have args : ∀ {H2 : Hp}, EvDs K (tCons (tC (.int 0)) (tCons (tVar 4) (tCons (tVar 2) tNil))) [some (.ref hd), some (.int pe), some (.int (t : Int)), some v_r, some (.int (ph : Int)), some v_u, some (.int (toF u.num gg t)), some (.int (hiF gg t)), some (.int (loF gg t)), some (.int (sgF gg t)), o1, o2, some (.ref x), some v_c] H2 [.int 0, .int (ph : Int), .int (t : Int)] := ds_cons d_int (ds_cons (d_var (d := .int (ph : Int)) ⟨_, rfl, .int _⟩) (ds_cons (d_var (d := .int (t : Int)) ⟨_, rfl, .int _⟩) ds_nil))
        refine z_if (σ := [some (.ref hd), some (.int pe), some (.int (t : Int)), some v_r, some (.int (ph : Int)), some v_u, some (.int (toF u.num gg t)), some (.int (hiF gg t)), some (.int (loF gg t)), some (.int (sgF gg t)), o1, o2, some (.ref x), some v_c]) (b_nor (b_same rfl (d_meth (o_var rfl hx') n1 args rfl ⟨[r], [u], [0], gp, rfl, 0, ph, t, a3, ft, rfl⟩) (d_var (d := ratR (P (cyc r) ph t)) ⟨_, rfl, h_c⟩)) (b_same rfl (d_meth (o_var rfl hx') n2 args rfl ⟨[r], [u], [0], gp, rfl, 0, ph, t, a3, ft, rfl⟩) (d_call (ds_cons (d_var (d := ratR (P (cyc r) ph t)) ⟨_, rfl, h_c⟩) ds_nil) rfl ⟨_, _, rfl, (abs_ratR _).symm⟩))) (fun z => by cases z) fun _ Hd xd => ?_
        have hx2 := has_grow xd hx'
        refine z_nx ?_
        refine z_ret (K := K) (σ := [some (.ref hd), some (.int pe), some (.int (t : Int)), some v_r, some (.int (ph : Int)), some v_u, some (.int (toF u.num gg t)), some (.int (hiF gg t)), some (.int (loF gg t)), some (.int (sgF gg t)), o1, o2, some (.ref x), some v_c]) (d_sameN (n := 2) (a := ratR (G (cyc r) ph t * u)) rfl (d_meth (o_var rfl hx2) n3 args rfl ⟨[r], [u], [0], gp, rfl, 0, ph, t, a3, ft, rfl⟩) (d_call (ds_cons (d_var (d := .int (toF u.num gg t)) ⟨_, rfl, .int _⟩) (ds_cons (d_mul (d_ixT (d_var ⟨_, rfl, dp_grow ((xb.trans xc).trans xd) _ _ hu'⟩) d_int rfl) (d_var (d := .int (loF gg t)) ⟨_, rfl, .int _⟩) (wide_mul (i := (u.den : Int)) (a := 4) (by have := su.2; omega) q2 (by decide) (by decide) (by decide))) ds_nil)) rfl ⟨_, _, rfl, Int.ne_of_gt (Int.mul_pos (by have := u.den_pos; omega) lo0), ?_, (div_of (Int.mul_pos (by have := u.den_pos; omega) lo0) ?_).symm⟩)) fun v He xe hv => ?_
        · rw [Int.natAbs_mul]
          have a2 := Nat.mul_lt_mul'' (show ((u.den : Int)).natAbs < 2 ^ 4 from by have := su.2; omega) q2
          rw [← Nat.pow_add] at a2
          exact Nat.lt_of_lt_of_le a2 (Nat.pow_le_pow_right (by decide) (by decide))
        · rw [f3, Rat.intCast_mul, num_eq u]
          show _ = G (cyc r) ph t * u * _
          grind
        · cases hv
          have xx := (((xa.trans e).trans xb).trans xc).trans (xd.trans xe)
          exact k He (hand_grow xx st6.hh) (((b4.trans e5).trans st6.ex).trans (ex_rem xx))
end
end K03
namespace Dat
open PySem L2 Evl
section
variable {K : PySem.W.Frag} {σ : L2.St} {H B : Hp} {te tb : TE} {ta : TA} {h c : Addr} {ns : List Int} {ds : List PyData} {d : PyData} {ts : TS} {D : L2.Ends} {i j q : Nat}
theorem z_go {i : Nat} {v : V} {Q : L2.St → Hp → Prop} (h : Q (σ.set i (some v)) H) : gName i v σ H Q := h
/-- for x in range(n), whatever changes -/
theorem hz_forE {n : Nat} {tb : TS} (e : EvDs K ta σ H [.int (n : Int)]) (hn : n ≤ 1000) (Pv : Nat → L2.St → Hp → Prop) (p0 : ∀ H1, Ex H H1 → Pv 0 σ H1)
    (step : ∀ (i : Nat) σ' H' (D' : Ends), i < n → Pv i σ' H' → (∀ σ2 H2, Pv (i + 1) σ2 H2 → D'.nx σ2 H2) → tb D' (σ'.set j (some (.int (i : Int)))) H') (fin : ∀ σ' H', Pv n σ' H' → ts D σ' H') : tSeq (tFor (iRng1 ta) (gName j) tb) ts D σ H := e H (Ex.refl H) _ fun vs H1 x hv => by
  obtain ⟨v, ws, rfl, h1, hv⟩ := dps_cons hv
  obtain rfl := dps_nil hv
  cases h1
  refine ⟨(n : Int), rfl, by omega, by omega, for_range (lo := 0) (n := (n : Int).toNat) Pv (p0 _ x) (fun i σ' H' hi p => ?_) (fun σ' H' p => fin σ' H' (by rw [Int.toNat_natCast] at p; exact p))⟩
  have e0 : (0 : Int) + (i : Int) = (i : Int) := Int.zero_add _
  rw [e0]
  exact step i σ' H' _ (by omega) p fun σ2 H2 p2 => p2
/-- a piece of a list of the base -/
theorem z_ixB {v : V} {m : Nat} (s : Ex B H) (h1 : σ[i]? = some (some v)) (hv : Dp K B v (.list ds)) (h2 : σ[j]? = some (some (.int (m : Int)))) (e : ds[m]? = some d) (k : ∀ u, Dp K B u d → ts D (σ.set q (some u)) H) :
    tSeq (tAsg (tOp (rIxL K) (tVar i) (tVar j)) (gName q)) ts D σ H := by
  cases hv with
  | lst hs ha =>
    rename_i p0 xs
    obtain ⟨u, hu, hd⟩ := dps_get ha e
    have hn : m < xs.length := by
      rcases Nat.lt_or_ge m xs.length with h | h
      · exact h
      · rw [List.getElem?_eq_none h] at hu; cases hu
    refine ⟨_, h1, _, h2, p0, xs, (m : Int), u, rfl, rfl, ex_l s hs, ?_, k u hd⟩
    unfold atI ixN
    rw [if_pos (by omega), if_pos (by omega), Int.toNat_natCast]
    exact hu
/-- flat data over a base -/
theorem bz_flat (s : StB h c ns B H) (e : ∀ H1, Ex B H1 → EvD K te σ H1 d) (f : flat d = true) (k : ∀ v H1 B1, StB h c ns B1 H1 → Ex B B1 → Dp K B1 v d → ts D (σ.set i (some v)) H1) : tSeq (tAsg te (gName i)) ts D σ H :=
  e H s.all H (Ex.refl H) _ fun v H1 x hv => k v H1 (rem H1 h) ⟨hand_grow x s.hh, Ex.refl _⟩ (s.ex.trans (ex_rem x)) (hand_dp (hand_grow x s.hh) f hv)
/-- a, b, c = a tuple of three that is spoken of over a base -/
theorem z_three {S : V → Hp → Prop} {a b e : Nat} {n : Nat} (h1 : ∀ Q : VK, (∀ v H1, S v H1 → Q v H1) → te σ H Q)
    (k : ∀ v H1, S v H1 → ∃ (B1 : Hp) (x y z : PyData), Ex B1 H1 ∧ Dp K B1 v (.tuple [x, y, z]) ∧ ∀ u1 u2 u3, Dp K B1 u1 x → Dp K B1 u2 y → Dp K B1 u3 z → ts D (((σ.set a (some u1)).set b (some u2)).set e (some u3)) H1) (hn : n = 3) :
    tSeq (tAsg te (gTup K n (gCons (gName a) (gCons (gName b) (gCons (gName e) gNil))))) ts D σ H := h1 _ fun v H1 s => by
  obtain ⟨B1, x, y, z, x1, hv, k⟩ := k v H1 s
  cases hv with
  | tup hs ha =>
    rename_i p0 xs
    obtain ⟨u1, ws, rfl, d1, ha⟩ := dps_cons ha
    obtain ⟨u2, ws, rfl, d2, ha⟩ := dps_cons ha
    obtain ⟨u3, ws, rfl, d3, ha⟩ := dps_cons ha
    obtain rfl := dps_nil ha
    exact ⟨p0, _, rfl, ex_t x1 hs, hn.symm, _, _, rfl, _, _, rfl, _, _, rfl, rfl, k u1 u2 u3 d1 d2 d3⟩
/-- numbers that are drawn behind H -/
def XI (h c : Addr) (ns : List Int) (te : TE) (σ : L2.St) (H : Hp) (P : Int → Prop) : Prop := ∀ H1, Ex H H1 → HandOk H1 h c ns → ∀ Q : VK, (∀ i H2, HandOk H2 h c ns → Ex (rem H1 h) (rem H2 h) → P i → Q (.int i) H2) → te σ H1 Q
theorem x_of {P : Int → Prop} (e : EI h c ns te σ P) : XI h c ns te σ H P := fun H1 _ hh Q q => e H1 hh Q q
theorem x_add {a : Int} {P P2 : Int → Prop} (e : EvD K te σ H (.int a)) (x : XI h c ns tb σ H P) (p : ∀ i, P i → P2 (a + i)) : XI h c ns (tOp (rI0 fun i j => .int (i + j)) te tb) σ H P2 := fun H1 x1 hh Q q => e H1 x1 _ fun v H2 x2 hv => by
  cases hv
  exact x H2 (x1.trans x2) (hand_grow x2 hh) _ fun i H3 hh3 e3 pi => ⟨_, _, rfl, rfl, q _ H3 hh3 ((ex_rem x2).trans e3) (p i pi)⟩
theorem x_mul {a : Int} {P P2 : Int → Prop} (e : EvD K te σ H (.int a)) (x : XI h c ns tb σ H P) (hc : ∀ i, P i → CMulW a i) (p : ∀ i, P i → P2 (a * i)) : XI h c ns (tOp (rI CMulW fun i j => .int (i * j)) te tb) σ H P2 := fun H1 x1 hh Q q => e H1 x1 _ fun v H2 x2 hv => by
  cases hv
  exact x H2 (x1.trans x2) (hand_grow x2 hh) _ fun i H3 hh3 e3 pi => ⟨_, _, rfl, rfl, hc i pi, q _ H3 hh3 ((ex_rem x2).trans e3) (p i pi)⟩
theorem i_ofD {n : Int} (e : ∀ H, EvD K te σ H (.int n)) : EI h c ns te σ (fun i => i = n) := fun H1 hh Q q => e H1 H1 (Ex.refl H1) _ fun v H2 x hv => by
  cases hv
  exact q n H2 (hand_grow x hh) (ex_rem x) rfl
theorem bz_x {P : Int → Prop} (s : StB h c ns B H) (e : XI h c ns te σ H P) (k : ∀ n H1, StB h c ns B H1 → P n → ts D (σ.set i (some (.int n))) H1) : tSeq (tAsg te (gName i)) ts D σ H := e H (Ex.refl H) s.hh _ fun n H1 a x p => k n H1 ⟨a, s.ex.trans x⟩ p
end
end Dat
namespace K03
open PySem L2 Evl Dat
def spLaw (K : PySem.W.Frag) : Sp := fun vs H Q _ => ∃ (a : Addr) (ns : List Int), vs = [.ref a] ∧ SqL K H a (ns.map V.int) ∧ ns.length ≤ 63 ∧ ∀ H', Q (.bl true) H'
theorem has_hand {K : PySem.W.Frag} {H : Hp} {h c x C : Addr} {ns : List Int} {al : List Str} {fs : List (Str × PyData)} (hh : HandOk H h c ns) (fl : ∀ p ∈ fs, flat p.2 = true) (hx : Has K H x C al fs) : Has K (rem H h) x C al fs := by
  obtain ⟨ys, hys⟩ := hand_lst hh
  refine has_rem hys noTup_l (fun e => ?_) fl hx
  obtain ⟨dx, as, e1, _⟩ := hx
  rw [e, hys] at e1
  cases e1
theorem flat_plant (F : List (List Rat)) (p s : List Rat) : ∀ q ∈ plantF F p s, flat q.2 = true := by
  intro q hq
  simp only [plantF, List.mem_cons, List.not_mem_nil, or_false] at hq
  rcases hq with rfl | rfl | rfl | rfl | rfl
  · exact flat_fac F
  · exact flat_row p
  · exact flat_row s
  · rfl
  · rfl
theorem cyc_shift (r : List Rat) (ph q k : Nat) : cyc r (ph + r.length * q + k) = cyc r (ph + k) := by
  unfold cyc
  rw [show ph + r.length * q + k = ph + k + r.length * q from by omega, Nat.add_mul_mod_self_left]
theorem rem_upd3 {H : Hp} {h L R : Addr} {o : HO} : rem (rem (rem (upd H R o) h) L) R = rem (rem (rem H h) L) R := funext fun a => by
  by_cases q : a = R
  · subst q
    rw [rem_self, rem_self]
  · rw [rem_ne q, rem_ne q]
    by_cases q1 : a = L
    · subst q1
      rw [rem_self, rem_self]
    · rw [rem_ne q1, rem_ne q1]
      by_cases q2 : a = h
      · subst q2
        rw [rem_self, rem_self]
      · rw [rem_ne q2, rem_ne q2, upd_ne q]
theorem dp_W {K : PySem.W.Frag} {H : Hp} {h c L R : Addr} {ns : List Int} {xs ys : List V} {v : V} {d : PyData} (hh : HandOk H h c ns) (hL : H L = some (.lst xs)) (hR : H R = some (.lst ys)) (n1 : L ≠ h) (n2 : R ≠ h) (n3 : R ≠ L) (f : flat d = true) (hv : Dp K H v d) : Dp K (rem (rem (rem H h) L) R) v d :=
  dp_rem (o := .lst ys) (by rw [rem_ne n3, rem_ne n2]; exact hR) noTup_l _ _ f (dp_rem (o := .lst xs) (by rw [rem_ne n1]; exact hL) noTup_l _ _ f (hand_dp hh f hv))
theorem pos_congr {f : Nat → Rat} {p : Nat} {x : Rat} {u v : Nat → Rat} : ∀ t, (∀ k, k < t → u k = v k) → pos f p x u t = pos f p x v t
  | 0, _ => rfl
  | t + 1, h => by
    show f (p + t) * pos f p x u t + u t = f (p + t) * pos f p x v t + v t
    rw [pos_congr t fun k hk => h k (by omega), h t (by omega)]
theorem num_pos (x : Rat) : (0 < x.num) ↔ 0 < x := by
  have h0 : (0 ≤ x.num) ↔ (0 ≤ x) := Rat.num_nonneg
  have h1 : x.num = 0 ↔ x = 0 := Rat.num_eq_zero
  constructor
  · intro h
    have a := h0.mp (by omega)
    have b : x ≠ 0 := fun z => by have := h1.mpr z; omega
    grind
  · intro h
    have a := h0.mpr (Rat.le_of_lt h)
    have b : x.num ≠ 0 := fun z => by
      rw [h1.mp z] at h
      exact absurd h (by decide)
    omega
/-- what is pushed with a sign -/
def sgU (sg : Int) (q : Rat) : Rat := if sg = 0 then 0 else if sg = 1 then q else -q
theorem sgU_ok {sg : Int} {q : Rat} (h : sg = -1 ∨ sg = 0 ∨ sg = 1) (q0 : 0 < q) (qs : Sz 31 q) : Sz 31 (sgU sg q) ∧ absR (sgU sg q) ≤ q := by
  rcases h with rfl | rfl | rfl
  · show Sz 31 (-q) ∧ absR (-q) ≤ q
    rw [abs_neg, abs_of_nn (Rat.le_of_lt q0)]
    exact ⟨sz_neg qs, Rat.le_refl⟩
  · show Sz 31 0 ∧ absR 0 ≤ q
    rw [abs_zero]
    exact ⟨sz_zero.mono (by decide), Rat.le_of_lt q0⟩
  · show Sz 31 q ∧ absR q ≤ q
    rw [abs_of_nn (Rat.le_of_lt q0)]
    exact ⟨qs, Rat.le_refl⟩
theorem sgU_rat {sg : Int} {q : Rat} (h : sg = -1 ∨ sg = 1) : (.tuple [.int (sg * q.num), .int (q.den : Int)] : PyData) = ratR (sgU sg q) := by
  rcases h with rfl | rfl
  · show rat (-1 * q.num) (q.den : Int) = rat (-q).num ((-q).den : Int)
    rw [show (-q).num = -q.num from rfl, show (-q).den = q.den from rfl, Int.neg_mul, Int.one_mul]
  · show rat (1 * q.num) (q.den : Int) = rat q.num (q.den : Int)
    rw [Int.one_mul]
theorem neg_rat (q : Rat) : (.tuple [.int (-q.num), .int (q.den : Int)] : PyData) = ratR (-q) := rfl
theorem getD_mem0 {l : List Rat} {k : Nat} (h : k < l.length) : l.getD k 0 ∈ l := by simp [h]
theorem getD_sz {l : List Rat} (h : ∀ u ∈ l, Sz 31 u) (k : Nat) : Sz 31 (l.getD k 0) := by
  rw [List.getD_eq_getElem?_getD]
  cases e : l[k]? with
  | none => exact sz_zero.mono (by decide)
  | some u => exact h u (List.mem_of_getElem? e)
theorem good_unit {F : List (List Rat)} {p s : List Rat} (h : GoodP F p s) {m : Nat} {x y : Rat} (hx : 0 < x ∧ Sz 100 x) (hy : 0 ≤ y ∧ Sz 100 y) : GoodP F (p.set m x) (s.set m y) :=
  { f := h.f
    pl := by rw [List.length_set]; exact h.pl
    sl := by rw [List.length_set]; exact h.sl
    p0 := fun z hz => by
      rcases List.mem_or_eq_of_mem_set hz with hz | rfl
      · exact h.p0 z hz
      · exact hx
    s0 := fun z hz => by
      rcases List.mem_or_eq_of_mem_set hz with hz | rfl
      · exact h.s0 z hz
      · exact hy }
/-- one sign turned: the factors' sizes are kept -/
theorem fac_set {F : List (List Rat)} {m : Nat} (hm : m < F.length) {j : Nat} (ph : Nat) (hj : j = ph % (F.getD m []).length) (k : Nat) : fac (F.set m ((F.getD m []).set j (-fac F m ph))) m k = fac F m k ∨ fac (F.set m ((F.getD m []).set j (-fac F m ph))) m k = -fac F m k := by
  have e : (F.set m ((F.getD m []).set j (-fac F m ph))).getD m [] = (F.getD m []).set j (-fac F m ph) := by simp [hm]
  have f1 : fac (F.set m ((F.getD m []).set j (-fac F m ph))) m k = ((F.getD m []).set j (-fac F m ph)).getD (k % (F.getD m []).length) 0 := by
    show ((F.set m ((F.getD m []).set j (-fac F m ph))).getD m []).getD (k % ((F.set m ((F.getD m []).set j (-fac F m ph))).getD m []).length) 0 = _
    rw [e, List.length_set]
  rw [f1]
  have f2 : fac F m k = (F.getD m []).getD (k % (F.getD m []).length) 0 := rfl
  have f3 : fac F m ph = (F.getD m []).getD (ph % (F.getD m []).length) 0 := rfl
  rw [f2, f3, ← hj]
  generalize F.getD m [] = r at *
  generalize k % r.length = i
  by_cases q : j = i
  · subst q
    by_cases z : j < r.length
    · right; simp [z]
    · left; simp [List.getD_eq_getElem?_getD, z]
  · left
    simp [List.getD_eq_getElem?_getD, List.getElem?_set_ne q]
theorem z_and2 {ta tb : TE} {D : L2.Ends} {σ : L2.St} {H : Hp} {S : Hp → Prop} (h1 : ∀ Q : VK, (∀ H1, S H1 → Q (.bl true) H1) → ta σ H Q) (h2 : ∀ H1, S H1 → ∀ Q : VK, (∀ H2, Q (.bl true) H2) → tb σ H1 Q) (k : ∀ H2, D.rt (.bl true) H2) : tRet (tAndV ta tb) D σ H :=
  h1 _ fun H1 s => ⟨true, rfl, by rw [if_pos rfl]; exact h2 H1 s _ k⟩
theorem shape_rat (x : Rat) : SeqAt.shaped (ratR x) = true := rfl
section
variable {P' : Program} {w : World} {K : PySem.W.Frag} {mg : Str → Option Value} {base : Heap} {C CM CP CT CB CU CR CH : Addr}

abbrev s_law : Stmt := topS 52
abbrev N_law : List Str := ["script", "hand", "factors", "pushes", "starts", "plant", "mode", "line", "phase", "ticks", "carried", "gathered", "growth", "far", "early", "late", "parted", "half", "reach", "drawn", "best", "k", "sign", "later", "end", "begin", "unit"]
theorem sc_law : FnScope N_law ["script"] (defScope s_law) := ⟨rfl, rfl, rfl, by decide +kernel, rfl, by decide +kernel, by decide +kernel⟩

theorem ok_law {f : Addr} {fd : FuncData} (F' : Fun K "law" "law" s_law f fd) (T : Bl mg) (TC : ClsA K mg "Plant" C al)
    (D_law_hand : Def P' w K mg base CX0 1 "_law_hand" ["script"] (spHand K)) (D_law_draw : Def P' w K mg base CX0 2 "_law_draw" ["hand", "many"] spDraw) (D_law_plant_drawn : Def P' w K mg base CX0 4 "_law_plant_drawn" ["hand"] (spPlant K)) (D_Plant : MkP P' w K mg base C)
    (D_law_product : Def P' w K mg base CX0 3 "_law_product" ["line", "phase", "ticks"] (spD K 3 fProduct)) (D_law_gathered : Def P' w K mg base CX0 4 "_law_gathered" ["line", "push", "phase", "ticks"] (spD K 4 fLGath)) (D_law_played : Def P' w K mg base CX0 3 "_law_played" ["line", "phase", "ticks", "position", "pushes"] (spD K 5 fPlayed))
    (D_law_any_ratio : Def P' w K mg base CX0 3 "_law_any_ratio" ["hand"] (spHD K Any)) (D_law_size : Def P' w K mg base CX0 1 "_law_size" ["a"] (spD K 1 fSize)) (D_law_plus : Def P' w K mg base CX0 2 "_law_plus" ["a", "b"] (spD K 2 fPlusR)) (D_law_times : Def P' w K mg base CX0 2 "_law_times" ["a", "b"] (spD K 2 fTimesR))
    (D_law_less : Def P' w K mg base CX0 1 "_law_less" ["a", "b"] (spD K 2 fLessR)) (D_law_same : Def P' w K mg base CX0 2 "_law_same" ["told", "due"] (spD K 2 (fSame 2)))
    (D_carried : MethD P' w K mg base (L2.CX P' w) 5 C "carried" ["self", "mode", "phase", "ticks"] (spM K C al 3 (onF fCarried) (onG (gStretch CM CP CT)))) (D_growth : MethD P' w K mg base (L2.CX P' w) 6 C "growth" ["self", "mode", "phase", "ticks"] (spM K C al 3 (onF fGrowth) (onG (gStretch CM CP CT))))
    (D_gathered : MethD P' w K mg base (L2.CX P' w) 5 C "gathered" ["self", "mode", "phase", "ticks"] (spM K C al 3 (onF fGathered) (onG (gStretch CM CP CT))))
    (D_with_unit : MethD P' w K mg base (L2.CX P' w) 10 C "with_unit" ["self", "mode", "unit"] (spMO K C al 2 (onO fUnit) (onG (gUnit CM CU)))) (D_with_sign : MethD P' w K mg base (L2.CX P' w) 10 C "with_sign" ["self", "mode", "phase"] (spMO K C al 2 (onO fSign) (onG (gSign CM CP))))
    (D_law_refusals : Def P' w K mg base CX0 12 "_law_refusals" ["hand", "plant", "modes", "period"] (spRef K C)) (D_law_far : Def P' w K mg base CX0 10 "_law_far" ["hand"] (spFar K)) : FnG P' w K mg base CX0 14 f fd ["script"] (spLaw K) := by
  refine fun_okG F' sc_law (fun vs H Q E h => ?_) (fun cdv A hg outer s H vs Q E hr h => ?_)
  · obtain ⟨a, ns, rfl, _⟩ := h
    rfl
  · refine ⟨_, (pss_cons (ps_set (i := 1) sc_law.nd rfl (Or.inl rfl) (pe_dcall D_law_hand (hr.mono (by decide)) pass0 (pa_cons (pv 0) pa_nil)))
    (pss_cons (ps_asg (pe_dcall D_law_plant_drawn (hr.mono (by decide)) pass0 (pa_cons (pv 1) pa_nil)) (pg_tup rfl (pgs_cons (pg_name (i := 2) sc_law.nd rfl (Or.inl rfl)) (pgs_cons (pg_name (i := 3) sc_law.nd rfl (Or.inl rfl)) (pgs_cons (pg_name (i := 4) sc_law.nd rfl (Or.inl rfl)) pgs_nil)))) rfl)
    (pss_cons (ps_set (i := 5) sc_law.nd rfl (Or.inl rfl) (pe_mk D_Plant (hr.mono (by decide)) passL (pa_cons (pv 2) (pa_cons (pv 3) (pa_cons (pv 4) pa_nil)))))
    (pss_cons (ps_for PassesOwn.never rfl (pi_range1 rfl T.b_range (pa_cons (pe_callB call_len_seq (by rfl) T.b_len (by decide +kernel) (pa_cons (pv 2) pa_nil)) pa_nil)) (pg_name (i := 6) sc_law.nd rfl (Or.inl rfl)) (pss_cons (ps_set (i := 7) sc_law.nd rfl (Or.inl rfl) (pe_ix (r := rIxL K) ix_list (pv 2) (pv 6) (fun _ _ => rfl)))
    (pss_cons (ps_set (i := 8) sc_law.nd rfl (Or.inl rfl) (pe_dcall D_law_draw (hr.mono (by decide)) pass0 (pa_cons (pv 1) (pa_cons pe_int pa_nil))))
    (pss_cons (ps_set (i := 9) sc_law.nd rfl (Or.inl rfl) (pe_dcall D_law_draw (hr.mono (by decide)) pass0 (pa_cons (pv 1) (pa_cons pe_int pa_nil))))
    (pss_cons (ps_set (i := 10) sc_law.nd rfl (Or.inl rfl) (pe_dcall D_law_product (hr.mono (by decide)) pass0 (pa_cons (pv 7) (pa_cons (pv 8) (pa_cons (pv 9) pa_nil)))))
    (pss_cons (ps_set (i := 11) sc_law.nd rfl (Or.inl rfl) (pe_dcall D_law_gathered (hr.mono (by decide)) pass0 (pa_cons (pv 7) (pa_cons (pe_ix (r := rIxL K) ix_list (pv 3) (pv 6) (fun _ _ => rfl)) (pa_cons (pv 8) (pa_cons (pv 9) pa_nil))))))
    (pss_cons (ps_set (i := 12) sc_law.nd rfl (Or.inl rfl) (pe_dcall D_law_size (hr.mono (by decide)) pass0 (pa_cons (pv 10) pa_nil)))
    (pss_cons (ps_if (PW.pt (pw_or (pt_not (pt_val (pe_dcall D_law_same (hr.mono (by decide)) pass0 (pa_cons (pe_mcall (pv 5) D_carried TC.cl (hr.mono (by decide)) passN (pa_cons (pv 6) (pa_cons (pv 8) (pa_cons (pv 9) pa_nil)))) (pa_cons (pv 10) pa_nil))))) (pw_or1 (pt_not (pt_val (pe_dcall D_law_same (hr.mono (by decide)) pass0 (pa_cons (pe_mcall (pv 5) D_growth TC.cl (hr.mono (by decide)) passN (pa_cons (pv 6) (pa_cons (pv 8) (pa_cons (pv 9) pa_nil)))) (pa_cons (pv 12) pa_nil)))))))) (pss_one (ps_ret pe_bl)) pss_nil)
    (pss_cons (ps_set (i := 13) sc_law.nd rfl (Or.inl rfl) (pe_op op_add (pv 8) (pe_op op_mulW (pe_callB call_len_seq (by rfl) T.b_len (by decide +kernel) (pa_cons (pv 7) pa_nil)) (pe_op op_add pe_int (pe_dcall D_law_draw (hr.mono (by decide)) pass0 (pa_cons (pv 1) (pa_cons (pe_op op_pow pe_int pe_int) pa_nil)))))))
    (pss_cons (ps_if (PW.pt (pw_or (pt_not (pt_val (pe_dcall D_law_same (hr.mono (by decide)) pass0 (pa_cons (pe_mcall (pv 5) D_gathered TC.cl (hr.mono (by decide)) passN (pa_cons (pv 6) (pa_cons (pv 8) (pa_cons (pv 9) pa_nil)))) (pa_cons (pv 11) pa_nil))))) (pw_or (pt_not (pt_val (pe_dcall D_law_same (hr.mono (by decide)) pass0 (pa_cons (pe_mcall (pv 5) D_gathered TC.cl (hr.mono (by decide)) passN (pa_cons (pv 6) (pa_cons (pv 13) (pa_cons (pv 9) pa_nil)))) (pa_cons (pv 11) pa_nil))))) (pw_or1 (pt_not (pt_val (pe_dcall D_law_same (hr.mono (by decide)) pass0 (pa_cons (pe_mcall (pv 5) D_carried TC.cl (hr.mono (by decide)) passN (pa_cons (pv 6) (pa_cons (pv 13) (pa_cons (pv 9) pa_nil)))) (pa_cons (pv 10) pa_nil))))))))) (pss_one (ps_ret pe_bl)) pss_nil)
    (pss_cons (ps_for PassesOwn.never rfl (pi_range1 rfl T.b_range (pa_cons (pe_op op_add (pv 9) pe_int) pa_nil)) (pg_name (i := 14) sc_law.nd rfl (Or.inl rfl)) (pss_cons (ps_set (i := 15) sc_law.nd rfl (Or.inl rfl) (pe_mcall (pv 5) D_growth TC.cl (hr.mono (by decide)) passN (pa_cons (pv 6) (pa_cons (pe_op op_add (pv 8) (pv 14)) (pa_cons (pe_op op_sub (pv 9) (pv 14)) pa_nil)))))
    (pss_cons (ps_set (i := 16) sc_law.nd rfl (Or.inl rfl) (pe_dcall D_law_plus (hr.mono (by decide)) pass0 (pa_cons (pe_dcall D_law_times (hr.mono (by decide)) pass0 (pa_cons (pv 15) (pa_cons (pe_mcall (pv 5) D_gathered TC.cl (hr.mono (by decide)) passN (pa_cons (pv 6) (pa_cons (pv 8) (pa_cons (pv 14) pa_nil)))) pa_nil))) (pa_cons (pe_mcall (pv 5) D_gathered TC.cl (hr.mono (by decide)) passN (pa_cons (pv 6) (pa_cons (pe_op op_add (pv 8) (pv 14)) (pa_cons (pe_op op_sub (pv 9) (pv 14)) pa_nil)))) pa_nil))))
    (pss_one (ps_if (PW.pt (pw_or (pt_cmpR (op_neD hr.units) (pv 16) (pv 11) (nomark _)) (pw_or1 (pt_cmpR (op_neD hr.units) (pe_dcall D_law_times (hr.mono (by decide)) pass0 (pa_cons (pe_mcall (pv 5) D_carried TC.cl (hr.mono (by decide)) passN (pa_cons (pv 6) (pa_cons (pv 8) (pa_cons (pv 14) pa_nil)))) (pa_cons (pe_mcall (pv 5) D_carried TC.cl (hr.mono (by decide)) passN (pa_cons (pv 6) (pa_cons (pe_op op_add (pv 8) (pv 14)) (pa_cons (pe_op op_sub (pv 9) (pv 14)) pa_nil)))) pa_nil))) (pv 10) (nomark _))))) (pss_one (ps_ret pe_bl)) pss_nil)))))
    (pss_cons (ps_set (i := 17) sc_law.nd rfl (Or.inl rfl) (pe_ix (r := rIxL K) ix_list (pv 4) (pv 6) (fun _ _ => rfl)))
    (pss_cons (ps_set (i := 18) sc_law.nd rfl (Or.inl rfl) (pe_dcall D_law_plus (hr.mono (by decide)) pass0 (pa_cons (pe_dcall D_law_times (hr.mono (by decide)) pass0 (pa_cons (pv 12) (pa_cons (pv 17) pa_nil))) (pa_cons (pv 11) pa_nil))))
    (pss_cons (ps_set (i := 19) sc_law.nd rfl (Or.inl rfl) (pe_lst pa_nil))
    (pss_cons (ps_set (i := 20) sc_law.nd rfl (Or.inl rfl) (pe_lst pa_nil))
    (pss_cons (ps_for PassesOwn.never rfl (pi_range1 rfl T.b_range (pa_cons (pv 9) pa_nil)) (pg_name (i := 21) sc_law.nd rfl (Or.inl rfl)) (pss_cons (ps_set (i := 22) sc_law.nd rfl (Or.inl rfl) (pe_ix (r := rIxT K) ix_tup (pe_tup (pa_cons (pe_un un_neg pe_int) (pa_cons pe_int (pa_cons pe_int pa_nil)))) (pe_dcall D_law_draw (hr.mono (by decide)) pass0 (pa_cons (pv 1) (pa_cons pe_int pa_nil))) (fun _ _ => rfl)))
    (pss_cons (ps_expr (pe_bm PySem.F.plainAttrs_list PySem.F.slot_list_append PySem.F.type_list_append mt_append (pv 19) (pa_cons (pe_ifExp (pt_cmpR op_ne (pv 22) pe_int (nomark _)) (pe_tup (pa_cons (pe_op op_mulW (pv 22) (pe_ix (r := rIxT K) ix_tup (pe_ix (r := rIxL K) ix_list (pv 3) (pv 6) (fun _ _ => rfl)) pe_int (fun _ _ => rfl))) (pa_cons (pe_ix (r := rIxT K) ix_tup (pe_ix (r := rIxL K) ix_list (pv 3) (pv 6) (fun _ _ => rfl)) pe_int (fun _ _ => rfl)) pa_nil))) (pe_tup (pa_cons pe_int (pa_cons pe_int pa_nil)))) pa_nil)))
    (pss_cons (ps_set (i := 23) sc_law.nd rfl (Or.inl rfl) (pe_dcall D_law_product (hr.mono (by decide)) pass0 (pa_cons (pv 7) (pa_cons (pe_op op_add (pe_op op_add (pv 8) (pv 21)) pe_int) (pa_cons (pe_op op_sub (pe_op op_sub (pv 9) (pv 21)) pe_int) pa_nil)))))
    (pss_one (ps_expr (pe_bm PySem.F.plainAttrs_list PySem.F.slot_list_append PySem.F.type_list_append mt_append (pv 20) (pa_cons (pe_ifExp (pt_cmpR op_gt (pe_ix (r := rIxT K) ix_tup (pv 23) pe_int (fun _ _ => rfl)) pe_int (nomark _)) (pe_ix (r := rIxL K) ix_list (pv 3) (pv 6) (fun _ _ => rfl)) (pe_tup (pa_cons (pe_un un_neg (pe_ix (r := rIxT K) ix_tup (pe_ix (r := rIxL K) ix_list (pv 3) (pv 6) (fun _ _ => rfl)) pe_int (fun _ _ => rfl))) (pa_cons (pe_ix (r := rIxT K) ix_tup (pe_ix (r := rIxL K) ix_list (pv 3) (pv 6) (fun _ _ => rfl)) pe_int (fun _ _ => rfl)) pa_nil)))) pa_nil))))))))
    (pss_cons (ps_set (i := 24) sc_law.nd rfl (Or.inl rfl) (pe_dcall D_law_played (hr.mono (by decide)) pass0 (pa_cons (pv 7) (pa_cons (pv 8) (pa_cons (pv 9) (pa_cons (pv 17) (pa_cons (pv 19) pa_nil)))))))
    (pss_cons (ps_set (i := 25) sc_law.nd rfl (Or.inl rfl) (pe_ifExp (pt_cmpR op_gt (pe_ix (r := rIxT K) ix_tup (pv 10) pe_int (fun _ _ => rfl)) pe_int (nomark _)) (pv 17) (pe_tup (pa_cons (pe_un un_neg (pe_ix (r := rIxT K) ix_tup (pv 17) pe_int (fun _ _ => rfl))) (pa_cons (pe_ix (r := rIxT K) ix_tup (pv 17) pe_int (fun _ _ => rfl)) pa_nil)))))
    (pss_cons (ps_if (PW.pt (pw_or (pt_val (pe_dcall D_law_less (hr.mono (by decide)) pass0 (pa_cons (pv 18) (pa_cons (pe_dcall D_law_size (hr.mono (by decide)) pass0 (pa_cons (pv 24) pa_nil)) pa_nil)))) (pw_or1 (pt_cmpR (op_neD hr.units) (pe_dcall D_law_played (hr.mono (by decide)) pass0 (pa_cons (pv 7) (pa_cons (pv 8) (pa_cons (pv 9) (pa_cons (pv 25) (pa_cons (pv 20) pa_nil)))))) (pv 18) (nomark _))))) (pss_one (ps_ret pe_bl)) pss_nil)
    (pss_cons (ps_set (i := 26) sc_law.nd rfl (Or.inl rfl) (pe_dcall D_law_size (hr.mono (by decide)) pass0 (pa_cons (pe_dcall D_law_any_ratio (hr.mono (by decide)) pass0 (pa_cons (pv 1) pa_nil)) pa_nil)))
    (pss_one (ps_if (PW.pt (pw_or (pt_cmpR (op_neD hr.units) (pe_dcall D_law_times (hr.mono (by decide)) pass0 (pa_cons (pv 26) (pa_cons (pv 11) pa_nil))) (pe_mcall (pe_mcall (pv 5) D_with_unit TC.cl (hr.mono (by decide)) passN (pa_cons (pv 6) (pa_cons (pv 26) pa_nil))) D_gathered TC.cl (hr.mono (by decide)) passN (pa_cons (pv 6) (pa_cons (pv 8) (pa_cons (pv 9) pa_nil)))) (nomark _)) (pw_or1 (pt_cmpR (op_neD hr.units) (pe_mcall (pe_mcall (pv 5) D_with_sign TC.cl (hr.mono (by decide)) passN (pa_cons (pv 6) (pa_cons (pv 8) pa_nil))) D_growth TC.cl (hr.mono (by decide)) passN (pa_cons (pv 6) (pa_cons (pv 8) (pa_cons (pv 9) pa_nil)))) (pv 12) (nomark _))))) (pss_one (ps_ret pe_bl)) pss_nil))))))))))))))))))))))
    (pss_one (ps_ret (pe_and (pe_dcall D_law_refusals (hr.mono (by decide)) pass0 (pa_cons (pv 1) (pa_cons (pv 5) (pa_cons (pe_callB call_len_seq (by rfl) T.b_len (by decide +kernel) (pa_cons (pv 2) pa_nil)) (pa_cons (pe_callB call_len_seq (by rfl) T.b_len (by decide +kernel) (pa_cons (pe_ix (r := rIxL K) ix_list (pv 2) pe_int (fun _ _ => rfl)) pa_nil)) pa_nil))))) (pe_one (pe_dcall D_law_far (hr.mono (by decide)) pass0 (pa_cons (pv 1) pa_nil)))))))))), ?_⟩
    obtain ⟨a, ns, rfl, hS, hl, k⟩ := h
    refine ⟨_, rfl, a, ns, rfl, hS, hl, fun H1 hd c ms sm nh nc hh1 => ?_⟩
    refine z_go ?_
    refine z_proj ?_
    refine z_three (K := K) (D := _) (H := H1) (σ := [some (.ref a), some (.ref hd), none, none, none, none, none, none, none, none, none, none, none, none, none, none, none, none, none, none, none, none, none, none, none, none, none]) (S := fun v H' => ∃ F p s, HandOk H' hd c ms ∧ GoodD F p s ∧ Dp K (rem H' hd) v (.tuple [facD false false F, rowD false p, rowD false s])) ?h1 ?h2 ?h3
    case h3 => rfl
    case h1 =>
      intro Q q
      exact ⟨_, rfl, hd, c, ms, rfl, hh1, fun v F p s H' hh _ gd hv => q v H' ⟨F, p, s, hh, gd, hv⟩⟩
    rintro v H2 ⟨F, p, s, hh2, gd, hv⟩
    refine ⟨rem H2 hd, _, _, _, rem_ex, hv, fun v_f v_p v_s h_f h_p h_s => ?_⟩
    have st2 : StB hd c ms (rem H2 hd) H2 := ⟨hh2, Ex.refl _⟩
    refine zo_set (K := K) (D := _) (σ := [some (.ref a), some (.ref hd), some v_f, some v_p, some v_s, none, none, none, none, none, none, none, none, none, none, none, none, none, none, none, none, none, none, none, none, none, none]) (o_make (ds_cons (d_var ⟨_, rfl, dp_grow st2.all _ _ h_f⟩) (ds_cons (d_var ⟨_, rfl, dp_grow st2.all _ _ h_p⟩) (ds_cons (d_var ⟨_, rfl, dp_grow st2.all _ _ h_s⟩) ds_nil))) rfl ⟨false, false, false, false, F, p, s, rfl, gd.g, rfl⟩) fun x H3 x3 hx => ?_
    have st3 : StB hd c ms (rem H3 hd) H3 := ⟨hand_grow x3 hh2, Ex.refl _⟩
    have hx0 : Has K (rem H3 hd) x C al (plantF F p s) := has_hand st3.hh (flat_plant F p s) hx
    replace h_f := dp_grow (ex_rem x3) _ _ h_f
    replace h_p := dp_grow (ex_rem x3) _ _ h_p
    replace h_s := dp_grow (ex_rem x3) _ _ h_s
    generalize hB : rem H3 hd = B at st3 hx0 h_f h_p h_s
    have gp := gd.g
    obtain ⟨_, c1, c4⟩ := row_len gp.f (m := 0) gp.f.lo
    have fl3 := gp.f.hi
    refine hz_forE (K := K) (D := _) (H := H3) (n := F.length) (σ := [some (.ref a), some (.ref hd), some v_f, some v_p, some v_s, some (.ref x), none, none, none, none, none, none, none, none, none, none, none, none, none, none, none, none, none, none, none, none, none]) (ds_cons (d_is (d_lenL (d_var ⟨_, rfl, dp_grow st3.all _ _ h_f⟩)) (by rw [List.length_map])) ds_nil) (by omega) (fun i σ' H' => ∃ o0 o1 o2 o3 o4 o5 o6 o7 o8 o9 o10 o11 o12 o13 o14 o15 o16 o17 o18 o19 o20, σ' = [some (.ref a), some (.ref hd), some v_f, some v_p, some v_s, some (.ref x), o0, o1, o2, o3, o4, o5, o6, o7, o8, o9, o10, o11, o12, o13, o14, o15, o16, o17, o18, o19, o20] ∧ StB hd c ms B H') (fun H' e => ⟨none, none, none, none, none, none, none, none, none, none, none, none, none, none, none, none, none, none, none, none, none, rfl, st3.grow e⟩) ?_ ?_
    · rintro m σ' H' D' hm ⟨o0, o1, o2, o3, o4, o5, o6, o7, o8, o9, o10, o11, o12, o13, o14, o15, o16, o17, o18, o19, o20, rfl, sB⟩ kk
      have row := gd.row _ (row_mem hm)
      have em : (F.map (rowD false))[m]? = some (rowD false (F.getD m [])) := by simp [hm]
      refine z_ixB (K := K) (D := _) (σ := [some (.ref a), some (.ref hd), some v_f, some v_p, some v_s, some (.ref x), some (.int (m : Int)), o1, o2, o3, o4, o5, o6, o7, o8, o9, o10, o11, o12, o13, o14, o15, o16, o17, o18, o19, o20]) sB.all rfl h_f rfl em fun v_l h_l => ?_
      have hpm : p.getD m 0 ∈ p := by
        have : m < p.length := by rw [gp.pl]; exact hm
        simp [this]
      have hsm : s.getD m 0 ∈ s := by
        have : m < s.length := by rw [gp.sl]; exact hm
        simp [this]
      have fe : fac F m = cyc (F.getD m []) := rfl
      generalize hr_ : F.getD m [] = r at row h_l fe
      obtain ⟨pu0, _⟩ := gp.p0 _ hpm
      have pu1 := gd.p1 _ hpm
      obtain ⟨ha0, _⟩ := gp.s0 _ hsm
      have ha1 := gd.s1 _ hsm
      refine bz_int (D := _) (σ := [some (.ref a), some (.ref hd), some v_f, some v_p, some v_s, some (.ref x), some (.int (m : Int)), some v_l, o2, o3, o4, o5, o6, o7, o8, o9, o10, o11, o12, o13, o14, o15, o16, o17, o18, o19, o20]) (P := fun i => 0 ≤ i ∧ i < 9) sB (i_draw rfl (by decide) (by decide) (fun i p q => ⟨p, q⟩)) fun phi H1' s1 pph => ?_
      obtain ⟨ph, rfl⟩ := Int.eq_ofNat_of_zero_le pph.1
      refine bz_int (D := _) (σ := [some (.ref a), some (.ref hd), some v_f, some v_p, some v_s, some (.ref x), some (.int (m : Int)), some v_l, some (.int (ph : Int)), o3, o4, o5, o6, o7, o8, o9, o10, o11, o12, o13, o14, o15, o16, o17, o18, o19, o20]) (P := fun i => 0 ≤ i ∧ i < 7) s1 (i_draw rfl (by decide) (by decide) (fun i p q => ⟨p, q⟩)) fun ti H2' s2 pt => ?_
      obtain ⟨t, rfl⟩ := Int.eq_ofNat_of_zero_le pt.1
      have t6 : t ≤ 6 := by omega
      obtain ⟨gz, pz⟩ := G_sz row t6 ph
      refine bz_flat (K := K) (D := _) (d := ratR (P (cyc r) ph t)) (σ := [some (.ref a), some (.ref hd), some v_f, some v_p, some v_s, some (.ref x), some (.int (m : Int)), some v_l, some (.int (ph : Int)), some (.int (t : Int)), o4, o5, o6, o7, o8, o9, o10, o11, o12, o13, o14, o15, o16, o17, o18, o19, o20]) s2 (fun H e => d_call (ds_cons (d_var (d := rowD false r) ⟨_, rfl, dp_grow e _ _ h_l⟩) (ds_cons (d_var (d := .int (ph : Int)) ⟨_, rfl, .int _⟩) (ds_cons (d_var (d := .int (t : Int)) ⟨_, rfl, .int _⟩) ds_nil))) rfl ⟨r, ph, t, rfl, row, t6, rfl⟩) rfl fun v_c H3' B1 s3 b1 h_c => ?_
      have pat : ∀ {σ : L2.St} {H : Hp}, Ex B H → σ[3]? = some (some v_p) → σ[6]? = some (some (.int (m : Int))) → EvD K (tOp (rIxL K) (tVar 3) (tVar 6)) σ H (ratR (p.getD m 0)) := fun e q1 q2 => d_ixL (ds := p.map ratR) (d_var ⟨_, q1, dp_grow e _ _ h_p⟩) (d_var (d := .int (m : Int)) ⟨_, q2, .int _⟩) (at_map _ 0 (by rw [gp.pl]; exact hm))
      refine bz_flat (K := K) (D := _) (d := ratR (p.getD m 0 * G (cyc r) ph t)) (σ := [some (.ref a), some (.ref hd), some v_f, some v_p, some v_s, some (.ref x), some (.int (m : Int)), some v_l, some (.int (ph : Int)), some (.int (t : Int)), some v_c, o5, o6, o7, o8, o9, o10, o11, o12, o13, o14, o15, o16, o17, o18, o19, o20]) s3 (fun H e => d_call (ds_cons (d_var (d := rowD false r) ⟨_, rfl, dp_grow (b1.trans e) _ _ h_l⟩) (ds_cons (pat (b1.trans e) rfl rfl) (ds_cons (d_var (d := .int (ph : Int)) ⟨_, rfl, .int _⟩) (ds_cons (d_var (d := .int (t : Int)) ⟨_, rfl, .int _⟩) ds_nil)))) rfl ⟨r, _, ph, t, rfl, row, pu1, t6, rfl⟩) rfl fun v_g H4' B2 s4 b2 h_g => ?_
      refine bz_flat (K := K) (D := _) (d := ratR (absR (P (cyc r) ph t))) (σ := [some (.ref a), some (.ref hd), some v_f, some v_p, some v_s, some (.ref x), some (.int (m : Int)), some v_l, some (.int (ph : Int)), some (.int (t : Int)), some v_c, some v_g, o6, o7, o8, o9, o10, o11, o12, o13, o14, o15, o16, o17, o18, o19, o20]) s4 (fun H e => d_call (ds_cons (d_var ⟨_, rfl, dp_grow (b2.trans e) _ _ h_c⟩) ds_nil) rfl ⟨_, _, rfl, (abs_ratR _).symm⟩) rfl fun v_w H5' B3 s5 b3 h_w => ?_
      have bb := (b1.trans b2).trans b3
      replace h_c := dp_grow (b2.trans b3) _ _ h_c
      replace h_g := dp_grow b3 _ _ h_g
      have hx3 := has_grow bb hx0
      have h_l3 := dp_grow bb _ _ h_l
      have n1 : (("carried" : Str)) ∉ al := by decide +kernel
      have n2 : (("growth" : Str)) ∉ al := by decide +kernel
      have n3 : (("gathered" : Str)) ∉ al := by decide +kernel
      have ft : ∀ t', t' ≤ 6 → Fits (fac F m) t' := fun t' h => by rw [fe]; exact fitsR row h
      have car : ∀ {σ : L2.St} {H : Hp} {td tt : TE} {ph' t' : Nat} {E : L2.St → XK}, Ex B3 H → σ[5]? = some (some (.ref x)) → σ[6]? = some (some (.int (m : Int))) → EvD K td σ H (.int (ph' : Int)) → EvD K tt σ H (.int (t' : Int)) → t' ≤ 6 → EvD K (tMethX C "carried" (spM K C al 3 (onF fCarried) (onG (gStretch CM CP CT))) E (tVar 5) (tCons (tVar 6) (tCons td (tCons tt tNil)))) σ H (ratR (P (cyc r) ph' t')) :=
        fun e q1 q2 e1 e2 h => d_meth (o_var q1 (has_grow e hx3)) n1 (ds_cons (d_var (d := .int (m : Int)) ⟨_, q2, .int _⟩) (ds_cons e1 (ds_cons e2 ds_nil))) rfl ⟨F, p, s, gp, rfl, m, _, _, ⟨rfl, hm, by omega⟩, ft _ h, by rw [fe]⟩
      have gro : ∀ {σ : L2.St} {H : Hp} {td tt : TE} {ph' t' : Nat} {E : L2.St → XK}, Ex B3 H → σ[5]? = some (some (.ref x)) → σ[6]? = some (some (.int (m : Int))) → EvD K td σ H (.int (ph' : Int)) → EvD K tt σ H (.int (t' : Int)) → t' ≤ 6 → EvD K (tMethX C "growth" (spM K C al 3 (onF fGrowth) (onG (gStretch CM CP CT))) E (tVar 5) (tCons (tVar 6) (tCons td (tCons tt tNil)))) σ H (ratR (absR (P (cyc r) ph' t'))) :=
        fun e q1 q2 e1 e2 h => d_meth (o_var q1 (has_grow e hx3)) n2 (ds_cons (d_var (d := .int (m : Int)) ⟨_, q2, .int _⟩) (ds_cons e1 (ds_cons e2 ds_nil))) rfl ⟨F, p, s, gp, rfl, m, _, _, ⟨rfl, hm, by omega⟩, ft _ h, by rw [fe]⟩
      have gat : ∀ {σ : L2.St} {H : Hp} {td tt : TE} {ph' t' : Nat} {E : L2.St → XK}, Ex B3 H → σ[5]? = some (some (.ref x)) → σ[6]? = some (some (.int (m : Int))) → EvD K td σ H (.int (ph' : Int)) → EvD K tt σ H (.int (t' : Int)) → t' ≤ 6 → EvD K (tMethX C "gathered" (spM K C al 3 (onF fGathered) (onG (gStretch CM CP CT))) E (tVar 5) (tCons (tVar 6) (tCons td (tCons tt tNil)))) σ H (ratR (p.getD m 0 * G (cyc r) ph' t')) :=
        fun e q1 q2 e1 e2 h => d_meth (o_var q1 (has_grow e hx3)) n3 (ds_cons (d_var (d := .int (m : Int)) ⟨_, q2, .int _⟩) (ds_cons e1 (ds_cons e2 ds_nil))) rfl ⟨F, p, s, gp, rfl, m, _, _, ⟨rfl, hm, by omega⟩, ft _ h, by rw [fe, Rat.mul_comm]⟩
      have vph : ∀ {σ : L2.St} {H : Hp}, σ[8]? = some (some (.int (ph : Int))) → EvD K (tVar 8) σ H (.int (ph : Int)) := fun q => d_var ⟨_, q, .int _⟩
      have vt : ∀ {σ : L2.St} {H : Hp}, σ[9]? = some (some (.int (t : Int))) → EvD K (tVar 9) σ H (.int (t : Int)) := fun q => d_var ⟨_, q, .int _⟩
      refine z_if (σ := [some (.ref a), some (.ref hd), some v_f, some v_p, some v_s, some (.ref x), some (.int (m : Int)), some v_l, some (.int (ph : Int)), some (.int (t : Int)), some v_c, some v_g, some v_w, o7, o8, o9, o10, o11, o12, o13, o14, o15, o16, o17, o18, o19, o20]) (b_nor (b_same rfl (car s5.all rfl rfl (vph rfl) (vt rfl) t6) (d_var (d := ratR (P (cyc r) ph t)) ⟨_, rfl, dp_grow s5.all _ _ h_c⟩)) (b_same rfl (gro s5.all rfl rfl (vph rfl) (vt rfl) t6) (d_var (d := ratR (absR (P (cyc r) ph t))) ⟨_, rfl, dp_grow s5.all _ _ h_w⟩))) (fun z => by cases z) fun _ H6' e6 => ?_
      refine z_nx ?_
      have s6 := s5.grow e6
      have rl := row.hi
      refine bz_x (D := _) (P := fun i => ∃ q : Nat, i = ((ph + r.length * q : Nat) : Int)) (σ := [some (.ref a), some (.ref hd), some v_f, some v_p, some v_s, some (.ref x), some (.int (m : Int)), some v_l, some (.int (ph : Int)), some (.int (t : Int)), some v_c, some v_g, some v_w, o7, o8, o9, o10, o11, o12, o13, o14, o15, o16, o17, o18, o19, o20]) s6 (x_add (P := fun i => ∃ q : Nat, i = ((r.length * q : Nat) : Int)) (vph rfl) (x_mul (a := (r.length : Int)) (P := fun i => 1 ≤ i ∧ i ≤ 10 ^ 9) (d_is (d_lenL (d_var (d := rowD false r) ⟨_, rfl, dp_grow s6.all _ _ h_l3⟩)) (by rw [List.length_map])) (x_of (i_add (i_c (P := fun i => i = 1) rfl) (i_drawE (Pm := fun i => i = 10 ^ 9) (P := fun i => 0 ≤ i ∧ i < 10 ^ 9) rfl (i_ofD (K := K) (n := 10 ^ 9) fun H => d_is (d_pow (i := 10) (j := 9) d_int d_int ⟨by decide, by decide, by decide⟩) rfl) (fun n q => by subst q; exact ⟨by decide, by decide⟩) (fun n i q q1 q2 => ⟨q1, by omega⟩)) (fun i j p q => by omega))) (fun i q => wide_mul (a := 4) (b := 31) (by omega) (by omega) (by decide) (by decide) (by decide)) (fun i q => ⟨i.toNat, by rw [Int.natCast_mul, show ((i.toNat : Nat) : Int) = i from by omega]⟩)) (fun i q => by obtain ⟨q, rfl⟩ := q; exact ⟨q, by rw [Int.natCast_add]⟩)) fun fa H7' s7 pfa => ?_
      obtain ⟨q, rfl⟩ := pfa
      have Pq : P (cyc r) (ph + r.length * q) t = P (cyc r) ph t := P_shift (cyc_shift r ph q) t
      have Gq : G (cyc r) (ph + r.length * q) t = G (cyc r) ph t := G_shift (cyc_shift r ph q) t
      have vfa : ∀ {H : Hp}, EvD K (tVar 13) [some (.ref a), some (.ref hd), some v_f, some v_p, some v_s, some (.ref x), some (.int (m : Int)), some v_l, some (.int (ph : Int)), some (.int (t : Int)), some v_c, some v_g, some v_w, some (.int ((ph + r.length * q : Nat) : Int)), o8, o9, o10, o11, o12, o13, o14, o15, o16, o17, o18, o19, o20] H (.int ((ph + r.length * q : Nat) : Int)) := d_var ⟨_, rfl, .int _⟩
      refine z_if (σ := [some (.ref a), some (.ref hd), some v_f, some v_p, some v_s, some (.ref x), some (.int (m : Int)), some v_l, some (.int (ph : Int)), some (.int (t : Int)), some v_c, some v_g, some v_w, some (.int ((ph + r.length * q : Nat) : Int)), o8, o9, o10, o11, o12, o13, o14, o15, o16, o17, o18, o19, o20]) (b_nor (b_same rfl (gat s7.all rfl rfl (vph rfl) (vt rfl) t6) (d_var (d := ratR (p.getD m 0 * G (cyc r) ph t)) ⟨_, rfl, dp_grow s7.all _ _ h_g⟩)) (b_nor (b_same rfl (d_is (gat s7.all rfl rfl vfa (vt rfl) t6) (by rw [Gq])) (d_var (d := ratR (p.getD m 0 * G (cyc r) ph t)) ⟨_, rfl, dp_grow s7.all _ _ h_g⟩)) (b_same rfl (d_is (car s7.all rfl rfl vfa (vt rfl) t6) (by rw [Pq])) (d_var (d := ratR (P (cyc r) ph t)) ⟨_, rfl, dp_grow s7.all _ _ h_c⟩)))) (fun z => by cases z) fun _ H8' e8 => ?_
      refine z_nx ?_
      have s8 := s7.grow e8
      refine z_forN (K := K) (D := _) (H := H8') (n := (t : Int) + 1) (σ := [some (.ref a), some (.ref hd), some v_f, some v_p, some v_s, some (.ref x), some (.int (m : Int)), some v_l, some (.int (ph : Int)), some (.int (t : Int)), some v_c, some v_g, some v_w, some (.int ((ph + r.length * q : Nat) : Int)), o8, o9, o10, o11, o12, o13, o14, o15, o16, o17, o18, o19, o20]) (ds_cons (d_add (vt rfl) d_int) ds_nil) (by omega) (by omega) (fun i σ' H' => ∃ w1 w2 w3, σ' = [some (.ref a), some (.ref hd), some v_f, some v_p, some v_s, some (.ref x), some (.int (m : Int)), some v_l, some (.int (ph : Int)), some (.int (t : Int)), some v_c, some v_g, some v_w, some (.int ((ph + r.length * q : Nat) : Int)), w1, w2, w3, o11, o12, o13, o14, o15, o16, o17, o18, o19, o20]) (fun H' e => ⟨_, _, _, rfl⟩) ?_ ?_
      · rintro i σ' H' D'' hi e ⟨w1, w2, w3, rfl⟩ kk
        have it : i ≤ t := by omega
        have xe := s8.all.trans e
        have a1 : (ph : Int) + (i : Int) = ((ph + i : Nat) : Int) := by omega
        have a2 : (t : Int) - (i : Int) = ((t - i : Nat) : Int) := by omega
        have vi : ∀ {σ : L2.St} {H : Hp}, σ[14]? = some (some (.int (i : Int))) → EvD K (tVar 14) σ H (.int (i : Int)) := fun q => d_var ⟨_, q, .int _⟩
        have p1 : ∀ {σ : L2.St} {H : Hp}, σ[8]? = some (some (.int (ph : Int))) → σ[14]? = some (some (.int (i : Int))) → EvD K (tOp (rI0 fun i j => .int (i + j)) (tVar 8) (tVar 14)) σ H (.int ((ph + i : Nat) : Int)) := fun q q' => d_is (d_add (vph q) (vi q')) (congrArg PyData.int a1)
        have p2 : ∀ {σ : L2.St} {H : Hp}, σ[9]? = some (some (.int (t : Int))) → σ[14]? = some (some (.int (i : Int))) → EvD K (tOp (rI0 fun i j => .int (i - j)) (tVar 9) (tVar 14)) σ H (.int ((t - i : Nat) : Int)) := fun q q' => d_is (d_sub (vt q) (vi q')) (congrArg PyData.int a2)
        obtain ⟨gz1, pz1⟩ := G_sz row (t := i) (by omega) ph
        obtain ⟨gz2, pz2⟩ := G_sz row (t := t - i) (by omega) (ph + i)
        have eG : absR (P (cyc r) (ph + i) (t - i)) * (p.getD m 0 * G (cyc r) ph i) + p.getD m 0 * G (cyc r) (ph + i) (t - i) = p.getD m 0 * G (cyc r) ph t := by
          have := G_add (f := cyc r) (p := ph) i (t - i)
          rw [show i + (t - i) = t from by omega] at this
          rw [this]
          grind
        have eP : P (cyc r) ph i * P (cyc r) (ph + i) (t - i) = P (cyc r) ph t := by
          have := P_add (f := cyc r) (p := ph) i (t - i)
          rw [show i + (t - i) = t from by omega] at this
          exact this.symm
        refine z_set (K := K) (σ := [some (.ref a), some (.ref hd), some v_f, some v_p, some v_s, some (.ref x), some (.int (m : Int)), some v_l, some (.int (ph : Int)), some (.int (t : Int)), some v_c, some v_g, some v_w, some (.int ((ph + r.length * q : Nat) : Int)), some (.int (i : Int)), w2, w3, o11, o12, o13, o14, o15, o16, o17, o18, o19, o20]) (gro xe rfl rfl (p1 rfl rfl) (p2 rfl rfl) (by omega)) fun v_la Ha xa h_la => ?_
        have xa' := xe.trans xa
        refine z_set (K := K) (σ := [some (.ref a), some (.ref hd), some v_f, some v_p, some v_s, some (.ref x), some (.int (m : Int)), some v_l, some (.int (ph : Int)), some (.int (t : Int)), some v_c, some v_g, some v_w, some (.int ((ph + r.length * q : Nat) : Int)), some (.int (i : Int)), some v_la, w3, o11, o12, o13, o14, o15, o16, o17, o18, o19, o20]) (d_call (ds_cons (d_call (ds_cons (d_var ⟨_, rfl, h_la⟩) (ds_cons (gat xa' rfl rfl (vph rfl) (vi rfl) (by omega)) ds_nil)) rfl ⟨_, _, rfl, (abs_sz pz2).mono (by decide), (sz_mul pu1 gz1).mono (by decide), rfl⟩) (ds_cons (gat xa' rfl rfl (p1 rfl rfl) (p2 rfl rfl) (by omega)) ds_nil)) rfl ⟨_, _, rfl, (sz_mul (abs_sz pz2) (sz_mul pu1 gz1)).mono (by decide), (sz_mul pu1 gz2).mono (by decide), rfl⟩) fun v_pa Hb xb h_pa => ?_
        rw [eG] at h_pa
        have xb' := xa'.trans xb
        refine z_if1 (b := false) (σ := [some (.ref a), some (.ref hd), some v_f, some v_p, some v_s, some (.ref x), some (.int (m : Int)), some v_l, some (.int (ph : Int)), some (.int (t : Int)), some v_c, some v_g, some v_w, some (.int ((ph + r.length * q : Nat) : Int)), some (.int (i : Int)), some v_la, some v_pa, o11, o12, o13, o14, o15, o16, o17, o18, o19, o20]) (b_nor (b_ne (d_var (d := ratR (p.getD m 0 * G (cyc r) ph t)) ⟨_, rfl, h_pa⟩) (d_var ⟨_, rfl, dp_grow xb' _ _ h_g⟩) rfl) (b_ne (d_is (d_call (ds_cons (car xb' rfl rfl (vph rfl) (vi rfl) (by omega)) (ds_cons (car xb' rfl rfl (p1 rfl rfl) (p2 rfl rfl) (by omega)) ds_nil)) rfl ⟨_, _, rfl, pz1.mono (by decide), pz2.mono (by decide), rfl⟩) (by rw [eP])) (d_var (d := ratR (P (cyc r) ph t)) ⟨_, rfl, dp_grow xb' _ _ h_c⟩) rfl)) (fun z => by cases z) fun _ Hc xc => ?_
        exact kk _ _ ((xa.trans xb).trans xc) ⟨_, _, _, rfl⟩
      rintro σ' H9' e9 ⟨w1, w2, w3, rfl⟩
      have s9 := s8.grow e9
      refine bz_flat (K := K) (D := _) (d := ratR (s.getD m 0)) (σ := [some (.ref a), some (.ref hd), some v_f, some v_p, some v_s, some (.ref x), some (.int (m : Int)), some v_l, some (.int (ph : Int)), some (.int (t : Int)), some v_c, some v_g, some v_w, some (.int ((ph + r.length * q : Nat) : Int)), w1, w2, w3, o11, o12, o13, o14, o15, o16, o17, o18, o19, o20]) s9 (fun H e => d_ixL (ds := s.map ratR) (d_var ⟨_, rfl, dp_grow (bb.trans e) _ _ h_s⟩) (d_var (d := .int (m : Int)) ⟨_, rfl, .int _⟩) (at_map _ 0 (by rw [gp.sl]; exact hm))) rfl fun v_h H10' B4 s10 b4 h_h => ?_
      refine bz_flat (K := K) (D := _) (d := ratR (absR (P (cyc r) ph t) * s.getD m 0 + p.getD m 0 * G (cyc r) ph t)) (σ := [some (.ref a), some (.ref hd), some v_f, some v_p, some v_s, some (.ref x), some (.int (m : Int)), some v_l, some (.int (ph : Int)), some (.int (t : Int)), some v_c, some v_g, some v_w, some (.int ((ph + r.length * q : Nat) : Int)), w1, w2, w3, some v_h, o12, o13, o14, o15, o16, o17, o18, o19, o20]) s10 (fun H e => d_call (ds_cons (d_call (ds_cons (d_var ⟨_, rfl, dp_grow (b4.trans e) _ _ h_w⟩) (ds_cons (d_var ⟨_, rfl, dp_grow e _ _ h_h⟩) ds_nil)) rfl ⟨_, _, rfl, (abs_sz pz).mono (by decide), ha1.mono (by decide), rfl⟩) (ds_cons (d_var ⟨_, rfl, dp_grow (b4.trans e) _ _ h_g⟩) ds_nil)) rfl ⟨_, _, rfl, (sz_mul (abs_sz pz) ha1).mono (by decide), (sz_mul pu1 gz).mono (by decide), rfl⟩) rfl fun v_r H11' B5 s11 b5 h_r => ?_
      have b35 := b4.trans b5
      have bb5 := bb.trans b35
      replace h_h := dp_grow b5 _ _ h_h
      replace h_c := dp_grow b35 _ _ h_c
      replace h_g := dp_grow b35 _ _ h_g
      replace h_w := dp_grow b35 _ _ h_w
      replace h_l3 := dp_grow b35 _ _ h_l3
      have hx5 := has_grow b35 hx3
      refine z_nil (D := _) (σ := [some (.ref a), some (.ref hd), some v_f, some v_p, some v_s, some (.ref x), some (.int (m : Int)), some v_l, some (.int (ph : Int)), some (.int (t : Int)), some v_c, some v_g, some v_w, some (.int ((ph + r.length * q : Nat) : Int)), w1, w2, w3, some v_h, some v_r, o13, o14, o15, o16, o17, o18, o19, o20]) fun L hL => ?_
      obtain ⟨nL, nLc⟩ := hand_ne s11.hh hL
      have nL5 := none_back s11.all hL
      have hh12 := hand_new (o := .lst []) s11.hh hL
      refine z_nil (D := _) (σ := [some (.ref a), some (.ref hd), some v_f, some v_p, some v_s, some (.ref x), some (.int (m : Int)), some v_l, some (.int (ph : Int)), some (.int (t : Int)), some v_c, some v_g, some v_w, some (.int ((ph + r.length * q : Nat) : Int)), w1, w2, w3, some v_h, some v_r, some (.ref L), o14, o15, o16, o17, o18, o19, o20]) fun R hR => ?_
      have nRL : R ≠ L := fun e => by
        rw [e, upd_same] at hR
        cases hR
      obtain ⟨nR, nRc⟩ := hand_ne hh12 hR
      have hh13 := hand_new (o := .lst []) hh12 hR
      rw [upd_ne nRL] at hR
      have nR5 := none_back s11.all hR
      have W0 : Ex B5 (rem (rem (rem (upd (upd H11' L (.lst [])) R (.lst [])) hd) L) R) := by
        rw [rem_upd3, rem_upd2]
        exact ex_fresh (ex_fresh s11.ex nL5) nR5
      have hL0 : (upd (upd H11' L (.lst [])) R (.lst [])) L = some (.lst []) := by rw [upd_ne (Ne.symm nRL), upd_same]
      refine hz_forE (K := K) (D := _) (n := t) (σ := [some (.ref a), some (.ref hd), some v_f, some v_p, some v_s, some (.ref x), some (.int (m : Int)), some v_l, some (.int (ph : Int)), some (.int (t : Int)), some v_c, some v_g, some v_w, some (.int ((ph + r.length * q : Nat) : Int)), w1, w2, w3, some v_h, some v_r, some (.ref L), some (.ref R), o15, o16, o17, o18, o19, o20]) (ds_cons (vt rfl) ds_nil) (by omega) (fun i σ' H' => ∃ (u1 u2 u3 : Option V) (xs ys : List V) (us : List Rat), σ' = [some (.ref a), some (.ref hd), some v_f, some v_p, some v_s, some (.ref x), some (.int (m : Int)), some v_l, some (.int (ph : Int)), some (.int (t : Int)), some v_c, some v_g, some v_w, some (.int ((ph + r.length * q : Nat) : Int)), w1, w2, w3, some v_h, some v_r, some (.ref L), some (.ref R), u1, u2, u3, o18, o19, o20] ∧ HandOk H' hd c ms ∧ H' L = some (.lst xs) ∧ H' R = some (.lst ys) ∧ Ex B5 (rem (rem (rem H' hd) L) R) ∧ DpAll K (rem (rem (rem H' hd) L) R) xs (us.map ratR) ∧
        DpAll K (rem (rem (rem H' hd) L) R) ys ((List.range i).map fun k => ratR (bestU (p.getD m 0) (cyc r) ph t k)) ∧ us.length = i ∧ ∀ u ∈ us, Sz 31 u ∧ absR u ≤ p.getD m 0)
        (fun H' e => ⟨_, _, _, [], [], [], rfl, hand_grow e hh13, e _ _ hL0, e _ _ upd_same, W0.trans (ex_rem (ex_rem (ex_rem e))), .nil, .nil, rfl, fun u h => by cases h⟩) ?_ ?_
      · rintro i σ' Hk D'' hi ⟨u1, u2, u3, xs, ys, us, rfl, hhk, hLk, hRk, xk, hax, hay, hul, hus⟩ kk2
        have xl : xs.length = i := by rw [dps_len hax, List.length_map, hul]
        have yl : ys.length = i := by rw [dps_len hay, List.length_map, List.length_range]
        refine hz_set (D := _) (σ := [some (.ref a), some (.ref hd), some v_f, some v_p, some v_s, some (.ref x), some (.int (m : Int)), some v_l, some (.int (ph : Int)), some (.int (t : Int)), some v_c, some v_g, some v_w, some (.int ((ph + r.length * q : Nat) : Int)), w1, w2, w3, some v_h, some v_r, some (.ref L), some (.ref R), some (.int (i : Int)), u2, u3, o18, o19, o20]) (P := fun i => i = -1 ∨ i = 0 ∨ i = 1) hhk (i_menu (is := [-1, 0, 1]) (P1 := fun i => 0 ≤ i ∧ i < 3) (fun H => d_tup (ds_cons (d_neg d_int) (ds_cons d_int (ds_cons d_int ds_nil))) (by show 3 ≤ 1000; decide)) (i_draw rfl (by decide) (by decide) (fun i p q => ⟨p, q⟩)) (fun i p => p) (fun i hi => by simpa using hi)) fun sg Ha hha xa psg => ?_
        have hLa := keep_at xa nL hLk
        have hRa := keep_at xa nR hRk
        have wa := xk.trans (ex_rem (ex_rem xa))
        have ga := wa.trans (rem_ex.trans (rem_ex.trans rem_ex))
        obtain ⟨su1, su2⟩ := sgU_ok psg pu0 pu1
        refine z_append (K := K) (D := _) (σ := [some (.ref a), some (.ref hd), some v_f, some v_p, some v_s, some (.ref x), some (.int (m : Int)), some v_l, some (.int (ph : Int)), some (.int (t : Int)), some v_c, some v_g, some v_w, some (.int ((ph + r.length * q : Nat) : Int)), w1, w2, w3, some v_h, some v_r, some (.ref L), some (.ref R), some (.int (i : Int)), some (.int sg), u3, o18, o19, o20]) (d := ratR (sgU sg (p.getD m 0))) rfl hLa (by omega) (d_if (b := decide (sg ≠ 0)) (b_test (K := K) (d_neI (d_var (d := .int sg) ⟨_, rfl, .int _⟩) d_int)) (fun cd => d_is (d_tup (ds_cons (d_mul (d_var (d := .int sg) ⟨_, rfl, .int _⟩) (d_ixT (pat (bb5.trans ga) rfl rfl) d_int rfl) (wide_mul (a := 3) (by omega) pu1.1 (by decide) (by decide) (by decide))) (ds_cons (d_ixT (pat (bb5.trans ga) rfl rfl) d_int rfl) ds_nil)) (by show 2 ≤ 1000; decide)) (sgU_rat (by
            have : sg ≠ 0 := by simpa using cd
            omega))) (fun cd => d_is (d_tup (ds_cons d_int (ds_cons d_int ds_nil)) (by show 2 ≤ 1000; decide)) (by
            have : sg = 0 := by simpa using cd
            rw [this]; rfl))) fun v1 Hb xb hv1 => ?_
        have hhb := hand_grow xb hha
        have wb := wa.trans (ex_rem (ex_rem (ex_rem xb)))
        have hv1' := dp_W hhb (xb _ _ hLa) (xb _ _ hRa) nL nR nRL rfl hv1
        have hax' := dps_grow ((ex_rem (ex_rem xa)).trans (ex_rem (ex_rem (ex_rem xb)))) _ _ hax
        have hay' := dps_grow ((ex_rem (ex_rem xa)).trans (ex_rem (ex_rem (ex_rem xb)))) _ _ hay
        have hRb : (upd Hb L (.lst (xs ++ [v1]))) R = some (.lst ys) := by rw [upd_ne nRL]; exact xb _ _ hRa
        have hLb : (upd Hb L (.lst (xs ++ [v1]))) L = some (.lst (xs ++ [v1])) := upd_same
        have hhc := hand_upd (o := .lst (xs ++ [v1])) hhb (Ne.symm nL) (Ne.symm nLc)
        have eW : rem (rem (rem (upd Hb L (.lst (xs ++ [v1]))) hd) L) R = rem (rem (rem Hb hd) L) R := by rw [rem_upd2]
        rw [← eW] at wb hv1' hax' hay'
        generalize upd Hb L (.lst (xs ++ [v1])) = Hc at hRb hLb hhc wb hv1' hax' hay'
        have gc := wb.trans (rem_ex.trans (rem_ex.trans rem_ex))
        have a1 : (ph : Int) + (i : Int) + 1 = ((ph + i + 1 : Nat) : Int) := by omega
        have a2 : (t : Int) - (i : Int) - 1 = ((t - i - 1 : Nat) : Int) := by omega
        have vi : ∀ {σ : L2.St} {H : Hp}, σ[21]? = some (some (.int (i : Int))) → EvD K (tVar 21) σ H (.int (i : Int)) := fun q => d_var ⟨_, q, .int _⟩
        refine z_set (K := K) (D := _) (σ := [some (.ref a), some (.ref hd), some v_f, some v_p, some v_s, some (.ref x), some (.int (m : Int)), some v_l, some (.int (ph : Int)), some (.int (t : Int)), some v_c, some v_g, some v_w, some (.int ((ph + r.length * q : Nat) : Int)), w1, w2, w3, some v_h, some v_r, some (.ref L), some (.ref R), some (.int (i : Int)), some (.int sg), u3, o18, o19, o20]) (d_call (ds_cons (d_var (d := rowD false r) ⟨_, rfl, dp_grow gc _ _ h_l3⟩) (ds_cons (d_is (d_add (d_add (vph rfl) (vi rfl)) d_int) (congrArg PyData.int a1)) (ds_cons (d_is (d_sub (d_sub (vt rfl) (vi rfl)) d_int) (congrArg PyData.int a2)) ds_nil))) rfl ⟨r, _, _, rfl, row, by omega, rfl⟩) fun v_la Hd xd h_la => ?_
        have gd' := gc.trans xd
        refine z_append1 (K := K) (σ := [some (.ref a), some (.ref hd), some v_f, some v_p, some v_s, some (.ref x), some (.int (m : Int)), some v_l, some (.int (ph : Int)), some (.int (t : Int)), some v_c, some v_g, some v_w, some (.int ((ph + r.length * q : Nat) : Int)), w1, w2, w3, some v_h, some v_r, some (.ref L), some (.ref R), some (.int (i : Int)), some (.int sg), some v_la, o18, o19, o20]) (d := ratR (bestU (p.getD m 0) (cyc r) ph t i)) rfl (xd _ _ hRb) (by omega) (d_if (b_test (d_gt (d_ixT (d_var (d := ratR (P (cyc r) (ph + i + 1) (t - i - 1))) ⟨_, rfl, h_la⟩) d_int rfl) d_int)) (fun cd => d_is (pat (bb5.trans gd') rfl rfl) (by
            have : 0 < P (cyc r) (ph + i + 1) (t - i - 1) := (num_pos _).mp (of_decide_eq_true cd)
            unfold bestU
            rw [if_pos this])) (fun cd => d_is (d_tup (ds_cons (d_neg (d_ixT (pat (bb5.trans gd') rfl rfl) d_int rfl)) (ds_cons (d_ixT (pat (bb5.trans gd') rfl rfl) d_int rfl) ds_nil)) (by show 2 ≤ 1000; decide)) (by
            have : ¬ 0 < P (cyc r) (ph + i + 1) (t - i - 1) := fun z => (of_decide_eq_false cd) ((num_pos _).mpr z)
            unfold bestU
            rw [if_neg this]; rfl))) fun v2 He xe hv2 => ?_
        have xde := xd.trans xe
        have hhe := hand_grow xde hhc
        have hv2' := dp_W hhe (xde _ _ hLb) (xde _ _ hRb) nL nR nRL rfl hv2
        have we := ex_rem (L := R) (ex_rem (L := L) (ex_rem (L := hd) xde))
        refine kk2 _ _ ⟨_, _, _, xs ++ [v1], ys ++ [v2], us ++ [sgU sg (p.getD m 0)], rfl, hand_upd hhe (Ne.symm nR) (Ne.symm nRc), by rw [upd_ne (Ne.symm nRL)]; exact xde _ _ hLb, upd_same, ?_, ?_, ?_, ?_, ?_⟩
        · rw [rem_upd3]; exact wb.trans we
        · rw [rem_upd3, List.map_append]
          exact dps_app (dps_grow we _ _ hax') (.cons (dp_grow we _ _ hv1') .nil)
        · rw [rem_upd3, List.range_succ, List.map_append]
          exact dps_app (dps_grow we _ _ hay') (.cons hv2' .nil)
        · rw [List.length_append, hul]; rfl
        · intro u hu
          rcases List.mem_append.mp hu with hu | hu
          · exact hus u hu
          · rw [List.mem_singleton.mp hu]; exact ⟨su1, su2⟩
      rintro σ' Hf ⟨u1, u2, u3, xs, ys, us, rfl, hhf, hLf, hRf, xf, hax, hay, hul, hus⟩
      have sf : StB hd c ms (rem Hf hd) Hf := ⟨hhf, Ex.refl _⟩
      have x56 : Ex B5 (rem Hf hd) := xf.trans (rem_ex.trans rem_ex)
      have hD : Dp K (rem Hf hd) (.ref L) (rowD false us) := .lst (SqL.of (by rw [rem_ne nL]; exact hLf)) (dps_grow (rem_ex.trans rem_ex) _ _ hax)
      have hE : Dp K (rem Hf hd) (.ref R) (rowD false ((List.range t).map fun k => bestU (p.getD m 0) (cyc r) ph t k)) := by
        refine .lst (SqL.of (by rw [rem_ne nR]; exact hRf)) ?_
        rw [List.map_map]
        exact dps_grow (rem_ex.trans rem_ex) _ _ hay
      have bsl : ((List.range t).map fun k => bestU (p.getD m 0) (cyc r) ph t k).length = t := by rw [List.length_map, List.length_range]
      have bsm : ∀ u ∈ ((List.range t).map fun k => bestU (p.getD m 0) (cyc r) ph t k), Sz 31 u := fun u hu => by
        obtain ⟨k, _, rfl⟩ := List.mem_map.mp hu
        show Sz 31 (bestU _ _ _ _ _)
        unfold bestU
        split
        · exact pu1
        · exact sz_neg pu1
      have bsk : ∀ k, k < t → ((List.range t).map fun k => bestU (p.getD m 0) (cyc r) ph t k).getD k 0 = bestU (p.getD m 0) (cyc r) ph t k := fun k hk => by simp [hk]
      generalize ((List.range t).map fun k => bestU (p.getD m 0) (cyc r) ph t k) = bs at hE bsl bsm bsk
      generalize rem Hf hd = B6 at sf x56 hD hE
      replace h_h := dp_grow x56 _ _ h_h
      replace h_c := dp_grow x56 _ _ h_c
      replace h_g := dp_grow x56 _ _ h_g
      replace h_w := dp_grow x56 _ _ h_w
      replace h_r := dp_grow x56 _ _ h_r
      replace h_l3 := dp_grow x56 _ _ h_l3
      have hx6 := has_grow x56 hx5
      have bb6 := bb5.trans x56
      refine bz_flat (K := K) (D := _) (d := ratR (pos (cyc r) ph (s.getD m 0) (fun k => us.getD k 0) t)) (σ := [some (.ref a), some (.ref hd), some v_f, some v_p, some v_s, some (.ref x), some (.int (m : Int)), some v_l, some (.int (ph : Int)), some (.int (t : Int)), some v_c, some v_g, some v_w, some (.int ((ph + r.length * q : Nat) : Int)), w1, w2, w3, some v_h, some v_r, some (.ref L), some (.ref R), u1, u2, u3, o18, o19, o20]) sf (fun H e => d_call (ds_cons (d_var (d := rowD false r) ⟨_, rfl, dp_grow e _ _ h_l3⟩) (ds_cons (vph rfl) (ds_cons (vt rfl) (ds_cons (d_var ⟨_, rfl, dp_grow e _ _ h_h⟩) (ds_cons (d_var (d := rowD false us) ⟨_, rfl, dp_grow e _ _ hD⟩) ds_nil))))) rfl ⟨r, us, _, ph, t, rfl, row, ha1, t6, hul, fun u h => (hus u h).1, rfl⟩) rfl fun v_e Hg B7 s7' b7 h_e => ?_
      refine bz_flat (K := K) (D := _) (d := ratR (bestX (s.getD m 0) (cyc r) ph t)) (σ := [some (.ref a), some (.ref hd), some v_f, some v_p, some v_s, some (.ref x), some (.int (m : Int)), some v_l, some (.int (ph : Int)), some (.int (t : Int)), some v_c, some v_g, some v_w, some (.int ((ph + r.length * q : Nat) : Int)), w1, w2, w3, some v_h, some v_r, some (.ref L), some (.ref R), u1, u2, u3, some v_e, o19, o20]) s7' (fun H e => d_if (b_test (K := K) (d_gt (d_ixT (d_var (d := ratR (P (cyc r) ph t)) ⟨_, rfl, dp_grow (b7.trans e) _ _ h_c⟩) d_int rfl) d_int)) (fun cd => d_is (d_var (d := ratR (s.getD m 0)) ⟨_, rfl, dp_grow (b7.trans e) _ _ h_h⟩) (by
          unfold bestX
          rw [if_pos ((num_pos _).mp (of_decide_eq_true cd))])) (fun cd => d_is (d_tup (ds_cons (d_neg (d_ixT (d_var (d := ratR (s.getD m 0)) ⟨_, rfl, dp_grow (b7.trans e) _ _ h_h⟩) d_int rfl)) (ds_cons (d_ixT (d_var (d := ratR (s.getD m 0)) ⟨_, rfl, dp_grow (b7.trans e) _ _ h_h⟩) d_int rfl) ds_nil)) (by show 2 ≤ 1000; decide)) (by
          unfold bestX
          rw [if_neg (fun z => (of_decide_eq_false cd) ((num_pos _).mpr z))]
          rfl))) rfl fun v_b Hh B8 s8' b8 h_b => ?_
      have b68 := b7.trans b8
      have bx1 : Sz 31 (bestX (s.getD m 0) (cyc r) ph t) := by
        unfold bestX
        split
        · exact ha1
        · exact sz_neg ha1
      have endle : ¬ (absR (P (cyc r) ph t) * s.getD m 0 + p.getD m 0 * G (cyc r) ph t < absR (pos (cyc r) ph (s.getD m 0) (fun k => us.getD k 0) t)) := by
        have := pos_le (f := cyc r) (p := ph) (x := s.getD m 0) (push := p.getD m 0) (half := s.getD m 0) (u := fun k => us.getD k 0) t (by rw [abs_of_nn ha0]; exact Rat.le_refl) (fun k hk => (hus _ (getD_mem0 (by omega))).2)
        exact Rat.not_lt.mpr this
      have eqEnd : pos (cyc r) ph (bestX (s.getD m 0) (cyc r) ph t) (fun k => bs.getD k 0) t = absR (P (cyc r) ph t) * s.getD m 0 + p.getD m 0 * G (cyc r) ph t := by
        rw [pos_congr t bsk, pos_end]
      have psz := pos_sz row ha1 (getD_sz fun u h => (hus u h).1) ph t
      refine z_if (b := false) (D := _) (σ := [some (.ref a), some (.ref hd), some v_f, some v_p, some v_s, some (.ref x), some (.int (m : Int)), some v_l, some (.int (ph : Int)), some (.int (t : Int)), some v_c, some v_g, some v_w, some (.int ((ph + r.length * q : Nat) : Int)), w1, w2, w3, some v_h, some v_r, some (.ref L), some (.ref R), u1, u2, u3, some v_e, some v_b, o20]) (b_nor (b_val (d_is (d_call (ds_cons (d_var ⟨_, rfl, dp_grow (b68.trans s8'.all) _ _ h_r⟩) (ds_cons (d_call (ds_cons (d_var (d := ratR (pos (cyc r) ph (s.getD m 0) (fun k => us.getD k 0) t)) ⟨_, rfl, dp_grow (b8.trans s8'.all) _ _ h_e⟩) ds_nil) rfl ⟨_, _, rfl, (abs_ratR _).symm⟩) ds_nil)) rfl ⟨_, _, rfl, (sz_add (sz_mul (abs_sz pz) ha1) (sz_mul pu1 gz)).mono (by decide), (abs_sz psz).mono (by show _ ≤ 1500; omega), rfl⟩) (congrArg PyData.bool (decide_eq_false endle)))) (b_ne (d_is (d_call (ds_cons (d_var (d := rowD false r) ⟨_, rfl, dp_grow (b68.trans s8'.all) _ _ h_l3⟩) (ds_cons (vph rfl) (ds_cons (vt rfl) (ds_cons (d_var ⟨_, rfl, dp_grow s8'.all _ _ h_b⟩) (ds_cons (d_var (d := rowD false bs) ⟨_, rfl, dp_grow (b68.trans s8'.all) _ _ hE⟩) ds_nil))))) rfl ⟨r, bs, _, ph, t, rfl, row, bx1, t6, bsl, bsm, rfl⟩) (by rw [eqEnd])) (d_var ⟨_, rfl, dp_grow (b68.trans s8'.all) _ _ h_r⟩) rfl)) (fun z => by cases z) fun _ Hi xi => ?_
      refine z_nx ?_
      have s9' := s8'.grow xi
      refine bz_data (K := K) (D := _) (P := fun d => ∃ x : Rat, d = ratR x ∧ 0 < x ∧ Sz 31 x) (σ := [some (.ref a), some (.ref hd), some v_f, some v_p, some v_s, some (.ref x), some (.int (m : Int)), some v_l, some (.int (ph : Int)), some (.int (t : Int)), some v_c, some v_g, some v_w, some (.int ((ph + r.length * q : Nat) : Int)), w1, w2, w3, some v_h, some v_r, some (.ref L), some (.ref R), u1, u2, u3, some v_e, some v_b, o20]) s9' (eh_call1 (g := sizeD) (eh_hand rfl) (fun d hd => size_any hd)) fun v_u d Hj B9 sA b9 h_u fl pu => ?_
      obtain ⟨u, rfl, u0, su⟩ := pu
      have b69 := b68.trans b9
      have hx9 := has_grow b69 hx6
      have xj := b69.trans sA.all
      have fl1 : (F.getD m []).length = r.length := by rw [hr_]
      have l00 : (F.getD 0 []).length = r.length := by rw [← fl1]; exact (row_len gp.f hm).1.symm
      have gU : GoodP F (p.set m (p.getD m 0 * u)) (s.set m (s.getD m 0 * u)) := good_unit gp ⟨Rat.mul_pos pu0 u0, (sz_mul pu1 su).mono (by decide)⟩ ⟨Rat.mul_nonneg ha0 (Rat.le_of_lt u0), (sz_mul ha1 su).mono (by decide)⟩
      have gS : GoodP (F.set m ((F.getD m []).set (ph % (F.getD 0 []).length) (-fac F m ph))) p s := good_set gp hm _ (fac_ok gp.f hm ph)
      have fS := fac_set hm (j := ph % (F.getD 0 []).length) ph (by rw [l00, fl1])
      have setp : (p.set m (p.getD m 0 * u)).getD m 0 = p.getD m 0 * u := by
        have : m < p.length := by rw [gp.pl]; exact hm
        simp [this]
      have lenS : m < (F.set m ((F.getD m []).set (ph % (F.getD 0 []).length) (-fac F m ph))).length := by rw [List.length_set]; exact hm
      generalize hFS : F.set m ((F.getD m []).set (ph % (F.getD 0 []).length) (-fac F m ph)) = FS at gS fS lenS
      have ftS : Fits (fac FS m) t := by
        obtain ⟨M, u1, u2⟩ := ft t t6
        refine ⟨M, fun k => ?_, u2⟩
        rcases fS k with e | e
        · rw [e]; exact u1 k
        · rw [e]
          show (-(fac F m k).num).natAbs ≤ M ∧ (fac F m k).den ≤ M
          rw [Int.natAbs_neg]
          exact u1 k
      have absS : absR (P (fac FS m) ph t) = absR (P (cyc r) ph t) := by
        rw [P_abs, P_abs]
        congr 1
        funext k
        rw [← fe]
        rcases fS k with e | e
        · rw [e]
        · rw [e, abs_neg]
      have n4 : (("with_unit" : Str)) ∉ al := by decide +kernel
      have n5 : (("with_sign" : Str)) ∉ al := by decide +kernel
      have args : ∀ {H : Hp}, EvDs K (tCons (tVar 6) (tCons (tVar 8) (tCons (tVar 9) tNil))) [some (.ref a), some (.ref hd), some v_f, some v_p, some v_s, some (.ref x), some (.int (m : Int)), some v_l, some (.int (ph : Int)), some (.int (t : Int)), some v_c, some v_g, some v_w, some (.int ((ph + r.length * q : Nat) : Int)), w1, w2, w3, some v_h, some v_r, some (.ref L), some (.ref R), u1, u2, u3, some v_e, some v_b, some v_u] H [.int (m : Int), .int (ph : Int), .int (t : Int)] := ds_cons (d_var (d := .int (m : Int)) ⟨_, rfl, .int _⟩) (ds_cons (vph rfl) (ds_cons (vt rfl) ds_nil))
      have hxj := has_grow sA.all hx9
      refine z_if1 (b := false) (σ := [some (.ref a), some (.ref hd), some v_f, some v_p, some v_s, some (.ref x), some (.int (m : Int)), some v_l, some (.int (ph : Int)), some (.int (t : Int)), some v_c, some v_g, some v_w, some (.int ((ph + r.length * q : Nat) : Int)), w1, w2, w3, some v_h, some v_r, some (.ref L), some (.ref R), u1, u2, u3, some v_e, some v_b, some v_u]) (b_nor (b_ne (d_is (d_call (ds_cons (d_var ⟨_, rfl, dp_grow sA.all _ _ h_u⟩) (ds_cons (d_var ⟨_, rfl, dp_grow xj _ _ h_g⟩) ds_nil)) rfl ⟨u, p.getD m 0 * G (cyc r) ph t, rfl, su.mono (by decide), (sz_mul pu1 gz).mono (by decide), rfl⟩) (show ratR (u * (p.getD m 0 * G (cyc r) ph t)) = ratR (G (cyc r) ph t * (p.getD m 0 * u)) from by congr 1; grind)) (d_is (d_meth (o_meth (o_var rfl hxj) n4 (ds_cons (d_var (d := .int (m : Int)) ⟨_, rfl, .int _⟩) (ds_cons (d_var ⟨_, rfl, dp_grow sA.all _ _ h_u⟩) ds_nil)) rfl ⟨F, p, s, gp, rfl, m, u, rfl, hm, u0, su.mono (by decide), gU, rfl⟩) n3 args rfl ⟨F, _, _, gU, rfl, m, ph, t, ⟨rfl, hm, by omega⟩, ft t t6, rfl⟩) (by rw [fe, setp])) rfl)
        (b_ne (d_is (d_meth (o_meth (o_var rfl hxj) n5 (ds_cons (d_var (d := .int (m : Int)) ⟨_, rfl, .int _⟩) (ds_cons (vph rfl) ds_nil)) rfl ⟨F, p, s, gp, rfl, m, ph, rfl, hm, by rw [hFS]⟩) n2 args rfl ⟨FS, p, s, gS, rfl, m, ph, t, ⟨rfl, lenS, by omega⟩, ftS, rfl⟩) (by rw [absS])) (d_var (d := ratR (absR (P (cyc r) ph t))) ⟨_, rfl, dp_grow xj _ _ h_w⟩) rfl)) (fun z => by cases z) fun _ Hk xk => ?_
      exact kk _ _ ⟨_, _, _, _, _, _, _, _, _, _, _, _, _, _, _, _, _, _, _, _, _, rfl, ⟨hand_grow xk sA.hh, ((bb6.trans b69).trans sA.ex).trans (ex_rem xk)⟩⟩
    rintro σ' Hz ⟨o0, o1, o2, o3, o4, o5, o6, o7, o8, o9, o10, o11, o12, o13, o14, o15, o16, o17, o18, o19, o20, rfl, sz⟩
    refine z_and2 (S := fun H1 => HandOk H1 hd c ms) ?_ ?_ k
    · intro Q q
      refine ⟨_, rfl, _, rfl, (ds_cons (d_is (d_lenL (d_var (d := facD false false F) ⟨_, rfl, dp_grow sz.all _ _ h_f⟩)) (congrArg PyData.int (congrArg Int.ofNat (List.length_map ..)))) (ds_cons (d_is (d_lenL (d_ixL (ds := F.map (rowD false)) (d := rowD false (F.getD 0 [])) (d_var ⟨_, rfl, dp_grow sz.all _ _ h_f⟩) d_int (at_map (i := 0) (rowD false) [] gp.f.lo))) (congrArg PyData.int (congrArg Int.ofNat (List.length_map ..)))) ds_nil)) Hz (Ex.refl Hz) _ fun vs H1 x1 hv => ?_⟩
      obtain ⟨va, ws, rfl, d1, hv⟩ := dps_cons hv
      obtain ⟨vb, ws, rfl, d2, hv⟩ := dps_cons hv
      obtain rfl := dps_nil hv
      cases d1
      cases d2
      have s1 := sz.grow x1
      exact ⟨hd, c, x, ms, F, p, s, rfl, s1.hh, has_hand s1.hh (flat_plant F p s) (has_grow s1.all hx0), gp, fun H' hh' _ => q H' hh'⟩
    · intro H1 hh Q q
      exact ⟨_, rfl, hd, c, ms, rfl, hh, fun H' _ _ => q H'⟩
end
end K03
namespace HH
open PySem L2 K03
open He (ga ma frG frG_in frG_at FnD DefD SaysE obsE valE eqO eqO_ok ba refV)
def fnNames : List Str := (["is_whole", "is_ratio", "make_ratio", "_lowest", "times", "negative", "size_of", "is_sequence", "check_phase", "check_ticks", "turned_row", "repeated_row", "_check_factors", "_check_lengths", "_law_mix", "_law_hand", "_law_draw", "_law_ratio", "_law_plus", "_law_times"] : List PySem.Str) ++ (["_law_less", "_law_size", "_law_whole", "_law_same", "_law_any_ratio", "_law_plant_drawn", "_law_product", "_law_gathered", "_law_played", "_law_word", "_law_other", "_law_refusals", "_law_far", "law"] : List PySem.Str)
def freeNames : List Str := (["int", "abs", "len", "range", "isinstance", "any", "all", "bool", "str", "tuple", "list", "enumerate", "max", "min", "repr", "sorted", "zip", "sum", "set", "reversed"] : List PySem.Str)
def fnOk (K : PySem.W.Frag) (x : Str) : Bool := eqO (PySem.W.nsIn K mainGlobals x) (some (some (.ref (ga K x)))) && PySem.W.keepIn K (.ref (ga K x))
abbrev veL : List Value := [.type "ValueError", .type "Exception", .type "BaseException", .type "object"]
/-- what is asked of an exception class right under HeldError, in one look -/
def coreB (K : PySem.W.Frag) (C H : Addr) : Bool := match K.lookup C with
  | some ⟨.type "type", _, .cls cd, sl⟩ => (match sl.toList with
    | [_, _, _, _, some (.builtin n), _] => n == "ValueError.__new__"
    | _ => false) && (cd.mro == .ref C :: .ref H :: veL) && cd.hasDict && !cd.hasDel
  | _ => false
theorem core_ok {K : PySem.W.Frag} {C H : Addr} (h : coreB K C H = true) : ∃ nm q N bs sn sub ab col dd k0 k1 k2 k3 k5, K.lookup C = some (excClassObj nm q C N bs (.ref H :: veL) true sn sub ab col dd k0 k1 k2 k3 k5 "ValueError.__new__") := by
  unfold coreB at h
  split at h
  · rename_i dd cd sl hK
    simp only [Bool.and_eq_true, beq_iff_eq, Bool.not_eq_true'] at h
    obtain ⟨⟨⟨hs, hm⟩, hd⟩, hdel⟩ := h
    split at hs
    · rename_i k0 k1 k2 k3 n k5 hsl
      rw [beq_iff_eq] at hs
      subst hs
      obtain ⟨nm, bs, mro, ns, qn, hdc, sn, sub, ab, col, del⟩ := cd
      dsimp only at hm hd hdel
      subst hm hd hdel
      have e : sl = #[k0, k1, k2, k3, some (.builtin "ValueError.__new__"), k5] := by
        obtain ⟨l⟩ := sl
        exact congrArg Array.mk hsl
      subst e
      exact ⟨nm, qn, ns, bs, sn, sub, ab, col, dd, k0, k1, k2, k3, k5, hK⟩
    · cases hs
  · cases h
def oexB (K : PySem.W.Frag) (C H : Addr) : Bool := coreB K C H && (decide (PySem.W.findIn K (.ref C) "__setattr__" = some (some (.builtin "object.__setattr__"))) && (decide (PySem.W.subIn K (.ref C) (.type "BaseException") = some true) && (decide (PySem.W.typeIn K (.ref C) = some (.type "type")) && PySem.W.keepIn K (.ref C))))
theorem oex_ok {K : PySem.W.Frag} {C H : Addr} (h : oexB K C H = true) : OexC K C := by
  obtain ⟨h1, h⟩ := ba h
  obtain ⟨h2, h⟩ := ba h
  obtain ⟨h3, h⟩ := ba h
  obtain ⟨h4, h5⟩ := ba h
  obtain ⟨nm, q, N, bs, sn, sub, ab, col, dd, k0, k1, k2, k3, k5, hK⟩ := core_ok h1
  exact ⟨⟨nm, q, N, bs, .ref H :: veL, sn, sub, ab, col, dd, k0, k1, k2, k3, k5, hK, by rfl⟩, of_decide_eq_true h2, of_decide_eq_true h3, of_decide_eq_true h4, h5⟩
def initOk (K : PySem.W.Frag) (x : Str) : Bool :=
  eqO (PySem.W.findIn K (.ref (ga K x)) "__init__") (some (some (.ref (ma K (ga K x) "__init__")))) && (decide (PySem.W.typeIn K (.ref (ma K (ga K x) "__init__")) = some (.type "function")) && PySem.W.keepIn K (.ref (ma K (ga K x) "__init__")))
def clB (K : PySem.W.Frag) (x : Str) (fs : List Str) : Bool :=
  eqO (PySem.W.nsIn K mainGlobals x) (some (some (.ref (ga K x)))) && (oexB K (ga K x) (ga K "HeldError") && (xfB K (ga K x) && (fs.all (fun n => decide (PySem.W.findIn K (.ref (ga K x)) n = some none)) && (decide (PySem.W.exmOne K (.ref (ga K x)) (.ref (ga K x)) = some true) && initOk K x))))
def extB (K : PySem.W.Frag) (D : Addr) : Bool := eqO (PySem.W.findIn K (.ref D) "__getattribute__") (some (some (.builtin "BaseException.__getattribute__"))) && (eqO (PySem.W.findIn K (.ref D) "__getattr__") (some none) && (decide (PySem.W.subIn K (.ref D) (.type "BaseException") = some true) && (PySem.W.hasDictIn K D && (eqO (PySem.W.findIn K (.ref D) "__class__") (some (some (.builtin "object.__class__"))) &&
  (eqO (PySem.W.specialIn K (.builtin "object.__class__") "__get__") (some (some (.builtin "getset_descriptor.__get__"))) && (decide (PySem.W.takesIn K (.builtin "object.__class__") = some true) && (decide (PySem.W.mroIn K D (.type "object") = some true) && (decide (PySem.W.kitCls K (.ref D) (.ref D) = some true) && decide (PySem.W.kitOne K (.ref D) (.ref D) = some true)))))))))
def exB0 (K : PySem.W.Frag) : Bool := fnNames.all (fun x => fnOk K x) && (freeNames.all (fun x => eqO (PySem.W.nsIn K mainGlobals x) (some none)) && (((eqO (PySem.W.nsIn K mainGlobals "ZERO") (some (some (.ref (ga K "ZERO")))) && He.tupB K "ZERO" [.int 0, .int 1])) && (eqO (PySem.W.nsIn K mainGlobals "gcd") (some (some (.builtin "math.gcd"))) && (clB K "BadRatio" ["what"] && clB K "NoMode" ["mode"] && clB K "BadPhase" ["phase"] && clB K "BadTicks" ["ticks"] && clB K "BadTimes" ["repeats"] && clB K "BadUnit" ["unit"]))))
def exB (K : PySem.W.Frag) : Bool := exB0 K && extB K (ga K "NoMode")
def fas1 : List He.Fa := [.int "MOST_MODES" 3, .int "MOST_PHASES" 4, .int "MOST_TICKS" 1000, .glo "Plant", .cls "Plant", .mkr "Plant", .glo "HeldError", .exm "NoMode" "HeldError" true, .meth "Plant" "__init__", .exm "BadPhase" "NoMode" false, .exm "BadTicks" "NoMode" false, .exm "BadTicks" "BadPhase" false, .exm "BadUnit" "NoMode" false, .exm "BadPhase" "BadUnit" false, .exm "BadTimes" "NoMode" false, .exm "BadTimes" "BadUnit" false]
def fas2 : List He.Fa := [.exm "BadTimes" "BadPhase" false, .noat "Plant" "factors", .noat "Plant" "pushes", .noat "Plant" "starts", .noat "Plant" "modes", .noat "Plant" "period", .noat "Plant" "growing", .meth "Plant" "carried", .meth "Plant" "growth", .meth "Plant" "gathered", .meth "Plant" "grows", .meth "Plant" "with_unit", .meth "Plant" "with_sign", .meth "Plant" "turned", .meth "Plant" "repeated", .meth "Plant" "check_mode", .meth "Plant" "_check_stretch", .meth "Plant" "_factors_met"]
def fas : List He.Fa := fas1 ++ fas2
def fds : List FnD := [⟨("is_ratio", none), "is_ratio", "is_ratio", defArgs (topS 13), defBody (topS 13), defScope (topS 13)⟩,
  ⟨("_lowest", none), "_lowest", "_lowest", defArgs (topS 15), defBody (topS 15), defScope (topS 15)⟩,
  ⟨("times", none), "times", "times", defArgs (topS 16), defBody (topS 16), defScope (topS 16)⟩,
  ⟨("negative", none), "negative", "negative", defArgs (topS 17), defBody (topS 17), defScope (topS 17)⟩,
  ⟨("size_of", none), "size_of", "size_of", defArgs (topS 18), defBody (topS 18), defScope (topS 18)⟩,
  ⟨("check_phase", none), "check_phase", "check_phase", defArgs (topS 26), defBody (topS 26), defScope (topS 26)⟩,
  ⟨("check_ticks", none), "check_ticks", "check_ticks", defArgs (topS 27), defBody (topS 27), defScope (topS 27)⟩,
  ⟨("turned_row", none), "turned_row", "turned_row", defArgs (topS 28), defBody (topS 28), defScope (topS 28)⟩,
  ⟨("repeated_row", none), "repeated_row", "repeated_row", defArgs (topS 29), defBody (topS 29), defScope (topS 29)⟩,
  ⟨("_check_factors", none), "_check_factors", "_check_factors", defArgs (topS 30), defBody (topS 30), defScope (topS 30)⟩,
  ⟨("_check_lengths", none), "_check_lengths", "_check_lengths", defArgs (topS 31), defBody (topS 31), defScope (topS 31)⟩,
  ⟨("_law_mix", none), "_law_mix", "_law_mix", defArgs (topS 33), defBody (topS 33), defScope (topS 33)⟩,
  ⟨("_law_hand", none), "_law_hand", "_law_hand", defArgs (topS 34), defBody (topS 34), defScope (topS 34)⟩,
  ⟨("_law_draw", none), "_law_draw", "_law_draw", defArgs (topS 35), defBody (topS 35), defScope (topS 35)⟩,
  ⟨("_law_ratio", none), "_law_ratio", "_law_ratio", defArgs (topS 36), defBody (topS 36), defScope (topS 36)⟩,
  ⟨("_law_plus", none), "_law_plus", "_law_plus", defArgs (topS 37), defBody (topS 37), defScope (topS 37)⟩,
  ⟨("_law_times", none), "_law_times", "_law_times", defArgs (topS 38), defBody (topS 38), defScope (topS 38)⟩,
  ⟨("_law_less", none), "_law_less", "_law_less", defArgs (topS 39), defBody (topS 39), defScope (topS 39)⟩,
  ⟨("_law_size", none), "_law_size", "_law_size", defArgs (topS 40), defBody (topS 40), defScope (topS 40)⟩,
  ⟨("_law_whole", none), "_law_whole", "_law_whole", defArgs (topS 41), defBody (topS 41), defScope (topS 41)⟩,
  ⟨("_law_same", none), "_law_same", "_law_same", defArgs (topS 42), defBody (topS 42), defScope (topS 42)⟩,
  ⟨("_law_any_ratio", none), "_law_any_ratio", "_law_any_ratio", defArgs (topS 43), defBody (topS 43), defScope (topS 43)⟩,
  ⟨("_law_plant_drawn", none), "_law_plant_drawn", "_law_plant_drawn", defArgs (topS 44), defBody (topS 44), defScope (topS 44)⟩,
  ⟨("_law_product", none), "_law_product", "_law_product", defArgs (topS 45), defBody (topS 45), defScope (topS 45)⟩,
  ⟨("_law_gathered", none), "_law_gathered", "_law_gathered", defArgs (topS 46), defBody (topS 46), defScope (topS 46)⟩,
  ⟨("_law_played", none), "_law_played", "_law_played", defArgs (topS 47), defBody (topS 47), defScope (topS 47)⟩,
  ⟨("_law_word", none), "_law_word", "_law_word", defArgs (topS 48), defBody (topS 48), defScope (topS 48)⟩,
  ⟨("_law_other", none), "_law_other", "_law_other", defArgs (topS 49), defBody (topS 49), defScope (topS 49)⟩,
  ⟨("_law_refusals", none), "_law_refusals", "_law_refusals", defArgs (topS 50), defBody (topS 50), defScope (topS 50)⟩,
  ⟨("_law_far", none), "_law_far", "_law_far", defArgs (topS 51), defBody (topS 51), defScope (topS 51)⟩,
  ⟨("law", none), "law", "law", defArgs (topS 52), defBody (topS 52), defScope (topS 52)⟩,
  ⟨("BadRatio", some "__init__"), "__init__", "BadRatio.__init__", defArgs (inClass (topS 3) 0), defBody (inClass (topS 3) 0), defScope (inClass (topS 3) 0)⟩,
  ⟨("NoMode", some "__init__"), "__init__", "NoMode.__init__", defArgs (inClass (topS 5) 0), defBody (inClass (topS 5) 0), defScope (inClass (topS 5) 0)⟩,
  ⟨("BadPhase", some "__init__"), "__init__", "BadPhase.__init__", defArgs (inClass (topS 6) 0), defBody (inClass (topS 6) 0), defScope (inClass (topS 6) 0)⟩,
  ⟨("BadTicks", some "__init__"), "__init__", "BadTicks.__init__", defArgs (inClass (topS 7) 0), defBody (inClass (topS 7) 0), defScope (inClass (topS 7) 0)⟩,
  ⟨("BadTimes", some "__init__"), "__init__", "BadTimes.__init__", defArgs (inClass (topS 8) 0), defBody (inClass (topS 8) 0), defScope (inClass (topS 8) 0)⟩,
  ⟨("BadUnit", some "__init__"), "__init__", "BadUnit.__init__", defArgs (inClass (topS 9) 0), defBody (inClass (topS 9) 0), defScope (inClass (topS 9) 0)⟩,
  ⟨("Plant", some "__init__"), "__init__", "Plant.__init__", defArgs (inClass (topS 25) 0), defBody (inClass (topS 25) 0), defScope (inClass (topS 25) 0)⟩,
  ⟨("Plant", some "carried"), "carried", "Plant.carried", defArgs (inClass (topS 25) 2), defBody (inClass (topS 25) 2), defScope (inClass (topS 25) 2)⟩,
  ⟨("Plant", some "growth"), "growth", "Plant.growth", defArgs (inClass (topS 25) 3), defBody (inClass (topS 25) 3), defScope (inClass (topS 25) 3)⟩,
  ⟨("Plant", some "gathered"), "gathered", "Plant.gathered", defArgs (inClass (topS 25) 4), defBody (inClass (topS 25) 4), defScope (inClass (topS 25) 4)⟩,
  ⟨("Plant", some "grows"), "grows", "Plant.grows", defArgs (inClass (topS 25) 5), defBody (inClass (topS 25) 5), defScope (inClass (topS 25) 5)⟩,
  ⟨("Plant", some "with_unit"), "with_unit", "Plant.with_unit", defArgs (inClass (topS 25) 6), defBody (inClass (topS 25) 6), defScope (inClass (topS 25) 6)⟩,
  ⟨("Plant", some "with_sign"), "with_sign", "Plant.with_sign", defArgs (inClass (topS 25) 7), defBody (inClass (topS 25) 7), defScope (inClass (topS 25) 7)⟩,
  ⟨("Plant", some "turned"), "turned", "Plant.turned", defArgs (inClass (topS 25) 8), defBody (inClass (topS 25) 8), defScope (inClass (topS 25) 8)⟩,
  ⟨("Plant", some "repeated"), "repeated", "Plant.repeated", defArgs (inClass (topS 25) 9), defBody (inClass (topS 25) 9), defScope (inClass (topS 25) 9)⟩,
  ⟨("Plant", some "check_mode"), "check_mode", "Plant.check_mode", defArgs (inClass (topS 25) 10), defBody (inClass (topS 25) 10), defScope (inClass (topS 25) 10)⟩,
  ⟨("Plant", some "_check_stretch"), "_check_stretch", "Plant._check_stretch", defArgs (inClass (topS 25) 11), defBody (inClass (topS 25) 11), defScope (inClass (topS 25) 11)⟩,
  ⟨("Plant", some "_factors_met"), "_factors_met", "Plant._factors_met", defArgs (inClass (topS 25) 12), defBody (inClass (topS 25) 12), defScope (inClass (topS 25) 12)⟩]
def dds : List DefD := [⟨("is_whole", none), "is_whole", "is_whole", defArgs (topS 12), defBody (topS 12), defScope (topS 12), [.non, .non], []⟩,
  ⟨("make_ratio", none), "make_ratio", "make_ratio", defArgs (topS 14), defBody (topS 14), defScope (topS 14), [.int 1], []⟩,
  ⟨("is_sequence", none), "is_sequence", "is_sequence", defArgs (topS 20), defBody (topS 20), defScope (topS 20), [.int 0, .non], []⟩]
def refsN (o : Obj) : List Addr := match o.data with
  | .dict es _ => es.toList.flatMap fun e => refV e.val
  | .func fd => refV fd.code ++ refV fd.defaults
  | .cls cd => [cd.ns]
  | _ => []
def stepN (g : Addr → Option Obj) (as : List Addr) : List Addr := as.flatMap fun a => match g a with
  | some o => refsN o
  | none => []
/-- the module's names, their codes and defaults -/
def asN (g : Addr → Option Obj) : List Addr := mainGlobals :: (stepN g [mainGlobals] ++ (stepN g (stepN g [mainGlobals]) ++ (stepN g (stepN g (stepN g [mainGlobals])) ++ stepN g (stepN g (stepN g (stepN g [mainGlobals]))))))
def kOf (g : Addr → Option Obj) : PySem.W.Frag := frG g (asN g)
abbrev AlC : Type := Bool × He.Al × He.AlD
def obC (K : PySem.W.Frag) : AlC := (exB K, obsE fas fds K, He.obsD [] dds K)
def valC : AlC := (true, valE fds, He.valD dds)
structure Says (K : PySem.W.Frag) : Prop where
  b : exB K = true
  f : SaysE fas fds K
  d : He.SaysD [] dds K
def hk : PySem.W.Hook where
  α := AlC
  obs := fun s => obC (kOf s.heap.get?)
  val := fun _ => valC
  says := fun _ h => ∃ K : PySem.W.Frag, K.In h ∧ Says K
  of := fun _ _ e => ⟨_, frG_in, ⟨congrArg (fun z : AlC => z.1) e, congrArg (fun z : AlC => z.2.1) e, congrArg (fun z : AlC => z.2.2) e⟩⟩
  keeps := fun _ _ _ ⟨K, hK, c⟩ k => ⟨K, PySem.W.Frag.In.keeps hK k, c⟩
def ob (s : PySem.W.SharedT) : AlC := obC (kOf (HandSHeadRun.getT s))
theorem ob_eq (s : PySem.W.SharedT) : ob s = hk.obs s.abs := by
  have e : HandSHeadRun.getT s = s.abs.heap.get? := funext (HandSHeadRun.getT_eq s)
  unfold ob
  rw [e]
  rfl
section
variable {K : PySem.W.Frag}
theorem Says.fn (c : Says K) (i : Nat) {x : Str} (h : fnNames[i]? = some x := by rfl) : PySem.W.nsIn K mainGlobals x = some (some (.ref (ga K x))) ∧ PySem.W.keepIn K (.ref (ga K x)) = true := by
  obtain ⟨h1, h2⟩ := ba (List.all_eq_true.mp (ba (ba c.b).1).1 x (List.mem_of_getElem? h))
  exact ⟨eqO_ok h1, h2⟩
theorem Says.free (c : Says K) (i : Nat) {x : Str} (h : freeNames[i]? = some x := by rfl) : PySem.W.nsIn K mainGlobals x = some none := eqO_ok (List.all_eq_true.mp (ba (ba (ba c.b).1).2).1 x (List.mem_of_getElem? h))
end
end HH
namespace HR
open PySem PySem.W PySem.Calls PyProof.Rows
abbrev R : OpenRow := OpenLaw.row PySem.Challenge.rw_farheld_k03_whole_growths_and_pushes_gat
def names0 : List PySem.Str := (["MOST_MODES", "MOST_PHASES", "MOST_TICKS", "HeldError", "BadRatio", "BadPlant", "NoMode", "BadPhase", "BadTicks", "BadTimes", "BadUnit", "Plant", "ZERO", "is_whole", "is_ratio", "make_ratio", "_lowest", "times", "negative", "size_of", "is_sequence", "check_phase", "check_ticks"] : List PySem.Str) ++ (["turned_row", "repeated_row", "_check_factors", "_check_lengths", "_law_mix", "_law_hand", "_law_draw", "_law_ratio", "_law_plus", "_law_times", "_law_less", "_law_size", "_law_whole", "_law_same", "_law_any_ratio", "_law_plant_drawn", "_law_product", "_law_gathered", "_law_played"] : List PySem.Str)
def names1 : List PySem.Str := (["_law_word", "_law_other", "_law_refusals", "_law_far"] : List PySem.Str)
def names : List PySem.Str := names0 ++ names1
theorem run (w : World) : HandSHeadRun.RunEqI R (view R.prog [0, 52]) HH.hk HH.ob 40000 names w := by
  unfold HandSHeadRun.RunEqI
  kernel_rfl
end HR
namespace K03
open PySem L2 Evl Dat
section
variable {P : Program} {w : World} {K : PySem.W.Frag} {mg : Str → Option Value} {base : Heap}
abbrev s_i_NoMode : Stmt := inClass (topS 5) 0
theorem sc_i_NoMode : FnScope ["self", "mode"] ["self", "mode"] (defScope s_i_NoMode) := ⟨rfl, rfl, rfl, by decide +kernel, rfl, by decide +kernel, by decide +kernel⟩
theorem ok_i_NoMode {f C : Addr} {fd : FuncData} (F : Fun K "__init__" "NoMode.__init__" s_i_NoMode f fd) (T : OexC K C) (n0 : PySem.W.findIn K (.ref C) "mode" = some none) : FnOk P w K mg base CX0 1 f fd ["self", "mode"] (spI C "mode") := by
  refine F.ok sc_i_NoMode (fun vs H Q E h => ?_) (fun cdv A outer s H vs Q E hr h => ?_)
  · obtain ⟨a, u, rfl, _⟩ := h
    rfl
  · obtain ⟨a, u, rfl, ha, k⟩ := h
    refine ⟨_, (pss_one (ps_ost (pv 0) (pv 1))), ?_⟩
    exact ⟨_, rfl, _, rfl, a, C, rfl, T, n0, .inl ⟨ha, fun d hd da => k d [(("mode" : Str), u)] _ hd upd_same ((upd_ne da).trans upd_same) (fun b h1 h2 => (upd_ne h1).trans (upd_ne h2)) (by simp [List.lookup])⟩⟩

abbrev s_i_BadPhase : Stmt := inClass (topS 6) 0
theorem sc_i_BadPhase : FnScope ["self", "phase"] ["self", "phase"] (defScope s_i_BadPhase) := ⟨rfl, rfl, rfl, by decide +kernel, rfl, by decide +kernel, by decide +kernel⟩
theorem ok_i_BadPhase {f C : Addr} {fd : FuncData} (F : Fun K "__init__" "BadPhase.__init__" s_i_BadPhase f fd) (T : OexC K C) (n0 : PySem.W.findIn K (.ref C) "phase" = some none) : FnOk P w K mg base CX0 1 f fd ["self", "phase"] (spI C "phase") := by
  refine F.ok sc_i_BadPhase (fun vs H Q E h => ?_) (fun cdv A outer s H vs Q E hr h => ?_)
  · obtain ⟨a, u, rfl, _⟩ := h
    rfl
  · obtain ⟨a, u, rfl, ha, k⟩ := h
    refine ⟨_, (pss_one (ps_ost (pv 0) (pv 1))), ?_⟩
    exact ⟨_, rfl, _, rfl, a, C, rfl, T, n0, .inl ⟨ha, fun d hd da => k d [(("phase" : Str), u)] _ hd upd_same ((upd_ne da).trans upd_same) (fun b h1 h2 => (upd_ne h1).trans (upd_ne h2)) (by simp [List.lookup])⟩⟩

abbrev s_i_BadTicks : Stmt := inClass (topS 7) 0
theorem sc_i_BadTicks : FnScope ["self", "ticks"] ["self", "ticks"] (defScope s_i_BadTicks) := ⟨rfl, rfl, rfl, by decide +kernel, rfl, by decide +kernel, by decide +kernel⟩
theorem ok_i_BadTicks {f C : Addr} {fd : FuncData} (F : Fun K "__init__" "BadTicks.__init__" s_i_BadTicks f fd) (T : OexC K C) (n0 : PySem.W.findIn K (.ref C) "ticks" = some none) : FnOk P w K mg base CX0 1 f fd ["self", "ticks"] (spI C "ticks") := by
  refine F.ok sc_i_BadTicks (fun vs H Q E h => ?_) (fun cdv A outer s H vs Q E hr h => ?_)
  · obtain ⟨a, u, rfl, _⟩ := h
    rfl
  · obtain ⟨a, u, rfl, ha, k⟩ := h
    refine ⟨_, (pss_one (ps_ost (pv 0) (pv 1))), ?_⟩
    exact ⟨_, rfl, _, rfl, a, C, rfl, T, n0, .inl ⟨ha, fun d hd da => k d [(("ticks" : Str), u)] _ hd upd_same ((upd_ne da).trans upd_same) (fun b h1 h2 => (upd_ne h1).trans (upd_ne h2)) (by simp [List.lookup])⟩⟩

abbrev s_i_BadTimes : Stmt := inClass (topS 8) 0
theorem sc_i_BadTimes : FnScope ["self", "repeats"] ["self", "repeats"] (defScope s_i_BadTimes) := ⟨rfl, rfl, rfl, by decide +kernel, rfl, by decide +kernel, by decide +kernel⟩
theorem ok_i_BadTimes {f C : Addr} {fd : FuncData} (F : Fun K "__init__" "BadTimes.__init__" s_i_BadTimes f fd) (T : OexC K C) (n0 : PySem.W.findIn K (.ref C) "repeats" = some none) : FnOk P w K mg base CX0 1 f fd ["self", "repeats"] (spI C "repeats") := by
  refine F.ok sc_i_BadTimes (fun vs H Q E h => ?_) (fun cdv A outer s H vs Q E hr h => ?_)
  · obtain ⟨a, u, rfl, _⟩ := h
    rfl
  · obtain ⟨a, u, rfl, ha, k⟩ := h
    refine ⟨_, (pss_one (ps_ost (pv 0) (pv 1))), ?_⟩
    exact ⟨_, rfl, _, rfl, a, C, rfl, T, n0, .inl ⟨ha, fun d hd da => k d [(("repeats" : Str), u)] _ hd upd_same ((upd_ne da).trans upd_same) (fun b h1 h2 => (upd_ne h1).trans (upd_ne h2)) (by simp [List.lookup])⟩⟩

abbrev s_i_BadUnit : Stmt := inClass (topS 9) 0
theorem sc_i_BadUnit : FnScope ["self", "unit"] ["self", "unit"] (defScope s_i_BadUnit) := ⟨rfl, rfl, rfl, by decide +kernel, rfl, by decide +kernel, by decide +kernel⟩
theorem ok_i_BadUnit {f C : Addr} {fd : FuncData} (F : Fun K "__init__" "BadUnit.__init__" s_i_BadUnit f fd) (T : OexC K C) (n0 : PySem.W.findIn K (.ref C) "unit" = some none) : FnOk P w K mg base CX0 1 f fd ["self", "unit"] (spI C "unit") := by
  refine F.ok sc_i_BadUnit (fun vs H Q E h => ?_) (fun cdv A outer s H vs Q E hr h => ?_)
  · obtain ⟨a, u, rfl, _⟩ := h
    rfl
  · obtain ⟨a, u, rfl, ha, k⟩ := h
    refine ⟨_, (pss_one (ps_ost (pv 0) (pv 1))), ?_⟩
    exact ⟨_, rfl, _, rfl, a, C, rfl, T, n0, .inl ⟨ha, fun d hd da => k d [(("unit" : Str), u)] _ hd upd_same ((upd_ne da).trans upd_same) (fun b h1 h2 => (upd_ne h1).trans (upd_ne h2)) (by simp [List.lookup])⟩⟩

end
end K03
namespace HH
open PySem L2 K03 Dat
open He (ga ma frG frG_in frG_at FnD DefD SaysE obsE valE eqO eqO_ok ba refV)
theorem xt_of {K : PySem.W.Frag} {D : Addr} (o : OexC K D) (h : extB K D = true) : ExT K D ∧ PySem.W.kitOne K (.ref D) (.ref D) = some true := by
  obtain ⟨h1, h⟩ := ba h
  obtain ⟨h2, h⟩ := ba h
  obtain ⟨h3, h⟩ := ba h
  obtain ⟨h4, h⟩ := ba h
  obtain ⟨h5, h⟩ := ba h
  obtain ⟨h6, h⟩ := ba h
  obtain ⟨h7, h⟩ := ba h
  obtain ⟨h8, h⟩ := ba h
  obtain ⟨h9, h10⟩ := ba h
  exact ⟨⟨o, ⟨eqO_ok h1, eqO_ok h2, of_decide_eq_true h3, h4, eqO_ok h5, eqO_ok h6, of_decide_eq_true h7, of_decide_eq_true h8⟩, of_decide_eq_true h9⟩, of_decide_eq_true h10⟩
theorem dV {P : Program} {w : World} {K : PySem.W.Frag} {mg : Str → Option Value} {base : Heap} {CX : CXT} {k : Nat} {x : Str} {ps : List Str} {sp : Sp} (D : Def P w K mg base CX k x ps sp) : DefV P w K mg base CX k x ps [] sp := by
  obtain ⟨f, fd, F1, hm, hk, hb⟩ := D.ex
  exact ⟨f, fd, [], F1, hm, hk, hb, .nil⟩
theorem fun_of {K : PySem.W.Frag} {x : Str} {st : Stmt} (h : ∃ oc od osl kV doc pm an cdv ct, K.lookup (ga K x) = some ⟨oc, od, .func (PySem.W.fnOf x x (defArgs st) (defBody st) (defScope st) .none kV doc pm an cdv ct), osl⟩ ∧ PySem.W.codeIn K cdv x = true) (kp : PySem.W.keepIn K (.ref (ga K x)) = true) :
    ∃ fd, Fun K x x st (ga K x) fd := by
  obtain ⟨_, _, _, _, _, _, _, _, _, lk, cd⟩ := h
  exact ⟨_, fun_mk lk cd kp⟩
theorem def_of {P : Program} {w : World} {K : PySem.W.Frag} {mg : Str → Option Value} {base : Heap} {CX : CXT} {k : Nat} {x : Str} {st : Stmt} {ps : List Str} {sp : Sp} {f : Addr} {fd : FuncData} (F : Fun K x x st f fd) (ok : FnOk P w K mg base CX k f fd ps sp) (hm : mg x = some (.ref f))
    (h : ∀ (kV doc pm : Value) (an : Option Addr) (cdv ct : Value) (us : List Value), us.length = ps.length → bindArgs (PySem.W.fnOf x x (defArgs st) (defBody st) (defScope st) .none kV doc pm an cdv ct) ⟨us, []⟩ = pure (ps.zip us)) : Def P w K mg base CX k x ps sp :=
  ⟨f, fd, ok, hm, F.kp, F.binds h⟩
theorem facts {l : PySem.W.OpenLaw} {w : World} {K : PySem.W.Frag} {h : Heap} {mg : Str → Option Value} {fa : Addr} (X : K.In h) (G : h.Ns mainGlobals mg) (hfa : mg "law" = some (.ref fa)) (c : Says K) :
    ∃ fd : FuncData, (∀ (s : Shared) (v : Value), BindsTo s fd ⟨[v], []⟩ [("script", v)]) ∧ ∀ base : Heap, K.In base → base.Ns mainGlobals mg → FnG l.prog w K mg base CX0 14 fa fd ["script"] (spLaw K) := by
  have fr := fun (i : Nat) {x : Str} (h : freeNames[i]? = some x) => PySem.W.mg_none_of X G (c.free i h)
  have mf := fun (i : Nat) {x : Str} (h : fnNames[i]? = some x) => PySem.W.mg_of X G (c.fn i h).1
  have cb := (ba (ba (ba c.b).1).2).2
  obtain ⟨cz, cg⟩ := ba cb
  obtain ⟨cg, ccl⟩ := ba cg
  have gG : mg "gcd" = some (.builtin "math.gcd") := PySem.W.mg_of X G (eqO_ok cg)
  obtain ⟨cz1, cz2⟩ := ba cz
  have gZ : mg "ZERO" = some (.ref (ga K "ZERO")) := PySem.W.mg_of X G (eqO_ok cz1)
  have hZ : ∀ H, Dp K H (.ref (ga K "ZERO")) (ratR 0) := fun H => .tup (He.tupB_ok cz2 H) (.cons (.int 0) (.cons (.int 1) .nil))
  obtain ⟨tM, gM⟩ := He.int_ok X G (c.f.fact 0 rfl)
  obtain ⟨tP, gP⟩ := He.int_ok X G (c.f.fact 1 rfl)
  obtain ⟨tT, gT⟩ := He.int_ok X G (c.f.fact 2 rfl)
  have gPl := He.glo_ok X G (c.f.fact 3 rfl)
  have gH := He.glo_ok X G (c.f.fact 6 rfl)
  have mh := He.exm_ok (c.f.fact 7 rfl)
  have AP : Apart K (ga K "NoMode") (ga K "BadPhase") (ga K "BadTicks") (ga K "BadUnit") (ga K "BadTimes") := ⟨He.exm_ok (c.f.fact 9 rfl), He.exm_ok (c.f.fact 10 rfl), He.exm_ok (c.f.fact 11 rfl), He.exm_ok (c.f.fact 12 rfl), He.exm_ok (c.f.fact 13 rfl), He.exm_ok (c.f.fact 14 rfl), He.exm_ok (c.f.fact 15 rfl), He.exm_ok (c.f.fact 16 rfl)⟩
  have TC : ClsA K mg "Plant" (ga K "Plant") al := ⟨He.cls_ok (c.f.fact 4 rfl), fun f hf => by
    simp only [List.mem_cons, List.not_mem_nil, or_false] at hf
    rcases hf with rfl | rfl | rfl | rfl | rfl | rfl
    · exact He.noat_ok (c.f.fact 17 rfl)
    · exact He.noat_ok (c.f.fact 18 rfl)
    · exact He.noat_ok (c.f.fact 19 rfl)
    · exact He.noat_ok (c.f.fact 20 rfl)
    · exact He.noat_ok (c.f.fact 21 rfl)
    · exact He.noat_ok (c.f.fact 22 rfl), gPl⟩
  have M___init__ := He.meth_ok (c.f.fact 8 rfl)
  obtain ⟨_, _, _, _, _, _, _, _, _, lkM0, cdM0⟩ := c.f.def_ 37 rfl
  have FM___init__ := fun_mk (x := "__init__") (qual := "Plant.__init__") (st := s_init__) lkM0 cdM0 M___init__.kp
  have M_carried := He.meth_ok (c.f.fact 23 rfl)
  obtain ⟨_, _, _, _, _, _, _, _, _, lkM1, cdM1⟩ := c.f.def_ 38 rfl
  have FM_carried := fun_mk (x := "carried") (qual := "Plant.carried") (st := s_carried) lkM1 cdM1 M_carried.kp
  have M_growth := He.meth_ok (c.f.fact 24 rfl)
  obtain ⟨_, _, _, _, _, _, _, _, _, lkM2, cdM2⟩ := c.f.def_ 39 rfl
  have FM_growth := fun_mk (x := "growth") (qual := "Plant.growth") (st := s_growth) lkM2 cdM2 M_growth.kp
  have M_gathered := He.meth_ok (c.f.fact 25 rfl)
  obtain ⟨_, _, _, _, _, _, _, _, _, lkM3, cdM3⟩ := c.f.def_ 40 rfl
  have FM_gathered := fun_mk (x := "gathered") (qual := "Plant.gathered") (st := s_gathered) lkM3 cdM3 M_gathered.kp
  have M_grows := He.meth_ok (c.f.fact 26 rfl)
  obtain ⟨_, _, _, _, _, _, _, _, _, lkM4, cdM4⟩ := c.f.def_ 41 rfl
  have FM_grows := fun_mk (x := "grows") (qual := "Plant.grows") (st := s_grows) lkM4 cdM4 M_grows.kp
  have M_with_unit := He.meth_ok (c.f.fact 27 rfl)
  obtain ⟨_, _, _, _, _, _, _, _, _, lkM5, cdM5⟩ := c.f.def_ 42 rfl
  have FM_with_unit := fun_mk (x := "with_unit") (qual := "Plant.with_unit") (st := s_with_unit) lkM5 cdM5 M_with_unit.kp
  have M_with_sign := He.meth_ok (c.f.fact 28 rfl)
  obtain ⟨_, _, _, _, _, _, _, _, _, lkM6, cdM6⟩ := c.f.def_ 43 rfl
  have FM_with_sign := fun_mk (x := "with_sign") (qual := "Plant.with_sign") (st := s_with_sign) lkM6 cdM6 M_with_sign.kp
  have M_turned := He.meth_ok (c.f.fact 29 rfl)
  obtain ⟨_, _, _, _, _, _, _, _, _, lkM7, cdM7⟩ := c.f.def_ 44 rfl
  have FM_turned := fun_mk (x := "turned") (qual := "Plant.turned") (st := s_turned) lkM7 cdM7 M_turned.kp
  have M_repeated := He.meth_ok (c.f.fact 30 rfl)
  obtain ⟨_, _, _, _, _, _, _, _, _, lkM8, cdM8⟩ := c.f.def_ 45 rfl
  have FM_repeated := fun_mk (x := "repeated") (qual := "Plant.repeated") (st := s_repeated) lkM8 cdM8 M_repeated.kp
  have M_check_mode := He.meth_ok (c.f.fact 31 rfl)
  obtain ⟨_, _, _, _, _, _, _, _, _, lkM9, cdM9⟩ := c.f.def_ 46 rfl
  have FM_check_mode := fun_mk (x := "check_mode") (qual := "Plant.check_mode") (st := s_check_mode) lkM9 cdM9 M_check_mode.kp
  have M__check_stretch := He.meth_ok (c.f.fact 32 rfl)
  obtain ⟨_, _, _, _, _, _, _, _, _, lkM10, cdM10⟩ := c.f.def_ 47 rfl
  have FM__check_stretch := fun_mk (x := "_check_stretch") (qual := "Plant._check_stretch") (st := s_check_stretch) lkM10 cdM10 M__check_stretch.kp
  have M__factors_met := He.meth_ok (c.f.fact 33 rfl)
  obtain ⟨_, _, _, _, _, _, _, _, _, lkM11, cdM11⟩ := c.f.def_ 48 rfl
  have FM__factors_met := fun_mk (x := "_factors_met") (qual := "Plant._factors_met") (st := s_factors_met) lkM11 cdM11 M__factors_met.kp

  have T : Bl mg := ⟨fr 0 rfl, fr 1 rfl, fr 2 rfl, fr 3 rfl, fr 4 rfl, fr 5 rfl, fr 6 rfl, fr 7 rfl, fr 8 rfl, fr 9 rfl, fr 10 rfl, fr 11 rfl, gG⟩
  have T2 : Bl2 mg := ⟨fr 12 rfl, fr 13 rfl, fr 14 rfl, fr 15 rfl, fr 16 rfl, fr 17 rfl, fr 18 rfl, fr 19 rfl⟩
  obtain ⟨cr5, cc5⟩ := ba ccl
  obtain ⟨cr4, cc4⟩ := ba cr5
  obtain ⟨cr3, cc3⟩ := ba cr4
  obtain ⟨cr2, cc2⟩ := ba cr3
  obtain ⟨cr1, cc1⟩ := ba cr2
  have cc0 := cr1
  obtain ⟨cB0, cq0⟩ := ba cc0
  obtain ⟨cO0, cq0⟩ := ba cq0
  obtain ⟨cX0, cq0⟩ := ba cq0
  obtain ⟨cN0, cq0⟩ := ba cq0
  obtain ⟨cT0, cq0⟩ := ba cq0
  obtain ⟨cI0, cq0⟩ := ba cq0
  obtain ⟨cY0, cP0⟩ := ba cq0
  have gB0 : mg "BadRatio" = some (.ref (ga K "BadRatio")) := PySem.W.mg_of X G (eqO_ok cB0)
  obtain ⟨_, _, _, _, _, _, _, _, _, lkI0, cdI0⟩ := c.f.def_ 31 rfl
  have FI0 := fun_mk (x := "__init__") (qual := "BadRatio.__init__") (st := s_i_BadRatio) lkI0 cdI0 cP0
  obtain ⟨cB1, cq1⟩ := ba cc1
  obtain ⟨cO1, cq1⟩ := ba cq1
  obtain ⟨cX1, cq1⟩ := ba cq1
  obtain ⟨cN1, cq1⟩ := ba cq1
  obtain ⟨cT1, cq1⟩ := ba cq1
  obtain ⟨cI1, cq1⟩ := ba cq1
  obtain ⟨cY1, cP1⟩ := ba cq1
  have gB1 : mg "NoMode" = some (.ref (ga K "NoMode")) := PySem.W.mg_of X G (eqO_ok cB1)
  obtain ⟨_, _, _, _, _, _, _, _, _, lkI1, cdI1⟩ := c.f.def_ 32 rfl
  have FI1 := fun_mk (x := "__init__") (qual := "NoMode.__init__") (st := s_i_NoMode) lkI1 cdI1 cP1
  obtain ⟨cB2, cq2⟩ := ba cc2
  obtain ⟨cO2, cq2⟩ := ba cq2
  obtain ⟨cX2, cq2⟩ := ba cq2
  obtain ⟨cN2, cq2⟩ := ba cq2
  obtain ⟨cT2, cq2⟩ := ba cq2
  obtain ⟨cI2, cq2⟩ := ba cq2
  obtain ⟨cY2, cP2⟩ := ba cq2
  have gB2 : mg "BadPhase" = some (.ref (ga K "BadPhase")) := PySem.W.mg_of X G (eqO_ok cB2)
  obtain ⟨_, _, _, _, _, _, _, _, _, lkI2, cdI2⟩ := c.f.def_ 33 rfl
  have FI2 := fun_mk (x := "__init__") (qual := "BadPhase.__init__") (st := s_i_BadPhase) lkI2 cdI2 cP2
  obtain ⟨cB3, cq3⟩ := ba cc3
  obtain ⟨cO3, cq3⟩ := ba cq3
  obtain ⟨cX3, cq3⟩ := ba cq3
  obtain ⟨cN3, cq3⟩ := ba cq3
  obtain ⟨cT3, cq3⟩ := ba cq3
  obtain ⟨cI3, cq3⟩ := ba cq3
  obtain ⟨cY3, cP3⟩ := ba cq3
  have gB3 : mg "BadTicks" = some (.ref (ga K "BadTicks")) := PySem.W.mg_of X G (eqO_ok cB3)
  obtain ⟨_, _, _, _, _, _, _, _, _, lkI3, cdI3⟩ := c.f.def_ 34 rfl
  have FI3 := fun_mk (x := "__init__") (qual := "BadTicks.__init__") (st := s_i_BadTicks) lkI3 cdI3 cP3
  obtain ⟨cB4, cq4⟩ := ba cc4
  obtain ⟨cO4, cq4⟩ := ba cq4
  obtain ⟨cX4, cq4⟩ := ba cq4
  obtain ⟨cN4, cq4⟩ := ba cq4
  obtain ⟨cT4, cq4⟩ := ba cq4
  obtain ⟨cI4, cq4⟩ := ba cq4
  obtain ⟨cY4, cP4⟩ := ba cq4
  have gB4 : mg "BadTimes" = some (.ref (ga K "BadTimes")) := PySem.W.mg_of X G (eqO_ok cB4)
  obtain ⟨_, _, _, _, _, _, _, _, _, lkI4, cdI4⟩ := c.f.def_ 35 rfl
  have FI4 := fun_mk (x := "__init__") (qual := "BadTimes.__init__") (st := s_i_BadTimes) lkI4 cdI4 cP4
  obtain ⟨cB5, cq5⟩ := ba cc5
  obtain ⟨cO5, cq5⟩ := ba cq5
  obtain ⟨cX5, cq5⟩ := ba cq5
  obtain ⟨cN5, cq5⟩ := ba cq5
  obtain ⟨cT5, cq5⟩ := ba cq5
  obtain ⟨cI5, cq5⟩ := ba cq5
  obtain ⟨cY5, cP5⟩ := ba cq5
  have gB5 : mg "BadUnit" = some (.ref (ga K "BadUnit")) := PySem.W.mg_of X G (eqO_ok cB5)
  obtain ⟨_, _, _, _, _, _, _, _, _, lkI5, cdI5⟩ := c.f.def_ 36 rfl
  have FI5 := fun_mk (x := "__init__") (qual := "BadUnit.__init__") (st := s_i_BadUnit) lkI5 cdI5 cP5
  have F_is_ratio : ∃ fd, Fun K "is_ratio" "is_ratio" (topS 13) (ga K "is_ratio") fd := fun_of (st := topS 13) (c.f.def_ 0 rfl) (c.fn 1 rfl).2
  have F__lowest : ∃ fd, Fun K "_lowest" "_lowest" (topS 15) (ga K "_lowest") fd := fun_of (st := topS 15) (c.f.def_ 1 rfl) (c.fn 3 rfl).2
  have F_times : ∃ fd, Fun K "times" "times" (topS 16) (ga K "times") fd := fun_of (st := topS 16) (c.f.def_ 2 rfl) (c.fn 4 rfl).2
  have F_negative : ∃ fd, Fun K "negative" "negative" (topS 17) (ga K "negative") fd := fun_of (st := topS 17) (c.f.def_ 3 rfl) (c.fn 5 rfl).2
  have F_size_of : ∃ fd, Fun K "size_of" "size_of" (topS 18) (ga K "size_of") fd := fun_of (st := topS 18) (c.f.def_ 4 rfl) (c.fn 6 rfl).2
  have F_check_phase : ∃ fd, Fun K "check_phase" "check_phase" (topS 26) (ga K "check_phase") fd := fun_of (st := topS 26) (c.f.def_ 5 rfl) (c.fn 8 rfl).2
  have F_check_ticks : ∃ fd, Fun K "check_ticks" "check_ticks" (topS 27) (ga K "check_ticks") fd := fun_of (st := topS 27) (c.f.def_ 6 rfl) (c.fn 9 rfl).2
  have F_turned_row : ∃ fd, Fun K "turned_row" "turned_row" (topS 28) (ga K "turned_row") fd := fun_of (st := topS 28) (c.f.def_ 7 rfl) (c.fn 10 rfl).2
  have F_repeated_row : ∃ fd, Fun K "repeated_row" "repeated_row" (topS 29) (ga K "repeated_row") fd := fun_of (st := topS 29) (c.f.def_ 8 rfl) (c.fn 11 rfl).2
  have F__check_factors : ∃ fd, Fun K "_check_factors" "_check_factors" (topS 30) (ga K "_check_factors") fd := fun_of (st := topS 30) (c.f.def_ 9 rfl) (c.fn 12 rfl).2
  have F__check_lengths : ∃ fd, Fun K "_check_lengths" "_check_lengths" (topS 31) (ga K "_check_lengths") fd := fun_of (st := topS 31) (c.f.def_ 10 rfl) (c.fn 13 rfl).2
  have F__law_mix : ∃ fd, Fun K "_law_mix" "_law_mix" (topS 33) (ga K "_law_mix") fd := fun_of (st := topS 33) (c.f.def_ 11 rfl) (c.fn 14 rfl).2
  have F__law_hand : ∃ fd, Fun K "_law_hand" "_law_hand" (topS 34) (ga K "_law_hand") fd := fun_of (st := topS 34) (c.f.def_ 12 rfl) (c.fn 15 rfl).2
  have F__law_draw : ∃ fd, Fun K "_law_draw" "_law_draw" (topS 35) (ga K "_law_draw") fd := fun_of (st := topS 35) (c.f.def_ 13 rfl) (c.fn 16 rfl).2
  have F__law_ratio : ∃ fd, Fun K "_law_ratio" "_law_ratio" (topS 36) (ga K "_law_ratio") fd := fun_of (st := topS 36) (c.f.def_ 14 rfl) (c.fn 17 rfl).2
  have F__law_plus : ∃ fd, Fun K "_law_plus" "_law_plus" (topS 37) (ga K "_law_plus") fd := fun_of (st := topS 37) (c.f.def_ 15 rfl) (c.fn 18 rfl).2
  have F__law_times : ∃ fd, Fun K "_law_times" "_law_times" (topS 38) (ga K "_law_times") fd := fun_of (st := topS 38) (c.f.def_ 16 rfl) (c.fn 19 rfl).2
  have F__law_less : ∃ fd, Fun K "_law_less" "_law_less" (topS 39) (ga K "_law_less") fd := fun_of (st := topS 39) (c.f.def_ 17 rfl) (c.fn 20 rfl).2
  have F__law_size : ∃ fd, Fun K "_law_size" "_law_size" (topS 40) (ga K "_law_size") fd := fun_of (st := topS 40) (c.f.def_ 18 rfl) (c.fn 21 rfl).2
  have F__law_whole : ∃ fd, Fun K "_law_whole" "_law_whole" (topS 41) (ga K "_law_whole") fd := fun_of (st := topS 41) (c.f.def_ 19 rfl) (c.fn 22 rfl).2
  have F__law_same : ∃ fd, Fun K "_law_same" "_law_same" (topS 42) (ga K "_law_same") fd := fun_of (st := topS 42) (c.f.def_ 20 rfl) (c.fn 23 rfl).2
  have F__law_any_ratio : ∃ fd, Fun K "_law_any_ratio" "_law_any_ratio" (topS 43) (ga K "_law_any_ratio") fd := fun_of (st := topS 43) (c.f.def_ 21 rfl) (c.fn 24 rfl).2
  have F__law_plant_drawn : ∃ fd, Fun K "_law_plant_drawn" "_law_plant_drawn" (topS 44) (ga K "_law_plant_drawn") fd := fun_of (st := topS 44) (c.f.def_ 22 rfl) (c.fn 25 rfl).2
  have F__law_product : ∃ fd, Fun K "_law_product" "_law_product" (topS 45) (ga K "_law_product") fd := fun_of (st := topS 45) (c.f.def_ 23 rfl) (c.fn 26 rfl).2
  have F__law_gathered : ∃ fd, Fun K "_law_gathered" "_law_gathered" (topS 46) (ga K "_law_gathered") fd := fun_of (st := topS 46) (c.f.def_ 24 rfl) (c.fn 27 rfl).2
  have F__law_played : ∃ fd, Fun K "_law_played" "_law_played" (topS 47) (ga K "_law_played") fd := fun_of (st := topS 47) (c.f.def_ 25 rfl) (c.fn 28 rfl).2
  have F__law_word : ∃ fd, Fun K "_law_word" "_law_word" (topS 48) (ga K "_law_word") fd := fun_of (st := topS 48) (c.f.def_ 26 rfl) (c.fn 29 rfl).2
  have F__law_other : ∃ fd, Fun K "_law_other" "_law_other" (topS 49) (ga K "_law_other") fd := fun_of (st := topS 49) (c.f.def_ 27 rfl) (c.fn 30 rfl).2
  have F__law_refusals : ∃ fd, Fun K "_law_refusals" "_law_refusals" (topS 50) (ga K "_law_refusals") fd := fun_of (st := topS 50) (c.f.def_ 28 rfl) (c.fn 31 rfl).2
  have F__law_far : ∃ fd, Fun K "_law_far" "_law_far" (topS 51) (ga K "_law_far") fd := fun_of (st := topS 51) (c.f.def_ 29 rfl) (c.fn 32 rfl).2
  have F_law : ∃ fd, Fun K "law" "law" (topS 52) (ga K "law") fd := fun_of (st := topS 52) (c.f.def_ 30 rfl) (c.fn 33 rfl).2
  have F_is_whole : ∃ fd, FunD K "is_whole" "is_whole" (defArgs (topS 12)) (defBody (topS 12)) (defScope (topS 12)) [.non, .non] [] (ga K "is_whole") fd := c.d.def_ 0 rfl
  have F_make_ratio : ∃ fd, FunD K "make_ratio" "make_ratio" (defArgs (topS 14)) (defBody (topS 14)) (defScope (topS 14)) [.int 1] [] (ga K "make_ratio") fd := c.d.def_ 1 rfl
  have F_is_sequence : ∃ fd, FunD K "is_sequence" "is_sequence" (defArgs (topS 20)) (defBody (topS 20)) (defScope (topS 20)) [.int 0, .non] [] (ga K "is_sequence") fd := c.d.def_ 2 rfl
  obtain ⟨xt, kt⟩ := xt_of (oex_ok cO1) (ba c.b).2
  obtain ⟨fd, F⟩ := F_law
  have e := hfa.symm.trans (mf 33 rfl)
  cases e
  refine ⟨fd, ?_, fun base _ _ => ?_⟩
  · obtain ⟨oc, od, kV, doc, pm, an, cdv, ct, osl, rfl, lk, hcd⟩ := F.ex
    exact fun s v => BindsTo.of_eq rfl
  · obtain ⟨fd_is_ratio, F_is_ratio⟩ := F_is_ratio
    obtain ⟨fd__lowest, F__lowest⟩ := F__lowest
    obtain ⟨fd_times, F_times⟩ := F_times
    obtain ⟨fd_negative, F_negative⟩ := F_negative
    obtain ⟨fd_size_of, F_size_of⟩ := F_size_of
    obtain ⟨fd_check_phase, F_check_phase⟩ := F_check_phase
    obtain ⟨fd_check_ticks, F_check_ticks⟩ := F_check_ticks
    obtain ⟨fd_turned_row, F_turned_row⟩ := F_turned_row
    obtain ⟨fd_repeated_row, F_repeated_row⟩ := F_repeated_row
    obtain ⟨fd__check_factors, F__check_factors⟩ := F__check_factors
    obtain ⟨fd__check_lengths, F__check_lengths⟩ := F__check_lengths
    obtain ⟨fd__law_mix, F__law_mix⟩ := F__law_mix
    obtain ⟨fd__law_hand, F__law_hand⟩ := F__law_hand
    obtain ⟨fd__law_draw, F__law_draw⟩ := F__law_draw
    obtain ⟨fd__law_ratio, F__law_ratio⟩ := F__law_ratio
    obtain ⟨fd__law_plus, F__law_plus⟩ := F__law_plus
    obtain ⟨fd__law_times, F__law_times⟩ := F__law_times
    obtain ⟨fd__law_less, F__law_less⟩ := F__law_less
    obtain ⟨fd__law_size, F__law_size⟩ := F__law_size
    obtain ⟨fd__law_whole, F__law_whole⟩ := F__law_whole
    obtain ⟨fd__law_same, F__law_same⟩ := F__law_same
    obtain ⟨fd__law_any_ratio, F__law_any_ratio⟩ := F__law_any_ratio
    obtain ⟨fd__law_plant_drawn, F__law_plant_drawn⟩ := F__law_plant_drawn
    obtain ⟨fd__law_product, F__law_product⟩ := F__law_product
    obtain ⟨fd__law_gathered, F__law_gathered⟩ := F__law_gathered
    obtain ⟨fd__law_played, F__law_played⟩ := F__law_played
    obtain ⟨fd__law_word, F__law_word⟩ := F__law_word
    obtain ⟨fd__law_other, F__law_other⟩ := F__law_other
    obtain ⟨fd__law_refusals, F__law_refusals⟩ := F__law_refusals
    obtain ⟨fd__law_far, F__law_far⟩ := F__law_far
    obtain ⟨fd_is_whole, F_is_whole⟩ := F_is_whole
    obtain ⟨fd_make_ratio, F_make_ratio⟩ := F_make_ratio
    obtain ⟨fd_is_sequence, F_is_sequence⟩ := F_is_sequence
    have TBR : Cl1 l.prog w K mg base "BadRatio" (ga K "BadRatio") "what" := ⟨oex_ok cO0, xfB_ok cX0, gB0, of_decide_eq_true (List.all_eq_true.mp cN0 "what" (by simp)), of_decide_eq_true cT0, _, _, eqO_ok cI0, of_decide_eq_true cY0, ok_i_BadRatio FI0 (oex_ok cO0) (of_decide_eq_true (List.all_eq_true.mp cN0 "what" (by simp))), FI0.binds fun _ _ _ _ _ _ us hl => match us, hl with | [_, _], _ => rfl⟩
    have TMo : Cl1 l.prog w K mg base "NoMode" (ga K "NoMode") "mode" := ⟨oex_ok cO1, xfB_ok cX1, gB1, of_decide_eq_true (List.all_eq_true.mp cN1 "mode" (by simp)), of_decide_eq_true cT1, _, _, eqO_ok cI1, of_decide_eq_true cY1, ok_i_NoMode FI1 (oex_ok cO1) (of_decide_eq_true (List.all_eq_true.mp cN1 "mode" (by simp))), FI1.binds fun _ _ _ _ _ _ us hl => match us, hl with | [_, _], _ => rfl⟩
    have TPh : Cl1 l.prog w K mg base "BadPhase" (ga K "BadPhase") "phase" := ⟨oex_ok cO2, xfB_ok cX2, gB2, of_decide_eq_true (List.all_eq_true.mp cN2 "phase" (by simp)), of_decide_eq_true cT2, _, _, eqO_ok cI2, of_decide_eq_true cY2, ok_i_BadPhase FI2 (oex_ok cO2) (of_decide_eq_true (List.all_eq_true.mp cN2 "phase" (by simp))), FI2.binds fun _ _ _ _ _ _ us hl => match us, hl with | [_, _], _ => rfl⟩
    have TTi : Cl1 l.prog w K mg base "BadTicks" (ga K "BadTicks") "ticks" := ⟨oex_ok cO3, xfB_ok cX3, gB3, of_decide_eq_true (List.all_eq_true.mp cN3 "ticks" (by simp)), of_decide_eq_true cT3, _, _, eqO_ok cI3, of_decide_eq_true cY3, ok_i_BadTicks FI3 (oex_ok cO3) (of_decide_eq_true (List.all_eq_true.mp cN3 "ticks" (by simp))), FI3.binds fun _ _ _ _ _ _ us hl => match us, hl with | [_, _], _ => rfl⟩
    have TTs : Cl1 l.prog w K mg base "BadTimes" (ga K "BadTimes") "repeats" := ⟨oex_ok cO4, xfB_ok cX4, gB4, of_decide_eq_true (List.all_eq_true.mp cN4 "repeats" (by simp)), of_decide_eq_true cT4, _, _, eqO_ok cI4, of_decide_eq_true cY4, ok_i_BadTimes FI4 (oex_ok cO4) (of_decide_eq_true (List.all_eq_true.mp cN4 "repeats" (by simp))), FI4.binds fun _ _ _ _ _ _ us hl => match us, hl with | [_, _], _ => rfl⟩
    have TUn : Cl1 l.prog w K mg base "BadUnit" (ga K "BadUnit") "unit" := ⟨oex_ok cO5, xfB_ok cX5, gB5, of_decide_eq_true (List.all_eq_true.mp cN5 "unit" (by simp)), of_decide_eq_true cT5, _, _, eqO_ok cI5, of_decide_eq_true cY5, ok_i_BadUnit FI5 (oex_ok cO5) (of_decide_eq_true (List.all_eq_true.mp cN5 "unit" (by simp))), FI5.binds fun _ _ _ _ _ _ us hl => match us, hl with | [_, _], _ => rfl⟩
    have W1 := dw1 (P := l.prog) (w := w) (base := base) F_is_whole T (mf 0 rfl)
    have W2 := dw2 (P := l.prog) (w := w) (base := base) F_is_whole T (mf 0 rfl)
    have W3 := dw3 (P := l.prog) (w := w) (base := base) F_is_whole T (mf 0 rfl)
    have D_is_ratio := def_of (P := l.prog) (w := w) (base := base) (ps := ["thing"]) F_is_ratio (ok_is_ratio (P := l.prog) (w := w) (base := base) F_is_ratio T W1 W2) (mf 1 rfl) fun _ _ _ _ _ _ us hl => match us, hl with | [_], _ => rfl
    have D__lowest := def_of (P := l.prog) (w := w) (base := base) (ps := ["top", "bottom"]) F__lowest (ok_lowest (P := l.prog) (w := w) (base := base) F__lowest T) (mf 3 rfl) fun _ _ _ _ _ _ us hl => match us, hl with | [_, _], _ => rfl
    have D_times := def_of (P := l.prog) (w := w) (base := base) (ps := ["one", "other"]) F_times (ok_times (P := l.prog) (w := w) (base := base) F_times T) (mf 4 rfl) fun _ _ _ _ _ _ us hl => match us, hl with | [_, _], _ => rfl
    have D_negative := def_of (P := l.prog) (w := w) (base := base) (ps := ["one"]) F_negative (ok_negative (P := l.prog) (w := w) (base := base) F_negative T) (mf 5 rfl) fun _ _ _ _ _ _ us hl => match us, hl with | [_], _ => rfl
    have D_size_of := def_of (P := l.prog) (w := w) (base := base) (ps := ["one"]) F_size_of (ok_size_of (P := l.prog) (w := w) (base := base) F_size_of T) (mf 6 rfl) fun _ _ _ _ _ _ us hl => match us, hl with | [_], _ => rfl
    have OKM := ok_make_ratio (P := l.prog) (w := w) (base := base) F_make_ratio T TBR W1 D__lowest
    have D_make : DefV l.prog w K mg base (L2.CX l.prog w) 3 "make_ratio" ["top", "bottom"] [] (spMakeR K (ga K "BadRatio")) := defV (dvs := [.int 1]) F_make_ratio OKM (mf 2 rfl) 2 1 (by decide) rfl fun _ _ _ _ _ _ _ us its hl hi => match us, its, hl, hi with | [_, _], [_], _, _ => ⟨_, rfl, rfl⟩
    have OKS := ok_is_sequence (P := l.prog) (w := w) (base := base) F_is_sequence T
    have D_seq : DSeq l.prog w K mg base := defV (dvs := [.int 0, .non]) F_is_sequence OKS (mf 7 rfl) 3 2 (by decide) rfl fun _ _ _ _ _ _ _ us its hl hi => match us, its, hl, hi with | [_, _, _], [_, _], _, _ => ⟨_, rfl, rfl⟩
    have E_check_phase := def_of (P := l.prog) (w := w) (base := base) (CX := L2.CX l.prog w) (ps := ["phase"]) F_check_phase (ok_check_phase (P := l.prog) (w := w) (base := base) F_check_phase TPh W2) (mf 8 rfl) fun _ _ _ _ _ _ us hl => match us, hl with | [_], _ => rfl
    have D_check_phase := dV E_check_phase
    have E_check_ticks := def_of (P := l.prog) (w := w) (base := base) (CX := L2.CX l.prog w) (ps := ["ticks"]) F_check_ticks (ok_check_ticks (P := l.prog) (w := w) (base := base) gT F_check_ticks TTi W3) (mf 9 rfl) fun _ _ _ _ _ _ us hl => match us, hl with | [_], _ => rfl
    have D_check_ticks := dV E_check_ticks
    have E_turned_row := def_of (P := l.prog) (w := w) (base := base) (CX := L2.CX l.prog w) (ps := ["row", "phases"]) F_turned_row (ok_turned_row (P := l.prog) (w := w) (base := base) F_turned_row D_check_phase) (mf 10 rfl) fun _ _ _ _ _ _ us hl => match us, hl with | [_, _], _ => rfl
    have D_turned_row := dV E_turned_row
    have E_repeated_row := def_of (P := l.prog) (w := w) (base := base) (CX := L2.CX l.prog w) (ps := ["row", "repeats"]) F_repeated_row (ok_repeated_row (P := l.prog) (w := w) (base := base) F_repeated_row T gP TTs W2) (mf 11 rfl) fun _ _ _ _ _ _ us hl => match us, hl with | [_, _], _ => rfl
    have D_repeated_row := dV E_repeated_row
    have D__check_factors := def_of (P := l.prog) (w := w) (base := base) (ps := ["factors"]) F__check_factors (ok_check_factors (P := l.prog) (w := w) (base := base) F__check_factors T gM gP gZ hZ D_seq D_is_ratio) (mf 12 rfl) fun _ _ _ _ _ _ us hl => match us, hl with | [_], _ => rfl
    have D__check_lengths := def_of (P := l.prog) (w := w) (base := base) (ps := ["lengths", "modes", "all_word", "one_word", "least"]) F__check_lengths (ok_check_lengths (P := l.prog) (w := w) (base := base) F__check_lengths T D_seq D_is_ratio) (mf 13 rfl) fun _ _ _ _ _ _ us hl => match us, hl with | [_, _, _, _, _], _ => rfl
    have D_check_mode : MethD l.prog w K mg base (L2.CX l.prog w) _ (ga K "Plant") "check_mode" _ _ := ⟨_, _, M_check_mode, ok_check_mode (P' := l.prog) (w := w) (base := base) FM_check_mode TC TMo W3, FM_check_mode.binds fun _ _ _ _ _ _ us hl => match us, hl with | [_, _], _ => rfl⟩
    have D__check_stretch : MethD l.prog w K mg base (L2.CX l.prog w) _ (ga K "Plant") "_check_stretch" _ _ := ⟨_, _, M__check_stretch, ok_check_stretch (P' := l.prog) (w := w) (base := base) FM__check_stretch TC D_check_mode D_check_phase D_check_ticks, FM__check_stretch.binds fun _ _ _ _ _ _ us hl => match us, hl with | [_, _, _, _], _ => rfl⟩
    have D__factors_met : MethD l.prog w K mg base CX0 _ (ga K "Plant") "_factors_met" _ _ := ⟨_, _, M__factors_met, ok_factors_met (P' := l.prog) (w := w) (base := base) FM__factors_met T TC, FM__factors_met.binds fun _ _ _ _ _ _ us hl => match us, hl with | [_, _, _, _], _ => rfl⟩
    have D_carried : MethD l.prog w K mg base (L2.CX l.prog w) _ (ga K "Plant") "carried" _ _ := ⟨_, _, M_carried, ok_carried (P' := l.prog) (w := w) (base := base) FM_carried TC D__check_stretch D__factors_met D_make, FM_carried.binds fun _ _ _ _ _ _ us hl => match us, hl with | [_, _, _, _], _ => rfl⟩
    have D_growth : MethD l.prog w K mg base (L2.CX l.prog w) _ (ga K "Plant") "growth" _ _ := ⟨_, _, M_growth, ok_growth (P' := l.prog) (w := w) (base := base) FM_growth TC D_carried D_size_of, FM_growth.binds fun _ _ _ _ _ _ us hl => match us, hl with | [_, _, _, _], _ => rfl⟩
    have D_gathered : MethD l.prog w K mg base (L2.CX l.prog w) _ (ga K "Plant") "gathered" _ _ := ⟨_, _, M_gathered, ok_gathered (P' := l.prog) (w := w) (base := base) FM_gathered T TC D__check_stretch D__factors_met D_make D_times, FM_gathered.binds fun _ _ _ _ _ _ us hl => match us, hl with | [_, _, _, _], _ => rfl⟩
    have D_grows : MethD l.prog w K mg base (L2.CX l.prog w) _ (ga K "Plant") "grows" _ _ := ⟨_, _, M_grows, ok_grows (P' := l.prog) (w := w) (base := base) FM_grows TC D_check_mode D_growth, FM_grows.binds fun _ _ _ _ _ _ us hl => match us, hl with | [_, _], _ => rfl⟩
    have D_Plant : MakeD l.prog w K mg base (L2.CX l.prog w) 8 "Plant" (ga K "Plant") ["self", "factors", "pushes", "starts"] (spNew K (ga K "Plant") al 3 fPlant) := ⟨_, _, He.mkr_ok (c.f.fact 5 rfl), ok_init (P' := l.prog) (w := w) (base := base) FM___init__ T TC D__check_factors D__check_lengths D_grows, FM___init__.binds fun _ _ _ _ _ _ us hl => match us, hl with | [_, _, _, _], _ => rfl, gPl⟩
    have D_with_unit : MethD l.prog w K mg base (L2.CX l.prog w) _ (ga K "Plant") "with_unit" _ _ := ⟨_, _, M_with_unit, ok_with_unit (P' := l.prog) (w := w) (base := base) FM_with_unit T TC TUn D_check_mode D_is_ratio D_times D_Plant, FM_with_unit.binds fun _ _ _ _ _ _ us hl => match us, hl with | [_, _, _], _ => rfl⟩
    have D_with_sign : MethD l.prog w K mg base (L2.CX l.prog w) _ (ga K "Plant") "with_sign" _ _ := ⟨_, _, M_with_sign, ok_with_sign (P' := l.prog) (w := w) (base := base) FM_with_sign T TC D_check_mode D_check_phase D_negative D_Plant, FM_with_sign.binds fun _ _ _ _ _ _ us hl => match us, hl with | [_, _, _], _ => rfl⟩
    have D_turned : MethD l.prog w K mg base (L2.CX l.prog w) _ (ga K "Plant") "turned" _ _ := ⟨_, _, M_turned, ok_turned (P' := l.prog) (w := w) (base := base) FM_turned T TC D_turned_row D_Plant, FM_turned.binds fun _ _ _ _ _ _ us hl => match us, hl with | [_, _], _ => rfl⟩
    have D_repeated : MethD l.prog w K mg base (L2.CX l.prog w) _ (ga K "Plant") "repeated" _ _ := ⟨_, _, M_repeated, ok_repeated (P' := l.prog) (w := w) (base := base) FM_repeated T TC D_repeated_row D_Plant, FM_repeated.binds fun _ _ _ _ _ _ us hl => match us, hl with | [_, _], _ => rfl⟩
    have D__law_mix := def_of (P := l.prog) (w := w) (base := base) (ps := ["number", "turn"]) F__law_mix (ok_mix (P := l.prog) (w := w) (base := base) F__law_mix T) (mf 14 rfl) fun _ _ _ _ _ _ us hl => match us, hl with | [_, _], _ => rfl
    have D__law_hand := def_of (P := l.prog) (w := w) (base := base) (ps := ["script"]) F__law_hand (ok_hand (P := l.prog) (w := w) (base := base) F__law_hand T) (mf 15 rfl) fun _ _ _ _ _ _ us hl => match us, hl with | [_], _ => rfl
    have D__law_draw := def_of (P := l.prog) (w := w) (base := base) (ps := ["hand", "many"]) F__law_draw (ok_draw (P := l.prog) (w := w) (base := base) F__law_draw T D__law_mix) (mf 16 rfl) fun _ _ _ _ _ _ us hl => match us, hl with | [_, _], _ => rfl
    have D__law_ratio := def_of (P := l.prog) (w := w) (base := base) (ps := ["top", "bottom"]) F__law_ratio (ok_Lratio (P := l.prog) (w := w) (base := base) F__law_ratio T) (mf 17 rfl) fun _ _ _ _ _ _ us hl => match us, hl with | [_, _], _ => rfl
    have D__law_plus := def_of (P := l.prog) (w := w) (base := base) (ps := ["a", "b"]) F__law_plus (ok_L_plus (P := l.prog) (w := w) (base := base) F__law_plus T D__law_ratio) (mf 18 rfl) fun _ _ _ _ _ _ us hl => match us, hl with | [_, _], _ => rfl
    have D__law_times := def_of (P := l.prog) (w := w) (base := base) (ps := ["a", "b"]) F__law_times (ok_L_times (P := l.prog) (w := w) (base := base) F__law_times T D__law_ratio) (mf 19 rfl) fun _ _ _ _ _ _ us hl => match us, hl with | [_, _], _ => rfl
    have D__law_less := def_of (P := l.prog) (w := w) (base := base) (ps := ["a", "b"]) F__law_less (ok_L_less (P := l.prog) (w := w) (base := base) F__law_less T) (mf 20 rfl) fun _ _ _ _ _ _ us hl => match us, hl with | [_, _], _ => rfl
    have D__law_size := def_of (P := l.prog) (w := w) (base := base) (ps := ["a"]) F__law_size (ok_L_size (P := l.prog) (w := w) (base := base) F__law_size T) (mf 21 rfl) fun _ _ _ _ _ _ us hl => match us, hl with | [_], _ => rfl
    have D__law_same := def_L_same (P := l.prog) (w := w) (base := base) F__law_same T (mf 23 rfl) F__law_same.kp (F__law_same.binds (ps := ["told", "due"]) fun _ _ _ _ _ _ us hl => match us, hl with | [_, _], _ => rfl) 2
    have D__law_any_ratio := def_of (P := l.prog) (w := w) (base := base) (ps := ["hand"]) F__law_any_ratio (ok_L_any_ratio (P' := l.prog) (w := w) (base := base) F__law_any_ratio T D__law_draw D__law_ratio) (mf 24 rfl) fun _ _ _ _ _ _ us hl => match us, hl with | [_], _ => rfl
    have D__law_plant_drawn := def_of (P := l.prog) (w := w) (base := base) (ps := ["hand"]) F__law_plant_drawn (ok_L_plant_drawn (P' := l.prog) (w := w) (base := base) F__law_plant_drawn T D__law_draw D__law_any_ratio D__law_size) (mf 25 rfl) fun _ _ _ _ _ _ us hl => match us, hl with | [_], _ => rfl
    have D__law_product := def_of (P := l.prog) (w := w) (base := base) (ps := ["line", "phase", "ticks"]) F__law_product (ok_L_product (P' := l.prog) (w := w) (base := base) F__law_product T D__law_times) (mf 26 rfl) fun _ _ _ _ _ _ us hl => match us, hl with | [_, _, _], _ => rfl
    have D__law_gathered := def_of (P := l.prog) (w := w) (base := base) (ps := ["line", "push", "phase", "ticks"]) F__law_gathered (ok_L_gathered (P' := l.prog) (w := w) (base := base) F__law_gathered T D__law_times D__law_plus D__law_size D__law_product) (mf 27 rfl) fun _ _ _ _ _ _ us hl => match us, hl with | [_, _, _, _], _ => rfl
    have D__law_played := def_of (P := l.prog) (w := w) (base := base) (ps := ["line", "phase", "ticks", "position", "pushes"]) F__law_played (ok_L_played (P' := l.prog) (w := w) (base := base) F__law_played T D__law_times D__law_plus) (mf 28 rfl) fun _ _ _ _ _ _ us hl => match us, hl with | [_, _, _, _, _], _ => rfl
    have D__law_word := def_of (P := l.prog) (w := w) (base := base) (ps := ["plant", "name", "mode", "phase", "ticks"]) F__law_word (ok_L_word (P' := l.prog) (w := w) (base := base) F__law_word TC AP TMo TPh TTi D_carried D_growth D_gathered) (mf 29 rfl) fun _ _ _ _ _ _ us hl => match us, hl with | [_, _, _, _, _], _ => rfl
    have D__law_other := def_of (P := l.prog) (w := w) (base := base) (ps := ["plant", "name", "mode", "thing"]) F__law_other (ok_L_other (P' := l.prog) (w := w) (base := base) F__law_other TC AP TMo TPh TUn TTs D_with_unit D_with_sign D_turned D_repeated) (mf 30 rfl) fun _ _ _ _ _ _ us hl => match us, hl with | [_, _, _, _], _ => rfl
    have D__law_refusals := def_of (P := l.prog) (w := w) (base := base) (ps := ["hand", "plant", "modes", "period"]) F__law_refusals (ok_L_refusals (P' := l.prog) (w := w) (base := base) F__law_refusals T TC TMo gH mh xt kt D__law_draw D__law_word D__law_other D_grows) (mf 31 rfl) fun _ _ _ _ _ _ us hl => match us, hl with | [_, _, _, _], _ => rfl
    have D__law_far := def_of (P := l.prog) (w := w) (base := base) (ps := ["hand"]) F__law_far (ok_L_far (P' := l.prog) (w := w) (base := base) F__law_far T TC D__law_draw D__law_ratio D__law_size D__law_same D_Plant D_carried D_growth D_gathered) (mf 32 rfl) fun _ _ _ _ _ _ us hl => match us, hl with | [_], _ => rfl
    exact ok_law (P' := l.prog) (w := w) (base := base) F T TC D__law_hand D__law_draw D__law_plant_drawn D_Plant D__law_product D__law_gathered D__law_played D__law_any_ratio D__law_size D__law_plus D__law_times D__law_less D__law_same D_carried D_growth D_gathered D_with_unit D_with_sign D__law_refusals D__law_far
end HH
open PySem PySem.W PySem.Calls PyProof.Rows
theorem PySem.Challenge.cw_farheld_k03_whole_growths_and_pushes_gat_holds : PySem.Challenge.rw_farheld_k03_whole_growths_and_pushes_gat.Holds := by
  w_on; o_law
  refine HandSHeadRun.head_imp (r := OpenLaw.row PySem.Challenge.rw_farheld_k03_whole_growths_and_pushes_gat) (q := view (OpenLaw.row PySem.Challenge.rw_farheld_k03_whole_growths_and_pushes_gat).prog [0, 52]) (H := HH.hk) (ob := HH.ob) (M := 40000) (loose := HR.names) (d := HandSHeadRun.topDef (OpenLaw.row PySem.Challenge.rw_farheld_k03_whole_growths_and_pushes_gat).prog 52) (kwd := []) HH.ob_eq
    HR.run (by kernel_rfl) (by kernel_rfl) (by kernel_rfl) (by rfl) (by first | assumption | decide +kernel) (by decide +kernel) ⟨rfl, rfl, rfl, rfl, rfl, by decide +kernel⟩ ?hw ?hc
  case hw => w_witness2
  case hc =>
    refine Dat.walk_G (l := PySem.Challenge.rw_farheld_k03_whole_growths_and_pushes_gat) (n := 63) (k := 14) (x := "script") (CX := L2.CX0) rfl (by decide) (by kernel_rfl) ⟨rfl, by decide, by decide⟩ ?F (fun _ _ _ _ z => z)
    intro w mg fa h Y G hmg0
    obtain ⟨K, KX, c⟩ := Y
    have hmg : mg ("law" : PySem.Str) = some (.ref fa) := by
      have e : (HandSHeadRun.topDef (OpenLaw.row PySem.Challenge.rw_farheld_k03_whole_growths_and_pushes_gat).prog 52).name = ("law" : PySem.Str) := by kernel_rfl
      rw [← e]
      exact hmg0
    obtain ⟨fd, hb, hF⟩ := HH.facts (l := PySem.Challenge.rw_farheld_k03_whole_growths_and_pushes_gat) (w := w) KX G hmg c
    exact ⟨K, fd, K03.spLaw K, KX, hb, fun H a ns hl _ hS => ⟨a, ns, rfl, hS, hl, fun _ => rfl⟩, hF⟩
