import PyProof.Rows.All
import Wide.All
import OpenK.AllK
import Wide.FinOn
import HandS.ForMost
import HandS.ForExc
import HandS.Wide
import HandS.Gcd
import HandS.IsInst
import HandS.Evl
import HandS.TupLe
import HandS.Style
import HandS.Defaults
import HandS.TryOnly
import HandS.Star
import HandS.Deep
import HandS.ExcInit
import HandS.ExcField
import HandS.WordsExc
import HandS.Ends
import HandS.HeadEnd
import PyProof.ReprRoads
import PyProof.Rows.ReprR
import PyProof.ReprLen
import HandS.Head0
import HandS.Head1
import HandS.Head2
import HandS.Head3
import HandS.HeadHook1
import HandS.HeadHook2
import PySem.Challenge.RW_farheld_k33_whole_cells_and_middles
set_option Elab.async false
set_option linter.all false
set_option maxRecDepth 100000
set_option maxHeartbeats 4000000
/-! Programs over data (numbers, truths, texts, lists and tuples that nobody changes): what an expression comes to, as a datum, over heaps that only grow. -/
namespace Dat
open PySem L2 Evl
section
variable {X : Cx}
/-- // by any number other than 0 of less than 9000 bits -/
def CDivA (_ j : Int) : Prop := j ≠ 0 ∧ j.natAbs.log2 < 9000
theorem op_fdivA : OpR X (binaryOp .FloorDiv) (rI CDivA fun i j => .int (i.fdiv j)) := opI fun i j _ _ _ _ _ hc q => PyProof.Rows.floordiv_int hc.1 q (.inl (PyProof.noPylong_of_log2 hc.2))
end
section
variable {K : PySem.W.Frag}
mutual
theorem dp_grow {H H' : Hp} (e : Ex H H') : ∀ (d : PyData) (v : V), Dp K H v d → Dp K H' v d
  | .none, _, h => by
    cases h
    exact .non
  | .bool b, _, h => by
    cases h
    exact .bl b
  | .int i, _, h => by
    cases h
    exact .int i
  | .str x, _, h => by
    cases h
    exact .str x
  | .list ds, _, h => by
    cases h with
    | lst hs ha => exact .lst (ex_l e hs) (dps_grow e ds _ ha)
  | .tuple ds, _, h => by
    cases h with
    | tup hs ha => exact .tup (ex_t e hs) (dps_grow e ds _ ha)
  | .dict _, _, h => by cases h
theorem dps_grow {H H' : Hp} (e : Ex H H') : ∀ (ds : List PyData) (vs : List V), DpAll K H vs ds → DpAll K H' vs ds
  | [], _, h => by
    cases h
    exact .nil
  | d :: ds, _, h => by
    cases h with
    | cons h1 h2 => exact .cons (dp_grow e d _ h1) (dps_grow e ds _ h2)
end
theorem dps_len {H : Hp} : ∀ {vs : List V} {ds : List PyData}, DpAll K H vs ds → vs.length = ds.length
  | _, _, .nil => rfl
  | _, _, .cons _ t => by rw [List.length_cons, List.length_cons, dps_len t]
theorem dps_get {H : Hp} : ∀ {vs : List V} {ds : List PyData} {i : Nat} {d : PyData}, DpAll K H vs ds → ds[i]? = some d → ∃ v, vs[i]? = some v ∧ Dp K H v d
  | _, _, i, d, .nil, e => by cases e
  | _, _, 0, d, .cons h _, e => by
    cases e
    exact ⟨_, rfl, h⟩
  | _, _, i + 1, d, .cons _ t, e => dps_get (i := i) (d := d) t e
theorem dps_back {H : Hp} : ∀ {vs : List V} {ds : List PyData} {i : Nat} {v : V}, DpAll K H vs ds → vs[i]? = some v → ∃ d, ds[i]? = some d ∧ Dp K H v d
  | _, _, i, v, .nil, e => by cases e
  | _, _, 0, v, .cons h _, e => by
    cases e
    exact ⟨_, rfl, h⟩
  | _, _, i + 1, v, .cons _ t, e => dps_back (i := i) (v := v) t e
theorem dps_at {H : Hp} {vs : List V} {ds : List PyData} {i : Int} {d : PyData} (h : DpAll K H vs ds) (e : atI ds i = some d) : ∃ v, atI vs i = some v ∧ Dp K H v d := by
  unfold atI at e ⊢
  rw [dps_len h]
  cases q : ixN ds.length i with
  | none =>
    rw [q] at e
    cases e
  | some j =>
    rw [q] at e
    exact dps_get h e
theorem dps_app {H : Hp} : ∀ {vs ws : List V} {ds es : List PyData}, DpAll K H vs ds → DpAll K H ws es → DpAll K H (vs ++ ws) (ds ++ es)
  | _, _, _, _, .nil, t => t
  | _, _, _, _, .cons h r, t => .cons h (dps_app r t)

/-! ### judgements -/
def EvD (K : PySem.W.Frag) (te : TE) (σ : L2.St) (H : Hp) (d : PyData) : Prop := ∀ H1, Ex H H1 → ∀ Q : VK, (∀ v H2, Ex H1 H2 → Dp K H2 v d → Q v H2) → te σ H1 Q
def EvDs (K : PySem.W.Frag) (ta : TA) (σ : L2.St) (H : Hp) (ds : List PyData) : Prop := ∀ H1, Ex H H1 → ∀ Q : List V → Hp → Prop, (∀ vs H2, Ex H1 H2 → DpAll K H2 vs ds → Q vs H2) → ta σ H1 Q
def EvB (tt : TT) (σ : L2.St) (H : Hp) (b : Bool) : Prop := ∀ H1, Ex H H1 → ∀ Q : Bool → Hp → Prop, (∀ H2, Ex H1 H2 → Q b H2) → tt σ H1 Q
/-- the slot i holds the datum d -/
def Sl (K : PySem.W.Frag) (σ : L2.St) (H : Hp) (i : Nat) (d : PyData) : Prop := ∃ v, σ[i]? = some (some v) ∧ Dp K H v d
variable {σ : L2.St} {H H' : Hp} {te tb tx : TE} {ta : TA} {t u : TT} {d e : PyData} {ds : List PyData}
theorem EvD.mono (x : Ex H H') (h : EvD K te σ H d) : EvD K te σ H' d := fun H1 a Q q => h H1 (x.trans a) Q q
theorem EvB.mono {b : Bool} (x : Ex H H') (h : EvB t σ H b) : EvB t σ H' b := fun H1 a Q q => h H1 (x.trans a) Q q
theorem d_var {i : Nat} (h : Sl K σ H i d) : EvD K (tVar i) σ H d := fun H1 x Q k => by
  obtain ⟨v, hs, hv⟩ := h
  exact ⟨v, hs, k v H1 (Ex.refl H1) (dp_grow x _ _ hv)⟩
theorem d_c {v : V} (h : ∀ H, Dp K H v d) : EvD K (tC v) σ H d := fun H1 _ Q k => k _ H1 (Ex.refl H1) (h _)
theorem d_int {i : Int} : EvD K (tC (.int i)) σ H (.int i) := d_c fun _ => .int i
theorem d_bl {b : Bool} : EvD K (tC (.bl b)) σ H (.bool b) := d_c fun _ => .bl b
theorem d_non : EvD K (tC .non) σ H .none := d_c fun _ => .non
theorem d_str {x : Str} : EvD K (tC (.str x)) σ H (.str x) := d_c fun _ => .str x
theorem ds_nil : EvDs K tNil σ H [] := fun H1 _ Q k => k [] H1 (Ex.refl H1) .nil
theorem ds_cons (h : EvD K te σ H d) (r : EvDs K ta σ H ds) : EvDs K (tCons te ta) σ H (d :: ds) := fun H1 x Q k =>
  h H1 x _ fun v H2 x2 hv => r H2 (x.trans x2) _ fun vs H3 x3 hvs => k _ H3 (x2.trans x3) (.cons (dp_grow x3 _ _ hv) hvs)
theorem d_tup (h : EvDs K ta σ H ds) (hl : ds.length ≤ 1000) : EvD K (tTup ta) σ H (.tuple ds) := fun H1 x Q k =>
  h H1 x _ fun vs H2 x2 hvs => ⟨sz_of (by rw [dps_len hvs]; omega), fun p hp => k _ _ (x2.trans (Ex.new hp)) (.tup (st_of upd_same) (dps_grow (Ex.new hp) _ _ hvs))⟩
theorem d_lst (h : EvDs K ta σ H ds) (hl : ds.length ≤ 1000) : EvD K (tLst ta) σ H (.list ds) := fun H1 x Q k =>
  h H1 x _ fun vs H2 x2 hvs => ⟨sz_of (by rw [dps_len hvs]; omega), fun p hp => k _ _ (x2.trans (Ex.new hp)) (.lst (sq_of upd_same) (dps_grow (Ex.new hp) _ _ hvs))⟩
/-- a two-place operation over ints -/
theorem d_I {C : Int → Int → Prop} {g : Int → Int → V} {i j : Int} (h : EvD K te σ H (.int i)) (r : EvD K tb σ H (.int j)) (hc : C i j) (hg : ∀ H, Dp K H (g i j) d) : EvD K (tOp (rI C g) te tb) σ H d := fun H1 x Q k =>
  h H1 x _ fun v H2 x2 hv => r H2 (x.trans x2) _ fun w H3 x3 hw => by
    cases hv
    cases hw
    exact ⟨i, j, rfl, rfl, hc, k _ H3 (x2.trans x3) (hg _)⟩
theorem d_I0 {g : Int → Int → V} {i j : Int} (h : EvD K te σ H (.int i)) (r : EvD K tb σ H (.int j)) (hg : ∀ H, Dp K H (g i j) d) : EvD K (tOp (rI0 g) te tb) σ H d := fun H1 x Q k =>
  h H1 x _ fun v H2 x2 hv => r H2 (x.trans x2) _ fun w H3 x3 hw => by
    cases hv
    cases hw
    exact ⟨i, j, rfl, rfl, k _ H3 (x2.trans x3) (hg _)⟩
section
variable {i j : Int}
theorem d_add (h : EvD K te σ H (.int i)) (r : EvD K tb σ H (.int j)) : EvD K (tOp (rI0 fun i j => .int (i + j)) te tb) σ H (.int (i + j)) := d_I0 h r fun _ => .int _
theorem d_sub (h : EvD K te σ H (.int i)) (r : EvD K tb σ H (.int j)) : EvD K (tOp (rI0 fun i j => .int (i - j)) te tb) σ H (.int (i - j)) := d_I0 h r fun _ => .int _
theorem d_mul (h : EvD K te σ H (.int i)) (r : EvD K tb σ H (.int j)) (hc : CMulW i j) : EvD K (tOp (rI CMulW fun i j => .int (i * j)) te tb) σ H (.int (i * j)) := d_I h r hc fun _ => .int _
theorem d_fdiv (h : EvD K te σ H (.int i)) (r : EvD K tb σ H (.int j)) (hc : CDivA i j) : EvD K (tOp (rI CDivA fun i j => .int (i.fdiv j)) te tb) σ H (.int (i.fdiv j)) := d_I h r hc fun _ => .int _
theorem d_mod (h : EvD K te σ H (.int i)) (r : EvD K tb σ H (.int j)) (hc : 0 < j) : EvD K (tOp (rI (fun _ j => 0 < j) fun i j => .int (i % j)) te tb) σ H (.int (i % j)) := d_I h r hc fun _ => .int _
theorem d_lt (h : EvD K te σ H (.int i)) (r : EvD K tb σ H (.int j)) : EvD K (tOp (rI0 fun i j => .bl (decide (i < j))) te tb) σ H (.bool (decide (i < j))) := d_I0 h r fun _ => .bl _
theorem d_le (h : EvD K te σ H (.int i)) (r : EvD K tb σ H (.int j)) : EvD K (tOp (rI0 fun i j => .bl (decide (i ≤ j))) te tb) σ H (.bool (decide (i ≤ j))) := d_I0 h r fun _ => .bl _
theorem d_gt (h : EvD K te σ H (.int i)) (r : EvD K tb σ H (.int j)) : EvD K (tOp (rI0 fun i j => .bl (decide (j < i))) te tb) σ H (.bool (decide (j < i))) := d_I0 h r fun _ => .bl _
theorem d_ge (h : EvD K te σ H (.int i)) (r : EvD K tb σ H (.int j)) : EvD K (tOp (rI0 fun i j => .bl (decide (j ≤ i))) te tb) σ H (.bool (decide (j ≤ i))) := d_I0 h r fun _ => .bl _
theorem d_eqI (h : EvD K te σ H (.int i)) (r : EvD K tb σ H (.int j)) : EvD K (tOp rEq te tb) σ H (.bool (decide (i = j))) := fun H1 x Q k =>
  h H1 x _ fun v H2 x2 hv => r H2 (x.trans x2) _ fun w H3 x3 hw => by
    cases hv
    cases hw
    refine ⟨rfl, ?_⟩
    have z : decide (V.int i = V.int j) = decide (i = j) := by
      by_cases q : i = j
      · subst q
        rw [decide_eq_true rfl, decide_eq_true rfl]
      · rw [decide_eq_false q, decide_eq_false (fun z => q (V.int.inj z))]
    rw [z]
    exact k _ H3 (x2.trans x3) (.bl _)
theorem d_neI (h : EvD K te σ H (.int i)) (r : EvD K tb σ H (.int j)) : EvD K (tOp rNe te tb) σ H (.bool (decide (i ≠ j))) := fun H1 x Q k =>
  h H1 x _ fun v H2 x2 hv => r H2 (x.trans x2) _ fun w H3 x3 hw => by
    cases hv
    cases hw
    refine ⟨rfl, ?_⟩
    have z : (!decide (V.int i = V.int j)) = decide (i ≠ j) := by
      by_cases q : i = j
      · subst q
        rw [decide_eq_true rfl, decide_eq_false (fun z => z rfl)]
        rfl
      · rw [decide_eq_true q, decide_eq_false (fun z => q (V.int.inj z))]
        rfl
    rw [z]
    exact k _ H3 (x2.trans x3) (.bl _)
theorem d_neg (h : EvD K te σ H (.int i)) : EvD K (tUn (rU fun i => .int (-i)) te) σ H (.int (-i)) := fun H1 x Q k =>
  h H1 x _ fun v H2 x2 hv => by
    cases hv
    exact ⟨i, rfl, k _ H2 x2 (.int _)⟩
theorem d_abs (h : EvD K te σ H (.int i)) : EvD K (tCB (fun xs H Q => ∃ i, xs = [.int i] ∧ Q (.int (if i < 0 then -i else i)) H) (tCons te tNil)) σ H (.int (i.natAbs : Int)) := fun H1 x Q k =>
  h H1 x _ fun v H2 x2 hv => by
    cases hv
    refine ⟨i, rfl, ?_⟩
    have z : (if i < 0 then -i else i) = (i.natAbs : Int) := by
      split <;> omega
    rw [z]
    exact k _ H2 x2 (.int _)
theorem d_toInt (h : EvD K te σ H (.int i)) : EvD K (tCB (fun xs H Q => (∃ i, xs = [.int i] ∧ Q (.int i) H) ∨ ∃ k, xs = [.bl k] ∧ Q (.int (if k then 1 else 0)) H) (tCons te tNil)) σ H (.int i) := fun H1 x Q k =>
  h H1 x _ fun v H2 x2 hv => by
    cases hv
    exact .inl ⟨i, rfl, k _ H2 x2 (.int _)⟩
theorem d_toIntB {b : Bool} (h : EvD K te σ H (.bool b)) : EvD K (tCB (fun xs H Q => (∃ i, xs = [.int i] ∧ Q (.int i) H) ∨ ∃ k, xs = [.bl k] ∧ Q (.int (if k then 1 else 0)) H) (tCons te tNil)) σ H (.int (if b then 1 else 0)) := fun H1 x Q k =>
  h H1 x _ fun v H2 x2 hv => by
    cases hv
    exact .inr ⟨b, rfl, k _ H2 x2 (.int _)⟩
theorem d_gcd (h : EvD K te σ H (.int i)) (r : EvD K tb σ H (.int j)) : EvD K (tCB rGcd (tCons te (tCons tb tNil))) σ H (.int ((Nat.gcd i.natAbs j.natAbs : Nat) : Int)) := fun H1 x Q k =>
  h H1 x _ fun v H2 x2 hv => r H2 (x.trans x2) _ fun w H3 x3 hw => by
    cases hv
    cases hw
    exact ⟨i, j, rfl, k _ H3 (x2.trans x3) (.int _)⟩
/-- t[i], xs[i] -/
theorem d_ixT (h : EvD K te σ H (.tuple ds)) (r : EvD K tb σ H (.int i)) (e : atI ds i = some d) : EvD K (tOp (rIxT K) te tb) σ H d := fun H1 x Q k =>
  h H1 x _ fun v H2 x2 hv => r H2 (x.trans x2) _ fun w H3 x3 hw => by
    cases dp_grow x3 _ _ hv with
    | tup hs ha =>
      cases hw
      obtain ⟨z, hz, hd⟩ := dps_at ha e
      exact ⟨_, _, i, z, rfl, rfl, hs, hz, k _ H3 (x2.trans x3) hd⟩
theorem d_ixL (h : EvD K te σ H (.list ds)) (r : EvD K tb σ H (.int i)) (e : atI ds i = some d) : EvD K (tOp (rIxL K) te tb) σ H d := fun H1 x Q k =>
  h H1 x _ fun v H2 x2 hv => r H2 (x.trans x2) _ fun w H3 x3 hw => by
    cases dp_grow x3 _ _ hv with
    | lst hs ha =>
      cases hw
      obtain ⟨z, hz, hd⟩ := dps_at ha e
      exact ⟨_, _, i, z, rfl, rfl, hs, hz, k _ H3 (x2.trans x3) hd⟩
theorem d_lenL (h : EvD K te σ H (.list ds)) : EvD K (tCB (fun xs H Q => ∃ p ys, xs = [.ref p] ∧ (SqL K H p ys ∨ SqT K H p ys) ∧ Q (.int ys.length) H) (tCons te tNil)) σ H (.int ds.length) := fun H1 x Q k =>
  h H1 x _ fun v H2 x2 hv => by
    cases hv with
    | lst hs ha =>
      refine ⟨_, _, rfl, .inl hs, ?_⟩
      rw [dps_len ha]
      exact k _ H2 x2 (.int _)
theorem d_lenT (h : EvD K te σ H (.tuple ds)) : EvD K (tCB (fun xs H Q => ∃ p ys, xs = [.ref p] ∧ (SqL K H p ys ∨ SqT K H p ys) ∧ Q (.int ys.length) H) (tCons te tNil)) σ H (.int ds.length) := fun H1 x Q k =>
  h H1 x _ fun v H2 x2 hv => by
    cases hv with
    | tup hs ha =>
      refine ⟨_, _, rfl, .inr hs, ?_⟩
      rw [dps_len ha]
      exact k _ H2 x2 (.int _)
end
/-- == and != of data -/
theorem d_eqD (h : EvD K te σ H d) (r : EvD K tb σ H e) (hd : SeqAt.shaped d = true) (he : SeqAt.shaped e = true) : EvD K (tOp (rEqD K) te tb) σ H (.bool (PyData.eqv d e)) := fun H1 x Q k =>
  h H1 x _ fun v H2 x2 hv => r H2 (x.trans x2) _ fun w H3 x3 hw => ⟨d, e, dp_grow x3 _ _ hv, hw, hd, he, k _ H3 (x2.trans x3) (.bl _)⟩
theorem d_neD (h : EvD K te σ H d) (r : EvD K tb σ H e) (hd : SeqAt.shaped d = true) (he : SeqAt.shaped e = true) : EvD K (tOp (rNeD K) te tb) σ H (.bool (!PyData.eqv d e)) := fun H1 x Q k =>
  h H1 x _ fun v H2 x2 hv => r H2 (x.trans x2) _ fun w H3 x3 hw => ⟨d, e, dp_grow x3 _ _ hv, hw, hd, he, k _ H3 (x2.trans x3) (.bl _)⟩
def isNone : PyData → Bool
  | .none => true
  | _ => false
theorem dec_none {v : V} {H : Hp} (h : Dp K H v d) : decide (v = V.non) = isNone d := by
  cases h <;> rfl
theorem d_isN (h : EvD K te σ H d) : EvD K (tOp (fun x y H Q => y = .non ∧ Q (.bl (decide (x = .non))) H) te (tC .non)) σ H (.bool (isNone d)) := fun H1 x Q k =>
  h H1 x _ fun v H2 x2 hv => ⟨rfl, by
    rw [dec_none hv]
    exact k _ H2 x2 (.bl _)⟩
theorem d_notN (h : EvD K te σ H d) : EvD K (tOp (fun x y H Q => y = .non ∧ Q (.bl (!decide (x = .non))) H) te (tC .non)) σ H (.bool (!isNone d)) := fun H1 x Q k =>
  h H1 x _ fun v H2 x2 hv => ⟨rfl, by
    rw [dec_none hv]
    exact k _ H2 x2 (.bl _)⟩
theorem d_isB {a b : Bool} (h : EvD K te σ H (.bool a)) (r : EvD K tb σ H (.bool b)) : EvD K (tOp (fun x y H Q => ∃ a b, x = .bl a ∧ y = .bl b ∧ Q (.bl (decide (a = b))) H) te tb) σ H (.bool (decide (a = b))) := fun H1 x Q k =>
  h H1 x _ fun v H2 x2 hv => r H2 (x.trans x2) _ fun w H3 x3 hw => by
    cases hv
    cases hw
    exact ⟨a, b, rfl, rfl, k _ H3 (x2.trans x3) (.bl _)⟩
/-! ### truths -/
theorem d_and {a b : Bool} (h : EvD K te σ H (.bool a)) (r : a = true → EvD K tb σ H (.bool b)) : EvD K (tAndV te tb) σ H (.bool (a && b)) := fun H1 x Q k =>
  h H1 x _ fun v H2 x2 hv => by
    cases hv
    refine ⟨a, rfl, ?_⟩
    cases a with
    | true =>
      show tb σ H2 Q
      exact r rfl H2 (x.trans x2) Q fun v H3 x3 hv => k v H3 (x2.trans x3) hv
    | false =>
      show Q (.bl false) H2
      exact k _ H2 x2 (.bl _)
theorem d_or {a b : Bool} (h : EvD K te σ H (.bool a)) (r : a = false → EvD K tb σ H (.bool b)) : EvD K (tOrV te tb) σ H (.bool (a || b)) := fun H1 x Q k =>
  h H1 x _ fun v H2 x2 hv => by
    cases hv
    refine ⟨a, rfl, ?_⟩
    cases a with
    | false =>
      show tb σ H2 Q
      exact r rfl H2 (x.trans x2) Q fun v H3 x3 hv => k v H3 (x2.trans x3) hv
    | true =>
      show Q (.bl true) H2
      exact k _ H2 x2 (.bl _)
theorem d_not {a : Bool} (h : EvD K te σ H (.bool a)) : EvD K (tNotV te) σ H (.bool (!a)) := fun H1 x Q k =>
  h H1 x _ fun v H2 x2 hv => by
    cases hv
    exact ⟨a, rfl, k _ H2 x2 (.bl _)⟩
theorem b_test {b : Bool} (h : EvD K te σ H (.bool b)) : EvB (tTest te) σ H b := fun H1 x Q k => h H1 x _ fun v H2 x2 hv => by
  cases hv
  exact ⟨b, rfl, k H2 x2⟩
theorem b_val {b : Bool} (h : EvD K te σ H (.bool b)) : EvB (tB te) σ H b := fun H1 x Q k => h H1 x _ fun v H2 x2 hv => by
  cases hv
  exact ⟨b, rfl, k H2 x2⟩
theorem b_not {a : Bool} (h : EvB t σ H a) : EvB (tNot t) σ H (!a) := fun H1 x Q k => h H1 x _ fun H2 x2 => k H2 x2
theorem b_and {a b : Bool} (h : EvB t σ H a) (r : a = true → EvB u σ H b) : EvB (tAnd t u) σ H (a && b) := fun H1 x Q k => h H1 x _ fun H2 x2 => by
  cases a with
  | true =>
    show u σ H2 Q
    exact r rfl H2 (x.trans x2) Q fun H3 x3 => k H3 (x2.trans x3)
  | false =>
    show Q false H2
    exact k H2 x2
theorem b_or {a b : Bool} (h : EvB t σ H a) (r : a = false → EvB u σ H b) : EvB (tOr t u) σ H (a || b) := fun H1 x Q k => h H1 x _ fun H2 x2 => by
  cases a with
  | false =>
    show u σ H2 Q
    exact r rfl H2 (x.trans x2) Q fun H3 x3 => k H3 (x2.trans x3)
  | true =>
    show Q true H2
    exact k H2 x2
theorem d_if {b : Bool} (h : EvB t σ H b) (r1 : b = true → EvD K te σ H d) (r2 : b = false → EvD K tb σ H d) : EvD K (tIf t te tb) σ H d := fun H1 x Q k => h H1 x _ fun H2 x2 => by
  cases b with
  | true =>
    show te σ H2 Q
    exact r1 rfl H2 (x.trans x2) Q fun v H3 x3 hv => k v H3 (x2.trans x3) hv
  | false =>
    show tb σ H2 Q
    exact r2 rfl H2 (x.trans x2) Q fun v H3 x3 hv => k v H3 (x2.trans x3) hv
theorem d_ite {b : Bool} (h : EvB t σ H b) (r1 : b = true → EvD K te σ H d) (r2 : b = false → EvD K tb σ H e) : EvD K (tIf t te tb) σ H (if b = true then d else e) := fun H1 x Q k => h H1 x _ fun H2 x2 => by
  cases b with
  | true =>
    show te σ H2 Q
    exact r1 rfl H2 (x.trans x2) Q fun v H3 x3 hv => k v H3 (x2.trans x3) (by rw [if_pos rfl]; exact hv)
  | false =>
    show tb σ H2 Q
    exact r2 rfl H2 (x.trans x2) Q fun v H3 x3 hv => k v H3 (x2.trans x3) (by rw [if_neg Bool.false_ne_true]; exact hv)
theorem d_is (h : EvD K te σ H d) (q : d = e) : EvD K te σ H e := q ▸ h
theorem b_is {a b : Bool} (h : EvB t σ H a) (q : a = b) : EvB t σ H b := q ▸ h
/-! ### kinds -/
/-- the name of a datum's type -/
def kind : PyData → String
  | .none => "NoneType"
  | .bool _ => "bool"
  | .int _ => "int"
  | .str _ => "str"
  | .list _ => "list"
  | .tuple _ => "tuple"
  | .dict _ => "dict"
theorem tyx_of {v : V} {H : Hp} (h : Dp K H v d) : TyX K H v (.type (kind d)) := by
  cases h with
  | non => exact .base .non
  | bl b => exact .base (.bl b)
  | int i => exact .base (.int i)
  | str x => exact .base (.str x)
  | lst hs _ =>
    rcases hs with (h | ⟨o, h⟩) | ⟨o, its, n, h, hc, _⟩
    · exact .base (.lst h)
    · exact .base (.frz h)
    · exact .kList h hc
  | tup hs _ =>
    rcases hs with (h | ⟨o, h⟩) | ⟨o, its, n, h, hc, _⟩
    · exact .base (.tup h)
    · exact .fTuple h
    · exact .kTuple h hc
theorem d_isi {c : String} {b : Bool} (h : EvD K te σ H d) (e : kitB (kind d) c = some b) : EvD K (tCB (rIsi K) (tCons te (tCons (tC (.ty c)) tNil))) σ H (.bool b) := fun H1 x Q k =>
  h H1 x _ fun v H2 x2 hv => ⟨v, .ty c, _, _, b, rfl, .ty c, tyx_of hv, kit_ty e, k _ H2 x2 (.bl _)⟩
/-- isinstance(x, (T, U)) -/
theorem d_isiT {c c' : String} {b b' : Bool} (h : EvD K te σ H d) (e : kitB (kind d) c = some b) (e' : kitB (kind d) c' = some b') : EvD K (tCB (rIsiT K) (tCons te (tCons (tTup (tCons (tC (.ty c)) (tCons (tC (.ty c')) tNil))) tNil))) σ H (.bool (b || b')) := fun H1 x Q k =>
  h H1 x _ fun v H2 x2 hv => ⟨sz_of (by show 2 ≤ 100000; decide), fun p hp => ⟨v, p, [.ty c, .ty c'], _, [.type c, .type c'], b || b', rfl, upd_same, .cons (.ty c) (.cons (.ty c') .nil), tyx_of (dp_grow (Ex.new hp) _ _ hv), by
    unfold PySem.W.kitAny PySem.W.kitAny PySem.W.kitAny
    rw [kit_ty e, kit_ty e']
    cases b <;> cases b' <;> rfl, k _ _ (x2.trans (Ex.new hp)) (.bl _)⟩⟩
/-! ### calls -/
/-- a def that makes of data a datum -/
def spD (K : PySem.W.Frag) (n : Nat) (f : List PyData → PyData → Prop) : Sp := fun vs H Q _ => ∃ ds d, ds.length = n ∧ DpAll K H vs ds ∧ f ds d ∧ ∀ v H', Ex H H' → Dp K H' v d → Q v H'
theorem d_call {n : Nat} {f : List PyData → PyData → Prop} {E : XK} (h : EvDs K ta σ H ds) (hl : ds.length = n) (hf : f ds d) : EvD K (tCall (spD K n f) [] E ta) σ H d := fun H1 x Q k =>
  h H1 x _ fun vs H2 x2 hvs => by
    refine ⟨ds, d, hl, ?_, hf, fun v H' x' hv => k v H' (x2.trans x') hv⟩
    rw [List.append_nil]
    exact hvs
/-! ### statements -/
variable {D : Ends} {tu tw : TS}
theorem z_set {i : Nat} {ts : TS} (h : EvD K te σ H d) (k : ∀ v H1, Ex H H1 → Dp K H1 v d → ts D (σ.set i (some v)) H1) : tSeq (tAsg te (gName i)) ts D σ H := h H (Ex.refl H) _ k
theorem z_if {b : Bool} {ts : TS} (h : EvB t σ H b) (k1 : b = true → ∀ H1, Ex H H1 → tu { D with nx := ts D } σ H1) (k2 : b = false → ∀ H1, Ex H H1 → tw { D with nx := ts D } σ H1) : tSeq (tIfS t tu tw) ts D σ H := h H (Ex.refl H) _ fun H1 x => by
  cases b with
  | true =>
    show tu _ σ H1
    exact k1 rfl H1 x
  | false =>
    show tw _ σ H1
    exact k2 rfl H1 x
theorem z_if1 {b : Bool} (h : EvB t σ H b) (k1 : b = true → ∀ H1, Ex H H1 → tu D σ H1) (k2 : b = false → ∀ H1, Ex H H1 → tw D σ H1) : tIfS t tu tw D σ H := h H (Ex.refl H) _ fun H1 x => by
  cases b with
  | true =>
    show tu D σ H1
    exact k1 rfl H1 x
  | false =>
    show tw D σ H1
    exact k2 rfl H1 x
theorem z_ret (h : EvD K te σ H d) (k : ∀ v H1, Ex H H1 → Dp K H1 v d → D.rt v H1) : tRet te D σ H := h H (Ex.refl H) _ k
theorem z_set1 {i : Nat} (h : EvD K te σ H d) (k : ∀ v H1, Ex H H1 → Dp K H1 v d → D.nx (σ.set i (some v)) H1) : tAsg te (gName i) D σ H := h H (Ex.refl H) _ k
theorem z_next (h : D.nx σ H) : tNext D σ H := h
theorem x_set {i : Nat} {v : V} {ts : TS} (h : ∀ Q : VK, Q v H → te σ H Q) (k : ts D (σ.set i (some v)) H) : tSeq (tAsg te (gName i)) ts D σ H := h _ k
theorem z_while {c : TT} {ts : TS} (Pv : L2.St → Hp → Prop) (μ : L2.St → Hp → Nat) (h0 : Pv σ H)
    (hs : ∀ σ1 H1, Pv σ1 H1 → c σ1 H1 fun b H2 => if b = true then tu { D with nx := fun σ2 H3 => Pv σ2 H3 ∧ μ σ2 H3 < μ σ1 H1, ct := fun σ2 H3 => Pv σ2 H3 ∧ μ σ2 H3 < μ σ1 H1, bk := ts D } σ1 H2 else ts D σ1 H2)
    (mono : ∀ σ1 H1 Q Q', (∀ b H2, Q b H2 → Q' b H2) → c σ1 H1 Q → c σ1 H1 Q') : tSeq (tWhile c tu) ts D σ H := while_by (D := { D with nx := ts D }) Pv μ h0 hs mono
theorem Sl.mono {i : Nat} (x : Ex H H') (h : Sl K σ H i d) : Sl K σ H' i d := by
  obtain ⟨v, hs, hv⟩ := h
  exact ⟨v, hs, dp_grow x _ _ hv⟩
/-- x, y = t (a tuple of two) -/
theorem g_two {i j : Nat} {v : V} {a b : PyData} {Q : L2.St → Hp → Prop} {n : Nat} (hv : Dp K H v (.tuple [a, b])) (hn : n = 2) (k : ∀ x y, Dp K H x a → Dp K H y b → Q ((σ.set i (some x)).set j (some y)) H) : gTup K n (gCons (gName i) (gCons (gName j) gNil)) v σ H Q := by
  cases hv with
  | tup hs ha =>
    cases ha with
    | cons h1 t1 =>
      cases t1 with
      | cons h2 t2 =>
        cases t2
        exact ⟨_, _, rfl, hs, hn.symm, _, _, rfl, _, _, rfl, rfl, k _ _ h1 h2⟩
end
end Dat
/-! Ratios: what their defs promise. -/
namespace Dat
open PySem L2 Evl
/-! ### a def as its callers know it -/
structure Def (P : Program) (w : World) (K : PySem.W.Frag) (mg : Str → Option Value) (base : Heap) (CX : CXT) (k : Nat) (x : Str) (ps : List Str) (sp : Sp) : Prop where
  ex : ∃ (f : Addr) (fd : FuncData), FnOk P w K mg base CX k f fd ps sp ∧ mg x = some (.ref f) ∧ PySem.W.keepIn K (.ref f) = true ∧ Binds K fd ps []
section
variable {X : Cx} {CX : CXT} {k : Nat} {ps : List Str} {sp : Sp} {E : XK} {x : Str} {p pos : Pos} {e : Expr} {es : List Expr} {t : TA}
theorem pe_dcall (D : Def X.prog X.w X.K X.mg X.base CX k x ps sp) (hr : Room k X.A) (hx : Passes CX X E) (ha : PA X (e :: es) t) (hg : Gl X x := by rfl)
    (hdb : (x == ("__debug__" : Str)) = false := by decide) (he : starEach (e :: es) X.env = (false, eval e X.env) :: starEach es X.env := by rfl) (hpl : (backTo pos (starEach es X.env)).any (·.1) = false := by rfl) :
    PE X (.Call (.Name x p) (e :: es) [] pos) (tCall sp [] E t) := by
  obtain ⟨f, fd, F, hm, hk, hb⟩ := D.ex
  exact pe_call F hr hg hm hk hb .nil hx ha hdb he hpl
end
structure Bl (mg : Str → Option Value) : Prop where
  b_int : mg "int" = none
  b_abs : mg "abs" = none
  b_len : mg "len" = none
  b_range : mg "range" = none
  b_isinstance : mg "isinstance" = none
  b_any : mg "any" = none
  b_all : mg "all" = none
  b_bool : mg "bool" = none
  b_str : mg "str" = none
  b_tuple : mg "tuple" = none
  b_list : mg "list" = none
  b_enumerate : mg "enumerate" = none
  g_gcd : mg "gcd" = some (.builtin "math.gcd")
section
variable {K : PySem.W.Frag}
theorem dps_cons {H : Hp} {vs : List V} {d : PyData} {ds : List PyData} (h : DpAll K H vs (d :: ds)) : ∃ v ws, vs = v :: ws ∧ Dp K H v d ∧ DpAll K H ws ds := by
  cases h with
  | cons h1 h2 => exact ⟨_, _, rfl, h1, h2⟩
theorem dps_nil {H : Hp} {vs : List V} (h : DpAll K H vs []) : vs = [] := by
  cases h
  rfl
end
/-! ### ratios -/
abbrev rat (p q : Int) : PyData := .tuple [.int p, .int q]
/-- the two parts in lowest terms, the bottom above 0 -/
def lowP (t b : Int) : Int := if b < 0 then (-t) / (Nat.gcd t.natAbs b.natAbs : Nat) else t / (Nat.gcd t.natAbs b.natAbs : Nat)
def lowQ (t b : Int) : Int := if b < 0 then (-b) / (Nat.gcd t.natAbs b.natAbs : Nat) else b / (Nat.gcd t.natAbs b.natAbs : Nat)
abbrev lowest (t b : Int) : PyData := rat (lowP t b) (lowQ t b)
abbrev B : Nat := 1500
def fLowest (ds : List PyData) (d : PyData) : Prop := ∃ t b : Int, ds = [.int t, .int b] ∧ b ≠ 0 ∧ b.natAbs < 2 ^ 4000 ∧ d = lowest t b
def two (f : Int → Int → Int → Int → PyData) (ds : List PyData) (d : PyData) : Prop := ∃ p q r s : Int, ds = [rat p q, rat r s] ∧ q ≠ 0 ∧ s ≠ 0 ∧ p.natAbs < 2 ^ B ∧ q.natAbs < 2 ^ B ∧ r.natAbs < 2 ^ B ∧ s.natAbs < 2 ^ B ∧ d = f p q r s
def fPlus := two fun p q r s => lowest (p * s + r * q) (q * s)
def fMinus := two fun p q r s => lowest (p * s - r * q) (q * s)
def fTimes := two fun p q r s => lowest (p * r) (q * s)
def fLess := two fun p q r s => .bool (decide (p * s < r * q))
def one1 (f : Int → Int → PyData) (ds : List PyData) (d : PyData) : Prop := ∃ p q : Int, ds = [rat p q] ∧ d = f p q
def fNegative := one1 fun p q => rat (-p) q
def fSize := one1 fun p q => rat (p.natAbs : Int) q
def fFloor (ds : List PyData) (d : PyData) : Prop := ∃ p q : Int, ds = [rat p q] ∧ q ≠ 0 ∧ q.natAbs < 2 ^ B ∧ d = .int (p.fdiv q)
theorem mul_ne {q s : Int} (h : q ≠ 0) (h' : s ≠ 0) : q * s ≠ 0 := Int.mul_ne_zero h h'
theorem small_mul {q s : Int} (h : q.natAbs < 2 ^ B) (h' : s.natAbs < 2 ^ B) : (q * s).natAbs < 2 ^ 4000 := Nat.lt_of_lt_of_le (wide_lt h h') (Nat.pow_le_pow_right (by decide) (by decide))
theorem div_ok {i j : Int} {n : Nat} (h : j ≠ 0) (h' : j.natAbs < 2 ^ n) (h0 : 0 < n := by decide) (h9 : n ≤ 9000 := by decide) : CDivA i j := ⟨h, Nat.lt_of_lt_of_le (PySem.Flt.log2_lt_of h0 h') h9⟩
theorem gcd_pos {t b : Int} (h : b ≠ 0) : 0 < Nat.gcd t.natAbs b.natAbs := Nat.gcd_pos_of_pos_right _ (by omega)
theorem div_g {i t b : Int} (h : b ≠ 0) (h' : b.natAbs < 2 ^ 4000) : CDivA i ((Nat.gcd t.natAbs b.natAbs : Nat) : Int) := by
  have h1 := gcd_pos (t := t) h
  have h2 : Nat.gcd t.natAbs b.natAbs ≤ b.natAbs := Nat.gcd_le_right _ (by omega)
  exact div_ok (n := 4000) (by omega) (by show Nat.gcd t.natAbs b.natAbs < _; exact Nat.lt_of_le_of_lt h2 h')
theorem div_ng {i t b : Int} (h : b ≠ 0) (h' : b.natAbs < 2 ^ 4000) : CDivA i (-((Nat.gcd t.natAbs b.natAbs : Nat) : Int)) := by
  have h1 := gcd_pos (t := t) h
  have h2 : Nat.gcd t.natAbs b.natAbs ≤ b.natAbs := Nat.gcd_le_right _ (by omega)
  exact div_ok (n := 4000) (by omega) (by rw [Int.natAbs_neg]; show Nat.gcd t.natAbs b.natAbs < _; exact Nat.lt_of_le_of_lt h2 h')
theorem fdiv_neg_g {t : Int} {g : Nat} (h : 0 < g) : t.fdiv (-(g : Int)) = (-t) / (g : Int) := by
  have z := Int.neg_fdiv_neg (-t) (g : Int)
  rw [Int.neg_neg] at z
  rw [z, Int.fdiv_eq_ediv_of_nonneg _ (by omega)]
theorem low_neg {t b : Int} (h : b ≠ 0) (c : decide (b < 0) = true) : PyData.tuple [.int (t.fdiv (-((Nat.gcd t.natAbs b.natAbs : Nat) : Int))), .int (b.fdiv (-((Nat.gcd t.natAbs b.natAbs : Nat) : Int)))] = lowest t b := by
  have c' := of_decide_eq_true c
  have h1 := gcd_pos (t := t) h
  show _ = rat (lowP t b) (lowQ t b)
  unfold lowP lowQ
  rw [if_pos c', if_pos c', fdiv_neg_g h1, fdiv_neg_g h1]
theorem low_pos {t b : Int} (c : decide (b < 0) = false) : PyData.tuple [.int (t.fdiv ((Nat.gcd t.natAbs b.natAbs : Nat) : Int)), .int (b.fdiv ((Nat.gcd t.natAbs b.natAbs : Nat) : Int))] = lowest t b := by
  have c' := of_decide_eq_false c
  show _ = rat (lowP t b) (lowQ t b)
  unfold lowP lowQ
  rw [if_neg c', if_neg c', Int.fdiv_eq_ediv_of_nonneg _ (by omega), Int.fdiv_eq_ediv_of_nonneg _ (by omega)]
def fCompare := two fun p q r s => .int (if p * s - r * q = 0 then 0 else if 0 < p * s - r * q then 1 else -1)
theorem cmp_zero {g : Int} (c : decide (g = 0) = true) : PyData.int 0 = .int (if g = 0 then 0 else if 0 < g then 1 else -1) := by
  rw [if_pos (of_decide_eq_true c)]
theorem cmp_sign {g : Int} (c : decide (g = 0) = false) : (if decide (0 < g) = true then PyData.int 1 else .int (-1)) = .int (if g = 0 then 0 else if 0 < g then 1 else -1) := by
  rw [if_neg (of_decide_eq_false c)]
  by_cases h : 0 < g
  · rw [if_pos h, if_pos (decide_eq_true h)]
  · rw [if_neg h, if_neg (by rw [decide_eq_false h]; decide)]
end Dat
/-! Ratios as the core's Rat: sums and products as the program works them out. -/
namespace Dat
open PySem L2 Evl
abbrev ratR (x : Rat) : PyData := rat x.num (x.den : Int)
/-- both parts below 2 ^ n -/
def Sz (n : Nat) (x : Rat) : Prop := x.num.natAbs < 2 ^ n ∧ x.den < 2 ^ n
theorem Sz.mono {n m : Nat} {x : Rat} (h : Sz n x) (l : n ≤ m) : Sz m x :=
  ⟨Nat.lt_of_lt_of_le h.1 (Nat.pow_le_pow_right (by decide) l), Nat.lt_of_lt_of_le h.2 (Nat.pow_le_pow_right (by decide) l)⟩
theorem norm_num (N : Int) (D : Nat) (h : D ≠ 0) : (Rat.normalize N D h).num = N / (Nat.gcd N.natAbs D : Nat) := by
  rw [Rat.normalize_eq]
theorem norm_den (N : Int) (D : Nat) (h : D ≠ 0) : (Rat.normalize N D h).den = D / Nat.gcd N.natAbs D := by
  rw [Rat.normalize_eq]
theorem low_norm (N : Int) (D : Nat) (h : D ≠ 0) : lowest N (D : Int) = ratR (Rat.normalize N D h) := by
  show rat (lowP N D) (lowQ N D) = rat _ _
  rw [norm_num, norm_den]
  unfold lowP lowQ
  rw [if_neg (by omega), if_neg (by omega), Int.natAbs_natCast]
  rfl
theorem sz_norm {n : Nat} (N : Int) (D : Nat) (h : D ≠ 0) (h1 : N.natAbs < 2 ^ n) (h2 : D < 2 ^ n) : Sz n (Rat.normalize N D h) := by
  constructor
  · rw [norm_num]
    refine Nat.lt_of_le_of_lt ?_ h1
    rw [Int.natAbs_ediv_of_dvd (Int.ofNat_dvd_left.mpr (Nat.gcd_dvd_left _ _))]
    exact Nat.div_le_self _ _
  · rw [norm_den]
    exact Nat.lt_of_le_of_lt (Nat.div_le_self _ _) h2
theorem mul_lt2 {a b n m : Nat} (h : a < 2 ^ n) (h' : b < 2 ^ m) : a * b < 2 ^ (n + m) := by
  rw [Nat.pow_add]
  exact Nat.mul_lt_mul'' h h'
theorem sz_add {n m : Nat} {x y : Rat} (h : Sz n x) (h' : Sz m y) : Sz (n + m + 1) (x + y) := by
  rw [Rat.add_def]
  have e : (2 : Nat) ^ (n + m + 1) = 2 ^ (n + m) + 2 ^ (n + m) := by
    rw [Nat.pow_succ]
    omega
  have h1 : (x.num * y.den).natAbs < 2 ^ (n + m) := by
    rw [Int.natAbs_mul, Int.natAbs_natCast]
    exact mul_lt2 h.1 h'.2
  have h2 : (y.num * x.den).natAbs < 2 ^ (n + m) := by
    rw [Int.natAbs_mul, Int.natAbs_natCast, Nat.mul_comm]
    exact mul_lt2 h.2 h'.1
  refine sz_norm _ _ _ ?_ ?_
  · have := Int.natAbs_add_le (x.num * y.den) (y.num * x.den)
    omega
  · have := mul_lt2 h.2 h'.2
    omega
theorem sz_mul {n m : Nat} {x y : Rat} (h : Sz n x) (h' : Sz m y) : Sz (n + m) (x * y) := by
  rw [Rat.mul_def]
  refine sz_norm _ _ _ ?_ ?_
  · rw [Int.natAbs_mul]
    exact mul_lt2 h.1 h'.1
  · exact mul_lt2 h.2 h'.2
theorem rat_of {r : Rat} {C D : Int} (h : r.num = C) (h' : (r.den : Int) = D) : ratR r = rat C D := by
  show rat r.num (r.den : Int) = _
  rw [h, h']
theorem joined1 {x y : Rat} (g : Nat.gcd x.den y.den = 1) : ratR (x + y) = rat (x.num * y.den + y.num * x.den) ((x.den : Int) * y.den) := by
  have e : x + y = Rat.add x y := rfl
  rw [e]
  unfold Rat.add
  simp only [g, dite_true]
  rfl
theorem joined2 {x y : Rat} (g : Nat.gcd x.den y.den ≠ 1) : ratR (x + y) =
    rat ((x.num * ((y.den / Nat.gcd x.den y.den : Nat) : Int) + y.num * ((x.den / Nat.gcd x.den y.den : Nat) : Int)) / (Nat.gcd (x.num * ((y.den / Nat.gcd x.den y.den : Nat) : Int) + y.num * ((x.den / Nat.gcd x.den y.den : Nat) : Int)).natAbs (Nat.gcd x.den y.den) : Nat))
      (((x.den / Nat.gcd x.den y.den : Nat) : Int) * ((y.den / Nat.gcd (x.num * ((y.den / Nat.gcd x.den y.den : Nat) : Int) + y.num * ((x.den / Nat.gcd x.den y.den : Nat) : Int)).natAbs (Nat.gcd x.den y.den) : Nat) : Int)) := by
  have e : x + y = Rat.add x y := rfl
  rw [e]
  unfold Rat.add
  simp only [g, dite_false, Rat.maybeNormalize_eq]
  refine rat_of ?_ ?_
  · show Int.divExact _ _ (Int.ofNat_dvd_left.mpr (Nat.gcd_dvd_left _ _)) = _
    rw [Int.divExact_eq_tdiv, Int.tdiv_eq_ediv_of_dvd (Int.ofNat_dvd_left.mpr (Nat.gcd_dvd_left _ _))]
  · have hd : Nat.gcd (x.num * ((y.den / Nat.gcd x.den y.den : Nat) : Int) + y.num * ((x.den / Nat.gcd x.den y.den : Nat) : Int)).natAbs (Nat.gcd x.den y.den) ∣ y.den := Nat.dvd_trans (Nat.gcd_dvd_right _ _) (Nat.gcd_dvd_right _ _)
    rw [← Int.natCast_mul, ← Nat.mul_div_assoc _ hd]
theorem timesR {x y : Rat} : ratR (x * y) = rat ((x.num / (Nat.gcd x.num.natAbs y.den : Nat)) * (y.num / (Nat.gcd y.num.natAbs x.den : Nat))) (((x.den / Nat.gcd y.num.natAbs x.den : Nat) : Int) * ((y.den / Nat.gcd x.num.natAbs y.den : Nat) : Int)) := by
  have e : x * y = Rat.mul x y := rfl
  rw [e]
  unfold Rat.mul
  refine rat_of ?_ ?_
  · show Int.divExact _ _ (Int.ofNat_dvd_left.mpr (Nat.gcd_dvd_left _ _)) * Int.divExact _ _ (Int.ofNat_dvd_left.mpr (Nat.gcd_dvd_left _ _)) = _
    rw [Int.divExact_eq_tdiv, Int.divExact_eq_tdiv, Int.tdiv_eq_ediv_of_dvd (Int.ofNat_dvd_left.mpr (Nat.gcd_dvd_left _ _)), Int.tdiv_eq_ediv_of_dvd (Int.ofNat_dvd_left.mpr (Nat.gcd_dvd_left _ _))]
  · show ((Nat.divExact _ _ (Nat.gcd_dvd_right _ _) * Nat.divExact _ _ (Nat.gcd_dvd_right _ _) : Nat) : Int) = _
    rw [Int.natCast_mul]
    rfl
theorem rat_ext {x y : Rat} (h : ratR x = ratR y) : x = y := by
  injection h with h
  injection h with h1 h
  injection h with h2 _
  injection h1 with h1
  injection h2 with h2
  exact Rat.ext h1 (by omega)
end Dat
/-! Everything general of the texts of k01 and k21: data, hands, loops, texts. -/
namespace Dat
open PySem L2 Evl
/-! from S1 -/
def isIntD : PyData → Bool
  | .int _ => true
  | .bool _ => true
  | _ => false
def isBoolD : PyData → Bool
  | .bool _ => true
  | _ => false
def isTupD : PyData → Bool
  | .tuple _ => true
  | _ => false
theorem kit_int (d : PyData) : kitB (kind d) "int" = some (isIntD d) := by cases d <;> rfl
theorem kit_bool (d : PyData) : kitB (kind d) "bool" = some (isBoolD d) := by cases d <;> rfl
theorem kit_tuple (d : PyData) : kitB (kind d) "tuple" = some (isTupD d) := by cases d <;> rfl
abbrev FunV (K : PySem.W.Frag) (x : Str) (st : Stmt) (dvs : List V) (f : Addr) (fd : FuncData) : Prop := FunD K x x (defArgs st) (defBody st) (defScope st) dvs [] f fd
/-- a limit: none, or a whole number -/
def Lim (d : PyData) : Prop := d = .none ∨ ∃ i, d = .int i
def above : PyData → Int → Bool
  | .int l, n => decide (l ≤ n)
  | _, _ => true
def below : PyData → Int → Bool
  | .int h, n => decide (n ≤ h)
  | _, _ => true
def wholeIn : PyData → PyData → PyData → Bool
  | .int n, lo, hi => above lo n && below hi n
  | _, _, _ => false
def fWhole (ds : List PyData) (d : PyData) : Prop := ∃ t lo hi, ds = [t, lo, hi] ∧ Lim lo ∧ Lim hi ∧ d = .bool (wholeIn t lo hi)
def leD : PyData → PyData → Bool
  | .int l, .int n => decide (l ≤ n)
  | _, _ => true
section
variable {K : PySem.W.Frag} {te tb : TE} {σ : L2.St} {H : Hp} {t lo hi : PyData}
theorem whole_int (c : (!isIntD t || isBoolD t) = false) : ∃ n, t = .int n := by
  cases t <;> first | exact ⟨_, rfl⟩ | cases c
theorem le_lo (l : Lim lo) (c0 : isNone lo = false) (c : (!isIntD t || isBoolD t) = false) (h : EvD K te σ H lo) (r : EvD K tb σ H t) : EvD K (tOp (rI0 fun i j => .bl (decide (i ≤ j))) te tb) σ H (.bool (leD lo t)) := by
  obtain ⟨n, rfl⟩ := whole_int c
  rcases l with rfl | ⟨i, rfl⟩
  · cases c0
  · exact d_le h r
theorem le_hi (l : Lim hi) (c0 : isNone hi = false) (c : (!isIntD t || isBoolD t) = false) (h : EvD K te σ H t) (r : EvD K tb σ H hi) : EvD K (tOp (rI0 fun i j => .bl (decide (i ≤ j))) te tb) σ H (.bool (leD t hi)) := by
  obtain ⟨n, rfl⟩ := whole_int c
  rcases l with rfl | ⟨i, rfl⟩
  · cases c0
  · exact d_le h r
theorem whole_no (c : (!isIntD t || isBoolD t) = true) : wholeIn t lo hi = false := by
  cases t <;> first | rfl | cases c
theorem whole_yes (l1 : Lim lo) (l2 : Lim hi) (c : (!isIntD t || isBoolD t) = false) : ((isNone lo || leD lo t) && (isNone hi || leD t hi)) = wholeIn t lo hi := by
  obtain ⟨n, rfl⟩ := whole_int c
  rcases l1 with rfl | ⟨i, rfl⟩ <;> rcases l2 with rfl | ⟨j, rfl⟩ <;> rfl
end

/-! from S1 -/
def fJoined (ds : List PyData) (d : PyData) : Prop := ∃ x y : Rat, ds = [ratR x, .int y.num, .int (y.den : Int)] ∧ Sz B x ∧ Sz B y ∧ d = ratR (x + y)
def fPlusR (ds : List PyData) (d : PyData) : Prop := ∃ x y : Rat, ds = [ratR x, ratR y] ∧ Sz B x ∧ Sz B y ∧ d = ratR (x + y)
def fTimesR (ds : List PyData) (d : PyData) : Prop := ∃ x y : Rat, ds = [ratR x, ratR y] ∧ Sz B x ∧ Sz B y ∧ d = ratR (x * y)
theorem nz {g : Nat} (h : 0 < g) : ((g : Nat) : Int) ≠ 0 := by omega
theorem fdiv_nat (a g : Nat) : PyData.int ((a : Int).fdiv (g : Int)) = .int ((a / g : Nat) : Int) := by
  rw [Int.fdiv_eq_ediv_of_nonneg _ (by omega)]
  rfl
theorem fdiv_int (a : Int) (g : Nat) : PyData.int (a.fdiv (g : Int)) = .int (a / (g : Int)) := by
  rw [Int.fdiv_eq_ediv_of_nonneg _ (by omega)]
theorem nat_of {a : Nat} (c : decide ((a : Int) = 1) = true) : a = 1 := by
  have := of_decide_eq_true c
  omega
theorem nat_ne {a : Nat} (c : decide ((a : Int) = 1) = false) : a ≠ 1 := by
  have := of_decide_eq_false c
  omega
theorem div_lt {x : Int} {g n : Nat} (h : g ∣ x.natAbs) (h' : x.natAbs < 2 ^ n) : (x / (g : Int)).natAbs < 2 ^ n := by
  rw [Int.natAbs_ediv_of_dvd (Int.ofNat_dvd_left.mpr h)]
  exact Nat.lt_of_le_of_lt (Nat.div_le_self _ _) h'
theorem den_mul (x y : Rat) : (x.den : Int) * (y.den : Int) ≠ 0 := Int.mul_ne_zero (by have := x.den_pos; omega) (by have := y.den_pos; omega)
theorem low_add (x y : Rat) : ratR (x + y) = lowest (x.num * y.den + y.num * x.den) ((x.den : Int) * y.den) := by
  rw [Rat.add_def, ← low_norm, Int.natCast_mul]
theorem low_mul (x y : Rat) : ratR (x * y) = lowest (x.num * y.num) ((x.den : Int) * y.den) := by
  rw [Rat.mul_def, ← low_norm, Int.natCast_mul]

/-! from S3 -/
structure DefV (P : Program) (w : World) (K : PySem.W.Frag) (mg : Str → Option Value) (base : Heap) (CX : CXT) (k : Nat) (x : Str) (ps : List Str) (dvs : List V) (sp : Sp) : Prop where
  ex : ∃ (f : Addr) (fd : FuncData) (ds : List Value), FnOk P w K mg base CX k f fd ps sp ∧ mg x = some (.ref f) ∧ PySem.W.keepIn K (.ref f) = true ∧ Binds K fd ps ds ∧ Vals dvs ds
section
variable {X : Cx} {CX : CXT} {k : Nat} {ps : List Str} {sp : Sp} {E : XK} {x : Str} {p pos : Pos} {e : Expr} {es : List Expr} {t : TA} {dvs : List V}
theorem pe_dcallV (D : DefV X.prog X.w X.K X.mg X.base CX k x ps dvs sp) (hr : Room k X.A) (hx : Passes CX X E) (ha : PA X (e :: es) t) (hg : Gl X x := by rfl)
    (hdb : (x == ("__debug__" : Str)) = false := by decide) (he : starEach (e :: es) X.env = (false, eval e X.env) :: starEach es X.env := by rfl) (hpl : (backTo pos (starEach es X.env)).any (·.1) = false := by rfl) :
    PE X (.Call (.Name x p) (e :: es) [] pos) (tCall sp dvs E t) := by
  obtain ⟨f, fd, ds, F, hm, hk, hb, hv⟩ := D.ex
  exact pe_call F hr hg hm hk hb hv hx ha hdb he hpl
end
/-- x, y = a tuple of two -/
theorem z_two {K : PySem.W.Frag} {te : TE} {σ : L2.St} {H : Hp} {D : Ends} {ts : TS} {i j : Nat} {a b : PyData} {n : Nat} (h : EvD K te σ H (.tuple [a, b])) (k : ∀ x y H1, Ex H H1 → Dp K H1 x a → Dp K H1 y b → ts D ((σ.set i (some x)).set j (some y)) H1) (hn : n = 2 := by rfl) : tSeq (tAsg te (gTup K n (gCons (gName i) (gCons (gName j) gNil)))) ts D σ H := h H (Ex.refl H) _ fun v H1 e hv => g_two hv hn fun x y hx hy => k x y H1 e hx hy
theorem d_callV {K : PySem.W.Frag} {ta : TA} {σ : L2.St} {H : Hp} {ds es : List PyData} {d : PyData} {n : Nat} {f : List PyData → PyData → Prop} {E : XK} {dvs : List V} (h : EvDs K ta σ H ds) (hv : ∀ H, DpAll K H dvs es) (hl : (ds ++ es).length = n) (hf : f (ds ++ es) d) : EvD K (tCall (spD K n f) dvs E ta) σ H d := fun H1 x Q k =>
  h H1 x _ fun vs H2 x2 hvs => ⟨ds ++ es, d, hl, dps_app hvs (hv H2), hf, fun v H' x' hv => k v H' (x2.trans x') hv⟩
section
variable {P : Program} {w : World} {K : PySem.W.Frag} {mg : Str → Option Value} {base : Heap} {x : Str} {st : Stmt} {dvs : List V} {f : Addr} {fd : FuncData} {k : Nat} {ps : List Str} {sp : Sp} {CX : CXT}
theorem defV (F : FunV K x st dvs f fd) (ok : FnOk P w K mg base CX k f fd ps sp) (hm : mg x = some (.ref f)) (n j : Nat) (hd : dvs ≠ []) (hn : n + (dvs.length - j) = ps.length)
    (h : ∀ (T : Addr) (kV doc pm : Value) (an : Option Addr) (cdv ct : Value) (us its : List Value), us.length = n → its.length = dvs.length →
      ∃ k, bindArgs (PySem.W.fnOf x x (defArgs st) (defBody st) (defScope st) (.ref T) kV doc pm an cdv ct) ⟨us, []⟩ = seqItems? (.ref T) >>= k ∧ k (some its.toArray) = pure (ps.zip (us ++ its.drop j))) : DefV P w K mg base CX k x ps (dvs.drop j) sp := by
  obtain ⟨ds, hv, hb⟩ := F.binds1 n j hd hn h
  exact ⟨f, fd, ds, ok, hm, F.kp, hb, hv⟩
end

/-! from S4 -/
/-! ### is it a ratio -/
def lenNe : PyData → Bool
  | .tuple ds => decide ((ds.length : Int) ≠ 2)
  | _ => false
def gcd1 : PyData → PyData → Bool
  | .int p, .int q => decide (((Nat.gcd p.natAbs q.natAbs : Nat) : Int) = 1)
  | _, _ => true
def ratB (a b : PyData) : Bool := wholeIn a .none .none && (wholeIn b (.int 1) .none && gcd1 a b)
def ratD : PyData → Bool
  | .tuple [a, b] => ratB a b
  | _ => false
def fIsRatio (ds : List PyData) (d : PyData) : Prop := ∃ t, ds = [t] ∧ d = .bool (ratD t)
section
variable {K : PySem.W.Frag} {te tb : TE} {σ : L2.St} {H : Hp} {t a b : PyData}
theorem ne_len (c0 : (!isTupD t) = false) (h : EvD K te σ H t) : EvD K (tOp rNe (tCB (fun xs H Q => ∃ p ys, xs = [.ref p] ∧ (SqL K H p ys ∨ SqT K H p ys) ∧ Q (.int ys.length) H) (tCons te tNil)) (tC (.int 2))) σ H (.bool (lenNe t)) := by
  cases t <;> first | cases c0 | skip
  exact d_neI (d_lenT h) d_int
theorem two_of (c : (!isTupD t || lenNe t) = false) : ∃ a b, t = .tuple [a, b] := by
  cases t <;> first | cases c | skip
  rename_i ds
  have c2 : decide ((ds.length : Int) ≠ 2) = false := c
  have c3 := of_decide_eq_false c2
  have c4 : ds.length = 2 := by omega
  match ds, c4 with
  | [a, b], _ => exact ⟨a, b, rfl⟩
theorem rat_no (c : (!isTupD t || lenNe t) = true) : ratD t = false := by
  cases t <;> first | rfl | skip
  rename_i ds
  have c2 : decide ((ds.length : Int) ≠ 2) = true := c
  have c3 := of_decide_eq_true c2
  match ds, c3 with
  | [], _ => rfl
  | [_], _ => rfl
  | [_, _], c3 => exact absurd rfl c3
  | _ :: _ :: _ :: _, _ => rfl
theorem int_of {lo hi : PyData} (c : wholeIn a lo hi = true) : ∃ n, a = .int n := by
  cases a <;> first | exact ⟨_, rfl⟩ | cases c
theorem eq_gcd (c0 : wholeIn a .none .none = true) (c1 : wholeIn b (.int 1) .none = true) (h : EvD K te σ H a) (r : EvD K tb σ H b) : EvD K (tOp rEq (tCB rGcd (tCons te (tCons tb tNil))) (tC (.int 1))) σ H (.bool (gcd1 a b)) := by
  obtain ⟨p, rfl⟩ := int_of c0
  obtain ⟨q, rfl⟩ := int_of c1
  exact d_eqI (d_gcd h r) d_int
end

/-! from S5 -/
section
variable {K : PySem.W.Frag} {te : TE} {σ : L2.St} {H : Hp} {D : Ends} {tb ts : TS} {j : Nat} {ds : List PyData}
/-- for x in a list: the invariant by the turn -/
theorem z_forL (h : EvD K te σ H (.list ds)) (Pv : Nat → L2.St → Hp → Prop) (h0 : ∀ H1, Ex H H1 → Pv 0 σ H1)
    (step : ∀ i d v σ' H' (D' : Ends), ds[i]? = some d → Ex H H' → Pv i σ' H' → Dp K H' v d → (∀ σ2 H2, Ex H' H2 → Pv (i + 1) σ2 H2 → D'.nx σ2 H2) → tb D' (σ'.set j (some v)) H')
    (fin : ∀ σ' H', Ex H H' → Pv ds.length σ' H' → ts D σ' H') : tSeq (tFor (iList K te) (gName j) tb) ts D σ H := h H (Ex.refl H) _ fun v H1 e hv => by
  cases hv with
  | lst hs ha =>
    rename_i a vs
    refine ⟨a, rfl, ⟨vs, hs⟩, ?_⟩
    have hl := dps_len ha
    refine for_list (fun i σ' H' => Ex H1 H' ∧ Pv i σ' H') ⟨Ex.refl H1, h0 _ e⟩ (fun i σ' H' _ p => ex_l p.1 hs) (fun i x σ' H' hx p => ?_) (fun σ' H' p => fin σ' H' (e.trans p.1) (by rw [← hl]; exact p.2))
    obtain ⟨d, hd, hxd⟩ := dps_back ha hx
    exact step i d x σ' H' _ hd (e.trans p.1) p.2 (dp_grow p.1 _ _ hxd) fun σ2 H2 e2 p2 => ⟨p.1.trans e2, p2⟩
/-- for x in a tuple -/
theorem z_forT (h : EvD K te σ H (.tuple ds)) (Pv : Nat → L2.St → Hp → Prop) (h0 : ∀ H1, Ex H H1 → Pv 0 σ H1)
    (step : ∀ i d v σ' H' (D' : Ends), ds[i]? = some d → Ex H H' → Pv i σ' H' → Dp K H' v d → (∀ σ2 H2, Ex H' H2 → Pv (i + 1) σ2 H2 → D'.nx σ2 H2) → tb D' (σ'.set j (some v)) H')
    (fin : ∀ σ' H', Ex H H' → Pv ds.length σ' H' → ts D σ' H') : tSeq (tFor (iTup K te) (gName j) tb) ts D σ H := h H (Ex.refl H) _ fun v H1 e hv => by
  cases hv with
  | tup hs ha =>
    rename_i a vs
    refine ⟨a, rfl, ⟨vs, hs⟩, ?_⟩
    have hl := dps_len ha
    refine for_tup (fun i σ' H' => Ex H1 H' ∧ Pv i σ' H') ⟨Ex.refl H1, h0 _ e⟩ (fun i σ' H' _ p => ex_t p.1 hs) (fun i x σ' H' hx p => ?_) (fun σ' H' p => fin σ' H' (e.trans p.1) (by rw [← hl]; exact p.2))
    obtain ⟨d, hd, hxd⟩ := dps_back ha hx
    exact step i d x σ' H' _ hd (e.trans p.1) p.2 (dp_grow p.1 _ _ hxd) fun σ2 H2 e2 p2 => ⟨p.1.trans e2, p2⟩
end

/-! from S6 -/
section
variable {K : PySem.W.Frag} {te tb : TE} {σ : L2.St} {H : Hp} {ta : TA} {t a b d : PyData}
theorem ev_bl {x : Bool} (h : EvD K te σ H (.bool x)) : Ev te σ H (.bl x) := fun H1 e Q q => h H1 e _ fun v H2 e2 hv => by
  cases hv
  exact q H2 e2
theorem eva_int {i : Int} (h : EvDs K ta σ H [.int i]) : EvA ta σ H [.int i] := fun H1 e Q q => h H1 e _ fun vs H2 e2 hv => by
  obtain ⟨x, ws, rfl, h1, hv⟩ := dps_cons hv
  obtain rfl := dps_nil hv
  cases h1
  exact q H2 e2
/-- all([.. for i in range(n)]) of truths -/
theorem d_allR {j n : Nat} {vs : List Nat} (f : Nat → Bool) (h : EvDs K ta σ H [.int (n : Int)]) (hn : n ≤ 40000) (hw : ∀ x, wipe ((wipe σ vs).set j (some x)) vs = wipe σ vs)
    (he : ∀ (i : Nat) H1, Ex H H1 → i < n → EvD K te ((wipe σ vs).set j (some (.int (i : Int)))) H1 (.bool (f i))) :
    EvD K (tCB (rAll K) (tCons (tLc (iRng1 ta) (gName j) tYes te vs) tNil)) σ H (.bool ((List.range n).all f)) := fun H1 e Q k => by
  show tLc (iRng1 ta) (gName j) tYes te vs σ H1 (fun v H2 => rAll K [v] H2 Q)
  exact el_lcR1 (t := tYes) (fun _ => true) (fun i => .bl (f i)) (eva_int h) ⟨by omega, by omega⟩ hw (fun i H2 _ _ H3 e3 R r => r H3 (Ex.refl H3)) (fun i H2 e2 hi _ => ev_bl (he i H2 e2 (by omega))) H1 e _ fun p H2 hp e2 hv => by
    have hg : given ((n : Int).toNat) (fun _ => true) (fun i => V.bl (f i)) = ((List.range n).map f).map V.bl := by
      unfold given
      rw [Int.toNat_natCast, List.filter_eq_self.mpr (fun _ _ => rfl), List.map_map]
      rfl
    rw [hg] at hv
    refine ⟨p, (List.range n).map f, rfl, .inl (.inl hv), ?_⟩
    have e9 : ((List.range n).map f).all id = (List.range n).all f := by
      rw [List.all_map]
      rfl
    rw [e9]
    exact k _ _ e2 (.bl _)
end

/-! from S7 -/
/-! ### the law's own comparison -/
def isStrD : PyData → Bool
  | .str _ => true
  | _ => false
theorem kit_str (d : PyData) : kitB (kind d) "str" = some (isStrD d) := by cases d <;> rfl
def lenSame : PyData → PyData → Bool
  | .tuple es, .tuple ds => decide ((es.length : Int) = ds.length)
  | _, _ => true
def allI (f : PyData → PyData → Bool) : PyData → PyData → Bool
  | .tuple es, .tuple ds => (List.range ds.length).all fun i => f (es.getD i .none) (ds.getD i .none)
  | _, _ => true
def sameN : Nat → PyData → PyData → Bool
  | 0, _, _ => false
  | n + 1, a, b => if isTupD b then (isTupD a && (lenSame a b && allI (sameN n) a b)) else if (isBoolD b || isBoolD a) then (isBoolD b && (isBoolD a && PyData.eqv a b)) else if isIntD b then (isIntD a && PyData.eqv a b) else if isStrD b then (isStrD a && PyData.eqv a b) else (isNone a && isNone b)
def depN : Nat → PyData → Prop
  | 0, _ => False
  | n + 1, .tuple ds => ds.length ≤ 1000 ∧ ∀ i, i < ds.length → depN n (ds.getD i .none)
  | _ + 1, _ => True
def fSame (n : Nat) (ds : List PyData) (d : PyData) : Prop := ∃ a b, ds = [a, b] ∧ depN n b ∧ d = .bool (sameN n a b)
theorem atI_nat {α : Type} {l : List α} {i : Nat} {x : α} (h : i < l.length) : atI l (i : Int) = some (l.getD i x) := by
  unfold atI
  have e : ixN l.length (i : Int) = some i := by
    unfold ixN
    rw [if_pos (by omega), if_pos (by omega), Int.toNat_natCast]
  rw [e]
  show l[i]? = _
  rw [List.getD_eq_getElem?_getD, List.getElem?_eq_getElem h]
  rfl
section
variable {K : PySem.W.Frag} {te tb : TE} {σ : L2.St} {H : Hp} {a b : PyData}
theorem eq_bools (c : isBoolD b = true) (c0 : isBoolD a = true) (h : EvD K te σ H a) (r : EvD K tb σ H b) : EvD K (tOp (rEqD K) te tb) σ H (.bool (PyData.eqv a b)) := by
  cases b <;> first | cases c | skip
  cases a <;> first | cases c0 | skip
  exact d_eqD h r rfl rfl
theorem eq_ints (c : isIntD b = true) (c0 : isIntD a = true) (h : EvD K te σ H a) (r : EvD K tb σ H b) : EvD K (tOp (rEqD K) te tb) σ H (.bool (PyData.eqv a b)) := by
  cases b <;> first | cases c | skip
  all_goals (cases a <;> first | exact d_eqD h r rfl rfl | cases c0)
theorem eq_strs (c : isStrD b = true) (c0 : isStrD a = true) (h : EvD K te σ H a) (r : EvD K tb σ H b) : EvD K (tOp rEq te tb) σ H (.bool (PyData.eqv a b)) := by
  cases b <;> first | cases c | skip
  cases a <;> first | cases c0 | skip
  rename_i y x
  exact fun H1 x0 Q k => h H1 x0 _ fun v H2 x2 hv => r H2 (x0.trans x2) _ fun w H3 x3 hw => by
    cases hv
    cases hw
    refine ⟨rfl, ?_⟩
    have z : decide (V.str x = V.str y) = PyData.eqv (.str x) (.str y) := by
      show _ = (x == y)
      by_cases q : x = y
      · subst q
        rw [decide_eq_true rfl, beq_self_eq_true]
      · rw [decide_eq_false (fun z => q (V.str.inj z)), beq_eq_false_iff_ne.mpr q]
    rw [z]
    exact k _ H3 (x2.trans x3) (.bl _)
theorem tup_of (c : isTupD a = true) : ∃ ds, a = .tuple ds := by
  cases a <;> first | exact ⟨_, rfl⟩ | cases c
end

/-! from S8 -/
/-- data of truths, ints, texts, None and short tuples of them, of a depth below n -/
def goodN : Nat → PyData → Bool
  | 0, _ => false
  | n + 1, .tuple ds => decide (ds.length ≤ 1000) && ds.all fun d => goodN n d
  | _ + 1, .none => true
  | _ + 1, .bool _ => true
  | _ + 1, .int _ => true
  | _ + 1, .str _ => true
  | _ + 1, _ => false
theorem getD_mem {ds : List PyData} {i : Nat} (h : i < ds.length) : ds.getD i .none ∈ ds := by
  rw [List.getD_eq_getElem?_getD, List.getElem?_eq_getElem h]
  exact List.getElem_mem h
theorem good_dep : ∀ {n : Nat} {d : PyData}, goodN n d = true → depN n d
  | 0, _, h => by cases h
  | n + 1, d, h => by
    cases d with
    | tuple ds =>
      obtain ⟨h1, h2⟩ := Bool.and_eq_true_iff.mp (show (decide (ds.length ≤ 1000) && ds.all fun d => goodN n d) = true from h)
      exact ⟨of_decide_eq_true h1, fun i hi => good_dep (List.all_eq_true.mp h2 _ (getD_mem hi))⟩
    | _ => trivial
theorem good_same : ∀ {n : Nat} {d : PyData}, goodN n d = true → sameN n d d = true
  | 0, _, h => by cases h
  | n + 1, d, h => by
    cases d with
    | tuple ds =>
      obtain ⟨h1, h2⟩ := Bool.and_eq_true_iff.mp (show (decide (ds.length ≤ 1000) && ds.all fun d => goodN n d) = true from h)
      show (true && (decide ((ds.length : Int) = ds.length) && (List.range ds.length).all fun i => sameN n (ds.getD i .none) (ds.getD i .none))) = true
      rw [decide_eq_true rfl, Bool.true_and, Bool.true_and, List.all_eq_true]
      intro i hi
      exact good_same (List.all_eq_true.mp h2 _ (getD_mem (List.mem_range.mp hi)))
    | none => rfl
    | bool b =>
      show (true && (true && (b == b))) = true
      rw [beq_self_eq_true]
      rfl
    | int i =>
      show (true && (i == i)) = true
      rw [beq_self_eq_true]
      rfl
    | str x =>
      show (true && (x == x)) = true
      rw [beq_self_eq_true]
      rfl
    | list _ => cases h
    | dict _ => cases h

/-! from S10 -/
section
variable {X : Cx} {CX : CXT} {k : Nat} {ps : List Str} {sp : Sp} {E : XK} {x : Str} {p pos : Pos} {e : Expr} {es : List Expr} {t : TA}
theorem pe_dcall0 (D : Def X.prog X.w X.K X.mg X.base CX k x ps sp) (hr : Room k X.A) (hx : Passes CX X E) (hg : Gl X x := by rfl) (hdb : (x == ("__debug__" : Str)) = false := by decide) :
    PE X (.Call (.Name x p) [] [] pos) (tCall sp [] E tNil) := by
  obtain ⟨f, fd, F, hm, hk, hb⟩ := D.ex
  exact pe_call0 F hr hg hm hk hb .nil hx hdb
end
/-- a hand at h: its cells at c (never changed), and three numbers -/
def HandOk (H : Hp) (h c : Addr) (ns : List Int) : Prop := ∃ (p r t : Int), H h = some (.lst [.ref c, .int p, .int r, .int t]) ∧ H c = some (.lst (ns.map V.int)) ∧
  ns.length ≤ 63 ∧ (∀ n ∈ ns, 0 ≤ n) ∧ 0 ≤ p ∧ p ≤ 64 ∧ 0 ≤ r ∧ 0 ≤ t ∧ t < 2147483629
def spMix : Sp := fun vs H Q _ => ∃ n k : Int, vs = [.int n, .int k] ∧ 0 ≤ n ∧ n < 2147483647 ∧ 0 ≤ k ∧ k ≤ 1000 ∧ ∀ r, Q (.int r) H
def spHand (K : PySem.W.Frag) : Sp := fun vs H Q _ => ∃ (a : Addr) (ns : List Int), vs = [.ref a] ∧ SqL K H a (ns.map V.int) ∧ ns.length ≤ 63 ∧
  ∀ H' h c ms, Same H H' → H h = none → H c = none → HandOk H' h c ms → Q (.ref h) H'
def spDraw : Sp := fun vs H Q _ => ∃ (h c : Addr) (ns : List Int) (many : Int), vs = [.ref h, .int many] ∧ 0 < many ∧ many.natAbs < 2 ^ 1000 ∧ HandOk H h c ns ∧
  ∀ r H', 0 ≤ r → r < many → HandOk H' h c ns → (∀ a, a ≠ h → H' a = H a) → Q (.int r) H'

/-! from S10 -/
theorem same_new {H : Hp} {p : Addr} {o : HO} (h : H p = none) : Same H (upd H p o) := fun b x e => by
  rw [upd_ne (ne_of_none e h)]
  exact e
theorem yes_turn {σ : L2.St} {H : Hp} {te : TE} {Q : VK} {B : Hp → Prop} (h : te σ H Q) : tYes σ H (fun b H3 => if b = true then te σ H3 Q else B H3) := by
  show (if true = true then te σ H Q else B H)
  rw [if_pos rfl]
  exact h
theorem for_enum {K : PySem.W.Frag} {a : Addr} {xs : List V} {g : TG} {tb : TS} {D : Ends} {σ : St} {H : Hp} (Pv : Nat → St → Hp → Prop) (h0 : Pv 0 σ H) (hl : ∀ i σ H, i ≤ xs.length → Pv i σ H → SqL K H a xs)
    (hs : ∀ (i : Nat) x σ H T, xs[i]? = some x → Pv i σ H → H T = none → g (.ref T) σ (upd H T (.tup [.int (i : Nat), x])) fun σ2 H2 => tb { D with nx := Pv (i + 1), ct := Pv (i + 1), bk := D.nx } σ2 H2) (hd : ∀ σ H, Pv xs.length σ H → D.nx σ H) :
    ∃ W : Nat → Nat → St → Hp → Prop, (∃ m, W 0 m σ H) ∧ ∀ i m σ H, W i m σ H →
      ((Ite K a).stop i H ∧ D.nx σ H) ∨ ((Ite K a).go i H ∧ ∃ N : St → Hp → Prop, (∀ σ' H', N σ' H' → ∃ m', m' < m ∧ W (i + 1) m' σ' H') ∧ ∀ x H', (Ite K a).yld i H x H' → g x σ H' fun σ2 H2 => tb { D with nx := N, ct := N, bk := D.nx } σ2 H2) := by
  refine ⟨fun i m σ H => m = xs.length - i ∧ i ≤ xs.length ∧ Pv i σ H, ⟨xs.length, by simp, Nat.zero_le _, h0⟩, ?_⟩
  rintro i m σ H ⟨rfl, hi, p⟩
  have q := hl i σ H hi p
  by_cases hlt : i < xs.length
  · refine .inr ⟨⟨xs, xs[i], q, by simp [hlt]⟩, Pv (i + 1), fun σ' H' p' => ⟨xs.length - (i + 1), by omega, rfl, hlt, p'⟩, fun x H' y => ?_⟩
    obtain ⟨T, x', rfl, nT, rfl, hx⟩ := y
    exact hs i x' σ H T (hx xs q) p nT
  · refine .inl ⟨⟨xs, q, by omega⟩, ?_⟩
    have e : i = xs.length := by omega
    subst e
    exact hd σ H p

/-! from S11 -/
/-! ### one of two readings: a list or a tuple -/
def tAlt (t1 t2 : TE) : TE := fun σ H Q => t1 σ H Q ∨ t2 σ H Q
def gAlt (g1 g2 : TG) : TG := fun v σ H Q => g1 v σ H Q ∨ g2 v σ H Q
def iAlt (i1 i2 : TI) : TI := fun σ H R => i1 σ H R ∨ i2 σ H R
section
variable {X : Cx} {e tg : Expr}
theorem pe_alt {t1 t2 : TE} (h1 : PE X e t1) (h2 : PE X e t2) : PE X e (tAlt t1 t2) := ⟨fun pins s σ H Q I h => h.elim (h1.run pins s σ H Q I) (h2.run pins s σ H Q I)⟩
theorem pg_alt {t1 t2 : TG} (h1 : PG X e t1) (h2 : PG X e t2) : PG X e (gAlt t1 t2) := ⟨fun pins s σ H v u Q I r h => h.elim (h1.run pins s σ H v u Q I r) (h2.run pins s σ H v u Q I r)⟩
theorem pi_alt {t1 t2 : TI} (h1 : PI X tg e t1) (h2 : PI X tg e t2) : PI X tg e (iAlt t1 t2) := ⟨fun pins s σ H R I h => h.elim (h1.run pins s σ H R I) (h2.run pins s σ H R I)⟩
end
def sq : Bool → List PyData → PyData
  | true, ds => .tuple ds
  | false, ds => .list ds
section
variable {K : PySem.W.Frag} {te tb : TE} {σ : L2.St} {H : Hp} {D : Ends} {ts ty : TS} {ds : List PyData} {b : Bool} {a c d : PyData}
theorem d_ixS {i : Int} (h : EvD K te σ H (sq b ds)) (r : EvD K tb σ H (.int i)) (e : atI ds i = some d) : EvD K (tAlt (tOp (rIxT K) te tb) (tOp (rIxL K) te tb)) σ H d := fun H1 x Q k => by
  cases b with
  | true => exact .inl (d_ixT h r e H1 x Q k)
  | false => exact .inr (d_ixL h r e H1 x Q k)
theorem g_twoS {i j n : Nat} {v : V} {Q : L2.St → Hp → Prop} (hv : Dp K H v (sq b [a, c])) (hn : n = 2) (k : ∀ x y, Dp K H x a → Dp K H y c → Q ((σ.set i (some x)).set j (some y)) H) : gAlt (gTup K n (gCons (gName i) (gCons (gName j) gNil))) (gLst K n (gCons (gName i) (gCons (gName j) gNil))) v σ H Q := by
  cases b with
  | true => exact .inl (g_two hv hn k)
  | false =>
    refine .inr ?_
    cases hv with
    | lst hs ha =>
      cases ha with
      | cons h1 t1 =>
        cases t1 with
        | cons h2 t2 =>
          cases t2
          exact ⟨_, _, rfl, hs, hn.symm, _, _, rfl, _, _, rfl, rfl, k _ _ h1 h2⟩
/-- x, y = a list or tuple of two -/
theorem z_twoS {i j n : Nat} (h : EvD K te σ H (sq b [a, c])) (k : ∀ x y H1, Ex H H1 → Dp K H1 x a → Dp K H1 y c → ts D ((σ.set i (some x)).set j (some y)) H1) (hn : n = 2 := by rfl) :
    tSeq (tAsg te (gAlt (gTup K n (gCons (gName i) (gCons (gName j) gNil))) (gLst K n (gCons (gName i) (gCons (gName j) gNil))))) ts D σ H := h H (Ex.refl H) _ fun v H1 e hv => g_twoS hv hn fun x y hx hy => k x y H1 e hx hy
/-- for .. in a list or a tuple -/
theorem z_forS {tg : TG} (h : EvD K te σ H (sq b ds)) (Pv : Nat → L2.St → Hp → Prop) (h0 : ∀ H1, Ex H H1 → Pv 0 σ H1)
    (step : ∀ i d v σ' H' (D' : Ends), ds[i]? = some d → Ex H H' → Pv i σ' H' → Dp K H' v d → D'.rt = D.rt → (∀ σ2 H2, Ex H' H2 → Pv (i + 1) σ2 H2 → D'.nx σ2 H2) → tg v σ' H' fun σ2 H2 => ty D' σ2 H2)
    (fin : ∀ σ' H', Ex H H' → Pv ds.length σ' H' → ts D σ' H') : tSeq (tFor (iAlt (iList K te) (iTup K te)) tg ty) ts D σ H := by
  cases b with
  | false =>
    refine .inl (h H (Ex.refl H) _ fun v H1 e hv => ?_)
    cases hv with
    | lst hs ha =>
      rename_i a vs
      refine ⟨a, rfl, ⟨vs, hs⟩, ?_⟩
      have hl := dps_len ha
      refine for_list (fun i σ' H' => Ex H1 H' ∧ Pv i σ' H') ⟨Ex.refl H1, h0 _ e⟩ (fun i σ' H' _ p => ex_l p.1 hs) (fun i x σ' H' hx p => ?_) (fun σ' H' p => fin σ' H' (e.trans p.1) (by rw [← hl]; exact p.2))
      obtain ⟨d, hd, hxd⟩ := dps_back ha hx
      exact step i d x σ' H' _ hd (e.trans p.1) p.2 (dp_grow p.1 _ _ hxd) rfl fun σ2 H2 e2 p2 => ⟨p.1.trans e2, p2⟩
  | true =>
    refine .inr (h H (Ex.refl H) _ fun v H1 e hv => ?_)
    cases hv with
    | tup hs ha =>
      rename_i a vs
      refine ⟨a, rfl, ⟨vs, hs⟩, ?_⟩
      have hl := dps_len ha
      refine for_tup (fun i σ' H' => Ex H1 H' ∧ Pv i σ' H') ⟨Ex.refl H1, h0 _ e⟩ (fun i σ' H' _ p => ex_t p.1 hs) (fun i x σ' H' hx p => ?_) (fun σ' H' p => fin σ' H' (e.trans p.1) (by rw [← hl]; exact p.2))
      obtain ⟨d, hd, hxd⟩ := dps_back ha hx
      exact step i d x σ' H' _ hd (e.trans p.1) p.2 (dp_grow p.1 _ _ hxd) rfl fun σ2 H2 e2 p2 => ⟨p.1.trans e2, p2⟩
end
theorem take_next {α : Type} {l : List α} {i : Nat} {a : α} (h : l[i]? = some a) : l.take (i + 1) = l.take i ++ [a] := by
  rw [List.take_add_one, h]
  rfl

/-! from S11 -/
/-! ### what stands but for one object that changes -/
def rem (H : Hp) (L : Addr) : Hp := fun a => if a = L then none else H a
section
variable {K : PySem.W.Frag} {H H2 : Hp} {L : Addr} {o : HO}
theorem rem_ne {a : Addr} (h : a ≠ L) : rem H L a = H a := if_neg h
theorem rem_self : rem H L L = none := if_pos rfl
theorem rem_ex : Ex (rem H L) H := fun a u e => by
  by_cases q : a = L
  · subst q
    rw [rem_self] at e
    cases e
  · rw [rem_ne q] at e
    exact e
theorem ex_rem (h : Ex H H2) : Ex (rem H L) (rem H2 L) := fun a u e => by
  by_cases q : a = L
  · subst q
    rw [rem_self] at e
    cases e
  · rw [rem_ne q] at e ⊢
    exact h a u e
theorem rem_upd : rem (upd H L o) L = rem H L := funext fun a => by
  by_cases q : a = L
  · subst q
    rw [rem_self, rem_self]
  · rw [rem_ne q, rem_ne q, upd_ne q]
theorem rem_new (h : H L = none) : rem (upd H L o) L = H := funext fun a => by
  by_cases q : a = L
  · subst q
    rw [rem_self, h]
  · rw [rem_ne q, upd_ne q]
mutual
def flat : PyData → Bool
  | .list _ => false
  | .dict _ => false
  | .tuple ds => flats ds
  | _ => true
def flats : List PyData → Bool
  | [] => true
  | d :: ds => flat d && flats ds
end
def NoTup (o : HO) : Prop := ∀ xs : List V, (o ≠ .tup xs) ∧ (∀ u, o ≠ .frz u (.tup xs))
theorem noTup_l {xs : List V} : NoTup (.lst xs) := fun _ => ⟨(fun e => by cases e), (fun _ e => by cases e)⟩
theorem noTup_d {kvs : List (Key × V)} : NoTup (.dK kvs) := fun _ => ⟨(fun e => by cases e), (fun _ e => by cases e)⟩
theorem st_rem {a : Addr} {xs : List V} (hL : H L = some o) (ho : NoTup o) (h : SqT K H a xs) : SqT K (rem H L) a xs := by
  rcases h with h | h
  · have ne : a ≠ L := fun q => by
      subst q
      rcases h with h | ⟨u, h⟩
      · rw [hL] at h
        exact (ho xs).1 (Option.some.inj h)
      · rw [hL] at h
        exact (ho xs).2 u (Option.some.inj h)
    refine .inl ?_
    rcases h with h | ⟨u, h⟩
    · exact .inl (by rw [rem_ne ne]; exact h)
    · exact .inr ⟨u, by rw [rem_ne ne]; exact h⟩
  · exact .inr h
mutual
theorem dp_rem (hL : H L = some o) (ho : NoTup o) : ∀ (d : PyData) (v : V), flat d = true → Dp K H v d → Dp K (rem H L) v d
  | .none, _, _, h => by
    cases h
    exact .non
  | .bool b, _, _, h => by
    cases h
    exact .bl b
  | .int i, _, _, h => by
    cases h
    exact .int i
  | .str x, _, _, h => by
    cases h
    exact .str x
  | .list ds, _, f, _ => by cases f
  | .tuple ds, _, f, h => by
    cases h with
    | tup hs ha => exact .tup (st_rem hL ho hs) (dps_rem hL ho ds _ f ha)
  | .dict _, _, f, _ => by cases f
theorem dps_rem (hL : H L = some o) (ho : NoTup o) : ∀ (ds : List PyData) (vs : List V), flats ds = true → DpAll K H vs ds → DpAll K (rem H L) vs ds
  | [], _, _, h => by
    cases h
    exact .nil
  | d :: ds, _, f, h => by
    have f' := Bool.and_eq_true_iff.mp f
    cases h with
    | cons h1 h2 => exact .cons (dp_rem hL ho d _ f'.1 h1) (dps_rem hL ho ds _ f'.2 h2)
end
end
section
variable {K : PySem.W.Frag} {te tb : TE} {ta : TA} {σ : L2.St} {H Hb : Hp} {D : Ends} {ts ty : TS} {ds : List PyData} {b : Bool} {a c d : PyData}
/-- for .. in a list or a tuple that stands in a heap Hb, whatever else changes -/
theorem z_forB {tg : TG} {v : V} (hv : Dp K Hb v (sq b ds)) (h : Ev te σ H v) (Pv : Nat → L2.St → Hp → Prop) (h0 : ∀ H1, Ex H H1 → Pv 0 σ H1) (hb : ∀ i σ' H', Pv i σ' H' → Ex Hb H')
    (step : ∀ i d x σ' H' (D' : Ends), ds[i]? = some d → Pv i σ' H' → Dp K Hb x d → D'.rt = D.rt → (∀ σ2 H2, Pv (i + 1) σ2 H2 → D'.nx σ2 H2) → tg x σ' H' fun σ2 H2 => ty D' σ2 H2)
    (fin : ∀ σ' H', Pv ds.length σ' H' → ts D σ' H') : tSeq (tFor (iAlt (iList K te) (iTup K te)) tg ty) ts D σ H := by
  cases b with
  | false =>
    refine .inl (h H (Ex.refl H) _ fun H1 e => ?_)
    cases hv with
    | lst hs ha =>
      rename_i a vs
      refine ⟨a, rfl, ⟨vs, ex_l (hb _ _ _ (h0 _ e)) hs⟩, ?_⟩
      have hl := dps_len ha
      refine for_list Pv (h0 _ e) (fun i σ' H' _ p => ex_l (hb _ _ _ p) hs) (fun i x σ' H' hx p => ?_) (fun σ' H' p => fin σ' H' (by rw [← hl]; exact p))
      obtain ⟨d, hd, hxd⟩ := dps_back ha hx
      exact step i d x σ' H' _ hd p hxd rfl fun σ2 H2 p2 => p2
  | true =>
    refine .inr (h H (Ex.refl H) _ fun H1 e => ?_)
    cases hv with
    | tup hs ha =>
      rename_i a vs
      refine ⟨a, rfl, ⟨vs, ex_t (hb _ _ _ (h0 _ e)) hs⟩, ?_⟩
      have hl := dps_len ha
      refine for_tup Pv (h0 _ e) (fun i σ' H' _ p => ex_t (hb _ _ _ p) hs) (fun i x σ' H' hx p => ?_) (fun σ' H' p => fin σ' H' (by rw [← hl]; exact p))
      obtain ⟨d, hd, hxd⟩ := dps_back ha hx
      exact step i d x σ' H' _ hd p hxd rfl fun σ2 H2 p2 => p2
/-- the item of a list or tuple, as it stands -/
theorem ev_ixS {i : Int} {v : V} (hx : Ex Hb H) (h : Ev te σ H v) (hv : Dp K Hb v (sq b ds)) (e : atI ds i = some d) : ∃ z, Dp K Hb z d ∧ Ev (tAlt (tOp (rIxT K) te (tC (.int i))) (tOp (rIxL K) te (tC (.int i)))) σ H z := by
  cases b with
  | true =>
    cases hv with
    | tup hs ha =>
      obtain ⟨z, hz, hd⟩ := dps_at ha e
      exact ⟨z, hd, fun H1 x Q k => .inl (h H1 x _ fun H2 x2 => ⟨_, _, i, z, rfl, rfl, ex_t (hx.trans (x.trans x2)) hs, hz, k _ x2⟩)⟩
  | false =>
    cases hv with
    | lst hs ha =>
      obtain ⟨z, hz, hd⟩ := dps_at ha e
      exact ⟨z, hd, fun H1 x Q k => .inr (h H1 x _ fun H2 x2 => ⟨_, _, i, z, rfl, rfl, ex_l (hx.trans (x.trans x2)) hs, hz, k _ x2⟩)⟩
theorem d_lenS (h : EvD K te σ H (sq b ds)) : EvD K (tCB (fun xs H Q => ∃ p ys, xs = [.ref p] ∧ (SqL K H p ys ∨ SqT K H p ys) ∧ Q (.int ys.length) H) (tCons te tNil)) σ H (.int ds.length) := by
  cases b with
  | true => exact d_lenT h
  | false => exact d_lenL h
theorem d_tupL (h : EvD K te σ H (.list ds)) : EvD K (tCB (fun xs H Q => ∃ p ys, xs = [.ref p] ∧ ((SqL K H p ys ∧ ∀ l, H l = none → Q (.ref l) (upd H l (.tup ys))) ∨ (SqT K H p ys ∧ Q (.ref p) H))) (tCons te tNil)) σ H (.tuple ds) := fun H1 x Q k =>
  h H1 x _ fun v H2 x2 hv => by
    cases hv with
    | lst hs ha => exact ⟨_, _, rfl, .inl ⟨hs, fun l hl => k _ _ (x2.trans (Ex.new hl)) (.tup (st_of upd_same) (dps_grow (Ex.new hl) _ _ ha))⟩⟩
end
def isListD : PyData → Bool
  | .list _ => true
  | _ => false
def isSeqD (d : PyData) : Bool := isListD d || isTupD d
theorem kit_list (d : PyData) : kitB (kind d) "list" = some (isListD d) := by cases d <;> rfl
def items : PyData → List PyData
  | .list ds => ds
  | .tuple ds => ds
  | _ => []
def coupleD (d : PyData) : Bool := isSeqD d && decide (((items d).length : Int) = 2)
theorem seq_of {t : PyData} (c : isSeqD t = true) : ∃ b, t = sq b (items t) := by
  cases t
  all_goals first | exact ⟨true, rfl⟩ | exact ⟨false, rfl⟩ | cases c
theorem items_sq (b : Bool) (ds : List PyData) : items (sq b ds) = ds := by cases b <;> rfl
theorem couple_of {t : PyData} (c : coupleD t = true) : ∃ b x y, t = sq b [x, y] := by
  obtain ⟨c1, c2⟩ := Bool.and_eq_true_iff.mp c
  obtain ⟨b, hb⟩ := seq_of c1
  have c3 := of_decide_eq_true c2
  generalize items t = ds at hb c3
  have c4 : ds.length = 2 := by omega
  match ds, c4 with
  | [x, y], _ => exact ⟨b, x, y, hb⟩
def fSeq (ds : List PyData) (d : PyData) : Prop := ∃ t, ds = [t, .int 0, .none] ∧ d = .bool (isSeqD t)
def fCouple (ds : List PyData) (d : PyData) : Prop := ∃ t, ds = [t] ∧ d = .bool (coupleD t)
def fSettled (ds : List PyData) (d : PyData) : Prop := ∃ t kp, ds = [t, kp] ∧ SeqAt.shaped t = true ∧ SeqAt.shaped kp = true ∧ d = if PyData.eqv t kp = true then t else kp

/-! from S11 -/
section
variable {K : PySem.W.Frag} {te : TE} {σ : L2.St} {H : Hp} {D : Ends} {ts : TS} {d : PyData}
/-- xs.append(e) on the list at L -/
theorem z_append {L : Addr} {vs : List V} {i : Nat} (hσ : σ[i]? = some (some (.ref L))) (hL : H L = some (.lst vs)) (hl : vs.length ≤ 1000) (h : EvD K te σ H d) (k : ∀ v H2, Ex H H2 → Dp K H2 v d → ts D σ (upd H2 L (.lst (vs ++ [v])))) :
    tSeq (tDrop (tBM K "list" rAppend (tVar i) (tCons te tNil))) ts D σ H :=
  ⟨_, hσ, .inl ⟨rfl, _, SqL.of hL⟩, h H (Ex.refl H) _ fun v H2 e hv => ⟨L, vs, v, rfl, rfl, e _ _ hL, sz_lt (by omega), k v H2 e hv⟩⟩
theorem z_append1 {L : Addr} {vs : List V} {i : Nat} (hσ : σ[i]? = some (some (.ref L))) (hL : H L = some (.lst vs)) (hl : vs.length ≤ 1000) (h : EvD K te σ H d) (k : ∀ v H2, Ex H H2 → Dp K H2 v d → D.nx σ (upd H2 L (.lst (vs ++ [v])))) :
    tDrop (tBM K "list" rAppend (tVar i) (tCons te tNil)) D σ H :=
  ⟨_, hσ, .inl ⟨rfl, _, SqL.of hL⟩, h H (Ex.refl H) _ fun v H2 e hv => ⟨L, vs, v, rfl, rfl, e _ _ hL, sz_lt (by omega), k v H2 e hv⟩⟩
theorem drop_cons {α : Type} {l : List α} {i : Nat} {a : α} (h : l[i]? = some a) : l.drop i = a :: l.drop (i + 1) := by
  obtain ⟨hi, rfl⟩ := List.getElem?_eq_some_iff.mp h
  exact List.drop_eq_getElem_cons hi
/-- x = [] -/
theorem z_nil {i : Nat} (k : ∀ L, H L = none → ts D (σ.set i (some (.ref L))) (upd H L (.lst []))) : tSeq (tAsg (tLst tNil) (gName i)) ts D σ H := ⟨sz_of (by show 0 ≤ 100000; decide), fun L hL => k L hL⟩
end

/-! from S11 -/
section
variable {X : Cx} {CX : CXT} {k : Nat} {f : Addr} {sp : Sp} {E : XK} {x : Str} {e : Expr} {es : List Expr} {t : TA} {p pos : Pos}
/-- f(e, ..) of a def known by FnR -/
theorem pe_callF (F : FnR X.prog X.w X.K X.mg X.base CX k f sp) (hr : Room k X.A) (hk : PySem.W.keepIn X.K (.ref f) = true) (hm : X.mg x = some (.ref f)) (hx : Passes CX X E) (ha : PA X (e :: es) t) (hg : Gl X x := by rfl)
    (hdb : (x == ("__debug__" : Str)) = false := by decide) (he : starEach (e :: es) X.env = (false, eval e X.env) :: starEach es X.env := by rfl) (hpl : (backTo pos (starEach es X.env)).any (·.1) = false := by rfl) :
    PE X (.Call (.Name x p) (e :: es) [] pos) (tCall sp [] E t) := by
  refine ⟨fun pins s σ H Q I h => ?_⟩
  refine wpAny_Call_Name_kw (ld_glob I hg hm ?_ hdb)
  refine PySem.W.callWith_K (h₀ := X.base) I.ok.mod.kin hk (thn (ha.run pos pins s σ H _ I h) fun us s1 ⟨vs, H1, I1, r, q⟩ => ⟨I1.kIn, ?_⟩) he hpl
  have q : sp (vs ++ []) H1 Q E := q
  rw [List.append_nil] at q
  exact wpAny_call (run_fnR F hr hx I1 r q)
end
section
variable {K : PySem.W.Frag} {te tb ty tx : TE} {tt : TT} {ta : TA} {σ : L2.St} {H Hb : Hp} {D : Ends} {ts : TS} {ds : List PyData} {b : Bool} {a c d z : PyData}
/-- d.get(k, x) -/
theorem d_dget2 {T : Addr} {kvs : List (Key × V)} {i : Nat} {k : Int} (hσ : σ[i]? = some (some (.ref T))) (hT : H T = some (.dK kvs)) (hy : EvD K ty σ H (.int k)) (hz : EvD K tx σ H z) (h1 : ∀ v, valV kvs (Sum.inl k) = some v → Dp K H v d) (h2 : valV kvs (Sum.inl k) = none → z = d) :
    EvD K (tDGet2 (tVar i) ty tx) σ H d := fun H1 x Q q => ⟨_, hσ, T, rfl, .inl ⟨kvs, .inl (x _ _ hT)⟩, hy H1 x _ fun v H2 x2 hv => hz H2 (x.trans x2) _ fun w H3 x3 hw => by
  cases hv
  have e := DGet.k (k := Sum.inl k) ((x.trans (x2.trans x3)) _ _ hT)
  refine ⟨_, e, ?_⟩
  cases o : valV kvs (Sum.inl k) with
  | some v => exact q _ _ (x2.trans x3) (dp_grow (x.trans (x2.trans x3)) _ _ (h1 v o))
  | none =>
    have := h2 o
    subst this
    exact q _ _ (x2.trans x3) hw⟩
/-- d[k] -/
theorem d_dget {T : Addr} {kvs : List (Key × V)} {i : Nat} {k : Int} {v : V} (hσ : σ[i]? = some (some (.ref T))) (hT : H T = some (.dK kvs)) (hy : EvD K ty σ H (.int k)) (h1 : valV kvs (Sum.inl k) = some v) (h2 : Dp K H v d) :
    EvD K (tDGet (tVar i) ty) σ H d := fun H1 x Q q => ⟨_, hσ, hy H1 x _ fun u H2 x2 hv => by
  cases hv
  have e := DGet.k (k := Sum.inl k) ((x.trans x2) _ _ hT)
  rw [h1] at e
  exact ⟨T, v, rfl, e, q _ _ x2 (dp_grow (x.trans x2) _ _ h2)⟩⟩
/-- d[k] = e, the last one of a block -/
theorem z_dput1 {T : Addr} {kvs : List (Key × V)} {i : Nat} {k : Int} (hσ : σ[i]? = some (some (.ref T))) (hT : H T = some (.dK kvs)) (hl : kvs.length ≤ 1000) (hv : EvD K te σ H d) (hy : ∀ H1, Ex H H1 → Ev ty σ H1 (.int k)) (q : ∀ v H2 H3, Ex H H2 → Dp K H2 v d → Ex H2 H3 → D.nx σ (upd H3 T (.dK (putK kvs (Sum.inl k) v)))) :
    sDPut (tVar i) ty te D σ H := hv H (Ex.refl H) _ fun v H2 x2 h => ⟨_, hσ, hy _ x2 H2 (Ex.refl H2) _ fun H3 x3 => ⟨T, _, rfl, DPut.k (k := Sum.inl k) ((x2.trans x3) _ _ hT) (sz_lt (by omega)), q v H2 H3 x2 h x3⟩⟩
theorem flat_map {l : List PyData} {g : PyData → PyData} (h : ∀ d ∈ l, flat (g d) = true) : flats (l.map g) = true := by
  induction l with
  | nil => rfl
  | cons d l ih =>
    show (flat (g d) && flats (l.map g)) = true
    rw [h d List.mem_cons_self, ih fun d hd => h d (List.mem_cons_of_mem _ hd)]
    rfl
theorem take_filter {α β : Type} {l : List α} {i : Nat} {a : α} {p : α → Bool} {g : α → β} (h : l[i]? = some a) : ((l.take (i + 1)).filter p).map g = ((l.take i).filter p).map g ++ if p a = true then [g a] else [] := by
  rw [take_next h, List.filter_append, List.map_append]
  congr 1
  by_cases q : p a = true
  · rw [if_pos q, List.filter_cons_of_pos q]
    rfl
  · rw [if_neg q, List.filter_cons_of_neg q]
    rfl
/-- [e for x in xs if t] over data, its items without lists -/
theorem d_lcL {j : Nat} {vs : List Nat} (p : PyData → Bool) (g : PyData → PyData) (h : EvD K tx σ H (.list ds)) (hn : ds.length ≤ 40000) (hw : ∀ x, wipe ((wipe σ vs).set j (some x)) vs = wipe σ vs)
    (hp : ∀ d v H1, Ex H H1 → d ∈ ds → Dp K H1 v d → EvB tt ((wipe σ vs).set j (some v)) H1 (p d)) (he : ∀ d v H1, Ex H H1 → d ∈ ds → p d = true → Dp K H1 v d → EvD K te ((wipe σ vs).set j (some v)) H1 (g d)) (hf : ∀ d ∈ ds, flat (g d) = true) :
    EvD K (tLc (iList K tx) (gName j) tt te vs) σ H (.list ((ds.filter p).map g)) := fun H1 e Q k => by
  refine h H1 e _ fun v H2 e2 hv => ?_
  cases hv with
  | lst hs ha =>
    rename_i a xs
    have hl := dps_len ha
    refine ⟨a, rfl, ⟨xs, hs⟩, fun D hD => ?_⟩
    refine lc_list (K := K) (xs := xs) (fun i H' => ∃ acc, H' D = some (.lst acc) ∧ acc.length ≤ i ∧ Ex H2 (rem H' D) ∧ DpAll K (rem H' D) acc (((ds.take i).filter p).map g)) ⟨[], upd_same, Nat.le_refl _, by rw [rem_new hD]; exact Ex.refl H2, .nil⟩ (fun i H' _ ⟨_, _, _, ex, _⟩ => ex_l (ex.trans rem_ex) hs) ?_ ?_
    · rintro i x H' hx ⟨acc, hacc, hlen, ex, hall⟩
      obtain ⟨d, hd, hxd⟩ := dps_back ha hx
      have hm := List.mem_of_getElem? hd
      have ex0 : Ex H H' := e.trans (e2.trans (ex.trans rem_ex))
      have hi : i < ds.length := (List.getElem?_eq_some_iff.mp hd).1
      have hx' := dp_grow (ex.trans rem_ex) _ _ hxd
      refine ⟨hw x, hp d x H' ex0 hm hx' H' (Ex.refl H') _ fun H3 e3 => ?_⟩
      cases c : p d with
      | true =>
        refine (if_pos rfl : _ = _) ▸ he d x H3 (ex0.trans e3) hm c (dp_grow e3 _ _ hx') H3 (Ex.refl H3) _ fun y H4 e4 hy => ?_
        have e34 := e3.trans e4
        refine ⟨acc, e34 _ _ hacc, sz_lt (by omega), acc ++ [y], upd_same, by rw [List.length_append]; exact Nat.succ_le_succ hlen, ?_, ?_⟩
        · rw [rem_upd]
          exact ex.trans (ex_rem e34)
        · rw [rem_upd, take_filter hd, if_pos c]
          exact dps_app (dps_grow (ex_rem e34) _ _ hall) (.cons (dp_rem (e34 _ _ hacc) noTup_l _ _ (hf d hm) hy) .nil)
      | false =>
        refine (if_neg Bool.false_ne_true : _ = _) ▸ ⟨acc, e3 _ _ hacc, by omega, ex.trans (ex_rem e3), ?_⟩
        rw [take_filter hd, if_neg (by rw [c]; decide), List.append_nil]
        exact dps_grow (ex_rem e3) _ _ hall
    · rintro H3 ⟨acc, hacc, _, ex, hall⟩
      rw [hl, List.take_length] at hall
      exact k _ _ (e2.trans (ex.trans rem_ex)) (.lst (SqL.of hacc) (dps_grow rem_ex _ _ hall))
/-- sorted(d) of a dict of ints -/
theorem d_sortedD {T : Addr} {kvs : List (Key × V)} {i : Nat} {ks : List Int} (hσ : σ[i]? = some (some (.ref T))) (hT : H T = some (.dK kvs)) (hk : kvs.map (·.1) = ks.map Sum.inl) (hl : ks.length < 64) :
    EvD K (tCB (fun xs H Q => ∃ (a : Addr) (kvs : List (Key × V)) (ks : List Int), xs = [.ref a] ∧ Rd H a (.dK kvs) ∧ kvs.map (·.1) = ks.map Sum.inl ∧ ks.length < 64 ∧
    ∀ (ys : List Int) (p : Addr), ys.Perm ks → ys.Pairwise (· ≤ ·) → H p = none → Q (.ref p) (upd H p (.lst (ys.map V.int)))) (tCons (tVar i) tNil)) σ H (.list ((PySem.W.sortI ks).map PyData.int)) := fun H1 x Q q =>
  ⟨_, hσ, T, kvs, ks, rfl, .inl (x _ _ hT), hk, hl, fun ys p hp hs hn => q _ _ (Ex.new hn) (.lst (SqL.of upd_same) (by
    rw [PySem.W.eq_sortI hp hs]
    generalize PySem.W.sortI ks = zs
    generalize upd H1 p _ = H2
    induction zs with
    | nil => exact .nil
    | cons y ys ih => exact .cons (.int y) ih))⟩
end

/-! from S11 -/
section
variable {K : PySem.W.Frag} {te tb ty tx : TE} {tt : TT} {ta : TA} {σ : L2.St} {H Hb : Hp} {D : Ends} {ts : TS} {ds : List PyData} {b : Bool} {d : PyData}
/-- a new list that holds data, known apart from what stands elsewhere -/
def EvN (K : PySem.W.Frag) (te : TE) (σ : L2.St) (H : Hp) (ds : List PyData) : Prop := ∀ H1, Ex H H1 → ∀ Q : VK, (∀ p xs H2, H1 p = none → Ex H1 (rem H2 p) → H2 p = some (.lst xs) → DpAll K (rem H2 p) xs ds → Q (.ref p) H2) → te σ H1 Q
theorem evn_d (h : EvN K te σ H ds) : EvD K te σ H (.list ds) := fun H1 e Q k => h H1 e Q fun p xs H2 hp e2 hx ha => k _ _ (e2.trans rem_ex) (.lst (SqL.of hx) (dps_grow rem_ex _ _ ha))
theorem z_new {i : Nat} (h : EvN K te σ H ds) (k : ∀ p xs H2, H p = none → Ex H (rem H2 p) → H2 p = some (.lst xs) → DpAll K (rem H2 p) xs ds → ts D (σ.set i (some (.ref p))) H2) : tSeq (tAsg te (gName i)) ts D σ H := h H (Ex.refl H) _ k
/-- [e for i in range(n) if t] over data, its items without lists -/
theorem n_lcR {j n : Nat} {vs : List Nat} (p : Nat → Bool) (g : Nat → PyData) (h : EvDs K ta σ H [.int (n : Int)]) (hn : n ≤ 40000) (hw : ∀ x, wipe ((wipe σ vs).set j (some x)) vs = wipe σ vs)
    (hp : ∀ i H1, Ex H H1 → i < n → EvB tt ((wipe σ vs).set j (some (.int (i : Int)))) H1 (p i)) (he : ∀ i H1, Ex H H1 → i < n → p i = true → EvD K te ((wipe σ vs).set j (some (.int (i : Int)))) H1 (g i)) (hf : ∀ i, flat (g i) = true) :
    EvN K (tLc (iRng1 ta) (gName j) tt te vs) σ H (((List.range n).filter p).map g) := fun H1 e Q k => by
  refine h H1 e _ fun ws H2 e2 hv => ?_
  obtain ⟨x, ws, rfl, hx, hv⟩ := dps_cons hv
  obtain rfl := dps_nil hv
  cases hx
  refine ⟨(n : Int), rfl, by omega, by omega, fun D hD => ?_⟩
  refine lc_range (lo := 0) (n := (n : Int).toNat) (fun i H' => ∃ acc, H' D = some (.lst acc) ∧ acc.length ≤ i ∧ Ex H2 (rem H' D) ∧ DpAll K (rem H' D) acc (((List.range i).filter p).map g)) ⟨[], upd_same, Nat.le_refl _, by rw [rem_new hD]; exact Ex.refl H2, .nil⟩ ?_ ?_
  · rintro i H' hi ⟨acc, hacc, hlen, ex, hall⟩
    have hi : i < n := by omega
    have ex0 : Ex H H' := e.trans (e2.trans (ex.trans rem_ex))
    have z0 : (0 : Int) + (i : Int) = (i : Int) := Int.zero_add _
    rw [z0]
    refine ⟨hw _, hp i H' ex0 hi H' (Ex.refl H') _ fun H3 e3 => ?_⟩
    have ef : ((List.range (i + 1)).filter p).map g = ((List.range i).filter p).map g ++ if p i = true then [g i] else [] := by
      rw [List.range_succ, List.filter_append, List.map_append]
      congr 1
      by_cases q : p i = true
      · rw [if_pos q, List.filter_cons_of_pos q]
        rfl
      · rw [if_neg q, List.filter_cons_of_neg q]
        rfl
    cases c : p i with
    | true =>
      refine (if_pos rfl : _ = _) ▸ he i H3 (ex0.trans e3) hi c H3 (Ex.refl H3) _ fun y H4 e4 hy => ?_
      have e34 := e3.trans e4
      refine ⟨acc, e34 _ _ hacc, sz_lt (by omega), acc ++ [y], upd_same, by rw [List.length_append]; exact Nat.succ_le_succ hlen, ?_, ?_⟩
      · rw [rem_upd]
        exact ex.trans (ex_rem e34)
      · rw [rem_upd, ef, if_pos c]
        exact dps_app (dps_grow (ex_rem e34) _ _ hall) (.cons (dp_rem (e34 _ _ hacc) noTup_l _ _ (hf i) hy) .nil)
    | false =>
      refine (if_neg Bool.false_ne_true : _ = _) ▸ ⟨acc, e3 _ _ hacc, by omega, ex.trans (ex_rem e3), ?_⟩
      rw [ef, if_neg (by rw [c]; decide), List.append_nil]
      exact dps_grow (ex_rem e3) _ _ hall
  · rintro H3 ⟨acc, hacc, _, ex, hall⟩
    have en : (n : Int).toNat = n := Int.toNat_natCast n
    rw [en] at hall
    exact k D acc H3 (fresh_back e2 hD) (e2.trans ex) hacc hall
theorem dps_set {H : Hp} {d : PyData} {v : V} : ∀ {vs : List V} {ds : List PyData} {j : Nat}, DpAll K H vs ds → Dp K H v d → DpAll K H (vs.set j v) (ds.set j d)
  | _, _, _, .nil, _ => .nil
  | _, _, 0, .cons _ t, h => .cons h t
  | _, _, j + 1, .cons x t, h => .cons x (dps_set (j := j) t h)
/-- xs[i] = e, the last one of a block -/
theorem z_lput1 {S : Addr} {vs : List V} {i j : Nat} (hσ : σ[i]? = some (some (.ref S))) (hS : H S = some (.lst vs)) (hj : j < vs.length) (hv : EvD K te σ H d) (hy : ∀ H1, Ex H H1 → Ev ty σ H1 (.int (j : Int))) (q : ∀ v H2 H3, Ex H H2 → Dp K H2 v d → Ex H2 H3 → D.nx σ (upd H3 S (.lst (vs.set j v)))) :
    tAsg te (gSub (tVar i) ty rSetL) D σ H := hv H (Ex.refl H) _ fun v H2 x2 h => ⟨_, hσ, hy _ x2 H2 (Ex.refl H2) _ fun H3 x3 => ⟨S, vs, (j : Int), j, rfl, rfl, (x2.trans x3) _ _ hS, by
  unfold ixN
  rw [if_pos (by omega), if_pos (by omega), Int.toNat_natCast], q v H2 H3 x2 h x3⟩⟩
end
theorem hand_grow {H H' : Hp} {h c : Addr} {ns : List Int} (e : Ex H H') (hh : HandOk H h c ns) : HandOk H' h c ns := by
  obtain ⟨x, y, z, h1, h2, r⟩ := hh
  exact ⟨x, y, z, e _ _ h1, e _ _ h2, r⟩

/-! from S11 -/
/-! ### plain lists: such as may stand beside + -/
def EvW (K : PySem.W.Frag) (te : TE) (σ : L2.St) (H : Hp) (ds : List PyData) : Prop := ∀ H1, Ex H H1 → ∀ Q : VK, (∀ p xs H2, Ex H1 H2 → H2 p = some (.lst xs) → DpAll K H2 xs ds → Q (.ref p) H2) → te σ H1 Q
section
variable {K : PySem.W.Frag} {te tb : TE} {t : TT} {ta : TA} {σ : L2.St} {H : Hp} {D : Ends} {ts : TS} {ds es : List PyData}
theorem w_d (h : EvW K te σ H ds) : EvD K te σ H (.list ds) := fun H1 e Q k => h H1 e Q fun p xs H2 e2 hx ha => k _ _ e2 (.lst (SqL.of hx) ha)
theorem w_lst (h : EvDs K ta σ H ds) (hl : ds.length ≤ 1000) : EvW K (tLst ta) σ H ds := fun H1 x Q k =>
  h H1 x _ fun vs H2 x2 hvs => ⟨sz_of (by rw [dps_len hvs]; omega), fun p hp => k p vs _ (x2.trans (Ex.new hp)) upd_same (dps_grow (Ex.new hp) _ _ hvs)⟩
theorem w_var {i : Nat} {p : Addr} {xs : List V} (hσ : σ[i]? = some (some (.ref p))) (hx : H p = some (.lst xs)) (ha : DpAll K H xs ds) : EvW K (tVar i) σ H ds := fun H1 e Q k => ⟨_, hσ, k p xs H1 (Ex.refl H1) (e _ _ hx) (dps_grow e _ _ ha)⟩
theorem w_cat (h : EvW K te σ H ds) (r : EvW K tb σ H es) (hl : ds.length ≤ 1000) (hl' : es.length ≤ 1000) : EvW K (tOp rCat te tb) σ H (ds ++ es) := fun H1 e Q k =>
  h H1 e _ fun p xs H2 e2 hx ha => r H2 (e.trans e2) _ fun q ys H3 e3 hy hb => ⟨p, q, xs, ys, rfl, rfl, e3 _ _ hx, hy, sz_of (by rw [dps_len ha, dps_len hb]; omega), fun n hn =>
    k n _ _ ((e2.trans e3).trans (Ex.new hn)) upd_same (dps_app (dps_grow (e3.trans (Ex.new hn)) _ _ ha) (dps_grow (Ex.new hn) _ _ hb))⟩
theorem w_if {b : Bool} (h : EvB t σ H b) (r1 : b = true → EvW K te σ H ds) (r2 : b = false → EvW K tb σ H ds) : EvW K (tIf t te tb) σ H ds := fun H1 x Q k => h H1 x _ fun H2 x2 => by
  cases b with
  | true =>
    show te σ H2 Q
    exact r1 rfl H2 (x.trans x2) Q fun p xs H3 x3 => k p xs H3 (x2.trans x3)
  | false =>
    show tb σ H2 Q
    exact r2 rfl H2 (x.trans x2) Q fun p xs H3 x3 => k p xs H3 (x2.trans x3)
theorem cut_last (vs : List V) : cutV vs none (some (-1)) = vs.dropLast := by
  have e1 : HT.sIx vs.length vs.length (some (-1)) = vs.length - 1 := by
    show (if (-1 : Int) < 0 then ((-1 : Int) + (vs.length : Int)).toNat else min ((-1 : Int).toNat) vs.length) = _
    rw [if_pos (by decide)]
    omega
  have e0 : HT.sIx vs.length 0 none = 0 := rfl
  unfold cutV
  rw [e1, e0, List.drop_zero, List.dropLast_eq_take, Nat.sub_zero]
theorem dps_take {H : Hp} : ∀ {vs : List V} {ds : List PyData} (n : Nat), DpAll K H vs ds → DpAll K H (vs.take n) (ds.take n)
  | _, _, 0, _ => .nil
  | _, _, _ + 1, .nil => .nil
  | _, _, n + 1, .cons h t => .cons h (dps_take n t)
/-- xs[:-1] -/
theorem w_init (h : EvW K te σ H ds) (r : EvD K tb σ H (.int (-1))) : EvW K (tSl (rSlL K) te tNoPart (tPart tb)) σ H ds.dropLast := fun H1 e Q k =>
  h H1 e _ fun p xs H2 e2 hx ha => r H2 (e.trans e2) _ fun v H3 e3 hv => by
    cases hv
    refine ⟨-1, rfl, p, xs, rfl, SqL.of (e3 _ _ hx), fun q hq => ?_⟩
    have z := k q _ _ ((e2.trans e3).trans (Ex.new (o := .lst (cutV xs none (some (-1)))) hq)) upd_same
    refine z ?_
    rw [cut_last, List.dropLast_eq_take, List.dropLast_eq_take, dps_len ha]
    exact dps_take _ (dps_grow (e3.trans (Ex.new hq)) _ _ ha)
/-- t[:1] of a couple -/
theorem d_one {a c : PyData} (h : EvD K te σ H (.tuple [a, c])) (r : EvD K tb σ H (.int 1)) : EvD K (tSl (rSlT K) te tNoPart (tPart tb)) σ H (.tuple [a]) := fun H1 e Q k =>
  h H1 e _ fun w H2 e2 hw => r H2 (e.trans e2) _ fun v H3 e3 hv => by
    cases hv
    cases dp_grow e3 _ _ hw with
    | tup hs ha =>
      obtain ⟨x, ws, rfl, hx, ha⟩ := dps_cons ha
      obtain ⟨y, ws, rfl, hy, ha⟩ := dps_cons ha
      obtain rfl := dps_nil ha
      refine ⟨1, rfl, _, _, rfl, hs, (fun z => absurd z.2 (by show ¬ ((1 : Nat) = 2); decide)), fun q hq => k _ _ ((e2.trans e3).trans (Ex.new hq)) (.tup (SqT.of upd_same) (.cons (dp_grow (Ex.new hq) _ _ hx) .nil))⟩
/-- t + u of tuples that are not empty -/
theorem d_catT (h : EvD K te σ H (.tuple ds)) (r : EvD K tb σ H (.tuple es)) (h1 : ds ≠ []) (h2 : es ≠ []) (hl : ds.length + es.length ≤ 1000) : EvD K (tOp (rCatT K) te tb) σ H (.tuple (ds ++ es)) := fun H1 e Q k =>
  h H1 e _ fun v H2 e2 hv => r H2 (e.trans e2) _ fun w H3 e3 hw => by
    cases dp_grow e3 _ _ hv with
    | tup hs ha =>
      cases hw with
      | tup hs' hb =>
        rename_i p xs q ys
        have n1 : xs ≠ [] := fun z => h1 (List.length_eq_zero_iff.mp (by rw [← dps_len ha, z]; rfl))
        have n2 : ys ≠ [] := fun z => h2 (List.length_eq_zero_iff.mp (by rw [← dps_len hb, z]; rfl))
        exact ⟨_, _, xs, ys, rfl, rfl, hs, hs', n1, sz_of (by rw [dps_len ha, dps_len hb]; omega), fun z => absurd z n2, fun _ n hn => k _ _ ((e2.trans e3).trans (Ex.new hn)) (.tup (SqT.of upd_same) (dps_app (dps_grow (Ex.new hn) _ _ ha) (dps_grow (Ex.new hn) _ _ hb)))⟩
theorem z_plain {i : Nat} (h : EvW K te σ H ds) (k : ∀ p xs H2, Ex H H2 → H2 p = some (.lst xs) → DpAll K H2 xs ds → ts D (σ.set i (some (.ref p))) H2) : tSeq (tAsg te (gName i)) ts D σ H := h H (Ex.refl H) _ k
end

/-! from S11 -/
section
variable {K : PySem.W.Frag} {te tb : TE} {tt : TT} {ta : TA} {σ : L2.St} {H : Hp} {D : Ends} {ts ty : TS} {ds : List PyData} {d : PyData}
def rListOf (K : PySem.W.Frag) : List V → Hp → VK → Prop := fun xs H Q => ∃ p ys, xs = [.ref p] ∧ (SqL K H p ys ∨ SqT K H p ys) ∧ ∀ l, H l = none → Q (.ref l) (upd H l (.lst ys))
theorem z_spec {i : Nat} (S : V → Hp → Prop) (h : ∀ Q : VK, (∀ v H1, S v H1 → Q v H1) → te σ H Q) (k : ∀ v H1, S v H1 → ts D (σ.set i (some v)) H1) : tSeq (tAsg te (gName i)) ts D σ H := h _ k
/-- for x in range(n), whatever changes: S tells what the number is -/
theorem z_forA {j : Nat} (S : Int → Hp → Prop) (h : ∀ Q : List V → Hp → Prop, (∀ n H1, S n H1 → 0 ≤ n ∧ n ≤ 100000 → Q [.int n] H1) → ta σ H Q) (Pv : Int → Nat → L2.St → Hp → Prop) (p0 : ∀ n H1, S n H1 → Pv n 0 σ H1)
    (step : ∀ (n : Int) (i : Nat) σ' H' (D' : Ends), (i : Int) < n → Pv n i σ' H' → D'.rt = D.rt → (∀ σ2 H2, Pv n (i + 1) σ2 H2 → D'.nx σ2 H2) → ty D' (σ'.set j (some (.int (i : Int)))) H')
    (fin : ∀ n σ' H', 0 ≤ n → Pv n n.toNat σ' H' → ts D σ' H') : tSeq (tFor (iRng1 ta) (gName j) ty) ts D σ H := by
  refine h _ fun n H1 s hn => ⟨n, rfl, by omega, by omega, for_range (lo := 0) (n := n.toNat) (Pv n) (p0 n H1 s) (fun i σ' H' hi p => ?_) (fun σ' H' p => fin n σ' H' hn.1 p)⟩
  have e0 : (0 : Int) + (i : Int) = (i : Int) := Int.zero_add _
  rw [e0]
  exact step n i σ' H' _ (by omega) p rfl fun σ2 H2 p2 => p2
/-- for .. in a list or a tuple, the last one of a block -/
theorem z_forS1 {tg : TG} {b : Bool} (h : EvD K te σ H (sq b ds)) (Pv : Nat → L2.St → Hp → Prop) (h0 : ∀ H1, Ex H H1 → Pv 0 σ H1)
    (step : ∀ i d v σ' H' (D' : Ends), ds[i]? = some d → Ex H H' → Pv i σ' H' → Dp K H' v d → D'.rt = D.rt → (∀ σ2 H2, Ex H' H2 → Pv (i + 1) σ2 H2 → D'.nx σ2 H2) → tg v σ' H' fun σ2 H2 => ty D' σ2 H2)
    (fin : ∀ σ' H', Ex H H' → Pv ds.length σ' H' → D.nx σ' H') : tFor (iAlt (iList K te) (iTup K te)) tg ty D σ H := by
  cases b with
  | false =>
    refine .inl (h H (Ex.refl H) _ fun v H1 e hv => ?_)
    cases hv with
    | lst hs ha =>
      rename_i a vs
      refine ⟨a, rfl, ⟨vs, hs⟩, ?_⟩
      have hl := dps_len ha
      refine for_list (fun i σ' H' => Ex H1 H' ∧ Pv i σ' H') ⟨Ex.refl H1, h0 _ e⟩ (fun i σ' H' _ p => ex_l p.1 hs) (fun i x σ' H' hx p => ?_) (fun σ' H' p => fin σ' H' (e.trans p.1) (by rw [← hl]; exact p.2))
      obtain ⟨d, hd, hxd⟩ := dps_back ha hx
      exact step i d x σ' H' _ hd (e.trans p.1) p.2 (dp_grow p.1 _ _ hxd) rfl fun σ2 H2 e2 p2 => ⟨p.1.trans e2, p2⟩
  | true =>
    refine .inr (h H (Ex.refl H) _ fun v H1 e hv => ?_)
    cases hv with
    | tup hs ha =>
      rename_i a vs
      refine ⟨a, rfl, ⟨vs, hs⟩, ?_⟩
      have hl := dps_len ha
      refine for_tup (fun i σ' H' => Ex H1 H' ∧ Pv i σ' H') ⟨Ex.refl H1, h0 _ e⟩ (fun i σ' H' _ p => ex_t p.1 hs) (fun i x σ' H' hx p => ?_) (fun σ' H' p => fin σ' H' (e.trans p.1) (by rw [← hl]; exact p.2))
      obtain ⟨d, hd, hxd⟩ := dps_back ha hx
      exact step i d x σ' H' _ hd (e.trans p.1) p.2 (dp_grow p.1 _ _ hxd) rfl fun σ2 H2 e2 p2 => ⟨p.1.trans e2, p2⟩
/-- for x in a list of which only a property of its items is known -/
theorem z_forF {j : Nat} {b : Bool} (S : List PyData → Prop) (h : ∀ H1, Ex H H1 → ∀ Q : VK, (∀ v H2 l, Ex H1 H2 → Dp K H2 v (.list l) → S l → Q v H2) → te σ H1 Q) (Pv : Nat → L2.St → Hp → Prop) (h0 : ∀ H1, Ex H H1 → Pv 0 σ H1)
    (step : ∀ i d v σ' H' (D' : Ends) l, S l → d ∈ l → Ex H H' → Pv i σ' H' → Dp K H' v d → D'.rt = D.rt → (∀ σ2 H2, Ex H' H2 → Pv (i + 1) σ2 H2 → D'.nx σ2 H2) → ty D' (σ'.set j (some v)) H')
    (fin : ∀ σ' H', Ex H H' → (∃ n, Pv n σ' H') → ts D σ' H') : tSeq (tFor (iAlt (iList K te) (iTup K te)) (gName j) ty) ts D σ H := by
  refine .inl (h H (Ex.refl H) _ fun v H1 l e hv hS => ?_)
  cases hv with
  | lst hs ha =>
    rename_i a vs
    refine ⟨a, rfl, ⟨vs, hs⟩, ?_⟩
    refine for_list (fun i σ' H' => Ex H1 H' ∧ Pv i σ' H') ⟨Ex.refl H1, h0 _ e⟩ (fun i σ' H' _ p => ex_l p.1 hs) (fun i x σ' H' hx p => ?_) (fun σ' H' p => fin σ' H' (e.trans p.1) ⟨_, p.2⟩)
    obtain ⟨d, hd, hxd⟩ := dps_back ha hx
    exact step i d x σ' H' _ l hS (List.mem_of_getElem? hd) (e.trans p.1) p.2 (dp_grow p.1 _ _ hxd) rfl fun σ2 H2 e2 p2 => ⟨p.1.trans e2, p2⟩
/-- [list(x) for x in xs] of tuples -/
theorem d_lists {j : Nat} {vs : List Nat} {ws : List (List PyData)} (h : EvD K te σ H (.list (ws.map PyData.tuple))) (hn : ws.length ≤ 40000) (hj : j < σ.length) (hw : ∀ x, wipe ((wipe σ vs).set j (some x)) vs = wipe σ vs) (hl : ∀ x, ((wipe σ vs).set j (some x))[j]? = some (some x)) :
    EvD K (tLc (iList K te) (gName j) tYes (tCB (rListOf K) (tCons (tVar j) tNil)) vs) σ H (.list (ws.map PyData.list)) := fun H1 e Q k => by
  refine h H1 e _ fun v H2 e2 hv => ?_
  cases hv with
  | lst hs ha =>
    rename_i a xs
    have hlen := dps_len ha
    rw [List.length_map] at hlen
    refine ⟨a, rfl, ⟨xs, hs⟩, fun D hD => ?_⟩
    refine lc_list (K := K) (xs := xs) (fun i H' => ∃ acc, H' D = some (.lst acc) ∧ acc.length ≤ i ∧ Ex H2 (rem H' D) ∧ DpAll K (rem H' D) acc ((ws.take i).map PyData.list)) ⟨[], upd_same, Nat.le_refl _, by rw [rem_new hD]; exact Ex.refl H2, .nil⟩ (fun i H' _ ⟨_, _, _, ex, _⟩ => ex_l (ex.trans rem_ex) hs) ?_ ?_
    · rintro i x H' hx ⟨acc, hacc, hal, ex, hall⟩
      obtain ⟨d, hd, hxd⟩ := dps_back ha hx
      rw [List.getElem?_map] at hd
      obtain ⟨u, hu, rfl⟩ := Option.map_eq_some_iff.mp hd
      have hi : i < ws.length := (List.getElem?_eq_some_iff.mp hu).1
      refine ⟨hw x, yes_turn ?_⟩
      cases hxd with
      | tup hts hta =>
        rename_i b ys
        refine ⟨_, hl _, b, ys, rfl, .inr (ex_t (ex.trans rem_ex) hts), fun l hlf => ?_⟩
        have nD : l ≠ D := fun q => by
          rw [q, hacc] at hlf
          cases hlf
        have e4 : Ex H' (upd H' l (.lst ys)) := Ex.new hlf
        refine ⟨acc, e4 _ _ hacc, sz_lt (by omega), acc ++ [.ref l], upd_same, by rw [List.length_append]; exact Nat.succ_le_succ hal, ?_, ?_⟩
        · rw [rem_upd]
          exact ex.trans (ex_rem e4)
        · rw [rem_upd, take_next hu, List.map_append]
          refine dps_app (dps_grow (ex_rem e4) _ _ hall) (.cons (.lst (SqL.of ?_) (dps_grow (ex.trans (ex_rem e4)) _ _ hta)) .nil)
          rw [rem_ne nD]
          exact upd_same
    · rintro H3 ⟨acc, hacc, _, ex, hall⟩
      rw [hlen, List.take_length] at hall
      exact k _ _ (e2.trans (ex.trans rem_ex)) (.lst (SqL.of hacc) (dps_grow rem_ex _ _ hall))
theorem d_isBb {a b : Bool} (h : EvD K te σ H (.bool a)) (r : EvD K tb σ H (.bool b)) : EvD K (tOp rIsB te tb) σ H (.bool (decide (a = b))) := fun H1 x Q k =>
  h H1 x _ fun v H2 x2 hv => r H2 (x.trans x2) _ fun w H3 x3 hw => by
    cases hv
    cases hw
    exact ⟨a, b, rfl, rfl, k _ H3 (x2.trans x3) (.bl _)⟩
theorem d_notBb {a b : Bool} (h : EvD K te σ H (.bool a)) (r : EvD K tb σ H (.bool b)) : EvD K (tOp rNotB te tb) σ H (.bool (!decide (a = b))) := fun H1 x Q k =>
  h H1 x _ fun v H2 x2 hv => r H2 (x.trans x2) _ fun w H3 x3 hw => by
    cases hv
    cases hw
    exact ⟨a, b, rfl, rfl, k _ H3 (x2.trans x3) (.bl _)⟩
theorem d_neB {a b : Bool} (h : EvD K te σ H (.bool a)) (r : EvD K tb σ H (.bool b)) : EvD K (tOp rNe te tb) σ H (.bool (!decide (a = b))) := fun H1 x Q k =>
  h H1 x _ fun v H2 x2 hv => r H2 (x.trans x2) _ fun w H3 x3 hw => by
    cases hv
    cases hw
    refine ⟨rfl, ?_⟩
    have z : (!decide (V.bl a = V.bl b)) = !decide (a = b) := by cases a <;> cases b <;> rfl
    rw [z]
    exact k _ H3 (x2.trans x3) (.bl _)
end
theorem canLay_of {d : PyData} (h : SeqAt.shaped d = true) : PyData.canLay0 d = true := SeqAt.canLay_of_shaped h
theorem eqv_self {d : PyData} (h : PyData.canLay0 d = true) : PyData.eqv d d = true := SeqAt.eqv_refl d h
theorem rem_upd2 {H : Hp} {h R : Addr} {o : HO} : rem (rem (upd H R o) h) R = rem (rem H h) R := funext fun a => by
  by_cases q : a = R
  · subst q
    rw [rem_self, rem_self]
  · rw [rem_ne q, rem_ne q]
    by_cases q2 : a = h
    · subst q2
      rw [rem_self, rem_self]
    · rw [rem_ne q2, rem_ne q2, upd_ne q]

/-! from S11k -/
theorem hand_upd {H : Hp} {h c R : Addr} {ns : List Int} {o : HO} (hh : HandOk H h c ns) (n1 : h ≠ R) (n2 : c ≠ R) : HandOk (upd H R o) h c ns := by
  obtain ⟨x, y, z, h1, h2, r⟩ := hh
  exact ⟨x, y, z, (upd_ne n1).trans h1, (upd_ne n2).trans h2, r⟩
/-- what stands but for the hand and the rows that are filled -/
def aw (H : Hp) (h R P : Addr) : Hp := rem (rem (rem H h) R) P
theorem aw_ex {H : Hp} {h R P : Addr} : Ex (aw H h R P) H := rem_ex.trans (rem_ex.trans rem_ex)
theorem aw_at {H : Hp} {h R P a : Addr} (h1 : a ≠ h) (h2 : a ≠ R) (h3 : a ≠ P) : aw H h R P a = H a := by
  unfold aw
  rw [rem_ne h3, rem_ne h2, rem_ne h1]
theorem ex_aw {H H' : Hp} {h R P : Addr} (e : Ex (rem H h) (rem H' h)) : Ex (aw H h R P) (aw H' h R P) := ex_rem (ex_rem e)
theorem aw_upd {H : Hp} {h R P : Addr} {o : HO} : aw (upd H P o) h R P = aw H h R P := funext fun a => by
  by_cases q : a = P
  · subst q
    unfold aw
    rw [rem_self, rem_self]
  · unfold aw
    rw [rem_ne q, rem_ne q]
    by_cases q1 : a = R
    · subst q1
      rw [rem_self, rem_self]
    · rw [rem_ne q1, rem_ne q1]
      by_cases q2 : a = h
      · subst q2
        rw [rem_self, rem_self]
      · rw [rem_ne q2, rem_ne q2, upd_ne q]
/-- a plain list stands as it stood -/
theorem keep_at {H H' : Hp} {h R : Addr} {o : HO} (e : Ex (rem H h) (rem H' h)) (n : R ≠ h) (hR : H R = some o) : H' R = some o := by
  have z := e R o (by rw [rem_ne n]; exact hR)
  rwa [rem_ne n] at z

/-! from S12 -/
theorem hand_new {H : Hp} {h c p : Addr} {ns : List Int} {o : HO} (hh : HandOk H h c ns) (hp : H p = none) : HandOk (upd H p o) h c ns := by
  obtain ⟨x, y, z, h1, h2, r⟩ := hh
  have n1 : h ≠ p := fun e => by rw [e, hp] at h1; cases h1
  have n2 : c ≠ p := fun e => by rw [e, hp] at h2; cases h2
  exact ⟨x, y, z, (upd_ne n1).trans h1, (upd_ne n2).trans h2, r⟩

/-! from S13 -/
theorem at0 {α : Type} {a : α} {l : List α} : atI (a :: l) 0 = some a := by
  unfold atI
  have e : ixN (a :: l).length 0 = some 0 := by
    unfold ixN
    rw [if_pos (by decide), if_pos (by rw [List.length_cons]; omega)]
    rfl
  rw [e]
  rfl
/-- name *= e, wide -/
def ipMulW : TIp := fun x y H Q => ∃ i j, x = .int i ∧ y = .int j ∧ CMulW i j ∧ Q (.int (i * j)) H
theorem ip_mulW {X : Cx} : PIp X .Mult ipMulW := by
  intro pins s σ H x y v u Q I r1 r2 h
  obtain ⟨i, j, e1, e2, hc, q⟩ := h
  subst e1; subst e2
  obtain ⟨t, rfl⟩ := r1
  obtain ⟨t', rfl⟩ := r2
  exact PyProof.Rows.imul_int ⟨.int _, H, I.tok _, ⟨_, rfl⟩, q⟩ hc.ok
section
variable {K : PySem.W.Frag} {te : TE} {σ : L2.St} {H : Hp} {D : Ends} {tb ts : TS} {j : Nat} {ds : List PyData}
theorem z_mulS {i : Nat} {a b : Int} (hs : σ[i]? = some (some (.int a))) (h : EvD K te σ H (.int b)) (hc : CMulW a b) (k : ∀ H1, Ex H H1 → ts D (σ.set i (some (.int (a * b)))) H1) : tSeq (tAug i te ipMulW) ts D σ H :=
  ⟨_, hs, h H (Ex.refl H) _ fun v H1 e hv => by
    cases hv
    exact ⟨a, b, rfl, rfl, hc, k H1 e⟩⟩
theorem z_mul1 {i : Nat} {a b : Int} (hs : σ[i]? = some (some (.int a))) (h : EvD K te σ H (.int b)) (hc : CMulW a b) (k : ∀ H1, Ex H H1 → D.nx (σ.set i (some (.int (a * b)))) H1) : tAug i te ipMulW D σ H :=
  ⟨_, hs, h H (Ex.refl H) _ fun v H1 e hv => by
    cases hv
    exact ⟨a, b, rfl, rfl, hc, k H1 e⟩⟩
/-- x, y = a, b of data -/
theorem z_par {ta : TA} {i j : Nat} {a b : PyData} (h : EvDs K ta σ H [a, b]) (k : ∀ x y H1, Ex H H1 → Dp K H1 x a → Dp K H1 y b → ts D ((σ.set i (some x)).set j (some y)) H1) : tSeq (tPar i j ta) ts D σ H := h H (Ex.refl H) _ fun vs H1 e hv => by
  obtain ⟨x, ws, rfl, h1, hv⟩ := dps_cons hv
  obtain ⟨y, ws, rfl, h2, hv⟩ := dps_cons hv
  obtain rfl := dps_nil hv
  exact ⟨x, y, rfl, k x y H1 e h1 h2⟩
/-- for x in range(n) -/
theorem z_forN {ta : TA} {n : Int} (h : EvDs K ta σ H [.int n]) (h0 : 0 ≤ n) (hn : n ≤ 100000) (Pv : Nat → L2.St → Hp → Prop) (p0 : ∀ H1, Ex H H1 → Pv 0 σ H1)
    (step : ∀ (i : Nat) σ' H' (D' : Ends), (i : Int) < n → Ex H H' → Pv i σ' H' → (∀ σ2 H2, Ex H' H2 → Pv (i + 1) σ2 H2 → D'.nx σ2 H2) → tb D' (σ'.set j (some (.int (i : Int)))) H')
    (fin : ∀ σ' H', Ex H H' → Pv n.toNat σ' H' → ts D σ' H') : tSeq (tFor (iRng1 ta) (gName j) tb) ts D σ H := h H (Ex.refl H) _ fun vs H1 e hv => by
  obtain ⟨x, ws, rfl, h1, hv⟩ := dps_cons hv
  obtain rfl := dps_nil hv
  cases h1
  refine ⟨n, rfl, by omega, by omega, for_range (lo := 0) (n := n.toNat) (fun i σ' H' => Ex H1 H' ∧ Pv i σ' H') ⟨Ex.refl H1, p0 _ e⟩ (fun i σ' H' hi p => ?_) (fun σ' H' p => fin σ' H' (e.trans p.1) p.2)⟩
  have e0 : (0 : Int) + (i : Int) = (i : Int) := Int.zero_add _
  rw [e0]
  exact step i σ' H' _ (by omega) (e.trans p.1) p.2 fun σ2 H2 e2 p2 => ⟨p.1.trans e2, p2⟩
end
/-- the power by so many factors: narrow parts, so that their powers are no wider than 2^20000 -/
def fPower (ds : List PyData) (d : PyData) : Prop := ∃ (p q : Int) (n : Nat), ds = [rat p q, .int n] ∧ n ≤ 1000 ∧ p.natAbs < 2 ^ 160 ∧ q.natAbs < 2 ^ 160 ∧ d = rat (p ^ n) (q ^ n)
theorem pow_small {p : Int} (h : p.natAbs < 2 ^ 160) : ∀ i : Nat, (p ^ i).natAbs < 2 ^ (160 * i + 1)
  | 0 => by
    rw [Int.pow_zero]
    show 1 < _
    exact Nat.one_lt_two_pow (by omega)
  | i + 1 => by
    rw [Int.pow_succ]
    have z := wide_lt (pow_small h i) h
    have e : 160 * i + 1 + 160 = 160 * (i + 1) + 1 := by omega
    rw [e] at z
    exact z
theorem pow_mul_ok {p : Int} (h : p.natAbs < 2 ^ 160) {i : Nat} (hi : i ≤ 1000) : CMulW (p ^ i) p := wide_mul (pow_small h i) h (by omega) (by omega) (by omega)

/-! from S14 -/
def fLWhole (ds : List PyData) (d : PyData) : Prop := ∃ t, ds = [t] ∧ d = .bool (isIntD t && !isBoolD t)
def lenEq : PyData → Bool
  | .tuple ds => decide ((ds.length : Int) = 2)
  | _ => false
def posD : PyData → Bool
  | .int b => decide (0 < b)
  | _ => false
def item0 : PyData → PyData
  | .tuple (a :: _) => a
  | _ => .none
def item1 : PyData → PyData
  | .tuple (_ :: b :: _) => b
  | _ => .none
def wh (t : PyData) : Bool := isIntD t && !isBoolD t
def lowD : PyData → PyData → PyData
  | .int a, .int b => lowest a b
  | _, _ => .none
def lratD (t : PyData) : Bool := isTupD t && (lenEq t && (wh (item0 t) && (wh (item1 t) && (posD (item1 t) && PyData.eqv (lowD (item0 t) (item1 t)) t))))
def fLIsRatio (ds : List PyData) (d : PyData) : Prop := ∃ t, ds = [t] ∧ (∀ a b : Int, t = rat a b → b.natAbs < 2 ^ 4000) ∧ d = .bool (lratD t)
section
variable {K : PySem.W.Frag} {te tb : TE} {σ : L2.St} {H : Hp} {t a b : PyData}
theorem eq_len (c0 : isTupD t = true) (h : EvD K te σ H t) : EvD K (tOp rEq (tCB (fun xs H Q => ∃ p ys, xs = [.ref p] ∧ (SqL K H p ys ∨ SqT K H p ys) ∧ Q (.int ys.length) H) (tCons te tNil)) (tC (.int 2))) σ H (.bool (lenEq t)) := by
  cases t <;> first | cases c0 | skip
  exact d_eqI (d_lenT h) d_int
theorem len_two (c0 : isTupD t = true) (c : lenEq t = true) : ∃ a b, t = .tuple [a, b] := by
  cases t <;> first | cases c0 | skip
  rename_i ds
  have c2 : decide ((ds.length : Int) = 2) = true := c
  have c3 := of_decide_eq_true c2
  have c4 : ds.length = 2 := by omega
  match ds, c4 with
  | [a, b], _ => exact ⟨a, b, rfl⟩
theorem wh_int (c : wh a = true) : ∃ n, a = .int n := by
  cases a <;> first | exact ⟨_, rfl⟩ | cases c
theorem at1 {α : Type} {a b : α} {l : List α} : atI (a :: b :: l) 1 = some b := by
  unfold atI
  have e : ixN (a :: b :: l).length 1 = some 1 := by
    unfold ixN
    rw [if_pos (by decide), if_pos (by rw [List.length_cons, List.length_cons]; omega)]
    rfl
  rw [e]
  rfl
theorem ix0 (c0 : isTupD t = true) (c : lenEq t = true) (h : EvD K te σ H t) : EvD K (tOp (rIxT K) te (tC (.int 0))) σ H (item0 t) := by
  obtain ⟨a, b, rfl⟩ := len_two c0 c
  exact d_ixT h d_int at0
theorem ix1 (c0 : isTupD t = true) (c : lenEq t = true) (h : EvD K te σ H t) : EvD K (tOp (rIxT K) te (tC (.int 1))) σ H (item1 t) := by
  obtain ⟨a, b, rfl⟩ := len_two c0 c
  exact d_ixT h d_int at1
theorem gt_pos (c : wh a = true) (h : EvD K te σ H a) : EvD K (tOp (rI0 fun i j => .bl (decide (j < i))) te (tC (.int 0))) σ H (.bool (posD a)) := by
  obtain ⟨n, rfl⟩ := wh_int c
  exact d_gt h d_int
end

/-! from S16 -/
section
variable {K : PySem.W.Frag} {te tb : TE} {σ : L2.St} {H : Hp} {ta : TA} {d : PyData} {ds : List PyData}
/-- list(xs) of a list -/
theorem d_listL (h : EvD K te σ H (.list ds)) : EvD K (tCB (fun xs H Q => ∃ p ys, xs = [.ref p] ∧ (SqL K H p ys ∨ SqT K H p ys) ∧ ∀ l, H l = none → Q (.ref l) (upd H l (.lst ys))) (tCons te tNil)) σ H (.list ds) := fun H1 x Q k =>
  h H1 x _ fun v H2 x2 hv => by
    cases hv with
    | lst hs ha => exact ⟨_, _, rfl, .inl hs, fun l hl => k _ _ (x2.trans (Ex.new hl)) (.lst (.inl (.inl upd_same)) (dps_grow (Ex.new hl) _ _ ha))⟩
theorem d_notInD (h : EvD K te σ H d) (r : EvD K tb σ H (.list ds)) (hd : SeqAt.shaped d = true) (he : SeqAt.shaped (.list ds) = true) : EvD K (tOp (rNotInD K) te tb) σ H (.bool (!ds.any fun z => PyData.eqv z d)) := fun H1 x Q k =>
  h H1 x _ fun v H2 x2 hv => r H2 (x.trans x2) _ fun w H3 x3 hw => ⟨d, ds, dp_grow x3 _ _ hv, hw, hd, he, k _ H3 (x2.trans x3) (.bl _)⟩
/-- any([.. for x in a list]) of truths -/
theorem d_anyL {j : Nat} {vs : List Nat} (f : PyData → Bool) (h : EvD K te σ H (.list ds)) (hn : ds.length ≤ 40000) (hw : ∀ x, wipe ((wipe σ vs).set j (some x)) vs = wipe σ vs)
    (he : ∀ (d : PyData) (v : V) H1, Ex H H1 → d ∈ ds → Dp K H1 v d → EvD K tb ((wipe σ vs).set j (some v)) H1 (.bool (f d))) :
    EvD K (tCB (rAny K) (tCons (tLc (iList K te) (gName j) tYes tb vs) tNil)) σ H (.bool (ds.any f)) := fun H1 e Q k => by
  show tLc (iList K te) (gName j) tYes tb vs σ H1 (fun v H2 => rAny K [v] H2 Q)
  refine h H1 e _ fun v H2 e2 hv => ?_
  cases hv with
  | lst hs ha =>
    rename_i a xs
    have hl := dps_len ha
    have VA : Ev (fun σ H Q => Q (.ref a) H) σ H2 (.ref a) := fun H3 e3 R r => r H3 (Ex.refl H3)
    have main := el_lcL (t := tYes) (te := tb) (σ := σ) (H := H2) (j := j) (vs := vs) (xs := xs) (fun _ => true) (fun i => .bl (f (ds.getD i .none))) VA hs (by omega) hw (fun i x H3 _ _ H4 e4 R r => r H4 (Ex.refl H4))
      (fun i x H3 e3 hi _ => by
        obtain ⟨d, hd, hxd⟩ := dps_back ha hi
        have hd2 : ds.getD i .none = d := by rw [List.getD_eq_getElem?_getD, hd]; rfl
        rw [hd2]
        exact ev_bl (he d x H3 ((e.trans e2).trans e3) (List.mem_of_getElem? hd) (dp_grow e3 _ _ hxd)))
    show tLc (iList K fun _ H Q => Q (.ref a) H) (gName j) tYes tb vs σ H2 (fun v H2 => rAny K [v] H2 Q)
    refine main H2 (Ex.refl H2) _ fun p H3 hp e3 hv => ?_
    have hg : given xs.length (fun _ => true) (fun i => V.bl (f (ds.getD i .none))) = (ds.map f).map V.bl := by
      unfold given
      rw [List.filter_eq_self.mpr (fun _ _ => rfl), hl]
      apply List.ext_getElem
      · simp
      · intro i h1 h2
        have hi : i < ds.length := by simpa using h2
        rw [List.getElem_map, List.getElem_map, List.getElem_map, List.getElem_range, List.getD_eq_getElem?_getD, List.getElem?_eq_getElem hi]
        rfl
    rw [hg] at hv
    refine ⟨p, ds.map f, rfl, .inl (.inl hv), ?_⟩
    have e9 : (ds.map f).any id = ds.any f := by
      rw [List.any_map]
      rfl
    rw [e9]
    exact k _ _ (e2.trans e3) (.bl _)
end

/-! from S17 -/
def fMinusR (ds : List PyData) (d : PyData) : Prop := ∃ x y : Rat, ds = [ratR x, ratR y] ∧ Sz B x ∧ Sz B y ∧ d = ratR (x - y)
def fLessR (ds : List PyData) (d : PyData) : Prop := ∃ x y : Rat, ds = [ratR x, ratR y] ∧ Sz B x ∧ Sz B y ∧ d = .bool (decide (x < y))
theorem sz_neg {n : Nat} {x : Rat} (h : Sz n x) : Sz n (-x) := ⟨by show (-x.num).natAbs < _; rw [Int.natAbs_neg]; exact h.1, h.2⟩
theorem less_iff {x y : Rat} : PyData.bool (decide (x < y)) = .bool (decide (x.num * (y.den : Int) < y.num * (x.den : Int))) := congrArg PyData.bool (decide_eq_decide.mpr (Rat.lt_iff x y))

/-! from S18 -/
def cmpR (x y : Rat) : Int := if x < y then -1 else if y < x then 1 else 0
def gapR (x y : Rat) : Int := x.num * y.den - y.num * x.den
theorem cmp_gap (x y : Rat) : cmpR x y = if gapR x y < 0 then -1 else if 0 < gapR x y then 1 else 0 := by
  unfold cmpR gapR
  have h1 := Rat.lt_iff x y
  have h2 := Rat.lt_iff y x
  by_cases a : x < y
  · have := h1.mp a
    rw [if_pos a, if_pos (show x.num * (y.den : Int) - y.num * (x.den : Int) < 0 by omega)]
  · have n1 : ¬ (x.num * (y.den : Int) < y.num * (x.den : Int)) := fun z => a (h1.mpr z)
    have e1 : ¬ (x.num * (y.den : Int) - y.num * (x.den : Int) < 0) := by omega
    rw [if_neg a, if_neg e1]
    by_cases b : y < x
    · have := h2.mp b
      rw [if_pos b, if_pos (show 0 < x.num * (y.den : Int) - y.num * (x.den : Int) by omega)]
    · have n2 : ¬ (y.num * (x.den : Int) < x.num * (y.den : Int)) := fun z => b (h2.mpr z)
      have e2 : ¬ (0 < x.num * (y.den : Int) - y.num * (x.den : Int)) := by omega
      rw [if_neg b, if_neg e2]
def fCmpR (ds : List PyData) (d : PyData) : Prop := ∃ x y : Rat, ds = [ratR x, ratR y] ∧ Sz B x ∧ Sz B y ∧ d = .int (cmpR x y)
def SameSign (g e : Int) : Prop := (g < 0 → e < 0) ∧ (0 < g → 0 < e) ∧ (g = 0 → e = 0)
theorem sign_zero {x y : Rat} {g : Int} (s : SameSign g (gapR x y)) (c : decide (g = 0) = true) : PyData.int 0 = .int (cmpR x y) := by
  have h := s.2.2 (of_decide_eq_true c)
  rw [cmp_gap, if_neg (by omega), if_neg (by omega)]
theorem sign_one {x y : Rat} {g : Int} (s : SameSign g (gapR x y)) (c : decide (g = 0) = false) : (if decide (0 < g) = true then PyData.int 1 else .int (-1)) = .int (cmpR x y) := by
  have h := of_decide_eq_false c
  rw [cmp_gap]
  by_cases p : 0 < g
  · have := s.2.1 p
    rw [if_pos (decide_eq_true p), if_neg (by omega), if_pos this]
  · have := s.1 (by omega)
    rw [if_neg (by rw [decide_eq_false p]; decide), if_pos this]
theorem sign_den {x y : Rat} (c : decide ((x.den : Int) = (y.den : Int)) = true) : SameSign (x.num - y.num) (gapR x y) := by
  have h := of_decide_eq_true c
  have e : gapR x y = (x.num - y.num) * (y.den : Int) := by
    unfold gapR
    rw [h, Int.sub_mul]
  have hp : 0 < (y.den : Int) := by have := y.den_pos; omega
  rw [e]
  refine ⟨fun z => Int.mul_neg_of_neg_of_pos z hp, fun z => Int.mul_pos z hp, fun z => ?_⟩
  rw [z, Int.zero_mul]
theorem floor_gt {x y : Rat} (h : y.num.fdiv y.den < x.num.fdiv x.den) : 0 < gapR x y := by
  have hx : 0 < (x.den : Int) := by have := x.den_pos; omega
  have hy : 0 < (y.den : Int) := by have := y.den_pos; omega
  rw [Int.fdiv_eq_ediv_of_nonneg _ (by omega), Int.fdiv_eq_ediv_of_nonneg _ (by omega)] at h
  have h1 : x.num / x.den * x.den ≤ x.num := Int.ediv_mul_le _ (by omega)
  have h2 : y.num < (y.num / y.den + 1) * y.den := Int.lt_ediv_add_one_mul_self _ hy
  have h3 : (y.num / y.den + 1) * y.den ≤ x.num / x.den * y.den := Int.mul_le_mul_of_nonneg_right (by omega) (by omega)
  have h4 : y.num * x.den < x.num / x.den * y.den * x.den := Int.mul_lt_mul_of_pos_right (by omega) hx
  have h5 : x.num / x.den * x.den * y.den ≤ x.num * y.den := Int.mul_le_mul_of_nonneg_right h1 (by omega)
  have e : x.num / x.den * y.den * x.den = x.num / x.den * x.den * y.den := by
    rw [Int.mul_assoc, Int.mul_comm (y.den : Int), ← Int.mul_assoc]
  unfold gapR
  omega
theorem gap_swap (x y : Rat) : gapR y x = -gapR x y := by
  unfold gapR
  omega
theorem cmp1 {x y : Rat} (c : decide ((x.den : Int) = (y.den : Int)) = true) (c6 : decide (x.num - y.num = 0) = true) : PyData.int 0 = .int (cmpR x y) := sign_zero (sign_den c) c6
theorem cmp2 {x y : Rat} (c : decide ((x.den : Int) = (y.den : Int)) = true) (c6 : decide (x.num - y.num = 0) = false) : (if decide (0 < x.num - y.num) = true then PyData.int 1 else .int (-1)) = .int (cmpR x y) := sign_one (sign_den c) c6
theorem cmp4 {x y : Rat} (c6 : decide (x.num.fdiv x.den - y.num.fdiv y.den = 0) = false) (c8 : decide (x.num.fdiv x.den - y.num.fdiv y.den = 0) = false) : (if decide (0 < x.num.fdiv x.den - y.num.fdiv y.den) = true then PyData.int 1 else .int (-1)) = .int (cmpR x y) := by
  have h := of_decide_eq_false c6
  refine sign_one ⟨fun z => ?_, fun z => floor_gt (by omega), fun z => absurd z h⟩ c8
  have := floor_gt (x := y) (y := x) (by omega)
  rw [gap_swap] at this
  omega
theorem cmp5 {x y : Rat} (c8 : decide (x.num * (y.den : Int) - y.num * (x.den : Int) = 0) = true) : PyData.int 0 = .int (cmpR x y) := sign_zero ⟨fun z => z, fun z => z, fun z => z⟩ c8
theorem cmp6 {x y : Rat} (c8 : decide (x.num * (y.den : Int) - y.num * (x.den : Int) = 0) = false) : (if decide (0 < x.num * (y.den : Int) - y.num * (x.den : Int)) = true then PyData.int 1 else .int (-1)) = .int (cmpR x y) := sign_one ⟨fun z => z, fun z => z, fun z => z⟩ c8
theorem cmp_val (x y : Rat) : (cmpR x y < 0 ↔ x < y) ∧ (0 < cmpR x y ↔ y < x) := by
  have e : cmpR x y = if x < y then -1 else if y < x then 1 else 0 := rfl
  by_cases a : x < y
  · have b : ¬ y < x := fun z => by
      have h1 := (Rat.lt_iff x y).mp a
      have h2 := (Rat.lt_iff y x).mp z
      omega
    rw [e, if_pos a]
    exact ⟨⟨fun _ => a, fun _ => by decide⟩, ⟨fun z => absurd z (by decide), fun z => absurd z b⟩⟩
  · rw [e, if_neg a]
    by_cases b : y < x
    · rw [if_pos b]
      exact ⟨⟨fun z => absurd z (by decide), fun z => absurd z a⟩, ⟨fun _ => b, fun _ => by decide⟩⟩
    · rw [if_neg b]
      exact ⟨⟨fun z => absurd z (by decide), fun z => absurd z a⟩, ⟨fun z => absurd z (by decide), fun z => absurd z b⟩⟩
theorem cmp_lt {x y : Rat} (c : decide (cmpR x y < 0) = true) : x < y := (cmp_val x y).1.mp (of_decide_eq_true c)
theorem cmp_nlt {x y : Rat} (c : decide (cmpR x y < 0) = false) : ¬ x < y := fun z => of_decide_eq_false c ((cmp_val x y).1.mpr z)
theorem cmp_gt {x y : Rat} (c : decide (0 < cmpR x y) = true) : y < x := (cmp_val x y).2.mp (of_decide_eq_true c)
theorem cmp_ngt {x y : Rat} (c : decide (0 < cmpR x y) = false) : ¬ y < x := fun z => of_decide_eq_false c ((cmp_val x y).2.mpr z)
def leastR (a b : Rat) : Rat := if b < a then b else a
def mostR (a b : Rat) : Rat := if a < b then b else a
theorem leastR_yes {a b : Rat} (h : b < a) : leastR a b = b := if_pos h
theorem leastR_no {a b : Rat} (h : ¬ b < a) : leastR a b = a := if_neg h
theorem mostR_yes {a b : Rat} (h : a < b) : mostR a b = b := if_pos h
theorem mostR_no {a b : Rat} (h : ¬ a < b) : mostR a b = a := if_neg h
def fFoldR (op : Rat → Rat → Rat) (z : Rat) (ds : List PyData) (d : PyData) : Prop := ∃ (b : Bool) (rs : List Rat), ds = [sq b (rs.map ratR)] ∧ (∀ r ∈ rs, Sz B r) ∧ (∀ i, Sz B ((rs.take i).foldl op z)) ∧ d = ratR (rs.foldl op z)
def fPickR (op : Rat → Rat → Rat) (ds : List PyData) (d : PyData) : Prop := ∃ (b : Bool) (r0 : Rat) (rs : List Rat), ds = [sq b ((r0 :: rs).map ratR)] ∧ (∀ r ∈ r0 :: rs, Sz B r) ∧ d = ratR ((r0 :: rs).foldl op r0)
theorem pick_mem {op : Rat → Rat → Rat} (ho : ∀ a b, op a b = a ∨ op a b = b) : ∀ (l : List Rat) (z : Rat), l.foldl op z ∈ z :: l
  | [], z => List.mem_cons_self
  | r :: l, z => by
    have h := pick_mem ho l (op z r)
    show (l.foldl op (op z r)) ∈ _
    rcases List.mem_cons.mp h with h | h
    · rw [h]
      rcases ho z r with e | e
      · rw [e]
        exact List.mem_cons_self
      · rw [e]
        exact List.mem_cons_of_mem _ List.mem_cons_self
    · exact List.mem_cons_of_mem _ (List.mem_cons_of_mem _ h)

/-! from S19 -/
/-- what an __init__ of the class at C promises that stores its one argument under this name -/
def spI (C : Addr) (n : Str) : Sp := fun vs H Q _ => ∃ (a : Addr) (u : V), vs = [.ref a, u] ∧ H a = some (exo a C none) ∧
  ∀ (d : Addr) (fs : List (Str × V)) (H' : Hp), H d = none → H' a = some (exo a C (some d)) → H' d = some (exd d fs) → (∀ b, b ≠ a → b ≠ d → H' b = H b) → fs.lookup n = some u → Q .non H'
/-- an own class of exceptions with one field -/
structure Cl1 (P : Program) (w : World) (K : PySem.W.Frag) (mg : Str → Option Value) (base : Heap) (x : Str) (C : Addr) (n : Str) : Prop where
  o : OexC K C
  xf : XfC K C
  gC : mg x = some (.ref C)
  no : PySem.W.findIn K (.ref C) n = some none
  te : PySem.W.exmOne K (.ref C) (.ref C) = some true
  made : ∃ (fI : Addr) (fd : FuncData), PySem.W.findIn K (.ref C) "__init__" = some (some (.ref fI)) ∧ PySem.W.typeIn K (.ref fI) = some (.type "function") ∧ FnOk P w K mg base CX0 1 fI fd ["self", n] (spI C n) ∧ Binds K fd ["self", n] []
/-- as spD, or a raise of the class at C whose field n is a text -/
def spE (K : PySem.W.Frag) (C : Addr) (m : Str) (n : Nat) (f : List PyData → PyData → Prop) (g : List PyData → Str → Prop) : Sp := fun vs H Q E => ∃ ds, ds.length = n ∧ DpAll K H vs ds ∧
  ((∃ d, f ds d ∧ ∀ v H', Ex H H' → Dp K H' v d → Q v H') ∨
    ∃ y : Str, g ds y ∧ ∀ d fs H', Ex H H' → H' d = some (.xd fs) → fs.lookup m = some (.str y) → E (.ref C) (some d) H')
section
variable {X : Cx}
/-- C(e) on its way to be raised -/
theorem pmk_c1 {e : Expr} {es : List Expr} {ta : TA} {p pos : Pos} {x n : Str} {C : Addr} (D : Cl1 X.prog X.w X.K X.mg X.base x C n) (hr : Room 2 X.A) (ha : PA X (e :: es) ta) (hg : Gl X x := by rfl)
    (hdb : (x == ("__debug__" : Str)) = false := by decide) (he : starEach (e :: es) X.env = (false, eval e X.env) :: starEach es X.env := by rfl) (hpl : (backTo pos (starEach es X.env)).any (·.1) = false := by rfl) :
    PMk X (.Call (.Name x p) (e :: es) [] pos) (tMkO C (spI C n) [] ta) := by
  obtain ⟨fI, fd, iC, tI, F1, hb⟩ := D.made
  exact pmk_oex D.o iC tI F1 hr hb .nil pass0 hg D.gC ha hdb he hpl
variable {CX : CXT} {k : Nat} {ps : List Str} {sp : Sp} {E : L2.St → XK} {x : Str} {p pos : Pos} {e : Expr} {es : List Expr} {t : TA}
/-- a call in a try -/
theorem pe_dcallS (D : DefV X.prog X.w X.K X.mg X.base CX k x ps [] sp) (hr : Room k X.A) (hx : ∀ σ, PassesAt CX X σ (E σ)) (ha : PA X (e :: es) t) (hg : Gl X x := by rfl)
    (hdb : (x == ("__debug__" : Str)) = false := by decide) (he : starEach (e :: es) X.env = (false, eval e X.env) :: starEach es X.env := by rfl) (hpl : (backTo pos (starEach es X.env)).any (·.1) = false := by rfl) :
    PE X (.Call (.Name x p) (e :: es) [] pos) (tCallS sp E t) := by
  obtain ⟨f, fd, ds, F, hm, hk, hb, hv⟩ := D.ex
  cases hv
  exact pe_callS F hr hg hm hk hb hx ha hdb he hpl
end
section
variable {K : PySem.W.Frag} {σ : L2.St} {H : Hp} {D : Ends} {te : TE} {ta : TA} {ds : List PyData} {d : PyData}
/-- raise C('word') -/
theorem x_raise {C : Addr} {n : Str} {W : WX} {y : Str} (k : ∀ d fs H', Ex H H' → H' d = some (.xd fs) → fs.lookup n = some (.str y) → W (.ref C) (some d) σ H') :
    tMkO C (spI C n) [] (tCons (tC (.str y)) tNil) σ H (fun cls d H' => W cls d σ H') := by
  refine ⟨by show 1 ≤ 1000; decide, fun a ha => ⟨a, .str y, rfl, upd_same, fun d fs H' hd h1 h2 h3 h4 => ⟨rfl, d, fs, h1, h2, ?_, ?_⟩⟩⟩
  · have nda : d ≠ a := fun z => by
      rw [z, upd_same] at hd
      cases hd
    rw [upd_ne nda] at hd
    exact hd
  · have nda : d ≠ a := fun z => by
      rw [z, upd_same] at hd
      cases hd
    have hd2 : H d = none := by
      rw [upd_ne nda] at hd
      exact hd
    refine k d fs _ (fun b o hb => ?_) upd_same h4
    have nb : b ≠ a := ne_of_none hb ha
    have nd : b ≠ d := ne_of_none hb hd2
    rw [upd_ne nd]
    show del H' a b = some o
    unfold del
    rw [if_neg nb, h3 b nb nd, upd_ne nb]
    exact hb
/-- a call that does not raise -/
theorem d_callE {C : Addr} {m : Str} {n : Nat} {f : List PyData → PyData → Prop} {g : List PyData → Str → Prop} {E : XK} {dvs : List V} {es : List PyData} (h : EvDs K ta σ H ds) (hv : ∀ H, DpAll K H dvs es) (hl : (ds ++ es).length = n) (hf : f (ds ++ es) d) :
    EvD K (tCall (spE K C m n f g) dvs E ta) σ H d := fun H1 x Q k =>
  h H1 x _ fun vs H2 x2 hvs => ⟨ds ++ es, hl, dps_app hvs (hv H2), .inl ⟨d, hf, fun v H' x' hv => k v H' (x2.trans x') hv⟩⟩
end

/-! from S20 -/
theorem z_nx {u : TS} {D0 D : Ends} {σ : L2.St} {H : Hp} (h : u D0 σ H) : tNext { D with nx := u D0 } σ H := h

/-! from S22 -/
section
variable {K : PySem.W.Frag} {σ : L2.St} {H : Hp} {te tb : TE}
theorem d_neS {x y : Str} (h : EvD K te σ H (.str x)) (r : EvD K tb σ H (.str y)) : EvD K (tOp rNe te tb) σ H (.bool (!decide (x = y))) := fun H1 x0 Q k =>
  h H1 x0 _ fun v H2 x2 hv => r H2 (x0.trans x2) _ fun w H3 x3 hw => by
    cases hv
    cases hw
    refine ⟨rfl, ?_⟩
    have z : decide (V.str x = V.str y) = decide (x = y) := by
      by_cases q : x = y
      · subst q
        rw [decide_eq_true rfl, decide_eq_true rfl]
      · rw [decide_eq_false q, decide_eq_false (fun z => q (V.str.inj z))]
    rw [z]
    exact k _ H3 (x2.trans x3) (.bl _)
/-- e.f in the suite -/
theorem d_xf {a C dd : Addr} {n y : Str} {fs : List (Str × V)} {i : Nat} (h1 : σ[i]? = some (some (.ref a))) (h2 : H dd = some (.xd fs)) (h3 : fs.lookup n = some (.str y)) : EvD K (tXf a (.ref C) (some dd) C n (tVar i)) σ H (.str y) := fun H1 x Q k =>
  ⟨_, h1, rfl, rfl, dd, fs, _, rfl, x _ _ h2, h3, k _ H1 (Ex.refl H1) (.str _)⟩
theorem x_drop {sp : Sp} {E : Ends → L2.St → XK} {ta : TA} {ts : TS} {D : Ends} {ds : List PyData} (h : EvDs K ta σ H ds) (k : ∀ vs H1, Ex H H1 → DpAll K H1 vs ds → sp vs H1 (fun _ H2 => ts D σ H2) (E { D with nx := ts D } σ)) :
    tSeq (fun D σ H => tDrop (tCallS sp (E D) ta) D σ H) ts D σ H := h H (Ex.refl H) _ k
end

/-! from S23 -/
section
variable {K : PySem.W.Frag} {σ : L2.St} {H : Hp} {te tb : TE}
/-- int(b) of a truth -/
theorem d_intB {b : Bool} (h : EvD K te σ H (.bool b)) : EvD K (tCB (fun xs H Q => (∃ i, xs = [.int i] ∧ Q (.int i) H) ∨ ∃ k, xs = [.bl k] ∧ Q (.int (if k then 1 else 0)) H) (tCons te tNil)) σ H (.int (if b then 1 else 0)) := fun H1 x Q k =>
  h H1 x _ fun v H2 x2 hv => by
    cases hv
    exact .inr ⟨b, rfl, k _ H2 x2 (.int _)⟩
theorem ratR_neg (y : Rat) : PyData.tuple [.int (-y.num), .int (y.den : Int)] = ratR (-y) := by
  show _ = PyData.tuple [.int (-y).num, .int ((-y).den : Int)]
  rw [Rat.neg_num, Rat.neg_den]
theorem floor_facts (x : Rat) (h : Sz 1400 x) : (x.num.fdiv x.den).natAbs < 2 ^ 1400 ∧ (x.num.fdiv x.den + 1).natAbs < 2 ^ B ∧ x.num.fdiv x.den * x.den ≤ x.num ∧ x.num < (x.num.fdiv x.den + 1) * x.den := by
  have d0 : (0 : Int) < x.den := by have := x.den_pos; omega
  have e : x.num.fdiv x.den = x.num / x.den := Int.fdiv_eq_ediv_of_nonneg _ (by omega)
  rw [e]
  have h1 : (x.num / (x.den : Int)).natAbs ≤ x.num.natAbs := Int.natAbs_ediv_le_natAbs _ _
  have h2 := h.1
  refine ⟨by omega, ?_, Int.ediv_mul_le _ (by omega), Int.lt_ediv_add_one_mul_self _ d0⟩
  have : (2 : Nat) ^ 1400 + 1 < 2 ^ B := by decide +kernel
  omega
end

/-! from S31 -/
section
variable {K : PySem.W.Frag} {σ : L2.St} {H : Hp} {te tb : TE}
/-- any([.. for x in a tuple]) of truths -/
theorem d_anyT {ds : List PyData} {j : Nat} {vs : List Nat} (f : PyData → Bool) (h : EvD K te σ H (.tuple ds)) (hn : ds.length ≤ 40000) (hw : ∀ x, wipe ((wipe σ vs).set j (some x)) vs = wipe σ vs)
    (he : ∀ (d : PyData) (v : V) H1, Ex H H1 → d ∈ ds → Dp K H1 v d → EvD K tb ((wipe σ vs).set j (some v)) H1 (.bool (f d))) :
    EvD K (tCB (rAny K) (tCons (tLc (iTup K te) (gName j) tYes tb vs) tNil)) σ H (.bool (ds.any f)) := fun H1 e Q k => by
  show tLc (iTup K te) (gName j) tYes tb vs σ H1 (fun v H2 => rAny K [v] H2 Q)
  refine h H1 e _ fun v H2 e2 hv => ?_
  cases hv with
  | tup hs ha =>
    rename_i a xs
    have hl := dps_len ha
    refine ⟨a, rfl, ⟨xs, hs⟩, fun D hD => ?_⟩
    refine lc_tup (xs := xs) (fun i H' => Ex H2 H' ∧ H' D = some (.lst ((ds.take i).map fun d => V.bl (f d)))) ⟨Ex.new hD, upd_same⟩ (fun i H' _ p => ex_t p.1 hs) (fun i x H' hx p => ?_) (fun H' p => ?_)
    · obtain ⟨ex, hacc⟩ := p
      obtain ⟨d, hd, hxd⟩ := dps_back ha hx
      have hi : i < ds.length := (List.getElem?_eq_some_iff.mp hd).1
      refine ⟨hw _, ?_⟩
      refine yes_turn (he d x H' ((e.trans e2).trans ex) (List.mem_of_getElem? hd) (dp_grow ex _ _ hxd) H' (Ex.refl H') _ fun y H4 e4 hy => ?_)
      cases hy
      refine ⟨_, e4 _ _ hacc, sz_lt (by rw [List.length_map, List.length_take]; omega), ?_, ?_⟩
      · have nD : ∀ b o, H2 b = some o → b ≠ D := fun b o hb => ne_of_none hb hD
        exact fun b o hb => (upd_ne (nD b o hb)).trans (e4 _ _ (ex _ _ hb))
      · rw [take_next hd, List.map_append]
        exact upd_same
    · obtain ⟨ex, hacc⟩ := p
      rw [hl, List.take_length] at hacc
      refine ⟨D, ds.map f, rfl, .inl (.inl (by rw [List.map_map]; exact hacc)), ?_⟩
      have e9 : (ds.map f).any id = ds.any f := by
        rw [List.any_map]
        rfl
      rw [e9]
      exact k _ _ (e2.trans ex) (.bl _)
end

/-! from S31 -/
theorem rem_same {H H' : Hp} {h : Addr} (e : ∀ b, b ≠ h → H' b = H b) : rem H' h = rem H h := funext fun b => by
  unfold rem
  by_cases q : b = h
  · rw [if_pos q, if_pos q]
  · rw [if_neg q, if_neg q, e b q]

/-! from S32 -/
section
variable {K : PySem.W.Frag} {σ : L2.St} {te tb tx : TE} {ta : TA} {h c : Addr} {ns : List Int}
/-- a number, the hand at h apart nothing that is there changes -/
def EI (h c : Addr) (ns : List Int) (te : TE) (σ : L2.St) (P : Int → Prop) : Prop := ∀ H1, HandOk H1 h c ns → ∀ Q : VK, (∀ i H2, HandOk H2 h c ns → Ex (rem H1 h) (rem H2 h) → P i → Q (.int i) H2) → te σ H1 Q
/-- a datum without lists -/
def EH (K : PySem.W.Frag) (h c : Addr) (ns : List Int) (te : TE) (σ : L2.St) (P : PyData → Prop) : Prop := ∀ H1, HandOk H1 h c ns → ∀ Q : VK, (∀ v d H2, HandOk H2 h c ns → Ex (rem H1 h) (rem H2 h) → Dp K (rem H2 h) v d → flat d = true → P d → Q v H2) → te σ H1 Q
theorem i_c {P : Int → Prop} {i : Int} (p : P i) : EI h c ns (tC (.int i)) σ P := fun H1 hh Q q => q i H1 hh (Ex.refl _) p
theorem i_var {P : Int → Prop} {i : Int} {j : Nat} (s : σ[j]? = some (some (.int i))) (p : P i) : EI h c ns (tVar j) σ P := fun H1 hh Q q => ⟨_, s, q i H1 hh (Ex.refl _) p⟩
theorem i_draw {P : Int → Prop} {j : Nat} {many : Int} (s : σ[j]? = some (some (.ref h))) (m0 : 0 < many) (m1 : many.natAbs < 2 ^ 1000) (p : ∀ i, 0 ≤ i → i < many → P i) : EI h c ns (tCall spDraw [] E0 (tCons (tVar j) (tCons (tC (.int many)) tNil))) σ P := fun H1 hh Q q =>
  ⟨_, s, h, c, ns, many, rfl, m0, m1, hh, fun r H2 r0 r1 hh2 he2 => q r H2 hh2 (by rw [rem_same he2]; exact Ex.refl _) (p r r0 r1)⟩
theorem i_add {P1 P2 P : Int → Prop} (a : EI h c ns te σ P1) (b : EI h c ns tb σ P2) (p : ∀ i j, P1 i → P2 j → P (i + j)) : EI h c ns (tOp (rI0 fun i j => .int (i + j)) te tb) σ P := fun H1 hh Q q =>
  a H1 hh _ fun i H2 hh2 e2 p1 => b H2 hh2 _ fun j H3 hh3 e3 p2 => ⟨i, j, rfl, rfl, q _ H3 hh3 (e2.trans e3) (p i j p1 p2)⟩
theorem i_sub {P1 P2 P : Int → Prop} (a : EI h c ns te σ P1) (b : EI h c ns tb σ P2) (p : ∀ i j, P1 i → P2 j → P (i - j)) : EI h c ns (tOp (rI0 fun i j => .int (i - j)) te tb) σ P := fun H1 hh Q q =>
  a H1 hh _ fun i H2 hh2 e2 p1 => b H2 hh2 _ fun j H3 hh3 e3 p2 => ⟨i, j, rfl, rfl, q _ H3 hh3 (e2.trans e3) (p i j p1 p2)⟩
theorem i_neg {P1 P : Int → Prop} (a : EI h c ns te σ P1) (p : ∀ i, P1 i → P (-i)) : EI h c ns (tUn (rU fun i => .int (-i)) te) σ P := fun H1 hh Q q =>
  a H1 hh _ fun i H2 hh2 e2 p1 => ⟨i, rfl, q _ H2 hh2 e2 (p i p1)⟩
/-- a if n == m else b -/
theorem i_if {P1 P : Int → Prop} {m : Int} (a : EI h c ns te σ P1) (b1 : EI h c ns tb σ P) (b2 : EI h c ns tx σ P) : EI h c ns (tIf (tTest (tOp rEq te (tC (.int m)))) tb tx) σ P := fun H1 hh Q q =>
  a H1 hh _ fun i H2 hh2 e2 _ => by
    refine ⟨rfl, decide (V.int i = V.int m), rfl, ?_⟩
    cases decide (V.int i = V.int m) with
    | true => exact (b1 H2 hh2 Q fun j H3 hh3 e3 p => q j H3 hh3 (e2.trans e3) p)
    | false => exact (b2 H2 hh2 Q fun j H3 hh3 e3 p => q j H3 hh3 (e2.trans e3) p)
theorem i_abs {P1 P : Int → Prop} {r : List V → Hp → VK → Prop} (a : EI h c ns te σ P1) (hr : ∀ i H Q, Q (.int (i.natAbs : Int)) H → r [.int i] H Q) (p : ∀ i, P1 i → P (i.natAbs : Int)) : EI h c ns (tCB r (tCons te tNil)) σ P := fun H1 hh Q q =>
  a H1 hh _ fun i H2 hh2 e2 p1 => hr _ _ _ (q _ H2 hh2 e2 (p i p1))
theorem hand_lst {H : Hp} (hh : HandOk H h c ns) : ∃ xs, H h = some (.lst xs) := by
  obtain ⟨p, r, t, h1, _⟩ := hh
  exact ⟨_, h1⟩
theorem hand_dp {H : Hp} {v : V} {d : PyData} (hh : HandOk H h c ns) (f : flat d = true) (x : Dp K H v d) : Dp K (rem H h) v d := by
  obtain ⟨xs, hx⟩ := hand_lst hh
  exact dp_rem hx noTup_l d v f x
/-- a call of a def over data, its arguments two numbers -/
theorem eh_two {P1 P2 : Int → Prop} {P : PyData → Prop} {f : List PyData → PyData → Prop} {g : Int → Int → PyData} (a : EI h c ns te σ P1) (b : EI h c ns tb σ P2) (hf : ∀ i j, P1 i → P2 j → f [.int i, .int j] (g i j) ∧ flat (g i j) = true ∧ P (g i j)) :
    EH K h c ns (tCall (spD K 2 f) [] E0 (tCons te (tCons tb tNil))) σ P := fun H1 hh Q q =>
  a H1 hh _ fun i H2 hh2 e2 p1 => b H2 hh2 _ fun j H3 hh3 e3 p2 => by
    obtain ⟨q1, q2, q3⟩ := hf i j p1 p2
    exact ⟨[.int i, .int j], g i j, rfl, .cons (.int _) (.cons (.int _) .nil), q1, fun v H4 e4 hv => q v _ H4 (hand_grow e4 hh3) ((e2.trans e3).trans (ex_rem e4)) (hand_dp (hand_grow e4 hh3) q2 hv) q2 q3⟩
theorem eh_int {P : Int → Prop} {P' : PyData → Prop} (a : EI h c ns te σ P) (p : ∀ i, P i → P' (.int i)) : EH K h c ns te σ P' := fun H1 hh Q q =>
  a H1 hh _ fun i H2 hh2 e2 p1 => q _ _ H2 hh2 e2 (.int _) rfl (p i p1)
/-- [.. for k in range(n)] -/
theorem eh_list {j : Nat} {vs : List Nat} {Pn : Int → Prop} {P : PyData → Prop} (hn : EI h c ns tb σ Pn) (hp : ∀ n, Pn n → 0 ≤ n ∧ n ≤ 40000) (hw : ∀ x, wipe ((wipe σ vs).set j (some x)) vs = wipe σ vs)
    (he : ∀ i : Nat, EH K h c ns te ((wipe σ vs).set j (some (.int (i : Int)))) P) :
    ∀ H1, HandOk H1 h c ns → ∀ Q : VK, (∀ v ds H2, HandOk H2 h c ns → Ex (rem H1 h) (rem H2 h) → Dp K (rem H2 h) v (.list ds) → Pn (ds.length : Int) → (∀ d ∈ ds, flat d = true ∧ P d) → Q v H2) → tLc (iRng1 (tCons tb tNil)) (gName j) tYes te vs σ H1 Q := fun H1 hh Q q => by
  refine hn H1 hh _ fun n H2 hh2 e2 pn => ?_
  obtain ⟨n0, n1⟩ := hp n pn
  obtain ⟨m, rfl⟩ := Int.eq_ofNat_of_zero_le n0
  refine ⟨_, rfl, by omega, by omega, fun D hD => ?_⟩
  have nD : D ≠ h := fun e => by
    obtain ⟨xs, hx⟩ := hand_lst hh2
    rw [← e, hD] at hx
    cases hx
  have nC : c ≠ D := fun e => by
    obtain ⟨_, _, _, _, h2, _⟩ := hh2
    rw [e, hD] at h2
    cases h2
  refine lc_range (lo := 0) (n := (m : Int).toNat) (fun i H' => HandOk H' h c ns ∧ ∃ acc ds, H' D = some (.lst acc) ∧ ds.length = i ∧ Ex (rem H2 h) (rem (rem H' h) D) ∧ DpAll K (rem (rem H' h) D) acc ds ∧ ∀ d ∈ ds, flat d = true ∧ P d)
    ⟨hand_new hh2 hD, [], [], upd_same, rfl, ?_, .nil, fun d z => by cases z⟩ ?_ ?_
  · rw [rem_upd2]
    intro b o hb
    have nb : b ≠ D := fun e => by
      rw [e, rem_ne nD, hD] at hb
      cases hb
    rw [rem_ne nb]
    exact hb
  · rintro i H' hi ⟨hh', acc, ds, hacc, hlen, ex, hall, hds⟩
    have hlen2 : acc.length = ds.length := dps_len hall
    have z0 : (0 : Int) + (i : Int) = (i : Int) := Int.zero_add _
    rw [z0]
    refine ⟨hw _, yes_turn (he i H' hh' _ fun v d H3 hh3 e3 hv fd pd => ?_)⟩
    have hD3 : H3 D = some (.lst acc) := by
      have := e3 D (.lst acc) (by rw [rem_ne nD]; exact hacc)
      rw [rem_ne nD] at this
      exact this
    have hD4 : (rem H3 h) D = some (.lst acc) := by rw [rem_ne nD]; exact hD3
    have m2 : (m : Int).toNat = m := Int.toNat_natCast m
    refine ⟨acc, hD3, sz_lt (by omega), hand_upd hh3 (Ne.symm nD) nC, acc ++ [v], ds ++ [d], upd_same, by rw [List.length_append, hlen]; rfl, ?_, ?_, ?_⟩
    · rw [rem_upd2]
      exact ex.trans (ex_rem e3)
    · rw [rem_upd2]
      exact dps_app (dps_grow (ex_rem e3) _ _ hall) (.cons (dp_rem hD4 noTup_l _ _ fd hv) .nil)
    · intro z hz
      rcases List.mem_append.mp hz with hz | hz
      · exact hds z hz
      · have : z = d := by simpa using hz
        subst this
        exact ⟨fd, pd⟩
  · rintro H3 ⟨hh3, acc, ds, hacc, hlen, ex, hall, hds⟩
    refine q _ ds H3 hh3 (e2.trans (ex.trans rem_ex)) (.lst (SqL.of (by rw [rem_ne nD]; exact hacc)) (dps_grow rem_ex _ _ hall)) (by rw [hlen, Int.toNat_natCast]; exact pn) hds
variable {D : Ends} {ts tu : TS} {H : Hp}
theorem hz_set {j : Nat} {P : Int → Prop} (hh : HandOk H h c ns) (a : EI h c ns te σ P) (k : ∀ i H1, HandOk H1 h c ns → Ex (rem H h) (rem H1 h) → P i → ts D (σ.set j (some (.int i))) H1) : tSeq (tAsg te (gName j)) ts D σ H := a H hh _ k
theorem hz_list {j i : Nat} {vs : List Nat} {Pn : Int → Prop} {P : PyData → Prop} (hh : HandOk H h c ns) (hn : EI h c ns tb σ Pn) (hp : ∀ n, Pn n → 0 ≤ n ∧ n ≤ 40000) (hw : ∀ x, wipe ((wipe σ vs).set j (some x)) vs = wipe σ vs)
    (he : ∀ i : Nat, EH K h c ns te ((wipe σ vs).set j (some (.int (i : Int)))) P)
    (k : ∀ v ds H2, HandOk H2 h c ns → Ex (rem H h) (rem H2 h) → Dp K (rem H2 h) v (.list ds) → Pn (ds.length : Int) → (∀ d ∈ ds, flat d = true ∧ P d) → ts D (σ.set i (some v)) H2) :
    tSeq (tAsg (tLc (iRng1 (tCons tb tNil)) (gName j) tYes te vs) (gName i)) ts D σ H := eh_list hn hp hw he H hh _ k
theorem hz_data {j : Nat} {P : PyData → Prop} (hh : HandOk H h c ns) (a : EH K h c ns te σ P) (k : ∀ v d H1, HandOk H1 h c ns → Ex (rem H h) (rem H1 h) → Dp K (rem H1 h) v d → P d → ts D (σ.set j (some v)) H1) : tSeq (tAsg te (gName j)) ts D σ H := a H hh _ fun v d H1 a b x _ p => k v d H1 a b x p
end

/-! from S33 -/
theorem fold_sum {a : Nat} : ∀ (l : List Rat) (n : Nat) (x : Rat), (∀ r ∈ l, Sz a r) → Sz n x → Sz (n + (a + 1) * l.length) (l.foldl (· + ·) x)
  | [], n, x, _, h => h
  | r :: l, n, x, hl, h => by
    have := fold_sum l (n + a + 1) (x + r) (fun z hz => hl z (List.mem_cons_of_mem _ hz)) (sz_add h (hl r List.mem_cons_self))
    refine this.mono ?_
    rw [List.length_cons, Nat.mul_succ]
    omega
theorem fold_prod {a : Nat} : ∀ (l : List Rat) (n : Nat) (x : Rat), (∀ r ∈ l, Sz a r) → Sz n x → Sz (n + a * l.length) (l.foldl (· * ·) x)
  | [], n, x, _, h => h
  | r :: l, n, x, hl, h => by
    have := fold_prod l (n + a) (x * r) (fun z hz => hl z (List.mem_cons_of_mem _ hz)) (sz_mul h (hl r List.mem_cons_self))
    refine this.mono ?_
    rw [List.length_cons, Nat.mul_succ]
    omega
theorem sz_one : Sz 1 1 := ⟨by decide, by decide⟩
theorem sz_zero : Sz 1 0 := ⟨by decide, by decide⟩
theorem sz_pow {a : Nat} {x : Rat} (h : Sz a x) : ∀ k : Nat, Sz (1 + a * k) (x ^ k)
  | 0 => by rw [Rat.pow_zero]; exact sz_one
  | k + 1 => by
    rw [Rat.pow_succ]
    exact (sz_mul (sz_pow h k) h).mono (by rw [Nat.mul_succ]; omega)
theorem low_sz {t b : Int} {a : Nat} (h0 : 0 < b) (h1 : t.natAbs < 2 ^ a) (h2 : b.natAbs < 2 ^ a) : ∃ z : Rat, lowest t b = ratR z ∧ Sz a z := by
  obtain ⟨m, rfl⟩ := Int.eq_ofNat_of_zero_le (by omega : 0 ≤ b)
  have m0 : m ≠ 0 := by omega
  exact ⟨_, low_norm t m m0, sz_norm t m m0 h1 h2⟩
theorem rats_of {a : Nat} : ∀ {ds : List PyData}, (∀ d ∈ ds, ∃ z : Rat, d = ratR z ∧ Sz a z) → ∃ rs : List Rat, ds = rs.map ratR ∧ ∀ r ∈ rs, Sz a r
  | [], _ => ⟨[], rfl, fun _ h => by cases h⟩
  | d :: ds, h => by
    obtain ⟨rs, e, hr⟩ := rats_of (ds := ds) fun z hz => h z (List.mem_cons_of_mem _ hz)
    obtain ⟨z, ez, hz⟩ := h d List.mem_cons_self
    refine ⟨z :: rs, by rw [ez, e]; rfl, fun r hr' => ?_⟩
    rcases List.mem_cons.mp hr' with q | q
    · rw [q]; exact hz
    · exact hr r q
section
variable {K : PySem.W.Frag} {σ : L2.St} {H : Hp} {te : TE} {tb : TS} {D : Ends} {ds : List PyData} {j : Nat}
theorem z_forT1 (h : EvD K te σ H (.tuple ds)) (Pv : Nat → L2.St → Hp → Prop) (h0 : ∀ H1, Ex H H1 → Pv 0 σ H1)
    (step : ∀ i d v σ' H' (D' : Ends), ds[i]? = some d → Ex H H' → Pv i σ' H' → Dp K H' v d → (∀ σ2 H2, Ex H' H2 → Pv (i + 1) σ2 H2 → D'.nx σ2 H2) → tb D' (σ'.set j (some v)) H')
    (fin : ∀ σ' H', Ex H H' → Pv ds.length σ' H' → D.nx σ' H') : tFor (iTup K te) (gName j) tb D σ H := z_forT (ts := tNext) h Pv h0 step fin
end

/-! from S28 -/
theorem low_cop {p q : Int} (h0 : 0 < q) (h : Nat.gcd p.natAbs q.natAbs = 1) : lowP p q = p ∧ lowQ p q = q := by
  unfold lowP lowQ
  rw [if_neg (by omega), if_neg (by omega), h]
  exact ⟨Int.ediv_one _, Int.ediv_one _⟩

/-! from S30 -/
theorem dps_rev {K : PySem.W.Frag} {H : Hp} : ∀ {vs : List V} {ds : List PyData}, DpAll K H vs ds → DpAll K H vs.reverse ds.reverse
  | _, _, .nil => .nil
  | _, _, .cons h t => by
    rw [List.reverse_cons, List.reverse_cons]
    exact dps_app (dps_rev t) (.cons h .nil)

/-! from S34 -/
structure DefK (P : Program) (w : World) (K : PySem.W.Frag) (mg : Str → Option Value) (base : Heap) (CX : CXT) (k : Nat) (x : Str) (ps ks : List Str) (gV : List V → List V → List V) (sp : Sp) : Prop where
  ex : ∃ (f : Addr) (fd : FuncData) (g : List Value → List Value → List Value), FnOk P w K mg base CX k f fd ps sp ∧ mg x = some (.ref f) ∧ PySem.W.keepIn K (.ref f) = true ∧ KBn K fd ps 0 ks g gV
section
variable {X : Cx} {CX : CXT} {k : Nat} {ps ks : List Str} {sp : Sp} {E : XK} {x : Str} {p pos : Pos} {kws : List Keyword} {tk : TA} {gV : List V → List V → List V}
/-- f(k = v, ..) -/
theorem pe_dcallK (D : DefK X.prog X.w X.K X.mg X.base CX k x ps ks gV sp) (hr : Room k X.A) (hx : Passes CX X E) (hkw : PK X kws tk) (hg : Gl X x := by rfl)
    (hall : (backToKw pos (keywordEach kws X.env)).all (·.1.isSome) = true := by rfl) (hks : (backToKw pos (keywordEach kws X.env)).filterMap (·.1) = ks := by rfl) (hdb : (x == ("__debug__" : Str)) = false := by decide)
    (hpl : ((backTo pos (starEach [] X.env)).any (·.1) || (backToKw pos (keywordEach kws X.env)).any (·.1.isNone)) = false := by rfl) :
    PE X (.Call (.Name x p) [] kws pos) (tCallN 0 ks.length sp gV E tNil tk) := by
  obtain ⟨f, fd, g, F, hm, hk, hb⟩ := D.ex
  refine ⟨fun pins s σ H Q I h => ?_⟩
  refine wpAny_Call_Name_kw (ld_glob I hg hm ?_ hdb)
  refine PySem.W.callWith_KW0 (h₀ := X.base) I.ok.mod.kin hk hall (thn (hkw.run pos pins s σ H _ I h) fun ws s2 hh => ?_) hpl
  obtain ⟨zs, H2, I2, rz, l1, l2, q2⟩ := hh
  refine ⟨I2.kIn, ?_⟩ ; rw [hks]
  exact run_fnN (us := []) (vs := []) F hr hb hx I2 .nil rz rfl l2 q2
end
theorem lowest_neg2 {t b : Int} (h : 0 < b) : lowest (-t) (-b) = lowest t b := by
  show rat (lowP (-t) (-b)) (lowQ (-t) (-b)) = rat (lowP t b) (lowQ t b)
  unfold lowP lowQ
  rw [if_pos (show -b < 0 by omega), if_pos (show -b < 0 by omega), if_neg (show ¬ b < 0 by omega), if_neg (show ¬ b < 0 by omega), Int.neg_neg, Int.neg_neg, Int.natAbs_neg, Int.natAbs_neg]
theorem lowest_flip {t b : Int} (h : 0 < b) : lowest t (-b) = rat (-(lowP t b)) (lowQ t b) := by
  show rat (lowP t (-b)) (lowQ t (-b)) = _
  unfold lowP lowQ
  rw [if_pos (show -b < 0 by omega), if_pos (show -b < 0 by omega), if_neg (show ¬ b < 0 by omega), if_neg (show ¬ b < 0 by omega), Int.neg_neg, Int.natAbs_neg]
  have hd : ((Nat.gcd t.natAbs b.natAbs : Nat) : Int) ∣ t := Int.ofNat_dvd_left.mpr (Nat.gcd_dvd_left _ _)
  rw [Int.neg_ediv_of_dvd hd]
theorem ratD_lrat {t b : Int} (h : 0 < b) : ratD (rat t b) = lratD (rat t b) := by
  have e1 : ratD (rat t b) = decide (((Nat.gcd t.natAbs b.natAbs : Nat) : Int) = 1) := by
    show (true && ((decide ((1 : Int) ≤ b) && true) && decide (((Nat.gcd t.natAbs b.natAbs : Nat) : Int) = 1))) = _
    rw [decide_eq_true (by omega)]
    rfl
  have e2 : lratD (rat t b) = PyData.eqv (lowest t b) (rat t b) := by
    show (true && (true && (true && (true && (decide (0 < b) && PyData.eqv (lowest t b) (rat t b)))))) = _
    rw [decide_eq_true h]
    rfl
  rw [e1, e2]
  by_cases g : Nat.gcd t.natAbs b.natAbs = 1
  · obtain ⟨l1, l2⟩ := low_cop h g
    have : lowest t b = rat t b := by
      show rat (lowP t b) (lowQ t b) = _
      rw [l1, l2]
    rw [this, decide_eq_true (by omega)]
    exact (eqv_self rfl).symm
  · rw [decide_eq_false (by omega)]
    symm
    have hb : lowQ t b ≠ b := by
      unfold lowQ
      rw [if_neg (by omega)]
      have g0 : 0 < Nat.gcd t.natAbs b.natAbs := Nat.gcd_pos_of_pos_right _ (by omega)
      have g2 : (2 : Int) ≤ ((Nat.gcd t.natAbs b.natAbs : Nat) : Int) := by omega
      intro e
      have := Int.ediv_lt_self_of_pos_of_ne_one (x := b) (y := ((Nat.gcd t.natAbs b.natAbs : Nat) : Int)) h (by omega)
      omega
    show PyData.eqv (.tuple [.int (lowP t b), .int (lowQ t b)]) (.tuple [.int t, .int b]) = false
    simp [PyData.eqv, PyData.eqvAll, hb]

/-! from S35 -/
section
variable {K : PySem.W.Frag} {σ : L2.St} {H B : Hp} {te tb : TE} {t u : TT} {tu tw ts : TS} {D : Ends} {h c : Addr} {ns : List Int}
/-- the hand stands, and all of the base B but the hand stays -/
structure StB (h c : Addr) (ns : List Int) (B H : Hp) : Prop where
  hh : HandOk H h c ns
  ex : Ex B (rem H h)
theorem StB.all (s : StB h c ns B H) : Ex B H := s.ex.trans rem_ex
theorem StB.grow {H' : Hp} (s : StB h c ns B H) (e : Ex H H') : StB h c ns B H' := ⟨hand_grow e s.hh, s.ex.trans (ex_rem e)⟩
def HB (h c : Addr) (ns : List Int) (B : Hp) (t : TT) (σ : L2.St) (b : Bool) : Prop := ∀ H1, StB h c ns B H1 → ∀ Q : Bool → Hp → Prop, (∀ H2, StB h c ns B H2 → Q b H2) → t σ H1 Q
theorem hb_of {b : Bool} (e : EvB t σ B b) : HB h c ns B t σ b := fun H1 s Q q => e H1 s.all Q fun H2 x => q H2 (s.grow x)
theorem hb_nor (a : HB h c ns B t σ false) (b : HB h c ns B u σ false) : HB h c ns B (tOr t u) σ false := fun H1 s Q q => a H1 s _ fun H2 s2 => b H2 s2 Q q
theorem bz_if (s : StB h c ns B H) (e : HB h c ns B t σ false) (k : ∀ H1, StB h c ns B H1 → tw { D with nx := ts D } σ H1) : tSeq (tIfS t tu tw) ts D σ H := e H s _ k
theorem bz_if1 (s : StB h c ns B H) (e : HB h c ns B t σ false) (k : ∀ H1, StB h c ns B H1 → tw D σ H1) : tIfS t tu tw D σ H := e H s _ k
theorem bz_set {i : Nat} {d : PyData} (s : StB h c ns B H) (e : EvD K te σ B d) (k : ∀ v H1, StB h c ns B H1 → Dp K H1 v d → ts D (σ.set i (some v)) H1) : tSeq (tAsg te (gName i)) ts D σ H := e H s.all _ fun v H1 x hv => k v H1 (s.grow x) hv
theorem bz_int {i : Nat} {P : Int → Prop} (s : StB h c ns B H) (e : EI h c ns te σ P) (k : ∀ n H1, StB h c ns B H1 → P n → ts D (σ.set i (some (.int n))) H1) : tSeq (tAsg te (gName i)) ts D σ H := e H s.hh _ fun n H1 a x p => k n H1 ⟨a, s.ex.trans x⟩ p
theorem hz_for {n j : Nat} {tb : TS} (hn : n ≤ 1000) (Pv : Nat → L2.St → Hp → Prop) (p0 : Pv 0 σ H) (step : ∀ i σ' H' (D' : Ends), i < n → Pv i σ' H' → (∀ σ2 H2, Pv (i + 1) σ2 H2 → D'.nx σ2 H2) → tb D' (σ'.set j (some (.int (i : Int)))) H') (fin : ∀ σ' H', Pv n σ' H' → ts D σ' H') :
    tSeq (tFor (iRng1 (tCons (tC (.int (n : Int))) tNil)) (gName j) tb) ts D σ H := by
  refine ⟨(n : Int), rfl, by omega, by omega, for_range (lo := 0) (n := (n : Int).toNat) Pv p0 (fun i σ' H' hi p => ?_) (fun σ' H' p => fin σ' H' (by rw [Int.toNat_natCast] at p; exact p))⟩
  rw [Int.zero_add]
  exact step i σ' H' _ (by omega) p fun σ2 H2 p2 => p2
theorem bz_if2 (s : StB h c ns B H) (e1 : EvB t σ H false) (e2 : HB h c ns B u σ false) (k : ∀ H1, StB h c ns B H1 → tw { D with nx := ts D } σ H1) : tSeq (tIfS (tOr t u) tu tw) ts D σ H := e1 H (Ex.refl H) _ fun H2 x => e2 H2 (s.grow x) _ k
theorem d_callK {C : Addr} {m : Str} {n : Nat} {f : List PyData → PyData → Prop} {g : List PyData → Str → Prop} {E : XK} {tk : TA} {ds : List PyData} {d : PyData} {ks : List Str} (e : EvDs K tk σ H ds) (hl : ds.length = n) (hk : ks.length = n) (hf : f ds.reverse d) :
    EvD K (tCallN 0 ks.length (spE K C m n f g) (fun vs zs => zs.reverse) E tNil tk) σ H d := fun H1 x Q k =>
  e H1 x _ fun vs H2 x2 hvs => ⟨rfl, (dps_len hvs).trans (hl.trans hk.symm), ds.reverse, by rw [List.length_reverse]; exact hl, dps_rev hvs, .inl ⟨d, hf, fun v H' x' hv => k v H' (x2.trans x') hv⟩⟩
theorem d_abs1 {i : Int} (e : EvD K te σ H (.int i)) : EvD K (tCB (fun xs H Q => ∃ i, xs = [.int i] ∧ Q (.int (if i < 0 then -i else i)) H) (tCons te tNil)) σ H (.int (if i < 0 then -i else i)) := fun H1 x Q k =>
  e H1 x _ fun v H2 x2 hv => by
    cases hv
    exact ⟨i, rfl, k _ H2 x2 (.int _)⟩
theorem three_rem {v : V} {n : Int} (hh : HandOk H h c ns) (x : Dp K H v (.list [.int n])) : Dp K (rem H h) v (.list [.int n]) := by
  obtain ⟨p, r, t, hx, _⟩ := hh
  cases x with
  | lst hs ha =>
    rename_i a xs
    obtain ⟨v1, ws, rfl, h1, h2⟩ := dps_cons ha
    obtain rfl := dps_nil h2
    cases h1
    refine .lst ?_ (.cons (.int _) .nil)
    rcases hs with (hq | ⟨u, hq⟩) | hk
    · have na : a ≠ h := fun e => by
        rw [e, hx] at hq
        injection hq with hq
        injection hq with hq
        injection hq with hq _
        cases hq
      exact .inl (.inl (by rw [rem_ne na]; exact hq))
    · have na : a ≠ h := fun e => by
        rw [e, hx] at hq
        injection hq with hq
        cases hq
      exact .inl (.inr ⟨u, by rw [rem_ne na]; exact hq⟩)
    · exact .inr hk
theorem d_intI {i : Int} (e : EvD K te σ H (.int i)) : EvD K (tCB (fun xs H Q => (∃ i, xs = [.int i] ∧ Q (.int i) H) ∨ ∃ k, xs = [.bl k] ∧ Q (.int (if k then 1 else 0)) H) (tCons te tNil)) σ H (.int i) := fun H1 x Q k =>
  e H1 x _ fun v H2 x2 hv => by
    cases hv
    exact .inl ⟨i, rfl, k _ H2 x2 (.int _)⟩
end
def T3 (t : Nat → Int) : List PyData := [.int (t 0), .int (t 1), .int (t 2)]
def R3 (z : Nat → Rat) : List PyData := [ratR (z 0), ratR (z 1), ratR (z 2)]
theorem lt3 {k : Nat} (h : k < 3) : k = 0 ∨ k = 1 ∨ k = 2 := by omega
theorem at_t {t : Nat → Int} {k : Nat} (h : k < 3) : atI (T3 t) (k : Int) = some (.int (t k)) := by
  rcases lt3 h with rfl | rfl | rfl <;> exact L2.atI_nat rfl
theorem at_r {z : Nat → Rat} {k : Nat} (h : k < 3) : atI (R3 z) (k : Int) = some (ratR (z k)) := by
  rcases lt3 h with rfl | rfl | rfl <;> exact L2.atI_nat rfl
theorem three_of {P : Int → Prop} {ds : List PyData} (hl : (ds.length : Int) = 3) (h : ∀ d ∈ ds, ∃ i : Int, d = .int i ∧ P i) : ∃ t : Nat → Int, ds = T3 t ∧ ∀ k, P (t k) := by
  match ds, hl with
  | [d0, d1, d2], _ =>
    obtain ⟨i0, rfl, p0⟩ := h d0 (List.Mem.head _)
    obtain ⟨i1, rfl, p1⟩ := h d1 (List.Mem.tail _ (List.Mem.head _))
    obtain ⟨i2, rfl, p2⟩ := h d2 (List.Mem.tail _ (List.Mem.tail _ (List.Mem.head _)))
    refine ⟨fun k => if k = 0 then i0 else if k = 1 then i1 else i2, rfl, fun k => ?_⟩
    show P (if k = 0 then i0 else if k = 1 then i1 else i2)
    by_cases a : k = 0
    · rw [if_pos a]; exact p0
    · rw [if_neg a]
      by_cases b : k = 1
      · rw [if_pos b]; exact p1
      · rw [if_neg b]; exact p2

end Dat
/-! A law's own def, called from where nothing is shown: repr of data in its body. -/
namespace Dat
open PySem PySem.Spec PyProof.Rows L2 Evl
/-- as FnOk, but only where no object is being shown around the call -/
structure FnG (P : Program) (w : World) (K : PySem.W.Frag) (mg : Str → Option Value) (base : Heap) (CX : CXT) (k : Nat) (f : Addr) (fd : FuncData) (ps : List Str) (sp : Sp) : Prop where
  len : ∀ vs H Q E, sp vs H Q E → vs.length = ps.length
  run : ∀ {A : Around}, A.guards = some [] → ∀ {outer : List Env} {s : Shared} {H : Hp} {args : Args} {us : List Value} {vs : List V} {Q : VK} {E : XK}, Room k A → Env0 P w K mg base A outer s H →
    BindsTo s fd args (ps.zip us) → Vals vs us → sp vs H Q E → codeAny (model P w) A (.call (.ref f) args) (CR CX outer P w H s Q E) s
section
variable {P : Program} {w : World} {K : PySem.W.Frag} {mg : Str → Option Value} {base : Heap}
theorem fun_okG {x qual : Str} {st : Stmt} {f : Addr} {fd : FuncData} {N ps : List Str} {k : Nat} {sp : Sp} (F : Fun K x qual st f fd) (S : FnScope N ps (defScope st))
    (ln : ∀ vs H Q E, sp vs H Q E → vs.length = ps.length)
    (hb : ∀ (cdv : Value) (A : Around), A.guards = some [] → ∀ (outer : List Env) (s : Shared) (H : Hp) (vs : List V) (Q : VK) (E : XK),
      Room k (A.deeper (envOfC qual (defScope st) s.heap.objs.size f cdv)) → sp vs H Q E →
      ∃ t, PSs (cxOf CX0 P w K mg base N qual (defScope st) f cdv A outer s H E).nox (defBody st) t ∧
        t { nx := fun _ H' => Q .non H', rt := Q } (start N vs) H) : FnG P w K mg base CX0 (k + 1) f fd ps sp := by
  obtain ⟨oc, od, kV, doc, pm, an, cdv, ct, osl, rfl, lk, hcd⟩ := F.ex
  constructor
  · exact ln
  intro A gA outer s H args us vs Q E room e0 bt rv want
  have same := ln vs H Q E want
  have inK : K.In s.heap := e0.mod.kin.keeps fun b o z => (e0.bs b o z).1
  have free : s.heap.NoLimit := e0.mod.nolimit.keeps fun b o z => (e0.bs b o z).1
  have kinds : ∀ y ∈ ps.zip us, (defScope st).names.lookup y.1 = some .local ∨
      ((defScope st).names.lookup y.1 = some .cell ∧ ((cellsFrom (s.heap.objs.size + 1) (defScope st).names []).lookup y.1).isSome = true) := by
    rintro ⟨n, v⟩ hy
    cases S.par n (List.of_mem_zip hy).1 with
    | inl q => exact .inl q
    | inr q => exact .inr ⟨q, PySem.W.cellsFrom_some _ _ _ (.inl q)⟩
  apply codeAny_call_function room.depth (inK _ _ lk) rfl S.co S.gen rfl (PySem.W.codeRec_of inK hcd)
  refine bt _ _ _ _ ?_
  apply wpAny_newFunctionEnv_cells S.kind kinds
  intro env he s1 x
  subst he
  refine ⟨free.keeps x.toInCall.keep, ?_⟩
  apply codeAny_func
  obtain ⟨t, ht, hq⟩ := hb cdv A gA outer s H vs Q E (room.deeper _) want
  have I0 := inv_start (CX := CX0) (E := E) S room.hd e0 same rv x
  have body := ht.nox.run [] s1 (start N vs) H _ I0 hq
  refine wpAny_mono body ?_ (fun e s' z => z)
  intro fl s' hs
  cases fl with
  | ret u => obtain ⟨v, σ', H', J, r2, q⟩ := hs; exact ⟨v, H', J.os, J.bare, J.base, J.hok, r2, q⟩
  | next => obtain ⟨σ', H', J, q⟩ := hs; exact ⟨V.non, H', J.os, J.bare, J.base, J.hok, (rfl : RelV V.non Value.none), q⟩
  | brk => obtain ⟨_, _, _, q⟩ := hs; cases q
  | cont => obtain ⟨_, _, _, q⟩ := hs; cases q
end
/-- the script's list, and nothing else, may be known at the start -/
theorem law_runG {P : Program} {w : World} {K : PySem.W.Frag} {mg mb : Str → Option Value} {CX : CXT} {k : Nat} {fa a : Addr} {fd : FuncData} {x : Str} {sp : Sp} {s₁ : Shared} {vs : List Value} {ns : List Int}
    (KX : K.In s₁.heap) (hns : s₁.heap.Ns mainGlobals mg) (hbn : s₁.heap.Ns builtinsNs mb) (hbb : ∀ x : Str, x ≠ "__name__" → mb x = bootBuiltins x) (hlim : s₁.heap.NoLimit)
    (hgens : s₁.gens = #[]) (ha : s₁.heap.get? a = some { cls := .type "list", data := .seq vs.toArray }) (hints : IntsAre vs ns) (hlen : ns.length ≤ sizeLine) (room : Room k callerA)
    (F : ∀ base : Heap, K.In base → base.Ns mainGlobals mg → FnG P w K mg base CX k fa fd [x] sp) (bind1 : ∀ (s : Shared) (u : Value), BindsTo s fd ⟨[u], []⟩ [(x, u)])
    (want : ∀ H : Hp, Only H → SqL K H a (ns.map V.int) → sp [.ref a] H (fun v _ => v = .bl true) fun _ _ _ => False) (hCX : ∀ H e s', CX [] H s₁ (fun _ _ _ => False) e s' → False) :
    codeAny (model P w) callerA (.call (.ref fa) ⟨[.ref a], []⟩) (fun r s' => r = .ok (.ret (.bool true)) ∧ OldK s₁.heap s'.heap ∧ s'.os = s₁.os ∧ AllBare s'.gens) s₁ := by
  have vals := vals_ints hints
  have many := hints.length
  have main : ∀ H : Hp, Only H → SqL K H a (ns.map V.int) → HOk P w H s₁.heap → (∀ b, H b ≠ none → b = a) → (H a ≠ none → K.lookup a = none) →
      codeAny (model P w) callerA (.call (.ref fa) ⟨[.ref a], []⟩) (fun r s' => r = .ok (.ret (.bool true)) ∧ OldK s₁.heap s'.heap ∧ s'.os = s₁.os ∧ AllBare s'.gens) s₁ := by
    intro H hO hS hok only hidden
    have alone : ∀ {b : Addr} {u : HO}, H b = some u → b = a := fun {b u} q => only b (by rw [q]; exact nofun)
    have there : ∀ {b : Addr} {o : Obj}, s₁.heap.get? b = some o → H b = none → (hidT s₁.heap H).get? b = some o := fun z n => hidT_get z n
    have none_at : ∀ {b : Addr} {o : Obj} {es : Array DictEntry} {ep : Nat}, s₁.heap.get? b = some o → o.data = .dict es ep → H b = none := by
      intro b o es ep z d
      by_cases q : H b = none
      · exact q
      · cases only b q
        rw [ha] at z
        cases z
        cases d
    have names : ∀ {b : Addr} {m : Str → Option Value}, s₁.heap.Ns b m → (hidT s₁.heap H).Ns b m := by
      rintro b m ⟨o, es, ep, z, d, rest⟩
      exact ⟨o, es, ep, there z (none_at z d), d, rest⟩
    have KB : K.In (hidT s₁.heap H) := by
      intro b o z
      refine there (KX b o z) ?_
      by_cases q : H b = none
      · exact q
      · cases only b q
        rw [hidden q] at z
        cases z
    obtain ⟨mc, l1, l2⟩ := hlim
    have M : Mod K mg (hidT s₁.heap H) := ⟨KB, names hns, ⟨mb, names hbn, hbb⟩, ⟨mc, names l1, l2⟩⟩
    have e0 : Env0 P w K mg (hidT s₁.heap H) callerA [] s₁ H := { frames := rfl, mod := M, bs := fun b o z => of_hidT z, bsz := Nat.le_of_eq (hidT_size _ _), funs := trivial, frf := (fun b z => by cases z), hok := hok, bare := .of_eq hgens }
    have ran := (F _ KB (names hns)).run (A := callerA) rfl (us := [.ref a]) (vs := [V.ref a]) room e0 (bind1 s₁ (.ref a)) (.cons rfl .nil) (want H hO hS)
    refine codeAny_mono ran ?_
    intro r s' z
    cases r with
    | error e => cases hCX H e s' z
    | ok fl =>
      cases fl with
      | next => cases z
      | brk => cases z
      | cont => cases z
      | ret u =>
        obtain ⟨v, H', os, bare, un, hok', r', q⟩ := z
        cases (show v = .bl true from q)
        cases (show u = Value.bool true from r')
        refine ⟨rfl, OldK.of_keep ?_, os, bare⟩
        intro b o z
        by_cases q : H b = none
        · exact un.keep b o z q (fun m => by cases (show b ∈ ([] : List Addr) from m)) (fun m => by cases m)
        · cases hO b with
          | inl n => exact absurd n q
          | inr n =>
            obtain ⟨ob, xs, n⟩ := n
            have e1 := (hok b _ n).1
            have e2 := (hok' b _ (un.frzs b ob _ n)).1
            rw [z] at e1
            cases e1
            exact e2
  cases hk : K.lookup a with
  | some o =>
    have z := KX a o hk
    rw [ha] at z
    cases z
    exact main (fun _ => none) (fun _ => .inl rfl) (.inr ⟨_, vs.toArray, _, hk, rfl, rfl, rfl, by rw [List.size_toArray, many]; exact hlen, by simpa using vals⟩)
      (fun b u z => by cases (show (none : Option HO) = some u from z)) (fun b z => absurd rfl z) (fun z => absurd rfl z)
  | none =>
    have at_a : ∀ b, b = a → (if b = a then some (HO.frz { cls := .type "list", data := .seq vs.toArray } (.lst (ns.map V.int))) else none) = some (HO.frz { cls := .type "list", data := .seq vs.toArray } (.lst (ns.map V.int))) := fun b q => if_pos q
    refine main (fun b => if b = a then some (.frz { cls := .type "list", data := .seq vs.toArray } (.lst (ns.map V.int))) else none) ?_ (.inl (.inr ⟨_, at_a a rfl⟩)) ?_ ?_ (fun _ => hk)
    · intro b
      by_cases q : b = a
      · exact .inr ⟨_, _, at_a b q⟩
      · exact .inl (if_neg q)
    · intro b u z
      by_cases q : b = a
      · subst q
        cases (at_a b rfl).symm.trans z
        exact ⟨ha, by rw [List.length_map]; exact hlen, vs, _, vals, ha⟩
      · cases (if_neg q).symm.trans z
    · intro b z
      by_cases q : b = a
      · exact q
      · exact absurd (if_neg q) z
theorem walk_G {l : PySem.W.OpenLaw} {n k : Nat} {q : Program} {loose : List Str} {XP : (Str → Option Value) → Heap → Prop} {YP : World → Heap → Prop} {d : DefRec} {CX : CXT} {x : Str}
    (most : l.most = some n) (fits : n ≤ sizeLine) (plain : d.params.defaults = []) (room : Room k callerA)
    (F : ∀ (w : World) (mg : Str → Option Value) (fa : Addr) (h : Heap), YP w h → h.Ns mainGlobals mg → mg d.name = some (.ref fa) → ∃ (K : PySem.W.Frag) (fd : FuncData) (sp : Sp), K.In h ∧ (∀ (s : Shared) (u : Value), BindsTo s fd ⟨[u], []⟩ [(x, u)]) ∧
        (∀ (H : Hp) (a : Addr) (ns : List Int), ns.length ≤ n → Only H → SqL K H a (ns.map V.int) → sp [.ref a] H (fun v _ => v = .bl true) fun _ _ _ => False) ∧ ∀ base : Heap, K.In base → base.Ns mainGlobals mg → FnG l.prog w K mg base CX k fa fd [x] sp)
    (none_out : ∀ (H : Hp) (s : Shared) (e : Value) (s' : Shared), CX [] H s (fun _ _ _ => False) e s' → False) : PySem.W.WalkO q loose XP YP l.row.toRowW d [] (fun f vs => PySem.call f vs) := by
  apply Att.attach_call most plain
  intro w s₀ s₁ mg mb fa o pm cd doc a vs ns G Y ho hd hcd hmg hobj hints hlen hgens
  obtain ⟨K, fd, sp, KX, hb, hsp, hF⟩ := F w mg fa _ Y G.T.g hmg
  exact law_runG KX G.T.g G.T.b G.T.builtins G.T.nolimit hgens hobj hints (Nat.le_trans hlen fits) room hF hb (fun H hO hS => hsp H a ns hlen hO hS) (fun H e s' => none_out H s₁ e s')
/-! ### repr of data -/
def rRepr (K : PySem.W.Frag) : List V → Hp → VK → Prop := fun xs H Q => ∃ a d, xs = [.ref a] ∧ Dp K H (.ref a) d ∧ d.hasDict = false ∧ d.showable = true ∧ d.depth ≤ 60 ∧ d.shown.length ≤ sizeLine ∧ Q (.str d.shown) H
theorem call_repr {X : Cx} (hg : X.A.guards = some []) (hu : X.A.units + 64 < cLine) : CallR X (.builtin "repr") (rRepr X.K) := by
  intro pins s σ H xs us Q I r h
  obtain ⟨a, d, rfl, hd, nd, sh, dp, sz, q⟩ := h
  cases r with
  | cons r1 rt =>
    cases rt
    cases (show _ = Value.ref a from r1)
    obtain ⟨as, rd⟩ := Dp.reads I d (.ref a) (.ref a) hd rfl
    exact repr_of_reads' rd sh (PyData.noDict_hsm nd) hg (by omega) (fun _ _ z => z) (fun h' u tk hk => ⟨.str d.shown, H, I.kept hk, ⟨_, rfl⟩, q⟩) sz
section
variable {K : PySem.W.Frag} {te : TE} {σ : L2.St} {H : Hp} {d : PyData}
def isRefD : PyData → Bool
  | .list _ => true
  | .tuple _ => true
  | _ => false
theorem d_repr (h : EvD K te σ H d) (hr : isRefD d = true) (nd : d.hasDict = false) (sh : d.showable = true) (dp : d.depth ≤ 60) (sz : d.shown.length ≤ sizeLine) : EvD K (tCB (rRepr K) (tCons te tNil)) σ H (.str d.shown) := fun H1 x Q k =>
  h H1 x _ fun v H2 x2 hv => by
    obtain ⟨a, rfl⟩ : ∃ a, v = .ref a := by
      cases hv <;> first | exact ⟨_, rfl⟩ | cases hr
    exact ⟨a, d, rfl, hv, nd, sh, dp, sz, k _ H2 x2 (.str _)⟩
end
end Dat
namespace Dat
open PySem PySem.Spec PyProof.Rows L2 Evl
structure Bl2 (mg : Str → Option Value) : Prop where
  b_max : mg "max" = none
  b_min : mg "min" = none
  b_repr : mg "repr" = none
  b_sorted : mg "sorted" = none
  b_zip : mg "zip" = none
  b_sum : mg "sum" = none
  b_set : mg "set" = none
  b_reversed : mg "reversed" = none
section
variable {K : PySem.W.Frag} {te tb : TE} {tw ts : TS} {ta : TA} {σ : L2.St} {H : Hp} {D : Ends} {i j : Int}
theorem d_max2 (h : EvD K te σ H (.int i)) (r : EvD K tb σ H (.int j)) : EvD K (tCB (fun xs H Q => ∃ i j, xs = [.int i, .int j] ∧ Q (.int (if j > i then j else i)) H) (tCons te (tCons tb tNil))) σ H (.int (max i j)) := fun H1 x Q k =>
  h H1 x _ fun v H2 x2 hv => r H2 (x.trans x2) _ fun w H3 x3 hw => by
    cases hv
    cases hw
    refine ⟨i, j, rfl, ?_⟩
    have e : (if j > i then j else i) = max i j := by split <;> omega
    rw [e]
    exact k _ H3 (x2.trans x3) (.int _)
theorem d_min2 (h : EvD K te σ H (.int i)) (r : EvD K tb σ H (.int j)) : EvD K (tCB (fun xs H Q => ∃ i j, xs = [.int i, .int j] ∧ Q (.int (if j < i then j else i)) H) (tCons te (tCons tb tNil))) σ H (.int (min i j)) := fun H1 x Q k =>
  h H1 x _ fun v H2 x2 hv => r H2 (x.trans x2) _ fun w H3 x3 hw => by
    cases hv
    cases hw
    refine ⟨i, j, rfl, ?_⟩
    have e : (if j < i then j else i) = min i j := by split <;> omega
    rw [e]
    exact k _ H3 (x2.trans x3) (.int _)
/-- for x in range(a, b) -/
theorem z_forR {jj : Nat} {a b : Int} (h : EvDs K ta σ H [.int a, .int b]) (h0 : -100000 ≤ a ∧ a ≤ 100000) (hn : -100000 ≤ b ∧ b ≤ 100000) (Pv : Nat → L2.St → Hp → Prop) (p0 : ∀ H1, Ex H H1 → Pv 0 σ H1)
    (step : ∀ (i : Nat) σ' H' (D' : Ends), a + (i : Int) < b → Ex H H' → Pv i σ' H' → D'.rt = D.rt → (∀ σ2 H2, Ex H' H2 → Pv (i + 1) σ2 H2 → D'.nx σ2 H2) → tw D' (σ'.set jj (some (.int (a + (i : Int))))) H')
    (fin : ∀ σ' H', Ex H H' → Pv (b - a).toNat σ' H' → ts D σ' H') : tSeq (tFor (iRng2 ta) (gName jj) tw) ts D σ H := h H (Ex.refl H) _ fun vs H1 e hv => by
  obtain ⟨x, ws, rfl, h1, hv⟩ := dps_cons hv
  obtain ⟨y, ws, rfl, h2, hv⟩ := dps_cons hv
  obtain rfl := dps_nil hv
  cases h1
  cases h2
  refine ⟨a, b, rfl, ⟨by omega, by omega, by omega, by omega⟩, for_range (lo := a) (n := (b - a).toNat) (fun i σ' H' => Ex H1 H' ∧ Pv i σ' H') ⟨Ex.refl H1, p0 _ e⟩ (fun i σ' H' hi p => ?_) (fun σ' H' p => fin σ' H' (e.trans p.1) p.2)⟩
  exact step i σ' H' _ (by omega) (e.trans p.1) p.2 rfl fun σ2 H2 e2 p2 => ⟨p.1.trans e2, p2⟩
end
end Dat
/-! Draws with limits that are reckoned, drawn lists known apart, lists that grow beside the hand. -/
namespace Dat
open PySem L2 Evl
section
variable {K : PySem.W.Frag} {σ : L2.St} {te tb tx : TE} {ta : TA} {h c : Addr} {ns : List Int}
/-- a number that pure words come to -/
theorem i_of {P : Int → Prop} {i : Int} (e : ∀ H, EvD K te σ H (.int i)) (p : P i) : EI h c ns te σ P := fun H1 hh Q q => e H1 H1 (Ex.refl H1) _ fun v H2 x hv => by
  cases hv
  exact q i H2 (hand_grow x hh) (ex_rem x) p
/-- a draw below a number that is reckoned -/
theorem i_drawE {Pm P : Int → Prop} {j : Nat} (s : σ[j]? = some (some (.ref h))) (m : EI h c ns te σ Pm) (b : ∀ n, Pm n → 0 < n ∧ n.natAbs < 2 ^ 1000) (p : ∀ n i, Pm n → 0 ≤ i → i < n → P i) : EI h c ns (tCall spDraw [] E0 (tCons (tVar j) (tCons te tNil))) σ P := fun H1 hh Q q =>
  ⟨_, s, m H1 hh _ fun n H2 hh2 e2 pn => ⟨h, c, ns, n, rfl, (b n pn).1, (b n pn).2, hh2, fun r H3 r0 r1 hh3 he3 => q r H3 hh3 (e2.trans (by rw [rem_same he3]; exact Ex.refl _)) (p n r pn r0 r1)⟩⟩
theorem i_mul {P1 P2 P : Int → Prop} (a : EI h c ns te σ P1) (b : EI h c ns tb σ P2) (w : ∀ i j, P1 i → P2 j → CMulW i j) (p : ∀ i j, P1 i → P2 j → P (i * j)) : EI h c ns (tOp (rI CMulW fun i j => .int (i * j)) te tb) σ P := fun H1 hh Q q =>
  a H1 hh _ fun i H2 hh2 e2 p1 => b H2 hh2 _ fun j H3 hh3 e3 p2 => ⟨i, j, rfl, rfl, w i j p1 p2, q _ H3 hh3 (e2.trans e3) (p i j p1 p2)⟩
theorem d_pow {H : Hp} {i j : Int} (h : EvD K te σ H (.int i)) (r : EvD K tb σ H (.int j)) (hc : CPow i j) : EvD K (tOp (rI CPow fun i j => .int (i ^ j.toNat)) te tb) σ H (.int (i ^ j.toNat)) := d_I h r hc fun _ => .int _
theorem d_eqS {H : Hp} {x y : Str} (h : EvD K te σ H (.str x)) (r : EvD K tb σ H (.str y)) : EvD K (tOp rEq te tb) σ H (.bool (decide (x = y))) := fun H1 x0 Q k =>
  h H1 x0 _ fun v H2 x2 hv => r H2 (x0.trans x2) _ fun w H3 x3 hw => by
    cases hv
    cases hw
    refine ⟨rfl, ?_⟩
    have z : decide (V.str x = V.str y) = decide (x = y) := by
      by_cases q : x = y
      · subst q
        rw [decide_eq_true rfl, decide_eq_true rfl]
      · rw [decide_eq_false q, decide_eq_false (fun z => q (V.str.inj z))]
    rw [z]
    exact k _ H3 (x2.trans x3) (.bl _)
theorem ints_any {H H' : Hp} : ∀ {xs : List V} {is : List Int}, DpAll K H xs (is.map PyData.int) → DpAll K H' xs (is.map PyData.int)
  | _, [], h => by
    obtain rfl := dps_nil h
    exact .nil
  | _, i :: is, h => by
    obtain ⟨v, ws, rfl, h1, h2⟩ := dps_cons h
    cases h1
    exact .cons (.int i) (ints_any h2)
theorem ints_of {P : Int → Prop} : ∀ {ds : List PyData}, (∀ d ∈ ds, flat d = true ∧ ∃ i : Int, d = .int i ∧ P i) → ∃ is : List Int, ds = is.map PyData.int ∧ ∀ i ∈ is, P i
  | [], _ => ⟨[], rfl, fun _ h => by cases h⟩
  | d :: ds, h => by
    obtain ⟨is, e, hi⟩ := ints_of (ds := ds) fun z hz => h z (List.mem_cons_of_mem _ hz)
    obtain ⟨_, i, rfl, pi⟩ := h d List.mem_cons_self
    refine ⟨i :: is, by rw [e]; rfl, fun r hr => ?_⟩
    rcases List.mem_cons.mp hr with q | q
    · rw [q]; exact pi
    · exact hi r q
theorem hand_ne {H : Hp} {p : Addr} (hh : HandOk H h c ns) (hp : H p = none) : p ≠ h ∧ p ≠ c := by
  obtain ⟨_, _, _, h1, h2, _⟩ := hh
  constructor
  · intro e
    rw [← e, hp] at h1
    cases h1
  · intro e
    rw [← e, hp] at h2
    cases h2
/-- [.. for k in range(n)], the new list known apart -/
theorem eh_new {j : Nat} {vs : List Nat} {Pn : Int → Prop} {P : PyData → Prop} (hn : EI h c ns tb σ Pn) (hp : ∀ n, Pn n → 0 ≤ n ∧ n ≤ 40000) (hw : ∀ x, wipe ((wipe σ vs).set j (some x)) vs = wipe σ vs)
    (he : ∀ i : Nat, EH K h c ns te ((wipe σ vs).set j (some (.int (i : Int)))) P) :
    ∀ H1, HandOk H1 h c ns → ∀ Q : VK, (∀ p xs ds H2, H1 p = none → HandOk H2 h c ns → Ex (rem H1 h) (rem (rem H2 h) p) → H2 p = some (.lst xs) → DpAll K (rem (rem H2 h) p) xs ds → Pn (ds.length : Int) → (∀ d ∈ ds, flat d = true ∧ P d) → Q (.ref p) H2) → tLc (iRng1 (tCons tb tNil)) (gName j) tYes te vs σ H1 Q := fun H1 hh Q q => by
  refine hn H1 hh _ fun n H2 hh2 e2 pn => ?_
  obtain ⟨n0, n1⟩ := hp n pn
  obtain ⟨m, rfl⟩ := Int.eq_ofNat_of_zero_le n0
  refine ⟨_, rfl, by omega, by omega, fun D hD => ?_⟩
  obtain ⟨nD, nC⟩ := hand_ne hh2 hD
  have hD1 : H1 D = none := by
    cases z : H1 D with
    | none => rfl
    | some o =>
      have := e2 D o (by rw [rem_ne nD]; exact z)
      rw [rem_ne nD, hD] at this
      cases this
  refine lc_range (lo := 0) (n := (m : Int).toNat) (fun i H' => HandOk H' h c ns ∧ ∃ acc ds, H' D = some (.lst acc) ∧ ds.length = i ∧ Ex (rem H2 h) (rem (rem H' h) D) ∧ DpAll K (rem (rem H' h) D) acc ds ∧ ∀ d ∈ ds, flat d = true ∧ P d)
    ⟨hand_new hh2 hD, [], [], upd_same, rfl, ?_, .nil, fun d z => by cases z⟩ ?_ ?_
  · rw [rem_upd2]
    intro b o hb
    have nb : b ≠ D := fun e => by
      rw [e, rem_ne nD, hD] at hb
      cases hb
    rw [rem_ne nb]
    exact hb
  · rintro i H' hi ⟨hh', acc, ds, hacc, hlen, ex, hall, hds⟩
    have hlen2 : acc.length = ds.length := dps_len hall
    have z0 : (0 : Int) + (i : Int) = (i : Int) := Int.zero_add _
    rw [z0]
    refine ⟨hw _, yes_turn (he i H' hh' _ fun v d H3 hh3 e3 hv fd pd => ?_)⟩
    have hD3 : H3 D = some (.lst acc) := by
      have := e3 D (.lst acc) (by rw [rem_ne nD]; exact hacc)
      rw [rem_ne nD] at this
      exact this
    have hD4 : (rem H3 h) D = some (.lst acc) := by rw [rem_ne nD]; exact hD3
    have m2 : (m : Int).toNat = m := Int.toNat_natCast m
    refine ⟨acc, hD3, sz_lt (by omega), hand_upd hh3 (Ne.symm nD) (Ne.symm nC), acc ++ [v], ds ++ [d], upd_same, by rw [List.length_append, hlen]; rfl, ?_, ?_, ?_⟩
    · rw [rem_upd2]
      exact ex.trans (ex_rem e3)
    · rw [rem_upd2]
      exact dps_app (dps_grow (ex_rem e3) _ _ hall) (.cons (dp_rem hD4 noTup_l _ _ fd hv) .nil)
    · intro z hz
      rcases List.mem_append.mp hz with hz | hz
      · exact hds z hz
      · have : z = d := by simpa using hz
        subst this
        exact ⟨fd, pd⟩
  · rintro H3 ⟨hh3, acc, ds, hacc, hlen, ex, hall, hds⟩
    exact q D acc ds H3 hD1 hh3 (e2.trans ex) hacc hall (by rw [hlen, Int.toNat_natCast]; exact pn) hds
variable {D : Ends} {ts tu : TS} {H B : Hp}
/-- xs.append(e), e draws; the last one of a block -/
theorem hz_append1 {L : Addr} {vs : List V} {i : Nat} {S : V → Hp → Prop} (hσ : σ[i]? = some (some (.ref L))) (hL : H L = some (.lst vs)) (hl : vs.length ≤ 1000) (a : ∀ Q : VK, (∀ v H2, S v H2 → H2 L = some (.lst vs) → Q v H2) → te σ H Q)
    (k : ∀ v H2, S v H2 → H2 L = some (.lst vs) → D.nx σ (upd H2 L (.lst (vs ++ [v])))) : tDrop (tBM K "list" rAppend (tVar i) (tCons te tNil)) D σ H :=
  ⟨_, hσ, .inl ⟨rfl, _, SqL.of hL⟩, a _ fun v H2 s hL2 => ⟨L, vs, v, rfl, rfl, hL2, sz_lt (by omega), k v H2 s hL2⟩⟩
theorem rem_comm {a b : Addr} : rem (rem H a) b = rem (rem H b) a := funext fun x => by
  by_cases p : x = a
  · subst p
    by_cases q : x = b
    · subst q; rfl
    · rw [rem_ne q, rem_self, rem_self]
  · by_cases q : x = b
    · subst q
      rw [rem_self, rem_ne p, rem_self]
    · rw [rem_ne q, rem_ne p, rem_ne p, rem_ne q]
theorem rem_new2 {p L : Addr} {o : HO} (hp : H p = none) : Ex (rem H L) (rem (upd H p o) L) := ex_rem (Ex.new hp)
/-- drawn data: the base that stands behind it has the new things too -/
theorem bz_data {j : Nat} {P : PyData → Prop} (s : StB h c ns B H) (a : EH K h c ns te σ P) (k : ∀ v d H1 B1, StB h c ns B1 H1 → Ex B B1 → Dp K B1 v d → flat d = true → P d → ts D (σ.set j (some v)) H1) : tSeq (tAsg te (gName j)) ts D σ H :=
  a H s.hh _ fun v d H1 hh1 x hv f p => k v d H1 (rem H1 h) ⟨hh1, Ex.refl _⟩ (s.ex.trans x) hv f p
end
end Dat
namespace Dat
open PySem L2 Evl
def rTupOf (K : PySem.W.Frag) : List V → Hp → VK → Prop := fun xs H Q => ∃ p ys, xs = [.ref p] ∧ ((SqL K H p ys ∧ ∀ l, H l = none → Q (.ref l) (upd H l (.tup ys))) ∨ (SqT K H p ys ∧ Q (.ref p) H))
theorem call_tupOf {X : Cx} : CallR X (.type "tuple") (rTupOf X.K) := call_tuple_of
section
variable {K : PySem.W.Frag} {te : TE} {σ : L2.St} {H : Hp} {ds : List PyData}
theorem d_tupOf (h : EvD K te σ H (.list ds)) : EvD K (tCB (rTupOf K) (tCons te tNil)) σ H (.tuple ds) := d_tupL h
theorem b_yes : EvB tYes σ H true := fun H1 _ Q q => q H1 (Ex.refl H1)
end
end Dat
namespace Dat
open PySem L2 Evl
/-- a new plain list, and that it is new -/
def EvF (K : PySem.W.Frag) (te : TE) (σ : L2.St) (H : Hp) (ds : List PyData) : Prop := ∀ H1, Ex H H1 → ∀ Q : VK, (∀ p xs H2, H1 p = none → Ex H1 H2 → H2 p = some (.lst xs) → DpAll K H2 xs ds → Q (.ref p) H2) → te σ H1 Q
section
variable {K : PySem.W.Frag} {te tb : TE} {ta : TA} {σ : L2.St} {H : Hp} {D : Ends} {ts : TS} {ds es : List PyData}
theorem none_back {H1 H2 : Hp} {p : Addr} (x : Ex H1 H2) (h : H2 p = none) : H1 p = none := by
  cases z : H1 p with
  | none => rfl
  | some o =>
    rw [x _ _ z] at h
    cases h
theorem f_lst (h : EvDs K ta σ H ds) (hl : ds.length ≤ 1000) : EvF K (tLst ta) σ H ds := fun H1 x Q k =>
  h H1 x _ fun vs H2 x2 hvs => ⟨sz_of (by rw [dps_len hvs]; omega), fun p hp => k p vs _ (none_back x2 hp) (x2.trans (Ex.new hp)) upd_same (dps_grow (Ex.new hp) _ _ hvs)⟩
theorem f_cat (h : EvW K te σ H ds) (r : EvW K tb σ H es) (hl : ds.length ≤ 1000) (hl' : es.length ≤ 1000) : EvF K (tOp rCat te tb) σ H (ds ++ es) := fun H1 e Q k =>
  h H1 e _ fun p xs H2 e2 hx ha => r H2 (e.trans e2) _ fun q ys H3 e3 hy hb => ⟨p, q, xs, ys, rfl, rfl, e3 _ _ hx, hy, sz_of (by rw [dps_len ha, dps_len hb]; omega), fun n hn =>
    k n _ _ (none_back (e2.trans e3) hn) ((e2.trans e3).trans (Ex.new hn)) upd_same (dps_app (dps_grow (e3.trans (Ex.new hn)) _ _ ha) (dps_grow (Ex.new hn) _ _ hb))⟩
theorem z_fresh {i : Nat} (h : EvF K te σ H ds) (k : ∀ p xs H2, H p = none → Ex H H2 → H2 p = some (.lst xs) → DpAll K H2 xs ds → ts D (σ.set i (some (.ref p))) H2) : tSeq (tAsg te (gName i)) ts D σ H := h H (Ex.refl H) _ k
theorem z_fresh1 {i : Nat} (h : EvF K te σ H ds) (k : ∀ p xs H2, H p = none → Ex H H2 → H2 p = some (.lst xs) → DpAll K H2 xs ds → D.nx (σ.set i (some (.ref p))) H2) : tAsg te (gName i) D σ H := h H (Ex.refl H) _ k
/-- what stands but for a new object -/
theorem ex_fresh {B : Hp} {p : Addr} (x : Ex B H) (hp : B p = none) : Ex B (rem H p) := fun a o e => by
  have n : a ≠ p := fun q => by
    rw [q, hp] at e
    cases e
  rw [rem_ne n]
  exact x _ _ e
theorem flats_ints : ∀ is : List Int, flats (is.map PyData.int) = true
  | [] => rfl
  | i :: is => by
    show (true && flats (is.map PyData.int)) = true
    rw [flats_ints is]
    rfl
theorem flats_rats : ∀ zs : List Rat, flats (zs.map ratR) = true
  | [] => rfl
  | z :: zs => by
    show (true && flats (zs.map ratR)) = true
    rw [flats_rats zs]
    rfl
end
end Dat
namespace Dat
open PySem L2 Evl
section
variable {K : PySem.W.Frag} {te tb : TE} {σ : L2.St} {H : Hp}
theorem d_sameN {n : Nat} {E : XK} {a : PyData} (g : goodN n a = true) (h : EvD K te σ H a) (r : EvD K tb σ H a) : EvD K (tCall (spD K 2 (fSame n)) [] E (tCons te (tCons tb tNil))) σ H (.bool true) :=
  d_call (ds_cons h (ds_cons r ds_nil)) rfl ⟨_, _, rfl, good_dep g, by rw [good_same g]⟩
theorem b_same {E : XK} {a : PyData} (g : goodN 2 a = true) (h : EvD K te σ H a) (r : EvD K tb σ H a) : EvB (tNot (tB (tCall (spD K 2 (fSame 2)) [] E (tCons te (tCons tb tNil))))) σ H false := b_not (b_val (d_sameN g h r))
theorem b_nor {t u : TT} (h : EvB t σ H false) (r : EvB u σ H false) : EvB (tOr t u) σ H false := b_is (b_or (a := false) (b := false) h (fun _ => r)) rfl
end
end Dat
namespace Dat
open PySem L2 Evl
theorem lowest_div {t b : Int} (h : 0 < b) : lowest t b = ratR ((t : Rat) / (b : Rat)) := by
  obtain ⟨m, rfl⟩ := Int.eq_ofNat_of_zero_le (Int.le_of_lt h)
  have m0 : m ≠ 0 := by omega
  rw [low_norm t m m0, Rat.normalize_eq_mkRat, Rat.mkRat_eq_div]
  rfl
theorem rat_whole (n : Int) : rat n 1 = ratR (n : Rat) := rfl
theorem rat_num_div (x : Rat) : (x.num : Rat) / (x.den : Rat) = x := by
  rw [← Rat.mkRat_eq_div, Rat.mkRat_self]
theorem over_div {x y : Rat} (h : 0 < y) : lowest (x.num * y.den) (x.den * y.num) = ratR (x / y) := by
  have hy : 0 < y.num := by
    have := Rat.lt_iff 0 y
    simp at this
    exact this.mp h
  have hx : (0 : Int) < x.den := by have := x.den_pos; omega
  have hd : (0 : Int) < y.den := by have := y.den_pos; omega
  rw [lowest_div (Int.mul_pos hx hy)]
  congr 1
  have e1 := rat_num_div x
  have e2 := rat_num_div y
  have hx' : ((x.den : Int) : Rat) ≠ 0 := by simp; exact x.den_nz
  have hd' : ((y.den : Int) : Rat) ≠ 0 := by simp; exact y.den_nz
  have hy' : (y.num : Rat) ≠ 0 := by simp; intro z; rw [z] at h; exact Rat.lt_irrefl h
  have hyy : y ≠ 0 := fun z => by rw [z] at h; exact Rat.lt_irrefl h
  rw [Rat.intCast_mul, Rat.intCast_mul]
  have e1' : (x.num : Rat) = x * ((x.den : Int) : Rat) := by
    rw [Rat.intCast_natCast]
    have := Rat.div_mul_cancel (a := (x.num : Rat)) (b := (x.den : Rat)) (by simpa using x.den_nz)
    rw [e1] at this
    exact this.symm
  have e2' : (y.num : Rat) = y * ((y.den : Int) : Rat) := by
    rw [Rat.intCast_natCast]
    have := Rat.div_mul_cancel (a := (y.num : Rat)) (b := (y.den : Rat)) (by simpa using y.den_nz)
    rw [e2] at this
    exact this.symm
  rw [e1', e2']
  generalize ((x.den : Int) : Rat) = a at hx'
  generalize ((y.den : Int) : Rat) = b at hd'
  grind
/-- how many thresholds of the first i are at most x -/
def cellAt (N : Int) (h x : Rat) (i : Int) : Int := if h = 0 then (if 0 ≤ x then i else 0) else max 0 (min i ((x + h) * (N : Rat) / (2 * h)).floor)
def thr (N : Int) (h : Rat) (c : Int) : Rat := h * (((2 * c - N : Int) : Rat) / (N : Rat))
theorem thr_le {N : Int} {h x : Rat} {c : Int} (hN : 0 < N) (hh : 0 < h) : ¬ x < thr N h c ↔ c ≤ ((x + h) * (N : Rat) / (2 * h)).floor := by
  have n0 : (0 : Rat) < (N : Rat) := Rat.intCast_pos.mpr hN
  rw [Rat.not_lt, Rat.le_floor_iff]
  unfold thr
  have e : ((2 * c - N : Int) : Rat) = 2 * (c : Rat) - (N : Rat) := by rw [Rat.intCast_sub, Rat.intCast_mul]; rfl
  rw [e]
  have h2 : (0 : Rat) < 2 * h := Rat.mul_pos (by decide) hh
  generalize (N : Rat) = n at *
  generalize (c : Rat) = z at *
  constructor
  · intro q
    rw [← Rat.not_lt, Rat.div_lt_iff h2, Rat.not_lt]
    have q2 := Rat.mul_le_mul_of_nonneg_right q (Rat.le_of_lt n0)
    have e2 : h * ((2 * z - n) / n) * n = h * (2 * z - n) := by grind
    rw [e2] at q2
    grind
  · intro q
    rw [← Rat.not_lt, Rat.div_lt_iff h2, Rat.not_lt] at q
    refine Rat.le_of_mul_le_mul_right ?_ n0
    have e2 : h * ((2 * z - n) / n) * n = h * (2 * z - n) := by grind
    rw [e2]
    grind
theorem cell_zero {N : Int} {h x : Rat} : cellAt N h x 0 = 0 := by
  unfold cellAt
  split
  · split <;> rfl
  · omega
theorem cell_next {N : Int} {h x : Rat} {i : Int} (hN : 0 < N) (h0 : 0 ≤ h) (i0 : 0 ≤ i) : cellAt N h x i + (if decide (x < thr N h (1 + i)) = true then 0 else 1) = cellAt N h x (i + 1) := by
  unfold cellAt
  by_cases z : h = 0
  · rw [if_pos z, if_pos z]
    have t0 : thr N h (1 + i) = 0 := by unfold thr; rw [z, Rat.zero_mul]
    rw [t0]
    by_cases c : x < 0
    · rw [if_neg (show ¬ 0 ≤ x by grind), if_neg (show ¬ 0 ≤ x by grind), if_pos (decide_eq_true c)]
      rfl
    · rw [if_pos (show 0 ≤ x by grind), if_pos (show 0 ≤ x by grind), if_neg (by simpa using c)]
  · rw [if_neg z, if_neg z]
    have hp : 0 < h := by grind
    have t := thr_le (x := x) (c := 1 + i) hN hp
    by_cases c : x < thr N h (1 + i)
    · rw [if_pos (decide_eq_true c)]
      have := mt t.mpr (fun q => q c)
      omega
    · rw [if_neg (by simpa using c)]
      have := t.mp c
      omega
abbrev cellR (N : Int) (h x : Rat) : Int := cellAt N h x (N - 1)
theorem cell_lt {N : Int} {h x : Rat} (hN : 0 < N) : 0 ≤ cellR N h x ∧ cellR N h x < N := by
  unfold cellR cellAt
  split
  · split <;> omega
  · omega
/-- the middle of the cell is near -/
theorem cell_near {N : Int} {h x : Rat} (hN : 0 < N) (h0 : 0 ≤ h) (l : -h ≤ x) (r : x ≤ h) :
    x - h * (((2 * cellR N h x + 1 - N : Int) : Rat) / (N : Rat)) ≤ h * (1 / (N : Rat)) ∧ h * (((2 * cellR N h x + 1 - N : Int) : Rat) / (N : Rat)) - x ≤ h * (1 / (N : Rat)) := by
  have n0 : (0 : Rat) < (N : Rat) := Rat.intCast_pos.mpr hN
  have e : ((2 * cellR N h x + 1 - N : Int) : Rat) = 2 * ((cellR N h x : Int) : Rat) + 1 - (N : Rat) := by rw [Rat.intCast_sub, Rat.intCast_add, Rat.intCast_mul]; rfl
  rw [e]
  by_cases z : h = 0
  · subst z
    have : x = 0 := by grind
    subst this
    rw [Rat.zero_mul, Rat.zero_mul]
    grind
  · have hp : 0 < h := by grind
    have h2 : (0 : Rat) < 2 * h := Rat.mul_pos (by decide) hp
    generalize hF : ((x + h) * (N : Rat) / (2 * h)).floor = F
    have lo : (F : Rat) * (2 * h) ≤ (x + h) * (N : Rat) := by
      have := Rat.floor_le ((x + h) * (N : Rat) / (2 * h))
      rw [hF, ← Rat.not_lt, Rat.div_lt_iff h2, Rat.not_lt] at this
      exact this
    have hi : (x + h) * (N : Rat) < ((F : Rat) + 1) * (2 * h) := by
      have := Rat.lt_floor_add_one ((x + h) * (N : Rat) / (2 * h))
      rw [hF, Rat.div_lt_iff h2, Rat.intCast_add] at this
      exact this
    have F0 : 0 ≤ F := by
      rw [← hF, Rat.le_floor_iff]
      rw [← Rat.not_lt, Rat.div_lt_iff h2, Rat.not_lt]
      have := Rat.mul_nonneg (show 0 ≤ x + h by grind) (Rat.le_of_lt n0)
      grind
    have FN : F ≤ N := by
      have q : (F : Rat) * (2 * h) ≤ (N : Rat) * (2 * h) := by
        refine Rat.le_trans lo ?_
        rw [Rat.mul_comm (N : Rat)]
        exact Rat.mul_le_mul_of_nonneg_right (by grind) (Rat.le_of_lt n0)
      exact Rat.intCast_le_intCast.mp (Rat.le_of_mul_le_mul_right q h2)
    have hc : cellR N h x = if F ≤ N - 1 then F else N - 1 := by
      unfold cellR cellAt
      rw [if_neg z, hF]
      split <;> omega
    rw [hc]
    have goal : ∀ c : Rat, c * (2 * h) ≤ (x + h) * (N : Rat) → (x + h) * (N : Rat) ≤ (c + 1) * (2 * h) → x - h * ((2 * c + 1 - (N : Rat)) / (N : Rat)) ≤ h * (1 / (N : Rat)) ∧ h * ((2 * c + 1 - (N : Rat)) / (N : Rat)) - x ≤ h * (1 / (N : Rat)) := by
      intro c a b
      generalize (N : Rat) = n at *
      have e1 : h * ((2 * c + 1 - n) / n) * n = h * (2 * c + 1 - n) := by grind
      have e2 : h * (1 / n) * n = h := by grind
      constructor
      · refine Rat.le_of_mul_le_mul_right ?_ n0
        rw [e2, Rat.sub_eq_add_neg, Rat.add_mul, Rat.neg_mul, e1]
        grind
      · refine Rat.le_of_mul_le_mul_right ?_ n0
        rw [e2, Rat.sub_eq_add_neg, Rat.add_mul, Rat.neg_mul, e1]
        grind
    by_cases c : F ≤ N - 1
    · rw [if_pos c]
      exact goal _ lo (Rat.le_of_lt hi)
    · rw [if_neg c]
      have eF : F = N := by omega
      subst eF
      refine goal _ ?_ ?_
      · refine Rat.le_trans (Rat.mul_le_mul_of_nonneg_right ?_ (Rat.le_of_lt h2)) lo
        rw [Rat.intCast_sub]
        have : ((1 : Int) : Rat) = 1 := rfl
        grind
      · have e3 : ((F - 1 : Int) : Rat) + 1 = (F : Rat) := by
          rw [Rat.intCast_sub]
          have : ((1 : Int) : Rat) = 1 := rfl
          grind
        rw [e3, Rat.mul_comm (F : Rat)]
        exact Rat.mul_le_mul_of_nonneg_right (by grind) (Rat.le_of_lt n0)
theorem cell_thr {N c : Int} {h : Rat} (hN : 0 < N) (hp : 0 < h) (c0 : 0 ≤ c) (c1 : c < N) : cellR N h (thr N h c) = c := by
  have n0 : (0 : Rat) < (N : Rat) := Rat.intCast_pos.mpr hN
  have h2 : (0 : Rat) < 2 * h := Rat.mul_pos (by decide) hp
  have q : (thr N h c + h) * (N : Rat) / (2 * h) = (c : Rat) := by
    unfold thr
    have e : ((2 * c - N : Int) : Rat) = 2 * (c : Rat) - (N : Rat) := by rw [Rat.intCast_sub, Rat.intCast_mul]; rfl
    rw [e]
    generalize (N : Rat) = n at *
    have e1 : (h * ((2 * (c : Rat) - n) / n) + h) * n = h * (2 * (c : Rat) - n) + h * n := by grind
    rw [e1]
    have hz : 2 * h ≠ 0 := by grind
    grind
  unfold cellR cellAt
  rw [if_neg (by grind), q, Rat.floor_intCast]
  omega
end Dat
namespace K33
open PySem L2 Evl Dat
def topS (i : Nat) : Stmt := PySem.Challenge.pw_farheld_k33_whole_cells_and_middles.main.body.getD i (.Pass ⟨0, 0, 0, 0⟩)
section
variable {P : Program} {w : World} {K : PySem.W.Frag} {mg : Str → Option Value} {base : Heap}
abbrev s_is_whole : Stmt := topS 5
abbrev N_is_whole : List Str := ["thing", "low", "high"]
theorem sc_is_whole : FnScope N_is_whole ["thing", "low", "high"] (defScope s_is_whole) := ⟨rfl, rfl, rfl, by decide +kernel, rfl, by decide +kernel, by decide +kernel⟩
theorem ok_is_whole {f : Addr} {fd : FuncData} (F : FunV K "is_whole" s_is_whole [.non, .non] f fd) (T : Bl mg)  : FnOk P w K mg base CX0 1 f fd ["thing", "low", "high"] (spD K 3 fWhole) := by
  refine F.ok sc_is_whole (fun vs H Q E h => ?_) (fun cdv A outer s H vs Q E hr h => ?_)
  · obtain ⟨ds, d, hl, hd, _⟩ := h
    exact (dps_len hd).trans hl
  · obtain ⟨ds, d, hl, hd, hf, k⟩ := h
    obtain ⟨t, lo, hi, rfl, l1, l2, rfl⟩ := hf
    obtain ⟨v_thing, vs, rfl, h_thing, hd⟩ := dps_cons hd
    obtain ⟨v_low, vs, rfl, h_low, hd⟩ := dps_cons hd
    obtain ⟨v_high, vs, rfl, h_high, hd⟩ := dps_cons hd
    obtain rfl := dps_nil hd
    have ex : Ex H H := Ex.refl H
    refine ⟨_, (pss_cons (ps_if (PW.pt (pw_or (pt_not (pt_val (pe_callB call_isi (by rfl) T.b_isinstance (by decide +kernel) (pa_cons (pv 0) (pa_cons (pe_bltn (v := .ty "int") (by rfl) T.b_int (by decide +kernel) rfl) pa_nil))))) (pw_or1 (pt_val (pe_callB call_isi (by rfl) T.b_isinstance (by decide +kernel) (pa_cons (pv 0) (pa_cons (pe_bltn (v := .ty "bool") (by rfl) T.b_bool (by decide +kernel) rfl) pa_nil))))))) (pss_one (ps_ret pe_bl)) pss_nil)
    (pss_one (ps_ret (pe_and (pe_or (pe_cmpR op_isN (pv 1) pe_non (nomark _)) (pe_one (pe_cmpR op_le (pv 1) (pv 0) (nomark _)))) (pe_one (pe_or (pe_cmpR op_isN (pv 2) pe_non (nomark _)) (pe_one (pe_cmpR op_le (pv 0) (pv 2) (nomark _))))))))), ?_⟩
    refine z_if (σ := [some (v_thing), some (v_low), some (v_high)]) (b_or (b_not (b_val (d_isi (d_var ⟨_, rfl, h_thing⟩) (kit_int _)))) (fun c_0 => (b_val (d_isi (d_var ⟨_, rfl, h_thing⟩) (kit_bool _))))) (fun c4 H1 e => ?_) (fun c4 H1 e => ?_)
    · replace h_thing := dp_grow e _ _ h_thing
      replace h_low := dp_grow e _ _ h_low
      replace h_high := dp_grow e _ _ h_high
      replace ex := ex.trans e
      refine z_ret (K := K) (σ := [some (v_thing), some (v_low), some (v_high)]) d_bl fun v H1 e h => ?_
      replace ex := ex.trans e
      exact k v _ ex (by first | (rw [whole_no (by assumption)]; exact h) | (rw [← whole_yes l1 l2 (by assumption)]; exact h))
    · replace h_thing := dp_grow e _ _ h_thing
      replace h_low := dp_grow e _ _ h_low
      replace h_high := dp_grow e _ _ h_high
      replace ex := ex.trans e
      refine z_next ?_
      refine z_ret (K := K) (σ := [some (v_thing), some (v_low), some (v_high)]) (d_and (d_or (d_isN (d_var ⟨_, rfl, h_low⟩)) (fun c_0 => (le_lo l1 (by assumption) (by assumption) (d_var ⟨_, rfl, h_low⟩) (d_var ⟨_, rfl, h_thing⟩)))) (fun c_0 => (d_or (d_isN (d_var ⟨_, rfl, h_high⟩)) (fun c_0 => (le_hi l2 (by assumption) (by assumption) (d_var ⟨_, rfl, h_thing⟩) (d_var ⟨_, rfl, h_high⟩)))))) fun v H1 e h => ?_
      replace ex := ex.trans e
      exact k v _ ex (by first | (rw [whole_no (by assumption)]; exact h) | (rw [← whole_yes l1 l2 (by assumption)]; exact h))
abbrev psW : List Str := ["thing", "low", "high"]
abbrev DW (P : Program) (w : World) (K : PySem.W.Frag) (mg : Str → Option Value) (base : Heap) (dvs : List V) : Prop := DefV P w K mg base CX0 1 "is_whole" psW dvs (spD K 3 fWhole)
theorem dw1 {f : Addr} {fd : FuncData} (F : FunV K "is_whole" s_is_whole [.non, .non] f fd) (T : Bl mg) (hm : mg "is_whole" = some (.ref f)) : DW P w K mg base [.non, .non] :=
  defV F (ok_is_whole F T) hm 1 0 (by decide) rfl fun _ _ _ _ _ _ _ us its hl hi => match us, its, hl, hi with | [_], [_, _], _, _ => ⟨_, rfl, rfl⟩
theorem dw2 {f : Addr} {fd : FuncData} (F : FunV K "is_whole" s_is_whole [.non, .non] f fd) (T : Bl mg) (hm : mg "is_whole" = some (.ref f)) : DW P w K mg base [.non] :=
  defV F (ok_is_whole F T) hm 2 1 (by decide) rfl fun _ _ _ _ _ _ _ us its hl hi => match us, its, hl, hi with | [_, _], [_, _], _, _ => ⟨_, rfl, rfl⟩
theorem dw3 {f : Addr} {fd : FuncData} (F : FunV K "is_whole" s_is_whole [.non, .non] f fd) (T : Bl mg) (hm : mg "is_whole" = some (.ref f)) : DW P w K mg base [] :=
  defV F (ok_is_whole F T) hm 3 2 (by decide) rfl fun _ _ _ _ _ _ _ us its hl hi => match us, its, hl, hi with | [_, _, _], [_, _], _, _ => ⟨_, rfl, rfl⟩

abbrev s_lowest : Stmt := topS 7
abbrev N_lowest : List Str := ["top", "bottom", "shared"]
theorem sc_lowest : FnScope N_lowest ["top", "bottom"] (defScope s_lowest) := ⟨rfl, rfl, rfl, by decide +kernel, rfl, by decide +kernel, by decide +kernel⟩
theorem ok_lowest {f : Addr} {fd : FuncData} (F : Fun K "_lowest" "_lowest" s_lowest f fd) (T : Bl mg)  : FnOk P w K mg base CX0 1 f fd ["top", "bottom"] (spD K 2 fLowest) := by
  refine F.ok sc_lowest (fun vs H Q E h => ?_) (fun cdv A outer s H vs Q E hr h => ?_)
  · obtain ⟨ds, d, hl, hd, _⟩ := h
    exact (dps_len hd).trans hl
  · obtain ⟨ds, d, hl, hd, hf, k⟩ := h
    obtain ⟨t, b, rfl, b0, bb, rfl⟩ := hf
    obtain ⟨v_top, vs, rfl, h_top, hd⟩ := dps_cons hd
    obtain ⟨v_bottom, vs, rfl, h_bottom, hd⟩ := dps_cons hd
    obtain rfl := dps_nil hd
    have ex : Ex H H := Ex.refl H
    refine ⟨_, (pss_cons (ps_set (i := 2) sc_lowest.nd rfl (Or.inl rfl) (pe_callBfun cr_gcd (by rfl) T.g_gcd (pa_cons (pv 0) (pa_cons (pv 1) pa_nil))))
    (pss_cons (ps_if (pt_cmpR op_lt (pv 1) pe_int (nomark _)) (pss_one (ps_set (i := 2) sc_lowest.nd rfl (Or.inl rfl) (pe_un un_neg (pv 2)))) pss_nil)
    (pss_one (ps_ret (pe_tup (pa_cons (pe_op op_fdivA (pv 0) (pv 2)) (pa_cons (pe_op op_fdivA (pv 1) (pv 2)) pa_nil))))))), ?_⟩
    refine z_set (K := K) (σ := [some (v_top), some (v_bottom), none]) (d_gcd (d_var ⟨_, rfl, h_top⟩) (d_var ⟨_, rfl, h_bottom⟩)) fun v_shared1 H1 e h' => ?_
    replace h_top := dp_grow e _ _ h_top
    replace h_bottom := dp_grow e _ _ h_bottom
    replace ex := ex.trans e
    have h_shared := h'
    clear h'
    refine z_if (σ := [some (v_top), some (v_bottom), some v_shared1]) (b_test (d_lt (d_var ⟨_, rfl, h_bottom⟩) d_int)) (fun c4 H1 e => ?_) (fun c4 H1 e => ?_)
    · replace h_top := dp_grow e _ _ h_top
      replace h_bottom := dp_grow e _ _ h_bottom
      replace h_shared := dp_grow e _ _ h_shared
      replace ex := ex.trans e
      refine z_set1 (K := K) (σ := [some (v_top), some (v_bottom), some v_shared1]) (d_neg (d_var ⟨_, rfl, h_shared⟩)) fun v_shared2 H1 e h' => ?_
      replace h_top := dp_grow e _ _ h_top
      replace h_bottom := dp_grow e _ _ h_bottom
      clear h_shared
      replace ex := ex.trans e
      have h_shared := h'
      clear h'
      refine z_ret (K := K) (σ := [some (v_top), some (v_bottom), some v_shared2]) (d_tup (ds_cons (d_fdiv (d_var ⟨_, rfl, h_top⟩) (d_var ⟨_, rfl, h_shared⟩) (by first | exact div_g b0 bb | exact div_ng b0 bb)) (ds_cons (d_fdiv (d_var ⟨_, rfl, h_bottom⟩) (d_var ⟨_, rfl, h_shared⟩) (by first | exact div_g b0 bb | exact div_ng b0 bb)) ds_nil)) (by show 2 ≤ 1000; decide)) fun v H1 e h => ?_
      replace ex := ex.trans e
      have h' : Dp K H1 v (lowest t b) := by first | (rw [← low_neg b0 c4]; exact h) | (rw [← low_pos c4]; exact h)
      exact k v _ ex h'
    · replace h_top := dp_grow e _ _ h_top
      replace h_bottom := dp_grow e _ _ h_bottom
      replace h_shared := dp_grow e _ _ h_shared
      replace ex := ex.trans e
      refine z_next ?_
      refine z_ret (K := K) (σ := [some (v_top), some (v_bottom), some v_shared1]) (d_tup (ds_cons (d_fdiv (d_var ⟨_, rfl, h_top⟩) (d_var ⟨_, rfl, h_shared⟩) (by first | exact div_g b0 bb | exact div_ng b0 bb)) (ds_cons (d_fdiv (d_var ⟨_, rfl, h_bottom⟩) (d_var ⟨_, rfl, h_shared⟩) (by first | exact div_g b0 bb | exact div_ng b0 bb)) ds_nil)) (by show 2 ≤ 1000; decide)) fun v H1 e h => ?_
      replace ex := ex.trans e
      have h' : Dp K H1 v (lowest t b) := by first | (rw [← low_neg b0 c4]; exact h) | (rw [← low_pos c4]; exact h)
      exact k v _ ex h'

abbrev s_joined : Stmt := topS 9
abbrev N_joined : List Str := ["one", "top", "bottom", "shared", "part", "total", "rest"]
theorem sc_joined : FnScope N_joined ["one", "top", "bottom"] (defScope s_joined) := ⟨rfl, rfl, rfl, by decide +kernel, rfl, by decide +kernel, by decide +kernel⟩
theorem ok_joined {f : Addr} {fd : FuncData} (F : Fun K "_joined" "_joined" s_joined f fd) (T : Bl mg)  : FnOk P w K mg base CX0 1 f fd ["one", "top", "bottom"] (spD K 3 fJoined) := by
  refine F.ok sc_joined (fun vs H Q E h => ?_) (fun cdv A outer s H vs Q E hr h => ?_)
  · obtain ⟨ds, d, hl, hd, _⟩ := h
    exact (dps_len hd).trans hl
  · obtain ⟨ds, d, hl, hd, hf, k⟩ := h
    obtain ⟨x, y, rfl, ⟨bxn, bxd⟩, ⟨byn, byd⟩, rfl⟩ := hf
    replace bxd : (x.den : Int).natAbs < 2 ^ B := bxd
    replace byd : (y.den : Int).natAbs < 2 ^ B := byd
    have g0 : 0 < Nat.gcd x.den y.den := Nat.gcd_pos_of_pos_left _ x.den_pos
    have gb : (((Nat.gcd x.den y.den : Nat) : Int)).natAbs < 2 ^ B := Nat.lt_of_le_of_lt (Nat.gcd_le_left _ x.den_pos) bxd
    have bpx : (((x.den / Nat.gcd x.den y.den : Nat) : Int)).natAbs < 2 ^ B := Nat.lt_of_le_of_lt (Nat.div_le_self _ _) bxd
    have bpy : (((y.den / Nat.gcd x.den y.den : Nat) : Int)).natAbs < 2 ^ B := Nat.lt_of_le_of_lt (Nat.div_le_self _ _) byd
    have r0 : ∀ t : Int, 0 < Nat.gcd t.natAbs (Nat.gcd x.den y.den) := fun t => Nat.gcd_pos_of_pos_right _ g0
    have rb : ∀ t : Int, (((Nat.gcd t.natAbs (Nat.gcd x.den y.den) : Nat) : Int)).natAbs < 2 ^ B := fun t => Nat.lt_of_le_of_lt (Nat.gcd_le_right _ g0) gb
    have bpr : ∀ t : Int, (((y.den / Nat.gcd t.natAbs (Nat.gcd x.den y.den) : Nat) : Int)).natAbs < 2 ^ B := fun t => Nat.lt_of_le_of_lt (Nat.div_le_self _ _) byd
    obtain ⟨v_one, vs, rfl, h_one, hd⟩ := dps_cons hd
    obtain ⟨v_top, vs, rfl, h_top, hd⟩ := dps_cons hd
    obtain ⟨v_bottom, vs, rfl, h_bottom, hd⟩ := dps_cons hd
    obtain rfl := dps_nil hd
    have ex : Ex H H := Ex.refl H
    refine ⟨_, (pss_cons (ps_set (i := 3) sc_joined.nd rfl (Or.inl rfl) (pe_callBfun cr_gcd (by rfl) T.g_gcd (pa_cons (pe_ix (r := rIxT K) ix_tup (pv 0) pe_int (fun _ _ => rfl)) (pa_cons (pv 2) pa_nil))))
    (pss_cons (ps_if (pt_cmpR op_eq (pv 3) pe_int (nomark _)) (pss_one (ps_ret (pe_tup (pa_cons (pe_op op_add (pe_op op_mulW (pe_ix (r := rIxT K) ix_tup (pv 0) pe_int (fun _ _ => rfl)) (pv 2)) (pe_op op_mulW (pv 1) (pe_ix (r := rIxT K) ix_tup (pv 0) pe_int (fun _ _ => rfl)))) (pa_cons (pe_op op_mulW (pe_ix (r := rIxT K) ix_tup (pv 0) pe_int (fun _ _ => rfl)) (pv 2)) pa_nil))))) pss_nil)
    (pss_cons (ps_set (i := 4) sc_joined.nd rfl (Or.inl rfl) (pe_op op_fdivA (pe_ix (r := rIxT K) ix_tup (pv 0) pe_int (fun _ _ => rfl)) (pv 3)))
    (pss_cons (ps_set (i := 5) sc_joined.nd rfl (Or.inl rfl) (pe_op op_add (pe_op op_mulW (pe_ix (r := rIxT K) ix_tup (pv 0) pe_int (fun _ _ => rfl)) (pe_op op_fdivA (pv 2) (pv 3))) (pe_op op_mulW (pv 1) (pv 4))))
    (pss_cons (ps_set (i := 6) sc_joined.nd rfl (Or.inl rfl) (pe_callBfun cr_gcd (by rfl) T.g_gcd (pa_cons (pv 5) (pa_cons (pv 3) pa_nil))))
    (pss_one (ps_ret (pe_tup (pa_cons (pe_op op_fdivA (pv 5) (pv 6)) (pa_cons (pe_op op_mulW (pv 4) (pe_op op_fdivA (pv 2) (pv 6))) pa_nil)))))))))), ?_⟩
    refine z_set (K := K) (σ := [some (v_one), some (v_top), some (v_bottom), none, none, none, none]) (d_gcd (d_ixT (d_var ⟨_, rfl, h_one⟩) d_int rfl) (d_var ⟨_, rfl, h_bottom⟩)) fun v_shared1 H1 e h' => ?_
    replace h_one := dp_grow e _ _ h_one
    replace h_top := dp_grow e _ _ h_top
    replace h_bottom := dp_grow e _ _ h_bottom
    replace ex := ex.trans e
    have h_shared := h'
    clear h'
    refine z_if (σ := [some (v_one), some (v_top), some (v_bottom), some v_shared1, none, none, none]) (b_test (d_eqI (d_var ⟨_, rfl, h_shared⟩) d_int)) (fun c4 H1 e => ?_) (fun c4 H1 e => ?_)
    · replace h_one := dp_grow e _ _ h_one
      replace h_top := dp_grow e _ _ h_top
      replace h_bottom := dp_grow e _ _ h_bottom
      replace h_shared := dp_grow e _ _ h_shared
      replace ex := ex.trans e
      refine z_ret (K := K) (σ := [some (v_one), some (v_top), some (v_bottom), some v_shared1, none, none, none]) (d_tup (ds_cons (d_add (d_mul (d_ixT (d_var ⟨_, rfl, h_one⟩) d_int rfl) (d_var ⟨_, rfl, h_bottom⟩) (wide_mul (by assumption) (by assumption) (by decide) (by decide) (by decide))) (d_mul (d_var ⟨_, rfl, h_top⟩) (d_ixT (d_var ⟨_, rfl, h_one⟩) d_int rfl) (wide_mul (by assumption) (by assumption) (by decide) (by decide) (by decide)))) (ds_cons (d_mul (d_ixT (d_var ⟨_, rfl, h_one⟩) d_int rfl) (d_var ⟨_, rfl, h_bottom⟩) (wide_mul (by assumption) (by assumption) (by decide) (by decide) (by decide))) ds_nil)) (by show 2 ≤ 1000; decide)) fun v H1 e h => ?_
      replace ex := ex.trans e
      have h' : Dp K H1 v (ratR (x + y)) := by first | (rw [joined1 (nat_of c4)]; exact h) | (rw [joined2 (nat_ne c4)]; exact h)
      exact k v _ ex h'
    · replace h_one := dp_grow e _ _ h_one
      replace h_top := dp_grow e _ _ h_top
      replace h_bottom := dp_grow e _ _ h_bottom
      replace h_shared := dp_grow e _ _ h_shared
      replace ex := ex.trans e
      refine z_next ?_
      refine z_set (K := K) (σ := [some (v_one), some (v_top), some (v_bottom), some v_shared1, none, none, none]) (d_is (d_fdiv (d_ixT (d_var ⟨_, rfl, h_one⟩) d_int rfl) (d_var ⟨_, rfl, h_shared⟩) (div_ok (n := B) (nz g0) gb (by decide) (by decide))) (fdiv_nat _ _)) fun v_part2 H1 e h' => ?_
      replace h_one := dp_grow e _ _ h_one
      replace h_top := dp_grow e _ _ h_top
      replace h_bottom := dp_grow e _ _ h_bottom
      replace h_shared := dp_grow e _ _ h_shared
      replace ex := ex.trans e
      have h_part := h'
      clear h'
      refine z_set (K := K) (σ := [some (v_one), some (v_top), some (v_bottom), some v_shared1, some v_part2, none, none]) (d_add (d_mul (d_ixT (d_var ⟨_, rfl, h_one⟩) d_int rfl) (d_is (d_fdiv (d_var ⟨_, rfl, h_bottom⟩) (d_var ⟨_, rfl, h_shared⟩) (div_ok (n := B) (nz g0) gb (by decide) (by decide))) (fdiv_nat _ _)) (wide_mul (by assumption) (by assumption) (by decide) (by decide) (by decide))) (d_mul (d_var ⟨_, rfl, h_top⟩) (d_var ⟨_, rfl, h_part⟩) (wide_mul (by assumption) (by assumption) (by decide) (by decide) (by decide)))) fun v_total3 H1 e h' => ?_
      replace h_one := dp_grow e _ _ h_one
      replace h_top := dp_grow e _ _ h_top
      replace h_bottom := dp_grow e _ _ h_bottom
      replace h_shared := dp_grow e _ _ h_shared
      replace h_part := dp_grow e _ _ h_part
      replace ex := ex.trans e
      have h_total := h'
      clear h'
      refine z_set (K := K) (σ := [some (v_one), some (v_top), some (v_bottom), some v_shared1, some v_part2, some v_total3, none]) (d_gcd (d_var ⟨_, rfl, h_total⟩) (d_var ⟨_, rfl, h_shared⟩)) fun v_rest4 H1 e h' => ?_
      replace h_one := dp_grow e _ _ h_one
      replace h_top := dp_grow e _ _ h_top
      replace h_bottom := dp_grow e _ _ h_bottom
      replace h_shared := dp_grow e _ _ h_shared
      replace h_part := dp_grow e _ _ h_part
      replace h_total := dp_grow e _ _ h_total
      replace ex := ex.trans e
      have h_rest := h'
      clear h'
      refine z_ret (K := K) (σ := [some (v_one), some (v_top), some (v_bottom), some v_shared1, some v_part2, some v_total3, some v_rest4]) (d_tup (ds_cons (d_is (d_fdiv (d_var ⟨_, rfl, h_total⟩) (d_var ⟨_, rfl, h_rest⟩) (div_ok (n := B) (nz (r0 _)) (rb _) (by decide) (by decide))) (fdiv_int _ _)) (ds_cons (d_mul (d_var ⟨_, rfl, h_part⟩) (d_is (d_fdiv (d_var ⟨_, rfl, h_bottom⟩) (d_var ⟨_, rfl, h_rest⟩) (div_ok (n := B) (nz (r0 _)) (rb _) (by decide) (by decide))) (fdiv_nat _ _)) (wide_mul (by assumption) (bpr _) (by decide) (by decide) (by decide))) ds_nil)) (by show 2 ≤ 1000; decide)) fun v H1 e h => ?_
      replace ex := ex.trans e
      have h' : Dp K H1 v (ratR (x + y)) := by first | (rw [joined1 (nat_of c4)]; exact h) | (rw [joined2 (nat_ne c4)]; exact h)
      exact k v _ ex h'

abbrev s_plus : Stmt := topS 8
abbrev N_plus : List Str := ["one", "other"]
theorem sc_plus : FnScope N_plus ["one", "other"] (defScope s_plus) := ⟨rfl, rfl, rfl, by decide +kernel, rfl, by decide +kernel, by decide +kernel⟩
theorem ok_plus {f : Addr} {fd : FuncData} (F : Fun K "plus" "plus" s_plus f fd) (T : Bl mg) (D_joined : Def P w K mg base CX0 1 "_joined" ["one", "top", "bottom"] (spD K 3 fJoined)) : FnOk P w K mg base CX0 2 f fd ["one", "other"] (spD K 2 fPlusR) := by
  refine F.ok sc_plus (fun vs H Q E h => ?_) (fun cdv A outer s H vs Q E hr h => ?_)
  · obtain ⟨ds, d, hl, hd, _⟩ := h
    exact (dps_len hd).trans hl
  · obtain ⟨ds, d, hl, hd, hf, k⟩ := h
    obtain ⟨x, y, rfl, ⟨bxn, bxd⟩, ⟨byn, byd⟩, rfl⟩ := hf
    replace bxd : (x.den : Int).natAbs < 2 ^ B := bxd
    replace byd : (y.den : Int).natAbs < 2 ^ B := byd
    obtain ⟨v_one, vs, rfl, h_one, hd⟩ := dps_cons hd
    obtain ⟨v_other, vs, rfl, h_other, hd⟩ := dps_cons hd
    obtain rfl := dps_nil hd
    have ex : Ex H H := Ex.refl H
    refine ⟨_, (pss_one (ps_ret (pe_dcall D_joined (hr.mono (by decide)) pass0 (pa_cons (pv 0) (pa_cons (pe_ix (r := rIxT K) ix_tup (pv 1) pe_int (fun _ _ => rfl)) (pa_cons (pe_ix (r := rIxT K) ix_tup (pv 1) pe_int (fun _ _ => rfl)) pa_nil)))))), ?_⟩
    refine z_ret (K := K) (σ := [some (v_one), some (v_other)]) (d_call (ds_cons (d_var ⟨_, rfl, h_one⟩) (ds_cons (d_ixT (d_var ⟨_, rfl, h_other⟩) d_int rfl) (ds_cons (d_ixT (d_var ⟨_, rfl, h_other⟩) d_int rfl) ds_nil))) rfl ⟨x, y, rfl, ⟨bxn, bxd⟩, ⟨byn, byd⟩, rfl⟩) fun v H1 e h => ?_
    replace ex := ex.trans e
    exact k v _ ex h

abbrev s_times : Stmt := topS 10
abbrev N_times : List Str := ["one", "other", "left", "right"]
theorem sc_times : FnScope N_times ["one", "other"] (defScope s_times) := ⟨rfl, rfl, rfl, by decide +kernel, rfl, by decide +kernel, by decide +kernel⟩
theorem ok_times {f : Addr} {fd : FuncData} (F : Fun K "times" "times" s_times f fd) (T : Bl mg)  : FnOk P w K mg base CX0 1 f fd ["one", "other"] (spD K 2 fTimesR) := by
  refine F.ok sc_times (fun vs H Q E h => ?_) (fun cdv A outer s H vs Q E hr h => ?_)
  · obtain ⟨ds, d, hl, hd, _⟩ := h
    exact (dps_len hd).trans hl
  · obtain ⟨ds, d, hl, hd, hf, k⟩ := h
    obtain ⟨x, y, rfl, ⟨bxn, bxd⟩, ⟨byn, byd⟩, rfl⟩ := hf
    replace bxd : (x.den : Int).natAbs < 2 ^ B := bxd
    replace byd : (y.den : Int).natAbs < 2 ^ B := byd
    have l0 : 0 < Nat.gcd x.num.natAbs y.den := Nat.gcd_pos_of_pos_right _ y.den_pos
    have q0 : 0 < Nat.gcd y.num.natAbs x.den := Nat.gcd_pos_of_pos_right _ x.den_pos
    have lb : (((Nat.gcd x.num.natAbs y.den : Nat) : Int)).natAbs < 2 ^ B := Nat.lt_of_le_of_lt (Nat.gcd_le_right _ y.den_pos) byd
    have qb : (((Nat.gcd y.num.natAbs x.den : Nat) : Int)).natAbs < 2 ^ B := Nat.lt_of_le_of_lt (Nat.gcd_le_right _ x.den_pos) bxd
    have b1 := div_lt (g := Nat.gcd x.num.natAbs y.den) (Nat.gcd_dvd_left _ _) bxn
    have b2 := div_lt (g := Nat.gcd y.num.natAbs x.den) (Nat.gcd_dvd_left _ _) byn
    have b3 : (((x.den / Nat.gcd y.num.natAbs x.den : Nat) : Int)).natAbs < 2 ^ B := Nat.lt_of_le_of_lt (Nat.div_le_self _ _) bxd
    have b4 : (((y.den / Nat.gcd x.num.natAbs y.den : Nat) : Int)).natAbs < 2 ^ B := Nat.lt_of_le_of_lt (Nat.div_le_self _ _) byd
    obtain ⟨v_one, vs, rfl, h_one, hd⟩ := dps_cons hd
    obtain ⟨v_other, vs, rfl, h_other, hd⟩ := dps_cons hd
    obtain rfl := dps_nil hd
    have ex : Ex H H := Ex.refl H
    refine ⟨_, (pss_cons (ps_set (i := 2) sc_times.nd rfl (Or.inl rfl) (pe_callBfun cr_gcd (by rfl) T.g_gcd (pa_cons (pe_ix (r := rIxT K) ix_tup (pv 0) pe_int (fun _ _ => rfl)) (pa_cons (pe_ix (r := rIxT K) ix_tup (pv 1) pe_int (fun _ _ => rfl)) pa_nil))))
    (pss_cons (ps_set (i := 3) sc_times.nd rfl (Or.inl rfl) (pe_callBfun cr_gcd (by rfl) T.g_gcd (pa_cons (pe_ix (r := rIxT K) ix_tup (pv 1) pe_int (fun _ _ => rfl)) (pa_cons (pe_ix (r := rIxT K) ix_tup (pv 0) pe_int (fun _ _ => rfl)) pa_nil))))
    (pss_one (ps_ret (pe_tup (pa_cons (pe_op op_mulW (pe_op op_fdivA (pe_ix (r := rIxT K) ix_tup (pv 0) pe_int (fun _ _ => rfl)) (pv 2)) (pe_op op_fdivA (pe_ix (r := rIxT K) ix_tup (pv 1) pe_int (fun _ _ => rfl)) (pv 3))) (pa_cons (pe_op op_mulW (pe_op op_fdivA (pe_ix (r := rIxT K) ix_tup (pv 0) pe_int (fun _ _ => rfl)) (pv 3)) (pe_op op_fdivA (pe_ix (r := rIxT K) ix_tup (pv 1) pe_int (fun _ _ => rfl)) (pv 2))) pa_nil))))))), ?_⟩
    refine z_set (K := K) (σ := [some (v_one), some (v_other), none, none]) (d_gcd (d_ixT (d_var ⟨_, rfl, h_one⟩) d_int rfl) (d_ixT (d_var ⟨_, rfl, h_other⟩) d_int rfl)) fun v_left5 H1 e h' => ?_
    replace h_one := dp_grow e _ _ h_one
    replace h_other := dp_grow e _ _ h_other
    replace ex := ex.trans e
    have h_left := h'
    clear h'
    refine z_set (K := K) (σ := [some (v_one), some (v_other), some v_left5, none]) (d_gcd (d_ixT (d_var ⟨_, rfl, h_other⟩) d_int rfl) (d_ixT (d_var ⟨_, rfl, h_one⟩) d_int rfl)) fun v_right6 H1 e h' => ?_
    replace h_one := dp_grow e _ _ h_one
    replace h_other := dp_grow e _ _ h_other
    replace h_left := dp_grow e _ _ h_left
    replace ex := ex.trans e
    have h_right := h'
    clear h'
    refine z_ret (K := K) (σ := [some (v_one), some (v_other), some v_left5, some v_right6]) (d_tup (ds_cons (d_mul (d_is (d_fdiv (d_ixT (d_var ⟨_, rfl, h_one⟩) d_int rfl) (d_var ⟨_, rfl, h_left⟩) (div_ok (n := B) (nz l0) lb (by decide) (by decide))) (fdiv_int _ _)) (d_is (d_fdiv (d_ixT (d_var ⟨_, rfl, h_other⟩) d_int rfl) (d_var ⟨_, rfl, h_right⟩) (div_ok (n := B) (nz q0) qb (by decide) (by decide))) (fdiv_int _ _)) (wide_mul (by assumption) (by assumption) (by decide) (by decide) (by decide))) (ds_cons (d_mul (d_is (d_fdiv (d_ixT (d_var ⟨_, rfl, h_one⟩) d_int rfl) (d_var ⟨_, rfl, h_right⟩) (div_ok (n := B) (nz q0) qb (by decide) (by decide))) (fdiv_nat _ _)) (d_is (d_fdiv (d_ixT (d_var ⟨_, rfl, h_other⟩) d_int rfl) (d_var ⟨_, rfl, h_left⟩) (div_ok (n := B) (nz l0) lb (by decide) (by decide))) (fdiv_nat _ _)) (wide_mul (by assumption) (by assumption) (by decide) (by decide) (by decide))) ds_nil)) (by show 2 ≤ 1000; decide)) fun v H1 e h => ?_
    replace ex := ex.trans e
    rw [timesR] at k
    exact k v _ ex h

abbrev s_floor_of : Stmt := topS 12
abbrev N_floor_of : List Str := ["one"]
theorem sc_floor_of : FnScope N_floor_of ["one"] (defScope s_floor_of) := ⟨rfl, rfl, rfl, by decide +kernel, rfl, by decide +kernel, by decide +kernel⟩
theorem ok_floor_of {f : Addr} {fd : FuncData} (F : Fun K "floor_of" "floor_of" s_floor_of f fd) (T : Bl mg)  : FnOk P w K mg base CX0 1 f fd ["one"] (spD K 1 fFloor) := by
  refine F.ok sc_floor_of (fun vs H Q E h => ?_) (fun cdv A outer s H vs Q E hr h => ?_)
  · obtain ⟨ds, d, hl, hd, _⟩ := h
    exact (dps_len hd).trans hl
  · obtain ⟨ds, d, hl, hd, hf, k⟩ := h
    obtain ⟨p, q, rfl, q0, bq, rfl⟩ := hf
    obtain ⟨v_one, vs, rfl, h_one, hd⟩ := dps_cons hd
    obtain rfl := dps_nil hd
    have ex : Ex H H := Ex.refl H
    refine ⟨_, (pss_one (ps_ret (pe_op op_fdivA (pe_ix (r := rIxT K) ix_tup (pv 0) pe_int (fun _ _ => rfl)) (pe_ix (r := rIxT K) ix_tup (pv 0) pe_int (fun _ _ => rfl))))), ?_⟩
    refine z_ret (K := K) (σ := [some (v_one)]) (d_fdiv (d_ixT (d_var ⟨_, rfl, h_one⟩) d_int rfl) (d_ixT (d_var ⟨_, rfl, h_one⟩) d_int rfl) (div_ok (by assumption) (by assumption))) fun v H1 e h => ?_
    replace ex := ex.trans e
    exact k v _ ex h

abbrev s_i_BadRatio : Stmt := inClass (topS 3) 0
theorem sc_i_BadRatio : FnScope ["self", "what"] ["self", "what"] (defScope s_i_BadRatio) := ⟨rfl, rfl, rfl, by decide +kernel, rfl, by decide +kernel, by decide +kernel⟩
theorem ok_i_BadRatio {f C : Addr} {fd : FuncData} (F : Fun K "__init__" "BadRatio.__init__" s_i_BadRatio f fd) (T : OexC K C) (n0 : PySem.W.findIn K (.ref C) "what" = some none) : FnOk P w K mg base CX0 1 f fd ["self", "what"] (spI C "what") := by
  refine F.ok sc_i_BadRatio (fun vs H Q E h => ?_) (fun cdv A outer s H vs Q E hr h => ?_)
  · obtain ⟨a, u, rfl, _⟩ := h
    rfl
  · obtain ⟨a, u, rfl, ha, k⟩ := h
    refine ⟨_, (pss_one (ps_ost (pv 0) (pv 1))), ?_⟩
    exact ⟨_, rfl, _, rfl, a, C, rfl, T, n0, .inl ⟨ha, fun d hd da => k d [(("what" : Str), u)] _ hd upd_same ((upd_ne da).trans upd_same) (fun b h1 h2 => (upd_ne h1).trans (upd_ne h2)) (by simp [List.lookup])⟩⟩

abbrev s_make_ratio : Stmt := topS 6
abbrev N_make_ratio : List Str := ["top", "bottom"]
theorem sc_make_ratio : FnScope N_make_ratio ["top", "bottom"] (defScope s_make_ratio) := ⟨rfl, rfl, rfl, by decide +kernel, rfl, by decide +kernel, by decide +kernel⟩
/-- what make_ratio returns -/
def fMake (ds : List PyData) (d : PyData) : Prop := fLowest ds d
/-- why make_ratio raises -/
def gMake (ds : List PyData) (y : Str) : Prop := ∃ a b, ds = [a, b] ∧ ((wh a = false ∧ y = "top") ∨ (wh a = true ∧ wh b = false ∧ y = "bottom") ∨ (wh a = true ∧ b = .int 0 ∧ y = "bottom"))
/-- why make_ratio raises -/
def gMake2 (ds : List PyData) (y : Str) : Prop := ∃ a b, ds = [a, b] ∧ ((wholeIn a .none .none = false ∧ y = "top") ∨ (wholeIn a .none .none = true ∧ wholeIn b .none .none = false ∧ y = "bottom") ∨ (wholeIn a .none .none = true ∧ b = .int 0 ∧ y = "bottom"))
abbrev spMakeR (K : PySem.W.Frag) (C : Addr) : Sp := spE K C "what" 2 fMake gMake2
theorem ok_make_ratio {f C : Addr} {fd : FuncData} {dvs : List V} (F : FunV K "make_ratio" s_make_ratio dvs f fd) (T : Bl mg) (TC : Cl1 P w K mg base "BadRatio" C "what") (D_w1 : DW P w K mg base [.non, .non])
    (D_lowest : Def P w K mg base CX0 1 "_lowest" ["top", "bottom"] (spD K 2 fLowest)) : FnOk P w K mg base (L2.CX P w) 3 f fd ["top", "bottom"] (spMakeR K C) := by
  refine F.ok sc_make_ratio (fun vs H Q E h => ?_) (fun cdv A outer s H vs Q E hr h => ?_)
  · obtain ⟨ds, hl, hd, _⟩ := h
    exact (dps_len hd).trans hl
  · have hr2 : Room 2 _ := hr.mono (by decide)
    refine ⟨_, (pss_cons (ps_if (pt_not (pt_val (pe_dcallV D_w1 (hr.mono (by decide)) pass0 (pa_cons (pv 0) pa_nil)))) (pss_one (ps_raise rfl (takes_of rfl rfl rfl rfl) (pmk_c1 TC hr2 (pa_cons pe_str pa_nil)))) pss_nil)
      (pss_cons (ps_if (PW.pt (pw_or (pt_not (pt_val (pe_dcallV D_w1 (hr.mono (by decide)) pass0 (pa_cons (pv 1) pa_nil)))) (pw_or1 (pt_cmpR op_eq (pv 1) pe_int (nomark _))))) (pss_one (ps_raise rfl (takes_of rfl rfl rfl rfl) (pmk_c1 TC hr2 (pa_cons pe_str pa_nil)))) pss_nil)
      (pss_one (ps_ret (pe_dcall D_lowest (hr.mono (by decide)) pass0 (pa_cons (pv 0) (pa_cons (pv 1) pa_nil))))))), ?_⟩
    obtain ⟨ds, hl, hd, h⟩ := h
    have ew : ∀ {a : PyData} {σ : L2.St} {H : Hp} {i : Nat}, Sl K σ H i a → EvB (tNot (tB (tCall (spD K 3 fWhole) [.non, .non] E0 (tCons (tVar i) tNil)))) σ H (!wholeIn a .none .none) := fun s =>
      b_not (b_val (d_callV (ds_cons (d_var s) ds_nil) (fun _ => .cons .non (.cons .non .nil)) rfl ⟨_, _, _, rfl, .inl rfl, .inl rfl, rfl⟩))
    rcases h with ⟨d, hf, k⟩ | ⟨y, hg, k⟩
    · obtain ⟨t, b, rfl, b0, bb, rfl⟩ := hf
      obtain ⟨v_top, vs, rfl, h_top, hd⟩ := dps_cons hd
      obtain ⟨v_bottom, vs, rfl, h_bottom, hd⟩ := dps_cons hd
      obtain rfl := dps_nil hd
      refine z_if (σ := [some (v_top), some (v_bottom)]) (ew ⟨_, rfl, h_top⟩) (fun c H1 e => by cases c) (fun c H1 e => ?_)
      replace h_top := dp_grow e _ _ h_top
      replace h_bottom := dp_grow e _ _ h_bottom
      have ex := e
      refine z_nx ?_
      refine z_if (σ := [some (v_top), some (v_bottom)]) (b_or (ew (i := 1) ⟨v_bottom, rfl, h_bottom⟩) (fun c_0 => b_test (d_eqI (d_var (i := 1) ⟨v_bottom, rfl, h_bottom⟩) d_int))) (fun c H1 e => ?_) (fun c H1 e => ?_)
      · exfalso
        have z : decide (b = 0) = true := c
        exact b0 (of_decide_eq_true z)
      · replace h_top := dp_grow e _ _ h_top
        replace h_bottom := dp_grow e _ _ h_bottom
        replace ex := ex.trans e
        refine z_nx ?_
        refine z_ret (K := K) (σ := [some (v_top), some (v_bottom)]) (d_call (ds_cons (d_var ⟨_, rfl, h_top⟩) (ds_cons (d_var ⟨_, rfl, h_bottom⟩) ds_nil)) rfl ⟨t, b, rfl, b0, bb, rfl⟩) fun v H1 e h => ?_
        exact k v _ (ex.trans e) h
    · obtain ⟨a, b, rfl, hg⟩ := hg
      obtain ⟨v_top, vs, rfl, h_top, hd⟩ := dps_cons hd
      obtain ⟨v_bottom, vs, rfl, h_bottom, hd⟩ := dps_cons hd
      obtain rfl := dps_nil hd
      refine z_if (σ := [some (v_top), some (v_bottom)]) (ew ⟨_, rfl, h_top⟩) (fun c H1 e => ?_) (fun c H1 e => ?_)
      · have ca : wholeIn a .none .none = false := by simpa using c
        have ey : y = "top" := by
          rcases hg with ⟨_, h⟩ | ⟨h, _⟩ | ⟨h, _⟩
          · exact h
          · rw [ca] at h; cases h
          · rw [ca] at h; cases h
        subst ey
        exact x_raise (W := fun cls d _ H => E cls d H) fun d fs H' e' h1 h2 => k d fs H' (e.trans e') h1 h2
      · have ca : wholeIn a .none .none = true := by simpa using c
        replace h_bottom := dp_grow e _ _ h_bottom
        have ex := e
        refine z_nx ?_
        have ey : y = "bottom" := by
          rcases hg with ⟨h, _⟩ | ⟨_, _, h⟩ | ⟨_, _, h⟩
          · rw [ca] at h; cases h
          · exact h
          · exact h
        subst ey
        by_cases hb : wholeIn b .none .none = true
        · have eb : b = .int 0 := by
            rcases hg with ⟨h, _⟩ | ⟨_, h, _⟩ | ⟨_, h, _⟩
            · rw [ca] at h; cases h
            · rw [hb] at h; cases h
            · exact h
          subst eb
          refine z_if (b := true) (σ := [some (v_top), some (v_bottom)]) (b_or (b := true) (ew (i := 1) ⟨v_bottom, rfl, h_bottom⟩) (fun c_0 => b_test (d_is (d_eqI (d_var (i := 1) ⟨v_bottom, rfl, h_bottom⟩) d_int) rfl))) (fun c H1 e => ?_) (fun c H1 e => by cases c)
          exact x_raise (W := fun cls d _ H => E cls d H) fun d fs H' e' h1 h2 => k d fs H' ((ex.trans e).trans e') h1 h2
        · have hb' : wholeIn b .none .none = false := by simpa using hb
          refine z_if (b := true) (σ := [some (v_top), some (v_bottom)]) (b_is (b_or (b := true) (ew (i := 1) ⟨v_bottom, rfl, h_bottom⟩) (fun c_0 => by rw [hb'] at c_0; cases c_0)) (by rw [hb']; rfl)) (fun c H1 e => ?_) (fun c H1 e => by cases c)
          exact x_raise (W := fun cls d _ H => E cls d H) fun d fs H' e' h1 h2 => k d fs H' ((ex.trans e).trans e') h1 h2

def fOverR (ds : List PyData) (d : PyData) : Prop := ∃ x y : Rat, ds = [ratR x, ratR y] ∧ Sz B x ∧ Sz B y ∧ y.num ≠ 0 ∧ d = lowest (x.num * y.den) (x.den * y.num)
def gOver (ds : List PyData) (y : Str) : Prop := ∃ x : Rat, ds = [ratR x, .tuple [.int 0, .int 1]] ∧ y = "zero"
abbrev spOver (K : PySem.W.Frag) (C : Addr) : Sp := spE K C "what" 2 fOverR gOver
abbrev s_over : Stmt := topS 11
abbrev N_over : List Str := ["one", "other"]
theorem sc_over : FnScope N_over ["one", "other"] (defScope s_over) := ⟨rfl, rfl, rfl, by decide +kernel, rfl, by decide +kernel, by decide +kernel⟩
theorem ok_over {f C : Addr} {fd : FuncData} (F : Fun K "over" "over" s_over f fd) (T : Bl mg) (TC : Cl1 P w K mg base "BadRatio" C "what")
    (D_lowest : Def P w K mg base CX0 1 "_lowest" ["top", "bottom"] (spD K 2 fLowest)) : FnOk P w K mg base (L2.CX P w) 3 f fd ["one", "other"] (spOver K C) := by
  refine F.okX sc_over (fun vs H Q E h => ?_) (fun cdv A outer s H vs Q E hr h => ?_)
  · obtain ⟨ds, hl, hd, _⟩ := h
    exact (dps_len hd).trans hl
  · have hr2 : Room 2 _ := hr.mono (by decide)
    refine ⟨_, (pss_cons (ps_if (pt_cmpR op_eq (pe_ix (r := rIxT K) ix_tup (pv 1) pe_int (fun _ _ => rfl)) pe_int (nomark _)) (pss_one (ps_raise rfl (takes_of rfl rfl rfl rfl) (pmk_c1 TC hr2 (pa_cons pe_str pa_nil)))) pss_nil)
      (pss_one (ps_ret (pe_dcall D_lowest (hr.mono (by decide)) pass0 (pa_cons (pe_op op_mulW (pe_ix (r := rIxT K) ix_tup (pv 0) pe_int (fun _ _ => rfl)) (pe_ix (r := rIxT K) ix_tup (pv 1) pe_int (fun _ _ => rfl))) (pa_cons (pe_op op_mulW (pe_ix (r := rIxT K) ix_tup (pv 0) pe_int (fun _ _ => rfl)) (pe_ix (r := rIxT K) ix_tup (pv 1) pe_int (fun _ _ => rfl))) pa_nil)))))), ?_⟩
    obtain ⟨ds, hl, hd, h⟩ := h
    rcases h with ⟨d, hf, k⟩ | ⟨y, hg, k⟩
    · obtain ⟨x, y, rfl, ⟨bxn, bxd⟩, ⟨byn, byd⟩, y0, rfl⟩ := hf
      replace bxd : (x.den : Int).natAbs < 2 ^ B := bxd
      replace byd : (y.den : Int).natAbs < 2 ^ B := byd
      obtain ⟨v_one, vs, rfl, h_one, hd⟩ := dps_cons hd
      obtain ⟨v_other, vs, rfl, h_other, hd⟩ := dps_cons hd
      obtain rfl := dps_nil hd
      refine z_if (σ := [some (v_one), some (v_other)]) (b_test (d_eqI (d_ixT (d_var ⟨_, rfl, h_other⟩) d_int rfl) d_int)) (fun c H1 e => ?_) (fun c H1 e => ?_)
      · exact absurd (of_decide_eq_true c) y0
      · replace h_one := dp_grow e _ _ h_one
        replace h_other := dp_grow e _ _ h_other
        refine z_nx ?_
        refine z_ret (K := K) (σ := [some (v_one), some (v_other)]) (d_call (ds_cons (d_mul (d_ixT (d_var ⟨_, rfl, h_one⟩) d_int rfl) (d_ixT (d_var ⟨_, rfl, h_other⟩) d_int rfl) (wide_mul bxn byd (by decide) (by decide) (by decide))) (ds_cons (d_mul (d_ixT (d_var ⟨_, rfl, h_one⟩) d_int rfl) (d_ixT (d_var ⟨_, rfl, h_other⟩) d_int rfl) (wide_mul bxd byn (by decide) (by decide) (by decide))) ds_nil)) rfl ⟨_, _, rfl, mul_ne (by have := x.den_pos; omega) y0, small_mul bxd byn, rfl⟩) fun v H1 e2 h => ?_
        exact k v _ (e.trans e2) h
    · obtain ⟨x, rfl, rfl⟩ := hg
      obtain ⟨v_one, vs, rfl, h_one, hd⟩ := dps_cons hd
      obtain ⟨v_other, vs, rfl, h_other, hd⟩ := dps_cons hd
      obtain rfl := dps_nil hd
      refine z_if (b := true) (σ := [some (v_one), some (v_other)]) (b_test (d_is (d_eqI (d_ixT (d_var ⟨_, rfl, h_other⟩) d_int rfl) d_int) rfl)) (fun c H1 e => ?_) (fun c H1 e => by cases c)
      exact x_raise (W := fun cls d _ H => E cls d H) fun d fs H' e' h1 h2 => k d fs H' (e.trans e') h1 h2

abbrev s_mix : Stmt := topS 21
abbrev N_mix : List Str := ["number", "turn", "once", "twice"]
theorem sc_mix : FnScope N_mix ["number", "turn"] (defScope s_mix) := ⟨rfl, rfl, rfl, by decide +kernel, rfl, by decide +kernel, by decide +kernel⟩
theorem ok_mix {f : Addr} {fd : FuncData} (F : Fun K "_law_mix" "_law_mix" s_mix f fd) (T : Bl mg) : FnOk P w K mg base CX0 1 f fd ["number", "turn"] spMix := by
  refine F.ok sc_mix (fun vs H Q E h => ?_) (fun cdv A outer s H vs Q E hr h => ?_)
  · obtain ⟨n, k, rfl, _⟩ := h
    rfl
  · obtain ⟨n, k, rfl, n0, n1, k0, k1, q⟩ := h
    refine ⟨_, (pss_cons (ps_set (i := 2) sc_mix.nd rfl (Or.inl rfl) (pe_op op_mod (pe_callTy call_int1 (by rfl) T.b_int (by decide +kernel) (pa_cons (pe_op op_add (pe_op op_add (pe_op op_mul (pv 0) pe_int) (pe_op op_mul (pv 1) pe_int)) pe_int) pa_nil)) pe_int))
    (pss_cons (ps_set (i := 3) sc_mix.nd rfl (Or.inl rfl) (pe_op op_mod (pe_callTy call_int1 (by rfl) T.b_int (by decide +kernel) (pa_cons (pe_op op_add (pe_op op_add (pe_op op_mul (pv 2) (pv 2)) (pe_op op_mul (pe_op op_fdiv (pv 2) pe_int) pe_int)) (pe_op op_mul (pv 1) pe_int)) pa_nil)) pe_int))
    (pss_one (ps_ret (pe_op op_fdiv (pe_op op_mod (pe_callTy call_int1 (by rfl) T.b_int (by decide +kernel) (pa_cons (pe_op op_add (pe_op op_fdiv (pe_op op_mul (pv 3) (pv 3)) pe_int) (pv 2)) pa_nil)) pe_int) pe_int))))), ?_⟩
    refine ⟨_, rfl, _, _, rfl, rfl, .inr (by decide), _, rfl, _, _, rfl, rfl, .inr (by decide), _, _, rfl, rfl, _, _, rfl, rfl, .inl ⟨_, rfl, _, _, rfl, rfl, (by show (0 : Int) < 2147483647; decide), ?_⟩⟩
    generalize ho : (n * 48271 + k * 16807 + 11) % 2147483647 = once
    have o0 : 0 ≤ once := by omega
    have o1 : once < 2147483647 := by omega
    refine ⟨_, rfl, _, rfl, _, _, rfl, rfl, .inl ⟨by omega, by omega⟩, _, rfl, _, _, rfl, rfl, ⟨by decide, by decide⟩, _, _, rfl, rfl, .inr (by decide), _, _, rfl, rfl, _, rfl, _, _, rfl, rfl, .inr (by decide), _, _, rfl, rfl, .inl ⟨_, rfl, _, _, rfl, rfl, (by show (0 : Int) < 2147483399; decide), ?_⟩⟩
    generalize ht : (once * once + once / 127 * 40692 + k * 69621) % 2147483399 = twice
    have t0 : 0 ≤ twice := by omega
    have t1 : twice < 2147483399 := by omega
    refine ⟨_, rfl, _, rfl, _, _, rfl, rfl, .inl ⟨by omega, by omega⟩, _, _, rfl, rfl, ⟨by decide, by decide⟩, _, rfl, _, _, rfl, rfl, .inl ⟨_, rfl, _, _, rfl, rfl, (by show (0 : Int) < 2147483563; decide), _, _, rfl, rfl, ⟨by decide, by decide⟩, q _⟩⟩

abbrev s_draw : Stmt := topS 23
abbrev N_draw : List Str := ["hand", "many", "cell", "rest"]
theorem sc_draw : FnScope N_draw ["hand", "many"] (defScope s_draw) := ⟨rfl, rfl, rfl, by decide +kernel, rfl, by decide +kernel, by decide +kernel⟩
theorem ok_draw {f : Addr} {fd : FuncData} (F : Fun K "_law_draw" "_law_draw" s_draw f fd) (T : Bl mg) (D_law_mix : Def P w K mg base CX0 1 "_law_mix" ["number", "turn"] spMix) : FnOk P w K mg base CX0 2 f fd ["hand", "many"] spDraw := by
  refine F.ok sc_draw (fun vs H Q E h => ?_) (fun cdv A outer s H vs Q E hr h => ?_)
  · obtain ⟨a, c, ns, many, rfl, _⟩ := h
    rfl
  · obtain ⟨a, c, ns, many, rfl, m0, m1, ⟨p, r, t, hH, hC, hl, hns, p0, p1, r0, t0, t1⟩, q⟩ := h
    refine ⟨_, (Evl.pss_cut (ps_if (PW.pt (pw_and (pt_cmpR op_eq (pe_ix ix_list (pv 0) pe_int (fun _ _ => rfl)) pe_int (nomark _)) (pw_and1 (pt_cmpR op_lt (pe_ix ix_list (pv 0) pe_int (fun _ _ => rfl)) (pe_callB call_len_seq (by rfl) T.b_len (by decide +kernel) (pa_cons (pe_ix ix_list (pv 0) pe_int (fun _ _ => rfl)) pa_nil)) (nomark _))))) (pss_cons (ps_set (i := 2) sc_draw.nd rfl (Or.inl rfl) (pe_ix ix_list (pe_ix ix_list (pv 0) pe_int (fun _ _ => rfl)) (pe_ix ix_list (pv 0) pe_int (fun _ _ => rfl)) (fun _ _ => rfl)))
    (pss_cons (ps_asg (pe_op op_add (pe_ix ix_list (pv 0) pe_int (fun _ _ => rfl)) pe_int) (pg_sub (pv 0) pe_int set_list) rfl)
    (pss_cons (ps_if (pt_cmpR op_lt (pv 2) (pe_op op_pow pe_int pe_int) (nomark _)) (pss_one (ps_ret (pe_op op_mod (pe_callTy call_int1 (by rfl) T.b_int (by decide +kernel) (pa_cons (pe_dcall D_law_mix (hr.mono (by decide)) pass0 (pa_cons (pe_op op_mod (pe_callTy call_int1 (by rfl) T.b_int (by decide +kernel) (pa_cons (pv 2) pa_nil)) pe_int) (pa_cons (pe_ix ix_list (pv 0) pe_int (fun _ _ => rfl)) pa_nil))) pa_nil)) (pv 1)))) pss_nil)
    (pss_one (ps_asg (pv 2) (pg_sub (pv 0) pe_int set_list) rfl))))) pss_nil)
    (pss_cons (ps_if (pt_cmpR op_gt (pe_ix ix_list (pv 0) pe_int (fun _ _ => rfl)) pe_int (nomark _)) (pss_cons (ps_set (i := 3) sc_draw.nd rfl (Or.inl rfl) (pe_ix ix_list (pv 0) pe_int (fun _ _ => rfl)))
    (pss_cons (ps_asg (pe_op op_fdivW (pv 3) (pv 1)) (pg_sub (pv 0) pe_int set_list) rfl)
    (pss_one (ps_ret (pe_op op_mod (pe_callTy call_int1 (by rfl) T.b_int (by decide +kernel) (pa_cons (pv 3) pa_nil)) (pv 1)))))) pss_nil)
    (pss_cons (ps_asg (pe_op op_mod (pe_callTy call_int1 (by rfl) T.b_int (by decide +kernel) (pa_cons (pe_op op_add (pe_ix ix_list (pv 0) pe_int (fun _ _ => rfl)) pe_int) pa_nil)) pe_int) (pg_sub (pv 0) pe_int set_list) rfl)
    (pss_one (ps_ret (pe_op op_mod (pe_callTy call_int1 (by rfl) T.b_int (by decide +kernel) (pa_cons (pe_dcall D_law_mix (hr.mono (by decide)) pass0 (pa_cons (pe_ix ix_list (pv 0) pe_int (fun _ _ => rfl)) (pa_cons (pe_ix ix_list (pv 0) pe_int (fun _ _ => rfl)) pa_nil))) pa_nil)) (pv 1))))))), ?_⟩
    have nca : c ≠ a := fun e => by
      rw [e, hH] at hC
      have := Option.some.inj hC
      injection this with e1
      cases ns with
      | nil => cases e1
      | cons n l =>
        rw [List.map_cons] at e1
        injection e1 with e2
        cases e2
    have nac : a ≠ c := fun e => nca e.symm
    refine ⟨fun σ' H' => ∃ (v2 : Option V) (p r t : Int), σ' = [some (.ref a), some (.int many), v2, none] ∧ H' a = some (.lst [.ref c, .int p, .int r, .int t]) ∧ H' c = some (.lst (ns.map V.int)) ∧ (∀ b, b ≠ a → H' b = H b) ∧ 0 ≤ p ∧ p ≤ 64 ∧ 0 ≤ r ∧ 0 ≤ t ∧ t < 2147483629, ?_, ?_⟩
    · refine ⟨_, rfl, a, _, 2, _, rfl, rfl, SqL.of hH, rfl, rfl, _, rfl, ?_⟩
      refine ite2 (fun e1 => ?_) (fun e1 => ?_)
      · refine ⟨_, rfl, a, _, 1, _, rfl, rfl, SqL.of hH, rfl, _, rfl, a, _, 0, _, rfl, rfl, SqL.of hH, rfl, c, _, rfl, .inl (SqL.of hC), _, _, rfl, rfl, _, rfl, ?_⟩
        refine ite2 (fun e2 => ?_) (fun e2 => ?_)
        · have e2 := of_decide_eq_true e2
          rw [List.length_map] at e2
          have hi : p.toNat < ns.length := by omega
          have hp : ((p.toNat : Nat) : Int) = p := by omega
          have hat : atI (ns.map V.int) p = some (.int ns[p.toNat]) := by
            have h := atI_nat (xs := ns.map V.int) (j := p.toNat) (v := .int ns[p.toNat]) (by rw [List.getElem?_map, List.getElem?_eq_getElem hi]; rfl)
            rw [hp] at h
            exact h
          have hcell : 0 ≤ ns[p.toNat] := hns _ (List.getElem_mem hi)
          generalize ns[p.toNat] = cell at hat hcell
          refine ⟨_, rfl, a, _, 0, _, rfl, rfl, SqL.of hH, rfl, _, rfl, a, _, 1, _, rfl, rfl, SqL.of hH, rfl, c, _, p, _, rfl, rfl, SqL.of hC, hat, ?_⟩
          refine ⟨_, rfl, a, _, 1, _, rfl, rfl, SqL.of hH, rfl, _, _, rfl, rfl, _, rfl, a, _, 1, 1, rfl, rfl, hH, rfl, ?_⟩
          have hH1 : (upd H a (.lst [.ref c, .int (p + 1), .int r, .int t])) a = some (.lst [.ref c, .int (p + 1), .int r, .int t]) := upd_same
          have hC1 : (upd H a (.lst [.ref c, .int (p + 1), .int r, .int t])) c = some (.lst (ns.map V.int)) := (upd_ne nca).trans hC
          have hU : ∀ b, b ≠ a → (upd H a (.lst [.ref c, .int (p + 1), .int r, .int t])) b = H b := fun b hb => upd_ne hb
          show tSeq _ _ _ _ (upd H a (.lst [.ref c, .int (p + 1), .int r, .int t]))
          generalize upd H a (.lst [.ref c, .int (p + 1), .int r, .int t]) = H1 at hH1 hC1 hU
          refine ⟨_, rfl, _, _, rfl, rfl, ⟨by decide, by decide, by decide⟩, _, _, rfl, rfl, _, rfl, ?_⟩
          refine ite2 (fun e3 => ?_) (fun e3 => ?_)
          · refine ⟨_, rfl, .inl ⟨_, rfl, _, _, rfl, rfl, (by show (0 : Int) < 2147483647; decide), _, rfl, a, _, 1, _, rfl, rfl, SqL.of hH1, rfl, _, _, rfl, by omega, by omega, by omega, by omega, fun z => .inl ⟨_, rfl, _, rfl, _, _, rfl, rfl, m0, ?_⟩⟩⟩
            exact q _ _ (Int.emod_nonneg _ (by omega)) (Int.emod_lt_of_pos _ m0) ⟨p + 1, r, t, hH1, hC1, hl, hns, by omega, by omega, r0, t0, t1⟩ hU
          · refine ⟨_, rfl, _, rfl, a, _, 2, 2, rfl, rfl, hH1, rfl, ?_⟩
            exact ⟨_, p + 1, cell, t, rfl, upd_same, (upd_ne nca).trans hC1, fun b hb => (upd_ne hb).trans (hU b hb), by omega, by omega, hcell, t0, t1⟩
        · exact ⟨_, p, r, t, rfl, hH, hC, fun _ _ => rfl, p0, p1, r0, t0, t1⟩
      · exact ⟨_, p, r, t, rfl, hH, hC, fun _ _ => rfl, p0, p1, r0, t0, t1⟩
    · clear hH hC p0 p1 r0 t0 t1 p r t
      rintro σ' H1 ⟨v2, p, r, t, rfl, hH, hC, hU, p0, p1, r0, t0, t1⟩
      refine ⟨_, rfl, a, _, 2, _, rfl, rfl, SqL.of hH, rfl, _, _, rfl, rfl, _, rfl, ?_⟩
      refine ite2 (fun e1 => ?_) (fun e1 => ?_)
      · refine ⟨_, rfl, a, _, 2, _, rfl, rfl, SqL.of hH, rfl, ?_⟩
        refine ⟨_, rfl, _, rfl, _, _, rfl, rfl, wide_div m0 m1 (by decide) (by decide), _, rfl, a, _, 2, 2, rfl, rfl, hH, rfl, ?_⟩
        refine ⟨_, rfl, .inl ⟨_, rfl, _, rfl, _, _, rfl, rfl, m0, ?_⟩⟩
        exact q _ _ (Int.emod_nonneg _ (by omega)) (Int.emod_lt_of_pos _ m0) ⟨p, r / many, t, upd_same, (upd_ne nca).trans hC, hl, hns, p0, p1, Int.ediv_nonneg r0 (by omega), t0, t1⟩ fun b hb => (upd_ne hb).trans (hU b hb)
      · refine ⟨_, rfl, a, _, 3, _, rfl, rfl, SqL.of hH, rfl, _, _, rfl, rfl, .inl ⟨_, rfl, _, _, rfl, rfl, (by show (0 : Int) < 2147483629; decide), _, rfl, a, _, 3, 3, rfl, rfl, hH, rfl, ?_⟩⟩
        have hH1 : (upd H1 a (.lst [.ref c, .int p, .int r, .int ((t + 1) % 2147483629)])) a = some (.lst [.ref c, .int p, .int r, .int ((t + 1) % 2147483629)]) := upd_same
        have hC1 : (upd H1 a (.lst [.ref c, .int p, .int r, .int ((t + 1) % 2147483629)])) c = some (.lst (ns.map V.int)) := (upd_ne nca).trans hC
        refine ⟨_, rfl, a, _, 3, _, rfl, rfl, SqL.of hH1, rfl, _, rfl, a, _, 1, _, rfl, rfl, SqL.of hH1, rfl, _, _, rfl, by omega, by omega, by omega, by omega, fun z => .inl ⟨_, rfl, _, rfl, _, _, rfl, rfl, m0, ?_⟩⟩
        exact q _ _ (Int.emod_nonneg _ (by omega)) (Int.emod_lt_of_pos _ m0) ⟨p, r, (t + 1) % 2147483629, hH1, hC1, hl, hns, by omega, by omega, r0, by omega, by omega⟩ fun b hb => (upd_ne hb).trans (hU b hb)

abbrev s_hand : Stmt := topS 22
abbrev N_hand : List Str := ["script", "total", "k", "cell"]
theorem sc_hand : FnScope N_hand ["script"] (defScope s_hand) := ⟨rfl, rfl, rfl, by decide +kernel, rfl, by decide +kernel, by decide +kernel⟩
theorem ok_hand {f : Addr} {fd : FuncData} (F : Fun K "_law_hand" "_law_hand" s_hand f fd) (T : Bl mg) : FnOk P w K mg base CX0 1 f fd ["script"] (spHand K) := by
  refine F.ok sc_hand (fun vs H Q E h => ?_) (fun cdv A outer s H vs Q E hr h => ?_)
  · obtain ⟨a, ns, rfl, _⟩ := h
    rfl
  · obtain ⟨a, ns, rfl, hS, hl, q⟩ := h
    refine ⟨_, (pss_cons (ps_set (i := 1) sc_hand.nd rfl (Or.inl rfl) pe_int)
    (pss_cons (ps_for PassesOwn.never rfl (pi_enum (by rfl) T.b_enumerate (pa_cons (pv 0) pa_nil)) (pg_tup rfl (pgs_cons (pg_name (i := 2) sc_hand.nd rfl (Or.inl rfl)) (pgs_cons (pg_name (i := 3) sc_hand.nd rfl (Or.inl rfl)) pgs_nil))) (pss_one (ps_set (i := 1) sc_hand.nd rfl (Or.inl rfl) (pe_op op_mod (pe_callTy call_int1 (by rfl) T.b_int (by decide +kernel) (pa_cons (pe_op op_add (pe_op op_mul (pv 1) pe_int) (pe_op op_mul (pe_callTy call_int1 (by rfl) T.b_int (by decide +kernel) (pa_cons (pv 3) pa_nil)) (pe_op op_add (pv 2) pe_int))) pa_nil)) pe_int))))
    (pss_one (ps_ret (pe_lst (pa_cons (pe_lc (own := [("cell", 3)]) (g := gName 3) rfl sc_hand.nd (pi_list (pv 0)) (blkOk_by (own := [("cell", 3)]) (N := N_hand) (sc := defScope s_hand) (by decide +kernel)) (fun _ _ _ _ _ => pg_name (i := 3) sc_hand.nd rfl (Or.inl rfl)) (fun _ _ _ _ _ => pts_nil) (fun _ _ _ _ _ => (pe_callB call_abs (by rfl) T.b_abs (by decide +kernel) (pa_cons (pe_callTy call_int1 (by rfl) T.b_int (by decide +kernel) (pa_cons (pv 3) pa_nil)) pa_nil)))) (pa_cons pe_int (pa_cons pe_int (pa_cons (pv 1) pa_nil))))))))), ?_⟩
    refine ⟨.ref a, rfl, a, _, rfl, hS, ?_⟩
    refine for_enum (fun i σ' H' => ∃ (t : Int) (v2 v3 : Option V), σ' = [some (.ref a), some (.int t), v2, v3] ∧ Same H H' ∧ 0 ≤ t ∧ t < 2147483629) ⟨0, none, none, rfl, Same.refl _, by decide, by decide⟩ (fun i σ' H' _ ⟨_, _, _, _, sm, _⟩ => sm.seq hS) ?_ ?_
    · rintro i x σ' H' T hx ⟨t, v2, v3, rfl, sm, t0, t1⟩ nT
      obtain ⟨n, rfl⟩ : ∃ n, x = V.int n := by
        rw [List.getElem?_map] at hx
        cases e : ns[i]? with
        | none =>
          rw [e] at hx
          cases hx
        | some u =>
          rw [e] at hx
          exact ⟨u, (Option.some.inj hx).symm⟩
      refine ⟨T, _, rfl, .inl (.inl upd_same), rfl, _, _, rfl, _, _, rfl, rfl, ?_⟩
      refine ⟨_, rfl, _, _, rfl, rfl, .inr (by decide), _, rfl, .inl ⟨_, rfl, _, rfl, _, _, rfl, rfl, _, _, rfl, rfl, .inr ⟨by have := (List.getElem?_eq_some_iff.mp hx).1; rw [List.length_map] at this; omega, by have := (List.getElem?_eq_some_iff.mp hx).1; rw [List.length_map] at this; omega⟩, _, _, rfl, rfl, .inl ⟨_, rfl, _, _, rfl, rfl, (by show (0 : Int) < 2147483629; decide), ?_⟩⟩⟩
      exact ⟨_, _, _, rfl, sm.trans (same_new nT), Int.emod_nonneg _ (by decide), Int.emod_lt_of_pos _ (by decide)⟩
    · rintro σ' H1 ⟨t, v2, v3, rfl, sm, t0, t1⟩
      refine ⟨_, rfl, a, rfl, ⟨_, sm.seq hS⟩, fun D hD => ?_⟩
      refine lc_list (K := K) (xs := ns.map V.int) (fun i H' => Same H1 H' ∧ H' D = some (.lst (((ns.take i).map fun n => if n < 0 then -n else n).map V.int))) ⟨same_new hD, upd_same⟩ (fun i H' _ p => p.1.seq (sm.seq hS)) ?_ ?_
      · rintro i x H' hx ⟨sm', hd⟩
        obtain ⟨n, rfl, hn⟩ : ∃ n, x = V.int n ∧ ns[i]? = some n := by
          rw [List.getElem?_map] at hx
          cases e : ns[i]? with
          | none =>
            rw [e] at hx
            cases hx
          | some u =>
            rw [e] at hx
            exact ⟨u, (Option.some.inj hx).symm, rfl⟩
        have hlt : i < ns.length := (List.getElem?_eq_some_iff.mp hn).1
        refine ⟨rfl, yes_turn ?_⟩
        refine ⟨_, rfl, .inl ⟨_, rfl, _, rfl, _, hd, ?_, ?_, ?_⟩⟩
        · rw [List.length_map, List.length_map, List.length_take]
          exact Nat.lt_of_le_of_lt (Nat.min_le_left _ _) (small1000 (by omega))
        · exact fun b x e => by
            rw [upd_ne (ne_of_none e hD)]
            exact sm' _ _ e
        · rw [upd_same, List.take_add_one, hn, List.map_append, List.map_append]
          rfl
      · rintro H2 ⟨sm', hd⟩
        have hnot : (ns.map V.int).length = ns.length := List.length_map ..
        rw [hnot, List.take_length] at hd
        refine ⟨_, rfl, by show 4 ≤ sizeLine; decide, fun h hh => ?_⟩
        have nDh : D ≠ h := ne_of_none hd hh
        refine q _ h D (ns.map fun n => if n < 0 then -n else n) ?_ ?_ ?_ ⟨0, 0, t, upd_same, (upd_ne nDh).trans hd, by rw [List.length_map]; exact hl, ?_, by decide, by decide, by decide, t0, t1⟩
        · exact (sm.trans sm').trans (same_new hh)
        · exact sm.free (sm'.free hh)
        · exact sm.free hD
        · intro n hn
          obtain ⟨m, _, rfl⟩ := List.mem_map.mp hn
          split <;> omega

abbrev s_Lratio : Stmt := topS 24
abbrev N_Lratio : List Str := ["top", "bottom", "one", "other"]
theorem sc_Lratio : FnScope N_Lratio ["top", "bottom"] (defScope s_Lratio) := ⟨rfl, rfl, rfl, by decide +kernel, rfl, by decide +kernel, by decide +kernel⟩
theorem ok_Lratio {f : Addr} {fd : FuncData} (F : Fun K "_law_ratio" "_law_ratio" s_Lratio f fd) (T : Bl mg) : FnOk P w K mg base CX0 1 f fd ["top", "bottom"] (spD K 2 fLowest) := by
  refine F.ok sc_Lratio (fun vs H Q E h => ?_) (fun cdv A outer s H vs Q E hr h => ?_)
  · obtain ⟨ds, d, hl, hd, _⟩ := h
    exact (dps_len hd).trans hl
  · obtain ⟨ds, d, hl, hd, hf, k⟩ := h
    obtain ⟨t, b, rfl, b0, bb, rfl⟩ := hf
    obtain ⟨v_top, vs, rfl, h_top, hd⟩ := dps_cons hd
    obtain ⟨v_bottom, vs, rfl, h_bottom, hd⟩ := dps_cons hd
    obtain rfl := dps_nil hd
    cases h_top
    cases h_bottom
    refine ⟨_, Evl.pss_cut (ps_if (pt_cmpR op_lt (pv 1) pe_int (nomark _)) (pss_cons (ps_set (i := 0) sc_Lratio.nd rfl (Or.inl rfl) (pe_un un_neg (pv 0))) (pss_one (ps_set (i := 1) sc_Lratio.nd rfl (Or.inl rfl) (pe_un un_neg (pv 1))))) pss_nil)
      (pss_cons (ps_set (i := 2) sc_Lratio.nd rfl (Or.inl rfl) (pe_callB call_abs (by rfl) T.b_abs (by decide +kernel) (pa_cons (pv 0) pa_nil)))
      (pss_cons (ps_set (i := 3) sc_Lratio.nd rfl (Or.inl rfl) (pv 1))
      (pss_cons (ps_while PassesOwn.never (pt_truth (pv 2) (fun _ => rfl)) (pss_one (ps_par (i := 2) (j := 3) rfl sc_Lratio.nd rfl rfl (by decide) rfl rfl (pa_cons (pe_op op_mod (pe_callTy call_int1 (by rfl) T.b_int (by decide +kernel) (pa_cons (pv 3) pa_nil)) (pv 2)) (pa_cons (pv 2) pa_nil)) (by rfl))))
      (pss_one (ps_ret (pe_tup (pa_cons (pe_op op_fdivA (pv 0) (pv 3)) (pa_cons (pe_op op_fdivA (pv 1) (pv 3)) pa_nil)))))))), ?_⟩
    refine ⟨fun σ' H' => σ' = [some (.int (if b < 0 then -t else t)), some (.int (if b < 0 then -b else b)), none, none] ∧ H' = H, ?_, ?_⟩
    · refine ⟨_, rfl, _, _, rfl, rfl, _, rfl, ?_⟩
      refine ite2 (fun c => ?_) (fun c => ?_)
      · have c' := of_decide_eq_true c
        refine ⟨_, rfl, _, rfl, _, rfl, _, rfl, ?_, rfl⟩
        rw [if_pos c', if_pos c']
        rfl
      · have c' : ¬ b < 0 := fun z => c (decide_eq_true z)
        refine ⟨?_, rfl⟩
        rw [if_neg c', if_neg c']
        rfl
    · rintro σ' H' ⟨rfl, rfl⟩
      have hb : 0 < (if b < 0 then -b else b) := by split <;> omega
      have hg : Nat.gcd (if b < 0 then -t else t).natAbs (if b < 0 then -b else b).natAbs = Nat.gcd t.natAbs b.natAbs := by
        split <;> simp
      have hlow : lowest t b = rat ((if b < 0 then -t else t) / (Nat.gcd t.natAbs b.natAbs : Nat)) ((if b < 0 then -b else b) / (Nat.gcd t.natAbs b.natAbs : Nat)) := by
        show rat (lowP t b) (lowQ t b) = _
        unfold lowP lowQ
        by_cases c : b < 0
        · simp only [if_pos c]
        · simp only [if_neg c]
      have hbb : (if b < 0 then -b else b).natAbs < 2 ^ 4000 := by
        split
        · rw [Int.natAbs_neg]
          exact bb
        · exact bb
      rw [hlow] at k
      rw [← hg] at k
      generalize (if b < 0 then -t else t) = t' at k
      generalize (if b < 0 then -b else b) = b' at k hb hbb
      clear hg hlow b0 bb
      have ha : (if t' < 0 then -t' else t') = (t'.natAbs : Int) := by split <;> omega
      refine x_set (v := .int (t'.natAbs : Int)) (fun Q q => ⟨_, rfl, t', rfl, by rw [ha]; exact q⟩) ?_
      refine x_set (v := .int b') (fun Q q => ⟨_, rfl, q⟩) ?_
      show tSeq (tWhile _ _) _ _ [some (.int t'), some (.int b'), some (.int (t'.natAbs : Int)), some (.int b')] _
      refine z_while (fun σ' H1 => H1 = H' ∧ ∃ x y : Nat, σ' = [some (.int t'), some (.int b'), some (.int x), some (.int y)] ∧ 0 < y ∧ Nat.gcd x y = Nat.gcd t'.natAbs b'.natAbs) (fun σ' _ => match σ' with | [_, _, some (.int x), _] => x.toNat | _ => 0) ?_ ?_ ?_
      · have hy : b' = ((b'.toNat : Nat) : Int) := by omega
        refine ⟨rfl, t'.natAbs, b'.toNat, ?_, by omega, ?_⟩
        · show [some (V.int t'), some (V.int b'), some (V.int (t'.natAbs : Int)), some (V.int b')] = _
          rw [← hy]
        · have : b'.toNat = b'.natAbs := by omega
          rw [this]
      · rintro σ' H1 ⟨rfl, x, y, rfl, hy, hgc⟩
        refine ⟨_, rfl, _, rfl, ?_⟩
        by_cases hx : x = 0
        · subst hx
          refine iteF ?_
          have hgy : y = Nat.gcd t'.natAbs b'.natAbs := by
            rw [← hgc, Nat.gcd_zero_left]
          have hyb : y ≤ b'.natAbs := by
            rw [hgy]
            exact Nat.gcd_le_right _ (by omega)
          have hdiv : ∀ i : Int, CDivA i ((y : Nat) : Int) := fun i => div_ok (n := 4000) (by omega) (Nat.lt_of_le_of_lt hyb hbb)
          refine ⟨_, rfl, _, rfl, _, _, rfl, rfl, hdiv _, _, rfl, _, rfl, _, _, rfl, rfl, hdiv _, by show 2 ≤ sizeLine; decide, fun p hp => ?_⟩
          refine k _ _ (Ex.new hp) (.tup (st_of upd_same) (.cons ?_ (.cons ?_ .nil)))
          · rw [← hgy, ← Int.fdiv_eq_ediv_of_nonneg _ (by omega)]
            exact .int _
          · rw [← hgy, ← Int.fdiv_eq_ediv_of_nonneg _ (by omega)]
            exact .int _
        · have hne : (((x : Nat) : Int) != 0) = true := by
            rw [bne_iff_ne]
            omega
          rw [hne]
          refine iteT ?_
          refine ⟨_, rfl, .inl ⟨_, rfl, _, rfl, _, _, rfl, rfl, (by show (0 : Int) < (x : Int); omega), _, rfl, _, _, rfl, ?_⟩⟩
          refine ⟨⟨rfl, y % x, x, ?_, by omega, ?_⟩, ?_⟩
          · show [some (V.int t'), some (V.int b'), some (V.int ((y : Int) % (x : Int))), some (V.int (x : Int))] = _
            rw [← Int.natCast_emod]
          · rw [← hgc, Nat.gcd_comm x y, ← Nat.gcd_rec, Nat.gcd_comm]
          · show ((y : Int) % (x : Int)).toNat < ((x : Nat) : Int).toNat
            rw [← Int.natCast_emod]
            exact Nat.mod_lt _ (by omega)
      · rintro σ' H1 Q1 Q2 hQ ⟨v, h1, kk, h2, h3⟩
        exact ⟨v, h1, kk, h2, hQ _ _ h3⟩

abbrev s_L_plus : Stmt := topS 25
abbrev N_L_plus : List Str := ["a", "b"]
theorem sc_L_plus : FnScope N_L_plus ["a", "b"] (defScope s_L_plus) := ⟨rfl, rfl, rfl, by decide +kernel, rfl, by decide +kernel, by decide +kernel⟩
theorem ok_L_plus {f : Addr} {fd : FuncData} (F : Fun K "_law_plus" "_law_plus" s_L_plus f fd) (T : Bl mg) (D_law_ratio : Def P w K mg base CX0 1 "_law_ratio" ["top", "bottom"] (spD K 2 fLowest)) : FnOk P w K mg base CX0 2 f fd ["a", "b"] (spD K 2 fPlusR) := by
  refine F.ok sc_L_plus (fun vs H Q E h => ?_) (fun cdv A outer s H vs Q E hr h => ?_)
  · obtain ⟨ds, d, hl, hd, _⟩ := h
    exact (dps_len hd).trans hl
  · obtain ⟨ds, d, hl, hd, hf, k⟩ := h
    obtain ⟨x, y, rfl, ⟨bxn, bxd⟩, ⟨byn, byd⟩, rfl⟩ := hf
    replace bxd : (x.den : Int).natAbs < 2 ^ B := bxd
    replace byd : (y.den : Int).natAbs < 2 ^ B := byd
    obtain ⟨v_a, vs, rfl, h_a, hd⟩ := dps_cons hd
    obtain ⟨v_b, vs, rfl, h_b, hd⟩ := dps_cons hd
    obtain rfl := dps_nil hd
    have ex : Ex H H := Ex.refl H
    refine ⟨_, (pss_one (ps_ret (pe_dcall D_law_ratio (hr.mono (by decide)) pass0 (pa_cons (pe_op op_add (pe_op op_mulW (pe_ix (r := rIxT K) ix_tup (pv 0) pe_int (fun _ _ => rfl)) (pe_ix (r := rIxT K) ix_tup (pv 1) pe_int (fun _ _ => rfl))) (pe_op op_mulW (pe_ix (r := rIxT K) ix_tup (pv 1) pe_int (fun _ _ => rfl)) (pe_ix (r := rIxT K) ix_tup (pv 0) pe_int (fun _ _ => rfl)))) (pa_cons (pe_op op_mulW (pe_ix (r := rIxT K) ix_tup (pv 0) pe_int (fun _ _ => rfl)) (pe_ix (r := rIxT K) ix_tup (pv 1) pe_int (fun _ _ => rfl))) pa_nil))))), ?_⟩
    refine z_ret (K := K) (σ := [some (v_a), some (v_b)]) (d_call (ds_cons (d_add (d_mul (d_ixT (d_var ⟨_, rfl, h_a⟩) d_int rfl) (d_ixT (d_var ⟨_, rfl, h_b⟩) d_int rfl) (wide_mul (by assumption) (by assumption) (by decide) (by decide) (by decide))) (d_mul (d_ixT (d_var ⟨_, rfl, h_b⟩) d_int rfl) (d_ixT (d_var ⟨_, rfl, h_a⟩) d_int rfl) (wide_mul (by assumption) (by assumption) (by decide) (by decide) (by decide)))) (ds_cons (d_mul (d_ixT (d_var ⟨_, rfl, h_a⟩) d_int rfl) (d_ixT (d_var ⟨_, rfl, h_b⟩) d_int rfl) (wide_mul (by assumption) (by assumption) (by decide) (by decide) (by decide))) ds_nil)) rfl ⟨_, _, rfl, den_mul x y, small_mul bxd byd, low_add x y⟩) fun v H1 e h => ?_
    replace ex := ex.trans e
    exact k v _ ex h

abbrev s_L_times : Stmt := topS 26
abbrev N_L_times : List Str := ["a", "b"]
theorem sc_L_times : FnScope N_L_times ["a", "b"] (defScope s_L_times) := ⟨rfl, rfl, rfl, by decide +kernel, rfl, by decide +kernel, by decide +kernel⟩
theorem ok_L_times {f : Addr} {fd : FuncData} (F : Fun K "_law_times" "_law_times" s_L_times f fd) (T : Bl mg) (D_law_ratio : Def P w K mg base CX0 1 "_law_ratio" ["top", "bottom"] (spD K 2 fLowest)) : FnOk P w K mg base CX0 2 f fd ["a", "b"] (spD K 2 fTimesR) := by
  refine F.ok sc_L_times (fun vs H Q E h => ?_) (fun cdv A outer s H vs Q E hr h => ?_)
  · obtain ⟨ds, d, hl, hd, _⟩ := h
    exact (dps_len hd).trans hl
  · obtain ⟨ds, d, hl, hd, hf, k⟩ := h
    obtain ⟨x, y, rfl, ⟨bxn, bxd⟩, ⟨byn, byd⟩, rfl⟩ := hf
    replace bxd : (x.den : Int).natAbs < 2 ^ B := bxd
    replace byd : (y.den : Int).natAbs < 2 ^ B := byd
    obtain ⟨v_a, vs, rfl, h_a, hd⟩ := dps_cons hd
    obtain ⟨v_b, vs, rfl, h_b, hd⟩ := dps_cons hd
    obtain rfl := dps_nil hd
    have ex : Ex H H := Ex.refl H
    refine ⟨_, (pss_one (ps_ret (pe_dcall D_law_ratio (hr.mono (by decide)) pass0 (pa_cons (pe_op op_mulW (pe_ix (r := rIxT K) ix_tup (pv 0) pe_int (fun _ _ => rfl)) (pe_ix (r := rIxT K) ix_tup (pv 1) pe_int (fun _ _ => rfl))) (pa_cons (pe_op op_mulW (pe_ix (r := rIxT K) ix_tup (pv 0) pe_int (fun _ _ => rfl)) (pe_ix (r := rIxT K) ix_tup (pv 1) pe_int (fun _ _ => rfl))) pa_nil))))), ?_⟩
    refine z_ret (K := K) (σ := [some (v_a), some (v_b)]) (d_call (ds_cons (d_mul (d_ixT (d_var ⟨_, rfl, h_a⟩) d_int rfl) (d_ixT (d_var ⟨_, rfl, h_b⟩) d_int rfl) (wide_mul (by assumption) (by assumption) (by decide) (by decide) (by decide))) (ds_cons (d_mul (d_ixT (d_var ⟨_, rfl, h_a⟩) d_int rfl) (d_ixT (d_var ⟨_, rfl, h_b⟩) d_int rfl) (wide_mul (by assumption) (by assumption) (by decide) (by decide) (by decide))) ds_nil)) rfl ⟨_, _, rfl, den_mul x y, small_mul bxd byd, low_mul x y⟩) fun v H1 e h => ?_
    replace ex := ex.trans e
    exact k v _ ex h

abbrev s_L_less : Stmt := topS 27
abbrev N_L_less : List Str := ["a", "b"]
theorem sc_L_less : FnScope N_L_less ["a", "b"] (defScope s_L_less) := ⟨rfl, rfl, rfl, by decide +kernel, rfl, by decide +kernel, by decide +kernel⟩
theorem ok_L_less {f : Addr} {fd : FuncData} (F : Fun K "_law_less" "_law_less" s_L_less f fd) (T : Bl mg)  : FnOk P w K mg base CX0 1 f fd ["a", "b"] (spD K 2 fLessR) := by
  refine F.ok sc_L_less (fun vs H Q E h => ?_) (fun cdv A outer s H vs Q E hr h => ?_)
  · obtain ⟨ds, d, hl, hd, _⟩ := h
    exact (dps_len hd).trans hl
  · obtain ⟨ds, d, hl, hd, hf, k⟩ := h
    obtain ⟨x, y, rfl, ⟨bxn, bxd⟩, ⟨byn, byd⟩, rfl⟩ := hf
    replace bxd : (x.den : Int).natAbs < 2 ^ B := bxd
    replace byd : (y.den : Int).natAbs < 2 ^ B := byd
    obtain ⟨v_a, vs, rfl, h_a, hd⟩ := dps_cons hd
    obtain ⟨v_b, vs, rfl, h_b, hd⟩ := dps_cons hd
    obtain rfl := dps_nil hd
    have ex : Ex H H := Ex.refl H
    refine ⟨_, (pss_one (ps_ret (pe_cmpR op_lt (pe_op op_mulW (pe_ix (r := rIxT K) ix_tup (pv 0) pe_int (fun _ _ => rfl)) (pe_ix (r := rIxT K) ix_tup (pv 1) pe_int (fun _ _ => rfl))) (pe_op op_mulW (pe_ix (r := rIxT K) ix_tup (pv 1) pe_int (fun _ _ => rfl)) (pe_ix (r := rIxT K) ix_tup (pv 0) pe_int (fun _ _ => rfl))) (nomark _)))), ?_⟩
    refine z_ret (K := K) (σ := [some (v_a), some (v_b)]) (d_lt (d_mul (d_ixT (d_var ⟨_, rfl, h_a⟩) d_int rfl) (d_ixT (d_var ⟨_, rfl, h_b⟩) d_int rfl) (wide_mul (by assumption) (by assumption) (by decide) (by decide) (by decide))) (d_mul (d_ixT (d_var ⟨_, rfl, h_b⟩) d_int rfl) (d_ixT (d_var ⟨_, rfl, h_a⟩) d_int rfl) (wide_mul (by assumption) (by assumption) (by decide) (by decide) (by decide)))) fun v H1 e h => ?_
    replace ex := ex.trans e
    rw [less_iff] at k
    exact k v _ ex h

abbrev s_L_size : Stmt := topS 28
abbrev N_L_size : List Str := ["a"]
theorem sc_L_size : FnScope N_L_size ["a"] (defScope s_L_size) := ⟨rfl, rfl, rfl, by decide +kernel, rfl, by decide +kernel, by decide +kernel⟩
theorem ok_L_size {f : Addr} {fd : FuncData} (F : Fun K "_law_size" "_law_size" s_L_size f fd) (T : Bl mg)  : FnOk P w K mg base CX0 1 f fd ["a"] (spD K 1 fSize) := by
  refine F.ok sc_L_size (fun vs H Q E h => ?_) (fun cdv A outer s H vs Q E hr h => ?_)
  · obtain ⟨ds, d, hl, hd, _⟩ := h
    exact (dps_len hd).trans hl
  · obtain ⟨ds, d, hl, hd, hf, k⟩ := h
    obtain ⟨p, q, rfl, rfl⟩ := hf
    obtain ⟨v_a, vs, rfl, h_a, hd⟩ := dps_cons hd
    obtain rfl := dps_nil hd
    have ex : Ex H H := Ex.refl H
    refine ⟨_, (pss_one (ps_ret (pe_tup (pa_cons (pe_callB call_abs (by rfl) T.b_abs (by decide +kernel) (pa_cons (pe_ix (r := rIxT K) ix_tup (pv 0) pe_int (fun _ _ => rfl)) pa_nil)) (pa_cons (pe_ix (r := rIxT K) ix_tup (pv 0) pe_int (fun _ _ => rfl)) pa_nil))))), ?_⟩
    refine z_ret (K := K) (σ := [some (v_a)]) (d_tup (ds_cons (d_abs (d_ixT (d_var ⟨_, rfl, h_a⟩) d_int rfl)) (ds_cons (d_ixT (d_var ⟨_, rfl, h_a⟩) d_int rfl) ds_nil)) (by show 2 ≤ 1000; decide)) fun v H1 e h => ?_
    replace ex := ex.trans e
    exact k v _ ex h

abbrev s_L_same : Stmt := topS 32
abbrev N_L_same : List Str := ["told", "due", "k"]
theorem sc_L_same : FnScope N_L_same ["told", "due"] (defScope s_L_same) := ⟨rfl, rfl, rfl, by decide +kernel, rfl, by decide +kernel, by decide +kernel⟩

theorem ok_L_same1 {n : Nat} {f : Addr} {fd : FuncData} (F : Fun K "_law_same" "_law_same" s_L_same f fd) (T : Bl mg) (D_law_same : Def P w K mg base CX0 n "_law_same" ["told", "due"] (spD K 2 (fSame n))) : FnOk P w K mg base CX0 (n + 1) f fd ["told", "due"] (spD K 2 (fSame (n + 1))) := by
  refine F.ok sc_L_same (fun vs H Q E h => ?_) (fun cdv A outer s H vs Q E hr h => ?_)
  · obtain ⟨ds, d, hl, hd, _⟩ := h
    exact (dps_len hd).trans hl
  · obtain ⟨ds, d, hl, hd, hf, k⟩ := h
    obtain ⟨a, b, rfl, hdep, rfl⟩ := hf
    obtain ⟨v_told, vs, rfl, h_told, hd⟩ := dps_cons hd
    obtain ⟨v_due, vs, rfl, h_due, hd⟩ := dps_cons hd
    obtain rfl := dps_nil hd
    refine ⟨_, (pss_cons (ps_if (pt_val (pe_callB call_isi (by rfl) T.b_isinstance (by decide +kernel) (pa_cons (pv 1) (pa_cons (pe_bltn (v := .ty "tuple") (by rfl) T.b_tuple (by decide +kernel) rfl) pa_nil)))) (pss_one (ps_ret (pe_and (pe_callB call_isi (by rfl) T.b_isinstance (by decide +kernel) (pa_cons (pv 0) (pa_cons (pe_bltn (v := .ty "tuple") (by rfl) T.b_tuple (by decide +kernel) rfl) pa_nil))) (pe_and (pe_cmpR op_eq (pe_callB call_len_seq (by rfl) T.b_len (by decide +kernel) (pa_cons (pv 0) pa_nil)) (pe_callB call_len_seq (by rfl) T.b_len (by decide +kernel) (pa_cons (pv 1) pa_nil)) (nomark _)) (pe_one (pe_callB (cr_all rfl) (by rfl) T.b_all (by decide +kernel) (pa_cons (pe_lc (own := [("k", 2)]) (g := gName 2) rfl sc_L_same.nd (pi_range1 rfl T.b_range (pa_cons (pe_callB call_len_seq (by rfl) T.b_len (by decide +kernel) (pa_cons (pv 1) pa_nil)) pa_nil)) (blkOk_by (own := [("k", 2)]) (N := N_L_same) (sc := defScope s_L_same) (by decide +kernel)) (fun _ _ _ _ _ => pg_name (i := 2) sc_L_same.nd rfl (Or.inl rfl)) (fun _ _ _ _ _ => pts_nil) (fun _ _ _ _ _ => (pe_dcall D_law_same (hr.mono (Nat.le_refl _)) pass0 (pa_cons (pe_ix (r := rIxT K) ix_tup (pv 0) (pv 2) (fun _ _ => rfl)) (pa_cons (pe_ix (r := rIxT K) ix_tup (pv 1) (pv 2) (fun _ _ => rfl)) pa_nil))))) pa_nil))))))) pss_nil)
    (pss_cons (ps_if (PW.pt (pw_or (pt_val (pe_callB call_isi (by rfl) T.b_isinstance (by decide +kernel) (pa_cons (pv 1) (pa_cons (pe_bltn (v := .ty "bool") (by rfl) T.b_bool (by decide +kernel) rfl) pa_nil)))) (pw_or1 (pt_val (pe_callB call_isi (by rfl) T.b_isinstance (by decide +kernel) (pa_cons (pv 0) (pa_cons (pe_bltn (v := .ty "bool") (by rfl) T.b_bool (by decide +kernel) rfl) pa_nil))))))) (pss_one (ps_ret (pe_and (pe_callB call_isi (by rfl) T.b_isinstance (by decide +kernel) (pa_cons (pv 1) (pa_cons (pe_bltn (v := .ty "bool") (by rfl) T.b_bool (by decide +kernel) rfl) pa_nil))) (pe_and (pe_callB call_isi (by rfl) T.b_isinstance (by decide +kernel) (pa_cons (pv 0) (pa_cons (pe_bltn (v := .ty "bool") (by rfl) T.b_bool (by decide +kernel) rfl) pa_nil))) (pe_one (pe_cmpR (op_eqD hr.units) (pv 0) (pv 1) (nomark _))))))) pss_nil)
    (pss_cons (ps_if (pt_val (pe_callB call_isi (by rfl) T.b_isinstance (by decide +kernel) (pa_cons (pv 1) (pa_cons (pe_bltn (v := .ty "int") (by rfl) T.b_int (by decide +kernel) rfl) pa_nil)))) (pss_one (ps_ret (pe_and (pe_callB call_isi (by rfl) T.b_isinstance (by decide +kernel) (pa_cons (pv 0) (pa_cons (pe_bltn (v := .ty "int") (by rfl) T.b_int (by decide +kernel) rfl) pa_nil))) (pe_one (pe_cmpR (op_eqD hr.units) (pv 0) (pv 1) (nomark _)))))) pss_nil)
    (pss_cons (ps_if (pt_val (pe_callB call_isi (by rfl) T.b_isinstance (by decide +kernel) (pa_cons (pv 1) (pa_cons (pe_bltn (v := .ty "str") (by rfl) T.b_str (by decide +kernel) rfl) pa_nil)))) (pss_one (ps_ret (pe_and (pe_callB call_isi (by rfl) T.b_isinstance (by decide +kernel) (pa_cons (pv 0) (pa_cons (pe_bltn (v := .ty "str") (by rfl) T.b_str (by decide +kernel) rfl) pa_nil))) (pe_one (pe_cmpR op_eq (pv 0) (pv 1) (nomark _)))))) pss_nil)
    (pss_one (ps_ret (pe_and (pe_cmpR op_isN (pv 0) pe_non (nomark _)) (pe_one (pe_cmpR op_isN (pv 1) pe_non (nomark _)))))))))), ?_⟩
    refine z_if (σ := [some v_told, some v_due, none]) (b_val (d_isi (d_var ⟨_, rfl, h_due⟩) (kit_tuple _))) (fun c H1 e => ?_) (fun c H1 e => z_next ?_)
    · have V0 : EvD K (tVar 0) [some v_told, some v_due, none] H1 a := d_var ⟨_, rfl, dp_grow e _ _ h_told⟩
      have V1 : EvD K (tVar 1) [some v_told, some v_due, none] H1 b := d_var ⟨_, rfl, dp_grow e _ _ h_due⟩
      have ev : sameN (n + 1) a b = (isTupD a && (lenSame a b && allI (sameN n) a b)) := if_pos c
      rw [ev] at k
      obtain ⟨ds, rfl⟩ := tup_of c
      refine z_ret (K := K) (σ := [some v_told, some v_due, none]) (d_and (d_isi V0 (kit_tuple _)) (fun c0 => d_and (b := allI (sameN n) a (.tuple ds)) (d_is (d := .bool (lenSame a (.tuple ds))) ?_ rfl) (fun c1 => ?_))) fun v H2 e2 h => k v _ (e.trans e2) h
      · obtain ⟨es, rfl⟩ := tup_of c0
        exact d_eqI (d_lenT V0) (d_lenT V1)
      · obtain ⟨es, rfl⟩ := tup_of c0
        have hl : es.length = ds.length := by
          have z := of_decide_eq_true c1
          omega
        refine d_allR (n := ds.length) (fun i => sameN n (es.getD i .none) (ds.getD i .none)) (ds_cons (d_lenT V1) ds_nil) (by have := hdep.1; omega) (fun _ => rfl) (fun i H2 e2 hi => ?_)
        have W0 : EvD K (tVar 0) [some v_told, some v_due, some (.int (i : Int))] H2 (.tuple es) := d_var ⟨_, rfl, dp_grow (e.trans e2) _ _ h_told⟩
        have W1 : EvD K (tVar 1) [some v_told, some v_due, some (.int (i : Int))] H2 (.tuple ds) := d_var ⟨_, rfl, dp_grow (e.trans e2) _ _ h_due⟩
        have W2 : EvD K (tVar 2) [some v_told, some v_due, some (.int (i : Int))] H2 (.int (i : Int)) := d_var ⟨_, rfl, .int _⟩
        exact d_call (ds_cons (d_ixT W0 W2 (atI_nat (by omega))) (ds_cons (d_ixT W1 W2 (atI_nat hi)) ds_nil)) rfl ⟨_, _, rfl, hdep.2 i hi, rfl⟩
    have V0 : EvD K (tVar 0) [some v_told, some v_due, none] H1 a := d_var ⟨_, rfl, dp_grow e _ _ h_told⟩
    have V1 : EvD K (tVar 1) [some v_told, some v_due, none] H1 b := d_var ⟨_, rfl, dp_grow e _ _ h_due⟩
    have nt : ¬ (isTupD b = true) := by rw [c]; decide
    have ev : sameN (n + 1) a b = (if (isBoolD b || isBoolD a) = true then (isBoolD b && (isBoolD a && PyData.eqv a b)) else if isIntD b = true then (isIntD a && PyData.eqv a b) else if isStrD b = true then (isStrD a && PyData.eqv a b) else (isNone a && isNone b)) := if_neg nt
    rw [ev] at k
    refine z_if (σ := [some v_told, some v_due, none]) (b_or (b_val (d_isi V1 (kit_bool _))) (fun _ => b_val (d_isi V0 (kit_bool _)))) (fun c2 H2 e2 => ?_) (fun c2 H2 e2 => z_next ?_)
    · rw [if_pos c2] at k
      exact z_ret (K := K) (d_and (d_isi (V1.mono e2) (kit_bool _)) (fun c3 => d_and (d_isi (V0.mono e2) (kit_bool _)) (fun c4 => eq_bools c3 c4 (V0.mono e2) (V1.mono e2)))) fun v H3 e3 h => k v _ ((e.trans e2).trans e3) h
    rw [if_neg (by rw [c2]; decide)] at k
    refine z_if (σ := [some v_told, some v_due, none]) (b_val (d_isi (V1.mono e2) (kit_int _))) (fun c3 H3 e3 => ?_) (fun c3 H3 e3 => z_next ?_)
    · rw [if_pos c3] at k
      exact z_ret (K := K) (d_and (d_isi (V0.mono (e2.trans e3)) (kit_int _)) (fun c4 => eq_ints c3 c4 (V0.mono (e2.trans e3)) (V1.mono (e2.trans e3)))) fun v H4 e4 h => k v _ (((e.trans e2).trans e3).trans e4) h
    rw [if_neg (by rw [c3]; decide)] at k
    refine z_if (σ := [some v_told, some v_due, none]) (b_val (d_isi (V1.mono (e2.trans e3)) (kit_str _))) (fun c4 H4 e4 => ?_) (fun c4 H4 e4 => z_next ?_)
    · rw [if_pos c4] at k
      exact z_ret (K := K) (d_and (d_isi (V0.mono ((e2.trans e3).trans e4)) (kit_str _)) (fun c5 => eq_strs c4 c5 (V0.mono ((e2.trans e3).trans e4)) (V1.mono ((e2.trans e3).trans e4)))) fun v H5 e5 h => k v _ ((((e.trans e2).trans e3).trans e4).trans e5) h
    rw [if_neg (by rw [c4]; decide)] at k
    exact z_ret (K := K) (d_and (d_isN (V0.mono ((e2.trans e3).trans e4))) (fun _ => d_isN (V1.mono ((e2.trans e3).trans e4)))) fun v H5 e5 h => k v _ ((((e.trans e2).trans e3).trans e4).trans e5) h
theorem def_L_same {f : Addr} {fd : FuncData} (F : Fun K "_law_same" "_law_same" s_L_same f fd) (T : Bl mg) (hm : mg "_law_same" = some (.ref f)) (kp : PySem.W.keepIn K (.ref f) = true) (hb : Binds K fd ["told", "due"] []) : ∀ n, Def P w K mg base CX0 n "_law_same" ["told", "due"] (spD K 2 (fSame n))
  | 0 => ⟨f, fd, ⟨fun vs H Q E h => by
      obtain ⟨ds, d, _, _, ⟨a, b, _, hd, _⟩, _⟩ := h
      exact hd.elim, fun A outer s H args us vs Q E _ _ _ _ h => by
      obtain ⟨ds, d, _, _, ⟨a, b, _, hd, _⟩, _⟩ := h
      exact hd.elim⟩, hm, kp, hb⟩
  | n + 1 => ⟨f, fd, ok_L_same1 F T (def_L_same F T hm kp hb n), hm, kp, hb⟩

end
end K33
namespace Dat
open PySem L2 Evl
def Few (ns : List Int) : Prop := ns.length ≤ 8 ∧ ∀ n ∈ ns, 1 ≤ n ∧ n ≤ 255
def prodI (ns : List Int) : Int := ns.foldl (· * ·) 1
theorem prod_next {ns : List Int} {i : Nat} {n : Int} (h : ns[i]? = some n) : prodI (ns.take (i + 1)) = prodI (ns.take i) * n := by
  unfold prodI
  rw [take_next h, List.foldl_append]
  rfl
theorem few_le {ns : List Int} (h : Few ns) : ∀ i, i ≤ ns.length → 1 ≤ prodI (ns.take i) ∧ prodI (ns.take i) ≤ 256 ^ i
  | 0, _ => by rw [List.take_zero]; exact ⟨by decide, by decide⟩
  | i + 1, hi => by
    obtain ⟨a, b⟩ := few_le h i (by omega)
    have e : ns[i]? = some ns[i] := List.getElem?_eq_getElem (by omega)
    obtain ⟨c, d⟩ := h.2 _ (List.getElem_mem (by omega : i < ns.length))
    rw [prod_next e, Int.pow_succ]
    refine ⟨Int.le_trans (by omega) (Int.mul_le_mul a c (by omega) (by omega)), Int.mul_le_mul b (by omega) (by omega) (Int.pow_nonneg (by decide))⟩
theorem few_bound {ns : List Int} (h : Few ns) (i : Nat) (hi : i ≤ ns.length) : (prodI (ns.take i)).natAbs < 2 ^ 70 := by
  obtain ⟨a, b⟩ := few_le h i hi
  have hl := h.1
  have c : (256 : Int) ^ i ≤ 256 ^ 8 := Int.ofNat_le.mpr (Nat.pow_le_pow_right (by decide) (by omega : i ≤ 8))
  have d : (256 : Int) ^ 8 < 2 ^ 70 := by decide
  have e : (2 : Int) ^ 70 = ((2 ^ 70 : Nat) : Int) := by decide
  generalize (256 : Int) ^ 8 = z at *
  omega
theorem few_all {ns : List Int} (h : Few ns) : 1 ≤ prodI ns ∧ (prodI ns).natAbs < 2 ^ 70 := by
  have a := few_le h ns.length (Nat.le_refl _)
  have b := few_bound h ns.length (Nat.le_refl _)
  rw [List.take_length] at a b
  exact ⟨a.1, b⟩
theorem few_mul {ns : List Int} (h : Few ns) {i : Nat} {n : Int} (e : ns[i]? = some n) : CMulW (prodI (ns.take i)) n := by
  have hi := (List.getElem?_eq_some_iff.mp e).1
  have := h.2 n (List.mem_of_getElem? e)
  exact wide_mul (few_bound h i (by omega)) (show n.natAbs < 2 ^ 10 by omega) (by decide) (by decide) (by decide)
theorem at_map {ns : List Int} {i : Nat} {d : PyData} (h : (ns.map PyData.int)[i]? = some d) : ∃ n, d = .int n ∧ ns[i]? = some n := by
  rw [List.getElem?_map] at h
  obtain ⟨n, e, rfl⟩ := Option.map_eq_some_iff.mp h
  exact ⟨n, rfl, e⟩
def CountsAt (c : PyData) (m : Nat) (ns : List Int) : Prop := ∃ (b0 b : Bool) (rows : List PyData), c = sq b0 rows ∧ rows[m]? = some (sq b (ns.map PyData.int)) ∧ Few ns
def fProd (ds : List PyData) (d : PyData) : Prop := ∃ (b : Bool) (ns : List Int), ds = [sq b (ns.map PyData.int)] ∧ Few ns ∧ d = .int (prodI ns)
def fCount (ds : List PyData) (d : PyData) : Prop := ∃ (c : PyData) (m : Nat) (ns : List Int), ds = [c, .int (m : Int)] ∧ CountsAt c m ns ∧ d = .int (prodI ns)
def fFind (ds : List PyData) (d : PyData) : Prop := ∃ (c : PyData) (m : Nat) (ns : List Int) (h x : Rat), ds = [c, .int (m : Int), ratR h, ratR x] ∧ CountsAt c m ns ∧ Sz 300 h ∧ Sz 300 x ∧ 0 ≤ h ∧ d = .int (cellR (prodI ns) h x)
def midQ (N j : Int) : Rat := ((2 * j + 1 - N : Int) : Rat) / (N : Rat)
def fMidPart (ds : List PyData) (d : PyData) : Prop := ∃ (c : PyData) (m : Nat) (ns : List Int) (j : Int), ds = [c, .int (m : Int), .int j] ∧ CountsAt c m ns ∧ j.natAbs < 2 ^ 70 ∧ d = ratR (midQ (prodI ns) j)
def fMid (ds : List PyData) (d : PyData) : Prop := ∃ (c : PyData) (m : Nat) (ns : List Int) (h : Rat) (j : Int), ds = [c, .int (m : Int), ratR h, .int j] ∧ CountsAt c m ns ∧ Sz 300 h ∧ j.natAbs < 2 ^ 70 ∧ d = ratR (h * midQ (prodI ns) j)
def fThr (ds : List PyData) (d : PyData) : Prop := ∃ (N : Int) (h : Rat) (c : Int), ds = [.int N, ratR h, .int c] ∧ 0 < N ∧ N.natAbs < 2 ^ 70 ∧ c.natAbs < 2 ^ 70 ∧ Sz 300 h ∧ d = ratR (thr N h c)
def fDue (ds : List PyData) (d : PyData) : Prop := ∃ (N : Int) (h x : Rat), ds = [.int N, ratR h, ratR x] ∧ 0 < N ∧ N ≤ 1000 ∧ Sz 300 h ∧ Sz 300 x ∧ 0 ≤ h ∧ d = .int (cellR N h x)
theorem div_sz {t b : Int} {a : Nat} (h0 : 0 < b) (h1 : t.natAbs < 2 ^ a) (h2 : b.natAbs < 2 ^ a) : Sz a ((t : Rat) / (b : Rat)) := by
  obtain ⟨z, e, hz⟩ := low_sz h0 h1 h2
  rw [lowest_div h0] at e
  rw [rat_ext e]
  exact hz
theorem sz_whole {n : Int} {a : Nat} (h : n.natAbs < 2 ^ a) (h1 : 0 < a) : Sz a (n : Rat) := ⟨h, by show 1 < 2 ^ a; exact Nat.one_lt_two_pow (by omega)⟩
theorem thr_sz {N c : Int} {h : Rat} (hN : 0 < N) (bN : N.natAbs < 2 ^ 70) (bc : c.natAbs < 2 ^ 70) (hs : Sz 300 h) : Sz 372 (thr N h c) := sz_mul hs (div_sz (a := 72) hN (by omega) (by omega))
theorem mid_sz {N j : Int} (hN : 0 < N) (bN : N.natAbs < 2 ^ 70) (bj : j.natAbs < 2 ^ 70) : Sz 72 (midQ N j) := div_sz (a := 72) hN (by omega) (by omega)
theorem at_any {K : PySem.W.Frag} {te tb : TE} {σ : L2.St} {H : Hp} {c : PyData} {m : Nat} {ns : List Int} (h : CountsAt c m ns) (e : EvD K te σ H c) (r : EvD K tb σ H (.int (m : Int))) :
    ∃ b, EvD K (tAlt (tOp (rIxT K) te tb) (tOp (rIxL K) te tb)) σ H (sq b (ns.map PyData.int)) := by
  obtain ⟨b0, b, rows, rfl, hr, _⟩ := h
  exact ⟨b, d_ixS e r (L2.atI_nat hr)⟩
end Dat
namespace K33
open PySem L2 Evl Dat
section
variable {P : Program} {w : World} {K : PySem.W.Frag} {mg : Str → Option Value} {base : Heap}
abbrev s_multiplied : Stmt := topS 15
abbrev N_multiplied : List Str := ["numbers", "product", "number"]
theorem sc_multiplied : FnScope N_multiplied ["numbers"] (defScope s_multiplied) := ⟨rfl, rfl, rfl, by decide +kernel, rfl, by decide +kernel, by decide +kernel⟩
theorem ok_multiplied {f : Addr} {fd : FuncData} (F : Fun K "multiplied" "multiplied" s_multiplied f fd) : FnOk P w K mg base CX0 1 f fd ["numbers"] (spD K 1 fProd) := by
  refine F.ok sc_multiplied (fun vs H Q E h => ?_) (fun cdv A outer s H vs Q E hr h => ?_)
  · obtain ⟨ds, d, hl, hd, _⟩ := h
    exact (dps_len hd).trans hl
  · obtain ⟨ds, d, hl, hd, hf, k⟩ := h
    obtain ⟨b, ns, rfl, few, rfl⟩ := hf
    obtain ⟨v, vs, rfl, hv, hd⟩ := dps_cons hd
    obtain rfl := dps_nil hd
    refine ⟨_, (pss_cons (ps_set (i := 1) sc_multiplied.nd rfl (Or.inl rfl) pe_int)
    (pss_cons (ps_for PassesOwn.never rfl (pi_alt (pi_list (pv 0)) (pi_tup (pv 0))) (pg_name (i := 2) sc_multiplied.nd rfl (Or.inl rfl)) (pss_one (ps_aug (i := 1) sc_multiplied.nd rfl (Or.inl rfl) (pv 2) ip_mulW)))
    (pss_one (ps_ret (pv 1))))), ?_⟩
    refine z_set (K := K) (σ := [some v, none, none]) d_int fun u H1 e1 hu => ?_
    cases hu
    refine z_forS (K := K) (b := b) (σ := [some v, some (.int 1), none]) (d_var ⟨_, rfl, dp_grow e1 _ _ hv⟩) (fun i σ' _ => ∃ o, σ' = [some v, some (.int (prodI (ns.take i))), o]) (fun _ _ => ⟨none, rfl⟩) (fun i d x σ' H' D' hd e pv hx _ kD => ?_) (fun σ' H' e pv => ?_)
    · obtain ⟨o, rfl⟩ := pv
      obtain ⟨n, rfl, hn⟩ := at_map hd
      cases hx
      refine z_mul1 (K := K) (σ := [some v, some (.int (prodI (ns.take i))), some (.int n)]) (i := 1) rfl (d_var (d := .int n) ⟨_, rfl, .int _⟩) (few_mul few hn) fun H3 e3 => ?_
      exact kD _ _ e3 ⟨_, by rw [prod_next hn]; rfl⟩
    · obtain ⟨o, rfl⟩ := pv
      rw [List.length_map, List.take_length]
      exact z_ret (K := K) (σ := [some v, some (.int (prodI ns)), o]) (d_var ⟨_, rfl, .int _⟩) fun u H2 e2 hu => k u _ (e1.trans (e.trans e2)) hu
abbrev s_count_cells : Stmt := topS 14
abbrev N_count_cells : List Str := ["counts", "mode"]
theorem sc_count_cells : FnScope N_count_cells ["counts", "mode"] (defScope s_count_cells) := ⟨rfl, rfl, rfl, by decide +kernel, rfl, by decide +kernel, by decide +kernel⟩
theorem ok_count_cells {f : Addr} {fd : FuncData} (F : Fun K "count_cells" "count_cells" s_count_cells f fd) (D_multiplied : Def P w K mg base CX0 1 "multiplied" ["numbers"] (spD K 1 fProd)) : FnOk P w K mg base CX0 2 f fd ["counts", "mode"] (spD K 2 fCount) := by
  refine F.ok sc_count_cells (fun vs H Q E h => ?_) (fun cdv A outer s H vs Q E hr h => ?_)
  · obtain ⟨ds, d, hl, hd, _⟩ := h
    exact (dps_len hd).trans hl
  · obtain ⟨ds, d, hl, hd, hf, k⟩ := h
    obtain ⟨c, m, ns, rfl, ca, rfl⟩ := hf
    obtain ⟨v1, vs, rfl, h1, hd⟩ := dps_cons hd
    obtain ⟨v2, vs, rfl, h2, hd⟩ := dps_cons hd
    obtain rfl := dps_nil hd
    refine ⟨_, (pss_one (ps_ret (pe_dcall D_multiplied (hr.mono (by decide)) pass0 (pa_cons (pe_alt (pe_ix (r := rIxT K) ix_tup (pv 0) (pv 1) (fun _ _ => rfl)) (pe_ix (r := rIxL K) ix_list (pv 0) (pv 1) (fun _ _ => rfl))) pa_nil)))), ?_⟩
    obtain ⟨b, ev⟩ := at_any (K := K) (te := tVar 0) (tb := tVar 1) (σ := [some v1, some v2]) (H := H) ca (d_var ⟨_, rfl, h1⟩) (d_var ⟨_, rfl, h2⟩)
    have few : Few ns := by obtain ⟨_, _, _, _, _, f⟩ := ca; exact f
    exact z_ret (K := K) (σ := [some v1, some v2]) (d_call (ds_cons ev ds_nil) rfl ⟨b, ns, rfl, few, rfl⟩) fun u H2 e2 hu => k u _ e2 hu
theorem counts_few {c : PyData} {m : Nat} {ns : List Int} (h : CountsAt c m ns) : Few ns := by
  obtain ⟨_, _, _, _, _, f⟩ := h
  exact f
abbrev s_find_cell : Stmt := topS 17
abbrev N_find_cell : List Str := ["counts", "mode", "half", "position", "last", "place"]
theorem sc_find_cell : FnScope N_find_cell ["counts", "mode", "half", "position"] (defScope s_find_cell) := ⟨rfl, rfl, rfl, by decide +kernel, rfl, by decide +kernel, by decide +kernel⟩
theorem ok_find_cell {f C : Addr} {fd : FuncData} (F : Fun K "find_cell" "find_cell" s_find_cell f fd) (T2 : Bl2 mg) (D_count_cells : Def P w K mg base CX0 2 "count_cells" ["counts", "mode"] (spD K 2 fCount))
    (D_over : DefV P w K mg base (L2.CX P w) 3 "over" ["one", "other"] [] (spOver K C)) (D_plus : Def P w K mg base CX0 2 "plus" ["one", "other"] (spD K 2 fPlusR)) (D_times : Def P w K mg base CX0 1 "times" ["one", "other"] (spD K 2 fTimesR)) (D_floor_of : Def P w K mg base CX0 1 "floor_of" ["one"] (spD K 1 fFloor)) :
    FnOk P w K mg base CX0 4 f fd ["counts", "mode", "half", "position"] (spD K 4 fFind) := by
  refine F.ok sc_find_cell (fun vs H Q E h => ?_) (fun cdv A outer s H vs Q E hr h => ?_)
  · obtain ⟨ds, d, hl, hd, _⟩ := h
    exact (dps_len hd).trans hl
  · obtain ⟨ds, d, hl, hd, hf, k⟩ := h
    obtain ⟨c, m, ns, h, x, rfl, ca, sh, sx, h0, rfl⟩ := hf
    obtain ⟨v1, vs, rfl, h1, hd⟩ := dps_cons hd
    obtain ⟨v2, vs, rfl, h2, hd⟩ := dps_cons hd
    obtain ⟨v3, vs, rfl, h3, hd⟩ := dps_cons hd
    obtain ⟨v4, vs, rfl, h4, hd⟩ := dps_cons hd
    obtain rfl := dps_nil hd
    refine ⟨_, (pss_cons (ps_set (i := 4) sc_find_cell.nd rfl (Or.inl rfl) (pe_op op_sub (pe_dcall D_count_cells (hr.mono (by decide)) pass0 (pa_cons (pv 0) (pa_cons (pv 1) pa_nil))) pe_int))
    (pss_cons (ps_if (pt_cmpR op_eq (pe_ix (r := rIxT K) ix_tup (pv 2) pe_int (fun _ _ => rfl)) pe_int (nomark _)) (pss_one (ps_ret (pe_ifExp (pt_cmpR op_ge (pe_ix (r := rIxT K) ix_tup (pv 3) pe_int (fun _ _ => rfl)) pe_int (nomark _)) (pv 4) pe_int))) pss_nil)
    (pss_cons (ps_set (i := 5) sc_find_cell.nd rfl (Or.inl rfl) (pe_dcallV D_over (hr.mono (by decide)) passL (pa_cons (pe_dcall D_times (hr.mono (by decide)) pass0 (pa_cons (pe_dcall D_plus (hr.mono (by decide)) pass0 (pa_cons (pv 3) (pa_cons (pv 2) pa_nil))) (pa_cons (pe_tup (pa_cons (pe_op op_add (pv 4) pe_int) (pa_cons pe_int pa_nil))) pa_nil))) (pa_cons (pe_dcall D_times (hr.mono (by decide)) pass0 (pa_cons (pe_tup (pa_cons pe_int (pa_cons pe_int pa_nil))) (pa_cons (pv 2) pa_nil))) pa_nil))))
    (pss_one (ps_ret (pe_callB (call_max2 rfl) (by rfl) T2.b_max (by decide +kernel) (pa_cons pe_int (pa_cons (pe_callB (call_min2 rfl) (by rfl) T2.b_min (by decide +kernel) (pa_cons (pv 4) (pa_cons (pe_dcall D_floor_of (hr.mono (by decide)) pass0 (pa_cons (pv 5) pa_nil)) pa_nil))) pa_nil)))))))), ?_⟩
    obtain ⟨N1, NB⟩ := few_all (counts_few ca)
    refine z_set (K := K) (σ := [some v1, some v2, some v3, some v4, none, none]) (d_sub (d_call (ds_cons (d_var ⟨_, rfl, h1⟩) (ds_cons (d_var ⟨_, rfl, h2⟩) ds_nil)) rfl ⟨c, m, ns, rfl, ca, rfl⟩) d_int) fun u H1 e1 hu => ?_
    cases hu
    generalize prodI ns = N at *
    replace h3 := dp_grow e1 _ _ h3
    replace h4 := dp_grow e1 _ _ h4
    refine z_if (σ := [some v1, some v2, some v3, some v4, some (.int (N - 1)), none]) (b_test (d_eqI (d_ixT (d_var ⟨_, rfl, h3⟩) d_int rfl) d_int)) (fun cz H2 e2 => ?_) (fun cz H2 e2 => ?_)
    · have z : h = 0 := Rat.num_eq_zero.mp (of_decide_eq_true cz)
      refine z_ret (K := K) (σ := [some v1, some v2, some v3, some v4, some (.int (N - 1)), none]) (d_ite (b_test (d_ge (d_ixT (d_var ⟨_, rfl, dp_grow e2 _ _ h4⟩) d_int rfl) d_int)) (fun _ => d_var (d := .int (N - 1)) ⟨_, rfl, .int _⟩) (fun _ => d_int)) fun u H3 e3 hu => k u _ (e1.trans (e2.trans e3)) ?_
      have e : (if decide (0 ≤ x.num) = true then PyData.int (N - 1) else .int 0) = .int (cellR N h x) := by
        unfold cellR cellAt
        rw [if_pos z]
        by_cases q : 0 ≤ x
        · rw [if_pos q, if_pos (decide_eq_true (Rat.num_nonneg.mpr q))]
        · rw [if_neg q, if_neg (by rw [decide_eq_true_eq]; exact mt Rat.num_nonneg.mp q)]
      rw [← e]
      exact hu
    · have z : ¬ h = 0 := fun q => of_decide_eq_false cz (Rat.num_eq_zero.mpr q)
      have hp : 0 < h := by grind
      have h2 : (0 : Rat) < 2 * h := Rat.mul_pos (by decide) hp
      refine z_nx ?_
      replace h3 := dp_grow e2 _ _ h3
      replace h4 := dp_grow e2 _ _ h4
      have sA : Sz 601 (x + h) := sz_add sx sh
      have sP : Sz 672 ((x + h) * (N : Rat)) := (sz_mul sA (sz_whole (a := 71) (by omega) (by decide))).mono (by decide)
      have sY : Sz 302 ((2 : Rat) * h) := sz_mul (n := 2) (show Sz 2 (2 : Rat) from ⟨by decide, by decide⟩) sh
      have y0 : ((2 : Rat) * h).num ≠ 0 := fun q => by
        have := Rat.num_eq_zero.mp q
        rw [this] at h2
        exact Rat.lt_irrefl h2
      have ev : EvD K (tCall (spOver K C) [] E0 (tCons (tCall (spD K 2 fTimesR) [] E0 (tCons (tCall (spD K 2 fPlusR) [] E0 (tCons (tVar 3) (tCons (tVar 2) tNil))) (tCons (tTup (tCons (tOp (rI0 fun i j => .int (i + j)) (tVar 4) (tC (.int 1))) (tCons (tC (.int 1)) tNil))) tNil)))
          (tCons (tCall (spD K 2 fTimesR) [] E0 (tCons (tTup (tCons (tC (.int 2)) (tCons (tC (.int 1)) tNil))) (tCons (tVar 2) tNil))) tNil))) [some v1, some v2, some v3, some v4, some (.int (N - 1)), none] H2 (ratR ((x + h) * (N : Rat) / (2 * h))) := by
        refine d_is (d_callE (es := []) (ds_cons (d_call (ds_cons (d_call (ds_cons (d_var ⟨_, rfl, h4⟩) (ds_cons (d_var ⟨_, rfl, h3⟩) ds_nil)) rfl ⟨x, h, rfl, sx.mono (by decide), sh.mono (by decide), rfl⟩) (ds_cons (d_tup (ds_cons (d_add (d_var (d := .int (N - 1)) ⟨_, rfl, .int _⟩) d_int) (ds_cons d_int ds_nil)) (by show 2 ≤ 1000; decide)) ds_nil)) rfl ⟨x + h, (N : Rat), ?_, sA.mono (by decide), (sz_whole (a := 71) (by omega) (by decide)).mono (by decide), rfl⟩)
          (ds_cons (d_call (ds_cons (d_tup (ds_cons d_int (ds_cons d_int ds_nil)) (by show 2 ≤ 1000; decide)) (ds_cons (d_var ⟨_, rfl, h3⟩) ds_nil)) rfl ⟨2, h, rfl, (show Sz 2 (2 : Rat) from ⟨by decide, by decide⟩).mono (by decide), sh.mono (by decide), rfl⟩) ds_nil)) (fun _ => .nil) rfl ⟨(x + h) * (N : Rat), 2 * h, rfl, sP.mono (by decide), sY.mono (by decide), y0, rfl⟩) (over_div h2)
        show [ratR (x + h), rat (N - 1 + 1) 1] = [ratR (x + h), rat N 1]
        rw [Int.sub_add_cancel]
      refine z_set (K := K) (σ := [some v1, some v2, some v3, some v4, some (.int (N - 1)), none]) ev fun v5 H3 e3 h5 => ?_
      obtain ⟨zz, ez, hz⟩ := low_sz (t := ((x + h) * (N : Rat)).num * (2 * h).den) (b := ((x + h) * (N : Rat)).den * (2 * h).num) (a := 974) (Int.mul_pos (by have := ((x + h) * (N : Rat)).den_pos; omega) (by have := Rat.num_nonneg.mpr (Rat.le_of_lt h2); omega)) (by rw [Int.natAbs_mul]; exact mul_lt2 sP.1 sY.2) (by rw [Int.natAbs_mul]; exact mul_lt2 sP.2 sY.1)
      rw [over_div h2] at ez
      have ez := rat_ext ez
      refine z_ret (K := K) (σ := [some v1, some v2, some v3, some v4, some (.int (N - 1)), some v5]) (d_max2 d_int (d_min2 (d_var (d := .int (N - 1)) ⟨_, rfl, .int _⟩) (d_call (ds_cons (d_var ⟨_, rfl, h5⟩) ds_nil) rfl ⟨_, _, rfl, ?_, ?_, rfl⟩))) fun u H4 e4 hu => k u _ (e1.trans (e2.trans (e3.trans e4))) ?_
      · have := ((x + h) * (N : Rat) / (2 * h)).den_pos
        omega
      · rw [ez]
        exact Nat.lt_of_lt_of_le hz.2 (Nat.pow_le_pow_right (by decide) (by decide))
      · have e : max 0 (min (N - 1) (((x + h) * (N : Rat) / (2 * h)).num.fdiv ((x + h) * (N : Rat) / (2 * h)).den)) = cellR N h x := by
          unfold cellR cellAt
          rw [if_neg z, Rat.floor_def, Int.fdiv_eq_ediv_of_nonneg _ (by omega)]
        rw [← e]
        exact hu
abbrev s_middle_part : Stmt := topS 19
abbrev N_middle_part : List Str := ["counts", "mode", "cell", "cells"]
theorem sc_middle_part : FnScope N_middle_part ["counts", "mode", "cell"] (defScope s_middle_part) := ⟨rfl, rfl, rfl, by decide +kernel, rfl, by decide +kernel, by decide +kernel⟩
theorem ok_middle_part {f C : Addr} {fd : FuncData} (F : Fun K "middle_part" "middle_part" s_middle_part f fd) (D_count_cells : Def P w K mg base CX0 2 "count_cells" ["counts", "mode"] (spD K 2 fCount))
    (D_make : DefV P w K mg base (L2.CX P w) 3 "make_ratio" ["top", "bottom"] [] (spMakeR K C)) : FnOk P w K mg base CX0 4 f fd ["counts", "mode", "cell"] (spD K 3 fMidPart) := by
  refine F.ok sc_middle_part (fun vs H Q E h => ?_) (fun cdv A outer s H vs Q E hr h => ?_)
  · obtain ⟨ds, d, hl, hd, _⟩ := h
    exact (dps_len hd).trans hl
  · obtain ⟨ds, d, hl, hd, hf, k⟩ := h
    obtain ⟨c, m, ns, j, rfl, ca, bj, rfl⟩ := hf
    obtain ⟨v1, vs, rfl, h1, hd⟩ := dps_cons hd
    obtain ⟨v2, vs, rfl, h2, hd⟩ := dps_cons hd
    obtain ⟨v3, vs, rfl, h3, hd⟩ := dps_cons hd
    obtain rfl := dps_nil hd
    cases h3
    refine ⟨_, (pss_cons (ps_set (i := 3) sc_middle_part.nd rfl (Or.inl rfl) (pe_dcall D_count_cells (hr.mono (by decide)) pass0 (pa_cons (pv 0) (pa_cons (pv 1) pa_nil))))
    (pss_one (ps_ret (pe_dcallV D_make (hr.mono (by decide)) passL (pa_cons (pe_op op_sub (pe_op op_add (pe_op op_mulW pe_int (pv 2)) pe_int) (pv 3)) (pa_cons (pv 3) pa_nil)))))), ?_⟩
    obtain ⟨N1, NB⟩ := few_all (counts_few ca)
    refine z_set (K := K) (σ := [some v1, some v2, some (.int j), none]) (d_call (ds_cons (d_var ⟨_, rfl, h1⟩) (ds_cons (d_var ⟨_, rfl, h2⟩) ds_nil)) rfl ⟨c, m, ns, rfl, ca, rfl⟩) fun u H1 e1 hu => ?_
    cases hu
    generalize prodI ns = N at *
    refine z_ret (K := K) (σ := [some v1, some v2, some (.int j), some (.int N)]) (d_is (d_callE (es := []) (ds_cons (d_sub (d_add (d_mul d_int (d_var (d := .int j) ⟨_, rfl, .int _⟩) (wide_mul (a := 2) (by decide) bj (by decide) (by decide) (by decide))) d_int) (d_var (d := .int N) ⟨_, rfl, .int _⟩)) (ds_cons (d_var (d := .int N) ⟨_, rfl, .int _⟩) ds_nil)) (fun _ => .nil) rfl ⟨2 * j + 1 - N, N, rfl, by omega, by omega, rfl⟩) (lowest_div (by omega))) fun u H2 e2 hu => k u _ (e1.trans e2) hu
abbrev s_cell_middle : Stmt := topS 18
abbrev N_cell_middle : List Str := ["counts", "mode", "half", "cell"]
theorem sc_cell_middle : FnScope N_cell_middle ["counts", "mode", "half", "cell"] (defScope s_cell_middle) := ⟨rfl, rfl, rfl, by decide +kernel, rfl, by decide +kernel, by decide +kernel⟩
theorem ok_cell_middle {f : Addr} {fd : FuncData} (F : Fun K "cell_middle" "cell_middle" s_cell_middle f fd) (D_times : Def P w K mg base CX0 1 "times" ["one", "other"] (spD K 2 fTimesR))
    (D_middle_part : Def P w K mg base CX0 4 "middle_part" ["counts", "mode", "cell"] (spD K 3 fMidPart)) : FnOk P w K mg base CX0 5 f fd ["counts", "mode", "half", "cell"] (spD K 4 fMid) := by
  refine F.ok sc_cell_middle (fun vs H Q E h => ?_) (fun cdv A outer s H vs Q E hr h => ?_)
  · obtain ⟨ds, d, hl, hd, _⟩ := h
    exact (dps_len hd).trans hl
  · obtain ⟨ds, d, hl, hd, hf, k⟩ := h
    obtain ⟨c, m, ns, h, j, rfl, ca, sh, bj, rfl⟩ := hf
    obtain ⟨v1, vs, rfl, h1, hd⟩ := dps_cons hd
    obtain ⟨v2, vs, rfl, h2, hd⟩ := dps_cons hd
    obtain ⟨v3, vs, rfl, h3, hd⟩ := dps_cons hd
    obtain ⟨v4, vs, rfl, h4, hd⟩ := dps_cons hd
    obtain rfl := dps_nil hd
    refine ⟨_, (pss_one (ps_ret (pe_dcall D_times (hr.mono (by decide)) pass0 (pa_cons (pv 2) (pa_cons (pe_dcall D_middle_part (hr.mono (by decide)) pass0 (pa_cons (pv 0) (pa_cons (pv 1) (pa_cons (pv 3) pa_nil)))) pa_nil))))), ?_⟩
    obtain ⟨N1, NB⟩ := few_all (counts_few ca)
    refine z_ret (K := K) (σ := [some v1, some v2, some v3, some v4]) (d_call (ds_cons (d_var ⟨_, rfl, h3⟩) (ds_cons (d_call (ds_cons (d_var ⟨_, rfl, h1⟩) (ds_cons (d_var ⟨_, rfl, h2⟩) (ds_cons (d_var ⟨_, rfl, h4⟩) ds_nil))) rfl ⟨c, m, ns, j, rfl, ca, bj, rfl⟩) ds_nil)) rfl ⟨h, midQ (prodI ns) j, rfl, sh.mono (by decide), (mid_sz (by omega) NB bj).mono (by decide), rfl⟩) fun u H2 e2 hu => k u _ e2 hu
abbrev s_L_cells : Stmt := topS 30
abbrev N_L_cells : List Str := ["row", "total", "count"]
theorem sc_L_cells : FnScope N_L_cells ["row"] (defScope s_L_cells) := ⟨rfl, rfl, rfl, by decide +kernel, rfl, by decide +kernel, by decide +kernel⟩
def fCells (ds : List PyData) (d : PyData) : Prop := ∃ (ns : List Int), ds = [.list (ns.map PyData.int)] ∧ Few ns ∧ d = .int (prodI ns)
theorem ok_L_cells {f : Addr} {fd : FuncData} (F : Fun K "_law_cells" "_law_cells" s_L_cells f fd) : FnOk P w K mg base CX0 1 f fd ["row"] (spD K 1 fCells) := by
  refine F.ok sc_L_cells (fun vs H Q E h => ?_) (fun cdv A outer s H vs Q E hr h => ?_)
  · obtain ⟨ds, d, hl, hd, _⟩ := h
    exact (dps_len hd).trans hl
  · obtain ⟨ds, d, hl, hd, hf, k⟩ := h
    obtain ⟨ns, rfl, few, rfl⟩ := hf
    obtain ⟨v, vs, rfl, hv, hd⟩ := dps_cons hd
    obtain rfl := dps_nil hd
    refine ⟨_, (pss_cons (ps_set (i := 1) sc_L_cells.nd rfl (Or.inl rfl) pe_int)
    (pss_cons (ps_for PassesOwn.never rfl (pi_list (pv 0)) (pg_name (i := 2) sc_L_cells.nd rfl (Or.inl rfl)) (pss_one (ps_set (i := 1) sc_L_cells.nd rfl (Or.inl rfl) (pe_op op_mulW (pv 1) (pv 2)))))
    (pss_one (ps_ret (pv 1))))), ?_⟩
    refine z_set (K := K) (σ := [some v, none, none]) d_int fun u H1 e1 hu => ?_
    cases hu
    refine z_forL (K := K) (σ := [some v, some (.int 1), none]) (d_var ⟨_, rfl, dp_grow e1 _ _ hv⟩) (fun i σ' _ => ∃ o, σ' = [some v, some (.int (prodI (ns.take i))), o]) (fun _ _ => ⟨none, rfl⟩) (fun i d x σ' H' D' hd e pv hx kD => ?_) (fun σ' H' e pv => ?_)
    · obtain ⟨o, rfl⟩ := pv
      obtain ⟨n, rfl, hn⟩ := at_map hd
      cases hx
      refine z_set1 (K := K) (σ := [some v, some (.int (prodI (ns.take i))), some (.int n)]) (d_mul (d_var (d := .int (prodI (ns.take i))) ⟨_, rfl, .int _⟩) (d_var (d := .int n) ⟨_, rfl, .int _⟩) (few_mul few hn)) fun u H3 e3 hu => ?_
      cases hu
      exact kD _ _ e3 ⟨_, by rw [prod_next hn]; rfl⟩
    · obtain ⟨o, rfl⟩ := pv
      rw [List.length_map, List.take_length]
      exact z_ret (K := K) (σ := [some v, some (.int (prodI ns)), o]) (d_var ⟨_, rfl, .int _⟩) fun u H2 e2 hu => k u _ (e1.trans (e.trans e2)) hu
abbrev s_L_threshold : Stmt := topS 31
abbrev N_L_threshold : List Str := ["cells", "half", "c"]
theorem sc_L_threshold : FnScope N_L_threshold ["cells", "half", "c"] (defScope s_L_threshold) := ⟨rfl, rfl, rfl, by decide +kernel, rfl, by decide +kernel, by decide +kernel⟩
theorem ok_L_threshold {f : Addr} {fd : FuncData} (F : Fun K "_law_threshold" "_law_threshold" s_L_threshold f fd) (D_law_times : Def P w K mg base CX0 2 "_law_times" ["a", "b"] (spD K 2 fTimesR)) (D_law_ratio : Def P w K mg base CX0 1 "_law_ratio" ["top", "bottom"] (spD K 2 fLowest)) :
    FnOk P w K mg base CX0 3 f fd ["cells", "half", "c"] (spD K 3 fThr) := by
  refine F.ok sc_L_threshold (fun vs H Q E h => ?_) (fun cdv A outer s H vs Q E hr h => ?_)
  · obtain ⟨ds, d, hl, hd, _⟩ := h
    exact (dps_len hd).trans hl
  · obtain ⟨ds, d, hl, hd, hf, k⟩ := h
    obtain ⟨N, h, c, rfl, N0, NB, bc, sh, rfl⟩ := hf
    obtain ⟨v1, vs, rfl, h1, hd⟩ := dps_cons hd
    obtain ⟨v2, vs, rfl, h2, hd⟩ := dps_cons hd
    obtain ⟨v3, vs, rfl, h3, hd⟩ := dps_cons hd
    obtain rfl := dps_nil hd
    refine ⟨_, (pss_one (ps_ret (pe_dcall D_law_times (hr.mono (by decide)) pass0 (pa_cons (pv 1) (pa_cons (pe_dcall D_law_ratio (hr.mono (by decide)) pass0 (pa_cons (pe_op op_sub (pe_op op_mulW pe_int (pv 2)) (pv 0)) (pa_cons (pv 0) pa_nil))) pa_nil))))), ?_⟩
    refine z_ret (K := K) (σ := [some v1, some v2, some v3]) (d_call (ds_cons (d_var ⟨_, rfl, h2⟩) (ds_cons (d_is (d_call (ds_cons (d_sub (d_mul d_int (d_var ⟨_, rfl, h3⟩) (wide_mul (a := 2) (by decide) bc (by decide) (by decide) (by decide))) (d_var ⟨_, rfl, h1⟩)) (ds_cons (d_var ⟨_, rfl, h1⟩) ds_nil)) rfl ⟨2 * c - N, N, rfl, by omega, Nat.lt_of_lt_of_le NB (Nat.pow_le_pow_right (by decide) (by decide)), rfl⟩) (lowest_div N0)) ds_nil)) rfl ⟨h, ((2 * c - N : Int) : Rat) / (N : Rat), rfl, sh.mono (by decide), (div_sz (a := 72) N0 (by omega) (by omega)).mono (by decide), rfl⟩) fun u H2 e2 hu => k u _ e2 hu
abbrev s_L_due : Stmt := topS 33
abbrev N_L_due : List Str := ["cells", "half", "position", "found", "c"]
theorem sc_L_due : FnScope N_L_due ["cells", "half", "position"] (defScope s_L_due) := ⟨rfl, rfl, rfl, by decide +kernel, rfl, by decide +kernel, by decide +kernel⟩
theorem ok_L_due {f : Addr} {fd : FuncData} (F : Fun K "_law_due" "_law_due" s_L_due f fd) (T : Bl mg) (D_law_less : Def P w K mg base CX0 1 "_law_less" ["a", "b"] (spD K 2 fLessR)) (D_law_threshold : Def P w K mg base CX0 3 "_law_threshold" ["cells", "half", "c"] (spD K 3 fThr)) :
    FnOk P w K mg base CX0 4 f fd ["cells", "half", "position"] (spD K 3 fDue) := by
  refine F.ok sc_L_due (fun vs H Q E h => ?_) (fun cdv A outer s H vs Q E hr h => ?_)
  · obtain ⟨ds, d, hl, hd, _⟩ := h
    exact (dps_len hd).trans hl
  · obtain ⟨ds, d, hl, hd, hf, k⟩ := h
    obtain ⟨N, h, x, rfl, N0, N1, sh, sx, h0, rfl⟩ := hf
    obtain ⟨v1, vs, rfl, h1, hd⟩ := dps_cons hd
    obtain ⟨v2, vs, rfl, h2, hd⟩ := dps_cons hd
    obtain ⟨v3, vs, rfl, h3, hd⟩ := dps_cons hd
    obtain rfl := dps_nil hd
    cases h1
    refine ⟨_, (pss_cons (ps_set (i := 3) sc_L_due.nd rfl (Or.inl rfl) pe_int)
    (pss_cons (ps_for PassesOwn.never rfl (pi_range2 rfl T.b_range (pa_cons pe_int (pa_cons (pv 0) pa_nil))) (pg_name (i := 4) sc_L_due.nd rfl (Or.inl rfl)) (pss_one (ps_set (i := 3) sc_L_due.nd rfl (Or.inl rfl) (pe_op op_add (pv 3) (pe_callTy call_int1 (by rfl) T.b_int (by decide +kernel) (pa_cons (pe_not (pe_dcall D_law_less (hr.mono (by decide)) pass0 (pa_cons (pv 2) (pa_cons (pe_dcall D_law_threshold (hr.mono (by decide)) pass0 (pa_cons (pv 0) (pa_cons (pv 1) (pa_cons (pv 4) pa_nil)))) pa_nil)))) pa_nil))))))
    (pss_one (ps_ret (pv 3))))), ?_⟩
    refine z_set (K := K) (σ := [some (.int N), some v2, some v3, none, none]) d_int fun u H1 e1 hu => ?_
    cases hu
    replace h2 := dp_grow e1 _ _ h2
    replace h3 := dp_grow e1 _ _ h3
    refine z_forR (K := K) (a := 1) (b := N) (σ := [some (.int N), some v2, some v3, some (.int 0), none]) (ds_cons d_int (ds_cons (d_var ⟨_, rfl, .int _⟩) ds_nil)) (by omega) (by omega) (fun i σ' _ => ∃ o, σ' = [some (.int N), some v2, some v3, some (.int (cellAt N h x (i : Int))), o]) (fun _ _ => ⟨none, by rw [show ((0 : Nat) : Int) = 0 from rfl, cell_zero]⟩) (fun i σ' H' D' hi e pv _ kD => ?_) (fun σ' H' e pv => ?_)
    · obtain ⟨o, rfl⟩ := pv
      have ev : EvD K (tNotV (tCall (spD K 2 fLessR) [] E0 (tCons (tVar 2) (tCons (tCall (spD K 3 fThr) [] E0 (tCons (tVar 0) (tCons (tVar 1) (tCons (tVar 4) tNil)))) tNil)))) [some (.int N), some v2, some v3, some (.int (cellAt N h x (i : Int))), some (.int (1 + (i : Int)))] H' (.bool (!decide (x < thr N h (1 + (i : Int))))) :=
        d_not (d_call (ds_cons (d_var ⟨_, rfl, dp_grow e _ _ h3⟩) (ds_cons (d_call (ds_cons (d_var (d := .int N) ⟨_, rfl, .int _⟩) (ds_cons (d_var ⟨_, rfl, dp_grow e _ _ h2⟩) (ds_cons (d_var (d := .int (1 + (i : Int))) ⟨_, rfl, .int _⟩) ds_nil))) rfl ⟨N, h, 1 + i, rfl, N0, by omega, by omega, sh, rfl⟩) ds_nil)) rfl ⟨x, thr N h (1 + i), rfl, sx.mono (by decide), (thr_sz N0 (by omega) (by omega) sh).mono (by decide), rfl⟩)
      refine z_set1 (K := K) (σ := [some (.int N), some v2, some v3, some (.int (cellAt N h x (i : Int))), some (.int (1 + (i : Int)))]) (d_add (d_var (d := .int (cellAt N h x (i : Int))) ⟨_, rfl, .int _⟩) (d_toIntB ev)) fun u H3 e3 hu => ?_
      cases hu
      refine kD _ _ e3 ⟨some (.int (1 + (i : Int))), ?_⟩
      have nx := cell_next (x := x) N0 h0 (show (0 : Int) ≤ (i : Int) by omega)
      have e2 : cellAt N h x (i : Int) + (if (!decide (x < thr N h (1 + (i : Int)))) = true then 1 else 0) = cellAt N h x ((i + 1 : Nat) : Int) := by
        rw [Int.natCast_add, ← show ((1 : Nat) : Int) = 1 from rfl] at *
        rw [← nx]
        congr 1
        cases decide (x < thr N h (((1 : Nat) : Int) + (i : Int))) <;> rfl
      rw [← e2]
      rfl
    · obtain ⟨o, rfl⟩ := pv
      have e9 : (((N - 1).toNat : Nat) : Int) = N - 1 := by omega
      rw [e9]
      exact z_ret (K := K) (σ := [some (.int N), some v2, some v3, some (.int (cellR N h x)), o]) (d_var ⟨_, rfl, .int _⟩) fun u H2 e2 hu => k u _ (e1.trans (e.trans e2)) hu
end
end K33
namespace Dat
open PySem L2 Evl
def Small (ns : List Int) : Prop := ns.length ≤ 3 ∧ ∀ n ∈ ns, 1 ≤ n ∧ n ≤ 4
theorem small_few {ns : List Int} (h : Small ns) : Few ns := ⟨by have := h.1; omega, fun n hn => by have := h.2 n hn; omega⟩
theorem small_prod {ns : List Int} (h : Small ns) : prodI ns ≤ 64 := by
  obtain ⟨h1, h2⟩ := h
  have step : ∀ {a b : Int} {k : Int}, 1 ≤ a → a ≤ k → 1 ≤ b → b ≤ 4 → 1 ≤ a * b ∧ a * b ≤ k * 4 := fun {a b k} p q r s => ⟨by have := Int.mul_le_mul p r (by omega) (by omega); omega, Int.mul_le_mul q s (by omega) (by omega)⟩
  match ns, h1 with
  | [], _ => decide
  | [a], _ =>
    have ha := h2 a (by simp)
    show 1 * a ≤ 64
    omega
  | [a, b], _ =>
    have ha := h2 a (by simp)
    have hb := h2 b (by simp)
    show 1 * a * b ≤ 64
    rw [Int.one_mul]
    have := step ha.1 ha.2 hb.1 hb.2
    omega
  | [a, b, c], _ =>
    have ha := h2 a (by simp)
    have hb := h2 b (by simp)
    have hc := h2 c (by simp)
    show 1 * a * b * c ≤ 64
    rw [Int.one_mul]
    have := step ha.1 ha.2 hb.1 hb.2
    have := step this.1 this.2 hc.1 hc.2
    omega
def rowD (r : List Int) : PyData := .list (r.map PyData.int)
def rowsD (rows : List (List Int)) : PyData := .list (rows.map rowD)
theorem show_int {i : Int} (h : 1 ≤ i ∧ i ≤ 4) : PyData.showable (.int i) = true ∧ PyData.leavesShort 8 (.int i) = true ∧ PyData.weight (.int i) ≤ 3 := by
  have e : i = 1 ∨ i = 2 ∨ i = 3 ∨ i = 4 := by omega
  rcases e with rfl | rfl | rfl | rfl <;> exact ⟨by decide +kernel, by decide +kernel, by decide +kernel⟩
theorem show_ints : ∀ {r : List Int}, (∀ n ∈ r, 1 ≤ n ∧ n ≤ 4) → PyData.hasDictAll (r.map PyData.int) = false ∧ PyData.showableAll (r.map PyData.int) = true ∧ PyData.leavesShortAll 8 (r.map PyData.int) = true ∧ PyData.depthAll (r.map PyData.int) = 0 ∧ PyData.weightAll (r.map PyData.int) ≤ 4 * r.length
  | [], _ => ⟨by rfl, by rfl, by rfl, by rfl, by show 0 ≤ _; omega⟩
  | i :: r, h => by
    obtain ⟨a, b, c, d, e⟩ := show_ints (r := r) fun n hn => h n (List.mem_cons_of_mem _ hn)
    obtain ⟨x, y, z⟩ := show_int (h i List.mem_cons_self)
    simp only [List.map_cons, PyData.hasDictAll, PyData.hasDict, PyData.showableAll, PyData.leavesShortAll, PyData.depthAll, PyData.depth, PyData.weightAll, a, b, c, d, x, y, List.length_cons, Bool.false_or, Bool.and_self, Nat.max_self, true_and]
    omega
theorem show_rows : ∀ {rows : List (List Int)}, (∀ r ∈ rows, Small r) → PyData.hasDictAll (rows.map rowD) = false ∧ PyData.showableAll (rows.map rowD) = true ∧ PyData.leavesShortAll 8 (rows.map rowD) = true ∧ PyData.depthAll (rows.map rowD) ≤ 1 ∧ PyData.weightAll (rows.map rowD) ≤ 13 * rows.length
  | [], _ => ⟨by rfl, by rfl, by rfl, by show 0 ≤ 1; omega, by show 0 ≤ _; omega⟩
  | r :: rows, h => by
    obtain ⟨a, b, c, d, e⟩ := show_rows (rows := rows) fun n hn => h n (List.mem_cons_of_mem _ hn)
    have hs := h r List.mem_cons_self
    obtain ⟨a', b', c', d', e'⟩ := show_ints hs.2
    have l := hs.1
    simp only [List.map_cons, rowD, PyData.hasDictAll, PyData.hasDict, PyData.showableAll, PyData.showable, PyData.leavesShortAll, PyData.leavesShort, PyData.depthAll, PyData.depth, PyData.weightAll, PyData.weight, a', b', c', d'] at *
    simp only [a, b, c, Bool.false_or, Bool.and_self, true_and, List.length_cons]
    omega
theorem rows_show {rows : List (List Int)} (h : ∀ r ∈ rows, Small r) (hl : rows.length ≤ 2) : (rowsD rows).hasDict = false ∧ (rowsD rows).showable = true ∧ (rowsD rows).depth ≤ 60 ∧ (rowsD rows).shown.length ≤ sizeLine := by
  obtain ⟨a, b, c, d, e⟩ := show_rows h
  refine ⟨by simpa only [rowsD, PyData.hasDict] using a, by simpa only [rowsD, PyData.showable] using b, by simp only [rowsD, PyData.depth]; omega, PyData.shown_fits (B := 8) (by decide) (by decide) (by simpa only [rowsD, PyData.leavesShort] using c) (by simp only [rowsD, PyData.weight]; omega)⟩
theorem rows_at {rows : List (List Int)} {m : Nat} {ns : List Int} (h : ∀ r ∈ rows, Small r) (e : rows[m]? = some ns) : CountsAt (rowsD rows) m ns :=
  ⟨false, false, rows.map rowD, rfl, by rw [List.getElem?_map, e]; rfl, small_few (h ns (List.mem_of_getElem? e))⟩
def tupD (rows : List (List Int)) : PyData := .tuple (rows.map fun r => .tuple (r.map PyData.int))
theorem tups_at {rows : List (List Int)} {m : Nat} {ns : List Int} (h : ∀ r ∈ rows, Small r) (e : rows[m]? = some ns) : CountsAt (tupD rows) m ns :=
  ⟨true, true, rows.map fun r => .tuple (r.map PyData.int), rfl, by rw [List.getElem?_map, e]; rfl, small_few (h ns (List.mem_of_getElem? e))⟩
def absR (x : Rat) : Rat := if x < 0 then -x else x
theorem size_abs (x : Rat) : rat (x.num.natAbs : Int) (x.den : Int) = ratR (absR x) := by
  unfold absR
  by_cases h : x < 0
  · rw [if_pos h]
    show rat _ _ = rat (-x.num) (x.den : Int)
    have : x.num < 0 := by
      have := Rat.lt_iff x 0
      simp at this
      exact this.mp h
    rw [show ((x.num.natAbs : Nat) : Int) = -x.num by omega]
  · rw [if_neg h]
    have : 0 ≤ x.num := Rat.num_nonneg.mpr (by grind)
    show rat _ _ = rat x.num (x.den : Int)
    rw [show ((x.num.natAbs : Nat) : Int) = x.num by omega]
theorem abs_sz {n : Nat} {x : Rat} (h : Sz n x) : Sz n (absR x) := by
  unfold absR
  split
  · exact sz_neg h
  · exact h
theorem one_over {N : Int} (h : 0 < N) : rat 1 N = ratR (1 / (N : Rat)) := by
  obtain ⟨a, b⟩ := low_cop (p := 1) (q := N) h (Nat.gcd_one_left _)
  have e := lowest_div (t := 1) h
  show PyData.tuple [.int 1, .int N] = _
  have e1 : lowest 1 N = rat 1 N := by show rat (lowP 1 N) (lowQ 1 N) = _; rw [a, b]
  rw [e1] at e
  exact e
theorem abs_le {x h : Rat} (q : ¬ h < absR x) : -h ≤ x ∧ x ≤ h := by
  unfold absR at q
  split at q <;> constructor <;> grind
theorem abs_far {x m b : Rat} (p : x - m ≤ b) (q : m - x ≤ b) : ¬ b < absR (x + -m) := by
  unfold absR
  split <;> grind
end Dat
namespace K33
open PySem L2 Evl Dat
def spLaw (K : PySem.W.Frag) : Sp := fun vs H Q _ => ∃ (a : Addr) (ns : List Int), vs = [.ref a] ∧ SqL K H a (ns.map V.int) ∧ ns.length ≤ 63 ∧ ∀ H', Q (.bl true) H'
section
variable {P : Program} {w : World} {K : PySem.W.Frag} {mg : Str → Option Value} {base : Heap}
abbrev s_law : Stmt := topS 34
abbrev N_law : List Str := ["script", "hand", "counts", "sensors", "mode", "sensor", "cells", "kind", "half", "bit", "places", "c", "edge", "turn", "before", "position", "cell", "middle", "apart", "tupled", "row"]
theorem sc_law : FnScope N_law ["script"] (defScope s_law) := ⟨rfl, rfl, rfl, by decide +kernel, rfl, by decide +kernel, by decide +kernel⟩

theorem ok_law {f : Addr} {fd : FuncData} (F : Fun K "law" "law" s_law f fd) (T : Bl mg) (T2 : Bl2 mg)
    (D_law_hand : Def P w K mg base CX0 1 "_law_hand" ["script"] (spHand K)) (D_law_draw : Def P w K mg base CX0 2 "_law_draw" ["hand", "many"] spDraw)
    (D_law_ratio : Def P w K mg base CX0 1 "_law_ratio" ["top", "bottom"] (spD K 2 fLowest)) (D_law_plus : Def P w K mg base CX0 2 "_law_plus" ["a", "b"] (spD K 2 fPlusR)) (D_law_times : Def P w K mg base CX0 2 "_law_times" ["a", "b"] (spD K 2 fTimesR))
    (D_law_less : Def P w K mg base CX0 1 "_law_less" ["a", "b"] (spD K 2 fLessR)) (D_law_size : Def P w K mg base CX0 1 "_law_size" ["a"] (spD K 1 fSize)) (D_law_cells : Def P w K mg base CX0 1 "_law_cells" ["row"] (spD K 1 fCells))
    (D_law_threshold : Def P w K mg base CX0 3 "_law_threshold" ["cells", "half", "c"] (spD K 3 fThr)) (D_law_same : Def P w K mg base CX0 2 "_law_same" ["told", "due"] (spD K 2 (fSame 2))) (D_law_due : Def P w K mg base CX0 4 "_law_due" ["cells", "half", "position"] (spD K 3 fDue))
    (D_find_cell : Def P w K mg base CX0 4 "find_cell" ["counts", "mode", "half", "position"] (spD K 4 fFind)) (D_cell_middle : Def P w K mg base CX0 5 "cell_middle" ["counts", "mode", "half", "cell"] (spD K 4 fMid)) :
    FnG P w K mg base CX0 6 f fd ["script"] (spLaw K) := by
  refine fun_okG F sc_law (fun vs H Q E h => ?_) (fun cdv A hg outer s H vs Q E hr h => ?_)
  · obtain ⟨a, ns, rfl, _⟩ := h
    rfl
  · refine ⟨_, (pss_cons (ps_set (i := 1) sc_law.nd rfl (Or.inr rfl) (pe_dcall D_law_hand (hr.mono (by decide)) pass0 (pa_cons (pv 0) pa_nil)))
    (pss_cons (ps_set (i := 2) sc_law.nd rfl (Or.inl rfl) (pe_lst pa_nil))
    (pss_cons (ps_set (i := 3) sc_law.nd rfl (Or.inl rfl) (pe_op op_add pe_int (pe_dcall D_law_draw (hr.mono (by decide)) pass0 (pa_cons (pv 1) (pa_cons pe_int pa_nil)))))
    (pss_cons (ps_for PassesOwn.never rfl (pi_range1 rfl T.b_range (pa_cons (pe_op op_add pe_int (pe_dcall D_law_draw (hr.mono (by decide)) pass0 (pa_cons (pv 1) (pa_cons pe_int pa_nil)))) pa_nil)) (pg_name (i := 4) sc_law.nd rfl (Or.inl rfl)) (pss_one (ps_expr (pe_bm PySem.F.plainAttrs_list PySem.F.slot_list_append PySem.F.type_list_append mt_append (pv 2) (pa_cons (pe_lc (own := [("sensor", 5)]) (g := gName 5) rfl sc_law.nd (pi_range1 rfl T.b_range (pa_cons (pv 3) pa_nil)) (blkOk_by (own := [("sensor", 5)]) (N := N_law) (sc := defScope s_law) (by decide +kernel)) (fun _ _ _ _ _ => pg_name (i := 5) sc_law.nd rfl (Or.inl rfl)) (fun _ _ _ _ _ => pts_nil) (fun _ _ _ _ _ => (pe_op op_add pe_int (pe_dcall D_law_draw (hr.mono (by decide)) pass0 (pa_cons (pv 1) (pa_cons pe_int pa_nil)))))) pa_nil)))))
    (pss_cons (ps_set (i := 4) sc_law.nd rfl (Or.inl rfl) (pe_dcall D_law_draw (hr.mono (by decide)) pass0 (pa_cons (pv 1) (pa_cons (pe_callB call_len_seq (by rfl) T.b_len (by decide +kernel) (pa_cons (pv 2) pa_nil)) pa_nil))))
    (pss_cons (ps_set (i := 6) sc_law.nd rfl (Or.inl rfl) (pe_dcall D_law_cells (hr.mono (by decide)) pass0 (pa_cons (pe_ix (r := rIxL K) ix_list (pv 2) (pv 4) (fun _ _ => rfl)) pa_nil)))
    (pss_cons (ps_set (i := 7) sc_law.nd rfl (Or.inl rfl) (pe_dcall D_law_draw (hr.mono (by decide)) pass0 (pa_cons (pv 1) (pa_cons pe_int pa_nil))))
    (pss_cons (ps_set (i := 8) sc_law.nd rfl (Or.inl rfl) (pe_dcall D_law_ratio (hr.mono (by decide)) pass0 (pa_cons (pe_dcall D_law_draw (hr.mono (by decide)) pass0 (pa_cons (pv 1) (pa_cons (pe_ix (r := rIxL K) ix_list (pe_lst (pa_cons pe_int (pa_cons pe_int (pa_cons pe_int (pa_cons (pe_op op_pow pe_int pe_int) pa_nil))))) (pv 7) (fun _ _ => rfl)) pa_nil))) (pa_cons (pe_op op_add pe_int (pe_dcall D_law_draw (hr.mono (by decide)) pass0 (pa_cons (pv 1) (pa_cons (pe_ix (r := rIxL K) ix_list (pe_lst (pa_cons pe_int (pa_cons pe_int (pa_cons pe_int (pa_cons pe_int pa_nil))))) (pv 7) (fun _ _ => rfl)) pa_nil)))) pa_nil))))
    (pss_cons (ps_set (i := 9) sc_law.nd rfl (Or.inl rfl) (pe_dcall D_law_ratio (hr.mono (by decide)) pass0 (pa_cons pe_int (pa_cons (pe_op op_pow pe_int pe_int) pa_nil))))
    (pss_cons (ps_set (i := 10) sc_law.nd rfl (Or.inl rfl) (pe_lst (pa_cons (pv 8) (pa_cons (pe_tup (pa_cons (pe_un un_neg (pe_ix (r := rIxT K) ix_tup (pv 8) pe_int (fun _ _ => rfl))) (pa_cons (pe_ix (r := rIxT K) ix_tup (pv 8) pe_int (fun _ _ => rfl)) pa_nil))) (pa_cons (pe_tup (pa_cons pe_int (pa_cons pe_int pa_nil))) (pa_cons (pe_dcall D_law_plus (hr.mono (by decide)) pass0 (pa_cons (pv 8) (pa_cons (pe_tup (pa_cons pe_int (pa_cons pe_int pa_nil))) pa_nil))) (pa_cons (pe_dcall D_law_plus (hr.mono (by decide)) pass0 (pa_cons (pe_tup (pa_cons (pe_un un_neg (pe_ix (r := rIxT K) ix_tup (pv 8) pe_int (fun _ _ => rfl))) (pa_cons (pe_ix (r := rIxT K) ix_tup (pv 8) pe_int (fun _ _ => rfl)) pa_nil))) (pa_cons (pe_tup (pa_cons (pe_un un_neg pe_int) (pa_cons pe_int pa_nil))) pa_nil))) pa_nil)))))))
    (pss_cons (ps_for PassesOwn.never rfl (pi_range2 rfl T.b_range (pa_cons pe_int (pa_cons (pv 6) pa_nil))) (pg_name (i := 11) sc_law.nd rfl (Or.inl rfl)) (pss_cons (ps_set (i := 12) sc_law.nd rfl (Or.inl rfl) (pe_dcall D_law_threshold (hr.mono (by decide)) pass0 (pa_cons (pv 6) (pa_cons (pv 8) (pa_cons (pv 11) pa_nil)))))
    (pss_one (ps_set (i := 10) sc_law.nd rfl (Or.inl rfl) (pe_op op_cat (pv 10) (pe_lst (pa_cons (pv 12) (pa_cons (pe_dcall D_law_plus (hr.mono (by decide)) pass0 (pa_cons (pv 12) (pa_cons (pv 9) pa_nil))) (pa_cons (pe_dcall D_law_plus (hr.mono (by decide)) pass0 (pa_cons (pv 12) (pa_cons (pe_tup (pa_cons (pe_un un_neg (pe_ix (r := rIxT K) ix_tup (pv 9) pe_int (fun _ _ => rfl))) (pa_cons (pe_ix (r := rIxT K) ix_tup (pv 9) pe_int (fun _ _ => rfl)) pa_nil))) pa_nil))) pa_nil)))))))))
    (pss_cons (ps_for PassesOwn.never rfl (pi_range1 rfl T.b_range (pa_cons pe_int pa_nil)) (pg_name (i := 13) sc_law.nd rfl (Or.inl rfl)) (pss_one (ps_expr (pe_bm PySem.F.plainAttrs_list PySem.F.slot_list_append PySem.F.type_list_append mt_append (pv 10) (pa_cons (pe_dcall D_law_times (hr.mono (by decide)) pass0 (pa_cons (pv 8) (pa_cons (pe_dcall D_law_ratio (hr.mono (by decide)) pass0 (pa_cons (pe_op op_sub (pe_dcall D_law_draw (hr.mono (by decide)) pass0 (pa_cons (pv 1) (pa_cons pe_int pa_nil))) pe_int) (pa_cons pe_int pa_nil))) pa_nil))) pa_nil)))))
    (pss_cons (ps_set (i := 14) sc_law.nd rfl (Or.inl rfl) (pe_callB (id := "repr") (call_repr hg (by have := hr.units; exact this)) (by rfl) T2.b_repr (by decide +kernel) (pa_cons (pv 2) pa_nil)))
    (pss_cons (ps_for PassesOwn.never rfl (pi_list (pv 10)) (pg_name (i := 15) sc_law.nd rfl (Or.inl rfl)) (pss_cons (ps_set (i := 16) sc_law.nd rfl (Or.inl rfl) (pe_dcall D_find_cell (hr.mono (by decide)) pass0 (pa_cons (pv 2) (pa_cons (pv 4) (pa_cons (pv 8) (pa_cons (pv 15) pa_nil))))))
    (pss_cons (ps_if (PW.pt (pw_or (pt_not (pt_val (pe_callB call_isi (by rfl) T.b_isinstance (by decide +kernel) (pa_cons (pv 16) (pa_cons (pe_bltn (v := .ty "int") (by rfl) T.b_int (by decide +kernel) rfl) pa_nil))))) (pw_or (pt_val (pe_callB call_isi (by rfl) T.b_isinstance (by decide +kernel) (pa_cons (pv 16) (pa_cons (pe_bltn (v := .ty "bool") (by rfl) T.b_bool (by decide +kernel) rfl) pa_nil)))) (pw_or1 (pt_cmpR op_ne (pv 16) (pe_dcall D_law_due (hr.mono (by decide)) pass0 (pa_cons (pv 6) (pa_cons (pv 8) (pa_cons (pv 15) pa_nil)))) (nomark _)))))) (pss_one (ps_ret pe_bl)) pss_nil)
    (pss_cons (ps_set (i := 17) sc_law.nd rfl (Or.inl rfl) (pe_dcall D_cell_middle (hr.mono (by decide)) pass0 (pa_cons (pv 2) (pa_cons (pv 4) (pa_cons (pv 8) (pa_cons (pv 16) pa_nil))))))
    (pss_cons (ps_if (pt_not (pt_val (pe_dcall D_law_same (hr.mono (by decide)) pass0 (pa_cons (pv 17) (pa_cons (pe_dcall D_law_times (hr.mono (by decide)) pass0 (pa_cons (pv 8) (pa_cons (pe_dcall D_law_ratio (hr.mono (by decide)) pass0 (pa_cons (pe_op op_sub (pe_op op_add (pe_op op_mulW pe_int (pv 16)) pe_int) (pv 6)) (pa_cons (pv 6) pa_nil))) pa_nil))) pa_nil))))) (pss_one (ps_ret pe_bl)) pss_nil)
    (pss_cons (ps_set (i := 18) sc_law.nd rfl (Or.inl rfl) (pe_dcall D_law_size (hr.mono (by decide)) pass0 (pa_cons (pe_dcall D_law_plus (hr.mono (by decide)) pass0 (pa_cons (pv 15) (pa_cons (pe_tup (pa_cons (pe_un un_neg (pe_ix (r := rIxT K) ix_tup (pv 17) pe_int (fun _ _ => rfl))) (pa_cons (pe_ix (r := rIxT K) ix_tup (pv 17) pe_int (fun _ _ => rfl)) pa_nil))) pa_nil))) pa_nil)))
    (pss_one (ps_if (PW.pt (pw_and (pt_not (pt_val (pe_dcall D_law_less (hr.mono (by decide)) pass0 (pa_cons (pv 8) (pa_cons (pe_dcall D_law_size (hr.mono (by decide)) pass0 (pa_cons (pv 15) pa_nil)) pa_nil))))) (pw_and1 (pt_val (pe_dcall D_law_less (hr.mono (by decide)) pass0 (pa_cons (pe_dcall D_law_times (hr.mono (by decide)) pass0 (pa_cons (pv 8) (pa_cons (pe_tup (pa_cons pe_int (pa_cons (pv 6) pa_nil))) pa_nil))) (pa_cons (pv 18) pa_nil))))))) (pss_one (ps_ret pe_bl)) pss_nil))))))))
    (pss_cons (ps_set (i := 19) sc_law.nd rfl (Or.inl rfl) (pe_callTy (r := rTupOf K) call_tupOf (by rfl) T.b_tuple (by decide +kernel) (pa_cons (pe_lc (own := [("row", 20)]) (g := gName 20) rfl sc_law.nd (pi_list (pv 2)) (blkOk_by (own := [("row", 20)]) (N := N_law) (sc := defScope s_law) (by decide +kernel)) (fun _ _ _ _ _ => pg_name (i := 20) sc_law.nd rfl (Or.inl rfl)) (fun _ _ _ _ _ => pts_nil) (fun _ _ _ _ _ => (pe_callTy (r := rTupOf K) call_tupOf (by rfl) T.b_tuple (by decide +kernel) (pa_cons (pv 20) pa_nil)))) pa_nil)))
    (pss_cons (ps_for PassesOwn.never rfl (pi_range1 rfl T.b_range (pa_cons (pv 6) pa_nil)) (pg_name (i := 11) sc_law.nd rfl (Or.inl rfl)) (pss_one (ps_if (PW.pt (pw_and (pt_cmpR op_gt (pe_ix (r := rIxT K) ix_tup (pv 8) pe_int (fun _ _ => rfl)) pe_int (nomark _)) (pw_and1 (pt_cmpR op_ne (pe_dcall D_find_cell (hr.mono (by decide)) pass0 (pa_cons (pv 19) (pa_cons (pv 4) (pa_cons (pv 8) (pa_cons (pe_dcall D_law_threshold (hr.mono (by decide)) pass0 (pa_cons (pv 6) (pa_cons (pv 8) (pa_cons (pv 11) pa_nil)))) pa_nil))))) (pv 11) (nomark _))))) (pss_one (ps_ret pe_bl)) pss_nil)))
    (pss_one (ps_ret (pe_cmpR op_eq (pe_callB (id := "repr") (call_repr hg (by have := hr.units; exact this)) (by rfl) T2.b_repr (by decide +kernel) (pa_cons (pv 2) pa_nil)) (pv 14) (nomark _)))))))))))))))))))), ?_⟩
    obtain ⟨a, ns, rfl, hS, hl, k⟩ := h
    refine ⟨_, rfl, a, ns, rfl, hS, hl, fun H1 h c ms sm nh nc hh1 => ?_⟩
    refine z_nil (D := _) (σ := [(some (.ref a)), (some (.ref h)), none, none, none, none, none, none, none, none, none, none, none, none, none, none, none, none, none, none, none]) fun L hL => ?_
    obtain ⟨nLh, nLc⟩ := hand_ne hh1 hL
    have hh2 := hand_new (o := .lst []) hh1 hL
    refine hz_set (D := _) (σ := [(some (.ref a)), (some (.ref h)), (some (.ref L)), none, none, none, none, none, none, none, none, none, none, none, none, none, none, none, none, none, none]) (P := fun i => 1 ≤ i ∧ i ≤ 3) hh2 (i_add (i_c (P := fun i => i = 1) rfl) (i_draw (P := fun i => 0 ≤ i ∧ i < 3) rfl (by decide) (by decide) (fun i p q => ⟨p, q⟩)) (fun i j p q => by omega)) fun se H3 hh3 x3 pse => ?_
    have hL3 : H3 L = some (.lst []) := keep_at x3 nLh upd_same
    refine z_forA (σ := [(some (.ref a)), (some (.ref h)), (some (.ref L)), (some (.int se)), none, none, none, none, none, none, none, none, none, none, none, none, none, none, none, none, none]) (S := fun n H => 1 ≤ n ∧ n ≤ 2 ∧ HandOk H h c ms ∧ H L = some (.lst [])) (fun Q q => i_add (i_c (h := h) (c := c) (ns := ms) (P := fun i => i = 1) rfl) (i_draw (P := fun i => 0 ≤ i ∧ i < 2) rfl (by decide) (by decide) (fun i p q => ⟨p, q⟩)) (P := fun i => 1 ≤ i ∧ i ≤ 2) (fun i j p q => by omega) H3 hh3 _ fun i H4 hh4 x4 p => q i H4 ⟨p.1, p.2, hh4, keep_at x4 nLh hL3⟩ ⟨by omega, by omega⟩)
      (fun n i σ' H' => n ≤ 2 ∧ 1 ≤ n ∧ HandOk H' h c ms ∧ ∃ o4 xs, σ' = [(some (.ref a)), (some (.ref h)), (some (.ref L)), (some (.int se)), o4, none, none, none, none, none, none, none, none, none, none, none, none, none, none, none, none] ∧ H' L = some (.lst xs) ∧ ∃ rows : List (List Int), rows.length = i ∧ (∀ r ∈ rows, Small r) ∧ DpAll K (rem (rem H' h) L) xs (rows.map rowD))
      (fun n H4 s => ⟨s.2.1, s.1, s.2.2.1, none, [], rfl, s.2.2.2, [], rfl, (fun r hr => by cases hr), .nil⟩) (fun n i σ' H' D' hi pv _ kD => ?_) (fun n σ' H4 n0 pv => ?_)
    · obtain ⟨n2, n1, hh', o4, xs, rfl, hLx, rows, hrl, hsm, hall⟩ := pv
      have hxl : xs.length = i := by rw [dps_len hall, List.length_map, hrl]
      refine hz_append1 (σ := [(some (.ref a)), (some (.ref h)), (some (.ref L)), (some (.int se)), (some (.int (i : Int))), none, none, none, none, none, none, none, none, none, none, none, none, none, none, none, none]) (L := L) (S := fun v H2 => ∃ p is, v = V.ref p ∧ H' p = none ∧ HandOk H2 h c ms ∧ Ex (rem H' h) (rem H2 h) ∧ Small is ∧ H2 p = some (.lst (is.map V.int))) rfl hLx (by omega) (fun Q q => ?_) (fun v H2 s hL2 => ?_)
      · refine eh_new (K := K) (σ := [(some (.ref a)), (some (.ref h)), (some (.ref L)), (some (.int se)), (some (.int (i : Int))), none, none, none, none, none, none, none, none, none, none, none, none, none, none, none, none]) (Pn := fun i => 1 ≤ i ∧ i ≤ 3) (P := fun d => ∃ i : Int, d = .int i ∧ 1 ≤ i ∧ i ≤ 4) (i_var (h := h) (c := c) (ns := ms) rfl pse) (fun n p => by omega) (fun _ => rfl)
          (fun i => eh_int (i_add (i_c (P := fun i => i = 1) rfl) (i_draw (P := fun i => 0 ≤ i ∧ i < 4) rfl (by decide) (by decide) (fun i p q => ⟨p, q⟩)) (P := fun i => 1 ≤ i ∧ i ≤ 4) (fun i j p q => by omega)) (fun i p => ⟨i, rfl, p⟩)) H' hh' Q fun p ys ds H2 hp hh2 e2 hpy hall2 hlen hds => ?_
        obtain ⟨is, rfl, his⟩ := ints_of hds
        have ey : ys = is.map V.int := by
          clear hlen hds hpy his q hall
          induction is generalizing ys with
          | nil => exact dps_nil hall2
          | cons i is ih =>
            obtain ⟨v, ws, rfl, h1, h2⟩ := dps_cons hall2
            cases h1
            rw [ih ws h2]
            rfl
        rw [List.length_map] at hlen
        have ex2 : Ex (rem H' h) (rem H2 h) := e2.trans rem_ex
        exact q _ H2 ⟨p, is, rfl, hp, hh2, ex2, ⟨by omega, his⟩, by rw [hpy, ey]⟩ (keep_at ex2 nLh hLx)
      · obtain ⟨p, is, rfl, hp, hh2, ex2, sml, hpi⟩ := s
        have npL : p ≠ L := fun e => by
          rw [e, hLx] at hp
          cases hp
        obtain ⟨nph, npc⟩ := hand_ne hh' hp
        refine kD _ _ ⟨n2, n1, hand_upd hh2 (Ne.symm nLh) (Ne.symm nLc), _, _, rfl, upd_same, rows ++ [is], by rw [List.length_append, hrl]; rfl, ?_, ?_⟩
        · intro r hr
          rcases List.mem_append.mp hr with hr | hr
          · exact hsm r hr
          · have : r = is := by simpa using hr
            rw [this]
            exact sml
        · rw [rem_upd2, List.map_append]
          refine dps_app (dps_grow (ex_rem ex2) _ _ hall) (.cons (.lst (xs := is.map V.int) (SqL.of ?_) ?_) .nil)
          · rw [rem_ne npL, rem_ne nph]
            exact hpi
          · clear hpi sml
            induction is with
            | nil => exact .nil
            | cons i is ih => exact .cons (.int i) ih
    obtain ⟨n2, n1, hh4, o4, xs, rfl, hLx, rows, hrl, hsm, hall⟩ := pv
    clear pse hh1 hh2 hh3 x3 hL3 hL
    have rl : 1 ≤ rows.length ∧ rows.length ≤ 2 := by omega
    have hxl : xs.length = rows.length := by rw [dps_len hall, List.length_map]
    have hrows : ∃ L2, rows.length = L2 ∧ L2 ≤ 2 := ⟨_, rfl, rl.2⟩
    refine ⟨_, rfl, _, rfl, L, xs, rfl, .inl (SqL.of hLx), h, c, ms, _, rfl, by omega, Nat.lt_of_le_of_lt (m := 2) (by omega) (by decide +kernel), hh4, fun r H5 r0 r1 hh5 he5 => ?_⟩
    have x5 : rem H5 h = rem H4 h := rem_same he5
    obtain ⟨mo, rfl⟩ := Int.eq_ofNat_of_zero_le r0
    have hmo : mo < rows.length := by omega
    generalize hns : rows[mo] = ns0
    have hat : rows[mo]? = some ns0 := by rw [List.getElem?_eq_getElem hmo, hns]
    have hsmall : Small ns0 := hsm _ (List.mem_of_getElem? hat)
    have hfew := small_few hsmall
    have hN64 := small_prod hsmall
    obtain ⟨N1, NB⟩ := few_all hfew
    have hL5 : H5 L = some (.lst xs) := (he5 L nLh).trans hLx
    have hC : Dp K (rem H5 h) (.ref L) (rowsD rows) := .lst (SqL.of (by rw [rem_ne nLh]; exact hL5)) (dps_grow rem_ex _ _ (by rw [x5]; exact hall))
    have s5 : StB h c ms (rem H5 h) H5 := ⟨hh5, Ex.refl _⟩
    generalize rem H5 h = B0 at hC s5
    refine bz_set (K := K) (D := _) (σ := [(some (.ref a)), (some (.ref h)), (some (.ref L)), (some (.int se)), (some (.int (mo : Int))), none, none, none, none, none, none, none, none, none, none, none, none, none, none, none, none]) s5 (d_call (ds_cons (d_ixL (d_var ⟨_, rfl, hC⟩) (d_var (d := .int (mo : Int)) ⟨_, rfl, .int _⟩) (L2.atI_nat (by rw [List.getElem?_map, hat]; rfl))) ds_nil) rfl ⟨ns0, rfl, hfew, rfl⟩) fun v6 H6 s6 hv => ?_
    cases hv
    generalize hNe : prodI ns0 = N at N1 NB hN64
    refine bz_int (D := _) (σ := [(some (.ref a)), (some (.ref h)), (some (.ref L)), (some (.int se)), (some (.int (mo : Int))), none, (some (.int N)), none, none, none, none, none, none, none, none, none, none, none, none, none, none]) (P := fun i => 0 ≤ i ∧ i < 4) s6 (i_draw rfl (by decide) (by decide) (fun i p q => ⟨p, q⟩)) fun ki H7 s7 pki => ?_
    have hm1 : EI h c ms (tOp (rIxL K) (tLst (tCons (tC (.int 1)) (tCons (tC (.int 40)) (tCons (tC (.int 40)) (tCons (tOp (rI CPow fun i j => .int (i ^ j.toNat)) (tC (.int 10)) (tC (.int 12))) tNil))))) (tVar 7)) [(some (.ref a)), (some (.ref h)), (some (.ref L)), (some (.int se)), (some (.int (mo : Int))), none, (some (.int N)), (some (.int ki)), none, none, none, none, none, none, none, none, none, none, none, none, none] (fun m => 0 < m ∧ m ≤ 10 ^ 12) := by
      have e : ki = 0 ∨ ki = 1 ∨ ki = 2 ∨ ki = 3 := by omega
      have lst : ∀ H, EvD K (tLst (tCons (tC (.int 1)) (tCons (tC (.int 40)) (tCons (tC (.int 40)) (tCons (tOp (rI CPow fun i j => .int (i ^ j.toNat)) (tC (.int 10)) (tC (.int 12))) tNil))))) [(some (.ref a)), (some (.ref h)), (some (.ref L)), (some (.int se)), (some (.int (mo : Int))), none, (some (.int N)), (some (.int ki)), none, none, none, none, none, none, none, none, none, none, none, none, none] H (.list [.int 1, .int 40, .int 40, .int (10 ^ 12)]) := fun H => d_lst (ds_cons d_int (ds_cons d_int (ds_cons d_int (ds_cons (d_pow d_int d_int ⟨by decide, by decide, by decide⟩) ds_nil)))) (by show 4 ≤ 1000; decide)
      rcases e with rfl | rfl | rfl | rfl
      · exact i_of (fun H => d_ixL (lst H) (d_var (d := .int 0) ⟨_, rfl, .int _⟩) rfl) (by decide)
      · exact i_of (fun H => d_ixL (lst H) (d_var (d := .int 1) ⟨_, rfl, .int _⟩) rfl) (by decide)
      · exact i_of (fun H => d_ixL (lst H) (d_var (d := .int 2) ⟨_, rfl, .int _⟩) rfl) (by decide)
      · exact i_of (fun H => d_ixL (lst H) (d_var (d := .int 3) ⟨_, rfl, .int _⟩) rfl) (by decide)
    have hm2 : EI h c ms (tOp (rIxL K) (tLst (tCons (tC (.int 1)) (tCons (tC (.int 12)) (tCons (tC (.int 12)) (tCons (tC (.int 1000)) tNil))))) (tVar 7)) [(some (.ref a)), (some (.ref h)), (some (.ref L)), (some (.int se)), (some (.int (mo : Int))), none, (some (.int N)), (some (.int ki)), none, none, none, none, none, none, none, none, none, none, none, none, none] (fun m => 0 < m ∧ m ≤ 1000) := by
      have e : ki = 0 ∨ ki = 1 ∨ ki = 2 ∨ ki = 3 := by omega
      have lst : ∀ H, EvD K (tLst (tCons (tC (.int 1)) (tCons (tC (.int 12)) (tCons (tC (.int 12)) (tCons (tC (.int 1000)) tNil))))) [(some (.ref a)), (some (.ref h)), (some (.ref L)), (some (.int se)), (some (.int (mo : Int))), none, (some (.int N)), (some (.int ki)), none, none, none, none, none, none, none, none, none, none, none, none, none] H (.list [.int 1, .int 12, .int 12, .int 1000]) := fun H => d_lst (ds_cons d_int (ds_cons d_int (ds_cons d_int (ds_cons d_int ds_nil)))) (by show 4 ≤ 1000; decide)
      rcases e with rfl | rfl | rfl | rfl
      · exact i_of (fun H => d_ixL (lst H) (d_var (d := .int 0) ⟨_, rfl, .int _⟩) rfl) (by decide)
      · exact i_of (fun H => d_ixL (lst H) (d_var (d := .int 1) ⟨_, rfl, .int _⟩) rfl) (by decide)
      · exact i_of (fun H => d_ixL (lst H) (d_var (d := .int 2) ⟨_, rfl, .int _⟩) rfl) (by decide)
      · exact i_of (fun H => d_ixL (lst H) (d_var (d := .int 3) ⟨_, rfl, .int _⟩) rfl) (by decide)
    refine bz_data (K := K) (D := _) (σ := [(some (.ref a)), (some (.ref h)), (some (.ref L)), (some (.int se)), (some (.int (mo : Int))), none, (some (.int N)), (some (.int ki)), none, none, none, none, none, none, none, none, none, none, none, none, none]) (P := fun d => ∃ z : Rat, d = ratR z ∧ Sz 40 z ∧ 0 ≤ z) s7 (eh_two (K := K) (P1 := fun t => 0 ≤ t ∧ t < 10 ^ 12) (P2 := fun b => 1 ≤ b ∧ b ≤ 1000) (g := fun t b => lowest t b) (i_drawE rfl hm1 (fun n p => ⟨p.1, by omega⟩) (fun n i p q r => ⟨q, by omega⟩)) (i_add (i_c (P := fun i => i = 1) rfl) (i_drawE (P := fun i => 0 ≤ i ∧ i < 1000) rfl hm2 (fun n p => ⟨p.1, by omega⟩) (fun n i p q r => ⟨q, by omega⟩)) (fun i j p q => by omega))
      (fun t b p q => ⟨⟨t, b, rfl, by omega, by omega, rfl⟩, rfl, (t : Rat) / (b : Rat), lowest_div (by omega), div_sz (by omega) (by omega) (by omega), by
        rw [← Rat.not_lt, Rat.div_lt_iff (Rat.intCast_pos.mpr (by omega)), Rat.zero_mul, Rat.not_lt]
        exact Rat.intCast_nonneg.mpr p.1⟩)) fun vh d H8 B1 s8 xB hh8 _ pz => ?_
    obtain ⟨z, rfl, sz, z0⟩ := pz
    replace hC := dp_grow xB _ _ hC
    have sz3 : Sz 300 z := sz.mono (by decide)
    have e9 : ((10 : Int) ^ (9 : Int).toNat) = 1000000000 := by decide
    refine bz_set (K := K) (D := _) (σ := [(some (.ref a)), (some (.ref h)), (some (.ref L)), (some (.int se)), (some (.int (mo : Int))), none, (some (.int N)), (some (.int ki)), (some (vh)), none, none, none, none, none, none, none, none, none, none, none, none]) s8 (d_is (d_call (ds_cons d_int (ds_cons (d_pow (i := 10) (j := 9) d_int d_int ⟨by decide, by decide, by decide⟩) ds_nil)) rfl ⟨1, 1000000000, by rw [e9], by decide, by decide +kernel, rfl⟩) (lowest_div (by decide))) fun vb H9 s9 hb => ?_
    have bs : Sz 31 (((1 : Int) : Rat) / ((1000000000 : Int) : Rat)) := div_sz (by decide) (by decide) (by decide)
    generalize ((1 : Int) : Rat) / ((1000000000 : Int) : Rat) = bq at hb bs
    have h8 : Dp K H9 vh (ratR z) := dp_grow s9.all _ _ hh8
    have zh : ∀ {x9 x10 x11 x12 x13 x14 x15 x16 x17 x18 x19 x20 : Option V} {H : Hp}, Ex H9 H → EvD K (tVar 8) [some (.ref a), some (.ref h), some (.ref L), some (.int se), some (.int (mo : Int)), none, some (.int N), some (.int ki), some vh, x9, x10, x11, x12, x13, x14, x15, x16, x17, x18, x19, x20] H (ratR z) := fun x => d_var ⟨_, rfl, dp_grow x _ _ h8⟩
    refine z_fresh (K := K) (D := _) (σ := [(some (.ref a)), (some (.ref h)), (some (.ref L)), (some (.int se)), (some (.int (mo : Int))), none, (some (.int N)), (some (.int ki)), (some (vh)), (some (vb)), none, none, none, none, none, none, none, none, none, none, none]) (ds := ([z, -z, 0, z + { num := 1, den := 3, den_nz := by decide, reduced := by decide }, -z + { num := -7, den := 2, den_nz := by decide, reduced := by decide }] : List Rat).map ratR) (f_lst (ds_cons (zh (Ex.refl _)) (ds_cons (d_is (d_tup (ds_cons (d_neg (d_ixT (zh (Ex.refl _)) d_int rfl)) (ds_cons (d_ixT (zh (Ex.refl _)) d_int rfl) ds_nil)) (by show 2 ≤ 1000; decide)) (ratR_neg z)) (ds_cons (d_tup (ds_cons d_int (ds_cons d_int ds_nil)) (by show 2 ≤ 1000; decide))
      (ds_cons (d_call (ds_cons (zh (Ex.refl _)) (ds_cons (d_tup (ds_cons d_int (ds_cons d_int ds_nil)) (by show 2 ≤ 1000; decide)) ds_nil)) rfl ⟨z, { num := 1, den := 3, den_nz := by decide, reduced := by decide }, rfl, sz.mono (by decide), ⟨by decide +kernel, by decide +kernel⟩, rfl⟩)
        (ds_cons (d_call (ds_cons (d_is (d_tup (ds_cons (d_neg (d_ixT (zh (Ex.refl _)) d_int rfl)) (ds_cons (d_ixT (zh (Ex.refl _)) d_int rfl) ds_nil)) (by show 2 ≤ 1000; decide)) (ratR_neg z)) (ds_cons (d_tup (ds_cons (d_neg d_int) (ds_cons d_int ds_nil)) (by show 2 ≤ 1000; decide)) ds_nil)) rfl ⟨-z, { num := -7, den := 2, den_nz := by decide, reduced := by decide }, rfl, (sz_neg sz).mono (by decide), ⟨by decide +kernel, by decide +kernel⟩, rfl⟩) ds_nil))))) (by show 5 ≤ 1000; decide)) fun p xs0 H10 np e10 hp10 ha10 => ?_
    have l0 : ∀ y ∈ ([z, -z, 0, z + { num := 1, den := 3, den_nz := by decide, reduced := by decide }, -z + { num := -7, den := 2, den_nz := by decide, reduced := by decide }] : List Rat), Sz 300 y := by
      intro y hy
      simp only [List.mem_cons, List.not_mem_nil, or_false] at hy
      rcases hy with rfl | rfl | rfl | rfl | rfl
      · exact sz3
      · exact sz_neg sz3
      · exact sz_zero.mono (by decide)
      · exact (sz_add sz (m := 2) ⟨by decide, by decide⟩).mono (by decide)
      · exact (sz_add (sz_neg sz) (m := 3) ⟨by decide, by decide⟩).mono (by decide)
    have len0 : ([z, -z, 0, z + { num := 1, den := 3, den_nz := by decide, reduced := by decide }, -z + { num := -7, den := 2, den_nz := by decide, reduced := by decide }] : List Rat).length = 5 := rfl
    generalize ([z, -z, 0, z + { num := 1, den := 3, den_nz := by decide, reduced := by decide }, -z + { num := -7, den := 2, den_nz := by decide, reduced := by decide }] : List Rat) = zs0 at ha10 l0 len0
    have np1 : B1 p = none := none_back s9.all np
    have s10 := s9.grow e10
    refine z_forR (K := K) (D := _) (a := 1) (b := N) (σ := [some (.ref a), some (.ref h), some (.ref L), some (.int se), some (.int (mo : Int)), none, some (.int N), some (.int ki), some vh, some vb, some (.ref p), none, none, none, none, none, none, none, none, none, none]) (ds_cons d_int (ds_cons (d_var ⟨_, rfl, .int _⟩) ds_nil)) (by omega) (by omega)
      (fun i σ' H' => ∃ (p : Addr) (xs : List V) (zs : List Rat) (o11 o12 : Option V), σ' = [(some (.ref a)), (some (.ref h)), (some (.ref L)), (some (.int se)), (some (.int (mo : Int))), none, (some (.int N)), (some (.int ki)), (some (vh)), (some (vb)), (some (.ref p)), o11, o12, none, none, none, none, none, none, none, none] ∧ (B1 p = none ∧ p ≠ h ∧ p ≠ c) ∧ H' p = some (.lst xs) ∧ DpAll K H' xs (zs.map ratR) ∧ (∀ y ∈ zs, Sz 300 y) ∧ zs.length = 5 + 3 * i)
      (fun H' e => ⟨p, xs0, zs0, none, none, rfl, ⟨np1, hand_ne s9.hh np⟩, e _ _ hp10, dps_grow e _ _ ha10, l0, len0⟩) (fun i σ' H' D' hi e pv _ kD => ?_) (fun σ' H11 e11 pv => ?_)
    · obtain ⟨p, xs, zs, o11, o12, rfl, np, hp, ha, lz, len⟩ := pv
      have tsz : Sz 112 (thr N z (1 + (i : Int))) := sz_mul sz (div_sz (a := 72) (by omega) (by omega) (by omega))
      refine z_set (K := K) (σ := [(some (.ref a)), (some (.ref h)), (some (.ref L)), (some (.int se)), (some (.int (mo : Int))), none, (some (.int N)), (some (.int ki)), (some (vh)), (some (vb)), (some (.ref p)), (some (.int (1 + (i : Int)))), o12, none, none, none, none, none, none, none, none]) (d_call (ds_cons (d_var (d := .int N) ⟨_, rfl, .int _⟩) (ds_cons (zh (e10.trans e)) (ds_cons (d_var (d := .int (1 + (i : Int))) ⟨_, rfl, .int _⟩) ds_nil))) rfl ⟨N, z, 1 + i, rfl, by omega, NB, by omega, sz3, rfl⟩) fun ve H2 e2 he => ?_
      generalize thr N z (1 + (i : Int)) = tq at he tsz
      have vE : ∀ {H : Hp}, Ex H2 H → EvD K (tVar 12) [(some (.ref a)), (some (.ref h)), (some (.ref L)), (some (.int se)), (some (.int (mo : Int))), none, (some (.int N)), (some (.int ki)), (some (vh)), (some (vb)), (some (.ref p)), (some (.int (1 + (i : Int)))), (some (ve)), none, none, none, none, none, none, none, none] H (ratR tq) := fun x => d_var ⟨_, rfl, dp_grow x _ _ he⟩
      have vbit : ∀ {H : Hp}, Ex H2 H → EvD K (tVar 9) [(some (.ref a)), (some (.ref h)), (some (.ref L)), (some (.int se)), (some (.int (mo : Int))), none, (some (.int N)), (some (.int ki)), (some (vh)), (some (vb)), (some (.ref p)), (some (.int (1 + (i : Int)))), (some (ve)), none, none, none, none, none, none, none, none] H (ratR bq) := fun x => d_var ⟨_, rfl, dp_grow (e10.trans (e.trans (e2.trans x))) _ _ hb⟩
      refine z_fresh1 (K := K) (σ := [(some (.ref a)), (some (.ref h)), (some (.ref L)), (some (.int se)), (some (.int (mo : Int))), none, (some (.int N)), (some (.int ki)), (some (vh)), (some (vb)), (some (.ref p)), (some (.int (1 + (i : Int)))), (some (ve)), none, none, none, none, none, none, none, none]) (f_cat (ds := zs.map ratR) (es := [ratR tq, ratR (tq + bq), ratR (tq + -bq)]) ?h1 ?h2 ?l1 (by show 3 ≤ 1000; decide)) fun p2 xs2 H3 np2 e3 hp2 ha2 => ?h3
      case h1 => exact w_var rfl (e2 _ _ hp) (dps_grow e2 _ _ ha)
      case h2 =>
        refine w_lst (ds_cons (vE (Ex.refl _)) (ds_cons ?h4 (ds_cons ?h5 ds_nil))) (by show 3 ≤ 1000; decide)
        case h4 => exact d_call (ds_cons (vE (Ex.refl _)) (ds_cons (vbit (Ex.refl _)) ds_nil)) rfl ⟨tq, bq, rfl, tsz.mono (by decide), bs.mono (by decide), rfl⟩
        case h5 => exact d_call (ds_cons (vE (Ex.refl _)) (ds_cons (d_is (d_tup (ds_cons (d_neg (d_ixT (vbit (Ex.refl _)) d_int rfl)) (ds_cons (d_ixT (vbit (Ex.refl _)) d_int rfl) ds_nil)) (by show 2 ≤ 1000; decide)) (ratR_neg bq)) ds_nil)) rfl ⟨tq, -bq, rfl, tsz.mono (by decide), (sz_neg bs).mono (by decide), rfl⟩
      case l1 => rw [List.length_map]; omega
      refine kD _ _ (e2.trans e3) ⟨p2, xs2, zs ++ [tq, tq + bq, tq + -bq], some (.int (1 + (i : Int))), some _, rfl, ?_, hp2, ?_, ?_, ?_⟩
      · exact ⟨none_back (s10.all.trans (e.trans e2)) np2, hand_ne (hand_grow (e.trans e2) s10.hh) np2⟩
      · rw [List.map_append]
        exact ha2
      · intro y hy
        rcases List.mem_append.mp hy with hy | hy
        · exact lz y hy
        · simp only [List.mem_cons, List.not_mem_nil, or_false] at hy
          rcases hy with rfl | rfl | rfl
          · exact tsz.mono (by decide)
          · exact (sz_add tsz bs).mono (by decide)
          · exact (sz_add tsz (sz_neg bs)).mono (by decide)
      · rw [List.length_append, len]
        show 5 + 3 * i + 3 = _
        omega
    obtain ⟨p, xs, zs, o11, o12, rfl, ⟨np, ph, pc⟩, hp, ha, lz, len⟩ := pv
    have s11 := s10.grow e11
    have len2 : zs.length ≤ 200 := by omega
    clear len zh h8 hb bs
    have hp11 : (rem H11 h) p = some (.lst xs) := by rw [rem_ne ph]; exact hp
    obtain ⟨ys, hys⟩ := hand_lst s11.hh
    have ha11 : DpAll K (rem (rem H11 h) p) xs (zs.map ratR) := dps_rem hp11 noTup_l _ _ (flats_rats zs) (dps_rem hys noTup_l _ _ (flats_rats zs) ha)
    have x11 : Ex B1 (rem (rem H11 h) p) := ex_fresh s11.ex np
    generalize hlen3 : zs.length = len3 at len2
    refine hz_for (D := _) (n := 4) (σ := [some (.ref a), some (.ref h), some (.ref L), some (.int se), some (.int (mo : Int)), none, some (.int N), some (.int ki), some vh, some vb, some (.ref p), o11, o12, none, none, none, none, none, none, none, none]) (by decide)
      (fun i σ' H' => HandOk H' h c ms ∧ ∃ (o13 : Option V) (xs : List V) (zs : List Rat), σ' = [(some (.ref a)), (some (.ref h)), (some (.ref L)), (some (.int se)), (some (.int (mo : Int))), none, (some (.int N)), (some (.int ki)), (some (vh)), (some (vb)), (some (.ref p)), o11, o12, o13, none, none, none, none, none, none, none] ∧ H' p = some (.lst xs) ∧ Ex B1 (rem (rem H' h) p) ∧ DpAll K (rem (rem H' h) p) xs (zs.map ratR) ∧ (∀ y ∈ zs, Sz 300 y) ∧ zs.length = len3 + i)
      ⟨s11.hh, none, xs, zs, rfl, hp, x11, ha11, lz, by omega⟩ (fun i σ' H' D' hi pv kD => ?_) (fun σ' H12 pv => ?_)
    · obtain ⟨hh', o13, xs, zs, rfl, hp, x1, ha, lz, len⟩ := pv
      have xl : xs.length = zs.length := by rw [dps_len ha, List.length_map]
      refine hz_append1 (K := K) (σ := [(some (.ref a)), (some (.ref h)), (some (.ref L)), (some (.int se)), (some (.int (mo : Int))), none, (some (.int N)), (some (.int ki)), (some (vh)), (some (vb)), (some (.ref p)), o11, o12, (some (.int (i : Int))), none, none, none, none, none, none, none]) (L := p) (S := fun v H2 => HandOk H2 h c ms ∧ Ex (rem H' h) (rem H2 h) ∧ ∃ y : Rat, Dp K (rem H2 h) v (ratR y) ∧ Sz 300 y) rfl hp (by omega) (fun Q q => ?_) (fun v H2 s hL2 => ?_)
      · refine ⟨_, rfl, ?_⟩
        refine eh_two (K := K) (h := h) (c := c) (ns := ms) (σ := [(some (.ref a)), (some (.ref h)), (some (.ref L)), (some (.int se)), (some (.int (mo : Int))), none, (some (.int N)), (some (.int ki)), (some (vh)), (some (vb)), (some (.ref p)), o11, o12, (some (.int (i : Int))), none, none, none, none, none, none, none]) (P1 := fun t => -1000 ≤ t ∧ t ≤ 1000) (P2 := fun b => b = 1000) (P := fun d => ∃ y : Rat, d = ratR y ∧ Sz 11 y) (g := fun t b => lowest t b) (i_sub (i_draw (P := fun i => 0 ≤ i ∧ i < 2001) rfl (by decide) (by decide) (fun i p q => ⟨p, q⟩)) (i_c (P := fun i => i = 1000) rfl) (fun i j p q => by omega)) (i_c rfl)
          (fun t b p q => ⟨⟨t, b, rfl, by omega, by omega, rfl⟩, rfl, (t : Rat) / (b : Rat), lowest_div (by omega), div_sz (by omega) (by omega) (by omega)⟩) H' hh' _ fun v2 d2 H2 hh2 x2 hv2 _ pd => ?_
        obtain ⟨y, rfl, sy⟩ := pd
        have hz2 : Dp K H2 vh (ratR z) := dp_grow (x1.trans (rem_ex.trans (x2.trans rem_ex))) _ _ hh8
        refine ⟨[ratR z, ratR y], ratR (z * y), rfl, .cons hz2 (.cons (dp_grow rem_ex _ _ hv2) .nil), ⟨z, y, rfl, sz.mono (by decide), sy.mono (by decide), rfl⟩, fun v H3 x3 hv => ?_⟩
        have hh3 := hand_grow x3 hh2
        have x23 : Ex (rem H' h) (rem H3 h) := x2.trans (ex_rem x3)
        exact q v H3 ⟨hh3, x23, z * y, hand_dp hh3 rfl hv, (sz_mul sz sy).mono (by decide)⟩ (keep_at x23 ph hp)
      · obtain ⟨hh2, x2, y, hv, sy⟩ := s
        refine kD _ _ ⟨hand_upd hh2 (Ne.symm ph) (Ne.symm pc), _, xs ++ [v], zs ++ [y], rfl, upd_same, ?_, ?_, ?_, ?_⟩
        · rw [rem_upd2]
          exact x1.trans (ex_rem x2)
        · rw [rem_upd2, List.map_append]
          exact dps_app (dps_grow (ex_rem x2) _ _ ha) (.cons (dp_rem (by rw [rem_ne ph]; exact hL2) noTup_l _ _ rfl hv) .nil)
        · intro u hu
          rcases List.mem_append.mp hu with hu | hu
          · exact lz u hu
          · have : u = y := by simpa using hu
            rw [this]
            exact sy
        · rw [List.length_append, len]
          rfl
    obtain ⟨hh12, o13, xs, zs, rfl, hp, x12, ha, lz, len⟩ := pv
    have hC : Dp K H12 (.ref L) (rowsD rows) := dp_grow (x12.trans (rem_ex.trans rem_ex)) _ _ hC
    have hZ : Dp K H12 vh (ratR z) := dp_grow (x12.trans (rem_ex.trans rem_ex)) _ _ hh8
    have hP : Dp K H12 (.ref p) (.list (zs.map ratR)) := .lst (SqL.of hp) (dps_grow (rem_ex.trans rem_ex) _ _ ha)
    have ca : CountsAt (rowsD rows) mo ns0 := rows_at hsm hat
    have cb : CountsAt (tupD rows) mo ns0 := tups_at hsm hat
    clear hh8 x12 ha hp s11 x11 ha11 hp11 hys s10 s9 s8 s7 s6 s5
    obtain ⟨nd, sh, dp, szz⟩ := rows_show hsm (by omega)
    refine z_set (K := K) (D := _) (σ := [(some (.ref a)), (some (.ref h)), (some (.ref L)), (some (.int se)), (some (.int (mo : Int))), none, (some (.int N)), (some (.int ki)), (some (vh)), (some (vb)), (some (.ref p)), o11, o12, o13, none, none, none, none, none, none, none]) (d_repr (d_var ⟨_, rfl, hC⟩) rfl nd sh dp szz) fun vbe H13 e13 hbe => ?_
    replace hC := dp_grow e13 _ _ hC
    replace hZ := dp_grow e13 _ _ hZ
    replace hP := dp_grow e13 _ _ hP
    have gr : ∀ q : Rat, goodN 2 (ratR q) = true := fun _ => rfl
    have hN : (prodI ns0 : Int) = N := hNe
    refine z_forL (K := K) (D := _) (σ := [some (.ref a), some (.ref h), some (.ref L), some (.int se), some (.int (mo : Int)), none, some (.int N), some (.int ki), some vh, some vb, some (.ref p), o11, o12, o13, some vbe, none, none, none, none, none, none]) (d_var ⟨_, rfl, hP⟩)
      (fun i σ' H' => ∃ o15 o16 o17 o18 : Option V, σ' = [(some (.ref a)), (some (.ref h)), (some (.ref L)), (some (.int se)), (some (.int (mo : Int))), none, (some (.int N)), (some (.int ki)), (some (vh)), (some (vb)), (some (.ref p)), o11, o12, o13, (some (vbe)), o15, o16, o17, o18, none, none]) (fun _ _ => ⟨none, none, none, none, rfl⟩) (fun i d vx σ' H' D' hd e pv hx kD => ?_) (fun σ' H14 e14 pv => ?_)
    · obtain ⟨o15, o16, o17, o18, rfl⟩ := pv
      rw [List.getElem?_map] at hd
      obtain ⟨x, hxm, rfl⟩ := Option.map_eq_some_iff.mp hd
      have sx := lz x (List.mem_of_getElem? hxm)
      have sx2 : Sz 400 x := sx.mono (by decide)
      obtain ⟨c0, c1⟩ := cell_lt (h := z) (x := x) (show 0 < N by omega)
      have near : -z ≤ x → x ≤ z → x - z * midQ N (cellR N z x) ≤ z * (1 / (N : Rat)) ∧ z * midQ N (cellR N z x) - x ≤ z * (1 / (N : Rat)) := fun l r => cell_near (h := z) (x := x) (show 0 < N by omega) z0 l r
      refine z_set (K := K) (σ := [(some (.ref a)), (some (.ref h)), (some (.ref L)), (some (.int se)), (some (.int (mo : Int))), none, (some (.int N)), (some (.int ki)), (some (vh)), (some (vb)), (some (.ref p)), o11, o12, o13, (some (vbe)), (some (vx)), o16, o17, o18, none, none]) (d_call (ds_cons (d_var ⟨_, rfl, dp_grow e _ _ hC⟩) (ds_cons (d_var (d := .int (mo : Int)) ⟨_, rfl, .int _⟩) (ds_cons (d_var ⟨_, rfl, dp_grow e _ _ hZ⟩) (ds_cons (d_var ⟨_, rfl, hx⟩) ds_nil)))) rfl ⟨_, mo, ns0, z, x, rfl, ca, sz3, sx, z0, rfl⟩) fun vc H2 e2 hvc => ?_
      cases hvc
      rw [hN]
      generalize hce : cellR N z x = ce at c0 c1 near
      replace hx := dp_grow e2 _ _ hx
      have hC2 := dp_grow (e.trans e2) _ _ hC
      have hZ2 := dp_grow (e.trans e2) _ _ hZ
      refine z_if (b := false) (σ := [(some (.ref a)), (some (.ref h)), (some (.ref L)), (some (.int se)), (some (.int (mo : Int))), none, (some (.int N)), (some (.int ki)), (some (vh)), (some (vb)), (some (.ref p)), o11, o12, o13, (some (vbe)), (some (vx)), (some (.int ce)), o17, o18, none, none]) (b_nor (b_is (b_not (b_val (d_isi (K := K) (d_var (d := .int ce) ⟨_, rfl, .int _⟩) rfl))) rfl) (b_nor (b_val (d_isi (K := K) (d_var (d := .int ce) ⟨_, rfl, .int _⟩) rfl)) (b_is (b_test (K := K) (d_neI (d_var (d := .int ce) ⟨_, rfl, .int _⟩) (d_call (ds_cons (d_var (d := .int N) ⟨_, rfl, .int _⟩) (ds_cons (d_var ⟨_, rfl, hZ2⟩) (ds_cons (d_var ⟨_, rfl, hx⟩) ds_nil))) rfl ⟨N, z, x, rfl, by omega, by omega, sz3, sx, z0, rfl⟩))) (by rw [hce]; simp)))) (fun q => by cases q) (fun _ H3 e3 => ?_)
      refine z_nx ?_
      replace hx := dp_grow e3 _ _ hx
      replace hC2 := dp_grow e3 _ _ hC2
      replace hZ2 := dp_grow e3 _ _ hZ2
      refine z_set (K := K) (σ := [(some (.ref a)), (some (.ref h)), (some (.ref L)), (some (.int se)), (some (.int (mo : Int))), none, (some (.int N)), (some (.int ki)), (some (vh)), (some (vb)), (some (.ref p)), o11, o12, o13, (some (vbe)), (some (vx)), (some (.int ce)), o17, o18, none, none]) (d_call (ds_cons (d_var ⟨_, rfl, hC2⟩) (ds_cons (d_var (d := .int (mo : Int)) ⟨_, rfl, .int _⟩) (ds_cons (d_var ⟨_, rfl, hZ2⟩) (ds_cons (d_var (d := .int ce) ⟨_, rfl, .int _⟩) ds_nil)))) rfl ⟨_, mo, ns0, z, ce, rfl, ca, sz3, by omega, rfl⟩) fun vm H4 e4 hvm => ?_
      rw [hN] at hvm
      have ms2 : Sz 72 (midQ N ce) := mid_sz (by omega) NB (by omega)
      have sm2 : Sz 112 (z * midQ N ce) := sz_mul sz ms2
      replace hx := dp_grow e4 _ _ hx
      replace hC2 := dp_grow e4 _ _ hC2
      replace hZ2 := dp_grow e4 _ _ hZ2
      refine z_if (b := false) (σ := [(some (.ref a)), (some (.ref h)), (some (.ref L)), (some (.int se)), (some (.int (mo : Int))), none, (some (.int N)), (some (.int ki)), (some (vh)), (some (vb)), (some (.ref p)), o11, o12, o13, (some (vbe)), (some (vx)), (some (.int ce)), (some (vm)), o18, none, none]) (b_same (gr (z * midQ N ce)) (d_var ⟨_, rfl, hvm⟩) (d_call (ds_cons (d_var ⟨_, rfl, hZ2⟩) (ds_cons (d_is (d_call (ds_cons (d_sub (d_add (d_mul d_int (d_var (d := .int ce) ⟨_, rfl, .int _⟩) (wide_mul (a := 2) (b := 70) (by decide) (by omega) (by decide) (by decide) (by decide))) d_int) (d_var (d := .int N) ⟨_, rfl, .int _⟩)) (ds_cons (d_var (d := .int N) ⟨_, rfl, .int _⟩) ds_nil)) rfl ⟨2 * ce + 1 - N, N, rfl, by omega, by omega, rfl⟩) (lowest_div (by omega))) ds_nil)) rfl ⟨z, midQ N ce, rfl, sz.mono (by decide), ms2.mono (by decide), rfl⟩)) (fun q => by cases q) (fun _ H5 e5 => ?_)
      refine z_nx ?_
      replace hx := dp_grow e5 _ _ hx
      replace hvm := dp_grow e5 _ _ hvm
      replace hZ2 := dp_grow e5 _ _ hZ2
      have vme : ∀ {o18 : Option V}, EvD K (tVar 17) [some (.ref a), some (.ref h), some (.ref L), some (.int se), some (.int (mo : Int)), none, some (.int N), some (.int ki), some vh, some vb, some (.ref p), o11, o12, o13, some vbe, some vx, some (.int ce), some vm, o18, none, none] H5 (ratR (z * midQ N ce)) := d_var ⟨_, rfl, hvm⟩
      refine z_set (K := K) (σ := [(some (.ref a)), (some (.ref h)), (some (.ref L)), (some (.int se)), (some (.int (mo : Int))), none, (some (.int N)), (some (.int ki)), (some (vh)), (some (vb)), (some (.ref p)), o11, o12, o13, (some (vbe)), (some (vx)), (some (.int ce)), (some (vm)), o18, none, none]) (d_is (d_call (ds_cons (d_call (ds_cons (d_var ⟨_, rfl, hx⟩) (ds_cons (d_is (d_tup (ds_cons (d_neg (d_ixT vme d_int rfl)) (ds_cons (d_ixT vme d_int rfl) ds_nil)) (by show 2 ≤ 1000; decide)) (ratR_neg _)) ds_nil)) rfl ⟨x, -(z * midQ N ce), rfl, sx.mono (by decide), (sz_neg sm2).mono (by decide), rfl⟩) ds_nil) rfl ⟨_, _, rfl, rfl⟩) (size_abs _)) fun va H6 e6 hva => ?_
      replace hx := dp_grow e6 _ _ hx
      replace hZ2 := dp_grow e6 _ _ hZ2
      have abx : EvD K (tCall (spD K 1 fSize) [] E0 (tCons (tVar 15) tNil)) [(some (.ref a)), (some (.ref h)), (some (.ref L)), (some (.int se)), (some (.int (mo : Int))), none, (some (.int N)), (some (.int ki)), (some (vh)), (some (vb)), (some (.ref p)), o11, o12, o13, (some (vbe)), (some (vx)), (some (.int ce)), (some (vm)), (some (va)), none, none] H6 (ratR (absR x)) := d_is (d_call (ds_cons (d_var ⟨_, rfl, hx⟩) ds_nil) rfl ⟨_, _, rfl, rfl⟩) (size_abs _)
      have vz : EvD K (tVar 8) [(some (.ref a)), (some (.ref h)), (some (.ref L)), (some (.int se)), (some (.int (mo : Int))), none, (some (.int N)), (some (.int ki)), (some (vh)), (some (vb)), (some (.ref p)), o11, o12, o13, (some (vbe)), (some (vx)), (some (.int ce)), (some (vm)), (some (va)), none, none] H6 (ratR z) := d_var ⟨_, rfl, hZ2⟩
      refine z_if1 (b := false) (σ := [(some (.ref a)), (some (.ref h)), (some (.ref L)), (some (.int se)), (some (.int (mo : Int))), none, (some (.int N)), (some (.int ki)), (some (vh)), (some (vb)), (some (.ref p)), o11, o12, o13, (some (vbe)), (some (vx)), (some (.int ce)), (some (vm)), (some (va)), none, none]) (b_is (b_and (b_not (b_val (d_call (ds_cons vz (ds_cons abx ds_nil)) rfl ⟨z, absR x, rfl, sz.mono (by decide), (abs_sz sx).mono (by decide), rfl⟩))) (fun _ => b_val (d_call (ds_cons (d_call (ds_cons vz (ds_cons (d_is (d_tup (ds_cons d_int (ds_cons (d_var (d := .int N) ⟨_, rfl, .int _⟩) ds_nil)) (by show 2 ≤ 1000; decide)) (one_over (by omega))) ds_nil)) rfl ⟨z, 1 / (N : Rat), rfl, sz.mono (by decide), (div_sz (t := 1) (a := 70) (by omega) (by decide) NB).mono (by decide), rfl⟩) (ds_cons (d_var ⟨_, rfl, hva⟩) ds_nil)) rfl ⟨z * (1 / (N : Rat)), absR (x + -(z * midQ N ce)), rfl, (sz_mul sz (div_sz (t := 1) (a := 70) (by omega) (by decide) NB)).mono (by decide), (abs_sz (sz_add sx (sz_neg sm2))).mono (by decide), rfl⟩))) ?_) (fun q => by cases q) (fun _ H7 e7 => ?_)
      · cases q : decide (z < absR x) with
        | true => rfl
        | false =>
          obtain ⟨l, r⟩ := abs_le (of_decide_eq_false q)
          obtain ⟨n1, n2⟩ := near l r
          show (true && decide (z * (1 / (N : Rat)) < absR (x + -(z * midQ N ce)))) = false
          rw [decide_eq_false (abs_far n1 n2)]
          rfl
      · exact z_next (kD _ _ (e2.trans (e3.trans (e4.trans (e5.trans (e6.trans e7))))) ⟨_, _, _, _, rfl⟩)
    obtain ⟨o15, o16, o17, o18, rfl⟩ := pv
    replace hC := dp_grow e14 _ _ hC
    replace hZ := dp_grow e14 _ _ hZ
    replace hbe := dp_grow e14 _ _ hbe
    refine z_set (K := K) (D := _) (d := tupD rows) (σ := [(some (.ref a)), (some (.ref h)), (some (.ref L)), (some (.int se)), (some (.int (mo : Int))), none, (some (.int N)), (some (.int ki)), (some (vh)), (some (vb)), (some (.ref p)), o11, o12, o13, (some (vbe)), o15, o16, o17, o18, none, none]) (d_tupOf (d_is (d_lcL (K := K) (fun _ => true) (fun d => .tuple (items d)) (d_var ⟨_, rfl, hC⟩) (by rw [List.length_map]; omega) (fun _ => rfl) (fun d v H1 x1 hd hv => b_yes) (fun d v H1 x1 hd _ hv => ?_) (fun d hd => ?_)) ?_)) fun vt H15 e15 hvt => ?_
    · obtain ⟨r, _, rfl⟩ := List.mem_map.mp hd
      exact d_tupOf (d_var ⟨_, rfl, hv⟩)
    · obtain ⟨r, _, rfl⟩ := List.mem_map.mp hd
      exact flats_ints r
    · show _ = PyData.list (rows.map fun r => .tuple (r.map PyData.int))
      rw [List.filter_eq_self.mpr (fun _ _ => rfl), List.map_map]
      rfl
    replace hC := dp_grow e15 _ _ hC
    replace hZ := dp_grow e15 _ _ hZ
    replace hbe := dp_grow e15 _ _ hbe
    refine z_forN (K := K) (D := _) (n := N) (σ := [some (.ref a), some (.ref h), some (.ref L), some (.int se), some (.int (mo : Int)), none, some (.int N), some (.int ki), some vh, some vb, some (.ref p), o11, o12, o13, some vbe, o15, o16, o17, o18, some vt, none]) (ds_cons (d_var ⟨_, rfl, .int _⟩) ds_nil) (by omega) (by omega) (fun i σ' H' => ∃ oc : Option V, σ' = [(some (.ref a)), (some (.ref h)), (some (.ref L)), (some (.int se)), (some (.int (mo : Int))), none, (some (.int N)), (some (.int ki)), (some (vh)), (some (vb)), (some (.ref p)), oc, o12, o13, (some (vbe)), o15, o16, o17, o18, (some (vt)), none]) (fun _ _ => ⟨_, rfl⟩) (fun i σ' H' D' hi e pv kD => ?_) (fun σ' H16 e16 pv => ?_)
    · obtain ⟨oc, rfl⟩ := pv
      have vz : EvD K (tVar 8) [(some (.ref a)), (some (.ref h)), (some (.ref L)), (some (.int se)), (some (.int (mo : Int))), none, (some (.int N)), (some (.int ki)), (some (vh)), (some (vb)), (some (.ref p)), (some (.int (i : Int))), o12, o13, (some (vbe)), o15, o16, o17, o18, (some (vt)), none] H' (ratR z) := d_var ⟨_, rfl, dp_grow e _ _ hZ⟩
      have tsz : Sz 112 (thr N z (i : Int)) := sz_mul sz (div_sz (a := 72) (by omega) (by omega) (by omega))
      refine z_if1 (b := false) (σ := [(some (.ref a)), (some (.ref h)), (some (.ref L)), (some (.int se)), (some (.int (mo : Int))), none, (some (.int N)), (some (.int ki)), (some (vh)), (some (vb)), (some (.ref p)), (some (.int (i : Int))), o12, o13, (some (vbe)), o15, o16, o17, o18, (some (vt)), none]) (b_is (b_and (b_test (K := K) (d_gt (d_ixT vz d_int rfl) d_int)) (fun _ => b_test (K := K) (d_neI (d_call (ds_cons (d_var ⟨_, rfl, dp_grow e _ _ hvt⟩) (ds_cons (d_var (d := .int (mo : Int)) ⟨_, rfl, .int _⟩) (ds_cons vz (ds_cons (d_call (ds_cons (d_var (d := .int N) ⟨_, rfl, .int _⟩) (ds_cons vz (ds_cons (d_var (d := .int (i : Int)) ⟨_, rfl, .int _⟩) ds_nil))) rfl ⟨N, z, i, rfl, by omega, NB, by omega, sz3, rfl⟩) ds_nil)))) rfl ⟨_, mo, ns0, z, thr N z (i : Int), rfl, cb, sz3, tsz.mono (by decide), z0, rfl⟩) (d_var (d := .int (i : Int)) ⟨_, rfl, .int _⟩)))) ?_) (fun q => by cases q) (fun _ H7 e7 => ?_)
      · cases q : decide (0 < z.num) with
        | false => rfl
        | true =>
          have zp : 0 < z := by
            have := Rat.lt_iff 0 z
            simp at this
            exact this.mpr (of_decide_eq_true q)
          rw [hN, cell_thr (by omega) zp (by omega) hi]
          simp
      · exact z_next (kD _ _ e7 ⟨_, rfl⟩)
    obtain ⟨oc, rfl⟩ := pv
    refine z_ret (K := K) (D := _) (σ := [(some (.ref a)), (some (.ref h)), (some (.ref L)), (some (.int se)), (some (.int (mo : Int))), none, (some (.int N)), (some (.int ki)), (some (vh)), (some (vb)), (some (.ref p)), oc, o12, o13, (some (vbe)), o15, o16, o17, o18, (some (vt)), none]) (d_is (d_eqS (d_repr (d_var ⟨_, rfl, dp_grow e16 _ _ hC⟩) rfl nd sh dp szz) (d_var ⟨_, rfl, dp_grow e16 _ _ hbe⟩)) (by rw [decide_eq_true rfl])) fun u H17 e17 hu => ?_
    cases hu
    exact k H17

end
end K33
namespace HH
open PySem L2 K33
open He (ga ma frG frG_in frG_at FnD DefD SaysE obsE valE eqO eqO_ok ba refV)
def fnNames : List Str := (["is_whole", "make_ratio", "_lowest", "plus", "_joined", "times", "over", "floor_of", "count_cells", "multiplied", "find_cell", "cell_middle", "middle_part", "_law_mix", "_law_hand", "_law_draw", "_law_ratio", "_law_plus", "_law_times", "_law_less"] : List PySem.Str) ++ (["_law_size", "_law_greater", "_law_cells", "_law_threshold", "_law_same", "_law_due", "law"] : List PySem.Str)
def freeNames : List Str := (["int", "abs", "len", "range", "isinstance", "any", "all", "bool", "str", "tuple", "list", "enumerate", "max", "min", "repr", "sorted", "zip", "sum", "set", "reversed"] : List PySem.Str)
def fnOk (K : PySem.W.Frag) (x : Str) : Bool := eqO (PySem.W.nsIn K mainGlobals x) (some (some (.ref (ga K x)))) && PySem.W.keepIn K (.ref (ga K x))
abbrev veL : List Value := [.type "ValueError", .type "Exception", .type "BaseException", .type "object"]
/-- what is asked of an exception class right under HeldError, in one look -/
def coreB (K : PySem.W.Frag) (C H : Addr) : Bool := match K.lookup C with
  | some ⟨.type "type", _, .cls cd, sl⟩ => (match sl.toList with
    | [_, _, _, _, some (.builtin n), _] => n == "ValueError.__new__"
    | _ => false) && (cd.mro == .ref C :: .ref H :: veL) && cd.hasDict && !cd.hasDel
  | _ => false
theorem core_ok {K : PySem.W.Frag} {C H : Addr} (h : coreB K C H = true) : ∃ nm q N bs sn sub ab col dd k0 k1 k2 k3 k5, K.lookup C = some (excClassObj nm q C N bs (.ref H :: veL) true sn sub ab col dd k0 k1 k2 k3 k5 "ValueError.__new__") := by
  unfold coreB at h
  split at h
  · rename_i dd cd sl hK
    simp only [Bool.and_eq_true, beq_iff_eq, Bool.not_eq_true'] at h
    obtain ⟨⟨⟨hs, hm⟩, hd⟩, hdel⟩ := h
    split at hs
    · rename_i k0 k1 k2 k3 n k5 hsl
      rw [beq_iff_eq] at hs
      subst hs
      obtain ⟨nm, bs, mro, ns, qn, hdc, sn, sub, ab, col, del⟩ := cd
      dsimp only at hm hd hdel
      subst hm hd hdel
      have e : sl = #[k0, k1, k2, k3, some (.builtin "ValueError.__new__"), k5] := by
        obtain ⟨l⟩ := sl
        exact congrArg Array.mk hsl
      subst e
      exact ⟨nm, qn, ns, bs, sn, sub, ab, col, dd, k0, k1, k2, k3, k5, hK⟩
    · cases hs
  · cases h
def oexB (K : PySem.W.Frag) (C H : Addr) : Bool := coreB K C H && (decide (PySem.W.findIn K (.ref C) "__setattr__" = some (some (.builtin "object.__setattr__"))) && (decide (PySem.W.subIn K (.ref C) (.type "BaseException") = some true) && (decide (PySem.W.typeIn K (.ref C) = some (.type "type")) && PySem.W.keepIn K (.ref C))))
theorem oex_ok {K : PySem.W.Frag} {C H : Addr} (h : oexB K C H = true) : OexC K C := by
  obtain ⟨h1, h⟩ := ba h
  obtain ⟨h2, h⟩ := ba h
  obtain ⟨h3, h⟩ := ba h
  obtain ⟨h4, h5⟩ := ba h
  obtain ⟨nm, q, N, bs, sn, sub, ab, col, dd, k0, k1, k2, k3, k5, hK⟩ := core_ok h1
  exact ⟨⟨nm, q, N, bs, .ref H :: veL, sn, sub, ab, col, dd, k0, k1, k2, k3, k5, hK, by rfl⟩, of_decide_eq_true h2, of_decide_eq_true h3, of_decide_eq_true h4, h5⟩
def initOk (K : PySem.W.Frag) (x : Str) : Bool :=
  eqO (PySem.W.findIn K (.ref (ga K x)) "__init__") (some (some (.ref (ma K (ga K x) "__init__")))) && (decide (PySem.W.typeIn K (.ref (ma K (ga K x) "__init__")) = some (.type "function")) && PySem.W.keepIn K (.ref (ma K (ga K x) "__init__")))
def clB (K : PySem.W.Frag) (x : Str) (fs : List Str) : Bool :=
  eqO (PySem.W.nsIn K mainGlobals x) (some (some (.ref (ga K x)))) && (oexB K (ga K x) (ga K "HeldError") && (xfB K (ga K x) && (fs.all (fun n => decide (PySem.W.findIn K (.ref (ga K x)) n = some none)) && (decide (PySem.W.exmOne K (.ref (ga K x)) (.ref (ga K x)) = some true) && initOk K x))))
def exB (K : PySem.W.Frag) : Bool := fnNames.all (fun x => fnOk K x) && (freeNames.all (fun x => eqO (PySem.W.nsIn K mainGlobals x) (some none)) && ((true) && (eqO (PySem.W.nsIn K mainGlobals "gcd") (some (some (.builtin "math.gcd"))) && (clB K "BadRatio" ["what"]))))
def fds : List FnD := [⟨("_lowest", none), "_lowest", "_lowest", defArgs (topS 7), defBody (topS 7), defScope (topS 7)⟩,
  ⟨("plus", none), "plus", "plus", defArgs (topS 8), defBody (topS 8), defScope (topS 8)⟩,
  ⟨("_joined", none), "_joined", "_joined", defArgs (topS 9), defBody (topS 9), defScope (topS 9)⟩,
  ⟨("times", none), "times", "times", defArgs (topS 10), defBody (topS 10), defScope (topS 10)⟩,
  ⟨("over", none), "over", "over", defArgs (topS 11), defBody (topS 11), defScope (topS 11)⟩,
  ⟨("floor_of", none), "floor_of", "floor_of", defArgs (topS 12), defBody (topS 12), defScope (topS 12)⟩,
  ⟨("count_cells", none), "count_cells", "count_cells", defArgs (topS 14), defBody (topS 14), defScope (topS 14)⟩,
  ⟨("multiplied", none), "multiplied", "multiplied", defArgs (topS 15), defBody (topS 15), defScope (topS 15)⟩,
  ⟨("find_cell", none), "find_cell", "find_cell", defArgs (topS 17), defBody (topS 17), defScope (topS 17)⟩,
  ⟨("cell_middle", none), "cell_middle", "cell_middle", defArgs (topS 18), defBody (topS 18), defScope (topS 18)⟩,
  ⟨("middle_part", none), "middle_part", "middle_part", defArgs (topS 19), defBody (topS 19), defScope (topS 19)⟩,
  ⟨("_law_mix", none), "_law_mix", "_law_mix", defArgs (topS 21), defBody (topS 21), defScope (topS 21)⟩,
  ⟨("_law_hand", none), "_law_hand", "_law_hand", defArgs (topS 22), defBody (topS 22), defScope (topS 22)⟩,
  ⟨("_law_draw", none), "_law_draw", "_law_draw", defArgs (topS 23), defBody (topS 23), defScope (topS 23)⟩,
  ⟨("_law_ratio", none), "_law_ratio", "_law_ratio", defArgs (topS 24), defBody (topS 24), defScope (topS 24)⟩,
  ⟨("_law_plus", none), "_law_plus", "_law_plus", defArgs (topS 25), defBody (topS 25), defScope (topS 25)⟩,
  ⟨("_law_times", none), "_law_times", "_law_times", defArgs (topS 26), defBody (topS 26), defScope (topS 26)⟩,
  ⟨("_law_less", none), "_law_less", "_law_less", defArgs (topS 27), defBody (topS 27), defScope (topS 27)⟩,
  ⟨("_law_size", none), "_law_size", "_law_size", defArgs (topS 28), defBody (topS 28), defScope (topS 28)⟩,
  ⟨("_law_greater", none), "_law_greater", "_law_greater", defArgs (topS 29), defBody (topS 29), defScope (topS 29)⟩,
  ⟨("_law_cells", none), "_law_cells", "_law_cells", defArgs (topS 30), defBody (topS 30), defScope (topS 30)⟩,
  ⟨("_law_threshold", none), "_law_threshold", "_law_threshold", defArgs (topS 31), defBody (topS 31), defScope (topS 31)⟩,
  ⟨("_law_same", none), "_law_same", "_law_same", defArgs (topS 32), defBody (topS 32), defScope (topS 32)⟩,
  ⟨("_law_due", none), "_law_due", "_law_due", defArgs (topS 33), defBody (topS 33), defScope (topS 33)⟩,
  ⟨("law", none), "law", "law", defArgs (topS 34), defBody (topS 34), defScope (topS 34)⟩,
  ⟨("BadRatio", some "__init__"), "__init__", "BadRatio.__init__", defArgs (inClass (topS 3) 0), defBody (inClass (topS 3) 0), defScope (inClass (topS 3) 0)⟩]
def dds : List DefD := [⟨("is_whole", none), "is_whole", "is_whole", defArgs (topS 5), defBody (topS 5), defScope (topS 5), [.non, .non], []⟩,
  ⟨("make_ratio", none), "make_ratio", "make_ratio", defArgs (topS 6), defBody (topS 6), defScope (topS 6), [.int 1], []⟩]
def refsN (o : Obj) : List Addr := match o.data with
  | .dict es _ => es.toList.flatMap fun e => refV e.val
  | .func fd => refV fd.code ++ refV fd.defaults
  | .cls cd => [cd.ns]
  | _ => []
def stepN (g : Addr → Option Obj) (as : List Addr) : List Addr := as.flatMap fun a => match g a with
  | some o => refsN o
  | none => []
/-- the module's names, their codes and defaults -/
def asN (g : Addr → Option Obj) : List Addr := mainGlobals :: (stepN g [mainGlobals] ++ (stepN g (stepN g [mainGlobals]) ++ (stepN g (stepN g (stepN g [mainGlobals])) ++ stepN g (stepN g (stepN g (stepN g [mainGlobals]))))))
def kOf (g : Addr → Option Obj) : PySem.W.Frag := frG g (asN g)
abbrev AlC : Type := Bool × He.Al × He.AlD
def obC (K : PySem.W.Frag) : AlC := (exB K, obsE [] fds K, He.obsD [] dds K)
def valC : AlC := (true, valE fds, He.valD dds)
structure Says (K : PySem.W.Frag) : Prop where
  b : exB K = true
  f : SaysE [] fds K
  d : He.SaysD [] dds K
def hk : PySem.W.Hook where
  α := AlC
  obs := fun s => obC (kOf s.heap.get?)
  val := fun _ => valC
  says := fun _ h => ∃ K : PySem.W.Frag, K.In h ∧ Says K
  of := fun _ _ e => ⟨_, frG_in, ⟨congrArg (fun z : AlC => z.1) e, congrArg (fun z : AlC => z.2.1) e, congrArg (fun z : AlC => z.2.2) e⟩⟩
  keeps := fun _ _ _ ⟨K, hK, c⟩ k => ⟨K, PySem.W.Frag.In.keeps hK k, c⟩
def ob (s : PySem.W.SharedT) : AlC := obC (kOf (HandSHeadRun.getT s))
theorem ob_eq (s : PySem.W.SharedT) : ob s = hk.obs s.abs := by
  have e : HandSHeadRun.getT s = s.abs.heap.get? := funext (HandSHeadRun.getT_eq s)
  unfold ob
  rw [e]
  rfl
section
variable {K : PySem.W.Frag}
theorem Says.fn (c : Says K) (i : Nat) {x : Str} (h : fnNames[i]? = some x := by rfl) : PySem.W.nsIn K mainGlobals x = some (some (.ref (ga K x))) ∧ PySem.W.keepIn K (.ref (ga K x)) = true := by
  obtain ⟨h1, h2⟩ := ba (List.all_eq_true.mp (ba c.b).1 x (List.mem_of_getElem? h))
  exact ⟨eqO_ok h1, h2⟩
theorem Says.free (c : Says K) (i : Nat) {x : Str} (h : freeNames[i]? = some x := by rfl) : PySem.W.nsIn K mainGlobals x = some none := eqO_ok (List.all_eq_true.mp (ba (ba c.b).2).1 x (List.mem_of_getElem? h))
end
end HH
namespace HR
open PySem PySem.W PySem.Calls PyProof.Rows
abbrev R : OpenRow := OpenLaw.row PySem.Challenge.rw_farheld_k33_whole_cells_and_middles
def names0 : List PySem.Str := (["HeldError", "BadRatio", "is_whole", "make_ratio", "_lowest", "plus", "_joined", "times", "over", "floor_of", "count_cells", "multiplied", "find_cell", "cell_middle", "middle_part", "_law_mix", "_law_hand", "_law_draw", "_law_ratio", "_law_plus"] : List PySem.Str) ++ (["_law_times", "_law_less", "_law_size", "_law_greater", "_law_cells", "_law_threshold", "_law_same", "_law_due"] : List PySem.Str)
def names : List PySem.Str := names0
theorem run (w : World) : HandSHeadRun.RunEqI R (view R.prog [0, 34]) HH.hk HH.ob 20000 names w := by
  unfold HandSHeadRun.RunEqI
  kernel_rfl
end HR
namespace HH
open PySem L2 K33 Dat
open He (ga ma frG frG_in frG_at FnD DefD SaysE obsE valE eqO eqO_ok ba refV)
theorem fun_of {K : PySem.W.Frag} {x : Str} {st : Stmt} (h : ∃ oc od osl kV doc pm an cdv ct, K.lookup (ga K x) = some ⟨oc, od, .func (PySem.W.fnOf x x (defArgs st) (defBody st) (defScope st) .none kV doc pm an cdv ct), osl⟩ ∧ PySem.W.codeIn K cdv x = true) (kp : PySem.W.keepIn K (.ref (ga K x)) = true) :
    ∃ fd, Fun K x x st (ga K x) fd := by
  obtain ⟨_, _, _, _, _, _, _, _, _, lk, cd⟩ := h
  exact ⟨_, fun_mk lk cd kp⟩
theorem def_of {P : Program} {w : World} {K : PySem.W.Frag} {mg : Str → Option Value} {base : Heap} {CX : CXT} {k : Nat} {x : Str} {st : Stmt} {ps : List Str} {sp : Sp} {f : Addr} {fd : FuncData} (F : Fun K x x st f fd) (ok : FnOk P w K mg base CX k f fd ps sp) (hm : mg x = some (.ref f))
    (h : ∀ (kV doc pm : Value) (an : Option Addr) (cdv ct : Value) (us : List Value), us.length = ps.length → bindArgs (PySem.W.fnOf x x (defArgs st) (defBody st) (defScope st) .none kV doc pm an cdv ct) ⟨us, []⟩ = pure (ps.zip us)) : Def P w K mg base CX k x ps sp :=
  ⟨f, fd, ok, hm, F.kp, F.binds h⟩
theorem facts {l : PySem.W.OpenLaw} {w : World} {K : PySem.W.Frag} {h : Heap} {mg : Str → Option Value} {fa : Addr} (X : K.In h) (G : h.Ns mainGlobals mg) (hfa : mg "law" = some (.ref fa)) (c : Says K) :
    ∃ fd : FuncData, (∀ (s : Shared) (v : Value), BindsTo s fd ⟨[v], []⟩ [("script", v)]) ∧ ∀ base : Heap, K.In base → base.Ns mainGlobals mg → FnG l.prog w K mg base CX0 6 fa fd ["script"] (spLaw K) := by
  have fr := fun (i : Nat) {x : Str} (h : freeNames[i]? = some x) => PySem.W.mg_none_of X G (c.free i h)
  have mf := fun (i : Nat) {x : Str} (h : fnNames[i]? = some x) => PySem.W.mg_of X G (c.fn i h).1
  have cb := (ba (ba c.b).2).2
  obtain ⟨cz, cg⟩ := ba cb
  obtain ⟨cg, ccl⟩ := ba cg
  have gG : mg "gcd" = some (.builtin "math.gcd") := PySem.W.mg_of X G (eqO_ok cg)

  have T : Bl mg := ⟨fr 0 rfl, fr 1 rfl, fr 2 rfl, fr 3 rfl, fr 4 rfl, fr 5 rfl, fr 6 rfl, fr 7 rfl, fr 8 rfl, fr 9 rfl, fr 10 rfl, fr 11 rfl, gG⟩
  have T2 : Bl2 mg := ⟨fr 12 rfl, fr 13 rfl, fr 14 rfl, fr 15 rfl, fr 16 rfl, fr 17 rfl, fr 18 rfl, fr 19 rfl⟩
  have cc0 := ccl
  obtain ⟨cB0, cq0⟩ := ba cc0
  obtain ⟨cO0, cq0⟩ := ba cq0
  obtain ⟨cX0, cq0⟩ := ba cq0
  obtain ⟨cN0, cq0⟩ := ba cq0
  obtain ⟨cT0, cq0⟩ := ba cq0
  obtain ⟨cI0, cq0⟩ := ba cq0
  obtain ⟨cY0, cP0⟩ := ba cq0
  have gB0 : mg "BadRatio" = some (.ref (ga K "BadRatio")) := PySem.W.mg_of X G (eqO_ok cB0)
  obtain ⟨_, _, _, _, _, _, _, _, _, lkI0, cdI0⟩ := c.f.def_ 25 rfl
  have FI0 := fun_mk (x := "__init__") (qual := "BadRatio.__init__") (st := s_i_BadRatio) lkI0 cdI0 cP0
  have F__lowest : ∃ fd, Fun K "_lowest" "_lowest" (topS 7) (ga K "_lowest") fd := fun_of (st := topS 7) (c.f.def_ 0 rfl) (c.fn 2 rfl).2
  have F_plus : ∃ fd, Fun K "plus" "plus" (topS 8) (ga K "plus") fd := fun_of (st := topS 8) (c.f.def_ 1 rfl) (c.fn 3 rfl).2
  have F__joined : ∃ fd, Fun K "_joined" "_joined" (topS 9) (ga K "_joined") fd := fun_of (st := topS 9) (c.f.def_ 2 rfl) (c.fn 4 rfl).2
  have F_times : ∃ fd, Fun K "times" "times" (topS 10) (ga K "times") fd := fun_of (st := topS 10) (c.f.def_ 3 rfl) (c.fn 5 rfl).2
  have F_over : ∃ fd, Fun K "over" "over" (topS 11) (ga K "over") fd := fun_of (st := topS 11) (c.f.def_ 4 rfl) (c.fn 6 rfl).2
  have F_floor_of : ∃ fd, Fun K "floor_of" "floor_of" (topS 12) (ga K "floor_of") fd := fun_of (st := topS 12) (c.f.def_ 5 rfl) (c.fn 7 rfl).2
  have F_count_cells : ∃ fd, Fun K "count_cells" "count_cells" (topS 14) (ga K "count_cells") fd := fun_of (st := topS 14) (c.f.def_ 6 rfl) (c.fn 8 rfl).2
  have F_multiplied : ∃ fd, Fun K "multiplied" "multiplied" (topS 15) (ga K "multiplied") fd := fun_of (st := topS 15) (c.f.def_ 7 rfl) (c.fn 9 rfl).2
  have F_find_cell : ∃ fd, Fun K "find_cell" "find_cell" (topS 17) (ga K "find_cell") fd := fun_of (st := topS 17) (c.f.def_ 8 rfl) (c.fn 10 rfl).2
  have F_cell_middle : ∃ fd, Fun K "cell_middle" "cell_middle" (topS 18) (ga K "cell_middle") fd := fun_of (st := topS 18) (c.f.def_ 9 rfl) (c.fn 11 rfl).2
  have F_middle_part : ∃ fd, Fun K "middle_part" "middle_part" (topS 19) (ga K "middle_part") fd := fun_of (st := topS 19) (c.f.def_ 10 rfl) (c.fn 12 rfl).2
  have F__law_mix : ∃ fd, Fun K "_law_mix" "_law_mix" (topS 21) (ga K "_law_mix") fd := fun_of (st := topS 21) (c.f.def_ 11 rfl) (c.fn 13 rfl).2
  have F__law_hand : ∃ fd, Fun K "_law_hand" "_law_hand" (topS 22) (ga K "_law_hand") fd := fun_of (st := topS 22) (c.f.def_ 12 rfl) (c.fn 14 rfl).2
  have F__law_draw : ∃ fd, Fun K "_law_draw" "_law_draw" (topS 23) (ga K "_law_draw") fd := fun_of (st := topS 23) (c.f.def_ 13 rfl) (c.fn 15 rfl).2
  have F__law_ratio : ∃ fd, Fun K "_law_ratio" "_law_ratio" (topS 24) (ga K "_law_ratio") fd := fun_of (st := topS 24) (c.f.def_ 14 rfl) (c.fn 16 rfl).2
  have F__law_plus : ∃ fd, Fun K "_law_plus" "_law_plus" (topS 25) (ga K "_law_plus") fd := fun_of (st := topS 25) (c.f.def_ 15 rfl) (c.fn 17 rfl).2
  have F__law_times : ∃ fd, Fun K "_law_times" "_law_times" (topS 26) (ga K "_law_times") fd := fun_of (st := topS 26) (c.f.def_ 16 rfl) (c.fn 18 rfl).2
  have F__law_less : ∃ fd, Fun K "_law_less" "_law_less" (topS 27) (ga K "_law_less") fd := fun_of (st := topS 27) (c.f.def_ 17 rfl) (c.fn 19 rfl).2
  have F__law_size : ∃ fd, Fun K "_law_size" "_law_size" (topS 28) (ga K "_law_size") fd := fun_of (st := topS 28) (c.f.def_ 18 rfl) (c.fn 20 rfl).2
  have F__law_greater : ∃ fd, Fun K "_law_greater" "_law_greater" (topS 29) (ga K "_law_greater") fd := fun_of (st := topS 29) (c.f.def_ 19 rfl) (c.fn 21 rfl).2
  have F__law_cells : ∃ fd, Fun K "_law_cells" "_law_cells" (topS 30) (ga K "_law_cells") fd := fun_of (st := topS 30) (c.f.def_ 20 rfl) (c.fn 22 rfl).2
  have F__law_threshold : ∃ fd, Fun K "_law_threshold" "_law_threshold" (topS 31) (ga K "_law_threshold") fd := fun_of (st := topS 31) (c.f.def_ 21 rfl) (c.fn 23 rfl).2
  have F__law_same : ∃ fd, Fun K "_law_same" "_law_same" (topS 32) (ga K "_law_same") fd := fun_of (st := topS 32) (c.f.def_ 22 rfl) (c.fn 24 rfl).2
  have F__law_due : ∃ fd, Fun K "_law_due" "_law_due" (topS 33) (ga K "_law_due") fd := fun_of (st := topS 33) (c.f.def_ 23 rfl) (c.fn 25 rfl).2
  have F_law : ∃ fd, Fun K "law" "law" (topS 34) (ga K "law") fd := fun_of (st := topS 34) (c.f.def_ 24 rfl) (c.fn 26 rfl).2
  have F_is_whole : ∃ fd, FunD K "is_whole" "is_whole" (defArgs (topS 5)) (defBody (topS 5)) (defScope (topS 5)) [.non, .non] [] (ga K "is_whole") fd := c.d.def_ 0 rfl
  have F_make_ratio : ∃ fd, FunD K "make_ratio" "make_ratio" (defArgs (topS 6)) (defBody (topS 6)) (defScope (topS 6)) [.int 1] [] (ga K "make_ratio") fd := c.d.def_ 1 rfl
  obtain ⟨fd, F⟩ := F_law
  have e := hfa.symm.trans (mf 26 rfl)
  cases e
  refine ⟨fd, ?_, fun base _ _ => ?_⟩
  · obtain ⟨oc, od, kV, doc, pm, an, cdv, ct, osl, rfl, lk, hcd⟩ := F.ex
    exact fun s v => BindsTo.of_eq rfl
  · obtain ⟨fd__lowest, F__lowest⟩ := F__lowest
    obtain ⟨fd_plus, F_plus⟩ := F_plus
    obtain ⟨fd__joined, F__joined⟩ := F__joined
    obtain ⟨fd_times, F_times⟩ := F_times
    obtain ⟨fd_over, F_over⟩ := F_over
    obtain ⟨fd_floor_of, F_floor_of⟩ := F_floor_of
    obtain ⟨fd_count_cells, F_count_cells⟩ := F_count_cells
    obtain ⟨fd_multiplied, F_multiplied⟩ := F_multiplied
    obtain ⟨fd_find_cell, F_find_cell⟩ := F_find_cell
    obtain ⟨fd_cell_middle, F_cell_middle⟩ := F_cell_middle
    obtain ⟨fd_middle_part, F_middle_part⟩ := F_middle_part
    obtain ⟨fd__law_mix, F__law_mix⟩ := F__law_mix
    obtain ⟨fd__law_hand, F__law_hand⟩ := F__law_hand
    obtain ⟨fd__law_draw, F__law_draw⟩ := F__law_draw
    obtain ⟨fd__law_ratio, F__law_ratio⟩ := F__law_ratio
    obtain ⟨fd__law_plus, F__law_plus⟩ := F__law_plus
    obtain ⟨fd__law_times, F__law_times⟩ := F__law_times
    obtain ⟨fd__law_less, F__law_less⟩ := F__law_less
    obtain ⟨fd__law_size, F__law_size⟩ := F__law_size
    obtain ⟨fd__law_greater, F__law_greater⟩ := F__law_greater
    obtain ⟨fd__law_cells, F__law_cells⟩ := F__law_cells
    obtain ⟨fd__law_threshold, F__law_threshold⟩ := F__law_threshold
    obtain ⟨fd__law_same, F__law_same⟩ := F__law_same
    obtain ⟨fd__law_due, F__law_due⟩ := F__law_due
    obtain ⟨fd_is_whole, F_is_whole⟩ := F_is_whole
    obtain ⟨fd_make_ratio, F_make_ratio⟩ := F_make_ratio
    have W1 := dw1 (P := l.prog) (w := w) (base := base) F_is_whole T (mf 0 rfl)
    have TC : Cl1 l.prog w K mg base "BadRatio" (ga K "BadRatio") "what" := ⟨oex_ok cO0, xfB_ok cX0, gB0, of_decide_eq_true (List.all_eq_true.mp cN0 "what" (by simp)), of_decide_eq_true cT0, _, _, eqO_ok cI0, of_decide_eq_true cY0, ok_i_BadRatio FI0 (oex_ok cO0) (of_decide_eq_true (List.all_eq_true.mp cN0 "what" (by simp))), FI0.binds fun _ _ _ _ _ _ us hl => match us, hl with | [_, _], _ => rfl⟩
    have D__lowest := def_of (P := l.prog) (w := w) (base := base) (ps := ["top", "bottom"]) F__lowest (ok_lowest (P := l.prog) (w := w) (base := base) F__lowest T) (mf 2 rfl) fun _ _ _ _ _ _ us hl => match us, hl with | [_, _], _ => rfl
    have D__joined := def_of (P := l.prog) (w := w) (base := base) (ps := ["one", "top", "bottom"]) F__joined (ok_joined (P := l.prog) (w := w) (base := base) F__joined T) (mf 4 rfl) fun _ _ _ _ _ _ us hl => match us, hl with | [_, _, _], _ => rfl
    have D_plus := def_of (P := l.prog) (w := w) (base := base) (ps := ["one", "other"]) F_plus (ok_plus (P := l.prog) (w := w) (base := base) F_plus T D__joined) (mf 3 rfl) fun _ _ _ _ _ _ us hl => match us, hl with | [_, _], _ => rfl
    have D_times := def_of (P := l.prog) (w := w) (base := base) (ps := ["one", "other"]) F_times (ok_times (P := l.prog) (w := w) (base := base) F_times T) (mf 5 rfl) fun _ _ _ _ _ _ us hl => match us, hl with | [_, _], _ => rfl
    have D_floor_of := def_of (P := l.prog) (w := w) (base := base) (ps := ["one"]) F_floor_of (ok_floor_of (P := l.prog) (w := w) (base := base) F_floor_of T) (mf 7 rfl) fun _ _ _ _ _ _ us hl => match us, hl with | [_], _ => rfl
    have OKM := ok_make_ratio (P := l.prog) (w := w) (base := base) F_make_ratio T TC W1 D__lowest
    have D_make2 : DefV l.prog w K mg base (L2.CX l.prog w) 3 "make_ratio" ["top", "bottom"] [] (spMakeR K (ga K "BadRatio")) := defV (dvs := [.int 1]) F_make_ratio OKM (mf 1 rfl) 2 1 (by decide) rfl fun _ _ _ _ _ _ _ us its hl hi => match us, its, hl, hi with | [_, _], [_], _, _ => ⟨_, rfl, rfl⟩
    have D_over := def_of (P := l.prog) (w := w) (base := base) (CX := L2.CX l.prog w) (ps := ["one", "other"]) F_over (ok_over (P := l.prog) (w := w) (base := base) F_over T TC D__lowest) (mf 6 rfl) fun _ _ _ _ _ _ us hl => match us, hl with | [_, _], _ => rfl
    have D_overV : DefV l.prog w K mg base (L2.CX l.prog w) 3 "over" ["one", "other"] [] (spOver K (ga K "BadRatio")) := by
      obtain ⟨f, fd, F1, hm, hk, hb⟩ := D_over.ex
      exact ⟨f, fd, [], F1, hm, hk, hb, .nil⟩
    have D_multiplied := def_of (P := l.prog) (w := w) (base := base) (ps := ["numbers"]) F_multiplied (ok_multiplied (P := l.prog) (w := w) (base := base) F_multiplied ) (mf 9 rfl) fun _ _ _ _ _ _ us hl => match us, hl with | [_], _ => rfl
    have D_count_cells := def_of (P := l.prog) (w := w) (base := base) (ps := ["counts", "mode"]) F_count_cells (ok_count_cells (P := l.prog) (w := w) (base := base) F_count_cells D_multiplied) (mf 8 rfl) fun _ _ _ _ _ _ us hl => match us, hl with | [_, _], _ => rfl
    have D_find_cell := def_of (P := l.prog) (w := w) (base := base) (ps := ["counts", "mode", "half", "position"]) F_find_cell (ok_find_cell (P := l.prog) (w := w) (base := base) F_find_cell T2 D_count_cells D_overV D_plus D_times D_floor_of) (mf 10 rfl) fun _ _ _ _ _ _ us hl => match us, hl with | [_, _, _, _], _ => rfl
    have D_middle_part := def_of (P := l.prog) (w := w) (base := base) (ps := ["counts", "mode", "cell"]) F_middle_part (ok_middle_part (P := l.prog) (w := w) (base := base) F_middle_part D_count_cells D_make2) (mf 12 rfl) fun _ _ _ _ _ _ us hl => match us, hl with | [_, _, _], _ => rfl
    have D_cell_middle := def_of (P := l.prog) (w := w) (base := base) (ps := ["counts", "mode", "half", "cell"]) F_cell_middle (ok_cell_middle (P := l.prog) (w := w) (base := base) F_cell_middle D_times D_middle_part) (mf 11 rfl) fun _ _ _ _ _ _ us hl => match us, hl with | [_, _, _, _], _ => rfl
    have D__law_mix := def_of (P := l.prog) (w := w) (base := base) (ps := ["number", "turn"]) F__law_mix (ok_mix (P := l.prog) (w := w) (base := base) F__law_mix T) (mf 13 rfl) fun _ _ _ _ _ _ us hl => match us, hl with | [_, _], _ => rfl
    have D__law_hand := def_of (P := l.prog) (w := w) (base := base) (ps := ["script"]) F__law_hand (ok_hand (P := l.prog) (w := w) (base := base) F__law_hand T) (mf 14 rfl) fun _ _ _ _ _ _ us hl => match us, hl with | [_], _ => rfl
    have D__law_draw := def_of (P := l.prog) (w := w) (base := base) (ps := ["hand", "many"]) F__law_draw (ok_draw (P := l.prog) (w := w) (base := base) F__law_draw T D__law_mix) (mf 15 rfl) fun _ _ _ _ _ _ us hl => match us, hl with | [_, _], _ => rfl
    have D__law_ratio := def_of (P := l.prog) (w := w) (base := base) (ps := ["top", "bottom"]) F__law_ratio (ok_Lratio (P := l.prog) (w := w) (base := base) F__law_ratio T) (mf 16 rfl) fun _ _ _ _ _ _ us hl => match us, hl with | [_, _], _ => rfl
    have D__law_plus := def_of (P := l.prog) (w := w) (base := base) (ps := ["a", "b"]) F__law_plus (ok_L_plus (P := l.prog) (w := w) (base := base) F__law_plus T D__law_ratio) (mf 17 rfl) fun _ _ _ _ _ _ us hl => match us, hl with | [_, _], _ => rfl
    have D__law_times := def_of (P := l.prog) (w := w) (base := base) (ps := ["a", "b"]) F__law_times (ok_L_times (P := l.prog) (w := w) (base := base) F__law_times T D__law_ratio) (mf 18 rfl) fun _ _ _ _ _ _ us hl => match us, hl with | [_, _], _ => rfl
    have D__law_less := def_of (P := l.prog) (w := w) (base := base) (ps := ["a", "b"]) F__law_less (ok_L_less (P := l.prog) (w := w) (base := base) F__law_less T) (mf 19 rfl) fun _ _ _ _ _ _ us hl => match us, hl with | [_, _], _ => rfl
    have D__law_size := def_of (P := l.prog) (w := w) (base := base) (ps := ["a"]) F__law_size (ok_L_size (P := l.prog) (w := w) (base := base) F__law_size T) (mf 20 rfl) fun _ _ _ _ _ _ us hl => match us, hl with | [_], _ => rfl
    have D__law_cells := def_of (P := l.prog) (w := w) (base := base) (ps := ["row"]) F__law_cells (ok_L_cells (P := l.prog) (w := w) (base := base) F__law_cells ) (mf 22 rfl) fun _ _ _ _ _ _ us hl => match us, hl with | [_], _ => rfl
    have D__law_threshold := def_of (P := l.prog) (w := w) (base := base) (ps := ["cells", "half", "c"]) F__law_threshold (ok_L_threshold (P := l.prog) (w := w) (base := base) F__law_threshold D__law_times D__law_ratio) (mf 23 rfl) fun _ _ _ _ _ _ us hl => match us, hl with | [_, _, _], _ => rfl
    have D__law_due := def_of (P := l.prog) (w := w) (base := base) (ps := ["cells", "half", "position"]) F__law_due (ok_L_due (P := l.prog) (w := w) (base := base) F__law_due T D__law_less D__law_threshold) (mf 25 rfl) fun _ _ _ _ _ _ us hl => match us, hl with | [_, _, _], _ => rfl
    have D__law_same := def_L_same (P := l.prog) (w := w) (base := base) F__law_same T (mf 24 rfl) F__law_same.kp (F__law_same.binds (ps := ["told", "due"]) fun _ _ _ _ _ _ us hl => match us, hl with | [_, _], _ => rfl) 2
    exact ok_law F T T2 D__law_hand D__law_draw D__law_ratio D__law_plus D__law_times D__law_less D__law_size D__law_cells D__law_threshold D__law_same D__law_due D_find_cell D_cell_middle
end HH
open PySem PySem.W PySem.Calls PyProof.Rows
theorem PySem.Challenge.cw_farheld_k33_whole_cells_and_middles_holds : PySem.Challenge.rw_farheld_k33_whole_cells_and_middles.Holds := by
  w_on; o_law
  refine HandSHeadRun.head_imp (r := OpenLaw.row PySem.Challenge.rw_farheld_k33_whole_cells_and_middles) (q := view (OpenLaw.row PySem.Challenge.rw_farheld_k33_whole_cells_and_middles).prog [0, 34]) (H := HH.hk) (ob := HH.ob) (M := 20000) (loose := HR.names) (d := HandSHeadRun.topDef (OpenLaw.row PySem.Challenge.rw_farheld_k33_whole_cells_and_middles).prog 34) (kwd := []) HH.ob_eq
    HR.run (by kernel_rfl) (by kernel_rfl) (by kernel_rfl) (by rfl) (by first | assumption | decide +kernel) (by decide +kernel) ⟨rfl, rfl, rfl, rfl, rfl, by decide +kernel⟩ ?hw ?hc
  case hw => w_witness2
  case hc =>
    refine Dat.walk_G (l := PySem.Challenge.rw_farheld_k33_whole_cells_and_middles) (n := 63) (k := 6) (x := "script") (CX := L2.CX0) rfl (by decide) (by kernel_rfl) ⟨rfl, by decide, by decide⟩ ?F (fun _ _ _ _ z => z)
    intro w mg fa h Y G hmg0
    obtain ⟨K, KX, c⟩ := Y
    have hmg : mg ("law" : PySem.Str) = some (.ref fa) := by
      have e : (HandSHeadRun.topDef (OpenLaw.row PySem.Challenge.rw_farheld_k33_whole_cells_and_middles).prog 34).name = ("law" : PySem.Str) := by kernel_rfl
      rw [← e]
      exact hmg0
    obtain ⟨fd, hb, hF⟩ := HH.facts (l := PySem.Challenge.rw_farheld_k33_whole_cells_and_middles) (w := w) KX G hmg c
    exact ⟨K, fd, K33.spLaw K, KX, hb, fun H a ns hl _ hS => ⟨a, ns, rfl, hS, hl, fun _ => rfl⟩, hF⟩
